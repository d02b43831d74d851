import PyProof.Rows.All
import Wide.All
import OpenK.AllK
import Wide.FinOn
import Lean
import PyProof.EqAt
import PyProof.EqKinds
import PyProof.TupleCall
import PyProof.P3In
import PyProof.NeData
import PyProof.TupleKey
import PyProof.DictRoadsH
import KE.KItemsList
import PyProof.DictWalks
import KE.KDictList
import PyProof.Rows.Range3
import KE.KListMore
import KE.KRevIter
import KE.KPairComp
import PyProof.TupleOfSeq
import PyProof.Rows.SortStr
import PySem.Challenge.RW_leafjudge_k36_whole_no_tree_costs_less
set_option Elab.async false
set_option linter.all false
set_option maxRecDepth 100000
noncomputable section
def L2.tabA : Option PySem.Addr := none
open PySem renaming wpAny_bind → aA, wpAny_pure → aF, sizeLine → bD, Program → bF, starEach → bN, wpAny_newObj_type → cN, wpAny_call_entry → cW, FuncData → dI, wpAny_mono → gH, swapsWith → gT, mainGlobals → iR
open List renaming length_map → aB, getElem?_eq_some_iff → aG, getElem?_eq_getElem → aH, getElem?_map → aI, mem_cons_of_mem → aN, mem_map → aQ, mem_cons_self → aU, mem_of_getElem? → aV, getElem?_set_ne → aW, map_cons → aX, getElem?_set_self → aY, mem_cons → aZ, length_take → bC, map_map → bG, filter_cons → bK, length_append → bL, size_toArray → bR, map_append → bT, mem_filter → bY, getElem?_of_mem → bZ, length_cons → cI, range → cK, mem_singleton → cZ, getElem?_append_left → dH, take_add_one → dM, getElem?_append_right → dN, take_length → dR, not_mem_nil → dS, mem_append_right → dU, length_range → eF, length_filter_le → eK, filterMap_cons → eN, mem_append → eP, idxOf_lt_length_iff → eW, append_nil → fA, length_drop → fD, getElem_mem → fE, Perm → fM, mem_of_mem_take → fV, ext_getElem? → gD, getElem?_eq_none → gG, getElem?_take → gK, filter_append → gM, lookup_cons → hX, getElem_idxOf → hZ, length → iG, nodup_cons → iK, mem_append_left → jF, getElem?_range → jJ, length_eq_zero_iff → jM, getElem?_replicate → jN, all_eq_true → jO, map_nil → jW, getElem?_drop → jX, flatten_cons → kO, filter_congr → kP, mem_range → kX, mem_reverse → lB, map_congr_left → lP, find?_cons → lZ, take_of_length_le → mU, replicate → mV, length_singleton → nI, lookup → nQ, length_nil → oC, replicate_succ → oQ, length_reverse → oR, mem_filterMap → pJ, getD_eq_getElem?_getD → pK, getElem?_eq_none_iff → qB, nodup_append → qO, append_assoc → qP, any_eq_true → rP, pairwise_lt_range → rX, filter_nil → tG, filter_map → tH, getElem?_reverse → uG, mem_of_mem_drop → uZ, map_id → vA, any_cons → xQ, Pairwise → xR, take_sublist → zK, set_set → zL, map → zM, flatMap_cons → zN, find?_isSome → zO, isEmpty_iff_length_eq_zero → zY, getElem_inj → AV, of_mem_zip → CH, nodup_nil → EG, length_eraseIdx_of_lt → EH, drop_zero → EI, getElem?_zip_eq_some → F3, getElem?_take_of_lt → F7, filterMap_cons_some → F8, filterMap_cons_none → F9, flatten_singleton → IM, filter_eq_nil_iff → IN, drop_eq_nil_of_le → IP, take_append_drop → K4, getElem?_toArray → K5, filterMap_append → K6, range' → NJ, mem_iff_getElem → NK, flatten_append → PV, flatMap_append → PX, filter_eq_self → PY, length_attach → P9, findIdx?_cons → QA, filterMap_map → QB, pairwise_map → U4, range'_succ → VE, mem_flatten → VF, mem_flatMap → VG, range_succ → YQ, forIn_cons → YR, countP_map → YS
open PySem.W renaming Frag → aD, kia_one → eO, findIn → fK, keepIn → fU, emptyDict → gR, instObj → iS, kitOne → kK, InstAt → kM, fnOf → mP, looks_findIn → nH, codeIn → oO, kitx_list → pI, plainGet → qM, lookIn → tE, plainGet_of → uM, callWith_K → vU, methodObj → xO, hasDictIn → xP, takerIn → zW, mroIn → CV, isFn → FZ, cellsFrom_some → F0, kitx_tuple → K1, plainOver → NF, kitx_dict → NG, handedIn → PQ, makesIn → P7, notCls → U3, clsIn → VB, WalkO → VC
open Nat renaming le_of_ble_eq_true → aE, le_refl → aL, ne_of_lt → bS, le_trans → cM, zero_le → cS, lt_of_lt_of_le → cV, lt_succ_self → eE, lt_succ_of_lt → eV, ne_of_gt → fS, lt_irrefl → iQ, pow_le_pow_right → jG, mod_lt → jY, le_of_lt → jZ, mul_le_mul → mY, not_lt_zero → oP, le_of_eq → oY, min_le_right → rV, lt_asymm → tF, add_assoc → IH, lt_trans → K2, lt_or_ge → K3, mul_le_mul_right → PR, le_succ → PU, lt_trichotomy → VD, succ_ne_zero → YM, min_eq_right → YN, le_max_right → YO, min_eq_left → aBa, le_max_left → aBb, le_antisymm → aBc, sub_zero → aHz, pow_succ → aH0, mul_succ → aH1, one_mul → aIi
open PySem.Heap renaming get?_push_of_some → aJ, get?_push_size → aR, lt_size → bH, SameBut → cQ, get?_update_self → eM, size_push → fF, get?_update_other → gU, ExtBut → CC
open PySem.PyData renaming int → aO, str → aP, depthAll → cD, eqv → cP, canLayAll0 → cR, tuple → eY, hasDict → eZ, hasDictAll → iH, none → uE, bulkAll → uF, eqvAll → vV, canLay0 → CG, leavesShortAll → IG, dict → IL, showableAll → NH, strOk → aA9, list → aD5, bool → aD6
open Bool renaming false_ne_true → bA, and_eq_true → cJ, false_eq_true → fW, eq_iff_iff → mB, false_xor → pL, or_eq_true → tJ, or_false → xS, eq_false_iff → zP, or_eq_false_iff → NL, true_xor → aD8, true_and → aD9, not_true → aEa
open Array renaming getElem?_eq_getElem → bM, length_toList → bP, getElem?_eq_none → fJ, getElem?_toList → fQ, getD_eq_getD_getElem? → kE, toList_push → yO, getElem?_eq_some_iff → CZ, forIn_toList → P0, append_assoc → P1, size_append → QC, toList → aEb
open Option renaming map_eq_some_iff → bU, isSome_map → pY, getD_some → zJ, bind_eq_some_iff → F2, isSome_some → NI, getD_none → P8
open PySem.F renaming plainAttrs_list → dG, slot_dict_itemiterator_next → fC, slot_dict_keyiterator_next → gI, called_set → hJ, type_list_append → hV, slot_list_append → hW, slot_NoneType_hash → kN, type_tuple_index → lH, slot_tuple_index → lI, plainAttrs_tuple → lJ, slot_tuple_hash → lW, plain_list_iadd → lX, slot_set_iter → mT, plain_extend_loop → oX, args_tuple_add_2 → pX, entry_tuple_add → qN, slot_tuple_add → rK, args_dict_itemiterator_next_1 → uD, entry_dict_itemiterator_next → uN, args_dict_keyiterator_next_1 → uO, slot_dict_itemiterator_iter → uX, entry_dict_keyiterator_next → uY, slot_dict_items_iter → zX, plain_proto_collect → AS, entry_proto_collect → AU, slot_dict_getitem → CF, type_list_extend → CW, slot_list_extend → CY, type_list_index → D8, type_list_count → D9, slot_list_index → EA, slot_list_count → EB, slot_dict_items → ED, entry_list_iadd → EE, args_set_iter_1 → EF, slot_dict_iter → F1, slot_dict_len → F5, plain_set_new → F6
open Int renaming toNat_natCast → eG, ofNat → gX, toNat_of_nonneg → lR, natCast_add → mC, emod_lt_of_pos → pZ, mul_add → qR, le_trans → tI, emod_nonneg → uH, le_refl → vW, natCast_nonneg → yM, mul_zero → K7, add_zero → K8, mul_one → PZ, mul_nonneg → aD7, ediv_one → aH2
namespace L2
open PySem PySem.Spec PyProof.Rows

abbrev lA:=Sum Int Str
def DL:lA->Value->Bool
 | .inl k,v=>Value.isInt k v
 | .inr x,v=>Value.isStrOf x v
def aJj (w:World):lA->Int
 | .inl k=>hashInt k
 | .inr x=>hashStr w x
theorem iT:∀ {k:lA} {v:Value},DL k v=true->(∃ i t,k=Sum.inl i/\v=Value.int i t)\/(∃ x t,k=Sum.inr x/\v=Value.str x t)
 | .inl i,v,h=>by
  obtain ⟨t,e⟩:=Value.isInt_shape (k:=i) (v:=v) h
  exact .inl ⟨i,t,rfl,e⟩
 | .inr x,v,h=>by
  obtain ⟨t,e⟩:=Value.isStrOf_shape (x:=x) (v:=v) h
  exact .inr ⟨x,t,rfl,e⟩
theorem ON (i:Int) (t:Tok):DL (.inl i) (.int i t)=true:=by simp [DL,Value.isInt]
theorem OM (x:Str) (t:Tok):DL (.inr x) (.str x t)=true:=by simp [DL,Value.isStrOf]
theorem aC2 (a b:Int):decide ((Sum.inl a:lA)=Sum.inl b)=(a == b):=by
 by_cases e:a=b
 ·subst e;simp
 ·have h:¬ (Sum.inl a:lA)=Sum.inl b:=λq=>e (Sum.inl.inj q)
  rw [decide_eq_false h]
  exact (beq_eq_false_iff_ne.mpr e).symm
theorem aCz (a b:Str):decide ((Sum.inr a:lA)=Sum.inr b)=decide (a=b):=by
 by_cases e:a=b
 ·subst e;simp
 ·have h:¬ (Sum.inr a:lA)=Sum.inr b:=λq=>e (Sum.inr.inj q)
  rw [decide_eq_false h,decide_eq_false e]
theorem aC1 (a:Int) (b:Str):decide ((Sum.inl a:lA)=Sum.inr b)=false:=decide_eq_false (λq=>nomatch q)
theorem aC0 (a:Str) (b:Int):decide ((Sum.inr a:lA)=Sum.inl b)=false:=decide_eq_false (λq=>nomatch q)

def jR (prog:bF) (w:World):PySem.KeyKind prog w lA where
 is:=DL
 hash:=aJj w
 inj:=λv a b ha hb=>by
  rcases iT ha with ⟨i,t,rfl,rfl⟩ | ⟨x,t,rfl,rfl⟩
  ·rcases iT hb with ⟨j,u,rfl,e⟩ | ⟨y,u,rfl,e⟩
   ·injection e with e1 _;rw [e1]
   ·exact nomatch e
  ·rcases iT hb with ⟨j,u,rfl,e⟩ | ⟨y,u,rfl,e⟩
   ·exact nomatch e
   ·injection e with e1 _;rw [e1]
 byValue:=λk v h=>by
  rcases iT h with ⟨i,t,rfl,rfl⟩ | ⟨x,t,rfl,rfl⟩<;>rfl
 pyHash:=λhv h=>by
  rcases iT hv with ⟨i,t,rfl,rfl⟩ | ⟨x,t,rfl,rfl⟩
  ·exact wpAny_pyHash_int h
  ·exact wpAny_pyHash_str h
 eqBool:=λhu hv h=>by
  rcases iT hu with ⟨i,t,rfl,rfl⟩ | ⟨x,t,rfl,rfl⟩
  ·rcases iT hv with ⟨j,u,rfl,rfl⟩ | ⟨y,u,rfl,rfl⟩
   ·rw [aC2] at h;exact wpAny_eqBool_int h
   ·rw [aC1] at h;exact SeqAt.EqAt.int_str i t y u _ _ _ _ h
  ·rcases iT hv with ⟨j,u,rfl,rfl⟩ | ⟨y,u,rfl,rfl⟩
   ·rw [aC0] at h;exact SeqAt.EqAt.str_int x t j u _ _ _ _ h
   ·rw [aCz] at h;exact wpAny_eqBool_str h
 «strs»:=λk x t v h=>by
  rcases iT h with ⟨i,u,rfl,e⟩ | ⟨y,u,rfl,e⟩
  ·exact nomatch e
  ·injection e with e1 _
   subst e1
   cases v<;>rfl

theorem HB (prog:bF) (w:World) (i:Int) (t:Tok):(jR prog w).is (.inl i) (.int i t)=true:=ON i t
theorem HA (prog:bF) (w:World) (x:Str) (t:Tok):(jR prog w).is (.inr x) (.str x t)=true:=OM x t

inductive V where
 | non | bl (b:Bool) | int (i:Int) | str (x:Str) | byt (b:Array UInt8) | flt (b:UInt64) | ref (a:Addr) | ty (n:String)
 deriving DecidableEq

def gC:V->Value->Prop
 | .non,u=>u=Value.none
 | .bl b,u=>u=Value.bool b
 | .int i,u=>∃ t,u=Value.int i t
 | .str x,u=>∃ t,u=Value.str x t
 | .byt b,u=>∃ t,u=Value.bytes b t
 | .flt b,u=>∃ t,u=Value.float b t
 | .ref a,u=>u=Value.ref a
 | .ty n,u=>u=Value.type n

abbrev fG:List V->List Value->Prop:=Paired gC
theorem fG.length {xs:List V} {us:List Value} (r:fG xs us):xs.length=us.length:=Paired.length r
theorem fG.get:∀ {xs:List V} {us:List Value} {i:Nat} {x:V},fG xs us->xs[i]?=some x->∃ u,us[i]?=some u/\gC x u
 | _,_,_,_,.nil,e=>by simp at e
 | _,_,0,_,.cons r _,e=>by simp at e;subst e;exact ⟨_,rfl,r⟩
 | _,_,i+1,x,.cons _ t,e=>by
  obtain ⟨u,h1,h2⟩:=fG.get (i:=i) (x:=x) t (by simpa using e)
  exact ⟨u,by simpa using h1,h2⟩
theorem fG.set {x:V} {u:Value} (r:gC x u):∀ {xs:List V} {us:List Value} (i:Nat),fG xs us->fG (xs.set i x) (us.set i u)
 | _,_,_,.nil=>.nil
 | _,_,0,.cons _ t=>.cons r t
 | _,_,i+1,.cons q t=>.cons q (fG.set r i t)
theorem fG.append:∀ {xs ys:List V} {us ws:List Value},fG xs us->fG ys ws->fG (xs++ys) (us++ws)
 | _,_,_,_,.nil,s=>s
 | _,_,_,_,.cons r t,s=>.cons r (fG.append t s)
theorem fG.take:∀ {xs:List V} {us:List Value} (n:Nat),fG xs us->fG (xs.take n) (us.take n)
 | _,_,0,_=>.nil
 | _,_,_+1,.nil=>.nil
 | _,_,n+1,.cons r t=>.cons r (fG.take n t)
theorem fG.drop:∀ {xs:List V} {us:List Value} (n:Nat),fG xs us->fG (xs.drop n) (us.drop n)
 | _,_,0,r=>r
 | _,_,_+1,.nil=>.nil
 | _,_,n+1,.cons _ t=>fG.drop n t
theorem fG.none_of:∀ {xs:List V} {us:List Value} {i:Nat},fG xs us->xs[i]?=none->us[i]?=none:=λ{xs us i} r e=>by
 have h1:=r.length
 have h2:xs.length<=i:=qB.mp e
 exact qB.mpr (by omega)

def uL:Option V->Option Value->Prop
 | some v,some u=>gC v u
 | none,none=>True
 | _,_=>False
def KV {κ:Type}:List (κ×V)->List (κ×Value)->Prop:=Paired λ(p:κ×V) (q:κ×Value)=>p.1=q.1/\gC p.2 q.2

def kV:lA->V
 | .inl i=>.int i
 | .inr x=>.str x

inductive HO where
 /-- a list -/
 | lst (xs:List V)
 /-- a tuple (never changes) -/
 | tup (xs:List V)
 /-- a dict whose keys are ints and texts;one whose keys are tuples of ints and texts (the empty one is both) -/
 | dK (kvs:List (lA×V)) | dT (kvs:List (List lA×V))
 /-- a set of ints: its members,its size -/
 | set (S:Int->Bool) (n:Nat)
 /-- an instance of the class at C,its dict at dx,its attributes -/
 | ins (C dx:Addr) (fs:List (Str×V))
 /-- the dict of the instance at x -/
 | own (x:Addr)
 /-- the dict of an exception -/
 | xd (fs:List (Str×V))
 /-- a bound method,f of x -/
 | met (f x:Addr)
 /-- a range object lo,lo+1,.. below hi -/
 | rng (lo hi:Int)
 /-- a thing that is known to the object (the script;a dict while a loop walks it): read,never written while it is so -/
 | frz (o:Obj) (u:HO)
 /-- a code object's table -/
 | tbl (ps:Array Value)
 /-- any other thing,by what is true of its one object (a def of one's own: SetO a S n:=HO.ext λh=>..) -/
 | ext (φ:Heap->Prop)

abbrev Hp:=Addr->Option HO
def fZ (H:Hp) (a:Addr) (o:HO):Hp:=λb=>if b=a then some o else H b
theorem cO {H:Hp} {a:Addr} {o:HO}:fZ H a o a=some o:=by unfold fZ;rw [if_pos rfl]
theorem cG {H:Hp} {a b:Addr} {o:HO} (h:b≠a):fZ H a o b=H b:=by unfold fZ;rw [if_neg h]
theorem aGr {H:Hp} {a b:Addr} {o u:HO} (h:H a=some o) (h':H b=some u) (d:o≠u):a≠b:=by
 intro e;subst e;rw [h] at h';exact d (Option.some.inj h')
theorem jQ {H:Hp} {a b:Addr} {o:HO} (h:H a=some o) (h':H b=none):a≠b:=by
 intro e;subst e;rw [h] at h';cases h'

section
variable (P:bF) (w:World)
def B6 (h:Heap) (a:Addr) (items:Array Value):Prop:=∃ o,h.get? a=some o/\o.cls=.type "tuple"/\∃ n,o.data=.seq items n/\o.dict=none
theorem B6.tup {h:Heap} {a:Addr} {items:Array Value} (x:B6 h a items):IsTup h a items:=let ⟨o,e,c,n,d,_⟩:=x;⟨o,e,c,n,d⟩
theorem B6.lt {h:Heap} {a:Addr} {items:Array Value} (x:B6 h a items):a<h.objs.size:=x.tup.lt
theorem B6.new (h:Heap) (items:Array Value):B6 (h.push { cls:=.type "tuple",data:=.seq items }) h.objs.size items:=⟨_,aR _ rfl,rfl,_,rfl,rfl⟩
def aHy (oc:Obj):Prop:=∃ (vs:Array Value) (q:Str) (t:Tok),oc.data=.fields vs/\vs[1]?=some (.str q t)
def iJ (H:Hp) (h:Heap) (a:Addr):HO->Prop
 | .lst xs=>xs.length<=bD/\∃ (its:List Value) (n:Nat),fG xs its/\h.get? a=some { cls:=.type "list",data:=.seq its.toArray n }
 | .tup xs=>xs.length<=bD/\∃ its:List Value,fG xs its/\B6 h a its.toArray
 | .dK kvs=>kvs.length<=bD/\(a == sysModules)=false/\∃ vs,KV kvs vs/\h.DictOf (jR P w) a vs
 | .dT kvs=>kvs.length<=bD/\(a == sysModules)=false/\∃ xs:List (List lA×Addr×Value),
   Paired (λ(p:List lA×V) (q:List lA×Addr×Value)=>p.1=q.1/\H q.2.1=some (.tup (p.1.map kV))/\gC p.2 q.2.2) kvs xs /\
   ∃ o es ep,h.get? a=some o/\o.ExactDict/\o.data=.dict es ep/\es.toList=xs.map (entryOfKey (tupleKind (jR P w)))/\(xs.map (·.1)).Nodup
 | .set S n=>h.SetOf (intKind P w) a S n
 | .ins C dx fs=>H dx=some (.own a)/\fs.length<=1000/\dx≠a/\h.get? a=some (iS C dx) /\
   ∃ mA,h.Ns1 dx mA/\(∀ f,uL (fs.lookup f) (mA f))/\PySem.Within mA (fs.map (·.1))
 | .own _=>∃ o,h.get? a=some o
 | .xd fs=>∃ mA,h.Ns1 a mA/\∀ f,uL (fs.lookup f) (mA f)
 | .rng lo hi=>∃ t u v,h.get? a=some { cls:=.type "range",data:=.fields #[.int lo t,.int hi u,.int 1 v] }
 | .frz o u=>h.get? a=some o/\iJ H h a u
 | .tbl _=>∃ qs:Array Value,h.get? a=some { cls:=.none,data:=.fields qs }/\TriplesOk qs.toList/\∀ (p:Pos) (c:Value),codeAmong p qs.toList=some c->∃ c' oc,c=.ref c'/\H c'=some (.frz oc (.own a))/\aHy oc
 | .met f x=>h.get? a=some (xO (.ref f) (.ref x))
 | .ext φ=>φ h/\(∃ o,h.get? a=some o)/\∀ h1 h2:Heap,φ h1->(∀ o,h1.get? a=some o->h2.get? a=some o)->φ h2
def vX (H:Hp) (h:Heap):Prop:=∀ a o,H a=some o->iJ P w H h a o
end

section
variable {P:bF} {w:World} {H H':Hp} {h h':Heap} {a:Addr} {o:HO}
theorem iJ.lt (x:iJ P w H h a o):a<h.objs.size:=by
 cases o with
 | lst xs=>obtain ⟨_,_,_,_,e⟩:=x;exact bH e
 | tup xs=>obtain ⟨_,_,_,p⟩:=x;exact p.lt
 | dK kvs=>obtain ⟨_,_,_,_,o,_,_,e,_⟩:=x;exact bH e
 | dT kvs=>obtain ⟨_,_,_,_,o,_,_,e,_⟩:=x;exact bH e
 | set S n=>obtain ⟨o,_,_,_,e,_⟩:=x;exact bH e
 | ins C dx fs=>obtain ⟨_,_,_,e,_⟩:=x;exact bH e
 | own y=>obtain ⟨_,e⟩:=x;exact bH e
 | xd fs=>obtain ⟨_,⟨_,_,_,e,_⟩,_⟩:=x;exact bH e
 | rng lo hi=>obtain ⟨_,_,_,e⟩:=x;exact bH e
 | frz ob u=>obtain ⟨e,_⟩:=x;exact bH e
 | tbl ps=>obtain ⟨_,e,_⟩:=x;exact bH e
 | met f y=>exact bH (show h.get? a=some _ from x)
 | ext φ=>obtain ⟨_,⟨_,e⟩,_⟩:=x;exact bH e
theorem Paired.mapP {α β:Type} {F G:α->β->Prop}:∀ {l₁:List α} {l₂:List β},Paired F l₁ l₂->(∀ a b,F a b->G a b)->Paired G l₁ l₂
 | _,_,.nil,_=>.nil
 | _,_,.cons r t,f=>.cons (f _ _ r) (Paired.mapP t f)
theorem iJ.stay (x:iJ P w H h a o) (k:∀ b u,(b=a\/H b=some (.own a))->h.get? b=some u->h'.get? b=some u)
  (ho:∀ b,H b=some (.own a)->H' b=some (.own a)) (ht:∀ b xs,H b=some (.tup xs)->H' b=some (.tup xs)) (hf:∀ b ob u,H b=some (.frz ob u)->H' b=some (.frz ob u):=by exact λ_ _ _ q=>q):iJ P w H' h' a o:=by
 induction o with
 | lst xs=>obtain ⟨z,its,n,r,e⟩:=x;exact ⟨z,its,n,r,k _ _ (.inl rfl) e⟩
 | tup xs=>obtain ⟨z,its,r,ob,e,c⟩:=x;exact ⟨z,its,r,ob,k _ _ (.inl rfl) e,c⟩
 | dK kvs=>obtain ⟨z,y,vs,r,ob,es,ep,e,c⟩:=x;exact ⟨z,y,vs,r,ob,es,ep,k _ _ (.inl rfl) e,c⟩
 | dT kvs =>
  obtain ⟨z,y,xs,r,ob,es,ep,e,c⟩:=x
  exact ⟨z,y,xs,Paired.mapP r λp q z=>⟨z.1,ht _ _ z.2.1,z.2.2⟩,ob,es,ep,k _ _ (.inl rfl) e,c⟩
 | set S n=>obtain ⟨ob,es,ep,t,e,c⟩:=x;exact ⟨ob,es,ep,t,k _ _ (.inl rfl) e,c⟩
 | ins C dx fs =>
  obtain ⟨d,z,ne,e,mA,⟨od,es,ep,e2,c⟩,r⟩:=x
  exact ⟨ho _ d,z,ne,k _ _ (.inl rfl) e,mA,⟨od,es,ep,k _ _ (.inr d) e2,c⟩,r⟩
 | own y=>obtain ⟨ob,e⟩:=x;exact ⟨ob,k _ _ (.inl rfl) e⟩
 | xd fs=>obtain ⟨mA,⟨od,es,ep,e,c⟩,r⟩:=x;exact ⟨mA,⟨od,es,ep,k _ _ (.inl rfl) e,c⟩,r⟩
 | rng lo hi=>obtain ⟨t,u,v,e⟩:=x;exact ⟨t,u,v,k _ _ (.inl rfl) e⟩
 | frz ob u ih=>obtain ⟨e,q⟩:=x;exact ⟨k _ _ (.inl rfl) e,ih q⟩
 | tbl ps =>
  obtain ⟨qs,e,t,z⟩:=x
  exact ⟨qs,k a _ (.inl rfl) e,t,λp c q=>let ⟨c',oc,h1,h2,h3⟩:=z p c q;⟨c',oc,h1,hf _ _ _ h2,h3⟩⟩
 | met f y =>
  have e:h.get? a=some (xO (.ref f) (.ref y)):=x
  show h'.get? a=some (xO (.ref f) (.ref y))
  exact k a _ (.inl rfl) e
 | ext φ=>obtain ⟨p,⟨o,e⟩,st⟩:=x;exact ⟨st _ _ p λo q=>k _ _ (.inl rfl) q,⟨o,k _ _ (.inl rfl) e⟩,st⟩
theorem vX.lt (x:vX P w H h) (e:H a=some o):a<h.objs.size:=(x a o e).lt
theorem vX.fresh (x:vX P w H h) (e:h.objs.size<=a):H a=none:=by
 cases q:H a with
 | none=>rfl
 | some u=>exact absurd (cV (x.lt q) e) (iQ _)
theorem vX.kept (x:vX P w H h) (k:∀ b u,h.get? b=some u->h'.get? b=some u):vX P w H h':=λa o e =>
 (x a o e).stay (λb u _ q=>k b u q) (λ_ q=>q) λ_ _ q=>q
theorem vX.laid (x:vX P w H h) (k:∀ b u,h.get? b=some u->h'.get? b=some u) (hp:h.objs.size<=a) (new:iJ P w (fZ H a o) h' a o):vX P w (fZ H a o) h':=λb u e=>by
 have hn:=x.fresh hp
 by_cases hb:b=a
 ·subst hb;rw [cO] at e;cases e;exact new
 ·rw [cG hb] at e
  exact (x b u e).stay (λc v _ q=>k c v q) (λc q=>by rw [cG (jQ q hn)];exact q) (λc xs q=>by rw [cG (jQ q hn)];exact q) λc ob v q=>by rw [cG (jQ q hn)];exact q
end

def Rd (H:Hp) (a:Addr) (u:HO):Prop:=H a=some u\/∃ o,H a=some (.frz o u)
theorem Rd.of {H:Hp} {a:Addr} {u:HO} (h:H a=some u):Rd H a u:=.inl h
theorem Rd.ok {P:bF} {w:World} {H:Hp} {h:Heap} {a:Addr} {u:HO} (r:Rd H a u) (x:vX P w H h):iJ P w H h a u:=by
 rcases r with r | ⟨o,r⟩
 ·exact x a u r
 ·obtain ⟨_,q⟩:=x a _ r
  exact q
def Mut:Option HO->Prop
 | some (.lst _)=>True
 | some (.dK _)=>True
 | some (.dT _)=>True
 | some (.set _ _)=>True
 | some (.ins _ _ _)=>True
 | some (.ext _)=>True
 | _=>False
section
variable {P:bF} {w:World} {H:Hp} {h h':Heap} {x e:Addr} {o':HO}
theorem vX.write (ok:vX P w H h) (mu:Mut (H x)) (he:e=x\/H e=some (.own x)) (k:∀ b u,b≠e->h.get? b=some u->h'.get? b=some u) (heo:∃ u,h'.get? e=some u)
  (new:iJ P w (fZ H x o') h' x o'):vX P w (fZ H x o') h':=λb u q=>by
 have nown:∀ c y,H c=some (.own y)->c≠x:=λc y r z=>by subst z;rw [r] at mu;exact mu
 have ntup:∀ c xs,H c=some (.tup xs)->c≠x:=λc xs r z=>by subst z;rw [r] at mu;exact mu
 by_cases hb:b=x
 ·subst hb;rw [cO] at q;cases q;exact new
 ·rw [cG hb] at q
  by_cases hbe:b=e
  ·have q':H b=some (.own x):=by
    rcases he with z | z
    ·exact absurd (hbe.trans z) hb
    ·rw [hbe];exact z
   rw [q] at q';cases q'
   obtain ⟨v,hv⟩:=heo
   exact ⟨v,by rw [hbe];exact hv⟩
  ·refine (ok b u q).stay (λc v hc r=>k c v ?_ r) (λc r=>by rw [cG (nown c b r)];exact r) (λc xs r=>by rw [cG (ntup c xs r)];exact r) λc ob v r=>by rw [cG (λz=>by subst z;rw [r] at mu;exact mu)];exact r
   rcases hc with rfl | hc
   ·exact hbe
   ·rintro rfl
    rcases he with z | z
    ·exact nown c b hc z
    ·rw [hc] at z;cases z;exact hb rfl
end

structure Un (fs ex:List Addr) (H H':Hp) (h h':Heap):Prop where
 keep:∀ b o,h.get? b=some o->H b=none->b∉fs->b∉ex->h'.get? b=some o
 slot:∀ b o,h.get? b=some o->H b=none->b∈fs->b∉ex->∃ sl,h'.get? b=some { o with slots:=sl }
 free:∀ b o,h.get? b=some o->H b=none->b∉ex->H' b=none
 there:∀ b o,h.get? b=some o->b∉ex->∃ o',h'.get? b=some o'
 tups:∀ b xs,H b=some (.tup xs)->H' b=some (.tup xs)
 frzs:∀ b o u,H b=some (.frz o u)->H' b=some (.frz o u)
 tbls:∀ b ps,H b=some (.tbl ps)->∃ more,H' b=some (.tbl (ps++more))
section
variable {fs fs' ex ex':List Addr} {H H1 H2:Hp} {h h1 h2 h':Heap} {a x e:Addr} {o:HO}
theorem Un.any (u:Un fs ex H H1 h h1) {b:Addr} {ob:Obj} (q:h.get? b=some ob) (n:H b=none) (hx:b∉ex):∃ sl,h1.get? b=some { ob with slots:=sl }:=by
 by_cases hb:b∈fs
 ·exact u.slot b ob q n hb hx
 ·exact ⟨ob.slots,u.keep b ob q n hb hx⟩
theorem Un.trans (a:Un fs ex H H1 h h1) (b:Un fs ex H1 H2 h1 h2):Un fs ex H H2 h h2 where
 keep:=λc ob q n hc hx=>b.keep c ob (a.keep c ob q n hc hx) (a.free c ob q n hx) hc hx
 slot:=λc ob q n hc hx=>by
  obtain ⟨sl,e1⟩:=a.slot c ob q n hc hx
  obtain ⟨sl',e2⟩:=b.slot c _ e1 (a.free c ob q n hx) hc hx
  exact ⟨sl',e2⟩
 free:=λc ob q n hx=>by
  obtain ⟨o',e1⟩:=a.there c ob q hx
  exact b.free c o' e1 (a.free c ob q n hx) hx
 there:=λc ob q hx=>by
  obtain ⟨o',e1⟩:=a.there c ob q hx
  exact b.there c o' e1 hx
 tups:=λc xs q=>b.tups c xs (a.tups c xs q)
 frzs:=λc ob xs q=>b.frzs c ob xs (a.frzs c ob xs q)
 tbls:=λc ps q=>by
  obtain ⟨m1,e1⟩:=a.tbls c ps q
  obtain ⟨m2,e2⟩:=b.tbls c _ e1
  exact ⟨m1++m2,by rw [e2,P1]⟩
theorem Un.kept (k:∀ b u,h.get? b=some u->h'.get? b=some u):Un fs ex H H h h' :=
 ⟨λb ob q _ _ _=>k b ob q,λb ob q _ _ _=>⟨ob.slots,k b ob q⟩,λ_ _ _ n _=>n,λb ob q _=>⟨ob,k b ob q⟩,λ_ _ q=>q,λ_ _ _ q=>q,λ_ ps q=>⟨#[],by rw [q];simp⟩⟩
theorem Un.refl:Un fs ex H H h h:=Un.kept λ_ _ q=>q
theorem Un.laid (k:∀ b u,h.get? b=some u->h'.get? b=some u) (hp:h.objs.size<=a) (hn:H a=none):Un fs ex H (fZ H a o) h h' where
 keep:=λb u q _ _ _=>k b u q
 slot:=λb u q _ _ _=>⟨u.slots,k b u q⟩
 free:=λb u q n _=>by rw [cG (bS (cV (bH q) hp))];exact n
 there:=λb u q _=>⟨u,k b u q⟩
 tups:=λb xs q=>by rw [cG (jQ q hn)];exact q
 frzs:=λb u xs q=>by rw [cG (jQ q hn)];exact q
 tbls:=λb ps q=>⟨#[],by rw [cG (jQ q hn),q];simp⟩
theorem Un.write (mu:Mut (H x)) (he:e=x\/H e=some (.own x)) (k:∀ b u,b≠e->h.get? b=some u->h'.get? b=some u) (heo:∃ u,h'.get? e=some u):Un fs ex H (fZ H x o) h h':=by
 have hx:∀ b,H b=none->b≠x:=λb n z=>by subst z;rw [n] at mu;exact mu
 have hb:∀ b,H b=none->b≠e:=λb n z=>by
  subst z
  rcases he with r | r
  ·exact hx b n r
  ·rw [n] at r;cases r
 have hm:∀ b u,H b=some u->¬ Mut (some u)->b≠x:=λb u q nm z=>by subst z;rw [q] at mu;exact nm mu
 refine ⟨λb u q n _ _=>k b u (hb b n) q,λb u q n _ _=>⟨u.slots,k b u (hb b n) q⟩,λb u q n _=>by rw [cG (hx b n)];exact n,λb u q _=>?_,
  λb xs q=>by rw [cG (hm b _ q λz=>z)];exact q,λb u xs q=>by rw [cG (hm b _ q λz=>z)];exact q,λb ps q=>⟨#[],by rw [cG (hm b _ q λz=>z),q];simp⟩⟩
 by_cases hbe:b=e
 ·subst hbe;exact heo
 ·exact ⟨u,k b u hbe q⟩
theorem Un.mono (u:Un fs ex H H1 h h1) (hs:∀ b∈fs,b∈fs') (hx:∀ b∈ex,b∈ex'):Un fs' ex' H H1 h h1 :=
 ⟨λb ob q n hb he=>u.keep b ob q n (λz=>hb (hs b z)) λz=>he (hx b z),λ_ _ q n _ he=>u.any q n λz=>he (hx _ z),λb ob q n he=>u.free b ob q n λz=>he (hx b z),λb ob q he=>u.there b ob q λz=>he (hx b z),u.tups,u.frzs,u.tbls⟩
end

def trk (h:Heap) (H:Hp):List Addr:=(cK h.objs.size).filter λa=>(H a).isSome
def FF (h:Heap) (H:Hp):Heap:=PySem.W.hideAll h (trk h H)
theorem OW (h:Heap) (H:Hp):(FF h H).objs.size=h.objs.size:=PySem.W.hideAll_size _ _
theorem TR {h:Heap} {H:Hp} {b:Addr} {o:Obj} (e:h.get? b=some o) (n:H b=none):(FF h H).get? b=some o :=
 PySem.W.hideAll_get _ e λhm=>by
  have q:(H b).isSome=true:=(bY.mp hm).2
  rw [n] at q;simp at q
theorem WW {h:Heap} {H:Hp} {b:Addr} {o:Obj} (e:(FF h H).get? b=some o):h.get? b=some o/\H b=none:=by
 have e':h.get? b=some o:=PySem.W.of_hideAll (trk h H) e
 refine ⟨e',?_⟩
 cases q:H b with
 | none=>rfl
 | some x =>
  have hm:b∈trk h H:=bY.mpr ⟨kX.mpr (bH e'),by simp [q]⟩
  have z:(FF h H).get? b=none:=PySem.W.hideAll_none (trk h H) hm
  rw [z] at e;cases e

end L2

namespace L2
open PySem PySem.Spec PyProof.Rows

structure Mod (K:aD) (mg:Str->Option Value) (base:Heap):Prop where
 kin:K.In base
 glob:base.Ns iR mg
 blt:∃ mb,base.Ns builtinsNs mb/\∀ x:Str,x≠"__name__"->mb x=bootBuiltins x
 nolimit:base.NoLimit
 bmod:∃ bm o,mg "__builtins__"=some (.ref bm)/\bm≠builtinsNs/\base.get? bm=some o/\o.cls=.type "module"/\o.dict=some builtinsNs/\o.data=.plain

structure Cx where
 prog:bF
 w:World
 K:aD
 mg:Str->Option Value
 base:Heap
 A:Around
 N:List Str
 s₀:Shared
 H₀:Hp
 env:Env
 outer:List Env
 stack:List Env
 ex:List Addr
 fn:Str->Bool
 calm:Bool
 pn:List (Addr×Obj)
 xe:Value->Shared->Prop
def P3 (l:List Env):List Addr:=l.filterMap (·.frame)
abbrev Cx.fs (X:Cx):List Addr:=P3 X.outer

def Vis (sc:Scope) (x:Str):Prop:=sc.names.lookup x=some .local\/sc.names.lookup x=some .cell\/sc.names.lookup x=some .free
def NC (sc:Scope) (x:Str):Prop:=sc.names.lookup x=some .local\/sc.names.lookup x=some .cell
def aKe (env:Env) (h:Heap) (m:Str->Option Value) (x:Str) (u:Value):Prop :=
 (env.kindOf x=some .local/\m x=some u)\/((env.kindOf x=some .cell\/env.kindOf x=some .free)/\∃ c,env.cells.lookup x=some c/\h.IsCell c (some u))

def Tb (H:Hp):Prop:=∀ P,tabA=some P->∃ ps,H P=some (.tbl ps)
structure Cx.Ok (X:Cx):Prop where
 mod:Mod X.K X.mg X.base
 kind:X.env.scope.kind=.function
 glob:X.env.globals=iR
 blt:X.env.builtins=builtinsNs
 above:X.s₀.heap.objs.size<=X.env.locals
 inj:∀ x y c,X.env.cells.lookup x=some c->X.env.cells.lookup y=some c->x=y
 has:∀ x,(X.env.kindOf x=some .cell\/X.env.kindOf x=some .free)->∃ c,X.env.cells.lookup x=some c
 cab:∀ x c,X.fn x=true->X.env.cells.lookup x=some c->X.s₀.heap.objs.size<=c
 hd:X.calm=true->X.A.handled=none
 frames:X.A.frames=some X.stack
 stk:X.stack=X.outer\/(X.stack=X.env::X.outer/\X.env.frame=some X.env.locals)
 exf:∀ b∈X.ex,b≠X.env.locals/\∀ x c,X.env.cells.lookup x=some c->c≠b
 bs:∀ b o,X.base.get? b=some o->X.s₀.heap.get? b=some o/\X.H₀ b=none
 bsz:X.base.objs.size<=X.s₀.heap.objs.size
 noex:∀ b o,X.base.get? b=some o->b∉X.ex
 exfs:∀ b∈X.ex,b∉X.fs
 funs:X.s₀.heap.FunFrames X.base X.outer
 frf:∀ b∈X.fs,X.H₀ b=none
 tab:Tb X.H₀

structure dP (X:Cx) (pins:List (Addr×Obj)) (σ:List (Option V)) (H:Hp) (s:Shared):Prop where
 ok:X.Ok
 os:s.os=X.s₀.os
 bare:AllBare s.gens
 base:Un X.fs X.ex X.H₀ H X.s₀.heap s.heap
 loc:∃ m,s.heap.Ns X.env.locals m/\∀ (i:Nat) (x:Str) (v:V),X.N[i]?=some x->σ[i]?=some (some v)->Vis X.env.scope x->∃ u,gC v u/\aKe X.env s.heap m x u
 cell:∀ x c,X.env.cells.lookup x=some c->∃ v,s.heap.IsCell c v
 free:H X.env.locals=none
 freeC:∀ x c,X.env.cells.lookup x=some c->H c=none
 pin:∀ p∈X.pn++pins,s.heap.get? p.1=some p.2/\H p.1=none/\p.1≠X.env.locals/\p.1∉X.fs/\∀ v,p.2.data≠.cell v
 hok:vX X.prog X.w H s.heap
 len:σ.length=X.N.length

section
variable {X:Cx} {pins:List (Addr×Obj)} {σ:List (Option V)} {H H':Hp} {s:Shared} {h':Heap}

theorem Cx.Ok.nofr (ok:X.Ok) {b:Addr} {o:Obj} (e:X.base.get? b=some o):b∉X.fs:=λhb=>by
 have:=(ok.funs.mem hb).1
 rw [e] at this;cases this
theorem dP.bs (I:dP X pins σ H s):∀ b o,X.base.get? b=some o->s.heap.get? b=some o/\H b=none:=λb o e =>
 ⟨I.base.keep b o (I.ok.bs b o e).1 (I.ok.bs b o e).2 (I.ok.nofr e) (I.ok.noex b o e),I.base.free b o (I.ok.bs b o e).1 (I.ok.bs b o e).2 (I.ok.noex b o e)⟩
theorem dP.bk (I:dP X pins σ H s):∀ b o,X.base.get? b=some o->s.heap.get? b=some o:=λb o e=>(I.bs b o e).1
theorem dP.mod (I:dP X pins σ H s):Mod X.K X.mg X.base:=I.ok.mod
theorem dP.kIn (I:dP X pins σ H s):X.K.In s.heap:=I.ok.mod.kin.keeps I.bk
theorem dP.nolimit (I:dP X pins σ H s):s.heap.NoLimit:=I.ok.mod.nolimit.keeps I.bk
theorem dP.lt (I:dP X pins σ H s):X.env.locals<s.heap.objs.size:=let ⟨_,hn,_⟩:=I.loc;hn.lt
theorem dP.sz (I:dP X pins σ H s):X.s₀.heap.objs.size<=s.heap.objs.size:=cM I.ok.above (jZ I.lt)
theorem dP.nofs (I:dP X pins σ H s) {a:Addr} (h:s.heap.objs.size<=a):a∉X.fs:=λhb=>by
 obtain ⟨_,o,ho,_⟩:=I.ok.funs.mem hb
 exact absurd (cV (bH ho) (cM I.sz h)) (iQ _)
theorem dP.cne (I:dP X pins σ H s):∀ x c,X.env.cells.lookup x=some c->c≠X.env.locals:=λx c e z=>by
 obtain ⟨v,o,ho,hd⟩:=I.cell x c e
 obtain ⟨m,⟨o',es,ep,ho',hd',_⟩,_⟩:=I.loc
 rw [z,ho'] at ho;cases ho;rw [hd'] at hd;cases hd
theorem dP.funs (I:dP X pins σ H s):s.heap.FunFrames X.base X.outer:=by
 have all:∀ (l:List Env),(∀ b∈P3 l,b∈X.fs)->X.s₀.heap.FunFrames X.base l->s.heap.FunFrames X.base l:=by
  intro l
  induction l with
  | nil=>intro _ _;trivial
  | cons env r ih =>
   intro hs hl
   obtain ⟨hk,⟨L,o,hf,hn,ho,hd⟩,hr⟩:=hl
   have hL:L∈X.fs:=hs L (by unfold P3;rw [eN,hf];exact aU)
   obtain ⟨sl,e⟩:=I.base.slot L o ho (I.ok.frf L hL) hL λz=>I.ok.exfs L z hL
   exact ⟨hk,⟨L,_,hf,hn,e,hd⟩,ih (λb hb=>hs b (by unfold P3;rw [eN,hf];exact aN _ hb)) hr⟩
 exact all X.outer (λ_ hb=>hb) I.ok.funs

theorem dP.stack (I:dP X pins σ H s):s.heap.FunFrames X.base X.stack:=by
 rcases I.ok.stk with e | ⟨e,hf⟩
 ·rw [e];exact I.funs
 ·rw [e]
  obtain ⟨m,hn,_⟩:=I.loc
  refine .cons (by rw [I.ok.kind];decide) hf hn ?_ I.funs
  exact Heap.get?_none_of_le (cM I.ok.bsz I.ok.above)
theorem dP.stkSub (I:dP X pins σ H s):∀ b∈P3 X.stack,b∈X.env.locals::X.fs:=λb hb=>by
 rcases I.ok.stk with e | ⟨e,hf⟩
 ·rw [e] at hb;exact aN _ hb
 ·rw [e] at hb
  unfold P3 at hb
  rw [eN,hf] at hb
  exact hb
theorem dP.stkFree (I:dP X pins σ H s):∀ b∈P3 X.stack,H b=none:=λb hb=>by
 rcases aZ.mp (I.stkSub b hb) with e | hb
 ·rw [e];exact I.free
 ·obtain ⟨_,o,ho,_⟩:=I.ok.funs.mem hb
  exact I.base.free b o ho (I.ok.frf b hb) λz=>I.ok.exfs b z hb

theorem dP.step {g':Array GenState} {t':Nat} {d':Drawn} {ch:List Addr} (I:dP X pins σ H s)
  (hch:∀ b∈ch,(b∈X.ex\/X.s₀.heap.objs.size<=b)/\b≠X.env.locals/\(∀ x c,X.env.cells.lookup x=some c->c≠b)/\∀ p∈X.pn++pins,p.1≠b)
  (keep:∀ b o,b≠X.env.locals->b∉X.fs->b∉ch->s.heap.get? b=some o->H b=none->h'.get? b=some o)
  (slot:∀ b o,b≠X.env.locals->b∈X.fs->b∉ch->s.heap.get? b=some o->H b=none->∃ sl,h'.get? b=some { o with slots:=sl }) (free:∀ b o,b∉ch->s.heap.get? b=some o->H b=none->H' b=none)
  (there:∀ b o,b∉ch->s.heap.get? b=some o->∃ o',h'.get? b=some o')
  (tups:∀ b xs,H b=some (.tup xs)->H' b=some (.tup xs)) (frzs:∀ b o u,H b=some (.frz o u)->H' b=some (.frz o u)) (tbls:∀ b ps,H b=some (.tbl ps)->∃ more,H' b=some (.tbl (ps++more)))
  (ns:∀ m,s.heap.Ns X.env.locals m->h'.Ns X.env.locals m) (hok:vX X.prog X.w H' h') (hg:AllBare g') :
  dP X pins σ H' { s with heap:=h',gens:=g',drawn:=d',toks:=t' }:=by
 have neL:∀ b o,X.s₀.heap.get? b=some o->b≠X.env.locals:=λb o e=>bS (cV (bH e) I.ok.above)
 have neC:∀ b o,X.s₀.heap.get? b=some o->b∉X.ex->b∉ch:=λb o e hx hb=>by
  rcases (hch b hb).1 with z | z
  ·exact hx z
  ·exact absurd (cV (bH e) z) (iQ _)
 have cellK:∀ x c,X.env.cells.lookup x=some c->∀ v,s.heap.IsCell c v->h'.IsCell c v:=λx c e v ⟨o,ho,hd⟩=>by
  have nch:c∉ch:=λz=>(hch c z).2.2.1 x c e rfl
  by_cases hc:c∈X.fs
  ·obtain ⟨sl,q⟩:=slot c o (I.cne x c e) hc nch ho (I.freeC x c e)
   exact ⟨_,q,hd⟩
  ·exact ⟨o,keep c o (I.cne x c e) hc nch ho (I.freeC x c e),hd⟩
 refine ⟨I.ok,I.os,hg,⟨λb o e n hb hx=>?_,λb o e n hb hx=>?_,λb o e n hx=>?_,λb o e hx=>?_,λb xs e=>tups b xs (I.base.tups b xs e),λb o xs e=>frzs b o xs (I.base.frzs b o xs e),λb ps e=>?_⟩,?_,λx c e=>?_,?_,λx c e=>?_,λp hp=>?_,hok,I.len⟩
 ·exact keep b o (neL b o e) hb (neC b o e hx) (I.base.keep b o e n hb hx) (I.base.free b o e n hx)
 ·obtain ⟨sl,e1⟩:=I.base.slot b o e n hb hx
  obtain ⟨sl',e2⟩:=slot b _ (neL b o e) hb (neC b o e hx) e1 (I.base.free b o e n hx)
  exact ⟨sl',e2⟩
 ·obtain ⟨o',e1⟩:=I.base.there b o e hx
  exact free b o' (neC b o e hx) e1 (I.base.free b o e n hx)
 ·obtain ⟨o',e1⟩:=I.base.there b o e hx
  exact there b o' (neC b o e hx) e1
 ·obtain ⟨m1,e1⟩:=I.base.tbls b ps e
  obtain ⟨m2,e2⟩:=tbls b _ e1
  exact ⟨m1++m2,by rw [e2,P1]⟩
 ·obtain ⟨m,hn,hl⟩:=I.loc
  refine ⟨m,ns m hn,λi x v e1 e2 e3=>?_⟩
  obtain ⟨u,r,l⟩:=hl i x v e1 e2 e3
  refine ⟨u,r,?_⟩
  rcases l with l | ⟨k,c,e,z⟩
  ·exact .inl l
  ·exact .inr ⟨k,c,e,cellK x c e _ z⟩
 ·obtain ⟨v,z⟩:=I.cell x c e
  exact ⟨v,cellK x c e v z⟩
 ·obtain ⟨m,⟨o,_,_,ho,_⟩,_⟩:=I.loc
  exact free _ o (λz=>(hch _ z).2.1 rfl) ho I.free
 ·obtain ⟨v,o,ho,hd⟩:=I.cell x c e
  exact free c o (λz=>(hch c z).2.2.1 x c e rfl) ho (I.freeC x c e)
 ·obtain ⟨e,n,ne,nf,d⟩:=I.pin p hp
  have nch:p.1∉ch:=λz=>(hch p.1 z).2.2.2 p hp rfl
  exact ⟨keep p.1 p.2 ne nf nch e n,free p.1 p.2 nch e n,ne,nf,d⟩
theorem dP.un {t':Nat} (I:dP X pins σ H s) (u:Un X.fs [] H H' s.heap h') (hok:vX X.prog X.w H' h'):dP X pins σ H' { s with heap:=h',toks:=t' }:=by
 obtain ⟨m,⟨o,es,ep,ho,r⟩,_⟩:=id I.loc
 obtain ⟨sl,hL⟩:=u.any ho I.free (by simp)
 exact I.step (g':=s.gens) (d':=s.drawn) (ch:=[]) (λ_ z=>nomatch z) (λb o _ hb _ e n=>u.keep b o e n hb (by simp)) (λb o _ hb _ e n=>u.slot b o e n hb (by simp)) (λb o _ e n=>u.free b o e n (by simp)) (λb o _ e=>u.there b o e (by simp)) u.tups u.frzs u.tbls (λm' hm=>by
  obtain ⟨o',es',ep',ho',r'⟩:=hm
  rw [ho] at ho';cases ho'
  exact ⟨_,es',ep',hL,r'⟩) hok I.bare
theorem dP.call {g':Array GenState} {t':Nat} {d':Drawn} {ch:List Addr} (I:dP X pins σ H s) (u:Un (P3 X.stack) ch H H' s.heap h') (hok:vX X.prog X.w H' h') (hg:AllBare g')
  (hch:∀ b∈ch,(b∈X.ex\/X.s₀.heap.objs.size<=b)/\b≠X.env.locals/\(∀ x c,X.env.cells.lookup x=some c->c≠b)/\∀ p∈X.pn++pins,p.1≠b) :
  dP X pins σ H' { s with heap:=h',gens:=g',drawn:=d',toks:=t' }:=by
 obtain ⟨m,⟨o,es,ep,ho,r⟩,_⟩:=id I.loc
 obtain ⟨sl,hL⟩:=u.any ho I.free λz=>(hch _ z).2.1 rfl
 exact I.step (ch:=ch) hch (λb o hL hb hc e n=>u.keep b o e n (λz=>(aZ.mp (I.stkSub b z)).elim hL hb) hc) (λb o _ _ hc e n=>u.any e n hc) (λb o hc e n=>u.free b o e n hc) (λb o hc e=>u.there b o e hc) u.tups u.frzs u.tbls (λm' hm=>by
  obtain ⟨o',es',ep',ho',r'⟩:=hm
  rw [ho] at ho';cases ho'
  exact ⟨_,es',ep',hL,r'⟩) hok hg
theorem dP.turned {t':Nat} {it:Addr} (I:dP X pins σ H s) (k:∀ b o,b≠it->s.heap.get? b=some o->h'.get? b=some o) (hn:H it=none) (hL:it≠X.env.locals)
  (h1:it∈X.ex\/X.s₀.heap.objs.size<=it) (h2:∀ x c,X.env.cells.lookup x=some c->c≠it) (h3:∀ p∈X.pn++pins,p.1≠it):dP X pins σ H { s with heap:=h',toks:=t' }:=by
 have nit:∀ b u,H b=some u->b≠it:=λb u e z=>by rw [z,hn] at e;cases e
 refine I.step (g':=s.gens) (d':=s.drawn) (ch:=[it]) (λb hb=>?_) (λb o _ _ hc e _=>k b o (λz=>hc (by simp [z])) e) (λb o _ _ hc e _=>⟨o.slots,k b o (λz=>hc (by simp [z])) e⟩) (λ_ _ _ _ n=>n)
  (λb o hc e=>⟨o,k b o (λz=>hc (by simp [z])) e⟩) (λ_ _ e=>e) (λ_ _ _ e=>e) (λb ps e=>⟨#[],by rw [e];simp⟩) (λm hm=>?_) (λb u e=>?_) I.bare
 ·have e:b=it:=by simpa using hb
  subst e
  exact ⟨h1,hL,h2,h3⟩
 ·obtain ⟨o,es,ep,ho,r⟩:=hm
  exact ⟨o,es,ep,k _ o (Ne.symm hL) ho,r⟩
 ·refine (I.hok b u e).stay (λc v hc q=>k c v ?_ q) (λ_ q=>q) λ_ _ q=>q
  rcases hc with z | z
  ·rw [z];exact nit b u e
  ·exact nit c _ z
theorem dP.tok (I:dP X pins σ H s) (t:Nat):dP X pins σ H { s with toks:=t }:=I.un (h':=s.heap) (t':=t) Un.refl I.hok
theorem dP.kept {t':Nat} (I:dP X pins σ H s) (k:∀ b u,s.heap.get? b=some u->h'.get? b=some u):dP X pins σ H { s with heap:=h',toks:=t' }:=I.un (Un.kept k) (I.hok.kept k)
theorem dP.laid {a:Addr} {o:HO} {t':Nat} (I:dP X pins σ H s) (k:∀ b u,s.heap.get? b=some u->h'.get? b=some u) (hp:s.heap.objs.size<=a) (new:iJ X.prog X.w (fZ H a o) h' a o) :
  dP X pins σ (fZ H a o) { s with heap:=h',toks:=t' }:=I.un (Un.laid k hp (I.hok.fresh hp)) (I.hok.laid k hp new)
theorem dP.write {x e:Addr} {o:HO} {t':Nat} (I:dP X pins σ H s) (mu:Mut (H x)) (he:e=x\/H e=some (.own x)) (k:∀ b u,b≠e->s.heap.get? b=some u->h'.get? b=some u) (heo:∃ u,h'.get? e=some u)
  (new:iJ X.prog X.w (fZ H x o) h' x o):dP X pins σ (fZ H x o) { s with heap:=h',toks:=t' }:=I.un (Un.write mu he k heo) (I.hok.write mu he k heo new)
theorem dP.pins_of {pins':List (Addr×Obj)} (I:dP X pins σ H s) (h:∀ p∈pins',s.heap.get? p.1=some p.2/\H p.1=none/\p.1≠X.env.locals/\p.1∉X.fs/\∀ v,p.2.data≠.cell v):dP X pins' σ H s :=
 ⟨I.ok,I.os,I.bare,I.base,I.loc,I.cell,I.free,I.freeC,λp hp=>(eP.mp hp).elim (λz=>I.pin p (jF _ z)) (h p),I.hok,I.len⟩

theorem G6 {N:List Str} (hN:N.Nodup) {i j:Nat} {x:Str} (a:N[i]?=some x) (b:N[j]?=some x):i=j:=by
 obtain ⟨h1,e1⟩:=aG.mp a
 obtain ⟨h2,e2⟩:=aG.mp b
 exact (AV hN).mp (e1.trans e2.symm)

theorem C5 {M:Model} {A:Around} {E:Value->Shared->Prop} {i:Nat} {x:Str} {v:V} {u:Value} {Q:Unit->Shared->Prop} (I:dP X pins σ H s) (hN:X.N.Nodup) (hi:X.N[i]?=some x) (hx:NC X.env.scope x) (r:gC v u)
  (h:∀ s',dP X pins (σ.set i (some v)) H s'->(∃ a,cQ a s.heap s'.heap/\(a=X.env.locals\/X.env.cells.lookup x=some a))->Q () s') (hf:X.fn x=true\/X.env.scope.names.lookup x=some .local:=by first | exact .inl rfl | exact .inr rfl | assumption):wpAny M A (storeName X.env x u) Q E s:=by
 obtain ⟨m,hn,hl⟩:=id I.loc
 have hcls:(X.env.scope.kind == .class || (X.env.scope.kind == .module && X.env.locals != X.env.globals))=false:=by rw [I.ok.kind];rfl
 have hiσ:i<σ.length:=by rw [I.len];exact (aG.mp hi).1
 have cne:=I.cne
 have tracked:∀ {a:Addr} {h':Heap},(∃ o,s.heap.get? a=some o/\H a=none)->cQ a s.heap h'->vX X.prog X.w H h':=λ{a h'} ha hs b ob e=>by
  obtain ⟨_,_,hfree⟩:=ha
  refine (I.hok b ob e).stay (λc w' hc q=>(hs.2 c ?_).trans q) (λ_ q=>q) λ_ _ q=>q
  rintro rfl
  rcases hc with rfl | hc
  ·rw [hfree] at e;cases e
  ·rw [hfree] at hc;cases hc
 rcases hx with hk | hk
 ·refine wpAny_storeName_local hk hn (λh' hn' hs=>?_) hcls
  obtain ⟨oL,_,_,hoL,_⟩:=id hn
  refine h _ ⟨I.ok,I.os,I.bare,⟨λb o e n hb hx=>?_,λb o e n hb hx=>?_,I.base.free,λb o e hx=>?_,I.base.tups,I.base.frzs,I.base.tbls⟩,⟨_,hn',λj y v' e1 e2 e3=>?_⟩,λy c e=>?_,I.free,I.freeC,λp hp=>?_,tracked ⟨oL,hoL,I.free⟩ hs,by simpa using I.len⟩ ⟨_,hs,.inl rfl⟩
  ·exact (hs.2 b (bS (cV (bH e) I.ok.above))).trans (I.base.keep b o e n hb hx)
  ·obtain ⟨sl,e1⟩:=I.base.slot b o e n hb hx
   exact ⟨sl,(hs.2 b (bS (cV (bH e) I.ok.above))).trans e1⟩
  ·obtain ⟨o',e1⟩:=I.base.there b o e hx
   exact ⟨o',(hs.2 b (bS (cV (bH e) I.ok.above))).trans e1⟩
  ·by_cases hj:j=i
   ·subst hj
    rw [hi] at e1;cases e1
    rw [aY hiσ] at e2
    cases e2
    exact ⟨u,r,.inl ⟨hk,by simp⟩⟩
   ·rw [aW (Ne.symm hj)] at e2
    obtain ⟨u',r',q⟩:=hl j y v' e1 e2 e3
    refine ⟨u',r',?_⟩
    rcases q with ⟨k,e⟩ | ⟨k,c,e,z⟩
    ·refine .inl ⟨k,?_⟩
     have:y≠x:=λe=>hj (G6 hN e1 (e▸hi))
     simp [this,e]
    ·exact .inr ⟨k,c,e,z.sameBut hs (cne y c e)⟩
  ·obtain ⟨w',z⟩:=I.cell y c e
   exact ⟨w',z.sameBut hs (cne y c e)⟩
  ·obtain ⟨e,n,ne,nf,d⟩:=I.pin p hp
   exact ⟨(hs.2 p.1 ne).trans e,n,ne,nf,d⟩
 ·have hfn:X.fn x=true:=by
   rcases hf with z | z
   ·exact z
   ·rw [z] at hk;cases hk
  obtain ⟨c,hc⟩:=I.ok.has x (.inl hk)
  obtain ⟨w',z⟩:=I.cell x c hc
  refine wpAny_storeName_cell I.ok.kind hk hc z (λh' hc' hs=>?_)
  obtain ⟨oc,hoc,hocd⟩:=id z
  refine h { s with heap:=h' } ⟨I.ok,I.os,I.bare,⟨λb o e n hb hx=>?_,λb o e n hb hx=>?_,I.base.free,λb o e hx=>?_,I.base.tups,I.base.frzs,I.base.tbls⟩,⟨m,hn.sameBut hs (Ne.symm (cne x c hc)),λj y v' e1 e2 e3=>?_⟩,λy c' e=>?_,I.free,I.freeC,λp hp=>?_,tracked ⟨oc,hoc,I.freeC x c hc⟩ hs,by simpa using I.len⟩ ⟨c,hs,.inr hc⟩
  ·exact (hs.2 b (bS (cV (bH e) (I.ok.cab x c hfn hc)))).trans (I.base.keep b o e n hb hx)
  ·obtain ⟨sl,e1⟩:=I.base.slot b o e n hb hx
   exact ⟨sl,(hs.2 b (bS (cV (bH e) (I.ok.cab x c hfn hc)))).trans e1⟩
  ·obtain ⟨o',e1⟩:=I.base.there b o e hx
   exact ⟨o',(hs.2 b (bS (cV (bH e) (I.ok.cab x c hfn hc)))).trans e1⟩
  ·by_cases hj:j=i
   ·subst hj
    rw [hi] at e1;cases e1
    rw [aY hiσ] at e2
    cases e2
    exact ⟨u,r,.inr ⟨.inl hk,c,hc,hc'⟩⟩
   ·rw [aW (Ne.symm hj)] at e2
    obtain ⟨u',r',q⟩:=hl j y v' e1 e2 e3
    refine ⟨u',r',?_⟩
    rcases q with q | ⟨k,c',e,z'⟩
    ·exact .inl q
    ·refine .inr ⟨k,c',e,z'.sameBut hs ?_⟩
     rintro rfl
     exact hj (G6 hN e1 (I.ok.inj _ _ _ e hc▸hi))
  ·by_cases hcc:c'=c
   ·subst hcc;exact ⟨_,hc'⟩
   ·obtain ⟨w2,z2⟩:=I.cell y c' e
    exact ⟨w2,z2.sameBut hs hcc⟩
  ·obtain ⟨e,n,ne,nf,d⟩:=I.pin p hp
   refine ⟨(hs.2 p.1 ?_).trans e,n,ne,nf,d⟩
   intro q
   rw [q,hoc] at e
   have q':oc=p.2:=Option.some.inj e
   exact d w' (by rw [<- q'];exact hocd)
theorem GI {M:Model} {A:Around} {E:Value->Shared->Prop} {i:Nat} {x:Str} {v:V} {u:Value} {Q:Unit->Shared->Prop} (I:dP X pins σ H s) (hN:X.N.Nodup) (hi:X.N[i]?=some x) (hx:NC X.env.scope x) (r:gC v u)
  (h:∀ s',dP X pins (σ.set i (some v)) H s'->Q () s') (hf:X.fn x=true\/X.env.scope.names.lookup x=some .local:=by first | exact .inl rfl | exact .inr rfl | assumption):wpAny M A (storeName X.env x u) Q E s :=
 C5 I hN hi hx r (λs' I' _=>h s' I') hf
theorem dP.call' {s':Shared} {ch:List Addr} (I:dP X pins σ H s) (ho:s'.os=s.os) (u:Un (P3 X.stack) ch H H' s.heap s'.heap) (hok:vX X.prog X.w H' s'.heap) (hg:AllBare s'.gens)
  (hch:∀ b∈ch,(b∈X.ex\/X.s₀.heap.objs.size<=b)/\b≠X.env.locals/\(∀ x c,X.env.cells.lookup x=some c->c≠b)/\∀ p∈X.pn++pins,p.1≠b):dP X pins σ H' s':=by
 obtain ⟨h',g',d',t',o'⟩:=s'
 have e:o'=s.os:=ho
 subst e
 exact I.call (g':=g') (t':=t') (d':=d') u hok hg hch
end

abbrev XK:=Value->Option Addr->Hp->Prop
abbrev St:=List (Option V)
abbrev VK:=V->Hp->Prop
abbrev TE:=St->Hp->VK->Prop
abbrev TT:=St->Hp->(Bool->Hp->Prop)->Prop
abbrev TA:=St->Hp->(List V->Hp->Prop)->Prop
structure rT where
 nx:St->Hp->Prop
 rt:VK
 bk:St->Hp->Prop:=λ_ _=>False
 ct:St->Hp->Prop:=λ_ _=>False
abbrev TS:=rT->St->Hp->Prop

def EP (X:Cx) (pins:List (Addr×Obj)) (σ:St) (Q:VK) (u:Value) (s':Shared):Prop:=∃ v H',dP X pins σ H' s'/\gC v u/\Q v H'
def TP (X:Cx) (pins:List (Addr×Obj)) (σ:St) (Q:Bool->Hp->Prop) (b:Bool) (s':Shared):Prop:=∃ H',dP X pins σ H' s'/\Q b H'
def AP (X:Cx) (pins:List (Addr×Obj)) (σ:St) (Q:List V->Hp->Prop) (us:List Value) (s':Shared):Prop:=∃ vs H',dP X pins σ H' s'/\fG vs us/\Q vs H'
def SP (X:Cx) (pins:List (Addr×Obj)) (D:rT) (f:Flow) (s':Shared):Prop :=
 match f with
 | .next=>∃ σ' H',dP X pins σ' H' s'/\D.nx σ' H'
 | .brk=>∃ σ' H',dP X pins σ' H' s'/\D.bk σ' H'
 | .cont=>∃ σ' H',dP X pins σ' H' s'/\D.ct σ' H'
 | .ret u=>∃ v σ' H',dP X pins σ' H' s'/\gC v u/\D.rt v H'

def PE (X:Cx) (e:Expr) (t:TE):Prop :=
 ∀ (pins:List (Addr×Obj)) (s:Shared) (σ:St) (H:Hp) (Q:VK),dP X pins σ H s->t σ H Q->wpAny (model X.prog X.w) X.A (eval e X.env) (EP X pins σ Q) X.xe s
def PT (X:Cx) (e:Expr) (t:TT):Prop :=
 ∀ (pins:List (Addr×Obj)) (s:Shared) (σ:St) (H:Hp) (Q:Bool->Hp->Prop),dP X pins σ H s->t σ H Q->wpAny (model X.prog X.w) X.A (isTrue e X.env (eval e X.env)) (TP X pins σ Q) X.xe s
def PW (X:Cx) (e:Expr) (t:TT):Prop :=
 ∀ (whole:Sem Value) (pins:List (Addr×Obj)) (s:Shared) (σ:St) (H:Hp) (Q:Bool->Hp->Prop),dP X pins σ H s->t σ H Q->wpAny (model X.prog X.w) X.A (isTrue e X.env whole) (TP X pins σ Q) X.xe s
theorem PW.pt {X:Cx} {e:Expr} {t:TT} (h:PW X e t):PT X e t:=h _
def PA (X:Cx) (es:List Expr) (t:TA):Prop :=
 ∀ (pos:Pos) (pins:List (Addr×Obj)) (s:Shared) (σ:St) (H:Hp) (Q:List V->Hp->Prop),dP X pins σ H s->t σ H Q->wpAny (model X.prog X.w) X.A (spliced (backTo pos (bN es X.env))) (AP X pins σ Q) X.xe s
def PS (X:Cx) (st:Stmt) (t:TS):Prop :=
 ∀ (pins:List (Addr×Obj)) (s:Shared) (σ:St) (H:Hp) (D:rT),dP X pins σ H s->t D σ H->wpAny (model X.prog X.w) X.A (exec st X.env) (SP X pins D) X.xe s
def CQ (X:Cx) (st:List Stmt) (t:TS):Prop :=
 ∀ (pins:List (Addr×Obj)) (s:Shared) (σ:St) (H:Hp) (D:rT),dP X pins σ H s->t D σ H->wpAny (model X.prog X.w) X.A (execs st X.env) (SP X pins D) X.xe s
theorem iX {α:Type} {t:Sem α} {Q Q':α->Shared->Prop} {M:Model} {A:Around} {E:Value->Shared->Prop} {s:Shared} (h:wpAny M A t Q E s) (hQ:∀ a s,Q a s->Q' a s):wpAny M A t Q' E s:=gH h hQ λ_ _ x=>x
section
variable {X:Cx}

def oU (i:Nat):TE:=λσ H Q=>∃ v,σ[i]?=some (some v)/\Q v H
def tC (v:V):TE:=λ_ H Q=>Q v H
theorem R1 {i:Nat} {x:Str} {pos:Pos} (hN:X.N[i]?=some x) (hv:Vis X.env.scope x) (hd:(x == ("__debug__":Str))=false:=by decide) (hcd:(x == ("__classdict__":Str))=false:=by decide):PE X (.Name x pos) (oU i):=by
 intro pins s σ H Q I h
 obtain ⟨v,e,h⟩:=h
 obtain ⟨m,hn,hl⟩:=I.loc
 obtain ⟨u,r,l⟩:=hl i x v hN e hv
 have fin:EP X pins σ Q u s:=⟨v,H,I,r,h⟩
 rcases l with ⟨hk,hm⟩ | ⟨hk,c,hc,hcell⟩
 ·exact wpAny_Name (wpAny_loadName_local I.ok.kind hk hn hm fin) hd
 ·rcases hk with hk | hk
  ·exact wpAny_Name (wpAny_loadName_cell I.ok.kind hk hc hcell fin) hd
  ·exact wpAny_Name (wpAny_loadName_free I.ok.kind hk hc hcell fin hcd) hd
theorem E5 {i j pos}:PE X (.Constant (.int i) j pos) (tC (.int i)):=λ_ _ _ H _ I h=>wpAny_Constant_int ⟨.int i,H,I.tok _,⟨_,rfl⟩,h⟩
theorem aFm {b j pos}:PE X (.Constant (.bool b) j pos) (tC (.bl b)):=λ_ _ _ H _ I h=>Constant_bool ⟨.bl b,H,I,rfl,h⟩
theorem aCj {j pos}:PE X (.Constant .none j pos) (tC .non):=λ_ _ _ H _ I h=>Constant_none ⟨.non,H,I,rfl,h⟩
theorem oH {x j pos}:PE X (.Constant (.str x) j pos) (tC (.str x)):=λ_ _ _ H _ I h=>Calls.Constant_str ⟨.str x,H,I.tok _,⟨_,rfl⟩,h⟩

def Gl (X:Cx) (x:Str):Prop:=X.env.kindOf x=some .globalImplicit
theorem FC {E:Value->Shared->Prop} {pins:List (Addr×Obj)} {s:Shared} {σ:St} {H:Hp} {x:Str} {u:Value} {pos:Pos} {Q:Value->Shared->Prop} (I:dP X pins σ H s) (hg:Gl X x) (hm:X.mg x=some u) (h:Q u s)
  (hd:(x == ("__debug__":Str))=false:=by decide):wpAny (model X.prog X.w) X.A (eval (.Name x pos) X.env) Q E s :=
 Calls.Name_function_global I.ok.kind hg (Calls.loadGlobal_global (by rw [I.ok.glob];exact I.mod.glob.keeps I.bk) hm h) hd
theorem vJ {E:Value->Shared->Prop} {pins:List (Addr×Obj)} {s:Shared} {σ:St} {H:Hp} {x:Str} {u:Value} {pos:Pos} {Q:Value->Shared->Prop} (I:dP X pins σ H s) (hg:Gl X x) (hm:X.mg x=none) (hv:bootBuiltins x=some u) (h:Q u s)
  (hn:x≠"__name__":=by decide) (hd:(x == ("__debug__":Str))=false:=by decide):wpAny (model X.prog X.w) X.A (eval (.Name x pos) X.env) Q E s:=by
 obtain ⟨mb,h1,h2⟩:=I.mod.blt
 exact Calls.Name_function_global I.ok.kind hg (Calls.loadGlobal_builtin (by rw [I.ok.glob];exact I.mod.glob.keeps I.bk) hm (by rw [I.ok.blt];exact h1.keeps I.bk) ((h2 x hn).trans hv) h) hd
theorem L7 {x:Str} {v:V} {u:Value} {pos:Pos} (hg:Gl X x) (hm:X.mg x=some u) (r:gC v u) (hd:(x == ("__debug__":Str))=false:=by decide):PE X (.Name x pos) (tC v) :=
 λ_ _ _ H _ I h=>FC I hg hm ⟨v,H,I,r,h⟩ hd
theorem qY {x:Str} {v:V} {u:Value} {pos:Pos} (hg:Gl X x) (hm:X.mg x=none) (hv:bootBuiltins x=some u) (r:gC v u) (hn:x≠"__name__":=by decide) (hd:(x == ("__debug__":Str))=false:=by decide):PE X (.Name x pos) (tC v) :=
 λ_ _ _ H _ I h=>vJ I hg hm hv ⟨v,H,I,r,h⟩ hn hd

variable {a b:Expr} {ta tb:TE} {pos:Pos}
def tB (t:TE):TT:=λσ H Q=>t σ H λx H1=>∃ c,x=.bl c/\Q c H1
theorem RP {e:Expr} {t:TE} (h:PE X e t) (he:∀ whole,isTrue e X.env whole=(do let v <- whole;standAt e.pos;holding [v] (truthy v)):=by intro _;rfl):PT X e (tB t):=by
 intro pins s σ H Q I hw
 refine isTrue_plain (iX (h pins s σ H _ I hw) λv s1 ⟨x,H1,I1,r1,q1⟩=>?_) (he _)
 obtain ⟨d,rfl,q⟩:=q1
 cases r1
 exact wpAny_truthy_bool ⟨H1,I1,q⟩

variable {tA tB':TT} {rest:List Expr}
def aIt (t u:TT):TT:=λσ H Q=>t σ H λc H1=>if c=true then u σ H1 Q else Q false H1
def tOr (t u:TT):TT:=λσ H Q=>t σ H λc H1=>if c=true then Q true H1 else u σ H1 Q
def aIp (t:TT):TT:=λσ H Q=>t σ H λc H1=>Q (!c) H1
theorem LY (ha:PT X a tA):PW X (.BoolOp .And [a] pos) tA:=by
 intro wh pins s σ H Q I h
 refine isTrue_and (iX (ha pins s σ H Q I h) λc s1 e=>?_)
 cases c with
 | true=>exact isTrue_and_nil e
 | false=>exact e
theorem RM (ha:PT X a tA):PW X (.BoolOp .Or [a] pos) tA:=by
 intro wh pins s σ H Q I h
 refine isTrue_or (iX (ha pins s σ H Q I h) λc s1 e=>?_)
 cases c with
 | false=>exact isTrue_or_nil e
 | true=>exact e
theorem RN (ha:PT X a tA) (hb:PW X (.BoolOp .And (b::rest) pos) tB'):PW X (.BoolOp .And (a::b::rest) pos) (aIt tA tB'):=by
 intro wh pins s σ H Q I h
 refine isTrue_and (iX (ha pins s σ H _ I h) λc s1 ⟨H1,I1,q1⟩=>?_)
 cases c with
 | true=>exact hb wh pins s1 σ H1 Q I1 q1
 | false=>exact ⟨H1,I1,q1⟩
theorem aAo (ha:PT X a tA) (hb:PW X (.BoolOp .Or (b::rest) pos) tB'):PW X (.BoolOp .Or (a::b::rest) pos) (tOr tA tB'):=by
 intro wh pins s σ H Q I h
 refine isTrue_or (iX (ha pins s σ H _ I h) λc s1 ⟨H1,I1,q1⟩=>?_)
 cases c with
 | true=>exact ⟨H1,I1,q1⟩
 | false=>exact hb wh pins s1 σ H1 Q I1 q1
theorem aCe (ha:PT X a tA):PT X (.UnaryOp .Not a pos) (aIp tA):=by
 intro pins s σ H Q I h
 exact isTrue_not (ha pins s σ H (λc H1=>Q (!c) H1) I h)
def aEl (ta tb:TE):TE:=λσ H Q=>ta σ H λx H1=>∃ c,x=.bl c/\if c=true then tb σ H1 Q else Q (.bl false) H1
theorem aCi {op} {t:TE} (h:PE X a t):PE X (.BoolOp op [a] pos) t:=λpins s σ H Q I hw=>BoolOp_one (h pins s σ H Q I hw)
theorem aCl (ha:PE X a ta) (hb:PE X (.BoolOp .And (b::rest) pos) tb):PE X (.BoolOp .And (a::b::rest) pos) (aEl ta tb):=by
 intro pins s σ H Q I h
 refine BoolOp_and (iX (ha pins s σ H _ I h) λv s1 ⟨x,H1,I1,r1,q1⟩=>?_)
 obtain ⟨c,rfl,q1⟩:=q1
 cases r1
 refine wpAny_truthy_bool ?_
 cases c with
 | true=>exact hb pins s1 σ H1 Q I1 q1
 | false=>exact ⟨.bl false,H1,I1,rfl,q1⟩
def tIf (t:TT) (ta tb:TE):TE:=λσ H Q=>t σ H λc H1=>if c=true then ta σ H1 Q else tb σ H1 Q
theorem R5 {c:Expr} (hc:PT X c tA) (ha:PE X a ta) (hb:PE X b tb):PE X (.IfExp c a b pos) (tIf tA ta tb):=by
 intro pins s σ H Q I h
 refine wpAny_IfExp (iX (hc pins s σ H _ I h) λd s1 ⟨H1,I1,q1⟩=>?_)
 cases d with
 | true=>exact ha pins s1 σ H1 Q I1 q1
 | false=>exact hb pins s1 σ H1 Q I1 q1
end
end L2

namespace L2
open PySem PySem.Spec PyProof.Rows

def mK (K:aD) (H:Hp) (a:Addr) (xs:List V):Prop :=
 Rd H a (.lst xs) \/
  ∃ (o:Obj) (its:Array Value) (n:Nat),K.lookup a=some o/\o.cls=.type "list"/\o.dict=none/\o.data=.seq its n/\its.size<=bD/\fG xs its.toList
def rW (K:aD) (H:Hp) (a:Addr) (xs:List V):Prop :=
 Rd H a (.tup xs) \/
  ∃ (o:Obj) (its:Array Value) (n:Nat),K.lookup a=some o/\o.cls=.type "tuple"/\o.dict=none/\o.data=.seq its n/\its.size<=bD/\fG xs its.toList
def aKa:Value->Option V
 | .none=>some .non
 | .bool b=>some (.bl b)
 | .int i _=>some (.int i)
 | .str x _=>some (.str x)
 | .bytes b _=>some (.byt b)
 | .float b _=>some (.flt b)
 | .ref a=>some (.ref a)
 | .type n=>some (.ty n)
 | _=>none
theorem gC.abs {x:V} {u:Value} (r:gC x u):aKa u=some x:=by
 cases x with
 | non=>cases r;rfl
 | bl _=>cases r;rfl
 | int _=>obtain ⟨t,rfl⟩:=r;rfl
 | str _=>obtain ⟨t,rfl⟩:=r;rfl
 | byt _=>obtain ⟨t,rfl⟩:=r;rfl
 | flt _=>obtain ⟨t,rfl⟩:=r;rfl
 | ref _=>cases r;rfl
 | ty _=>cases r;rfl
theorem gC.inj {x y:V} {u:Value} (r:gC x u) (q:gC y u):x=y:=Option.some.inj (r.abs.symm.trans q.abs)
theorem fG.inj:∀ {xs ys:List V} {us:List Value},fG xs us->fG ys us->xs=ys
 | _,_,_,.nil,.nil=>rfl
 | _,_,_,.cons r t,.cons r' t'=>by rw [r.inj r',fG.inj t t']
section
variable {X:Cx} {pins:List (Addr×Obj)} {σ:St} {H:Hp} {s:Shared} {a:Addr} {xs ys:List V}
theorem mK.of {K:aD} (h:H a=some (.lst xs)):mK K H a xs:=.inl (.inl h)
theorem rW.of {K:aD} (h:H a=some (.tup xs)):rW K H a xs:=.inl (.inl h)
theorem dP.list (I:dP X pins σ H s) (h:mK X.K H a xs):∃ its:List Value,fG xs its/\PlainL s.heap a its.toArray/\xs.length<=bD:=by
 rcases h with h | ⟨o,its,n,hk,hc,hd,hs,hz,r⟩
 ·obtain ⟨z,its,n,r,e⟩:=h.ok I.hok
  exact ⟨its,r,⟨_,n,e,rfl,rfl,rfl⟩,z⟩
 ·refine ⟨its.toList,r,⟨o,n,I.kIn a o hk,hc,hd,by simpa using hs⟩,?_⟩
  have e:=r.length
  simp only [bP] at e
  omega
theorem dP.tuple (I:dP X pins σ H s) (h:rW X.K H a xs):∃ its:List Value,fG xs its/\IsTup s.heap a its.toArray/\xs.length<=bD:=by
 rcases h with h | ⟨o,its,n,hk,hc,_,hs,hz,r⟩
 ·obtain ⟨z,its,r,p⟩:=h.ok I.hok
  exact ⟨its,r,p.tup,z⟩
 ·refine ⟨its.toList,r,⟨o,I.kIn a o hk,hc,n,by simpa using hs⟩,?_⟩
  have e:=r.length
  simp only [bP] at e
  omega
theorem dP.tupleN (I:dP X pins σ H s) (h:rW X.K H a xs):∃ o,s.heap.get? a=some o/\o.cls=.type "tuple"/\o.dict=none:=by
 rcases h with h | ⟨o,its,n,hk,hc,hd,_⟩
 ·obtain ⟨z,its,r,⟨o,e,c,n,_,d⟩⟩:=h.ok I.hok
  exact ⟨o,e,c,d⟩
 ·exact ⟨o,I.kIn a o hk,hc,hd⟩
theorem dP.list_inj (I:dP X pins σ H s) (h:mK X.K H a xs) (h':mK X.K H a ys):xs=ys:=by
 obtain ⟨its,r,⟨o,n,e,_,_,d⟩,_⟩:=I.list h
 obtain ⟨its',r',⟨o',n',e',_,_,d'⟩,_⟩:=I.list h'
 rw [e] at e';cases e'
 rw [d] at d'
 injection d' with d1 _
 have:its=its':=by simpa using congrArg aEb d1
 subst this
 exact r.inj r'
theorem dP.tuple_inj (I:dP X pins σ H s) (h:rW X.K H a xs) (h':rW X.K H a ys):xs=ys:=by
 obtain ⟨its,r,⟨o,e,_,n,d⟩,_⟩:=I.tuple h
 obtain ⟨its',r',⟨o',e',_,n',d'⟩,_⟩:=I.tuple h'
 rw [e] at e';cases e'
 rw [d] at d'
 injection d' with d1 _
 have:its=its':=by simpa using congrArg aEb d1
 subst this
 exact r.inj r'
end

abbrev Cx.wish (X:Cx) (E:Value->Shared->Prop):Cx:={ X with xe:=E }
abbrev Cx.nox (X:Cx):Cx:=X.wish λ_ _=>False
theorem Cx.Ok.wish {X:Cx} (ok:X.Ok) (E:Value->Shared->Prop):(X.wish E).Ok :=
 ⟨ok.mod,ok.kind,ok.glob,ok.blt,ok.above,ok.inj,ok.has,ok.cab,ok.hd,ok.frames,ok.stk,ok.exf,ok.bs,ok.bsz,ok.noex,ok.exfs,ok.funs,ok.frf,ok.tab⟩
theorem Cx.Ok.unwish {X:Cx} {E:Value->Shared->Prop} (ok:(X.wish E).Ok):X.Ok :=
 ⟨ok.mod,ok.kind,ok.glob,ok.blt,ok.above,ok.inj,ok.has,ok.cab,ok.hd,ok.frames,ok.stk,ok.exf,ok.bs,ok.bsz,ok.noex,ok.exfs,ok.funs,ok.frf,ok.tab⟩
section
variable {X:Cx} {pins:List (Addr×Obj)} {σ:St} {H:Hp} {s:Shared} {E:Value->Shared->Prop}
theorem dP.wish (I:dP X pins σ H s) (E:Value->Shared->Prop):dP (X.wish E) pins σ H s:=⟨I.ok.wish E,I.os,I.bare,I.base,I.loc,I.cell,I.free,I.freeC,I.pin,I.hok,I.len⟩
theorem dP.unwish (I:dP (X.wish E) pins σ H s):dP X pins σ H s:=⟨I.ok.unwish,I.os,I.bare,I.base,I.loc,I.cell,I.free,I.freeC,I.pin,I.hok,I.len⟩
theorem SP.unwish {D:rT} {f:Flow} {s':Shared} (h:SP (X.wish E) pins D f s'):SP X pins D f s':=by
 cases f with
 | next=>obtain ⟨σ',H',I,q⟩:=h;exact ⟨σ',H',I.unwish,q⟩
 | brk=>obtain ⟨σ',H',I,q⟩:=h;exact ⟨σ',H',I.unwish,q⟩
 | cont=>obtain ⟨σ',H',I,q⟩:=h;exact ⟨σ',H',I.unwish,q⟩
 | ret u=>obtain ⟨v,σ',H',I,r,q⟩:=h;exact ⟨v,σ',H',I.unwish,r,q⟩
theorem PE.nox {e:Expr} {t:TE} (h:PE X.nox e t):PE X e t:=λpins s σ H Q I hw =>
 gH (h pins s σ H Q (I.wish _) hw) (λ_ _ ⟨v,H',I',r,q⟩=>⟨v,H',I'.unwish,r,q⟩) λ_ _ z=>False.elim z
theorem PT.nox {e:Expr} {t:TT} (h:PT X.nox e t):PT X e t:=λpins s σ H Q I hw =>
 gH (h pins s σ H Q (I.wish _) hw) (λ_ _ ⟨H',I',q⟩=>⟨H',I'.unwish,q⟩) λ_ _ z=>False.elim z
theorem CQ.nox {st:List Stmt} {t:TS} (h:CQ X.nox st t):CQ X st t:=λpins s σ H D I hw =>
 gH (h pins s σ H D (I.wish _) hw) (λ_ _ q=>q.unwish) λ_ _ z=>False.elim z
end

section
variable {X:Cx} {st:Stmt} {rest:List Stmt} {t u:TS} {e:Expr} {te:TE} {pos:Pos}
def aEj:TS:=λD σ H=>D.nx σ H
def aIn (t u:TS):TS:=λD σ H=>t { D with nx:=u D } σ H
theorem AB:CQ X [] aEj:=λ_ _ σ H _ I h=>wpAny_execs_nil ⟨σ,H,I,h⟩
theorem lC (h1:PS X st t) (h2:CQ X rest u):CQ X (st::rest) (aIn t u):=by
 intro pins s σ H D I h
 refine wpAny_execs_cons (iX (h1 pins s σ H { D with nx:=u D } I h) λf s1 q=>?_)
 cases f with
 | next =>
  obtain ⟨σ',H',I',q⟩:=q
  exact h2 pins s1 σ' H' D I' q
 | ret v=>exact q
 | brk=>exact q
 | cont=>exact q
theorem wO (h1:PS X st t):CQ X [st] t:=by
 intro pins s σ H D I h
 refine wpAny_execs_cons (iX (h1 pins s σ H D I h) λf s1 q=>?_)
 cases f with
 | next=>exact wpAny_execs_nil q
 | ret v=>exact q
 | brk=>exact q
 | cont=>exact q
theorem dP.quiet {pins:List (Addr×Obj)} {σ:St} {H:Hp} {s:Shared} (I:dP X pins σ H s):interactive X.env=false:=by simp [interactive,I.ok.kind]
def LF (te:TE):TS:=λD σ H=>te σ H λ_ H1=>D.nx σ H1
theorem pD (he:PE X e te) (hs:gT e none pos.line X.env=pure false:=by rfl):PS X (.Expr e pos) (LF te):=by
 intro pins s σ H D I h
 exact wpAny_Expr_any (iX (he pins s σ H _ I h) λv s1 ⟨x,H1,I1,r1,q1⟩=>⟨σ,H1,I1,q1⟩) I.quiet hs
def aIo (te:TE):TS:=λD σ H=>te σ H D.rt
theorem vE (he:PE X e te):PS X (.Return (some e) pos) (aIo te):=by
 intro pins s σ H D I h
 exact wpAny_Return_some (iX (he pins s σ H _ I h) λv s1 ⟨x,H1,I1,r1,q1⟩=>⟨x,σ,H1,I1,r1,q1⟩)
def aIr (c:TT) (t u:TS):TS:=λD σ H=>c σ H λb H1=>if b=true then t D σ H1 else u D σ H1
theorem RS {c:Expr} {a b:List Stmt} {tc:TT} (hc:PT X c tc) (ha:CQ X a t) (hb:CQ X b u):PS X (.If c a b pos) (aIr tc t u):=by
 intro pins s σ H D I h
 refine wpAny_If (iX (hc pins s σ H _ I h) λd s1 ⟨H1,I1,q1⟩=>?_)
 cases d with
 | true=>exact ha pins s1 σ H1 D I1 q1
 | false=>exact hb pins s1 σ H1 D I1 q1
end

abbrev TG:=V->St->Hp->(St->Hp->Prop)->Prop
abbrev TGs:=List V->St->Hp->(St->Hp->Prop)->Prop
def PG (X:Cx) (target:Expr) (t:TG):Prop :=
 ∀ (pins:List (Addr×Obj)) (s:Shared) (σ:St) (H:Hp) (v:V) (u:Value) (Q:St->Hp->Prop),dP X pins σ H s->gC v u->t v σ H Q ->
  wpAny (model X.prog X.w) X.A (assign target X.env u) (λ_ s'=>∃ σ' H',dP X pins σ' H' s'/\Q σ' H') X.xe s
def PGs (X:Cx) (ts:List Expr) (t:TGs):Prop :=
 ∀ (pins:List (Addr×Obj)) (s:Shared) (σ:St) (H:Hp) (vs:List V) (us:List Value) (Q:St->Hp->Prop),dP X pins σ H s->fG vs us->t vs σ H Q ->
  wpAny (model X.prog X.w) X.A (assignInOrder ((assignEach ts X.env).map (·.2)) us) (λ_ s'=>∃ σ' H',dP X pins σ' H' s'/\Q σ' H') X.xe s
section
variable {X:Cx} {pos:Pos}
def jE (i:Nat):TG:=λv σ H Q=>Q (σ.set i (some v)) H
theorem L5 {i:Nat} {x:Str} (hN:X.N.Nodup) (hi:X.N[i]?=some x) (hx:NC X.env.scope x) (hf:X.fn x=true\/X.env.scope.names.lookup x=some .local:=by first | exact .inl rfl | exact .inr rfl | assumption):PG X (.Name x pos) (jE i):=by
 intro pins s σ H v u Q I r h
 exact wpAny_assign_Name (GI I hN hi hx r (λs' I'=>⟨_,H,I',h⟩) hf)
def XO:TGs:=λvs σ H Q=>vs=[]/\Q σ H
def uV (t:TG) (u:TGs):TGs:=λvs σ H Q=>∃ v r,vs=v::r/\t v σ H λσ' H'=>u r σ' H' Q
theorem lL:PGs X [] XO:=by
 intro pins s σ H vs us Q I r h
 obtain ⟨e,h⟩:=h
 subst e
 cases r
 exact assignInOrder_nil ⟨σ,H,I,h⟩
theorem dX {e:Expr} {es:List Expr} {t:TG} {u:TGs} (h1:PG X e t) (h2:PGs X es u)
  (hs:(assignEach (e::es) X.env).map (·.2)=assign e X.env::(assignEach es X.env).map (·.2):=by rfl):PGs X (e::es) (uV t u):=by
 intro pins s σ H vs us Q I r h
 obtain ⟨v,vr,e1,h⟩:=h
 subst e1
 cases r with
 | cons r rr =>
  rw [hs]
  refine assignInOrder_cons (iX (h1 pins s σ H _ _ _ I r h) λ_ s1 ⟨σ1,H1,I1,q1⟩=>?_)
  exact h2 pins s1 σ1 H1 _ _ Q I1 rr q1
def XN (K:aD) (n:Nat) (t:TGs):TG:=λv σ H Q=>∃ a xs,v=.ref a/\rW K H a xs/\xs.length=n/\t xs σ H Q
theorem nJ {es:List Expr} {k:Nat} {t:TGs} {n:Nat} (hc:X.calm=true) (h:PGs X es t)
  (hn:(assignEach es X.env).length=n:=by rfl) (hst:(assignEach es X.env).findIdx? (·.1)=none:=by rfl):PG X (.Tuple es k pos) (XN X.K n t):=by
 intro pins s σ H v u Q I r hw
 obtain ⟨a,xs,e1,hq,hl,hw⟩:=hw
 subst e1
 cases r
 obtain ⟨its,rv,ht,hz⟩:=I.tuple hq
 refine assign_Tuple_tuple (I.ok.hd hc) ht (by simp [hn,<- hl,rv.length]) hst λh' hx=>?_
 have I1:dP X pins σ H { s with heap:=h' }:=I.kept (t':=s.toks) λb o e=>hx b o (bS (bH e)) e
 exact h pins _ σ H xs _ Q I1 (by simpa using rv) hw
def rQ (te:TE) (g:TG):TS:=λD σ H=>te σ H λx H1=>g x σ H1 D.nx
theorem E4 {tg e:Expr} {te:TE} {g:TG} (he:PE X e te) (hg:PG X tg g) (hs:swapsWithSole [tg] e pos.line X.env=pure false:=by rfl) (hw:swappedStores [tg] e X.env=pure none:=by rfl)
  (h1:(assignEach [tg] X.env).map (·.2)=[assign tg X.env]:=by rfl):PS X (.Assign [tg] e pos) (rQ te g):=by
 intro pins s σ H D I h
 refine wpAny_Assign_stores (iX (he pins s σ H _ I h) λv s1 ⟨x,H1,I1,r1,q1⟩=>?_) hs hw
 rw [h1]
 exact iX (hg pins s1 σ H1 x v _ I1 r1 q1) λ_ s2 q=>q
theorem pQ {i:Nat} {x:Str} {e:Expr} {te:TE} {pos':Pos} (hN:X.N.Nodup) (hi:X.N[i]?=some x) (hx:NC X.env.scope x) (he:PE X e te) (hs:gT e (some (.Name x pos')) pos.line X.env=pure false:=by rfl) (hf:X.fn x=true\/X.env.scope.names.lookup x=some .local:=by first | exact .inl rfl | exact .inr rfl | assumption) :
  PS X (.Assign [.Name x pos'] e pos) (rQ te (jE i)):=by
 intro pins s σ H D I h
 refine wpAny_Assign_Name (iX (he pins s σ H _ I h) λv s1 ⟨y,H1,I1,r1,q1⟩=>?_) hs
 exact GI I1 hN hi hx r1 (λs2 I2=>⟨_,H1,I2,q1⟩) hf
end

section
variable {X:Cx} {pos:Pos}
end

structure It where
 go:Nat->Hp->Prop
 yld:Nat->Hp->V->Hp->Prop
 stop:Nat->Hp->Prop
def CA (X:Cx) (pins:List (Addr×Obj)) (H:Hp) (b:Addr):Prop :=
 H b=none/\b≠X.env.locals/\b∉X.fs/\(b∈X.ex\/X.s₀.heap.objs.size<=b)/\(∀ x c,X.env.cells.lookup x=some c->c≠b)/\∀ p∈X.pn++pins,p.1≠b
theorem dP.fpOk {X:Cx} {pins:List (Addr×Obj)} {σ:St} {H H':Hp} {s:Shared} {b:Addr} (I:dP X pins σ H s) (hb:s.heap.objs.size<=b) (hn:H' b=none):CA X pins H' b:=by
 refine ⟨hn,fS (cV I.lt hb),I.nofs hb,.inr (cM I.sz hb),λx c e z=>?_,λp hp z=>?_⟩
 ·obtain ⟨v,q⟩:=I.cell x c e
  exact absurd (cV q.lt (by rw [z];exact hb)) (iQ _)
 ·exact absurd (cV (bH (I.pin p hp).1) (by rw [z];exact hb)) (iQ _)
structure CP (P:bF) (w:World) (K:aD) (tg:Expr) (J:It) (fp:List Addr) (it:Addr) (tn:Nat->Heap->Prop):Prop where
 mem:it∈fp
 obj:∀ i h,tn i h->∀ b∈fp,∃ o,h.get? b=some o/\∀ v,o.data≠.cell v
 keep:∀ i h h',tn i h->(∀ b∈fp,∀ o,h.get? b=some o->h'.get? b=some o)->tn i h'
 item:∀ (X:Cx),X.prog=P->X.w=w->X.K=K->X.calm=true->∀ (i:Nat) (pins:List (Addr×Obj)) (s:Shared) (σ:St) (H:Hp) (E:Value->Shared->Prop),dP X pins σ H s->(∀ b∈fp,CA X pins H b)->tn i s.heap->J.go i H ->
  wpAny (model P w) X.A (pyNext (.ref it)) (λr s1=>∃ u,r=some u /\
   wpAny (model P w) X.A (letOwnedTupleGo tg (.ref it) u) (λ_ s2=>∃ x H',dP X pins σ H' s2/\gC x u/\J.yld i H x H'/\tn (i+1) s2.heap/\∀ b∈fp,H' b=none) E s1) E s
 done:∀ (X:Cx),X.prog=P->X.w=w->X.K=K->X.calm=true->∀ (i:Nat) (pins:List (Addr×Obj)) (s:Shared) (σ:St) (H:Hp) (E:Value->Shared->Prop),dP X pins σ H s->(∀ b∈fp,CA X pins H b)->tn i s.heap->J.stop i H ->
  wpAny (model P w) X.A (pyNext (.ref it)) (λr s1=>r=none/\dP X pins σ H s1) E s
 self:∀ (A:Around) (i:Nat) (s:Shared) (Q:Value->Shared->Prop) (E:Value->Shared->Prop),tn i s.heap->Q (.ref it) s->wpAny (model P w) A (pyIter (.ref it)) Q E s
abbrev TI:=St->Hp->(It->Hp->Prop)->Prop
def PIE (X:Cx) (pins:List (Addr×Obj)) (σ:St) (tg:Expr) (R:It->Hp->Prop) (itv:Value) (s2:Shared):Prop :=
 ∃ (it:Addr) (fp:List Addr) (tn:Nat->Heap->Prop) (J:It) (H':Hp),itv=.ref it/\dP X pins σ H' s2/\CP X.prog X.w X.K tg J fp it tn/\tn 0 s2.heap/\(∀ b∈fp,CA X pins H' b)/\R J H'
def PI (X:Cx) (tg iter:Expr) (wi:TI):Prop :=
 ∀ (pins:List (Addr×Obj)) (s:Shared) (σ:St) (H:Hp) (R:It->Hp->Prop),dP X pins σ H s->wi σ H R ->
  wpAny (model X.prog X.w) X.A (eval iter X.env) (λv s1=>wpAny (model X.prog X.w) X.A (pyIter v) (PIE X pins σ tg R) X.xe s1) X.xe s

theorem DQ {M:Model} {A:Around} {E:Value->Shared->Prop} {s:Shared} {tg:Expr} {it:Addr} {u:Value} {o:Obj} {n:String} {vs:Array Value} {Q:Unit->Shared->Prop} (ho:s.heap.get? it=some o) (hc:o.cls=.type n) (hd:o.data=.fields vs)
  (hn:["enumerate","zip","dict_itemiterator","dict_reverseitemiterator","odict_iterator","itertools.zip_longest","itertools.pairwise"].contains n=false) (hQ:Q () s):wpAny M A (letOwnedTupleGo tg (.ref it) u) Q E s:=by
 unfold letOwnedTupleGo
 cases tg<;>first
  | exact aF hQ
  | (cases u<;>first
    | exact aF hQ
    | (refine aA (wpAny_load ho ?_)
       rw [hc,hd]
       show wpAny M A (if (["enumerate","zip","dict_itemiterator","dict_reverseitemiterator","odict_iterator","itertools.zip_longest","itertools.pairwise"].contains n && vs[0]? == some (rawInt _))=true then _ else _) Q E s
       rw [if_neg (by intro h;rw [hn,Bool.false_and] at h;cases h)]
       exact aF hQ))

def Itl (K:aD) (a:Addr):It :=
 ⟨λi H=>∃ xs x,mK K H a xs/\xs[i]?=some x,λi H x H'=>H'=H/\∀ xs,mK K H a xs->xs[i]?=some x,λi H=>∃ xs,mK K H a xs/\xs.length<=i⟩
def Itt (K:aD) (a:Addr):It :=
 ⟨λi H=>∃ xs x,rW K H a xs/\xs[i]?=some x,λi H x H'=>H'=H/\∀ xs,rW K H a xs->xs[i]?=some x,λi H=>∃ xs,rW K H a xs/\xs.length<=i⟩
def Itr (lo:Int) (n:Nat):It:=⟨λi _=>i<n,λi H x H'=>H'=H/\x=.int (lo+i),λi _=>n<=i⟩
theorem NO {P:bF} {w:World} {K:aD} {tg:Expr} (a it:Addr):CP P w K tg (Itl K a) [it] it (λi h=>h.IsListIter it a i) where
 mem:=by simp
 obj:=λi h st b hb=>by
  have e:b=it:=by simpa using hb
  subst e
  obtain ⟨o,e,c,d⟩:=st
  exact ⟨o,e,λv z=>by rw [d] at z;cases z⟩
 keep:=λi h h' st k=>st.at λo e=>k it (by simp) o e
 item:=by
  intro X hP hw hK hc i pins s σ H E I hf st hg
  subst hP hw hK
  obtain ⟨xs,x,hq,hx⟩:=hg
  obtain ⟨its,rv,p,hz⟩:=I.list hq
  obtain ⟨u,hu,ru⟩:=rv.get hx
  obtain ⟨f0,f1,f2,f3,f4,f5⟩:=hf it (by simp)
  refine wpAny_pyNext_list_item st p.isList (x:=u) (by simpa using hu) λh' st' sb=>?_
  have I1:dP X pins σ H { s with heap:=h' }:=I.turned (t':=s.toks) (λb o hb e=>(sb.2 b hb).trans e) f0 f1 f3 f4 f5
  obtain ⟨o,e,c,d⟩:=id st'
  exact ⟨u,rfl,DQ (s:={ s with heap:=h' }) e c d (by decide) ⟨x,H,I1,ru,⟨rfl,λys hy=>by rw [I.list_inj hy hq];exact hx⟩,st',λb hb=>(hf b hb).1⟩⟩
 done:=by
  intro X hP hw hK hc i pins s σ H E I hf st hg
  subst hP hw hK
  obtain ⟨xs,hq,hx⟩:=hg
  obtain ⟨its,rv,p,hz⟩:=I.list hq
  obtain ⟨f0,f1,f2,f3,f4,f5⟩:=hf it (by simp)
  have hl:=rv.length
  exact wpAny_pyNext_list_end (I.ok.hd hc) st p.isList (by simp;omega) λh' eb=>⟨rfl,I.turned (t':=s.toks) (λb o hb e=>eb b o hb e) f0 f1 f3 f4 f5⟩
 self:=λ_ _ _ _ _ st h=>wpAny_pyIter_listiter st h
theorem IU {P:bF} {w:World} {K:aD} {tg:Expr} (a it:Addr):CP P w K tg (Itt K a) [it] it (λi h=>h.IsTupleIter it a i) where
 mem:=by simp
 obj:=λi h st b hb=>by
  have e:b=it:=by simpa using hb
  subst e
  obtain ⟨o,e,c,d⟩:=st
  exact ⟨o,e,λv z=>by rw [d] at z;cases z⟩
 keep:=λi h h' st k=>st.at λo e=>k it (by simp) o e
 item:=by
  intro X hP hw hK hc i pins s σ H E I hf st hg
  subst hP hw hK
  obtain ⟨xs,x,hq,hx⟩:=hg
  obtain ⟨its,rv,p,hz⟩:=I.tuple hq
  obtain ⟨u,hu,ru⟩:=rv.get hx
  obtain ⟨f0,f1,f2,f3,f4,f5⟩:=hf it (by simp)
  refine wpAny_pyNext_tuple_item st (show s.heap.IsTuple a its.toArray from p) (x:=u) (by simpa using hu) λh' st' sb=>?_
  have I1:dP X pins σ H { s with heap:=h' }:=I.turned (t':=s.toks) (λb o hb e=>(sb.2 b hb).trans e) f0 f1 f3 f4 f5
  obtain ⟨o,e,c,d⟩:=id st'
  exact ⟨u,rfl,DQ (s:={ s with heap:=h' }) e c d (by decide) ⟨x,H,I1,ru,⟨rfl,λys hy=>by rw [I.tuple_inj hy hq];exact hx⟩,st',λb hb=>(hf b hb).1⟩⟩
 done:=by
  intro X hP hw hK hc i pins s σ H E I hf st hg
  subst hP hw hK
  obtain ⟨xs,hq,hx⟩:=hg
  obtain ⟨its,rv,p,hz⟩:=I.tuple hq
  obtain ⟨f0,f1,f2,f3,f4,f5⟩:=hf it (by simp)
  have hl:=rv.length
  exact wpAny_pyNext_tuple_end (I.ok.hd hc) st (show s.heap.IsTuple a its.toArray from p) (by simp;omega) λh' eb=>⟨rfl,I.turned (t':=s.toks) (λb o hb e=>eb b o hb e) f0 f1 f3 f4 f5⟩
 self:=λ_ _ _ _ _ st h=>wpAny_pyIter_tupleiter st h
theorem IV {P:bF} {w:World} {K:aD} {tg:Expr} (it:Addr) (lo:Int) (n:Nat):CP P w K tg (Itr lo n) [it] it (λi h=>IsRangeIter h it (lo+(i:Nat)*1) ((n:Int)-(i:Nat)) 1) where
 mem:=by simp
 obj:=λi h st b hb=>by
  have e:b=it:=by simpa using hb
  subst e
  exact ⟨_,st,λv z=>by
   have z':Data.fields _=Data.cell v:=z
   cases z'⟩
 keep:=λi h h' st k=>k it (by simp) _ st
 item:=by
  intro X hP hw hK hc i pins s σ H E I hf st hg
  subst hP hw hK
  obtain ⟨f0,f1,f2,f3,f4,f5⟩:=hf it (by simp)
  have W:=Walks.range (prog:=X.prog) (w:=X.w) (I.ok.hd hc) it lo 1 n
  refine W.item i s _ _ hg st λv h' tk hv st' kk=>?_
  obtain ⟨t,rfl⟩:=hv
  have I1:dP X pins σ H { s with heap:=h',toks:=tk }:=I.turned (λb o hb e=>kk b o (by simpa using hb) e) f0 f1 f3 f4 f5
  refine ⟨_,rfl,DQ (s:={ s with heap:=h',toks:=tk }) (n:="range_iterator") st' rfl rfl (by decide) ⟨.int (lo+i),H,I1,⟨t,?_⟩,⟨rfl,rfl⟩,st',λb hb=>(hf b hb).1⟩⟩
  rw [PZ]
 done:=by
  intro X hP hw hK hc i pins s σ H E I hf st hg
  subst hP hw hK
  obtain ⟨f0,f1,f2,f3,f4,f5⟩:=hf it (by simp)
  exact wpAny_pyNext_range_end (I.ok.hd hc) st (by have:n<=i:=hg;omega) λh' eb=>⟨rfl,I.turned (t':=s.toks) (λb o hb e=>eb b o hb e) f0 f1 f3 f4 f5⟩
 self:=λ_ _ _ _ _ st h=>wpAny_pyIter_rangeiter st h
section
variable {X:Cx} {tg:Expr}
theorem GW {pins:List (Addr×Obj)} {σ:St} {H:Hp} {s:Shared} {R:It->Hp->Prop} {E:Value->Shared->Prop} {lo hi:Int} {t u v:Tok} {tk:Nat} (I:dP X pins σ H s) (h1:-(2 ^ 62)<=lo) (h2:lo<2 ^ 62) (h3:-(2 ^ 62)<=hi) (h4:hi<2 ^ 62)
  (q:R (Itr lo (hi-lo).toNat) H):wpAny (model X.prog X.w) X.A (pyIter (.ref s.heap.objs.size)) (PIE X pins σ tg R) E { s with heap:=s.heap.push { cls:=.type "range",data:=.fields #[.int lo t,.int hi u,.int 1 v] },toks:=tk }:=by
 refine wpAny_pyIter_range (IsRange.new ..) (small_one h1 h2 h3 h4) ?_
 have I1:dP X pins σ H { s with heap:=s.heap.push { cls:=.type "range",data:=.fields #[.int lo t,.int hi u,.int 1 v] },toks:=tk }:=I.kept λb o e=>aJ _ e
 refine ⟨(s.heap.push { cls:=.type "range",data:=.fields #[.int lo t,.int hi u,.int 1 v] }).objs.size,[(s.heap.push { cls:=.type "range",data:=.fields #[.int lo t,.int hi u,.int 1 v] }).objs.size],_,_,H,rfl,
  I1.kept (t':=tk) λb o e=>aJ _ e,IV _ lo (hi-lo).toNat,?_,λb hb=>?_,q⟩
 ·have e1:lo+((0:Nat):Int)*1=lo:=by simp
  have e2:(((hi-lo).toNat:Nat):Int)-((0:Nat):Int)=Builtin.Range.rangeSize lo hi 1:=by rw [rangeSize_one];split<;>omega
  show IsRangeIter _ _ (lo+((0:Nat):Int)*1) ((((hi-lo).toNat:Nat):Int)-((0:Nat):Int)) 1
  rw [e1,e2]
  exact aR _ rfl
 ·have e:b=(s.heap.push { cls:=.type "range",data:=.fields #[.int lo t,.int hi u,.int 1 v] }).objs.size:=by simpa using hb
  subst e
  exact I1.fpOk (aL _) (I1.hok.fresh (aL _))
def aAs (ta:TA):TI:=λσ H R=>ta σ H λvs H1=>∃ j:Int,vs=[.int j]/\-(2 ^ 62)<=j/\j<2 ^ 62/\R (Itr 0 j.toNat) H1
def aAr (ta:TA):TI:=λσ H R=>ta σ H λvs H1=>∃ i j:Int,vs=[.int i,.int j]/\(-(2 ^ 62)<=i/\i<2 ^ 62/\-(2 ^ 62)<=j/\j<2 ^ 62)/\R (Itr i (j-i).toNat) H1
theorem nX {a:Expr} {ta:TA} {p pos:Pos} (hg:Gl X "range") (hm:X.mg "range"=none) (ha:PA X [a] ta) (hs:bN [a] X.env=[(false,eval a X.env)]:=by rfl):PI X tg (.Call (.Name "range" p) [a] [] pos) (aAs ta):=by
 intro pins s σ H R I h
 refine Call_ (vJ I hg hm boot_range (PyProof.Rows.callWith_type1 (iX (ha pos pins s σ H _ I h) λus s1 ⟨vs,H1,I1,r1,q1⟩=>?_) hs rfl))
 obtain ⟨j,e,q1,q2,q⟩:=q1
 subst e
 cases r1 with
 | cons r rr =>
  cases rr
  obtain ⟨t,rfl⟩:=r
  exact call_range_1 (GW I1 (by omega) (by omega) q1 q2 (by simpa using q))
theorem N2 {a b:Expr} {ta:TA} {p pos:Pos} (hg:Gl X "range") (hm:X.mg "range"=none) (ha:PA X [a,b] ta) (hs:bN [a,b] X.env=[(false,eval a X.env),(false,eval b X.env)]:=by rfl) (hs2:bN [b] X.env=[(false,eval b X.env)]:=by rfl) :
  PI X tg (.Call (.Name "range" p) [a,b] [] pos) (aAr ta):=by
 intro pins s σ H R I h
 refine Call_ (vJ I hg hm boot_range (PyProof.Rows.callWith_type1 (iX (ha pos pins s σ H _ I h) λus s1 ⟨vs,H1,I1,r1,q1⟩=>?_) (by rw [hs,hs2]) (by rw [hs2];rfl)))
 obtain ⟨i,j,e,⟨q1,q2,q3,q4⟩,q⟩:=q1
 subst e
 cases r1 with
 | cons r rr =>
  cases rr with
  | cons r' rr =>
   cases rr
   obtain ⟨t,rfl⟩:=r
   obtain ⟨t',rfl⟩:=r'
   exact call_range_2 (GW I1 q1 q2 q3 q4 q)

def aBq (wi:TI) (g:TG) (tb:TS):TS:=λD σ H=>wi σ H λJ H1=>∃ W:Nat->Nat->St->Hp->Prop,(∃ m,W 0 m σ H1)/\∀ i m σ H,W i m σ H ->
 (J.stop i H/\D.nx σ H)\/(J.go i H/\∃ N:St->Hp->Prop,(∀ σ' H',N σ' H'->∃ m',m'<m/\W (i+1) m' σ' H')/\∀ x H',J.yld i H x H'->g x σ H' λσ2 H2=>tb { D with nx:=N,ct:=N,bk:=D.nx } σ2 H2)
def BD (fp:List Addr) (h:Heap):List (Addr×Obj):=fp.filterMap λb=>(h.get? b).map λo=>(b,o)
theorem rB {fp:List Addr} {h:Heap} {b:Addr} {o:Obj} (hb:b∈fp) (e:h.get? b=some o):(b,o)∈BD fp h:=pJ.mpr ⟨b,hb,by rw [e];rfl⟩
theorem OC {fp:List Addr} {h:Heap} {p:Addr×Obj} (hp:p∈BD fp h):p.1∈fp/\h.get? p.1=some p.2:=by
 obtain ⟨b,hb,e⟩:=pJ.mp hp
 cases q:h.get? b with
 | none=>rw [q] at e;cases e
 | some o =>
  rw [q] at e
  have e':(b,o)=p:=Option.some.inj e
  subst e'
  exact ⟨hb,q⟩
theorem dP.pinned {pins:List (Addr×Obj)} {σ:St} {H:Hp} {s:Shared} {fp:List Addr} (I:dP X pins σ H s) (hf:∀ b∈fp,CA X pins H b) (ho:∀ b∈fp,∃ o,s.heap.get? b=some o/\∀ v,o.data≠.cell v):dP X (pins++BD fp s.heap) σ H s :=
 I.pins_of λp hp=>(eP.mp hp).elim (λz=>I.pin p (dU _ z)) λz=>by
  obtain ⟨hb,e⟩:=OC z
  obtain ⟨f0,f1,f2,_⟩:=hf p.1 hb
  obtain ⟨o,e',d⟩:=ho p.1 hb
  rw [e] at e';cases e'
  exact ⟨e,f0,f1,f2,d⟩
theorem dP.unpinned {pins pl:List (Addr×Obj)} {σ:St} {H:Hp} {s:Shared} (I:dP X (pins++pl) σ H s):dP X pins σ H s:=I.pins_of λp hp=>I.pin p (dU _ (jF _ hp))
theorem RV {iter:Expr} {body:List Stmt} {wi:TI} {g:TG} {tb:TS} {pos:Pos} (hp:PassesOwn (model X.prog X.w) X.A X.env X.xe) (hc:X.calm=true) (hi:PI X tg iter wi) (hg:PG X tg g) (hb:CQ X body tb)
  (hs:∀ x,foldedSetIterable iter X.env x=pure x:=by intro _;rfl):PS X (.For tg iter body [] pos) (aBq wi g tb):=by
 intro pins s σ H D I h
 refine wpAny_For (iX (hi pins s σ H _ I h) λv s1 h1=>iX h1 λitv s2 h2=>?_) hs
 obtain ⟨it,fp,tn,J,H2,e,I2,T,st2,f2,W,⟨m0,w0⟩,turn⟩:=h2
 subst e
 -- what stays true of the iterator's objects through the loop
 have stat:∀ {H':Hp},(∀ b∈fp,H' b=none)->∀ b∈fp,CA X pins H' b:=λhn b hb=>⟨hn b hb,(f2 b hb).2⟩
 refine codeAny_forLoop_any (λn s'=>∃ i σ' H',dP X pins σ' H' s'/\tn i s'.heap/\(∀ b∈fp,H' b=none)/\W i n σ' H') ?_ m0 ⟨0,σ,H2,I2,st2,λb hb=>(f2 b hb).1,w0⟩
 rintro n s3 ⟨i,σ3,H3,I3,st3,fr3,w3⟩
 rcases turn i n σ3 H3 w3 with ⟨stop,qn⟩ | ⟨go,N,hN,step⟩
 ·refine wpAny_passesOwn hp (iX (T.done X rfl rfl rfl hc i pins s3 σ3 H3 X.xe I3 (stat fr3) st3 stop) λr s4 ⟨hr,I4⟩=>?_)
  subst hr
  exact wpAny_execs_nil ⟨σ3,H3,I4,qn⟩
 ·refine wpAny_passesOwn hp (iX (T.item X rfl rfl rfl hc i pins s3 σ3 H3 X.xe I3 (stat fr3) st3 go) λr s4 ⟨u,hr,h4⟩=>?_)
  subst hr
  refine wpAny_passesOwn hp (iX h4 λ_ s5 ⟨x,H5,I5,r5,y5,st5,fr5⟩=>?_)
  have I5':=I5.pinned (stat fr5) (T.obj _ _ st5)
  refine wpAny_passesOwn hp (iX (hg _ s5 σ3 H5 x u _ I5' r5 (step x H5 y5)) λ_ s6 ⟨σ6,H6,I6,q6⟩=>?_)
  refine wpAny_passesOwn hp (iX (hb _ s6 σ6 H6 _ I6 q6) λf s7 q7=>?_)
  have again:∀ {σ7:St} {H7:Hp},dP X (pins++BD fp s5.heap) σ7 H7 s7->N σ7 H7->∃ m,m<n/\∃ i σ' H',dP X pins σ' H' s7/\tn i s7.heap/\(∀ b∈fp,H' b=none)/\W i m σ' H':=λ{σ7 H7} I7 n7=>by
   obtain ⟨m',hm,w7⟩:=hN σ7 H7 n7
   refine ⟨m',hm,i+1,σ7,H7,I7.unpinned,T.keep _ _ _ st5 λb hb o e=>(I7.pin (b,o) (dU _ (dU _ (rB hb e)))).1,λb hb=>?_,w7⟩
   obtain ⟨o,e,d⟩:=T.obj _ _ st5 b hb
   exact (I7.pin (b,o) (dU _ (dU _ (rB hb e)))).2.1
  cases f with
  | next=>obtain ⟨σ7,H7,I7,n7⟩:=q7;exact again I7 n7
  | cont=>obtain ⟨σ7,H7,I7,n7⟩:=q7;exact again I7 n7
  | brk=>obtain ⟨σ7,H7,I7,q7⟩:=q7;exact ⟨σ7,H7,I7.unpinned,q7⟩
  | ret v=>obtain ⟨x7,σ7,H7,I7,r7,q7⟩:=q7;exact ⟨x7,σ7,H7,I7.unpinned,r7,q7⟩
end

end L2

namespace L2
open PySem PySem.Spec PyProof.Rows

abbrev R2:=V->V->Hp->VK->Prop
def nF (X:Cx) (f:Value->Value->Sem Value) (r:R2):Prop :=
 ∀ (pins:List (Addr×Obj)) (s:Shared) (σ:St) (H:Hp) (x y:V) (v u:Value) (Q:VK),dP X pins σ H s->gC x v->gC y u->r x y H Q ->
  wpAny (model X.prog X.w) X.A (f v u) (EP X pins σ Q) X.xe s
def UnR (X:Cx) (f:Value->Sem Value) (r:V->Hp->VK->Prop):Prop :=
 ∀ (pins:List (Addr×Obj)) (s:Shared) (σ:St) (H:Hp) (x:V) (v:Value) (Q:VK),dP X pins σ H s->gC x v->r x H Q ->
  wpAny (model X.prog X.w) X.A (f v) (EP X pins σ Q) X.xe s
def kJ (X:Cx) (f:Value) (r:List V->Hp->VK->Prop):Prop :=
 ∀ (pins:List (Addr×Obj)) (s:Shared) (σ:St) (H:Hp) (xs:List V) (us:List Value) (Q:VK),dP X pins σ H s->fG xs us->r xs H Q ->
  wpAny (model X.prog X.w) X.A (call f us) (EP X pins σ Q) X.xe s
def tOp (r:R2) (ta tb:TE):TE:=λσ H Q=>ta σ H λx H1=>tb σ H1 λy H2=>r x y H2 Q
def tUn (r:V->Hp->VK->Prop) (ta:TE):TE:=λσ H Q=>ta σ H λx H1=>r x H1 Q
def rI (C:Int->Int->Prop) (g:Int->Int->V):R2:=λx y H Q=>∃ i j,x=.int i/\y=.int j/\C i j/\Q (g i j) H
def RK (g:Int->Int->V):R2:=λx y H Q=>∃ i j,x=.int i/\y=.int j/\Q (g i j) H
def rU (g:Int->V):V->Hp->VK->Prop:=λx H Q=>∃ i,x=.int i/\Q (g i) H

section
variable {X:Cx} {a b c:Expr} {ta tb tc:TE} {pos:Pos}

theorem aDr (ha:PE X a ta) (hb:PE X b tb) {pins:List (Addr×Obj)} {s:Shared} {σ:St} {H:Hp} {R:V->V->Hp->Prop} (I:dP X pins σ H s)
  (h:ta σ H λx H1=>tb σ H1 λy H2=>R x y H2) {Q:Value->Shared->Prop} {f:Value->Value->Sem Value}
  (hf:∀ v u s2 x y H2,dP X pins σ H2 s2->gC x v->gC y u->R x y H2->wpAny (model X.prog X.w) X.A (f v u) Q X.xe s2) :
  wpAny (model X.prog X.w) X.A (eval a X.env) (λv s₁=>wpAny (model X.prog X.w) X.A (eval b X.env) (λu s₂=>wpAny (model X.prog X.w) X.A (f v u) Q X.xe s₂) X.xe s₁) X.xe s:=by
 refine iX (ha pins s σ H _ I h) λv s1 ⟨x,H1,I1,r1,q1⟩=>?_
 refine iX (hb pins s1 σ H1 _ I1 q1) λu s2 ⟨y,H2,I2,r2,q2⟩=>?_
 exact hf v u s2 x y H2 I2 r1 r2 q2

theorem R4 {op:Operator} {r:R2} (ho:nF X (binaryOp op) r) (ha:PE X a ta) (hb:PE X b tb):PE X (.BinOp a op b pos) (tOp r ta tb):=by
 intro pins s σ H Q I h
 exact wpAny_BinOp (aDr ha hb I h λv u s2 x y H2 I2 rx ry q=>ho pins s2 σ H2 x y v u Q I2 rx ry q)
theorem aFk {op:UnaryOp} {r:V->Hp->VK->Prop} (ho:UnR X (unaryOp op) r) (ha:PE X a ta):PE X (.UnaryOp op a pos) (tUn r ta):=by
 intro pins s σ H Q I h
 exact UnaryOp_ (iX (ha pins s σ H _ I h) λv s1 ⟨x,H1,I1,r1,q1⟩=>ho pins s1 σ H1 x v Q I1 r1 q1)
theorem opI {f:Value->Value->Sem Value} {C:Int->Int->Prop} {g:Int->Int->Int}
  (rule:∀ (i j:Int) (t u:Tok) (s:Shared) (Q:Value->Shared->Prop) (E:Value->Shared->Prop),C i j->Q (.int (g i j) s.toks) { s with toks:=s.toks+1 }->wpAny (model X.prog X.w) X.A (f (.int i t) (.int j u)) Q E s) :
  nF X f (rI C λi j=>.int (g i j)):=by
 intro pins s σ H x y v u Q I rx ry h
 obtain ⟨i,j,rfl,rfl,hc,q⟩:=h
 obtain ⟨t,rfl⟩:=rx
 obtain ⟨t',rfl⟩:=ry
 exact rule i j t t' s _ _ hc ⟨.int (g i j),H,I.tok _,⟨_,rfl⟩,q⟩
theorem aFo {f:Value->Value->Sem Value} {g:Int->Int->Int}
  (rule:∀ (i j:Int) (t u:Tok) (s:Shared) (Q:Value->Shared->Prop) (E:Value->Shared->Prop),Q (.int (g i j) s.toks) { s with toks:=s.toks+1 }->wpAny (model X.prog X.w) X.A (f (.int i t) (.int j u)) Q E s) :
  nF X f (RK λi j=>.int (g i j)):=by
 intro pins s σ H x y v u Q I rx ry h
 obtain ⟨i,j,rfl,rfl,q⟩:=h
 obtain ⟨t,rfl⟩:=rx
 obtain ⟨t',rfl⟩:=ry
 exact rule i j t t' s _ _ ⟨.int (g i j),H,I.tok _,⟨_,rfl⟩,q⟩
theorem WU {f:Value->Value->Sem Value} {g:Int->Int->Bool}
  (rule:∀ (i j:Int) (t u:Tok) (s:Shared) (Q:Value->Shared->Prop) (E:Value->Shared->Prop),Q (.bool (g i j)) s->wpAny (model X.prog X.w) X.A (f (.int i t) (.int j u)) Q E s) :
  nF X f (RK λi j=>.bl (g i j)):=by
 intro pins s σ H x y v u Q I rx ry h
 obtain ⟨i,j,rfl,rfl,q⟩:=h
 obtain ⟨t,rfl⟩:=rx
 obtain ⟨t',rfl⟩:=ry
 exact rule i j t t' s _ _ ⟨.bl (g i j),H,I,rfl,q⟩

def aKi (i j:Int):Prop:=0<j/\j<1073741824
def aD3 (i j:Int):Prop:=0<=j/\j<=1000000/\i.natAbs<2 ^ 64
def K0 (i j:Int):Prop:=(-(2 ^ 64)<i/\i<2 ^ 64)\/(-(2 ^ 64)<j/\j<2 ^ 64)
theorem K0.ok {i j:Int} (h:K0 i j):IntMulOk i j:=by
 rcases h with ⟨h1,h2⟩ | ⟨h1,h2⟩
 ·exact .of_left (intBits_le_64 h1 h2)
 ·exact .of_right (intBits_le_64 h1 h2)
theorem aCr:nF X (binaryOp .Add) (RK λi j=>.int (i+j)):=aFo λ_ _ _ _ _ _ _ q=>add_int q
theorem mG:nF X (binaryOp .Sub) (RK λi j=>.int (i-j)):=aFo λ_ _ _ _ _ _ _ q=>sub_int q
theorem aCm:nF X (binaryOp .Mult) (rI K0 λi j=>.int (i*j)):=opI λ_ _ _ _ _ _ _ hc q=>mul_int q hc.ok
theorem AH:nF X (binaryOp .FloorDiv) (rI aKi λi j=>.int (i / j)):=opI λi j _ _ _ _ _ hc q=>by
 have h1:(0:Int)<j:=hc.1
 have h2:j<1073741824:=hc.2
 exact floordiv_int (by omega) (by rw [Int.fdiv_eq_ediv_of_nonneg i (by omega)];exact q) (.inl (PyProof.noPylong_small (by omega)))
theorem kY:nF X (binaryOp .Mod) (rI (λ_ j=>0<j) λi j=>.int (i % j)):=opI λi j _ _ _ _ _ hc q=>by
 have h1:(0:Int)<j:=hc
 exact mod_int' (by omega) (by rw [Int.fmod_eq_emod_of_nonneg i (by omega)];exact q)
theorem SC:nF X (binaryOp .Pow) (rI aD3 λi j=>.int (i ^ j.toNat)):=opI λ_ _ _ _ _ _ _ hc q=>pow_int_small hc.1 hc.2.1 hc.2.2 q
theorem unI {f:Value->Sem Value} {g:Int->Int}
  (rule:∀ (i:Int) (t:Tok) (s:Shared) (Q:Value->Shared->Prop) (E:Value->Shared->Prop),Q (.int (g i) s.toks) { s with toks:=s.toks+1 }->wpAny (model X.prog X.w) X.A (f (.int i t)) Q E s) :
  UnR X f (rU λi=>.int (g i)):=by
 intro pins s σ H x v Q I rx h
 obtain ⟨i,rfl,q⟩:=h
 obtain ⟨t,rfl⟩:=rx
 exact rule i t s _ _ ⟨.int (g i),H,I.tok _,⟨_,rfl⟩,q⟩
theorem aBg:UnR X (unaryOp .USub) (rU λi=>.int (-i)):=unI λ_ _ _ _ _ q=>neg_int q
end

def aB2:V->V->Bool
 | .non,.non=>true | .non,.int _=>true | .int _,.non=>true | .non,.bl _=>true | .bl _,.non=>true | .non,.str _=>true | .str _,.non=>true
 | .int _,.int _=>true | .bl _,.bl _=>true | .str _,.str _=>true | .byt _,.byt _=>true
 | .int _,.str _=>true | .str _,.int _=>true | .bl _,.str _=>true | .str _,.bl _=>true
 | _,_=>false
def rEq:R2:=λx y H Q=>aB2 x y=true/\Q (.bl (decide (x=y))) H
def rNe:R2:=λx y H Q=>aB2 x y=true/\Q (.bl (!decide (x=y))) H

theorem M1 {i j:Int}:decide (V.int i=V.int j)=(i == j):=by
 rw [mB]
 simp
theorem UI {i j:Bool}:decide (V.bl i=V.bl j)=(i == j):=by
 rw [mB]
 simp
theorem MZ {i j:Str}:decide (V.str i=V.str j)=(i == j):=by
 rw [mB]
 simp
theorem M2 {i j:Array UInt8}:decide (V.byt i=V.byt j)=(i.toList == j.toList):=by
 rw [mB]
 cases i
 cases j
 simp

section
variable {X:Cx} {a b c:Expr} {ta tb tc:TE} {pos:Pos}
theorem gA {pins:List (Addr×Obj)} {σ:St} {H:Hp} {s:Shared} {Q:VK} {k k':Bool} (I:dP X pins σ H s) (q:Q (.bl k) H) (e:k=k'):EP X pins σ Q (.bool k') s:=by
 subst e
 exact ⟨.bl k,H,I,rfl,q⟩
theorem iI:nF X (compareOp .Eq) rEq:=by
 intro pins s σ H x y v u Q I rx ry h
 obtain ⟨hs,q⟩:=h
 cases x with
 | non =>
  cases rx
  cases y with
  | non=>cases ry;exact PySem.EqNone.eq_none_none (gA I q (by simp))
  | bl j=>cases ry;exact PySem.EqNone.eq_none_bool (gA I q (by simp))
  | int j=>obtain ⟨t',rfl⟩:=ry;exact PySem.EqNone.eq_none_int (gA I q (by simp))
  | str j=>obtain ⟨t',rfl⟩:=ry;exact PySem.EqNone.eq_none_str (gA I q (by simp))
  | _=>exact absurd (show false=true from hs) bA
 | bl i =>
  cases rx
  cases y with
  | non=>cases ry;exact PySem.EqNone.eq_bool_none (gA I q (by simp))
  | bl j=>cases ry;exact eq_bool (gA I q UI)
  | str j=>obtain ⟨t',rfl⟩:=ry;exact PySem.EqMixed.eq_bool_str (gA I q (by simp))
  | _=>exact absurd (show false=true from hs) bA
 | int i =>
  obtain ⟨t,rfl⟩:=rx
  cases y with
  | non=>cases ry;exact PySem.EqNone.eq_int_none (gA I q (by simp))
  | int j=>obtain ⟨t',rfl⟩:=ry;exact eq_int (gA I q M1)
  | str j=>obtain ⟨t',rfl⟩:=ry;exact PySem.EqMixed.eq_int_str (gA I q (by simp))
  | _=>exact absurd (show false=true from hs) bA
 | str i =>
  obtain ⟨t,rfl⟩:=rx
  cases y with
  | non=>cases ry;exact PySem.EqNone.eq_str_none (gA I q (by simp))
  | bl j=>cases ry;exact PySem.EqMixed.eq_str_bool (gA I q (by simp))
  | int j=>obtain ⟨t',rfl⟩:=ry;exact PySem.EqMixed.eq_str_int (gA I q (by simp))
  | str j=>obtain ⟨t',rfl⟩:=ry;exact eq_str (gA I q MZ)
  | _=>exact absurd (show false=true from hs) bA
 | byt i =>
  obtain ⟨t,rfl⟩:=rx
  cases y with
  | byt j=>obtain ⟨t',rfl⟩:=ry;exact PySem.W.eq_bytes (gA I q M2)
  | _=>exact absurd (show false=true from hs) bA
 | _=>cases y<;>exact absurd (show false=true from hs) bA
theorem DA:nF X (compareOp .NotEq) rNe:=by
 intro pins s σ H x y v u Q I rx ry h
 obtain ⟨hs,q⟩:=h
 cases x with
 | non =>
  cases rx
  cases y with
  | non=>cases ry;exact PySem.EqNone.ne_none_none (gA I q (by simp))
  | bl j=>cases ry;exact PySem.EqNone.ne_none_bool (gA I q (by simp))
  | int j=>obtain ⟨t',rfl⟩:=ry;exact PySem.EqNone.ne_none_int (gA I q (by simp))
  | str j=>obtain ⟨t',rfl⟩:=ry;exact PySem.EqNone.ne_none_str (gA I q (by simp))
  | _=>exact absurd (show false=true from hs) bA
 | bl i =>
  cases rx
  cases y with
  | non=>cases ry;exact PySem.EqNone.ne_bool_none (gA I q (by simp))
  | bl j=>cases ry;exact ne_bool (gA I q (congrArg not UI))
  | str j=>obtain ⟨t',rfl⟩:=ry;exact PySem.EqMixed.ne_bool_str (gA I q (by simp))
  | _=>exact absurd (show false=true from hs) bA
 | int i =>
  obtain ⟨t,rfl⟩:=rx
  cases y with
  | non=>cases ry;exact PySem.EqNone.ne_int_none (gA I q (by simp))
  | int j=>obtain ⟨t',rfl⟩:=ry;exact ne_int (gA I q (congrArg not M1))
  | str j=>obtain ⟨t',rfl⟩:=ry;exact PySem.EqMixed.ne_int_str (gA I q (by simp))
  | _=>exact absurd (show false=true from hs) bA
 | str i =>
  obtain ⟨t,rfl⟩:=rx
  cases y with
  | non=>cases ry;exact PySem.EqNone.ne_str_none (gA I q (by simp))
  | bl j=>cases ry;exact PySem.EqMixed.ne_str_bool (gA I q (by simp))
  | int j=>obtain ⟨t',rfl⟩:=ry;exact PySem.EqMixed.ne_str_int (gA I q (by simp))
  | str j=>obtain ⟨t',rfl⟩:=ry;exact ne_str (gA I q (congrArg not MZ))
  | _=>exact absurd (show false=true from hs) bA
 | byt i =>
  obtain ⟨t,rfl⟩:=rx
  cases y with
  | byt j=>obtain ⟨t',rfl⟩:=ry;exact PySem.W.ne_bytes (gA I q (congrArg not M2))
  | _=>exact absurd (show false=true from hs) bA
 | _=>cases y<;>exact absurd (show false=true from hs) bA

theorem G4:nF X (compareOp .Lt) (RK λi j=>.bl (decide (i<j))):=WU λ_ _ _ _ _ _ _ q=>lt_int q
theorem aAp:nF X (compareOp .LtE) (RK λi j=>.bl (decide (i<=j))):=WU λ_ _ _ _ _ _ _ q=>le_int q
theorem yV:nF X (compareOp .Gt) (RK λi j=>.bl (decide (j<i))):=WU λ_ _ _ _ _ _ _ q=>gt_int q
theorem L9:nF X (compareOp .GtE) (RK λi j=>.bl (decide (j<=i))):=WU λ_ _ _ _ _ _ _ q=>ge_int q
theorem N7:nF X (compareOp .In) (λx y H Q=>∃ i j,x=.str i/\y=.str j/\Q (.bl (!(Builtin.Str.occurrences j i 0 j.length 1).isEmpty)) H):=by
 intro pins s σ H x y v u Q I rx ry h
 obtain ⟨i,j,rfl,rfl,q⟩:=h
 obtain ⟨t,rfl⟩:=rx
 obtain ⟨t',rfl⟩:=ry
 exact in_str (gA I q rfl)

theorem aCn:nF X (compareOp .Is) (λx y H Q=>y=.non/\Q (.bl (decide (x=.non))) H):=by
 intro pins s σ H x y v u Q I rx ry h
 obtain ⟨rfl,q⟩:=h
 cases ry
 refine is_none_gen (gA I q ?_)
 cases x<;>first
  | (cases rx;rfl)
  | (obtain ⟨t,rfl⟩:=rx;rfl)
theorem WS:nF X (compareOp .IsNot) (λx y H Q=>y=.non/\Q (.bl (!decide (x=.non))) H):=by
 intro pins s σ H x y v u Q I rx ry h
 obtain ⟨rfl,q⟩:=h
 cases ry
 refine isnot_none_gen (gA I q ?_)
 cases x<;>first
  | (cases rx;rfl)
  | (obtain ⟨t,rfl⟩:=rx;rfl)

theorem nF.or {f:Value->Value->Sem Value} {r r':R2} (h:nF X f r) (h':nF X f r'):nF X f (λx y H Q=>r x y H Q\/r' x y H Q):=by
 intro pins s σ H x y v u Q I rx ry q
 rcases q with q | q
 ·exact h pins s σ H x y v u Q I rx ry q
 ·exact h' pins s σ H x y v u Q I rx ry q

theorem E8 (b:Expr) {op:CmpOp} (h:op≠.In:=by decide) (h2:op≠.NotIn:=by decide):behindInMarks op b=false:=by
 have e1:(op == CmpOp.In)=false:=by cases op<;>first | rfl | exact absurd rfl h
 have e2:(op == CmpOp.NotIn)=false:=by cases op<;>first | rfl | exact absurd rfl h2
 cases b<;>simp [behindInMarks,e1,e2]
theorem WR {op:CmpOp} {r:R2} (ho:nF X (compareOp op) r) (ha:PE X a ta) (hb:PE X b tb) (hm:behindInMarks op b=false):PE X (.Compare a [op] [b] pos) (tOp r ta tb):=by
 intro pins s σ H Q I h
 exact wpAny_Compare1 (aDr ha hb I h λv u s2 x y H2 I2 rx ry q=>ho pins s2 σ H2 x y v u Q I2 rx ry q) hm
def aEh (t:TE):TT:=λσ H Q=>t σ H λx H'=>∃ k,x=.bl k/\Q k H'
theorem E3 {op:CmpOp} {r:R2} (ho:nF X (compareOp op) r) (ha:PE X a ta) (hb:PE X b tb) (hm:behindInMarks op b=false):PT X (.Compare a [op] [b] pos) (aEh (tOp r ta tb)):=by
 intro pins s σ H Q I h
 refine wpAny_isTrue_Compare1 (iX (ha pins s σ H _ I h) λv s1 ⟨x,H1,I1,r1,q1⟩=>iX (hb pins s1 σ H1 _ I1 q1) λu s2 ⟨y,H2,I2,r2,q2⟩ =>
  iX (ho pins s2 σ H2 x y v u _ I2 r1 r2 q2) λc s3 ⟨z,H3,I3,r3,k,e,q3⟩=>?_) hm
 subst e
 cases r3
 exact wpAny_truthy_bool ⟨H3,I3,q3⟩
def QR (r r':R2) (ta tb tc:TE):TE:=λσ H Q=>ta σ H λx H1=>tb σ H1 λy H2=>r x y H2 λz H3=>∃ k,z=.bl k /\
 (if k=true then tc σ H3 λw' H4=>r' y w' H4 Q else Q (.bl false) H3)
theorem R8 {op op':CmpOp} {r r':R2} (ho:nF X (compareOp op) r) (ho':nF X (compareOp op') r') (ha:PE X a ta) (hb:PE X b tb) (hc:PE X c tc)
  (hm:lastMarks [op,op'] [b,c]=false:=by with_unfolding_all rfl):PE X (.Compare a [op,op'] [b,c] pos) (QR r r' ta tb tc):=by
 intro pins s σ H Q I h
 refine Compare_chain (iX (ha pins s σ H _ I h) λv s1 ⟨x,H1,I1,r1,q1⟩=>chain_link (iX (hb pins s1 σ H1 _ I1 q1) λu s2 ⟨y,H2,I2,r2,q2⟩ =>
  iX (ho pins s2 σ H2 x y v u _ I2 r1 r2 q2) λd s3 ⟨z,H3,I3,r3,k,e,q3⟩=>?_)) hm
 subst e
 cases r3
 refine wpAny_truthy_bool ?_
 cases k with
 | false=>exact ite_ff ⟨.bl false,H3,I3,rfl,q3⟩
 | true=>exact ite_tt (chain_last (iX (hc pins s3 σ H3 _ I3 q3) λw' s4 ⟨z',H4,I4,r4,q4⟩=>ho' pins s4 σ H4 y z' u w' Q I4 r2 r4 q4))
theorem BH:(bD:Nat)<2 ^ 63:=by rw [sizeLine_eq];decide
theorem JP:nF X (binaryOp .Add) (λx y H Q=>∃ i j,x=.str i/\y=.str j/\i.length+j.length<=bD/\Q (.str (i++j)) H):=by
 intro pins s σ H x y v u Q I rx ry h
 obtain ⟨i,j,rfl,rfl,hz,q⟩:=h
 obtain ⟨t,rfl⟩:=rx
 obtain ⟨t',rfl⟩:=ry
 exact add_str (λt' tk=>⟨.str (i++j),H,I.tok _,⟨_,rfl⟩,q⟩) hz
theorem rL {x:V} {us:List Value} (r:fG [x] us):∃ u,us=[u]/\gC x u:=by
 cases r with
 | cons r1 r2=>cases r2;exact ⟨_,rfl,r1⟩
theorem QJ {x y:V} {us:List Value} (r:fG [x,y] us):∃ u w',us=[u,w']/\gC x u/\gC y w':=by
 cases r with
 | cons r1 r2 =>
  cases r2 with
  | cons r3 r4=>cases r4;exact ⟨_,_,rfl,r1,r3⟩
theorem yH (hc:X.calm=true):kJ X (.builtin "min") (λxs H Q=>∃ i j,xs=[.int i,.int j]/\Q (.int (if j<i then j else i)) H):=by
 intro pins s σ H xs us Q I r h
 obtain ⟨i,j,rfl,q⟩:=h
 obtain ⟨u,w',rfl,⟨t,rfl⟩,⟨t',rfl⟩⟩:=QJ r
 refine min_two_ints (I.ok.hd hc) λh' tk k=>⟨_,H,I.kept k,?_,q⟩
 by_cases hj:j<i
 ·rw [if_pos hj,if_pos hj];exact ⟨_,rfl⟩
 ·rw [if_neg hj,if_neg hj];exact ⟨_,rfl⟩
end

structure KS (h:Heap) (x dx C:Addr) (mA:Str->Option Value):Prop where
 obj:h.get? x=some (iS C dx)
 ns:h.Ns1 dx mA
 ne:dx≠x

theorem OJ {h:Heap} {dx:Addr} {mA:Str->Option Value} (n:h.Ns1 dx mA):∃ od,h.get? dx=some od/\∀ name,tE name od=some (mA name):=by
 obtain ⟨o,es,ep,ho,hd,hk,_,hm⟩:=n
 refine ⟨o,ho,λname=>?_⟩
 have e:=hm name
 unfold nsFind findBy at e
 rw [<- Array.find?_toList] at e
 unfold tE
 rw [hd]
 dsimp only
 split
 ·rename_i y q
  rw [q] at e
  exact congrArg some e
 ·rename_i q
  rw [q] at e
  have a:es.toList.any (·.refKey)=false:=by
   rw [List.any_eq_false]
   intro y hy
   obtain ⟨z,t,hkey⟩:=hk y (Array.mem_toList_iff.mp hy)
   simp [DictEntry.refKey,hkey]
  have a':¬ es.toList.any (·.refKey)=true:=by rw [a];exact bA
  rw [if_neg a']
  exact congrArg some e

theorem KS.look {h:Heap} {x dx C:Addr} {mA:Str->Option Value} (I:KS h x dx C mA):∃ od,kM h x (iS C dx) C (some od)/\∀ name,tE name od=some (mA name) :=
 let ⟨od,ho,hl⟩:=OJ I.ns
 ⟨od,⟨I.obj,rfl,rfl,ho⟩,hl⟩

section
variable {prog:bF} {w:World} {A:Around} {E:Value->Shared->Prop} {s:Shared} {K:aD} {x dx C f:Addr} {mA:Str->Option Value} {name:Str} {v:Value}

theorem XM {expr:Bool} {Q:Value->Shared->Prop} (X:K.In s.heap) (I:KS s.heap x dx C mA) (hg:qM K C name=true) (hh:xP K C=true)
  (ha:fK K (.ref C) name=some none) (hv:mA name=some v) (hv':PQ v=true) (h:Q v { s with toks:=s.toks+1 }) :
  wpAny (model prog w) A (getAttr (.ref x) name expr) Q E s:=by
 obtain ⟨od,J,hl⟩:=I.look
 exact PySem.W.get_value X J (uM hg).1 (PySem.W.findObj_own hh ha rfl (by rw [hl,hv])) hv' h

theorem TZ {pl:Sem Bool} {Q:Value×List Value->Shared->Prop} (X:K.In s.heap) (I:KS s.heap x dx C mA) (hg:qM K C name=true)
  (hf:fK K (.ref C) name=some (some (.ref f))) (ht:FZ K (.ref f)=true) (hv:mA name=none) (h:Q (.ref f,[.ref x]) s) :
  wpAny (model prog w) A (getMethod (.ref x) name pl) Q E s:=by
 obtain ⟨od,J,hl⟩:=I.look
 exact PySem.W.method_fn X J (uM hg).1 (uM hg).2 hf (beq_iff_eq.mp ht) (by show (tE name od).map (·.isSome)=some false;rw [hl,hv];rfl) h

theorem V5 {ns:List Str} {Q:Unit->Shared->Prop} (X:K.In s.heap) (I:KS s.heap x dx C mA)
  (hs:fK K (.ref C) "__setattr__"=some (some (.builtin "object.__setattr__"))) (hp:NF K C=true) (ht:zW K C name=some none) (hh:xP K C=true)
  (hw:PySem.Within mA ns) (hsz:ns.length<=bD)
  (h:∀ h',KS h' x dx C (λy=>if y=name then some v else mA y)->cQ dx s.heap h'->Q () { s with heap:=h',toks:=s.toks+2 }) :
  wpAny (model prog w) A (setAttr (.ref x) name v) Q E s:=by
 obtain ⟨od,J,hl⟩:=I.look
 refine PySem.W.set_plain X J hs (PySem.W.osa_open (s:={ s with toks:=s.toks+1 }) (r:=none) X J hp ht λb=>?_)
 obtain ⟨cd,hc,hd'⟩:=PySem.W.any_some hh
 have hx:s.heap.get? x=some ⟨.ref C,some dx,.plain,#[]⟩:=I.obj
 refine aA (aF (aA (aA (wpAny_loadPart hx (aA (PySem.W.Looks.here (s:={ s with toks:=s.toks+1 }) (PySem.W.looks_clsIn X hc) ?_))))))
 rw [hd']
 refine aF (a:=some dx) (aA (aF (aA ?_)))
 refine wpAny_nsSet1 (s:={ s with toks:=s.toks+1 }) I.ns λh' hn2 hs2=>?_
 obtain ⟨oD,esD,epD,hoD,hdD,hcD⟩:=hn2.count (PySem.Within.cons name v hw)
 refine aA (wpAny_lookBehind hoD (by rw [hdD];exact pastItsLine_dict (cM hcD (by rw [cI];omega))) ?_)
 exact aF (h _ ⟨(hs2.2 _ (Ne.symm I.ne)).trans I.obj,hn2,I.ne⟩ hs2)

theorem SZ {R:Result->Shared->Prop} {vs:List Value} {kw:List (Str×Value)} (X:K.In s.heap) (hm:P7 K C=true)
  (hi:fK K (.ref C) "__init__"=some (some (.ref f))) (hf:PySem.W.typeIn K (.ref f)=some (.type "function"))
  (h:codeAny (model prog w) (A.under (.builtin "type.__call__" ⟨.ref C::vs,kw⟩)) (.call (.ref f) ⟨.ref (s.heap.objs.size+1)::vs,kw⟩) (PySem.W.InitBack (s.heap.objs.size+1) R)
   { s with heap:=(s.heap.push gR).push (iS C s.heap.objs.size) }) :
  codeAny (model prog w) A (.call (.ref C) ⟨vs,kw⟩) R s:=by
 obtain ⟨hh,g,d,t,os⟩:=s
 exact PySem.W.make_core (PySem.W.makes_of X hm) (nH X hi) (λself=>PySem.W.bind_fn X self hf) (.inl rfl) h
end

def pP (f:Str) (v:V):List (Str×V)->List (Str×V)
 | []=>[(f,v)]
 | (g,x)::r=>if g=f then (g,v)::r else (g,x)::pP f v r
theorem yX (f g:Str) (v:V):∀ fs:List (Str×V),(pP f v fs).lookup g=if g=f then some v else fs.lookup g
 | []=>by
  show nQ g [(f,v)]=_
  by_cases h:g=f
  ·have hb:(g == f)=true:=beq_iff_eq.mpr h
   simp only [nQ,hb,if_pos h]
  ·have hb:(g == f)=false:=beq_eq_false_iff_ne.mpr h
   simp only [nQ,hb,if_neg h]
 | (k,x)::r=>by
  have ih:=yX f g v r
  rw [show pP f v ((k,x)::r)=(if k=f then (k,v)::r else (k,x)::pP f v r) from rfl]
  by_cases hk:k=f
  ·rw [if_pos hk]
   by_cases h:g=k
   ·have hb:(g == k)=true:=beq_iff_eq.mpr h
    simp only [nQ,hb,if_pos (h.trans hk)]
   ·have hb:(g == k)=false:=beq_eq_false_iff_ne.mpr h
    simp only [nQ,hb,if_neg (λe:g=f=>h (e.trans hk.symm))]
  ·rw [if_neg hk]
   by_cases h:g=k
   ·have hb:(g == k)=true:=beq_iff_eq.mpr h
    simp only [nQ,hb,if_neg (λe:g=f=>hk (h.symm.trans e))]
   ·have hb:(g == k)=false:=beq_eq_false_iff_ne.mpr h
    simp only [nQ,hb]
    exact ih
theorem yB (f:Str) (v:V):∀ fs:List (Str×V),f∈(pP f v fs).map (·.1)/\∀ g,g∈fs.map (·.1)->g∈(pP f v fs).map (·.1)
 | []=>⟨by simp [pP],λg h=>by simp at h⟩
 | (k,x)::r=>by
  obtain ⟨i1,i2⟩:=yB f v r
  rw [show pP f v ((k,x)::r)=(if k=f then (k,v)::r else (k,x)::pP f v r) from rfl]
  by_cases hk:k=f
  ·rw [if_pos hk]
   subst hk
   exact ⟨by simp,λg h=>by simpa using h⟩
  ·rw [if_neg hk]
   refine ⟨?_,λg h=>?_⟩
   ·rw [aX]
    exact aN _ i1
   ·rw [aX] at h |-
    rcases aZ.mp h with e | e
    ·exact aZ.mpr (.inl e)
    ·exact aN _ (i2 g e)
theorem zB (f:Str) (v:V):∀ fs:List (Str×V),(pP f v fs).length<=fs.length+1
 | []=>by simp [pP]
 | (k,x)::r=>by
  have ih:=zB f v r
  rw [show pP f v ((k,x)::r)=(if k=f then (k,v)::r else (k,x)::pP f v r) from rfl]
  by_cases hk:k=f
  ·rw [if_pos hk,cI,cI];omega
  ·rw [if_neg hk,cI,cI];omega

theorem uL.some_of {v:V} {o:Option Value} (r:uL (some v) o):∃ u,o=some u/\gC v u:=by
 cases o with
 | none=>exact (show False from r).elim
 | some u=>exact ⟨u,rfl,r⟩
theorem uL.none_of {o:Option Value} (r:uL none o):o=none:=by
 cases o with
 | none=>rfl
 | some u=>exact (show False from r).elim
theorem OY {v:V} {u:Value} (r:gC v u):PQ u=true:=by
 cases v with
 | non=>cases (show u=Value.none from r);rfl
 | bl b=>cases (show u=Value.bool b from r);rfl
 | int i=>obtain ⟨t,e⟩:=(show ∃ t,u=Value.int i t from r);cases e;rfl
 | str x=>obtain ⟨t,e⟩:=(show ∃ t,u=Value.str x t from r);cases e;rfl
 | byt b=>obtain ⟨t,e⟩:=(show ∃ t,u=Value.bytes b t from r);cases e;rfl
 | flt b=>obtain ⟨t,e⟩:=(show ∃ t,u=Value.float b t from r);cases e;rfl
 | ref a=>cases (show u=Value.ref a from r);rfl
 | ty n=>cases (show u=Value.type n from r);rfl

section
variable {P:bF} {w:World} {H H':Hp} {h h':Heap} {a C dx:Addr} {fs fs':List (Str×V)}
theorem AL (hok:vX P w H h) (e:H a=some (.ins C dx fs)):∃ mA,KS h a dx C mA/\(∀ f,uL (fs.lookup f) (mA f))/\PySem.Within mA (fs.map (·.1))/\fs.length<=1000/\H dx=some (.own a):=by
 obtain ⟨d,z,ne,ob,mA,n,r,q⟩:=(show iJ P w H h a (.ins C dx fs) from hok a _ e)
 exact ⟨mA,⟨ob,n,ne⟩,r,q,z,d⟩
end

structure P6 (K:aD) (C:Addr):Prop where
 pg:qM K C Str.empty=true
 hd:xP K C=true
 po:NF K C=true
 sa:fK K (.ref C) "__setattr__"=some (some (.builtin "object.__setattr__"))
theorem P6.get {K:aD} {C:Addr} (c:P6 K C) (f:Str):qM K C f=true:=c.pg
def mN (K:aD) (C:Addr) (f:Str):Prop:=fK K (.ref C) f=some none
theorem mN.taker {K:aD} {C:Addr} {f:Str} (n:mN K C f):zW K C f=some none:=by
 unfold zW
 rw [show fK K (.ref C) f=some none from n]
 rfl
structure YL (K:aD) (C:Addr) (m:Str) (f:Addr):Prop where
 at_:fK K (.ref C) m=some (some (.ref f))
 fn:FZ K (.ref f)=true
 kp:fU K (.ref f)=true

section
variable {X:Cx} {pins:List (Addr×Obj)} {σ:St} {H:Hp} {s:Shared} {a C dx:Addr} {fs:List (Str×V)} {f:Str} {v:V} {A:Around} {E:Value->Shared->Prop}

theorem J9 {b:Bool} {Q:Value->Shared->Prop} (I:dP X pins σ H s) (e:H a=some (.ins C dx fs)) (c:P6 X.K C) (n:mN X.K C f) (l:fs.lookup f=some v)
  (h:∀ u s',dP X pins σ H s'->gC v u->Q u s'):wpAny (model X.prog X.w) A (getAttr (.ref a) f b) Q E s:=by
 obtain ⟨mA,O,r,_,_,_⟩:=AL I.hok e
 obtain ⟨u,hu,ru⟩:=uL.some_of (v:=v) (o:=mA f) (by rw [<- l];exact r f)
 exact XM I.kIn O (c.get f) c.hd n hu (OY ru) (h u _ (I.tok _) ru)

theorem J8 {m:Str} {g:Addr} {pl:Sem Bool} {Q:Value×List Value->Shared->Prop} (I:dP X pins σ H s) (e:H a=some (.ins C dx fs)) (c:P6 X.K C) (k:YL X.K C m g) (l:fs.lookup m=none)
  (h:Q (.ref g,[.ref a]) s):wpAny (model X.prog X.w) A (getMethod (.ref a) m pl) Q E s:=by
 obtain ⟨mA,O,r,_,_,_⟩:=AL I.hok e
 have hn:mA m=none:=uL.none_of (by rw [<- l];exact r m)
 exact TZ I.kIn O (c.get m) k.at_ k.fn hn h

theorem JB {y:V} {u:Value} {Q:Unit->Shared->Prop} (I:dP X pins σ H s) (e:H a=some (.ins C dx fs)) (c:P6 X.K C) (n:mN X.K C f) (hl:fs.length<1000) (ry:gC y u)
  (h:∀ s',dP X pins σ (fZ H a (.ins C dx (pP f y fs))) s'->Q () s'):wpAny (model X.prog X.w) A (setAttr (.ref a) f u) Q E s:=by
 obtain ⟨mA,O,r,wi,_,ho⟩:=AL I.hok e
 have hz:(fs.map (·.1)).length<=bD:=by rw [aB,sizeLine_eq];omega
 refine V5 I.kIn O c.sa c.po n.taker c.hd wi hz λh' O' sb=>h _ ?_
 have hd:∃ o,h'.get? dx=some o:=let ⟨o,_,_,e',_⟩:=O'.ns;⟨o,e'⟩
 refine I.write (x:=a) (e:=dx) (by rw [e];exact True.intro) (.inr ho) (λb q hb z=>(sb.2 b hb).trans z) hd ?_
 refine ⟨by rw [cG O.ne];exact ho,?_,O.ne,O'.obj,_,O'.ns,λg=>?_,λg hg=>?_⟩
 ·have:=zB f y fs;omega
 ·show uL ((pP f y fs).lookup g) (if g=f then some u else mA g)
  rw [yX]
  by_cases q:g=f
  ·rw [if_pos q,if_pos q];exact ry
  ·rw [if_neg q,if_neg q];exact r g
 ·by_cases q:g=f
  ·rw [q];exact (yB f y fs).1
  ·refine (yB f y fs).2 g (wi g λz=>hg ?_)
   show (if g=f then some u else mA g)=none
   rw [if_neg q];exact z

theorem dP.made (I:dP X pins σ H s):dP X pins σ (fZ (fZ H s.heap.objs.size (.own (s.heap.objs.size+1))) (s.heap.objs.size+1) (.ins C s.heap.objs.size []))
  { s with heap:=(s.heap.push gR).push (iS C s.heap.objs.size) }:=by
 have e1:(s.heap.push gR).get? s.heap.objs.size=some gR:=aR s.heap rfl
 have e2:((s.heap.push gR).push (iS C s.heap.objs.size)).get? (s.heap.objs.size+1)=some (iS C s.heap.objs.size):=by
  have:=aR (s.heap.push gR) (o:=iS C s.heap.objs.size) rfl
  rwa [fF] at this
 have e3:(s.heap.push gR).Ns s.heap.objs.size (λ_=>none):=⟨gR,#[],_,e1,rfl,(λe he=>absurd he (by simp)),λ_=>rfl⟩
 have I1:=I.laid (a:=s.heap.objs.size) (o:=.own (s.heap.objs.size+1)) (h':=s.heap.push gR) (t':=s.toks) (λb u q=>aJ _ q) (aL _) ⟨_,e1⟩
 refine I1.laid (a:=s.heap.objs.size+1) (o:=.ins C s.heap.objs.size []) (t':=s.toks) (λb u q=>aJ _ q) (oY (fF _ _)) ?_
 have ne:s.heap.objs.size≠s.heap.objs.size+1:=bS (eE _)
 refine ⟨by rw [cG ne,cO],cS _,ne,e2,λ_=>none,(Heap.Ns1.of_empty e3).at λo q=>aJ _ q,λ_=>True.intro,λy hy=>absurd rfl hy⟩

theorem YH {prog:bF} {w:World} {env:Env} {e:Expr} {f:Str} {pos:Pos} {s:Shared} {Q:Value->Shared->Prop} (hb:attributeBase e f env (eval e env)=eval e env)
  (h:wpAny (model prog w) A (eval e env) (λo s₁=>wpAny (model prog w) A (getAttr o f true) Q E s₁) E s):wpAny (model prog w) A (eval (.Attribute e f pos) env) Q E s :=
 Attribute_any_ h (by rw [arm_eval_Attribute,hb])
end

def aIs (K:aD) (ta:TE) (f:Str):TE:=λσ H Q=>ta σ H λx H1=>∃ a C dx fs v,x=.ref a/\H1 a=some (.ins C dx fs)/\P6 K C/\mN K C f/\fs.lookup f=some v/\Q v H1
def aIy (K:aD) (ta tv:TE) (f:Str):TS:=λD σ H=>tv σ H λy H1=>ta σ H1 λx H2=>∃ a C dx fs,x=.ref a/\H2 a=some (.ins C dx fs)/\P6 K C/\mN K C f/\fs.length<1000 /\
 D.nx σ (fZ H2 a (.ins C dx (pP f y fs)))
section
variable {X:Cx} {o e value:Expr} {f:Str} {pos pos' tpos:Pos} {ta tv:TE}
theorem aCk (he:PE X e ta) (hb:attributeBase e f X.env (eval e X.env)=eval e X.env):PE X (.Attribute e f pos) (aIs X.K ta f):=by
 intro pins s σ H Q I h
 refine YH hb (iX (he pins s σ H _ I h) λu s1 ⟨x,H1,I1,rx,a,C,dx,fs,v,ex,ea,c,n,l,q⟩=>?_)
 subst ex
 obtain rfl:u=Value.ref a:=rx
 exact J9 I1 ea c n l λu' s2 I2 ru=>⟨v,H1,I2,ru,q⟩
theorem aCf (ha:PE X o ta) (hv:PE X value tv) (hs:gT value (some (.Attribute o f pos')) pos.line X.env=pure false):PS X (.Assign [.Attribute o f pos'] value pos) (aIy X.K ta tv f):=by
 intro pins s σ H D I h
 refine plainObj_wpAny_Assign_Attribute (iX (hv pins s σ H _ I h) λu s1 ⟨y,H1,I1,ry,q⟩=>iX (ha pins s1 σ H1 _ I1 q) λov s2 ⟨x,H2,I2,rx,a,C,dx,fs,ex,ea,c,n,l,q2⟩=>?_) hs
 subst ex
 obtain rfl:ov=Value.ref a:=rx
 exact JB I2 ea c n l ry λs3 I3=>⟨σ,_,I3,q2⟩
end

section
variable {X:Cx} {pins:List (Addr×Obj)} {σ:St} {H:Hp} {s:Shared} {A:Around} {E:Value->Shared->Prop} {Q:Value->Shared->Prop} {c:Value} {b:Bool}
inductive zU (K:aD) (H:Hp):V->Value->Prop where
 | non:zU K H .non (.type "NoneType")
 | bl (x:Bool):zU K H (.bl x) (.type "bool")
 | int (i:Int):zU K H (.int i) (.type "int")
 | str (x:Str):zU K H (.str x) (.type "str")
 | flt (x:UInt64):zU K H (.flt x) (.type "float")
 | lst {a:Addr} {xs:List V} (e:H a=some (.lst xs)):zU K H (.ref a) (.type "list")
 | frz {a:Addr} {o:Obj} {xs:List V} (e:H a=some (.frz o (.lst xs))):zU K H (.ref a) (.type "list")
 | tup {a:Addr} {xs:List V} (e:H a=some (.tup xs)):zU K H (.ref a) (.type "tuple")
 | dK {a:Addr} {kvs:List (lA×V)} (e:H a=some (.dK kvs)):zU K H (.ref a) (.type "dict")
 | dT {a:Addr} {kvs:List (List lA×V)} (e:H a=some (.dT kvs)):zU K H (.ref a) (.type "dict")
 | ins {a C dx:Addr} {fs:List (Str×V)} (e:H a=some (.ins C dx fs)) (cl:P6 K C) (ha:fK K (.ref C) "__class__"=some (some (.builtin "object.__class__")))
   (hn:PySem.W.specialIn K (.builtin "object.__class__") "__get__"=some (some (.builtin "getset_descriptor.__get__"))) (htk:PySem.W.takesIn K (.builtin "object.__class__")=some true)
   (hm:CV K C (.type "object")=some true):zU K H (.ref a) (.ref C)
theorem tR {x:V} {u t:Value} (I:dP X pins σ H s) (rx:gC x u) (ty:zU X.K H x t) (e:kK X.K t c=some b) (h:∀ tk,Q (.bool b) { s with toks:=tk }) :
  wpAny (model X.prog X.w) A (call (.builtin "isinstance") [u,c]) Q E s:=by
 cases ty with
 | non=>cases (show u=Value.none from rx);exact eO PySem.W.kitx_none I.kIn True.intro e (λz=>nomatch z) h
 | bl y=>cases (show u=Value.bool y from rx);exact eO PySem.W.kitx_bool I.kIn True.intro e (λz=>nomatch z) h
 | int i=>obtain ⟨t,q⟩:=(show ∃ t,u=Value.int i t from rx);cases q;exact eO PySem.W.kitx_int I.kIn True.intro e (λz=>nomatch z) h
 | str y=>obtain ⟨t,q⟩:=(show ∃ t,u=Value.str y t from rx);cases q;exact eO PySem.W.kitx_str I.kIn True.intro e (λz=>nomatch z) h
 | flt y=>obtain ⟨t,q⟩:=(show ∃ t,u=Value.float y t from rx);cases q;exact eO PySem.W.kitx_float I.kIn True.intro e (λz=>nomatch z) h
 | @lst a xs ea =>
  cases (show u=Value.ref a from rx)
  obtain ⟨_,_,n,_,h1⟩:=(show iJ X.prog X.w H s.heap a (.lst xs) from I.hok a _ ea)
  exact eO pI I.kIn ⟨_,h1,rfl⟩ e (λz=>nomatch z) h
 | @frz a ob xs ea =>
  cases (show u=Value.ref a from rx)
  obtain ⟨_,_,_,n,_,h1⟩:=(show iJ X.prog X.w H s.heap a (.frz ob (.lst xs)) from I.hok a _ ea)
  exact eO pI I.kIn ⟨_,h1,rfl⟩ e (λz=>nomatch z) h
 | @tup a xs ea =>
  cases (show u=Value.ref a from rx)
  obtain ⟨_,_,_,p⟩:=(show iJ X.prog X.w H s.heap a (.tup xs) from I.hok a _ ea)
  obtain ⟨o,h1,h2,_⟩:=p
  exact eO K1 I.kIn ⟨o,h1,h2⟩ e (λz=>nomatch z) h
 | @dK a kvs ea =>
  cases (show u=Value.ref a from rx)
  obtain ⟨_,_,vs,_,p⟩:=(show iJ X.prog X.w H s.heap a (.dK kvs) from I.hok a _ ea)
  obtain ⟨o,es,ep,h1,h2,_⟩:=p
  exact eO NG I.kIn ⟨o,h1,h2.1⟩ e (λz=>nomatch z) h
 | @dT a kvs ea =>
  cases (show u=Value.ref a from rx)
  obtain ⟨_,_,xs,_,o,es,ep,h1,h2,_⟩:=(show iJ X.prog X.w H s.heap a (.dT kvs) from I.hok a _ ea)
  exact eO NG I.kIn ⟨o,h1,h2.1⟩ e (λz=>nomatch z) h
 | @ins a C dx fs ea cl ha hn htk hm =>
  cases (show u=Value.ref a from rx)
  obtain ⟨mA,O,_⟩:=AL I.hok ea
  obtain ⟨od,J,_⟩:=O.look
  exact eO (PySem.W.kitx_own (cl.get _) cl.hd ha hn htk hm) I.kIn J e (λz=>nomatch z) h
end
end L2

namespace L2
open PySem PySem.Spec PyProof.Rows

structure Room (k:Nat) (A:Around):Prop where
 hd:A.handled=none
 dp:A.depth+3*k+5<recursionLimit
 un:A.units+16*k+200<cLine
 gd:A.guards=some []
theorem Room.mono {j k:Nat} {A:Around} (r:Room k A) (h:j<=k):Room j A:=⟨r.hd,by have:=r.dp;omega,by have:=r.un;omega,r.gd⟩
theorem Room.deeper {k:Nat} {A:Around} (r:Room (k+1) A) (env:Env):Room k (A.deeper env) :=
 ⟨r.hd,by have:=r.dp;show A.depth+1+3*k+5<_;omega,by have:=r.un;show A.units+3+16*k+200<_;omega,r.gd⟩
theorem Room.in1 {k:Nat} {A:Around} (r:Room (k+1) A):Room k A.in1 :=
 ⟨r.hd,by have:=r.dp;show A.depth+3*k+5<_;omega,by have:=r.un;show A.units+1+16*k+200<_;omega,r.gd⟩
theorem JW {A:Around} {C:Addr} {us:List Value} {kw:List (Str×Value)}:(A.under (.builtin "type.__call__" ⟨.ref C::us,kw⟩)).depth=A.depth+1:=by
 first | rfl | simp [Around.under,Code.weight,Code.isCreation,Code.isGuard,Code.isCaller,Code.frames,Code.isFrame,guardIds]
theorem JV {A:Around} {C:Addr} {us:List Value} {kw:List (Str×Value)}:(A.under (.builtin "type.__call__" ⟨.ref C::us,kw⟩)).units=A.units+1:=by
 first | rfl | simp [Around.under,Code.cUnits,Code.frames,Code.isFrame]
theorem Room.make {k:Nat} {A:Around} (r:Room (k+1) A) (C:Addr) (us:List Value) (kw:List (Str×Value)):Room k (A.under (.builtin "type.__call__" ⟨.ref C::us,kw⟩)) :=
 ⟨r.hd,by have:=r.dp;rw [JW];omega,by have:=r.un;rw [JV];omega,by first | exact r.gd | (simp [Around.under,Code.isGuard,guardIds];exact r.gd)⟩
theorem Room.depth {k:Nat} {A:Around} (r:Room k A):A.depth<recursionLimit:=by have:=r.dp;omega
def EN:TA:=λ_ H Q=>Q [] H
def uQ (ta:TE) (tr:TA):TA:=λσ H Q=>ta σ H λx H1=>tr σ H1 λxs H2=>Q (x::xs) H2
section
variable {X:Cx} {e:Expr} {es:List Expr} {te:TE} {t:TA} {pos:Pos}
theorem iZ:PA X [] EN:=λ_ _ _ _ H Q I h=>Calls.spliced_nil ⟨[],H,I,.nil,h⟩
theorem fL (ha:PE X e te) (hr:PA X es t) (hs:bN (e::es) X.env=(false,eval e X.env)::bN es X.env:=by rfl):PA X (e::es) (uQ te t):=by
 intro pos pins s σ H Q I h
 rw [hs]
 show wpAny _ _ (spliced ((false,eval e X.env)::backTo pos (bN es X.env))) _ _ s
 refine Calls.spliced_cons (iX (ha pins s σ H _ I h) λu s1 ⟨x,H1,I1,r1,q1⟩=>?_)
 exact iX (hr pos pins s1 σ H1 _ I1 q1) λus s2 ⟨xs,H2,I2,r2,q2⟩=>⟨x::xs,H2,I2,.cons r1 r2,q2⟩

def aIm (t:TA):TE:=λσ H Q=>t σ H λxs H1=>xs.length<=bD/\∀ p,H1 p=none->Q (.ref p) (fZ H1 p (.tup xs))
def aIq (t:TA):TE:=λσ H Q=>t σ H λxs H1=>xs.length<=bD/\∀ p,H1 p=none->Q (.ref p) (fZ H1 p (.lst xs))
theorem JK {x1} (h:PA X es t):PE X (.Tuple es x1 pos) (aIm t):=by
 intro pins s σ H Q I hq
 refine wpAny_Tuple_spliced (iX (h pos pins s σ H _ I hq) λus s1 ⟨xs,H1,I1,r,z,q⟩=>⟨by rw [<- r.length];exact z,?_⟩)
 have hf:H1 s1.heap.objs.size=none:=I1.hok.fresh (aL _)
 refine ⟨.ref s1.heap.objs.size,fZ H1 s1.heap.objs.size (.tup xs),I1.laid (t':=s1.toks) (λb u e=>aJ _ e) (aL _) ?_,rfl,q _ hf⟩
 exact ⟨z,us,r,⟨_,aR _ rfl,rfl,_,rfl,rfl⟩⟩
theorem JL (h:PA X es t):PE X (.List es pos) (aIq t):=by
 intro pins s σ H Q I hq
 refine wpAny_List_spliced (iX (h pos pins s σ H _ I hq) λus s1 ⟨xs,H1,I1,r,z,q⟩=>⟨by rw [<- r.length];exact z,?_⟩)
 have hf:H1 s1.heap.objs.size=none:=I1.hok.fresh (aL _)
 refine ⟨.ref s1.heap.objs.size,fZ H1 s1.heap.objs.size (.lst xs),I1.laid (t':=s1.toks) (λb u e=>aJ _ e) (aL _) ?_,rfl,q _ hf⟩
 exact ⟨z,us,0,r,aR _ rfl⟩
end

abbrev Sp:=List V->Hp->VK->XK->Prop
abbrev NE:=List Env->Hp->Shared->XK->Value->Shared->Prop

structure CU (P:bF) (w:World) (K:aD) (mg:Str->Option Value) (base:Heap) (A:Around) (outer:List Env) (s:Shared) (H:Hp):Prop where
 frames:A.frames=some outer
 mod:Mod K mg base
 bs:∀ b o,base.get? b=some o->s.heap.get? b=some o/\H b=none
 bsz:base.objs.size<=s.heap.objs.size
 funs:s.heap.FunFrames base outer
 frf:∀ b∈P3 outer,H b=none
 hok:vX P w H s.heap
 bare:AllBare s.gens
 tab:Tb H
def CE (outer:List Env) (P:bF) (w:World) (H:Hp) (s:Shared) (Q:VK) (u:Value) (s':Shared):Prop :=
 ∃ v H',s'.os=s.os/\AllBare s'.gens/\Un (P3 outer) [] H H' s.heap s'.heap/\vX P w H' s'.heap/\gC v u/\Q v H'
def CR (CX:NE) (outer:List Env) (P:bF) (w:World) (H:Hp) (s:Shared) (Q:VK) (E:XK) (r:Result) (s':Shared):Prop :=
 match r with
 | .ok (.ret u)=>CE outer P w H s Q u s'
 | .ok _=>False
 | .error e=>CX outer H s E e s'
structure cL (P:bF) (w:World) (K:aD) (mg:Str->Option Value) (base:Heap) (CX:NE) (k:Nat) (f:Addr) (fd:dI) (ps:List Str) (sp:Sp):Prop where
 len:∀ vs H Q E,sp vs H Q E->vs.length=ps.length
 run:∀ (A:Around) (outer:List Env) (s:Shared) (H:Hp) (args:Args) (us:List Value) (vs:List V) (Q:VK) (E:XK),Room k A->CU P w K mg base A outer s H->BindsTo s fd args (ps.zip us)->fG vs us->sp vs H Q E ->
  codeAny (model P w) A (.call (.ref f) args) (CR CX outer P w H s Q E) s
theorem cL.mono {P:bF} {w:World} {K:aD} {mg:Str->Option Value} {base:Heap} {CX:NE} {j k:Nat} {f:Addr} {fd:dI} {ps:List Str} {sp:Sp} (F:cL P w K mg base CX j f fd ps sp) (h:j<=k) :
  cL P w K mg base CX k f fd ps sp:=⟨F.len,λA outer s H args us vs Q E hr=>F.run A outer s H args us vs Q E (hr.mono h)⟩
theorem cL.imp {P:bF} {w:World} {K:aD} {mg:Str->Option Value} {base:Heap} {CX:NE} {k:Nat} {f:Addr} {fd:dI} {ps:List Str} {sp sp':Sp} (F:cL P w K mg base CX k f fd ps sp)
  (h:∀ vs H Q E,sp' vs H Q E->sp vs H Q E):cL P w K mg base CX k f fd ps sp' :=
 ⟨λvs H Q E q=>F.len vs H Q E (h _ _ _ _ q),λA outer s H args us vs Q E hr he hb hv hs=>F.run A outer s H args us vs Q E hr he hb hv (h _ _ _ _ hs)⟩

theorem CU.make {P:bF} {w:World} {K:aD} {mg:Str->Option Value} {base:Heap} {A:Around} {outer:List Env} {s:Shared} {H:Hp} (e:CU P w K mg base A outer s H) (C:Addr) (us:List Value) (kw:List (Str×Value)) :
  CU P w K mg base (A.under (.builtin "type.__call__" ⟨.ref C::us,kw⟩)) outer s H:=⟨by first | exact e.frames | (simpa [Around.under,Code.envs,Code.isFrame,pushEnvs] using e.frames),e.mod,e.bs,e.bsz,e.funs,e.frf,e.hok,e.bare,e.tab⟩
theorem CU.in1 {P:bF} {w:World} {K:aD} {mg:Str->Option Value} {base:Heap} {A:Around} {outer:List Env} {s:Shared} {H:Hp} (e:CU P w K mg base A outer s H) :
  CU P w K mg base A.in1 outer s H:=⟨e.frames,e.mod,e.bs,e.bsz,e.funs,e.frf,e.hok,e.bare,e.tab⟩

section
variable {X:Cx} {pins:List (Addr×Obj)} {σ:St} {H:Hp} {s s':Shared}
theorem dP.env0 (I:dP X pins σ H s):CU X.prog X.w X.K X.mg X.base X.A X.stack s H :=
 ⟨I.ok.frames,I.ok.mod,I.bs,cM I.ok.bsz I.sz,I.stack,I.stkFree,I.hok,I.bare,λP e=>let ⟨ps,h⟩:=I.ok.tab P e;let ⟨m,h'⟩:=I.base.tbls P ps h;⟨_,h'⟩⟩
theorem dP.after {Q:VK} {u:Value} (I:dP X pins σ H s) (h:CE X.stack X.prog X.w H s Q u s'):EP X pins σ Q u s':=by
 obtain ⟨v,H',os,bare,un,hok,r,q⟩:=h
 obtain ⟨hh,g,d,t,os'⟩:=s'
 obtain rfl:os'=s.os:=os
 exact ⟨v,H',I.call (h':=hh) (g':=g) (d':=d) (t':=t) (ch:=[]) un hok bare (λb z=>absurd z (by simp)),r,q⟩
end

def C3 (sp:Sp) (dvs:List V) (E:XK) (t:TA):TE:=λσ H Q=>t σ H λvs H1=>sp (vs++dvs) H1 Q E
def YU (C:Addr) (m:Str) (sp:Sp) (dvs:List V) (E:XK) (ta:TE) (t:TA):TE:=λσ H Q=>ta σ H λx H1=>∃ a dx fs,x=.ref a/\H1 a=some (.ins C dx fs)/\fs.lookup m=none /\
 t σ H1 λvs H2=>sp (x::(vs++dvs)) H2 Q E
def YV (C:Addr) (sp:Sp) (dvs:List V) (E:XK) (t:TA):TE:=λσ H Q=>t σ H λvs H1=>∀ x dx,H1 x=none->H1 dx=none->dx≠x ->
 sp (.ref x::(vs++dvs)) (fZ (fZ H1 dx (.own x)) x (.ins C dx [])) (λv H2=>v=.non/\Q (.ref x) H2) E

def pH (K:aD) (fd:dI) (ps:List Str) (ds:List Value):Prop :=
 ∀ (s:Shared) (us:List Value),K.In s.heap->(us++ds).length=ps.length->BindsTo s fd ⟨us,[]⟩ (ps.zip (us++ds))
theorem pH.all {K:aD} {fd:dI} {ps:List Str} (h:∀ us:List Value,us.length=ps.length->bindArgs fd ⟨us,[]⟩=pure (ps.zip us)):pH K fd ps []:=λs us _ hl=>by
 rw [fA] at hl |-
 exact .of_eq (h us hl)

def yK (CX:NE) (X:Cx) (E:XK):Prop:=∀ (pins:List (Addr×Obj)) (σ:St) (H:Hp) (s:Shared) (e:Value) (s':Shared),dP X pins σ H s->CX X.stack H s E e s'->X.xe e s'

section
variable {X:Cx} {CX:NE} {k:Nat} {f C:Addr} {fd:dI} {ps:List Str} {sp:Sp} {dvs:List V} {ds:List Value} {E:XK} {x m:Str} {p pos apos:Pos} {e o:Expr} {es:List Expr} {ta:TE} {t:TA}

theorem RD {pins:List (Addr×Obj)} {σ:St} {H:Hp} {s:Shared} {Q:VK} {us:List Value} {vs:List V} (F:cL X.prog X.w X.K X.mg X.base CX k f fd ps sp) (hr:Room k X.A) (hb:pH X.K fd ps ds) (hd:fG dvs ds) (hx:yK CX X E)
  (I:dP X pins σ H s) (r:fG vs us) (h:sp (vs++dvs) H Q E):wpAny (model X.prog X.w) X.A (call (.ref f) us) (EP X pins σ Q) X.xe s:=by
 have r2:fG (vs++dvs) (us++ds):=r.append hd
 have hl:(us++ds).length=ps.length:=by rw [<- r2.length];exact F.len _ _ _ _ h
 refine wpAny_call (codeAny_mono (F.run X.A X.stack s H ⟨us,[]⟩ (us++ds) (vs++dvs) Q E hr I.env0 (hb s us I.kIn hl) r2 h) λr s' hq=>?_)
 cases r with
 | error e=>exact hx pins σ H s e s' I hq
 | ok fl =>
  cases fl with
  | ret u=>exact I.after hq
  | next=>exact False.elim hq
  | brk=>exact False.elim hq
  | cont=>exact False.elim hq

theorem tN (F:cL X.prog X.w X.K X.mg X.base CX k f fd ps sp) (hr:Room k X.A) (hg:Gl X x) (hm:X.mg x=some (.ref f)) (hk:fU X.K (.ref f)=true) (hb:pH X.K fd ps ds) (hd:fG dvs ds) (hx:yK CX X E)
  (ha:PA X (e::es) t) (hdb:(x == ("__debug__":Str))=false:=by decide) (he:bN (e::es) X.env=(false,eval e X.env)::bN es X.env:=by rfl) (hpl:(backTo pos (bN es X.env)).any (·.1)=false:=by rfl) :
  PE X (.Call (.Name x p) (e::es) [] pos) (C3 sp dvs E t):=by
 intro pins s σ H Q I h
 refine wpAny_Call_Name_kw (FC I hg hm ?_ hdb)
 refine vU (h₀:=X.base) I.ok.mod.kin hk (iX (ha pos pins s σ H _ I h) λus s1 ⟨vs,H1,I1,r,q⟩=>⟨I1.kIn,?_⟩) he hpl
 exact RD F hr hb hd hx I1 r q
theorem AD {pl:Sem Bool} (he:PE X o ta) (c:P6 X.K C) (hm:YL X.K C m f) (F:cL X.prog X.w X.K X.mg X.base CX k f fd ps sp) (hr:Room k X.A) (hb:pH X.K fd ps ds) (hd:fG dvs ds) (hx:yK CX X E) (ha:PA X (e::es) t)
  (hst:bN (e::es) X.env=(false,eval e X.env)::bN es X.env:=by rfl) (hpl:(backTo pos (bN es X.env)).any (·.1)=false:=by rfl)
  (ht:eval (.Call (.Attribute o m apos) (e::es) [] pos) X.env=(do
   let ov <- eval o X.env
   standAt apos.atName
   let (f,first) <- holding [ov] (getMethod ov m pl)
   callWith pos f first (backTo pos (bN (e::es) X.env)) (backToKw pos (keywordEach [] X.env))):=by rfl) :
  PE X (.Call (.Attribute o m apos) (e::es) [] pos) (YU C m sp dvs E ta t):=by
 intro pins s σ H Q I h
 refine PySem.W.methodCall_KW (pl:=pl) (iX (he pins s σ H _ I h) λu s1 ⟨x,H1,I1,rx,a,dx,fs,ex,ea,l,q⟩=>?_) ht
 subst ex
 obtain rfl:u=Value.ref a:=rx
 refine J8 I1 ea c hm l ?_
 refine vU (first:=[.ref a]) (h₀:=X.base) I.ok.mod.kin hm.kp (iX (ha pos pins s1 σ H1 _ I1 q) λus s2 ⟨vs,H2,I2,r,q2⟩=>⟨I2.kIn,?_⟩) hst hpl
 exact RD (us:=.ref a::us) (vs:=.ref a::vs) F hr hb hd hx I2 (.cons rfl r) q2
structure Mk (K:aD) (C f:Addr):Prop where
 makes:P7 K C=true
 init:fK K (.ref C) "__init__"=some (some (.ref f))
 fn:FZ K (.ref f)=true
 kp:fU K (.ref C)=true

theorem RC {pins:List (Addr×Obj)} {σ:St} {H:Hp} {s:Shared} {Q:VK} {us:List Value} {vs:List V} (M:Mk X.K C f) (F:cL X.prog X.w X.K X.mg X.base CX k f fd ps sp) (hr:Room (k+1) X.A) (hb:pH X.K fd ps ds) (hd:fG dvs ds)
  (hx:yK CX X E) (I:dP X pins σ H s) (r:fG vs us)
  (h:∀ x dx,H x=none->H dx=none->dx≠x->sp (.ref x::(vs++dvs)) (fZ (fZ H dx (.own x)) x (.ins C dx [])) (λv H2=>v=.non/\Q (.ref x) H2) E) :
  wpAny (model X.prog X.w) X.A (call (.ref C) us) (EP X pins σ Q) X.xe s:=by
 have hq:=h (s.heap.objs.size+1) s.heap.objs.size (I.hok.fresh (PU _)) (I.hok.fresh (aL _)) (bS (eE _))
 have I2:=dP.made (C:=C) I
 have r2:fG (V.ref (s.heap.objs.size+1)::(vs++dvs)) (Value.ref (s.heap.objs.size+1)::(us++ds)):=.cons rfl (r.append hd)
 have hl:(Value.ref (s.heap.objs.size+1)::us++ds).length=ps.length:=by
  have e:=r2.length
  rw [F.len _ _ _ _ hq] at e
  exact e.symm
 refine wpAny_call (SZ (f:=f) I.kIn M.makes M.init (beq_iff_eq.mp M.fn) (codeAny_mono (F.run _ X.stack _ _ ⟨Value.ref (s.heap.objs.size+1)::us,[]⟩ (Value.ref (s.heap.objs.size+1)::(us++ds)) _ _ E (hr.make C us [])
  (I2.env0.make C us []) (hb _ (Value.ref (s.heap.objs.size+1)::us) I2.kIn hl) r2 hq) λr s' hq'=>?_))
 cases r with
 | error e=>exact hx pins σ _ _ e s' I2 hq'
 | ok fl =>
  cases fl with
  | ret u =>
   obtain ⟨v,H',I3,rv,ev,q3⟩:=I2.after hq'
   subst ev
   exact ⟨rv,⟨V.ref (s.heap.objs.size+1),H',I3,rfl,q3⟩⟩
  | next=>exact False.elim hq'
  | brk=>exact False.elim hq'
  | cont=>exact False.elim hq'
theorem WP (M:Mk X.K C f) (F:cL X.prog X.w X.K X.mg X.base CX k f fd ps sp) (hr:Room (k+1) X.A) (hg:Gl X x) (hm:X.mg x=some (.ref C)) (hb:pH X.K fd ps ds) (hd:fG dvs ds) (hx:yK CX X E)
  (ha:PA X (e::es) t) (hdb:(x == ("__debug__":Str))=false:=by decide) (he:bN (e::es) X.env=(false,eval e X.env)::bN es X.env:=by rfl) (hpl:(backTo pos (bN es X.env)).any (·.1)=false:=by rfl) :
  PE X (.Call (.Name x p) (e::es) [] pos) (YV C sp dvs E t):=by
 intro pins s σ H Q I h
 refine wpAny_Call_Name_kw (FC I hg hm ?_ hdb)
 refine vU (h₀:=X.base) I.ok.mod.kin M.kp (iX (ha pos pins s σ H _ I h) λus s1 ⟨vs,H1,I1,r,q⟩=>⟨I1.kIn,?_⟩) he hpl
 exact RC M F hr hb hd hx I1 r q
end

section
variable {X:Cx} {CX:NE} {k:Nat} {f C:Addr} {fd:dI} {ps ks:List Str} {sp:Sp} {E:XK} {x m:Str} {p pos apos kpos:Pos} {e o:Expr} {es:List Expr} {kws:List Keyword} {te ta:TE} {t tk:TA} {nm:Option Str}
variable {g:List Value->List Value->List Value} {gV:List V->List V->List V}
end

structure dB (N P:List Str) (sc:Scope):Prop where
 kind:sc.kind=.function
 co:sc.isCoroutine=false
 gen:sc.isGenerator=false
 nd:N.Nodup
 pre:N.take P.length=P
 par:∀ x∈P,sc.names.lookup x=some .local\/sc.names.lookup x=some .cell
 nofree:∀ y∈sc.names,y.2≠.free

theorem D2 {kindOf:Str->Option NameKind} {x:Str}:∀ {binds:List (Str×Value)} {m:Str->Option Value},(∀ v,(x,v)∉binds)->bindL kindOf binds m x=m x
 | [],_,_=>rfl
 | (n,v)::r,m,h=>by
  unfold bindL
  rw [D2 λw hw=>h w (aN _ hw)]
  split
  ·have:x≠n:=by rintro rfl;exact h v aU
   simp [this]
  ·rfl
theorem D4 {kindOf:Str->Option NameKind} {x:Str}:∀ {binds:List (Str×Value)} {m:Str->Option Value},(∀ v,(x,v)∉binds)->bindC kindOf binds m x=m x
 | [],_,_=>rfl
 | (n,v)::r,m,h=>by
  unfold bindC
  rw [D4 λw hw=>h w (aN _ hw)]
  split
  ·rfl
  ·have:x≠n:=by rintro rfl;exact h v aU
   simp [this]
theorem D3 {kindOf:Str->Option NameKind} {x:Str} {v:Value}:∀ {P:List Str} {vs:List Value} {i:Nat} {m:Str->Option Value},P.Nodup->P[i]?=some x->vs[i]?=some v->kindOf x=some .local ->
  bindL kindOf (P.zip vs) m x=some v
 | [],_,_,_,_,h,_,_=>by simp at h
 | _::_,[],_,_,_,_,h,_=>by simp at h
 | p::P,w::vs,0,m,nd,h1,h2,hk=>by
  simp at h1 h2;subst h1;subst h2
  show bindL kindOf ((p,w)::P.zip vs) m p=_
  unfold bindL
  rw [D2 λv hv=>(iK.mp nd).1 (CH hv).1,if_pos hk]
  simp
 | p::P,w::vs,i+1,m,nd,h1,h2,hk=>by
  show bindL kindOf ((p,w)::P.zip vs) m x=_
  unfold bindL
  exact D3 (i:=i) (iK.mp nd).2 (by simpa using h1) (by simpa using h2) hk
theorem D5 {kindOf:Str->Option NameKind} {x:Str} {v:Value}:∀ {P:List Str} {vs:List Value} {i:Nat} {m:Str->Option Value},P.Nodup->P[i]?=some x->vs[i]?=some v->kindOf x≠some .local ->
  bindC kindOf (P.zip vs) m x=some v
 | [],_,_,_,_,h,_,_=>by simp at h
 | _::_,[],_,_,_,_,h,_=>by simp at h
 | p::P,w::vs,0,m,nd,h1,h2,hk=>by
  simp at h1 h2;subst h1;subst h2
  show bindC kindOf ((p,w)::P.zip vs) m p=_
  unfold bindC
  rw [D4 λv hv=>(iK.mp nd).1 (CH hv).1,if_neg hk]
  simp
 | p::P,w::vs,i+1,m,nd,h1,h2,hk=>by
  show bindC kindOf ((p,w)::P.zip vs) m x=_
  unfold bindC
  exact D5 (i:=i) (iK.mp nd).2 (by simpa using h1) (by simpa using h2) hk

def pA (N:List Str) (vs:List V):St:=vs.map some++mV (N.length-vs.length) none

def yF (CX:NE) (P:bF) (w:World) (K:aD) (mg:Str->Option Value) (base:Heap) (N:List Str) (qual:Str) (scope:Scope) (f:Addr) (cd:Value) (A:Around) (outer:List Env) (s:Shared) (H:Hp) (E:XK):Cx where
 prog:=P
 w:=w
 K:=K
 mg:=mg
 base:=base
 A:=A.deeper (envOfC qual scope s.heap.objs.size f cd)
 N:=N
 s₀:=s
 H₀:=H
 env:=envOfC qual scope s.heap.objs.size f cd
 outer:=outer
 stack:=envOfC qual scope s.heap.objs.size f cd::outer
 ex:=[]
 calm:=true
 fn:=λ_=>true
 pn:=[]
 xe:=λe s'=>wpAny (model P w) (A.deeper (envOfC qual scope s.heap.objs.size f cd)) (leaving (envOfC qual scope s.heap.objs.size f cd) e) (λ_ s''=>CX outer H s E e s'') (λe' s''=>CX outer H s E e' s'') s'

theorem HW {sc:Scope} {n:Nat} {x:Str} (h:sc.names.lookup x=some .cell):∃ c,(cellsFrom n sc.names []).lookup x=some c:=by
 have q:=F0 sc.names n [] (.inl h)
 exact Option.isSome_iff_exists.mp q

theorem OR {CX:NE} {P:bF} {w:World} {K:aD} {mg:Str->Option Value} {base:Heap} {N ps:List Str} {qual:Str} {scope:Scope} {f:Addr} {cd:Value} {A:Around} {outer:List Env} {s s1:Shared} {H:Hp} {E:XK} {us:List Value} {vs:List V}
  (S:dB N ps scope) (hd:A.handled=none) (e0:CU P w K mg base A outer s H) (hl:vs.length=ps.length) (r:fG vs us)
  (x:InCallC s s.heap.objs.size (bindL (envOfC qual scope s.heap.objs.size f cd).kindOf (ps.zip us) λ_=>none) (cellsFrom (s.heap.objs.size+1) scope.names []) (bindC (envOfC qual scope s.heap.objs.size f cd).kindOf (ps.zip us) λ_=>none) s1) :
  dP (yF CX P w K mg base N qual scope f cd A outer s H E) [] (pA N vs) H s1:=by
 have hpl:ps.length<=N.length:=by have:=congrArg iG S.pre;rw [bC] at this;omega
 obtain ⟨h1,tk,rfl,hk⟩:=x.done
 have noA:∀ b:Addr,b∉(yF CX P w K mg base N qual scope f cd A outer s H E).ex:=λb z=>absurd (show b∈([]:List Addr) from z) (by simp)
 refine ⟨⟨e0.mod,S.kind,rfl,rfl,aL _,λy z c h1 h2=>?_,λy hy=>?_,λy c _ h=>?_,λ_=>hd,Around.frames_deeper e0.frames,.inr ⟨rfl,rfl⟩,λb z=>absurd z (noA b),e0.bs,e0.bsz,λb _ _=>noA b,λb z=>absurd z (noA b),e0.funs,e0.frf,e0.tab⟩,
  rfl,e0.bare,Un.kept hk,⟨_,x.toInCall.ns,λi y v h1 h2 h3=>?_⟩,λy c h=>⟨_,x.cell y c h⟩,e0.hok.fresh (aL _),λy c h=>?_,λp hp=>absurd (show p∈([]:List (Addr×Obj)) from hp) (by simp),e0.hok.kept hk,?_⟩
 ·exact name_of_addr x.apart (PySem.mem_of_lookup h1) (PySem.mem_of_lookup h2)
 ·have hy:scope.names.lookup y=some .cell\/scope.names.lookup y=some .free:=hy
  rcases hy with hy | hy
  ·exact HW hy
  ·exact absurd rfl (S.nofree _ (PySem.mem_of_lookup hy))
 ·exact jZ (x.above y c (PySem.mem_of_lookup h))
 ·have hi:i<vs.length:=by
   unfold pA at h2
   by_cases hi:i<vs.length
   ·exact hi
   ·rw [dN (by simpa using hi)] at h2
    rw [jN] at h2
    split at h2<;>cases h2
  have ha:vs[i]?=some v:=by
   unfold pA at h2
   rw [dH (by simpa using hi),aI] at h2
   cases e:vs[i]? with
   | none=>rw [e] at h2;cases h2
   | some a=>rw [e] at h2;cases h2;rfl
  obtain ⟨u,hu,rv⟩:=r.get ha
  have hp:ps[i]?=some y:=by
   rw [<- S.pre,F7 (by omega)];exact h1
  have ndP:ps.Nodup:=by rw [<- S.pre];exact S.nd.sublist (zK _ _)
  refine ⟨u,rv,?_⟩
  rcases S.par y (aV hp) with k | k
  ·exact .inl ⟨k,D3 ndP hp hu k⟩
  ·obtain ⟨c,e⟩:=HW (n:=s.heap.objs.size+1) k
   refine .inr ⟨.inl k,c,e,?_⟩
   have q:=x.cell y c e
   rw [D5 ndP hp hu (by show scope.names.lookup y≠_;rw [k];decide)] at q
   exact q
 ·exact e0.hok.fresh (jZ (x.above y c (PySem.mem_of_lookup h)))
 ·unfold pA
  show _=N.length
  rw [bL,aB,List.length_replicate]
  omega

theorem aG7 {CX:NE} {P:bF} {w:World} {K:aD} {mg:Str->Option Value} {base:Heap} {k:Nat} {f:Addr} {name qual:Str} {params:Arguments} {body:List Stmt} {scope:Scope} {dV kV doc pm cdv ct oc:Value} {an od:Option Addr}
  {osl:Array (Option Value)} {N ps:List Str} {sp:Sp} (lk:K.lookup f=some ⟨oc,od,.func (mP name qual params body scope dV kV doc pm an cdv ct),osl⟩) (hcd:oO K cdv qual=true) (S:dB N ps scope)
  (len:∀ vs H Q E,sp vs H Q E->vs.length=ps.length)
  (hbody:∀ (A:Around) (outer:List Env) (s:Shared) (H:Hp) (vs:List V) (Q:VK) (E:XK),Room k (A.deeper (envOfC qual scope s.heap.objs.size f cdv))->sp vs H Q E ->
   ∃ t,CQ (yF CX P w K mg base N qual scope f cdv A outer s H E) body t/\t { nx:=λ_ H'=>Q .non H',rt:=Q } (pA N vs) H) :
  cL P w K mg base CX (k+1) f (mP name qual params body scope dV kV doc pm an cdv ct) ps sp:=by
 refine ⟨len,λA outer s H args us vs Q E hr e0 hb r hsp=>?_⟩
 have hl:=len _ _ _ _ hsp
 have KX:K.In s.heap:=e0.mod.kin.keeps λb o e=>(e0.bs b o e).1
 have lim:s.heap.NoLimit:=e0.mod.nolimit.keeps λb o e=>(e0.bs b o e).1
 have hkind:∀ y∈ps.zip us,scope.names.lookup y.1=some .local\/(scope.names.lookup y.1=some .cell/\((cellsFrom (s.heap.objs.size+1) scope.names []).lookup y.1).isSome=true):=λ⟨n,v⟩ hy=>by
  rcases S.par n (CH hy).1 with q | q
  ·exact .inl q
  ·exact .inr ⟨q,F0 _ _ _ (.inl q)⟩
 refine codeAny_call_function hr.depth (KX _ _ lk) rfl S.co S.gen rfl (PySem.W.codeRec_of KX hcd) (hb _ _ _ _ ?_)
 refine wpAny_newFunctionEnv_cells S.kind hkind λenv he s1 x=>?_
 subst he
 refine ⟨lim.keeps x.toInCall.keep,codeAny_func ?_⟩
 obtain ⟨t,ht,hq⟩:=hbody A outer s H vs Q E (hr.deeper _) hsp
 have I:dP (yF CX P w K mg base N qual scope f cdv A outer s H E) [] (pA N vs) H s1:=OR S hr.hd e0 hl r x
 refine gH (ht [] s1 (pA N vs) H _ I hq) (λfl s' hs=>?_) λe s' hs=>hs
 have fin:∀ {σ':St} {H':Hp} {v:V} {u:Value},dP (yF CX P w K mg base N qual scope f cdv A outer s H E) [] σ' H' s'->gC v u->Q v H'->CE outer P w H s Q u s' :=
  λ{σ' H' v u} J rv q=>⟨v,H',J.os,J.bare,J.base,J.hok,rv,q⟩
 cases fl with
 | ret u =>
  obtain ⟨v,σ',H',J,rv,q⟩:=hs
  exact fin J rv q
 | next =>
  obtain ⟨σ',H',J,q⟩:=hs
  exact fin (v:=V.non) (u:=Value.none) J rfl q
 | brk =>
  obtain ⟨_,_,_,q⟩:=hs
  exact False.elim q
 | cont =>
  obtain ⟨_,_,_,q⟩:=hs
  exact False.elim q
section
variable {X:Cx} {x:Str} {p pos:Pos} {e:Expr} {es:List Expr} {t:TA} {id T:String} {r:List V->Hp->VK->Prop}

def QS (r:List V->Hp->VK->Prop) (t:TA):TE:=λσ H Q=>t σ H λvs H1=>r vs H1 Q
theorem lD (hc:kJ X (.builtin id) r) (hg:Gl X x) (hm:X.mg x=none) (hv:bootBuiltins x=some (.builtin id)) (ha:PA X (e::es) t) (hn:x≠"__name__":=by decide) (hdb:(x == ("__debug__":Str))=false:=by decide)
  (he:bN (e::es) X.env=(false,eval e X.env)::bN es X.env:=by rfl) (hpl:(backTo pos (bN es X.env)).any (·.1)=false:=by rfl):PE X (.Call (.Name x p) (e::es) [] pos) (QS r t):=by
 intro pins s σ H Q I h
 refine wpAny_Call_Name_kw (vJ I hg hm hv ?_ hn hdb)
 exact PyProof.Rows.callWith_builtin1 (iX (ha pos pins s σ H _ I h) λus s1 ⟨vs,H1,I1,r1,q1⟩=>hc pins s1 σ H1 vs us Q I1 r1 q1) he hpl
theorem jH (hc:kJ X (.type T) r) (hg:Gl X x) (hm:X.mg x=none) (hv:bootBuiltins x=some (.type T)) (ha:PA X (e::es) t) (hn:x≠"__name__":=by decide) (hdb:(x == ("__debug__":Str))=false:=by decide)
  (he:bN (e::es) X.env=(false,eval e X.env)::bN es X.env:=by rfl) (hpl:(backTo pos (bN es X.env)).any (·.1)=false:=by rfl):PE X (.Call (.Name x p) (e::es) [] pos) (QS r t):=by
 intro pins s σ H Q I h
 refine wpAny_Call_Name_kw (vJ I hg hm hv ?_ hn hdb)
 exact PyProof.Rows.callWith_type1 (iX (ha pos pins s σ H _ I h) λus s1 ⟨vs,H1,I1,r1,q1⟩=>hc pins s1 σ H1 vs us Q I1 r1 q1) he hpl
end
end L2

namespace HT
open PySem PyProof.Rows

section
open PySem.SeqAt
open PySem.AutoSeq1 (wpAny_loadPart')
open PySem.MeetsSeq PySem.MeetsSeq2 PySem.MeetsSeq3

end

section
variable {prog:bF} {w:World} {A:Around} {E:Value->Shared->Prop} {s:Shared}

theorem cat_tup {t b:Addr} {vs ws:List Value} {Q:Value->Shared->Prop} (ht:IsTup s.heap t vs.toArray) (hb:IsTup s.heap b ws.toArray) (hv:vs≠[])
  (h1:ws=[]->Q (.ref t) s) (h2:ws≠[]->Q (.ref s.heap.objs.size) { s with heap:=s.heap.push { cls:=.type "tuple",data:=.seq (vs++ws).toArray } })
  (hsz:vs.length+ws.length<=bD):wpAny (model prog w) A (binaryOp .Add (.ref t) (.ref b)) Q E s:=by
 obtain ⟨⟨cls,dd,data,sl⟩,ho,hc,n,hd⟩:=id ht
 obtain ⟨⟨cls2,dd2,data2,sl2⟩,ho2,hc2,n2,hd2⟩:=id hb
 simp only at hc hd hc2 hd2
 subst hc hd hc2 hd2
 have e:vs.toArray++ws.toArray=(vs++ws).toArray:=by simp
 by_cases hw:ws=[]
 ·exact concat_meets ⟨_,ho,rfl⟩ ⟨_,ho2,rfl⟩ noFill_tuple_add seq_tuple_add rK qN (pX _ _)
   (tuple_addW1 t b vs.toArray ws.toArray n n2 dd dd2 sl sl2 (by simpa using hv) (by simp [hw])) ⟨ho,ho2,h1 hw⟩
 ·refine concat_meets ⟨_,ho,rfl⟩ ⟨_,ho2,rfl⟩ noFill_tuple_add seq_tuple_add rK qN (pX _ _)
   (tuple_addW2 t b vs.toArray ws.toArray n n2 dd dd2 sl sl2 (by simpa using hv) (by simpa using hw) (by rw [bR,bR];exact hsz)) ⟨ho,ho2,?_⟩
  rw [e]
  exact h2 hw

def sIx (n d:Nat):Option Int->Nat
 | none=>d
 | some v=>if v<0 then (v+(n:Int)).toNat else min v.toNat n
theorem sIx_none (n d:Nat):sIx n d none=d:=rfl
theorem sIx_nat (n d k:Nat):sIx n d (some (k:Int))=min k n:=by
 show (if (k:Int)<0 then ((k:Int)+(n:Int)).toNat else min (k:Int).toNat n)=min k n
 rw [if_neg (by omega),eG]
theorem sIx_le (n d:Nat) (hd:d<=n) (o:Option Int):sIx n d o<=n:=by
 cases o with
 | none=>exact hd
 | some v =>
  show (if v<0 then (v+(n:Int)).toNat else min v.toNat n)<=n
  by_cases hv:v<0
  ·rw [if_pos hv];omega
  ·rw [if_neg hv];exact rV _ _
theorem clip_eq (v:Int) (n d:Nat):(if v<0 then max (v+(n:Int)) 0 else min v (n:Int))=((sIx n d (some v):Nat):Int):=by
 show (if v<0 then max (v+(n:Int)) 0 else min v (n:Int))=(((if v<0 then (v+(n:Int)).toNat else min v.toNat n):Nat):Int)
 by_cases hv:v<0
 ·simp only [if_pos hv];omega
 ·simp only [if_neg hv];omega
theorem KQ (lo hi:Option Int) (n:Nat):Builtin.Slice.sliceAdjust lo hi 1 (n:Int)=(((sIx n 0 lo:Nat):Int),((sIx n n hi:Nat):Int)):=by
 have h1:¬ ((1:Int)<0):=by omega
 unfold Builtin.Slice.sliceAdjust
 simp only [h1,if_false]
 refine Prod.ext ?_ ?_
 ·cases lo with
  | none=>rfl
  | some v=>exact clip_eq v n 0
 ·cases hi with
  | none=>rfl
  | some v=>exact clip_eq v n n
theorem JI (i j:Nat):Builtin.Slice.slicePlaces (i:Int) (j:Int) 1=j-i:=by
 unfold Builtin.Slice.slicePlaces
 have h1:(1:Int) > 0:=by omega
 simp only [h1,if_true,aH2]
 split<;>omega
theorem A3 {v:Value} {o:Option Int} {Q:Option Int->Shared->Prop} (p:IsPart v o) (h:Q o s):wpAny (model prog w) A (Builtin.Slice.slicePartIndex v) Q E s:=by
 cases p with
 | none=>exact slicePart_none h
 | int i t=>exact slicePart_int h
theorem qF {sl:Addr} {vl vu:Value} {lo hi:Option Int} {n:Nat} {Q:Int×Int×Nat->Shared->Prop} (hs:s.heap.IsSliceOf sl vl vu .none) (pl:IsPart vl lo) (pu:IsPart vu hi)
  (h:Q (((sIx n 0 lo:Nat):Int),1,sIx n n hi-sIx n 0 lo) s):wpAny (model prog w) A (Builtin.Slice.sliceApplied (.ref sl) (pure (n:Int))) Q E s:=by
 obtain ⟨os,hos,hcs,hds⟩:=id hs
 unfold Builtin.Slice.sliceApplied Builtin.Slice.sliceFields
 refine aA (aA (wpAny_field hos hds (x:=vl) rfl (aA (wpAny_field hos hds (x:=vu) rfl (aA (wpAny_field hos hds (x:=.none) rfl (aF ?_)))))))
 refine aA (slicePart_none ?_)
 show wpAny _ _ (if ((1:Int) == 0)=true then _ else _) _ _ s
 rw [if_neg (by decide)]
 refine aA (A3 pl (aA (A3 pu (aA (aF ?_)))))
 show wpAny _ _ (match Builtin.Slice.sliceAdjust lo hi 1 (n:Int) with | (lo,hi)=>pure (lo,(1:Int),Builtin.Slice.slicePlaces lo hi 1)) _ _ s
 rw [KQ lo hi n]
 show wpAny _ _ (pure (((sIx n 0 lo:Nat):Int),(1:Int),Builtin.Slice.slicePlaces ((sIx n 0 lo:Nat):Int) ((sIx n n hi:Nat):Int) 1)) _ _ s
 rw [JI]
 exact aF h
theorem RY (xs:Array Value) (i k:Nat):((cK k).filterMap λ(m:Nat)=>xs[((i:Int)+(m:Int)*1).toNat]?).toArray=((xs.toList.drop i).take k).toArray:=by
 have e:(λ(m:Nat)=>xs[((i:Int)+(m:Int)*1).toNat]?)=λm=>xs[i+m]?:=by
  funext m
  have:((i:Int)+(m:Int)*1).toNat=i+m:=by omega
  rw [this]
 rw [e]
 have:=pick_run xs i k
 rw [QB] at this
 have e2:((λx=>xs[x]?) ∘ λx=>i+x)=λm=>xs[i+m]?:=rfl
 rw [e2] at this
 rw [this]

theorem getItem_tuple_cut {t sl:Addr} {items:Array Value} {vl vu:Value} {lo hi:Option Int} {Q:Value->Shared->Prop} (ht:IsTup s.heap t items) (hs:s.heap.IsSliceOf sl vl vu .none) (pl:IsPart vl lo) (pu:IsPart vu hi)
  (hw:¬ (sIx items.size 0 lo=0/\sIx items.size items.size hi=items.size))
  (h:Q (.ref s.heap.objs.size) { s with heap:=s.heap.push { cls:=.type "tuple",data:=.seq ((items.toList.drop (sIx items.size 0 lo)).take (sIx items.size items.size hi-sIx items.size 0 lo)).toArray } })
  (hsz:items.size<=bD):wpAny (model prog w) A (getItem (.ref t) (.ref sl)) Q E s:=by
 have htake:sizeOk (.seq ((items.toList.drop (sIx items.size 0 lo)).take (sIx items.size items.size hi-sIx items.size 0 lo)).toArray):=by
  show ((items.toList.drop (sIx items.size 0 lo)).take (sIx items.size items.size hi-sIx items.size 0 lo)).toArray.size<=bD
  rw [bR,bC,fD,bP]
  omega
 have hj:sIx items.size items.size hi<=items.size:=sIx_le _ _ (aL _) hi
 obtain ⟨os,hos,hcs,hds⟩:=id hs
 have hTs:s.TypeIs (.ref sl) "slice":=⟨os,hos,hcs⟩
 unfold getItem
 try with_reducible refine wpAny_holding ?_
 first | refine aA (aF ?_) | skip
 refine aA (wpAny_sequenceKey ht.typeIs (by decide) ?_)
 refine aA (wpAny_callSpecial?_slot (name:=Str.ofString "__getitem__") ht.typeIs PyProof.Rows.slot_tuple_getitem
  (cW PyProof.Rows.slot_tuple_getitem ht.typeIs entry_tuple_getitem ?_ (args_tuple_getitem _ _)))
 show wpAny _ _ (Builtin.Tuple.tupleItemsOf (.ref t) >>= _) _ _ s
 refine aA (tupleItemsOf_ ht ?_)
 refine aA (wpAny_typeOf hTs ?_)
 rw [if_pos (by decide)]
 refine aA (qF hs pl pu ?_)
 have hno:¬ ((((sIx items.size 0 lo:Nat):Int) == 0 && (1:Int) == 1 && (sIx items.size items.size hi-sIx items.size 0 lo) == items.size)=true):=by
  intro q
  rw [cJ,cJ] at q
  have q1:((sIx items.size 0 lo:Nat):Int)=0:=eq_of_beq q.1.1
  have q2:sIx items.size items.size hi-sIx items.size 0 lo=items.size:=eq_of_beq q.2
  exact hw ⟨by omega,by omega⟩
 show wpAny _ _ (if (((sIx items.size 0 lo:Nat):Int) == 0 && (1:Int) == 1 && (sIx items.size items.size hi-sIx items.size 0 lo) == items.size)=true then _ else _) _ _ s
 rw [if_neg hno,RY]
 first
  | exact aA (m:=Builtin.Tuple.tupleExact _) (cN (aF ⟨_,rfl,aF h⟩) htake)
  | exact aA (m:=Builtin.Tuple.tupleExact _) (cN (aA (aF (aF ⟨_,rfl,aF h⟩))) htake)
  | exact aA (aA (m:=Builtin.Tuple.tupleExact _) (cN (aF (aF ⟨_,rfl,aF h⟩)) htake))
  | exact aA (aA (m:=Builtin.Tuple.tupleExact _) (cN (aF ⟨_,rfl,aF h⟩) htake))
end
end HT

namespace L2
open PySem PySem.Spec PyProof.Rows

abbrev TO:=St->Hp->(Option Int->Hp->Prop)->Prop
def PO (X:Cx) (e:Option Expr) (t:TO):Prop :=
 ∀ (pins:List (Addr×Obj)) (s:Shared) (σ:St) (H:Hp) (Q:Option Int->Hp->Prop),dP X pins σ H s->t σ H Q ->
  wpAny (model X.prog X.w) X.A (evalPart e X.env) (λu s'=>∃ o H',dP X pins σ H' s'/\IsPart u o/\Q o H') X.xe s
def VP:TO:=λ_ H Q=>Q none H
def aEi (t:TE):TO:=λσ H Q=>t σ H λx H1=>∃ i,x=.int i/\Q (some i) H1

section
variable {X:Cx} {e:Expr} {te:TE} {lo hi:Option Expr} {tl th:TO} {pos p2:Pos}

theorem WL:PO X none VP:=by
 intro pins s σ H Q I h
 rw [evalPart_none]
 exact aF ⟨none,H,I,.none,h⟩
theorem WK (h:PE X e te):PO X (some e) (aEi te):=by
 intro pins s σ H Q I hw
 rw [evalPart_some]
 refine iX (h pins s σ H _ I hw) λu s1 ⟨x,H1,I1,r1,q1⟩=>?_
 obtain ⟨i,rfl,q⟩:=q1
 obtain ⟨t,rfl⟩:=r1
 exact ⟨some i,H1,I1,.int i t,q⟩

def UW (X:Cx) (r:V->Option Int->Option Int->Hp->VK->Prop):Prop :=
 ∀ (pins:List (Addr×Obj)) (s:Shared) (σ:St) (H:Hp) (x:V) (v vl vu:Value) (lo hi:Option Int) (sl:Addr) (Q:VK),dP X pins σ H s->gC x v->s.heap.IsSliceOf sl vl vu .none->IsPart vl lo->IsPart vu hi->r x lo hi H Q ->
  ∃ T id,typeLookup (.type T) "__getitem__"=pure (some (.builtin id))/\s.TypeIs v T/\wpAny (model X.prog X.w) X.A (getItem v (.ref sl)) (EP X pins σ Q) X.xe s
theorem UW.or {r r':V->Option Int->Option Int->Hp->VK->Prop} (h:UW X r) (h':UW X r'):UW X (λx lo hi H Q=>r x lo hi H Q\/r' x lo hi H Q):=by
 intro pins s σ H x v vl vu lo hi sl Q I rx hs pl pu q
 rcases q with q | q
 ·exact h pins s σ H x v vl vu lo hi sl Q I rx hs pl pu q
 ·exact h' pins s σ H x v vl vu lo hi sl Q I rx hs pl pu q
def tSl (r:V->Option Int->Option Int->Hp->VK->Prop) (te:TE) (tl th:TO):TE:=λσ H Q=>te σ H λx H1=>tl σ H1 λl H2=>th σ H2 λu H3=>r x l u H3 Q
theorem R3 {r:V->Option Int->Option Int->Hp->VK->Prop} (hr:UW X r) (he:PE X e te) (hl:PO X lo tl) (hu:PO X hi th):PE X (.Subscript e (.Slice lo hi none p2) pos) (tSl r te tl th):=by
 intro pins s σ H Q I h
 refine Subscript_ (iX (he pins s σ H _ I h) λv s1 ⟨x,H1,I1,r1,q1⟩=>?_)
 refine wpAny_Slice (iX (hl pins s1 σ H1 _ I1 q1) λvl s2 ⟨l,H2,I2,pl,q2⟩=>iX (hu pins s2 σ H2 _ I2 q2) λvu s3 ⟨u,H3,I3,pu,q3⟩=>?_)
 rw [evalPart_none]
 refine aF ?_
 have I4:dP X pins σ H3 { s3 with heap:=s3.heap.push { cls:=.type "slice",data:=.fields #[vl,vu,.none] } }:=I3.kept (t':=s3.toks) λb ob q=>aJ _ q
 obtain ⟨T,id,hT,ht,hg⟩:=hr pins { s3 with heap:=s3.heap.push { cls:=.type "slice",data:=.fields #[vl,vu,.none] } } σ H3 x v vl vu l u s3.heap.objs.size Q I4 r1 (Heap.IsSliceOf.new ..) pl pu q3
 show wpAny (model X.prog X.w) X.A (subscriptTail e (.Slice lo hi none p2) v (.ref s3.heap.objs.size)) (EP X pins σ Q) X.xe { s3 with heap:=s3.heap.push { cls:=.type "slice",data:=.fields #[vl,vu,.none] } }
 exact tail_any (ops:=[.ref s3.heap.objs.size,v]) ht hT hg (by with_unfolding_all rfl)

def FM (xs:List V) (lo hi:Option Int):List V:=(xs.drop (HT.sIx xs.length 0 lo)).take (HT.sIx xs.length xs.length hi-HT.sIx xs.length 0 lo)
theorem zE (xs:List V) (lo hi:Option Int):(FM xs lo hi).length<=xs.length:=by
 unfold FM
 rw [bC,fD]
 omega
def aIz (K:aD):V->Option Int->Option Int->Hp->VK->Prop:=λx lo hi H Q=>∃ a xs,x=.ref a/\rW K H a xs /\
 ¬ (HT.sIx xs.length 0 lo=0/\HT.sIx xs.length xs.length hi=xs.length)/\∀ p,H p=none->Q (.ref p) (fZ H p (.tup (FM xs lo hi)))
theorem aBz:UW X (aIz X.K):=by
 intro pins s σ H x v vl vu lo hi sl Q I rx hs pl pu h
 obtain ⟨a,xs,rfl,hx,hw,q⟩:=h
 cases rx
 obtain ⟨its,r,ht,hz⟩:=I.tuple hx
 have hlen:its.toArray.size=xs.length:=by rw [bR];exact r.length.symm
 refine ⟨"tuple",_,PyProof.Rows.slot_tuple_getitem.lookup,ht.typeIs,?_⟩
 refine HT.getItem_tuple_cut ht hs pl pu (by rw [hlen];exact hw) ?_ (by rw [hlen];exact hz)
 rw [hlen]
 refine ⟨.ref s.heap.objs.size,_,I.laid (t':=s.toks) (o:=.tup (FM xs lo hi)) (λb ob q=>aJ _ q) (aL _) ?_,rfl,q _ (I.hok.fresh (aL _))⟩
 exact ⟨cM (zE xs lo hi) hz,_,(r.drop (HT.sIx xs.length 0 lo)).take (HT.sIx xs.length xs.length hi-HT.sIx xs.length 0 lo),B6.new _ _⟩

def aFd (K:aD):R2:=λx y H Q=>∃ a b xs ys,x=.ref a/\y=.ref b/\rW K H a xs/\rW K H b ys/\xs≠[]/\xs.length+ys.length<=bD /\
 (ys=[]->Q (.ref a) H)/\(ys≠[]->∀ p,H p=none->Q (.ref p) (fZ H p (.tup (xs++ys))))
theorem fG.nil_iff {xs:List V} {us:List Value} (r:fG xs us):us=[]↔xs=[]:=by
 cases r with
 | nil=>simp
 | cons _ _=>simp
theorem WT:nF X (binaryOp .Add) (aFd X.K):=by
 intro pins s σ H x y v u Q I rx ry h
 obtain ⟨a,b,xs,ys,rfl,rfl,ha,hb,hx,hz,q1,q2⟩:=h
 cases rx
 cases ry
 obtain ⟨its,r1,p1,_⟩:=I.tuple ha
 obtain ⟨its2,r2,p2,_⟩:=I.tuple hb
 refine HT.cat_tup p1 p2 (λz=>hx (r1.nil_iff.mp z)) (λz=>⟨.ref a,H,I,rfl,q1 (r2.nil_iff.mp z)⟩) (λz=>?_) (by rw [<- r1.length,<- r2.length];exact hz)
 refine ⟨.ref s.heap.objs.size,_,I.laid (t':=s.toks) (o:=.tup (xs++ys)) (λb ob q=>aJ _ q) (aL _) ?_,rfl,q2 (λw=>z (r2.nil_iff.mpr w)) _ (I.hok.fresh (aL _))⟩
 exact ⟨by rw [bL];exact hz,_,r1.append r2,B6.new _ _⟩
end

def XD (n:Nat) (i:Int):Option Nat:=if 0<=i then (if i<n then some i.toNat else none) else if -(n:Int)<=i then some (i+n).toNat else none
def atI {α:Type} (xs:List α) (i:Int):Option α:=(XD xs.length i).bind λj=>xs[j]?
theorem XC {n:Nat} {i:Int} {j:Nat} (h:XD n i=some j):seqIndex? i n=some j/\j<n/\-(n:Int)<=i/\i<n:=by
 unfold XD at h
 by_cases h0:0<=i
 ·rw [if_pos h0] at h
  by_cases h1:i<n
  ·rw [if_pos h1] at h
   have e:i.toNat=j:=Option.some.inj h
   exact ⟨by rw [seqIndex_of h0 h1,e],by omega,by omega,h1⟩
  ·rw [if_neg h1] at h;cases h
 ·rw [if_neg h0] at h
  by_cases h1:-(n:Int)<=i
  ·rw [if_pos h1] at h
   have e:(i+n).toNat=j:=Option.some.inj h
   exact ⟨by rw [seqIndex_neg (by omega) h1,e],by omega,h1,by omega⟩
  ·rw [if_neg h1] at h;cases h
theorem FV {α:Type} {xs:List α} {i:Int} {v:α} (h:atI xs i=some v):∃ j,seqIndex? i xs.length=some j/\xs[j]?=some v/\j<xs.length/\-(xs.length:Int)<=i/\i<xs.length:=by
 unfold atI at h
 cases e:XD xs.length i with
 | none=>rw [e] at h;cases h
 | some j =>
  rw [e] at h
  obtain ⟨h1,h2,h3,h4⟩:=XC e
  exact ⟨j,h1,h,h2,h3,h4⟩
theorem gJ {α:Type} {xs:List α} {j:Nat} {v:α} (h:xs[j]?=some v):atI xs (j:Int)=some v:=by
 have hj:j<xs.length:=(aG.mp h).1
 have e:XD xs.length (j:Int)=some j:=by
  unfold XD
  rw [if_pos (by omega),if_pos (by omega)];simp
 unfold atI;rw [e];exact h
theorem UU {α:Type} (xs:List α) (v:α):atI (xs++[v]) (-1)=some v:=by
 have hl:(xs++[v]).length=xs.length+1:=by simp
 have e:XD (xs++[v]).length (-1)=some xs.length:=by
  unfold XD
  rw [hl,if_neg (by decide),if_pos (by omega)]
  congr 1
  omega
 unfold atI
 rw [e]
 show (xs++[v])[xs.length]?=some v
 simp

def AR (b:Expr):Prop:=∀ o i,subscripted b false o i=operate [o,i] (getItem o i)
def U0 (X:Cx) (r:R2):Prop :=
 ∀ (value slice:Expr) (pins:List (Addr×Obj)) (s:Shared) (σ:St) (H:Hp) (x y:V) (v u:Value) (Q:VK),dP X pins σ H s->gC x v->gC y u->r x y H Q ->
  subscripted slice false v u=operate [v,u] (getItem v u)->wpAny (model X.prog X.w) X.A (subscriptTail value slice v u) (EP X pins σ Q) X.xe s
def PP (X:Cx) (id:String) (r:V->List V->Hp->VK->Prop):Prop :=
 ∀ (pins:List (Addr×Obj)) (s:Shared) (σ:St) (H:Hp) (x:V) (xs:List V) (v:Value) (us:List Value) (Q:VK),dP X pins σ H s->gC x v->fG xs us->r x xs H Q ->
  wpAny (model X.prog X.w) X.A (call (.builtin id) (v::us)) (EP X pins σ Q) X.xe s
section
variable {X:Cx} {a b:Expr} {ta tb:TE} {pos:Pos}
theorem U0.or {r r':R2} (h:U0 X r) (h':U0 X r'):U0 X (λx y H Q=>r x y H Q\/r' x y H Q):=by
 intro value slice pins s σ H x y v u Q I rx ry q hs
 rcases q with q | q
 ·exact h value slice pins s σ H x y v u Q I rx ry q hs
 ·exact h' value slice pins s σ H x y v u Q I rx ry q hs
theorem PP.or {id:String} {r r':V->List V->Hp->VK->Prop} (h:PP X id r) (h':PP X id r'):PP X id (λx xs H Q=>r x xs H Q\/r' x xs H Q):=by
 intro pins s σ H x xs v us Q I rx rs q
 rcases q with q | q
 ·exact h pins s σ H x xs v us Q I rx rs q
 ·exact h' pins s σ H x xs v us Q I rx rs q
theorem L6 {r:R2} (hr:U0 X r) (ha:PE X a ta) (hb:PE X b tb) (hs:AR b):PE X (.Subscript a b pos) (tOp r ta tb):=by
 intro pins s σ H Q I h
 exact Subscript_ (aDr ha hb I h λv u s2 x y H2 I2 rx ry q=>hr a b pins s2 σ H2 x y v u Q I2 rx ry q (hs _ _))

def aFb (K:aD):R2:=λx y H Q=>∃ p xs i v,x=.ref p/\y=.int i/\mK K H p xs/\atI xs i=some v/\Q v H
def aE9 (K:aD):R2:=λx y H Q=>∃ p xs i v,x=.ref p/\y=.int i/\rW K H p xs/\atI xs i=some v/\Q v H
def aFa:R2:=λx y H Q=>∃ z i c,x=.str z/\y=.int i/\z.length<=bD/\atI z.cps.toList i=some c/\Q (.str ⟨#[c]⟩) H
theorem XB:U0 X (aFb X.K):=by
 intro value slice pins s σ H x y v u Q I rx ry h hs
 obtain ⟨p,xs,i,z,rfl,rfl,hq,he,q⟩:=h
 cases rx
 obtain ⟨t,rfl⟩:=ry
 obtain ⟨its,r,pl,hz⟩:=I.list hq
 obtain ⟨j,h1,h2,h3,h4,h5⟩:=FV he
 obtain ⟨w,ew,rw'⟩:=r.get h2
 have hl:=r.length
 have hn:=BH
 have fin:EP X pins σ Q w s:=⟨z,H,I,rw',q⟩
 by_cases h0:0<=i
 ·have hj:i.toNat=j:=by
   rw [seqIndex_of h0 h5] at h1
   exact Option.some.inj h1
  exact item_listR pl.isList h0 (by omega) (by rw [hj];simpa using ew) fin hs
 ·have hj:(i+(its.toArray.size:Int)).toNat=j:=by
   rw [seqIndex_neg (by omega) h4] at h1
   rw [bR,<- hl]
   exact Option.some.inj h1
  exact subscriptTail_builtinR (x:=w) pl.isList.typeIs slot_list_getitem.lookup
   (wpAny_getItem_list_neg (Q:=λr s'=>r=w/\EP X pins σ Q r s') pl.isList (by omega) (by rw [bR]<;>omega) (by omega) (by rw [hj];simpa using ew) ⟨rfl,fin⟩) hs
theorem aC3:U0 X (aE9 X.K):=by
 intro value slice pins s σ H x y v u Q I rx ry h hs
 obtain ⟨p,xs,i,z,rfl,rfl,hq,he,q⟩:=h
 cases rx
 obtain ⟨t,rfl⟩:=ry
 obtain ⟨its,r,pl,hz⟩:=I.tuple hq
 obtain ⟨j,h1,h2,h3,h4,h5⟩:=FV he
 obtain ⟨w,ew,rw'⟩:=r.get h2
 have hl:=r.length
 have hn:=BH
 have fin:EP X pins σ Q w s:=⟨z,H,I,rw',q⟩
 exact subscriptTail_builtinR (x:=w) pl.typeIs slot_tuple_getitem.lookup
  (getItem_tuple (j:=j) (Q:=λr s'=>r=w/\EP X pins σ Q r s') pl (by omega) (by omega) (by rw [bR,<- hl];exact h1) (by simpa using ew) ⟨rfl,fin⟩) hs
theorem aC4:U0 X aFa:=by
 intro value slice pins s σ H x y v u Q I rx ry h hs
 obtain ⟨z,i,c,rfl,rfl,hz,he,q⟩:=h
 obtain ⟨t,rfl⟩:=rx
 obtain ⟨t',rfl⟩:=ry
 obtain ⟨j,h1,h2,h3,h4,h5⟩:=FV he
 have hl:z.cps.toList.length=z.length:=by simp [Str.length]
 rw [hl] at h1 h4 h5
 have hn:=BH
 exact tail_any (typeIs_str s z t) slot_str_getitem.lookup (getItem_str (c:=c) (by
  have e1:decide (i < -(2 ^ 63:Int))=false:=decide_eq_false (by omega)
  have e2:decide (i >= 2 ^ 63)=false:=decide_eq_false (by omega)
  rw [e1,e2,xS]) (by rw [h1];simpa using h2) ⟨.str ⟨#[c]⟩,H,I.tok _,⟨_,rfl⟩,q⟩) hs
def rIx (K:aD):R2:=λx y H Q=>aFb K x y H Q\/aE9 K x y H Q\/aFa x y H Q
theorem bI:U0 X (rIx X.K):=XB.or (aC3.or aC4)

theorem dP.lst {pins:List (Addr×Obj)} {σ:St} {H:Hp} {s:Shared} {p:Addr} {xs:List V} (I:dP X pins σ H s) (h:H p=some (.lst xs)) :
  ∃ (its:List Value) (n:Nat),fG xs its/\s.heap.get? p=some { cls:=.type "list",data:=.seq its.toArray n }/\xs.length<=bD:=by
 obtain ⟨z,its,n,r,e⟩:=I.hok p _ h
 exact ⟨its,n,r,e,z⟩
theorem EO (lo hi:Option Int) (n:Nat):(sliceBounds lo hi none n).1=((HT.sIx n 0 lo:Nat):Int)/\(sliceBounds lo hi none n).2.1=((HT.sIx n n hi:Nat):Int)/\(sliceBounds lo hi none n).2.2=1:=by
 refine ⟨?_,?_,rfl⟩
 ·cases lo with
  | none=>simp [sliceBounds,HT.sIx]
  | some i =>
   simp only [sliceBounds,HT.sIx,P8,show (1:Int) > 0 by decide,if_true]
   by_cases h:i<0
   ·simp only [h,if_true]<;>omega
   ·simp only [h,if_false]<;>omega
 ·cases hi with
  | none=>simp [sliceBounds,HT.sIx]
  | some i =>
   simp only [sliceBounds,HT.sIx,P8,show (1:Int) > 0 by decide,if_true]
   by_cases h:i<0
   ·simp only [h,if_true]<;>omega
   ·simp only [h,if_false]<;>omega
theorem CK (its:List Value) (lo hi:Option Int):slicePick its.toArray lo hi none=((its.drop (HT.sIx its.length 0 lo)).take (HT.sIx its.length its.length hi-HT.sIx its.length 0 lo)).toArray:=by
 obtain ⟨h1,h2,h3⟩:=EO lo hi its.toArray.size
 unfold slicePick
 rw [h1,h2,h3]
 simp only [sliceRange_one,pick_run,bR]<;>rfl
def aE7 (K:aD):V->Option Int->Option Int->Hp->VK->Prop:=λx lo hi H Q=>∃ a xs,x=.ref a/\mK K H a xs/\∀ p,H p=none->Q (.ref p) (fZ H p (.lst (FM xs lo hi)))
theorem V2:UW X (aE7 X.K):=by
 intro pins s σ H x v vl vu lo hi sl Q I rx hs pl pu h
 obtain ⟨a,xs,rfl,hx,q⟩:=h
 cases rx
 obtain ⟨its,r,ht,hz⟩:=I.list hx
 have hlen:=r.length
 refine ⟨"list",_,slot_list_getitem.lookup,ht.isList.typeIs,?_⟩
 refine wpAny_getItem_list_slice ht.isList hs pl pu .none (by simp) ?_ (by rw [bR]<;>omega)
 rw [CK,<- hlen]
 refine ⟨.ref s.heap.objs.size,_,I.laid (t':=s.toks) (o:=.lst (FM xs lo hi)) (λb ob q=>aJ _ q) (aL _) ?_,rfl,q _ (I.hok.fresh (aL _))⟩
 exact ⟨cM (zE xs lo hi) hz,_,0,(r.drop (HT.sIx xs.length 0 lo)).take (HT.sIx xs.length xs.length hi-HT.sIx xs.length 0 lo),aR _ rfl⟩

theorem FS:kJ X (.builtin "len") (λxs H Q=>∃ p ys,xs=[.ref p]/\(mK X.K H p ys\/rW X.K H p ys)/\Q (.int ys.length) H):=by
 intro pins s σ H xs us Q I r h
 obtain ⟨p,ys,rfl,hq,q⟩:=h
 obtain ⟨u,rfl,rx⟩:=rL r
 cases rx
 have hn:=BH
 rcases hq with hq | hq
 ·obtain ⟨its,r',pl,hz⟩:=I.list hq
  have hlen:=r'.length
  exact Calls.call_len_list pl.isList (by simp only [bR]<;>omega) ⟨.int ys.length,H,I.tok _,⟨s.toks+1,by rw [bR,hlen]⟩,q⟩
 ·obtain ⟨its,r',pl,hz⟩:=I.tuple hq
  have hlen:=r'.length
  exact len_tuple pl (by simp only [bR]<;>omega) ⟨.int ys.length,H,I.tok _,⟨s.toks+1,by rw [bR,hlen]⟩,q⟩
theorem FR:kJ X (.builtin "len") (λxs H Q=>∃ z,xs=[.str z]/\z.length<=bD/\Q (.int z.length) H):=by
 intro pins s σ H xs us Q I r h
 obtain ⟨z,rfl,hz,q⟩:=h
 obtain ⟨u,rfl,t,rfl⟩:=rL r
 have hn:=BH
 exact len_str (by omega) ⟨.int z.length,H,I.tok _,⟨_,rfl⟩,q⟩
theorem kJ.or {f:Value} {r r':List V->Hp->VK->Prop} (h:kJ X f r) (h':kJ X f r'):kJ X f (λxs H Q=>r xs H Q\/r' xs H Q):=by
 intro pins s σ H xs us Q I rs q
 rcases q with q | q
 ·exact h pins s σ H xs us Q I rs q
 ·exact h' pins s σ H xs us Q I rs q
theorem rF:kJ X (.type "list") (λxs H Q=>∃ p ys,xs=[.ref p]/\(mK X.K H p ys\/rW X.K H p ys)/\∀ l,H l=none->Q (.ref l) (fZ H l (.lst ys))):=by
 intro pins s σ H xs us Q I r h
 obtain ⟨p,ys,rfl,hq,q⟩:=h
 obtain ⟨u,rfl,rx⟩:=rL r
 cases rx
 have fin:∀ (its:List Value),fG ys its->ys.length<=bD->∀ (h':Heap) (c':Nat),(∀ b o',s.heap.get? b=some o'->h'.get? b=some o') ->
   h'.get? s.heap.objs.size=some { cls:=.type "list",dict:=none,data:=.seq its.toArray c',slots:=#[] }->EP X pins σ Q (.ref s.heap.objs.size) { s with heap:=h' }:=λits r' hz h' c' kp e =>
  ⟨.ref s.heap.objs.size,_,I.laid (t':=s.toks) kp (aL _) (show iJ X.prog X.w _ h' _ (.lst ys) from ⟨hz,its,c',r',e⟩),rfl,q _ (I.hok.fresh (aL _))⟩
 rcases hq with hq | hq
 ·obtain ⟨its,r',pl,hz⟩:=I.list hq
  have hlen:=r'.length
  obtain ⟨o,ho,hc,n,hd⟩:=pl.isList
  exact call_list_seq p (.inl rfl) ho hc hd (λh' c' kp e=>fin its r' hz h' c' kp e) (by simp only [bR]<;>omega)
 ·obtain ⟨its,r',pl,hz⟩:=I.tuple hq
  have hlen:=r'.length
  obtain ⟨o,ho,hc,n,hd⟩:=pl
  exact call_list_seq p (.inr rfl) ho hc hd (λh' c' kp e=>fin its r' hz h' c' kp e) (by simp only [bR]<;>omega)
theorem jB:kJ X (.type "tuple") (λxs H Q=>∃ p ys,xs=[.ref p]/\((mK X.K H p ys/\∀ l,H l=none->Q (.ref l) (fZ H l (.tup ys)))\/(rW X.K H p ys/\Q (.ref p) H))):=by
 intro pins s σ H xs us Q I r h
 obtain ⟨p,ys,rfl,h⟩:=h
 obtain ⟨u,rfl,rx⟩:=rL r
 cases rx
 rcases h with ⟨hq,q⟩ | ⟨hq,q⟩
 ·obtain ⟨its,r',pl,hz⟩:=I.list hq
  have hlen:=r'.length
  refine call_tuple_list pl.isList (λh' kp=>?_) (by simp only [bR]<;>omega)
  have I1:dP X pins σ H { s with heap:=h' }:=I.kept (t':=s.toks) kp
  have I2:dP X pins σ (fZ H h'.objs.size (.tup ys)) { s with heap:=h'.push { cls:=.type "tuple",data:=.seq its.toArray } } :=
   I1.laid (t':=s.toks) (λb o e=>aJ _ e) (aL _) (show iJ X.prog X.w _ _ _ (.tup ys) from ⟨hz,its,r',B6.new _ _⟩)
  exact ⟨.ref h'.objs.size,_,I2,rfl,q _ (I1.hok.fresh (aL _))⟩
 ·obtain ⟨its,r',pl,hz⟩:=I.tuple hq
  exact call_tuple_same pl ⟨.ref p,H,I,rfl,q⟩

def tyV (K:aD) (T:String) (x:V) (H:Hp):Prop:=match x with
 | .str _=>T="str"
 | .int _=>T="int"
 | .ref p=>(T="list"/\∃ xs,mK K H p xs)\/(T="tuple"/\((∃ o,K.lookup p=some o/\o.cls=.type "tuple"/\o.dict=none)\/∃ xs,rW K H p xs)) \/
   (T="dict"/\((∃ kvs,H p=some (.dK kvs))\/∃ kvs,H p=some (.dT kvs)))\/(T="set"/\∃ S n,H p=some (.set S n))
 | _=>False
theorem aBh {pins:List (Addr×Obj)} {σ:St} {H:Hp} {s:Shared} {T:String} {x:V} {v:Value} (I:dP X pins σ H s) (r:gC x v) (ty:tyV X.K T x H) :
  s.TypeIs v T/\∀ a,v=.ref a->∃ ob,s.heap.get? a=some ob/\ob.dict=none:=by
 cases x with
 | str z =>
  obtain ⟨t,rfl⟩:=r
  cases (show T="str" from ty)
  exact ⟨typeIs_str s z t,λ_ e=>nomatch e⟩
 | int i =>
  obtain ⟨t,rfl⟩:=r
  cases (show T="int" from ty)
  exact ⟨typeIs_int s i t,λ_ e=>nomatch e⟩
 | ref p =>
  cases r
  rcases ty with ⟨rfl,xs,hq⟩ | ⟨rfl,⟨o,hk,hc,hd⟩ | ⟨xs,hq⟩⟩ | ⟨rfl,hk⟩ | ⟨rfl,S,n,hk⟩
  ·obtain ⟨its,_,pl,_⟩:=I.list hq
   refine ⟨pl.isList.typeIs,λa e=>?_⟩
   cases e
   obtain ⟨o,n,e,c,hd,_⟩:=pl
   exact ⟨o,e,hd⟩
  ·refine ⟨⟨o,I.kIn p o hk,hc⟩,λa e=>?_⟩
   cases e
   exact ⟨o,I.kIn _ o hk,hd⟩
  ·obtain ⟨o,e,hc,hd⟩:=I.tupleN hq
   refine ⟨⟨o,e,hc⟩,λa e2=>?_⟩
   cases e2
   exact ⟨o,e,hd⟩
  ·have z:∃ o,s.heap.get? p=some o/\o.ExactDict:=by
    rcases hk with ⟨kvs,hk⟩ | ⟨kvs,hk⟩
    ·obtain ⟨_,_,_,_,o,_,_,e,ex,_⟩:=I.hok p _ hk
     exact ⟨o,e,ex⟩
    ·obtain ⟨_,_,_,_,o,_,_,e,ex,_⟩:=I.hok p _ hk
     exact ⟨o,e,ex⟩
   obtain ⟨o,e,ex⟩:=z
   refine ⟨⟨o,e,ex.1⟩,λa e2=>?_⟩
   cases e2
   exact ⟨o,e,ex.2.1⟩
  ·obtain ⟨o,_,_,_,e,ex,_⟩:=I.hok p _ hk
   refine ⟨⟨o,e,ex.1⟩,λa e2=>?_⟩
   cases e2
   exact ⟨o,e,ex.2.1⟩
 | _=>exact False.elim ty
def VQ (K:aD) (T:String) (r:V->List V->Hp->VK->Prop) (to:TE) (t:TA):TE:=λσ H Q=>to σ H λx H1=>tyV K T x H1/\t σ H1 λxs H2=>r x xs H2 Q
variable {o e:Expr} {es:List Expr} {to:TE} {t:TA} {name:Str} {apos cpos:Pos} {T id:String} {r:V->List V->Hp->VK->Prop}
theorem nC (pa:PlainAttrs T) (slot:Slot T name id) (hty:typeOf (.builtin id)=pure (.type "method_descriptor")) (hm:PP X id r) (ho:PE X o to) (ha:PA X (e::es) t)
  (hbase:attributeBase o name X.env (eval o X.env)=eval o X.env:=by rfl)
  (hfew:((backTo cpos (bN (e::es) X.env)).all (λx=>!x.1) && (backToKw cpos (keywordEach [] X.env)).all (λx=>x.1.isSome)
   && decide ((e::es).length+([]:List Keyword).length+(if ([]:List Keyword).isEmpty then 0 else 1)<30))=true:=by rfl)
  (hline:(apos.endLine == cpos.line)=true:=by rfl) (hs:bN (e::es) X.env=(false,eval e X.env)::bN es X.env:=by rfl) (hplain:(backTo cpos (bN es X.env)).any (·.1)=false:=by rfl) :
  PE X (.Call (.Attribute o name apos) (e::es) [] cpos) (VQ X.K T r to t):=by
 intro pins s σ H Q I h
 refine wpAny_Call_method_late hbase hfew hline rfl (iX (ho pins s σ H _ I h) λv s1 ⟨x,H1,I1,r1,ty,q1⟩=>?_)
 obtain ⟨h1,h2⟩:=aBh I1 r1 ty
 refine ⟨T,id,pa,slot,hty,h1,h2,?_⟩
 have hA:=ha cpos pins s1 σ H1 _ I1 q1
 rw [hs] at hA |-
 refine Calls.callWith_builtin (by show (false || (backTo cpos (bN es X.env)).any (·.1))=false;rw [hplain]<;>rfl) (Calls.evalArgs_plain ?_)
 exact iX hA λus s2 ⟨vs,H2,I2,r2,q2⟩=>hm pins s2 σ H2 x vs v us Q I2 r1 r2 q2
end
end L2

namespace L2
open PySem PySem.Spec PyProof.Rows

def MtM (X:Cx) (id:String) (r:V->List V->Hp->VK->Prop):Prop :=
 ∀ (pins:List (Addr×Obj)) (s:Shared) (σ:St) (H:Hp) (x:V) (xs:List V) (v:Value) (us:List Value) (Q:VK),dP X pins σ H s->gC x v->fG xs us->r x xs H Q ->
  wpAny (model X.prog X.w) X.A (call (.builtin id) (v::us)) (EP X pins σ Q) X.xe s

theorem fG.one:∀ {x:V} {us:List Value},fG [x] us->∃ u,us=[u]/\gC x u
 | _,_,.cons r .nil=>⟨_,rfl,r⟩
theorem fG.two:∀ {x y:V} {us:List Value},fG [x,y] us->∃ u v,us=[u,v]/\gC x u/\gC y v
 | _,_,_,.cons r (.cons q .nil)=>⟨_,_,rfl,r,q⟩
theorem fG.eraseIdx:∀ {xs:List V} {us:List Value} (i:Nat),fG xs us->fG (xs.eraseIdx i) (us.eraseIdx i)
 | _,_,_,.nil=>.nil
 | _,_,0,.cons _ t=>t
 | _,_,i+1,.cons r t=>.cons r (fG.eraseIdx i t)
theorem fG.rep {xs:List V} {us:List Value} (h:fG xs us):∀ k:Nat,fG (mV k xs).flatten (mV k us).flatten
 | 0=>.nil
 | k+1=>by
  rw [oQ,oQ,kO,kO]
  exact fG.append h (fG.rep h k)
section
variable {X:Cx} {pins:List (Addr×Obj)} {σ:St} {H:Hp} {s:Shared} {l b:Addr} {xs ys zs:List V}

theorem dP.lset {its its':List Value} {n:Nat} {f:Array Value->Array Value} {t':Nat} (I:dP X pins σ H s) (hH:H l=some (.lst xs))
  (e:s.heap.get? l=some { cls:=.type "list",data:=.seq its.toArray n }) (hf:f its.toArray=its'.toArray) (hv:fG ys its') (hz:ys.length<=bD) :
  dP X pins σ (fZ H l (.lst ys)) { s with heap:=s.heap.update l (Obj.mapSeq f),toks:=t' }:=by
 have q:=PySem.IsL.update e f
 rw [hf] at q
 refine I.write (x:=l) (e:=l) (by rw [hH];exact trivial) (.inl rfl) (λb' u hb hu=>(gU s.heap (Obj.mapSeq f) (Ne.symm hb)).trans hu) ⟨_,q⟩ ?_
 exact ⟨hz,its',_,hv,q⟩
theorem dP.lnew {its:List Value} {t':Nat} (I:dP X pins σ H s) (hv:fG ys its) (hz:ys.length<=bD) :
  dP X pins σ (fZ H s.heap.objs.size (.lst ys)) { s with heap:=s.heap.push { cls:=.type "list",data:=.seq its.toArray },toks:=t' } :=
 I.laid (λ_ _ q=>aJ _ q) (aL _) ⟨hz,its,0,hv,aR _ rfl⟩
theorem dP.fresh (I:dP X pins σ H s):H s.heap.objs.size=none:=I.hok.fresh (aL _)
theorem dP.lstM (I:dP X pins σ H s) (hH:H l=some (.lst xs)):xs.length<=bD/\∃ (its:List Value) (n:Nat),fG xs its/\xs.length=its.length/\s.heap.get? l=some { cls:=.type "list",data:=.seq its.toArray n }:=by
 obtain ⟨z,its,n,r,e⟩:=I.hok l _ hH
 exact ⟨z,its,n,r,r.length,e⟩

theorem SL {n:Nat} (h:n<=bD):Builtin.List.listTooLong n=false:=by
 unfold Builtin.List.listTooLong
 exact decide_eq_false (by omega)
end

section
variable {X:Cx}

def EZ:V->List V->Hp->VK->Prop:=λx vs H Q=>∃ l xs y,x=.ref l/\vs=[y]/\H l=some (.lst xs)/\xs.length<bD/\Q .non (fZ H l (.lst (xs++[y])))
theorem mX:MtM X "list.append" EZ:=by
 intro pins s σ H x vs v us Q I rx rv h
 obtain ⟨l,xs,y,rfl,rfl,hH,hz,q⟩:=h
 cases rx
 obtain ⟨u,rfl,ru⟩:=rv.one
 obtain ⟨z,its,n,r,hl,e⟩:=I.lstM hH
 refine call_meets F.slot_list_append ⟨_,e,rfl⟩ F.entry_list_append (F.args_list_append_2 _ _) (PySem.list_append l its.toArray n u (by rw [bR];omega)) ⟨e,?_⟩
 refine ⟨.non,_,I.lset (its':=its++[u]) hH e (by simp) (r.append (.cons ru .nil)) ?_,rfl,q⟩
 rw [bL,nI]
 omega

end

section
variable {prog:bF} {w:World} {A:Around} {E:Value->Shared->Prop} {s:Shared}
end

section
variable {X:Cx}
end
end L2

namespace Att
open PySem PySem.W PySem.Calls PyProof.Rows

theorem zS {P:Params} {h:Heap}:∀ (ns:List Int) (vs:List Value),WellAll P h vs (ns.map WData.int)->IntsAre vs ns:=by
 intro ns
 induction ns with
 | nil =>
  intro vs w
  rw [jW] at w
  cases w
  exact .nil
 | cons n ns ih =>
  intro vs w
  rw [aX] at w
  cases w with
  | cons a b =>
   cases a
   exact .cons _ _ (ih _ b)

theorem C6 {l:OpenLaw} {n:Nat} (hn:l.most=some n) {P:Params} {h:Heap} {args:List WData} {vals:List Value}
  (hpre:l.row.toRowW.claim.pre args=true) (hwl:WellAll P h vals args) :
  ∃ a vs ns,vals=[Value.ref a]/\args=[WData.list (ns.map WData.int)]/\h.get? a=some { cls:=.type "list",data:=.seq vs.toArray }/\IntsAre vs ns/\ns.length<=n:=by
 have hsh:WShape.hasAll [] args [.list .int]=true:=(pre_splitW hpre).1
 have hc:l.pre.holds [] { args:=args }=true:=(pre_splitW hpre).2
 obtain ⟨d,r,rfl,h1,h2⟩:=hasAllW_cons hsh
 obtain rfl:=hasAllW_nil h2
 obtain ⟨xs,rfl,h3⟩:=hasW_list h1
 obtain ⟨ns,rfl⟩:=items_int h3
 have hlen:ns.length<=n:=by
  unfold OpenLaw.pre at hc
  have h4:(WTm.not (.lt (.lit (.int (n:Int))) (.len (.arg 0)))).holds [] { args:=[.list (ns.map .int)] }=true:=by
   have h4:=(holds_andW hc).1
   rw [hn] at h4
   exact h4
  have h5:=condW_of h4 (w_not (w_lt w_lit (w_len_list (w_arg rfl))))
  rw [aB] at h5
  refine Nat.le_of_not_lt λq=>?_
  have q':(n:Int)<((ns.length:Nat):Int):=by omega
  first
   | (rw [decide_eq_true q'] at h5;exact absurd h5 (by decide))
   | (simp at h5;omega)
 cases hwl with
 | cons w1 w2 =>
  cases w2
  cases w1 with
  | list ho hall=>exact ⟨_,_,ns,rfl,rfl,ho,zS ns _ hall,hlen⟩

theorem C8 (l:OpenLaw) (args:List WData):l.row.toRowW.claim.post args (.bool true) args=true :=
 postW_of (r:=l.row.toRowW) (X:=(true == true))
  (show WShape.has [] (.bool true) .bool=true by first | rfl | decide | simp [WShape.has,WShape.arms,WShape.armsAll])
  (show (WTm.eq .res (.lit (.bool true))).value [] { args:=args,res:=some (.bool true),after:=args }=some (.bool (true == true)) from w_eq_bool (w_res rfl) w_lit) rfl

theorem attach {l:OpenLaw} {n:Nat} {q:bF} {loose:List Str} {XP:(Str->Option Value)->Heap->Prop} {YP:World->Heap->Prop} {d:DefRec} {x:Str}
  (hn:l.most=some n) (hdf:d.params.defaults=[])
  (hbind:∀ pm cd doc v:Value,bindArgs (docDef d.name d.params d.body d.scope pm cd doc) ⟨[v],[]⟩=pure [(x,v)])
  (hx:d.scope.names.lookup x=some .local\/d.scope.names.lookup x=some .cell)
  (hk:d.scope.kind=.function) (hco:d.scope.isCoroutine=false) (hgen:d.scope.isGenerator=false)
  (body:∀ (w:World) (s₀ s₁ s:Shared) (mg mb:Str->Option Value) (fa:Addr) (o:Obj) (pm cd doc:Value) (a:Addr) (vs:List Value) (ns:List Int),
   Ground q loose [] XP w s₀ mg mb s₁.heap->YP w s₁.heap ->
   s₁.heap.get? fa=some o->o.data=.func (docDef d.name d.params d.body d.scope pm cd doc)->s₁.heap.CodeRec cd d.name->mg d.name=some (.ref fa) ->
   s₁.heap.get? a=some { cls:=.type "list",data:=.seq vs.toArray }->IntsAre vs ns->ns.length<=n ->
   s.gens=#[]->s.os=s₁.os ->
   Fr s₁.heap s₁.heap.objs.size s.heap (bindL (envOfC d.name d.scope s₁.heap.objs.size fa cd).kindOf [(x,.ref a)] λ_=>none) ->
   Cl s₁.heap.objs.size (cellsFrom (s₁.heap.objs.size+1) d.scope.names []) s.heap (bindC (envOfC d.name d.scope s₁.heap.objs.size fa cd).kindOf [(x,.ref a)] λ_=>none) ->
   wpAny (model l.prog w) (callerA.deeper (envOfC d.name d.scope s₁.heap.objs.size fa cd)) (execs d.body (envOfC d.name d.scope s₁.heap.objs.size fa cd))
    (λf s'=>f=.ret (.bool true)/\OldK s₁.heap s'.heap/\s'.os=s₁.os/\AllBare s'.gens) (λ_ _=>False) s) :
  WalkO q loose XP YP l.row.toRowW d [] (λf vs=>PySem.call f vs):=by
 intro w s₀ s₁ mg mb G Y fa o pm cd doc dV kV ho hd hcd hD hmg hg args vals as hpre hlay hrd hwl hlo
 obtain rfl:dV=.none:=Dflts.none hD hdf
 obtain rfl:kV=.none:=Dflts.noKw hD
 obtain ⟨a,vs,ns,rfl,rfl,hobj,hints,hlen⟩:=C6 hn hpre hwl
 refine enter_call ?_
 refine call_cells_ret (o:=o) (by rw [depth_caller];decide) ho (fd_plain hd) G.T.nolimit hcd (hbind pm cd doc (.ref a)) (λy hy=>?_) (λh₁ tk F X=>?_) hco hgen hk
 ·obtain rfl:y=(x,Value.ref a):=cZ.mp hy
  rcases hx with e | e
  ·exact .inl e
  ·exact .inr ⟨e,cellsFrom_some _ _ _ (.inl e)⟩
 ·refine gH (body w s₀ s₁ { s₁ with heap:=h₁,toks:=tk } mg mb fa o pm cd doc a vs ns G Y ho (fd_plain hd) hcd hmg hobj hints hlen hg rfl F X) (λf s' hq=>?_) (λ_ _ hq=>hq)
  obtain ⟨rfl,h2,h3,h4⟩:=hq
  exact ⟨.inl ⟨.bool true,.bool true,[],rfl,λ_=>rfl,.bool true,C8 l _,λ_=>⟨xR.nil,λ_ hm=>(nomatch hm)⟩⟩,h2,h3,h4⟩

theorem attach_call {l:OpenLaw} {n:Nat} {q:bF} {loose:List Str} {XP:(Str->Option Value)->Heap->Prop} {YP:World->Heap->Prop} {d:DefRec}
  (hn:l.most=some n) (hdf:d.params.defaults=[])
  (call:∀ (w:World) (s₀ s₁:Shared) (mg mb:Str->Option Value) (fa:Addr) (o:Obj) (pm cd doc:Value) (a:Addr) (vs:List Value) (ns:List Int),
   Ground q loose [] XP w s₀ mg mb s₁.heap->YP w s₁.heap ->
   s₁.heap.get? fa=some o->o.data=.func (docDef d.name d.params d.body d.scope pm cd doc)->s₁.heap.CodeRec cd d.name->mg d.name=some (.ref fa) ->
   s₁.heap.get? a=some { cls:=.type "list",data:=.seq vs.toArray }->IntsAre vs ns->ns.length<=n->s₁.gens=#[] ->
   codeAny (model l.prog w) callerA (.call (.ref fa) ⟨[.ref a],[]⟩) (λr s'=>r=.ok (.ret (.bool true))/\OldK s₁.heap s'.heap/\s'.os=s₁.os/\AllBare s'.gens) s₁) :
  WalkO q loose XP YP l.row.toRowW d [] (λf vs=>PySem.call f vs):=by
 intro w s₀ s₁ mg mb G Y fa o pm cd doc dV kV ho hd hcd hD hmg hg args vals as hpre hlay hrd hwl hlo
 obtain rfl:dV=.none:=Dflts.none hD hdf
 obtain rfl:kV=.none:=Dflts.noKw hD
 obtain ⟨a,vs,ns,rfl,rfl,hobj,hints,hlen⟩:=C6 hn hpre hwl
 refine enter_call (codeAny_mono (call w s₀ s₁ mg mb fa o pm cd doc a vs ns G Y ho (fd_plain hd) hcd hmg hobj hints hlen hg) λr s' hq=>?_)
 obtain ⟨rfl,h2,h3,h4⟩:=hq
 exact ⟨.inl ⟨.bool true,.bool true,[],rfl,λ_=>rfl,.bool true,C8 l _,λ_=>⟨xR.nil,λ_ hm=>(nomatch hm)⟩⟩,h2,h3,h4⟩

section
variable {prog:bF} {w:World} {A:Around} {E:Value->Shared->Prop} {s:Shared} {K:Frag}

end
end Att

namespace L2
open PySem PySem.Spec PyProof.Rows

theorem C1:∀ {vs:List Value} {ns:List Int},IntsAre vs ns->fG (ns.map V.int) vs
 | _,_,.nil=>.nil
 | _,_,.cons n t h=>.cons ⟨t,rfl⟩ (C1 h)

def aDz (H:Hp):Prop:=∀ b,H b=none\/(∃ o xs,H b=some (.frz o (.lst xs)))\/(tabA=some b/\∃ ps,H b=some (.tbl ps))

theorem S3 {P:bF} {w:World} {K:aD} {mg mb:Str->Option Value} {CX:NE} {k:Nat} {fa a:Addr} {fd:dI} {x:Str} {sp:Sp} {s₁:Shared} {vs:List Value} {ns:List Int}
  (KX:K.In s₁.heap) (hns:s₁.heap.Ns iR mg) (hb:s₁.heap.Ns builtinsNs mb) (hbb:∀ x:Str,x≠"__name__"->mb x=bootBuiltins x) (hlim:s₁.heap.NoLimit) (hg:s₁.gens=#[])
  (ha:s₁.heap.get? a=some { cls:=.type "list",data:=.seq vs.toArray }) (hi:IntsAre vs ns) (hl:ns.length<=bD) (hr:Room k callerA)
  (hbm:∃ bm o,mg "__builtins__"=some (.ref bm)/\bm≠builtinsNs/\s₁.heap.get? bm=some o/\o.cls=.type "module"/\o.dict=some builtinsNs/\o.data=.plain)
  (hT:∀ P,tabA=some P->s₁.heap.get? P=some { cls:=.none,data:=.fields #[] }/\K.lookup P=none/\isCodeTable s₁.heap P)
  (F:∀ base:Heap,K.In base->base.Ns iR mg->cL P w K mg base CX k fa fd [x] sp) (hbind:∀ (s:Shared) (u:Value),BindsTo s fd ⟨[u],[]⟩ [(x,u)])
  (hsp:∀ H:Hp,aDz H->mK K H a (ns.map V.int)->sp [.ref a] H (λv _=>v=.bl true) λ_ _ _=>False)
  (hCX:∀ H e s',CX [] H s₁ (λ_ _ _=>False) e s'->False) :
  codeAny (model P w) callerA (.call (.ref fa) ⟨[.ref a],[]⟩) (λr s'=>r=.ok (.ret (.bool true))/\OldK s₁.heap s'.heap/\s'.os=s₁.os/\AllBare s'.gens) s₁:=by
 have rv:=C1 hi
 have lenV:=hi.length
 have aT:∀ P,tabA=some P->P≠a:=λP e z=>by
  have h1:=(hT P e).1
  rw [z,ha] at h1
  cases h1
 have core:∀ H:Hp,aDz H->mK K H a (ns.map V.int)->vX P w H s₁.heap->(∀ b,H b≠none->b=a\/tabA=some b)->(H a≠none->K.lookup a=none)->Tb H ->
   codeAny (model P w) callerA (.call (.ref fa) ⟨[.ref a],[]⟩) (λr s'=>r=.ok (.ret (.bool true))/\OldK s₁.heap s'.heap/\s'.os=s₁.os/\AllBare s'.gens) s₁:=by
  intro H hO hS hok hA hK hTb
  have base_of:∀ {b:Addr} {o:Obj},s₁.heap.get? b=some o->H b=none->(FF s₁.heap H).get? b=some o:=λe n=>TR e n
  have noA:∀ {b:Addr} {o:Obj} {es:Array DictEntry} {ep:Nat},s₁.heap.get? b=some o->o.data=.dict es ep->H b=none:=λ{b o es ep} e d=>by
   cases q:H b with
   | none=>rfl
   | some u =>
    rcases hA b (by rw [q];simp) with e' | e'
    ·subst e'
     rw [ha] at e;cases e
     have d':Data.seq vs.toArray _=Data.dict es ep:=d
     cases d'
    ·rw [(hT b e').1] at e;cases e
     have d':Data.fields #[]=Data.dict es ep:=d
     cases d'
  have noP:∀ {b:Addr} {o:Obj},s₁.heap.get? b=some o->o.data=.plain->H b=none:=λ{b o} e d=>by
   cases q:H b with
   | none=>rfl
   | some u =>
    rcases hA b (by rw [q];simp) with e' | e'
    ·subst e'
     rw [ha] at e;cases e
     have d':Data.seq vs.toArray _=Data.plain:=d
     cases d'
    ·rw [(hT b e').1] at e;cases e
     have d':Data.fields #[]=Data.plain:=d
     cases d'
  have nsK:∀ {b:Addr} {m:Str->Option Value},s₁.heap.Ns b m->(FF s₁.heap H).Ns b m:=λ{b m} ⟨o,es,ep,e,d,r⟩=>⟨o,es,ep,base_of e (noA e d),d,r⟩
  have hKb:K.In (FF s₁.heap H):=λb o e=>base_of (KX b o e) (by
   cases q:H b with
   | none=>rfl
   | some u =>
    rcases hA b (by rw [q];simp) with e' | e'
    ·subst e'
     rw [hK (by rw [q];simp)] at e;cases e
    ·rw [(hT b e').2.1] at e;cases e)
  have hM:Mod K mg (FF s₁.heap H):=⟨hKb,nsK hns,⟨mb,nsK hb,hbb⟩,let ⟨mc,h1,h2⟩:=hlim;⟨mc,nsK h1,h2⟩,let ⟨bm,o,b1,b2,b3,b4,b5,b6⟩:=hbm;⟨bm,o,b1,b2,base_of b3 (noP b3 b6),b4,b5,b6⟩⟩
  have e0:CU P w K mg (FF s₁.heap H) callerA [] s₁ H:=⟨rfl,hM,λb o e=>WW e,oY (OW _ _),trivial,λb hb=>absurd (show b∈([]:List Addr) from hb) (by simp),hok,.of_eq hg,hTb⟩
  refine codeAny_mono ((F _ hKb (nsK hns)).run callerA [] s₁ H ⟨[.ref a],[]⟩ [.ref a] [.ref a] _ _ hr e0 (hbind s₁ (.ref a)) (.cons rfl .nil) (hsp H hO hS)) λr s' h=>?_
  cases r with
  | error e=>exact (hCX H e s' h).elim
  | ok fl =>
   cases fl with
   | next=>exact False.elim h
   | brk=>exact False.elim h
   | cont=>exact False.elim h
   | ret u =>
    obtain ⟨v,H',os,bare,un,hok',r',q⟩:=h
    have q':v=.bl true:=q
    subst q'
    obtain rfl:u=Value.bool true:=r'
    have old:∀ b o,s₁.heap.get? b=some o->s'.heap.get? b=some o\/(isCodeTable s₁.heap b/\o={ cls:=.none,data:=.fields #[] }/\∃ qs:Array Value,s'.heap.get? b=some { cls:=.none,data:=.fields qs }):=λb o e=>by
     cases q:H b with
     | none=>exact .inl (un.keep b o e q (by intro z;exact absurd (show b∈([]:List Addr) from z) (by simp)) (by simp))
     | some u =>
      rcases hO b with z | ⟨ob,xs,z⟩ | ⟨t,ps,z⟩
      ·rw [q] at z;cases z
      ·have z2:=un.frzs b ob _ z
       obtain ⟨e1,_⟩:=hok b _ z
       obtain ⟨e2,_⟩:=hok' b _ z2
       rw [e] at e1;cases e1
       exact .inl e2
      ·obtain ⟨h1,h2,h3⟩:=hT b t
       obtain ⟨m,z2⟩:=un.tbls b ps z
       obtain ⟨qs,e2,_⟩:=hok' b _ z2
       rw [e] at h1;cases h1
       exact .inr ⟨h3,rfl,qs,e2⟩
    refine ⟨rfl,⟨λb o e=>?_,λb o e=>?_⟩,os,bare⟩
    ·rcases old b o e with h1 | ⟨h1,rfl,qs,h2⟩
     ·exact .inl h1
     ·exact .inr (.inl ⟨h1,rfl,#[],qs,rfl,by rw [h2];simp⟩)
    ·rcases old b o e with h1 | ⟨h1,rfl,qs,h2⟩
     ·exact ⟨_,h1⟩
     ·exact ⟨_,h2⟩
 have dT:∀ b,Decidable (tabA=some b):=λb=>inferInstance
 cases hk:K.lookup a with
 | some o =>
  have e:=KX a o hk
  rw [ha] at e
  cases e
  refine core (λb=>if tabA=some b then some (.tbl #[]) else none) (λb=>?_) (.inr ⟨_,vs.toArray,_,hk,rfl,rfl,rfl,by rw [bR,lenV];exact hl,by simpa using rv⟩) (λb u z=>?_) (λb z=>?_) (λz=>?_) λP e=>⟨#[],if_pos e⟩
  ·by_cases hb:tabA=some b
   ·exact .inr (.inr ⟨hb,#[],if_pos hb⟩)
   ·exact .inl (if_neg hb)
  ·by_cases hb:tabA=some b
   ·have z':=(if_pos hb).symm.trans z
    cases z'
    exact ⟨#[],(hT b hb).1,trivial,λp c q=>by cases q⟩
   ·have z':=(if_neg hb).symm.trans z
    cases z'
  ·by_cases hb:tabA=some b
   ·exact .inr hb
   ·exact absurd (if_neg hb) z
  ·exact absurd (if_neg λe=>aT a e rfl) z
 | none =>
  refine core (λb=>if tabA=some b then some (.tbl #[]) else if b=a then some (.frz { cls:=.type "list",data:=.seq vs.toArray } (.lst (ns.map V.int))) else none) (λb=>?_) (.inl (.inr ⟨{ cls:=.type "list",data:=.seq vs.toArray },(if_neg λe=>aT a e rfl).trans (if_pos rfl)⟩)) (λb u z=>?_) (λb z=>?_) (λ_=>hk) λP e=>⟨#[],if_pos e⟩
  ·by_cases hT':tabA=some b
   ·exact .inr (.inr ⟨hT',#[],if_pos hT'⟩)
   ·by_cases hb:b=a
    ·exact .inr (.inl ⟨_,_,(if_neg hT').trans (if_pos hb)⟩)
    ·exact .inl ((if_neg hT').trans (if_neg hb))
  ·by_cases hT':tabA=some b
   ·have z':=(if_pos hT').symm.trans z
    cases z'
    exact ⟨#[],(hT b hT').1,trivial,λp c q=>by cases q⟩
   ·by_cases hb:b=a
    ·have z':=((if_neg hT').trans (if_pos hb)).symm.trans z
     cases z'
     subst hb
     exact ⟨ha,by rw [aB];exact hl,vs,_,rv,ha⟩
    ·have z':=((if_neg hT').trans (if_neg hb)).symm.trans z
     cases z'
  ·by_cases hT':tabA=some b
   ·exact .inr hT'
   ·by_cases hb:b=a
    ·exact .inl hb
    ·exact absurd ((if_neg hT').trans (if_neg hb)) z

theorem VH {l:PySem.W.OpenLaw} {n k:Nat} {q:bF} {loose:List Str} {XP:(Str->Option Value)->Heap->Prop} {YP:World->Heap->Prop} {d:DefRec} {K:Params->aD} {CX:World->NE} {sp:World->Sp} {x:Str}
  (hn:l.most=some n) (hn2:n<=bD) (hdf:d.params.defaults=[]) (hr:Room k callerA)
  (hY:∀ (w:World) (h:Heap),YP w h->(K w.params).In h) (hT:∀ (w:World) (h:Heap),YP w h->∀ P,tabA=some P->h.get? P=some { cls:=.none,data:=.fields #[] }/\(K w.params).lookup P=none/\isCodeTable h P)
  (F:∀ (w:World) (mg:Str->Option Value) (fa:Addr) (h:Heap),(K w.params).In h->h.Ns iR mg->mg d.name=some (.ref fa) ->
   ∃ fd:dI,(∀ (s:Shared) (u:Value),BindsTo s fd ⟨[u],[]⟩ [(x,u)]) /\
    ∀ base:Heap,(K w.params).In base->base.Ns iR mg->cL l.prog w (K w.params) mg base (CX w) k fa fd [x] (sp w))
  (hsp:∀ (w:World) (H:Hp) (a:Addr) (ns:List Int),ns.length<=n->aDz H->mK (K w.params) H a (ns.map V.int)->sp w [.ref a] H (λv _=>v=.bl true) λ_ _ _=>False)
  (hCX:∀ (w:World) (H:Hp) (s:Shared) (e:Value) (s':Shared),CX w [] H s (λ_ _ _=>False) e s'->False) :
  VC q loose XP YP l.row.toRowW d [] (λf vs=>PySem.call f vs):=by
 refine Att.attach_call hn hdf λw s₀ s₁ mg mb fa o pm cd doc a vs ns G Y ho hd hcd hmg hobj hints hlen hg=>?_
 have KX:=hY w _ Y
 obtain ⟨fd,hb,hF⟩:=F w mg fa _ KX G.T.g hmg
 exact S3 KX G.T.g G.T.b G.T.builtins G.T.nolimit hg hobj hints (cM hlen hn2) hr G.T.bmain (hT w _ Y) hF hb (λH hO hS=>hsp w H a ns hlen hO hS) λH e s'=>hCX w H s₁ e s'
end L2


namespace L2
open PySem PySem.Spec PyProof.Rows

def xH (s:Stmt):Arguments:=match s with
 | .FunctionDef _ a _ _ _ _ _ _ _ _=>a
 | _=>{ posonlyargs:=[],args:=[],vararg:=none,kwonlyargs:=[],kw_defaults:=[],kwarg:=none,defaults:=[] }
def lN (s:Stmt):List Stmt:=match s with
 | .FunctionDef _ _ b _ _ _ _ _ _ _=>b
 | _=>[]
def bQ (s:Stmt):Scope:=match s with
 | .FunctionDef _ _ _ _ _ _ sc _ _ _=>sc
 | _=>{ kind:=.function,names:=[],isGenerator:=false,isCoroutine:=false }

abbrev fP:NE:=λ_ _ _ _ _ _=>False
abbrev E0:XK:=λ_ _ _=>False
theorem sQ {X:Cx}:yK fP X E0:=λ_ _ _ _ _ _ _ h=>h.elim

structure P5 (K:aD) (x qual:Str) (st:Stmt) (f:Addr) (fd:dI):Prop where
 ex:∃ (oc:Value) (od:Option Addr) (kV doc pm:Value) (an:Option Addr) (cdv ct:Value) (osl:Array (Option Value)),
  fd=mP x qual (xH st) (lN st) (bQ st) .none kV doc pm an cdv ct/\K.lookup f=some ⟨oc,od,.func fd,osl⟩/\oO K cdv qual=true
 kp:fU K (.ref f)=true
section
variable {P:bF} {w:World} {K:aD} {mg:Str->Option Value} {base:Heap}
theorem P5.ok {x qual:Str} {st:Stmt} {f:Addr} {fd:dI} {N ps:List Str} {k:Nat} {sp:Sp} (F:P5 K x qual st f fd) (S:dB N ps (bQ st)) (len:∀ vs H Q E,sp vs H Q E->vs.length=ps.length)
  (hbody:∀ (cdv:Value) (A:Around) (outer:List Env) (s:Shared) (H:Hp) (vs:List V) (Q:VK) (E:XK),Room k (A.deeper (envOfC qual (bQ st) s.heap.objs.size f cdv))->sp vs H Q E ->
   ∃ t,CQ (yF fP P w K mg base N qual (bQ st) f cdv A outer s H E).nox (lN st) t/\t { nx:=λ_ H'=>Q .non H',rt:=Q } (pA N vs) H):cL P w K mg base fP (k+1) f fd ps sp:=by
 obtain ⟨oc,od,kV,doc,pm,an,cdv,ct,osl,rfl,lk,hcd⟩:=F.ex
 refine aG7 lk hcd S len λA outer s H vs Q E hr hsp=>?_
 obtain ⟨t,h,q⟩:=hbody cdv A outer s H vs Q E hr hsp
 exact ⟨t,h.nox,q⟩
theorem P5.binds {x qual:Str} {st:Stmt} {f:Addr} {fd:dI} {ps:List Str} (F:P5 K x qual st f fd)
  (h:∀ (kV doc pm:Value) (an:Option Addr) (cdv ct:Value) (us:List Value),us.length=ps.length->bindArgs (mP x qual (xH st) (lN st) (bQ st) .none kV doc pm an cdv ct) ⟨us,[]⟩=pure (ps.zip us)):pH K fd ps []:=by
 obtain ⟨oc,od,kV,doc,pm,an,cdv,ct,osl,rfl,lk,hcd⟩:=F.ex
 exact .all (h kV doc pm an cdv ct)
theorem T0 {x qual:Str} {st:Stmt} {f:Addr} {oc:Value} {od an:Option Addr} {osl:Array (Option Value)} {kV doc pm cdv ct:Value} (l:K.lookup f=some ⟨oc,od,.func (mP x qual (xH st) (lN st) (bQ st) .none kV doc pm an cdv ct),osl⟩)
  (c:oO K cdv qual=true) (k:fU K (.ref f)=true):P5 K x qual st f (mP x qual (xH st) (lN st) (bQ st) .none kV doc pm an cdv ct):=⟨⟨oc,od,kV,doc,pm,an,cdv,ct,osl,rfl,l,c⟩,k⟩
end
theorem NU {n:Nat} (h:n<=1000):n<bD:=Nat.lt_of_le_of_lt h (by decide)

section
variable {X:Cx}
theorem pv (i:Nat) {x:Str} {pos:Pos} (hN:X.N[i]?=some x:=by rfl) (hv:Vis X.env.scope x:=by first | exact Or.inl rfl | exact Or.inr (Or.inl rfl) | exact Or.inr (Or.inr rfl)) (hd:(x == ("__debug__":Str))=false:=by decide)
  (hcd:(x == ("__classdict__":Str))=false:=by decide):PE X (.Name x pos) (oU i):=R1 hN hv hd hcd
end

def bB (H H':Hp):Prop:=∀ b o,H b=some o->H' b=some o
theorem bB.refl (H:Hp):bB H H:=λ_ _ h=>h
theorem bB.trans {H H1 H2:Hp} (a:bB H H1) (b:bB H1 H2):bB H H2:=λc o h=>b c o (a c o h)
theorem bB.free {H H':Hp} (e:bB H H') {l:Addr} (h:H' l=Option.none):H l=Option.none:=by
 cases q:H l with
 | none=>rfl
 | some o =>
  rw [e l o q] at h
  cases h
theorem bB.seq {K:aD} {H H':Hp} {a:Addr} {xs:List V} (e:bB H H') (h:mK K H a xs):mK K H' a xs:=by
 rcases h with (h | ⟨o,h⟩) | h
 ·exact .inl (.inl (e _ _ h))
 ·exact .inl (.inr ⟨o,e _ _ h⟩)
 ·exact .inr h


theorem XL {M:Model} {A:Around} {E:Value->Shared->Prop} {s:Shared} {tg:Expr} {it:Value} {z:Str} {t:Tok} {Q:Unit->Shared->Prop} (hQ:Q () s) :
  wpAny M A (letOwnedTupleGo tg it (.str z t)) Q E s:=by
 unfold letOwnedTupleGo
 cases tg<;>first
  | exact aF hQ
  | (cases it<;>exact aF hQ)
def Its (z:Str):It:=⟨λi _=>i<z.cps.size,λi H x H'=>H'=H/\∃ c,z.cps[i]?=some c/\x=.str ⟨#[c]⟩,λi _=>z.cps.size<=i⟩
theorem NN {P:bF} {w:World} {K:aD} {tg:Expr} {ty:String} (it:Addr) (z:Str) (t:Tok)
  (W:∀ A:Around,A.handled=none->Walks P w A it [it] [it] z.cps.size (SignAt z) (λi h=>h.IsStrIter it ty z t i))
  (S:∀ (A:Around) (i:Nat) (s:Shared) (Q:Value->Shared->Prop) (E:Value->Shared->Prop),s.heap.IsStrIter it ty z t i->Q (.ref it) s->wpAny (model P w) A (pyIter (.ref it)) Q E s) :
  CP P w K tg (Its z) [it] it (λi h=>i<=z.cps.size/\h.IsStrIter it ty z t i) where
 mem:=by simp
 obj:=λi h st b hb=>by
  obtain rfl:b=it:=by simpa using hb
  obtain ⟨_,o,e,c,d⟩:=st
  exact ⟨o,e,λv q=>by rw [d] at q;cases q⟩
 keep:=λi h h' st k=>by
  obtain ⟨l,o,e,r⟩:=st
  exact ⟨l,o,k it (by simp) o e,r⟩
 item:=by
  intro X hP hw hK hc i pins s σ H E I hf st hg
  subst hP hw hK
  obtain ⟨f0,f1,f2,f3,f4,f5⟩:=hf it (by simp)
  refine (W X.A (I.ok.hd hc)).item i s _ _ hg st.2 λv h' tk hv st' kk=>?_
  obtain ⟨c,u,hx,rfl⟩:=hv
  have I1:dP X pins σ H { s with heap:=h',toks:=tk }:=I.turned (λb o hb e=>kk b o (by simpa using hb) e) f0 f1 f3 f4 f5
  exact ⟨_,rfl,XL ⟨.str ⟨#[c]⟩,H,I1,⟨u,rfl⟩,⟨rfl,c,hx,rfl⟩,⟨hg,st'⟩,λb hb=>(hf b hb).1⟩⟩
 done:=by
  intro X hP hw hK hc i pins s σ H E I hf st hg
  subst hP hw hK
  obtain ⟨f0,f1,f2,f3,f4,f5⟩:=hf it (by simp)
  have e:i=z.cps.size:=aBc st.1 hg
  subst e
  exact (W X.A (I.ok.hd hc)).done s _ _ st.2 λh' tk kk=>⟨rfl,I.turned (λb o hb e=>kk b o (by simpa using hb) e) f0 f1 f3 f4 f5⟩
 self:=λA i s Q E st h=>S A i s Q E st.2 h

def aJr (K:aD) (tl:TE):TI:=λσ H R=>tl σ H λx H1=>(∃ a,x=.ref a/\(∃ xs,mK K H1 a xs)/\R (Itl K a) H1)\/(∃ a,x=.ref a/\(∃ xs,rW K H1 a xs)/\R (Itt K a) H1)\/∃ z,x=.str z/\R (Its z) H1
theorem aCh {X:Cx} {tg l:Expr} {tl:TE} (hl:PE X l tl):PI X tg l (aJr X.K tl):=by
 intro pins s σ H R I h
 refine iX (hl pins s σ H _ I h) λv s1 ⟨x,H1,I1,r1,q1⟩=>?_
 rcases q1 with ⟨a,rfl,⟨xs,hq⟩,q⟩ | ⟨a,rfl,⟨xs,hq⟩,q⟩ | ⟨z,rfl,q⟩
 ·cases r1
  obtain ⟨its,rv,p,hz⟩:=I1.list hq
  refine wpAny_pyIter_list p.isList ⟨s1.heap.objs.size,[s1.heap.objs.size],_,_,H1,rfl,I1.kept (t':=s1.toks) λb o e=>aJ _ e,NO a _,⟨_,aR _ rfl,rfl,rfl⟩,λb hb=>?_,q⟩
  obtain rfl:b=s1.heap.objs.size:=by simpa using hb
  exact I1.fpOk (aL _) (I1.hok.fresh (aL _))
 ·cases r1
  obtain ⟨its,rv,p,hz⟩:=I1.tuple hq
  refine wpAny_pyIter_tuple (show s1.heap.IsTuple a its.toArray from p) ⟨s1.heap.objs.size,[s1.heap.objs.size],_,_,H1,rfl,I1.kept (t':=s1.toks) λb o e=>aJ _ e,IU a _,⟨_,aR _ rfl,rfl,rfl⟩,λb hb=>?_,q⟩
  obtain rfl:b=s1.heap.objs.size:=by simpa using hb
  exact I1.fpOk (aL _) (I1.hok.fresh (aL _))
 ·obtain ⟨t,rfl⟩:=r1
  have fin:∀ (o:Obj) (ty:String),(∀ A:Around,A.handled=none->Walks X.prog X.w A s1.heap.objs.size [s1.heap.objs.size] [s1.heap.objs.size] z.cps.size (SignAt z) (λi h=>h.IsStrIter s1.heap.objs.size ty z t i)) ->
    (∀ (A:Around) (i:Nat) (s:Shared) (Q:Value->Shared->Prop) (E:Value->Shared->Prop),s.heap.IsStrIter s1.heap.objs.size ty z t i->Q (.ref s1.heap.objs.size) s->wpAny (model X.prog X.w) A (pyIter (.ref s1.heap.objs.size)) Q E s) ->
    (s1.heap.push o).IsStrIter s1.heap.objs.size ty z t 0->PIE X pins σ tg R (.ref s1.heap.objs.size) { s1 with heap:=s1.heap.push o }:=λo ty W S st=>by
   refine ⟨s1.heap.objs.size,[s1.heap.objs.size],_,Its z,H1,rfl,I1.kept (t':=s1.toks) λb o e=>aJ _ e,NN _ z t W S,⟨cS _,st⟩,λb hb=>?_,q⟩
   obtain rfl:b=s1.heap.objs.size:=by simpa using hb
   exact I1.fpOk (aL _) (I1.hok.fresh (aL _))
  cases ha:z.cps.all (·<128)
  ·exact wpAny_pyIter_wide ha (fin _ "str_iterator" (λA hA=>Walks.strWide hA _ z t) (λ_ _ _ _ _ st h=>wpAny_pyIter_striter_wide st h) ⟨_,aR _ rfl,rfl,rfl⟩)
  ·exact wpAny_pyIter_ascii ha (fin _ "str_ascii_iterator" (λA hA=>Walks.strAscii hA _ z t) (λ_ _ _ _ _ st h=>wpAny_pyIter_striter_ascii st h) ⟨_,aR _ rfl,rfl,rfl⟩)

structure BP where
 cl:List (Str×Addr)
 C:Addr
 s3:Shared
 H3:Hp
 ex:List Addr
 pn:List (Addr×Obj)
def blk (X:Cx) (scope:Scope) (N':List Str) (b:BP):Cx where
 prog:=X.prog
 w:=X.w
 K:=X.K
 mg:=X.mg
 base:=X.base
 A:=X.A
 N:=N'
 s₀:=b.s3
 H₀:=b.H3
 env:=compEnvC scope b.cl b.C X.env
 outer:=X.stack
 stack:=X.stack
 ex:=b.ex
 fn:=λx=>scope.names.lookup x == some .cell
 calm:=X.calm
 pn:=b.pn
 xe:=λ_ _=>False

theorem vQ {env:Env}:∀ (names:List (Str×NameKind)) (acc:List (Str×Addr)),(∀ x∈names,x.2=.free->∃ c,env.cells.lookup x.1=some c) ->
  (∀ n c,acc.lookup n=some c->env.cells.lookup n=some c) ->
  ∃ cl:List (Str×Addr),(forIn names acc (λx cs=>match x with | (name,kind)=>if kind == .free then do let a <- cellOf env name;pure (ForInStep.yield ((name,a)::cs)) else pure (ForInStep.yield cs)):Sem (List (Str×Addr)))=pure cl /\
   (∀ n c,cl.lookup n=some c->env.cells.lookup n=some c)/\(∀ n,((∃ c,acc.lookup n=some c)\/(n,NameKind.free)∈names)->∃ c,cl.lookup n=some c)
 | [],acc,_,ha=>⟨acc,rfl,ha,λn h=>h.elim id λz=>absurd z (by simp)⟩
 | (n,k)::r,acc,h,ha=>by
  by_cases hk:k=.free
  ·subst hk
   obtain ⟨c,hc⟩:=h (n,.free) (aU ..) rfl
   obtain ⟨cl,e,h1,h2⟩:=vQ r ((n,c)::acc) (λx hx=>h x (aN _ hx)) (λm d hm=>by
    rw [hX] at hm
    cases hb:m == n with
    | true =>
     rw [hb] at hm
     obtain rfl:m=n:=by simpa using hb
     cases hm;exact hc
    | false=>rw [hb] at hm;exact ha m d hm)
   refine ⟨cl,?_,h1,λm hm=>h2 m ?_⟩
   ·rw [YR]
    have ec:cellOf env n=pure c:=by unfold cellOf;rw [hc]
    simp only [beq_self_eq_true,if_true,ec]
    exact e
   ·rcases hm with ⟨d,hd⟩ | hm
    ·left
     rw [hX]
     cases hb:m == n with
     | true=>exact ⟨c,rfl⟩
     | false=>exact ⟨d,hd⟩
    ·rcases aZ.mp hm with z | z
     ·left
      cases z
      exact ⟨c,by simp [hX]⟩
     ·exact .inr z
  ·obtain ⟨cl,e,h1,h2⟩:=vQ r acc (λx hx=>h x (aN _ hx)) ha
   refine ⟨cl,?_,h1,λm hm=>h2 m (hm.imp id λz=>?_)⟩
   ·rw [YR]
    have eb:(k == NameKind.free)=false:=by simpa using hk
    simp only [eb,fW,if_false]
    exact e
   ·rcases aZ.mp z with z | z
    ·cases z;exact absurd rfl hk
    ·exact z
theorem BX {env:Env} {scope:Scope} (h:∀ x∈scope.names,x.2=.free->∃ c,env.cells.lookup x.1=some c) :
  ∃ cl,closureFor scope env=pure cl/\(∀ n c,cl.lookup n=some c->env.cells.lookup n=some c)/\∀ n,(n,NameKind.free)∈scope.names->∃ c,cl.lookup n=some c:=by
 obtain ⟨cl,e,h1,h2⟩:=vQ (env:=env) scope.names [] h (λn c z=>by simp at z)
 refine ⟨cl,?_,h1,λn z=>h2 n (.inr z)⟩
 unfold closureFor
 refine Eq.trans ?_ (congrArg (λm=>m >>= λr=>(pure r:Sem (List (Str×Addr)))) e)
 rfl

theorem qW {env:Env} {x:Str} {k:NameKind}:∀ {names:List (Str×NameKind)},
  (names.map λ(n,k)=>if (k == NameKind.free && env.scope.kind == .function && env.kindOf n == some .cell) then (n,NameKind.cell) else (n,k)).lookup x=some k ->
  ∃ k0,(x,k0)∈names/\(k0=k\/(k0=.free/\k=.cell))
 | [],h=>by simp at h
 | (n,j)::r,h=>by
  rw [aX,hX] at h
  dsimp only at h
  by_cases hc:(j == NameKind.free && env.scope.kind == .function && env.kindOf n == some .cell)=true
  ·rw [if_pos hc] at h
   dsimp only at h
   cases hb:x == n with
   | true =>
    rw [hb] at h
    obtain rfl:x=n:=by simpa using hb
    cases h
    have hj:j=.free:=by simp only [cJ,beq_iff_eq] at hc;exact hc.1.1
    exact ⟨j,aU ..,.inr ⟨hj,rfl⟩⟩
   | false =>
    rw [hb] at h
    obtain ⟨k0,h1,h2⟩:=qW (names:=r) h
    exact ⟨k0,aN _ h1,h2⟩
  ·rw [if_neg hc] at h
   dsimp only at h
   cases hb:x == n with
   | true =>
    rw [hb] at h
    obtain rfl:x=n:=by simpa using hb
    cases h
    exact ⟨_,aU ..,.inl rfl⟩
   | false =>
    rw [hb] at h
    obtain ⟨k0,h1,h2⟩:=qW (names:=r) h
    exact ⟨k0,aN _ h1,h2⟩
theorem wM {env:Env} {x:Str}:∀ {names:List (Str×NameKind)},names.lookup x=some .free ->
  (names.map λ(n,k)=>if (k == NameKind.free && env.scope.kind == .function && env.kindOf n == some .cell) then (n,NameKind.cell) else (n,k)).lookup x=some .cell \/
  (names.map λ(n,k)=>if (k == NameKind.free && env.scope.kind == .function && env.kindOf n == some .cell) then (n,NameKind.cell) else (n,k)).lookup x=some .free
 | [],h=>by simp at h
 | (n,j)::r,h=>by
  rw [hX] at h
  rw [aX,hX]
  dsimp only
  cases hb:x == n with
  | true =>
   rw [hb] at h
   cases h
   by_cases hc:(NameKind.free == NameKind.free && env.scope.kind == .function && env.kindOf n == some .cell)=true
   ·rw [if_pos hc];dsimp only;rw [hb];exact .inl rfl
   ·rw [if_neg hc];dsimp only;rw [hb];exact .inr rfl
  | false =>
   rw [hb] at h
   have ih:=wM (env:=env) (names:=r) h
   by_cases hc:(j == NameKind.free && env.scope.kind == .function && env.kindOf n == some .cell)=true
   ·rw [if_pos hc];dsimp only;rw [hb];exact ih
   ·rw [if_neg hc];dsimp only;rw [hb];exact ih

def sT (names outer:List (Str×NameKind)) (Nx:List Str):List Str->List (Option Nat)->Bool
 | [],[]=>true
 | x::r,none::f=>sT names outer Nx r f
 | x::r,some j::f=>(names.lookup x == some .free) && (Nx[j]? == some x) && (outer.lookup x == some .cell) && sT names outer Nx r f
 | _,_=>false
theorem yD {names outer:List (Str×NameKind)} {Nx:List Str}:∀ {N':List Str} {fr:List (Option Nat)},sT names outer Nx N' fr=true ->
  N'.length=fr.length/\∀ (i:Nat) (x:Str) (j:Nat),N'[i]?=some x->fr[i]?=some (some j)->names.lookup x=some .free/\Nx[j]?=some x/\outer.lookup x=some .cell
 | [],[],_=>⟨rfl,λi x j h=>by simp at h⟩
 | x::r,none::f,h=>by
  obtain ⟨h1,h2⟩:=yD (N':=r) (fr:=f) h
  refine ⟨by simp [h1],λi y j e1 e2=>?_⟩
  cases i with
  | zero=>simp at e2
  | succ i=>exact h2 i y j (by simpa using e1) (by simpa using e2)
 | x::r,some k::f,h=>by
  simp only [sT,cJ,beq_iff_eq] at h
  obtain ⟨⟨⟨a1,a2⟩,a3⟩,h⟩:=h
  obtain ⟨h1,h2⟩:=yD (N':=r) (fr:=f) h
  refine ⟨by simp [h1],λi y j e1 e2=>?_⟩
  cases i with
  | zero =>
   simp at e1 e2
   subst e1;subst e2
   exact ⟨a1,a2,a3⟩
  | succ i=>exact h2 i y j (by simpa using e1) (by simpa using e2)
 | [],_::_,h=>by simp [sT] at h
 | _::_,[],h=>by simp [sT] at h
def uU (fr:List (Option Nat)) (σ:St):St:=fr.map λo=>o.bind λj=>(σ[j]?).join

def KR (X:Cx) (ifs:List Expr) (tt:TT):Prop :=
 ∀ (pins:List (Addr×Obj)) (s:Shared) (σ:St) (H:Hp) (Q:Bool->Hp->Prop),dP X pins σ H s->tt σ H Q ->
  wpAny (model X.prog X.w) X.A (forIn ifs true λc r=>if r=true then do let ok <- isTrue c X.env (eval c X.env);pure (ForInStep.yield ok) else pure (ForInStep.yield r)) (TP X pins σ Q) X.xe s
def VR:TT:=λ_ H Q=>Q true H
theorem WN {X:Cx}:KR X [] VR:=λ_ _ _ H _ I h=>wpAny_tests_nil ⟨H,I,h⟩
theorem WM {X:Cx} {c:Expr} {tt:TT} (h:PT X c tt):KR X [c] tt:=λpins s σ H Q I q=>wpAny_tests_one (h pins s σ H Q I q)

def LE (fr:List (Option Nat)) (wi:TI) (g:BP->TG) (tt:BP->TT) (te:BP->TE):TE:=λσ H Q=>wi σ H λJ H1=>∀ (bp:BP) (acc:Addr),H1 acc=none->∃ W:Nat->Nat->St->Hp->Prop,
 (∃ m,W 0 m (uU fr σ) (fZ H1 acc (.lst [])))/\∀ i m σ' H',W i m σ' H' ->
  (J.stop i H'/\Q (.ref acc) H')\/(J.go i H'/\∀ x H2,J.yld i H' x H2->g bp x σ' H2 λσ2 H3=>tt bp σ2 H3 λb H4 =>
   if b=true then te bp σ2 H4 λy H5=>∃ ys,H5 acc=some (.lst ys)/\ys.length<bD/\∃ m',m'<m/\W (i+1) m' σ2 (fZ H5 acc (.lst (ys++[y])))
   else ∃ m',m'<m/\W (i+1) m' σ2 H4)

theorem rE:∀ {names:List (Str×NameKind)},names.filter (λy=>y.2 == NameKind.cell)=[]->∀ (n:Nat) (acc:List (Str×Addr)) (h:Heap),cellsFrom n names acc=acc/\pushCells h names=h
 | [],_,_,_,_=>⟨rfl,rfl⟩
 | (x,k)::r,e,n,acc,h=>by
  rw [bK] at e
  cases hk:(k == NameKind.cell) with
  | true=>dsimp only at e;rw [hk,if_pos rfl] at e;cases e
  | false =>
   dsimp only at e
   rw [hk,if_neg bA] at e
   unfold cellsFrom pushCells
   rw [hk,if_neg bA,if_neg bA]
   exact rE e n acc h
theorem yG {z:Str}:∀ {names:List (Str×NameKind)},names.filter (λy=>y.2 == NameKind.cell)=[(z,.cell)]->∀ (n:Nat) (acc:List (Str×Addr)) (h:Heap),cellsFrom n names acc=(z,n)::acc/\pushCells h names=h.push { cls:=.type "cell",data:=.cell none }
 | [],e,_,_,_=>by cases e
 | (x,k)::r,e,n,acc,h=>by
  rw [bK] at e
  cases hk:(k == NameKind.cell) with
  | true =>
   dsimp only at e
   rw [hk,if_pos rfl] at e
   injection e with e1 e2
   injection e1 with e1 _
   subst e1
   unfold cellsFrom pushCells
   rw [hk,if_pos rfl,if_pos rfl]
   exact rE e2 (n+1) ((x,n)::acc) _
  | false =>
   dsimp only at e
   rw [hk,if_neg bA] at e
   unfold cellsFrom pushCells
   rw [hk,if_neg bA,if_neg bA]
   exact yG e n acc h
def uC (names:List (Str×NameKind)):Prop:=names.filter (λy=>y.2 == NameKind.cell)=[]\/∃ z,names.filter (λy=>y.2 == NameKind.cell)=[(z,.cell)]/\names.lookup z=some .cell
structure aKd (names:List (Str×NameKind)) (cl cl':List (Str×Addr)) (h:Heap) (C:Addr):Prop where
 get:∀ x c,cl'.lookup x=some c->(C<c/\(x,NameKind.cell)∈names/\h.IsCell c none)\/(cl.lookup x=some c/\(x,NameKind.cell)∉names)
 old:∀ x c,names.lookup x=some .free->cl.lookup x=some c->cl'.lookup x=some c
 has:∀ x,(x,NameKind.cell)∈names->∃ c,cl'.lookup x=some c
 keep:∀ x c,cl.lookup x=some c->∃ c',cl'.lookup x=some c'
 inj:∀ x y c,cl'.lookup x=some c->cl'.lookup y=some c->C<c->x=y
theorem W2 {M:Model} {A:Around} {E:Value->Shared->Prop} {s:Shared} {scope:Scope} {globals:Addr} {closure:List (Str×Addr)} {qual:Str} {outer:Env} {Q:Env->Shared->Prop} (hz:uC scope.names) (hlt:∀ x c,closure.lookup x=some c->c<s.heap.objs.size)
  (hQ:∀ h' cl',h'.Ns s.heap.objs.size (λ_=>none)->(∀ b o,s.heap.get? b=some o->h'.get? b=some o)->aKd scope.names closure cl' h' s.heap.objs.size->Q (newEnv scope s.heap.objs.size globals cl' qual none .none (some outer) builtinsNs) { s with heap:=h' }) :
  wpAny M A (newFunctionEnv scope globals closure [] qual none .none (some outer)) Q E s:=by
 simp only [newFunctionEnv,NI,if_true]
 refine aA (wpAny_alloc ?_)
 refine aA (wpAny_layCells _ (λname kind cells=>by cases hkc:kind == NameKind.cell<;>simp [hkc]) _ _ _ _ ?_)
 have mem:∀ x,(x,NameKind.cell)∈scope.names->(x,NameKind.cell)∈scope.names.filter (λy=>y.2 == NameKind.cell):=λx hx=>bY.mpr ⟨hx,rfl⟩
 rcases hz with hz | ⟨z,hz,hzl⟩
 ·rw [(rE hz _ _ s.heap).1,(rE hz 0 [] _).2]
  have no:∀ x,(x,NameKind.cell)∉scope.names:=λx hx=>by
   have:=mem x hx
   rw [hz] at this;cases this
  exact aA (aF (aF (hQ _ _ (Heap.Ns.new s.heap (.type "dict")) (λb o e=>aJ _ e) ⟨λx c h=>.inr ⟨h,no x⟩,λx c _ h=>h,λx h=>absurd h (no x),λx c h=>⟨c,h⟩,λx y c h _ l=>absurd (hlt x c h) (tF l)⟩)))
 ·rw [(yG hz _ _ s.heap).1,(yG hz 0 [] _).2,show ({ s with heap:=s.heap.push { cls:=.type "dict",data:=.dict #[] } }:Shared).heap.objs.size=s.heap.objs.size+1 from fF ..]
  have isz:∀ x,(x,NameKind.cell)∈scope.names->x=z:=λx hx=>by
   have:=mem x hx
   rw [hz] at this
   exact congrArg Prod.fst (cZ.mp this)
  have lk:∀ x c,((z,s.heap.objs.size+1)::closure).lookup x=some c->(x=z/\c=s.heap.objs.size+1)\/(x≠z/\closure.lookup x=some c):=λx c h=>by
   rw [hX] at h
   cases hb:x == z with
   | true=>rw [hb] at h;cases h;exact .inl ⟨eq_of_beq hb,rfl⟩
   | false=>rw [hb] at h;exact .inr ⟨ne_of_beq_false hb,h⟩
  have lko:∀ x c,x≠z->closure.lookup x=some c->((z,s.heap.objs.size+1)::closure).lookup x=some c:=λx c hx h=>by
   rw [hX,beq_eq_false_iff_ne.mpr hx];exact h
  have g:((s.heap.push { cls:=.type "dict",data:=.dict #[] }).push { cls:=.type "cell",data:=.cell none }).get? (s.heap.objs.size+1)=some { cls:=.type "cell",data:=.cell none }:=by
   have:=aR (s.heap.push { cls:=.type "dict",data:=.dict #[] }) (o:={ cls:=.type "cell",data:=.cell none }) rfl
   rwa [fF] at this
  refine aA (aF (aF (hQ _ _ ((Heap.Ns.new s.heap (.type "dict")).keeps λb o e=>aJ _ e) (λb o e=>aJ _ (aJ _ e)) ⟨λx c h=>?_,λx c hx h=>lko x c (λe=>by rw [e,hzl] at hx;cases hx) h,λx hx=>⟨s.heap.objs.size+1,by rw [isz x hx];simp⟩,λx c h=>?_,λx y c h1 h2 l=>?_⟩)))
  ·rcases lk x c h with ⟨rfl,rfl⟩ | ⟨n,h⟩
   ·exact .inl ⟨eE _,PySem.mem_of_lookup hzl,_,g,rfl⟩
   ·exact .inr ⟨h,λhx=>n (isz x hx)⟩
  ·by_cases e:x=z
   ·exact ⟨s.heap.objs.size+1,by rw [e];simp⟩
   ·exact ⟨c,lko x c e h⟩
  ·rcases lk x c h1 with ⟨e1,_⟩ | ⟨_,g1⟩
   ·rcases lk y c h2 with ⟨e2,_⟩ | ⟨_,g2⟩
    ·exact e1.trans e2.symm
    ·exact absurd (hlt y c g2) (tF l)
   ·exact absurd (hlt x c g1) (tF l)
section
variable {X:Cx}
theorem O7 {prog:bF} {w:World} {A:Around} {R:Result->Shared->Prop} {s:Shared} {elt target iter:Expr} {ifs:List Expr} {scope:Scope} {pos:Pos} {it acc:Value} {env:Env} (I:Nat->Shared->Prop)
  (turn:∀ n s,I n s->wpAny (model prog w) A (pyNext it) (λr s₁=>match r with
   | none=>R (.ok .next) s₁
   | some v=>wpAny (model prog w) A (letOwnedTupleGo target it v) (λ_ s1=>wpAny (model prog w) A (assign target env v) (λ_ s₂ =>
     wpAny (model prog w) A (forIn ifs true λc r=>if r=true then do let ok <- isTrue c env (eval c env);pure (ForInStep.yield ok) else pure (ForInStep.yield r)) (λok s₃ =>
      if ok=true then wpAny (model prog w) A (eval elt env) (λx s₄=>wpAny (model prog w) A (call (.builtin "list.append") [acc,x]) (λ_ s₅=>∃ m,m<n/\I m s₅) (λ_ _=>False) s₄) (λ_ _=>False) s₃
      else ∃ m,m<n/\I m s₃) (λ_ _=>False) s₂) (λ_ _=>False) s1) (λ_ _=>False) s₁) (λ_ _=>False) s)
  (n:Nat) (h:I n s):codeAny (model prog w) A (.compLoop (.ListComp elt [⟨target,iter,ifs,0⟩] scope pos) 0 it acc env) R s:=by
 refine codeAny_loop rfl I (λn s hI=>?_) n h
 show wpAny _ A ((compTurn (.ListComp elt [⟨target,iter,ifs,0⟩] scope pos) 0 it acc env).onRaise (λx=>do noteFrame x env;theTreesLotGoes x)) _ _ s
 refine wpAny_noted ?_
 rw [compTurn_list]
 have no:∀ {E:Value->Shared->Prop} (e:Value) (s:Shared),False->E e s:=λ_ _ z=>z.elim
 refine aA (wpAny_standAt (aA (gH (turn n s hI) (λr s₁ h₁=>?_) no)))
 cases r with
 | none=>exact aF h₁
 | some v =>
  refine aA (gH h₁ (λ_ s1 h1=>aA (gH h1 (λ_ s₂ h₂=>aA (gH h₂ (λok s₃ h₃=>?_) no)) no)) no)
  cases ok with
  | false=>exact aF ⟨rfl,h₃⟩
  | true=>exact aA (aA (gH h₃ (λx s₄ h₄=>aA (gH h₄ (λ_ s₅ h₅=>aF (aF ⟨rfl,h₅⟩)) no)) no))

variable {elt iter tg:Expr} {ifs:List Expr} {scope:Scope} {pos:Pos} {N':List Str} {fr:List (Option Nat)} {wi:TI} {g:BP->TG} {tt:BP->TT} {te:BP->TE}
theorem HC {pins:List (Addr×Obj)} {σ:St} {H2:Hp} {s2:Shared} {it:Addr} {fp:List Addr} {tn:Nat->Heap->Prop} {J:It} {Q:VK} {RR:Value->Addr->Result->Shared->Prop} {cl:List (Str×Addr)} {E:Value->Shared->Prop}
  (hcalm:X.calm=true) (hkind:scope.kind=.function) (hz:uC scope.names) (hfr:sT scope.names X.env.scope.names X.N N' fr=true)
  (hcl1:∀ n c,cl.lookup n=some c->X.env.cells.lookup n=some c) (hcl2:∀ n,(n,NameKind.free)∈scope.names->∃ c,cl.lookup n=some c)
  (hY:∀ b:BP,PG (blk X scope N' b) tg (g b)/\KR (blk X scope N' b) ifs (tt b)/\PE (blk X scope N' b) elt (te b))
  (I2:dP X pins σ H2 s2) (T:CP X.prog X.w X.K tg J fp it tn) (st2:tn 0 s2.heap) (f2:∀ b∈fp,CA X pins H2 b)
  (q:∀ (bp:BP) (acc:Addr),H2 acc=none->∃ W:Nat->Nat->St->Hp->Prop,(∃ m,W 0 m (uU fr σ) (fZ H2 acc (.lst [])))/\∀ i m σ' H',W i m σ' H' ->
   (J.stop i H'/\Q (.ref acc) H')\/(J.go i H'/\∀ x H2,J.yld i H' x H2->g bp x σ' H2 λσ2 H3=>tt bp σ2 H3 λb H4 =>
    if b=true then te bp σ2 H4 λy H5=>∃ ys,H5 acc=some (.lst ys)/\ys.length<bD/\∃ m',m'<m/\W (i+1) m' σ2 (fZ H5 acc (.lst (ys++[y])))
    else ∃ m',m'<m/\W (i+1) m' σ2 H4))
  (hRR:∀ acc C s' HY m,dP X pins σ HY s'->CA X pins HY C->s'.heap.Ns C m->Q (.ref acc) HY->RR (.ref acc) C (.ok .next) s') :
  wpAny (model X.prog X.w) X.A (newList []) (λacc s₃=>wpAny (model X.prog X.w) X.A (newFunctionEnv scope X.env.globals cl [] X.env.qual none .none (some X.env)) (λcenv s₄ =>
   codeAny (model X.prog X.w) X.A (.compStart (.ListComp elt [⟨tg,iter,ifs,0⟩] scope pos) 0 (.ref it) acc { cenv with scope:=relabel scope X.env }) (RR acc cenv.locals) s₄) E s₃) E s2:=by
 obtain ⟨hfl,hfg⟩:=yD hfr
 have hacc:H2 s2.heap.objs.size=none:=I2.hok.fresh (aL _)
 refine cN ?_ (by show 0<=bD;exact cS _)
 generalize hs3:({ s2 with heap:=s2.heap.push { cls:=.type "list",dict:=none,data:=.seq ([]:List Value).toArray } }:Shared)=s3
 have I3:dP X pins σ (fZ H2 s2.heap.objs.size (.lst [])) s3:=by
  rw [<- hs3]
  exact I2.laid (t':=s2.toks) (λb u e=>aJ _ e) (aL _) ⟨cS _,[],0,.nil,aR _ rfl⟩
 have hfp:∀ b∈fp,b<s3.heap.objs.size:=λb hb=>by
  obtain ⟨o,e,_⟩:=T.obj 0 _ st2 b hb
  rw [<- hs3]
  exact bH (aJ _ e)
 have st3:tn 0 s3.heap:=T.keep 0 _ _ st2 λb _ o e=>by rw [<- hs3];exact aJ _ e
 have f3:∀ b∈fp,CA X pins (fZ H2 s2.heap.objs.size (.lst [])) b:=λb hb=>⟨by
  obtain ⟨o,e,_⟩:=T.obj 0 _ st2 b hb
  rw [cG (bS (bH e))]
  exact (f2 b hb).1,(f2 b hb).2⟩
 refine W2 hz (λx c e=>by obtain ⟨v,o,ho,_⟩:=I3.cell x c (hcl1 x c e);exact bH ho) λh₁ cl' hns keep hnw=>?_
 generalize hH3:fZ H2 s2.heap.objs.size (.lst [])=H3 at *
 generalize hac:s2.heap.objs.size=ac at *
 generalize hC:s3.heap.objs.size=C at *
 obtain ⟨W,⟨m0,w0⟩,turn⟩:=q ⟨cl',C,s3,H3,fp,X.pn++pins⟩ ac hacc
 rw [hH3] at w0
 have cellLt:∀ x c,X.env.cells.lookup x=some c->c<C:=λx c e=>by
  obtain ⟨v,o,ho,_⟩:=I3.cell x c e
  rw [<- hC];exact bH ho
 have hCfp:∀ b∈fp,b≠C:=λb hb=>by exact bS (hfp b hb)
 have hCl:X.env.locals<C:=by rw [<- hC];exact I3.lt
 have hstk:∀ b∈P3 X.stack,b≠C/\H3 b=none:=λb hb=>⟨by
  rintro rfl
  rcases aZ.mp (I3.stkSub b hb) with z | z
  ·rw [z] at hCl;exact absurd hCl (iQ _)
  ·exact I3.nofs (by rw [hC];exact aL _) z,I3.stkFree b hb⟩
 have cellNe:∀ x c,X.env.cells.lookup x=some c->c≠C:=λx c e z=>by
  obtain ⟨v,o,ho,_⟩:=I3.cell x c e
  have:=bH ho
  rw [z,hC] at this
  exact absurd this (iQ _)
 -- the block's context
 have okY:(blk X scope N' ⟨cl',C,s3,H3,fp,X.pn++pins⟩).Ok:=by
  refine ⟨I3.ok.mod,hkind,I3.ok.glob,I3.ok.blt,oY hC,λx y c h1 h2=>by
   rcases hnw.get x c h1 with ⟨l1,_⟩ | ⟨g1,_⟩<;>rcases hnw.get y c h2 with ⟨l2,_⟩ | ⟨g2,_⟩
   ·exact hnw.inj x y c h1 h2 l1
   ·exact absurd (cellLt y _ (hcl1 y _ g2)) (tF l1)
   ·exact absurd (cellLt x _ (hcl1 x _ g1)) (tF l2)
   ·exact I3.ok.inj x y c (hcl1 x c g1) (hcl1 y c g2),λx hx=>?_,λx c hf h=>by
   rcases hnw.get x c h with ⟨l,_⟩ | ⟨_,n⟩
   ·exact cM (oY hC) (jZ l)
   ·exact absurd (PySem.mem_of_lookup (beq_iff_eq.mp hf)) n,λ_=>I3.ok.hd hcalm,I3.ok.frames,.inl rfl,
   λb hb=>⟨hCfp b hb,λx c h=>by
    rcases hnw.get x c h with ⟨l,_⟩ | ⟨h,_⟩
    ·exact fS (K2 (hfp b hb) l)
    ·exact (f3 b hb).2.2.2.2.1 x c (hcl1 x c h)⟩,λb o e=>I3.bs b o e,?_,λb o e hb=>?_,λb hb hs=>?_,I3.stack,λb hb=>(hstk b hb).2,I3.env0.tab⟩
  ·have back:∀ k,(relabel scope X.env).names.lookup x=some k->(k=.cell\/k=.free)->∃ c,(cl').lookup x=some c:=λk h hk=>by
    obtain ⟨k0,h1,h2⟩:=qW h
    rcases (show k0=.cell\/k0=.free from h2.elim (λe=>by rw [e];exact hk) λe=>.inr e.1) with rfl | rfl
    ·exact hnw.has x h1
    ·obtain ⟨c,hc⟩:=hcl2 x h1
     exact hnw.keep x c hc
   rcases hx with hx | hx
   ·exact back _ hx (.inl rfl)
   ·exact back _ hx (.inr rfl)
  ·exact cM I3.ok.bsz (cM I3.sz (aL _))
  ·rcases (f3 b hb).2.2.2.1 with z | z
   ·exact I3.ok.noex b o e z
   ·exact absurd (cV (bH (I3.ok.bs b o e).1) z) (iQ _)
  ·rcases aZ.mp (I3.stkSub b hs) with z | z
   ·exact (f3 b hb).2.1 z
   ·exact (f3 b hb).2.2.1 z
 have hH3C:H3 C=none:=I3.hok.fresh (oY hC)
 have IY:dP (blk X scope N' ⟨cl',C,s3,H3,fp,X.pn++pins⟩) [] (uU fr σ) H3 { s3 with heap:=h₁ }:=by
  refine ⟨okY,rfl,I3.bare,Un.kept keep,⟨_,hns,λi x v h1 h2 _=>?_⟩,λx c e=>?_,hH3C,λx c e=>(by
   rcases hnw.get x c e with ⟨l,_⟩ | ⟨e,_⟩
   ·exact I3.hok.fresh (by rw [hC];exact jZ l)
   ·exact I3.freeC x c (hcl1 x c e)),λp hp=>?_,I3.hok.kept keep,?_⟩
  ·have e:∃ j,fr[i]?=some (some j)/\σ[j]?=some (some v):=by
    unfold uU at h2
    rw [aI] at h2
    cases hf:fr[i]? with
    | none=>rw [hf] at h2;cases h2
    | some o =>
     rw [hf] at h2
     cases o with
     | none=>cases h2
     | some j =>
      refine ⟨j,rfl,?_⟩
      have h2':(σ[j]?).join=some v:=by simpa using h2
      cases hj:σ[j]? with
      | none=>rw [hj] at h2';cases h2'
      | some o=>rw [hj] at h2';rw [show o=some v from h2']
   obtain ⟨j,e1,e2⟩:=e
   obtain ⟨a1,a2,a3⟩:=hfg i x j h1 e1
   obtain ⟨m,hn,hl⟩:=I3.loc
   obtain ⟨u,r,l⟩:=hl j x v a2 e2 (.inr (.inl a3))
   refine ⟨u,r,.inr ⟨wM a1,?_⟩⟩
   rcases l with ⟨k,_⟩ | ⟨_,c,hc,o,ho,hd⟩
   ·have k':X.env.scope.names.lookup x=some .local:=k
    rw [a3] at k';cases k'
   ·obtain ⟨c',hc'⟩:=hcl2 x (PySem.mem_of_lookup a1)
    have z:=hcl1 x c' hc'
    rw [hc] at z;cases z
    exact ⟨c,hnw.old x c a1 hc',o,keep c o ho,hd⟩
  ·rcases hnw.get x c e with ⟨_,_,hnc⟩ | ⟨e,_⟩
   ·exact ⟨none,hnc⟩
   ·obtain ⟨v,o,ho,hd⟩:=I3.cell x c (hcl1 x c e)
    exact ⟨v,o,keep c o ho,hd⟩
  ·obtain ⟨e,n,ne,nf,d⟩:=I3.pin p (by have hp':p∈(X.pn++pins)++[]:=hp;simpa using hp')
   refine ⟨keep _ _ e,n,?_,λz=>?_,d⟩
   ·have:=bH e
    rw [hC] at this
    exact bS this
   ·rcases aZ.mp (I3.stkSub p.1 z) with z | z
    ·exact ne z
    ·exact nf z
  ·unfold uU
   rw [aB]
   exact hfl.symm
 have stat:∀ {H':Hp},(∀ b∈fp,H' b=none)->∀ b∈fp,CA (blk X scope N' ⟨cl',C,s3,H3,fp,X.pn++pins⟩) [] H' b:=λ{H'} hn b hb =>
  ⟨hn b hb,hCfp b hb,λz=>by
   rcases aZ.mp (I3.stkSub b z) with z | z
   ·exact (f3 b hb).2.1 z
   ·exact (f3 b hb).2.2.1 z,  .inl hb,λx c e=>(by
   rcases hnw.get x c e with ⟨l,_⟩ | ⟨e,_⟩
   ·exact fS (K2 (hfp b hb) l)
   ·exact (f3 b hb).2.2.2.2.1 x c (hcl1 x c e)),λp hp=>(f3 b hb).2.2.2.2.2 p (by have hp':p∈(X.pn++pins)++[]:=hp;simpa using hp')⟩
 obtain ⟨hg,ht,he⟩:=hY ⟨cl',C,s3,H3,fp,X.pn++pins⟩
 have loop:codeAny (model X.prog X.w) X.A (.compLoop (.ListComp elt [⟨tg,iter,ifs,0⟩] scope pos) 0 (.ref it) (.ref ac) (compEnvC scope cl' C X.env)) (RR (.ref ac) C) { s3 with heap:=h₁ }:=by
  refine O7 (λn s'=>∃ i σ' H',dP (blk X scope N' ⟨cl',C,s3,H3,fp,X.pn++pins⟩) [] σ' H' s'/\tn i s'.heap/\(∀ b∈fp,H' b=none)/\W i n σ' H') ?_ m0
   ⟨0,uU fr σ,H3,IY,T.keep 0 _ _ st3 λb _ o e=>keep b o e,λb hb=>(f3 b hb).1,w0⟩
  rintro n s4 ⟨i,σ4,H4,I4,st4,fr4,w4⟩
  rcases turn i n σ4 H4 w4 with ⟨stop,qn⟩ | ⟨go,step⟩
  ·refine iX (T.done (blk X scope N' ⟨cl',C,s3,H3,fp,X.pn++pins⟩) rfl rfl rfl hcalm i [] s4 σ4 H4 _ I4 (stat fr4) st4 stop) λr s5 ⟨hr,I5⟩=>?_
   subst hr
   obtain ⟨m,hn,_⟩:=I5.loc
   have IX:dP X pins σ H4 s5:=I3.call' I5.os I5.base I5.hok I5.bare λb hb=>⟨(f3 b hb).2.2.2.1,(f3 b hb).2.1,(f3 b hb).2.2.2.2.1,(f3 b hb).2.2.2.2.2⟩
   exact hRR ac C s5 H4 m IX (I3.fpOk (oY hC) I5.free) hn qn
  ·refine iX (T.item (blk X scope N' ⟨cl',C,s3,H3,fp,X.pn++pins⟩) rfl rfl rfl hcalm i [] s4 σ4 H4 (λ_ _=>False) I4 (stat fr4) st4 go) λr s5 ⟨u,hr,h5⟩=>?_
   subst hr
   refine iX h5 λ_ s6 ⟨x,H6,I6,r6,y6,st6,fr6⟩=>?_
   have I6':=I6.pinned (stat fr6) (T.obj _ _ st6)
   refine iX (hg _ s6 σ4 H6 x u _ I6' r6 (step x H6 y6)) λ_ s7 ⟨σ7,H7,I7,q7⟩=>?_
   refine iX (ht _ s7 σ7 H7 _ I7 q7) λok s8 ⟨H8,I8,q8⟩=>?_
   have again:∀ {s9:Shared} {σ9:St} {H9:Hp} {m':Nat},dP (blk X scope N' ⟨cl',C,s3,H3,fp,X.pn++pins⟩) ([]++BD fp s6.heap) σ9 H9 s9->m'<n->W (i+1) m' σ9 H9 ->
     ∃ m,m<n/\∃ i σ' H',dP (blk X scope N' ⟨cl',C,s3,H3,fp,X.pn++pins⟩) [] σ' H' s9/\tn i s9.heap/\(∀ b∈fp,H' b=none)/\W i m σ' H':=λ{s9 σ9 H9 m'} I9 hm w9=>by
    refine ⟨m',hm,i+1,σ9,H9,I9.unpinned,T.keep _ _ _ st6 λb hb o e=>(I9.pin (b,o) (dU _ (dU _ (rB hb e)))).1,λb hb=>?_,w9⟩
    obtain ⟨o,e,d⟩:=T.obj _ _ st6 b hb
    exact (I9.pin (b,o) (dU _ (dU _ (rB hb e)))).2.1
   cases ok with
   | false =>
    obtain ⟨m',hm,w8⟩:=q8
    exact again I8 hm w8
   | true =>
    refine iX (he _ s8 σ7 H8 _ I8 q8) λy s9 ⟨yv,H9,I9,r9,ys,hys,hz,m',hm,w9⟩=>?_
    refine iX (mX (X:=blk X scope N' ⟨cl',C,s3,H3,fp,X.pn++pins⟩) _ s9 σ7 H9 (.ref ac) [yv] (.ref ac) [y] (λ_ H'=>H'=fZ H9 ac (.lst (ys++[yv]))) I9 rfl (.cons r9 .nil) ⟨ac,ys,yv,rfl,rfl,hys,hz,rfl⟩) λ_ s10 ⟨_,H10,I10,_,e10⟩=>?_
    subst e10
    exact again I10 hm w9
 exact codeAny_compStart_list loop (T.self _ 0 _ _ _ (T.keep 0 _ _ st3 λb _ o e=>keep b o e) loop)

theorem aFl (hcalm:X.calm=true) (hkind:scope.kind=.function) (hz:uC scope.names) (hfr:sT scope.names X.env.scope.names X.N N' fr=true)
  (hfree:∀ y∈scope.names,y.2=.free->X.env.scope.names.lookup y.1=some .cell) (hnames:∀ x∈scope.names,x.2=.local->scope.names.lookup x.1=some .local) (hi:PI X tg iter wi)
  (hY:∀ b:BP,PG (blk X scope N' b) tg (g b)/\KR (blk X scope N' b) ifs (tt b)/\PE (blk X scope N' b) elt (te b))
  (hs:∀ x,foldedSetIterable iter X.env x=pure x:=by intro _;rfl):PE X (.ListComp elt [⟨tg,iter,ifs,0⟩] scope pos) (LE fr wi g tt te):=by
 intro pins s σ H Q I h
 obtain ⟨cl,hclos,hcl1,hcl2⟩:=BX (env:=X.env) (scope:=scope) λy hy hk=>I.ok.has y.1 (.inl (hfree y hy hk))
 rw [eval_ListComp]
 refine wpAny_comprehension_free (use:=none) rfl hs hclos hkind hnames (iX (hi pins s σ H _ I h) λv s1 h1=>iX h1 λitv s2 h2=>?_)
 obtain ⟨it,fp,tn,J,H2,rfl,I2,T,st2,f2,q⟩:=h2
 refine HC (RR:=λacc C=>compPost (model X.prog X.w) X.A X.xe none (EP X pins σ Q) acc C) hcalm hkind hz hfr hcl1 hcl2 hY I2 T st2 f2 q λacc C s' HY m I' f' hn q'=>?_
 exact ⟨m,hn,λh' sb=>⟨.ref acc,HY,I'.turned (t':=s'.toks) (λb o hb e=>(sb.2 b hb).trans e) f'.1 f'.2.1 f'.2.2.2.1 f'.2.2.2.2.1 f'.2.2.2.2.2,rfl,q'⟩⟩
theorem RQ {i:Nat} {x:Str} {px spos:Pos} (hN:X.N.Nodup) (hix:X.N[i]?=some x) (hx:NC X.env.scope x) (hcalm:X.calm=true) (hkind:scope.kind=.function) (hz:uC scope.names) (hfr:sT scope.names X.env.scope.names X.N N' fr=true)
  (hfree:∀ y∈scope.names,y.2=.free->X.env.scope.names.lookup y.1=some .cell) (hnames:∀ x∈scope.names,x.2=.local->scope.names.lookup x.1=some .local) (hi:PI X tg iter wi)
  (hY:∀ b:BP,PG (blk X scope N' b) tg (g b)/\KR (blk X scope N' b) ifs (tt b)/\PE (blk X scope N' b) elt (te b))
  (hsw:gT (.ListComp elt [⟨tg,iter,ifs,0⟩] scope pos) (some (.Name x px)) spos.line X.env=pure true)
  (hs:∀ x,foldedSetIterable iter X.env x=pure x:=by intro _;rfl) (hf:X.fn x=true\/X.env.scope.names.lookup x=some .local:=by first | exact .inl rfl | exact .inr rfl | assumption) :
  PS X (.Assign [.Name x px] (.ListComp elt [⟨tg,iter,ifs,0⟩] scope pos) spos) (rQ (LE fr wi g tt te) (jE i)):=by
 intro pins s σ H D I h
 obtain ⟨cl,hclos,hcl1,hcl2⟩:=BX (env:=X.env) (scope:=scope) λy hy hk=>I.ok.has y.1 (.inl (hfree y hy hk))
 rw [exec_Assign_Name_used _ _ _ _ hsw]
 refine aA (wpAny_standAt (aA ?_))
 show wpAny _ _ (do let _ <- comprehension (.ListComp elt [⟨tg,iter,ifs,0⟩] scope pos) scope X.env _ (newList []) false (eval iter X.env) (some (assign (.Name x px) X.env))) _ _ s
 refine aA (gH (wpAny_comprehension_free (use:=some (assign (.Name x px) X.env)) (Q:=λ_ s'=>SP X pins D .next s') rfl hs hclos hkind hnames
  (iX (hi pins s σ H _ I h) λv s1 h1=>iX h1 λitv s2 h2=>?_)) (λ_ s' hq=>aF (aF hq)) λ_ _ e=>e)
 obtain ⟨it,fp,tn,J,H2,rfl,I2,T,st2,f2,q⟩:=h2
 refine HC (RR:=λacc C=>compPost (model X.prog X.w) X.A X.xe (some (assign (.Name x px) X.env)) (λ_ s'=>SP X pins D .next s') acc C) (Q:=λx H1=>jE i x σ H1 D.nx) hcalm hkind hz hfr hcl1 hcl2 hY I2 T st2 f2 q λacc C s' HY m I' f' hn q'=>?_
 show wpAny _ _ (assign (.Name x px) X.env (.ref acc)) _ _ _
 refine wpAny_assign_Name (C5 I' hN hix hx (v:=.ref acc) rfl (λs2' I2' hch=>?_) hf)
 obtain ⟨a,sb,ha⟩:=hch
 have hCa:C≠a:=by
  rcases ha with z | z
  ·rw [z];exact f'.2.1
  ·exact λe=>f'.2.2.2.2.1 x a z e.symm
 exact ⟨m,hn.sameBut sb hCa,λh' sb'=>⟨_,HY,I2'.turned (t':=s2'.toks) (λb o hb e=>(sb'.2 b hb).trans e) f'.1 f'.2.1 f'.2.2.2.1 f'.2.2.2.2.1 f'.2.2.2.2.2,q'⟩⟩
end
end L2

namespace L2
open PySem PySem.Spec PyProof.Rows
section
variable {prog:bF} {w:World} {A:Around} {E:Value->Shared->Prop} {h:Heap} {g:Array GenState} {d:Drawn} {t:Nat} {os:OsState} {a C:Addr} {ox:Obj} {od:Option Obj} {K:aD}
structure FW (K:aD) (C:Addr):Prop where
 ga:fK K (.ref C) "__getattribute__"=some (some (.builtin "BaseException.__getattribute__"))
 gt:fK K (.ref C) "__getattr__"=some none
 cl:fK K (.ref C) "__class__"=some (some (.builtin "object.__class__"))
 ob:CV K C (.type "object")=some true
 be:CV K C (.type "BaseException")=some true
def XOk (K:aD) (C:Addr):Prop:=FW K C/\∀ T∈["int","str","list","tuple","bool"],kK K (.ref C) (.type T)=some false
theorem O9 {M:Model} {nameV:Value} {Q:Unit->Shared->Prop} (X:K.In h) (c:FW K C) (I:kM h a ox C od) (hq:Q () ⟨h,g,d,t,os⟩):wpAny M A (checkBuiltinCall "BaseException.__getattribute__" ⟨[.ref a,nameV],[]⟩) Q E ⟨h,g,d,t,os⟩:=by
 have hk:builtinKind "BaseException.__getattribute__"=some .slot:=by decide +kernel
 have hsplit:splitId "BaseException.__getattribute__"=some ("BaseException","__getattribute__"):=by decide +kernel
 have ha:=F.args_bexc_ga (.ref a) nameV
 have L0:=I.type (M:=M)
 have L1:=PySem.W.looks_mroIn (M:=M) X c.be
 simp only [checkBuiltinCall,hk,hsplit]
 refine aA ?_
 unfold isInstance
 refine aA (L0.at (L1.at ?_))
 repeat (first | exact hq | wp_step)
theorem FP {tk:Tok} {Q:Fin->Shared->Prop} (X:K.In h) (c:FW K C) (I:kM h a ox C od) (hq:Q (.done (.ret (.ref C))) ⟨h,g,d,t,os⟩) :
  wpAny (model prog w) A (Builtin.«object.__getattribute__» ⟨[.ref a,.str "__class__" tk],[]⟩) Q E ⟨h,g,d,t,os⟩:=by
 have hT5:(⟨h,g,d,t,os⟩:Shared).TypeIs (.builtin "object.__class__") "getset_descriptor":=F.typeOf_object_class
 have f5:=F.typeOf_object_class
 have f6:=F.slot_gs_get.lookup
 have f7:=F.slot_gs_set.lookup
 have L0:=I.type (M:=model prog w)
 have L1:=nH (M:=model prog w) X c.cl
 repeat (any_goals (first | assumption | with_reducible refine L0.at ?_ | with_reducible refine L1.at ?_ | wp_step))
 refine PySem.W.class_get (s:=⟨h,g,d,t,os⟩) X I c.ob ?_
 repeat (any_goals (first | assumption | wp_step))
theorem HU {tk:Tok} {R:Result->Shared->Prop} (X:K.In h) (c:FW K C) (I:kM h a ox C od) (hq:R (.ok (.ret (.ref C))) ⟨h,g,d,t,os⟩) :
  codeAny (model prog w) A (.call (.builtin "BaseException.__getattribute__") ⟨[.ref a,.str "__class__" tk],[]⟩) R ⟨h,g,d,t,os⟩ :=
 codeAny_call_builtin F.excAttr_ValueError.ga.plain F.entry_bexc_ga (O9 X c I (FP X c I hq))
theorem O8 {tk:Tok} {Q:Value->Shared->Prop} (X:K.In h) (c:FW K C) (I:kM h a ox C od) (hq:Q (.ref C) ⟨h,g,d,t,os⟩):wpAny (model prog w) A (getAttrBy (.ref a) (.str "__class__" tk) false) Q E ⟨h,g,d,t,os⟩:=by
 have f3:=F.excAttr_ValueError.ga.bind (.ref a)
 have hx2:(Value.builtin "BaseException.__getattribute__" == Value.builtin "object.__getattribute__")=false:=by decide +kernel
 have hx1:(onTheHeap (Value.ref C) && Value.builtin "BaseException.__getattribute__" == Value.builtin "object.__getattribute__")=false:=by rw [hx2];rfl
 have L0:=I.type (M:=model prog w)
 have L1:=nH (M:=model prog w) X c.ga
 have L2':=nH (M:=model prog w) X c.gt
 repeat (any_goals (first | assumption | with_reducible refine L0.at ?_ | with_reducible refine L1.at ?_ | with_reducible refine L2'.at ?_ | wp_step))
 refine HU X c I ?_
 repeat (any_goals (first | assumption | wp_step))
theorem HV {Q:Option Value->Shared->Prop} (X:K.In h) (c:FW K C) (I:kM h a ox C od) (hq:Q (some (.ref C)) ⟨h,g,d,t+1,os⟩):wpAny (model prog w) A (getAttr? (.ref a) "__class__") Q E ⟨h,g,d,t,os⟩:=by
 unfold getAttr? getAttrBy?
 repeat (any_goals (first | assumption | with_reducible apply O8 X c I | wp_step))
theorem S5 (c:FW K C):PySem.W.KitX K (.ref a) (.ref C) (λh=>∃ ox od,kM h a ox C od) where
 ty:=λ_ _ _ ⟨_,_,I⟩=>I.type
 it:=λ_ _ X _=>by
  obtain ⟨cd,hc,_⟩:=F2.mp c.ob
  unfold VB at hc
  split at hc
  ·rename_i c' d' cd' sl' ho
   intro A' Q' E' s' k q
   unfold isType loadHead
   exact aA (wpAny_loadPart (k _ _ (X _ _ ho)) (aF q))
  ·cases hc
 ne:=λh tp dd its n sl X htp=>by
  obtain ⟨cd,hc,_⟩:=F2.mp c.ob
  refine zP.mpr λq=>?_
  have e:C=tp:=Value.ref.inj (beq_iff_eq.mp q)
  subst e
  unfold VB at hc
  split at hc
  ·rename_i c' d' cd' sl' ho
   have z:=(X _ _ ho).symm.trans htp
   cases z
  ·cases hc
 ca:=λ{_ _ _ _ _ s} X ⟨_,_,I⟩ k=>by
  obtain ⟨hh,g,d,t,os⟩:=s
  exact HV X c I k
end
structure xK (k:Nat) (A:Around):Prop where
 dp:A.depth+3*k+5<recursionLimit
 un:A.units+16*k+200<cLine
 gd:A.guards=some []
theorem Room.h {k:Nat} {A:Around} (r:Room k A):xK k A:=⟨r.dp,r.un,r.gd⟩
theorem xK.mono {j k:Nat} {A:Around} (r:xK k A) (h:j<=k):xK j A:=⟨by have:=r.dp;omega,by have:=r.un;omega,r.gd⟩
theorem xK.deeper {k:Nat} {A:Around} (r:xK (k+1) A) (env:Env):xK k (A.deeper env):=⟨by have:=r.dp;show A.depth+1+3*k+5<_;omega,by have:=r.un;show A.units+3+16*k+200<_;omega,r.gd⟩
theorem xK.depth {k:Nat} {A:Around} (r:xK k A):A.depth<recursionLimit:=by have:=r.dp;omega
section
variable {X:Cx} {CX:NE} {k:Nat} {f C:Addr} {fd:dI} {ps:List Str} {sp:Sp} {dvs:List V} {ds:List Value} {E:XK} {x m:Str} {p pos apos:Pos} {e o:Expr} {es:List Expr} {ta:TE} {t:TA}
end
section
variable {P:bF} {w:World} {K:aD} {mg:Str->Option Value} {base:Heap}
end
end L2

namespace TL
open PySem PySem.Spec PyProof.Rows L2
abbrev D:=PySem.PyData
def aCu (p:Addr) (h:Heap):Prop:=∃ (its:List Value) (n:Nat),h.get? p=some { cls:=.type "list",data:=.seq its.toArray n }/\its.length<=1000/\∀ v∈its,∃ (i:Int) (t:Tok),v=.int i t/\0<=i/\i<4096
def MU (p C:Addr) (dx:Option Addr) (h:Heap):Prop:=∃ o vs,h.get? p=some o/\o.cls=.ref C/\o.dict=dx/\o.data=.fields vs
def aBo (p q:Addr) (h:Heap):Prop:=∃ (a b c:Int) (ta tb tc:Tok) (n:Nat),h.get? p=some { cls:=.type "list",data:=.seq [Value.ref q,.int a ta,.int b tb,.int c tc].toArray n }/\0<=a/\(c=0\/c=1)
def KY (e:Int×Addr×V) (x:DictEntry):Prop:=x.hash=e.1/\x.key=.ref e.2.1/\gC e.2.2 x.val
def ND (p:Addr) (es:List (Int×Addr×V)) (h:Heap):Prop:=(p == sysModules)=false/\es.length<=bD/\∃ o xs ep,h.get? p=some o/\o.ExactDict/\o.data=.dict xs ep/\Paired KY es xs.toList
def mQ (p:Addr) (es:List (Int×Addr×V)):HO:=.ext (ND p es)
def aD1 (p:Addr) (es:List (Int×Addr×V)) (ep:Nat) (h:Heap):Prop:=(p == sysModules)=false/\es.length<=bD/\∃ o xs,h.get? p=some o/\o.ExactDict/\o.data=.dict xs ep/\Paired KY es xs.toList
def rD (p:Addr) (es:List (Int×Addr×V)) (ep:Nat):HO:=.ext (aD1 p es ep)
def X7 (hs:List Int) (kvs:List (D×D)):D:=.dict ((.str "{}",.list (hs.map aO))::kvs)
mutual
inductive gE (K:aD) (H:Hp):D->V->Prop
 | none:gE K H .none .non
 | bool (b:Bool):gE K H (.bool b) (.bl b)
 | int (i:Int):gE K H (.int i) (.int i)
 | str (x:Str):gE K H (.str x) (.str x)
 | list {p:Addr} {xs:List V} {ts:List D}:mK K H p xs->Reps K H ts xs->gE K H (.list ts) (.ref p)
 | tuple {p:Addr} {xs:List V} {ts:List D}:rW K H p xs->Reps K H ts xs->gE K H (.tuple ts) (.ref p)
 | wild {p:Addr}:H p=some (.ext (aCu p))->gE K H (.dict []) (.ref p)
 | exc {p C:Addr}:XOk K C->H p=some (.ext (MU p C Option.none))->gE K H (.dict [(.int (C:Nat),.none)]) (.ref p)
 | excA {p C dx:Addr} {n:Int}:XOk K C->H p=some (.ext (MU p C (some dx)))->H dx=some (.xd [("at",.int n)])->gE K H (.dict [(.int (C:Nat),.int n)]) (.ref p)
 | tape {p q:Addr} {ns:List Int}:H p=some (.ext (aBo p q))->mK K H q (ns.map V.int)->gE K H (.dict [(.none,.list (ns.map aO))]) (.ref p)
 | dct {p:Addr} {es:List (Int×Addr×V)} {ep:Nat} {kvs:List (D×D)}:H p=some (rD p es ep)->(kvs.map (·.1)).Nodup->Reps K H (kvs.map (·.1)) (es.map λe=>.ref e.2.1)->Reps K H (kvs.map (·.2)) (es.map λe=>e.2.2)->gE K H (.dict ((.str "{}",.list ((es.map (·.1)).map aO))::kvs)) (.ref p)
 | addr {p:Addr} (z:List D):gE K H (.dict [(.str "@",.list (.int (p:Nat)::z))]) (.ref p)
 | ins {p C dx:Addr} {fs:List (Str×V)} {ds:List D}:H p=some (.ins C dx fs)->Reps K H ds (fs.map (·.2))->gE K H (.dict [(.str "obj",.tuple [.int (C:Nat),.list ((fs.map (·.1)).map aP),.list ds])]) (.ref p)
inductive Reps (K:aD) (H:Hp):List D->List V->Prop
 | nil:Reps K H [] []
 | cons {t:D} {ts:List D} {x:V} {xs:List V}:gE K H t x->Reps K H ts xs->Reps K H (t::ts) (x::xs)
end
variable {K:aD} {H H' H1 H2:Hp}
theorem bB.seqT {a:Addr} {xs:List V} (e:bB H H') (h:rW K H a xs):rW K H' a xs:=by
 rcases h with (h | ⟨o,h⟩) | h
 ·exact .inl (.inl (e _ _ h))
 ·exact .inl (.inr ⟨o,e _ _ h⟩)
 ·exact .inr h
mutual
theorem gE.same (e:bB H H'):∀ {d:D} {v:V},gE K H d v->gE K H' d v
 | _,_,.none=>.none
 | _,_,.bool b=>.bool b
 | _,_,.int i=>.int i
 | _,_,.str x=>.str x
 | _,_,.list q r=>.list (L2.bB.seq e q) (Reps.same e r)
 | _,_,.tuple q r=>.tuple (bB.seqT e q) (Reps.same e r)
 | _,_,.wild h=>.wild (e _ _ h)
 | _,_,.exc x h=>.exc x (e _ _ h)
 | _,_,.excA x h g=>.excA x (e _ _ h) (e _ _ g)
 | _,_,.tape h g=>.tape (e _ _ h) (L2.bB.seq e g)
 | _,_,.dct h n r t=>.dct (e _ _ h) n (Reps.same e r) (Reps.same e t)
 | _,_,.addr z=>.addr z
 | _,_,.ins h r=>.ins (e _ _ h) (Reps.same e r)
theorem Reps.same (e:bB H H'):∀ {ds:List D} {vs:List V},Reps K H ds vs->Reps K H' ds vs
 | _,_,.nil=>.nil
 | _,_,.cons r s=>.cons (gE.same e r) (Reps.same e s)
end
theorem Reps.length:∀ {ds:List D} {vs:List V},Reps K H ds vs->ds.length=vs.length
 | _,_,.nil=>rfl
 | _,_,.cons _ s=>by simp [Reps.length s]
theorem Reps.get:∀ {ds:List D} {vs:List V} {i:Nat} {d:D},Reps K H ds vs->ds[i]?=some d->∃ v,vs[i]?=some v/\gE K H d v
 | _,_,_,_,.nil,e=>by simp at e
 | _,_,0,_,.cons r _,e=>by simp at e;subst e;exact ⟨_,rfl,r⟩
 | _,_,i+1,d,.cons _ s,e=>by
  obtain ⟨v,h1,h2⟩:=Reps.get (i:=i) (d:=d) s (by simpa using e)
  exact ⟨v,by simpa using h1,h2⟩
theorem Reps.get':∀ {ds:List D} {vs:List V} {i:Nat} {v:V},Reps K H ds vs->vs[i]?=some v->∃ d,ds[i]?=some d/\gE K H d v
 | _,_,_,_,.nil,e=>by simp at e
 | _,_,0,_,.cons r _,e=>by simp at e;subst e;exact ⟨_,rfl,r⟩
 | _,_,i+1,d,.cons _ s,e=>by
  obtain ⟨v,h1,h2⟩:=Reps.get' (i:=i) (v:=d) s (by simpa using e)
  exact ⟨v,by simpa using h1,h2⟩
theorem Reps.append:∀ {ds es:List D} {vs us:List V},Reps K H ds vs->Reps K H es us->Reps K H (ds++es) (vs++us)
 | _,_,_,_,.nil,s=>s
 | _,_,_,_,.cons r t,s=>.cons r (Reps.append t s)
theorem Reps.take:∀ {ds:List D} {vs:List V} (n:Nat),Reps K H ds vs->Reps K H (ds.take n) (vs.take n)
 | _,_,0,_=>.nil
 | _,_,_+1,.nil=>.nil
 | _,_,n+1,.cons r t=>.cons r (Reps.take n t)
theorem Reps.drop:∀ {ds:List D} {vs:List V} (n:Nat),Reps K H ds vs->Reps K H (ds.drop n) (vs.drop n)
 | _,_,0,r=>r
 | _,_,_+1,.nil=>.nil
 | _,_,n+1,.cons _ t=>Reps.drop n t
def mask (H:Hp) (ps:List Addr):Hp:=λb=>if b∈ps then none else H b
theorem bO {ps:List Addr} (e:bB H H'):bB (mask H ps) (mask H' ps):=λb o h=>by
 unfold mask at h |-
 by_cases hb:b∈ps
 ·rw [if_pos hb] at h;cases h
 ·rw [if_neg hb] at h |-;exact e b o h
theorem iN {ps ps':List Addr} (h:∀ p∈ps',p∈ps):bB (mask H ps) (mask H ps'):=λb o e=>by
 unfold mask at e |-
 by_cases hb:b∈ps
 ·rw [if_pos hb] at e;cases e
 ·rw [if_neg hb] at e
  rw [if_neg λz=>hb (h b z)]
  exact e
theorem bV {ps:List Addr}:bB (mask H ps) H:=λb o e=>by
 unfold mask at e
 by_cases hb:b∈ps
 ·rw [if_pos hb] at e;cases e
 ·rw [if_neg hb] at e;exact e
theorem kH {ps:List Addr} {p:Addr} {o:HO} (h:H p=none):mask (fZ H p o) (p::ps)=mask H ps:=by
 funext b
 unfold mask
 by_cases hb:b=p
 ·subst hb
  rw [if_pos (aU ..),h]
  by_cases z:b∈ps<;>simp [z]
 ·rw [cG hb]
  by_cases z:b∈ps
  ·rw [if_pos (aN _ z),if_pos z]
  ·rw [if_neg (λq=>(aZ.mp q).elim hb z),if_neg z]
theorem gY {ps:List Addr} {p:Addr} {o:HO} (h:p∈ps):mask (fZ H p o) ps=mask H ps:=by
 funext b
 unfold mask
 by_cases hb:b=p
 ·subst hb;rw [if_pos h,if_pos h]
 ·rw [cG hb]
theorem dF {p:Addr} {o:HO} (h:H p=none):bB H (fZ H p o):=λb u q=>by rw [cG (jQ q h)];exact q
theorem nT {ps:List Addr} {p:Addr} {o:HO} (h:p∉ps) (e:H p=some o):mask H ps p=some o:=by
 unfold mask;rw [if_neg h];exact e
theorem iC {ps:List Addr} {p:Addr} (live:∀ q∈ps,H q≠none) (h:H p=none):p∉ps:=λz=>live p z h

inductive Sl where
 | un | val (d:D) | own (ts:List D) | dic (hs:List Int) (kvs:List (D×D))
def pG (K:aD) (B:Hp) (p0:List Addr) (H:Hp) (ps:List Addr) (σT:List Sl) (σ:L2.St):Prop:=∀ (i:Nat) (hs:List Int) (kvs:List (D×D)),σT[i]?=some (.dic hs kvs) ->
 (∃ (p:Addr) (es:List (Int×Addr×V)),σ[i]?=some (some (.ref p))/\p∈ps/\B p=none/\p∉p0/\H p=some (mQ p es)/\hs=es.map (·.1)/\(kvs.map (·.1)).Nodup/\Reps K (mask H ps) (kvs.map (·.1)) (es.map λe=>.ref e.2.1)/\Reps K (mask H ps) (kvs.map (·.2)) (es.map λe=>e.2.2)) /\
 ∀ (j:Nat) (hs':List Int) (kws:List (D×D)),σT[j]?=some (.dic hs' kws)->i=j
theorem pG.to {B B':Hp} {p0 p0' ps ps':List Addr} {σT σT':List Sl} {σ σ':L2.St} (o:pG K B p0 H ps σT σ) (hσ:∀ (i:Nat) (hs:List Int) (kvs:List (D×D)),σT'[i]?=some (.dic hs kvs)->σT[i]?=some (.dic hs kvs)/\σ'[i]?=σ[i]?)
  (hp:∀ (p:Addr) (φ:Heap->Prop),p∈ps->H p=some (.ext φ)->p∉p0->p∈ps'/\H' p=H p) (hB:∀ (p:Addr) (φ:Heap->Prop),p∈ps->H p=some (.ext φ)->B p=none->p∉p0->B' p=none/\p∉p0') (hm:bB (mask H ps) (mask H' ps')):pG K B' p0' H' ps' σT' σ':=λi hs kvs h=>by
 obtain ⟨h1,h2⟩:=hσ i hs kvs h
 obtain ⟨⟨p,es,a1,a2,a3,a4,a5,a6,a7,a8,a9⟩,u⟩:=o i hs kvs h1
 obtain ⟨b1,b2⟩:=hp p _ a2 a5 a4
 obtain ⟨c1,c2⟩:=hB p _ a2 a5 a3 a4
 exact ⟨⟨p,es,h2.trans a1,b1,c1,c2,b2.trans a5,a6,a7,a8.same hm,a9.same hm⟩,λj hs' kws hj=>u j hs' kws (hσ j hs' kws hj).1⟩
theorem AM {σT:List Sl} {i j:Nat} {s:Sl} {hs:List Int} {kvs:List (D×D)} (hn:∀ hs kvs,s≠.dic hs kvs) (h:(σT.set i s)[j]?=some (.dic hs kvs)):i≠j/\σT[j]?=some (.dic hs kvs):=by
 by_cases e:i=j
 ·subst e
  have hi:i<σT.length:=by simpa using (aG.mp h).1
  rw [aY hi] at h
  exact absurd (Option.some.inj h) (hn hs kvs)
 ·rw [aW e] at h
  exact ⟨e,h⟩
theorem pG.setS {B:Hp} {p0 ps:List Addr} {σT:List Sl} {σ:L2.St} (o:pG K B p0 H ps σT σ) {i:Nat} {s:Sl} {v:Option V} (hn:∀ hs kvs,s≠.dic hs kvs):pG K B p0 H ps (σT.set i s) (σ.set i v) :=
 o.to (λj hs kvs h=>let ⟨e,h'⟩:=AM hn h;⟨h',aW e⟩) (λp φ a b _=>⟨a,rfl⟩) (λp φ _ _ a b=>⟨a,b⟩) (L2.bB.refl _)
theorem pG.setT {B:Hp} {p0 ps:List Addr} {σT:List Sl} {σ:L2.St} (o:pG K B p0 H ps σT σ) {i:Nat} {s:Sl} (hn:∀ hs kvs,s≠.dic hs kvs):pG K B p0 H ps (σT.set i s) σ :=
 o.to (λj hs kvs h=>⟨(AM hn h).2,rfl⟩) (λp φ a b _=>⟨a,rfl⟩) (λp φ _ _ a b=>⟨a,b⟩) (L2.bB.refl _)
theorem pG.grow {B:Hp} {p0 ps:List Addr} {σT:List Sl} {σ:L2.St} (o:pG K B p0 H ps σT σ) (e:bB H H'):pG K B p0 H' ps σT σ :=
 o.to (λj hs kvs h=>⟨h,rfl⟩) (λp φ a b _=>⟨a,(e p _ b).trans b.symm⟩) (λp φ _ _ a b=>⟨a,b⟩) (bO e)
structure Ok (K:aD) (B:Hp) (p0:List Addr) (H:Hp) (ps:List Addr) (σT:List Sl) (σ:L2.St):Prop where
 base:bB B H
 sub:∀ p∈p0,p∈ps
 live:∀ p∈ps,H p≠none
 len:σT.length=σ.length
 val:∀ (i:Nat) (d:D),σT[i]?=some (.val d)->∃ v,σ[i]?=some (some v)/\gE K (mask H ps) d v
 own:∀ (i:Nat) (ts:List D),σT[i]?=some (.own ts)->∃ p xs,σ[i]?=some (some (.ref p))/\p∈ps/\B p=none/\p∉p0/\H p=some (.lst xs)/\Reps K (mask H ps) ts xs
 dis:∀ (i j:Nat) (ts us:List D) (p:Addr),σT[i]?=some (.own ts)->σT[j]?=some (.own us)->σ[i]?=some (some (.ref p))->σ[j]?=some (some (.ref p))->i=j
 dc:pG K B p0 H ps σT σ
variable {B:Hp} {p0 ps:List Addr} {σT:List Sl} {σ:L2.St}
theorem Ok.grow (o:Ok K B p0 H ps σT σ) (e:bB H H'):Ok K B p0 H' ps σT σ where
 base:=o.base.trans e
 sub:=o.sub
 live:=λp hp z=>by
  cases q:H p with
  | none=>exact o.live p hp q
  | some u=>rw [e p u q] at z;cases z
 len:=o.len
 val:=λi d h=>let ⟨v,h1,h2⟩:=o.val i d h;⟨v,h1,h2.same (bO e)⟩
 own:=λi ts h=>let ⟨p,xs,h1,h2,h3,h4,h5,h6⟩:=o.own i ts h;⟨p,xs,h1,h2,h3,h4,e _ _ h5,h6.same (bO e)⟩
 dis:=o.dis
 dc:=o.dc.grow e
theorem Ok.set (o:Ok K B p0 H ps σT σ) {i:Nat} {d:D} {v:V} (r:gE K (mask H ps) d v):Ok K B p0 H ps (σT.set i (.val d)) (σ.set i (some v)) where
 base:=o.base
 sub:=o.sub
 live:=o.live
 len:=by simpa using o.len
 val:=λj d' h=>by
  by_cases e:i=j
  ·subst e
   have hi:i<σT.length:=by
    have:=(aG.mp h).1
    simpa using this
   rw [aY hi] at h
   cases h
   exact ⟨v,by rw [aY (by rw [<- o.len];exact hi)],r⟩
  ·rw [aW e] at h |-
   exact o.val j d' h
 own:=λj ts h=>by
  by_cases e:i=j
  ·subst e
   have hi:i<σT.length:=by
    have:=(aG.mp h).1
    simpa using this
   rw [aY hi] at h
   cases h
  ·rw [aW e] at h |-
   exact o.own j ts h
 dis:=λj k ts us p h1 h2 h3 h4=>by
  have ne:∀ {l:Nat} {ts:List D},(σT.set i (.val d))[l]?=some (.own ts)->i≠l:=λ{l ts} h e=>by
   subst e
   have hi:i<σT.length:=by
    have:=(aG.mp h).1
    simpa using this
   rw [aY hi] at h
   cases h
  have e1:=ne h1
  have e2:=ne h2
  rw [aW e1] at h1 h3
  rw [aW e2] at h2 h4
  exact o.dis j k ts us p h1 h2 h3 h4
 dc:=o.dc.setS λ_ _ z=>nomatch z
theorem Ok.setOwn (o:Ok K B p0 H ps σT σ) {i:Nat} {ts:List D} {xs:List V} {p:Addr} (hp:H p=none) (r:Reps K (mask H ps) ts xs):Ok K B p0 (fZ H p (.lst xs)) (p::ps) (σT.set i (.own ts)) (σ.set i (some (.ref p))):=by
 have hm:mask (fZ H p (.lst xs)) (p::ps)=mask H ps:=kH hp
 have hps:p∉ps:=iC o.live hp
 have hn:∀ {l:Nat} {us:List D},i≠l->σT[l]?=some (.own us)->σ[l]?≠some (some (.ref p)):=λ{l us} _ h z=>by
  obtain ⟨q,_,h1,h2,_⟩:=o.own l us h
  rw [z] at h1
  cases h1
  exact hps h2
 refine ⟨o.base.trans (dF hp),λq hq=>aN _ (o.sub q hq),λq hq=>?_,by simpa using o.len,λj d h=>?_,λj us h=>?_,λj k us ws q h1 h2 h3 h4=>?_,?_⟩
 ·by_cases e:q=p
  ·subst e;rw [cO];simp
  ·rw [cG e]
   rcases aZ.mp hq with z | z
   ·exact absurd z e
   ·exact o.live q z
 ·rw [hm]
  by_cases e:i=j
  ·subst e
   have hi:i<σT.length:=by simpa using (aG.mp h).1
   rw [aY hi] at h
   cases h
  ·rw [aW e] at h |-
   exact o.val j d h
 ·rw [hm]
  by_cases e:i=j
  ·subst e
   have hi:i<σT.length:=by simpa using (aG.mp h).1
   rw [aY hi] at h
   cases h
   refine ⟨p,xs,by rw [aY (by rw [<- o.len];exact hi)],aU ..,?_,λz=>hps (o.sub p z),cO,r⟩
   cases q:B p with
   | none=>rfl
   | some u=>rw [o.base p u q] at hp;cases hp
  ·rw [aW e] at h |-
   obtain ⟨q,ys,h1,h2,h3,h4,h5,h6⟩:=o.own j us h
   refine ⟨q,ys,h1,aN _ h2,h3,h4,?_,h6⟩
   rw [cG (λz:q=p=>hps (z▸h2))]
   exact h5
 ·by_cases e1:i=j
  ·by_cases e2:i=k
   ·exact e1.symm.trans e2
   ·subst e1
    have hi:i<σT.length:=by simpa using (aG.mp h1).1
    rw [aY (by rw [<- o.len];exact hi)] at h3
    cases h3
    rw [aW e2] at h2 h4
    exact absurd h4 (hn e2 h2)
  ·by_cases e2:i=k
   ·subst e2
    have hi:i<σT.length:=by simpa using (aG.mp h2).1
    rw [aY (by rw [<- o.len];exact hi)] at h4
    cases h4
    rw [aW e1] at h1 h3
    exact absurd h3 (hn e1 h1)
   ·rw [aW e1] at h1 h3
    rw [aW e2] at h2 h4
    exact o.dis j k us ws q h1 h2 h3 h4
 ·exact (o.dc.setS (i:=i) (s:=.own ts) (v:=some (.ref p)) λ_ _ z=>nomatch z).to (λj hs kvs h=>⟨h,rfl⟩) (λq φ a b _=>⟨aN _ a,cG λz=>by rw [z,hp] at b;cases b⟩) (λq φ _ _ a b=>⟨a,b⟩) (by rw [hm];exact L2.bB.refl _)
theorem Ok.write (o:Ok K B p0 H ps σT σ) {i:Nat} {ts us:List D} {ys:List V} {p:Addr} (hi:σT[i]?=some (.own ts)) (hσ:σ[i]?=some (some (.ref p))) (r:Reps K (mask H ps) us ys) :
  Ok K B p0 (fZ H p (.lst ys)) ps (σT.set i (.own us)) σ:=by
 obtain ⟨q,zs,h1,h2,h3,h4,h5,h6⟩:=o.own i ts hi
 rw [hσ] at h1
 cases h1
 have hm:mask (fZ H p (.lst ys)) ps=mask H ps:=gY h2
 have hil:i<σT.length:=(aG.mp hi).1
 refine ⟨λb u e=>?_,o.sub,λq hq=>?_,by simpa using o.len,λj d h=>?_,λj ws h=>?_,λj k vs ws q k1 k2 k3 k4=>?_,?_⟩
 ·have ne:b≠p:=λz=>by rw [z,h3] at e;cases e
  rw [cG ne];exact o.base b u e
 ·by_cases e:q=p
  ·subst e;rw [cO];simp
  ·rw [cG e];exact o.live q hq
 ·rw [hm]
  by_cases e:i=j
  ·subst e
   rw [aY hil] at h
   cases h
  ·rw [aW e] at h
   exact o.val j d h
 ·rw [hm]
  by_cases e:i=j
  ·subst e
   rw [aY hil] at h
   cases h
   exact ⟨p,ys,hσ,h2,h3,h4,cO,r⟩
  ·rw [aW e] at h
   obtain ⟨q,vs,k1,k2,k3,k4,k5,k6⟩:=o.own j ws h
   refine ⟨q,vs,k1,k2,k3,k4,?_,k6⟩
   rw [cG (λz:q=p=>e (o.dis i j ts ws p hi h hσ (z▸k1)))]
   exact k5
 ·have back:∀ {l:Nat} {vs:List D},(σT.set i (.own us))[l]?=some (.own vs)->∃ vs',σT[l]?=some (.own vs'):=λ{l vs} h=>by
   by_cases e:i=l
   ·subst e;exact ⟨ts,hi⟩
   ·rw [aW e] at h;exact ⟨vs,h⟩
  obtain ⟨vs',k1⟩:=back k1
  obtain ⟨ws',k2⟩:=back k2
  exact o.dis j k vs' ws' q k1 k2 k3 k4
 ·exact (o.dc.setT (i:=i) (s:=.own us) λ_ _ z=>nomatch z).to (λj hs kvs h=>⟨h,rfl⟩) (λq φ a b _=>⟨a,cG λz=>by rw [z,h5] at b;cases b⟩) (λq φ _ _ a b=>⟨a,b⟩) (by rw [hm];exact L2.bB.refl _)
theorem Ok.share (o:Ok K B p0 H ps σT σ) {i:Nat} {ts:List D} (hi:σT[i]?=some (.own ts)):∃ ps',Ok K B p0 H ps' (σT.set i (.val (.list ts))) σ/\bB (mask H ps) (mask H ps'):=by
 obtain ⟨p,xs,h1,h2,h3,h4,h5,h6⟩:=o.own i ts hi
 have hil:i<σT.length:=(aG.mp hi).1
 have hsub:bB (mask H ps) (mask H (ps.filter λq=>decide (q≠p))):=iN λq hq=>(bY.mp hq).1
 have hpn:p∉ps.filter λq=>decide (q≠p):=λz=>(of_decide_eq_true (bY.mp z).2) rfl
 refine ⟨ps.filter λq=>decide (q≠p),⟨o.base,λq hq=>bY.mpr ⟨o.sub q hq,decide_eq_true λz=>h4 (z▸hq)⟩,λq hq=>o.live q (bY.mp hq).1,by simpa using o.len,λj d h=>?_,λj us h=>?_,λj k us ws q k1 k2 k3 k4=>?_,?_⟩,hsub⟩
 ·by_cases e:i=j
  ·subst e
   rw [aY hil] at h
   cases h
   exact ⟨_,h1,.list (mK.of (nT hpn h5)) (h6.same hsub)⟩
  ·rw [aW e] at h
   obtain ⟨v,k1,k2⟩:=o.val j d h
   exact ⟨v,k1,k2.same hsub⟩
 ·by_cases e:i=j
  ·subst e
   rw [aY hil] at h
   cases h
  ·rw [aW e] at h
   obtain ⟨q,ys,k1,k2,k3,k4,k5,k6⟩:=o.own j us h
   exact ⟨q,ys,k1,bY.mpr ⟨k2,decide_eq_true λz=>e (o.dis i j ts us p hi h h1 (z▸k1))⟩,k3,k4,k5,k6.same hsub⟩
 ·have back:∀ {l:Nat} {vs:List D},(σT.set i (.val (.list ts)))[l]?=some (.own vs)->σT[l]?=some (.own vs):=λ{l vs} h=>by
   by_cases e:i=l
   ·subst e;rw [aY hil] at h;cases h
   ·rw [aW e] at h;exact h
  exact o.dis j k us ws q (back k1) (back k2) k3 k4
 ·exact (o.dc.setT (i:=i) (s:=.val (.list ts)) λ_ _ z=>nomatch z).to (λj hs kvs h=>⟨h,rfl⟩) (λq φ a b _=>⟨bY.mpr ⟨a,decide_eq_true λz=>by rw [z,h5] at b;cases b⟩,rfl⟩) (λq φ _ _ a b=>⟨a,b⟩) hsub

abbrev ET:=List Sl->(D->Prop)->Prop
abbrev qQ:=List Sl->(Bool->Prop)->Prop
abbrev AT:=List Sl->(List D->Prop)->Prop
def hU (X:Cx) (e:Expr) (t:ET):Prop:=∃ te:TE,PE X e te/\∀ (B:Hp) (p0:List Addr) (H:Hp) (ps:List Addr) (σT:List Sl) (σ:L2.St) (Q:D->Prop) (QV:VK),Ok X.K B p0 H ps σT σ->t σT Q ->
 (∀ d v H',bB H H'->gE X.K (mask H' ps) d v->Q d->QV v H')->te σ H QV
def IJ (X:Cx) (e:Expr) (t:qQ):Prop:=∃ tt:TT,PT X e tt/\∀ (B:Hp) (p0:List Addr) (H:Hp) (ps:List Addr) (σT:List Sl) (σ:L2.St) (Q:Bool->Prop) (QV:Bool->Hp->Prop),Ok X.K B p0 H ps σT σ->t σT Q ->
 (∀ b H',bB H H'->Q b->QV b H')->tt σ H QV
def PWt (X:Cx) (e:Expr) (t:qQ):Prop:=∃ tt:TT,PW X e tt/\∀ (B:Hp) (p0:List Addr) (H:Hp) (ps:List Addr) (σT:List Sl) (σ:L2.St) (Q:Bool->Prop) (QV:Bool->Hp->Prop),Ok X.K B p0 H ps σT σ->t σT Q ->
 (∀ b H',bB H H'->Q b->QV b H')->tt σ H QV
def xU (X:Cx) (es:List Expr) (t:AT):Prop:=∃ ta:TA,PA X es ta/\∀ (B:Hp) (p0:List Addr) (H:Hp) (ps:List Addr) (σT:List Sl) (σ:L2.St) (Q:List D->Prop) (QV:List V->Hp->Prop),Ok X.K B p0 H ps σT σ->t σT Q ->
 (∀ ds vs H',bB H H'->Reps X.K (mask H' ps) ds vs->Q ds->QV vs H')->ta σ H QV
structure nG where
 nx:List Sl->Prop
 rt:D->Prop
 bk:List Sl->Prop:=λ_=>False
 ct:List Sl->Prop:=λ_=>False
 ro:List D->Prop:=λ_=>False
 rp:List D->List D->Prop:=λ_ _=>False
 rq:D->List D->Prop:=λ_ _=>False
 xB:Hp->Prop:=λ_=>True
abbrev oW:=nG->List Sl->Prop
structure IE (K:aD) (B:Hp) (p0:List Addr) (H:Hp) (ps:List Addr) (DT:nG) (DV:rT):Prop where
 nx:∀ H' ps' σT' σ',Ok K B p0 H' ps' σT' σ'->bB (mask H ps) (mask H' ps')->DT.nx σT'->DV.nx σ' H'
 bk:∀ H' ps' σT' σ',Ok K B p0 H' ps' σT' σ'->bB (mask H ps) (mask H' ps')->DT.bk σT'->DV.bk σ' H'
 ct:∀ H' ps' σT' σ',Ok K B p0 H' ps' σT' σ'->bB (mask H ps) (mask H' ps')->DT.ct σT'->DV.ct σ' H'
 rt:∀ d v H',bB B H'->gE K (mask H' p0) d v->DT.rt d->DV.rt v H'
 ro:∀ ts p xs H',bB B H'->B p=none->p∉p0->H' p=some (.lst xs)->Reps K (mask H' (p::p0)) ts xs->DT.ro ts->DV.rt (.ref p) H'
 rp:∀ as bs r p q xs ys H',bB B H'->B r=none->B p=none->B q=none->p≠q->H' r=some (.tup [.ref p,.ref q])->H' p=some (.lst xs)->H' q=some (.lst ys)->Reps K (mask H' (p::q::p0)) as xs->Reps K (mask H' (p::q::p0)) bs ys->DT.rp as bs->DV.rt (.ref r) H'
 rq:∀ a ts r p x xs H',bB B H'->B r=none->B p=none->H' r=some (.tup [x,.ref p])->H' p=some (.lst xs)->gE K (mask H' (p::p0)) a x->Reps K (mask H' (p::p0)) ts xs->DT.rq a ts->DV.rt (.ref r) H'
 xb:DT.xB B
theorem IE.later {DT:nG} {DV:rT} {ps':List Addr} (f:IE K B p0 H ps DT DV) (e:bB (mask H ps) (mask H' ps')):IE K B p0 H' ps' DT DV :=
 ⟨λ_ _ _ _ o s q=>f.nx _ _ _ _ o (e.trans s) q,λ_ _ _ _ o s q=>f.bk _ _ _ _ o (e.trans s) q,λ_ _ _ _ o s q=>f.ct _ _ _ _ o (e.trans s) q,f.rt,f.ro,f.rp,f.rq,f.xb⟩
def xT (X:Cx) (st:Stmt) (t:oW):Prop:=∃ ts:TS,PS X st ts/\∀ (B:Hp) (p0:List Addr) (H:Hp) (ps:List Addr) (σT:List Sl) (σ:L2.St) (DT:nG) (DV:rT),Ok X.K B p0 H ps σT σ->t DT σT->IE X.K B p0 H ps DT DV->ts DV σ H
def vS (X:Cx) (st:List Stmt) (t:oW):Prop:=∃ ts:TS,CQ X st ts/\∀ (B:Hp) (p0:List Addr) (H:Hp) (ps:List Addr) (σT:List Sl) (σ:L2.St) (DT:nG) (DV:rT),Ok X.K B p0 H ps σT σ->t DT σT->IE X.K B p0 H ps DT DV->ts DV σ H
def zG (X:Cx) (r:R2) (f:D->D->(D->Prop)->Prop):Prop:=∀ (H:Hp) (ps:List Addr) (d1 d2:D) (x y:V) (Q:D->Prop) (QV:VK),(∀ p∈ps,H p≠none)->gE X.K (mask H ps) d1 x->gE X.K (mask H ps) d2 y->f d1 d2 Q ->
 (∀ d v H',bB H H'->gE X.K (mask H' ps) d v->Q d->QV v H')->r x y H QV
def tD (X:Cx) (r:List V->Hp->VK->Prop) (f:List D->(D->Prop)->Prop):Prop:=∀ (H:Hp) (ps:List Addr) (ds:List D) (xs:List V) (Q:D->Prop) (QV:VK),(∀ p∈ps,H p≠none)->Reps X.K (mask H ps) ds xs->f ds Q ->
 (∀ d v H',bB H H'->gE X.K (mask H' ps) d v->Q d->QV v H')->r xs H QV
section
variable {X:Cx} {a b e:Expr} {es:List Expr} {ta tb te:ET} {pos:Pos}

inductive aA7 (σ:List Sl) (i:Nat) (Q:D->Prop):Prop
 | mk (d:D) (h:σ[i]?=some (.val d)) (k:Q d):aA7 σ i Q
def aJx (i:Nat):ET:=λσ Q=>aA7 σ i Q
def eC (d:D):ET:=λ_ Q=>Q d
theorem aK (i:Nat) {x:Str} {pos:Pos} (hN:X.N[i]?=some x:=by rfl) (hv:Vis X.env.scope x:=by first | exact Or.inl rfl | exact Or.inr (Or.inl rfl) | exact Or.inr (Or.inr rfl)) (hd:(x == ("__debug__":Str))=false:=by decide)
  (hcd:(x == ("__classdict__":Str))=false:=by decide):hU X (.Name x pos) (aJx i) :=
 ⟨_,R1 hN hv hd hcd,λB p0 H ps σT σ Q QV o h k=>by
  obtain ⟨d,e,q⟩:=h
  obtain ⟨v,e1,r⟩:=o.val i d e
  exact ⟨v,e1,k d v H (L2.bB.refl H) r q⟩⟩
theorem aM {i j pos}:hU X (.Constant (.int i) j pos) (eC (.int i)):=⟨_,E5,λ_ _ H _ _ _ _ _ _ h k=>k _ _ H (L2.bB.refl H) (.int i) h⟩
theorem lV {b j pos}:hU X (.Constant (.bool b) j pos) (eC (.bool b)):=⟨_,aFm,λ_ _ H _ _ _ _ _ _ h k=>k _ _ H (L2.bB.refl H) (.bool b) h⟩
theorem BQ {j pos}:hU X (.Constant .none j pos) (eC .none):=⟨_,aCj,λ_ _ H _ _ _ _ _ _ h k=>k _ _ H (L2.bB.refl H) .none h⟩
theorem gB {x j pos}:hU X (.Constant (.str x) j pos) (eC (.str x)):=⟨_,oH,λ_ _ H _ _ _ _ _ _ h k=>k _ _ H (L2.bB.refl H) (.str x) h⟩
theorem XX {x:Str} {i:Int} {t:Tok} {pos:Pos} (hg:Gl X x) (hm:X.mg x=some (.int i t)) (hd:(x == ("__debug__":Str))=false:=by decide):hU X (.Name x pos) (eC (.int i)):=⟨_,L7 (v:=.int i) hg hm ⟨t,rfl⟩ hd,λ_ _ H _ _ _ _ _ _ h k=>k _ _ H (L2.bB.refl H) (.int i) h⟩
def eOp (f:D->D->(D->Prop)->Prop) (ta tb:ET):ET:=λσ Q=>ta σ λx=>tb σ λy=>f x y Q
theorem AG {r:R2} {f:D->D->(D->Prop)->Prop} (h2:zG X r f) {va vb:TE}
  (ha:∀ (B:Hp) (p0:List Addr) (H:Hp) (ps:List Addr) (σT:List Sl) (σ:L2.St) (Q:D->Prop) (QV:VK),Ok X.K B p0 H ps σT σ->ta σT Q->(∀ d v H',bB H H'->gE X.K (mask H' ps) d v->Q d->QV v H')->va σ H QV)
  (hb:∀ (B:Hp) (p0:List Addr) (H:Hp) (ps:List Addr) (σT:List Sl) (σ:L2.St) (Q:D->Prop) (QV:VK),Ok X.K B p0 H ps σT σ->tb σT Q->(∀ d v H',bB H H'->gE X.K (mask H' ps) d v->Q d->QV v H')->vb σ H QV)
  (B:Hp) (p0:List Addr) (H:Hp) (ps:List Addr) (σT:List Sl) (σ:L2.St) (Q:D->Prop) (QV:VK) (o:Ok X.K B p0 H ps σT σ) (h:eOp f ta tb σT Q) (k:∀ d v H',bB H H'->gE X.K (mask H' ps) d v->Q d->QV v H'):tOp r va vb σ H QV:=by
 refine ha B p0 H ps σT σ _ _ o h λd1 x H1 s1 r1 q1=>?_
 refine hb B p0 H1 ps σT σ _ _ (o.grow s1) q1 λd2 y H2 s2 r2 q2=>?_
 exact h2 H2 ps d1 d2 x y Q QV ((o.grow s1).grow s2).live (r1.same (bO s2)) r2 q2 λd v H' s' r' q'=>k d v H' (s1.trans (s2.trans s')) r' q'
theorem dD {op:Operator} {r:R2} {f:D->D->(D->Prop)->Prop} (ho:nF X (binaryOp op) r) (h2:zG X r f) (ha:hU X a ta) (hb:hU X b tb):hU X (.BinOp a op b pos) (eOp f ta tb):=by
 obtain ⟨va,pa,ra⟩:=ha
 obtain ⟨vb,pb,rb⟩:=hb
 exact ⟨_,R4 ho pa pb,AG h2 ra rb⟩
theorem nL {op:CmpOp} {r:R2} {f:D->D->(D->Prop)->Prop} (ho:nF X (compareOp op) r) (h2:zG X r f) (ha:hU X a ta) (hb:hU X b tb) (hm:behindInMarks op b=false:=by first | exact E8 _ | rfl):hU X (.Compare a [op] [b] pos) (eOp f ta tb):=by
 obtain ⟨va,pa,ra⟩:=ha
 obtain ⟨vb,pb,rb⟩:=hb
 exact ⟨_,WR ho pa pb hm,AG h2 ra rb⟩
theorem cH {r:R2} {f:D->D->(D->Prop)->Prop} (ho:U0 X r) (h2:zG X r f) (ha:hU X a ta) (hb:hU X b tb) (hs:AR b:=by intro _ _;rfl):hU X (.Subscript a b pos) (eOp f ta tb):=by
 obtain ⟨va,pa,ra⟩:=ha
 obtain ⟨vb,pb,rb⟩:=hb
 exact ⟨_,L6 ho pa pb hs,AG h2 ra rb⟩
def aJz (ta:ET):ET:=λσ Q=>ta σ λx=>match x with | .int i=>Q (.int (-i)) | _=>False
theorem FJ (ha:hU X a ta):hU X (.UnaryOp .USub a pos) (aJz ta):=by
 obtain ⟨va,pa,ra⟩:=ha
 refine ⟨_,aFk aBg pa,λB p0 H ps σT σ Q QV o h k=>ra B p0 H ps σT σ _ _ o h λd x H1 s1 r1 q1=>?_⟩
 cases r1 with
 | int i=>exact ⟨i,rfl,k _ _ H1 s1 (.int _) q1⟩
 | _=>exact q1.elim
def UV:AT:=λ_ Q=>Q []
def B5 (t:ET) (r:AT):AT:=λσ Q=>t σ λx=>r σ λxs=>Q (x::xs)
theorem aS:xU X [] UV:=⟨_,iZ,λ_ _ H _ _ _ _ _ _ h k=>k _ _ H (L2.bB.refl H) .nil h⟩
theorem aC {tr:AT} (ha:hU X e te) (hr:xU X es tr) (hs:bN (e::es) X.env=(false,eval e X.env)::bN es X.env:=by rfl):xU X (e::es) (B5 te tr):=by
 obtain ⟨va,pa,ra⟩:=ha
 obtain ⟨vr,pr,rr⟩:=hr
 refine ⟨_,fL pa pr hs,λB p0 H ps σT σ Q QV o h k=>ra B p0 H ps σT σ _ _ o h λd x H1 s1 r1 q1=>?_⟩
 refine rr B p0 H1 ps σT σ _ _ (o.grow s1) q1 λds xs H2 s2 r2 q2=>?_
 exact k _ _ H2 (s1.trans s2) (.cons (r1.same (bO s2)) r2) q2
def aJy (t:AT):ET:=λσ Q=>t σ λds=>ds.length<=1000/\Q (.tuple ds)
def aJ0 (t:AT):ET:=λσ Q=>t σ λds=>ds.length<=1000/\Q (.list ds)
theorem pB {ps:List Addr} {p:Addr} {ds:List D} {xs:List V} (live:∀ q∈ps,H q≠none) (hp:H p=none) (r:Reps K (mask H ps) ds xs):gE K (mask (fZ H p (.tup xs)) ps) (.tuple ds) (.ref p) :=
 .tuple (rW.of (nT (iC live hp) cO)) (r.same (bO (dF hp)))
theorem pC {ps:List Addr} {p:Addr} {ds:List D} {xs:List V} (live:∀ q∈ps,H q≠none) (hp:H p=none) (r:Reps K (mask H ps) ds xs):gE K (mask (fZ H p (.lst xs)) ps) (.list ds) (.ref p) :=
 .list (mK.of (nT (iC live hp) cO)) (r.same (bO (dF hp)))
theorem wZ {n:Nat} (h:n<=1000):n<=bD:=jZ (NU h)
theorem dZ {x1} {t:AT} (h:xU X es t):hU X (.Tuple es x1 pos) (aJy t):=by
 obtain ⟨v,p,r⟩:=h
 refine ⟨_,JK p,λB p0 H ps σT σ Q QV o h k=>r B p0 H ps σT σ _ _ o h λds xs H1 s1 r1 q1=>⟨wZ (by rw [<- r1.length];exact q1.1),λq hq=>?_⟩⟩
 exact k _ _ _ (s1.trans (dF hq)) (pB (o.grow s1).live hq r1) q1.2
theorem pS {t:AT} (h:xU X es t):hU X (.List es pos) (aJ0 t):=by
 obtain ⟨v,p,r⟩:=h
 refine ⟨_,JL p,λB p0 H ps σT σ Q QV o h k=>r B p0 H ps σT σ _ _ o h λds xs H1 s1 r1 q1=>⟨wZ (by rw [<- r1.length];exact q1.1),λq hq=>?_⟩⟩
 exact k _ _ _ (s1.trans (dF hq)) (pC (o.grow s1).live hq r1) q1.2
def mS (f:List D->(D->Prop)->Prop) (t:AT):ET:=λσ Q=>t σ λds=>f ds Q
abbrev oA:=List D->(D->Prop)->Prop
def bX (K:aD) (sp:oA):Sp:=λvs H Q _=>∃ (ps:List Addr) (ds:List D) (QD:D->Prop),(∀ p∈ps,H p≠none)/\Reps K (mask H ps) ds vs/\sp ds QD/\∀ d v H',bB H H'->gE K (mask H' ps) d v->QD d->Q v H'
theorem MX {k:Nat} {f:Addr} {fd:dI} {pn:List Str} {sp:oA} {x:Str} {p:Pos} {t:AT} (F:cL X.prog X.w X.K X.mg X.base fP k f fd pn (bX X.K sp)) (hm:X.mg x=some (.ref f)) (hk:fU X.K (.ref f)=true) (hb:pH X.K fd pn [])
  (hr:Room k X.A) (ha:xU X (e::es) t) (pc:∀ {ta:TA},PA X (e::es) ta->PE X (.Call (.Name x p) (e::es) [] pos) (C3 (bX X.K sp) [] E0 ta)):hU X (.Call (.Name x p) (e::es) [] pos) (mS sp t):=by
 obtain ⟨v,pa,ra⟩:=ha
 refine ⟨_,pc pa,λB p0 H ps σT σ Q QV o h k=>ra B p0 H ps σT σ _ _ o h λds xs H1 s1 r1 q1=>?_⟩
 show bX X.K sp (xs++[]) H1 QV E0
 rw [fA]
 exact ⟨ps,ds,Q,(o.grow s1).live,r1,q1,λd v H' s' r' q'=>k d v H' (s1.trans s') r' q'⟩
def M7 (t:ET):qQ:=λσ Q=>t σ λx=>match x with | .bool b=>Q b | _=>False
theorem aBi (h:hU X e te) (pt:∀ {t:TE},PE X e t->PT X e (tB t)):IJ X e (M7 te):=by
 obtain ⟨v,p,r⟩:=h
 refine ⟨_,pt p,λB p0 H ps σT σ Q QV o h k=>r B p0 H ps σT σ _ _ o h λd x H1 s1 r1 q1=>?_⟩
 cases r1 with
 | bool c=>exact ⟨c,rfl,k c H1 s1 q1⟩
 | _=>exact q1.elim
theorem dO {op:CmpOp} {r:R2} {f:D->D->(D->Prop)->Prop} (ho:nF X (compareOp op) r) (h2:zG X r f) (ha:hU X a ta) (hb:hU X b tb) (hm:behindInMarks op b=false:=by first | exact E8 _ | rfl):IJ X (.Compare a [op] [b] pos) (M7 (eOp f ta tb)):=by
 obtain ⟨va,pa,ra⟩:=ha
 obtain ⟨vb,pb,rb⟩:=hb
 refine ⟨_,E3 ho pa pb hm,λB p0 H ps σT σ Q QV o h k=>?_⟩
 refine AG h2 ra rb B p0 H ps σT σ (λx=>match x with | .bool b=>Q b | _=>False) _ o h λd v H' s' r' q'=>?_
 cases r' with
 | bool c=>exact ⟨c,rfl,k c H' s' q'⟩
 | _=>exact q'.elim
def aJ6 (t:qQ):qQ:=λσ Q=>t σ λb=>Q (!b)
def aJ9 (t u:qQ):qQ:=λσ Q=>t σ λb=>if b=true then u σ Q else Q false
def cOr (t u:qQ):qQ:=λσ Q=>t σ λb=>if b=true then Q true else u σ Q
variable {tA tB':qQ} {rest:List Expr}
theorem oF (h:IJ X a tA):IJ X (.UnaryOp .Not a pos) (aJ6 tA):=by
 obtain ⟨v,p,r⟩:=h
 exact ⟨_,aCe p,λB p0 H ps σT σ Q QV o h k=>r B p0 H ps σT σ _ _ o h λb H' s' q'=>k _ H' s' q'⟩
theorem rM (h:PWt X e tA):IJ X e tA:=by
 obtain ⟨v,p,r⟩:=h
 exact ⟨_,p.pt,r⟩
theorem LA (h:IJ X a tA):PWt X (.BoolOp .And [a] pos) tA:=by
 obtain ⟨v,p,r⟩:=h
 exact ⟨_,LY p,r⟩
theorem pM (h:IJ X a tA):PWt X (.BoolOp .Or [a] pos) tA:=by
 obtain ⟨v,p,r⟩:=h
 exact ⟨_,RM p,r⟩
theorem QK (ha:IJ X a tA) (hb:PWt X (.BoolOp .And (b::rest) pos) tB'):PWt X (.BoolOp .And (a::b::rest) pos) (aJ9 tA tB'):=by
 obtain ⟨va,pa,ra⟩:=ha
 obtain ⟨vb,pb,rb⟩:=hb
 refine ⟨_,RN pa pb,λB p0 H ps σT σ Q QV o h k=>ra B p0 H ps σT σ _ _ o h λc H1 s1 q1=>?_⟩
 cases c with
 | true=>exact rb B p0 H1 ps σT σ Q _ (o.grow s1) q1 λb H' s' q'=>k b H' (s1.trans s') q'
 | false=>exact k _ H1 s1 q1
theorem nO (ha:IJ X a tA) (hb:PWt X (.BoolOp .Or (b::rest) pos) tB'):PWt X (.BoolOp .Or (a::b::rest) pos) (cOr tA tB'):=by
 obtain ⟨va,pa,ra⟩:=ha
 obtain ⟨vb,pb,rb⟩:=hb
 refine ⟨_,aAo pa pb,λB p0 H ps σT σ Q QV o h k=>ra B p0 H ps σT σ _ _ o h λc H1 s1 q1=>?_⟩
 cases c with
 | true=>exact k _ H1 s1 q1
 | false=>exact rb B p0 H1 ps σT σ Q _ (o.grow s1) q1 λb H' s' q'=>k b H' (s1.trans s') q'
def aJ3 (ta tb:ET):ET:=λσ Q=>ta σ λx=>match x with | .bool c=>if c=true then tb σ Q else Q (.bool false) | _=>False
theorem sU {op} (h:hU X a ta):hU X (.BoolOp op [a] pos) ta:=by
 obtain ⟨v,p,r⟩:=h
 exact ⟨_,aCi p,r⟩
theorem pT (ha:hU X a ta) (hb:hU X (.BoolOp .And (b::rest) pos) tb):hU X (.BoolOp .And (a::b::rest) pos) (aJ3 ta tb):=by
 obtain ⟨va,pa,ra⟩:=ha
 obtain ⟨vb,pb,rb⟩:=hb
 refine ⟨_,aCl pa pb,λB p0 H ps σT σ Q QV o h k=>ra B p0 H ps σT σ _ _ o h λd x H1 s1 r1 q1=>?_⟩
 cases r1 with
 | bool c =>
  refine ⟨c,rfl,?_⟩
  cases c with
  | true=>exact rb B p0 H1 ps σT σ Q _ (o.grow s1) q1 λd v H' s' r' q'=>k d v H' (s1.trans s') r' q'
  | false=>exact k _ _ H1 s1 (.bool false) q1
 | _=>exact q1.elim
def UB (f g:D->D->(D->Prop)->Prop) (ta tb tc:ET):ET:=λσ Q=>ta σ λx=>tb σ λy=>f x y λz=>match z with | .bool c=>if c=true then tc σ λw=>g y w Q else Q (.bool false) | _=>False
end
end TL

namespace TL
open PySem PySem.Spec PyProof.Rows L2
variable {K:aD} {H H' H1 H2:Hp} {B:Hp} {p0 ps:List Addr} {σT:List Sl} {σ:L2.St}
section
variable {X:Cx} {a b c e:Expr} {es:List Expr} {ta tb tc te:ET} {pos:Pos}
theorem KH {r r':R2} {f g:D->D->(D->Prop)->Prop} (h2:zG X r f) (h2':zG X r' g) {va vb vc:TE}
  (ha:∀ (B:Hp) (p0:List Addr) (H:Hp) (ps:List Addr) (σT:List Sl) (σ:L2.St) (Q:D->Prop) (QV:VK),Ok X.K B p0 H ps σT σ->ta σT Q->(∀ d v H',bB H H'->gE X.K (mask H' ps) d v->Q d->QV v H')->va σ H QV)
  (hb:∀ (B:Hp) (p0:List Addr) (H:Hp) (ps:List Addr) (σT:List Sl) (σ:L2.St) (Q:D->Prop) (QV:VK),Ok X.K B p0 H ps σT σ->tb σT Q->(∀ d v H',bB H H'->gE X.K (mask H' ps) d v->Q d->QV v H')->vb σ H QV)
  (hc:∀ (B:Hp) (p0:List Addr) (H:Hp) (ps:List Addr) (σT:List Sl) (σ:L2.St) (Q:D->Prop) (QV:VK),Ok X.K B p0 H ps σT σ->tc σT Q->(∀ d v H',bB H H'->gE X.K (mask H' ps) d v->Q d->QV v H')->vc σ H QV)
  (B:Hp) (p0:List Addr) (H:Hp) (ps:List Addr) (σT:List Sl) (σ:L2.St) (Q:D->Prop) (QV:VK) (o:Ok X.K B p0 H ps σT σ) (h:UB f g ta tb tc σT Q) (k:∀ d v H',bB H H'->gE X.K (mask H' ps) d v->Q d->QV v H'):QR r r' va vb vc σ H QV:=by
 refine ha B p0 H ps σT σ _ _ o h λd1 x H1 s1 r1 q1=>?_
 refine hb B p0 H1 ps σT σ _ _ (o.grow s1) q1 λd2 y H2 s2 r2 q2=>?_
 refine h2 H2 ps d1 d2 x y _ _ ((o.grow s1).grow s2).live (r1.same (bO s2)) r2 q2 λd3 z H3 s3 r3 q3=>?_
 cases r3 with
 | bool c =>
  refine ⟨c,rfl,?_⟩
  cases c with
  | false=>exact k _ _ H3 (s1.trans (s2.trans s3)) (.bool false) q3
  | true =>
   refine hc B p0 H3 ps σT σ _ _ (((o.grow s1).grow s2).grow s3) q3 λd4 w H4 s4 r4 q4=>?_
   exact h2' H4 ps d2 d4 y w Q QV ((((o.grow s1).grow s2).grow s3).grow s4).live ((r2.same (bO s3)).same (bO s4)) r4 q4 λd v H' s' r' q'=>k d v H' (s1.trans (s2.trans (s3.trans (s4.trans s')))) r' q'
 | _=>exact q3.elim
theorem T8 {op op':CmpOp} {r r':R2} {f g:D->D->(D->Prop)->Prop} (ho:nF X (compareOp op) r) (ho':nF X (compareOp op') r') (h2:zG X r f) (h2':zG X r' g) (ha:hU X a ta) (hb:hU X b tb) (hc:hU X c tc)
  (hm:lastMarks [op,op'] [b,c]=false:=by with_unfolding_all rfl):hU X (.Compare a [op,op'] [b,c] pos) (UB f g ta tb tc):=by
 obtain ⟨va,pa,ra⟩:=ha
 obtain ⟨vb,pb,rb⟩:=hb
 obtain ⟨vc,pc,rc⟩:=hc
 exact ⟨_,R8 ho ho' pa pb pc hm,KH h2 h2' ra rb rc⟩
abbrev OT:=List Sl->(Option Int->Prop)->Prop
def POt (X:Cx) (e:Option Expr) (t:OT):Prop:=∃ to:TO,PO X e to/\∀ (B:Hp) (p0:List Addr) (H:Hp) (ps:List Addr) (σT:List Sl) (σ:L2.St) (Q:Option Int->Prop) (QV:Option Int->Hp->Prop),Ok X.K B p0 H ps σT σ->t σT Q ->
 (∀ i H',bB H H'->Q i->QV i H')->to σ H QV
def aGp:OT:=λ_ Q=>Q none
def aGo (t:ET):OT:=λσ Q=>t σ λx=>match x with | .int i=>Q (some i) | _=>False
theorem nS:POt X none aGp:=⟨_,WL,λ_ _ H _ _ _ _ _ _ h k=>k _ H (L2.bB.refl H) h⟩
theorem mF (h:hU X e te):POt X (some e) (aGo te):=by
 obtain ⟨v,p,r⟩:=h
 refine ⟨_,WK p,λB p0 H ps σT σ Q QV o h k=>r B p0 H ps σT σ _ _ o h λd x H1 s1 r1 q1=>?_⟩
 cases r1 with
 | int i=>exact ⟨i,rfl,k _ H1 s1 q1⟩
 | _=>exact q1.elim
def SlT (X:Cx) (r:V->Option Int->Option Int->Hp->VK->Prop) (f:D->Option Int->Option Int->(D->Prop)->Prop):Prop:=∀ (H:Hp) (ps:List Addr) (d:D) (x:V) (lo hi:Option Int) (Q:D->Prop) (QV:VK),(∀ p∈ps,H p≠none)->gE X.K (mask H ps) d x->f d lo hi Q ->
 (∀ d v H',bB H H'->gE X.K (mask H' ps) d v->Q d->QV v H')->r x lo hi H QV
def eSl (f:D->Option Int->Option Int->(D->Prop)->Prop) (t:ET) (tl th:OT):ET:=λσ Q=>t σ λx=>tl σ λl=>th σ λu=>f x l u Q
theorem lG {r:V->Option Int->Option Int->Hp->VK->Prop} {f:D->Option Int->Option Int->(D->Prop)->Prop} {lo hi:Option Expr} {tl th:OT} {p2:Pos} (hr:UW X r) (h2:SlT X r f) (he:hU X e te) (hl:POt X lo tl) (hu:POt X hi th) :
  hU X (.Subscript e (.Slice lo hi none p2) pos) (eSl f te tl th):=by
 obtain ⟨ve,pe,re⟩:=he
 obtain ⟨vl,pl,rl⟩:=hl
 obtain ⟨vu,pu,ru⟩:=hu
 refine ⟨_,R3 hr pe pl pu,λB p0 H ps σT σ Q QV o h k=>re B p0 H ps σT σ _ _ o h λd x H1 s1 r1 q1=>?_⟩
 refine rl B p0 H1 ps σT σ _ _ (o.grow s1) q1 λl H2 s2 q2=>?_
 refine ru B p0 H2 ps σT σ _ _ ((o.grow s1).grow s2) q2 λu H3 s3 q3=>?_
 exact h2 H3 ps d x l u Q QV (((o.grow s1).grow s2).grow s3).live ((r1.same (bO s2)).same (bO s3)) q3 λd v H' s' r' q'=>k d v H' (s1.trans (s2.trans (s3.trans s'))) r' q'

variable {st:Stmt} {rest:List Stmt} {t u:oW}
def kB:oW:=λDT σ=>DT.nx σ
def jI (t u:oW):oW:=λDT σ=>t { DT with nx:=u DT } σ
theorem gW:vS X [] kB:=⟨_,AB,λB p0 H ps σT σ DT DV o h f=>f.nx H ps σT σ o (L2.bB.refl _) h⟩
theorem bW (h1:xT X st t) (h2:vS X rest u):vS X (st::rest) (jI t u):=by
 obtain ⟨v1,p1,r1⟩:=h1
 obtain ⟨v2,p2,r2⟩:=h2
 refine ⟨_,lC p1 p2,λB p0 H ps σT σ DT DV o h f=>r1 B p0 H ps σT σ { DT with nx:=u DT } { DV with nx:=v2 DV } o h ⟨λH' ps' σT' σ' o' s' q'=>?_,f.bk,f.ct,f.rt,f.ro,f.rp,f.rq,f.xb⟩⟩
 exact r2 B p0 H' ps' σT' σ' DT DV o' q' (f.later s')
theorem cA (h1:xT X st t):vS X [st] t:=by
 obtain ⟨v1,p1,r1⟩:=h1
 exact ⟨_,wO p1,r1⟩
def aB6 (i:Nat) (t:oW):oW:=λDT σ=>∃ ts,σ[i]?=some (.own ts)/\t DT (σ.set i (.val (.list ts)))
theorem rZ {sts:List Stmt} (i:Nat) (h:vS X sts t):vS X sts (aB6 i t):=by
 obtain ⟨v,p,r⟩:=h
 refine ⟨_,p,λB p0 H ps σT σ DT DV o h f=>?_⟩
 obtain ⟨ts,e,h⟩:=h
 obtain ⟨ps',o',s'⟩:=o.share e
 exact r B p0 H ps' _ σ DT DV o' h (f.later s')
def WC (te:ET):oW:=λDT σ=>te σ DT.rt
theorem dJ (h:hU X e te):xT X (.Return (some e) pos) (WC te):=by
 obtain ⟨v,p,r⟩:=h
 refine ⟨_,vE p,λB p0 H ps σT σ DT DV o h f=>r B p0 H ps σT σ _ _ o h λd x H' s' r' q'=>?_⟩
 exact f.rt d x H' (o.base.trans s') (r'.same (iN o.sub)) q'
def sIf (c:qQ) (t u:oW):oW:=λDT σ=>c σ λb=>if b=true then t DT σ else u DT σ
theorem iM {c:Expr} {a b:List Stmt} {tc:qQ} (hc:IJ X c tc) (ha:vS X a t) (hb:vS X b u):xT X (.If c a b pos) (sIf tc t u):=by
 obtain ⟨vc,pc,rc⟩:=hc
 obtain ⟨va,pa,ra⟩:=ha
 obtain ⟨vb,pb,rb⟩:=hb
 refine ⟨_,RS pc pa pb,λB p0 H ps σT σ DT DV o h f=>rc B p0 H ps σT σ _ _ o h λd H1 s1 q1=>?_⟩
 cases d with
 | true=>exact ra B p0 H1 ps σT σ DT DV (o.grow s1) q1 (f.later (bO s1))
 | false=>exact rb B p0 H1 ps σT σ DT DV (o.grow s1) q1 (f.later (bO s1))
def wI (i:Nat) (te:ET):oW:=λDT σ=>te σ λd=>DT.nx (σ.set i (.val d))
theorem QU {i:Nat} {x:Str} {pos':Pos} (h:hU X e te) (ps':∀ {v:TE},PE X e v->PS X (.Assign [.Name x pos'] e pos) (rQ v (jE i))):xT X (.Assign [.Name x pos'] e pos) (wI i te):=by
 obtain ⟨v,p,r⟩:=h
 refine ⟨_,ps' p,λB p0 H ps σT σ DT DV o h f=>r B p0 H ps σT σ _ _ o h λd x H' s' r' q'=>?_⟩
 exact f.nx H' ps _ _ ((o.grow s').set r') (bO s') q'
def aB7 (i:Nat) (t:AT):oW:=λDT σ=>t σ λds=>ds.length<=1000/\DT.nx (σ.set i (.own ds))
theorem aBt {i:Nat} {x:Str} {pos' p2:Pos} {t:AT} (h:xU X es t) (ps':∀ {v:TE},PE X (.List es p2) v->PS X (.Assign [.Name x pos'] (.List es p2) pos) (rQ v (jE i))):xT X (.Assign [.Name x pos'] (.List es p2) pos) (aB7 i t):=by
 obtain ⟨v,p,r⟩:=h
 refine ⟨_,ps' (JL p),λB p0 H ps σT σ DT DV o h f=>r B p0 H ps σT σ _ _ o h λds xs H1 s1 r1 q1=>⟨wZ (by rw [<- r1.length];exact q1.1),λq hq=>?_⟩⟩
 exact f.nx _ (q::ps) _ _ ((o.grow s1).setOwn hq r1) ((bO s1).trans (by rw [kH hq];exact L2.bB.refl _)) q1.2
def aE5 (i:Nat) (te:ET):oW:=λDT σ=>∃ ts,σ[i]?=some (.own ts)/\te σ λd=>ts.length<=100000/\DT.nx (σ.set i (.own (ts++[d])))
theorem A1 {i:Nat} {n e:Expr} {te:ET} {ap cp:Pos} (hn:PE X n (oU i)) (he:hU X e te) (hs:bN [e] X.env=(false,eval e X.env)::bN [] X.env:=by rfl)
  (pb:∀ {ta:TA},PA X [e] ta->PS X (.Expr (.Call (.Attribute n "append" ap) [e] [] cp) pos) (LF (VQ X.K "list" EZ (oU i) ta))):xT X (.Expr (.Call (.Attribute n "append" ap) [e] [] cp) pos) (aE5 i te):=by
 obtain ⟨v,p,r⟩:=he
 refine ⟨_,pb (fL p iZ hs),λB p0 H ps σT σ DT DV o h f=>?_⟩
 obtain ⟨ts,e,h⟩:=h
 obtain ⟨q,xs,h1,h2,h3,h4,h5,h6⟩:=o.own i ts e
 refine ⟨.ref q,h1,.inl ⟨rfl,xs,mK.of h5⟩,r B p0 H ps σT σ _ _ o h λd x H1 s1 r1 q1=>?_⟩
 refine ⟨q,xs,x,rfl,rfl,s1 _ _ h5,?_,?_⟩
 ·rw [<- h6.length]
  have:bD=2 ^ 24:=rfl
  omega
 ·have o1:=o.grow s1
  have hr:Reps X.K (mask H1 ps) (ts++[d]) (xs++[x]):=(h6.same (bO s1)).append (.cons r1 .nil)
  exact f.nx _ ps _ σ (o1.write (ys:=xs++[x]) e h1 hr) ((bO s1).trans (by rw [gY h2];exact L2.bB.refl _)) q1.2

def GO (x:Str):List D:=x.cps.toList.map λc=>.str ⟨#[c]⟩
def ML:D->Option (List D)
 | .list ts=>some ts
 | .tuple ts=>some ts
 | .str x=>some (GO x)
 | _=>none
def lT (σ:List Sl):Prop:=∀ (i:Nat) (s:Sl),(∀ d,s≠.val d)->s≠.un->σ[i]?≠some s
theorem jV {σ:List Sl} (h:lT σ) (i:Nat) (d:D):lT (σ.set i (.val d)):=λj s hv hu e=>by
 by_cases z:i=j
 ·subst z
  have hi:i<σ.length:=by simpa using (aG.mp e).1
  rw [aY hi] at e;exact hv d (Option.some.inj e).symm
 ·rw [aW z] at e;exact h j s hv hu e
theorem lT.own {σ:List Sl} (h:lT σ) (i:Nat) (ts:List D):σ[i]?≠some (.own ts):=h i _ (λ_ z=>nomatch z) λz=>nomatch z
theorem lT.dic {σ:List Sl} (h:lT σ) (i:Nat) (hs:List Int) (kvs:List (D×D)):σ[i]?≠some (.dic hs kvs):=h i _ (λ_ z=>nomatch z) λz=>nomatch z
abbrev GT:=D->List Sl->(List Sl->Prop)->Prop
def CT (X:Cx) (tg:Expr) (g:GT):Prop:=∃ gv:TG,PG X tg gv/\∀ (B:Hp) (p0:List Addr) (H:Hp) (ps:List Addr) (σT:List Sl) (σ:L2.St) (d:D) (v:V) (Q:List Sl->Prop) (QV:L2.St->Hp->Prop),Ok X.K B p0 H ps σT σ->gE X.K (mask H ps) d v->g d σT Q ->
 (∀ σT' σ',Ok X.K B p0 H ps σT' σ'->(lT σT->lT σT')->Q σT'->QV σ' H)->gv v σ H QV
def gN (i:Nat):GT:=λd σ Q=>Q (σ.set i (.val d))
theorem dY {i:Nat} {x:Str} {p:Pos} (h:PG X (.Name x p) (jE i)):CT X (.Name x p) (gN i) :=
 ⟨_,h,λB p0 H ps σT σ d v Q QV o r h k=>k _ _ (o.set r) (λn=>jV n _ _) h⟩
def gP (i j:Nat):GT:=λd σ Q=>∃ a b,d=.tuple [a,b]/\Q ((σ.set i (.val a)).set j (.val b))
theorem tV {i j:Nat} {t:Expr} (h:PG X t (XN X.K 2 (uV (jE i) (uV (jE j) XO)))):CT X t (gP i j) :=
 ⟨_,h,λB p0 H ps σT σ d v Q QV o r h k=>by
  obtain ⟨a,b,rfl,h⟩:=h
  cases r with
  | @tuple p xs _ hq r =>
   cases r with
   | cons ra r =>
    cases r with
    | cons rb r =>
     cases r
     exact ⟨_,_,rfl,bB.seqT bV hq,rfl,_,_,rfl,_,_,rfl,rfl,k _ _ ((o.set ra).set rb) (λn=>jV (jV n _ _) _ _) h⟩⟩
structure UX (K:aD) (Hs:Hp) (ts:List D) (J:It):Prop where
 stop:∀ (i:Nat) (H:Hp),bB Hs H->ts.length<=i->J.stop i H
 go:∀ (i:Nat) (H:Hp),bB Hs H->i<ts.length->J.go i H
 yld:∀ (i:Nat) (H:Hp) (ps:List Addr) (y:V) (H':Hp),(∀ p∈ps,H p≠none)->bB Hs (mask H ps)->i<ts.length->J.yld i H y H'->bB H H'/\∃ dx,ts[i]?=some dx/\gE K (mask H' ps) dx y
abbrev IT:=List Sl->(List D->Prop)->Prop
def CS (X:Cx) (tg iter:Expr) (t:IT):Prop:=∃ wi:TI,PI X tg iter wi/\∀ (B:Hp) (p0:List Addr) (H:Hp) (ps:List Addr) (σT:List Sl) (σ:L2.St) (Q:List D->Prop) (R:It->Hp->Prop),Ok X.K B p0 H ps σT σ->t σT Q ->
 (∀ ts J H',bB H H'->UX X.K (mask H' ps) ts J->Q ts->R J H')->wi σ H R
def aJp (te:ET):IT:=λσ Q=>te σ λd=>∃ ts,ML d=some ts/\Q ts
theorem WE {x:V} {d:D} {ts:List D} {Hs:Hp} (r:gE K Hs d x) (hi:ML d=some ts) {R:It->Hp->Prop} (hs:bB Hs H1) (h:∀ J:It,UX K Hs ts J->R J H1) :
  (∃ a,x=.ref a/\(∃ xs,mK K H1 a xs)/\R (Itl K a) H1)\/(∃ a,x=.ref a/\(∃ xs,rW K H1 a xs)/\R (Itt K a) H1)\/∃ z,x=.str z/\R (Its z) H1:=by
 cases r with
 | @list p xs us q rs =>
  obtain rfl:us=ts:=Option.some.inj hi
  refine .inl ⟨p,rfl,⟨xs,L2.bB.seq hs q⟩,h _ ⟨λi H e hl=>⟨xs,L2.bB.seq e q,by rw [<- rs.length];exact hl⟩,λi H e hl=>?_,λi H ps y H' _ e hl hy=>?_⟩⟩
  ·obtain ⟨v,hv,_⟩:=rs.get (aH hl)
   exact ⟨xs,v,L2.bB.seq e q,hv⟩
  ·obtain ⟨rfl,hy⟩:=hy
   obtain ⟨dx,h1,h2⟩:=rs.get' (hy xs (L2.bB.seq (e.trans bV) q))
   exact ⟨L2.bB.refl _,dx,h1,h2.same e⟩
 | @tuple p xs us q rs =>
  obtain rfl:us=ts:=Option.some.inj hi
  refine .inr (.inl ⟨p,rfl,⟨xs,bB.seqT hs q⟩,h _ ⟨λi H e hl=>⟨xs,bB.seqT e q,by rw [<- rs.length];exact hl⟩,λi H e hl=>?_,λi H ps y H' _ e hl hy=>?_⟩⟩)
  ·obtain ⟨v,hv,_⟩:=rs.get (aH hl)
   exact ⟨xs,v,bB.seqT e q,hv⟩
  ·obtain ⟨rfl,hy⟩:=hy
   obtain ⟨dx,h1,h2⟩:=rs.get' (hy xs (bB.seqT (e.trans bV) q))
   exact ⟨L2.bB.refl _,dx,h1,h2.same e⟩
 | str z =>
  obtain rfl:GO z=ts:=Option.some.inj hi
  have hl:(GO z).length=z.cps.size:=by unfold GO;simp
  refine .inr (.inr ⟨z,rfl,h _ ⟨λi H _ e=>by rw [hl] at e;exact e,λi H _ e=>by rw [hl] at e;exact e,λi H ps y H' _ _ e hy=>?_⟩⟩)
  obtain ⟨rfl,c,h2,rfl⟩:=hy
  refine ⟨L2.bB.refl _,.str ⟨#[c]⟩,?_,.str _⟩
  unfold GO
  rw [aI]
  have:z.cps.toList[i]?=some c:=by simpa using h2
  rw [this];rfl
 | _=>cases hi
theorem fT {tg:Expr} (he:hU X e te):CS X tg e (aJp te):=by
 obtain ⟨ve,pe,re⟩:=he
 refine ⟨_,aCh pe,λB p0 H ps σT σ Q R o h k=>re B p0 H ps σT σ _ _ o h λd x H1 s1 r1 q1=>?_⟩
 obtain ⟨ts,hi,q⟩:=q1
 exact WE r1 hi bV λJ rj=>k ts J H1 s1 rj q
def iO (n:Nat):List D:=(cK n).map λ(k:Nat)=>aO (k:Int)
def aC8 (t:AT):IT:=λσ Q=>t σ λds=>∃ n:Int,ds=[.int n]/\-(2 ^ 62)<=n/\n<2 ^ 62/\Q (iO n.toNat)
theorem qJ {tg e:Expr} {t:AT} {p p':Pos} (ha:xU X [e] t) (pr:∀ {ta:TA},PA X [e] ta->PI X tg (.Call (.Name "range" p) [e] [] p') (aAs ta)):CS X tg (.Call (.Name "range" p) [e] [] p') (aC8 t):=by
 obtain ⟨va,pa,ra⟩:=ha
 refine ⟨_,pr pa,λB p0 H ps σT σ Q R o h k=>ra B p0 H ps σT σ _ _ o h λds xs H1 s1 r1 q1=>?_⟩
 obtain ⟨n,rfl,h1,h2,q⟩:=q1
 cases r1 with
 | cons r1 r2 =>
  cases r2
  cases r1
  refine ⟨n,rfl,h1,h2,k (iO n.toNat) _ H1 s1 ?_ q⟩
  have hl:(iO n.toNat).length=n.toNat:=by unfold iO;simp
  refine ⟨λi H _ e=>by rw [hl] at e;exact e,λi H _ e=>by rw [hl] at e;exact e,λi H ps y H' _ _ e hy=>?_⟩
  obtain ⟨rfl,rfl⟩:=hy
  have ei:(0:Int)+(i:Int)=(i:Int):=by omega
  rw [ei]
  rw [hl] at e
  refine ⟨L2.bB.refl _,.int i,?_,.int _⟩
  unfold iO
  rw [aI,jJ e];rfl
def WD (ti:IT) (g:GT) (tb:oW):oW:=λDT σ=>ti σ λts=>∃ P:Nat->List Sl->Prop,P 0 σ /\
 (∀ (k:Nat) (x:D) (σ':List Sl),ts[k]?=some x->P k σ'->g x σ' λσ2=>tb { DT with nx:=P (k+1),ct:=P (k+1),bk:=DT.nx } σ2)/\∀ σ',P ts.length σ'->DT.nx σ'
theorem aBu {tg iter:Expr} {body:List Stmt} {g:GT} {tb:oW} {ti:IT} (he:CS X tg iter ti) (hg:CT X tg g) (hb:vS X body tb)
  (pf:∀ {wi:TI} {gv:TG} {bv:TS},PI X tg iter wi->PG X tg gv->CQ X body bv->PS X (.For tg iter body [] pos) (aBq wi gv bv)):xT X (.For tg iter body [] pos) (WD ti g tb):=by
 obtain ⟨ve,pe,re⟩:=he
 obtain ⟨gv,pg,rg⟩:=hg
 obtain ⟨vb,pb,rb⟩:=hb
 refine ⟨_,pf pe pg pb,λB p0 H ps σT σ DT DV o h f=>re B p0 H ps σT σ _ _ o h λts J H1 s1 rj q1=>?_⟩
 obtain ⟨P,h0,hs,hd⟩:=q1
 refine ⟨λi m σ' H'=>m=ts.length-i/\i<=ts.length/\∃ ps' σT',Ok X.K B p0 H' ps' σT' σ'/\bB (mask H1 ps) (mask H' ps')/\P i σT',⟨_,rfl,cS _,ps,σT,o.grow s1,L2.bB.refl _,h0⟩,?_⟩
 rintro i m σ' H' ⟨rfl,hle,ps',σT',o',s',p'⟩
 have sH:bB (mask H1 ps) H':=s'.trans bV
 have f':IE X.K B p0 H' ps' DT DV:=f.later ((bO s1).trans s')
 by_cases hlt:i<ts.length
 ·refine .inr ⟨rj.go i H' sH hlt,λσ2 H2=>∃ ps2 σT2,Ok X.K B p0 H2 ps2 σT2 σ2/\bB (mask H1 ps) (mask H2 ps2)/\P (i+1) σT2,λσ2 H2 z=>⟨ts.length-(i+1),by omega,rfl,hlt,z⟩,λy H2 hy'=>?_⟩
  obtain ⟨s2,dx,hx,rx⟩:=rj.yld i H' ps' y H2 o'.live s' hlt hy'
  have f2:=f'.later (bO (ps:=ps') s2)
  have s'':bB (mask H1 ps) (mask H2 ps'):=s'.trans (bO s2)
  refine rg B p0 H2 ps' σT' σ' dx y _ _ (o'.grow s2) rx (hs i dx σT' hx p') λσT3 σ3 o3 _ q3=>?_
  exact rb B p0 H2 ps' σT3 σ3 _ _ o3 q3 ⟨λH4 ps4 σT4 σ4 o4 s4 q4=>⟨ps4,σT4,o4,s''.trans s4,q4⟩,λH4 ps4 σT4 σ4 o4 s4 q4=>f2.nx H4 ps4 σT4 σ4 o4 s4 q4,λH4 ps4 σT4 σ4 o4 s4 q4=>⟨ps4,σT4,o4,s''.trans s4,q4⟩,f2.rt,f2.ro,f2.rp,f2.rq,f2.xb⟩
 ·obtain rfl:i=ts.length:=by omega
  exact .inl ⟨rj.stop _ H' sH (aL _),f'.nx H' ps' σT' σ' o' (L2.bB.refl _) (hd σT' p')⟩

def HX (σ:List Sl):Option Nat->Sl
 | none=>.un
 | some j=>match σ[j]? with | some (.val d)=>.val d | _=>.un
def jS (fr:List (Option Nat)) (σ:List Sl):List Sl:=fr.map (HX σ)
theorem PJ {σ:List Sl} {q:Option Nat} {d:D} (h:HX σ q=.val d):∃ j,q=some j/\σ[j]?=some (.val d):=by
 cases q with
 | none=>cases h
 | some j =>
  refine ⟨j,rfl,?_⟩
  unfold HX at h
  dsimp only at h
  split at h
  ·next e=>cases h;exact e
  ·cases h
theorem PK {σ:List Sl} {q:Option Nat} {s:Sl} (hv:∀ d,s≠.val d) (hu:s≠.un):HX σ q≠s:=λh=>by
 cases q with
 | none=>exact hu h.symm
 | some j =>
  unfold HX at h
  dsimp only at h
  split at h
  ·exact hv _ h.symm
  ·exact hu h.symm
theorem nY (fr:List (Option Nat)) (σ:List Sl):lT (jS fr σ):=λi s hv hu h=>by
 unfold jS at h
 rw [aI] at h
 cases hf:fr[i]? with
 | none=>rw [hf] at h;cases h
 | some q =>
  rw [hf] at h
  exact PK hv hu (Option.some.inj h)
theorem Ok.blk (o:Ok K B p0 H ps σT σ) (fr:List (Option Nat)):Ok K B p0 H ps (jS fr σT) (uU fr σ) where
 base:=o.base
 sub:=o.sub
 live:=o.live
 len:=by unfold jS uU;simp
 val:=λi d h=>by
  unfold jS at h
  rw [aI] at h
  cases hf:fr[i]? with
  | none=>rw [hf] at h;cases h
  | some q =>
   rw [hf] at h
   obtain ⟨j,rfl,e⟩:=PJ (Option.some.inj h)
   obtain ⟨v,h1,h2⟩:=o.val j d e
   refine ⟨v,?_,h2⟩
   unfold uU
   rw [aI,hf]
   simp [h1]
 own:=λi ts h=>absurd h ((nY fr σT).own i ts)
 dis:=λi j ts us p h=>absurd h ((nY fr σT).own i ts)
 dc:=λi hs kvs h=>absurd h ((nY fr σT).dic i hs kvs)
theorem Ok.adopt (o:Ok K B p0 H ps σT σ) {p:Addr} {u:HO} (hp:H p=none):Ok K B p0 (fZ H p u) (p::ps) σT σ:=by
 have hm:mask (fZ H p u) (p::ps)=mask H ps:=kH hp
 refine ⟨o.base.trans (dF hp),λq hq=>aN _ (o.sub q hq),λq hq=>?_,o.len,λi d h=>by rw [hm];exact o.val i d h,λi ts h=>?_,o.dis,o.dc.to (λj hs kvs h=>⟨h,rfl⟩) (λq φ a b _=>⟨aN _ a,cG λz=>by rw [z,hp] at b;cases b⟩) (λq φ _ _ a b=>⟨a,b⟩) (by rw [hm];exact L2.bB.refl _)⟩
 ·by_cases e:q=p
  ·subst e;rw [cO];simp
  ·rw [cG e]
   rcases aZ.mp hq with z | z
   ·exact absurd z e
   ·exact o.live q z
 ·rw [hm]
  obtain ⟨q,xs,h1,h2,h3,h4,h5,h6⟩:=o.own i ts h
  exact ⟨q,xs,h1,aN _ h2,h3,h4,by rw [cG λz=>by rw [z,hp] at h5;cases h5];exact h5,h6⟩
theorem Ok.aside (o:Ok K B p0 H ps σT σ) {q:Addr} {u:HO} (hp:q∈ps) (hB:B q=none) (hn:lT σT):Ok K B p0 (fZ H q u) ps σT σ where
 base:=λb w e=>by
  rw [cG λz=>by rw [z,hB] at e;cases e]
  exact o.base b w e
 sub:=o.sub
 live:=λp hp'=>by
  by_cases e:p=q
  ·subst e;rw [cO];simp
  ·rw [cG e];exact o.live p hp'
 len:=o.len
 val:=λi d h=>by rw [gY hp];exact o.val i d h
 own:=λi ts h=>absurd h (hn.own i ts)
 dis:=λi j ts us p h=>absurd h (hn.own i ts)
 dc:=λi hs kvs h=>absurd h (hn.dic i hs kvs)
def zV (X:Cx) (ifs:List Expr) (t:qQ):Prop:=∃ tt:TT,KR X ifs tt/\∀ (B:Hp) (p0:List Addr) (H:Hp) (ps:List Addr) (σT:List Sl) (σ:L2.St) (Q:Bool->Prop) (QV:Bool->Hp->Prop),Ok X.K B p0 H ps σT σ->t σT Q ->
 (∀ b H',bB H H'->Q b->QV b H')->tt σ H QV
def xI:qQ:=λ_ Q=>Q true
theorem jA:zV X [] xI:=⟨_,WN,λ_ _ H _ _ _ _ _ _ h k=>k _ H (L2.bB.refl H) h⟩
theorem J5 {t:qQ} (h:IJ X e t):zV X [e] t:=by
 obtain ⟨v,p,r⟩:=h
 exact ⟨_,WM p,r⟩
def X5 (fr:List (Option Nat)) (ti:IT) (g:GT) (tt:qQ) (te:ET):ET:=λσ Q=>ti σ λts=>ts.length<=100000/\∃ P:Nat->List Sl->List D->Prop,P 0 (jS fr σ) [] /\
 (∀ (k:Nat) (x:D) (σ':List Sl) (ds:List D),ts[k]?=some x->P k σ' ds->g x σ' λσ2=>tt σ2 λb=>if b=true then te σ2 λy=>P (k+1) σ2 (ds++[y]) else P (k+1) σ2 ds)/\∀ σ' ds,P ts.length σ' ds->Q (.list ds)
theorem W7 {fr:List (Option Nat)} {ti:IT} {g:GT} {tt:qQ} {te:ET} {wi:TI} {gv:BP->TG} {vt:BP->TT} {ve:BP->TE}
  (ri:∀ (B:Hp) (p0:List Addr) (H:Hp) (ps:List Addr) (σT:List Sl) (σ:L2.St) (Q:List D->Prop) (R:It->Hp->Prop),Ok X.K B p0 H ps σT σ->ti σT Q->(∀ ts J H',bB H H'->UX X.K (mask H' ps) ts J->Q ts->R J H')->wi σ H R)
  (rg:∀ (bp:BP) (B:Hp) (p0:List Addr) (H:Hp) (ps:List Addr) (σT:List Sl) (σ:L2.St) (d:D) (v:V) (Q:List Sl->Prop) (QV:L2.St->Hp->Prop),Ok X.K B p0 H ps σT σ->gE X.K (mask H ps) d v->g d σT Q->(∀ σT' σ',Ok X.K B p0 H ps σT' σ'->(lT σT->lT σT')->Q σT'->QV σ' H)->gv bp v σ H QV)
  (rt:∀ (bp:BP) (B:Hp) (p0:List Addr) (H:Hp) (ps:List Addr) (σT:List Sl) (σ:L2.St) (Q:Bool->Prop) (QV:Bool->Hp->Prop),Ok X.K B p0 H ps σT σ->tt σT Q->(∀ b H',bB H H'->Q b->QV b H')->vt bp σ H QV)
  (re:∀ (bp:BP) (B:Hp) (p0:List Addr) (H:Hp) (ps:List Addr) (σT:List Sl) (σ:L2.St) (Q:D->Prop) (QV:VK),Ok X.K B p0 H ps σT σ->te σT Q->(∀ d v H',bB H H'->gE X.K (mask H' ps) d v->Q d->QV v H')->ve bp σ H QV)
  (B:Hp) (p0:List Addr) (H:Hp) (ps:List Addr) (σT:List Sl) (σ:L2.St) (Q:D->Prop) (QV:VK) (o:Ok X.K B p0 H ps σT σ) (h:X5 fr ti g tt te σT Q) (k:∀ d v H',bB H H'->gE X.K (mask H' ps) d v->Q d->QV v H'):LE fr wi gv vt ve σ H QV:=by
 refine ri B p0 H ps σT σ _ _ o h λts J H1 s1 rj q1=>?_
 obtain ⟨hz,P,h0,hs,hd⟩:=q1
 intro bp acc hacc
 have hBacc:B acc=none:=by
  cases q:B acc with
  | none=>rfl
  | some u=>rw [(o.grow s1).base acc u q] at hacc;cases hacc
 have hnps:acc∉ps:=iC (o.grow s1).live hacc
 refine ⟨λi m σ' H'=>m=ts.length-i/\i<=ts.length/\∃ σT' ds ys,Ok X.K B p0 H' (acc::ps) σT' σ'/\lT σT'/\H' acc=some (.lst ys)/\ds.length<=i/\Reps X.K (mask H' (acc::ps)) ds ys/\bB (mask H1 ps) (mask H' (acc::ps))/\bB H1 H'/\P i σT' ds,
  ⟨_,rfl,cS _,jS fr σT,[],[],((o.grow s1).blk fr).adopt hacc,nY fr σT,cO,aL _,.nil,by rw [kH hacc];exact L2.bB.refl _,dF hacc,h0⟩,?_⟩
 rintro i m σ' H' ⟨rfl,hle,σT',ds,ys,o',n',ha,hl,hr,s',sF,p'⟩
 have hL:bD=2 ^ 24:=rfl
 by_cases hlt:i<ts.length
 ·refine .inr ⟨rj.go i H' (s'.trans bV) hlt,λy H2 hy=>?_⟩
  obtain ⟨s2,dx,hx,rx⟩:=rj.yld i H' (acc::ps) y H2 o'.live s' hlt hy
  refine rg bp B p0 H2 (acc::ps) σT' σ' dx y _ _ (o'.grow s2) rx (hs i dx σT' ds hx p') λσT3 σ3 o3 n3 q3=>?_
  refine rt bp B p0 H2 (acc::ps) σT3 σ3 _ _ o3 q3 λb H4 s4 q4=>?_
  have s24:=s2.trans s4
  cases b with
  | false =>
   exact ⟨ts.length-(i+1),by omega,rfl,hlt,σT3,ds,ys,o3.grow s4,n3 n',s24 _ _ ha,by omega,hr.same (bO s24),s'.trans (bO s24),sF.trans s24,q4⟩
  | true =>
   refine re bp B p0 H4 (acc::ps) σT3 σ3 _ _ (o3.grow s4) q4 λd v H5 s5 r5 q5=>?_
   have s25:=s24.trans s5
   have hm:mask (fZ H5 acc (.lst (ys++[v]))) (acc::ps)=mask H5 (acc::ps):=gY (aU ..)
   refine ⟨ys,s25 _ _ ha,by rw [<- hr.length];omega,ts.length-(i+1),by omega,rfl,hlt,σT3,ds++[d],ys++[v],((o3.grow s4).grow s5).aside (aU ..) hBacc (n3 n'),n3 n',cO,by rw [bL,nI];omega,?_,?_,?_,q5⟩
   ·rw [hm];exact (hr.same (bO s25)).append (.cons r5 .nil)
   ·rw [hm];exact s'.trans (bO s25)
   ·intro b u e
    have ne:b≠acc:=λz=>by rw [z,hacc] at e;cases e
    rw [cG ne];exact (sF.trans s25) b u e
 ·obtain rfl:i=ts.length:=by omega
  refine .inl ⟨rj.stop _ H' (s'.trans bV) (aL _),k (.list ds) _ H' (s1.trans sF) (.list (mK.of (nT hnps ha)) (hr.same (iN λp hp=>aN _ hp))) (hd σT' ds p')⟩
theorem S2 {elt iter tg:Expr} {ifs:List Expr} {scope:Scope} {fr:List (Option Nat)} {N':List Str} {ti:IT} {g:GT} {tt:qQ} {te:ET} (hi:CS X tg iter ti)
  (hY:∀ b:BP,CT (blk X scope N' b) tg g/\zV (blk X scope N' b) ifs tt/\hU (blk X scope N' b) elt te) {M:(TE)->Prop}
  (fin:∀ {wi:TI} {gv:BP->TG} {vt:BP->TT} {ve:BP->TE},PI X tg iter wi->(∀ b:BP,PG (blk X scope N' b) tg (gv b)/\KR (blk X scope N' b) ifs (vt b)/\PE (blk X scope N' b) elt (ve b))->M (LE fr wi gv vt ve)) :
  ∃ v:TE,M v/\∀ (B:Hp) (p0:List Addr) (H:Hp) (ps:List Addr) (σT:List Sl) (σ:L2.St) (Q:D->Prop) (QV:VK),Ok X.K B p0 H ps σT σ->X5 fr ti g tt te σT Q ->
   (∀ d v H',bB H H'->gE X.K (mask H' ps) d v->Q d->QV v H')->v σ H QV:=by
 obtain ⟨wi,pi,ri⟩:=hi
 refine ⟨_,fin (gv:=λb=>Classical.choose (hY b).1) (vt:=λb=>Classical.choose (hY b).2.1) (ve:=λb=>Classical.choose (hY b).2.2) pi λb=>⟨(Classical.choose_spec (hY b).1).1,(Classical.choose_spec (hY b).2.1).1,(Classical.choose_spec (hY b).2.2).1⟩,?_⟩
 exact W7 ri (λb=>(Classical.choose_spec (hY b).1).2) (λb=>(Classical.choose_spec (hY b).2.1).2) λb=>(Classical.choose_spec (hY b).2.2).2
theorem aHd {elt iter tg:Expr} {ifs:List Expr} {scope:Scope} {fr:List (Option Nat)} {N':List Str} {ti:IT} {g:GT} {tt:qQ} {te:ET} (hi:CS X tg iter ti)
  (hY:∀ b:BP,CT (blk X scope N' b) tg g/\zV (blk X scope N' b) ifs tt/\hU (blk X scope N' b) elt te)
  (pl:∀ {wi:TI} {gv:BP->TG} {vt:BP->TT} {ve:BP->TE},PI X tg iter wi->(∀ b:BP,PG (blk X scope N' b) tg (gv b)/\KR (blk X scope N' b) ifs (vt b)/\PE (blk X scope N' b) elt (ve b))->PE X (.ListComp elt [⟨tg,iter,ifs,0⟩] scope pos) (LE fr wi gv vt ve)) :
  hU X (.ListComp elt [⟨tg,iter,ifs,0⟩] scope pos) (X5 fr ti g tt te):=S2 hi hY pl
theorem A0 {i:Nat} {x:Str} {px spos:Pos} {elt iter tg:Expr} {ifs:List Expr} {scope:Scope} {fr:List (Option Nat)} {N':List Str} {ti:IT} {g:GT} {tt:qQ} {te:ET} (hi:CS X tg iter ti)
  (hY:∀ b:BP,CT (blk X scope N' b) tg g/\zV (blk X scope N' b) ifs tt/\hU (blk X scope N' b) elt te)
  (pl:∀ {wi:TI} {gv:BP->TG} {vt:BP->TT} {ve:BP->TE},PI X tg iter wi->(∀ b:BP,PG (blk X scope N' b) tg (gv b)/\KR (blk X scope N' b) ifs (vt b)/\PE (blk X scope N' b) elt (ve b)) ->
   PS X (.Assign [.Name x px] (.ListComp elt [⟨tg,iter,ifs,0⟩] scope pos) spos) (rQ (LE fr wi gv vt ve) (jE i))) :
  xT X (.Assign [.Name x px] (.ListComp elt [⟨tg,iter,ifs,0⟩] scope pos) spos) (wI i (X5 fr ti g tt te)):=by
 obtain ⟨v,p,r⟩:=S2 (M:=λv=>PS X (.Assign [.Name x px] (.ListComp elt [⟨tg,iter,ifs,0⟩] scope pos) spos) (rQ v (jE i))) (fr:=fr) hi hY pl
 refine ⟨_,p,λB p0 H ps σT σ DT DV o h f=>r B p0 H ps σT σ _ _ o h λd x H' s' r' q'=>?_⟩
 exact f.nx H' ps _ _ ((o.grow s').set r') (bO s') q'

def kF (N:List Str) (ds:List D):List Sl:=ds.map Sl.val++mV (N.length-ds.length) .un
theorem qG {N:List Str} {ds:List D} {vs:List V} (live:∀ p∈ps,H p≠none) (r:Reps K (mask H ps) ds vs):Ok K H ps H ps (kF N ds) (L2.pA N vs):=by
 have hl:=r.length
 refine ⟨L2.bB.refl _,λ_ h=>h,live,?_,λi d h=>?_,λi ts h=>?_,λi j ts us p h=>?_,λi hs kvs h=>?_⟩
 ·unfold kF L2.pA;simp [hl]
 ·unfold kF at h
  by_cases hi:i<ds.length
  ·rw [dH (by simpa using hi),aI] at h
   cases hd:ds[i]? with
   | none=>rw [hd] at h;cases h
   | some d' =>
    rw [hd] at h
    cases h
    obtain ⟨v,h1,h2⟩:=r.get hd
    refine ⟨v,?_,h2⟩
    unfold L2.pA
    rw [dH (by rw [aB,<- hl];exact hi),aI,h1];rfl
  ·rw [dN (by simpa using hi),jN] at h
   split at h<;>cases h
 ·unfold kF at h
  by_cases hi:i<ds.length
  ·rw [dH (by simpa using hi),aI] at h
   cases hd:ds[i]? with
   | none=>rw [hd] at h;cases h
   | some d'=>rw [hd] at h;cases h
  ·rw [dN (by simpa using hi),jN] at h
   split at h<;>cases h
 ·unfold kF at h
  by_cases hi:i<ds.length
  ·rw [dH (by simpa using hi),aI] at h
   cases hd:ds[i]? with
   | none=>rw [hd] at h;cases h
   | some d'=>rw [hd] at h;cases h
  ·rw [dN (by simpa using hi),jN] at h
   split at h<;>cases h
 ·unfold kF at h
  by_cases hi:i<ds.length
  ·rw [dH (by simpa using hi),aI] at h
   cases hd:ds[i]? with
   | none=>rw [hd] at h;cases h
   | some d'=>rw [hd] at h;cases h
  ·rw [dN (by simpa using hi),jN] at h
   split at h<;>cases h
theorem xC {P:bF} {w:World} {mg:Str->Option Value} {base:Heap} {x qual:Str} {st:Stmt} {f:Addr} {fd:dI} {N pn:List Str} {k:Nat} {sp:oA} (F:P5 K x qual st f fd) (S:dB N pn (bQ st)) (len:∀ ds Q,sp ds Q->ds.length=pn.length)
  (hbody:∀ (cdv:Value) (A:Around) (outer:List Env) (s:Shared) (H:Hp) (E:XK),Room k (A.deeper (envOfC qual (bQ st) s.heap.objs.size f cdv))->∀ (ds:List D) (Q:D->Prop),sp ds Q ->
   ∃ t,vS (yF fP P w K mg base N qual (bQ st) f cdv A outer s H E).nox (lN st) t/\t { nx:=λ_=>Q .none,rt:=Q } (kF N ds)):cL P w K mg base fP (k+1) f fd pn (bX K sp):=by
 refine F.ok S (λvs H Q E h=>?_) λcdv A outer s H vs Q E hr h=>?_
 ·obtain ⟨ps,ds,QD,_,r,q,_⟩:=h
  rw [<- r.length];exact len ds QD q
 ·obtain ⟨ps,ds,QD,live,r,q,k⟩:=h
  obtain ⟨t,⟨ts,p,rd⟩,h⟩:=hbody cdv A outer s H E hr ds QD q
  refine ⟨ts,p,rd H ps H ps _ _ _ _ (qG live r) h ⟨λH' ps' σT' σ' o' s' q'=>?_,λ_ _ _ _ _ _ q'=>q'.elim,λ_ _ _ _ _ _ q'=>q'.elim,λd v H' s' r' q'=>k d v H' s' r' q',λ_ _ _ _ _ _ _ _ _ q'=>q'.elim,λ_ _ _ _ _ _ _ _ _ _ _ _ _ _ _ _ _ _ q'=>q'.elim,λ_ _ _ _ _ _ _ _ _ _ _ _ _ _ q'=>q'.elim,True.intro⟩⟩
  exact k _ _ H' o'.base .none q'
end
end TL

namespace HT
open PySem PySem.Spec PyProof.Rows
section
variable {prog:bF} {w:World} {A:Around} {E:Value->Shared->Prop} {s:Shared}
theorem getItem_tuple_all {t sl:Addr} {items:Array Value} {vl vu:Value} {lo hi:Option Int} {Q:Value->Shared->Prop} (ht:IsTup s.heap t items) (hs:s.heap.IsSliceOf sl vl vu .none) (pl:IsPart vl lo) (pu:IsPart vu hi)
  (hw:sIx items.size 0 lo=0/\sIx items.size items.size hi=items.size) (h:Q (.ref t) s):wpAny (model prog w) A (getItem (.ref t) (.ref sl)) Q E s:=by
 obtain ⟨os,hos,hcs,hds⟩:=id hs
 have hTs:s.TypeIs (.ref sl) "slice":=⟨os,hos,hcs⟩
 unfold getItem
 try with_reducible refine wpAny_holding ?_
 first | refine aA (aF ?_) | skip
 refine aA (wpAny_sequenceKey ht.typeIs (by decide) ?_)
 refine aA (wpAny_callSpecial?_slot (name:=Str.ofString "__getitem__") ht.typeIs PyProof.Rows.slot_tuple_getitem
  (cW PyProof.Rows.slot_tuple_getitem ht.typeIs entry_tuple_getitem ?_ (args_tuple_getitem _ _)))
 show wpAny _ _ (Builtin.Tuple.tupleItemsOf (.ref t) >>= _) _ _ s
 refine aA (tupleItemsOf_ ht ?_)
 refine aA (wpAny_typeOf hTs ?_)
 rw [if_pos (by decide)]
 refine aA (qF hs pl pu ?_)
 have hyes:(((sIx items.size 0 lo:Nat):Int) == 0 && (1:Int) == 1 && (sIx items.size items.size hi-sIx items.size 0 lo) == items.size)=true:=by
  rw [hw.1,hw.2];simp
 show wpAny _ _ (if (((sIx items.size 0 lo:Nat):Int) == 0 && (1:Int) == 1 && (sIx items.size items.size hi-sIx items.size 0 lo) == items.size)=true then _ else _) _ _ s
 rw [if_pos hyes]
 unfold Builtin.Tuple.tupleIsExact
 refine aA (aA (wpAny_typeOf ht.typeIs (aF ?_)))
 rw [if_pos (by decide)]
 first
  | exact aA (wpAny_rule (aA (aF (aF ⟨_,rfl,aF h⟩))))
  | exact aA (wpAny_rule (aF ⟨_,rfl,aF h⟩))
  | exact aA (wpAny_rule (aA (aF ⟨_,rfl,aF h⟩)))
end
end HT

namespace L2
open PySem PySem.Spec PyProof.Rows
section
variable {X:Cx}
def aE6:V->Option Int->Option Int->Hp->VK->Prop:=λx lo hi H Q=>∃ z,x=.str z/\z.length<=bD/\Q (.str (Txt.slice z lo hi)) H
theorem aB0:UW X aE6:=by
 intro pins s σ H x v vl vu lo hi sl Q I rx hs pl pu h
 obtain ⟨z,rfl,hz,q⟩:=h
 obtain ⟨t,rfl⟩:=rx
 refine ⟨"str",_,PySem.F.slot_str_getitem.lookup,typeIs_str _ _ _,?_⟩
 have fin:∀ lo hi:Option Int,Q (.str (Txt.slice z lo hi)) H->(Txt.slice z lo hi).length<=bD/\∀ (t':Tok) (k:Nat),EP X pins σ Q (.str (Txt.slice z lo hi) t') { s with toks:=k }:=λlo hi q =>
  ⟨cM (Txt.slice_le z _ _) hz,λt' k=>⟨.str _,H,I.tok k,⟨t',rfl⟩,q⟩⟩
 cases pl with
 | none =>
  cases pu with
  | none=>exact wpAny_getItem_str_slice (l:=none) (u:=none) (st:=none) hs rfl (post_val_or_str (fin none none q))
  | int j uj=>exact wpAny_getItem_str_slice (l:=none) (u:=some (j,uj)) (st:=none) hs rfl (post_val_or_str (fin none (some j) q))
 | int i ui =>
  cases pu with
  | none=>exact wpAny_getItem_str_slice (l:=some (i,ui)) (u:=none) (st:=none) hs rfl (post_val_or_str (fin (some i) none q))
  | int j uj=>exact wpAny_getItem_str_slice (l:=some (i,ui)) (u:=some (j,uj)) (st:=none) hs rfl (post_val_or_str (fin (some i) (some j) q))
def aAj (K:aD):V->Option Int->Option Int->Hp->VK->Prop:=λx lo hi H Q=>∃ a xs,x=.ref a/\rW K H a xs /\
 ((HT.sIx xs.length 0 lo=0/\HT.sIx xs.length xs.length hi=xs.length)->Q (.ref a) H)/\(¬ (HT.sIx xs.length 0 lo=0/\HT.sIx xs.length xs.length hi=xs.length)->∀ p,H p=none->Q (.ref p) (fZ H p (.tup (FM xs lo hi))))
theorem V1:UW X (aAj X.K):=by
 intro pins s σ H x v vl vu lo hi sl Q I rx hs pl pu h
 obtain ⟨a,xs,rfl,hx,q1,q2⟩:=h
 by_cases hw:HT.sIx xs.length 0 lo=0/\HT.sIx xs.length xs.length hi=xs.length
 ·cases rx
  obtain ⟨its,r,ht,hz⟩:=I.tuple hx
  have hlen:its.toArray.size=xs.length:=by rw [bR];exact r.length.symm
  exact ⟨"tuple",_,PyProof.Rows.slot_tuple_getitem.lookup,ht.typeIs,HT.getItem_tuple_all ht hs pl pu (by rw [hlen];exact hw) ⟨.ref a,H,I,rfl,q1 hw⟩⟩
 ·exact aBz pins s σ H (.ref a) v vl vu lo hi sl Q I rx hs pl pu ⟨a,xs,rfl,hx,hw,q2 hw⟩
def RJ (K:aD):V->Option Int->Option Int->Hp->VK->Prop:=λx lo hi H Q=>aE7 K x lo hi H Q\/aAj K x lo hi H Q\/aE6 x lo hi H Q
theorem pO:UW X (RJ X.K):=V2.or (V1.or aB0)
def RL (K:aD):R2:=λx y H Q=>∃ a b xs ys,x=.ref a/\y=.ref b/\rW K H a xs/\rW K H b ys/\xs.length+ys.length<=bD /\
 (xs=[]->Q (.ref b) H)/\(xs≠[]->ys=[]->Q (.ref a) H)/\(xs≠[]->ys≠[]->∀ p,H p=none->Q (.ref p) (fZ H p (.tup (xs++ys))))
theorem SF:nF X (binaryOp .Add) (RL X.K):=by
 intro pins s σ H x y v u Q I rx ry h
 obtain ⟨a,b,xs,ys,rfl,rfl,ha,hb,hz,q0,q1,q2⟩:=h
 by_cases hx:xs=[]
 ·cases rx
  cases ry
  obtain ⟨its,r1,p1,_⟩:=I.tuple ha
  obtain ⟨its2,r2,p2,_⟩:=I.tuple hb
  obtain ⟨⟨cls,dd,data,sl⟩,ho,hc,n,hd⟩:=id p1
  obtain ⟨⟨cls2,dd2,data2,sl2⟩,ho2,hc2,n2,hd2⟩:=id p2
  simp only at hc hd hc2 hd2
  subst hc hd hc2 hd2
  have he:its=[]:=r1.nil_iff.mpr hx
  exact concat_meets ⟨_,ho,rfl⟩ ⟨_,ho2,rfl⟩ noFill_tuple_add seq_tuple_add rK qN (pX _ _) (tuple_addW0 a b its.toArray its2.toArray n n2 dd dd2 sl sl2 (by simp [he])) ⟨ho,ho2,⟨.ref b,H,I,rfl,q0 hx⟩⟩
 ·exact WT pins s σ H (.ref a) (.ref b) v u Q I rx ry ⟨a,b,xs,ys,rfl,rfl,ha,hb,hx,hz,q1 hx,q2 hx⟩
def aAm (K:aD):R2:=λx y H Q=>∃ l b xs zs,x=.ref l/\y=.ref b/\mK K H l xs/\mK K H b zs/\xs.length+zs.length<=bD/\∀ p,H p=none->Q (.ref p) (fZ H p (.lst (xs++zs)))
theorem MA:nF X (binaryOp .Add) (aAm X.K):=by
 intro pins s σ H x y v u Q I rx ry h
 obtain ⟨l,b,xs,zs,rfl,rfl,ha,hb,hz,q⟩:=h
 cases rx
 cases ry
 obtain ⟨its,r1,⟨⟨cls,dd,data,sl⟩,n,ho,hc,hdd,hd⟩,_⟩:=I.list ha
 obtain ⟨its2,r2,⟨⟨cls2,dd2,data2,sl2⟩,n2,ho2,hc2,hdd2,hd2⟩,_⟩:=I.list hb
 simp only at hc hd hc2 hd2
 subst hc hd hc2 hd2
 have hz':its.toArray.size+its2.toArray.size<=bD:=by rw [bR,bR,<- r1.length,<- r2.length];exact hz
 refine concat_meets ⟨_,ho,rfl⟩ ⟨_,ho2,rfl⟩ noFill_list_add seq_list_add PySem.F.slot_list_add PySem.F.entry_list_add (PySem.F.args_list_add_2 _ _) (list_addW l b its.toArray its2.toArray n n2 dd dd2 sl sl2 hz') ⟨ho,ho2,?_⟩
 have ea:its.toArray++its2.toArray=(its++its2).toArray:=by simp
 rw [ea]
 exact ⟨.ref _,_,I.lnew (t':=s.toks) (r1.append r2) (by rw [bL];exact hz),rfl,q _ I.fresh⟩
def LX (K:aD):R2:=λx y H Q=>(RK λi j=>.int (i+j)) x y H Q\/(∃ i j,x=.str i/\y=.str j/\i.length+j.length<=bD/\Q (.str (i++j)) H)\/RL K x y H Q\/aAm K x y H Q
theorem dC:nF X (binaryOp .Add) (LX X.K):=aCr.or (JP.or (SF.or MA))
def LW:R2:=λx y H Q=>(rI K0 λi j=>.int (i*j)) x y H Q\/∃ z n,x=.str z/\y=.int n/\z.length<=1000/\0<=n/\n<=1000/\Q (.str (Txt.mul z n)) H
theorem JN:nF X (binaryOp .Mult) (λx y H Q=>∃ z n,x=.str z/\y=.int n/\z.length<=1000/\0<=n/\n<=1000/\Q (.str (Txt.mul z n)) H):=by
 intro pins s σ H x y v u Q I rx ry h
 obtain ⟨z,n,rfl,rfl,hz,h0,h1,q⟩:=h
 obtain ⟨t,rfl⟩:=rx
 obtain ⟨t',rfl⟩:=ry
 refine SB.mul ⟨by simp;omega,λa _=>?_,λ_ _=>?_⟩ λt'' k=>⟨.str _,H,I.tok k,⟨t'',rfl⟩,q⟩
 ·have hn:1<=n:=by omega
  have:(1000:Int)<=(2 ^ 63-1) / n:=by
   rw [Int.le_ediv_iff_mul_le (by omega)]
   omega
  omega
 ·have:z.length*n.toNat<=1000*1000:=mY hz (by omega)
  unfold Builtin.Str.tooLong
  have hL:bD=2 ^ 24:=rfl
  simp only [decide_eq_false_iff_not]
  omega
theorem gZ:nF X (binaryOp .Mult) LW:=aCm.or JN
def aCd:R2:=λx y H Q=>∃ b,y=.bl b/\Q (.bl (decide (x=.bl b))) H
def EY:R2:=λx y H Q=>∃ b,y=.bl b/\Q (.bl (!decide (x=.bl b))) H
theorem aAq {x:V} {v:Value} {b:Bool} (r:gC x v):plainIs v (.bool b)=true/\(v == Value.bool b)=decide (x=.bl b):=by
 cases x with
 | non=>cases r;exact ⟨rfl,rfl⟩
 | bl c=>cases r;cases b<;>cases c<;>exact ⟨rfl,rfl⟩
 | int _=>obtain ⟨t,rfl⟩:=r;exact ⟨rfl,rfl⟩
 | str _=>obtain ⟨t,rfl⟩:=r;exact ⟨rfl,rfl⟩
 | byt _=>obtain ⟨t,rfl⟩:=r;exact ⟨rfl,rfl⟩
 | flt _=>obtain ⟨t,rfl⟩:=r;exact ⟨rfl,rfl⟩
 | ref _=>cases r;exact ⟨rfl,rfl⟩
 | ty _=>cases r;exact ⟨rfl,rfl⟩
theorem N5:nF X (compareOp .IsNot) EY:=by
 intro pins s σ H x y v u Q I rx ry h
 obtain ⟨b,rfl,q⟩:=h
 cases ry
 obtain ⟨h1,h2⟩:=aAq (b:=b) rx
 refine wpAny_isNot_plain h1 ?_
 rw [h2]
 exact ⟨.bl _,H,I,rfl,q⟩
theorem aCo:nF X (compareOp .Is) aCd:=by
 intro pins s σ H x y v u Q I rx ry h
 obtain ⟨b,rfl,q⟩:=h
 cases ry
 obtain ⟨h1,h2⟩:=aAq (b:=b) rx
 refine wpAny_is_plain h1 ?_
 rw [h2]
 exact ⟨.bl _,H,I,rfl,q⟩
theorem LH:∀ {ys:List Str} {us:List Value},fG (ys.map V.str) us->StrsAre us ys
 | [],_,r=>by rw [jW] at r;cases r;exact .nil
 | y::ys,us,r=>by
  rw [aX] at r
  cases r with
  | cons r1 r2 =>
   obtain ⟨t,rfl⟩:=r1
   exact .cons y t (LH r2)
theorem W3:PP X "str.join" (λx xs H Q=>∃ z p ys,x=.str z/\xs=[.ref p]/\mK X.K H p (ys.map V.str)/\(ys.map (·.length)).sum+ys.length*z.length<=16777216/\Q (.str (Txt.join z ys)) H):=by
 intro pins s σ H x xs v us Q I rx r h
 obtain ⟨z,p,ys,rfl,rfl,hq,hz,q⟩:=h
 obtain ⟨t,rfl⟩:=rx
 obtain ⟨u,rfl,ru⟩:=rL r
 cases ru
 obtain ⟨its,rv,pl,_⟩:=I.list hq
 exact PyProof.Rows.join_list pl.isList (by simpa using LH rv) hz λt' k=>⟨.str _,H,I.tok k,⟨t',rfl⟩,q⟩
def IS (K:aD) (H:Hp):V->String->Prop
 | .non,T=>T="NoneType"
 | .bl _,T=>T="bool"
 | .int _,T=>T="int"
 | .str _,T=>T="str"
 | .ref p,T=>(T="list"/\∃ xs,mK K H p xs)\/(T="tuple"/\∃ xs,rW K H p xs)\/(T="list"/\∃ P,H p=some (.ext P)/\∀ h:Heap,P h->∃ o,h.get? p=some o/\o.cls=.type "list")
 | _,_=>False
theorem XF {pins:List (Addr×Obj)} {σ:L2.St} {H:Hp} {s:Shared} {A:Around} {E:Value->Shared->Prop} {Q:Value->Shared->Prop} {x:V} {u c:Value} {T:String} {b:Bool} (I:dP X pins σ H s) (rx:gC x u) (ty:IS X.K H x T)
  (e:kK X.K (.type T) c=some b) (h:∀ tk,Q (.bool b) { s with toks:=tk }):wpAny (model X.prog X.w) A (call (.builtin "isinstance") [u,c]) Q E s:=by
 cases x with
 | non=>cases (show T="NoneType" from ty);exact tR I rx .non e h
 | bl y=>cases (show T="bool" from ty);exact tR I rx (.bl y) e h
 | int i=>cases (show T="int" from ty);exact tR I rx (.int i) e h
 | str y=>cases (show T="str" from ty);exact tR I rx (.str y) e h
 | ref p =>
  cases rx
  rcases ty with ⟨rfl,xs,hq⟩ | ⟨rfl,xs,hq⟩ | ⟨rfl,P,hq,hP⟩
  ·obtain ⟨its,_,pl,_⟩:=I.list hq
   obtain ⟨o,n,ho,hc,_⟩:=pl
   exact eO pI I.kIn ⟨o,ho,hc⟩ e (λz=>nomatch z) h
  ·obtain ⟨its,_,pl,_⟩:=I.tuple hq
   obtain ⟨o,ho,hc,_⟩:=pl
   exact eO K1 I.kIn ⟨o,ho,hc⟩ e (λz=>nomatch z) h
  ·obtain ⟨o,ho,hc⟩:=hP _ (I.hok p _ hq).1
   exact eO pI I.kIn ⟨o,ho,hc⟩ e (λz=>nomatch z) h
 | _=>exact False.elim ty
end
def aHk (l:List Str) (y:Str):List Str:=if y∈l then l else l++[y]
def dd (ys:List Str):List Str:=ys.foldl aHk []
section
variable {prog:bF} {w:World} {A:Around}
end
section
variable {X:Cx}
end
end L2

namespace TL
open PySem PySem.Spec PyProof.Rows L2
variable {K:aD} {H H' H1 H2:Hp} {B:Hp} {p0 ps:List Addr} {σT:List Sl} {σ:L2.St}
section
variable {X:Cx} {a b c e:Expr} {es:List Expr} {ta tb tc te:ET} {pos p:Pos}
def fI (C:Int->Int->Prop) (g:Int->Int->Int):D->D->(D->Prop)->Prop
 | .int i,.int j,Q=>C i j/\Q (.int (g i j))
 | _,_,_=>False
def fI0 (g:Int->Int->Int):D->D->(D->Prop)->Prop
 | .int i,.int j,Q=>Q (.int (g i j))
 | _,_,_=>False
def fB0 (g:Int->Int->Bool):D->D->(D->Prop)->Prop
 | .int i,.int j,Q=>Q (.bool (g i j))
 | _,_,_=>False
theorem CD {C:Int->Int->Prop} {g:Int->Int->Int}:zG X (rI C λi j=>.int (g i j)) (fI C g):=by
 intro H ps d1 d2 x y Q QV live r1 r2 h k
 cases r1 with
 | int i =>
  cases r2 with
  | int j=>exact ⟨i,j,rfl,rfl,h.1,k _ _ H (L2.bB.refl H) (.int _) h.2⟩
  | _=>exact h.elim
 | _=>exact h.elim
theorem wT {g:Int->Int->Int}:zG X (RK λi j=>.int (g i j)) (fI0 g):=by
 intro H ps d1 d2 x y Q QV live r1 r2 h k
 cases r1 with
 | int i =>
  cases r2 with
  | int j=>exact ⟨i,j,rfl,rfl,k _ _ H (L2.bB.refl H) (.int _) h⟩
  | _=>exact h.elim
 | _=>exact h.elim
theorem rA {g:Int->Int->Bool}:zG X (RK λi j=>.bl (g i j)) (fB0 g):=by
 intro H ps d1 d2 x y Q QV live r1 r2 h k
 cases r1 with
 | int i =>
  cases r2 with
  | int j=>exact ⟨i,j,rfl,rfl,k _ _ H (L2.bB.refl H) (.bool _) h⟩
  | _=>exact h.elim
 | _=>exact h.elim
def aJw:D->D->(D->Prop)->Prop
 | .int i,.int j,Q=>Q (.int (i+j))
 | .str x,.str y,Q=>x.length+y.length<=100000/\Q (.str (x++y))
 | .tuple x,.tuple y,Q=>x.length+y.length<=100000/\Q (.tuple (x++y))
 | .list x,.list y,Q=>x.length+y.length<=100000/\Q (.list (x++y))
 | _,_,_=>False
theorem yZ {n:Nat} (h:n<=100000):n<=bD:=by have:bD=2 ^ 24:=rfl;omega
theorem iB:zG X (LX X.K) aJw:=by
 intro H ps d1 d2 x y Q QV live r1 r2 h k
 cases r1 with
 | int i =>
  cases r2 with
  | int j=>exact .inl ⟨i,j,rfl,rfl,k _ _ H (L2.bB.refl H) (.int _) h⟩
  | _=>exact h.elim
 | str i =>
  cases r2 with
  | str j=>exact .inr (.inl ⟨i,j,rfl,rfl,yZ h.1,k _ _ H (L2.bB.refl H) (.str _) h.2⟩)
  | _=>exact h.elim
 | tuple q1 s1 =>
  cases r2 with
  | tuple q2 s2 =>
   refine .inr (.inr (.inl ⟨_,_,_,_,rfl,rfl,bB.seqT bV q1,bB.seqT bV q2,yZ (by rw [<- s1.length,<- s2.length];exact h.1),λz=>?_,λz1 z2=>?_,λz1 z2 p hp=>?_⟩))
   ·subst z
    cases s1
    exact k _ _ H (L2.bB.refl H) (.tuple q2 s2) h.2
   ·subst z2
    cases s2
    have e:=h.2
    rw [fA] at e
    exact k _ _ H (L2.bB.refl H) (.tuple q1 s1) e
   ·exact k _ _ _ (dF hp) (pB live hp (s1.append s2)) h.2
  | _=>exact h.elim
 | list q1 s1 =>
  cases r2 with
  | list q2 s2 =>
   exact .inr (.inr (.inr ⟨_,_,_,_,rfl,rfl,L2.bB.seq bV q1,L2.bB.seq bV q2,yZ (by rw [<- s1.length,<- s2.length];exact h.1),λp hp=>k _ _ _ (dF hp) (pC live hp (s1.append s2)) h.2⟩))
  | _=>exact h.elim
 | _=>exact h.elim
def aJu:D->D->(D->Prop)->Prop
 | .int i,.int j,Q=>K0 i j/\Q (.int (i*j))
 | .str z,.int n,Q=>z.length<=1000/\0<=n/\n<=1000/\Q (.str (Txt.mul z n))
 | _,_,_=>False
theorem oI:zG X LW aJu:=by
 intro H ps d1 d2 x y Q QV live r1 r2 h k
 cases r1 with
 | int i =>
  cases r2 with
  | int j=>exact .inl ⟨i,j,rfl,rfl,h.1,k _ _ H (L2.bB.refl H) (.int _) h.2⟩
  | _=>exact h.elim
 | str z =>
  cases r2 with
  | int n=>exact .inr ⟨z,n,rfl,rfl,h.1,h.2.1,h.2.2.1,k _ _ H (L2.bB.refl H) (.str _) h.2.2.2⟩
  | _=>exact h.elim
 | _=>exact h.elim
def eqF:D->D->Option Bool
 | .none,.none=>some true
 | .bool x,.bool y=>some (decide (x=y))
 | .int x,.int y=>some (decide (x=y))
 | .str x,.str y=>some (decide (x=y))
 | .str _,.none | .none,.str _=>some false
 | _,_=>none
def fEq (x y:D) (Q:D->Prop):Prop:=match eqF x y with | some c=>Q (.bool c) | none=>False
def fNe (x y:D) (Q:D->Prop):Prop:=match eqF x y with | some c=>Q (.bool (!c)) | none=>False
theorem HP {x y:D} {u v:V} {c:Bool} (r1:gE K H x u) (r2:gE K H y v) (h:eqF x y=some c):aB2 u v=true/\decide (u=v)=c:=by
 cases r1<;>cases r2<;>simp [eqF] at h<;>subst h<;>exact ⟨rfl,by simp⟩
theorem kZ:zG X rEq fEq:=by
 intro H ps d1 d2 x y Q QV live r1 r2 h k
 unfold fEq at h
 cases e:eqF d1 d2 with
 | none=>rw [e] at h;exact h.elim
 | some c =>
  rw [e] at h
  obtain ⟨h1,h2⟩:=HP r1 r2 e
  refine ⟨h1,?_⟩
  rw [h2]
  exact k _ _ H (L2.bB.refl H) (.bool c) h
theorem OD:zG X rNe fNe:=by
 intro H ps d1 d2 x y Q QV live r1 r2 h k
 unfold fNe at h
 cases e:eqF d1 d2 with
 | none=>rw [e] at h;exact h.elim
 | some c =>
  rw [e] at h
  obtain ⟨h1,h2⟩:=HP r1 r2 e
  refine ⟨h1,?_⟩
  rw [h2]
  exact k _ _ H (L2.bB.refl H) (.bool (!c)) h
def tT (b:Bool):D->Bool
 | .bool c=>decide (c=b)
 | _=>false
theorem Reps.atI {ds:List D} {vs:List V} {i:Int} {d:D} (r:Reps K H ds vs) (h:atI ds i=some d):∃ v,atI vs i=some v/\gE K H d v:=by
 unfold L2.atI at h |-
 rw [<- r.length]
 cases e:XD ds.length i with
 | none=>rw [e] at h;cases h
 | some j =>
  rw [e] at h
  exact r.get h
inductive KW (ts:List D) (i:Int) (Q:D->Prop):Prop
 | mk (d:D) (h:atI ts i=some d) (k:Q d):KW ts i Q
def fIx (x y:D) (Q:D->Prop):Prop:=match x,y with
 | .list ts,.int i=>KW ts i Q
 | .tuple ts,.int i=>KW ts i Q
 | .str z,.int i=>z.length<=100000/\∃ c,atI z.cps.toList i=some c/\Q (.str ⟨#[c]⟩)
 | _,_=>False
theorem dE:zG X (rIx X.K) fIx:=by
 intro H ps d1 d2 x y Q QV live r1 r2 h k
 cases r2 with
 | int i =>
  cases r1 with
  | list q s =>
   obtain ⟨d,e,h⟩:=h
   obtain ⟨v,e',r⟩:=s.atI e
   exact .inl ⟨_,_,i,v,rfl,rfl,L2.bB.seq bV q,e',k _ _ H (L2.bB.refl H) r h⟩
  | tuple q s =>
   obtain ⟨d,e,h⟩:=h
   obtain ⟨v,e',r⟩:=s.atI e
   exact .inr (.inl ⟨_,_,i,v,rfl,rfl,bB.seqT bV q,e',k _ _ H (L2.bB.refl H) r h⟩)
  | str z =>
   obtain ⟨hz,c,e,h⟩:=h
   exact .inr (.inr ⟨z,i,c,rfl,rfl,yZ hz,e,k _ _ H (L2.bB.refl H) (.str _) h⟩)
  | _=>exact h.elim
 | _=>cases d1<;>exact h.elim
def mJ {α:Type} (xs:List α) (lo hi:Option Int):List α:=(xs.drop (HT.sIx xs.length 0 lo)).take (HT.sIx xs.length xs.length hi-HT.sIx xs.length 0 lo)
def fSl (x:D) (lo hi:Option Int) (Q:D->Prop):Prop:=match x with
 | .list ts=>Q (.list (mJ ts lo hi))
 | .tuple ts=>Q (.tuple (mJ ts lo hi))
 | .str z=>z.length<=100000/\Q (.str (Txt.slice z lo hi))
 | _=>False
theorem Reps.cut {ds:List D} {vs:List V} (r:Reps K H ds vs) (lo hi:Option Int):Reps K H (mJ ds lo hi) (FM vs lo hi):=by
 unfold mJ FM
 rw [r.length]
 exact (r.drop _).take _
theorem CL:SlT X (RJ X.K) fSl:=by
 intro H ps d x lo hi Q QV live r h k
 cases r with
 | list q s=>exact .inl ⟨_,_,rfl,L2.bB.seq bV q,λp hp=>k _ _ _ (dF hp) (pC live hp (s.cut lo hi)) h⟩
 | @tuple p xs ts q s =>
  refine .inr (.inl ⟨_,_,rfl,bB.seqT bV q,λz=>?_,λ_ p hp=>k _ _ _ (dF hp) (pB live hp (s.cut lo hi)) h⟩)
  have e:mJ ts lo hi=ts:=by
   unfold mJ
   rw [s.length,z.1,z.2,aHz,EI,<- s.length,dR]
  have h':Q (.tuple (mJ ts lo hi)):=h
  rw [e] at h'
  exact k _ _ H (L2.bB.refl H) (.tuple q s) h'
 | str z=>exact .inr (.inr ⟨z,rfl,yZ h.1,k _ _ H (L2.bB.refl H) (.str _) h.2⟩)
 | _=>exact h.elim
theorem C7:∀ {ys:List Str} {vs:List V},Reps K H (ys.map aP) vs->vs=ys.map V.str
 | [],_,r=>by rw [jW] at r;cases r;rfl
 | y::ys,vs,r=>by
  rw [aX] at r
  cases r with
  | cons r1 r2 =>
   cases r1
   rw [aX,C7 r2]
theorem aAy {r:List V->Hp->VK->Prop} {f:List D->(D->Prop)->Prop} {t:AT} {g:Expr} (hf:tD X r f) (ha:xU X (e::es) t) (pc:∀ {ta:TA},PA X (e::es) ta->PE X (.Call g (e::es) [] pos) (QS r ta)):hU X (.Call g (e::es) [] pos) (mS f t):=by
 obtain ⟨v,pa,ra⟩:=ha
 refine ⟨_,pc pa,λB p0 H ps σT σ Q QV o h k=>ra B p0 H ps σT σ _ _ o h λds xs H1 s1 r1 q1=>?_⟩
 exact hf H1 ps ds xs Q QV (o.grow s1).live r1 q1 λd v H' s' r' q'=>k d v H' (s1.trans s') r' q'
def f1 (f:D->(D->Prop)->Prop):List D->(D->Prop)->Prop
 | [d],Q=>f d Q
 | _,_=>False
theorem c1 {r:List V->Hp->VK->Prop} {f:D->(D->Prop)->Prop} (h:∀ (H:Hp) (ps:List Addr) (d:D) (x:V) (Q:D->Prop) (QV:VK),(∀ p∈ps,H p≠none)->gE X.K (mask H ps) d x->f d Q ->
  (∀ d v H',bB H H'->gE X.K (mask H' ps) d v->Q d->QV v H')->r [x] H QV):tD X r (f1 f):=by
 intro H ps ds xs Q QV live rs hf k
 cases rs with
 | nil=>exact hf.elim
 | cons r1 r2 =>
  cases r2 with
  | nil=>exact h H ps _ _ Q QV live r1 hf k
  | cons _ _=>exact hf.elim
def aG4 (d:D) (Q:D->Prop):Prop:=match d with
 | .list ts=>Q (.int ts.length)
 | .tuple ts=>Q (.int ts.length)
 | .str z=>z.length<=100000/\Q (.int z.length)
 | _=>False
theorem cX:kJ X (.builtin "len") (λxs H Q=>(∃ p ys,xs=[.ref p]/\(mK X.K H p ys\/rW X.K H p ys)/\Q (.int ys.length) H)\/∃ z,xs=[.str z]/\z.length<=bD/\Q (.int z.length) H):=FS.or FR
theorem iV:tD X (λxs H Q=>(∃ p ys,xs=[.ref p]/\(mK X.K H p ys\/rW X.K H p ys)/\Q (.int ys.length) H)\/∃ z,xs=[.str z]/\z.length<=bD/\Q (.int z.length) H) (f1 aG4):=c1 λH ps d x Q QV live r h k=>by
 cases r with
 | list q s =>
  refine .inl ⟨_,_,rfl,.inl (L2.bB.seq bV q),?_⟩
  rw [<- s.length]
  exact k _ _ H (L2.bB.refl H) (.int _) h
 | tuple q s =>
  refine .inl ⟨_,_,rfl,.inr (bB.seqT bV q),?_⟩
  rw [<- s.length]
  exact k _ _ H (L2.bB.refl H) (.int _) h
 | str z=>exact .inr ⟨z,rfl,yZ h.1,k _ _ H (L2.bB.refl H) (.int _) h.2⟩
 | _=>exact h.elim
def FG (d:D) (Q:D->Prop):Prop:=match d with
 | .list ts=>Q (.tuple ts)
 | .tuple ts=>Q (.tuple ts)
 | _=>False
theorem rG:tD X (λxs H Q=>∃ p ys,xs=[.ref p]/\((mK X.K H p ys/\∀ l,H l=none->Q (.ref l) (fZ H l (.tup ys)))\/(rW X.K H p ys/\Q (.ref p) H))) (f1 FG):=c1 λH ps d x Q QV live r h k=>by
 cases r with
 | list q s=>exact ⟨_,_,rfl,.inl ⟨L2.bB.seq bV q,λl hl=>k _ _ _ (dF hl) (pB live hl s) h⟩⟩
 | tuple q s=>exact ⟨_,_,rfl,.inr ⟨bB.seqT bV q,k _ _ H (L2.bB.refl H) (.tuple q s) h⟩⟩
 | _=>exact h.elim
def aG3 (d:D) (Q:D->Prop):Prop:=match d with
 | .list ts=>Q (.list ts)
 | .tuple ts=>Q (.list ts)
 | _=>False
theorem KK:tD X (λxs H Q=>∃ p ys,xs=[.ref p]/\(mK X.K H p ys\/rW X.K H p ys)/\∀ l,H l=none->Q (.ref l) (fZ H l (.lst ys))) (f1 aG3):=c1 λH ps d x Q QV live r h k=>by
 cases r with
 | list q s=>exact ⟨_,_,rfl,.inl (L2.bB.seq bV q),λl hl=>k _ _ _ (dF hl) (pC live hl s) h⟩
 | tuple q s=>exact ⟨_,_,rfl,.inr (bB.seqT bV q),λl hl=>k _ _ _ (dF hl) (pC live hl s) h⟩
 | _=>exact h.elim
theorem tM:∀ {ys:List Int} {vs:List V},Reps K H (ys.map aO) vs->vs=ys.map V.int
 | [],_,r=>by rw [jW] at r;cases r;rfl
 | y::ys,vs,r=>by
  rw [aX] at r
  cases r with
  | cons r1 r2 =>
   cases r1
   rw [aX,tM r2]
def f2 (f:D->D->(D->Prop)->Prop):List D->(D->Prop)->Prop
 | [d,d'],Q=>f d d' Q
 | _,_=>False
def aG2 (x y:D) (Q:D->Prop):Prop:=match x,y with | .int i,.int j=>Q (.int (if j<i then j else i)) | _,_=>False
theorem KJ:tD X (λxs H Q=>∃ i j,xs=[.int i,.int j]/\Q (.int (if j<i then j else i)) H) (f2 aG2):=by
 intro H ps ds xs Q QV live rs hf k
 cases rs with
 | nil=>exact hf.elim
 | cons r1 r2 =>
  cases r2 with
  | nil=>exact hf.elim
  | cons r3 r4 =>
   cases r4 with
   | cons _ _=>exact hf.elim
   | nil =>
    cases r1 with
    | int i =>
     cases r3 with
     | int j=>exact ⟨i,j,rfl,k _ _ H (L2.bB.refl H) (.int _) hf⟩
     | _=>exact hf.elim
    | _=>exact hf.elim
def tyD:D->String
 | .none=>"NoneType"
 | .bool _=>"bool"
 | .int _=>"int"
 | .str _=>"str"
 | .list _=>"list"
 | .tuple _=>"tuple"
 | .dict []=>"list"
 | .dict [(.none,_)]=>"list"
 | .dict _=>"dict"
def P2 (T:String) (d:D):Bool:=(tyD d == T) || (T == "int" && tyD d == "bool")
theorem MM {T:String} {i:Int} {x:D} (h:T∈["int","str","list","tuple","bool"]):P2 T (.dict [(.int i,x)])=false:=by
 simp only [aZ,dS,or_false] at h
 rcases h with rfl | rfl | rfl | rfl | rfl<;>rfl
def aC6 (T:String) (d:D) (Q:D->Prop):Prop:=match d with | .dict ((.str _,_)::_)=>False | d=>Q (.bool (P2 T d))
theorem XG {T:String} {d:D} {Q:D->Prop} (h:∀ x y r,d≠.dict ((.str x,y)::r)) (q:aC6 T d Q):Q (.bool (P2 T d)):=by
 unfold aC6 at q
 split at q
 ·exact q.elim
 ·exact q
def aJ1 (T:String) (te:ET):ET:=λσ Q=>te σ λd=>aC6 T d Q
def ID (K:aD) (T:String):Prop:=∀ tn∈["NoneType","bool","int","str","list","tuple"],kK K (.type tn) (.type T)=some ((tn == T) || (T == "int" && tn == "bool"))
def aCc (K:aD) (T:String):List V->Hp->VK->Prop:=λxs H Q=>∃ x b,xs=[x,.ty T]/\((∃ Tn,IS K H x Tn/\kK K (.type Tn) (.type T)=some b)\/(∃ p C dx,x=.ref p/\H p=some (.ext (MU p C dx))/\(∀ d,dx=some d->∃ fs,H d=some (.xd fs))/\FW K C/\kK K (.ref C) (.type T)=some b))/\Q (.bl b) H
theorem J3 {pins:List (Addr×Obj)} {s:Shared} {σ:L2.St} {H:Hp} {A:Around} {E:Value->Shared->Prop} {Q:Value->Shared->Prop} {p C:Addr} {dx:Option Addr} {c:Value} {b:Bool} (I:dP X pins σ H s) (hp:H p=some (.ext (MU p C dx))) (hd:∀ d,dx=some d->∃ fs,H d=some (.xd fs)) (x:FW X.K C)
  (e:kK X.K (.ref C) c=some b) (h:∀ tk,Q (.bool b) { s with toks:=tk }):wpAny (model X.prog X.w) A (call (.builtin "isinstance") [.ref p,c]) Q E s:=by
 refine eO (S5 x) I.kIn ?_ e (λz=>nomatch z) h
 obtain ⟨⟨o,vs,h1,h2,h3,h4⟩,_⟩:=I.hok p _ hp
 have hn:U3 o=true:=by unfold U3;rw [h4]
 cases dx with
 | none=>exact ⟨o,none,h1,h2,hn,by rw [h3];trivial⟩
 | some d =>
  obtain ⟨fs,hf⟩:=hd d rfl
  obtain ⟨mA,⟨od,es,ep,he,_⟩,_⟩:=I.hok d _ hf
  exact ⟨o,some od,h1,h2,hn,by rw [h3];exact he⟩
theorem oM {T:String}:kJ X (.builtin "isinstance") (aCc X.K T):=by
 intro pins s σ H xs us Q I r h
 obtain ⟨x,b,rfl,⟨Tn,ht,hk⟩ | ⟨p,C,dx,rfl,hp,hd,hx,hk⟩,q⟩:=h
 ·obtain ⟨u,w,rfl,ru,rw'⟩:=QJ r
  cases rw'
  exact XF I ru ht hk λtk=>⟨.bl b,H,I.tok tk,rfl,q⟩
 ·obtain ⟨u,w,rfl,ru,rw'⟩:=QJ r
  cases rw'
  cases ru
  exact J3 I hp hd hx hk λtk=>⟨.bl b,H,I.tok tk,rfl,q⟩
theorem vO {T:String} {g1 g2:Expr} (hk:ID X.K T) (he:hU X e te)
  (pc:∀ {v:TE},PE X e v->PE X (.Call g1 [e,g2] [] pos) (QS (aCc X.K T) (uQ v (uQ (tC (.ty T)) EN))))
  (hT:T∈["int","str","list","tuple","bool"]:=by decide):hU X (.Call g1 [e,g2] [] pos) (aJ1 T te):=by
 obtain ⟨v,pe,re⟩:=he
 refine ⟨_,pc pe,λB p0 H ps σT σ Q QV o h k=>re B p0 H ps σT σ _ _ o h λd x H1 s1 r1 q1=>?_⟩
 have fin:∀ tn,tn∈["NoneType","bool","int","str","list","tuple"]->tyD d=tn->IS X.K H1 x tn->aCc X.K T [x,V.ty T] H1 QV:=λtn hm ht hn=>by
  refine ⟨x,_,rfl,.inl ⟨tn,hn,hk tn hm⟩,?_⟩
  have q:Q (.bool (P2 T d)):=XG (λx y r z=>by subst z;have z2:("dict":String)=tn:=ht;subst z2;exact absurd hm (by decide)) q1
  unfold P2 at q
  rw [ht] at q
  exact k _ _ H1 s1 (.bool _) q
 cases r1 with
 | none=>exact fin "NoneType" (by simp) rfl rfl
 | bool b=>exact fin "bool" (by simp) rfl rfl
 | int i=>exact fin "int" (by simp) rfl rfl
 | str z=>exact fin "str" (by simp) rfl rfl
 | list q s=>exact fin "list" (by simp) rfl (.inl ⟨rfl,_,L2.bB.seq bV q⟩)
 | tuple q s=>exact fin "tuple" (by simp) rfl (.inr (.inl ⟨rfl,_,bB.seqT bV q⟩))
 | wild h=>exact fin "list" (by simp) rfl (.inr (.inr ⟨rfl,_,bV _ _ h,λ_ ⟨_,_,e,_⟩=>⟨_,e,rfl⟩⟩))
 | tape h _=>exact fin "list" (by simp) rfl (.inr (.inr ⟨rfl,_,bV _ _ h,λ_ ⟨_,_,_,_,_,_,_,e,_⟩=>⟨_,e,rfl⟩⟩))
 | exc x h =>
  refine ⟨_,false,rfl,.inr ⟨_,_,_,rfl,bV _ _ h,(λ_ z=>nomatch z),x.1,x.2 T hT⟩,?_⟩
  have q2:Q (.bool (P2 T (.dict _))):=q1
  rw [MM hT] at q2
  exact k _ _ H1 s1 (.bool _) q2
 | excA x h g =>
  refine ⟨_,false,rfl,.inr ⟨_,_,_,rfl,bV _ _ h,λ_ z=>by cases z;exact ⟨_,bV _ _ g⟩,x.1,x.2 T hT⟩,?_⟩
  have q2:Q (.bool (P2 T (.dict _))):=q1
  rw [MM hT] at q2
  exact k _ _ H1 s1 (.bool _) q2
 | dct _ _ _ _=>exact (show False from q1).elim
 | addr z=>exact (show False from q1).elim
 | ins _ _=>exact (show False from q1).elim
def aG5 (z:Str) (ds:List D) (Q:D->Prop):Prop:=match ds with | [.list ts]=>∃ ys:List Str,ts=ys.map aP/\(ys.map (·.length)).sum+ys.length*z.length<=16777216/\Q (.str (Txt.join z ys)) | _=>False
def aE3 (i j:Nat) (te:ET):oW:=λDT σ=>te σ λd=>gP i j d σ DT.nx
theorem aBs {i j:Nat} {tg:Expr} {g:TG} (he:hU X e te) (hg:CT X tg (gP i j)) (pa:∀ {v:TE} {gv:TG},PE X e v->PG X tg gv->PS X (.Assign [tg] e pos) (rQ v gv)):xT X (.Assign [tg] e pos) (aE3 i j te):=by
 obtain ⟨v,pe,re⟩:=he
 obtain ⟨gv,pg,rg⟩:=hg
 refine ⟨_,pa pe pg,λB p0 H ps σT σ DT DV o h f=>re B p0 H ps σT σ _ _ o h λd x H1 s1 r1 q1=>?_⟩
 exact rg B p0 H1 ps σT σ d x _ _ (o.grow s1) r1 q1 λσT' σ' o' _ q'=>f.nx H1 ps _ _ o' (bO s1) q'
mutual
theorem gE.reads {pins:List (Addr×Obj)} {s:Shared} {σ:L2.St} (I:dP X pins σ H s):∀ {d:D} {x:V} {u:Value},d.hasDict=false->gE X.K H d x->gC x u->∃ as,Reads s.heap u d as
 | _,_,_,_,.none,r=>by cases r;exact ⟨_,.none⟩
 | _,_,_,_,.bool b,r=>by cases r;exact ⟨_,.bool b⟩
 | _,_,_,_,.int i,r=>by obtain ⟨t,rfl⟩:=r;exact ⟨_,.int i t⟩
 | _,_,_,_,.str z,r=>by obtain ⟨t,rfl⟩:=r;exact ⟨_,.str z t⟩
 | _,_,_,hd,.list q rs,r=>by
  cases r
  obtain ⟨its,rv,⟨o,n,h1,h2,_,h3⟩,_⟩:=I.list q
  obtain ⟨as,h4⟩:=Reps.reads I hd rs rv
  exact ⟨_,.list h1 h2 h3 (by simpa using h4)⟩
 | _,_,_,hd,.tuple q rs,r=>by
  cases r
  obtain ⟨its,rv,⟨o,h1,h2,n,h3⟩,_⟩:=I.tuple q
  obtain ⟨as,h4⟩:=Reps.reads I hd rs rv
  exact ⟨_,.tuple h1 h2 h3 (by simpa using h4)⟩
 | _,_,_,hd,.wild _,_=>by cases hd
 | _,_,_,hd,.exc _ _,_=>by cases hd
 | _,_,_,hd,.excA _ _ _,_=>by cases hd
 | _,_,_,hd,.tape _ _,_=>by cases hd
 | _,_,_,hd,.addr _,_=>by cases hd
theorem Reps.reads {pins:List (Addr×Obj)} {s:Shared} {σ:L2.St} (I:dP X pins σ H s):∀ {ds:List D} {xs:List V} {us:List Value},iH ds=false->Reps X.K H ds xs->fG xs us->∃ as,ReadsAll s.heap us ds as
 | _,_,_,_,.nil,r=>by cases r;exact ⟨_,.nil⟩
 | d::ds,_,_,hd,.cons r1 r2,r=>by
  have hd':(d.hasDict || iH ds)=false:=hd
  rw [NL] at hd'
  cases r with
  | cons v1 v2 =>
   obtain ⟨as,h1⟩:=gE.reads I hd'.1 r1 v1
   obtain ⟨bs,h2⟩:=Reps.reads I hd'.2 r2 v2
   exact ⟨_,.cons h1 h2⟩
end
end
end TL

namespace TL
open PySem PySem.Spec PyProof.Rows L2
def aCs (names:List (Str×NameKind)):Bool:=match names.filter (λy=>y.2 == NameKind.cell) with
 | []=>true
 | [x]=>names.lookup x.1 == some .cell
 | _=>false
theorem WV {names:List (Str×NameKind)} (h:aCs names=true):uC names:=by
 unfold aCs at h
 split at h
 ·rename_i e
  exact .inl e
 ·rename_i x e
  have hx:x∈names.filter (λy=>y.2 == NameKind.cell):=by rw [e];exact cZ.mpr rfl
  have hk:x.2=.cell:=eq_of_beq (bY.mp hx).2
  exact .inr ⟨x.1,by rw [e,<- hk],beq_iff_eq.mp h⟩
 ·cases h
def uT (sc out:Scope) (Nx N':List Str) (fr:List (Option Nat)):Bool :=
 decide (sc.kind=.function) && aCs sc.names && sc.names.all (λy=>decide (y.2≠.free) || decide (out.names.lookup y.1=some .cell)) && sc.names.all (λy=>decide (y.2≠.local) || decide (sc.names.lookup y.1=some .local)) && sT sc.names out.names Nx N' fr
section
variable {X:Cx} {elt iter tg a:Expr} {ifs:List Expr} {scope:Scope} {pos:Pos} {N':List Str} {fr:List (Option Nat)} {wi:TI} {g:BP->TG} {tt:BP->TT} {te:BP->TE}
theorem DI {out:Scope} {Nx:List Str} (h:uT scope out Nx N' fr=true):scope.kind=.function/\uC scope.names/\(∀ y∈scope.names,y.2=.free->out.names.lookup y.1=some .cell)/\(∀ y∈scope.names,y.2=.local->scope.names.lookup y.1=some .local)/\sT scope.names out.names Nx N' fr=true:=by
 unfold uT at h
 simp only [cJ,jO,tJ,decide_eq_true_eq] at h
 obtain ⟨⟨⟨⟨h1,h2⟩,h3⟩,h4⟩,h5⟩:=h
 exact ⟨h1,WV h2,λy hy e=>(h3 y hy).elim (λz=>absurd e z) id,λy hy e=>(h4 y hy).elim (λz=>absurd e z) id,h5⟩
theorem JM (h:uT scope X.env.scope X.N N' fr=true) (hcalm:X.calm=true) (hi:PI X tg iter wi)
  (hY:∀ b:BP,PG (blk X scope N' b) tg (g b)/\KR (blk X scope N' b) ifs (tt b)/\PE (blk X scope N' b) elt (te b)) (hs:∀ x,foldedSetIterable iter X.env x=pure x:=by intro _;rfl):PE X (.ListComp elt [⟨tg,iter,ifs,0⟩] scope pos) (LE fr wi g tt te):=by
 obtain ⟨h1,h2,h3,h4,h5⟩:=DI h
 exact aFl hcalm h1 h2 h5 h3 h4 hi hY hs
theorem xX {i:Nat} {x:Str} {px spos:Pos} (h:uT scope X.env.scope X.N N' fr=true) (hN:X.N.Nodup) (hix:X.N[i]?=some x) (hx:NC X.env.scope x) (hcalm:X.calm=true) (hi:PI X tg iter wi)
  (hY:∀ b:BP,PG (blk X scope N' b) tg (g b)/\KR (blk X scope N' b) ifs (tt b)/\PE (blk X scope N' b) elt (te b))
  (hsw:gT (.ListComp elt [⟨tg,iter,ifs,0⟩] scope pos) (some (.Name x px)) spos.line X.env=pure true) (hs:∀ x,foldedSetIterable iter X.env x=pure x:=by intro _;rfl) (hf:X.fn x=true\/X.env.scope.names.lookup x=some .local:=by first | exact .inl rfl | exact .inr rfl) :
  PS X (.Assign [.Name x px] (.ListComp elt [⟨tg,iter,ifs,0⟩] scope pos) spos) (rQ (LE fr wi g tt te) (jE i)):=by
 obtain ⟨h1,h2,h3,h4,h5⟩:=DI h
 exact RQ hN hix hx hcalm h1 h2 h5 h3 h4 hi hY hsw hs hf
end
theorem KL:bootBuiltins "min"=some (.builtin "min"):=by decide +kernel
theorem KM:bootBuiltins "max"=some (.builtin "max"):=by decide +kernel
theorem jC:bootBuiltins "isinstance"=some (.builtin "isinstance"):=by decide +kernel
theorem gO:bootBuiltins "len"=some (.builtin "len"):=by decide +kernel
theorem aDp:bootBuiltins "set"=some (.type "set"):=by decide +kernel
theorem iW:bootBuiltins "tuple"=some (.type "tuple"):=by decide +kernel
theorem tZ:bootBuiltins "list"=some (.type "list"):=by decide +kernel
theorem YG:bootBuiltins "bool"=some (.type "bool"):=by decide +kernel
theorem aDq:bootBuiltins "int"=some (.type "int"):=by decide +kernel
theorem tQ (K:aD):ID K "tuple":=by
 intro tn h
 simp only [aZ,dS,or_false] at h
 rcases h with rfl | rfl | rfl | rfl | rfl | rfl<;>first | rfl | (with_unfolding_all rfl) | decide +kernel
theorem S7 (K:aD):ID K "bool":=by
 intro tn h
 simp only [aZ,dS,or_false] at h
 rcases h with rfl | rfl | rfl | rfl | rfl | rfl<;>first | rfl | (with_unfolding_all rfl) | decide +kernel
theorem XA (K:aD):ID K "int":=by
 intro tn h
 simp only [aZ,dS,or_false] at h
 rcases h with rfl | rfl | rfl | rfl | rfl | rfl<;>first | rfl | (with_unfolding_all rfl) | decide +kernel
theorem S6 (K:aD):ID K "list":=by
 intro tn h
 simp only [aZ,dS,or_false] at h
 rcases h with rfl | rfl | rfl | rfl | rfl | rfl<;>first | rfl | (with_unfolding_all rfl) | decide +kernel

theorem set_set {α:Type} (l:List α) (i:Nat) (a b:α):(l.set i a).set i b=l.set i b:=by
 apply gD
 intro j
 by_cases h:i=j
 ·subst h
  by_cases hl:i<l.length
  ·rw [aY (by simpa using hl),aY hl]
  ·rw [gG (by simpa using hl),gG (by simpa using hl)]
 ·rw [aW h,aW h,aW h]
theorem aGt {ts:List D} {σb:List Sl} {te:ET} {Q:D->Prop} (R:Nat->D->D->Prop) (hz:ts.length<=100000)
  (ht:∀ (k:Nat) (x:D) (q:D->Prop),ts[k]?=some x->(∀ y,R k x y->q y)->te (σb.set 0 (.val x)) q)
  (hq:∀ ys:List D,ys.length=ts.length->(∀ (k:Nat) (x y:D),ts[k]?=some x->ys[k]?=some y->R k x y)->Q (.list ys)) :
  ts.length<=100000/\∃ P:Nat->List Sl->List D->Prop,P 0 σb [] /\
   (∀ (k:Nat) (x:D) (σ':List Sl) (ds:List D),ts[k]?=some x->P k σ' ds->gN 0 x σ' λσ2=>xI σ2 λb=>if b=true then te σ2 λy=>P (k+1) σ2 (ds++[y]) else P (k+1) σ2 ds)/\∀ σ' ds,P ts.length σ' ds->Q (.list ds):=by
 refine ⟨hz,λk σ' ds=>(∀ x,σ'.set 0 (.val x)=σb.set 0 (.val x))/\ds.length=k/\∀ (j:Nat) (x y:D),ts[j]?=some x->ds[j]?=some y->R j x y,⟨λ_=>rfl,rfl,λj x y _ h=>by simp at h⟩,λk x σ' ds hx h=>?_,λσ' ds h=>hq ds h.2.1 h.2.2⟩
 obtain ⟨h1,h2,h3⟩:=h
 show te (σ'.set 0 (.val x)) _
 rw [h1 x]
 refine ht k x _ hx λy hy=>⟨λz=>set_set _ _ _ _,by simp [h2],λj x' y' e1 e2=>?_⟩
 by_cases hj:j<k
 ·rw [dH (by omega)] at e2
  exact h3 j x' y' e1 e2
 ·rw [dN (by omega)] at e2
  have:j=k:=by
   by_cases e:j=k
   ·exact e
   ·have:j-ds.length≠0:=by omega
    cases q:j-ds.length with
    | zero=>exact absurd q this
    | succ n=>rw [q] at e2;simp at e2
  subst this
  rw [hx] at e1
  cases e1
  simp [h2] at e2
  subst e2
  exact hy
theorem aCy {ts:List D} {σb:List Sl} {te:ET} {Q:D->Prop} (f:D->D) (hz:ts.length<=100000) (ht:∀ (x:D) (q:D->Prop),x∈ts->q (f x)->te (σb.set 0 (.val x)) q) (hq:Q (.list (ts.map f))) :
  ts.length<=100000/\∃ P:Nat->List Sl->List D->Prop,P 0 σb [] /\
   (∀ (k:Nat) (x:D) (σ':List Sl) (ds:List D),ts[k]?=some x->P k σ' ds->gN 0 x σ' λσ2=>xI σ2 λb=>if b=true then te σ2 λy=>P (k+1) σ2 (ds++[y]) else P (k+1) σ2 ds)/\∀ σ' ds,P ts.length σ' ds->Q (.list ds):=by
 refine aGt (λk x y=>y=f x) hz (λk x q hx h=>ht x q (aV hx) (h _ rfl)) λys hl h=>?_
 have e:ys=ts.map f:=by
  apply gD
  intro i
  rw [aI]
  cases hx:ts[i]? with
  | none =>
   rw [gG (by rw [hl];exact qB.mp hx)];rfl
  | some x =>
   have hi:i<ys.length:=by rw [hl];exact (aG.mp hx).1
   have:=h i x ys[i] hx (aH hi)
   rw [aH hi,this];rfl
 rw [e];exact hq
theorem W8 {ts:List D} {σb:List Sl} {tt:qQ} {te:ET} {Q:D->Prop} (p:D->Bool) (f:D->D) (hz:ts.length<=100000) (hp:∀ (x:D) (q:Bool->Prop),x∈ts->q (p x)->tt (σb.set 0 (.val x)) q)
  (ht:∀ (x:D) (q:D->Prop),x∈ts->q (f x)->te (σb.set 0 (.val x)) q) (hq:Q (.list ((ts.filter p).map f))) :
  ts.length<=100000/\∃ P:Nat->List Sl->List D->Prop,P 0 σb [] /\
   (∀ (k:Nat) (x:D) (σ':List Sl) (ds:List D),ts[k]?=some x->P k σ' ds->gN 0 x σ' λσ2=>tt σ2 λb=>if b=true then te σ2 λy=>P (k+1) σ2 (ds++[y]) else P (k+1) σ2 ds)/\∀ σ' ds,P ts.length σ' ds->Q (.list ds):=by
 refine ⟨hz,λk σ' ds=>(∀ x,σ'.set 0 (.val x)=σb.set 0 (.val x))/\ds=((ts.take k).filter p).map f,⟨λ_=>rfl,rfl⟩,λk x σ' ds hx h=>?_,λσ' ds h=>?_⟩
 ·obtain ⟨h1,rfl⟩:=h
  have hm:x∈ts:=aV hx
  show tt (σ'.set 0 (.val x)) _
  rw [h1 x]
  refine hp x _ hm ?_
  have e:ts.take (k+1)=ts.take k++[x]:=by rw [dM,hx];rfl
  cases hb:p x with
  | true =>
   rw [if_pos rfl]
   refine ht x _ hm ⟨λz=>set_set _ _ _ _,?_⟩
   rw [e,gM,bT]
   simp [hb]
  | false =>
   rw [if_neg (by decide)]
   refine ⟨λz=>set_set _ _ _ _,?_⟩
   rw [e,gM,bT]
   simp [hb]
 ·obtain ⟨_,rfl⟩:=h
  rw [dR]
  exact hq

section
variable {fr:List (Option Nat)} {ti:IT} {tt:qQ} {te:ET} {σ:List Sl} {Q:D->Prop} {ts:List D}
abbrev sZ (ti:IT) (σ:List Sl) (ts:List D):Prop:=∀ R:List D->Prop,R ts->ti σ R
theorem iP (hti:sZ ti σ ts) (f:D->D) (hz:ts.length<=100000) (ht:∀ (x:D) (q:D->Prop),x∈ts->q (f x)->te ((jS fr σ).set 0 (.val x)) q) (hq:Q (.list (ts.map f))):X5 fr ti (gN 0) xI te σ Q :=
 hti _ (aCy (te:=te) (Q:=Q) f hz ht hq)
theorem BI (hti:sZ ti σ ts) (p:D->Bool) (f:D->D) (hz:ts.length<=100000) (hp:∀ (x:D) (q:Bool->Prop),x∈ts->q (p x)->tt ((jS fr σ).set 0 (.val x)) q)
  (ht:∀ (x:D) (q:D->Prop),x∈ts->q (f x)->te ((jS fr σ).set 0 (.val x)) q) (hq:Q (.list ((ts.filter p).map f))):X5 fr ti (gN 0) tt te σ Q :=
 hti _ (W8 (tt:=tt) (te:=te) (Q:=Q) p f hz hp ht hq)
theorem T1 {g:GT} {tb:oW} {DT:nG} (hti:sZ ti σ ts) (P:Nat->List Sl->Prop) (h0:P 0 σ)
  (hs:∀ (k:Nat) (x:D) (σ':List Sl),ts[k]?=some x->P k σ'->g x σ' λσ2=>tb { DT with nx:=P (k+1),ct:=P (k+1),bk:=DT.nx } σ2) (hd:∀ σ',P ts.length σ'->DT.nx σ'):WD ti g tb DT σ:=hti _ ⟨P,h0,hs,hd⟩
end
theorem uB (x y:Str):(x++y).cps.toList=x.cps.toList++y.cps.toList:=by
 show (x.cps++y.cps).toList=_
 simp
theorem JJ (xs:Array Nat) (a k:Nat):(cK k).filterMap (λm=>xs[a+m]?)=(xs.toList.drop a).take k:=by
 induction k with
 | zero=>simp
 | succ k ih =>
  rw [YQ,K6,ih,dM,jX]
  congr 1
  simp only [eN,List.filterMap_nil]
  rw [fQ]
  cases xs[a+k]?<;>rfl
theorem M6 (v:Option Int) (n d:Nat) (hd:d<=n):(match v with | none=>(d:Int) | some i=>max 0 (min (if i<0 then i+(n:Int) else i) (n:Int)))=((HT.sIx n d v:Nat):Int):=by
 cases v with
 | none=>rfl
 | some i =>
  have:=HT.clip_eq i n d
  rw [<- this]
  dsimp only
  split<;>omega
theorem UO (v:Option Int) (n:Nat):(match v with | none=>(0:Int) | some i=>max 0 (min (if i<0 then i+(n:Int) else i) (n:Int)))=((HT.sIx n 0 v:Nat):Int):=M6 v n 0 (cS _)
theorem QX {a a' b b':Int} (h1:a=a') (h2:b=b'):sliceRange a b 1=sliceRange a' b' 1:=by rw [h1,h2]
theorem sK (z:Str) (lo hi:Option Int):(Txt.slice z lo hi).cps.toList=mJ z.cps.toList lo hi:=by
 have hn:z.cps.toList.length=z.length:=by simp [Str.length]
 have ha:=HT.sIx_le z.length 0 (cS _) lo
 have hb:=HT.sIx_le z.length z.length (aL _) hi
 have hI:Builtin.Str.strSliceIndices lo hi 1 z.length=(cK (HT.sIx z.length z.length hi-HT.sIx z.length 0 lo)).map (λk=>HT.sIx z.length 0 lo+k):=by
  unfold Builtin.Str.strSliceIndices
  simp only [show (1:Int) > 0 by decide,if_true]
  refine (QX (UO lo z.length) (M6 hi z.length z.length (aL _))).trans ?_
  unfold sliceRange
  simp only [show (1:Int) > 0 by decide,if_true]
  generalize HT.sIx z.length 0 lo=a
  generalize HT.sIx z.length z.length hi=b
  have ec:(if (a:Int)<(b:Int) then ((b:Int)-a+1-1) / 1 else 0).toNat=b-a:=by split<;>omega
  rw [ec]
  apply lP
  intro k _
  omega
 unfold Txt.slice mJ
 rw [hn,hI]
 generalize HT.sIx z.length 0 lo=a at *
 generalize HT.sIx z.length z.length hi=b at *
 split
 ·next h =>
  simp only [beq_self_eq_true,aD9,beq_iff_eq,aB,eF] at h
  have h1:a=0:=by omega
  have h2:b-a=z.cps.toList.length:=by rw [hn];exact h
  rw [h2,h1,EI,dR]
 ·rw [QB]
  exact JJ z.cps a (b-a)
theorem JZ:∀ ys:List Str,(Txt.join ⟨#[]⟩ ys).cps.toList=(ys.map (·.cps.toList)).flatten:=by
 intro ys
 show (Builtin.Str.glued ⟨#[]⟩ ys).cps.toList=_
 rw [StrLaws.glued_eq_join]
 induction ys with
 | nil=>rfl
 | cons x ys ih =>
  cases ys with
  | nil=>simp [Str.join]
  | cons y r =>
   show (x++⟨#[]⟩++Str.join ⟨#[]⟩ (y::r)).cps.toList=_
   rw [uB,uB,ih]
   simp
theorem TK (x:Str) (c:Nat):Txt.contains x ⟨#[c]⟩=decide (c∈x.cps.toList):=StrLaws.found_one x c
section
variable {te:ET} {u t e:oW} {c:qQ} {DT:nG} {σ:List Sl} {i:Nat}
theorem eI (v:D) (h:∀ q:D->Prop,q v->te σ q) (k:u DT (σ.set i (.val v))):jI (wI i te) u DT σ:=h _ k
theorem A4 (R:D->Prop) (h:∀ q:D->Prop,(∀ v,R v->q v)->te σ q) (k:∀ v,R v->u DT (σ.set i (.val v))):jI (wI i te) u DT σ:=h _ k
theorem iA (R:Bool->Prop) (h:∀ q:Bool->Prop,(∀ b,R b->q b)->c σ q) (k1:R true->t { DT with nx:=u DT } σ) (k0:R false->e { DT with nx:=u DT } σ):jI (sIf c t e) u DT σ:=by
 refine h _ λb hb=>?_
 cases b with
 | true=>rw [if_pos rfl];exact k1 hb
 | false=>rw [if_neg (by decide)];exact k0 hb
theorem nK (R:Bool->Prop) (h:∀ q:Bool->Prop,(∀ b,R b->q b)->c σ q) (k1:R true->t DT σ) (k0:R false->e DT σ):sIf c t e DT σ:=by
 refine h _ λb hb=>?_
 cases b with
 | true=>rw [if_pos rfl];exact k1 hb
 | false=>rw [if_neg (by decide)];exact k0 hb
theorem jP {ti:IT} {ts:List D} {g:GT} {tb:oW} (hti:sZ ti σ ts) (P:Nat->List Sl->Prop) (h0:P 0 σ)
  (hs:∀ (k:Nat) (x:D) (σ':List Sl),ts[k]?=some x->P k σ'->g x σ' λσ2=>tb { DT with nx:=P (k+1),ct:=P (k+1),bk:=u DT } σ2) (hd:∀ σ',P ts.length σ'->u DT σ'):jI (WD ti g tb) u DT σ :=
 T1 (DT:={ DT with nx:=u DT }) hti P h0 hs hd
theorem qV {t:AT} (ds:List D) (hz:ds.length<=1000) (h:∀ q:List D->Prop,q ds->t σ q) (k:u DT (σ.set i (.own ds))):jI (aB7 i t) u DT σ:=h _ ⟨hz,k⟩
theorem wR {ts:List D} (v:D) (ho:σ[i]?=some (.own ts)) (hz:ts.length<=100000) (h:∀ q:D->Prop,q v->te σ q) (k:DT.nx (σ.set i (.own (ts++[v])))):aE5 i te DT σ:=⟨ts,ho,h _ ⟨hz,k⟩⟩
theorem tO (v:D) (h:∀ q:D->Prop,q v->te σ q) (k:DT.nx (σ.set i (.val v))):wI i te DT σ:=h _ k
end
end TL

namespace TL
open PySem PySem.Spec PyProof.Rows L2
mutual
theorem mH:∀ {d:D},d.canLay0=true->d.hasDict=false
 | .none,_=>rfl
 | .bool _,_=>rfl
 | .int _,_=>rfl
 | .str _,_=>rfl
 | .list _,h=>noDictAll h
 | .tuple _,h=>noDictAll h
 | .dict _,h=>by cases h
theorem noDictAll:∀ {ds:List D},cR ds=true->iH ds=false
 | [],_=>rfl
 | d::ds,h=>by
  have h':(d.canLay0 && cR ds)=true:=h
  rw [cJ] at h'
  show (d.hasDict || iH ds)=false
  rw [mH h'.1,noDictAll h'.2];rfl
end
section
variable {X:Cx} {a b e:Expr} {es:List Expr} {te:ET} {pos:Pos}
def yQ (K:aD) (ok:D->D->Prop) (f:D->D->Bool):R2:=λx y H Q=>∃ d1 d2,gE K H d1 x/\gE K H d2 y/\ok d1 d2/\Q (.bl (f d1 d2)) H
def aHb (ok:D->D->Prop) (f:D->D->Bool) (x y:D) (Q:D->Prop):Prop:=ok x y/\Q (.bool (f x y))
theorem vF {ok:D->D->Prop} {f:D->D->Bool}:zG X (yQ X.K ok f) (aHb ok f):=by
 intro H ps d1 d2 x y Q QV live r1 r2 h k
 exact ⟨d1,d2,r1.same bV,r2.same bV,h.1,k _ _ H (L2.bB.refl H) (.bool _) h.2⟩
def aGk (d1 d2:D):Prop:=d1.canLay0=true/\d2.canLay0=true/\min d1.depth d2.depth<=60
theorem SE {k:Nat} (hr:Room k X.A):nF X (compareOp .Eq) (yQ X.K aGk cP):=by
 intro pins s σ H x y v u Q I rx ry h
 obtain ⟨d1,d2,r1,r2,⟨c1,c2,hm⟩,q⟩:=h
 obtain ⟨as,h1⟩:=gE.reads I (mH c1) r1 rx
 obtain ⟨bs,h2⟩:=gE.reads I (mH c2) r2 ry
 exact SeqAt.compareEq_reads h1 h2 c1 c2 (by have:=hr.un;omega) ⟨.bl _,H,I,rfl,q⟩
theorem SD {k:Nat} (hr:Room k X.A):nF X (compareOp .NotEq) (yQ X.K aGk λx y=>!cP x y):=by
 intro pins s σ H x y v u Q I rx ry h
 obtain ⟨d1,d2,r1,r2,⟨c1,c2,hm⟩,q⟩:=h
 obtain ⟨as,h1⟩:=gE.reads I (mH c1) r1 rx
 obtain ⟨bs,h2⟩:=gE.reads I (mH c2) r2 ry
 exact SeqAt.compareNe_reads h1 h2 c1 c2 (by have:=hr.un;omega) ⟨.bl _,H,I,rfl,q⟩
def wS (x y:D):Prop:=match y with
 | .list ts=>cR ts=true/\x.canLay0=true/\min (cD ts) x.depth<=60
 | .tuple ts=>cR ts=true/\x.canLay0=true/\min (cD ts) x.depth<=60
 | _=>False
def CN (x y:D):Bool:=match y with
 | .list ts=>ts.any λz=>cP z x
 | .tuple ts=>ts.any λz=>cP z x
 | _=>false
theorem N8 {k:Nat} (hr:Room k X.A):nF X (compareOp .In) (yQ X.K wS CN):=by
 intro pins s σ H x y v u Q I rx ry h
 obtain ⟨d1,d2,r1,r2,ho,q⟩:=h
 have hd:d1.hasDict=false/\d2.hasDict=false:=by
  cases d2 with
  | list ts=>exact ⟨mH ho.2.1,noDictAll ho.1⟩
  | tuple ts=>exact ⟨mH ho.2.1,noDictAll ho.1⟩
  | _=>exact ho.elim
 obtain ⟨as,h1⟩:=gE.reads I hd.1 r1 rx
 obtain ⟨bs,h2⟩:=gE.reads I hd.2 r2 ry
 cases d2 with
 | list ts=>exact SeqAt.in_list_reads h2 h1 ho.1 ho.2.1 (by have:=hr.un;have:=ho.2.2;omega) ⟨.bl _,H,I,rfl,q⟩
 | tuple ts=>exact SeqAt.in_tuple_reads h2 h1 ho.1 ho.2.1 (by have:=hr.un;have:=ho.2.2;omega) ⟨.bl _,H,I,rfl,q⟩
 | _=>exact ho.elim
theorem qZ {k:Nat} (hr:Room k X.A):nF X (compareOp .NotIn) (yQ X.K wS λx y=>!CN x y):=by
 intro pins s σ H x y v u Q I rx ry h
 obtain ⟨d1,d2,r1,r2,ho,q⟩:=h
 have hd:d1.hasDict=false/\d2.hasDict=false:=by
  cases d2 with
  | list ts=>exact ⟨mH ho.2.1,noDictAll ho.1⟩
  | tuple ts=>exact ⟨mH ho.2.1,noDictAll ho.1⟩
  | _=>exact ho.elim
 obtain ⟨as,h1⟩:=gE.reads I hd.1 r1 rx
 obtain ⟨bs,h2⟩:=gE.reads I hd.2 r2 ry
 cases d2 with
 | list ts=>exact SeqAt.notIn_list_reads h2 h1 ho.1 ho.2.1 (by have:=hr.un;have:=ho.2.2;omega) ⟨.bl _,H,I,rfl,q⟩
 | tuple ts=>exact SeqAt.notIn_tuple_reads h2 h1 ho.1 ho.2.1 (by have:=hr.un;have:=ho.2.2;omega) ⟨.bl _,H,I,rfl,q⟩
 | _=>exact ho.elim
def aDc (x y:D) (Q:D->Prop):Prop:=match x,y with
 | .str z,.str y=>Q (.bool (Txt.contains y z))
 | x,y=>wS x y/\Q (.bool (CN x y))
theorem JO {k:Nat} (hr:Room k X.A):nF X (compareOp .In) (λx y H Q=>(∃ i j,x=.str i/\y=.str j/\Q (.bl (!(Builtin.Str.occurrences j i 0 j.length 1).isEmpty)) H)\/yQ X.K wS CN x y H Q):=N7.or (N8 hr)
theorem SJ:zG X (λx y H Q=>(∃ i j,x=.str i/\y=.str j/\Q (.bl (!(Builtin.Str.occurrences j i 0 j.length 1).isEmpty)) H)\/yQ X.K wS CN x y H Q) aDc:=by
 intro H ps d1 d2 x y Q QV live r1 r2 h k
 have gen:wS d1 d2/\Q (.bool (CN d1 d2))->_:=λh=>(.inr ⟨d1,d2,r1.same bV,r2.same bV,h.1,k _ _ H (L2.bB.refl H) (.bool _) h.2⟩:(∃ i j,x=.str i/\y=.str j/\QV (.bl (!(Builtin.Str.occurrences j i 0 j.length 1).isEmpty)) H)\/yQ X.K wS CN x y H QV)
 cases r1 with
 | str z =>
  cases r2 with
  | str w=>exact .inl ⟨z,w,rfl,rfl,k _ _ H (L2.bB.refl H) (.bool _) h⟩
  | _=>exact gen h
 | _=>exact gen h
def pE:D->Bool
 | .none=>true
 | _=>false
def fIs (x y:D) (Q:D->Prop):Prop:=match y with | .bool b=>Q (.bool (tT b x)) | .none=>Q (.bool (pE x)) | _=>False
def XU (x y:D) (Q:D->Prop):Prop:=match y with | .bool b=>Q (.bool (!tT b x)) | .none=>Q (.bool (!pE x)) | _=>False
theorem aCp:nF X (compareOp .Is) (λx y H Q=>aCd x y H Q\/(y=.non/\Q (.bl (decide (x=.non))) H)):=aCo.or aCn
theorem N6:nF X (compareOp .IsNot) (λx y H Q=>EY x y H Q\/(y=.non/\Q (.bl (!decide (x=.non))) H)):=N5.or WS
theorem aGm:zG X (λx y H Q=>aCd x y H Q\/(y=.non/\Q (.bl (decide (x=.non))) H)) fIs:=by
 intro H ps d1 d2 x y Q QV live r1 r2 h k
 cases r2 with
 | bool b =>
  refine .inl ⟨b,rfl,?_⟩
  have e:(decide (x=V.bl b))=tT b d1:=by cases r1<;>simp [tT]
  rw [e]
  exact k _ _ H (L2.bB.refl H) (.bool _) h
 | none =>
  refine .inr ⟨rfl,?_⟩
  have e:(decide (x=V.non))=pE d1:=by cases r1<;>simp [pE]
  rw [e]
  exact k _ _ H (L2.bB.refl H) (.bool _) h
 | _=>exact h.elim
theorem SI:zG X (λx y H Q=>EY x y H Q\/(y=.non/\Q (.bl (!decide (x=.non))) H)) XU:=by
 intro H ps d1 d2 x y Q QV live r1 r2 h k
 cases r2 with
 | bool b =>
  refine .inl ⟨b,rfl,?_⟩
  have e:(!decide (x=V.bl b))=!tT b d1:=by cases r1<;>simp [tT]
  rw [e]
  exact k _ _ H (L2.bB.refl H) (.bool _) h
 | none =>
  refine .inr ⟨rfl,?_⟩
  have e:(!decide (x=V.non))=!pE d1:=by cases r1<;>simp [pE]
  rw [e]
  exact k _ _ H (L2.bB.refl H) (.bool _) h
 | _=>exact h.elim
end
end TL

namespace L2
open PySem PySem.Spec PyProof.Rows
section
variable {P:bF} {w:World} {A:Around} {E:Value->Shared->Prop} {s:Shared}
end
section
variable {P:bF} {w:World} {A:Around} {E:Value->Shared->Prop} {s:Shared} {z TI TO i1 i2 l1 l2:Addr} {st1 st2:Nat->Heap->Prop} {src1 src2:Array Value->Heap->Prop} {k:Nat} {xs ys:Array Value} {a b:Value}
end
section
variable {X:Cx} {pins:List (Addr×Obj)} {σ:St} {H:Hp} {s:Shared} {h':Heap}
theorem dP.turnedNew {t':Nat} {ch:List Addr} {T:Addr} {o:HO} (I:dP X pins σ H s) (hf:∀ b∈ch,CA X pins H b) (k:∀ b u,b∉ch->s.heap.get? b=some u->h'.get? b=some u) (hp:s.heap.objs.size<=T) (new:iJ X.prog X.w (fZ H T o) h' T o) :
  dP X pins σ (fZ H T o) { s with heap:=h',toks:=t' }:=by
 have nit:∀ b u,H b=some u->b∉ch:=λb u e z=>by rw [(hf b z).1] at e;cases e
 have hL:X.env.locals∉ch:=λz=>(hf _ z).2.1 rfl
 have hn:H T=none:=I.hok.fresh hp
 have ne:∀ b u,H b=some u->(fZ H T o) b=some u:=λb u e=>by rw [cG (jQ e hn)];exact e
 have ne2:∀ b u,s.heap.get? b=some u->b≠T:=λb u e z=>by
  exact absurd (cV (bH e) hp) (by rw [z];exact iQ _)
 refine I.step (g':=s.gens) (d':=s.drawn) (ch:=ch) (λb hb=>?_) (λb o _ _ hc e _=>k b o hc e) (λb o _ _ hc e _=>⟨o.slots,k b o hc e⟩) (λb u _ e n=>by rw [cG (ne2 b u e)];exact n)
  (λb o hc e=>⟨o,k b o hc e⟩) (λb xs e=>ne _ _ e) (λb u v e=>ne _ _ e) (λb ps e=>⟨#[],by rw [ne _ _ e];simp⟩) (λm hm=>?_) (λb u e=>?_) I.bare
 ·obtain ⟨f0,f1,f2,f3,f4,f5⟩:=hf b hb
  exact ⟨f3,f1,f4,f5⟩
 ·obtain ⟨o,es,ep,ho,r⟩:=hm
  exact ⟨o,es,ep,k _ o hL ho,r⟩
 ·by_cases hb:b=T
  ·subst hb;rw [cO] at e;cases e;exact new
  ·rw [cG hb] at e
   refine (I.hok b u e).stay (λc v hc q=>k c v ?_ q) (λc q=>ne _ _ q) (λc xs q=>ne _ _ q) λc ob v q=>ne _ _ q
   rcases hc with z | z
   ·rw [z];exact nit b u e
   ·exact nit c _ z
end
section
variable {P:bF} {w:World} {A:Around} {E:Value->Shared->Prop} {s:Shared}
end
section
variable {X:Cx}
end
end L2
namespace TL
open PySem PySem.Spec PyProof.Rows L2
variable {K:aD}
section
variable {X:Cx} {a b:Expr} {pos:Pos}
end
section
variable {fr:List (Option Nat)} {ti:IT} {tt:qQ} {te:ET} {σ:List Sl} {Q:D->Prop} {ts:List D}
theorem NY {α:Type} (l:List α) (a b c d:α):(((l.set 0 a).set 1 b).set 0 c).set 1 d=(l.set 0 c).set 1 d:=by
 match l with
 | []=>rfl
 | [_]=>rfl
 | _::_::_=>rfl
theorem W5 (hti:sZ ti σ ts) (f:D->D) (hz:ts.length<=100000) (hp:∀ x∈ts,∃ a b,x=.tuple [a,b]) (ht:∀ (a b:D) (q:D->Prop),.tuple [a,b]∈ts->q (f (.tuple [a,b]))->te (((jS fr σ).set 0 (.val a)).set 1 (.val b)) q) (hq:Q (.list (ts.map f))):X5 fr ti (gP 0 1) xI te σ Q:=by
 refine hti _ ⟨hz,λk σ' ds=>(∀ x y,(σ'.set 0 (.val x)).set 1 (.val y)=((jS fr σ).set 0 (.val x)).set 1 (.val y))/\ds=(ts.take k).map f,⟨λ_ _=>rfl,rfl⟩,λk x σ' ds hx h=>?_,λσ' ds h=>?_⟩
 ·obtain ⟨h1,rfl⟩:=h
  have hm:x∈ts:=aV hx
  obtain ⟨a,b,rfl⟩:=hp x hm
  refine ⟨a,b,rfl,?_⟩
  show te ((σ'.set 0 (.val a)).set 1 (.val b)) _
  rw [h1 a b]
  refine ht a b _ hm ⟨λx y=>NY _ _ _ _ _,?_⟩
  rw [dM,hx,bT];rfl
 ·obtain ⟨_,rfl⟩:=h
  rw [dR];exact hq
end
end TL

namespace L2
open PySem PySem.Spec PyProof.Rows PySem.SeqAt
open AutoSeq1 (wpAny_loadPart')
theorem CJ (l:Addr) (items:Array Value) (n:Nat) (dd:Option Addr) (sl:Array (Option Value)) (x:Value) (e:Value->Bool) (j:Nat) (hj:j<items.size) (hit:e items[j]=true) (hno:∀ m (hm:m<items.size),m<j->e items[m]=false) :
  Meets (Builtin.«tuple.index» ⟨[.ref l,x],[]⟩)
   (λA R s=>s.heap.get? l=some { cls:=.type "tuple",dict:=dd,data:=.seq items n,slots:=sl }/\(∀ y,y∈items->EqAt A.in1 s y x (e y))/\R (.ok (.ret (.int j s.toks))) { s with toks:=s.toks+1 }):=by
 intro prog w A R s h
 obtain ⟨hp,g,d,tk,os⟩:=s;obtain ⟨hl,he,h⟩:=h
 unfold Builtin.«tuple.index»
 simp only [Std.Legacy.Range.forIn_eq_forIn_range']
 wp_walk using wpAny_loadPart' hl
 have hN:([:min items.size items.size]:Std.Legacy.Range).size=items.size:=by simp [Std.Legacy.Range.size]
 rw [hN]
 show wpAny _ _ (forIn (NJ 0 items.size) (none,()) _) _ _ _
 refine wpAny_forIn_list _ (λrest b s'=>b=(none,())/\s'=⟨hp,g,d,tk,os⟩/\∃ k,rest=NJ k (items.size-k)/\k<=j) _ (λi rest b s' h1=>?_) (λb s' h1=>?_) _ _ ⟨rfl,rfl,0,by simp,cS _⟩
 ·obtain ⟨rfl,rfl,k,hr,hk⟩:=h1
  have hkN:k<items.size:=by omega
  have e1:items.size-k=(items.size-(k+1))+1:=by omega
  rw [e1,VE] at hr
  obtain ⟨rfl,rfl⟩:=List.cons.inj hr
  have hi:items[i]?=some items[i]:=by simp [hkN]
  rw [hi]
  refine aA (he _ (Array.getElem_mem hkN) prog w _ _ ?_)
  by_cases hij:i=j
  ·subst hij
   rw [hit,if_pos rfl]
   wp_walk
   exact h
  ·have hlt:i<j:=by omega
   rw [hno i hkN hlt,if_neg (by decide)]
   exact aF ⟨rfl,rfl,i+1,rfl,hlt⟩
 ·obtain ⟨_,_,k,hr,hk⟩:=h1
  have:=congrArg iG hr
  simp at this
  omega
section
variable {X:Cx}
end
end L2
namespace TL
open PySem PySem.Spec PyProof.Rows L2 PySem.SeqAt
section
variable {X:Cx} {a b e:Expr} {es:List Expr} {te ta tb:ET} {pos:Pos}
def OB (ts:List D) (d:D) (j:Nat):Prop:=cR ts=true/\d.canLay0=true/\min (cD ts) d.depth<=60/\(∃ t,ts[j]?=some t/\cP t d=true)/\∀ (m:Nat) t,m<j->ts[m]?=some t->cP t d=false
def JG (K:aD):V->List V->Hp->VK->Prop:=λx xs H Q=>∃ (y:V) (ts:List D) (d:D) (j:Nat),xs=[y]/\gE K H (.tuple ts) x/\gE K H d y/\OB ts d j/\Q (.int j) H
theorem OG (hu:X.A.units+200<cLine):PP X "tuple.index" (JG X.K):=by
 intro pins s σ H x xs v us Q I rx rv h
 obtain ⟨y,ts,d,j,rfl,r1,r2,⟨c1,c2,hm,⟨t,ht,he⟩,hno⟩,q⟩:=h
 obtain ⟨u,rfl,ru⟩:=rv.one
 obtain ⟨as,h1⟩:=gE.reads I (show (eY ts).hasDict=false from noDictAll c1) r1 rx
 obtain ⟨bs,h2⟩:=gE.reads I (mH c2) r2 ru
 cases h1 with
 | @tuple l o items n _ as' h3 h4 h5 h6 =>
  have hmap:=readsAll_map ts items.toList _ c1 h6
  have hlen:items.size=ts.length:=by rw [<- hmap,aB,bP]
  have hjl:j<ts.length:=(aG.mp ht).1
  have hj:j<items.size:=by omega
  have rd:∀ (m:Nat) (hm:m<items.size),ts[m]?=some (readOf s.heap items[m]):=λm hm=>by
   rw [<- hmap,aI]
   simp [hm]
  obtain ⟨oc,od,odt,osl⟩:=o
  cases h4
  cases h5
  refine call_meets F.slot_tuple_index ⟨_,h3,rfl⟩ F.entry_tuple_index (F.args_tuple_index_2 _ _) (CJ _ items _ od osl u (λy=>cP (readOf s.heap y) d) j hj ?_ ?_) ⟨h3,items_eqAt h6 h2 c1 c2 (by have:=hu;omega),?_⟩
  ·have:=rd j hj
   rw [ht] at this
   rw [<- Option.some.inj this];exact he
  ·intro m hm' hlt
   exact hno m _ hlt (rd m hm')
  ·exact ⟨.int j,H,I.tok _,⟨_,rfl⟩,q⟩
theorem wX {k:Nat} (hr:Room k X.A):PP X "tuple.index" (JG X.K):=OG (by have:=hr.un;omega)
def aDj (te:ET) (t:AT):ET:=λσ Q=>te σ λd=>∃ ts,d=.tuple ts/\t σ λds=>∃ (x:D) (j:Nat),ds=[x]/\OB ts x j/\Q (.int j)
theorem xE {n:Expr} {ap:Pos} {t:AT} (hn:hU X n te) (ha:xU X (e::es) t)
  (pc:∀ {v:TE} {ta:TA},PE X n v->PA X (e::es) ta->PE X (.Call (.Attribute n "index" ap) (e::es) [] pos) (VQ X.K "tuple" (JG X.K) v ta)):hU X (.Call (.Attribute n "index" ap) (e::es) [] pos) (aDj te t):=by
 obtain ⟨v,pe,re⟩:=hn
 obtain ⟨va,pa,ra⟩:=ha
 refine ⟨_,pc pe pa,λB p0 H ps σT σ Q QV o h k=>re B p0 H ps σT σ _ _ o h λd x H1 s1 r1 q1=>?_⟩
 obtain ⟨ts,rfl,q1⟩:=q1
 cases r1 with
 | @tuple p xs _ hq rs =>
  refine ⟨.inr (.inl ⟨rfl,.inr ⟨_,bB.seqT bV hq⟩⟩),ra B p0 H1 ps σT σ _ _ (o.grow s1) q1 λds ys H2 s2 r2 q2=>?_⟩
  obtain ⟨d,j,rfl,hok,q⟩:=q2
  cases r2 with
  | cons r3 r4 =>
   cases r4
   exact ⟨_,ts,d,j,rfl,(gE.tuple hq rs).same ((bO s2).trans bV),r3.same bV,hok,k _ _ H2 (s1.trans s2) (.int _) q⟩
theorem Reps.rep {K:aD} {H:Hp} {ds:List D} {vs:List V} (r:Reps K H ds vs):∀ n:Nat,Reps K H (mV n ds).flatten (mV n vs).flatten
 | 0=>.nil
 | n+1=>by
  rw [oQ,oQ,kO,kO]
  exact r.append (Reps.rep r n)
end
end TL

namespace TL
open PySem PySem.Spec PyProof.Rows L2
section
variable {K:aD} {H H':Hp} {B:Hp} {p0 ps:List Addr} {σT:List Sl} {σ:L2.St}
theorem Reps.snoc:∀ {ts:List D} {d:D} {xs:List V},Reps K H (ts++[d]) xs->∃ ys y,xs=ys++[y]/\Reps K H ts ys/\gE K H d y
 | [],d,_,r=>by
  rw [List.nil_append] at r
  cases r with
  | cons r1 r2=>cases r2;exact ⟨[],_,rfl,.nil,r1⟩
 | t::ts,d,_,r=>by
  rw [List.cons_append] at r
  cases r with
  | cons r1 r2 =>
   obtain ⟨ys,y,rfl,h1,h2⟩:=Reps.snoc r2
   exact ⟨_::ys,y,rfl,.cons r1 h1,h2⟩
theorem Reps.put:∀ {ts:List D} {xs:List V} (n:Nat) {d:D} {v:V},Reps K H ts xs->gE K H d v->Reps K H (ts.set n d) (xs.set n v)
 | _,_,_,_,_,.nil,_=>.nil
 | _,_,0,_,_,.cons _ t,r=>.cons r t
 | _,_,n+1,_,_,.cons s t,r=>.cons s (Reps.put n t r)
def without (H:Hp) (p:Addr):Hp:=λb=>if b=p then none else H b
theorem wA {p:Addr}:mask (without H p) ps=mask H (p::ps):=by
 funext b
 unfold mask without
 by_cases h1:b=p
 ·simp [h1]
 ·by_cases h2:b∈ps<;>simp [h1,h2]
theorem vZ {p:Addr} (s:bB H H') (hp:H p=none):bB H (without H' p):=λb o e=>by
 unfold without
 rw [if_neg λz=>by rw [z,hp] at e;cases e]
 exact s b o e
theorem GA {p:Addr} {u:HO} (hx:H p=some u):fZ (without H p) p u=H:=by
 funext b
 by_cases h:b=p
 ·subst h;rw [cO,hx]
 ·rw [cG h]
  unfold without
  rw [if_neg h]
theorem bB.free' (s:bB H H') {p:Addr} (h:H' p=none):H p=none:=by
 cases q:H p with
 | none=>rfl
 | some u=>rw [s p u q] at h;cases h
theorem Ok.takeOwn (o:Ok K B p0 H ps σT σ) {i:Nat} {ts:List D} {xs:List V} {p:Addr} (s:bB H H') (hp:H p=none) (hx:H' p=some (.lst xs)) (r:Reps K (mask H' (p::ps)) ts xs) :
  Ok K B p0 H' (p::ps) (σT.set i (.own ts)) (σ.set i (some (.ref p))):=by
 have o1:=o.grow (vZ s hp)
 have hn:without H' p p=none:=by unfold without;rw [if_pos rfl]
 have:=o1.setOwn (i:=i) (ts:=ts) (xs:=xs) hn (by rw [wA];exact r)
 rwa [GA hx] at this
end
section
variable {X:Cx} {a b c e:Expr} {es:List Expr} {ta tb te:ET} {pos:Pos}
abbrev FT:=List Sl->(List D->Prop)->Prop
def VA (X:Cx) (e:Expr) (t:FT):Prop:=∃ te:TE,PE X e te/\∀ (B:Hp) (p0:List Addr) (H:Hp) (ps:List Addr) (σT:List Sl) (σ:L2.St) (Q:List D->Prop) (QV:VK),Ok X.K B p0 H ps σT σ->t σT Q ->
 (∀ ts p xs H',bB H H'->H p=none->H' p=some (.lst xs)->Reps X.K (mask H' (p::ps)) ts xs->Q ts->QV (.ref p) H')->te σ H QV
def eFr (t:FT):ET:=λσ Q=>t σ λts=>Q (.list ts)
theorem MW {t:FT} (h:VA X e t):hU X e (eFr t):=by
 obtain ⟨v,p,r⟩:=h
 refine ⟨_,p,λB p0 H ps σT σ Q QV o h k=>r B p0 H ps σT σ _ _ o h λts p xs H' s hp hx rs q=>k _ _ H' s ?_ q⟩
 exact .list (mK.of (nT (iC o.live hp) hx)) (rs.same (iN λq hq=>aN _ hq))
def aAw (ta tb:ET):FT:=λσ Q=>ta σ λx=>tb σ λy=>∃ as bs,x=.list as/\y=.list bs/\as.length+bs.length<=100000/\Q (as++bs)
theorem aDa (ha:hU X a ta) (hb:hU X b tb):VA X (.BinOp a .Add b pos) (aAw ta tb):=by
 obtain ⟨va,pa,ra⟩:=ha
 obtain ⟨vb,pb,rb⟩:=hb
 refine ⟨_,R4 MA pa pb,λB p0 H ps σT σ Q QV o h k=>ra B p0 H ps σT σ _ _ o h λd1 x H1 s1 r1 q1=>?_⟩
 refine rb B p0 H1 ps σT σ _ _ (o.grow s1) q1 λd2 y H2 s2 r2 q2=>?_
 obtain ⟨as,bs,rfl,rfl,hz,q⟩:=q2
 cases r1 with
 | list h1 t1 =>
  cases r2 with
  | list h2 t2 =>
   refine ⟨_,_,_,_,rfl,rfl,L2.bB.seq ((bO s2).trans bV) h1,L2.bB.seq bV h2,yZ (by rw [<- t1.length,<- t2.length];exact hz),λp hp=>?_⟩
   exact k _ p _ _ ((s1.trans s2).trans (dF hp)) (bB.free' (s1.trans s2) hp) cO (by rw [kH hp];exact (t1.same (bO s2)).append t2) q
def fLc (fr:List (Option Nat)) (ti:IT) (g:GT) (tt:qQ) (te:ET):FT:=λσ Q=>ti σ λts=>ts.length<=100000/\∃ P:Nat->List Sl->List D->Prop,P 0 (jS fr σ) [] /\
 (∀ (k:Nat) (x:D) (σ':List Sl) (ds:List D),ts[k]?=some x->P k σ' ds->g x σ' λσ2=>tt σ2 λb=>if b=true then te σ2 λy=>P (k+1) σ2 (ds++[y]) else P (k+1) σ2 ds)/\∀ σ' ds,P ts.length σ' ds->Q ds
def asL (Q:List D->Prop) (d:D):Prop:=match d with | .list ds=>Q ds | _=>False
theorem T2 {fr:List (Option Nat)} {ti:IT} {g:GT} {tt:qQ} {te:ET} {σ:List Sl} {Q:List D->Prop} (h:X5 fr ti g tt te σ (asL Q)):fLc fr ti g tt te σ Q:=h
theorem S1 {fr:List (Option Nat)} {ti:IT} {g:GT} {tt:qQ} {te:ET} {wi:TI} {gv:BP->TG} {vt:BP->TT} {ve:BP->TE}
  (ri:∀ (B:Hp) (p0:List Addr) (H:Hp) (ps:List Addr) (σT:List Sl) (σ:L2.St) (Q:List D->Prop) (R:It->Hp->Prop),Ok X.K B p0 H ps σT σ->ti σT Q->(∀ ts J H',bB H H'->UX X.K (mask H' ps) ts J->Q ts->R J H')->wi σ H R)
  (rg:∀ (bp:BP) (B:Hp) (p0:List Addr) (H:Hp) (ps:List Addr) (σT:List Sl) (σ:L2.St) (d:D) (v:V) (Q:List Sl->Prop) (QV:L2.St->Hp->Prop),Ok X.K B p0 H ps σT σ->gE X.K (mask H ps) d v->g d σT Q->(∀ σT' σ',Ok X.K B p0 H ps σT' σ'->(lT σT->lT σT')->Q σT'->QV σ' H)->gv bp v σ H QV)
  (rt:∀ (bp:BP) (B:Hp) (p0:List Addr) (H:Hp) (ps:List Addr) (σT:List Sl) (σ:L2.St) (Q:Bool->Prop) (QV:Bool->Hp->Prop),Ok X.K B p0 H ps σT σ->tt σT Q->(∀ b H',bB H H'->Q b->QV b H')->vt bp σ H QV)
  (re:∀ (bp:BP) (B:Hp) (p0:List Addr) (H:Hp) (ps:List Addr) (σT:List Sl) (σ:L2.St) (Q:D->Prop) (QV:VK),Ok X.K B p0 H ps σT σ->te σT Q->(∀ d v H',bB H H'->gE X.K (mask H' ps) d v->Q d->QV v H')->ve bp σ H QV)
  (B:Hp) (p0:List Addr) (H:Hp) (ps:List Addr) (σT:List Sl) (σ:L2.St) (Q:List D->Prop) (QV:VK) (o:Ok X.K B p0 H ps σT σ) (h:fLc fr ti g tt te σT Q) (k:∀ ts p xs H',bB H H'->H p=none->H' p=some (.lst xs)->Reps X.K (mask H' (p::ps)) ts xs->Q ts->QV (.ref p) H'):LE fr wi gv vt ve σ H QV:=by
 refine ri B p0 H ps σT σ _ _ o h λts J H1 s1 rj q1=>?_
 obtain ⟨hz,P,h0,hs,hd⟩:=q1
 intro bp acc hacc
 have hBacc:B acc=none:=bB.free' (o.grow s1).base hacc
 refine ⟨λi m σ' H'=>m=ts.length-i/\i<=ts.length/\∃ σT' ds ys,Ok X.K B p0 H' (acc::ps) σT' σ'/\lT σT'/\H' acc=some (.lst ys)/\ds.length<=i/\Reps X.K (mask H' (acc::ps)) ds ys/\bB (mask H1 ps) (mask H' (acc::ps))/\bB H1 H'/\P i σT' ds,
  ⟨_,rfl,cS _,jS fr σT,[],[],((o.grow s1).blk fr).adopt hacc,nY fr σT,cO,aL _,.nil,by rw [kH hacc];exact L2.bB.refl _,dF hacc,h0⟩,?_⟩
 rintro i m σ' H' ⟨rfl,hle,σT',ds,ys,o',n',ha,hl,hr,s',sF,p'⟩
 have hL:bD=2 ^ 24:=rfl
 by_cases hlt:i<ts.length
 ·refine .inr ⟨rj.go i H' (s'.trans bV) hlt,λy H2 hy=>?_⟩
  obtain ⟨s2,dx,hx,rx⟩:=rj.yld i H' (acc::ps) y H2 o'.live s' hlt hy
  refine rg bp B p0 H2 (acc::ps) σT' σ' dx y _ _ (o'.grow s2) rx (hs i dx σT' ds hx p') λσT3 σ3 o3 n3 q3=>?_
  refine rt bp B p0 H2 (acc::ps) σT3 σ3 _ _ o3 q3 λb H4 s4 q4=>?_
  have s24:=s2.trans s4
  cases b with
  | false =>
   exact ⟨ts.length-(i+1),by omega,rfl,hlt,σT3,ds,ys,o3.grow s4,n3 n',s24 _ _ ha,by omega,hr.same (bO s24),s'.trans (bO s24),sF.trans s24,q4⟩
  | true =>
   refine re bp B p0 H4 (acc::ps) σT3 σ3 _ _ (o3.grow s4) q4 λd v H5 s5 r5 q5=>?_
   have s25:=s24.trans s5
   have hm:mask (fZ H5 acc (.lst (ys++[v]))) (acc::ps)=mask H5 (acc::ps):=gY (aU ..)
   refine ⟨ys,s25 _ _ ha,by rw [<- hr.length];omega,ts.length-(i+1),by omega,rfl,hlt,σT3,ds++[d],ys++[v],((o3.grow s4).grow s5).aside (aU ..) hBacc (n3 n'),n3 n',cO,by rw [bL,nI];omega,?_,?_,?_,q5⟩
   ·rw [hm];exact (hr.same (bO s25)).append (.cons r5 .nil)
   ·rw [hm];exact s'.trans (bO s25)
   ·intro b u e
    have ne:b≠acc:=λz=>by rw [z,hacc] at e;cases e
    rw [cG ne];exact (sF.trans s25) b u e
 ·obtain rfl:i=ts.length:=by omega
  exact .inl ⟨rj.stop _ H' (s'.trans bV) (aL _),k ds acc ys H' (s1.trans sF) (bB.free' s1 hacc) ha hr (hd σT' ds p')⟩
theorem W9 {elt iter tg:Expr} {ifs:List Expr} {scope:Scope} {fr:List (Option Nat)} {N':List Str} {ti:IT} {g:GT} {tt:qQ} {te:ET} (hi:CS X tg iter ti)
  (hY:∀ b:BP,CT (blk X scope N' b) tg g/\zV (blk X scope N' b) ifs tt/\hU (blk X scope N' b) elt te) {M:(TE)->Prop}
  (fin:∀ {wi:TI} {gv:BP->TG} {vt:BP->TT} {ve:BP->TE},PI X tg iter wi->(∀ b:BP,PG (blk X scope N' b) tg (gv b)/\KR (blk X scope N' b) ifs (vt b)/\PE (blk X scope N' b) elt (ve b))->M (LE fr wi gv vt ve)) :
  ∃ v:TE,M v/\∀ (B:Hp) (p0:List Addr) (H:Hp) (ps:List Addr) (σT:List Sl) (σ:L2.St) (Q:List D->Prop) (QV:VK),Ok X.K B p0 H ps σT σ->fLc fr ti g tt te σT Q ->
   (∀ ts p xs H',bB H H'->H p=none->H' p=some (.lst xs)->Reps X.K (mask H' (p::ps)) ts xs->Q ts->QV (.ref p) H')->v σ H QV:=by
 obtain ⟨wi,pi,ri⟩:=hi
 refine ⟨_,fin (gv:=λb=>Classical.choose (hY b).1) (vt:=λb=>Classical.choose (hY b).2.1) (ve:=λb=>Classical.choose (hY b).2.2) pi λb=>⟨(Classical.choose_spec (hY b).1).1,(Classical.choose_spec (hY b).2.1).1,(Classical.choose_spec (hY b).2.2).1⟩,?_⟩
 exact S1 ri (λb=>(Classical.choose_spec (hY b).1).2) (λb=>(Classical.choose_spec (hY b).2.1).2) λb=>(Classical.choose_spec (hY b).2.2).2
theorem aG6 {elt iter tg:Expr} {ifs:List Expr} {scope:Scope} {fr:List (Option Nat)} {N':List Str} {ti:IT} {g:GT} {tt:qQ} {te:ET} (hi:CS X tg iter ti)
  (hY:∀ b:BP,CT (blk X scope N' b) tg g/\zV (blk X scope N' b) ifs tt/\hU (blk X scope N' b) elt te)
  (pl:∀ {wi:TI} {gv:BP->TG} {vt:BP->TT} {ve:BP->TE},PI X tg iter wi->(∀ b:BP,PG (blk X scope N' b) tg (gv b)/\KR (blk X scope N' b) ifs (vt b)/\PE (blk X scope N' b) elt (ve b))->PE X (.ListComp elt [⟨tg,iter,ifs,0⟩] scope pos) (LE fr wi gv vt ve)) :
  VA X (.ListComp elt [⟨tg,iter,ifs,0⟩] scope pos) (fLc fr ti g tt te):=W9 hi hY pl
abbrev SpF:=List D->(List D->Prop)->Prop
def lM (K:aD) (sp:SpF):Sp:=λvs H Q _=>∃ (ps:List Addr) (ds:List D) (QD:List D->Prop),(∀ p∈ps,H p≠none)/\Reps K (mask H ps) ds vs/\sp ds QD /\
 ∀ ts p xs H',bB H H'->H p=none->H' p=some (.lst xs)->Reps K (mask H' (p::ps)) ts xs->QD ts->Q (.ref p) H'
def aAv (sp:SpF) (t:AT):FT:=λσ Q=>t σ λds=>sp ds Q
theorem XQ {k:Nat} {f:Addr} {fd:dI} {pn:List Str} {sp:SpF} {x:Str} {p:Pos} {t:AT} (F:cL X.prog X.w X.K X.mg X.base fP k f fd pn (lM X.K sp)) (hm:X.mg x=some (.ref f)) (hk:fU X.K (.ref f)=true) (hb:pH X.K fd pn [])
  (hr:Room k X.A) (ha:xU X (e::es) t) (pc:∀ {ta:TA},PA X (e::es) ta->PE X (.Call (.Name x p) (e::es) [] pos) (C3 (lM X.K sp) [] E0 ta)):VA X (.Call (.Name x p) (e::es) [] pos) (aAv sp t):=by
 obtain ⟨v,pa,ra⟩:=ha
 refine ⟨_,pc pa,λB p0 H ps σT σ Q QV o h k=>ra B p0 H ps σT σ _ _ o h λds xs H1 s1 r1 q1=>?_⟩
 show lM X.K sp (xs++[]) H1 QV E0
 rw [fA]
 exact ⟨ps,ds,Q,(o.grow s1).live,r1,q1,λts p xs' H' s' hp hx rs q=>k ts p xs' H' (s1.trans s') (bB.free' s1 hp) hx rs q⟩
theorem fnF {P:bF} {w:World} {K:aD} {mg:Str->Option Value} {base:Heap} {x qual:Str} {st:Stmt} {f:Addr} {fd:dI} {N pn:List Str} {k:Nat} {sp:SpF} (F:P5 K x qual st f fd) (S:dB N pn (bQ st)) (len:∀ ds Q,sp ds Q->ds.length=pn.length)
  (hbody:∀ (cdv:Value) (A:Around) (outer:List Env) (s:Shared) (H:Hp) (E:XK),Room k (A.deeper (envOfC qual (bQ st) s.heap.objs.size f cdv))->∀ (ds:List D) (Q:List D->Prop),sp ds Q ->
   ∃ t,vS (yF fP P w K mg base N qual (bQ st) f cdv A outer s H E).nox (lN st) t/\t { nx:=λ_=>False,rt:=λ_=>False,ro:=Q } (kF N ds)):cL P w K mg base fP (k+1) f fd pn (lM K sp):=by
 refine F.ok S (λvs H Q E h=>?_) λcdv A outer s H vs Q E hr h=>?_
 ·obtain ⟨ps,ds,QD,_,r,q,_⟩:=h
  rw [<- r.length];exact len ds QD q
 ·obtain ⟨ps,ds,QD,live,r,q,k⟩:=h
  obtain ⟨t,⟨ts,p,rd⟩,h⟩:=hbody cdv A outer s H E hr ds QD q
  exact ⟨ts,p,rd H ps H ps _ _ _ _ (qG live r) h ⟨λ_ _ _ _ _ _ q'=>q'.elim,λ_ _ _ _ _ _ q'=>q'.elim,λ_ _ _ _ _ _ q'=>q'.elim,λ_ _ _ _ _ q'=>q'.elim,λts p xs H' s' hB hp hx rs q'=>k ts p xs H' s' hB hx rs q',λ_ _ _ _ _ _ _ _ _ _ _ _ _ _ _ _ _ _ q'=>q'.elim,λ_ _ _ _ _ _ _ _ _ _ _ _ _ _ q'=>q'.elim,True.intro⟩⟩
def RA (i:Nat) (t:FT):oW:=λDT σ=>t σ λts=>DT.nx (σ.set i (.own ts))
theorem NX {i:Nat} {t:FT} {v:TE} (r:∀ (B:Hp) (p0:List Addr) (H:Hp) (ps:List Addr) (σT:List Sl) (σ:L2.St) (Q:List D->Prop) (QV:VK),Ok X.K B p0 H ps σT σ->t σT Q ->
   (∀ ts p xs H',bB H H'->H p=none->H' p=some (.lst xs)->Reps X.K (mask H' (p::ps)) ts xs->Q ts->QV (.ref p) H')->v σ H QV)
  (B:Hp) (p0:List Addr) (H:Hp) (ps:List Addr) (σT:List Sl) (σ:L2.St) (DT:nG) (DV:rT) (o:Ok X.K B p0 H ps σT σ) (h:RA i t DT σT) (f:IE X.K B p0 H ps DT DV):rQ v (jE i) DV σ H:=by
 refine r B p0 H ps σT σ _ _ o h λts p xs H' s hp hx rs q=>?_
 exact f.nx H' (p::ps) _ _ (o.takeOwn s hp hx rs) (by rw [<- wA];exact bO (vZ s hp)) q
theorem VZ {i:Nat} {x:Str} {pos':Pos} {t:FT} (h:VA X e t) (ps':∀ {v:TE},PE X e v->PS X (.Assign [.Name x pos'] e pos) (rQ v (jE i))):xT X (.Assign [.Name x pos'] e pos) (RA i t):=by
 obtain ⟨v,p,r⟩:=h
 exact ⟨_,ps' p,NX r⟩
def aAg (t:FT):oW:=λDT σ=>t σ DT.ro
theorem LL {t:FT} (h:VA X e t):xT X (.Return (some e) pos) (aAg t):=by
 obtain ⟨v,p,r⟩:=h
 refine ⟨_,vE p,λB p0 H ps σT σ DT DV o h f=>r B p0 H ps σT σ _ _ o h λts p xs H' s hp hx rs q=>?_⟩
 refine f.ro ts p xs H' (o.base.trans s) (bB.free' o.base hp) (λz=>iC o.live hp (o.sub p z)) hx (rs.same (iN λq hq=>?_)) q
 rcases aZ.mp hq with rfl | hq
 ·exact aU ..
 ·exact aN _ (o.sub q hq)
def WB (i:Nat):oW:=λDT σ=>∃ ts,σ[i]?=some (.own ts)/\DT.ro ts
theorem NS {i:Nat} {n:Expr} (hn:PE X n (oU i)):xT X (.Return (some n) pos) (WB i):=by
 refine ⟨_,vE hn,λB p0 H ps σT σ DT DV o h f=>?_⟩
 obtain ⟨ts,e,h⟩:=h
 obtain ⟨q,xs,h1,h2,h3,h4,h5,h6⟩:=o.own i ts e
 refine ⟨.ref q,h1,f.ro ts q xs H o.base h3 h4 h5 (h6.same (iN λz hz=>?_)) h⟩
 rcases aZ.mp hz with rfl | hz
 ·exact h2
 ·exact o.sub z hz
def gP3 (i j k:Nat):GT:=λd σ Q=>∃ a b c,d=.tuple [a,b,c]/\Q (((σ.set i (.val a)).set j (.val b)).set k (.val c))
theorem tU {i j k:Nat} {t:Expr} (h:PG X t (XN X.K 3 (uV (jE i) (uV (jE j) (uV (jE k) XO))))):CT X t (gP3 i j k) :=
 ⟨_,h,λB p0 H ps σT σ d v Q QV o r h k=>by
  obtain ⟨a,b,c,rfl,h⟩:=h
  cases r with
  | @tuple p xs _ hq r =>
   cases r with
   | cons ra r =>
    cases r with
    | cons rb r =>
     cases r with
     | cons rc r =>
      cases r
      exact ⟨_,_,rfl,bB.seqT bV hq,rfl,_,_,rfl,_,_,rfl,_,_,rfl,rfl,k _ _ (((o.set ra).set rb).set rc) (λn=>jV (jV (jV n _ _) _ _) _ _) h⟩⟩
def Q9 (te:ET) (g:GT):oW:=λDT σ=>te σ λd=>g d σ DT.nx
theorem LJ {tg:Expr} {g:GT} (he:hU X e te) (hg:CT X tg g) (pa:∀ {v:TE} {gv:TG},PE X e v->PG X tg gv->PS X (.Assign [tg] e pos) (rQ v gv)):xT X (.Assign [tg] e pos) (Q9 te g):=by
 obtain ⟨v,pe,re⟩:=he
 obtain ⟨gv,pg,rg⟩:=hg
 refine ⟨_,pa pe pg,λB p0 H ps σT σ DT DV o h f=>re B p0 H ps σT σ _ _ o h λd x H1 s1 r1 q1=>?_⟩
 exact rg B p0 H1 ps σT σ d x _ _ (o.grow s1) r1 q1 λσT' σ' o' _ q'=>f.nx H1 ps _ _ o' (bO s1) q'
def eIf (c:qQ) (ta tb:ET):ET:=λσ Q=>c σ λb=>if b=true then ta σ Q else tb σ Q
theorem zD {tc:qQ} (hc:IJ X c tc) (ha:hU X a ta) (hb:hU X b tb):hU X (.IfExp c a b pos) (eIf tc ta tb):=by
 obtain ⟨vc,pc,rc⟩:=hc
 obtain ⟨va,pa,ra⟩:=ha
 obtain ⟨vb,pb,rb⟩:=hb
 refine ⟨_,R5 pc pa pb,λB p0 H ps σT σ Q QV o h k=>rc B p0 H ps σT σ _ _ o h λd H1 s1 q1=>?_⟩
 cases d with
 | true =>
  rw [if_pos rfl] at q1 |-
  exact ra B p0 H1 ps σT σ Q _ (o.grow s1) q1 λd v H' s' r' q'=>k d v H' (s1.trans s') r' q'
 | false =>
  rw [if_neg (by decide)] at q1 |-
  exact rb B p0 H1 ps σT σ Q _ (o.grow s1) q1 λd v H' s' r' q'=>k d v H' (s1.trans s') r' q'
end
end TL

namespace L2
open PySem PySem.Spec PyProof.Rows PySem.SeqAt
open AutoSeq1 (wpAny_loadPart')
section
variable {X:Cx} {pins:List (Addr×Obj)} {σ:St} {H:Hp} {s:Shared} {p:Addr}
end
theorem KC (l:Addr) (items:Array Value) (n:Nat) (b:Addr) (items2:Array Value) (n2:Nat) (dd:Option Addr) (sl:Array (Option Value)) (hc0:¬(!items.isEmpty && Builtin.List.listTooLong (items.size+items2.size))=true) (hc1:items.size<=bD) (hs2:items.size+items2.size<=bD+1) :
  Meets (Builtin.«list.extend» ⟨[.ref l,.ref b],[]⟩) (λ_ R s=>s.heap.get? l=some { cls:=.type "list",dict:=none,data:=.seq items n,slots:=#[] }/\s.heap.get? b=some { cls:=.type "list",dict:=dd,data:=.seq items2 n2,slots:=sl }/\R (.ok (.ret Value.none)) { s with heap:=s.heap.update l (Obj.mapSeq λx=>x++items2),toks:=s.toks }) :=
 .of_wp λprog w A R s h=>by
  obtain ⟨hp,g,d,tk,os⟩:=s;obtain ⟨hl,hb,h⟩:=h;have f1:=AutoSeq1.idx_int;have f2:=AutoSeq1.sub_tuple_tuple;have f3:=AutoSeq1.sub_list_list;have f4:=AutoSeq1.sub_tuple_list;have f5:=AutoSeq1.sub_list_tuple
  have hz':(items++items2).size<=bD+1:=by rw [QC];exact hs2
  wp_walk using (wpAny_updateSeq hl rfl (hz:=hc1) (_hz':=hz')),wpAny_loadPart' hl,wpAny_loadPart' hb
  exact ⟨_,rfl,h⟩
section
variable {X:Cx}
def aAl (K:aD):V->List V->Hp->VK->Prop:=λx vs H Q=>∃ l b xs zs,x=.ref l/\vs=[.ref b]/\H l=some (.lst xs)/\mK K H b zs/\xs.length+zs.length<=bD/\Q .non (fZ H l (.lst (xs++zs)))
theorem MD:MtM X "list.extend" (aAl X.K):=by
 intro pins s σ H x vs v us Q I rx rv h
 obtain ⟨l,b,xs,zs,rfl,rfl,hH,hB,hz,q⟩:=h
 cases rx
 obtain ⟨u,rfl,ru⟩:=rv.one
 cases ru
 obtain ⟨z,its,n,r,hl,e⟩:=I.lstM hH
 obtain ⟨its2,r2,⟨o,n2,e2,hc,hdn,hd⟩,z2⟩:=I.list hB
 have hl2:=r2.length
 have hsz:its.toArray.size+its2.toArray.size<=bD:=by rw [bR,bR];omega
 have hlong:¬ (!its.toArray.isEmpty && Builtin.List.listTooLong (its.toArray.size+its2.toArray.size))=true:=by
  rw [SL hsz,Bool.and_false]
  exact bA
 obtain ⟨oc,od,odt,osl⟩:=o
 cases hc
 cases hd
 refine call_meets F.slot_list_extend ⟨_,e,rfl⟩ F.entry_list_extend (F.args_list_extend_2 _ _) (KC l its.toArray n b its2.toArray n2 od osl hlong (by rw [bR];omega) (by omega)) ⟨e,e2,?_⟩
 refine ⟨.non,_,I.lset (its':=its++its2) hH e (by simp) (r.append r2) ?_,rfl,q⟩
 rw [bL]
 omega
end
end L2
namespace TL
open PySem PySem.Spec PyProof.Rows L2
section
variable {X:Cx} {a b c e:Expr} {es:List Expr} {ta tb te:ET} {pos:Pos}
def aAh (i:Nat) (te:ET):oW:=λDT σ=>∃ ts,σ[i]?=some (.own ts)/\te σ λd=>∃ us,d=.list us/\ts.length+us.length<=100000/\DT.nx (σ.set i (.own (ts++us)))
theorem LM {i:Nat} {n e:Expr} {te:ET} {ap cp:Pos} (hn:PE X n (oU i)) (he:hU X e te) (hs:bN [e] X.env=(false,eval e X.env)::bN [] X.env:=by rfl)
  (pb:∀ {ta:TA},PA X [e] ta->PS X (.Expr (.Call (.Attribute n "extend" ap) [e] [] cp) pos) (LF (VQ X.K "list" (aAl X.K) (oU i) ta))):xT X (.Expr (.Call (.Attribute n "extend" ap) [e] [] cp) pos) (aAh i te):=by
 obtain ⟨v,p,r⟩:=he
 refine ⟨_,pb (fL p iZ hs),λB p0 H ps σT σ DT DV o h f=>?_⟩
 obtain ⟨ts,e,h⟩:=h
 obtain ⟨q,xs,h1,h2,h3,h4,h5,h6⟩:=o.own i ts e
 refine ⟨.ref q,h1,.inl ⟨rfl,xs,mK.of h5⟩,r B p0 H ps σT σ _ _ o h λd x H1 s1 r1 q1=>?_⟩
 obtain ⟨us,rfl,hz,q1⟩:=q1
 have o1:=o.grow s1
 cases r1 with
 | @list p2 zs _ hq rs =>
  refine ⟨q,p2,xs,zs,rfl,rfl,s1 _ _ h5,L2.bB.seq bV hq,yZ (by rw [<- h6.length,<- rs.length];exact hz),?_⟩
  have hr:Reps X.K (mask H1 ps) (ts++us) (xs++zs):=(h6.same (bO s1)).append rs
  exact f.nx _ ps _ σ (o1.write (ys:=xs++zs) e h1 hr) ((bO s1).trans (by rw [gY h2];exact L2.bB.refl _)) q1
theorem BO {P:bF} {w:World} {K:aD} {mg:Str->Option Value} {base:Heap} {k:Nat} {f:Addr} {fd:dI} {pn:List Str}:cL P w K mg base fP k f fd pn (bX K λ_ _=>False) :=
 ⟨λvs H Q E ⟨_,_,_,_,_,h,_⟩=>h.elim,λA outer s H args us vs Q E _ _ _ _ ⟨_,_,_,_,_,h,_⟩=>h.elim⟩
theorem KB {P:bF} {w:World} {K:aD} {mg:Str->Option Value} {base:Heap} {k:Nat} {f:Addr} {fd:dI} {pn:List Str} {sp sp':oA} (F:cL P w K mg base fP k f fd pn (bX K sp)) (h:∀ ds Q,sp' ds Q->sp ds Q):cL P w K mg base fP k f fd pn (bX K sp') :=
 F.imp λvs H Q E ⟨ps,ds,QD,h1,h2,h3,h4⟩=>⟨ps,ds,QD,h1,h2,h ds QD h3,h4⟩
def aJs (d:D) (Q:D->Prop):Prop:=∃ ns:List Int,d=.list (ns.map aO)/\ns≠[]/\∀ m,m∈ns->(∀ n∈ns,n<=m)->Q (.int m)
end
end TL

namespace L2
open PySem PySem.Spec PyProof.Rows
section
variable {X:Cx}
theorem pV (hc:X.calm=true):kJ X (.builtin "max") (λxs H Q=>∃ (p:Addr) (ns:List Int),xs=[.ref p]/\mK X.K H p (ns.map V.int)/\ns≠[]/\∀ m,m∈ns->(∀ n∈ns,n<=m)->Q (.int m) H):=by
 intro pins s σ H xs us Q I r h
 obtain ⟨p,ns,rfl,hq,hne0,q⟩:=h
 obtain ⟨u,rfl,rx⟩:=rL r
 cases rx
 obtain ⟨its,rv,pl,hz⟩:=I.list hq
 have hlen:=rv.length
 rw [aB] at hlen
 have hpos:0<ns.length:=List.length_pos_iff.mpr hne0
 have hne:p≠s.heap.objs.size:=by
  obtain ⟨o,ho,_⟩:=pl.isList
  exact bS (bH ho)
 have hl1:=pl.isList
 have hplt:p<s.heap.objs.size:=by
  obtain ⟨o,ho,_⟩:=hl1
  exact bH ho
 have hval:∀ (i:Nat) (v:Value),its.toArray[i]?=some v->∃ t,v=.int ((ns[i]?).getD 0) t:=λi v hP=>by
  have hv:its[i]?=some v:=by simpa using hP
  have hi:i<its.length:=(aG.mp hv).1
  have hb:i<ns.length:=by omega
  obtain ⟨w',h1,h2⟩:=rv.get (i:=i) (x:=.int ns[i]) (by rw [aI,aH hb];rfl)
  rw [hv] at h1
  cases h1
  rw [aH hb]
  exact h2
 refine call_max_walk (wpAny_pyIter_list hl1 ?_)
 refine ⟨_,_,_,_,_,_,_,rfl,Walks.list (A:=X.A.in1) (I.ok.hd hc) _ p hne its.toArray,⟨⟨_,aR _ rfl,rfl,rfl⟩,hl1.push _⟩,λb hb=>?_,by rw [bR];omega,CmpOf.ints_gt (λi=>(ns[i]?).getD 0) hval,λv h' tk hP hk=>?_⟩
 ·show b<(s.heap.push _).objs.size
  rw [fF]
  have:b=s.heap.objs.size\/b=p:=by simpa using hb
  rcases this with rfl | rfl
  ·exact eE _
  ·exact eV hplt
 ·obtain ⟨t,rfl⟩:=hval _ _ hP
  have hb:=argBest_gt (λi=>(ns[i]?).getD 0) (its.toArray.size-1)
  have hsz:its.toArray.size=ns.length:=by rw [bR];omega
  have hi:argBest (λi j=>decide ((ns[i]?).getD 0 > (ns[j]?).getD 0)) (its.toArray.size-1)<ns.length:=by have:=hb.1;omega
  refine ⟨.int _,H,I.kept λb o e=>hk b o ?_ (aJ _ e),⟨t,rfl⟩,q _ ?_ λn hn=>?_⟩
  ·intro z
   have:b=s.heap.objs.size:=by simpa using z
   exact absurd (bH e) (by rw [this];exact iQ _)
  ·rw [aH hi]
   exact fE hi
  ·obtain ⟨j,hj,rfl⟩:=NK.mp hn
   have:=hb.2 j (by omega)
   rw [aH hj] at this
   exact this

end
end L2
namespace TL
open PySem PySem.Spec PyProof.Rows L2
section
variable {X:Cx} {a b c e:Expr} {es:List Expr} {ta tb te:ET} {pos:Pos}
theorem UQ:tD X (λxs H Q=>∃ (p:Addr) (ns:List Int),xs=[.ref p]/\mK X.K H p (ns.map V.int)/\ns≠[]/\∀ m,m∈ns->(∀ n∈ns,n<=m)->Q (.int m) H) (f1 aJs):=c1 λH ps d x Q QV live r h k=>by
 obtain ⟨ns,rfl,hne,h⟩:=h
 cases r with
 | list q s =>
  have e:=tM s
  subst e
  exact ⟨_,ns,rfl,L2.bB.seq bV q,hne,λm hm hn=>k _ _ H (L2.bB.refl H) (.int _) (h m hm hn)⟩
end
theorem Ok.setUn {K:aD} {B H:Hp} {p0 ps:List Addr} {σT:List Sl} {σ:L2.St} (o:Ok K B p0 H ps σT σ) {i:Nat} {v:V}:Ok K B p0 H ps (σT.set i .un) (σ.set i (some v)) where
 base:=o.base
 sub:=o.sub
 live:=o.live
 len:=by simpa using o.len
 val:=λj d' h=>by
  by_cases e:i=j
  ·subst e
   have hi:i<σT.length:=by
    have:=(aG.mp h).1
    simpa using this
   rw [aY hi] at h
   cases h
  ·rw [aW e] at h |-
   exact o.val j d' h
 own:=λj ts h=>by
  by_cases e:i=j
  ·subst e
   have hi:i<σT.length:=by
    have:=(aG.mp h).1
    simpa using this
   rw [aY hi] at h
   cases h
  ·rw [aW e] at h |-
   exact o.own j ts h
 dis:=λj k ts us p h1 h2 h3 h4=>by
  have ne:∀ {l:Nat} {ts:List D},(σT.set i .un)[l]?=some (.own ts)->i≠l:=λ{l ts} h e=>by
   subst e
   have hi:i<σT.length:=by
    have:=(aG.mp h).1
    simpa using this
   rw [aY hi] at h
   cases h
  have e1:=ne h1
  have e2:=ne h2
  rw [aW e1] at h1 h3
  rw [aW e2] at h2 h4
  exact o.dis j k ts us p h1 h2 h3 h4
 dc:=o.dc.setS λ_ _ z=>nomatch z
section
variable {X:Cx} {a b c e:Expr} {es:List Expr} {ta tb te:ET} {pos:Pos}
end
end TL

namespace L2
open PySem PySem.Spec PyProof.Rows PySem.SeqAt
section
variable {X:Cx}
end
section
variable {P:bF} {w:World} {A:Around} {E:Value->Shared->Prop} {s:Shared}
end
section
variable {X:Cx}
end
end L2
namespace TL
open PySem PySem.Spec PyProof.Rows L2 PySem.SeqAt
variable {K:aD}
def aD0 (K:aD) (a:Addr) (ys:List Str):Prop:=∃ (o:Obj) (its:Array Value) (n:Nat),K.lookup a=some o/\o.cls=.type "tuple"/\o.dict=none/\o.data=.seq its n/\its.size<=bD/\fG (ys.map V.str) its.toList
theorem A8 {H:Hp}:∀ ys:List Str,Reps K H (ys.map aP) (ys.map V.str)
 | []=>.nil
 | y::ys=>.cons (.str y) (A8 ys)
section
variable {X:Cx} {a b c e:Expr} {es:List Expr} {ta tb te:ET} {pos:Pos}
theorem XW {x:Str} {p:Addr} {ys:List Str} {pos:Pos} (hg:Gl X x) (hm:X.mg x=some (.ref p)) (hk:aD0 X.K p ys) (hd:(x == ("__debug__":Str))=false:=by decide):hU X (.Name x pos) (eC (.tuple (ys.map aP))) :=
 ⟨_,L7 (v:=.ref p) hg hm rfl hd,λ_ _ H _ _ _ _ _ _ h k=>k _ _ H (L2.bB.refl H) (.tuple (.inr hk) (A8 ys)) h⟩
def EV (K:aD):V->List V->Hp->VK->Prop:=λx xs H Q=>∃ (y:V) (ts:List D) (d:D) (j:Nat),xs=[y]/\gE K H (.list ts) x/\gE K H d y/\OB ts d j/\j<1000000/\Q (.int j) H
theorem JS (hu:X.A.units+200<cLine):PP X "list.index" (EV X.K):=by
 intro pins s σ H x xs v us Q I rx rv h
 obtain ⟨y,ts,d,j,rfl,r1,r2,⟨c1,c2,hm,⟨t,ht,he⟩,hno⟩,hj0,q⟩:=h
 obtain ⟨u,rfl,ru⟩:=rv.one
 obtain ⟨as,h1⟩:=gE.reads I (show (aD5 ts).hasDict=false from noDictAll c1) r1 rx
 obtain ⟨bs,h2⟩:=gE.reads I (mH c2) r2 ru
 cases h1 with
 | @list l o items n _ as' h3 h4 h5 h6 =>
  have hmap:=readsAll_map ts items.toList _ c1 h6
  have hlen:items.size=ts.length:=by rw [<- hmap,aB,bP]
  have hjl:j<ts.length:=(aG.mp ht).1
  have hj:j<items.size:=by omega
  have rd:∀ (m:Nat) (hm:m<items.size),ts[m]?=some (readOf s.heap items[m]):=λm hm=>by
   rw [<- hmap,aI]
   simp [hm]
  obtain ⟨oc,od,odt,osl⟩:=o
  cases h4
  cases h5
  refine call_meets F.slot_list_index ⟨_,h3,rfl⟩ F.entry_list_index (F.args_list_index_2 _ _) (list_indexAt _ items _ od osl u (λy=>cP (readOf s.heap y) d) j hj (by omega) ?_ ?_) ⟨h3,items_eqAt h6 h2 c1 c2 (by have:=hu;omega),?_⟩
  ·have:=rd j hj
   rw [ht] at this
   rw [<- Option.some.inj this];exact he
  ·intro m hm' hlt
   exact hno m _ hlt (rd m hm')
  ·exact ⟨.int j,H,I.tok _,⟨_,rfl⟩,q⟩
theorem DF {k:Nat} (hr:Room k X.A):PP X "list.index" (EV X.K):=JS (by have:=hr.un;omega)
def FK (te:ET) (t:AT):ET:=λσ Q=>te σ λd=>∃ ts,d=.list ts/\t σ λds=>∃ (x:D) (j:Nat),ds=[x]/\OB ts x j/\j<1000000/\Q (.int j)
theorem DW {n:Expr} {ap:Pos} {t:AT} (hn:hU X n te) (ha:xU X (e::es) t)
  (pc:∀ {v:TE} {ta:TA},PE X n v->PA X (e::es) ta->PE X (.Call (.Attribute n "index" ap) (e::es) [] pos) (VQ X.K "list" (EV X.K) v ta)):hU X (.Call (.Attribute n "index" ap) (e::es) [] pos) (FK te t):=by
 obtain ⟨v,pe,re⟩:=hn
 obtain ⟨va,pa,ra⟩:=ha
 refine ⟨_,pc pe pa,λB p0 H ps σT σ Q QV o h k=>re B p0 H ps σT σ _ _ o h λd x H1 s1 r1 q1=>?_⟩
 obtain ⟨ts,rfl,q1⟩:=q1
 cases r1 with
 | @list p xs _ hq rs =>
  refine ⟨.inl ⟨rfl,_,L2.bB.seq bV hq⟩,ra B p0 H1 ps σT σ _ _ (o.grow s1) q1 λds ys H2 s2 r2 q2=>?_⟩
  obtain ⟨d,j,rfl,hok,hj,q⟩:=q2
  cases r2 with
  | cons r3 r4 =>
   cases r4
   exact ⟨_,ts,d,j,rfl,(gE.list hq rs).same ((bO s2).trans bV),r3.same bV,hok,hj,k _ _ H2 (s1.trans s2) (.int _) q⟩
def aGl (ts:List D) (d:D):Prop:=cR ts=true/\d.canLay0=true/\min (cD ts) d.depth<=60
def EW (K:aD):V->List V->Hp->VK->Prop:=λx xs H Q=>∃ (y:V) (ts:List D) (d:D),xs=[y]/\gE K H (.list ts) x/\gE K H d y/\aGl ts d/\Q (.int ((ts.countP λt=>cP t d:Nat):Int)) H
theorem JT (hu:X.A.units+200<cLine):PP X "list.count" (EW X.K):=by
 intro pins s σ H x xs v us Q I rx rv h
 obtain ⟨y,ts,d,rfl,r1,r2,⟨c1,c2,hm⟩,q⟩:=h
 obtain ⟨u,rfl,ru⟩:=rv.one
 obtain ⟨as,h1⟩:=gE.reads I (show (aD5 ts).hasDict=false from noDictAll c1) r1 rx
 obtain ⟨bs,h2⟩:=gE.reads I (mH c2) r2 ru
 cases h1 with
 | @list l o items n _ as' h3 h4 h5 h6 =>
  have hmap:=readsAll_map ts items.toList _ c1 h6
  obtain ⟨oc,od,odt,osl⟩:=o
  cases h4
  cases h5
  refine call_meets F.slot_list_count ⟨_,h3,rfl⟩ F.entry_list_count (F.args_list_count_2 _ _) (list_countAt _ items _ od osl u (λy=>cP (readOf s.heap y) d)) ⟨h3,items_eqAt h6 h2 c1 c2 (by have:=hu;omega),?_⟩
  refine ⟨.int _,H,I.tok _,⟨_,rfl⟩,?_⟩
  have e:(items.toList.countP λy=>cP (readOf s.heap y) d)=ts.countP λt=>cP t d:=by
   rw [<- hmap,YS];rfl
  rw [e];exact q
theorem DG {k:Nat} (hr:Room k X.A):PP X "list.count" (EW X.K):=JT (by have:=hr.un;omega)
def X6 (te:ET) (t:AT):ET:=λσ Q=>te σ λd=>∃ ts,d=.list ts/\t σ λds=>∃ x:D,ds=[x]/\aGl ts x/\Q (.int ((ts.countP λt=>cP t x:Nat):Int))
theorem DX {n:Expr} {ap:Pos} {t:AT} (hn:hU X n te) (ha:xU X (e::es) t)
  (pc:∀ {v:TE} {ta:TA},PE X n v->PA X (e::es) ta->PE X (.Call (.Attribute n "count" ap) (e::es) [] pos) (VQ X.K "list" (EW X.K) v ta)):hU X (.Call (.Attribute n "count" ap) (e::es) [] pos) (X6 te t):=by
 obtain ⟨v,pe,re⟩:=hn
 obtain ⟨va,pa,ra⟩:=ha
 refine ⟨_,pc pe pa,λB p0 H ps σT σ Q QV o h k=>re B p0 H ps σT σ _ _ o h λd x H1 s1 r1 q1=>?_⟩
 obtain ⟨ts,rfl,q1⟩:=q1
 cases r1 with
 | @list p xs _ hq rs =>
  refine ⟨.inl ⟨rfl,_,L2.bB.seq bV hq⟩,ra B p0 H1 ps σT σ _ _ (o.grow s1) q1 λds ys H2 s2 r2 q2=>?_⟩
  obtain ⟨d,rfl,hok,q⟩:=q2
  cases r2 with
  | cons r3 r4 =>
   cases r4
   exact ⟨_,ts,d,rfl,(gE.list hq rs).same ((bO s2).trans bV),r3.same bV,hok,k _ _ H2 (s1.trans s2) (.int _) q⟩
end
end TL
namespace TL
open PySem
end TL
namespace TL
open PySem PySem.Spec PyProof.Rows L2
section
variable {fr:List (Option Nat)} {ti:IT} {tt:qQ} {te:ET} {σ:List Sl} {Q:D->Prop} {ts:List D}
end
end TL

namespace TL
open PySem PySem.Builtin PySem.Builtin.Str PySem.StrLaws
end TL

namespace L2
open PySem PySem.Spec PyProof.Rows PySem.Builtin.Str
section
variable {X:Cx}
end
end L2
namespace TL
open PySem PySem.Spec PyProof.Rows L2
section
variable {X:Cx} {a b c e:Expr} {es:List Expr} {ta tb te:ET} {pos:Pos}
theorem aEm {s:Stmt}:xT X s (λ_ _=>False):=⟨λ_ _ _=>False,λ_ _ _ _ _ _ h=>h.elim,λ_ _ _ _ _ _ _ _ _ h _=>h.elim⟩
end
end TL

namespace L2
open PySem PySem.Spec PyProof.Rows PySem.Builtin
section
variable {X:Cx} {e:Expr} {pos:Pos}
def A7 (r:Addr) (j:Int) (h:Heap):Prop:=∃ t u v,IsRange h r 0 j 1 t u v
theorem sX:kJ X (.type "range") (λxs H Q=>∃ j:Int,xs=[.int j]/\∀ r,H r=none->Q (.ref r) (fZ H r (.ext (A7 r j)))):=by
 intro pins s σ H xs us Q I r h
 obtain ⟨j,rfl,q⟩:=h
 obtain ⟨u,rfl,ru⟩:=rL r
 obtain ⟨t,rfl⟩:=ru
 refine call_range_1 ⟨.ref s.heap.objs.size,_,I.laid (t':=s.toks+1+1) (o:=.ext (A7 s.heap.objs.size j)) (λb u e=>aJ _ e) (aL _) ?_,rfl,q _ (I.hok.fresh (aL _))⟩
 exact ⟨⟨_,_,_,aR _ rfl⟩,⟨_,aR _ rfl⟩,λh1 h2 ⟨t,u,v,z⟩ k=>⟨t,u,v,k _ z⟩⟩
theorem GB:∀ (n a:Nat) (us:List Value),us.length=n->(∀ (j:Nat) v,us[j]?=some v->∃ t,v=.int ((a+j:Nat):Int) t)->fG ((NJ a n).map λ(k:Nat)=>V.int (k:Int)) us
 | 0,_,us,hl,_=>by rw [jM.mp hl];exact .nil
 | n+1,a,us,hl,h=>by
  match us,hl with
  | u::us,hl =>
   rw [VE,aX]
   obtain ⟨t,ht⟩:=h 0 u rfl
   refine .cons ⟨t,by rw [ht];rfl⟩ (GB n (a+1) us (by simpa using hl) λj v hv=>?_)
   obtain ⟨t',ht'⟩:=h (j+1) v (by simpa using hv)
   exact ⟨t',by rw [ht'];congr 2;omega⟩
theorem MO:∀ {ns:List Int} {us:List Value},fG (ns.map V.int) us->IntsAre us ns
 | [],_,r=>by rw [jW] at r;cases r;exact .nil
 | n::ns,us,r=>by
  rw [aX] at r
  cases r with
  | cons r1 r2 =>
   obtain ⟨t,rfl⟩:=r1
   exact .cons n t (MO r2)
theorem MB:∀ {ns:List Int} {us:List Value},IntsAre us ns->fG (ns.map V.int) us
 | _,_,.nil=>.nil
 | _,_,.cons n t r=>.cons ⟨t,rfl⟩ (MB r)
end
end L2
namespace TL
open PySem PySem.Spec PyProof.Rows L2
section
variable {X:Cx} {a b c e:Expr} {es:List Expr} {ta tb te:ET} {pos:Pos}
theorem GV {K:aD} {H:Hp}:∀ l:List Nat,Reps K H (l.map λ(k:Nat)=>aO (k:Int)) (l.map λ(k:Nat)=>V.int (k:Int))
 | []=>.nil
 | k::l=>.cons (.int _) (GV l)
theorem LU {K:aD} {H:Hp}:∀ l:List Int,Reps K H (l.map aO) (l.map V.int)
 | []=>.nil
 | k::l=>.cons (.int _) (LU l)
theorem PL:bootBuiltins "sorted"=some (.builtin "sorted"):=by decide +kernel
theorem B2:bootBuiltins "range"=some (.type "range"):=by decide +kernel
end
end TL

namespace L2
open PySem PySem.Spec PyProof.Rows
section
variable {X:Cx} {pins:List (Addr×Obj)} {σ:St} {H:Hp} {s:Shared} {p q:Addr}
end
end L2
namespace TL
open PySem PySem.Spec PyProof.Rows L2
section
variable {X:Cx} {a b c e:Expr} {es:List Expr} {ta tb te:ET} {pos:Pos}
end
section
variable {X:Cx} {a b c e:Expr} {es:List Expr} {ta tb te:ET} {pos:Pos}
def FN:List Expr->Option (List Str)
 | []=>some []
 | .Constant (.str z) _ _::es=>(FN es).map (z::·)
 | _=>none
theorem D7:∀ {es:List Expr} {zs:List Str},FN es=some zs->xU X es (λ_ Q=>Q (zs.map aP))
 | [],zs,h=>by
  cases h
  exact aS
 | .Constant (.str z) k p::es,zs,h=>by
  have h':(FN es).map (z::·)=some zs:=h
  obtain ⟨ys,hy,rfl⟩:=bU.mp h'
  exact aC gB (D7 hy)
theorem LK {i:Nat} {x:Str} {pos':Pos} (hN:X.N.Nodup) (hi:X.N[i]?=some x) (hx:NC X.env.scope x) (he:hU X e te) (hs:gT e (some (.Name x pos')) pos.line X.env=pure false:=by rfl) (hf:X.fn x=true\/X.env.scope.names.lookup x=some .local:=by first | exact .inl rfl | exact .inr rfl | assumption) :
  xT X (.Assign [.Name x pos'] e pos) (wI i te):=QU he λh=>pQ hN hi hx h hs hf
end
end TL

namespace L2
open PySem PySem.Spec PyProof.Rows
section
variable {P:bF} {w:World} {A:Around} {E:Value->Shared->Prop} {s:Shared}
end
section
variable {X:Cx}
end
end L2
namespace TL
open PySem PySem.Spec PyProof.Rows L2
section
variable {X:Cx} {a b:Expr} {pos:Pos}
end
end TL

namespace L2
open PySem PySem.Spec PyProof.Rows

section
variable {κ:Type} [DecidableEq κ]
def uI (kvs:List (κ×V)) (k:κ):Option V:=(kvs.find? λkv=>decide (kv.1=k)).map (·.2)
def oG (kvs:List (κ×V)) (k:κ) (v:V):List (κ×V) :=
 if (kvs.any λkv=>decide (kv.1=k))=true then kvs.map (λkv=>if kv.1=k then (kv.1,v) else kv) else kvs++[(k,v)]
def aAz (kvs:List (κ×V)) (k:κ):List (κ×V):=kvs.filter λkv=>decide (kv.1≠k)

theorem oE {p:κ×V} {r:List (κ×V)} {k:κ} (e:p.1=k):uI (p::r) k=some p.2:=by simp [uI,lZ,e]
theorem mD {p:κ×V} {r:List (κ×V)} {k:κ} (e:¬ p.1=k):uI (p::r) k=uI r k:=by simp [uI,lZ,e]
theorem GD (k:κ):∀ kvs:List (κ×V),(kvs.any λkv=>decide (kv.1=k))=(uI kvs k).isSome
 | []=>rfl
 | p::r=>by
  rw [xQ]
  by_cases e:p.1=k
  ·simp only [oE e,decide_eq_true e,Bool.true_or,NI]
  ·rw [mD e,decide_eq_false e,Bool.false_or];exact GD k r
theorem sR (kvs:List (κ×V)) (k:κ) (v:V):(oG kvs k v).length<=kvs.length+1:=by
 unfold oG
 split
 ·rw [aB];omega
 ·rw [bL,cI,oC];omega
theorem uL.isSome_eq {o:Option V} {u:Option Value} (r:uL o u):o.isSome=u.isSome:=by
 cases o with
 | none=>cases u with
  | none=>rfl
  | some _=>exact (show False from r).elim
 | some _=>cases u with
  | none=>exact (show False from r).elim
  | some _=>rfl
theorem KV.val {kvs:List (κ×V)} {vs:List (κ×Value)} (r:KV kvs vs) (k:κ):uL (uI kvs k) (valueAt vs k):=by
 unfold KV at r
 induction r with
 | nil=>exact True.intro
 | @cons p q ps qs h t ih =>
  obtain ⟨h1,h2⟩:=h
  by_cases e:p.1=k
  ·have e':q.1=k:=h1.symm.trans e
   have b:valueAt (q::qs) k=some q.2:=by simp [valueAt,lZ,e']
   rw [oE e,b];exact h2
  ·have e':¬ q.1=k:=λz=>e (h1.trans z)
   have b:valueAt (q::qs) k=valueAt qs k:=by simp [valueAt,lZ,e']
   rw [mD e,b];exact ih
theorem KV.any {kvs:List (κ×V)} {vs:List (κ×Value)} (r:KV kvs vs) (k:κ):(kvs.any λkv=>decide (kv.1=k))=vs.any λkv=>decide (kv.1=k):=by
 unfold KV at r
 induction r with
 | nil=>rfl
 | cons h t ih=>rw [xQ,xQ,ih,h.1]
theorem KV.repl {kvs:List (κ×V)} {vs:List (κ×Value)} (r:KV kvs vs) (k:κ) {y:V} {u:Value} (ry:gC y u) :
  KV (kvs.map λkv=>if kv.1=k then (kv.1,y) else kv) (vs.map λkv=>if kv.1=k then (kv.1,u) else kv):=by
 unfold KV at r |-
 induction r with
 | nil=>exact .nil
 | @cons p q ps qs h t ih =>
  rw [aX,aX]
  refine .cons ?_ ih
  obtain ⟨h1,h2⟩:=h
  by_cases e:p.1=k
  ·rw [if_pos e,if_pos (h1.symm.trans e)];exact ⟨h1,ry⟩
  ·rw [if_neg e,if_neg (λz=>e (h1.trans z))];exact ⟨h1,h2⟩
theorem KV.put {kvs:List (κ×V)} {vs:List (κ×Value)} (r:KV kvs vs) (k:κ) {y:V} {u:Value} (ry:gC y u):KV (oG kvs k y) (stored vs k u):=by
 unfold oG stored
 rw [r.any k]
 by_cases e:(vs.any λkv=>decide (kv.1=k))=true
 ·rw [if_pos e,if_pos e];exact r.repl k ry
 ·rw [if_neg e,if_neg e];exact Paired.snoc r ⟨rfl,ry⟩
theorem KV.drop {kvs:List (κ×V)} {vs:List (κ×Value)} (r:KV kvs vs) (k:κ):KV (aAz kvs k) (without vs k):=by
 unfold KV at r |-
 unfold aAz without
 induction r with
 | nil=>exact .nil
 | @cons p q ps qs h t ih =>
  obtain ⟨h1,h2⟩:=h
  rw [bK,bK]
  by_cases e:p.1=k
  ·have a:¬ decide (p.1≠k)=true:=by simp [e]
   have b:¬ decide (q.1≠k)=true:=by simp [h1.symm.trans e]
   rw [if_neg a,if_neg b];exact ih
  ·have e':¬ q.1=k:=λz=>e (h1.trans z)
   have a:decide (p.1≠k)=true:=by simp [e]
   have b:decide (q.1≠k)=true:=by simp [e']
   rw [if_pos a,if_pos b];exact .cons ⟨h1,h2⟩ ih
theorem KV.keys {kvs:List (κ×V)} {vs:List (κ×Value)} (r:KV kvs vs):kvs.map (·.1)=vs.map (·.1):=by
 unfold KV at r
 induction r with
 | nil=>rfl
 | cons h t ih=>rw [aX,aX,ih,h.1]
theorem KV.length {kvs:List (κ×V)} {vs:List (κ×Value)} (r:KV kvs vs):kvs.length=vs.length:=Paired.length r
end


theorem MK {P:bF} {w:World} {k:lA} {u:Value} (r:gC (kV k) u):(jR P w).is k u=true:=by
 cases k with
 | inl i=>obtain ⟨t,e⟩:=(show ∃ t,u=Value.int i t from r);subst e;exact HB P w i t
 | inr x=>obtain ⟨t,e⟩:=(show ∃ t,u=Value.str x t from r);subst e;exact HA P w x t
theorem DM {P:bF} {w:World}:∀ {ks:List lA} {us:List Value},fG (ks.map kV) us->ItemsAre (jR P w) ks us
 | [],_,r=>by rw [jW] at r;cases r;exact .nil
 | k::ks,_,r=>by
  rw [aX] at r
  cases r with
  | cons h t=>exact .cons (MK h) (DM t)

abbrev KT (H:Hp):List (List lA×V)->List (List lA×Addr×Value)->Prop:=Paired λp q=>p.1=q.1/\H q.2.1=some (.tup (p.1.map kV))/\gC p.2 q.2.2
theorem KT.val {H:Hp} {kvs:List (List lA×V)} {xs:List (List lA×Addr×Value)} (r:KT H kvs xs) (k:List lA):uL (uI kvs k) ((atKey xs k).map (·.2)):=by
 induction r with
 | nil=>exact True.intro
 | @cons p q ps qs h t ih =>
  obtain ⟨h1,_,h2⟩:=h
  by_cases e:p.1=k
  ·have e':q.1=k:=h1.symm.trans e
   have b:atKey (q::qs) k=some q.2:=by simp [atKey,lZ,e']
   rw [oE e,b];exact h2
  ·have e':¬ q.1=k:=λz=>e (h1.trans z)
   have b:atKey (q::qs) k=atKey qs k:=by simp [atKey,lZ,e']
   rw [mD e,b];exact ih
theorem KT.repl {H:Hp} {kvs:List (List lA×V)} {xs:List (List lA×Addr×Value)} (r:KT H kvs xs) (k:List lA) {y:V} {u:Value} (ry:gC y u) :
  KT H (kvs.map λkv=>if kv.1=k then (kv.1,y) else kv) (xs.map (putAt k u)):=by
 induction r with
 | nil=>exact .nil
 | @cons p q ps qs h t ih =>
  rw [aX,aX]
  refine .cons ?_ ih
  obtain ⟨h1,h2,h3⟩:=h
  unfold putAt
  by_cases e:p.1=k
  ·rw [if_pos e,if_pos (h1.symm.trans e)];exact ⟨h1,h2,ry⟩
  ·rw [if_neg e,if_neg (λz=>e (h1.trans z))];exact ⟨h1,h2,h3⟩
theorem KT.put {H:Hp} {kvs:List (List lA×V)} {xs:List (List lA×Addr×Value)} (r:KT H kvs xs) (k:List lA) {b:Addr} {y:V} {u:Value} (hb:H b=some (.tup (k.map kV))) (ry:gC y u) :
  KT H (oG kvs k y) (storedH xs k b u):=by
 have e:(kvs.any λkv=>decide (kv.1=k))=(atKey xs k).isSome:=by
  rw [GD,(r.val k).isSome_eq,pY]
 unfold oG storedH
 rw [e]
 by_cases q:(atKey xs k).isSome=true
 ·rw [if_pos q,if_pos q];exact r.repl k ry
 ·rw [if_neg q,if_neg q];exact Paired.snoc r ⟨rfl,hb,ry⟩
theorem KT.keeps {H H':Hp} {kvs:List (List lA×V)} {xs:List (List lA×Addr×Value)} (r:KT H kvs xs) (ht:∀ b ys,H b=some (.tup ys)->H' b=some (.tup ys)):KT H' kvs xs :=
 Paired.mapP r λ_ _ z=>⟨z.1,ht _ _ z.2.1,z.2.2⟩

section
variable {P:bF} {w:World} {H:Hp} {h:Heap} {a:Addr}
theorem aAi {u:HO} (ok:vX P w H h) (e:Rd H a u):iJ P w H h a u:=e.ok ok
theorem UE {kvs:List (lA×V)} (ok:vX P w H h) (e:Rd H a (.dK kvs)):kvs.length<=bD/\(a == sysModules)=false/\∃ vs,KV kvs vs/\h.DictOf (jR P w) a vs :=
 show iJ P w H h a (.dK kvs) from aAi ok e
theorem aA0 {kvs:List (lA×V)} (ok:vX P w H h) (e:H a=some (.dK kvs)):kvs.length<=bD/\(a == sysModules)=false/\∃ vs,KV kvs vs/\h.DictOf (jR P w) a vs:=UE ok (.inl e)
theorem JY {ks:List lA} (ok:vX P w H h) (e:H a=some (.tup (ks.map kV))):(tupleKind (jR P w)).is h ks a:=by
 obtain ⟨_,its,r,o,h1,h2,n,h3,_⟩:=(show iJ P w H h a (.tup (ks.map kV)) from ok a _ e)
 exact ⟨o,its.toArray,n,h1,h2,h3,by simpa using DM r⟩
theorem UC {kvs:List (List lA×V)} (ok:vX P w H h) (e:Rd H a (.dT kvs)):kvs.length<=bD/\(a == sysModules)=false /\
  ∃ xs,KT H kvs xs/\h.DictOfH (tupleKind (jR P w)) a xs:=by
 obtain ⟨z,y,xs,r,o,es,ep,h1,h2,h3,h4,h5⟩:=(show iJ P w H h a (.dT kvs) from aAi ok e)
 refine ⟨z,y,xs,r,o,es,ep,h1,h2,h3,h4,λx hx=>?_,h5⟩
 have all:∀ {l:List (List lA×V)} {m:List (List lA×Addr×Value)},KT H l m->∀ x∈m,(tupleKind (jR P w)).is h x.1 x.2.1:=by
  intro l m q
  induction q with
  | nil=>intro x hx;exact nomatch hx
  | @cons p q ps qs hq t ih =>
   intro x hx
   rcases aZ.mp hx with e | hx
   ·subst e
    exact JY ok (by rw [<- hq.1];exact hq.2.1)
   ·exact ih x hx
 exact all r x hx
theorem aHj {kvs:List (List lA×V)} (ok:vX P w H h) (e:H a=some (.dT kvs)):kvs.length<=bD/\(a == sysModules)=false /\
  ∃ xs,KT H kvs xs/\h.DictOfH (tupleKind (jR P w)) a xs:=UC ok (.inl e)
end

def CB (H:Hp) (a:Addr) (y:V) (r:Option V):Prop :=
 (∃ kvs k,Rd H a (.dK kvs)/\y=kV k/\r=uI kvs k)\/∃ kvs k b,Rd H a (.dT kvs)/\y=.ref b/\H b=some (.tup (k.map kV))/\r=uI kvs k
def IF (H:Hp) (a:Addr) (y v:V) (H':Hp):Prop :=
 (∃ kvs k,H a=some (.dK kvs)/\y=kV k/\kvs.length<bD/\H'=fZ H a (.dK (oG kvs k v))) \/
 ∃ kvs k b,H a=some (.dT kvs)/\y=.ref b/\H b=some (.tup (k.map kV))/\kvs.length<bD/\H'=fZ H a (.dT (oG kvs k v))
theorem CB.k {H:Hp} {a:Addr} {kvs:List (lA×V)} {k:lA} (e:H a=some (.dK kvs)):CB H a (kV k) (uI kvs k):=.inl ⟨kvs,k,.inl e,rfl,rfl⟩
theorem CB.t {H:Hp} {a b:Addr} {kvs:List (List lA×V)} {k:List lA} (e:H a=some (.dT kvs)) (eb:H b=some (.tup (k.map kV))):CB H a (.ref b) (uI kvs k):=.inr ⟨kvs,k,b,.inl e,rfl,eb,rfl⟩
theorem IF.k {H:Hp} {a:Addr} {kvs:List (lA×V)} {k:lA} {v:V} (e:H a=some (.dK kvs)) (hl:kvs.length<bD):IF H a (kV k) v (fZ H a (.dK (oG kvs k v))):=.inl ⟨kvs,k,e,rfl,hl,rfl⟩
theorem IF.t {H:Hp} {a b:Addr} {kvs:List (List lA×V)} {k:List lA} {v:V} (e:H a=some (.dT kvs)) (eb:H b=some (.tup (k.map kV))) (hl:kvs.length<bD) :
  IF H a (.ref b) v (fZ H a (.dT (oG kvs k v))):=.inr ⟨kvs,k,b,e,rfl,eb,hl,rfl⟩


section
variable {X:Cx} {pins:List (Addr×Obj)} {σ:St} {H:Hp} {s:Shared} {a:Addr} {y v:V} {u r:Value} {o:Option V} {A:Around} {E:Value->Shared->Prop}

theorem dP.big (I:dP X pins σ H s):sysModules<s.heap.objs.size:=by
 have h:iR<s.heap.objs.size:=(I.mod.glob.keeps I.bk).lt
 exact K2 (by decide) h

theorem O5 {Q:Value->Shared->Prop} (hu:A.units+1<cLine) (I:dP X pins σ H s) (g:CB H a y (some v)) (ry:gC y u) (h:∀ w' s',dP X pins σ H s'->gC v w'->Q w' s') :
  wpAny (model X.prog X.w) A (getItem (.ref a) u) Q E s:=by
 rcases g with ⟨kvs,k,e,ey,l⟩ | ⟨kvs,k,b,e,ey,eb,l⟩
 ·subst ey
  obtain ⟨z,hd,vs,rel,dd⟩:=UE I.hok e
  obtain ⟨w',hw,rw'⟩:=uL.some_of (v:=v) (o:=valueAt vs k) (by rw [l];exact rel.val k)
  exact wpAny_getItem_of (MK ry) dd.mapOf hw (h w' _ (I.tok _) rw')
 ·subst ey
  cases (show u=Value.ref b from ry)
  obtain ⟨z,hd,xs,rel,dd⟩:=UC I.hok e
  obtain ⟨w',hw,rw'⟩:=uL.some_of (v:=v) (o:=(atKey xs k).map (·.2)) (by rw [l];exact rel.val k)
  obtain ⟨p,hp,hp2⟩:=bU.mp hw
  refine wpAny_getItem_heap (tupleKind_room_in1 hu) (JY I.hok eb) dd hp ?_
  rw [hp2]
  exact h w' _ (I.tok _) rw'
theorem FL {h':Heap} {t':Nat} {ob:HO} (I:dP X pins σ H s) (mu:Mut (H a)) (hs:cQ a s.heap h') (he:∃ q,h'.get? a=some q) (new:iJ X.prog X.w (fZ H a ob) h' a ob) :
  dP X pins σ (fZ H a ob) { s with heap:=h',toks:=t' } :=
 I.write (x:=a) (e:=a) mu (.inl rfl) (λb q hb z=>(hs.2 b hb).trans z) he new
theorem UF {P:bF} {w:World} {H':Hp} {h':Heap} {kvs:List (lA×V)} {vs:List (lA×Value)} (z:kvs.length<=bD) (hd:(a == sysModules)=false) (rel:KV kvs vs) (dd:h'.DictOf (jR P w) a vs) :
  iJ P w H' h' a (.dK kvs):=⟨z,hd,vs,rel,dd⟩
theorem O4 {H':Hp} {Q:Unit->Shared->Prop} (hu:A.units+1<cLine) (I:dP X pins σ H s) (g:IF H a y v H') (ry:gC y u) (rv:gC v r) (h:∀ s',dP X pins σ H' s'->Q () s') :
  wpAny (model X.prog X.w) A (setItem (.ref a) u r) Q E s:=by
 rcases g with ⟨kvs,k,e,ey,l,eH⟩ | ⟨kvs,k,b,e,ey,eb,l,eH⟩
 ·subst ey eH
  obtain ⟨z,hd,vs,rel,dd⟩:=aA0 I.hok e
  have hz:vs.length<=bD:=by rw [<- rel.length];exact z
  have hl:(oG kvs k v).length<=bD:=by have:=sR kvs k v;omega
  refine wpAny_setItem_pairs (hsz:=hz) (MK ry) dd λh' dd' hs=>h _ ?_
  have he:∃ q,h'.get? a=some q:=let ⟨q,_,_,hq,_⟩:=dd';⟨q,hq⟩
  exact FL I (by rw [e];exact True.intro) hs he (UF hl hd (rel.put k rv) dd')
 ·subst ey eH
  cases (show u=Value.ref b from ry)
  obtain ⟨z,hd,xs,rel,dd⟩:=aHj I.hok e
  have hz:xs.length<=bD:=by rw [<- Paired.length rel];exact z
  have hl:(oG kvs k v).length<=bD:=by have:=sR kvs k v;omega
  refine wpAny_setItem_heap (hsz:=hz) (tupleKind_room_in1 hu) (JY I.hok eb) dd λh' dd' hs=>h _ ?_
  obtain ⟨q,es,ep,hq,h2,h3,h4,_,h5⟩:=dd'
  refine FL I (by rw [e];exact True.intro) hs ⟨q,hq⟩ ⟨hl,hd,_,(rel.put k eb rv).keeps λc ys ec=>?_,q,es,ep,hq,h2,h3,h4,h5⟩
  rw [cG (aGr ec e (λz=>nomatch z))]
  exact ec
end

section
variable {X:Cx} {pins:List (Addr×Obj)} {σ:St} {H:Hp} {s:Shared} {a:Addr} {kvs:List (lA×V)} {k:lA} {u:Value} {A:Around} {E:Value->Shared->Prop}
end


def PN (i:Expr):Prop:=∀ ov iv,subscripted i false ov iv=operate [ov,iv] (getItem ov iv)
theorem LG {prog:bF} {w:World} {A:Around} {E:Value->Shared->Prop} {s:Shared} {env:Env} {value slice:Expr} {pos:Pos} {T id:String} {Q:Value->Shared->Prop}
  (hl:typeLookup (.type T) "__getitem__"=pure (some (.builtin id))) (hs:PN slice)
  (h:wpAny (model prog w) A (eval value env) (λo s₁=>wpAny (model prog w) A (eval slice env) (λi s₂=>s₂.TypeIs o T/\wpAny (model prog w) A (getItem o i) Q E s₂) E s₁) E s) :
  wpAny (model prog w) A (eval (.Subscript value slice pos) env) Q E s:=by
 refine Subscript_ (gH h (λo s₁ h₁=>gH h₁ (λi s₂ h₂=>?_) λ_ _ x=>x) λ_ _ x=>x)
 obtain ⟨hT,h₂⟩:=h₂
 unfold subscriptTail
 refine aA ?_
 rw [getitemInPython_of_ne hT.not_modules]
 refine aA (wpAny_specialOf hT hl ?_)
 have fin:wpAny (model prog w) A (subscripted slice false o i) (λr s₃=>wpAny (model prog w) A (letTemporaryGo value o r >>= λ_=>pure r) Q E s₃) E s₂:=by
  rw [hs o i]
  exact wpAny_operating (gH h₂ (λr s₃ h₃=>aA (wpAny_letTemporaryGo (aF h₃))) λ_ _ x=>x)
 first
  | exact aF (aA fin)
  | exact aA (aF (aA fin))
  | exact aA fin

theorem HQ {X:Cx} {pins:List (Addr×Obj)} {σ:St} {H:Hp} {s:Shared} {a:Addr} {y:V} {o:Option V} (I:dP X pins σ H s) (g:CB H a y o):s.TypeIs (.ref a) "dict":=by
 rcases g with ⟨kvs,k,e,_,_⟩ | ⟨kvs,k,b,e,_,_,_⟩
 ·obtain ⟨_,_,vs,_,dd⟩:=UE I.hok e
  exact dd.typeIs
 ·obtain ⟨_,_,xs,_,dd⟩:=UC I.hok e
  exact dd.typeIs
def aEk (td ty:TE):TE:=λσ H Q=>td σ H λx H1=>ty σ H1 λy H2=>∃ a v,x=.ref a/\CB H2 a y (some v)/\Q v H2
def aE4 (td ty tv:TE):TS:=λD σ H=>tv σ H λv H1=>td σ H1 λx H2=>ty σ H2 λy H3=>∃ a H4,x=.ref a/\IF H3 a y v H4/\D.nx σ H4
section
variable {X:Cx} {o i e value:Expr} {pos pos' tpos:Pos} {td ty tv:TE}
theorem AE (hu:X.A.units+1<cLine) (ho:PE X o td) (hi:PE X i ty) (hs:PN i):PE X (.Subscript o i pos) (aEk td ty):=by
 intro pins s σ H Q I h
 refine LG CF.lookup hs (iX (ho pins s σ H _ I h) λu s1 ⟨x,H1,I1,rx,q1⟩=>iX (hi pins s1 σ H1 _ I1 q1) λiv s2 ⟨y,H2,I2,ry,a,v,ex,g,q2⟩=>?_)
 subst ex
 obtain rfl:u=Value.ref a:=rx
 exact ⟨HQ I2 g,O5 hu I2 g ry λw' s3 I3 rw'=>⟨v,H2,I3,rw',q2⟩⟩
theorem L3 (hu:X.A.units+1<cLine) (ho:PE X o td) (hi:PE X i ty) (hv:PE X value tv) (hs:gT value (some (.Subscript o i pos')) pos.line X.env=pure false) :
  PS X (.Assign [.Subscript o i pos'] value pos) (aE4 td ty tv):=by
 intro pins s σ H D I h
 refine wpAny_Assign_Subscript (iX (hv pins s σ H _ I h) λr s1 ⟨v,H1,I1,rv,q1⟩=>iX (ho pins s1 σ H1 _ I1 q1) λu s2 ⟨x,H2,I2,rx,q2⟩=>iX (hi pins s2 σ H2 _ I2 q2) λiv s3 ⟨y,H3,I3,ry,a,H4,ex,g,q3⟩=>?_) hs
 subst ex
 obtain rfl:u=Value.ref a:=rx
 exact O4 hu I3 g ry rv λs4 I4=>⟨σ,H4,I4,q3⟩
end


theorem UG {P:bF} {w:World} {H:Hp} (h:Heap) (hb:sysModules<h.objs.size):iJ P w H (h.push { cls:=.type "dict",data:=.dict #[] }) h.objs.size (.dK []) :=
 ⟨cS _,beq_eq_false_iff_ne.mpr (Ne.symm (bS hb)),[],.nil,Heap.DictOf.new h⟩
section
variable {X:Cx} {pos:Pos}
end

def IZ:List (TE×TE)->St->Hp->(List (V×V)->Hp->Prop)->Prop
 | [],_,H,Q=>Q [] H
 | (tk,tv)::r,σ,H,Q=>tk σ H λx H1=>tv σ H1 λy H2=>IZ r σ H2 λps H3=>Q ((x,y)::ps) H3
abbrev VV:List (V×V)->List (Value×Value)->Prop:=Paired λp q=>gC p.1 q.1/\gC p.2 q.2
def PPs (X:Cx) (pos:Pos) (keys:List (Option Expr)) (values:List Expr) (trs:List (TE×TE)):Prop :=
 ∀ (pins:List (Addr×Obj)) (s:Shared) (σ:St) (H:Hp) (Q:List (V×V)->Hp->Prop),dP X pins σ H s->IZ trs σ H Q ->
  wpAny (model X.prog X.w) X.A (evalPairs (pairTrees keys values X.env pos)) (λvs s'=>∃ ps H',dP X pins σ H' s'/\VV ps vs/\Q ps H') X.xe s
theorem WJ {X:Cx} {pos:Pos}:PPs X pos [] [] []:=λpins s σ H Q I h=>pairTrees_nil_walk ⟨[],H,I,.nil,h⟩
theorem wP {X:Cx} {pos:Pos} {k v:Expr} {ks:List (Option Expr)} {vs:List Expr} {tk tv:TE} {trs:List (TE×TE)} (hk:PE X k tk) (hv:PE X v tv) (hr:PPs X pos ks vs trs) :
  PPs X pos (some k::ks) (v::vs) ((tk,tv)::trs):=λpins s σ H Q I h =>
 pairTrees_cons_walk (iX (hk pins s σ H _ I h) λu s1 ⟨x,H1,I1,rx,q1⟩=>iX (hv pins s1 σ H1 _ I1 q1) λw2 s2 ⟨y,H2,I2,ry,q2⟩ =>
  iX (hr pins s2 σ H2 _ I2 q2) λws s3 ⟨ps,H3,I3,rel,q3⟩=>⟨(x,y)::ps,H3,I3,.cons ⟨rx,ry⟩ rel,q3⟩)

def vI (kvs more:List (lA×V)):List (lA×V):=more.foldl (λacc kv=>oG acc kv.1 kv.2) kvs
theorem KV.merge:∀ {more:List (lA×V)} {rs:List (lA×Value)} {kvs:List (lA×V)} {vs:List (lA×Value)},KV more rs->KV kvs vs->KV (vI kvs more) (merged vs rs):=by
 intro more rs kvs vs r
 unfold KV at r
 induction r generalizing kvs vs with
 | nil=>intro q;exact q
 | @cons p q ps qs h t ih =>
  intro r0
  have e:KV (oG kvs p.1 p.2) (stored vs q.1 q.2):=by
   have:=r0.put p.1 h.2
   rw [<- h.1];exact this
  exact ih e
theorem uS:∀ (more kvs:List (lA×V)),(vI kvs more).length<=kvs.length+more.length
 | [],kvs=>by show kvs.length<=kvs.length+0;omega
 | p::r,kvs=>by
  have h1:=uS r (oG kvs p.1 p.2)
  have h2:=sR kvs p.1 p.2
  show (vI (oG kvs p.1 p.2) r).length<=_
  rw [cI];omega
theorem BZ {P:bF} {w:World}:∀ {kvs:List (lA×V)} {ws:List (Value×Value)},VV (kvs.map λkv=>(kV kv.1,kv.2)) ws->∃ rs,Carries (jR P w) ws rs/\KV kvs rs
 | [],_,r=>by rw [jW] at r;cases r;exact ⟨[],True.intro,.nil⟩
 | p::kvs,_,r=>by
  rw [aX] at r
  cases r with
  | @cons a b as bs h t =>
   obtain ⟨rs,c,q⟩:=BZ (P:=P) (w:=w) t
   obtain ⟨b1,b2⟩:=b
   exact ⟨(p.1,b2)::rs,⟨MK h.1,rfl,c⟩,.cons ⟨rfl,h.2⟩ q⟩
def YW (trs:List (TE×TE)):TE:=λσ H Q=>∀ p,H p=none->IZ trs σ (fZ H p (.dK [])) λps H2=>H2 p=some (.dK [])/\∃ kvs:List (lA×V),ps=kvs.map (λkv=>(kV kv.1,kv.2))/\kvs.length<=15/\Q (.ref p) (fZ H2 p (.dK (vI [] kvs)))
theorem WQ {X:Cx} {pos:Pos} {keys:List (Option Expr)} {values:List Expr} {trs:List (TE×TE)} (h:PPs X pos keys values trs) (hall:keys.all (·.isSome)=true) (hl:keys.length=values.length) (h0:keys≠[])
  (h15:keys.length<=15):PE X (.Dict keys values pos) (YW trs):=by
 intro pins s σ H Q I q
 have hn:=I.hok.fresh (aL s.heap.objs.size)
 have I1:=I.laid (a:=s.heap.objs.size) (o:=.dK []) (h':=s.heap.push { cls:=.type "dict",data:=.dict #[] }) (t':=s.toks) (λ_ _ q=>aJ _ q) (aL _) (UG s.heap I.big)
 refine wpAny_Dict_walk (knd:=jR X.prog X.w) hall hl h0 h15 (iX (h pins _ σ _ _ I1 (q _ hn)) λws s2 ⟨ps,H2,I2,rel,e,kvs,ep,lk,q2⟩=>?_)
 subst ep
 obtain ⟨rs,c,rk⟩:=BZ (P:=X.prog) (w:=X.w) rel
 obtain ⟨z,hd,vs0,r0,dd⟩:=aA0 I2.hok e
 cases r0
 refine ⟨rs,c,dd,λh' dd' hs=>⟨.ref s.heap.objs.size,_,?_,rfl,q2⟩⟩
 have hz:(vI [] kvs).length<=bD:=by
  have h1:=uS kvs []
  rw [oC] at h1
  rw [sizeLine_eq];omega
 have he:∃ q,h'.get? s.heap.objs.size=some q:=let ⟨q,_,_,hq,_⟩:=dd';⟨q,hq⟩
 exact FL I2 (by rw [e];exact True.intro) hs he (UF hz hd (rk.merge .nil) dd')



end L2

namespace TL
open PySem PySem.Spec PyProof.Rows L2
structure kC where
 p:Addr
 q:Addr
 ns:List Int
 b:Bool
def GE (T:kC) (n:Nat) (l:Int):HO:=.dK [(.inr "script",.ref T.q),(.inr "at",.int n),(.inr "left",.int l),(.inr "digits",.bl T.b)]
def oZ (T:kC):D:=.dict [(.str "@",.list [.int (T.p:Nat),.int (T.q:Nat),.bool T.b,.list (T.ns.map aO)])]
theorem aCb {K:aD} {H:Hp} (T:kC):gE K H (oZ T) (.ref T.p):=.addr _
theorem JE {K:aD} {H:Hp} {T:kC} {v:V} (r:gE K H (oZ T) v):v=.ref T.p:=by
 unfold oZ at r
 generalize hg:(IL [(.str "@",.list [.int (T.p:Nat),.int (T.q:Nat),.bool T.b,.list (T.ns.map aO)])])=d at r
 cases r with
 | @addr p z =>
  injection hg with hg
  injection hg with hg _
  injection hg with _ hg
  injection hg with hg
  injection hg with hg _
  injection hg with hg
  rw [gX.inj hg]
 | dct =>
  injection hg with hg
  injection hg with hg _
  injection hg with hg _
  injection hg with hg
  exact absurd hg (by decide +kernel)
 | _=>cases hg
section
variable {K:aD} {H H' H1 H2 B:Hp} {p0 ps:List Addr} {σT:List Sl} {σ:L2.St} {T:kC} {n n':Nat} {p:Addr}
def iL (p:Addr) (H H':Hp):Prop:=∀ a o,a≠p->H a=some o->H' a=some o
theorem iL.of (s:bB H H'):iL p H H':=λa o _ e=>s a o e
theorem iL.refl:iL p H H:=λ_ _ _ e=>e
theorem iL.trans (s:iL p H H1) (t:iL p H1 H2):iL p H H2:=λa o n e=>t a o n (s a o n e)
theorem iL.mask (hp:p∈ps) (s:iL p H H'):bB (mask H ps) (mask H' ps):=λa o e=>by
 unfold TL.mask at e |-
 by_cases ha:a∈ps
 ·rw [if_pos ha] at e;cases e
 ·rw [if_neg ha] at e |-
  exact s a o (λz=>ha (z▸hp)) e
structure pW (K:aD) (H:Hp) (ps:List Addr) (T:kC) (n:Nat):Prop where
 obj:∃ l,H T.p=some (GE T n l)
 scr:mK K (mask H ps) T.q (T.ns.map V.int)
 dig:T.b=true->0<T.ns.length
theorem pW.grow (t:pW K H ps T n) (s:bB H H'):pW K H' ps T n:=⟨let ⟨l,e⟩:=t.obj;⟨l,s _ _ e⟩,L2.bB.seq (bO s) t.scr,t.dig⟩
structure mL (K:aD) (B:Hp) (p0:List Addr) (H:Hp) (ps:List Addr) (σT:List Sl) (σ:L2.St) (T:kC) (n:Nat):Prop where
 ok:Ok K B p0 H ps σT σ
 mem:T.p∈p0
 nb:B T.p=none
 tp:pW K H ps T n
 bq:mK K (mask B p0) T.q (T.ns.map V.int)
theorem mL.mem' (o:mL K B p0 H ps σT σ T n):T.p∈ps:=o.ok.sub _ o.mem
theorem mL.grow (o:mL K B p0 H ps σT σ T n) (s:bB H H'):mL K B p0 H' ps σT σ T n:=⟨o.ok.grow s,o.mem,o.nb,o.tp.grow s,o.bq⟩
theorem Ok.growX (o:Ok K B p0 H ps σT σ) (hp:p∈p0) (hB:B p=none) (s:iL p H H') (hl:H' p≠none):Ok K B p0 H' ps σT σ where
 base:=λa u e=>s a u (λz=>by rw [z,hB] at e;cases e) (o.base a u e)
 sub:=o.sub
 live:=λq hq z=>by
  by_cases e:q=p
  ·subst e;exact hl z
  ·cases h:H q with
   | none=>exact o.live q hq h
   | some u=>rw [s q u e h] at z;cases z
 len:=o.len
 val:=λi d h=>let ⟨v,h1,h2⟩:=o.val i d h;⟨v,h1,h2.same (s.mask (o.sub p hp))⟩
 own:=λi ts h=>let ⟨q,xs,h1,h2,h3,h4,h5,h6⟩:=o.own i ts h;⟨q,xs,h1,h2,h3,h4,s q _ (λz=>h4 (z▸hp)) h5,h6.same (s.mask (o.sub p hp))⟩
 dis:=o.dis
 dc:=o.dc.to (λj hs kvs h=>⟨h,rfl⟩) (λq φ a b c=>⟨a,(s q _ (λz=>c (z▸hp)) b).trans b.symm⟩) (λq φ _ _ a b=>⟨a,b⟩) (s.mask (o.sub p hp))
theorem mL.growX (o:mL K B p0 H ps σT σ T n) (s:iL T.p H H') (t:pW K H' ps T n'):mL K B p0 H' ps σT σ T n' :=
 ⟨o.ok.growX o.mem o.nb s (by obtain ⟨l,e⟩:=t.obj;rw [e];exact λz=>nomatch z),o.mem,o.nb,t,o.bq⟩
theorem mL.set (o:mL K B p0 H ps σT σ T n) {i:Nat} {d:D} {v:V} (r:gE K (mask H ps) d v):mL K B p0 H ps (σT.set i (.val d)) (σ.set i (some v)) T n:=⟨o.ok.set r,o.mem,o.nb,o.tp,o.bq⟩
end
abbrev EC:=D->Nat->List Sl->(Nat->D->Prop)->Prop
abbrev AC:=D->Nat->List Sl->(Nat->List D->Prop)->Prop
abbrev TC:=D->Nat->List Sl->(Nat->Bool->Prop)->Prop
def rS (X:Cx) (e:Expr) (t:EC):Prop:=∃ te:TE,PE X e te/\∀ (B:Hp) (p0:List Addr) (H:Hp) (ps:List Addr) (σT:List Sl) (σ:L2.St) (T:kC) (n:Nat) (Q:Nat->D->Prop) (QV:VK),mL X.K B p0 H ps σT σ T n->t (oZ T) n σT Q ->
 (∀ n' d v H',iL T.p H H'->pW X.K H' ps T n'->gE X.K (mask H' ps) d v->Q n' d->QV v H')->te σ H QV
def UY (X:Cx) (es:List Expr) (t:AC):Prop:=∃ ta:TA,PA X es ta/\∀ (B:Hp) (p0:List Addr) (H:Hp) (ps:List Addr) (σT:List Sl) (σ:L2.St) (T:kC) (n:Nat) (Q:Nat->List D->Prop) (QV:List V->Hp->Prop),mL X.K B p0 H ps σT σ T n->t (oZ T) n σT Q ->
 (∀ n' ds vs H',iL T.p H H'->pW X.K H' ps T n'->Reps X.K (mask H' ps) ds vs->Q n' ds->QV vs H')->ta σ H QV
def YJ (X:Cx) (e:Expr) (t:TC):Prop:=∃ tt:TT,PT X e tt/\∀ (B:Hp) (p0:List Addr) (H:Hp) (ps:List Addr) (σT:List Sl) (σ:L2.St) (T:kC) (n:Nat) (Q:Nat->Bool->Prop) (QV:Bool->Hp->Prop),mL X.K B p0 H ps σT σ T n->t (oZ T) n σT Q ->
 (∀ n' b H',iL T.p H H'->pW X.K H' ps T n'->Q n' b->QV b H')->tt σ H QV
def PWc (X:Cx) (e:Expr) (t:TC):Prop:=∃ tt:TT,PW X e tt/\∀ (B:Hp) (p0:List Addr) (H:Hp) (ps:List Addr) (σT:List Sl) (σ:L2.St) (T:kC) (n:Nat) (Q:Nat->Bool->Prop) (QV:Bool->Hp->Prop),mL X.K B p0 H ps σT σ T n->t (oZ T) n σT Q ->
 (∀ n' b H',iL T.p H H'->pW X.K H' ps T n'->Q n' b->QV b H')->tt σ H QV
section
variable {X:Cx} {a b e:Expr} {es:List Expr} {ta tb te:EC} {pos:Pos}
def cE (t:ET):EC:=λ_ n σ Q=>t σ (Q n)
theorem dL {t:ET} (h:hU X e t):rS X e (cE t):=by
 obtain ⟨v,p,r⟩:=h
 exact ⟨v,p,λB p0 H ps σT σ T n Q QV o h k=>r B p0 H ps σT σ (Q n) QV o.ok h λd v H' s rr q=>k n d v H' (.of s) (o.tp.grow s) rr q⟩
def cT (t:qQ):TC:=λ_ n σ Q=>t σ (Q n)
theorem VO {t:qQ} (h:IJ X e t):YJ X e (cT t):=by
 obtain ⟨v,p,r⟩:=h
 exact ⟨v,p,λB p0 H ps σT σ T n Q QV o h k=>r B p0 H ps σT σ (Q n) QV o.ok h λb H' s q=>k n b H' (.of s) (o.tp.grow s) q⟩
def cOp (f:D->D->(D->Prop)->Prop) (ta tb:EC):EC:=λτ n σ Q=>ta τ n σ λn1 x=>tb τ n1 σ λn2 y=>f x y (Q n2)
theorem BE {r:R2} {f:D->D->(D->Prop)->Prop} (h2:zG X r f) {va vb:TE}
  (ha:∀ (B:Hp) (p0:List Addr) (H:Hp) (ps:List Addr) (σT:List Sl) (σ:L2.St) (T:kC) (n:Nat) (Q:Nat->D->Prop) (QV:VK),mL X.K B p0 H ps σT σ T n->ta (oZ T) n σT Q->(∀ n' d v H',iL T.p H H'->pW X.K H' ps T n'->gE X.K (mask H' ps) d v->Q n' d->QV v H')->va σ H QV)
  (hb:∀ (B:Hp) (p0:List Addr) (H:Hp) (ps:List Addr) (σT:List Sl) (σ:L2.St) (T:kC) (n:Nat) (Q:Nat->D->Prop) (QV:VK),mL X.K B p0 H ps σT σ T n->tb (oZ T) n σT Q->(∀ n' d v H',iL T.p H H'->pW X.K H' ps T n'->gE X.K (mask H' ps) d v->Q n' d->QV v H')->vb σ H QV)
  (B:Hp) (p0:List Addr) (H:Hp) (ps:List Addr) (σT:List Sl) (σ:L2.St) (T:kC) (n:Nat) (Q:Nat->D->Prop) (QV:VK) (o:mL X.K B p0 H ps σT σ T n) (h:cOp f ta tb (oZ T) n σT Q) (k:∀ n' d v H',iL T.p H H'->pW X.K H' ps T n'->gE X.K (mask H' ps) d v->Q n' d->QV v H'):tOp r va vb σ H QV:=by
 refine ha B p0 H ps σT σ T n _ _ o h λn1 d1 x H1 s1 t1 r1 q1=>?_
 have o1:=o.growX s1 t1
 refine hb B p0 H1 ps σT σ T n1 _ _ o1 q1 λn2 d2 y H2 s2 t2 r2 q2=>?_
 have o2:=o1.growX s2 t2
 exact h2 H2 ps d1 d2 x y (Q n2) QV o2.ok.live (r1.same (s2.mask o.mem')) r2 q2 λd v H' s' r' q'=>k n2 d v H' ((s1.trans s2).trans (.of s')) (t2.grow s') r' q'
theorem D0 {op:Operator} {r:R2} {f:D->D->(D->Prop)->Prop} (ho:nF X (binaryOp op) r) (h2:zG X r f) (ha:rS X a ta) (hb:rS X b tb):rS X (.BinOp a op b pos) (cOp f ta tb):=by
 obtain ⟨va,pa,ra⟩:=ha
 obtain ⟨vb,pb,rb⟩:=hb
 exact ⟨_,R4 ho pa pb,BE h2 ra rb⟩
theorem xG {r:R2} {f:D->D->(D->Prop)->Prop} (ho:U0 X r) (h2:zG X r f) (ha:rS X a ta) (hb:rS X b tb) (hs:AR b:=by intro _ _;rfl):rS X (.Subscript a b pos) (cOp f ta tb):=by
 obtain ⟨va,pa,ra⟩:=ha
 obtain ⟨vb,pb,rb⟩:=hb
 exact ⟨_,L6 ho pa pb hs,BE h2 ra rb⟩
def aDn (i:Nat) (tb:EC):EC:=λτ n σ Q=>∃ ts,σ[i]?=some (.own ts)/\tb τ n σ λn1 y=>∃ (j:Int) (d:D),y=.int j/\atI ts j=some d/\Q n1 d
def aJ7:AC:=λ_ n _ Q=>Q n []
def aA5 (t:EC) (r:AC):AC:=λτ n σ Q=>t τ n σ λn1 x=>r τ n1 σ λn2 xs=>Q n2 (x::xs)
theorem eD:UY X [] aJ7:=⟨_,iZ,λ_ _ H _ _ _ _ _ _ _ o h k=>k _ _ _ H .refl o.tp .nil h⟩
theorem bE {tr:AC} (ha:rS X e te) (hr:UY X es tr) (hs:bN (e::es) X.env=(false,eval e X.env)::bN es X.env:=by rfl):UY X (e::es) (aA5 te tr):=by
 obtain ⟨va,pa,ra⟩:=ha
 obtain ⟨vr,pr,rr⟩:=hr
 refine ⟨_,fL pa pr hs,λB p0 H ps σT σ T n Q QV o h k=>ra B p0 H ps σT σ T n _ _ o h λn1 d x H1 s1 t1 r1 q1=>?_⟩
 refine rr B p0 H1 ps σT σ T n1 _ _ (o.growX s1 t1) q1 λn2 ds xs H2 s2 t2 r2 q2=>?_
 exact k _ _ _ H2 (s1.trans s2) t2 (.cons (r1.same (s2.mask o.mem')) r2) q2
def aHp (t:AC):EC:=λτ n σ Q=>t τ n σ λn1 ds=>ds.length<=1000/\Q n1 (.tuple ds)
def aJ8 (t:AC):EC:=λτ n σ Q=>t τ n σ λn1 ds=>ds.length<=1000/\Q n1 (.list ds)
theorem vP {x1} {t:AC} (h:UY X es t):rS X (.Tuple es x1 pos) (aHp t):=by
 obtain ⟨v,p,r⟩:=h
 refine ⟨_,JK p,λB p0 H ps σT σ T n Q QV o h k=>r B p0 H ps σT σ T n _ _ o h λn1 ds xs H1 s1 t1 r1 q1=>⟨wZ (by rw [<- r1.length];exact q1.1),λq hq=>?_⟩⟩
 exact k _ _ _ _ (s1.trans (.of (dF hq))) (t1.grow (dF hq)) (pB (o.growX s1 t1).ok.live hq r1) q1.2
theorem aDe {t:AC} (h:UY X es t):rS X (.List es pos) (aJ8 t):=by
 obtain ⟨v,p,r⟩:=h
 refine ⟨_,JL p,λB p0 H ps σT σ T n Q QV o h k=>r B p0 H ps σT σ T n _ _ o h λn1 ds xs H1 s1 t1 r1 q1=>⟨wZ (by rw [<- r1.length];exact q1.1),λq hq=>?_⟩⟩
 exact k _ _ _ _ (s1.trans (.of (dF hq))) (t1.grow (dF hq)) (pC (o.growX s1 t1).ok.live hq r1) q1.2
def US (f:List D->(D->Prop)->Prop) (t:AC):EC:=λτ n σ Q=>t τ n σ λn1 ds=>f ds (Q n1)
theorem aHf {r:List V->Hp->VK->Prop} {f:List D->(D->Prop)->Prop} {t:AC} {g:Expr} (hf:tD X r f) (ha:UY X (e::es) t) (pc:∀ {ta:TA},PA X (e::es) ta->PE X (.Call g (e::es) [] pos) (QS r ta)):rS X (.Call g (e::es) [] pos) (US f t):=by
 obtain ⟨v,pa,ra⟩:=ha
 refine ⟨_,pc pa,λB p0 H ps σT σ T n Q QV o h k=>ra B p0 H ps σT σ T n _ _ o h λn1 ds xs H1 s1 t1 r1 q1=>?_⟩
 exact hf H1 ps ds xs (Q n1) QV (o.growX s1 t1).ok.live r1 q1 λd v H' s' r' q'=>k n1 d v H' (s1.trans (.of s')) (t1.grow s') r' q'
abbrev M9:=D->Nat->List D->(Nat->D->Prop)->Prop
def fB (K:aD) (sp:M9):Sp:=λvs H Q _=>∃ (ps:List Addr) (T:kC) (n:Nat) (ds:List D) (QD:Nat->D->Prop),(∀ p∈ps,H p≠none)/\T.p∈ps/\pW K H ps T n/\Reps K (mask H ps) (oZ T::ds) vs/\sp (oZ T) n ds QD /\
 ∀ n' d v H',iL T.p H H'->pW K H' ps T n'->gE K (mask H' ps) d v->QD n' d->Q v H'
def aA4 (sp:M9) (t:AC):EC:=λτ n σ Q=>t τ n σ λn1 ds=>∃ es,ds=τ::es/\sp τ n1 es Q
theorem X4 {k:Nat} {f:Addr} {fd:dI} {pn:List Str} {sp:M9} {x:Str} {p:Pos} {t:AC} (F:cL X.prog X.w X.K X.mg X.base fP k f fd pn (fB X.K sp)) (hm:X.mg x=some (.ref f)) (hk:fU X.K (.ref f)=true) (hb:pH X.K fd pn [])
  (hr:Room k X.A) (ha:UY X (e::es) t) (pc:∀ {ta:TA},PA X (e::es) ta->PE X (.Call (.Name x p) (e::es) [] pos) (C3 (fB X.K sp) [] E0 ta)):rS X (.Call (.Name x p) (e::es) [] pos) (aA4 sp t):=by
 obtain ⟨v,pa,ra⟩:=ha
 refine ⟨_,pc pa,λB p0 H ps σT σ T n Q QV o h k=>ra B p0 H ps σT σ T n _ _ o h λn1 ds xs H1 s1 t1 r1 q1=>?_⟩
 obtain ⟨es',rfl,q1⟩:=q1
 show fB X.K sp (xs++[]) H1 QV E0
 rw [fA]
 exact ⟨ps,T,n1,es',Q,(o.growX s1 t1).ok.live,o.mem',t1,r1,q1,λn' d v H' s' t' r' q'=>k n' d v H' (s1.trans s') t' r' q'⟩
def aA3 (f:Str->List D->(D->Prop)->Prop) (te:ET) (t:AC):EC:=λτ n σ Q=>te σ λd=>∃ z,d=.str z/\t τ n σ λn1 ds=>f z ds (Q n1)
theorem KE {f:Str->List D->(D->Prop)->Prop} {r:V->List V->Hp->VK->Prop} {g m:Expr} {te:ET} {t:AC} (hn:hU X m te) (ha:UY X (e::es) t)
  (hf:∀ (H:Hp) (ps:List Addr) (z:Str) (ds:List D) (xs:List V) (Q:D->Prop) (QV:VK),Reps X.K (mask H ps) ds xs->f z ds Q->(∀ d v H',bB H H'->gE X.K (mask H' ps) d v->Q d->QV v H')->r (.str z) xs H QV)
  (pc:∀ {v:TE} {ta:TA},PE X m v->PA X (e::es) ta->PE X (.Call g (e::es) [] pos) (VQ X.K "str" r v ta)):rS X (.Call g (e::es) [] pos) (aA3 f te t):=by
 obtain ⟨v,pe,re⟩:=hn
 obtain ⟨va,pa,ra⟩:=ha
 refine ⟨_,pc pe pa,λB p0 H ps σT σ T n Q QV o h k=>re B p0 H ps σT σ _ _ o.ok h λd x H1 s1 r1 q1=>?_⟩
 obtain ⟨z,rfl,q1⟩:=q1
 cases r1
 refine ⟨rfl,ra B p0 H1 ps σT σ T n _ _ (o.grow s1) q1 λn1 ds xs H2 s2 t2 r2 q2=>?_⟩
 exact hf H2 ps z ds xs (Q n1) QV r2 q2 λd v H' s' r' q'=>k n1 d v H' (((iL.of s1).trans s2).trans (.of s')) (t2.grow s') r' q'
theorem XZ {n:Expr} {ap:Pos} {te:ET} {t:AC} (hn:hU X n te) (ha:UY X (e::es) t)
  (pc:∀ {v:TE} {ta:TA},PE X n v->PA X (e::es) ta->PE X (.Call (.Attribute n "join" ap) (e::es) [] pos) (VQ X.K "str" (λx xs H Q=>∃ z p ys,x=.str z/\xs=[.ref p]/\mK X.K H p (ys.map V.str)/\(ys.map (·.length)).sum+ys.length*z.length<=16777216/\Q (.str (Txt.join z ys)) H) v ta)):rS X (.Call (.Attribute n "join" ap) (e::es) [] pos) (aA3 aG5 te t) :=
 KE hn ha (λH ps z ds xs Q QV r h k=>by
  cases r with
  | nil=>exact h.elim
  | cons r1 r2 =>
   cases r2 with
   | cons _ _=>cases r1<;>exact h.elim
   | nil =>
    cases r1 with
    | list q s =>
     obtain ⟨ys,rfl,hz,h⟩:=h
     have e:=C7 s
     subst e
     exact ⟨z,_,ys,rfl,rfl,L2.bB.seq bV q,hz,k _ _ H (L2.bB.refl H) (.str _) h⟩
    | _=>exact h.elim) pc
def aHn (t:EC):TC:=λτ n σ Q=>t τ n σ λn1 x=>match x with | .bool b=>Q n1 b | _=>False
theorem AX {op:CmpOp} {r:R2} {f:D->D->(D->Prop)->Prop} (ho:nF X (compareOp op) r) (h2:zG X r f) (ha:rS X a ta) (hb:rS X b tb) (hm:behindInMarks op b=false:=by first | exact E8 _ | rfl):YJ X (.Compare a [op] [b] pos) (aHn (cOp f ta tb)):=by
 obtain ⟨va,pa,ra⟩:=ha
 obtain ⟨vb,pb,rb⟩:=hb
 refine ⟨_,E3 ho pa pb hm,λB p0 H ps σT σ T n Q QV o h k=>?_⟩
 refine BE h2 ra rb B p0 H ps σT σ T n (λn1 x=>match x with | .bool b=>Q n1 b | _=>False) _ o h λn' d v H' s' t' r' q'=>?_
 cases r' with
 | bool c=>exact ⟨c,rfl,k n' c H' s' t' q'⟩
 | _=>exact q'.elim
variable {tA tB':TC} {rest:List Expr}
def aHt (t u:TC):TC:=λτ n σ Q=>t τ n σ λn1 b=>if b=true then u τ n1 σ Q else Q n1 false
def aJ5 (t u:TC):TC:=λτ n σ Q=>t τ n σ λn1 b=>if b=true then Q n1 true else u τ n1 σ Q
theorem QF (h:PWc X e tA):YJ X e tA:=by
 obtain ⟨v,p,r⟩:=h
 exact ⟨_,p.pt,r⟩
theorem K9 (h:YJ X a tA):PWc X (.BoolOp .And [a] pos) tA:=by
 obtain ⟨v,p,r⟩:=h
 exact ⟨_,LY p,r⟩
theorem aBd (h:YJ X a tA):PWc X (.BoolOp .Or [a] pos) tA:=by
 obtain ⟨v,p,r⟩:=h
 exact ⟨_,RM p,r⟩
theorem QG (ha:YJ X a tA) (hb:PWc X (.BoolOp .And (b::rest) pos) tB'):PWc X (.BoolOp .And (a::b::rest) pos) (aHt tA tB'):=by
 obtain ⟨va,pa,ra⟩:=ha
 obtain ⟨vb,pb,rb⟩:=hb
 refine ⟨_,RN pa pb,λB p0 H ps σT σ T n Q QV o h k=>ra B p0 H ps σT σ T n _ _ o h λn1 c H1 s1 t1 q1=>?_⟩
 cases c with
 | true=>exact rb B p0 H1 ps σT σ T n1 Q _ (o.growX s1 t1) q1 λn' b H' s' t' q'=>k n' b H' (s1.trans s') t' q'
 | false=>exact k _ _ H1 s1 t1 q1
theorem aEf (ha:YJ X a tA) (hb:PWc X (.BoolOp .Or (b::rest) pos) tB'):PWc X (.BoolOp .Or (a::b::rest) pos) (aJ5 tA tB'):=by
 obtain ⟨va,pa,ra⟩:=ha
 obtain ⟨vb,pb,rb⟩:=hb
 refine ⟨_,aAo pa pb,λB p0 H ps σT σ T n Q QV o h k=>ra B p0 H ps σT σ T n _ _ o h λn1 c H1 s1 t1 q1=>?_⟩
 cases c with
 | true=>exact k _ _ H1 s1 t1 q1
 | false=>exact rb B p0 H1 ps σT σ T n1 Q _ (o.growX s1 t1) q1 λn' b H' s' t' q'=>k n' b H' (s1.trans s') t' q'
end
section
variable {K:aD} {H H' H1 H2 B:Hp} {p0 ps:List Addr} {σT:List Sl} {σ:L2.St} {T:kC} {n n':Nat} {p:Addr}
theorem mL.ne (o:mL K B p0 H ps σT σ T n) (hp:H p=none):T.p≠p:=λz=>by
 obtain ⟨l,e⟩:=o.tp.obj
 rw [z,hp] at e;cases e
theorem mL.adopt (o:mL K B p0 H ps σT σ T n) {u:HO} (hp:H p=none):mL K B p0 (fZ H p u) (p::ps) σT σ T n :=
 ⟨o.ok.adopt hp,o.mem,o.nb,⟨let ⟨l,e⟩:=o.tp.obj;⟨l,by rw [cG (o.ne hp)];exact e⟩,by rw [kH hp];exact o.tp.scr,o.tp.dig⟩,o.bq⟩
theorem mL.aside (o:mL K B p0 H ps σT σ T n) {q:Addr} {u:HO} (hq:q∈ps) (hB:B q=none) (hn:lT σT) (ne:T.p≠q):mL K B p0 (fZ H q u) ps σT σ T n :=
 ⟨o.ok.aside hq hB hn,o.mem,o.nb,⟨let ⟨l,e⟩:=o.tp.obj;⟨l,by rw [cG ne];exact e⟩,by rw [gY hq];exact o.tp.scr,o.tp.dig⟩,o.bq⟩
theorem mL.blk (o:mL K B p0 H ps σT σ T n) (fr:List (Option Nat)):mL K B p0 H ps (jS fr σT) (uU fr σ) T n:=⟨o.ok.blk fr,o.mem,o.nb,o.tp,o.bq⟩
theorem mL.with (o:mL K B p0 H ps σT σ T n) {σT':List Sl} {σ':L2.St} (o':Ok K B p0 H ps σT' σ'):mL K B p0 H ps σT' σ' T n:=⟨o',o.mem,o.nb,o.tp,o.bq⟩
end
section
variable {X:Cx} {a b e:Expr} {es:List Expr} {ta tb te:EC} {pos:Pos}
def cLc (fr:List (Option Nat)) (ti:IT) (g:GT) (te:EC):EC:=λτ n σ Q=>ti σ λts=>ts.length<=100000/\∃ P:Nat->Nat->List Sl->List D->Prop,P 0 n (jS fr σ) [] /\
 (∀ (k m:Nat) (x:D) (σ':List Sl) (ds:List D),ts[k]?=some x->P k m σ' ds->g x σ' λσ2=>te τ m σ2 λm' y=>P (k+1) m' σ2 (ds++[y]))/\∀ m σ' ds,P ts.length m σ' ds->Q m (.list ds)
theorem S0 {fr:List (Option Nat)} {ti:IT} {g:GT} {te:EC} {wi:TI} {gv:BP->TG} {vt:BP->TT} {ve:BP->TE}
  (ri:∀ (B:Hp) (p0:List Addr) (H:Hp) (ps:List Addr) (σT:List Sl) (σ:L2.St) (Q:List D->Prop) (R:It->Hp->Prop),Ok X.K B p0 H ps σT σ->ti σT Q->(∀ ts J H',bB H H'->UX X.K (mask H' ps) ts J->Q ts->R J H')->wi σ H R)
  (rg:∀ (bp:BP) (B:Hp) (p0:List Addr) (H:Hp) (ps:List Addr) (σT:List Sl) (σ:L2.St) (d:D) (v:V) (Q:List Sl->Prop) (QV:L2.St->Hp->Prop),Ok X.K B p0 H ps σT σ->gE X.K (mask H ps) d v->g d σT Q->(∀ σT' σ',Ok X.K B p0 H ps σT' σ'->(lT σT->lT σT')->Q σT'->QV σ' H)->gv bp v σ H QV)
  (rt:∀ (bp:BP) (B:Hp) (p0:List Addr) (H:Hp) (ps:List Addr) (σT:List Sl) (σ:L2.St) (Q:Bool->Prop) (QV:Bool->Hp->Prop),Ok X.K B p0 H ps σT σ->xI σT Q->(∀ b H',bB H H'->Q b->QV b H')->vt bp σ H QV)
  (re:∀ (bp:BP) (B:Hp) (p0:List Addr) (H:Hp) (ps:List Addr) (σT:List Sl) (σ:L2.St) (T:kC) (n:Nat) (Q:Nat->D->Prop) (QV:VK),mL X.K B p0 H ps σT σ T n->te (oZ T) n σT Q->(∀ n' d v H',iL T.p H H'->pW X.K H' ps T n'->gE X.K (mask H' ps) d v->Q n' d->QV v H')->ve bp σ H QV)
  (B:Hp) (p0:List Addr) (H:Hp) (ps:List Addr) (σT:List Sl) (σ:L2.St) (T:kC) (n:Nat) (Q:Nat->D->Prop) (QV:VK) (o:mL X.K B p0 H ps σT σ T n) (h:cLc fr ti g te (oZ T) n σT Q) (k:∀ n' d v H',iL T.p H H'->pW X.K H' ps T n'->gE X.K (mask H' ps) d v->Q n' d->QV v H'):LE fr wi gv vt ve σ H QV:=by
 refine ri B p0 H ps σT σ _ _ o.ok h λts J H1 s1 rj q1=>?_
 obtain ⟨hz,P,h0,hs,hd⟩:=q1
 intro bp acc hacc
 have o1:=o.grow s1
 have hBacc:B acc=none:=bB.free' o1.ok.base hacc
 have hnps:acc∉ps:=iC o1.ok.live hacc
 have hne:=o1.ne hacc
 refine ⟨λi m σ' H'=>m=ts.length-i/\i<=ts.length/\∃ c σT' ds ys,mL X.K B p0 H' (acc::ps) σT' σ' T c/\lT σT'/\H' acc=some (.lst ys)/\ds.length<=i/\Reps X.K (mask H' (acc::ps)) ds ys/\bB (mask H1 ps) (mask H' (acc::ps))/\iL T.p H1 H'/\P i c σT' ds,
  ⟨_,rfl,cS _,n,jS fr σT,[],[],(o1.blk fr).adopt hacc,nY fr σT,cO,aL _,.nil,by rw [kH hacc];exact L2.bB.refl _,.of (dF hacc),h0⟩,?_⟩
 rintro i m σ' H' ⟨rfl,hle,c,σT',ds,ys,o',n',ha,hl,hr,s',sF,p'⟩
 have hL:bD=2 ^ 24:=rfl
 by_cases hlt:i<ts.length
 ·refine .inr ⟨rj.go i H' (s'.trans bV) hlt,λy H2 hy=>?_⟩
  obtain ⟨s2,dx,hx,rx⟩:=rj.yld i H' (acc::ps) y H2 o'.ok.live s' hlt hy
  have o2:=o'.grow s2
  refine rg bp B p0 H2 (acc::ps) σT' σ' dx y _ _ o2.ok rx (hs i c dx σT' ds hx p') λσT3 σ3 o3 n3 q3=>?_
  refine rt bp B p0 H2 (acc::ps) σT3 σ3 (λb=>b=true) _ o3 rfl λb H4 s4 q4=>?_
  subst q4
  have o4:=(o2.with o3).grow s4
  have s24:=s2.trans s4
  refine re bp B p0 H4 (acc::ps) σT3 σ3 T c _ _ o4 q3 λc5 d v H5 s5 t5 r5 q5=>?_
  have o5:=o4.growX s5 t5
  have m5:bB (mask H' (acc::ps)) (mask H5 (acc::ps)):=(bO s24).trans (s5.mask o4.mem')
  have hm:mask (fZ H5 acc (.lst (ys++[v]))) (acc::ps)=mask H5 (acc::ps):=gY (aU ..)
  refine ⟨ys,s5 _ _ (λz=>hne z.symm) (s24 _ _ ha),by rw [<- hr.length];omega,ts.length-(i+1),by omega,rfl,hlt,c5,σT3,ds++[d],ys++[v],o5.aside (aU ..) hBacc (n3 n') hne,n3 n',cO,by rw [bL,nI];omega,?_,?_,?_,q5⟩
  ·rw [hm];exact (hr.same m5).append (.cons r5 .nil)
  ·rw [hm];exact s'.trans m5
  ·intro b u nb e
   have ne:b≠acc:=λz=>by rw [z,hacc] at e;cases e
   rw [cG ne]
   exact s5 b u nb (s24 b u (sF b u nb e))
 ·obtain rfl:i=ts.length:=by omega
  exact .inl ⟨rj.stop _ H' (s'.trans bV) (aL _),k c (.list ds) _ H' ((iL.of s1).trans sF) ⟨o'.tp.obj,L2.bB.seq (iN λp hp=>aN _ hp) o'.tp.scr,o'.tp.dig⟩ (.list (mK.of (nT hnps ha)) (hr.same (iN λp hp=>aN _ hp))) (hd c σT' ds p')⟩
theorem W6 {elt iter tg:Expr} {scope:Scope} {fr:List (Option Nat)} {N':List Str} {ti:IT} {g:GT} {te:EC} (hi:CS X tg iter ti)
  (hY:∀ b:BP,CT (blk X scope N' b) tg g/\zV (blk X scope N' b) [] xI/\rS (blk X scope N' b) elt te) {M:(TE)->Prop}
  (fin:∀ {wi:TI} {gv:BP->TG} {vt:BP->TT} {ve:BP->TE},PI X tg iter wi->(∀ b:BP,PG (blk X scope N' b) tg (gv b)/\KR (blk X scope N' b) [] (vt b)/\PE (blk X scope N' b) elt (ve b))->M (LE fr wi gv vt ve)) :
  ∃ v:TE,M v/\∀ (B:Hp) (p0:List Addr) (H:Hp) (ps:List Addr) (σT:List Sl) (σ:L2.St) (T:kC) (n:Nat) (Q:Nat->D->Prop) (QV:VK),mL X.K B p0 H ps σT σ T n->cLc fr ti g te (oZ T) n σT Q ->
   (∀ n' d v H',iL T.p H H'->pW X.K H' ps T n'->gE X.K (mask H' ps) d v->Q n' d->QV v H')->v σ H QV:=by
 obtain ⟨wi,pi,ri⟩:=hi
 refine ⟨_,fin (gv:=λb=>Classical.choose (hY b).1) (vt:=λb=>Classical.choose (hY b).2.1) (ve:=λb=>Classical.choose (hY b).2.2) pi λb=>⟨(Classical.choose_spec (hY b).1).1,(Classical.choose_spec (hY b).2.1).1,(Classical.choose_spec (hY b).2.2).1⟩,?_⟩
 exact S0 ri (λb=>(Classical.choose_spec (hY b).1).2) (λb=>(Classical.choose_spec (hY b).2.1).2) λb=>(Classical.choose_spec (hY b).2.2).2
theorem aHe {elt iter tg:Expr} {scope:Scope} {fr:List (Option Nat)} {N':List Str} {ti:IT} {g:GT} {te:EC} (hi:CS X tg iter ti)
  (hY:∀ b:BP,CT (blk X scope N' b) tg g/\zV (blk X scope N' b) [] xI/\rS (blk X scope N' b) elt te)
  (pl:∀ {wi:TI} {gv:BP->TG} {vt:BP->TT} {ve:BP->TE},PI X tg iter wi->(∀ b:BP,PG (blk X scope N' b) tg (gv b)/\KR (blk X scope N' b) [] (vt b)/\PE (blk X scope N' b) elt (ve b))->PE X (.ListComp elt [⟨tg,iter,[],0⟩] scope pos) (LE fr wi gv vt ve)) :
  rS X (.ListComp elt [⟨tg,iter,[],0⟩] scope pos) (cLc fr ti g te):=W6 hi hY pl
end
structure xN where
 nx:Nat->List Sl->Prop
 rt:Nat->D->Prop
 bk:Nat->List Sl->Prop:=λ_ _=>False
 ct:Nat->List Sl->Prop:=λ_ _=>False
abbrev qL:=D->xN->Nat->List Sl->Prop
structure zH (K:aD) (B:Hp) (p0:List Addr) (H:Hp) (ps:List Addr) (T:kC) (DC:xN) (DV:rT):Prop where
 nx:∀ H' ps' σT' σ' n',mL K B p0 H' ps' σT' σ' T n'->bB (mask H ps) (mask H' ps')->DC.nx n' σT'->DV.nx σ' H'
 bk:∀ H' ps' σT' σ' n',mL K B p0 H' ps' σT' σ' T n'->bB (mask H ps) (mask H' ps')->DC.bk n' σT'->DV.bk σ' H'
 ct:∀ H' ps' σT' σ' n',mL K B p0 H' ps' σT' σ' T n'->bB (mask H ps) (mask H' ps')->DC.ct n' σT'->DV.ct σ' H'
 rt:∀ n' d v H',bB B H'->pW K H' p0 T n'->gE K (mask H' p0) d v->DC.rt n' d->DV.rt v H'
def P4 (X:Cx) (st:Stmt) (t:qL):Prop:=∃ ts:TS,PS X st ts/\∀ (B:Hp) (p0:List Addr) (H:Hp) (ps:List Addr) (σT:List Sl) (σ:L2.St) (T:kC) (n:Nat) (DC:xN) (DV:rT),mL X.K B p0 H ps σT σ T n->t (oZ T) DC n σT->zH X.K B p0 H ps T DC DV->ts DV σ H
def xL (X:Cx) (st:List Stmt) (t:qL):Prop:=∃ ts:TS,CQ X st ts/\∀ (B:Hp) (p0:List Addr) (H:Hp) (ps:List Addr) (σT:List Sl) (σ:L2.St) (T:kC) (n:Nat) (DC:xN) (DV:rT),mL X.K B p0 H ps σT σ T n->t (oZ T) DC n σT->zH X.K B p0 H ps T DC DV->ts DV σ H
section
variable {K:aD} {H H' H1 H2 B:Hp} {p0 ps:List Addr} {σT:List Sl} {σ:L2.St} {T:kC} {n n':Nat}
theorem zH.later {DC:xN} {DV:rT} {ps':List Addr} (f:zH K B p0 H ps T DC DV) (e:bB (mask H ps) (mask H' ps')):zH K B p0 H' ps' T DC DV :=
 ⟨λ_ _ _ _ _ o s q=>f.nx _ _ _ _ _ o (e.trans s) q,λ_ _ _ _ _ o s q=>f.bk _ _ _ _ _ o (e.trans s) q,λ_ _ _ _ _ o s q=>f.ct _ _ _ _ _ o (e.trans s) q,f.rt⟩
theorem mL.up (o:mL K B p0 H ps σT σ T n) {l:Int} (hl:H T.p=some (GE T n l)):Ok K (fZ B T.p (GE T n l)) p0 H ps σT σ where
 base:=λa u e=>by
  by_cases z:a=T.p
  ·subst z
   rw [cO] at e
   cases e
   exact hl
  ·rw [cG z] at e
   exact o.ok.base a u e
 sub:=o.ok.sub
 live:=o.ok.live
 len:=o.ok.len
 val:=o.ok.val
 own:=λi ts h=>let ⟨q,xs,h1,h2,h3,h4,h5,h6⟩:=o.ok.own i ts h;⟨q,xs,h1,h2,by rw [cG (λz:q=T.p=>h4 (z▸o.mem))];exact h3,h4,h5,h6⟩
 dis:=o.ok.dis
 dc:=o.ok.dc.to (λj hs kvs h=>⟨h,rfl⟩) (λq φ a b _=>⟨a,rfl⟩) (λq φ _ _ a b=>⟨by rw [cG (λz:q=T.p=>b (z▸o.mem))];exact a,b⟩) (L2.bB.refl _)
theorem mL.down (o:mL K B p0 H ps σT σ T n) {l:Int} {ps':List Addr} {σT':List Sl} {σ':L2.St} (o':Ok K (fZ B T.p (GE T n l)) p0 H' ps' σT' σ') (s:bB (mask H ps) (mask H' ps')):mL K B p0 H' ps' σT' σ' T n where
 ok:=⟨(dF o.nb).trans o'.base,o'.sub,o'.live,o'.len,o'.val,λi ts h=>let ⟨q,xs,h1,h2,h3,h4,h5,h6⟩:=o'.own i ts h;⟨q,xs,h1,h2,bB.free' (dF o.nb) h3,h4,h5,h6⟩,o'.dis,o'.dc.to (λj hs kvs h=>⟨h,rfl⟩) (λq φ a b _=>⟨a,rfl⟩) (λq φ _ _ a b=>⟨bB.free' (dF o.nb) a,b⟩) (L2.bB.refl _)⟩
 mem:=o.mem
 nb:=o.nb
 tp:=⟨⟨l,o'.base _ _ cO⟩,L2.bB.seq s o.tp.scr,o.tp.dig⟩
 bq:=o.bq
theorem XT {DC:xN} {DV:rT} (o:mL K B p0 H ps σT σ T n) {l:Int} (f:zH K B p0 H ps T DC DV):IE K (fZ B T.p (GE T n l)) p0 H ps { nx:=DC.nx n,rt:=DC.rt n,bk:=DC.bk n,ct:=DC.ct n } DV :=
 ⟨λH' ps' σT' σ' o' s' q'=>f.nx H' ps' σT' σ' n (o.down o' s') s' q',λH' ps' σT' σ' o' s' q'=>f.bk H' ps' σT' σ' n (o.down o' s') s' q',λH' ps' σT' σ' o' s' q'=>f.ct H' ps' σT' σ' n (o.down o' s') s' q',
  λd v H' s' r' q'=>f.rt n d v H' ((dF o.nb).trans s') ⟨⟨l,s' _ _ cO⟩,L2.bB.seq (bO ((dF o.nb).trans s')) o.bq,o.tp.dig⟩ r' q',
  λ_ _ _ _ _ _ _ _ _ q'=>q'.elim,λ_ _ _ _ _ _ _ _ _ _ _ _ _ _ _ _ _ _ q'=>q'.elim,λ_ _ _ _ _ _ _ _ _ _ _ _ _ _ q'=>q'.elim,True.intro⟩
end
section
variable {X:Cx} {a b c e:Expr} {es:List Expr} {te:EC} {pos:Pos} {st:Stmt} {rest:List Stmt} {t u:qL}
def sP (t:oW):qL:=λ_ DC n σ=>t { nx:=DC.nx n,rt:=DC.rt n,bk:=DC.bk n,ct:=DC.ct n } σ
theorem mW {t:oW} (h:xT X st t):P4 X st (sP t):=by
 obtain ⟨ts,p,r⟩:=h
 refine ⟨ts,p,λB p0 H ps σT σ T n DC DV o h f=>?_⟩
 obtain ⟨l,hl⟩:=o.tp.obj
 exact r _ p0 H ps σT σ _ DV (o.up hl) h (XT o f)
def B1:qL:=λ_ DC n σ=>DC.nx n σ
def nV (t u:qL):qL:=λτ DC n σ=>t τ { DC with nx:=u τ DC } n σ
theorem vC:xL X [] B1:=⟨_,AB,λB p0 H ps σT σ T n DC DV o h f=>f.nx H ps σT σ n o (L2.bB.refl _) h⟩
theorem dA (h1:P4 X st t) (h2:xL X rest u):xL X (st::rest) (nV t u):=by
 obtain ⟨v1,p1,r1⟩:=h1
 obtain ⟨v2,p2,r2⟩:=h2
 refine ⟨_,lC p1 p2,λB p0 H ps σT σ T n DC DV o h f=>r1 B p0 H ps σT σ T n { DC with nx:=u (oZ T) DC } { DV with nx:=v2 DV } o h ⟨λH' ps' σT' σ' n' o' s' q'=>?_,f.bk,f.ct,f.rt⟩⟩
 exact r2 B p0 H' ps' σT' σ' T n' DC DV o' q' (f.later s')
theorem kG (h1:P4 X st t):xL X [st] t:=by
 obtain ⟨v1,p1,r1⟩:=h1
 exact ⟨_,wO p1,r1⟩
def aDm (i:Nat) (t:qL):qL:=λτ DC n σ=>∃ ts,σ[i]?=some (.own ts)/\t τ DC n (σ.set i (.val (.list ts)))
theorem Q7 {sts:List Stmt} (i:Nat) (h:xL X sts t):xL X sts (aDm i t):=by
 obtain ⟨v,p,r⟩:=h
 refine ⟨_,p,λB p0 H ps σT σ T n DC DV o h f=>?_⟩
 obtain ⟨ts,e,h⟩:=h
 obtain ⟨ps',o',s'⟩:=o.ok.share e
 exact r B p0 H ps' _ σ T n DC DV ⟨o',o.mem,o.nb,⟨o.tp.obj,L2.bB.seq s' o.tp.scr,o.tp.dig⟩,o.bq⟩ h (f.later s')
def aHq (te:EC):qL:=λτ DC n σ=>te τ n σ DC.rt
theorem EQ (h:rS X e te):P4 X (.Return (some e) pos) (aHq te):=by
 obtain ⟨v,p,r⟩:=h
 refine ⟨_,vE p,λB p0 H ps σT σ T n DC DV o h f=>r B p0 H ps σT σ T n _ _ o h λn' d x H' s' t' r' q'=>?_⟩
 have o':=o.growX s' t'
 exact f.rt n' d x H' o'.ok.base ⟨t'.obj,L2.bB.seq (bO o'.ok.base) o.bq,t'.dig⟩ (r'.same (iN o.ok.sub)) q'
def cIf (c:TC) (t u:qL):qL:=λτ DC n σ=>c τ n σ λn1 b=>if b=true then t τ DC n1 σ else u τ DC n1 σ
theorem A5 {c:Expr} {a b:List Stmt} {tc:TC} (hc:YJ X c tc) (ha:xL X a t) (hb:xL X b u):P4 X (.If c a b pos) (cIf tc t u):=by
 obtain ⟨vc,pc,rc⟩:=hc
 obtain ⟨va,pa,ra⟩:=ha
 obtain ⟨vb,pb,rb⟩:=hb
 refine ⟨_,RS pc pa pb,λB p0 H ps σT σ T n DC DV o h f=>rc B p0 H ps σT σ T n _ _ o h λn1 d H1 s1 t1 q1=>?_⟩
 have o1:=o.growX s1 t1
 have f1:=f.later (s1.mask o.mem')
 cases d with
 | true=>exact ra B p0 H1 ps σT σ T n1 DC DV o1 q1 f1
 | false=>exact rb B p0 H1 ps σT σ T n1 DC DV o1 q1 f1
def PD (i:Nat) (te:EC):qL:=λτ DC n σ=>te τ n σ λn1 d=>DC.nx n1 (σ.set i (.val d))
theorem aB4 {i:Nat} {x:Str} {pos':Pos} (h:rS X e te) (ps':∀ {v:TE},PE X e v->PS X (.Assign [.Name x pos'] e pos) (rQ v (jE i))):P4 X (.Assign [.Name x pos'] e pos) (PD i te):=by
 obtain ⟨v,p,r⟩:=h
 refine ⟨_,ps' p,λB p0 H ps σT σ T n DC DV o h f=>r B p0 H ps σT σ T n _ _ o h λn' d x H' s' t' r' q'=>?_⟩
 exact f.nx H' ps _ _ n' ((o.growX s' t').set r') (s'.mask o.mem') q'
def aHo (te:EC) (g:GT):qL:=λτ DC n σ=>te τ n σ λn1 d=>g d σ (DC.nx n1)
theorem aB3 {tg:Expr} {g:GT} (he:rS X e te) (hg:CT X tg g) (pa:∀ {v:TE} {gv:TG},PE X e v->PG X tg gv->PS X (.Assign [tg] e pos) (rQ v gv)):P4 X (.Assign [tg] e pos) (aHo te g):=by
 obtain ⟨v,pe,re⟩:=he
 obtain ⟨gv,pg,rg⟩:=hg
 refine ⟨_,pa pe pg,λB p0 H ps σT σ T n DC DV o h f=>re B p0 H ps σT σ T n _ _ o h λn1 d x H1 s1 t1 r1 q1=>?_⟩
 have o1:=o.growX s1 t1
 exact rg B p0 H1 ps σT σ d x _ _ o1.ok r1 q1 λσT' σ' o' _ q'=>f.nx H1 ps _ _ n1 (o1.with o') (s1.mask o.mem') q'
theorem mL.write {K:aD} {B:Hp} {p0:List Addr} {H:Hp} {ps:List Addr} {σT:List Sl} {σ:L2.St} {T:kC} {n:Nat} (o:mL K B p0 H ps σT σ T n) {i:Nat} {ts us:List D} {ys:List V} {p:Addr} (hi:σT[i]?=some (.own ts)) (hσ:σ[i]?=some (some (.ref p))) (r:Reps K (mask H ps) us ys) :
  mL K B p0 (fZ H p (.lst ys)) ps (σT.set i (.own us)) σ T n:=by
 obtain ⟨q,xs,h1,h2,h3,h4,h5,h6⟩:=o.ok.own i ts hi
 rw [hσ] at h1
 cases h1
 have ne:T.p≠p:=λz=>h4 (z▸o.mem)
 exact ⟨o.ok.write hi hσ r,o.mem,o.nb,⟨let ⟨l,e⟩:=o.tp.obj;⟨l,by rw [cG ne];exact e⟩,by rw [gY h2];exact o.tp.scr,o.tp.dig⟩,o.bq⟩
def YE (ti:IT) (g:GT) (tb:qL):qL:=λτ DC n σ=>ti σ λts=>∃ P:Nat->Nat->List Sl->Prop,P 0 n σ /\
 (∀ (k m:Nat) (x:D) (σ':List Sl),ts[k]?=some x->P k m σ'->g x σ' λσ2=>tb τ { DC with nx:=P (k+1),ct:=P (k+1),bk:=DC.nx } m σ2)/\∀ m σ',P ts.length m σ'->DC.nx m σ'
theorem aB5 {tg iter:Expr} {body:List Stmt} {g:GT} {tb:qL} {ti:IT} (he:CS X tg iter ti) (hg:CT X tg g) (hb:xL X body tb)
  (pf:∀ {wi:TI} {gv:TG} {bv:TS},PI X tg iter wi->PG X tg gv->CQ X body bv->PS X (.For tg iter body [] pos) (aBq wi gv bv)):P4 X (.For tg iter body [] pos) (YE ti g tb):=by
 obtain ⟨ve,pe,re⟩:=he
 obtain ⟨gv,pg,rg⟩:=hg
 obtain ⟨vb,pb,rb⟩:=hb
 refine ⟨_,pf pe pg pb,λB p0 H ps σT σ T n DC DV o h f=>re B p0 H ps σT σ _ _ o.ok h λts J H1 s1 rj q1=>?_⟩
 obtain ⟨P,h0,hs,hd⟩:=q1
 refine ⟨λi m σ' H'=>m=ts.length-i/\i<=ts.length/\∃ c ps' σT',mL X.K B p0 H' ps' σT' σ' T c/\bB (mask H1 ps) (mask H' ps')/\P i c σT',⟨_,rfl,cS _,n,ps,σT,o.grow s1,L2.bB.refl _,h0⟩,?_⟩
 rintro i m σ' H' ⟨rfl,hle,c,ps',σT',o',s',p'⟩
 have sH:bB (mask H1 ps) H':=s'.trans bV
 have f':zH X.K B p0 H' ps' T DC DV:=f.later ((bO s1).trans s')
 by_cases hlt:i<ts.length
 ·refine .inr ⟨rj.go i H' sH hlt,λσ2 H2=>∃ c2 ps2 σT2,mL X.K B p0 H2 ps2 σT2 σ2 T c2/\bB (mask H1 ps) (mask H2 ps2)/\P (i+1) c2 σT2,λσ2 H2 z=>⟨ts.length-(i+1),by omega,rfl,hlt,z⟩,λy H2 hy'=>?_⟩
  obtain ⟨s2,dx,hx,rx⟩:=rj.yld i H' ps' y H2 o'.ok.live s' hlt hy'
  have f2:=f'.later (bO (ps:=ps') s2)
  have s'':bB (mask H1 ps) (mask H2 ps'):=s'.trans (bO s2)
  have o2:=o'.grow s2
  refine rg B p0 H2 ps' σT' σ' dx y _ _ o2.ok rx (hs i c dx σT' hx p') λσT3 σ3 o3 _ q3=>?_
  exact rb B p0 H2 ps' σT3 σ3 T c _ _ (o2.with o3) q3 ⟨λH4 ps4 σT4 σ4 c4 o4 s4 q4=>⟨c4,ps4,σT4,o4,s''.trans s4,q4⟩,λH4 ps4 σT4 σ4 c4 o4 s4 q4=>f2.nx H4 ps4 σT4 σ4 c4 o4 s4 q4,λH4 ps4 σT4 σ4 c4 o4 s4 q4=>⟨c4,ps4,σT4,o4,s''.trans s4,q4⟩,f2.rt⟩
 ·obtain rfl:i=ts.length:=by omega
  exact .inl ⟨rj.stop _ H' sH (aL _),f'.nx H' ps' σT' σ' c o' (L2.bB.refl _) (hd c σT' p')⟩
theorem UA {i:Nat} {m b:Expr} {tb:EC} (hn:PE X m (oU i)) (hb:rS X b tb) (hs:AR b:=by intro _ _;rfl):rS X (.Subscript m b pos) (aDn i tb):=by
 obtain ⟨vb,pb,rb⟩:=hb
 refine ⟨_,L6 bI hn pb hs,λB p0 H ps σT σ T n Q QV o h k=>?_⟩
 obtain ⟨ts,e,h⟩:=h
 obtain ⟨q,xs,h1,h2,h3,h4,h5,h6⟩:=o.ok.own i ts e
 refine ⟨.ref q,h1,rb B p0 H ps σT σ T n _ _ o h λn1 d y H1 s1 t1 r1 q1=>?_⟩
 obtain ⟨j,d',rfl,hj,q1⟩:=q1
 have ne:q≠T.p:=λz=>h4 (z▸o.mem)
 cases r1
 obtain ⟨v,hv,rv⟩:=h6.atI hj
 exact .inl ⟨q,xs,j,v,rfl,rfl,mK.of (s1 _ _ ne h5),hv,k n1 d' v H1 s1 t1 (rv.same (s1.mask o.mem')) q1⟩
theorem fnC {P:bF} {w:World} {mg:Str->Option Value} {base:Heap} {K:aD} {x qual:Str} {st:Stmt} {f:Addr} {fd:dI} {N pn:List Str} {k:Nat} {sp:M9} (F:P5 K x qual st f fd) (S:dB N pn (bQ st)) (len:∀ τ n ds Q,sp τ n ds Q->ds.length+1=pn.length)
  (hbody:∀ (cdv:Value) (A:Around) (outer:List Env) (s:Shared) (H:Hp) (E:XK),Room k (A.deeper (envOfC qual (bQ st) s.heap.objs.size f cdv))->∀ (Tp:kC) (n:Nat) (ds:List D) (Q:Nat->D->Prop),(Tp.b=true->0<Tp.ns.length)->sp (oZ Tp) n ds Q ->
   ∃ t,xL (yF fP P w K mg base N qual (bQ st) f cdv A outer s H E).nox (lN st) t/\t (oZ Tp) { nx:=λn _=>Q n .none,rt:=Q } n (kF N (oZ Tp::ds))):cL P w K mg base fP (k+1) f fd pn (fB K sp):=by
 refine F.ok S (λvs H Q E h=>?_) λcdv A outer s H vs Q E hr h=>?_
 ·obtain ⟨ps,T,n,ds,QD,_,_,_,r,q,_⟩:=h
  rw [<- r.length];exact len _ _ ds QD q
 ·obtain ⟨ps,T,n,ds,QD,live,hp,tp,r,q,k⟩:=h
  obtain ⟨t,⟨ts,p,rd⟩,h⟩:=hbody cdv A outer s H E hr T n ds QD tp.dig q
  have o:=qG (N:=N) live r
  have hno:∀ (i:Nat) (us:List D),(kF N (oZ T::ds))[i]?≠some (.own us):=λi us e=>by
   obtain ⟨q,_,_,_,hB,_,hH,_⟩:=o.own i us e
   rw [hB] at hH;cases hH
  have sW:bB (without H T.p) H:=λa u e=>by
   unfold without at e
   split at e
   ·cases e
   ·exact e
  have hx:∀ {H':Hp},bB (without H T.p) H'->iL T.p H H':=λs a u ne e=>s a u (by unfold without;rw [if_neg ne];exact e)
  have o2:Ok K (without H T.p) ps H ps (kF N (oZ T::ds)) (L2.pA N vs):=⟨sW,o.sub,o.live,o.len,o.val,λi us e=>absurd e (hno i us),o.dis,λi hs kvs e=>by
   obtain ⟨⟨q,es,_,_,hB,_,hH,_⟩,_⟩:=o.dc i hs kvs e
   rw [hB] at hH;cases hH⟩
  have hm:mask (without H T.p) ps=mask H ps:=by
   funext a
   unfold mask without
   by_cases z:a∈ps
   ·rw [if_pos z,if_pos z]
   ·rw [if_neg z,if_neg z,if_neg (λe:a=T.p=>z (e▸hp))]
  have o3:mL K (without H T.p) ps H ps (kF N (oZ T::ds)) (L2.pA N vs) T n:=⟨o2,hp,by unfold without;rw [if_pos rfl],tp,by rw [hm];exact tp.scr⟩
  refine ⟨ts,p,rd _ ps H ps _ _ T n _ _ o3 h ⟨λH' ps' σT' σ' n' o' s' q'=>?_,λ_ _ _ _ _ _ _ q'=>q'.elim,λ_ _ _ _ _ _ _ q'=>q'.elim,λn' d v H' s' t' r' q'=>k n' d v H' (hx s') t' r' q'⟩⟩
  exact k n' _ _ H' (hx o'.ok.base) ⟨o'.tp.obj,L2.bB.seq (iN o'.ok.sub) o'.tp.scr,o'.tp.dig⟩ .none q'
end
end TL

namespace TL
open PySem PySem.Spec PyProof.Rows L2
def kS:lA:=.inr "script"
def kA:lA:=.inr "at"
def kL:lA:=.inr "left"
def kD:lA:=.inr "digits"
theorem kSA:¬ kS=kA:=by decide +kernel
theorem kSL:¬ kS=kL:=by decide +kernel
theorem kSD:¬ kS=kD:=by decide +kernel
theorem kAL:¬ kA=kL:=by decide +kernel
theorem kAD:¬ kA=kD:=by decide +kernel
theorem kLD:¬ kL=kD:=by decide +kernel
def qT (T:kC) (n:Nat) (l:Int):List (lA×V):=[(kS,.ref T.q),(kA,.int n),(kL,.int l),(kD,.bl T.b)]
section
variable {T:kC} {n:Nat} {l:Int}
theorem aGy:uI (qT T n l) kS=some (.ref T.q):=oE rfl
theorem aG1:uI (qT T n l) kA=some (.int n):=by
 unfold qT
 rw [mD kSA];exact oE rfl
theorem aGz:uI (qT T n l) kL=some (.int l):=by
 unfold qT
 rw [mD kSL,mD kAL];exact oE rfl
theorem aG0:uI (qT T n l) kD=some (.bl T.b):=by
 unfold qT
 rw [mD kSD,mD kAD,mD kLD];exact oE rfl
theorem aFj (m:Nat):oG (qT T n l) kA (.int m)=qT T m l:=by
 unfold oG qT
 have h1:=kSA
 have h2:¬ kL=kA:=λz=>kAL z.symm
 have h3:¬ kD=kA:=λz=>kAD z.symm
 simp [h1,h2,h3]
theorem aFi (m:Int):oG (qT T n l) kL (.int m)=qT T n m:=by
 unfold oG qT
 have h1:=kSL
 have h2:=kAL
 have h3:¬ kD=kL:=λz=>kLD z.symm
 simp [h1,h2,h3]
end
theorem wK {K:aD} {H:Hp}:∀ ns:List Int,Reps K H (ns.map aO) (ns.map V.int)
 | []=>.nil
 | i::ns=>.cons (.int i) (wK ns)
def aIx (τ:D):D:=match τ with | .dict [(_,.list [_,_,_,l])]=>l | _=>.none
def aJ4 (τ:D):D:=match τ with | .dict [(_,.list [_,_,b,_])]=>b | _=>.none
section
variable {X:Cx} {pos:Pos} {m:Expr} {i:Nat} {kj:Nat}
theorem wW {z:Str} {j:Nat} {p:Pos}:PN (.Constant (.str z) j p):=λ_ _=>rfl
def YD (i:Nat) (Q':D->Nat->(Nat->D->Prop)->Prop):EC:=λτ n σ Q=>σ[i]?=some (.val τ)/\Q' τ n Q
theorem tK {K:aD} {B:Hp} {p0:List Addr} {H:Hp} {ps:List Addr} {σT:List Sl} {σ:L2.St} {T:kC} {n:Nat} (o:mL K B p0 H ps σT σ T n) (h:σT[i]?=some (.val (oZ T))):σ[i]?=some (some (.ref T.p)):=by
 obtain ⟨v,h1,h2⟩:=o.ok.val i _ h
 rw [h1,JE h2]
theorem X0 {k:Nat} {p2:Pos} (hr:Room k X.A) (hn:PE X m (oU i)):rS X (.Subscript m (.Constant (.str "script") kj p2) pos) (YD i λτ n Q=>Q n (aIx τ)):=by
 refine ⟨_,AE (by have:=hr.un;omega) hn oH wW,λB p0 H ps σT σ T n Q QV o h k=>?_⟩
 obtain ⟨l,hl⟩:=o.tp.obj
 exact ⟨_,tK o h.1,T.p,_,rfl,by rw [<- aGy];exact CB.k (k:=kS) hl,k n _ _ H .refl o.tp (.list o.tp.scr (wK _)) h.2⟩
theorem X3 {k:Nat} {p2:Pos} (hr:Room k X.A) (hn:PE X m (oU i)):rS X (.Subscript m (.Constant (.str "at") kj p2) pos) (YD i λτ n Q=>Q n (.int n)):=by
 refine ⟨_,AE (by have:=hr.un;omega) hn oH wW,λB p0 H ps σT σ T n Q QV o h k=>?_⟩
 obtain ⟨l,hl⟩:=o.tp.obj
 exact ⟨_,tK o h.1,T.p,_,rfl,by rw [<- aG1];exact CB.k (k:=kA) hl,k n _ _ H .refl o.tp (.int _) h.2⟩
theorem X1 {k:Nat} {p2:Pos} (hr:Room k X.A) (hn:PE X m (oU i)):rS X (.Subscript m (.Constant (.str "left") kj p2) pos) (YD i λτ n Q=>∀ l:Int,Q n (.int l)):=by
 refine ⟨_,AE (by have:=hr.un;omega) hn oH wW,λB p0 H ps σT σ T n Q QV o h k=>?_⟩
 obtain ⟨l,hl⟩:=o.tp.obj
 exact ⟨_,tK o h.1,T.p,_,rfl,by rw [<- aGz];exact CB.k (k:=kL) hl,k n _ _ H .refl o.tp (.int _) (h.2 l)⟩
theorem X2 {k:Nat} {p2:Pos} (hr:Room k X.A) (hn:PE X m (oU i)):rS X (.Subscript m (.Constant (.str "digits") kj p2) pos) (YD i λτ n Q=>Q n (aJ4 τ)):=by
 refine ⟨_,AE (by have:=hr.un;omega) hn oH wW,λB p0 H ps σT σ T n Q QV o h k=>?_⟩
 obtain ⟨l,hl⟩:=o.tp.obj
 exact ⟨_,tK o h.1,T.p,_,rfl,by rw [<- aG0];exact CB.k (k:=kD) hl,k n _ _ H .refl o.tp (.bool _) h.2⟩
theorem aBn {e:Expr} {te:EC} (h:rS X e te) (pt:∀ {t:TE},PE X e t->PT X e (tB t)):YJ X e (aHn te):=by
 obtain ⟨v,p,r⟩:=h
 refine ⟨_,pt p,λB p0 H ps σT σ T n Q QV o h k=>r B p0 H ps σT σ T n _ _ o h λn1 d x H1 s1 t1 r1 q1=>?_⟩
 cases r1 with
 | bool c=>exact ⟨c,rfl,k n1 c H1 s1 t1 q1⟩
 | _=>exact q1.elim
theorem iL.put {H:Hp} {p:Addr} {u:HO}:iL p H (fZ H p u):=λa o ne e=>by rw [cG ne];exact e
def aA2 (i:Nat) (te:EC):qL:=λτ DC n σ=>te τ n σ λn1 d=>d=.int ((n1:Int)+1)/\σ[i]?=some (.val τ)/\DC.nx (n1+1) σ
theorem V8 {k:Nat} {p2 p3:Pos} {value:Expr} {te:EC} (hr:Room k X.A) (hn:PE X m (oU i)) (hv:rS X value te) (hs:gT value (some (.Subscript m (.Constant (.str "at") kj p2) p3)) pos.line X.env=pure false:=by rfl) :
  P4 X (.Assign [.Subscript m (.Constant (.str "at") kj p2) p3] value pos) (aA2 i te):=by
 obtain ⟨v,p,r⟩:=hv
 refine ⟨_,L3 (by have:=hr.un;omega) hn oH p hs,λB p0 H ps σT σ T n DC DV o h f=>r B p0 H ps σT σ T n _ _ o h λn1 d x H1 s1 t1 r1 q1=>?_⟩
 obtain ⟨rfl,hi,q1⟩:=q1
 cases r1
 have o1:=o.growX s1 t1
 obtain ⟨l,hl⟩:=t1.obj
 refine ⟨_,tK o1 hi,T.p,_,rfl,IF.k (k:=kA) (v:=.int (n1+1:Nat)) hl (by show 4<bD;decide),?_⟩
 show DV.nx σ (fZ H1 T.p (.dK (oG (qT T n1 l) kA (.int (n1+1:Nat)))))
 rw [aFj]
 have t2:pW X.K (fZ H1 T.p (GE T (n1+1) l)) ps T (n1+1):=⟨⟨l,cO⟩,by rw [gY o.mem'];exact t1.scr,t1.dig⟩
 exact f.nx _ ps σT σ (n1+1) (o1.growX .put t2) ((s1.trans .put).mask o.mem') q1
def UR (i:Nat) (te:EC):qL:=λτ DC n σ=>te τ n σ λn1 d=>(∃ l:Int,d=.int l)/\σ[i]?=some (.val τ)/\DC.nx n1 σ
theorem LR {k:Nat} {p2 p3:Pos} {value:Expr} {te:EC} (hr:Room k X.A) (hn:PE X m (oU i)) (hv:rS X value te) (hs:gT value (some (.Subscript m (.Constant (.str "left") kj p2) p3)) pos.line X.env=pure false:=by rfl) :
  P4 X (.Assign [.Subscript m (.Constant (.str "left") kj p2) p3] value pos) (UR i te):=by
 obtain ⟨v,p,r⟩:=hv
 refine ⟨_,L3 (by have:=hr.un;omega) hn oH p hs,λB p0 H ps σT σ T n DC DV o h f=>r B p0 H ps σT σ T n _ _ o h λn1 d x H1 s1 t1 r1 q1=>?_⟩
 obtain ⟨⟨l',rfl⟩,hi,q1⟩:=q1
 cases r1
 have o1:=o.growX s1 t1
 obtain ⟨l,hl⟩:=t1.obj
 refine ⟨_,tK o1 hi,T.p,_,rfl,IF.k (k:=kL) (v:=.int l') hl (by show 4<bD;decide),?_⟩
 show DV.nx σ (fZ H1 T.p (.dK (oG (qT T n1 l) kL (.int l'))))
 rw [aFi]
 have t2:pW X.K (fZ H1 T.p (GE T n1 l')) ps T n1:=⟨⟨l',cO⟩,by rw [gY o.mem'];exact t1.scr,t1.dig⟩
 exact f.nx _ ps σT σ n1 (o1.growX .put t2) ((s1.trans .put).mask o.mem') q1
end
def LO (K:aD):Sp:=λvs H Q _=>∃ (ps:List Addr) (ns:List Int) (v:V),(∀ p∈ps,H p≠none)/\vs=[v]/\gE K (mask H ps) (.list (ns.map aO)) v /\
 ∀ (T:kC) H',T.ns=ns->bB H H'->H T.p=none->H' T.p=some (GE T 0 0)->mK K (mask H' ps) T.q (T.ns.map V.int)->(T.b=true->0<T.ns.length)->Q (.ref T.p) H'
abbrev MF (K:aD) (_:oA):Sp:=LO K
def aAf (i:Nat) (te:ET) (u:qL):oW:=λDT σ=>te σ λd=>∃ ns:List Int,d=.list (ns.map aO)/\∀ T:kC,T.ns=ns->(T.b=true->0<T.ns.length)->u (oZ T) { nx:=λ_ _=>False,rt:=λ_ d=>DT.rt d } 0 (σ.set i (.val (oZ T)))
theorem QY {K:aD} {H:Hp} {ps:List Addr} {q:Addr} {xs:List V} (h:mK K (mask H ps) q xs):(q∉ps/\Rd H q (.lst xs))\/∀ H',mK K H' q xs:=by
 rcases h with h | h
 ·refine .inl ⟨λz=>?_,?_⟩
  ·rcases h with h | ⟨u,h⟩
   ·unfold mask at h;rw [if_pos z] at h;cases h
   ·unfold mask at h;rw [if_pos z] at h;cases h
  ·rcases h with h | ⟨u,h⟩
   ·exact .inl (bV _ _ h)
   ·exact .inr ⟨u,bV _ _ h⟩
 ·exact .inr λ_=>.inr h
theorem VY {X:Cx} {i k:Nat} {f:Addr} {fd:dI} {pn:List Str} {x y:Str} {p px pos cp:Pos} {e:Expr} {te:ET} {rest:List Stmt} {u:qL} (F:cL X.prog X.w X.K X.mg X.base fP k f fd pn (LO X.K))
  (he:hU X e te) (hs:bN [e] X.env=(false,eval e X.env)::bN [] X.env) (pc:∀ {ta:TA},PA X [e] ta->PS X (.Assign [.Name y px] (.Call (.Name x p) [e] [] cp) pos) (rQ (C3 (LO X.K) [] E0 ta) (jE i))) (hu:xL X rest u) :
  vS X (.Assign [.Name y px] (.Call (.Name x p) [e] [] cp) pos::rest) (aAf i te u):=by
 obtain ⟨ve,pe,re⟩:=he
 obtain ⟨vu,pu,ru⟩:=hu
 refine ⟨_,lC (pc (fL pe iZ hs)) pu,λB p0 H ps σT σ DT DV o h f=>?_⟩
 refine re B p0 H ps σT σ _ _ o h λd v H1 s1 r1 q1=>?_
 obtain ⟨ns,rfl,q1⟩:=q1
 have o1:=o.grow s1
 refine ⟨ps,ns,v,o1.live,rfl,r1,λT H2 hns s2 hp hH hq hd=>?_⟩
 subst hns
 have o2:=o1.grow s2
 have hB:B T.p=none:=bB.free' (o.base.trans s1) hp
 have hnp:T.p∉ps:=iC o1.live hp
 have hm:bB (mask H1 ps) (mask H2 (T.p::ps)):=λa u e=>by
  unfold mask at e |-
  by_cases ha:a∈ps
  ·rw [if_pos ha] at e;cases e
  ·rw [if_neg ha] at e
   have ne:a≠T.p:=λz=>by rw [z,hp] at e;cases e
   rw [if_neg λz=>(aZ.mp z).elim ne ha]
   exact s2 a u e
 have hqn:(T.q∉T.p::ps/\Rd H2 T.q (.lst (T.ns.map V.int)))\/∀ H',mK X.K H' T.q (T.ns.map V.int):=by
  rcases QY hq with ⟨n1,h⟩ | h
  ·refine .inl ⟨λz=>?_,h⟩
   rcases aZ.mp z with z | z
   ·rw [z] at h
    rcases h with h | ⟨u,h⟩
    ·rw [hH] at h;cases h
    ·rw [hH] at h;cases h
   ·exact n1 z
  ·exact .inr h
 have sB:bB B (λa=>if a∈T.p::ps then B a else H2 a):=λa u e=>by
  by_cases ha:a∈T.p::ps
  ·show (if a∈T.p::ps then B a else H2 a)=_;rw [if_pos ha];exact e
  ·show (if a∈T.p::ps then B a else H2 a)=_;rw [if_neg ha];exact o2.base a u e
 have sB1:bB (λa=>if a∈T.p::ps then B a else H2 a) H2:=λa u e=>by
  have e':(if a∈T.p::ps then B a else H2 a)=some u:=e
  by_cases ha:a∈T.p::ps
  ·rw [if_pos ha] at e';exact o2.base a u e'
  ·rw [if_neg ha] at e';exact e'
 generalize hBg:(λa=>if a∈T.p::ps then B a else H2 a:Hp)=B' at sB sB1
 have hBn:∀ a,a∈T.p::ps->B' a=B a:=λa ha=>by rw [<- hBg];exact if_pos ha
 have hBo:∀ a,a∉T.p::ps->B' a=H2 a:=λa ha=>by rw [<- hBg];exact if_neg ha
 have oB:Ok X.K B' (T.p::p0) H2 (T.p::ps) σT σ:=by
  refine ⟨sB1,λq hq=>?_,λq hq=>?_,o.len,λj d h=>?_,λj ts h=>?_,o.dis,o1.dc.to (λj hs kvs h=>⟨h,rfl⟩) (λq φ a b _=>⟨aN _ a,(s2 _ _ b).trans b.symm⟩) (λq φ a b c d=>⟨(hBn q (aN _ a)).trans c,λz=>by
   rcases aZ.mp z with z | z
   ·rw [z,hp] at b;cases b
   ·exact d z⟩) hm⟩
  ·rcases aZ.mp hq with z | z
   ·exact z▸aU ..
   ·exact aN _ (o.sub q z)
  ·rcases aZ.mp hq with z | z
   ·rw [z,hH];exact λz=>nomatch z
   ·exact o2.live q z
  ·obtain ⟨v,h1,h2⟩:=o1.val j d h
   exact ⟨v,h1,h2.same hm⟩
  ·obtain ⟨q,xs,h1,h2,h3,h4,h5,h6⟩:=o1.own j ts h
   refine ⟨q,xs,h1,aN _ h2,(hBn q (aN _ h2)).trans h3,λz=>?_,s2 _ _ h5,h6.same hm⟩
   rcases aZ.mp z with z | z
   ·rw [z,hp] at h5;cases h5
   ·exact h4 z
 have sq:∀ {H':Hp} {ps':List Addr},(∀ a,a∈ps'->a∈T.p::ps)->(∀ a,a∉T.p::ps->H' a=H2 a)->mK X.K (mask H' ps') T.q (T.ns.map V.int):=λ{H' ps'} h1 h2=>by
  rcases hqn with ⟨n1,h⟩ | h
  ·have e:mask H' ps' T.q=H2 T.q:=by
    unfold mask
    rw [if_neg λz=>n1 (h1 _ z),h2 _ n1]
   rcases h with h | ⟨u,h⟩
   ·exact .inl (.inl (e.trans h))
   ·exact .inl (.inr ⟨u,e.trans h⟩)
  ·exact h _
 have hbq:mK X.K (mask B' (T.p::p0)) T.q (T.ns.map V.int):=sq (λa ha=>by
  rcases aZ.mp ha with z | z
  ·exact z▸aU ..
  ·exact aN _ (o.sub a z)) hBo
 have hsc:mK X.K (mask H2 (T.p::ps)) T.q (T.ns.map V.int):=sq (λ_ z=>z) λ_ _=>rfl
 refine ru B' (T.p::p0) H2 (T.p::ps) _ _ T 0 _ DV ⟨oB.set (aCb T),aU ..,(hBn _ (aU ..)).trans hB,⟨⟨0,hH⟩,hsc,hd⟩,hbq⟩ (q1 T rfl hd) ⟨λ_ _ _ _ _ _ _ q'=>q'.elim,λ_ _ _ _ _ _ _ q'=>q'.elim,λ_ _ _ _ _ _ _ q'=>q'.elim,λn' d v H' s' t' r' q'=>?_⟩
 exact f.rt d v H' (sB.trans s') (r'.same (iN λq hq=>aN _ hq)) q'
theorem OI (T:kC):vI [] (qT T 0 0)=qT T 0 0:=by
 have h1:=kSA
 have h2:=kSL
 have h3:=kSD
 have h4:=kAL
 have h5:=kAD
 have h6:=kLD
 unfold vI qT
 simp [oG,h1,h2,h3,h4,h5,h6]
theorem aG8 {P:bF} {w:World} {mg:Str->Option Value} {base:Heap} {K:aD} {x qual:Str} {st:Stmt} {f:Addr} {fd:dI} {n1 n2:Str} {k:Nat} (F:P5 K x qual st f fd) (S:dB [n1,n2] [n1] (bQ st))
  (hbody:∀ (cdv:Value) (A:Around) (outer:List Env) (s:Shared) (H:Hp) (E:XK),Room k (A.deeper (envOfC qual (bQ st) s.heap.objs.size f cdv)) ->
   ∃ (st1:Stmt) (e2:Expr) (pos:Pos) (te:ET),lN st=[st1,.Return (some e2) pos]/\xT (yF fP P w K mg base [n1,n2] qual (bQ st) f cdv A outer s H E).nox st1 (wI 1 te) /\
    PE (yF fP P w K mg base [n1,n2] qual (bQ st) f cdv A outer s H E).nox e2 (YW [(tC (.str "script"),oU 0),(tC (.str "at"),tC (.int 0)),(tC (.str "left"),tC (.int 0)),(tC (.str "digits"),oU 1)]) /\
    ∀ (ns:List Int) (Q:D->Prop),(∀ b:Bool,(b=true->0<ns.length)->Q (.bool b))->te [.val (.list (ns.map aO)),.un] Q):cL P w K mg base fP (k+1) f fd [n1] (LO K):=by
 refine F.ok S (λvs H Q E h=>?_) λcdv A outer s H vs Q E hr h=>?_
 ·obtain ⟨ps,ns,v,_,rfl,_⟩:=h
  rfl
 ·obtain ⟨ps,ns,v,live,rfl,r,k⟩:=h
  obtain ⟨st1,e2,pos,te,hb,⟨t1,p1,r1⟩,p2,ht⟩:=hbody cdv A outer s H E hr
  rw [hb]
  refine ⟨_,lC p1 (wO (vE p2)),?_⟩
  have o:=qG (N:=[n1,n2]) (ds:=[.list (ns.map aO)]) live (.cons r .nil)
  refine r1 H ps H ps _ _ { nx:=λσT'=>∃ b:Bool,(b=true->0<ns.length)/\σT'=[.val (.list (ns.map aO)),.val (.bool b)],rt:=λ_=>False } _ o (ht ns _ λb hb=>⟨b,hb,rfl⟩) ⟨λH' ps' σT' σ' o' s' q'=>?_,λ_ _ _ _ _ _ q'=>q'.elim,λ_ _ _ _ _ _ q'=>q'.elim,λ_ _ _ _ _ q'=>q'.elim,λ_ _ _ _ _ _ _ _ _ q'=>q'.elim,λ_ _ _ _ _ _ _ _ _ _ _ _ _ _ _ _ _ _ q'=>q'.elim,λ_ _ _ _ _ _ _ _ _ _ _ _ _ _ q'=>q'.elim,True.intro⟩
  obtain ⟨b,hb,rfl⟩:=q'
  obtain ⟨v0,e0,r0⟩:=o'.val 0 _ rfl
  obtain ⟨v1,e1,r1⟩:=o'.val 1 _ rfl
  cases r1
  intro p hp
  refine ⟨v0,e0,.bl b,e1,cO,?_⟩
  cases r0 with
  | @list q xs _ hq rs =>
   have e:=tM rs
   subst e
   refine ⟨qT ⟨p,q,ns,b⟩ 0 0,rfl,(by show 4<=15;decide),?_⟩
   rw [OI]
   have hpH:H p=none:=bB.free' o'.base hp
   refine k ⟨p,q,ns,b⟩ _ rfl (λa u e=>?_) hpH cO ?_ hb
   ·have ne:a≠p:=λz=>by rw [z,hpH] at e;cases e
    rw [cG ne,cG ne]
    exact o'.base a u e
   ·refine L2.bB.seq (λa u e=>?_) hq
    unfold mask at e |-
    by_cases ha:a∈ps'
    ·rw [if_pos ha] at e;cases e
    ·rw [if_neg ha] at e
     have ne:a≠p:=λz=>by rw [z,hp] at e;cases e
     rw [if_neg λz=>ha (o'.sub a z),cG ne,cG ne]
     exact e
theorem O0 {P:bF} {w:World} {K:aD} {mg:Str->Option Value} {base:Heap} {k:Nat} {f:Addr} {fd:dI} {pn:List Str}:cL P w K mg base fP k f fd pn (fB K λ_ _ _ _=>False) :=
 ⟨λvs H Q E h=>h.choose_spec.choose_spec.choose_spec.choose_spec.choose_spec.2.2.2.2.1.elim,λA outer s H args us vs Q E _ _ _ _ h=>h.choose_spec.choose_spec.choose_spec.choose_spec.choose_spec.2.2.2.2.1.elim⟩
theorem XS {P:bF} {w:World} {K:aD} {mg:Str->Option Value} {base:Heap} {k:Nat} {f:Addr} {fd:dI} {pn:List Str} {sp sp':M9} (F:cL P w K mg base fP k f fd pn (fB K sp)) (h:∀ τ n ds Q,sp' τ n ds Q->sp τ n ds Q):cL P w K mg base fP k f fd pn (fB K sp') :=
 F.imp λvs H Q E ⟨ps,T,n,ds,QD,h1,h2,h3,h4,h5,h6⟩=>⟨ps,T,n,ds,QD,h1,h2,h3,h4,h _ _ ds QD h5,h6⟩
section
variable {t:oW} {u:qL} {τ:D} {DC:xN} {n:Nat} {σ:List Sl} {i:Nat} {te:EC}
theorem iU (h:jI t (λ_=>u τ DC n) { nx:=λ_=>True,rt:=DC.rt n,bk:=DC.bk n,ct:=DC.ct n } σ):nV (sP t) u τ DC n σ:=h
theorem M5 (v:D) (h:∀ q:Nat->D->Prop,q n v->te τ n σ q) (k:u τ DC n (σ.set i (.val v))):nV (PD i te) u τ DC n σ:=h (λn1 d=>u τ DC n1 (σ.set i (.val d))) k
theorem iF (R:Nat->D->Prop) (h:∀ q:Nat->D->Prop,(∀ m v,R m v->q m v)->te τ n σ q) (k:∀ m v,R m v->u τ DC m (σ.set i (.val v))):nV (PD i te) u τ DC n σ:=h _ k
theorem X9 {g:GT} (R:Nat->D->Prop) (h:∀ q:Nat->D->Prop,(∀ m v,R m v->q m v)->te τ n σ q) (k:∀ m v,R m v->g v σ (u τ DC m)):nV (aHo te g) u τ DC n σ:=h _ k
theorem UM {c:TC} {t e:qL} (b:Bool) (h:∀ q:Nat->Bool->Prop,q n b->c τ n σ q) (k1:b=true->t τ { DC with nx:=u τ DC } n σ) (k0:b=false->e τ { DC with nx:=u τ DC } n σ):nV (cIf c t e) u τ DC n σ:=by
 refine h _ ?_
 cases b with
 | true=>rw [if_pos rfl];exact k1 rfl
 | false=>rw [if_neg (by decide)];exact k0 rfl
theorem UL {c:TC} {t e:qL} (R:Nat->Bool->Prop) (h:∀ q:Nat->Bool->Prop,(∀ m b,R m b->q m b)->c τ n σ q) (k1:∀ m,R m true->t τ { DC with nx:=u τ DC } m σ) (k0:∀ m,R m false->e τ { DC with nx:=u τ DC } m σ):nV (cIf c t e) u τ DC n σ:=by
 refine h _ λm b hb=>?_
 cases b with
 | true=>rw [if_pos rfl];exact k1 m hb
 | false=>rw [if_neg (by decide)];exact k0 m hb
theorem UK {c:TC} (hσ:σ[i]?=some (.val τ)) (b:Bool) (h:∀ q:Nat->Bool->Prop,q n b->c τ n σ q) (hp:∀ q:Nat->D->Prop,(∀ l:Int,q n (.int l))->te τ n σ q) (k:u τ DC n σ):nV (cIf c (UR i te) B1) u τ DC n σ:=by
 refine UM b h (λ_=>?_) λ_=>k
 exact hp _ λl=>⟨⟨l,rfl⟩,hσ,k⟩
theorem HR {c:TC} (C:Prop) (R:Nat->Prop) (Rv:D->Prop) (h:∀ q:Nat->Bool->Prop,(∀ m b,R m->(b=true->C)->q m b)->c τ n σ q) (d0:D) (h0:σ[i]?=some (.val d0)) (r0:Rv d0) (S:Nat->Prop) (hS:∀ m,R m->S m) (hp:∀ m,R m->C->∀ q:Nat->D->Prop,(∀ m' d,S m'->Rv d->q m' d)->te τ m σ q) (k:∀ m d,S m->Rv d->u τ DC m (σ.set i (.val d))):nV (cIf c (PD i te) B1) u τ DC n σ:=by
 refine h _ λm b hb hC=>?_
 cases b with
 | true=>rw [if_pos rfl];exact hp m hb (hC rfl) _ λm' d hm hd=>k m' d hm hd
 | false =>
  rw [if_neg (by decide)]
  have e:σ.set i (.val d0)=σ:=by
   apply gD
   intro j
   by_cases hj:i=j
   ·subst hj
    rw [aY (aG.mp h0).1,h0]
   ·rw [aW hj]
  have:=k m d0 (hS m hb) r0
  rw [e] at this
  exact this
theorem O6 {c:TC} {tp:ET} (C:Prop) (S:Nat->Prop) (Rv:D->Prop) (h:∀ q:Nat->Bool->Prop,(∀ m b,S m->(b=true->C)->q m b)->c τ n σ q) (d0:D) (h0:σ[i]?=some (.val d0)) (r0:Rv d0) (hp:C->∀ q:D->Prop,(∀ d,Rv d->q d)->tp σ q) (k:∀ m d,S m->Rv d->u τ DC m (σ.set i (.val d))):nV (cIf c (sP (wI i tp)) B1) u τ DC n σ:=by
 refine h _ λm b hm hb=>?_
 cases b with
 | true=>rw [if_pos rfl];exact hp (hb rfl) _ λd hd=>k m d hm hd
 | false =>
  rw [if_neg (by decide)]
  have e:σ.set i (.val d0)=σ:=by
   apply gD
   intro j
   by_cases hj:i=j
   ·subst hj
    rw [aY (aG.mp h0).1,h0]
   ·rw [aW hj]
  have:=k m d0 hm r0
  rw [e] at this
  exact this
theorem aHl {ti:IT} {ts:List D} {g:GT} {tb:qL} (hti:sZ ti σ ts) (P:Nat->Nat->List Sl->Prop) (h0:P 0 n σ)
  (hs:∀ (k m:Nat) (x:D) (σ':List Sl),ts[k]?=some x->P k m σ'->g x σ' λσ2=>tb τ { DC with nx:=P (k+1),ct:=P (k+1),bk:=DC.nx } m σ2) (hd:∀ m σ',P ts.length m σ'->DC.nx m σ'):YE ti g tb τ DC n σ:=hti _ ⟨P,h0,hs,hd⟩
theorem UN {ti:IT} {ts:List D} {g:GT} {tb:qL} (hti:sZ ti σ ts) (P:Nat->Nat->List Sl->Prop) (h0:P 0 n σ)
  (hs:∀ (k m:Nat) (x:D) (σ':List Sl),ts[k]?=some x->P k m σ'->g x σ' λσ2=>tb τ { DC with nx:=P (k+1),ct:=P (k+1),bk:=u τ DC } m σ2) (hd:∀ m σ',P ts.length m σ'->u τ DC m σ'):nV (YE ti g tb) u τ DC n σ :=
 aHl (DC:={ DC with nx:=u τ DC }) hti P h0 hs hd
theorem UP {fr:List (Option Nat)} {ti:IT} {ts:List D} {Q:Nat->D->Prop} (hti:sZ ti σ ts) (R:Nat->D->D->Prop) (C:Nat) (hz:ts.length<=100000)
  (ht:∀ (k m:Nat) (x:D) (q:Nat->D->Prop),ts[k]?=some x->m<=n+C*k->(∀ m' y,m'<=m+C->R k x y->q m' y)->te τ m ((jS fr σ).set 0 (.val x)) q)
  (hq:∀ (m:Nat) (ys:List D),m<=n+C*ts.length->ys.length=ts.length->(∀ (k:Nat) (x y:D),ts[k]?=some x->ys[k]?=some y->R k x y)->Q m (.list ys)):cLc fr ti (gN 0) te τ n σ Q:=by
 refine hti _ ⟨hz,λk m σ' ds=>(∀ x,σ'.set 0 (.val x)=(jS fr σ).set 0 (.val x))/\m<=n+C*k/\ds.length=k/\∀ (j:Nat) (x y:D),ts[j]?=some x->ds[j]?=some y->R j x y,⟨λ_=>rfl,by omega,rfl,λj x y _ h=>by simp at h⟩,λk m x σ' ds hx h=>?_,λm σ' ds h=>hq m ds h.2.1 h.2.2.1 h.2.2.2⟩
 obtain ⟨h1,h2,h3,h4⟩:=h
 show te τ m (σ'.set 0 (.val x)) _
 rw [h1 x]
 refine ht k m x _ hx h2 λm' y hm hy=>⟨λz=>set_set _ _ _ _,?_,by simp [h3],λj x' y' e1 e2=>?_⟩
 ·rw [aH1];omega
 ·by_cases hj:j<k
  ·rw [dH (by omega)] at e2
   exact h4 j x' y' e1 e2
  ·rw [dN (by omega)] at e2
   have:j=k:=by
    by_cases e:j=k
    ·exact e
    ·have:j-ds.length≠0:=by omega
     cases q:j-ds.length with
     | zero=>exact absurd q this
     | succ n=>rw [q] at e2;simp at e2
   subst this
   rw [hx] at e1
   cases e1
   simp [h3] at e2
   subst e2
   exact hy
end
end TL

namespace TL
open PySem PySem.Spec PyProof.Rows L2
section
variable {X:Cx} {pos:Pos}
def lF (i:Int) (n:Nat):List D:=(cK n).map λk:Nat=>aO (i+(k:Int))
def XI (t:AT):IT:=λσ Q=>t σ λds=>∃ i j:Int,ds=[.int i,.int j]/\(-(2 ^ 62)<=i/\i<2 ^ 62/\-(2 ^ 62)<=j/\j<2 ^ 62)/\Q (lF i (j-i).toNat)
theorem OQ {tg a b:Expr} {t:AT} {p p':Pos} (ha:xU X [a,b] t) (pr:∀ {ta:TA},PA X [a,b] ta->PI X tg (.Call (.Name "range" p) [a,b] [] p') (aAr ta)):CS X tg (.Call (.Name "range" p) [a,b] [] p') (XI t):=by
 obtain ⟨va,pa,ra⟩:=ha
 refine ⟨_,pr pa,λB p0 H ps σT σ Q R o h k=>ra B p0 H ps σT σ _ _ o h λds xs H1 s1 r1 q1=>?_⟩
 obtain ⟨i,j,rfl,hb,q⟩:=q1
 cases r1 with
 | cons r1 r2 =>
  cases r2 with
  | cons r2 r3 =>
   cases r3
   cases r1
   cases r2
   refine ⟨i,j,rfl,hb,k (lF i (j-i).toNat) _ H1 s1 ?_ q⟩
   have hl:(lF i (j-i).toNat).length=(j-i).toNat:=by unfold lF;simp
   refine ⟨λi H _ e=>by rw [hl] at e;exact e,λi H _ e=>by rw [hl] at e;exact e,λm H ps y H' _ _ e hy=>?_⟩
   obtain ⟨rfl,rfl⟩:=hy
   rw [hl] at e
   refine ⟨L2.bB.refl _,.int (i+m),?_,.int _⟩
   unfold lF
   rw [aI,jJ e];rfl
end
section
variable {X:Cx} {es:List Expr} {pos:Pos}
theorem mL.setOwn {K:aD} {B:Hp} {p0:List Addr} {H:Hp} {ps:List Addr} {σT:List Sl} {σ:L2.St} {T:kC} {n:Nat} (o:mL K B p0 H ps σT σ T n) {i:Nat} {ts:List D} {xs:List V} {p:Addr} (hp:H p=none) (r:Reps K (mask H ps) ts xs) :
  mL K B p0 (fZ H p (.lst xs)) (p::ps) (σT.set i (.own ts)) (σ.set i (some (.ref p))) T n :=
 ⟨o.ok.setOwn hp r,o.mem,o.nb,⟨let ⟨l,e⟩:=o.tp.obj;⟨l,by rw [cG (o.ne hp)];exact e⟩,by rw [kH hp];exact o.tp.scr,o.tp.dig⟩,o.bq⟩
end
end TL

namespace HT
open PySem PySem.Spec PyProof.Rows
section
open PySem.SeqAt
open PySem.AutoSeq1 (wpAny_loadPart')
open PySem.MeetsSeq PySem.MeetsSeq2 PySem.MeetsSeq3
end
section
variable {prog:bF} {w:World} {A:Around} {E:Value->Shared->Prop} {s:Shared}
end
end HT

namespace L2
open PySem PySem.Spec PyProof.Rows
section
variable {X:Cx}
end
end L2
namespace PySem
section
variable {prog:bF} {w:World} {A:Around} {R:Result->Shared->Prop} {I:Addr} {fp wr:List Addr} {n:Nat} {P:Nat->Value->Prop} {St:Nat->Heap->Prop}
end
section
variable {prog:bF} {w:World} {A:Around} {E:Value->Shared->Prop} {s:Shared}
end
end PySem

namespace L2
open PySem PySem.Spec PyProof.Rows
section
variable {X:Cx}
end
end L2
namespace TL
open PySem PySem.Spec PyProof.Rows L2
section
variable {X:Cx} {e:Expr} {es:List Expr} {te:ET} {pos:Pos} {K:aD} {H:Hp}
end
end TL

namespace L2
open PySem PySem.Spec PyProof.Rows PyProof
section
variable {P:bF} {w:World} {A:Around} {E:Value->Shared->Prop} {s:Shared}
end
section
variable {X:Cx}
end
end L2
namespace TL
open PySem PySem.Spec PyProof.Rows L2
section
variable {X:Cx} {a b c e:Expr} {es:List Expr} {ta tb te:ET} {pos:Pos}
end
end TL

namespace L2
open PySem PySem.Spec PyProof.Rows
noncomputable instance decD:DecidableEq PyData:=λ_ _=>Classical.propDecidable _
mutual
def hk:PyData->Bool
 | .none=>true
 | .int _=>true
 | .str x=>(aP x).canLay0
 | .tuple xs=>hkAll xs
 | .bool _=>false
 | .list _=>false
 | .dict _=>false
def hkAll:List PyData->Bool
 | []=>true
 | x::xs=>hk x && hkAll xs
end
mutual
def lU (w:World):PyData->Int
 | .none=>0xFCA86420
 | .int i=>hashInt i
 | .str x=>hashStr w x
 | .tuple xs=>reduceHash (Builtin.Tuple.tupleHashOf (hashDs w xs))
 | .bool _=>0
 | .list _=>0
 | .dict _=>0
def hashDs (w:World):List PyData->List Int
 | []=>[]
 | x::xs=>lU w x::hashDs w xs
end
mutual
def pR:PyData->Nat
 | .tuple xs=>hdrawsAll xs+1
 | .none=>1
 | .int _=>1
 | .str _=>1
 | .bool _=>1
 | .list _=>1
 | .dict _=>1
def hdrawsAll:List PyData->Nat
 | []=>0
 | x::xs=>pR x+hdrawsAll xs
end
section
variable {prog:bF} {w:World} {A:Around} {E:Value->Shared->Prop} {s:Shared}
theorem JH {Q:Int->Shared->Prop} (h:Q 0xFCA86420 { s with toks:=s.toks+1 }):wpAny (model prog w) A (pyHash .none) Q E s:=by
 have hT:s.TypeIs .none "NoneType":=rfl
 unfold pyHash pyHashByItsType
 refine aA (wpAny_cRoomFor_byValue rfl ?_)
 refine aA (wpAny_specialOf hT kN.lookup ?_)
 show wpAny _ _ (if (some (Value.builtin "NoneType.__hash__") == some Value.none)=true then _ else _) Q E s
 rw [if_neg (by rw [beq_builtin_none];exact bA)]
 refine aA (wpAny_specialOf hT kN.lookup ?_)
 show wpAny _ _ (callSpecialIfBoundUnlessNone? .none "__hash__" _ >>= _) Q E s
 refine aA (wpAny_callSpecialIfBoundUnlessNone?_slot hT kN (cW kN hT PySem.F.entry_NoneType_hash (show wpAny _ _ (do ret (<- mkInt 0xFCA86420)) _ _ s from wpAny_ret_mkInt ?_) (PySem.F.args_NoneType_hash_1 _)))
 show wpAny _ _ (if (decide (-(2:Int) ^ 63<=0xFCA86420) && decide ((0xFCA86420:Int)<2 ^ 63))=true then _ else _) Q E _
 rw [if_pos (by decide)]
 exact aF h
def yL (prog:bF) (w:World) (A:Around) (s:Shared) (d:PyData) (v:Value):Prop:=∀ (tk:Nat) (E:Value->Shared->Prop) (Q:Int->Shared->Prop),Q (lU w d) { s with toks:=tk+pR d }->wpAny (model prog w) A (pyHash v) Q E { s with toks:=tk }
theorem TV {xs:List PyData} {a:Addr} {o:Obj} {items:Array Value} {n:Nat} (hu:A.units<cLine) (ho:s.heap.get? a=some o) (hc:o.cls=.type "tuple") (hd:o.data=.seq items n) (hi:Paired (yL prog w A.in1 s) xs items.toList):yL prog w A s (.tuple xs) (.ref a):=by
 intro tk E Q h
 have hT:Shared.TypeIs { s with toks:=tk } (.ref a) "tuple":=⟨o,ho,hc⟩
 unfold pyHash
 first | unfold pyHashByItsType | skip
 refine aA (wpAny_cRoomFor_or (.inr hu) ?_)
 refine aA (wpAny_specialOf hT lW.lookup ?_)
 show wpAny _ _ (if (some (Value.builtin "tuple.__hash__") == some Value.none)=true then _ else _) Q E _
 rw [if_neg (by rw [beq_builtin_none];exact bA)]
 refine aA (wpAny_specialOf hT lW.lookup ?_)
 show wpAny _ _ (callSpecialIfBoundUnlessNone? (.ref a) "__hash__" _ >>= _) Q E _
 refine aA (wpAny_callSpecialIfBoundUnlessNone?_slot hT lW (cW lW hT PySem.F.entry_tuple_hash ?_ (PySem.F.args_tuple_hash_1 _)))
 show wpAny _ _ (Builtin.Tuple.tupleItemsOf (.ref a) >>= _) _ _ _
 refine aA (wpAny_tupleItemsOf ho hd ?_)
 refine aA ?_
 rw [<- P0]
 refine wpAny_forIn_list _ (λrest (b:Array Int) s'=>∃ done left:List PyData,xs=done++left/\Paired (yL prog w A.in1 s) left rest/\b.toList=hashDs w done/\s'={ s with toks:=tk+hdrawsAll done }) _ ?_ ?_ _ _ ⟨[],xs,rfl,hi,rfl,rfl⟩
 ·rintro x rest b s' ⟨done,left,rfl,hl,hb,rfl⟩
  cases hl with
  | @cons d _ left' _ h1 hl' =>
   have e1:∀ ys:List PyData,hashDs w (ys++[d])=hashDs w ys++[lU w d]:=λys=>by
    induction ys with
    | nil=>rfl
    | cons y ys ih=>show lU w y::hashDs w (ys++[d])=_;rw [ih];rfl
   have e2:∀ ys:List PyData,hdrawsAll (ys++[d])=hdrawsAll ys+pR d:=λys=>by
    induction ys with
    | nil=>show pR d+0=0+pR d;omega
    | cons y ys ih=>show pR y+hdrawsAll (ys++[d])=pR y+hdrawsAll ys+pR d;rw [ih];omega
   have fin:∃ done' left'':List PyData,done++d::left'=done'++left''/\Paired (yL prog w A.in1 s) left'' rest/\(b.push (lU w d)).toList=hashDs w done'/\({ s with toks:=tk+hdrawsAll done+pR d }:Shared)={ s with toks:=tk+hdrawsAll done' } :=
    ⟨done++[d],left',by simp,hl',by rw [e1,yO,hb],by rw [e2,IH]⟩
   refine aA (h1 _ _ _ ?_)
   first
    | exact aF fin
    | exact aA (aF (aF fin))
 ·rintro b s' ⟨done,left,rfl,hl,hb,rfl⟩
  cases hl
  rw [fA] at h
  show wpAny _ _ (retInt (Builtin.Tuple.tupleHashOf b.toList)) _ _ _
  rw [hb]
  refine wpAny_ret_mkInt ?_
  have h':Q (reduceHash (Builtin.Tuple.tupleHashOf (hashDs w done))) { s with toks:=tk+(hdrawsAll done+1) }:=h
  show wpAny _ _ (if (decide (-(2:Int) ^ 63<=Builtin.Tuple.tupleHashOf (hashDs w done)) && decide (Builtin.Tuple.tupleHashOf (hashDs w done)<2 ^ 63))=true then _ else _) Q E _
  unfold reduceHash at h'
  by_cases hr:(decide (-(2:Int) ^ 63<=Builtin.Tuple.tupleHashOf (hashDs w done)) && decide (Builtin.Tuple.tupleHashOf (hashDs w done)<2 ^ 63))=true
  ·rw [if_pos hr]
   rw [if_pos hr] at h'
   exact aF (by simpa [IH] using h')
  ·rw [if_neg hr]
   rw [if_neg hr] at h'
   exact aA (wpAny_rule (aF (by simpa [IH] using h')))
mutual
theorem BM (prog:bF) (w:World) (s:Shared):∀ (d:PyData) (A:Around) (v:Value) (as:List Addr),Reads s.heap v d as->hk d=true->A.units+d.depth<cLine->yL prog w A s d v
 | .none,A,_,_,r,_,_=>by cases r;exact λtk E Q h=>JH h
 | .int i,A,_,_,r,_,_=>by cases r;exact λtk E Q h=>wpAny_pyHash_int h
 | .str x,A,_,_,r,_,_=>by cases r;exact λtk E Q h=>wpAny_pyHash_str h
 | .tuple xs,A,_,_,r,h,hu=>by
  cases r with
  | tuple h1 h2 h3 h4 =>
   have hu':A.units+(cD xs+1)<cLine:=hu
   exact TV (by omega) h1 h2 h3 (hash_readsAll prog w s xs A.in1 _ _ h4 h (by show A.units+1+_<_;omega))
 | .bool _,_,_,_,_,h,_=>by cases h
 | .list _,_,_,_,_,h,_=>by cases h
 | .dict _,_,_,_,_,h,_=>by cases h
theorem hash_readsAll (prog:bF) (w:World) (s:Shared):∀ (xs:List PyData) (A:Around) (vs:List Value) (as:List Addr),ReadsAll s.heap vs xs as->hkAll xs=true->A.units+cD xs<cLine->Paired (yL prog w A s) xs vs
 | [],A,_,_,r,_,_=>by cases r;exact .nil
 | x::xs,A,_,_,r,h,hu=>by
  cases r with
  | cons r1 r2 =>
   have h':(hk x && hkAll xs)=true:=h
   rw [cJ] at h'
   have hu':A.units+max x.depth (cD xs)<cLine:=hu
   exact .cons (BM prog w s x A _ _ r1 h'.1 (by omega)) (hash_readsAll prog w s xs A _ _ r2 h'.2 (by omega))
end
mutual
theorem vL:∀ {d:PyData},hk d=true->d.canLay0=true
 | .none,_=>rfl
 | .int _,_=>rfl
 | .str _,h=>h
 | .tuple _,h=>hk_layAll h
 | .bool _,h=>by cases h
 | .list _,h=>by cases h
 | .dict _,h=>by cases h
theorem hk_layAll:∀ {xs:List PyData},hkAll xs=true->cR xs=true
 | [],_=>rfl
 | x::xs,h=>by
  have h':(hk x && hkAll xs)=true:=h
  rw [cJ] at h'
  show (x.canLay0 && cR xs)=true
  rw [vL h'.1,hk_layAll h'.2];rfl
end
mutual
theorem TQ:∀ {d e:PyData},hk d=true->hk e=true->cP d e=true->d=e
 | .none,.none,_,_,_=>rfl
 | .none,.int _,_,_,h=>by cases h
 | .none,.str _,_,_,h=>by cases h
 | .none,.tuple _,_,_,h=>by cases h
 | .int _,.none,_,_,h=>by cases h
 | .int i,.int j,_,_,h=>by
  have h':decide (i=j)=true:=by simpa [cP] using h
  rw [of_decide_eq_true h']
 | .int _,.str _,_,_,h=>by cases h
 | .int _,.tuple _,_,_,h=>by cases h
 | .str _,.none,_,_,h=>by cases h
 | .str _,.int _,_,_,h=>by cases h
 | .str x,.str y,_,_,h=>by
  have h':decide (x=y)=true:=by simpa [cP] using h
  rw [of_decide_eq_true h']
 | .str _,.tuple _,_,_,h=>by cases h
 | .tuple _,.none,_,_,h=>by cases h
 | .tuple _,.int _,_,_,h=>by cases h
 | .tuple _,.str _,_,_,h=>by cases h
 | .tuple xs,.tuple ys,h1,h2,h=>by
  have h':vV xs ys=true:=by simpa [cP] using h
  rw [hk_eqvAll h1 h2 h']
 | .bool _,_,h,_,_=>by cases h
 | .list _,_,h,_,_=>by cases h
 | .dict _,_,h,_,_=>by cases h
 | _,.bool _,_,h,_=>by cases h
 | _,.list _,_,h,_=>by cases h
 | _,.dict _,_,h,_=>by cases h
theorem hk_eqvAll:∀ {xs ys:List PyData},hkAll xs=true->hkAll ys=true->vV xs ys=true->xs=ys
 | [],[],_,_,_=>rfl
 | [],_::_,_,_,h=>by cases h
 | _::_,[],_,_,h=>by cases h
 | x::xs,y::ys,h1,h2,h=>by
  have a1:(hk x && hkAll xs)=true:=h1
  have a2:(hk y && hkAll ys)=true:=h2
  rw [cJ] at a1 a2
  have h':(cP x y && vV xs ys)=true:=by simpa [vV] using h
  rw [cJ] at h'
  rw [TQ a1.1 a2.1 h'.1,hk_eqvAll a1.2 a2.2 h'.2]
end
theorem OV {d e:PyData} (h1:hk d=true) (h2:hk e=true):cP d e=decide (d=e):=by
 by_cases h:d=e
 ·subst h
  rw [SeqAt.eqv_refl d (vL h1),decide_eq_true rfl]
 ·rw [decide_eq_false h]
  cases q:cP d e with
  | false=>rfl
  | true=>exact absurd (TQ h1 h2 q) h
mutual
theorem yS (prog:bF) (w:World) (s:Shared):∀ (d:PyData) (A:Around) (E:Value->Shared->Prop) (v:Value) (as:List Addr) (n:Nat) (Q:Bool->Shared->Prop),Reads s.heap v d as->hk d=true->d.depth<=n->Q true s->wpAny (model prog w) A (eqIsQuiet n v) Q E s
 | .none,A,E,_,_,n,Q,r,_,_,q=>by cases r;rw [eqIsQuiet_byValue n rfl];exact aF q
 | .int i,A,E,_,_,n,Q,r,_,_,q=>by cases r;rw [eqIsQuiet_byValue n rfl];exact aF q
 | .str x,A,E,_,_,n,Q,r,_,_,q=>by cases r;rw [eqIsQuiet_byValue n rfl];exact aF q
 | .tuple xs,A,E,_,_,0,Q,r,_,hn,q=>by
  have:cD xs+1<=0:=hn
  omega
 | .tuple xs,A,E,_,_,n+1,Q,r,h,hn,q=>by
  cases r with
  | @tuple a o vs m _ _ h1 h2 h3 h4 =>
   have hT:s.TypeIs (.ref a) "tuple":=⟨o,h1,h2⟩
   have hn':cD xs+1<=n+1:=hn
   unfold eqIsQuiet
   refine aA (wpAny_specialOf hT PySem.F.slot_tuple_eq.lookup ?_)
   show wpAny _ _ (isInstance (.ref a) (.type "tuple") >>= _) _ _ s
   refine aA (wpAny_isInstance hT isSubtype_tuple_tuple ?_)
   simp only [aEa,fW,if_false]
   refine aA (wpAny_seqItems h1 h3 ?_)
   refine aA ?_
   show wpAny _ _ (forIn vs _ _) _ _ s
   rw [<- P0]
   refine wpAny_forIn_list _ (λrest r s'=>r.1=none/\s'=s/\∀ v∈rest,∀ (Q:Bool->Shared->Prop),Q true s->wpAny (model prog w) A (eqIsQuiet n v) Q E s) _ ?_ ?_ _ _ ⟨rfl,rfl,λv hv Q hQ=>quiet_readsAll prog w s xs A E _ _ n Q h4 h (by omega) v hv hQ⟩
   ·rintro v rest r s' ⟨hr,rfl,hall⟩
    refine aA (hall v aU _ ?_)
    simp only [aEa,fW,if_false]
    exact aF ⟨rfl,rfl,λu hu'=>hall u (aN _ hu')⟩
   ·rintro ⟨r1,r2⟩ s' ⟨hr,rfl,_⟩
    simp only at hr
    subst hr
    exact aF q
 | .bool _,_,_,_,_,_,_,_,h,_,_=>by cases h
 | .list _,_,_,_,_,_,_,_,h,_,_=>by cases h
 | .dict _,_,_,_,_,_,_,_,h,_,_=>by cases h
theorem quiet_readsAll (prog:bF) (w:World) (s:Shared):∀ (xs:List PyData) (A:Around) (E:Value->Shared->Prop) (vs:List Value) (as:List Addr) (n:Nat) (Q:Bool->Shared->Prop),ReadsAll s.heap vs xs as->hkAll xs=true->cD xs<=n->∀ v∈vs,Q true s->wpAny (model prog w) A (eqIsQuiet n v) Q E s
 | [],A,E,_,_,n,Q,r,_,_,v,hv,_=>by cases r;cases hv
 | x::xs,A,E,_,_,n,Q,r,h,hn,v,hv,q=>by
  cases r with
  | cons r1 r2 =>
   have h':(hk x && hkAll xs)=true:=h
   rw [cJ] at h'
   have hn':max x.depth (cD xs)<=n:=hn
   rcases aZ.mp hv with rfl | hv
   ·exact yS prog w s x A E _ _ n Q r1 h'.1 (by omega) q
   ·exact quiet_readsAll prog w s xs A E _ _ n Q r2 h'.2 (by omega) v hv q
end
mutual
theorem BA {h h':Heap} (hk':∀ (b:Addr) (o:Obj) (vs:Array Value) (n:Nat),h.get? b=some o->o.data=.seq vs n->h'.get? b=some o):∀ {d:PyData} {v:Value} {as:List Addr},Reads h v d as->hk d=true->Reads h' v d as
 | .none,_,_,r,_=>by cases r;exact .none
 | .int i,_,_,r,_=>by cases r;exact .int i _
 | .str x,_,_,r,_=>by cases r;exact .str x _
 | .tuple xs,_,_,r,hh=>by
  cases r with
  | tuple h1 h2 h3 h4=>exact .tuple (hk' _ _ _ _ h1 h3) h2 h3 (reads_stayAll hk' h4 hh)
 | .bool _,_,_,_,hh=>by cases hh
 | .list _,_,_,_,hh=>by cases hh
 | .dict _,_,_,_,hh=>by cases hh
theorem reads_stayAll {h h':Heap} (hk':∀ (b:Addr) (o:Obj) (vs:Array Value) (n:Nat),h.get? b=some o->o.data=.seq vs n->h'.get? b=some o):∀ {xs:List PyData} {vs:List Value} {as:List Addr},ReadsAll h vs xs as->hkAll xs=true->ReadsAll h' vs xs as
 | [],_,_,r,_=>by cases r;exact .nil
 | x::xs,_,_,r,hh=>by
  cases r with
  | cons r1 r2 =>
   have hh':(hk x && hkAll xs)=true:=hh
   rw [cJ] at hh'
   exact .cons (BA hk' r1 hh'.1) (reads_stayAll hk' r2 hh'.2)
end
end
def tX (prog:bF) (w:World):HeapKind prog w PyData where
 is:=λh k a=>hk k=true/\k.depth<=8/\∃ as,Reads h (.ref a) k as
 hash:=lU w
 draws:=pR
 room:=λA=>A.units+8<cLine
 inj:=λ⟨h1,_,as,r1⟩ ⟨_,_,bs,r2⟩=>SeqAt.Reads.unique _ _ _ _ _ (vL h1) r1 r2
 keeps:=λ⟨h1,h2,as,r⟩ ho hd hs=>⟨h1,h2,as,BA (λb o vs n e ed=>(hs.2 b (λz=>by
  subst z
  rw [ho] at e
  cases e
  rw [hd] at ed
  cases ed)).trans e) r h1⟩
 pyHash:=λ{A E s k a Q} hu ⟨h1,h2,as,r⟩ h=>BM prog w s k A _ _ r h1 (by omega) s.toks E Q h
 eqBool:=λ{A E s x y a b Q} hu ⟨h1,h2,as,r⟩ ⟨g1,g2,bs,r'⟩ h=>SeqAt.eqAt_reads x y A s _ _ _ _ r r' (vL h1) (vL g1) (by omega) prog w E Q (by rw [OV h1 g1];exact h)
 quiet:=λ{A E s k a Q} ⟨h1,h2,as,r⟩ h=>yS prog w s k A E _ _ 8 Q r h1 h2 h
end L2

namespace L2
open PySem PySem.Spec PyProof.Rows TL
def jL (k:D):Prop:=hk k=true/\k.depth<=8
structure DK (K:aD) (w:World) (H:Hp) (es:List (Int×Addr×V)) (ks:List D):Prop where
 rep:Reps K H ks (es.map λe=>.ref e.2.1)
 nd:ks.Nodup
 ok:∀ k∈ks,jL k
 hs:es.map (·.1)=ks.map (lU w)
theorem DK.same {K:aD} {w:World} {H H':Hp} {es:List (Int×Addr×V)} {ks:List D} (x:DK K w H es ks) (e:bB H H'):DK K w H' es ks:=⟨x.rep.same e,x.nd,x.ok,x.hs⟩
section
variable {X:Cx} {pins:List (Addr×Obj)} {σ:St} {H:Hp} {s:Shared} {p a:Addr} {es:List (Int×Addr×V)} {ks:List D} {k:D} {A:Around} {E:Value->Shared->Prop}
theorem yC (I:dP X pins σ H s) (r:gE X.K H k (.ref a)) (ok:jL k):(tX X.prog X.w).is s.heap k a:=by
 obtain ⟨as,h⟩:=gE.reads I (mH (vL ok.1)) r (u:=.ref a) rfl
 exact ⟨ok.1,ok.2,as,h⟩
theorem MJ (I:dP X pins σ H s):∀ {ks:List D} {as:List Addr},Reps X.K H ks (as.map V.ref)->(∀ k∈ks,jL k)->Paired (λk a=>(tX X.prog X.w).is s.heap k a) ks as
 | [],[],_,_=>.nil
 | [],_::_,r,_=>by cases r
 | _::_,[],r,_=>by cases r
 | k::ks,a::as,r,h=>by
  cases r with
  | cons r1 r2=>exact .cons (yC I r1 (h k (aU ..))) (MJ I r2 λz hz=>h z (aN _ hz))
abbrev EX (es:List (Int×Addr×V)) (ks:List D) (xs:List (D×Addr×Value)):Prop:=xs.map (·.1)=ks/\Paired (λ(e:Int×Addr×V) (x:D×Addr×Value)=>x.2.1=e.2.1/\gC e.2.2 x.2.2) es xs
theorem aAx (w:World) (prog:bF):∀ {es:List (Int×Addr×V)} {ks:List D} {ds:List DictEntry},Paired KY es ds->es.map (·.1)=ks.map (lU w)->∃ xs,EX es ks xs/\ds=xs.map (entryOfKey (tX prog w))
 | [],[],_,.nil,_=>⟨[],⟨rfl,.nil⟩,rfl⟩
 | [],_::_,_,_,h=>by simp at h
 | _::_,[],_,_,h=>by simp at h
 | e::es,k::ks,_,.cons (b:=d) r t,h=>by
  rw [aX,aX] at h
  injection h with h1 h2
  obtain ⟨xs,⟨x1,x2⟩,x3⟩:=aAx w prog t h2
  refine ⟨(k,e.2.1,d.val)::xs,⟨by rw [aX,x1],.cons ⟨rfl,r.2.2⟩ x2⟩,?_⟩
  rw [aX,x3]
  congr 1
  obtain ⟨r1,r2,r3⟩:=r
  show d=⟨lU w k,.ref e.2.1,d.val⟩
  rw [<- h1,<- r1,<- r2]
theorem MV:∀ {es:List (Int×Addr×V)} {xs:List (D×Addr×Value)},Paired (λ(e:Int×Addr×V) (x:D×Addr×Value)=>x.2.1=e.2.1/\gC e.2.2 x.2.2) es xs->xs.map (λx=>x.2.1)=es.map λe=>e.2.1
 | _,_,.nil=>rfl
 | _,_,.cons r t=>by rw [aX,aX,r.1,MV t]
def FY (H:Hp) (p:Addr) (es:List (Int×Addr×V)):Prop:=H p=some (mQ p es)\/∃ ep,H p=some (rD p es ep)
theorem FY.at (I:dP X pins σ H s) (h:FY H p es):ND p es s.heap:=by
 rcases h with h | ⟨ep,h⟩
 ·exact (I.hok p _ h).1
 ·obtain ⟨⟨h1,h2,o,xs,h3,h4,h5,h6⟩,_⟩:=I.hok p _ h
  exact ⟨h1,h2,o,xs,ep,h3,h4,h5,h6⟩
theorem BV (I:dP X pins σ H s) (h:FY H p es) (dk:DK X.K X.w H es ks):(p == sysModules)=false/\es.length<=bD/\∃ xs,EX es ks xs/\s.heap.DictOfH (tX X.prog X.w) p xs:=by
 obtain ⟨h1,h2,o,ds,ep,h3,h4,h5,h6⟩:=FY.at I h
 obtain ⟨xs,x1,x2⟩:=aAx X.w X.prog h6 dk.hs
 refine ⟨h1,h2,xs,x1,o,ds,ep,h3,h4,h5,x2,?_,by rw [x1.1];exact dk.nd⟩
 have ka:=MJ I (as:=es.map λe=>e.2.1) (by rw [bG];exact dk.rep) dk.ok
 have hm:=MV x1.2
 rw [<- hm,<- x1.1] at ka
 clear hm x2 x1
 intro x hx
 induction xs with
 | nil=>cases hx
 | cons y ys ih =>
  rw [aX,aX] at ka
  cases ka with
  | cons r t =>
   rcases aZ.mp hx with rfl | hx
   ·exact r
   ·exact ih t hx
theorem aDd {xs:List (D×Addr×Value)} {i:Nat} {e:Int×Addr×V} (ex:EX es ks xs) (nd:ks.Nodup) (hk':ks[i]?=some k) (he:es[i]?=some e):∃ u,atKey xs k=some u/\gC e.2.2 u.2:=by
 obtain ⟨h1,h2⟩:=ex
 have hl:es.length=xs.length:=Paired.length h2
 have hi:i<xs.length:=by rw [<- hl];exact (aG.mp he).1
 have hx:xs[i]?=some xs[i]:=aH hi
 have e1:xs[i].1=k:=by
  have:(xs.map (·.1))[i]?=some k:=by rw [h1];exact hk'
  rw [aI,hx] at this
  exact Option.some.inj this
 refine ⟨xs[i].2,atKey_of_get (by rw [h1];exact nd) (i:=i) (by rw [hx,<- e1]),?_⟩
 clear hk' nd h1 e1
 induction h2 generalizing i with
 | nil=>simp at hi
 | cons r t ih =>
  cases i with
  | zero=>simp at he;subst he;exact r.2
  | succ j=>exact ih (i:=j) (by simpa using he) (by simpa using hl) (by simpa using hi) (aH _)
def aFc (K:aD) (w:World):R2:=λx y H Q=>∃ (p:Addr) (es:List (Int×Addr×V)) (ks:List D) (k:D) (i:Nat) (e:Int×Addr×V),x=.ref p/\FY H p es/\DK K w H es ks/\gE K H k y/\jL k/\ks[i]?=some k/\es[i]?=some e/\Q e.2.2 H
theorem EK (I:dP X pins σ H s) (h:FY H p es):s.TypeIs (.ref p) "dict":=by
 obtain ⟨_,_,o,ds,ep,h3,h4,_⟩:=FY.at I h
 exact ⟨o,h3,h4.1⟩
theorem nB {K:aD} {xs:List D} {v:V} (r:gE K H (.tuple xs) v):∃ a,v=.ref a:=by cases r;exact ⟨_,rfl⟩
end
section
variable {X:Cx} {o i value:Expr} {pos pos':Pos} {td ty tv:TE}
theorem R7 (hu:X.A.units+9<cLine) (ho:PE X o td) (hi:PE X i ty) (hs:PN i):PE X (.Subscript o i pos) (λσ H Q=>td σ H λx H1=>ty σ H1 λy H2=>(∃ a,y=.ref a)/\aFc X.K X.w x y H2 Q):=by
 intro pins s σ H Q I h
 refine LG CF.lookup hs (iX (ho pins s σ H _ I h) λu s1 ⟨x,H1,I1,rx,q1⟩=>iX (hi pins s1 σ H1 _ I1 q1) λiv s2 ⟨y,H2,I2,ry,⟨b,ey⟩,p,es,ks,k,j,e,ex,hp,dk,rk,ok,e1,e2,q2⟩=>?_)
 subst ex ey
 obtain rfl:u=Value.ref p:=rx
 obtain rfl:iv=Value.ref b:=ry
 obtain ⟨h1,h2,xs,x1,x2⟩:=BV I2 hp dk
 obtain ⟨v,v1,v2⟩:=aDd x1 dk.nd e1 e2
 exact ⟨EK I2 hp,wpAny_getItem_heap (show X.A.units+1+8<cLine by omega) (yC I2 rk ok) x2 v1 ⟨_,H2,I2.tok _,v2,q2⟩⟩
def EU:List (Int×Addr×V)->List D->D->V->List (Int×Addr×V)
 | e::es,k'::ks,k,v=>(if k'=k then (e.1,e.2.1,v) else e)::EU es ks k v
 | _,_,_,_=>[]
def rR (w:World) (es:List (Int×Addr×V)) (ks:List D) (k:D) (a:Addr) (v:V):List (Int×Addr×V):=if k∈ks then EU es ks k v else es++[(lU w k,a,v)]
def yT (ks:List D) (k:D):List D:=if k∈ks then ks else ks++[k]
end
section
variable {w:World} {prog:bF} {es:List (Int×Addr×V)} {ks:List D} {xs:List (D×Addr×Value)} {k:D} {a:Addr} {v:V} {u:Value}
theorem T9:∀ {es:List (Int×Addr×V)} {ks:List D} {xs:List (D×Addr×Value)},EX es ks xs->es.map (·.1)=ks.map (lU w)->Paired KY es (xs.map (entryOfKey (tX prog w)))
 | [],_,_,⟨_,.nil⟩,_=>.nil
 | e::es,[],x::xs,⟨h,_⟩,_=>by simp at h
 | e::es,k::ks,x::xs,⟨h,.cons r t⟩,g=>by
  rw [aX] at h
  injection h with h1 h2
  rw [aX,aX] at g
  injection g with g1 g2
  refine .cons ⟨?_,?_,r.2⟩ (T9 ⟨h2,t⟩ g2)
  ·show lU w x.1=e.1
   rw [h1,g1]
  ·show Value.ref x.2.1=Value.ref e.2.1
   rw [r.1]
theorem RH:∀ {es:List (Int×Addr×V)} {ks:List D} {xs:List (D×Addr×Value)} (k:D),EX es ks xs->gC v u->EX (EU es ks k v) ks (xs.map (putAt k u))
 | [],ks,[],k,⟨h,.nil⟩,_=>⟨by rw [<- h];rfl,by cases ks<;>exact .nil⟩
 | e::es,[],x::xs,k,⟨h,_⟩,_=>by simp at h
 | e::es,k'::ks,x::xs,k,⟨h,.cons r t⟩,rv=>by
  rw [aX] at h
  injection h with h1 h2
  obtain ⟨i1,i2⟩:=RH (es:=es) (ks:=ks) (xs:=xs) k ⟨h2,t⟩ rv
  unfold EU putAt
  rw [aX]
  refine ⟨?_,.cons ?_ ?_⟩
  ·rw [aX]
   congr 1
   split<;>exact h1
  ·by_cases e1:k'=k
   ·rw [if_pos e1,if_pos (h1.trans e1)];exact ⟨r.1,rv⟩
   ·rw [if_neg e1,if_neg (λz=>e1 (h1.symm.trans z))];exact r
  ·exact i2
theorem T4 (ex:EX es ks xs) (rv:gC v u):EX (rR w es ks k a v) (yT ks k) (storedH xs k a u):=by
 have hk':(atKey xs k).isSome=true↔k∈ks:=by
  rw [<- ex.1]
  unfold atKey
  rw [pY,zO,aQ]
  exact ⟨λ⟨x,h1,h2⟩=>⟨x,h1,of_decide_eq_true h2⟩,λ⟨x,h1,h2⟩=>⟨x,h1,decide_eq_true h2⟩⟩
 unfold rR yT storedH
 by_cases hm:k∈ks
 ·rw [if_pos hm,if_pos hm,if_pos (hk'.mpr hm)]
  exact RH k ex rv
 ·rw [if_neg hm,if_neg hm,if_neg (λz=>hm (hk'.mp z))]
  refine ⟨by rw [bT,ex.1];rfl,Paired.snoc ex.2 ⟨rfl,rv⟩⟩
theorem A9:∀ {es:List (Int×Addr×V)} {ks:List D} (k:D),es.length=ks.length->(EU es ks k v).map (·.1)=es.map (·.1)/\(EU es ks k v).map (λe=>e.2.1)=es.map (λe=>e.2.1)
 | [],[],k,_=>⟨rfl,rfl⟩
 | [],_::_,k,h=>by simp at h
 | _::_,[],k,h=>by simp at h
 | e::es,k'::ks,k,h=>by
  obtain ⟨i1,i2⟩:=A9 (es:=es) (ks:=ks) k (by simpa using h)
  unfold EU
  refine ⟨?_,?_⟩
  ·rw [aX,aX,i1];congr 1;split<;>rfl
  ·rw [aX,aX,i2];congr 1;split<;>rfl
theorem DK.len {K:aD} {H:Hp} (x:DK K w H es ks):es.length=ks.length:=by
 have:=congrArg iG x.hs
 simpa using this
theorem DK.put {K:aD} {H:Hp} (x:DK K w H es ks) (r:gE K H k (.ref a)) (ok:jL k):DK K w H (rR w es ks k a v) (yT ks k):=by
 unfold rR yT
 by_cases hm:k∈ks
 ·rw [if_pos hm,if_pos hm]
  obtain ⟨h1,h2⟩:=A9 (v:=v) k x.len
  refine ⟨?_,x.nd,x.ok,h1.trans x.hs⟩
  have e:(EU es ks k v).map (λe=>V.ref e.2.1)=es.map λe=>V.ref e.2.1:=by
   have:=congrArg (zM V.ref) h2
   rwa [bG,bG] at this
  rw [e]
  exact x.rep
 ·rw [if_neg hm,if_neg hm]
  refine ⟨by rw [bT];exact x.rep.append (.cons r .nil),?_,λz hz=>?_,by rw [bT,bT,x.hs];rfl⟩
  ·rw [qO]
   exact ⟨x.nd,by simp,λc hc b hb=>by rw [cZ.mp hb];exact λz=>hm (z▸hc)⟩
  ·rcases eP.mp hz with hz | hz
   ·exact x.ok z hz
   ·rw [cZ.mp hz];exact ok
theorem GX (h:es.length=ks.length):(rR w es ks k a v).length<=es.length+1:=by
 unfold rR
 split
 ·have:=congrArg iG (A9 (v:=v) k h).1
  simp at this
  omega
 ·simp
end
section
variable {X:Cx} {pins:List (Addr×Obj)} {σ:St} {H:Hp} {s:Shared} {p:Addr} {es:List (Int×Addr×V)} {ks:List D}
theorem BU:∀ h1 h2:Heap,ND p es h1->(∀ o,h1.get? p=some o->h2.get? p=some o)->ND p es h2:=λh1 h2 ⟨a,b,o,xs,ep,e,r⟩ k=>⟨a,b,o,xs,ep,k _ e,r⟩
theorem UH {P:bF} {w:World} {H':Hp} {h':Heap} {xs:List (D×Addr×Value)} (hd:(p == sysModules)=false) (hl:es.length<=bD) (ex:EX es ks xs) (hh:es.map (·.1)=ks.map (lU w)) (dd:h'.DictOfH (tX P w) p xs):iJ P w H' h' p (mQ p es):=by
 obtain ⟨o,ds,ep,h1,h2,h3,h4,_⟩:=dd
 exact ⟨⟨hd,hl,o,ds,ep,h1,h2,h3,by rw [h4];exact T9 ex hh⟩,⟨o,h1⟩,BU⟩
end
section
variable {X:Cx} {o i value:Expr} {pos pos':Pos} {td ty tv:TE}
def aB9 (K:aD) (w:World) (td ty tv:TE):TS:=λD' σ H=>tv σ H λv H1=>td σ H1 λx H2=>ty σ H2 λy H3=>∃ (p a:Addr) (es:List (Int×Addr×V)) (ks:List D) (k:D),x=.ref p/\y=.ref a/\H3 p=some (mQ p es)/\DK K w H3 es ks/\gE K H3 k (.ref a)/\jL k/\es.length<bD/\D'.nx σ (fZ H3 p (mQ p (rR w es ks k a v)))
theorem RW (hu:X.A.units+9<cLine) (ho:PE X o td) (hi:PE X i ty) (hv:PE X value tv) (hs:gT value (some (.Subscript o i pos')) pos.line X.env=pure false) :
  PS X (.Assign [.Subscript o i pos'] value pos) (aB9 X.K X.w td ty tv):=by
 intro pins s σ H D' I h
 refine wpAny_Assign_Subscript (iX (hv pins s σ H _ I h) λr s1 ⟨v,H1,I1,rv,q1⟩=>iX (ho pins s1 σ H1 _ I1 q1) λu s2 ⟨x,H2,I2,rx,q2⟩=>iX (hi pins s2 σ H2 _ I2 q2) λiv s3 ⟨y,H3,I3,ry,p,a,es,ks,k,ex,ey,hp,dk,rk,ok,hl,q3⟩=>?_) hs
 subst ex ey
 obtain rfl:u=Value.ref p:=rx
 obtain rfl:iv=Value.ref a:=ry
 obtain ⟨h1,h2,xs,x1,x2⟩:=BV I3 (.inl hp) dk
 refine wpAny_setItem_heap (hsz:=by rw [<- Paired.length x1.2];exact h2) (show X.A.units+1+8<cLine by omega) (yC I3 rk ok) x2 λh' dd' hs'=>⟨σ,_,?_,q3⟩
 have hq:∃ q,h'.get? p=some q:=let ⟨q,_,_,e,_⟩:=dd';⟨q,e⟩
 have:=GX (w:=X.w) (k:=k) (a:=a) (v:=v) dk.len
 exact I3.write (x:=p) (e:=p) (by rw [hp];exact True.intro) (.inl rfl) (λb q hb z=>(hs'.2 b hb).trans z) hq (UH (ks:=yT ks k) h1 (by omega) (T4 x1 rv) (dk.put rk ok).hs dd')
def aBr:TE:=λ_ H Q=>∀ p,H p=none->Q (.ref p) (fZ H p (mQ p []))
theorem R6:PE X (.Dict [] [] pos) aBr:=λpins s σ H Q I h =>
 wpAny_Dict_empty ⟨.ref s.heap.objs.size,_,I.laid (a:=s.heap.objs.size) (o:=mQ s.heap.objs.size []) (t':=s.toks) (λ_ _ q=>aJ _ q) (aL _)
  ⟨⟨beq_eq_false_iff_ne.mpr (Ne.symm (bS I.big)),cS _,_,#[],0,aR _ rfl,⟨rfl,rfl,rfl⟩,rfl,.nil⟩,⟨_,aR _ rfl⟩,BU⟩,rfl,h _ (I.hok.fresh (aL _))⟩
end
end L2

namespace TL
open PySem PySem.Spec PyProof.Rows L2
def lY (w:World) (kvs:List (D×D)):D:=X7 (kvs.map λkv=>lU w kv.1) kvs
def rC (w:World) (kvs:List (D×D)):Sl:=.dic (kvs.map λkv=>lU w kv.1) kvs
def vD (kvs:List (D×D)) (k v:D):List (D×D):=if k∈kvs.map (·.1) then kvs.map (λkv=>if kv.1=k then (kv.1,v) else kv) else kvs++[(k,v)]
def FX (k:D):Prop:=jL k/\∃ xs,k=.tuple xs
section
variable {K:aD} {H H' B:Hp} {p0 ps:List Addr} {σT σT':List Sl} {σ:L2.St} {p:Addr}
theorem Ok.re (o:Ok K B p0 H ps σT σ) (hl:σT'.length=σT.length) (hv:∀ (j:Nat) (d:D),σT'[j]?=some (.val d)->σT[j]?=some (.val d)) (ho:∀ (j:Nat) (ts:List D),σT'[j]?=some (.own ts)->σT[j]?=some (.own ts)) (hd:pG K B p0 H ps σT' σ):Ok K B p0 H ps σT' σ where
 base:=o.base
 sub:=o.sub
 live:=o.live
 len:=hl.trans o.len
 val:=λj d h=>o.val j d (hv j d h)
 own:=λj ts h=>o.own j ts (ho j ts h)
 dis:=λi j ts us q h1 h2 h3 h4=>o.dis i j ts us q (ho i ts h1) (ho j us h2) h3 h4
 dc:=hd
theorem Ok.poke (o:Ok K B p0 H ps σT σ) {φ:Heap->Prop} {u:HO} (hp:p∈ps) (hB:B p=none) (he:H p=some (.ext φ)) (hn:∀ (j:Nat) (hs:List Int) (kvs:List (D×D)),σT[j]?≠some (.dic hs kvs)):Ok K B p0 (fZ H p u) ps σT σ where
 base:=λb w e=>by
  rw [cG λz=>by rw [z,hB] at e;cases e]
  exact o.base b w e
 sub:=o.sub
 live:=λq hq=>by
  by_cases e:q=p
  ·subst e;rw [cO];simp
  ·rw [cG e];exact o.live q hq
 len:=o.len
 val:=λi d h=>by rw [gY hp];exact o.val i d h
 own:=λi ts h=>by
  rw [gY hp]
  obtain ⟨q,xs,h1,h2,h3,h4,h5,h6⟩:=o.own i ts h
  exact ⟨q,xs,h1,h2,h3,h4,by rw [cG λz=>by rw [z,he] at h5;cases h5];exact h5,h6⟩
 dis:=o.dis
 dc:=λi hs kvs h=>absurd h (hn i hs kvs)
theorem LP {i j:Nat} {s:Sl} {d:D} (hs:∀ d,s≠.val d) (h:(σT.set i s)[j]?=some (.val d)):i≠j/\σT[j]?=some (.val d):=by
 by_cases e:i=j
 ·subst e
  have hi:i<σT.length:=by simpa using (aG.mp h).1
  rw [aY hi] at h
  exact absurd (Option.some.inj h) (hs d)
 ·rw [aW e] at h;exact ⟨e,h⟩
theorem wG {i j:Nat} {s:Sl} {ts:List D} (hs:∀ ts,s≠.own ts) (h:(σT.set i s)[j]?=some (.own ts)):i≠j/\σT[j]?=some (.own ts):=by
 by_cases e:i=j
 ·subst e
  have hi:i<σT.length:=by simpa using (aG.mp h).1
  rw [aY hi] at h
  exact absurd (Option.some.inj h) (hs ts)
 ·rw [aW e] at h;exact ⟨e,h⟩
structure KZ (K:aD) (B:Hp) (p0:List Addr) (H:Hp) (ps:List Addr) (p:Addr) (es:List (Int×Addr×V)) (hs:List Int) (kvs:List (D×D)):Prop where
 mem:p∈ps
 new:B p=none
 out:p∉p0
 obj:H p=some (mQ p es)
 hsh:hs=es.map (·.1)
 nd:(kvs.map (·.1)).Nodup
 ks:Reps K (mask H ps) (kvs.map (·.1)) (es.map λe=>.ref e.2.1)
 vs:Reps K (mask H ps) (kvs.map (·.2)) (es.map λe=>e.2.2)
theorem Ok.toDic (o:Ok K B p0 H ps σT σ) {i:Nat} {es:List (Int×Addr×V)} {hs:List Int} {kvs:List (D×D)} (hσ:σ[i]?=some (some (.ref p))) (hn:∀ (j:Nat) (hs:List Int) (kvs:List (D×D)),i≠j->σT[j]?≠some (.dic hs kvs)) (x:KZ K B p0 H ps p es hs kvs):Ok K B p0 H ps (σT.set i (.dic hs kvs)) σ:=by
 refine o.re (by simp) (λj d h=>(LP (by intro _ z;cases z) h).2) (λj ts h=>(wG (by intro _ z;cases z) h).2) λj hs' kws h=>?_
 have hi:i<σT.length:=by rw [o.len];exact (aG.mp hσ).1
 have only:∀ (l:Nat) (hs'':List Int) (kws'':List (D×D)),(σT.set i (.dic hs kvs))[l]?=some (.dic hs'' kws'')->i=l:=λl hs'' kws'' hl=>by
  by_cases e:i=l
  ·exact e
  ·rw [aW e] at hl;exact absurd hl (hn l hs'' kws'' e)
 obtain rfl:=only j hs' kws h
 rw [aY hi] at h
 injection h with h
 injection h with h1 h2
 subst h1 h2
 exact ⟨⟨p,es,hσ,x.mem,x.new,x.out,x.obj,x.hsh,x.nd,x.ks,x.vs⟩,λl hs'' kws'' hl=>only l hs'' kws'' hl⟩
theorem Ok.isDic (o:Ok K B p0 H ps σT σ) {i:Nat} {hs:List Int} {kvs:List (D×D)} (h:σT[i]?=some (.dic hs kvs)):(∃ (p:Addr) (es:List (Int×Addr×V)),σ[i]?=some (some (.ref p))/\KZ K B p0 H ps p es hs kvs)/\∀ (j:Nat) (hs':List Int) (kws:List (D×D)),i≠j->σT[j]?≠some (.dic hs' kws):=by
 obtain ⟨⟨p,es,a1,a2,a3,a4,a5,a6,a7,a8,a9⟩,u⟩:=o.dc i hs kvs h
 exact ⟨⟨p,es,a1,a2,a3,a4,a5,a6,a7,a8,a9⟩,λj hs' kws ne e=>ne (u j hs' kws e)⟩
theorem Ok.forget (o:Ok K B p0 H ps σT σ) {i:Nat} {hs:List Int} {kvs:List (D×D)} (h:σT[i]?=some (.dic hs kvs)):Ok K B p0 H ps (σT.set i .un) σ/\∀ (j:Nat) (hs:List Int) (kvs:List (D×D)),(σT.set i .un)[j]?≠some (.dic hs kvs):=by
 have no:∀ (j:Nat) (hs:List Int) (kvs:List (D×D)),(σT.set i .un)[j]?≠some (.dic hs kvs):=λj hs' kws e=>by
  obtain ⟨ne,e'⟩:=AM (by intro _ _ z;cases z) e
  exact (o.isDic h).2 j hs' kws ne e'
 exact ⟨o.re (by simp) (λj d h=>(LP (by intro _ z;cases z) h).2) (λj ts h=>(wG (by intro _ z;cases z) h).2) λj hs' kws e=>absurd e (no j hs' kws),no⟩
theorem Ok.newDic (o:Ok K B p0 H ps σT σ) {i:Nat} (hi:i<σT.length) (hn:∀ (j:Nat) (hs:List Int) (kvs:List (D×D)),σT[j]?≠some (.dic hs kvs)) (hp:H p=none):Ok K B p0 (fZ H p (mQ p [])) (p::ps) (σT.set i (.dic [] [])) (σ.set i (some (.ref p))):=by
 have o1:=(o.adopt (u:=mQ p []) hp).setUn (i:=i) (v:=.ref p)
 have hσ:(σ.set i (some (V.ref p)))[i]?=some (some (.ref p)):=aY (by rw [<- o.len];exact hi)
 have o2:=o1.toDic (i:=i) (es:=[]) (hs:=[]) (kvs:=[]) hσ (λj hs kvs ne e=>by
  rw [aW ne] at e;exact hn j hs kvs e) ⟨aU ..,bB.free' o.base hp,λz=>iC o.live hp (o.sub p z),cO,rfl,by simp,.nil,.nil⟩
 rwa [zL] at o2
theorem Ok.shareD (o:Ok K B p0 H ps σT σ) {i:Nat} {hs:List Int} {kvs:List (D×D)} (hi:σT[i]?=some (.dic hs kvs)):∃ (p:Addr) (es:List (Int×Addr×V)),σ[i]?=some (some (.ref p))/\KZ K B p0 H ps p es hs kvs/\∀ ep,Ok K B p0 (fZ H p (rD p es ep)) (ps.filter λq=>decide (q≠p)) (σT.set i (.val (X7 hs kvs))) σ/\bB (mask H ps) (mask (fZ H p (rD p es ep)) (ps.filter λq=>decide (q≠p))):=by
 obtain ⟨⟨p,es,hσ,x⟩,u⟩:=o.isDic hi
 refine ⟨p,es,hσ,x,λep=>?_⟩
 have hil:i<σT.length:=(aG.mp hi).1
 have hpn:p∉ps.filter λq=>decide (q≠p):=λz=>(of_decide_eq_true (bY.mp z).2) rfl
 have hsub:bB (mask H ps) (mask (fZ H p (rD p es ep)) (ps.filter λq=>decide (q≠p))):=λb v hb=>by
  unfold mask at hb |-
  by_cases hbp:b∈ps
  ·rw [if_pos hbp] at hb;cases hb
  ·rw [if_neg hbp] at hb
   have hne:b≠p:=λz=>hbp (z▸x.mem)
   rw [if_neg λz=>hbp (bY.mp z).1,cG hne];exact hb
 refine ⟨⟨λb v hb=>?_,λq hq=>bY.mpr ⟨o.sub q hq,decide_eq_true λz=>x.out (z▸hq)⟩,λq hq=>?_,by simpa using o.len,λj d h=>?_,λj us h=>?_,λj k us ws q k1 k2 k3 k4=>?_,λj hs' kws h=>?_⟩,hsub⟩
 ·have hne:b≠p:=λz=>by rw [z,x.new] at hb;cases hb
  rw [cG hne];exact o.base b v hb
 ·have hne:q≠p:=of_decide_eq_true (bY.mp hq).2
  rw [cG hne];exact o.live q (bY.mp hq).1
 ·by_cases e:i=j
  ·subst e
   rw [aY hil] at h
   cases h
   refine ⟨_,hσ,?_⟩
   have:=gE.dct (K:=K) (ep:=ep) (nT hpn (cO (H:=H) (o:=rD p es ep))) x.nd (x.ks.same hsub) (x.vs.same hsub)
   rw [<- x.hsh] at this
   exact this
  ·rw [aW e] at h
   obtain ⟨v,k1,k2⟩:=o.val j d h
   exact ⟨v,k1,k2.same hsub⟩
 ·obtain ⟨_,h⟩:=wG (by intro _ z;cases z) h
  obtain ⟨q,ys,k1,k2,k3,k4,k5,k6⟩:=o.own j us h
  have hne:q≠p:=λz=>by rw [z,x.obj] at k5;cases k5
  exact ⟨q,ys,k1,bY.mpr ⟨k2,decide_eq_true hne⟩,k3,k4,by rw [cG hne];exact k5,k6.same hsub⟩
 ·exact o.dis j k us ws q (wG (by intro _ z;cases z) k1).2 (wG (by intro _ z;cases z) k2).2 k3 k4
 ·obtain ⟨ne,h⟩:=AM (by intro _ _ z;cases z) h
  exact absurd h (u j hs' kws ne)
end
section
variable {X:Cx} {a b e n:Expr} {es:List Expr} {ta tb te tk:ET} {pos:Pos}
def RB (i:Nat):oW:=λDT σ=>i<σ.length/\(∀ (j:Nat) (hs:List Int) (kvs:List (D×D)),σ[j]?≠some (.dic hs kvs))/\DT.nx (σ.set i (.dic [] []))
theorem V0 {i:Nat} {x:Str} {pos' p2:Pos} (ps':∀ {v:TE},PE X (.Dict [] [] p2) v->PS X (.Assign [.Name x pos'] (.Dict [] [] p2) pos) (rQ v (jE i))):xT X (.Assign [.Name x pos'] (.Dict [] [] p2) pos) (RB i):=by
 refine ⟨_,ps' R6,λB p0 H ps σT σ DT DV o h f p hp=>?_⟩
 exact f.nx _ (p::ps) _ _ (o.newDic h.1 h.2.1 hp) (by rw [kH hp];exact L2.bB.refl _) h.2.2
theorem nZ {K:aD} {w:World} {H:Hp} {es:List (Int×Addr×V)} {kvs:List (D×D)} (hh:kvs.map (λkv=>lU w kv.1)=es.map (·.1)) (nd:(kvs.map (·.1)).Nodup) (ok:∀ kv∈kvs,jL kv.1) (r:Reps K H (kvs.map (·.1)) (es.map λe=>.ref e.2.1)):DK K w H es (kvs.map (·.1)) :=
 ⟨r,nd,λk hk=>by obtain ⟨kv,h1,rfl⟩:=aQ.mp hk;exact ok kv h1,by rw [<- hh,bG];rfl⟩
theorem GC {K:aD} {w:World} {H:Hp} {v:D} {x:V} {a:Addr}:∀ {es:List (Int×Addr×V)} {kvs:List (D×D)} (k:D),Reps K H (kvs.map (·.2)) (es.map λe=>e.2.2)->gE K H v x->Reps K H ((vD kvs k v).map (·.2)) ((rR w es (kvs.map (·.1)) k a x).map λe=>e.2.2):=by
 intro es kvs k r rv
 unfold vD rR
 by_cases hm:k∈kvs.map (·.1)
 ·rw [if_pos hm,if_pos hm]
  clear hm
  induction kvs generalizing es with
  | nil=>cases es with
   | nil=>exact .nil
   | cons e es=>cases r
  | cons kv kvs ih=>cases es with
   | nil=>cases r
   | cons e es =>
    rw [aX,aX] at r
    cases r with
    | cons r1 r2 =>
     rw [aX,aX,aX]
     unfold EU
     rw [aX]
     refine .cons ?_ (ih r2)
     by_cases e1:kv.1=k
     ·rw [if_pos e1,if_pos e1];exact rv
     ·rw [if_neg e1,if_neg e1];exact r1
 ·rw [if_neg hm,if_neg hm,bT,bT]
  exact r.append (.cons rv .nil)
theorem nW (kvs:List (D×D)) (k v:D):(vD kvs k v).map (·.1)=yT (kvs.map (·.1)) k:=by
 unfold vD yT
 split
 ·rw [bG]
  apply lP
  intro kv _
  show (if kv.1=k then (kv.1,v) else kv).1=kv.1
  split<;>rfl
 ·rw [bT];rfl
def aB8 (w:World) (i:Nat) (tk tv:ET):oW:=λDT σ=>∃ kvs,σ[i]?=some (rC w kvs)/\tv σ λv=>tk σ λk=>FX k/\(∀ kv∈kvs,jL kv.1)/\kvs.length<=100000/\DT.nx (σ.set i (rC w (vD kvs k v)))
theorem QW {i:Nat} {p2:Pos} {value:Expr} {tv:ET} (hu:X.A.units+9<cLine) (hn:PE X n (oU i)) (hk':hU X e tk) (hv:hU X value tv) (hs:gT value (some (.Subscript n e p2)) pos.line X.env=pure false:=by rfl) :
  xT X (.Assign [.Subscript n e p2] value pos) (aB8 X.w i tk tv):=by
 obtain ⟨vv,pv',rv⟩:=hv
 obtain ⟨vk,pk,rk⟩:=hk'
 refine ⟨_,RW hu hn pk pv' hs,λB p0 H ps σT σ DT DV o h f=>?_⟩
 obtain ⟨kvs,hi,h⟩:=h
 obtain ⟨⟨p,es,hσ,x⟩,u⟩:=o.isDic hi
 refine rv B p0 H ps σT σ _ _ o h λv y H1 s1 r1 q1=>⟨.ref p,hσ,rk B p0 H1 ps σT σ _ _ (o.grow s1) q1 λk z H2 s2 r2 q2=>?_⟩
 obtain ⟨⟨kok,ys,rfl⟩,hok,hlen,q⟩:=q2
 obtain ⟨a,rfl⟩:=nB r2
 have s12:=s1.trans s2
 have o2:=o.grow s12
 have hm:=bO (ps:=ps) s12
 have ks2:=x.ks.same hm
 have vs2:=x.vs.same hm
 have ob2:=s12 _ _ x.obj
 have dk2:=nZ (w:=X.w) x.hsh x.nd hok ks2
 have hl:es.length=kvs.length:=by
  have:=congrArg iG x.hsh
  simpa using this.symm
 have hL:bD=2 ^ 24:=rfl
 have dk3:=dk2.put (v:=y) r2 kok
 refine ⟨p,a,es,kvs.map (·.1),_,rfl,rfl,ob2,dk2.same bV,r2.same bV,kok,by omega,?_⟩
 obtain ⟨o3,no3⟩:=o2.forget (i:=i) hi
 have o4:=o3.poke (u:=mQ p (rR X.w es (kvs.map (·.1)) (.tuple ys) a y)) x.mem x.new ob2 no3
 have hm4:mask (fZ H2 p (mQ p (rR X.w es (kvs.map (·.1)) (.tuple ys) a y))) ps=mask H2 ps:=gY x.mem
 have o5:=o4.toDic (i:=i) (es:=rR X.w es (kvs.map (·.1)) (.tuple ys) a y) (hs:=(vD kvs (.tuple ys) v).map λkv=>lU X.w kv.1) (kvs:=vD kvs (.tuple ys) v) hσ (λj hs kws _=>no3 j hs kws)
  ⟨x.mem,x.new,x.out,cO,?_,?_,?_,?_⟩
 ·rw [zL] at o5
  exact f.nx _ ps _ σ o5 (by rw [hm4];exact hm) q
 ·rw [dk3.hs,<- nW kvs _ v,bG];rfl
 ·rw [nW];exact dk3.nd
 ·rw [hm4,nW];exact dk3.rep
 ·rw [hm4];exact GC _ vs2 (r1.same (bO s2))
theorem Reps.two {K:aD} {H:Hp} {i:Nat}:∀ {kvs:List (D×D)} {es:List (Int×Addr×V)} {kv:D×D},Reps K H (kvs.map (·.2)) (es.map λe=>e.2.2)->kvs[i]?=some kv->∃ e,es[i]?=some e/\gE K H kv.2 e.2.2:=by
 intro kvs es kv r h
 obtain ⟨v,h1,h2⟩:=r.get (i:=i) (d:=kv.2) (by rw [aI,h];rfl)
 rw [aI] at h1
 obtain ⟨e,e1,rfl⟩:=bU.mp h1
 exact ⟨e,e1,h2⟩
theorem wL {K:aD} {H:Hp} {w:World} {kvs:List (D×D)} {v:V} (r:gE K H (lY w kvs) v):∃ (p:Addr) (es:List (Int×Addr×V)) (ep:Nat),v=.ref p/\H p=some (rD p es ep)/\kvs.map (λkv=>lU w kv.1)=es.map (·.1)/\(kvs.map (·.1)).Nodup/\Reps K H (kvs.map (·.1)) (es.map λe=>.ref e.2.1)/\Reps K H (kvs.map (·.2)) (es.map λe=>e.2.2):=by
 unfold lY X7 at r
 generalize hg:(IL ((.str "{}",.list ((kvs.map λkv=>lU w kv.1).map aO))::kvs))=d at r
 cases r with
 | @dct p es ep kws h1 h2 h3 h4 =>
  injection hg with hg
  injection hg with hg1 hg2
  subst hg2
  injection hg1 with _ hg1
  injection hg1 with hg1
  have e:=congrArg (zM λd:D=>match d with | .int i=>i | _=>0) hg1
  simp only [bG,Function.comp_def] at e
  exact ⟨p,es,ep,rfl,h1,e,h2,h3,h4⟩
 | addr z =>
  injection hg with hg
  injection hg with hg1 hg2
  injection hg1 with hg1 _
  injection hg1 with hg1
  exact absurd hg1 (by decide +kernel)
 | ins _ _ =>
  injection hg with hg
  injection hg with hg1 hg2
  injection hg1 with hg1 _
  injection hg1 with hg1
  exact absurd hg1 (by decide +kernel)
 | _=>cases hg
def aAu (w:World) (d k:D) (Q:D->Prop):Prop:=∃ kvs,d=lY w kvs/\FX k/\(∀ kv∈kvs,jL kv.1)/\∃ v,(k,v)∈kvs/\Q v
theorem XY (hu:X.A.units+9<cLine) (ha:hU X a ta) (hb:hU X b tb) (hs:PN b:=by intro _ _;rfl):hU X (.Subscript a b pos) (eOp (aAu X.w) ta tb):=by
 obtain ⟨va,pa,ra⟩:=ha
 obtain ⟨vb,pb,rb⟩:=hb
 refine ⟨_,R7 hu pa pb hs,λB p0 H ps σT σ Q QV o h k=>ra B p0 H ps σT σ _ _ o h λd x H1 s1 r1 q1=>?_⟩
 refine rb B p0 H1 ps σT σ _ _ (o.grow s1) q1 λkd z H2 s2 r2 q2=>?_
 obtain ⟨kvs,rfl,⟨kok,ys,rfl⟩,hok,v,hm,q⟩:=q2
 obtain ⟨c,rfl⟩:=nB r2
 obtain ⟨p,es,ep,rfl,h1,h2,h3,h4,h5⟩:=wL (r1.same (bO s2))
 obtain ⟨j,hj⟩:=bZ hm
 obtain ⟨en,e1,e2⟩:=h5.two hj
 exact ⟨⟨c,rfl⟩,p,es,kvs.map (·.1),_,j,en,rfl,.inr ⟨ep,bV _ _ h1⟩,(nZ (w:=X.w) h2 h3 hok h4).same bV,r2.same bV,kok,by rw [aI,hj];rfl,e1,k _ _ H2 (s1.trans s2) e2 q⟩
theorem N0 {sts:List Stmt} {ts:TS} (p:CQ X sts ts):CQ X sts (λDV σ H=>∃ (a:Addr) (es:List (Int×Addr×V)),H a=some (mQ a es)/\∀ ep,ts DV σ (fZ H a (rD a es ep))):=by
 intro pins s σ H D I ⟨a,es,ha,h⟩
 obtain ⟨⟨h1,h2,o,xs,ep,h3,h4,h5,h6⟩,_⟩:=I.hok a _ ha
 refine p pins s σ _ D ?_ (h ep)
 exact I.write (x:=a) (e:=a) (h':=s.heap) (t':=s.toks) (by rw [ha];exact True.intro) (.inl rfl) (λb u _ z=>z) ⟨o,h3⟩ (show iJ X.prog X.w _ _ _ (rD a es ep) from ⟨⟨h1,h2,o,xs,h3,h4,h5,h6⟩,⟨o,h3⟩,λh1 h2 ⟨a,b,o,xs,e,r⟩ k=>⟨a,b,o,xs,k _ e,r⟩⟩)
def WA (i:Nat) (t:oW):oW:=λDT σ=>∃ hs kvs,σ[i]?=some (.dic hs kvs)/\t DT (σ.set i (.val (X7 hs kvs)))
theorem tL {sts:List Stmt} {t:oW} (i:Nat) (h:vS X sts t):vS X sts (WA i t):=by
 obtain ⟨v,p,r⟩:=h
 refine ⟨_,N0 p,λB p0 H ps σT σ DT DV o h f=>?_⟩
 obtain ⟨hs,kvs,e,h⟩:=h
 obtain ⟨a,es,_,ha,hs'⟩:=o.shareD e
 refine ⟨a,es,ha.obj,λep=>?_⟩
 obtain ⟨o',s'⟩:=hs' ep
 exact r B p0 _ _ _ σ DT DV o' h (f.later s')
end
end TL

namespace L2
open PySem PySem.Spec PyProof.Rows TL
def J2 (d:Addr) (i n ep:Nat) (x0 x1 k v:Value):Array Value:=#[x0,x1,.ref d,.int i 0,.int n 0,.int ep 0,k,v]
abbrev xM (h:Heap) (it d:Addr) (i n ep:Nat) (x0 x1 k v:Value):Prop:=h.get? it=some { cls:=.type "dict_itemiterator",dict:=none,data:=.fields (J2 d i n ep x0 x1 k v),slots:=#[] }
def U1 (h:Heap) (it:Addr) (x0 x1:Value):Prop:=(x0=.none\/∃ (a:Addr) (o:Obj),x0=rawInt a/\h.get? a=some o/\a≠it)/\∃ f,x1=.bool f
def aDw (h:Heap) (d:Addr) (xs:Array DictEntry) (ep:Nat):Prop:=∃ o,h.get? d=some o/\o.data=.dict xs ep
section
variable {prog:bF} {w:World} {A:Around} {E:Value->Shared->Prop} {s:Shared} {it d:Addr} {i ep:Nat} {xs:Array DictEntry} {x0 x1 k v:Value}
theorem KP {a:Addr} {o:Obj} {Q:Option Obj->Shared->Prop} (ho:s.heap.get? a=some o) (h:Q (some o) s):wpAny (model prog w) A (loadIfAlive a) Q E s:=by
 have h':Q (s.heap.get? a) s:=by rw [ho];exact h
 exact λ_ _ _=>h'
theorem J0 {Q:Option Value->Shared->Prop} (hit:xM s.heap it d i xs.size ep x0 x1 k v) (hg:U1 s.heap it x0 x1) (hd:aDw s.heap d xs ep) (hlt:i<xs.size)
  (hQ:∀ (h':Heap) (y0 y1 k' v':Value),xM h' it d (i+1) xs.size ep y0 y1 k' v'->U1 h' it y0 y1->(x0=.none->y0=rawInt s.heap.objs.size)->h'.get? s.heap.objs.size=some { cls:=.type "tuple",data:=.seq #[xs[i].key,xs[i].val] }->h'.objs.size=s.heap.objs.size+1 ->
   (∀ b o,b≠it->s.heap.get? b=some o->h'.get? b=some o)->Q (some (.ref s.heap.objs.size)) { s with heap:=h' }):wpAny (model prog w) A (pyNext (.ref it)) Q E s:=by
 obtain ⟨H,gs,dr,tk,os⟩:=s
 obtain ⟨od,hod,hdd⟩:=hd
 have hT:Shared.TypeIs ⟨H,gs,dr,tk,os⟩ (.ref it) "dict_itemiterator":=⟨_,hit,rfl⟩
 have own1:Builtin.Dict_items.ownsTuple "dict_itemiterator"=true:=by decide
 unfold pyNext
 refine aA (wpAny_attempt (wpAny_callSpecial?_slot (name:=Str.ofString "__next__") hT fC (cW fC hT uN ?_ (uD _))))
 refine aA (aF (aA (aA ?_)))
 first | refine aA (wpAny_typeNameOfWhole_itemiter hT (aF ?_)) | refine aA (wpAny_typeNameOf_itemiter hT (aF ?_))
 refine aA (wpAny_fieldsOf hit rfl ?_)
 simp only [own1,if_true]
 show wpAny _ _ (if (Value.ref d == Value.none)=true then _ else _) _ _ _
 rw [if_neg (show ¬ ((Value.ref d == Value.none)=true) from bA)]
 refine aA (aF (aA (wpAny_dictEntries hod hdd ?_)))
 rw [if_neg (by simp)]
 refine aA (aF (aA (wpAny_dictEpoch hod hdd ?_)))
 rw [if_neg (by simp)]
 refine aF ?_
 simp only [show ¬ ((i:Int)<0) from by omega,if_false,eG,bM hlt]
 refine aA ?_
 first | refine aA (wpAny_typeNameOfWhole_itemiter hT (aF ?_)) | refine aA (wpAny_typeNameOf_itemiter hT (aF ?_))
 refine aA (wpAny_isOneOf_itemiter hT ?_)
 show wpAny _ _ (setField (.ref it) 3 (rawInt ((i:Int)+1)) >>= _) _ _ ⟨H,gs,dr,tk,os⟩
 refine aA (wpAny_setField_rec hit (by simp [J2]) λH1 e1 s1=>?_)
 replace s1:cQ it H H1:=s1
 replace e1:xM H1 it d (i+1) xs.size ep x0 x1 k v:=by
  have e:((i+1:Nat):Int)=(i:Int)+1:=by omega
  unfold xM J2;rw [e];simpa [rawInt,J2] using e1
 have hT1:Shared.TypeIs ⟨H1,gs,dr,tk,os⟩ (.ref it) "dict_itemiterator":=⟨_,e1,rfl⟩
 refine aA (wpAny_holding (aA (wpAny_isOneOf_itemiter hT1 (aA (wpAny_isOneOf_itemiter hT1 ?_)))))
 show wpAny _ _ (Builtin.Dict_items.pairFromOwner (.ref it) 6 xs[i].key xs[i].val) _ _ ⟨H1,gs,dr,tk,os⟩
 unfold Builtin.Dict_items.pairFromOwner
 refine aA (wpAny_newTuple ?_)
 generalize hH2:H1.push { cls:=.type "tuple",data:=.seq #[xs[i].key,xs[i].val] }=H2
 have e2:xM H2 it d (i+1) xs.size ep x0 x1 k v:=by rw [<- hH2];exact aJ _ e1
 have z1:H1.objs.size=H.objs.size:=s1.1
 have hil:it<H.objs.size:=bH hit
 have t2:H2.get? H.objs.size=some { cls:=.type "tuple",data:=.seq #[xs[i].key,xs[i].val] }:=by rw [<- hH2,<- z1];exact aR _ rfl
 have z2:H2.objs.size=H.objs.size+1:=by rw [<- hH2,fF,z1]
 have k2:∀ b o,b≠it->H.get? b=some o->H2.get? b=some o:=λb o hb e=>by rw [<- hH2];exact aJ _ (s1.extBut b o hb e)
 have hne:H.objs.size≠it:=fS hil
 show wpAny _ _ (Builtin.Dict_items.ownedTupleIsFree (.ref it) >>= _) _ _ ⟨H2,gs,dr,tk,os⟩
 rw [z1]
 clear hH2 e1 s1 hT1 z1
 unfold Builtin.Dict_items.ownedTupleIsFree
 obtain ⟨hg0,f,rfl⟩:=hg
 rcases hg0 with rfl | ⟨a,oa,rfl,ha,hai⟩
 ·refine aA (aA (wpAny_field e2 rfl (x:=.none) rfl (aF ?_)))
  simp only [if_true]
  refine aA (wpAny_field e2 rfl (x:=k) rfl (aA (wpAny_field e2 rfl (x:=v) rfl ?_)))
  refine aA (wpAny_setField_rec e2 (by simp [J2]) λH3 e3 s3=>?_)
  replace s3:cQ it H2 H3:=s3
  replace e3:xM H3 it d (i+1) xs.size ep .none (.bool f) xs[i].key v:=e3
  refine aA (wpAny_setField_rec e3 (by simp [J2]) λH4 e4 s4=>?_)
  replace s4:cQ it H3 H4:=s4
  replace e4:xM H4 it d (i+1) xs.size ep .none (.bool f) xs[i].key xs[i].val:=e4
  refine aA (wpAny_setField_rec e4 (by simp [J2]) λH5 e5 s5=>?_)
  replace s5:cQ it H4 H5:=s5
  replace e5:xM H5 it d (i+1) xs.size ep (rawInt H.objs.size) (.bool f) xs[i].key xs[i].val:=e5
  refine aA (wpAny_setField_rec e5 (by simp [J2]) λH6 e6 s6=>?_)
  replace s6:cQ it H5 H6:=s6
  replace e6:xM H6 it d (i+1) xs.size ep (rawInt H.objs.size) (.bool false) xs[i].key xs[i].val:=e6
  have up:∀ b o,b≠it->H2.get? b=some o->H6.get? b=some o:=λb o hb e=>s6.extBut b o hb (s5.extBut b o hb (s4.extBut b o hb (s3.extBut b o hb e)))
  exact aA (wpAny_letGo (aF (aF ⟨_,rfl,aF (hQ H6 _ _ _ _ e6 ⟨.inr ⟨_,_,rfl,up _ _ hne t2,hne⟩,_,rfl⟩ (λ_=>rfl) (up _ _ hne t2) (by rw [s6.1,s5.1,s4.1,s3.1,z2]) λb o hb e=>up b o hb (k2 b o hb e))⟩)))
 ·have fin:∀ H3:Heap,xM H3 it d (i+1) xs.size ep (rawInt a) (.bool true) k v->cQ it H2 H3->Q (some (.ref H.objs.size)) ⟨H3,gs,dr,tk,os⟩:=λH3 e3 s3 =>
   hQ H3 _ _ _ _ e3 ⟨.inr ⟨a,oa,rfl,s3.extBut _ _ hai (k2 a oa hai ha),hai⟩,_,rfl⟩ (λz=>by cases z) (s3.extBut _ _ hne t2) (by rw [s3.1,z2]) λb o hb e=>s3.extBut b o hb (k2 b o hb e)
  refine aA (aA (wpAny_field e2 rfl (x:=rawInt a) rfl ?_))
  show wpAny _ _ (loadIfAlive ((a:Int).toNat) >>= _) _ _ _
  rw [eG]
  refine aA (KP (k2 a oa hai ha) ?_)
  simp only [Option.isNone_some,fW,if_false]
  refine aA (wpAny_field e2 rfl (x:=.bool f) rfl ?_)
  cases f with
  | true =>
   rw [if_neg (show ¬ ((Value.bool true != Value.bool true)=true) from bA)]
   refine aF ?_
   simp only [fW,if_false]
   exact aF (aF ⟨_,rfl,aF (fin H2 e2 (cQ.refl _ _))⟩)
  | false =>
   rw [if_pos (show (Value.bool false != Value.bool true)=true from rfl)]
   refine aA (wpAny_setField_rec e2 (by simp [J2]) λH3 e3 s3=>?_)
   refine aF ?_
   simp only [fW,if_false]
   exact aF (aF ⟨_,rfl,aF (fin H3 e3 s3)⟩)
theorem OP {Q:Option Value->Shared->Prop} (hh:A.handled=none) (hit:xM s.heap it d i xs.size ep x0 x1 k v) (hd:aDw s.heap d xs ep) (hge:xs.size<=i)
  (hQ:∀ h',CC it s.heap h'->Q none { s with heap:=h' }):wpAny (model prog w) A (pyNext (.ref it)) Q E s:=by
 obtain ⟨od,hod,hdd⟩:=hd
 have hT:s.TypeIs (.ref it) "dict_itemiterator":=⟨_,hit,rfl⟩
 have own1:Builtin.Dict_items.ownsTuple "dict_itemiterator"=true:=by decide
 unfold pyNext
 refine aA (wpAny_attempt (wpAny_callSpecial?_slot (name:=Str.ofString "__next__") hT fC (cW fC hT uN ?_ (uD _))))
 refine aA (aF (aA (aA ?_)))
 first | refine aA (wpAny_typeNameOfWhole_itemiter hT (aF ?_)) | refine aA (wpAny_typeNameOf_itemiter hT (aF ?_))
 refine aA (wpAny_fieldsOf hit rfl ?_)
 simp only [own1,if_true]
 show wpAny _ _ (if (Value.ref d == Value.none)=true then _ else _) _ _ s
 rw [if_neg (show ¬ ((Value.ref d == Value.none)=true) from bA)]
 refine aA (aF (aA (wpAny_dictEntries hod hdd ?_)))
 rw [if_neg (by simp)]
 refine aA (aF (aA (wpAny_dictEpoch hod hdd ?_)))
 rw [if_neg (by simp)]
 refine aF ?_
 simp only [show ¬ ((i:Int)<0) from by omega,if_false,eG,fJ hge]
 refine aA ?_
 first | refine aA (wpAny_typeNameOfWhole_itemiter hT (aF ?_)) | refine aA (wpAny_typeNameOf_itemiter hT (aF ?_))
 show wpAny _ _ (setField (.ref it) 2 .none >>= _) _ _ s
 refine aA (wpAny_setField hit rfl (by simp [J2]) ?_)
 show wpAny _ _ (newExc (.type "StopIteration") [] >>= _) _ _ _
 refine aA ?_
 simp only [newExc,newTuple]
 refine aA (cN ?_ (by size_fits))
 refine aA (m:=firstArgMember _ _) (wpAny_of_eq (a:=Value.none) (by first | rfl | (simp only [firstArgMember];rfl)) ?_)
 refine cN ?_ (by size_fits)
 simp only [raiseNew]
 refine aA (wpAny_handled ?_)
 first | rw [show A.in1.handled=none from hh] | rw [hh]
 refine aA (aF (wpAny_throw ?_))
 refine aA (wpAny_isInstance (T:="StopIteration") (b:=true) ⟨_,aR _ rfl,rfl⟩ isSubtype_stop ?_)
 exact aF (hQ _ (((cQ.update ..).extBut.push _).push _))
structure Got (xs:Array DictEntry) (S it lo:Addr) (h:Heap) (as:List Addr):Prop where
 rise:as.Pairwise (·<·)
 above:∀ a∈as,lo<=a/\a≠S/\a≠it
 tups:∀ (j:Nat) (a:Addr),as[j]?=some a->∃ e,xs[j]?=some e/\h.get? a=some { cls:=.type "tuple",data:=.seq #[e.key,e.val] }
theorem Got.stay {S lo:Addr} {h h':Heap} {as:List Addr} (g:Got xs S it lo h as) (hk:∀ b o,b≠S->b≠it->h.get? b=some o->h'.get? b=some o):Got xs S it lo h' as :=
 ⟨g.rise,g.above,λj a e=>by
  obtain ⟨x,h1,h2⟩:=g.tups j a e
  obtain ⟨_,n1,n2⟩:=g.above a (aV e)
  exact ⟨x,h1,hk _ _ n1 n2 h2⟩⟩
theorem U1.stay {h h':Heap} {x0 x1:Value} (g:U1 h it x0 x1) (hk:∀ b o,b≠it->h.get? b=some o->∃ o',h'.get? b=some o'):U1 h' it x0 x1:=by
 obtain ⟨g,f⟩:=g
 refine ⟨?_,f⟩
 rcases g with g | ⟨a,o,e,ha,hn⟩
 ·exact .inl g
 ·obtain ⟨o',h'⟩:=hk a o hn ha
  exact .inr ⟨a,o',e,h',hn⟩
def QI (v d:Addr) (h:Heap):Prop:=∃ o,h.get? v=some o/\o.cls=.type "dict_items"/\o.data=.fields #[.ref d]
theorem J1 {vw:Addr} {Q:Value->Shared->Prop} (hv:QI vw d s.heap) (hd:aDw s.heap d xs ep)
  (hQ:Q (.ref s.heap.objs.size) { s with heap:=s.heap.push { cls:=.type "dict_itemiterator",data:=.fields (J2 d 0 xs.size ep .none (.bool false) .none .none) } }):wpAny (model prog w) A (pyIter (.ref vw)) Q E s:=by
 obtain ⟨ov,hov,hcv,hdv⟩:=hv
 obtain ⟨o,ho,hdat⟩:=hd
 have hT:s.TypeIs (.ref vw) "dict_items":=⟨ov,hov,hcv⟩
 refine wpAny_pyIter_slot hT zX (cW zX hT PySem.F.entry_dict_items_iter ?_ (PySem.F.args_dict_items_iter_1 _))
 unfold Builtin.«dict_items.__iter__»
 refine aA (aF (aA ?_))
 unfold Builtin.Dict_items.dictOf
 refine aA (wpAny_field hov hdv (x:=.ref d) rfl (aF (aA ?_)))
 unfold Builtin.Dict_items.newIterator
 refine aA (wpAny_dictEntries ho hdat (aA (wpAny_dictEpoch ho hdat ?_)))
 have own1:Builtin.Dict_items.ownsTuple "dict_itemiterator"=true:=by decide
 simp only [own1,if_true]
 refine cN (aF ⟨_,rfl,"dict_itemiterator",_,⟨_,aR _ rfl,rfl⟩,fC.lookup,?_⟩)
  (by simp only [sizeOk,Builtin.Dict_items.ownedTupleFields,bR,bL,cI,oC,sizeLine_eq];omega)
 simpa [rawInt,J2,Builtin.Dict_items.ownedTupleFields] using hQ
end
section
variable {X:Cx} {pins:List (Addr×Obj)} {σ:St} {H H':Hp} {s:Shared}
def C0 (v p:Addr):HO:=.ext (QI v p)
theorem SU:PP X "dict.items" (λx xs H Q=>xs=[]/\∃ (p:Addr) (es:List (Int×Addr×V)),x=.ref p/\FY H p es/\∀ v,H v=none->Q (.ref v) (fZ H v (C0 v p))):=by
 intro pins s σ H x xs v us Q I rx r h
 obtain ⟨rfl,p,es,rfl,hp,q⟩:=h
 cases rx
 cases r
 have hT:=EK I hp
 obtain ⟨hs,_⟩:=FY.at I hp
 refine cW ED hT PySem.F.entry_dict_items ?_ (PySem.F.args_dict_items_1 _)
 unfold Builtin.«dict.items»
 refine aA ?_
 unfold Builtin.Dict.noArgs
 refine aA (wpAny_notOrdered_dict hT ?_)
 show wpAny _ _ (pure p) _ _ s
 refine aF ?_
 show wpAny _ _ (Builtin.Dict.showsAll p >>= _) _ _ s
 unfold Builtin.Dict.showsAll
 rw [if_neg (by rw [hs];exact bA)]
 refine aA (aF (aA (cN (aF ⟨_,rfl,?_⟩))))
 exact ⟨.ref s.heap.objs.size,_,I.laid (t':=s.toks) (o:=C0 s.heap.objs.size p) (λ_ _ e=>aJ _ e) (aL _) ⟨⟨_,aR _ rfl,rfl,rfl⟩,⟨_,aR _ rfl⟩,λh1 h2 ⟨o,e,r⟩ k=>⟨o,k _ e,r⟩⟩,rfl,q _ (I.hok.fresh (aL _))⟩
end
section
variable {X:Cx} {o:Expr} {to:TE} {apos cpos:Pos}
theorem N4 (ho:PE X o to) (hbase:attributeBase o "items" X.env (eval o X.env)=eval o X.env:=by rfl) (hline:(apos.endLine == cpos.line)=true:=by rfl) :
  PE X (.Call (.Attribute o "items" apos) [] [] cpos) (λσ H Q=>to σ H λx H1=>∃ (p:Addr) (es:List (Int×Addr×V)),x=.ref p/\FY H1 p es/\∀ v,H1 v=none->Q (.ref v) (fZ H1 v (C0 v p))):=by
 intro pins s σ H Q I h
 refine wpAny_Call_method0_late hbase hline (iX (ho pins s σ H _ I h) λv s1 ⟨x,H1,I1,r1,p,es,ex,hp,q1⟩=>?_)
 subst ex
 obtain rfl:v=Value.ref p:=r1
 obtain ⟨_,_,ob,ds,ep,h3,h4,_⟩:=FY.at I1 hp
 exact ⟨"dict","dict.items",PySem.F.plainAttrs_dict,ED,PySem.F.type_dict_items,EK I1 hp,λa e=>by cases e;exact ⟨ob,h3,h4.2.1⟩,Calls.callWith_builtin rfl (PySem.evalArgs_none (SU pins s1 σ H1 (.ref p) [] (.ref p) [] Q I1 rfl .nil ⟨rfl,p,es,rfl,hp,q1⟩))⟩
end
section
variable {X:Cx}
theorem BS:∀ {es:List (Int×Addr×V)} {ds:List DictEntry} {j:Nat} {d:DictEntry},Paired KY es ds->ds[j]?=some d->∃ e,es[j]?=some e/\KY e d
 | _,_,_,_,.nil,h=>by simp at h
 | _,_,0,_,.cons r t,h=>by simp at h;subst h;exact ⟨_,rfl,r⟩
 | _,_,j+1,d,.cons r t,h=>by
  obtain ⟨e,h1,h2⟩:=BS (j:=j) (d:=d) t (by simpa using h)
  exact ⟨e,by simpa using h1,h2⟩
end
end L2
namespace TL
open PySem PySem.Spec PyProof.Rows L2
section
variable {X:Cx} {n:Expr} {te:ET} {pos:Pos}
end
end TL

namespace L2
open PySem PySem.Spec PyProof.Rows TL
def IB (h:Heap) (d:Addr) (es:Array DictEntry) (ep:Nat):Prop:=∃ o,h.get? d=some o/\o.ExactDict/\o.data=.dict es ep
section
variable {prog:bF} {w:World} {A:Around} {E:Value->Shared->Prop} {s:Shared}
theorem HH {d:Addr} {es:Array DictEntry} {ep:Nat} {Q:Value->Shared->Prop} (hd:(d == sysModules)=false) (hm:IB s.heap d es ep)
  (hQ:Q (.ref s.heap.objs.size) { s with heap:=s.heap.push { cls:=.type "dict_keyiterator",data:=.fields #[.ref d,.int 0 0,.int es.size 0,.int ep 0] } }) :
  wpAny (model prog w) A (pyIter (.ref d)) Q E s:=by
 obtain ⟨o,ho,hc,hdat⟩:=id hm
 have hT:s.TypeIs (.ref d) "dict":=⟨o,ho,hc.1⟩
 refine wpAny_pyIter_slot hT F1 (cW F1 hT PySem.F.entry_dict_iter ?_ (PySem.F.args_dict_iter_1 _))
 unfold Builtin.«dict.__iter__»
 refine aA ?_
 unfold Builtin.Dict.dictSlotNone
 refine aA (wpAny_notOrdered_dict hT ?_)
 show wpAny _ _ (pure (Value.ref d)) _ _ s
 refine aF ?_
 show wpAny _ _ (Builtin.Dict.showsAll d >>= _) _ _ s
 unfold Builtin.Dict.showsAll
 rw [if_neg (by rw [hd];exact bA)]
 refine aA (aF ?_)
 refine aA (wpAny_dictEntries ho hdat ?_)
 refine aA (wpAny_dictEpoch ho hdat ?_)
 have hsz:es.size=es.size:=rfl
 refine aA (cN (aF ⟨_,rfl,"dict_keyiterator",_,⟨_,aR _ rfl,rfl⟩,gI.lookup,?_⟩))
 simpa [rawInt,hsz] using hQ

theorem G9 {it d:Addr} {i ep:Nat} {es:Array DictEntry} {Q:Option Value->Shared->Prop} (hit:s.heap.IsKeyIter it d i es.size ep)
  (hm:IB s.heap d es ep) (hlt':i<es.size)
  (hQ:∀ h',h'.IsKeyIter it d (i+1) es.size ep->cQ it s.heap h'->Q (some es[i].key) { s with heap:=h' }) :
  wpAny (model prog w) A (pyNext (.ref it)) Q E s:=by
 obtain ⟨o,ho,hc,hd⟩:=id hit
 obtain ⟨od,hod,hcd,hdd⟩:=id hm
 unfold pyNext
 refine aA (wpAny_attempt (wpAny_callSpecial?_slot (name:=Str.ofString "__next__") hit.typeIs gI
  (cW gI hit.typeIs uY ?_ (uO _))))
 refine aA (aF ?_)
 refine aA ?_
 refine aA ?_
 first | refine aA (wpAny_typeNameOfWhole_keyiter hit.typeIs (aF ?_)) | refine aA (wpAny_typeNameOf_keyiter hit.typeIs (aF ?_))
 refine aA (wpAny_fieldsOf ho hd ?_)
 have hown:Builtin.Dict_items.ownsTuple "dict_keyiterator"=false:=by decide
 simp only [hown,fW,if_false]
 show wpAny _ _ (if (Value.ref d == Value.none)=true then _ else _) _ _ s
 rw [if_neg (show ¬ ((Value.ref d == Value.none)=true) from bA)]
 refine aA (aF ?_)
 refine aA (wpAny_dictEntries hod hdd ?_)
 have hsz:es.size=es.size:=rfl
 rw [if_neg (by simp)]
 refine aA (aF ?_)
 refine aA (wpAny_dictEpoch hod hdd ?_)
 rw [if_neg (by simp)]
 refine aF ?_

 simp only [show ¬ ((i:Int)<0) from by omega,if_false,eG,bM hlt']
 refine aA ?_
 first | refine aA (wpAny_typeNameOfWhole_keyiter hit.typeIs (aF ?_)) | refine aA (wpAny_typeNameOf_keyiter hit.typeIs (aF ?_))
 refine aA (wpAny_isOneOf_keyiter hit.typeIs ?_)
 show wpAny _ _ (setField (.ref it) 1 (rawInt ((i:Int)+1)) >>= _) _ _ s
 refine aA (wpAny_setField ho hd (by simp) ?_)
 have hit':(s.heap.update it (Obj.mapFields (·.setIfInBounds 1 (rawInt ((i:Int)+1))))).IsKeyIter it d (i+1) es.size ep :=
  ⟨_,eM _ ho (Obj.isFreed_of_fields (Obj.data_mapFields hd _)),(Obj.cls_mapFields ..).trans hc,by rw [Obj.data_mapFields hd];simp [rawInt]⟩
 refine aA (wpAny_holding ?_)
 refine aA (wpAny_isOneOf_keyiter (s:={ s with heap:=s.heap.update it (Obj.mapFields (·.setIfInBounds 1 (rawInt ((i:Int)+1)))) }) hit'.typeIs ?_)
 show wpAny _ _ (pure es[i].key) _ _ _
 exact aF (aF ⟨_,rfl,aF (hQ _ hit' (cQ.update ..))⟩)

theorem MY {it d:Addr} {i ep:Nat} {es:Array DictEntry} {Q:Option Value->Shared->Prop} (hh:A.handled=none) (hit:s.heap.IsKeyIter it d i es.size ep)
  (hm:IB s.heap d es ep) (hx:es.size<=i)
  (hQ:∀ h',CC it s.heap h'->Q none { s with heap:=h' }):wpAny (model prog w) A (pyNext (.ref it)) Q E s:=by
 obtain ⟨o,ho,hc,hd⟩:=id hit
 obtain ⟨od,hod,hcd,hdd⟩:=id hm
 unfold pyNext
 refine aA (wpAny_attempt (wpAny_callSpecial?_slot (name:=Str.ofString "__next__") hit.typeIs gI
  (cW gI hit.typeIs uY ?_ (uO _))))
 refine aA (aF ?_)
 refine aA ?_
 refine aA ?_
 first | refine aA (wpAny_typeNameOfWhole_keyiter hit.typeIs (aF ?_)) | refine aA (wpAny_typeNameOf_keyiter hit.typeIs (aF ?_))
 refine aA (wpAny_fieldsOf ho hd ?_)
 have hown:Builtin.Dict_items.ownsTuple "dict_keyiterator"=false:=by decide
 simp only [hown,fW,if_false]
 show wpAny _ _ (if (Value.ref d == Value.none)=true then _ else _) _ _ s
 rw [if_neg (show ¬ ((Value.ref d == Value.none)=true) from bA)]
 refine aA (aF ?_)
 refine aA (wpAny_dictEntries hod hdd ?_)
 have hsz:es.size=es.size:=rfl
 rw [if_neg (by simp)]
 refine aA (aF ?_)
 refine aA (wpAny_dictEpoch hod hdd ?_)
 rw [if_neg (by simp)]
 refine aF ?_
 have hge:es.size<=i:=hx
 simp only [show ¬ ((i:Int)<0) from by omega,if_false,eG,fJ hge]
 refine aA ?_
 first | refine aA (wpAny_typeNameOfWhole_keyiter hit.typeIs (aF ?_)) | refine aA (wpAny_typeNameOf_keyiter hit.typeIs (aF ?_))
 show wpAny _ _ (setField (.ref it) 0 .none >>= _) _ _ s
 refine aA (wpAny_setField ho hd (by simp) ?_)
 show wpAny _ _ (newExc (.type "StopIteration") [] >>= _) _ _ _
 refine aA ?_
 simp only [newExc,newTuple]
 refine aA (cN ?_ (by size_fits))
 refine aA (m:=firstArgMember _ _) (wpAny_of_eq (a:=Value.none) (by first | rfl | (simp only [firstArgMember];rfl)) ?_)
 refine cN ?_ (by size_fits)
 simp only [raiseNew]
 refine aA (wpAny_handled ?_)
 rw [show A.in1.handled=none from hh]
 refine aA (aF (wpAny_throw ?_))
 refine aA (wpAny_isInstance (T:="StopIteration") (b:=true) ⟨_,aR _ rfl,rfl⟩ isSubtype_stop ?_)
 exact aF (hQ _ (((cQ.update ..).extBut.push _).push _))
end
def Itd (p:Addr) (es:List (Int×Addr×V)) (ep:Nat):It:=⟨λi H=>H p=some (rD p es ep)/\i<es.length,λi H x H'=>H'=H/\∃ e,es[i]?=some e/\x=.ref e.2.1,λi H=>H p=some (rD p es ep)/\es.length<=i⟩
theorem NQ {P:bF} {w:World} {K:aD} {tg:Expr} (p it:Addr) (es:List (Int×Addr×V)) (ep:Nat):CP P w K tg (Itd p es ep) [it] it (λi h=>h.IsKeyIter it p i es.length ep) where
 mem:=by simp
 obj:=λi h st b hb=>by
  have e:b=it:=by simpa using hb
  subst e
  obtain ⟨o,e,c,d⟩:=st
  exact ⟨o,e,λv z=>by rw [d] at z;cases z⟩
 keep:=λi h h' st k=>by
  obtain ⟨o,e,r⟩:=st
  exact ⟨o,k it (by simp) o e,r⟩
 item:=by
  intro X hP hw hK hc i pins s σ H E I hf st hg
  subst hP hw hK
  obtain ⟨hp,hi⟩:=hg
  obtain ⟨⟨h1,h2,o,xs,h3,h4,h5,h6⟩,_⟩:=I.hok p _ hp
  have hsz:es.length=xs.size:=by rw [<- bP];exact Paired.length h6
  have hix:i<xs.size:=by omega
  obtain ⟨f0,f1,f2,f3,f4,f5⟩:=hf it (by simp)
  rw [hsz] at st
  refine G9 st ⟨o,h3,h4,h5⟩ hix λh' st' sb=>?_
  have I1:dP X pins σ H { s with heap:=h' }:=I.turned (t':=s.toks) (λb o hb e=>(sb.2 b hb).trans e) f0 f1 f3 f4 f5
  obtain ⟨en,e1,e2⟩:=BS (j:=i) (d:=xs[i]) h6 (by simp [hix])
  obtain ⟨o',e,c,d⟩:=id st'
  rw [<- hsz] at st'
  rw [e2.2.1]
  exact ⟨_,rfl,DQ (s:={ s with heap:=h' }) e c d (by decide) ⟨.ref en.2.1,H,I1,rfl,⟨rfl,en,e1,rfl⟩,st',λb hb=>(hf b hb).1⟩⟩
 done:=by
  intro X hP hw hK hc i pins s σ H E I hf st hg
  subst hP hw hK
  obtain ⟨hp,hi⟩:=hg
  obtain ⟨⟨h1,h2,o,xs,h3,h4,h5,h6⟩,_⟩:=I.hok p _ hp
  have hsz:es.length=xs.size:=by rw [<- bP];exact Paired.length h6
  obtain ⟨f0,f1,f2,f3,f4,f5⟩:=hf it (by simp)
  rw [hsz] at st
  exact MY (I.ok.hd hc) st ⟨o,h3,h4,h5⟩ (by omega) λh' eb=>⟨rfl,I.turned (t':=s.toks) (λb o hb e=>eb b o hb e) f0 f1 f3 f4 f5⟩
 self:=λ_ _ _ _ _ st h=>wpAny_pyIter_keyiter st h
section
variable {X:Cx} {tg:Expr}
def aJq (tl:TE):TI:=λσ H R=>tl σ H λx H1=>∃ (p:Addr) (es:List (Int×Addr×V)) (ep:Nat),x=.ref p/\H1 p=some (rD p es ep)/\R (Itd p es ep) H1
theorem WO {l:Expr} {tl:TE} (hl:PE X l tl):PI X tg l (aJq tl):=by
 intro pins s σ H R I h
 refine iX (hl pins s σ H _ I h) λv s1 ⟨x,H1,I1,r1,q1⟩=>?_
 obtain ⟨p,es,ep,e,hp,q⟩:=q1
 subst e
 obtain rfl:v=Value.ref p:=r1
 obtain ⟨⟨h1,h2,o,xs,h3,h4,h5,h6⟩,_⟩:=I1.hok p _ hp
 have hsz:es.length=xs.size:=by rw [<- bP];exact Paired.length h6
 refine HH h1 ⟨o,h3,h4,h5⟩ ?_
 refine ⟨s1.heap.objs.size,[s1.heap.objs.size],_,_,H1,rfl,I1.kept (t':=s1.toks) λb o e=>aJ _ e,NQ p _ es ep,⟨_,aR _ rfl,rfl,by rw [hsz];rfl⟩,λb hb=>?_,q⟩
 have e:b=s1.heap.objs.size:=by simpa using hb
 subst e
 exact I1.fpOk (aL _) (I1.hok.fresh (aL _))
end
end L2
namespace TL
open PySem PySem.Spec PyProof.Rows L2
section
variable {X:Cx} {e:Expr} {te:ET}
def aGw (w:World) (te:ET):IT:=λσ Q=>te σ λd=>∃ kvs,d=lY w kvs/\Q (kvs.map (·.1))
theorem XE {tg:Expr} (he:hU X e te):CS X tg e (aGw X.w te):=by
 obtain ⟨ve,pe,re⟩:=he
 refine ⟨_,WO pe,λB p0 H ps σT σ Q R o h k=>re B p0 H ps σT σ _ _ o h λd x H1 s1 r1 q1=>?_⟩
 obtain ⟨kvs,rfl,q⟩:=q1
 obtain ⟨p,es,ep,rfl,h1,h2,h3,h4,h5⟩:=wL r1
 refine ⟨p,es,ep,rfl,bV _ _ h1,k (kvs.map (·.1)) _ H1 s1 ?_ q⟩
 have hl:(kvs.map (·.1)).length=es.length:=by rw [h4.length,aB]
 refine ⟨λi H e hi=>⟨e _ _ h1,by omega⟩,λi H e hi=>⟨e _ _ h1,by omega⟩,λi H qs y H' _ e hi hy=>?_⟩
 obtain ⟨rfl,en,e1,rfl⟩:=hy
 obtain ⟨dx,g1,g2⟩:=h4.get' (i:=i) (v:=.ref en.2.1) (by rw [aI,e1];rfl)
 exact ⟨L2.bB.refl _,dx,g1,g2.same e⟩
end
end TL

namespace L2
open PySem PySem.Spec PyProof.Rows TL
section
variable {prog:bF} {w:World} {A:Around} {E:Value->Shared->Prop} {s:Shared} {d:Addr} {ep:Nat} {xs:Array DictEntry}
theorem QH (hh:A.handled=none) (I:Addr) (hne:d≠I) :
  Walks prog w A I [I,d] [I] xs.size (λi v=>∃ e,xs[i]?=some e/\v=e.key) (λi h=>h.IsKeyIter I d i xs.size ep/\IB h d xs ep) where
 sub:=λb hb=>by simp at hb;simp [hb]
 frame:=λ_ _ _ st hk=>by
  obtain ⟨⟨o,ho,r⟩,⟨p,hp,q⟩⟩:=st
  exact ⟨⟨o,hk I (by simp) o ho,r⟩,⟨p,hk d (by simp) p hp,q⟩⟩
 item:=λi s Q E hi st hQ=>by
  refine G9 st.1 st.2 hi λh' hit' hs'=>?_
  obtain ⟨p,hp,q⟩:=st.2
  exact hQ _ h' s.toks ⟨_,bM hi,rfl⟩ ⟨hit',⟨p,hs'.extBut d p hne hp,q⟩⟩ λb o hb e=>hs'.extBut b o (λh=>hb (by simp [h])) e
 done:=λs Q E st hQ=>MY hh st.1 st.2 (aL _) λh' he'=>hQ h' s.toks λb o hb e=>he' b o (λh=>hb (by simp [h])) e
 self:=λ_ _ _ _ st hQ=>wpAny_pyIter_keyiter st.1 hQ
theorem B0 {Q:Value->Shared->Prop} (hh:A.handled=none) (h0:(d == sysModules)=false) (hd:IB s.heap d xs ep) (hn:xs.size<=bD)
  (hQ:∀ (h':Heap) (tk:Nat) (acc:Array Value) (c:Nat),(∀ b o,s.heap.get? b=some o->h'.get? b=some o)->h'.get? s.heap.objs.size=some { cls:=.type "list",dict:=none,data:=.seq acc c,slots:=#[] }->acc.toList=xs.toList.map (·.key)->Q (.ref s.heap.objs.size) { s with heap:=h',toks:=tk }) :
  wpAny (model prog w) A (call (.type "list") [.ref d]) Q E s:=by
 have hdl:d<s.heap.objs.size:=let ⟨_,ho,_⟩:=hd;bH ho
 refine callType_codes (Q₁:=λobj s₁=>obj=.ref s.heap.objs.size/\s₁={ s with heap:=s.heap.push { cls:=.type "list",data:=.seq #[] } }) PySem.F.called_list (PySem.F.typeCall_list_1 _) PySem.F.entry_list_init (code_list_new _ ⟨rfl,rfl⟩) λobj s₁ h₁=>?_
 obtain ⟨rfl,rfl⟩:=h₁
 generalize hG1:s.heap.push { cls:=.type "list",data:=.seq #[] }=G1
 have hS:G1.get? s.heap.objs.size=some { cls:=.type "list",data:=.seq #[] }:=by rw [<- hG1];exact aR _ rfl
 have k1:∀ b o,s.heap.get? b=some o->G1.get? b=some o:=λb o e=>by rw [<- hG1];exact aJ _ e
 have z1:G1.objs.size=s.heap.objs.size+1:=by rw [<- hG1,fF]
 generalize hSz:s.heap.objs.size=S at *
 refine ⟨⟨_,hS,rfl⟩,PySem.F.args_list_init_2 _ _,?_⟩
 show wpAny _ _ (do let old <- Builtin.List.listItems (.ref S);Builtin.List.listUpdate (.ref S) (λ_=>#[]);letGo old.toList.reverse;Builtin.List.listExtendWith (.ref S) (.ref d) .none) _ _ _
 refine aA ?_
 unfold Builtin.List.listItems
 refine aA (wpAny_seqItems hS rfl (aF ?_))
 show wpAny _ _ (updateSeq S (λ_=>#[]) >>= λ_=>letGo (#[]:Array Value).toList.reverse >>= λ_=>Builtin.List.listExtendWith (.ref S) (.ref d) .none) _ _ _
 refine aA (wpAny_updateSeq hS rfl ?_)
 have hS2:=eM (Obj.mapSeq (λ_=>(#[]:Array Value))) hS rfl
 generalize hG2:G1.update S (Obj.mapSeq (λ_=>(#[]:Array Value)))=G2 at hS2
 have k2:∀ b o,b≠S->G1.get? b=some o->G2.get? b=some o:=λb o hb e=>by rw [<- hG2];exact (gU _ _ (Ne.symm hb)).trans e
 have z2:G2.objs.size=S+1:=by rw [<- hG2,Heap.size_update,z1]
 have hd2:IB G2 d xs ep:=let ⟨o,h1,h2⟩:=hd;⟨o,k2 d o (bS hdl) (k1 d o h1),h2⟩
 refine aA (wpAny_letGo ?_)
 unfold Builtin.List.listExtendWith
 have hT2:Shared.TypeIs { s with heap:=G2 } (.ref d) "dict":=let ⟨o,h1,h2,_⟩:=hd2;⟨o,h1,h2.1⟩
 refine aA (wpAny_typeOf hT2 ?_)
 have b1:Builtin.List.listSameRef (.ref S) (.ref d)=false:=by
  show (S == d)=false
  exact beq_eq_false_iff_ne.mpr (fS hdl)
 have b2:(Value.type "dict" == Value.type "list")=false:=by decide
 have b3:(Value.type "dict" == Value.type "tuple")=false:=by decide
 simp only [b1,b2,b3,xS,fW,if_false]
 refine aA (HH (s:={ s with heap:=G2 }) h0 hd2 ?_)
 show wpAny _ _ _ _ _ { s with heap:=G2.push _ }
 generalize hG3:G2.push { cls:=.type "dict_keyiterator",data:=.fields #[.ref d,.int 0 0,.int xs.size 0,.int ep 0] }=G3
 have k3:∀ b o,G2.get? b=some o->G3.get? b=some o:=λb o e=>by rw [<- hG3];exact aJ _ e
 have hI3:G3.get? (S+1)=some { cls:=.type "dict_keyiterator",data:=.fields #[.ref d,.int 0 0,.int xs.size 0,.int ep 0] }:=by rw [<- hG3,<- z2];exact aR _ rfl
 have z3:G3.objs.size=S+2:=by rw [<- hG3,fF,z2]
 have hT3:Shared.TypeIs { s with heap:=G3 } (.ref d) "dict":=let ⟨o,h1,h2⟩:=hT2;⟨o,k3 _ _ h1,h2⟩
 have neSI:S+1≠S:=fS (eE _)
 have hdI:d≠S+1:=bS (eV hdl)
 have hLf:S∉[S+1,d]:=by
  simp only [aZ,dS,or_false,not_or]
  exact ⟨Ne.symm neSI,fS hdl⟩
 have key:∀ (h:Heap) (c tk:Nat),(∀ b o,b≠S->G3.get? b=some o->h.get? b=some o)->h.get? S=some { cls:=.type "list",dict:=none,data:=.seq #[] c,slots:=#[] } ->
   codeAny (model prog w) A.in1 (.builtin "list.extend.loop" ⟨[.ref S,.ref (S+1),.none],[]⟩) (wants (λr s₂=>r=Value.none/\Q (.ref S) s₂) E) { s with heap:=h,toks:=tk }:=λh c tk kk hSh=>by
  have W:=(QH (prog:=prog) (w:=w) (A:=A.in1.in1) (d:=d) (xs:=xs) (ep:=ep) (by simp [hh]) (S+1) hdI).toS
  have st:h.IsKeyIter (S+1) d 0 xs.size ep/\IB h d xs ep:=⟨⟨_,kk _ _ neSI hI3,rfl,rfl⟩,let ⟨o,h1,h2⟩:=hd2;⟨o,kk d o (bS hdl) (k3 _ _ h1),h2⟩⟩
  refine codeAny_extend_loopS W hn S hLf .none xs.size 0 _ #[] c rfl (cS _) st hSh (ItemsOf.nil _) λs' acc c' hm hL' hit=>⟨rfl,?_⟩
  obtain ⟨h',g',d',tk',os'⟩:=s'
  have eg:g'=s.gens:=hm.gens
  have ed:d'=s.drawn:=hm.drawn
  have eo:os'=s.os:=hm.os
  subst eg;subst ed;subst eo
  refine hQ h' tk' acc c' (λb o e=>?_) hL' ?_
  ·have hb:b<S:=by rw [<- hSz];exact bH e
   refine hm.heap b o ?_ (kk b o (bS hb) (k3 b o (k2 b o (bS hb) (k1 b o e))))
   simp only [aZ,dS,or_false,not_or]
   exact ⟨bS hb,bS (eV hb)⟩
  ·apply gD
   intro i
   rw [aI,fQ,fQ]
   by_cases hi:i<xs.size
   ·have hia:i<acc.size:=by have:=hit.1;omega
    obtain ⟨x,hx,hv⟩:=hit.2 i acc[i] (bM hia)
    rw [bM hia,hx,hv];rfl
   ·rw [fJ (by have:=hit.1;omega),fJ (by omega)];rfl
 refine aA (wpAny_holding (PySem.W.kdl_hint_dict hT3 ?_))
 dsimp only
 rw [z2]
 refine wpAny_ite_split (λ_=>?_) (λ_=>aF ⟨plainId_quiet oX _,key _ _ _ (λb o _ e=>e) (k3 _ _ hS2)⟩)
 have hS3:=k3 _ _ hS2
 refine aA (wpAny_rule (aA ?_))
 show wpAny _ _ (updateSeq S (·.push .none) >>= λ_=>updateSeq S (·.pop)) _ _ _
 refine aA (wpAny_updateSeq hS3 rfl ?_)
 have hS4:=eM (Obj.mapSeq (·.push Value.none)) hS3 rfl
 refine wpAny_updateSeq (hz:=by seq_fits) hS4 rfl ?_
 have hS5:=eM (Obj.mapSeq (·.pop)) hS4 rfl
 exact aF ⟨plainId_quiet oX _,key _ _ _ (λb o hb e=>(gU _ _ (Ne.symm hb)).trans ((gU _ _ (Ne.symm hb)).trans e)) hS5⟩
end
theorem DJ:∀ {es:List (Int×Addr×V)} {ds:List DictEntry},Paired KY es ds->fG (es.map λe=>V.ref e.2.1) (ds.map (·.key))
 | _,_,.nil=>.nil
 | _,_,.cons r t=>.cons (show _=_ from r.2.1) (DJ t)
section
variable {X:Cx}
theorem rN (hc:X.calm=true):kJ X (.type "list") (λxs H Q=>∃ (p:Addr) (es:List (Int×Addr×V)),xs=[.ref p]/\FY H p es/\∀ l,H l=none->Q (.ref l) (fZ H l (.lst (es.map λe=>.ref e.2.1)))):=by
 intro pins s σ H xs us Q I r h
 obtain ⟨p,es,rfl,hp,q⟩:=h
 obtain ⟨u,rfl,rx⟩:=rL r
 cases rx
 obtain ⟨h1,h2,o,ds,ep,h3,h4,h5,h6⟩:=FY.at I hp
 have hsz:es.length=ds.size:=by rw [<- bP];exact Paired.length h6
 refine B0 (I.ok.hd hc) h1 ⟨o,h3,h4,h5⟩ (by omega) λh' tk acc c kk hS hacc=>?_
 refine ⟨.ref _,_,I.laid (t':=tk) (o:=.lst (es.map λe=>.ref e.2.1)) kk (aL _) ?_,rfl,q _ (I.hok.fresh (aL _))⟩
 exact ⟨by rw [aB];exact h2,acc.toList,c,by rw [hacc];exact DJ h6,by simpa using hS⟩
end
end L2
namespace TL
open PySem PySem.Spec PyProof.Rows L2
section
variable {X:Cx} {e:Expr} {te:ET} {pos:Pos}
def aDi (w:World) (te:ET):ET:=λσ Q=>te σ λd=>∃ kvs,d=lY w kvs/\Q (.list (kvs.map (·.1)))
theorem HM {g:Expr} (he:hU X e te) (hs:bN [e] X.env=(false,eval e X.env)::bN [] X.env:=by rfl)
  (pc:∀ {v:TE},PA X [e] (uQ v EN)->PE X (.Call g [e] [] pos) (QS (λxs H Q=>∃ (p:Addr) (es:List (Int×Addr×V)),xs=[.ref p]/\FY H p es/\∀ l,H l=none->Q (.ref l) (fZ H l (.lst (es.map λe=>.ref e.2.1)))) (uQ v EN))) :
  hU X (.Call g [e] [] pos) (aDi X.w te):=by
 obtain ⟨v,pe,re⟩:=he
 refine ⟨_,pc (fL pe iZ hs),λB p0 H ps σT σ Q QV o h k=>re B p0 H ps σT σ _ _ o h λd x H1 s1 r1 q1=>?_⟩
 obtain ⟨kvs,rfl,q⟩:=q1
 obtain ⟨p,es,ep,rfl,h1,h2,h3,h4,h5⟩:=wL r1
 exact ⟨p,es,rfl,.inr ⟨ep,bV _ _ h1⟩,λl hl=>k _ _ _ (s1.trans (dF hl)) (pC (o.grow s1).live hl h4) q⟩
end
end TL

namespace L2
open PySem PySem.Spec PyProof.Rows TL
def aHw (lo:Int) (n:Nat):It:=⟨λi _=>i<n,λi H x H'=>H'=H/\x=.int (lo-i),λi _=>n<=i⟩
theorem NP {P:bF} {w:World} {K:aD} {tg:Expr} (it:Addr) (lo:Int) (n:Nat):CP P w K tg (aHw lo n) [it] it (λi h=>IsRangeIter h it (lo+(i:Nat)*(-1)) ((n:Int)-(i:Nat)) (-1)) where
 mem:=by simp
 obj:=λi h st b hb=>by
  have e:b=it:=by simpa using hb
  subst e
  exact ⟨_,st,λv z=>by
   have z':Data.fields _=Data.cell v:=z
   cases z'⟩
 keep:=λi h h' st k=>k it (by simp) _ st
 item:=by
  intro X hP hw hK hc i pins s σ H E I hf st hg
  subst hP hw hK
  obtain ⟨f0,f1,f2,f3,f4,f5⟩:=hf it (by simp)
  have W:=Walks.range (prog:=X.prog) (w:=X.w) (I.ok.hd hc) it lo (-1) n
  refine W.item i s _ _ hg st λv h' tk hv st' kk=>?_
  obtain ⟨t,rfl⟩:=hv
  have I1:dP X pins σ H { s with heap:=h',toks:=tk }:=I.turned (λb o hb e=>kk b o (by simpa using hb) e) f0 f1 f3 f4 f5
  refine ⟨_,rfl,DQ (s:={ s with heap:=h',toks:=tk }) (n:="range_iterator") st' rfl rfl (by decide) ⟨.int (lo-i),H,I1,⟨t,?_⟩,⟨rfl,rfl⟩,st',λb hb=>(hf b hb).1⟩⟩
  have e:lo+(i:Int)*(-1)=lo-i:=by omega
  rw [e]
 done:=by
  intro X hP hw hK hc i pins s σ H E I hf st hg
  subst hP hw hK
  obtain ⟨f0,f1,f2,f3,f4,f5⟩:=hf it (by simp)
  exact wpAny_pyNext_range_end (I.ok.hd hc) st (by have:n<=i:=hg;omega) λh' eb=>⟨rfl,I.turned (t':=s.toks) (λb o hb e=>eb b o hb e) f0 f1 f3 f4 f5⟩
 self:=λ_ _ _ _ _ st h=>wpAny_pyIter_rangeiter st h
section
variable {X:Cx} {tg:Expr}
end
end L2
namespace TL
open PySem PySem.Spec PyProof.Rows L2
section
variable {X:Cx} {e:Expr} {te:ET}
end
end TL

namespace L2
open PySem PySem.Spec PyProof.Rows TL
section
variable {X:Cx}
end
end L2
namespace TL
open PySem PySem.Spec PyProof.Rows L2
section
variable {X:Cx} {n e e1 e2:Expr} {te t1 t2:ET} {pos:Pos}
end
theorem xF {X:Cx} {a b:Expr} {pos:Pos} {ta tb:ET} {w:World} (hw:X.w=w) (hu:X.A.units+9<cLine) (ha:hU X a ta) (hb:hU X b tb) (hs:PN b:=by intro _ _;rfl):hU X (.Subscript a b pos) (eOp (aAu w) ta tb):=by
 subst hw;exact XY hu ha hb hs
end TL

namespace L2
open PySem PySem.Spec PyProof.Rows TL
section
variable {X:Cx} {tg:Expr}
theorem KD {lo:Int} (h1:0<=lo) (h2:lo<=100000):Builtin.Range.rangeSize lo 0 (-1)=lo/\Builtin.Range.small lo 0 (-1)=true:=by
 have e:Builtin.Range.rangeSize lo 0 (-1)=lo:=by
  unfold Builtin.Range.rangeSize
  simp only [show ¬ ((-1:Int) > 0) by decide,if_false,Int.neg_neg,aH2]
  split<;>omega
 refine ⟨e,?_⟩
 unfold Builtin.Range.small
 rw [e]
 simp only [Builtin.Range.rangeFitsLong,cJ,tJ,decide_eq_true_eq,beq_iff_eq,show ¬ ((-1:Int) > 0) by decide,if_false]
 omega
def TN (ta:TA):TI:=λσ H R=>ta σ H λvs H1=>∃ i:Int,vs=[.int i,.int 0,.int (-1)]/\0<=i/\i<=100000/\R (aHw i i.toNat) H1
theorem R0 {a b c:Expr} {ta:TA} {p pos:Pos} (hg:Gl X "range") (hm:X.mg "range"=none) (ha:PA X [a,b,c] ta) (hs:bN [a,b,c] X.env=[(false,eval a X.env),(false,eval b X.env),(false,eval c X.env)]:=by rfl) (hs2:bN [b,c] X.env=[(false,eval b X.env),(false,eval c X.env)]:=by rfl) :
  PI X tg (.Call (.Name "range" p) [a,b,c] [] pos) (TN ta):=by
 intro pins s σ H R I h
 refine Call_ (vJ I hg hm boot_range (PyProof.Rows.callWith_type1 (iX (ha pos pins s σ H _ I h) λus s1 ⟨vs,H1,I1,r1,q1⟩=>?_) (by rw [hs,hs2]) (by rw [hs2];rfl)))
 obtain ⟨i,e,g1,g2,q⟩:=q1
 subst e
 cases r1 with
 | cons r rr =>
  cases rr with
  | cons r' rr =>
   cases rr with
   | cons r'' rr =>
    cases rr
    obtain ⟨t,rfl⟩:=r
    obtain ⟨t',rfl⟩:=r'
    obtain ⟨t'',rfl⟩:=r''
    obtain ⟨z1,z2⟩:=KD g1 g2
    refine call_range_3 (by decide) ?_ (.inl (PyProof.noPylong_small (by omega)))
    refine wpAny_pyIter_range (IsRange.new ..) z2 ?_
    have I2:dP X pins σ H1 { s1 with heap:=s1.heap.push { cls:=.type "range",data:=.fields #[.int i t,.int 0 t',.int (-1) t''] },toks:=s1.toks }:=I1.kept λb o e=>aJ _ e
    refine ⟨(s1.heap.push { cls:=.type "range",data:=.fields #[.int i t,.int 0 t',.int (-1) t''] }).objs.size,[(s1.heap.push { cls:=.type "range",data:=.fields #[.int i t,.int 0 t',.int (-1) t''] }).objs.size],_,_,H1,rfl,
     I2.kept (t':=s1.toks) λb o e=>aJ _ e,NP _ i i.toNat,?_,λb hb=>?_,q⟩
    ·have e1:i+((0:Nat):Int)*(-1)=i:=by simp
     have e2:((i.toNat:Nat):Int)-((0:Nat):Int)=Builtin.Range.rangeSize i 0 (-1):=by rw [z1];omega
     show IsRangeIter _ _ (i+((0:Nat):Int)*(-1)) (((i.toNat:Nat):Int)-((0:Nat):Int)) (-1)
     rw [e1,e2]
     exact aR _ rfl
    ·have e:b=(s1.heap.push { cls:=.type "range",data:=.fields #[.int i t,.int 0 t',.int (-1) t''] }).objs.size:=by simpa using hb
     subst e
     exact I2.fpOk (aL _) (I2.hok.fresh (aL _))
end
end L2
namespace TL
open PySem PySem.Spec PyProof.Rows L2
section
variable {X:Cx} {e:Expr} {te:ET}
def pU (i:Int):List D:=(cK i.toNat).map λ(k:Nat)=>aO (i-(k:Int))
def XJ (t:AT):IT:=λσ Q=>t σ λds=>∃ i:Int,ds=[.int i,.int 0,.int (-1)]/\0<=i/\i<=100000/\Q (pU i)
theorem S9 {tg a b c:Expr} {t:AT} {p p':Pos} (ha:xU X [a,b,c] t) (pr:∀ {ta:TA},PA X [a,b,c] ta->PI X tg (.Call (.Name "range" p) [a,b,c] [] p') (TN ta)):CS X tg (.Call (.Name "range" p) [a,b,c] [] p') (XJ t):=by
 obtain ⟨va,pa,ra⟩:=ha
 refine ⟨_,pr pa,λB p0 H ps σT σ Q R o h k=>ra B p0 H ps σT σ _ _ o h λds xs H1 s1 r1 q1=>?_⟩
 obtain ⟨i,rfl,g1,g2,q⟩:=q1
 cases r1 with
 | cons r1 r2 =>
  cases r2 with
  | cons r2 r3 =>
   cases r3 with
   | cons r3 r4 =>
    cases r4
    cases r1
    cases r2
    cases r3
    refine ⟨i,rfl,g1,g2,k (pU i) _ H1 s1 ?_ q⟩
    have hl:(pU i).length=i.toNat:=by unfold pU;simp
    refine ⟨λj H _ e=>by rw [hl] at e;exact e,λj H _ e=>by rw [hl] at e;exact e,λj H ps y H' _ _ e hy=>?_⟩
    obtain ⟨rfl,rfl⟩:=hy
    refine ⟨L2.bB.refl _,.int (i-j),?_,.int _⟩
    rw [hl] at e
    unfold pU
    rw [aI,jJ e];rfl
end
def vH (s:Stmt) (j:Nat):Stmt:=match s with
 | .ClassDef _ _ _ b _ _ _ _ _ _ _=>b.getD j (.Pass ⟨0,0,0,0⟩)
 | _=>.Pass ⟨0,0,0,0⟩
def J4 (C:Addr) (ns:List Str) (ds:List D):D:=.dict [(.str "obj",.tuple [.int (C:Nat),.list (ns.map aP),.list ds])]
theorem GG:∀ {xs ys:List Str},xs.map aP=ys.map aP->xs=ys
 | [],[],_=>rfl
 | [],_::_,h=>by cases h
 | _::_,[],h=>by cases h
 | x::xs,y::ys,h=>by
  rw [aX,aX] at h
  injection h with h1 h2
  injection h1 with h1
  rw [h1,GG h2]
theorem LV {K:aD} {H:Hp} {C:Addr} {ns:List Str} {ds:List D} {v:V} (r:gE K H (J4 C ns ds) v):∃ (p dx:Addr) (fs:List (Str×V)),v=.ref p/\H p=some (.ins C dx fs)/\fs.map (·.1)=ns/\Reps K H ds (fs.map (·.2)):=by
 unfold J4 at r
 generalize hg:(IL [(.str "obj",.tuple [.int (C:Nat),.list (ns.map aP),.list ds])])=d at r
 cases r with
 | @ins p C' dx fs ds' h1 h2 =>
  injection hg with hg
  injection hg with hg _
  injection hg with _ hg
  injection hg with hg
  injection hg with g1 hg
  injection hg with g2 hg
  injection hg with g3 _
  injection g1 with g1
  injection g2 with g2
  injection g3 with g3
  obtain rfl:C=C':=gX.inj g1
  subst g3
  exact ⟨p,dx,fs,rfl,h1,(GG g2).symm,h2⟩
 | @dct p es ep kvs h1 h2 h3 h4 =>
  injection hg with hg
  injection hg with hg _
  injection hg with hg _
  injection hg with hg
  exact absurd hg (by decide +kernel)
 | addr z =>
  injection hg with hg
  injection hg with hg _
  injection hg with hg _
  injection hg with hg
  exact absurd hg (by decide +kernel)
 | _=>cases hg
theorem BG {K:aD} {H:Hp} {f:Str} {x:D}:∀ {fs:List (Str×V)} {ds:List D},Reps K H ds (fs.map (·.2))->((fs.map (·.1)).zip ds).lookup f=some x->∃ v,fs.lookup f=some v/\gE K H x v
 | [],_,_,h=>by cases h
 | (g,u)::fs,ds,r,h=>by
  cases r with
  | @cons t ts _ _ r1 r2 =>
   show ∃ v,(match f == g with | true=>some u | false=>fs.lookup f)=some v/\_
   have h':(match f == g with | true=>some t | false=>((fs.map (·.1)).zip ts).lookup f)=some x:=h
   cases hb:f == g with
   | true =>
    rw [hb] at h'
    cases h'
    exact ⟨u,rfl,r1⟩
   | false =>
    rw [hb] at h'
    exact BG r2 h'
theorem yY {f:Str}:∀ {fs:List (Str×V)},f∉fs.map (·.1)->fs.lookup f=none
 | [],_=>rfl
 | (g,u)::fs,h=>by
  have hg:(f == g)=false:=beq_eq_false_iff_ne.mpr λz=>h (by rw [z];exact aU ..)
  show (match f == g with | true=>some u | false=>fs.lookup f)=none
  rw [hg]
  exact yY λz=>h (aN _ z)
section
variable {X:Cx} {o e:Expr} {es:List Expr} {te:ET} {pos apos:Pos}
def aJ2 (K:aD) (f:Str) (te:ET):ET:=λσ Q=>te σ λd=>∃ (C:Addr) (ns:List Str) (ds:List D) (x:D),d=J4 C ns ds/\P6 K C/\mN K C f/\(ns.zip ds).lookup f=some x/\Q x
theorem yE {K:aD} {f:Str} (hK:X.K=K) (he:hU X e te) (hb:attributeBase e f X.env (eval e X.env)=eval e X.env:=by rfl):hU X (.Attribute e f pos) (aJ2 K f te):=by
 subst hK
 obtain ⟨v,p,r⟩:=he
 refine ⟨_,aCk p hb,λB p0 H ps σT σ Q QV o h k=>r B p0 H ps σT σ _ _ o h λd x H1 s1 r1 q1=>?_⟩
 obtain ⟨C,ns,ds,y,rfl,hc,hn,hl,q⟩:=q1
 obtain ⟨a,dx,fs,rfl,h1,rfl,h2⟩:=LV r1
 obtain ⟨w,hw,rw'⟩:=BG h2 hl
 exact ⟨a,C,dx,fs,w,rfl,bV _ _ h1,hc,hn,hw,k _ _ H1 s1 rw' q⟩
def aDh (C:Addr) (m:Str) (sp:oA) (te:ET) (t:AT):ET:=λσ Q=>te σ λd=>∃ (ns:List Str) (ds:List D),d=J4 C ns ds/\m∉ns/\t σ λas=>sp (d::as) Q
theorem xD {C:Addr} {m:Str} {sp:oA} {t:AT} (he:hU X o te) (ha:xU X (e::es) t)
  (pc:∀ {v:TE} {ta:TA},PE X o v->PA X (e::es) ta->PE X (.Call (.Attribute o m apos) (e::es) [] pos) (YU C m (bX X.K sp) [] E0 v ta)):hU X (.Call (.Attribute o m apos) (e::es) [] pos) (aDh C m sp te t):=by
 obtain ⟨v,pe,re⟩:=he
 obtain ⟨va,pa,ra⟩:=ha
 refine ⟨_,pc pe pa,λB p0 H ps σT σ Q QV o h k=>re B p0 H ps σT σ _ _ o h λd x H1 s1 r1 q1=>?_⟩
 obtain ⟨ns,ds,rfl,hm,q1⟩:=q1
 obtain ⟨a,dx,fs,rfl,h1,rfl,h2⟩:=LV r1
 refine ⟨a,dx,fs,rfl,bV _ _ h1,yY hm,ra B p0 H1 ps σT σ _ _ (o.grow s1) q1 λas xs H2 s2 r2 q2=>?_⟩
 show bX X.K sp (.ref a::(xs++[])) H2 QV E0
 rw [fA]
 exact ⟨ps,J4 C (fs.map (·.1)) ds::as,Q,((o.grow s1).grow s2).live,.cons (r1.same (bO s2)) r2,q2,λd v H' s' r' q'=>k d v H' (s1.trans (s2.trans s')) r' q'⟩
end
end TL

namespace TL
open PySem PySem.Spec PyProof.Rows L2
section
variable {K:aD} {B B' H:Hp} {p0 ps:List Addr} {σT:List Sl} {σ:L2.St}
theorem Ok.less (o:Ok K B p0 H ps σT σ) (hs:bB B' B):Ok K B' p0 H ps σT σ where
 base:=hs.trans o.base
 sub:=o.sub
 live:=o.live
 len:=o.len
 val:=o.val
 own:=λi ts h=>let ⟨p,xs,h1,h2,h3,h4⟩:=o.own i ts h;⟨p,xs,h1,h2,bB.free' hs h3,h4⟩
 dis:=o.dis
 dc:=o.dc.to (λ_ _ _ h=>⟨h,rfl⟩) (λ_ _ a _ _=>⟨a,rfl⟩) (λ_ _ _ _ a b=>⟨bB.free' hs a,b⟩) (L2.bB.refl _)
theorem Ok.pokeI (o:Ok K B p0 H ps σT σ) {p C dx:Addr} {fs:List (Str×V)} {u:HO} (hp:p∈ps) (hB:B p=none) (he:H p=some (.ins C dx fs)) (hn:∀ (j:Nat) (hs:List Int) (kvs:List (D×D)),σT[j]?≠some (.dic hs kvs)):Ok K B p0 (fZ H p u) ps σT σ where
 base:=λb w e=>by
  rw [cG λz=>by rw [z,hB] at e;cases e]
  exact o.base b w e
 sub:=o.sub
 live:=λq hq=>by
  by_cases e:q=p
  ·subst e;rw [cO];simp
  ·rw [cG e];exact o.live q hq
 len:=o.len
 val:=λi d h=>by rw [gY hp];exact o.val i d h
 own:=λi ts h=>by
  rw [gY hp]
  obtain ⟨q,xs,h1,h2,h3,h4,h5,h6⟩:=o.own i ts h
  exact ⟨q,xs,h1,h2,h3,h4,by rw [cG λz=>by rw [z,he] at h5;cases h5];exact h5,h6⟩
 dis:=o.dis
 dc:=λi hs kvs h=>absurd h (hn i hs kvs)
theorem BB {f:Str} {y:V}:∀ {fs:List (Str×V)},f∉fs.map (·.1)->pP f y fs=fs++[(f,y)]
 | [],_=>rfl
 | (g,x)::r,h=>by
  have hg:¬ g=f:=λz=>h (by rw [<- z];exact aU ..)
  show (if g=f then (g,y)::r else (g,x)::pP f y r)=_
  rw [if_neg hg,BB λz=>h (aN _ z)]
  rfl
theorem GJ {N:List Str} {ds:List D} (j:Nat) (hs:List Int) (kvs:List (D×D)):(kF N ds)[j]?≠some (.dic hs kvs):=λh=>by
 have hm:=aV h
 unfold kF at hm
 rcases eP.mp hm with hm | hm
 ·obtain ⟨_,_,z⟩:=aQ.mp hm;cases z
 ·have z:=(List.mem_replicate.mp hm).2;cases z
end
abbrev SpI:=List D->(List D->Prop)->Prop
def wY (C:Addr) (ns:List Str) (K:aD) (sp:SpI):Sp:=λvs H Q _=>∃ (x dx:Addr) (rest:List V) (ps:List Addr) (ds:List D) (QD:List D->Prop),vs=.ref x::rest/\x∈ps/\H x=some (.ins C dx [])/\(∀ p∈ps,H p≠none)/\Reps K (mask H ps) ds rest/\sp ds QD /\
 ∀ (dsF:List D) (fs:List (Str×V)) (H':Hp),bB (mask H [x]) H'->H' x=some (.ins C dx fs)->fs.map (·.1)=ns->Reps K (mask H' ps) dsF (fs.map (·.2))->QD dsF->Q .non H'
abbrev NT:=(List (Str×D)->Prop)->List (Str×D)->List Sl->Prop
def PNt (X:Cx) (C:Addr) (st:List Stmt) (t:NT):Prop:=∃ ts:TS,CQ X st ts/\∀ (B:Hp) (p0:List Addr) (H:Hp) (ps:List Addr) (σT:List Sl) (σ:L2.St) (p dx:Addr) (fs:List (Str×V)) (fd:List (Str×D)) (Q:List (Str×D)->Prop) (DV:rT),
 Ok X.K B p0 H ps σT σ->(∀ (j:Nat) (hs:List Int) (kvs:List (D×D)),σT[j]?≠some (.dic hs kvs))->σ[0]?=some (some (.ref p))->p∈ps->B p=none->H p=some (.ins C dx fs)->fs.map (·.1)=fd.map (·.1)->Reps X.K (mask H ps) (fd.map (·.2)) (fs.map (·.2))->t Q fd σT ->
 (∀ (H':Hp) (fs':List (Str×V)) (fd':List (Str×D)),bB B H'->H' p=some (.ins C dx fs')->fs'.map (·.1)=fd'.map (·.1)->Reps X.K (mask H' ps) (fd'.map (·.2)) (fs'.map (·.2))->Q fd'->DV.nx σ H')->ts DV σ H
section
variable {X:Cx} {o e value:Expr} {es:List Expr} {te:ET} {pos pos':Pos} {C:Addr} {rest:List Stmt} {r:NT} {f:Str}
def aJd:NT:=λQ fd _=>Q fd
theorem aCv:PNt X C [] aJd:=⟨_,AB,λ_ _ H _ _ _ _ _ fs fd _ _ o _ _ _ _ hi hk rs h k=>k H fs fd o.base hi hk rs h⟩
def aGs (f:Str) (te:ET) (r:NT):NT:=λQ fd σ=>te σ λd=>fd.length<=100/\f∉fd.map (·.1)/\r Q (fd++[(f,d)]) σ
theorem wV (c:P6 X.K C) (hna:mN X.K C f) (ho:PE X o (oU 0)) (hv:hU X value te) (h2:PNt X C rest r) (hs:gT value (some (.Attribute o f pos')) pos.line X.env=pure false:=by rfl) :
  PNt X C (.Assign [.Attribute o f pos'] value pos::rest) (aGs f te r):=by
 obtain ⟨vv,pv,rv⟩:=hv
 obtain ⟨v2,p2,r2⟩:=h2
 refine ⟨_,lC (aCf ho pv hs) p2,λB p0 H ps σT σ p dx fs fd Q DV o hn h0 hp hB hi hk rs h k=>?_⟩
 refine rv B p0 H ps σT σ _ _ o h λd y H1 s1 r1 q1=>⟨.ref p,h0,p,C,dx,fs,rfl,s1 _ _ hi,c,hna,?_,?_⟩
 ·have:=congrArg iG hk
  rw [aB,aB] at this
  have:=q1.1
  omega
 ·have hf:f∉fs.map (·.1):=by rw [hk];exact q1.2.1
  have o2:=(o.grow s1).pokeI (u:=.ins C dx (pP f y fs)) hp hB (s1 _ _ hi) hn
  have hm:mask (fZ H1 p (.ins C dx (pP f y fs))) ps=mask H1 ps:=gY hp
  refine r2 B p0 _ ps σT σ p dx (pP f y fs) (fd++[(f,d)]) Q DV o2 hn h0 hp hB cO ?_ ?_ q1.2.2 k
  ·rw [BB hf,bT,bT,hk];rfl
  ·rw [hm,BB hf,bT,bT]
   exact (rs.same (bO s1)).append (.cons r1 .nil)
theorem fnI {P:bF} {w:World} {K:aD} {mg:Str->Option Value} {base:Heap} {x qual:Str} {st:Stmt} {f:Addr} {fd:dI} {N pn:List Str} {k:Nat} {sp:SpI} {ns:List Str} (F:P5 K x qual st f fd) (S:dB N pn (bQ st)) (len:∀ ds Q,sp ds Q->ds.length+1=pn.length)
  (hbody:∀ (cdv:Value) (A:Around) (outer:List Env) (s:Shared) (H:Hp) (E:XK),Room k (A.deeper (envOfC qual (bQ st) s.heap.objs.size f cdv))->∀ (z:D) (ds:List D) (Q:List D->Prop),sp ds Q ->
   ∃ t,PNt (yF fP P w K mg base N qual (bQ st) f cdv A outer s H E).nox C (lN st) t/\t (λfd=>fd.map (·.1)=ns/\Q (fd.map (·.2))) [] (kF N (z::ds))):cL P w K mg base fP (k+1) f fd pn (wY C ns K sp):=by
 refine F.ok S (λvs H Q E h=>?_) λcdv A outer s H vs Q E hr h=>?_
 ·obtain ⟨x,dx,rest,ps,ds,QD,rfl,_,_,_,r,q,_⟩:=h
  rw [cI,<- r.length];exact len ds QD q
 ·obtain ⟨x,dx,rest,ps,ds,QD,rfl,hx,hi,live,r,q,k⟩:=h
  obtain ⟨t,⟨ts,p,rd⟩,h⟩:=hbody cdv A outer s H E hr (.dict [(.str "@",.list [.int (x:Nat)])]) ds QD q
  have o0:Ok K H ps H ps (kF N (.dict [(.str "@",.list [.int (x:Nat)])]::ds)) (L2.pA N (.ref x::rest)):=qG live (.cons (.addr []) r)
  refine ⟨ts,p,rd (mask H [x]) ps H ps _ _ x dx [] [] _ _ (o0.less bV) GJ rfl hx (if_pos (aU ..)) hi rfl .nil h λH' fs' fd' s' hi' hk' rs' q'=>?_⟩
  exact k _ fs' H' s' hi' (hk'.trans q'.1) rs' q'.2
def aHh (C:Addr) (ns:List Str) (sp:SpI) (t:AT):ET:=λσ Q=>t σ λds=>sp ds λfs=>Q (J4 C ns fs)
theorem XV {ns:List Str} {sp:SpI} {x:Str} {p:Pos} {t:AT} (ha:xU X (e::es) t) (pc:∀ {ta:TA},PA X (e::es) ta->PE X (.Call (.Name x p) (e::es) [] pos) (YV C (wY C ns X.K sp) [] E0 ta)):hU X (.Call (.Name x p) (e::es) [] pos) (aHh C ns sp t):=by
 obtain ⟨v,pa,ra⟩:=ha
 refine ⟨_,pc pa,λB p0 H ps σT σ Q QV o h k=>ra B p0 H ps σT σ _ _ o h λds xs H1 s1 r1 q1=>λx dx hx hdx hne=>?_⟩
 show wY C ns X.K sp (.ref x::(xs++[])) _ _ E0
 rw [fA]
 have live:=(o.grow s1).live
 have hxps:x∉ps:=iC live hx
 have h1x:fZ H1 dx (.own x) x=none:=by rw [cG (Ne.symm hne)];exact hx
 have hm:mask (fZ (fZ H1 dx (.own x)) x (.ins C dx [])) (x::ps)=mask (fZ H1 dx (.own x)) ps:=kH h1x
 refine ⟨x,dx,xs,x::ps,ds,_,rfl,aU ..,cO,λq hq=>?_,?_,q1,λdsF fs H' s' hx' hns rs qf=>⟨rfl,?_⟩⟩
 ·by_cases e:q=x
  ·subst e;rw [cO];simp
  ·rw [cG e]
   rcases aZ.mp hq with z | z
   ·exact absurd z e
   ·by_cases e2:q=dx
    ·subst e2;rw [cO];simp
    ·rw [cG e2];exact live q z
 ·rw [hm];exact r1.same (bO (dF hdx))
 ·subst hns
  refine k _ _ H' (s1.trans λb u eb=>s' b u ?_) (.ins (nT hxps hx') (rs.same (iN λq hq=>aN _ hq))) qf
  have nx:b≠x:=λz=>by rw [z,hx] at eb;cases eb
  have nd:b≠dx:=λz=>by rw [z,hdx] at eb;cases eb
  unfold mask
  rw [if_neg (by simpa using nx),cG nx,cG nd];exact eb
end
section
variable {X:Cx}
def gP4 (i j k l:Nat):GT:=λd σ Q=>∃ a b c e,d=.tuple [a,b,c,e]/\Q ((((σ.set i (.val a)).set j (.val b)).set k (.val c)).set l (.val e))
theorem MQ {i j k l:Nat} {t:Expr} (h:PG X t (XN X.K 4 (uV (jE i) (uV (jE j) (uV (jE k) (uV (jE l) XO)))))):CT X t (gP4 i j k l) :=
 ⟨_,h,λB p0 H ps σT σ d v Q QV o r h k=>by
  obtain ⟨a,b,c,e,rfl,h⟩:=h
  cases r with
  | @tuple p xs _ hq r =>
   cases r with
   | cons ra r =>
    cases r with
    | cons rb r =>
     cases r with
     | cons rc r =>
      cases r with
      | cons re r =>
       cases r
       exact ⟨_,_,rfl,bB.seqT bV hq,rfl,_,_,rfl,_,_,rfl,_,_,rfl,_,_,rfl,rfl,k _ _ ((((o.set ra).set rb).set rc).set re) (λn=>jV (jV (jV (jV n _ _) _ _) _ _) _ _) h⟩⟩
end
end TL

namespace L2
open PySem PySem.Spec PyProof.Rows TL
def aHx (K:aD) (l:Addr) (n:Nat):It :=
 ⟨λi H=>i<n/\∃ xs,mK K H l xs/\xs.length=n,λi H v H'=>H'=H/\∀ xs,mK K H l xs->xs[n-1-i]?=some v,λi _=>n<=i⟩
theorem QL {P:bF} {w:World} {K:aD} {tg:Expr} (it l:Addr) (n:Nat):CP P w K tg (aHx K l n) [it] it (λi h=>i<=n/\h.IsRevIter it l ((n:Int)-1-(i:Int))) where
 mem:=by simp
 obj:=λi h st b hb=>by
  have e:b=it:=by simpa using hb
  subst e
  obtain ⟨_,o,e,c,d⟩:=st
  exact ⟨o,e,λv z=>by rw [d] at z;cases z⟩
 keep:=λi h h' st k=>⟨st.1,st.2.at λo x=>k it (by simp) o x⟩
 item:=by
  intro X hP hw hK hc i pins s σ H E I hf st hg
  subst hP hw hK
  obtain ⟨hi,xs,hq,hn⟩:=hg
  obtain ⟨hle,hit⟩:=st
  obtain ⟨its,rv,p,hz⟩:=I.list hq
  obtain ⟨f0,f1,f2,f3,f4,f5⟩:=hf it (by simp)
  have hx:xs[n-1-i]?=some (xs[n-1-i]'(by omega)):=aH (by omega)
  obtain ⟨u,hu,ru⟩:=rv.get hx
  have e:(n:Int)-1-(i:Int)=((n-1-i:Nat):Int):=by omega
  rw [e] at hit
  refine wpAny_pyNext_rev_item hit p.isList (x:=u) (by simpa using hu) λh' st' sb=>?_
  have I1:dP X pins σ H { s with heap:=h' }:=I.turned (t':=s.toks) (λb o hb e=>(sb.2 b hb).trans e) f0 f1 f3 f4 f5
  have e2:((n-1-i:Nat):Int)-1=(n:Int)-1-((i+1:Nat):Int):=by omega
  rw [e2] at st'
  obtain ⟨o',e',c',d'⟩:=id st'
  exact ⟨_,rfl,DQ (s:={ s with heap:=h' }) e' c' d' (by decide) ⟨_,H,I1,ru,⟨rfl,λys hy=>by rw [I.list_inj hy hq];exact hx⟩,⟨by omega,st'⟩,λb hb=>(hf b hb).1⟩⟩
 done:=by
  intro X hP hw hK hc i pins s σ H E I hf st hg
  subst hP hw hK
  obtain ⟨hle,hit⟩:=st
  have hi:i=n:=aBc hle hg
  subst hi
  obtain ⟨f0,f1,f2,f3,f4,f5⟩:=hf it (by simp)
  have e:(i:Int)-1-(i:Int)=-1:=by omega
  rw [e] at hit
  exact wpAny_pyNext_rev_end (I.ok.hd hc) hit λh' eb=>⟨rfl,I.turned (t':=s.toks) (λb o hb e=>eb b o hb e) f0 f1 f3 f4 f5⟩
 self:=λ_ _ _ _ _ st h=>wpAny_pyIter_revIter st.2 h
theorem CO:bootBuiltins "reversed"=some (.type "reversed"):=by decide +kernel
def aAt (K:aD) (ta:TA):TI:=λσ H R=>ta σ H λvs H1=>∃ l xs,vs=[.ref l]/\mK K H1 l xs/\R (aHx K l xs.length) H1
section
variable {X:Cx} {tg:Expr}
theorem aCg {a:Expr} {ta:TA} {p pos:Pos} (hg:Gl X "reversed") (hm:X.mg "reversed"=none) (ha:PA X [a] ta) (hs:bN [a] X.env=[(false,eval a X.env)]:=by rfl) :
  PI X tg (.Call (.Name "reversed" p) [a] [] pos) (aAt X.K ta):=by
 intro pins s σ H R I h
 refine Call_ (vJ I hg hm CO (PyProof.Rows.callWith_type1 (iX (ha pos pins s σ H _ I h) λus s1 ⟨vs,H1,I1,r1,q1⟩=>?_) (by rw [hs];rfl) (by rfl)))
 obtain ⟨l,xs,rfl,hq,q⟩:=q1
 cases r1 with
 | cons r rr =>
  cases rr
  cases r
  obtain ⟨us1,rv1,p1,hz1⟩:=I1.list hq
  have hl:=rv1.length
  refine call_reversed_list p1.isList ?_
  have hit:(s1.heap.push (revObj l ((us1.toArray.size:Int)-1))).IsRevIter s1.heap.objs.size l ((xs.length:Int)-1-((0:Nat):Int)):=⟨_,aR _ rfl,rfl,by rw [hl];simp [revObj]⟩
  refine wpAny_pyIter_revIter (s:={ s1 with heap:=_ }) hit ?_
  refine ⟨s1.heap.objs.size,[s1.heap.objs.size],_,_,H1,rfl,I1.kept (t':=s1.toks) λb o e=>aJ _ e,QL _ l xs.length,⟨cS _,hit⟩,λb hb=>?_,q⟩
  have e:b=s1.heap.objs.size:=by simpa using hb
  subst e
  exact I1.fpOk (aL _) (I1.hok.fresh (aL _))
end
def Itm (p:Addr) (es:List (Int×Addr×V)) (ep:Nat):It:=⟨λi H=>H p=some (rD p es ep)/\i<es.length,λi H x H'=>∃ q e,H q=none/\x=.ref q/\H'=fZ H q (.tup [.ref e.2.1,e.2.2])/\es[i]?=some e,λi H=>H p=some (rD p es ep)/\es.length<=i⟩
theorem TY {prog:bF} {w:World} {A:Around} {E:Value->Shared->Prop} {s:Shared} {elts:List Expr} {z:Nat} {pos:Pos} {it d:Addr} {i n ep:Nat} {x1 k v:Value} {u:Addr} {Q:Unit->Shared->Prop} (hit:xM s.heap it d i n ep (rawInt u) x1 k v)
  (hQ:∀ h',xM h' it d i n ep .none x1 k v->cQ it s.heap h'->Q () { s with heap:=h' }):wpAny (model prog w) A (letOwnedTupleGo (.Tuple elts z pos) (.ref it) (.ref u)) Q E s:=by
 unfold letOwnedTupleGo
 refine aA (wpAny_load hit ?_)
 show wpAny _ _ (if (["enumerate","zip","dict_itemiterator","dict_reverseitemiterator","odict_iterator","itertools.zip_longest","itertools.pairwise"].contains "dict_itemiterator" && (J2 d i n ep (rawInt u) x1 k v)[0]? == some (rawInt u))=true then _ else _) Q E s
 rw [if_pos (by simp [J2])]
 refine aA (wpAny_rule ?_)
 show wpAny _ _ (setField (.ref it) 0 .none) Q E s
 exact wpAny_setField_rec hit (by simp [J2]) λh' he' hs'=>hQ h' he' hs'
theorem IW {P:bF} {w:World} {K:aD} {elts:List Expr} {z:Nat} {pos:Pos} (p it:Addr) (es:List (Int×Addr×V)) (ep:Nat):CP P w K (.Tuple elts z pos) (Itm p es ep) [it] it (λi h=>∃ (f:Bool) (k v:Value),xM h it p i es.length ep .none (.bool f) k v) where
 mem:=by simp
 obj:=λi h st b hb=>by
  have e:b=it:=by simpa using hb
  subst e
  obtain ⟨f,k,v,e⟩:=st
  exact ⟨_,e,λv z=>by cases z⟩
 keep:=λi h h' st kk=>by
  obtain ⟨f,k,v,e⟩:=st
  exact ⟨f,k,v,kk it (by simp) _ e⟩
 item:=by
  intro X hP hw hK hc i pins s σ H E I hf st hg
  subst hP hw hK
  obtain ⟨hp,hi⟩:=hg
  obtain ⟨f,k,v,hit⟩:=st
  obtain ⟨⟨h1,h2,o,xs,h3,h4,h5,h6⟩,_⟩:=I.hok p _ hp
  have hsz:es.length=xs.size:=by rw [<- bP];exact Paired.length h6
  have hix:i<xs.size:=by omega
  rw [hsz] at hit
  have hitl:it<s.heap.objs.size:=bH hit
  refine J0 hit ⟨.inl rfl,_,rfl⟩ ⟨o,h3,h5⟩ hix λh' y0 y1 k' v' hit' hg' hy ht hz hkp=>⟨_,rfl,?_⟩
  obtain rfl:=hy rfl
  obtain ⟨_,f',rfl⟩:=hg'
  refine TY (s:={ s with heap:=h' }) hit' λh2' hit2 sb=>?_
  have kk:∀ c o,c∉[it]->s.heap.get? c=some o->h2'.get? c=some o:=λc o hc' x=>by
   have hc2:c≠it:=by simpa using hc'
   exact sb.extBut _ _ hc2 (hkp c o hc2 x)
  obtain ⟨en,e1,e2⟩:=BS (j:=i) (d:=xs[i]) h6 (by simp [hix])
  have hT:=sb.extBut _ _ (fS hitl) ht
  have I1:dP X pins σ (fZ H s.heap.objs.size (.tup [.ref en.2.1,en.2.2])) { s with heap:=h2' }:=I.turnedNew (t':=s.toks) hf kk (aL _) ⟨(by show 2<=bD;decide),[xs[i].key,xs[i].val],.cons e2.2.1 (.cons e2.2.2 .nil),⟨_,hT,rfl,_,rfl,rfl⟩⟩
  rw [<- hsz] at hit2
  refine ⟨.ref s.heap.objs.size,_,I1,rfl,⟨_,en,I.hok.fresh (aL _),rfl,rfl,e1⟩,⟨f',k',v',hit2⟩,λc hc'=>?_⟩
  have e:c=it:=by simpa using hc'
  subst e
  rw [cG (bS hitl)]
  exact (hf c hc').1
 done:=by
  intro X hP hw hK hc i pins s σ H E I hf st hg
  subst hP hw hK
  obtain ⟨hp,hi⟩:=hg
  obtain ⟨f,k,v,hit⟩:=st
  obtain ⟨⟨h1,h2,o,xs,h3,h4,h5,h6⟩,_⟩:=I.hok p _ hp
  have hsz:es.length=xs.size:=by rw [<- bP];exact Paired.length h6
  obtain ⟨f0,f1,f2,f3,f4,f5⟩:=hf it (by simp)
  rw [hsz] at hit
  exact OP (I.ok.hd hc) hit ⟨o,h3,h5⟩ (by omega) λh' eb=>⟨rfl,I.turned (t':=s.toks) (λb o hb e=>eb b o hb e) f0 f1 f3 f4 f5⟩
 self:=λ_ i _ _ _ st h=>by
  obtain ⟨f,k,v,e⟩:=st
  have hT:Shared.TypeIs _ (.ref it) "dict_itemiterator":=⟨_,e,rfl⟩
  refine wpAny_pyIter_slot hT uX (cW uX hT PySem.W.kcp_entry ?_ (PySem.F.args_dict_itemiterator_iter_1 _))
  show wpAny _ _ (ret (.ref it)) _ _ _
  exact aF ⟨_,rfl,"dict_itemiterator",_,hT,fC.lookup,h⟩
section
variable {X:Cx}
def aFh (R:It->Hp->Prop):VK:=λy H2=>∃ (v p:Addr) (es:List (Int×Addr×V)) (ep:Nat),y=.ref v/\H2 v=some (C0 v p)/\H2 p=some (rD p es ep)/\R (Itm p es ep) H2
def aGx (tl:TE):TI:=λσ H R=>tl σ H λx H1=>∃ (p:Addr) (es:List (Int×Addr×V)),x=.ref p/\FY H1 p es/\∀ v,H1 v=none->aFh R (.ref v) (fZ H1 v (C0 v p))
theorem RZ {l:Expr} {tl:TE} {elts:List Expr} {z:Nat} {tpos ap cp:Pos} (hl:PE X l tl) (hbase:attributeBase l "items" X.env (eval l X.env)=eval l X.env:=by rfl) (hline:(ap.endLine == cp.line)=true:=by rfl) :
  PI X (.Tuple elts z tpos) (.Call (.Attribute l "items" ap) [] [] cp) (aGx tl):=by
 intro pins s σ H R I h
 refine iX (N4 hl hbase hline pins s σ H (aFh R) I h) λv s1 ⟨x,H1,I1,r1,q1⟩=>?_
 obtain ⟨vw,p,es,ep,rfl,hv,hp,q⟩:=q1
 obtain rfl:v=Value.ref vw:=r1
 obtain ⟨⟨h1,h2,o,xs,h3,h4,h5,h6⟩,_⟩:=I1.hok p _ hp
 have hsz:es.length=xs.size:=by rw [<- bP];exact Paired.length h6
 refine J1 (I1.hok vw _ hv).1 ⟨o,h3,h5⟩ ?_
 refine ⟨s1.heap.objs.size,[s1.heap.objs.size],_,_,H1,rfl,I1.kept (t':=s1.toks) λb o e=>aJ _ e,IW p _ es ep,⟨false,.none,.none,by rw [hsz];exact aR _ rfl⟩,λb hb=>?_,q⟩
 have e:b=s1.heap.objs.size:=by simpa using hb
 subst e
 exact I1.fpOk (aL _) (I1.hok.fresh (aL _))
end
section
variable {prog:bF} {w:World} {A:Around} {E:Value->Shared->Prop} {s:Shared}
theorem FU {d:Addr} {xs:Array DictEntry} {ep:Nat} {Q:Value->Shared->Prop} (hd:(d == sysModules)=false) (hm:IB s.heap d xs ep) (hfit:(xs.size:Int)<2 ^ 63)
  (h:Q (.int xs.size (s.toks+1)) { s with toks:=s.toks+1+1 }):wpAny (model prog w) A (call (.builtin "len") [.ref d]) Q E s:=by
 obtain ⟨o,ho,hc,hdat⟩:=hm
 have hT:s.TypeIs (.ref d) "dict":=⟨o,ho,hc.1⟩
 have hme:MeetsIn prog w (Builtin.«dict.__len__» ⟨[.ref d],[]⟩) (λ_ R s=>(∃ o,s.heap.get? d=some o/\o.data=.dict xs ep)/\R (.ok (.ret (.int xs.size s.toks))) { s with toks:=s.toks+1 }) :=
  .of_wp λA R s ⟨⟨o,ho,hdat⟩,h⟩=>by
   show wpAny _ _ (dictSize d >>= _) _ _ s
   unfold dictSize
   refine aA (aA (wpAny_dictEntries ho hdat (aF ?_)))
   show wpAny _ _ (Builtin.Dict.pendingCount d >>= _) _ _ s
   refine aA (wpAny_pendingCount_other hd ?_)
   refine wpAny_ret_mkInt ?_
   rw [Nat.add_zero];exact h
 refine Calls.call_function_entry PySem.kind_len PySem.plain_len PySem.entry_len (PySem.args_len1 _) ?_
 unfold Builtin.«len»
 refine aA (m:=oneArg "len" _) (aF ?_)
 refine aA (m:=callSpecial? (.ref d) (Str.ofString "__len__")) (wpAny_callSpecial?_slot (name:=Str.ofString "__len__") hT F5
  (call_meetsIn F5 hT PySem.F.entry_dict_len (PySem.F.args_dict_len_1 _) hme ⟨⟨o,ho,hdat⟩,?_⟩))
 show wpAny _ _ _ _ _ { s with toks:=s.toks+1 }
 refine aA (wpAny_holding (aF ?_))
 refine aA (wpAny_letGo ?_)
 show wpAny _ _ (if ((xs.size:Nat):Int)<0 then _ else _) _ _ _
 rw [if_neg (by omega)]
 show wpAny _ _ (if ((xs.size:Nat):Int) >= 2 ^ 63 then _ else _) _ _ _
 rw [if_neg (by omega)]
 exact aA (wpAny_mkInt (aF ⟨_,rfl,h⟩))
end
section
variable {X:Cx}
theorem PC:kJ X (.builtin "len") (λxs H Q=>∃ (p:Addr) (es:List (Int×Addr×V)),xs=[.ref p]/\FY H p es/\Q (.int es.length) H):=by
 intro pins s σ H xs us Q I r h
 obtain ⟨p,es,rfl,hp,hQ⟩:=h
 obtain ⟨u,rfl,rx⟩:=rL r
 cases rx
 obtain ⟨h1,h2,o,ds,ep,h3,h4,h5,h6⟩:=FY.at I hp
 have hsz:es.length=ds.size:=by rw [<- bP];exact Paired.length h6
 have hL:bD=2 ^ 24:=rfl
 refine FU h1 ⟨o,h3,h4,h5⟩ (by omega) ?_
 rw [<- hsz]
 exact ⟨.int _,H,I.tok _,⟨_,rfl⟩,hQ⟩
end
section
variable {X:Cx} {o i value:Expr} {pos pos':Pos} {td ty tv:TE}
def aCa (K:aD) (w:World) (td ty tv:TE):TS:=λD' σ H=>tv σ H λv H1=>td σ H1 λx H2=>ty σ H2 λy H3=>∃ (p a:Addr) (es:List (Int×Addr×V)) (ks:List D) (k:D) (ep:Nat),x=.ref p/\y=.ref a/\H3 p=some (rD p es ep)/\DK K w H3 es ks/\gE K H3 k (.ref a)/\jL k/\es.length<bD/\D'.nx σ (fZ H3 p (mQ p (rR w es ks k a v)))
theorem RX (hu:X.A.units+9<cLine) (ho:PE X o td) (hi:PE X i ty) (hv:PE X value tv) (hs:gT value (some (.Subscript o i pos')) pos.line X.env=pure false) :
  PS X (.Assign [.Subscript o i pos'] value pos) (aCa X.K X.w td ty tv):=by
 intro pins s σ H D' I h
 refine wpAny_Assign_Subscript (iX (hv pins s σ H _ I h) λr s1 ⟨v,H1,I1,rv,q1⟩=>iX (ho pins s1 σ H1 _ I1 q1) λu s2 ⟨x,H2,I2,rx,q2⟩=>iX (hi pins s2 σ H2 _ I2 q2) λiv s3 ⟨y,H3,I3,ry,p,a,es,ks,k,ep,ex,ey,hp,dk,rk,ok,hl,q3⟩=>?_) hs
 subst ex ey
 obtain rfl:u=Value.ref p:=rx
 obtain rfl:iv=Value.ref a:=ry
 obtain ⟨h1,h2,xs,x1,x2⟩:=BV I3 (.inr ⟨ep,hp⟩) dk
 refine wpAny_setItem_heap (hsz:=by rw [<- Paired.length x1.2];exact h2) (show X.A.units+1+8<cLine by omega) (yC I3 rk ok) x2 λh' dd' hs'=>⟨σ,_,?_,q3⟩
 have hq:∃ q,h'.get? p=some q:=let ⟨q,_,_,e,_⟩:=dd';⟨q,e⟩
 have:=GX (w:=X.w) (k:=k) (a:=a) (v:=v) dk.len
 exact I3.write (x:=p) (e:=p) (by rw [hp];exact True.intro) (.inl rfl) (λb q hb z=>(hs'.2 b hb).trans z) hq (UH (ks:=yT ks k) h1 (by omega) (T4 x1 rv) (dk.put rk ok).hs dd')
theorem RU {st:Stmt} {ts:TS} (p:PS X st ts):PS X st (λDV σ H=>∃ (a:Addr) (es:List (Int×Addr×V)),H a=some (mQ a es)/\∀ ep,ts DV σ (fZ H a (rD a es ep))):=by
 intro pins s σ H D I ⟨a,es,ha,h⟩
 obtain ⟨⟨h1,h2,o,xs,ep,h3,h4,h5,h6⟩,_⟩:=I.hok a _ ha
 refine p pins s σ _ D ?_ (h ep)
 exact I.write (x:=a) (e:=a) (h':=s.heap) (t':=s.toks) (by rw [ha];exact True.intro) (.inl rfl) (λb u _ z=>z) ⟨o,h3⟩ (show iJ X.prog X.w _ _ _ (rD a es ep) from ⟨⟨h1,h2,o,xs,h3,h4,h5,h6⟩,⟨o,h3⟩,λh1 h2 ⟨a,b,o,xs,e,r⟩ k=>⟨a,b,o,xs,k _ e,r⟩⟩)
end
end L2
namespace TL
open PySem PySem.Spec PyProof.Rows L2
section
variable {K:aD} {H H':Hp}
theorem aB1 {a:Addr} {xs:List V} (e:∀ b o,H b=some o->(∃ φ,o=HO.ext φ)\/H' b=some o) (h:mK K H a xs):mK K H' a xs:=by
 rcases h with (h | ⟨o,h⟩) | h
 ·rcases e _ _ h with ⟨_,z⟩ | z
  ·cases z
  ·exact .inl (.inl z)
 ·rcases e _ _ h with ⟨_,z⟩ | z
  ·cases z
  ·exact .inl (.inr ⟨o,z⟩)
 ·exact .inr h
theorem V7 {a:Addr} {xs:List V} (e:∀ b o,H b=some o->(∃ φ,o=HO.ext φ)\/H' b=some o) (h:rW K H a xs):rW K H' a xs:=by
 rcases h with (h | ⟨o,h⟩) | h
 ·rcases e _ _ h with ⟨_,z⟩ | z
  ·cases z
  ·exact .inl (.inl z)
 ·rcases e _ _ h with ⟨_,z⟩ | z
  ·cases z
  ·exact .inl (.inr ⟨o,z⟩)
 ·exact .inr h
mutual
theorem gE.nd (e:∀ b o,H b=some o->(∃ φ,o=HO.ext φ)\/H' b=some o):∀ {d:D} {v:V},d.hasDict=false->gE K H d v->gE K H' d v
 | _,_,_,.none=>.none
 | _,_,_,.bool b=>.bool b
 | _,_,_,.int i=>.int i
 | _,_,_,.str x=>.str x
 | _,_,h,.list q r=>.list (aB1 e q) (Reps.nd e (by simpa only [eZ] using h) r)
 | _,_,h,.tuple q r=>.tuple (V7 e q) (Reps.nd e (by simpa only [eZ] using h) r)
 | _,_,h,.wild _=>by simp [eZ] at h
 | _,_,h,.exc _ _=>by simp [eZ] at h
 | _,_,h,.excA _ _ _=>by simp [eZ] at h
 | _,_,h,.tape _ _=>by simp [eZ] at h
 | _,_,h,.dct _ _ _ _=>by simp [eZ] at h
 | _,_,h,.addr _=>by simp [eZ] at h
 | _,_,h,.ins _ _=>by simp [eZ] at h
theorem Reps.nd (e:∀ b o,H b=some o->(∃ φ,o=HO.ext φ)\/H' b=some o):∀ {ds:List D} {vs:List V},iH ds=false->Reps K H ds vs->Reps K H' ds vs
 | _,_,_,.nil=>.nil
 | _,_,h,.cons r s=>by
  simp only [iH,NL] at h
  exact .cons (gE.nd e h.1 r) (Reps.nd e h.2 s)
end
end
section
variable {X:Cx} {a b e n:Expr} {es:List Expr} {ta tb te tk:ET} {pos:Pos}
def aGv (t:AT):IT:=λσ Q=>t σ λds=>∃ as,ds=[.list as]/\Q as.reverse
theorem aC5 {tg:Expr} {t:AT} {p p':Pos} (ha:xU X [a] t) (pz:∀ {ta:TA},PA X [a] ta->PI X tg (.Call (.Name "reversed" p) [a] [] p') (aAt X.K ta)):CS X tg (.Call (.Name "reversed" p) [a] [] p') (aGv t):=by
 obtain ⟨va,pa,ra⟩:=ha
 refine ⟨_,pz pa,λB p0 H ps σT σ Q R o h k=>ra B p0 H ps σT σ _ _ o h λds xs H1 s1 r1 q1=>?_⟩
 obtain ⟨as,rfl,q⟩:=q1
 cases r1 with
 | cons r1 r2 =>
  cases r2
  cases r1 with
  | @list p1 us _ hq1 rs1 =>
   have n1:=rs1.length
   refine ⟨p1,us,rfl,L2.bB.seq bV hq1,k _ _ H1 s1 ⟨λi H e hl=>?_,λi H e hl=>?_,λi H ps' y H' live e hl hy=>?_⟩ q⟩
   ·rw [oR] at hl
    show us.length<=i
    omega
   ·rw [oR] at hl
    exact ⟨by omega,us,L2.bB.seq e hq1,rfl⟩
   ·obtain ⟨rfl,h1⟩:=hy
    obtain ⟨d1,g1,t1⟩:=rs1.get' (h1 us (L2.bB.seq (e.trans bV) hq1))
    rw [oR] at hl
    refine ⟨L2.bB.refl _,d1,?_,t1.same e⟩
    rw [uG hl,n1];exact g1
def aC9 (w:World) (te:ET):IT:=λσ Q=>te σ λd=>∃ kvs,d=lY w kvs/\Q (kvs.map λkv=>.tuple [kv.1,kv.2])
theorem S8 {elts:List Expr} {z:Nat} {tpos ap cp:Pos} (he:hU X e te) (pz:∀ {v:TE},PE X e v->PI X (.Tuple elts z tpos) (.Call (.Attribute e "items" ap) [] [] cp) (aGx v)):CS X (.Tuple elts z tpos) (.Call (.Attribute e "items" ap) [] [] cp) (aC9 X.w te):=by
 obtain ⟨ve,pe,re⟩:=he
 refine ⟨_,pz pe,λB p0 H ps σT σ Q R o h k=>re B p0 H ps σT σ _ _ o h λd x H1 s1 r1 q1=>?_⟩
 obtain ⟨kvs,rfl,q⟩:=q1
 obtain ⟨p,es,ep,rfl,h1,h2,h3,h4,h5⟩:=wL r1
 have hp:=bV _ _ h1
 have live:=(o.grow s1).live
 refine ⟨p,es,rfl,.inr ⟨ep,hp⟩,λvw hvw=>⟨vw,p,es,ep,rfl,cO,(by rw [cG (jQ hp hvw)];exact hp),k _ _ _ (s1.trans (dF hvw)) ?_ q⟩⟩
 have hms:=bO (ps:=ps) (dF (o:=C0 vw p) hvw)
 have hlen:kvs.length=es.length:=by
  have:=congrArg iG h2
  simpa using this
 refine ⟨λi H e hi=>⟨e _ _ (hms _ _ h1),by rw [aB] at hi;omega⟩,λi H e hi=>⟨e _ _ (hms _ _ h1),by rw [aB] at hi;omega⟩,λi H qs y H' live' e hi hy=>?_⟩
 obtain ⟨q,en,hq,rfl,rfl,e1⟩:=hy
 rw [aB] at hi
 have k1:kvs[i]?=some kvs[i]:=aH hi
 have ms:=hms.trans e
 obtain ⟨x1,y1,y2⟩:=(h4.same ms).get (i:=i) (d:=kvs[i].1) (by rw [aI,k1];rfl)
 obtain ⟨x2,z1,z2⟩:=(h5.same ms).get (i:=i) (d:=kvs[i].2) (by rw [aI,k1];rfl)
 rw [aI,e1] at y1 z1
 cases y1
 cases z1
 exact ⟨dF hq,_,by rw [aI,k1];rfl,pB live' hq (.cons y2 (.cons z2 .nil))⟩
def aDk (i:Nat):ET:=λσ Q=>∃ hs kvs,σ[i]?=some (.dic hs kvs)/\Q (.int (kvs.length:Nat))
theorem T7 {i:Nat} {g:Expr} (pc:PE X (.Call g [n] [] pos) (QS (λxs H Q=>∃ (p:Addr) (es:List (Int×Addr×V)),xs=[.ref p]/\FY H p es/\Q (.int es.length) H) (uQ (oU i) EN))):hU X (.Call g [n] [] pos) (aDk i):=by
 refine ⟨_,pc,λB p0 H ps σT σ Q QV o h k=>?_⟩
 obtain ⟨hs,kvs,hi,q⟩:=h
 obtain ⟨⟨p,es,hσ,x⟩,u⟩:=o.isDic hi
 have hl:es.length=kvs.length:=by
  have:=x.vs.length
  simpa using this.symm
 exact ⟨.ref p,hσ,p,es,rfl,.inl x.obj,k _ _ H (L2.bB.refl H) (by rw [hl];exact .int _) q⟩
def JD (w:World) (i:Nat) (tk tv:ET):oW:=λDT σ=>∃ kvs,σ[i]?=some (rC w kvs)/\tv (σ.set i (.val (lY w kvs))) λv=>v.hasDict=false/\tk (σ.set i (.val (lY w kvs))) λk=>FX k/\(∀ kv∈kvs,jL kv.1)/\kvs.length<=100000/\DT.nx (σ.set i (rC w (vD kvs k v)))
theorem wD {i:Nat} {p2:Pos} {value:Expr} {tv:ET} (hu:X.A.units+9<cLine) (hn:PE X n (oU i)) (hk':hU X e tk) (hv:hU X value tv) (hs:gT value (some (.Subscript n e p2)) pos.line X.env=pure false:=by rfl) :
  xT X (.Assign [.Subscript n e p2] value pos) (JD X.w i tk tv):=by
 obtain ⟨vv,pv',rv⟩:=hv
 obtain ⟨vk,pk,rk⟩:=hk'
 refine ⟨_,RU (RX hu hn pk pv' hs),λB p0 H ps σT σ DT DV o h f=>?_⟩
 obtain ⟨kvs,hi,h⟩:=h
 obtain ⟨p,es,hσ,x,hsh⟩:=o.shareD hi
 obtain ⟨_,u⟩:=o.isDic hi
 refine ⟨p,es,x.obj,λep=>?_⟩
 obtain ⟨o1,s0⟩:=hsh ep
 refine rv B p0 _ _ _ σ _ _ o1 h λv y H1 s1 r1 q1=>⟨.ref p,hσ,?_⟩
 obtain ⟨hvn,q1⟩:=q1
 refine rk B p0 H1 _ _ σ _ _ (o1.grow s1) q1 λk z H2 s2 r2 q2=>?_
 obtain ⟨⟨kok,ys,rfl⟩,hok,hlen,q⟩:=q2
 obtain ⟨a,rfl⟩:=nB r2
 have s12:=s1.trans s2
 have hp2:H2 p=some (rD p es ep):=s12 _ _ cO
 -- the dict is the def's own again
 have back:∀ b u,mask H2 (ps.filter λq=>decide (q≠p)) b=some u->(∃ φ,u=HO.ext φ)\/mask (fZ H2 p (mQ p es)) ps b=some u:=λb u hb=>by
  by_cases e:b=p
  ·subst e
   have:=bV _ _ hb
   rw [hp2] at this
   cases this
   exact .inl ⟨_,rfl⟩
  ·refine .inr ?_
   unfold mask at hb |-
   by_cases hbp:b∈ps
   ·rw [if_pos (bY.mpr ⟨hbp,decide_eq_true e⟩)] at hb;cases hb
   ·rw [if_neg λz=>hbp (bY.mp z).1] at hb
    rw [if_neg hbp,cG e];exact hb
 have sO:bB H (fZ H2 p (mQ p es)):=λb u hb=>by
  by_cases e:b=p
  ·subst e;rw [cO,<- hb];exact x.obj.symm
  ·rw [cG e];exact s12 _ _ (by rw [cG e];exact hb)
 have o2:=o.grow sO
 have hm:=bO (ps:=ps) sO
 have ks2:=x.ks.same hm
 have vs2:=x.vs.same hm
 have ob2:fZ H2 p (mQ p es) p=some (mQ p es):=cO
 have dk2:=nZ (w:=X.w) x.hsh x.nd hok ks2
 have hl:es.length=kvs.length:=by
  have:=congrArg iG x.hsh
  simpa using this.symm
 have hL:bD=2 ^ 24:=rfl
 have r2':gE X.K (mask (fZ H2 p (mQ p es)) ps) (.tuple ys) (.ref a):=r2.nd back (mH (vL kok.1))
 have r1':gE X.K (mask (fZ H2 p (mQ p es)) ps) v y:=(r1.same (bO s2)).nd back hvn
 have dk3:=dk2.put (v:=y) r2' kok
 have dkF:DK X.K X.w H2 es (kvs.map (·.1)):=nZ (w:=X.w) x.hsh x.nd hok ((x.ks.same s0).same ((bO s12).trans bV))
 refine ⟨p,a,es,kvs.map (·.1),_,ep,rfl,rfl,hp2,dkF,r2.same bV,kok,by omega,?_⟩
 have eU:fZ H2 p (mQ p (rR X.w es (kvs.map (·.1)) (.tuple ys) a y))=fZ (fZ H2 p (mQ p es)) p (mQ p (rR X.w es (kvs.map (·.1)) (.tuple ys) a y)):=by
  funext b
  by_cases e:b=p
  ·subst e;rw [cO,cO]
  ·rw [cG e,cG e,cG e]
 rw [eU]
 obtain ⟨o3,no3⟩:=o2.forget (i:=i) hi
 have o4:=o3.poke (u:=mQ p (rR X.w es (kvs.map (·.1)) (.tuple ys) a y)) x.mem x.new ob2 no3
 have hm4:mask (fZ (fZ H2 p (mQ p es)) p (mQ p (rR X.w es (kvs.map (·.1)) (.tuple ys) a y))) ps=mask (fZ H2 p (mQ p es)) ps:=gY x.mem
 have o5:=o4.toDic (i:=i) (es:=rR X.w es (kvs.map (·.1)) (.tuple ys) a y) (hs:=(vD kvs (.tuple ys) v).map λkv=>lU X.w kv.1) (kvs:=vD kvs (.tuple ys) v) hσ (λj hs kws _=>no3 j hs kws)
  ⟨x.mem,x.new,x.out,cO,?_,?_,?_,?_⟩
 ·rw [zL] at o5
  exact f.nx _ ps _ σ o5 (by rw [hm4];exact hm) q
 ·rw [dk3.hs,<- nW kvs _ v,bG];rfl
 ·rw [nW];exact dk3.nd
 ·rw [hm4,nW];exact dk3.rep
 ·rw [hm4];exact GC _ vs2 r1'
end
end TL

namespace L2
open PySem PySem.Spec PyProof.Rows
open AutoSeq1 (wpAny_loadPart')
section
variable {prog:bF} {w:World} {A:Around} {E:Value->Shared->Prop} {s:Shared}
theorem HS {Q:List Value->Shared->Prop} {r:Addr} {a b c:Int} {t u v:Tok} {n:Nat} (hh:A.handled=none) (hr:IsRange s.heap r a b c t u v) (hsmall:Builtin.Range.small a b c=true) (hn:Builtin.Range.rangeSize a b c=n) (hlen:n<=2 ^ 24)
  (hQ:∀ h' tk acc,(∀ b o,s.heap.get? b=some o->h'.get? b=some o)->ItemsOf (λi v=>∃ t,v=.int (a+i*c) t) acc n->Q acc.toList { s with heap:=h',toks:=tk }):wpAny (model prog w) A (collect (.ref r)) Q E s:=by
 unfold collect
 refine aA (wpAny_runValue (codeAny_builtin AU ?_))
 rw [Around.under_plainId AS _]
 show wpAny _ A.in1 (newList [] >>= λl=>again (.builtin "list.__iadd__" ⟨[l,.ref r],[]⟩)) _ _ s
 refine aA (cN ?_)
 refine aF ⟨plainId_quiet lX _,codeAny_builtin EE ?_⟩
 rw [Around.under_plainId lX _]
 have hS:(s.heap.push { cls:=.type "list",data:=.seq ([]:List Value).toArray }).get? s.heap.objs.size=some { cls:=.type "list",data:=.seq #[] }:=aR _ rfl
 show wpAny _ A.in1 (Builtin.List.listExtendWith (.ref s.heap.objs.size) (.ref r) (.ref s.heap.objs.size)) _ _ _
 refine gH (wpAny_extend_range (A:=A) (R:=λr s'=>r=.ok (.ret (.ref s.heap.objs.size))/\∃ h' tk acc c',s'={ s with heap:=h',toks:=tk }/\(∀ b o,b≠s.heap.objs.size->(s.heap.push { cls:=.type "list",data:=.seq ([]:List Value).toArray }).get? b=some o->h'.get? b=some o)/\h'.get? s.heap.objs.size=some { cls:=.type "list",dict:=none,data:=.seq acc c',slots:=#[] }/\ItemsOf (λi v=>∃ t,v=.int (a+i*c) t) acc n)
  (s:={ s with heap:=s.heap.push { cls:=.type "list",data:=.seq ([]:List Value).toArray } }) hh (aJ _ hr) hsmall hn hlen s.heap.objs.size (.ref s.heap.objs.size) 0 hS λh' tk acc c' hk hS' hacc=>⟨rfl,h',tk,acc,c',rfl,hk,hS',hacc⟩) (λfin s' h=>?_) (λe s' h=>absurd h.1 (by simp))
 cases fin with
 | done f =>
  obtain ⟨e,h',tk,acc,c',rfl,hk,hS',hacc⟩:=h
  cases e
  (show wpAny _ A (load s.heap.objs.size >>= _) _ _ _;exact aA (wpAny_load hS' (aF (hQ h' tk acc (λb o e=>hk b o (bS (bH e)) (aJ _ e)) hacc))))
 | again c' =>
  exact ⟨h.1,codeAny_mono h.2 λr s'' hr=>by
   obtain ⟨rfl,h',tk,acc,c'',rfl,hk,hS',hacc⟩:=hr
   (show wpAny _ A (load s.heap.objs.size >>= _) _ _ _;exact aA (wpAny_load hS' (aF (hQ h' tk acc (λb o e=>hk b o (bS (bH e)) (aJ _ e)) hacc))))⟩
theorem zR (r:Addr) (a b c:Int) (t u v:Tok) (n:Nat) (hsmall:Builtin.Range.small a b c=true) (hn:Builtin.Range.rangeSize a b c=n) (hlen:n<=2 ^ 24) :
  Meets (Builtin.«tuple.__new__» ⟨[.type "tuple",.ref r],[]⟩)
   (λA R s=>A.handled=none/\IsRange s.heap r a b c t u v/\∀ (h':Heap) (tk:Nat) (acc:Array Value),(∀ b o,s.heap.get? b=some o->h'.get? b=some o)->ItemsOf (λi v=>∃ t,v=.int (a+i*c) t) acc n ->
    R (.ok (.ret (.ref h'.objs.size))) { s with heap:=h'.push { cls:=.type "tuple",data:=.seq acc },toks:=tk }) :=
 .of_wp λprog w A R s h=>by
  obtain ⟨hh,hr,h⟩:=h
  have hsub:=sub_tuple_self
  have hinit:=init_tuple_lookup
  have hmh:=madeHere_tuple
  have hT:s.TypeIs (.ref r) "range":=⟨_,hr,rfl⟩
  have hh1:A.in1.handled=none:=hh
  wp_walk using wpAny_loadPart' hr,wpAny_typeOf hT,HS (A:=A.in1) hh1 hr hsmall hn hlen
  intro h' tk acc hk hacc
  show wpAny _ _ (Builtin.Tuple.tupleExact acc.toList.toArray >>= λv=>ret v) _ _ _
  unfold Builtin.Tuple.tupleExact
  refine aA (cN ?_ (show acc.toList.toArray.size<=bD by simp only [Array.toArray_toList];rw [hacc.1,sizeLine_eq];omega))
  refine aF ⟨_,rfl,?_⟩
  have e:acc.toList.toArray=acc:=by simp
  rw [e]
  exact h h' tk acc hk hacc
end
section
variable {X:Cx}
theorem oK (hc:X.calm=true):kJ X (.type "tuple") (λxs H Q=>∃ (r:Addr) (j:Int),xs=[.ref r]/\H r=some (.ext (A7 r j))/\0<=j/\j<=100000/\∀ p,H p=none->Q (.ref p) (fZ H p (.tup ((cK j.toNat).map λ(k:Nat)=>V.int (k:Int))))):=by
 intro pins s σ H xs us Q I r h
 obtain ⟨r',j,rfl,hr,h0,h1,q⟩:=h
 obtain ⟨u,rfl,ru⟩:=rL r
 cases ru
 obtain ⟨⟨t,u,v,hR⟩,_,_⟩:iJ X.prog X.w H s.heap r' (.ext (A7 r' j)):=I.hok r' _ hr
 have hL:bD=2 ^ 24:=rfl
 have hn:Builtin.Range.rangeSize 0 j 1=((j.toNat:Nat):Int):=by rw [rangeSize_one];split<;>omega
 refine callType_new PySem.F.called_tuple (by decide) (PySem.F.typeCall_tuple_1 _) (PySem.F.newCall_tuple_1 _) (λobj=>PySem.F.args_object_init_2 obj _) PySem.F.entry_tuple_new
  (zR r' 0 j 1 t u v j.toNat (small_one (by decide) (by decide) (by omega) (by omega)) hn (by omega)) ⟨I.ok.hd hc,hR,λh' tk acc hk hit=>⟨⟨_,aR _ rfl,rfl⟩,?_⟩⟩
 have I1:dP X pins σ H { s with heap:=h',toks:=tk }:=I.kept (t':=tk) hk
 refine ⟨.ref h'.objs.size,_,I1.laid (t':=tk) (o:=.tup ((cK j.toNat).map λ(k:Nat)=>V.int (k:Int))) (λb o e=>aJ _ e) (aL _) ?_,rfl,q _ (I1.hok.fresh (aL _))⟩
 refine ⟨by rw [aB,eF];omega,acc.toList,?_,by simpa using B6.new h' acc⟩
 rw [List.range_eq_range']
 refine GB j.toNat 0 acc.toList (by rw [bP];exact hit.1) λi v hv=>?_
 obtain ⟨t,ht⟩:=hit.2 i v (by simpa using hv)
 exact ⟨t,by rw [ht];congr 1;omega⟩
end
end L2
namespace TL
open PySem PySem.Spec PyProof.Rows L2
section
variable {X:Cx} {a:Expr}
def aHg (t:AT):ET:=λσ Q=>t σ λds=>∃ n:Int,ds=[.int n]/\0<=n/\n<=100000/\Q (.tuple (iO n.toNat))
theorem FI {t:AT} {q1 q2 q3 q4:Pos} (ha:xU X [a] t) (pc:∀ {ta:TA},PA X [a] ta->PE X (.Call (.Name "tuple" q1) [.Call (.Name "range" q2) [a] [] q3] [] q4) (QS (λxs H Q=>∃ (r:Addr) (j:Int),xs=[.ref r]/\H r=some (.ext (A7 r j))/\0<=j/\j<=100000/\∀ p,H p=none->Q (.ref p) (fZ H p (.tup ((cK j.toNat).map λ(k:Nat)=>V.int (k:Int))))) (uQ (QS (λxs H Q=>∃ j:Int,xs=[.int j]/\∀ r,H r=none->Q (.ref r) (fZ H r (.ext (A7 r j)))) ta) EN))):hU X (.Call (.Name "tuple" q1) [.Call (.Name "range" q2) [a] [] q3] [] q4) (aHg t):=by
 obtain ⟨va,pa,ra⟩:=ha
 refine ⟨_,pc pa,λB p0 H ps σT σ Q QV o h k=>ra B p0 H ps σT σ _ _ o h λds xs H1 s1 r1 q1=>?_⟩
 obtain ⟨n,rfl,h0,h1,q⟩:=q1
 cases r1 with
 | cons r2 r3 =>
  cases r3
  cases r2
  refine ⟨n,rfl,λr hr=>⟨r,n,rfl,cO,h0,h1,λp hp=>?_⟩⟩
  have o1:=(o.grow s1).grow (dF (o:=.ext (A7 r n)) hr)
  exact k _ _ _ ((s1.trans (dF hr)).trans (dF hp)) (pB o1.live hp (GV _)) q
end
section
variable {X:Cx} {e:Expr} {es:List Expr} {te:ET} {x:Str} {pos pos' p:Pos}
theorem ss (i:Nat) (hN:X.N.Nodup) (h:hU X e te) (hi:X.N[i]?=some x:=by rfl) (hx:NC X.env.scope x:=by first | exact Or.inl rfl | exact Or.inr rfl) (hs:gT e (some (.Name x pos')) pos.line X.env=pure false:=by rfl)
  (hf:X.fn x=true\/X.env.scope.names.lookup x=some .local:=by first | exact .inl rfl | exact .inr rfl):xT X (.Assign [.Name x pos'] e pos) (wI i te):=QU (i:=i) h λh=>pQ hN hi hx h hs hf
theorem pn (i:Nat) (hN:X.N.Nodup) (hi:X.N[i]?=some x:=by rfl) (hx:NC X.env.scope x:=by first | exact Or.inl rfl | exact Or.inr rfl) (hf:X.fn x=true\/X.env.scope.names.lookup x=some .local:=by first | exact .inl rfl | exact .inr rfl):PG X (.Name x pos) (jE i):=L5 hN hi hx hf
theorem ca {k:Nat} {f:Addr} {fd:dI} {pn:List Str} {sp:oA} {t:AT} (F:cL X.prog X.w X.K X.mg X.base fP k f fd pn (bX X.K sp)) (hm:X.mg x=some (.ref f)) (hk:fU X.K (.ref f)=true) (hb:pH X.K fd pn []) (hr:Room k X.A) (ha:xU X (e::es) t)
  (hg:Gl X x:=by rfl) (hdb:(x == ("__debug__":Str))=false:=by decide) (he:bN (e::es) X.env=(false,eval e X.env)::bN es X.env:=by rfl) (hpl:(backTo pos (bN es X.env)).any (·.1)=false:=by rfl):hU X (.Call (.Name x p) (e::es) [] pos) (mS sp t) :=
 MX F hm hk hb hr ha λh=>tN F hr hg hm hk hb .nil sQ h hdb he hpl
theorem qA {N P:List Str} {sc:Scope} (h1:sc.kind=.function:=by rfl) (h2:sc.isCoroutine=false:=by rfl) (h3:sc.isGenerator=false:=by rfl) (h4:N.Nodup:=by decide +kernel) (h5:N.take P.length=P:=by rfl) (h6:∀ x∈P,sc.names.lookup x=some .local\/sc.names.lookup x=some .cell:=by decide +kernel) (h7:∀ y∈sc.names,y.2≠.free:=by decide +kernel):dB N P sc:=⟨h1,h2,h3,h4,h5,h6,h7⟩
end
end TL

namespace TL
open PySem PySem.Spec PyProof.Rows L2
def NB (B H:Hp) (xs:List V):Prop:=∀ x∈xs,∃ t c z ys,x=V.ref t/\H t=some (.tup [c,.ref z])/\H z=some (.lst ys)/\B z=none
theorem NB.same {B B' H H':Hp} {xs:List V} (s:bB H H') (hb:∀ z,B z=none->B' z=none) (h:NB B H xs):NB B' H' xs:=λx hx=>let ⟨t,c,z,ys,h1,h2,h3,h4⟩:=h x hx;⟨t,c,z,ys,h1,s _ _ h2,s _ _ h3,hb z h4⟩
def KU (B H:Hp) (v:V):Prop:=∃ p xs,v=V.ref p/\B p=none/\H p=some (.lst xs)/\NB B (mask H [p]) xs
theorem KU.later {B B' H H':Hp} {v:V} (hb:∀ z,B z=none->B' z=none) (s:bB H H') (h:KU B H v):KU B' H' v :=
 let ⟨p,xs,h1,h2,h3,h4⟩:=h;⟨p,xs,h1,hb _ h2,s _ _ h3,h4.same (bO s) hb⟩
def aD2 (B H:Hp) (v:V):Prop:=∃ r p w xs,v=V.ref r/\H r=some (.tup [.ref p,w])/\B p=none/\H p=some (.lst xs)/\KU B H w
theorem aD2.base (B B' H:Hp) (v:V) (hb:∀ z,B z=none->B' z=none) (h:aD2 B H v):aD2 B' H v :=
 let ⟨r,p,w,xs,h1,h2,h3,h4,h5⟩:=h;⟨r,p,w,xs,h1,h2,hb _ h3,h4,h5.later hb (L2.bB.refl _)⟩
abbrev XR:=Hp->Hp->V->Prop
def tP (R:XR) (K:aD) (sp:oA):Sp:=λvs H Q _=>∃ (ps:List Addr) (ds:List D) (QD:D->Prop),(∀ p∈ps,H p≠none)/\Reps K (mask H ps) ds vs/\sp ds QD/\∀ d v H',bB H H'->gE K (mask H' ps) d v->R H H' v->QD d->Q v H'
section
variable {X:Cx} {a b c e:Expr} {es:List Expr} {ta tb te:ET} {pos:Pos} {st:Stmt} {rest:List Stmt} {R:XR}
abbrev RT:=(D->Prop)->List Sl->Prop
def PRt (R:XR) (X:Cx) (st:List Stmt) (t:RT):Prop:=∃ ts:TS,CQ X st ts/\∀ (B:Hp) (p0:List Addr) (H:Hp) (ps:List Addr) (σT:List Sl) (σ:L2.St) (Q:D->Prop) (DV:rT),Ok X.K B p0 H ps σT σ->t Q σT ->
 (∀ d v H',bB B H'->gE X.K (mask H' p0) d v->R B H' v->Q d->DV.rt v H')->ts DV σ H
def WH (t:oW) (u:RT):RT:=λQ σ=>t { nx:=u Q,rt:=λ_=>False } σ
theorem ER {t:oW} {u:RT} (h1:xT X st t) (h2:PRt R X rest u):PRt R X (st::rest) (WH t u):=by
 obtain ⟨v1,p1,r1⟩:=h1
 obtain ⟨v2,p2,r2⟩:=h2
 refine ⟨_,lC p1 p2,λB p0 H ps σT σ Q DV o h k=>r1 B p0 H ps σT σ _ { DV with nx:=v2 DV } o h ⟨λH' ps' σT' σ' o' s' q'=>r2 B p0 H' ps' σT' σ' Q DV o' q' k,λ_ _ _ _ _ _ q'=>q'.elim,λ_ _ _ _ _ _ q'=>q'.elim,λ_ _ _ _ _ q'=>q'.elim,λ_ _ _ _ _ _ _ _ _ q'=>q'.elim,λ_ _ _ _ _ _ _ _ _ _ _ _ _ _ _ _ _ _ q'=>q'.elim,λ_ _ _ _ _ _ _ _ _ _ _ _ _ _ q'=>q'.elim,True.intro⟩⟩
theorem fnR {P:bF} {w:World} {K:aD} {mg:Str->Option Value} {base:Heap} {x qual:Str} {st:Stmt} {f:Addr} {fd:dI} {N pn:List Str} {k:Nat} {sp:oA} (F:P5 K x qual st f fd) (S:dB N pn (bQ st)) (len:∀ ds Q,sp ds Q->ds.length=pn.length)
  (hbody:∀ (cdv:Value) (A:Around) (outer:List Env) (s:Shared) (H:Hp) (E:XK),Room k (A.deeper (envOfC qual (bQ st) s.heap.objs.size f cdv))->∀ (ds:List D) (Q:D->Prop),sp ds Q ->
   ∃ t,PRt R (yF fP P w K mg base N qual (bQ st) f cdv A outer s H E).nox (lN st) t/\t Q (kF N ds)):cL P w K mg base fP (k+1) f fd pn (tP R K sp):=by
 refine F.ok S (λvs H Q E h=>?_) λcdv A outer s H vs Q E hr h=>?_
 ·obtain ⟨ps,ds,QD,_,r,q,_⟩:=h
  rw [<- r.length];exact len ds QD q
 ·obtain ⟨ps,ds,QD,live,r,q,k⟩:=h
  obtain ⟨t,⟨ts,p,rd⟩,h⟩:=hbody cdv A outer s H E hr ds QD q
  exact ⟨ts,p,rd H ps H ps _ _ _ _ (qG live r) h λd v H' s' r' x' q'=>k d v H' s' r' x' q'⟩
def PUt (R:XR) (X:Cx) (e:Expr) (t:ET):Prop:=∃ te:TE,PE X e te/\∀ (B:Hp) (p0:List Addr) (H:Hp) (ps:List Addr) (σT:List Sl) (σ:L2.St) (Q:D->Prop) (QV:VK),Ok X.K B p0 H ps σT σ->t σT Q ->
 (∀ d v H',bB H H'->gE X.K (mask H' ps) d v->R H H' v->Q d->QV v H')->te σ H QV
theorem VJ (hR:∀ (B B' H:Hp) (v:V),(∀ z,B z=none->B' z=none)->R B H v->R B' H v) {k:Nat} {f:Addr} {fd:dI} {pn:List Str} {sp:oA} {x:Str} {p:Pos} {t:AT} (F:cL X.prog X.w X.K X.mg X.base fP k f fd pn (tP R X.K sp)) (hm:X.mg x=some (.ref f)) (hk:fU X.K (.ref f)=true) (hb:pH X.K fd pn [])
  (hr:Room k X.A) (ha:xU X (e::es) t) (pc:∀ {ta:TA},PA X (e::es) ta->PE X (.Call (.Name x p) (e::es) [] pos) (C3 (tP R X.K sp) [] E0 ta)):PUt R X (.Call (.Name x p) (e::es) [] pos) (mS sp t):=by
 obtain ⟨v,pa,ra⟩:=ha
 refine ⟨_,pc pa,λB p0 H ps σT σ Q QV o h k=>ra B p0 H ps σT σ _ _ o h λds xs H1 s1 r1 q1=>?_⟩
 show tP R X.K sp (xs++[]) H1 QV E0
 rw [fA]
 exact ⟨ps,ds,Q,(o.grow s1).live,r1,q1,λd v H' s' r' x' q'=>k d v H' (s1.trans s') r' (hR _ _ _ _ (λz hz=>bB.free' s1 hz) x') q'⟩
theorem KU.base (B B' H:Hp) (v:V) (hb:∀ z,B z=none->B' z=none) (h:KU B H v):KU B' H v:=h.later hb (L2.bB.refl _)
theorem aHc {t:ET} (h:PUt R X e t):hU X e t:=by
 obtain ⟨v,p,r⟩:=h
 exact ⟨_,p,λB p0 H ps σT σ Q QV o h k=>r B p0 H ps σT σ Q QV o h λd v H' s' r' _ q'=>k d v H' s' r' q'⟩
end
end TL

namespace L2
open PySem PySem.Spec PyProof.Rows
inductive nM:List (Int×Value)->List Nat->Prop where
 | nil:nM [] []
 | cons (k:Nat) (t:Tok) {es:List (Int×Value)} {l:List Nat}:nM es l->nM (((k:Int),.int k t)::es) (k::l)
theorem nM.len {es:List (Int×Value)} {l:List Nat} (h:nM es l):es.length=l.length:=by
 induction h with
 | nil=>rfl
 | cons k t _ ih=>simp [ih]
theorem nM.app {es fs:List (Int×Value)} {l m:List Nat} (h:nM es l) (g:nM fs m):nM (es++fs) (l++m):=by
 induction h with
 | nil=>exact g
 | cons k t _ ih=>exact .cons k t ih
theorem nM.take {es:List (Int×Value)} {l:List Nat} (h:nM es l):∀ n,nM (es.take n) (l.take n):=by
 induction h with
 | nil=>intro n;cases n<;>exact .nil
 | cons k t _ ih=>intro n;cases n with
  | zero=>exact .nil
  | succ n=>exact .cons k t (ih n)
theorem nM.drop {es:List (Int×Value)} {l:List Nat} (h:nM es l):∀ n,nM (es.drop n) (l.drop n):=by
 induction h with
 | nil=>intro n;cases n<;>exact .nil
 | cons k t h ih=>intro n;cases n with
  | zero=>exact .cons k t h
  | succ n=>exact ih n
section
variable {prog:bF} {w:World}
theorem nM.find {es:List (Int×Value)} {l:List Nat} (h:nM es l) (k:Nat):(es.findIdx? λe=>(intKind prog w).is (k:Int) e.2)=l.findIdx? (· == k):=by
 induction h with
 | nil=>rfl
 | cons m t h ih =>
  rw [QA,QA,ih]
  have e:(intKind prog w).is (k:Int) (.int m t)=(m == k):=by
   show Value.isInt (k:Int) (.int m t)=_
   by_cases q:m=k
   ·subst q
    rw [show (m == m)=true by simp]
    exact intKind_is prog w (m:Int) t
   ·rw [show (m == k)=false by simpa using q,zP]
    intro z
    obtain ⟨u,z⟩:=Value.isInt_shape z
    injection z with z _
    exact q (by omega)
  rw [e]
end
section
variable {prog:bF} {w:World} {A:Around} {E:Value->Shared->Prop} {s:Shared}
theorem stored {h:Heap} {a:Addr} {o:Obj} {es es':Array (Int×Value)} {ep:Nat} {t t':SetTable} (ho:h.get? a=some o) (hd:o.data=.set es ep t) :
  (h.update a (Obj.putSet es' t')).get? a=some { o with data:=.set es' (ep+1) t' }:=by
 have:=eM (Obj.putSet es' t') ho (by rw [putSet_of es' t' hd];rfl)
 rw [putSet_of es' t' hd] at this;exact this
end
def dQ (w:World):Bool:=w.params.followText "set-order"
section
variable {prog:bF} {w:World} {A:Around} {E:Value->Shared->Prop} {s:Shared}
theorem GR (a:Value) {Q₁:Value->Shared->Prop} (h:Q₁ (.ref s.heap.objs.size) { s with heap:=s.heap.push { cls:=.type "set",dict:=none,data:=.set #[] 0 (.fresh 0 0 (!dQ w)) } }) :
  codeAny (model prog w) A (.call (.builtin "set.__new__") ⟨[.type "set",a],[]⟩) (wants Q₁ E) s:=by
 refine codeAny_of_tree ?_
 show wpAny _ A.in1 (do checkBuiltinCall "set.__new__" ⟨[.type "set",a],[]⟩;again (.builtin "set.__new__" ⟨[.type "set",a],[]⟩)) _ _ s
 refine aA (wpAny_of_eq (PySem.F.newCall_set_1 a) (aF ⟨plainId_quiet F6 _,codeAny_builtin PySem.F.entry_set_new ?_⟩))
 rw [Around.under_plainId F6 _]
 unfold Builtin.«set.__new__» Builtin.Frozenset.newClass
 have z:=PySem.sub_set_self
 obtain ⟨hp,g,d,tk,os⟩:=s
 dsimp only
 wp_walk
 refine wpAny_askSetting (aF ?_)
 dsimp only
 simp only [newObj]
 exact aA (wpAny_alloc (aF (aF h)))
end
theorem eX:Slot "set_iterator" "__next__" "set_iterator.__next__" :=
 Slot.of (owner:="set_iterator") (n:="__next__") (by rw [typeLookup_type,builtinLookup_eq_fast];kernel_rfl) (by decide +kernel) (by decide +kernel) (by decide +kernel) (.inl (by decide +kernel)) (by rw [isSubtype_type];kernel_rfl)
theorem lK:Slot "set_iterator" "__iter__" "set_iterator.__iter__" :=
 Slot.of (owner:="set_iterator") (n:="__iter__") (by rw [typeLookup_type,builtinLookup_eq_fast];kernel_rfl) (by decide +kernel) (by decide +kernel) (by decide +kernel) (.inl (by decide +kernel)) (by rw [isSubtype_type];kernel_rfl)
theorem kU:entryFor table "set_iterator.__next__"=some Builtin.«set_iterator.__next__»:=entryFor_of_tree (by kernel_rfl)
theorem qK:entryFor table "set_iterator.__iter__"=some Builtin.«dict_keyiterator.__iter__»:=entryFor_alias (id':="dict_keyiterator.__iter__") (by kernel_rfl) (by first | rfl | decide +kernel) (by decide +kernel) (by kernel_rfl)
theorem sV:entryFor table "set.__iter__"=some Builtin.«frozenset.__iter__»:=entryFor_alias (id':="frozenset.__iter__") (by kernel_rfl) rfl (by decide +kernel) (by kernel_rfl)
theorem lO (a:Value):argsOk "set_iterator.__next__" ⟨[a],[]⟩:=by unfold argsOk;kernel_rfl
theorem rO (a:Value):argsOk "set_iterator.__iter__" ⟨[a],[]⟩:=by unfold argsOk;kernel_rfl
def uK (w:World) (a:Addr) (ep:Nat) (es:Array (Int×Value)):Array (Int×Value):=if dQ w=true then pickOrder (w.params.setOrder a ep) es else es
theorem BR {α:Type} {l:List α} {i:Nat} (h:i<l.length):fM (l[i]::l.eraseIdx i) l:=by
 have e:l=l.take i++l[i]::l.drop (i+1):=by rw [<- List.drop_eq_getElem_cons h,K4]
 rw [List.eraseIdx_eq_take_drop_succ]
 conv=>rhs;rw [e]
 exact List.perm_middle.symm
theorem L4 {α:Type} (next:Nat->Nat):∀ (n k:Nat) (left:List α) (out:Array α),left.length=n->fM (pickOrder.go next n k left out).toList (out.toList++left)
 | 0,k,left,out,h=>by
  have:left=[]:=jM.mp h
  subst this
  unfold pickOrder.go
  simp
 | n+1,k,left,out,h=>by
  have hlt:next k % left.length<left.length:=jY _ (by omega)
  unfold pickOrder.go
  rw [aH hlt]
  dsimp only
  refine (L4 next n (k+1) _ _ (by rw [EH hlt];omega)).trans ?_
  rw [yO,qP]
  exact fM.append_left _ (BR hlt)
theorem wQ (w:World) (a:Addr) (ep:Nat) (es:Array (Int×Value)):fM (uK w a ep es).toList es.toList:=by
 unfold uK
 split
 ·have:=L4 (w.params.setOrder a ep) es.size 0 es.toList #[] (by simp)
  exact this
 ·exact .rfl
theorem DZ:∀ {es:List (Int×Value)} {l:List Nat},nM es l->IntsAre (es.map (·.2)) (l.map gX)
 | _,_,.nil=>.nil
 | _,_,.cons k t r=>.cons (k:Int) t (DZ r)
theorem DY {l:List Nat} {es:List (Int×Value)} (h:nM es l) {fs:List (Int×Value)} (p:fM fs es):∃ m:List Nat,nM fs m/\fM m l:=by
 induction p generalizing l with
 | nil=>cases h;exact ⟨[],.nil,.rfl⟩
 | cons x p ih=>cases h with
  | cons k t r =>
   obtain ⟨m,hm,hp⟩:=ih r
   exact ⟨k::m,.cons k t hm,hp.cons k⟩
 | swap x y p=>cases h with
  | cons k t r=>cases r with
   | cons j u r=>exact ⟨_,.cons j u (.cons k t r),fM.swap ..⟩
 | trans p q ih1 ih2 =>
  obtain ⟨m,hm,hp⟩:=ih2 h
  obtain ⟨n,hn,hq⟩:=ih1 hm
  exact ⟨n,hn,hq.trans hp⟩
section
variable {prog:bF} {w:World} {A:Around} {E:Value->Shared->Prop} {s:Shared}
theorem CI {src:Source} {n:Nat} {Q:Nat->Shared->Prop} (hn:n≠0) (h:∀ i d,i<n->Q i { s with drawn:=d }):wpAny (model prog w) A (choose src n) Q E s:=by
 intro Γ p hΓ
 unfold choose
 rw [Sem.wp_choose]
 exact ⟨hn,aF (A:=A) (M:=model prog w) (E:=E) (h _ _ (jY _ (Nat.pos_of_ne_zero hn))) Γ p hΓ⟩
theorem BT {α:Type}:∀ (n:Nat) (xs:List α) (s:Shared) (Q:List α->Shared->Prop),xs.length=n->(∀ ys d,fM ys xs->Q ys { s with drawn:=d })->wpAny (model prog w) A (drawOrder n xs) Q E s
 | 0,xs,s,Q,hx,h=>by
  have:xs=[]:=jM.mp hx
  subst this
  exact aF (h [] s.drawn .rfl)
 | n+1,[],s,Q,hx,h=>by cases hx
 | n+1,x::xs,s,Q,hx,h=>by
  unfold drawOrder
  refine aA (CI (by simp) λi d hi=>?_)
  rw [aH hi]
  dsimp only
  refine aA (BT n ((x::xs).eraseIdx i) _ _ (by rw [EH hi];omega) λys d' hp=>aF (h _ d' ?_))
  exact (hp.cons _).trans (BR hi)
end
theorem dP.drawn {X:Cx} {pins:List (Addr×Obj)} {σ:List (Option V)} {H:Hp} {s:Shared} (I:dP X pins σ H s) (d:Drawn):dP X pins σ H { s with drawn:=d }:=⟨I.ok,I.os,I.bare,I.base,I.loc,I.cell,I.free,I.freeC,I.pin,I.hok,I.len⟩
abbrev uW (l:List Nat):Prop:=l.Pairwise (·<·)
def Cut (xs:Array Nat) (j r:Nat):Prop:=r<=xs.size/\(∀ i v,i<r->xs[i]?=some v->v<j)/\∀ i v,r<=i->xs[i]?=some v->j<=v
theorem wJ {xs:Array Nat} (h:uW xs.toList) {i k a b:Nat} (hik:i<k) (ha:xs[i]?=some a) (hb:xs[k]?=some b):a<b:=by
 rw [<- fQ] at ha hb
 obtain ⟨h1,rfl⟩:=aG.mp ha
 obtain ⟨h2,rfl⟩:=aG.mp hb
 exact List.pairwise_iff_getElem.mp h i k h1 h2 hik
theorem B3 {xs:Array Nat} (h:uW xs.toList) (j:Nat):∀ (fuel lo hi:Nat),hi-lo<=fuel->lo<=hi->hi<=xs.size->(∀ i v,i<lo->xs[i]?=some v->v<j)->(∀ i v,hi<=i->xs[i]?=some v->j<=v)->Cut xs j (SetTable.below.go xs j fuel lo hi)
 | 0,lo,hi,h1,h2,h3,h4,h5=>by
  obtain rfl:lo=hi:=by omega
  exact ⟨h3,h4,h5⟩
 | fuel+1,lo,hi,h1,h2,h3,h4,h5=>by
  unfold SetTable.below.go
  by_cases hlt:lo<hi
  ·rw [if_pos hlt]
   dsimp only
   have hm:(lo+hi) / 2<hi:=by omega
   have hm2:lo<=(lo+hi) / 2:=by omega
   generalize (lo+hi) / 2=mid at hm hm2
   have hme:xs[mid]?=some xs[mid]:=bM (by omega)
   rw [kE,hme,zJ]
   by_cases hv:xs[mid]<j
   ·rw [if_pos hv]
    refine B3 h j fuel (mid+1) hi (by omega) (by omega) h3 (λi v hi' e=>?_) h5
    rcases K3 i mid with q | q
    ·have:=wJ h q e hme;omega
    ·obtain rfl:i=mid:=by omega
     rw [hme] at e;cases e;exact hv
   ·rw [if_neg hv]
    refine B3 h j fuel lo mid (by omega) hm2 (by omega) h4 λi v hi' e=>?_
    rcases K3 mid i with q | q
    ·have:=wJ h q hme e;omega
    ·obtain rfl:i=mid:=by omega
     rw [hme] at e;cases e;omega
  ·rw [if_neg hlt]
   obtain rfl:lo=hi:=by omega
   exact ⟨h3,h4,h5⟩
theorem D6 {xs:Array Nat} (h:uW xs.toList) (j:Nat):Cut xs j (SetTable.below xs j) :=
 B3 h j xs.size 0 xs.size (by omega) (cS _) (aL _) (λi v z=>absurd z (oP _)) λi v z e=>by
  have:=(CZ.mp e).1;omega
def qE (t:SetTable) (i:Nat):Nat:=if i=0 then 0 else t.place.getD (i-1) 0+1
theorem KO {t:SetTable} (h:uW t.place.toList) {i:Nat} (hi:i<=t.place.size):SetTable.below t.place (qE t i)=i:=by
 obtain ⟨h1,h2,h3⟩:=D6 h (qE t i)
 generalize SetTable.below t.place (qE t i)=r at h1 h2 h3
 rcases VD r i with q | q | q
 ·have e1:t.place[r]?=some t.place[r]:=bM (by omega)
  have e2:t.place[i-1]?=some t.place[i-1]:=bM (by omega)
  have:=h3 r _ (aL _) e1
  unfold qE at this
  rw [if_neg (by omega),kE,e2,zJ] at this
  rcases K3 r (i-1) with z | z
  ·have:=wJ h z e1 e2;omega
  ·have:r=i-1:=by omega
   subst this;omega
 ·exact q
 ·have e1:t.place[i]?=some t.place[i]:=bM (by omega)
  have:=h2 i _ q e1
  unfold qE at this
  by_cases h0:i=0
  ·rw [if_pos h0] at this;omega
  ·have e2:t.place[i-1]?=some t.place[i-1]:=bM (by omega)
   rw [if_neg h0,kE,e2,zJ] at this
   have:=wJ h (show i-1<i by omega) e2 e1
   omega
structure mO (led:Bool) (t:SetTable) (n:Nat):Prop where
 fits:t.fits n=true
 rise:uW t.place.toList
 dum:t.dummies=#[]
 led:t.led=led
theorem mO.size {led:Bool} {t:SetTable} {n:Nat} (g:mO led t n):t.place.size=n:=by
 have:=g.fits
 unfold SetTable.fits at this
 rw [cJ] at this
 simpa using this.1
theorem TW (j:Nat):SetTable.has #[] j=false:=rfl
theorem yU {t:SetTable} (hd:t.dummies=#[]) {hA:Nat->Int} {h:Int} (hne:∀ i,hA i≠h):∀ (fuel:Nat) (p:SetTable.Probe) {m:SetTable.Met},p.dummy=none->SetTable.probe.go t hA h fuel p=some m->∃ j,m=.empty j none/\t.slot j=.empty
 | 0,p,m,_,e=>by cases e
 | fuel+1,p,m,hp,e=>by
  unfold SetTable.probe.go at e
  cases hs:t.slot p.j with
  | empty =>
   rw [hs] at e
   dsimp only at e
   cases e
   exact ⟨_,by rw [hp],hs⟩
  | dummy =>
   unfold SetTable.slot at hs
   rw [hd] at hs
   dsimp only at hs
   rw [TW] at hs
   split at hs
   ·cases hs
   ·rw [if_neg (by decide)] at hs;cases hs
  | live i =>
   rw [hs] at e
   dsimp only at e
   rw [if_neg (by simpa using hne i)] at e
   refine yU hd hne fuel _ ?_ e
   unfold SetTable.advance
   split
   ·exact hp
   ·exact hp
theorem KA {t:SetTable} (hd:t.dummies=#[]) {h:Int} {j:Nat} {b:Bool} (e:t.freeSlot h=some (j,b)):t.slot j=.empty/\b=false:=by
 unfold SetTable.freeSlot at e
 cases hp:t.probe (λ_=>h+1) h (t.probeStart h) with
 | none=>rw [hp] at e;cases e
 | some m =>
  obtain ⟨k,rfl,hk⟩:=yU hd (λ_=>by omega) _ _ rfl hp
  rw [hp] at e
  cases e
  exact ⟨hk,rfl⟩
theorem RO {t:SetTable} (h:uW t.place.toList) (hd:t.dummies=#[]) {j:Nat} (hs:t.slot j=.empty):uW (t.put j).1.place.toList/\(t.put j).1.dummies=#[]/\(t.put j).1.led=t.led:=by
 unfold SetTable.put
 dsimp only
 refine ⟨?_,by rw [hd];rfl,rfl⟩
 have hn:t.place[SetTable.below t.place j]?≠some j:=λz=>by
  unfold SetTable.slot at hs
  dsimp only at hs
  rw [z,if_pos (by simp)] at hs
  cases hs
 obtain ⟨h1,h2,h3⟩:=D6 h j
 generalize SetTable.below t.place j=p at hn h1 h2 h3
 rw [SetTable.toList_insertAt]
 have get:∀ i v,t.place.toList[i]?=some v->t.place[i]?=some v:=λi v e=>by rw [<- fQ];exact e
 refine List.pairwise_append.mpr ⟨h.sublist (zK ..),List.pairwise_cons.mpr ⟨λv hv=>?_,h.sublist (List.drop_sublist ..)⟩,λa ha b hb=>?_⟩
 ·obtain ⟨i,hi⟩:=bZ hv
  rw [jX] at hi
  have g:=get _ _ hi
  have:=h3 _ _ (by omega) g
  by_cases hi0:i=0
  ·subst hi0
   have:v≠j:=λz=>hn (by rw [<- z];exact g)
   omega
  ·have hpl:p<t.place.size:=by have:=(CZ.mp g).1;omega
   have e0:t.place[p]?=some t.place[p]:=bM hpl
   have:=wJ h (show p<p+i by omega) e0 g
   have:=h3 _ _ (aL _) e0
   omega
 ·obtain ⟨i,hi⟩:=bZ ha
  have hip:i<p:=by
   have:=(aG.mp hi).1
   rw [bC] at this;omega
  rw [F7 hip] at hi
  have l1:=h2 _ _ hip (get _ _ hi)
  rcases aZ.mp hb with rfl | hb
  ·exact l1
  ·obtain ⟨k,hk⟩:=bZ hb
   rw [jX] at hk
   have:=h3 _ _ (by omega) (get _ _ hk)
   omega
theorem qU (t:SetTable) (n:Nat):mO t.led (t.standIn n) n:=⟨SetTable.standIn_fits t n,by show uW (Array.range n).toList;rw [Array.toList_range];exact rX,rfl,rfl⟩
theorem HG {led:Bool} {t:SetTable} {es:Array (Int×Value)} (g:mO led t es.size) (h:Int) (x:Value):mO led (layNew t es h x).2.1 (layNew t es h x).1.size:=by
 unfold layNew
 cases e:t.freeSlot h with
 | none =>
  dsimp only
  have:=qU t (es.size+1)
  rw [g.led] at this
  simpa using this
 | some q =>
  obtain ⟨j,b⟩:=q
  obtain ⟨h1,rfl⟩:=KA g.dum e
  obtain ⟨r1,r2,r3⟩:=RO g.rise g.dum h1
  dsimp only
  generalize SetTable.insertAt es (t.put j).2 (h,x)=es1
  unfold SetTable.orStandIn
  by_cases hf:(t.put j).1.fits es1.size=true
  ·rw [if_pos hf];exact ⟨hf,r1,r2,r3.trans g.led⟩
  ·rw [if_neg hf]
   have:=qU (t.put j).1 es1.size
   rw [r3,g.led] at this;exact this
theorem JF {led:Bool} {t:SetTable} {es:Array (Int×Value)} (hl:t.led=led) (wanted:Nat):mO led (relayAll t es wanted).2.1 (relayAll t es wanted).1.size:=by
 unfold relayAll
 cases e:t.relaid (es.map (·.1)) wanted with
 | none=>dsimp only;rw [<- hl];exact qU t es.size
 | some q =>
  obtain ⟨t',order⟩:=q
  dsimp only
  have hq:uW t'.place.toList/\t'.dummies=#[]/\t'.led=t.led:=by
   unfold SetTable.relaid SetTable.laid at e
   cases e2:SetTable.layClean (SetTable.sizeAbove wanted-1) (es.map (·.1)) with
   | none=>rw [e2] at e;cases e
   | some ow =>
    rw [e2] at e
    cases e
    refine ⟨?_,rfl,rfl⟩
    show uW (zM _ (List.filterMap _ (cK _)))
    have:∀ (f:Nat->Option Nat) (l:List Nat),((l.filterMap λj=>(f j).map (j,·)).map (·.1)).Sublist l:=λf l=>by
     induction l with
     | nil=>exact .slnil
     | cons a l ih =>
      rw [eN]
      cases hf:f a with
      | none=>exact ih.cons a
      | some b=>exact ih.cons₂ a
    exact rX.sublist (this (λj=>ow.getD j none) _)
  by_cases hc:(coversAll order es.size && t'.fits (order.filterMap (es[·]?)).size)=true
  ·rw [if_pos hc]
   rw [cJ] at hc
   exact ⟨hc.2,hq.1,hq.2.1,hq.2.2.trans hl⟩
  ·rw [if_neg hc];rw [<- hl];exact qU t es.size
end L2

namespace L2
open PySem PySem.Spec PyProof.Rows
theorem J7:∀ k∈cK 64,hashInt (k:Int)=(k:Int):=by decide +kernel
section
variable {prog:bF} {w:World}
theorem nM.elemsG {es:List (Int×Value)} {l:List Nat} (h:nM es l):(∀ k∈l,k<64)->ElemsOf (intKind prog w) es:=by
 induction h with
 | nil=>intro _ e he;cases he
 | cons k t h ih =>
  intro hl e he
  rcases aZ.mp he with rfl | he
  ·exact ⟨⟨(k:Int),intKind_is _ _ _ _,(J7 k (kX.mpr (hl k (aU ..)))).symm⟩,rfl⟩
  ·exact ih (λz hz=>hl z (aN _ hz)) e he
end
def vT (h:Heap) (a:Addr) (l:List Nat) (led:Bool):Prop:=∃ o es ep t,h.get? a=some o/\o.ExactSet/\o.data=.set es ep t/\nM es.toList l/\mO led t es.size
theorem vT.at {h h':Heap} {a:Addr} {l:List Nat} {led:Bool} (x:vT h a l led) (k:∀ o,h.get? a=some o->h'.get? a=some o):vT h' a l led:=by
 obtain ⟨o,es,ep,t,ho,r⟩:=x
 exact ⟨o,es,ep,t,k o ho,r⟩
section
variable {prog:bF} {w:World} {A:Around} {E:Value->Shared->Prop} {s:Shared}
theorem DP {g:Bool->Sem Unit} (way:∀ (b:Bool) (s1:Shared) (q:Unit->Shared->Prop),q () s1->wpAny (model prog w) A (g b) q E s1) {a:Addr} {o:Obj} {es es1:Array (Int×Value)} {ep:Nat} {t t2:SetTable} {m1:List Nat} {led wd:Bool} {R:Option Bool->Shared->Prop}
  (ho:s.heap.get? a=some o) (hex:o.ExactSet) (hd:o.data=.set es ep t) (hE:nM es1.toList m1) (G:mO led t2 es1.size) (hz:es1.size<=bD)
  (h:∀ h' m,cQ a s.heap h'->vT h' a m led->m.Perm m1->R (some true) { s with heap:=h' }) :
  wpAny (model prog w) A (do
   storeSet a es1 t2
   if (!wd && t2.tooFull)=true then do
     g (relayAll t2 es1 (SetTable.grown es1.size)).2.2
     storeSet a (relayAll t2 es1 (SetTable.grown es1.size)).1 (relayAll t2 es1 (SetTable.grown es1.size)).2.1
     pure (some true)
    else pure (some true)) R E s:=by
 refine aA (wpAny_storeSet_of ho hd ?_ hz)
 have g1:=stored (es':=es1) (t':=t2) ho hd
 have b1:=cQ.update s.heap a (Obj.putSet es1 t2)
 cases hf:(!wd && t2.tooFull) with
 | true =>
  rw [if_pos rfl]
  have pm:=relayAll_perm t2 es1 (SetTable.grown es1.size)
  have gd:=JF (es:=es1) G.led (SetTable.grown es1.size)
  generalize relayAll t2 es1 (SetTable.grown es1.size)=L at pm gd |-
  obtain ⟨es2,t3,gv⟩:=L
  dsimp only at pm gd |-
  obtain ⟨m2,hE2,p2⟩:=DY hE pm
  have hz2:es2.size<=bD:=by
   have:=pm.length_eq
   rw [bP,bP] at this;omega
  refine aA (way _ _ _ (aA (wpAny_storeSet_of g1 rfl ?_ hz2)))
  have g2:=stored (es':=es2) (t':=t3) g1 rfl
  exact aF (h _ m2 (b1.trans (cQ.update _ a _)) ⟨_,es2,_,t3,g2,hex,rfl,hE2,gd⟩ p2)
 | false =>
  rw [if_neg (by decide)]
  exact aF (h _ m1 b1 ⟨_,es1,_,t2,g1,hex,rfl,hE,G⟩ (.refl _))
theorem TX {a:Addr} {l:List Nat} {led:Bool} {k:Nat} {u:Tok} {Q:Bool->Shared->Prop} (hS:vT s.heap a l led) (hk:k<64) (hl:∀ z∈l,z<64) (hz:l.length<1000)
  (h:∀ h' b m,cQ a s.heap h'->vT h' a m led->(k∈l->m=l)->(k∉l->m.Perm (l++[k]))->Q b { s with heap:=h' }) :
  wpAny (model prog w) A (setAddHashed a (.int k u) (k:Int)) Q E s:=by
 obtain ⟨o,es,ep,t,ho,hex,hd,hE,g⟩:=id hS
 have hsz:es.size=l.length:=by rw [<- bP];exact hE.len
 have hel:=hE.elemsG (prog:=prog) (w:=w) hl
 have hb:es.size<scanBound:=by rw [hsz];unfold scanBound;omega
 have hh:(intKind prog w).hash (k:Int)=(k:Int):=J7 k (kX.mpr hk)
 unfold setAddHashed setAddHashedIn
 refine wpAny_holding (aA (wpAny_setState_of ho hd g.fits ?_))
 dsimp only
 rw [byScan_of (x:=.int k u) rfl hb hel,if_pos rfl]
 unfold setAddByScan
 refine aA (aA (wpAny_rule ?_))
 have sc:=wpAny_setScan_of (A:=A) (E:=E) (s:=s) (adding:=true) (x:=.int k u) (intKind_is prog w (k:Int) u) ho hd g.fits hel (Q:=λm s'=>m=(match l.findIdx? (· == k) with | some j=>.found (0+j) | none=>.absent)/\s'=s) (by rw [hE.find];exact ⟨rfl,rfl⟩)
 rw [hh] at sc
 refine aA (gH sc ?_ λ_ _ z=>z)
 rintro m s' ⟨rfl,rfl⟩
 cases hr:l.findIdx? (· == k) with
 | some j =>
  obtain ⟨hj,hp,_⟩:=List.findIdx?_eq_some_iff_getElem.mp hr
  have hm:k∈l:=by
   have:l[j]=k:=by simpa using hp
   rw [<- this];exact fE hj
  have:=h s'.heap false l (cQ.refl a s'.heap) hS (λ_=>rfl) λz=>absurd hm z
  exact aF (aF this)
 | none =>
  have hm:k∉l:=λz=>by
   have:=List.findIdx?_eq_none_iff.mp hr k z
   simp at this
  dsimp only
  have p1:=layNew_perm t es (k:Int) (.int k u)
  have g1:=HG g (k:Int) (.int k u)
  generalize layNew t es (k:Int) (.int k u)=L at p1 g1
  obtain ⟨es1,t1,wd,gv⟩:=L
  dsimp only at p1 g1 |-
  have hE0:nM (es.push ((k:Int),.int k u)).toList (l++[k]):=by
   rw [yO];exact hE.app (.cons k u .nil)
  obtain ⟨m1,hE1,pm1⟩:=DY hE0 p1
  have hsz1:es1.size=l.length+1:=by
   rw [<- bP,hE1.len,pm1.length_eq,bL];rfl
  have hbig:es1.size<=bD:=by rw [hsz1,sizeLine_eq];omega
  have way:∀ (b:Bool) (s1:Shared) (q:Unit->Shared->Prop),q () s1->wpAny (model prog w) A (match b with | true=>rule "set.scan.the-table-gave-way" | false=>pure ()) q E s1:=λb s1 q hq=>by
   cases b with
   | true=>exact wpAny_rule hq
   | false=>exact aF hq
  have done:∀ h' m,cQ a s'.heap h'->vT h' a m led->m.Perm m1->Q true { s' with heap:=h' }:=λh' m hb hG hp=>h h' true m hb hG (λz=>absurd z hm) λ_=>hp.trans pm1
  refine aA (way gv s' _ ?_)
  cases hpl:t1.plain with
  | true =>
   rw [if_pos rfl]
   refine aA ?_
   rw [hashByValue_scannable 8 (x:=.int k u) rfl]
   refine aF ?_
   rw [show plainKind (.int k u)=true from rfl]
   exact DP way ho hex hd hE1 g1 hbig λh' m hb hG hp=>aF (done h' m hb hG hp)
  | false =>
   rw [if_neg (by decide)]
   refine aA (aF ?_)
   exact DP way ho hex hd hE1 g1 hbig λh' m hb hG hp=>aF (done h' m hb hG hp)
end
def Dd (m l:List Nat):Prop:=m.Nodup/\m.length<=l.length/\∀ z,z∈m↔z∈l
theorem Dd.add {m l m1:List Nat} {k:Nat} (h:Dd m l) (hin:k∈m->m1=m) (hout:k∉m->m1.Perm (m++[k])):Dd m1 (l++[k]):=by
 obtain ⟨h1,h2,h3⟩:=h
 by_cases hk:k∈m
 ·rw [hin hk]
  refine ⟨h1,by rw [bL];omega,λz=>?_⟩
  rw [h3 z,eP,cZ]
  exact ⟨.inl,λq=>q.elim id λe=>e▸(h3 k).mp hk⟩
 ·have p:=hout hk
  refine ⟨p.nodup_iff.mpr (qO.mpr ⟨h1,by simp,λa ha b hb=>?_⟩),by rw [p.length_eq,bL,bL];show _+1<=_+1;omega,λz=>?_⟩
  ·rw [cZ] at hb
   exact λe=>hk (by rw [<- hb,<- e];exact ha)
  ·rw [p.mem_iff,eP,eP,h3 z]
section
variable {prog:bF} {w:World} {A:Around}
theorem OZ {R:Result->Shared->Prop} {I ax:Addr} (S:Addr) (hS1:S≠I) (hS2:S≠ax) (hax:ax≠I) (hh:A.handled=none) {its:List Value} {ns:List Nat} {led:Bool} (hys:IntsAre its (ns.map gX)) (hb:∀ k∈ns,k<64) (hz:ns.length<1000) :
  ∀ (k i:Nat) (s:Shared),its.length-i=k->i<=its.length->s.heap.IsTupleIter I ax i->s.heap.IsTuple ax its.toArray->(∃ m,vT s.heap S m led/\Dd m (ns.take i)) ->
   (∀ h' tk,(∀ b o,b≠S->b≠I->s.heap.get? b=some o->h'.get? b=some o)->(∃ m,vT h' S m led/\Dd m ns)->R (.ok (.ret .none)) { s with heap:=h',toks:=tk }) ->
   codeAny (model prog w) A (.builtin "set.update.loop" ⟨[.ref S,.ref I],[]⟩) R s:=by
 have hlen:its.length=ns.length:=by have:=hys.length;rw [aB] at this;exact this
 intro k
 induction k with
 | zero =>
  intro i s hk hi h1 h2 h3 hR
  obtain rfl:i=its.length:=by omega
  refine codeAny_builtin PyProof.Rows.F.entry_set_update_loop ?_
  rw [Around.under_plainId PyProof.Rows.F.plain_set_update_loop _]
  show wpAny _ A.in1 (pyNext (.ref I) >>= _) _ _ s
  refine aA ((Walks.tuple (prog:=prog) (w:=w) (A:=A.in1) hh I ax hax its.toArray).done s _ _ (by rw [bR];exact ⟨h1,h2⟩) λh' tk kk=>?_)
  show wpAny _ A.in1 (ret Value.none) _ _ _
  refine aF (hR h' tk (λb o _ hb e=>kk b o (by simpa using hb) e) ?_)
  rw [mU (by omega)] at h3
  obtain ⟨m,hm,hdd⟩:=h3
  exact ⟨m,hm.at λo e=>kk S o (by simpa using hS1) e,hdd⟩
 | succ k ih =>
  intro i s hk hi h1 h2 h3 hR
  have hlt:i<its.length:=by omega
  refine codeAny_builtin PyProof.Rows.F.entry_set_update_loop ?_
  rw [Around.under_plainId PyProof.Rows.F.plain_set_update_loop _]
  show wpAny _ A.in1 (pyNext (.ref I) >>= _) _ _ s
  refine aA ((Walks.tuple (prog:=prog) (w:=w) (A:=A.in1) hh I ax hax its.toArray).item i s _ _ (by rw [bR];exact hlt) ⟨h1,h2⟩ λv h' tk hP st' kk=>?_)
  have hv:its[i]?=some v:=by simpa using hP
  have hil:i<ns.length:=by omega
  have hn:ns[i]?=some ns[i]:=aH hil
  obtain ⟨t,ht⟩:=hys.int_at i v hv
  rw [pK,aI,hn] at ht
  have hk6:ns[i]<64:=hb _ (fE hil)
  generalize ns[i]=m at hn ht hk6
  replace ht:v=.int (m:Int) t:=ht
  subst ht
  obtain ⟨m0,h3,hdd⟩:=h3
  have h3':vT h' S m0 led:=h3.at λo e=>kk S o (by simpa using hS1) e
  show wpAny _ A.in1 (holding [Value.int m t] (setAdd S (.int m t)) >>= _) _ _ _
  refine aA (wpAny_holding ?_)
  unfold setAdd
  refine wpAny_holding (aA ((intKind prog w).pyHash (k:=(m:Int)) (intKind_is _ _ _ _) ?_))
  rw [show (intKind prog w).hash (m:Int)=(m:Int) from J7 m (kX.mpr hk6)]
  refine TX (s:={ s with heap:=h',toks:=tk+1 }) h3' hk6 (λz hz'=>hb z (fV ((hdd.2.2 z).mp hz'))) (by have:=hdd.2.1;rw [bC] at this;omega) λh2' _ m1 hsb hS2' hin hout=>?_
  have h3n:∃ m,vT h2' S m led/\Dd m (ns.take (i+1)):=⟨m1,hS2',by rw [dM,hn];exact hdd.add hin hout⟩
  refine aF ⟨plainId_quiet PyProof.Rows.F.plain_set_update_loop _,ih (i+1) _ (by omega) hlt (st'.1.at λo e=>(hsb.2 I (Ne.symm hS1)).trans e) (st'.2.at λo e=>(hsb.2 ax (Ne.symm hS2)).trans e) h3n λh4 tk4 kk4 h5=>?_⟩
  exact hR h4 tk4 (λb o hb1 hb2 e=>kk4 b o hb1 hb2 ((hsb.2 b hb1).trans (kk b o (by simpa using hb2) e))) h5
end
end L2

namespace L2
open PySem PySem.Spec PyProof.Rows
set_option maxHeartbeats 3200000 in
theorem FQ {prog:bF} {w:World} {A:Around} {E:Value->Shared->Prop} {s:Shared} {l:Addr} {its:List Value} {ns:List Nat} {Q:Value->Shared->Prop}
  (hh:A.handled=none) (hl:s.heap.IsTuple l its.toArray) (hys:IntsAre its (ns.map gX)) (hb:∀ k∈ns,k<64) (hz:ns.length<1000)
  (h:∀ (h':Heap) (tk:Nat),(∃ m,vT h' s.heap.objs.size m (!dQ w)/\Dd m ns)->(∀ b o,s.heap.get? b=some o->h'.get? b=some o)->Q (.ref s.heap.objs.size) { s with heap:=h',toks:=tk }) :
  wpAny (model prog w) A (call (.type "set") [.ref l]) Q E s:=by
 obtain ⟨c0,tl0,hm0⟩:=hJ.mro
 have hmk:=hJ.made
 have hsb0:=hJ.sub
 refine wpAny_call (codeAny_of_tree ?_)
 show wpAny _ _ (callAny (.type "set") _) _ _ _
 refine aF ⟨Code.quiet_builtin _ (by decide +kernel),codeAny_builtin PySem.F.entry_type_call ?_⟩
 rw [Around.under_plain (weight_type_call_type "set" [.ref l] []) rfl]
 have k1:=hJ.notType
 have k2:=hJ.canCreate
 have k3:=PySem.F.typeCall_set_1 (.ref l)
 repeat (any_goals (first | assumption | wp_step))
 refine codeAny_mono (GR (.ref l) (E:=E) (Q₁:=λobj s1=>∃ led:Bool,led=!dQ w/\obj=.ref s.heap.objs.size/\s1={ s with heap:=s.heap.push { cls:=.type "set",dict:=none,data:=.set #[] 0 (.fresh 0 0 led) } }) ⟨_,rfl,rfl,rfl⟩) λr s1 hr=>?_
 cases r with
 | error e=>exact hr
 | ok fl =>
  cases fl with
  | ret obj =>
   obtain ⟨led,hled,rfl,rfl⟩:=hr
   have gS:(s.heap.push { cls:=.type "set",dict:=none,data:=.set #[] 0 (.fresh 0 0 led) }).get? s.heap.objs.size=some { cls:=.type "set",dict:=none,data:=.set #[] 0 (.fresh 0 0 led) }:=aR _ rfl
   have tS:Shared.TypeIs { s with heap:=s.heap.push { cls:=.type "set",dict:=none,data:=.set #[] 0 (.fresh 0 0 led) } } (.ref s.heap.objs.size) "set":=⟨_,gS,rfl⟩
   have k4:=hJ.init.lookup
   have k5:=hJ.init.bind (.ref s.heap.objs.size)
   repeat (any_goals (first | assumption | wp_step))
   refine codeAny_mono (codeAny_call_builtin (R:=wants (λr s2=>r=.none/\∃ h' tk,s2={ s with heap:=h',toks:=tk }/\(∃ m,vT h' s.heap.objs.size m (!dQ w)/\Dd m ns)/\(∀ b o,s.heap.get? b=some o->h'.get? b=some o)) E) hJ.init.plain PySem.F.entry_set_init (check_set_init_1 tS ?_)) λr2 s2 hr2=>?_
   ·obtain ⟨⟨ocls,odict,odata,oslots⟩,hol,hcl,nl,hdl⟩:=hl
    simp only at hcl hdl
    subst hcl;subst hdl
    have gl:(s.heap.push { cls:=.type "set",dict:=none,data:=.set #[] 0 (.fresh 0 0 led) }).get? l=some { cls:=.type "tuple",dict:=odict,data:=.seq its.toArray nl,slots:=oslots }:=aJ _ hol
    have k6:=PySem.F.sub_tuple_set
    have k7:=PySem.F.sub_tuple_frozenset
    have k8:(Value.type "tuple" == Value.type "dict")=false:=by decide
    have tl1:(s.heap.push { cls:=.type "set",dict:=none,data:=.set #[] 0 (.fresh 0 0 led) }).IsTuple l its.toArray:=⟨_,gl,rfl,nl,rfl⟩
    unfold Builtin.«set.__init__» noKeywords Builtin.Frozenset.updateFrom
    generalize hPI:pyIter=PI
    wp_walk
    subst hPI
    refine wpAny_pyIter_tuple tl1 (aA (wpAny_runValue ?_))
    have lS:l<s.heap.objs.size:=bH hol
    have h3:A.in1.in1.handled=none:=by simp [hh]
    refine OZ (led:=led) s.heap.objs.size ?_ (fS lS) ?_ h3 hys hb hz its.length 0 _ (by omega) (cS _) ?_ ?_ ?_ λh' tk kk hD=>?_
    ·show s.heap.objs.size≠(s.heap.push _).objs.size
     rw [fF];exact bS (eE _)
    ·show l≠(s.heap.push _).objs.size
     rw [fF];exact bS (eV lS)
    ·exact ⟨_,aR _ rfl,rfl,rfl⟩
    ·exact tl1.at λo e=>aJ _ e
    ·exact ⟨[],⟨_,#[],0,_,aJ _ gS,⟨rfl,rfl,rfl⟩,rfl,.nil,⟨rfl,.nil,rfl,rfl⟩⟩,⟨.nil,cS _,λz=>Iff.rfl⟩⟩
    ·show wpAny _ _ _ _ _ _
     refine aF ?_
     show wpAny _ _ (ret Value.none) _ _ _
     refine aF ⟨rfl,h',tk,rfl,hled▸hD,λb o e=>kk b o (bS (bH e)) ?_ (aJ _ (aJ _ e))⟩
     show b≠(s.heap.push _).objs.size
     rw [fF];exact bS (eV (bH e))
   ·cases r2 with
    | error e=>exact hr2
    | ok fl2 =>
     cases fl2 with
     | ret r =>
      obtain ⟨rfl,h',tk,rfl,hD,kk⟩:=hr2
      repeat (any_goals (first | assumption | wp_step))
      exact h _ _ hD kk
     | _=>exact hr2.elim
  | _=>exact hr.elim
section
variable {prog:bF} {w:World} {A:Around} {E:Value->Shared->Prop} {s:Shared}
theorem GS {a:Addr} {o:Obj} {es:Array (Int×Value)} {ep:Nat} {t:SetTable} {Q:Array (Int×Value)->Shared->Prop} (hdr:dQ w=false->(!t.plain && decide (es.size > 1))=false) (G:mO (!dQ w) t es.size) (ho:s.heap.get? a=some o) (hd:o.data=.set es ep t)
  (h:Q (uK w a ep es) s):wpAny (model prog w) A (setWalk a) Q E s:=by
 unfold setWalk
 refine aA (wpAny_setState_of ho hd G.fits ?_)
 dsimp only
 unfold setsByText
 refine aA (aA (wpAny_askSetting (aF ?_)))
 unfold uK at h
 show wpAny _ _ (if dQ w=true then _ else _) _ _ _
 by_cases hb:dQ w=true
 ·rw [if_pos hb] at h |-
  exact aA (wpAny_askSetting (aF h))
 ·have hb':dQ w=false:=by simpa using hb
  rw [if_neg hb] at h |-
  show wpAny _ _ (if (!t.plain && decide (es.size > 1))=true then _ else _) _ _ _
  rw [if_neg (by rw [hdr hb'];decide)]
  refine aA ?_
  show wpAny _ _ (if (!t.led && decide (es.size > 1))=true then _ else _) _ _ _
  rw [G.led,hb',if_neg (show ¬ ((!(!false) && decide (es.size > 1))=true) from bA)]
  exact aF (aF h)
def mZ (w:World) (t:SetTable) (i:Nat):Nat:=if dQ w=true then 0 else qE t i
theorem yP {a:Addr} {o:Obj} {es:Array (Int×Value)} {ep i:Nat} {t:SetTable} {Q:Option (Value×Nat)->Shared->Prop} (hdr:dQ w=false->(!t.plain && decide (es.size > 1))=false) (G:mO (!dQ w) t es.size) (ho:s.heap.get? a=some o) (hd:o.data=.set es ep t) (hi:i<=es.size)
  (h:Q (((uK w a ep es)[i]?).map λe=>(e.2,mZ w t (i+1))) s):wpAny (model prog w) A (setNext a (mZ w t i) i ep) Q E s:=by
 unfold setNext
 refine aA (wpAny_setState_of ho hd G.fits ?_)
 dsimp only
 unfold setsByText
 refine aA (aA (wpAny_askSetting (aF ?_)))
 show wpAny _ _ (if dQ w=true then _ else _) _ _ _
 by_cases hb:dQ w=true
 ·rw [if_pos hb]
  rw [if_neg (by simp)]
  refine aA (GS hdr G ho hd (aF ?_))
  have e1:mZ w t i=0:=by unfold mZ;rw [if_pos hb]
  have e2:mZ w t (i+1)=0:=by unfold mZ;rw [if_pos hb]
  rw [e1];rw [e2] at h;exact h
 ·have hb':dQ w=false:=by simpa using hb
  rw [if_neg hb]
  show wpAny _ _ (if (!t.plain && decide (es.size > 1))=true then _ else _) _ _ _
  rw [if_neg (by rw [hdr hb'];decide)]
  refine aA ?_
  show wpAny _ _ (if (!t.led && !es.isEmpty)=true then _ else _) _ _ _
  rw [G.led,hb',if_neg (show ¬ ((!(!false) && !es.isEmpty)=true) from bA)]
  refine aF (aF ?_)
  have e1:mZ w t i=qE t i:=by unfold mZ;rw [if_neg hb]
  have e2:mZ w t (i+1)=qE t (i+1):=by unfold mZ;rw [if_neg hb]
  have e3:SetTable.below t.place (qE t i)=i:=KO G.rise (by rw [G.size];exact hi)
  have e4:uK w a ep es=es:=by unfold uK;rw [if_neg hb]
  rw [e2,e4] at h
  rw [e1]
  show Q (match es[SetTable.below t.place (qE t i)]?,t.place[SetTable.below t.place (qE t i)]? with | some (_,x),some j=>some (x,j+1) | _,_=>none) s
  rw [e3]
  by_cases hlt:i<es.size
  ·have g1:es[i]?=some (es[i]'(by omega)):=bM (by omega)
   have hlp:i<t.place.size:=by rw [G.size];exact hlt
   have g2:t.place[i]?=some t.place[i]:=bM hlp
   rw [g1] at h |-
   rw [g2]
   have g3:qE t (i+1)=t.place[i]+1:=by
    unfold qE
    rw [if_neg (YM _),Nat.add_sub_cancel,kE,g2];rfl
   rw [g3] at h
   exact h
  ·have g1:es[i]?=none:=fJ (by omega)
   rw [g1] at h |-
   exact h
end
def O1 (w:World) (S:Addr) (t:SetTable) (n:Nat) (ep i:Nat):Array Value:=#[.int (mZ w t i) 0,.int i 0,.ref S,.int n 0,.int ep 0]
def B7 (w:World) (h:Heap) (I S:Addr) (t:SetTable) (n:Nat) (ep i:Nat):Prop:=∃ o,h.get? I=some o/\o.cls=.type "set_iterator"/\o.data=.fields (O1 w S t n ep i)
def rJ (h:Heap) (S:Addr) (es:Array (Int×Value)) (ep:Nat) (t:SetTable):Prop:=∃ o,h.get? S=some o/\o.ExactSet/\o.data=.set es ep t
section
variable {prog:bF} {w:World} {A:Around} {E:Value->Shared->Prop} {s:Shared} {I S:Addr} {t:SetTable} {ep:Nat} {es:Array (Int×Value)}
theorem GQ {i:Nat} {x:Int×Value} {Q:Option Value->Shared->Prop} (hdr:dQ w=false->(!t.plain && decide (es.size > 1))=false) (G:mO (!dQ w) t es.size) (hit:B7 w s.heap I S t es.size ep i) (hS:rJ s.heap S es ep t) (hi:i<es.size) (hx:(uK w S ep es)[i]?=some x)
  (hQ:∀ h',B7 w h' I S t es.size ep (i+1)->cQ I s.heap h'->Q (some x.2) { s with heap:=h' }):wpAny (model prog w) A (pyNext (.ref I)) Q E s:=by
 obtain ⟨o,ho,hc,hd⟩:=id hit
 obtain ⟨oS,hoS,hex,hdS⟩:=id hS
 have hT:s.TypeIs (.ref I) "set_iterator":=⟨o,ho,hc⟩
 have hf:=G.fits
 unfold pyNext
 refine aA (wpAny_attempt (wpAny_callSpecial?_slot (name:=Str.ofString "__next__") hT eX (cW eX hT kU ?_ (lO _))))
 show wpAny _ _ (fieldsOf (.ref I) >>= _) _ _ s
 refine aA (wpAny_fieldsOf ho hd ?_)
 show wpAny _ _ (setEntries S >>= _) _ _ s
 refine aA (wpAny_setEntries_of hoS hdS hf ?_)
 rw [if_neg (by simp)]
 show wpAny _ _ (setNext S (mZ w t i) i ep >>= _) _ _ s
 refine aA (yP hdr G hoS hdS (jZ hi) ?_)
 rw [hx]
 show wpAny _ _ (setField (.ref I) 0 (rawInt (mZ w t (i+1))) >>= _) _ _ s
 refine aA (wpAny_setField ho hd (by simp [O1]) ?_)
 have g1:=eM (Obj.mapFields (·.setIfInBounds 0 (rawInt (mZ w t (i+1))))) ho (Obj.isFreed_of_fields (Obj.data_mapFields hd _))
 refine aA (wpAny_setField g1 (Obj.data_mapFields hd _) (by simp [O1]) ?_)
 have g2:=eM (Obj.mapFields (·.setIfInBounds 1 (rawInt ((i:Int)+1)))) g1 (Obj.isFreed_of_fields (Obj.data_mapFields (Obj.data_mapFields hd _) _))
 refine aF ⟨x.2,rfl,aF (hQ _ ?_ ((cQ.update ..).trans (cQ.update ..)))⟩
 exact ⟨_,g2,(Obj.cls_mapFields ..).trans ((Obj.cls_mapFields ..).trans hc),by
  rw [Obj.data_mapFields (Obj.data_mapFields hd _)];rfl⟩
theorem JA {Q:Option Value->Shared->Prop} (hh:A.handled=none) (hdr:dQ w=false->(!t.plain && decide (es.size > 1))=false) (G:mO (!dQ w) t es.size) (hit:B7 w s.heap I S t es.size ep es.size) (hS:rJ s.heap S es ep t) (hx:(uK w S ep es)[es.size]?=none)
  (hQ:∀ h',CC I s.heap h'->Q none { s with heap:=h' }):wpAny (model prog w) A (pyNext (.ref I)) Q E s:=by
 obtain ⟨o,ho,hc,hd⟩:=id hit
 obtain ⟨oS,hoS,hex,hdS⟩:=id hS
 have hT:s.TypeIs (.ref I) "set_iterator":=⟨o,ho,hc⟩
 have hf:=G.fits
 unfold pyNext
 refine aA (wpAny_attempt (wpAny_callSpecial?_slot (name:=Str.ofString "__next__") hT eX (cW eX hT kU ?_ (lO _))))
 show wpAny _ _ (fieldsOf (.ref I) >>= _) _ _ s
 refine aA (wpAny_fieldsOf ho hd ?_)
 show wpAny _ _ (setEntries S >>= _) _ _ s
 refine aA (wpAny_setEntries_of hoS hdS hf ?_)
 rw [if_neg (by simp)]
 show wpAny _ _ (setNext S (mZ w t es.size) es.size ep >>= _) _ _ s
 refine aA (yP hdr G hoS hdS (aL _) ?_)
 rw [hx]
 show wpAny _ _ (setField (.ref I) 2 .none >>= _) _ _ s
 refine aA (wpAny_setField ho hd (by simp [O1]) ?_)
 show wpAny _ _ (newExc (.type "StopIteration") [] >>= _) _ _ _
 refine aA ?_
 simp only [newExc,newTuple]
 refine aA (cN ?_ (by size_fits))
 refine aA (m:=firstArgMember _ _) (wpAny_of_eq (a:=Value.none) (by first | rfl | (simp only [firstArgMember];rfl)) ?_)
 refine cN ?_ (by size_fits)
 simp only [raiseNew]
 refine aA (wpAny_handled ?_)
 first | rw [show A.in1.handled=none from hh] | rw [hh]
 refine aA (aF (wpAny_throw ?_))
 refine aA (wpAny_isInstance (T:="StopIteration") (b:=true) ⟨_,aR _ rfl,rfl⟩ isSubtype_stop ?_)
 exact aF (hQ _ (((cQ.update ..).extBut.push _).push _))
theorem GP {i:Nat} {Q:Value->Shared->Prop} (hit:B7 w s.heap I S t es.size ep i) (h:Q (.ref I) s):wpAny (model prog w) A (pyIter (.ref I)) Q E s:=by
 obtain ⟨o,ho,hc,hd⟩:=hit
 have hT:s.TypeIs (.ref I) "set_iterator":=⟨o,ho,hc⟩
 refine wpAny_pyIter_slot hT lK (cW lK hT qK ?_ (rO _))
 show wpAny _ _ (ret (.ref I)) _ _ s
 exact aF ⟨_,rfl,"set_iterator",_,hT,eX.lookup,h⟩
theorem NV {Q:Value->Shared->Prop} (hdr:dQ w=false->(!t.plain && decide (es.size > 1))=false) (G:mO (!dQ w) t es.size) (hS:rJ s.heap S es ep t)
  (h:Q (.ref s.heap.objs.size) { s with heap:=s.heap.push { cls:=.type "set_iterator",data:=.fields (O1 w S t es.size ep 0) } }):wpAny (model prog w) A (pyIter (.ref S)) Q E s:=by
 obtain ⟨oS,hoS,hex,hdS⟩:=id hS
 have hT:s.TypeIs (.ref S) "set":=⟨oS,hoS,hex.1⟩
 have hf:=G.fits
 refine wpAny_pyIter_slot hT mT (cW mT hT sV ?_ (EF _))
 show wpAny _ _ (Builtin.Frozenset.sizeOf S >>= _) _ _ s
 unfold Builtin.Frozenset.sizeOf
 refine aA (aA (wpAny_setEntries_of hoS hdS hf (aF ?_)))
 unfold setDrawn setsByText
 refine aA (aA (wpAny_setState_of hoS hdS hf ?_))
 refine aA (aA (wpAny_askSetting (aF (aF ?_))))
 have e:(!dQ w && (!t.plain && decide (es.size > 1)))=false:=by
  cases hb:dQ w with
  | true=>rfl
  | false=>rw [hdr hb];rfl
 show wpAny _ _ (if (!dQ w && (!t.plain && decide (es.size > 1)))=true then _ else _) _ _ _
 rw [if_neg (by rw [e];decide)]
 refine aA (aF ?_)
 unfold setEpoch
 refine aA (aA (wpAny_setState_of hoS hdS hf (aF ?_)))
 have e0:mZ w t 0=0:=by unfold mZ;split<;>rfl
 have h2:Q (.ref s.heap.objs.size) { s with heap:=s.heap.push { cls:=.type "set_iterator",data:=.fields #[rawInt 0,rawInt 0,.ref S,rawInt es.size,rawInt ep] } }:=by
  unfold O1 at h
  rw [e0] at h
  exact h
 exact aA (cN (aF ⟨_,rfl,"set_iterator",_,⟨_,aR _ rfl,rfl⟩,eX.lookup,h2⟩))
end
section
variable {prog:bF} {w:World} {A:Around} {E:Value->Shared->Prop} {s:Shared} {S:Addr} {t:SetTable} {ep:Nat} {es:Array (Int×Value)}
theorem NM (hh:A.handled=none) (I:Addr) (hne:S≠I) (hdr:dQ w=false->(!t.plain && decide (es.size > 1))=false) (G:mO (!dQ w) t es.size) :
  Walks prog w A I [I,S] [I] es.size (λi v=>∃ x,(uK w S ep es)[i]?=some x/\v=x.2) (λi h=>B7 w h I S t es.size ep i/\rJ h S es ep t) where
 sub:=λb hb=>by simp at hb;simp [hb]
 frame:=λ_ _ _ st hk=>by
  obtain ⟨⟨o,ho,r⟩,⟨p,hp,q⟩⟩:=st
  exact ⟨⟨o,hk I (by simp) o ho,r⟩,⟨p,hk S (by simp) p hp,q⟩⟩
 item:=λi s Q E hi st hQ=>by
  have hsz:(uK w S ep es).size=es.size:=by rw [<- bP,(wQ w S ep es).length_eq,bP]
  have hx:(uK w S ep es)[i]?=some ((uK w S ep es)[i]'(by omega)):=bM (by omega)
  refine GQ hdr G st.1 st.2 hi hx λh' hit' hs'=>?_
  obtain ⟨p,hp,q⟩:=st.2
  exact hQ _ h' s.toks ⟨_,hx,rfl⟩ ⟨hit',⟨p,hs'.extBut S p hne hp,q⟩⟩ λb o hb e=>hs'.extBut b o (λh=>hb (by simp [h])) e
 done:=λs Q E st hQ=>by
  have hsz:(uK w S ep es).size=es.size:=by rw [<- bP,(wQ w S ep es).length_eq,bP]
  exact JA hh hdr G st.1 st.2 (fJ (by omega)) λh' he'=>hQ h' s.toks λb o hb e=>he' b o (λh=>hb (by simp [h])) e
 self:=λ_ _ _ _ st hQ=>GP st.1 hQ
end
end L2

namespace L2
open PySem PySem.Spec PyProof.Rows
section
variable {prog:bF} {w:World} {A:Around} {E:Value->Shared->Prop} {s:Shared}
def jT (S T:Addr) (n ep i:Nat):Array Value:=#[.ref T,.int i 0,.ref S,.int n 0,.int ep 0]
def U2 (h:Heap) (I S T:Addr) (ps:List Nat) (n ep i:Nat):Prop:=(∃ o,h.get? I=some o/\o.cls=.type "set_iterator"/\o.data=.fields (jT S T n ep i))/\∃ o c,h.get? T=some o/\o.data=.seq (ps.map λ(p:Nat)=>Value.int p 0).toArray c
variable {I S T:Addr} {t:SetTable} {ep:Nat} {es:Array (Int×Value)} {ps:List Nat}
theorem O3 {i p:Nat} {x:Int×Value} {Q:Option Value->Shared->Prop} (hTI:T≠I) (G:mO (!dQ w) t es.size) (hit:U2 s.heap I S T ps es.size ep i) (hS:rJ s.heap S es ep t) (hp:ps[i]?=some p) (hx:es[p]?=some x)
  (hQ:∀ h',U2 h' I S T ps es.size ep (i+1)->cQ I s.heap h'->Q (some x.2) { s with heap:=h' }):wpAny (model prog w) A (pyNext (.ref I)) Q E s:=by
 obtain ⟨⟨o,ho,hc,hd⟩,oT,cT,hoT,hdT⟩:=id hit
 obtain ⟨oS,hoS,hex,hdS⟩:=id hS
 have hT:s.TypeIs (.ref I) "set_iterator":=⟨o,ho,hc⟩
 have hf:=G.fits
 unfold pyNext
 refine aA (wpAny_attempt (wpAny_callSpecial?_slot (name:=Str.ofString "__next__") hT eX (cW eX hT kU ?_ (lO _))))
 show wpAny _ _ (fieldsOf (.ref I) >>= _) _ _ s
 refine aA (wpAny_fieldsOf ho hd ?_)
 show wpAny _ _ (setEntries S >>= _) _ _ s
 refine aA (wpAny_setEntries_of hoS hdS hf ?_)
 rw [if_neg (by simp)]
 show wpAny _ _ (seqItems? (.ref T) >>= _) _ _ s
 refine aA (wpAny_seqItems hoT hdT ?_)
 dsimp only
 have hg:(ps.map λ(p:Nat)=>Value.int p 0).toArray[((i:Int)).toNat]?=some (.int (p:Int) 0):=by
  rw [eG,K5,aI,hp];rfl
 rw [hg]
 dsimp only
 unfold setNextDrawn
 refine aA (aA (wpAny_setState_of hoS hdS hf ?_))
 dsimp only
 rw [if_neg (by simp)]
 have hg2:es[((p:Int)).toNat]?=some x:=by rw [eG];exact hx
 rw [hg2]
 refine aF ?_
 refine aA (wpAny_setField ho hd (by simp [jT]) ?_)
 have g1:=eM (Obj.mapFields (·.setIfInBounds 1 (rawInt ((i:Int)+1)))) ho (Obj.isFreed_of_fields (Obj.data_mapFields hd _))
 refine aF ⟨x.2,rfl,aF (hQ _ ⟨⟨_,g1,(Obj.cls_mapFields ..).trans hc,by rw [Obj.data_mapFields hd];rfl⟩,oT,cT,?_,hdT⟩ (cQ.update ..))⟩
 exact (gU _ _ (Ne.symm hTI)).trans hoT
theorem UD {Q:Option Value->Shared->Prop} (hh:A.handled=none) (G:mO (!dQ w) t es.size) (hit:U2 s.heap I S T ps es.size ep es.size) (hS:rJ s.heap S es ep t) (hp:ps.length=es.size)
  (hQ:∀ h',CC I s.heap h'->Q none { s with heap:=h' }):wpAny (model prog w) A (pyNext (.ref I)) Q E s:=by
 obtain ⟨⟨o,ho,hc,hd⟩,oT,cT,hoT,hdT⟩:=id hit
 obtain ⟨oS,hoS,hex,hdS⟩:=id hS
 have hT:s.TypeIs (.ref I) "set_iterator":=⟨o,ho,hc⟩
 have hf:=G.fits
 unfold pyNext
 refine aA (wpAny_attempt (wpAny_callSpecial?_slot (name:=Str.ofString "__next__") hT eX (cW eX hT kU ?_ (lO _))))
 show wpAny _ _ (fieldsOf (.ref I) >>= _) _ _ s
 refine aA (wpAny_fieldsOf ho hd ?_)
 show wpAny _ _ (setEntries S >>= _) _ _ s
 refine aA (wpAny_setEntries_of hoS hdS hf ?_)
 rw [if_neg (by simp)]
 show wpAny _ _ (seqItems? (.ref T) >>= _) _ _ s
 refine aA (wpAny_seqItems hoT hdT ?_)
 dsimp only
 have hg:(ps.map λ(p:Nat)=>Value.int p 0).toArray[((es.size:Int)).toNat]?=none:=by
  rw [eG,K5,gG (by rw [aB,hp];exact aL _)]
 rw [hg]
 dsimp only
 show wpAny _ _ (setField (.ref I) 0 (rawInt 0) >>= _) _ _ s
 refine aA (wpAny_setField ho hd (by simp [jT]) ?_)
 have g1:=eM (Obj.mapFields (·.setIfInBounds 0 (rawInt 0))) ho (Obj.isFreed_of_fields (Obj.data_mapFields hd _))
 refine aA (wpAny_setField g1 (Obj.data_mapFields hd _) (by simp [jT]) ?_)
 show wpAny _ _ (newExc (.type "StopIteration") [] >>= _) _ _ _
 refine aA ?_
 simp only [newExc,newTuple]
 refine aA (cN ?_ (by size_fits))
 refine aA (m:=firstArgMember _ _) (wpAny_of_eq (a:=Value.none) (by first | rfl | (simp only [firstArgMember];rfl)) ?_)
 refine cN ?_ (by size_fits)
 simp only [raiseNew]
 refine aA (wpAny_handled ?_)
 first | rw [show A.in1.handled=none from hh] | rw [hh]
 refine aA (aF (wpAny_throw ?_))
 refine aA (wpAny_isInstance (T:="StopIteration") (b:=true) ⟨_,aR _ rfl,rfl⟩ isSubtype_stop ?_)
 exact aF (hQ _ ((((cQ.update ..).trans (cQ.update ..)).extBut.push _).push _))
theorem O2 {i n:Nat} {Q:Value->Shared->Prop} (hit:U2 s.heap I S T ps n ep i) (h:Q (.ref I) s):wpAny (model prog w) A (pyIter (.ref I)) Q E s:=by
 obtain ⟨⟨o,ho,hc,hd⟩,_⟩:=hit
 have hT:s.TypeIs (.ref I) "set_iterator":=⟨o,ho,hc⟩
 refine wpAny_pyIter_slot hT lK (cW lK hT qK ?_ (rO _))
 show wpAny _ _ (ret (.ref I)) _ _ s
 exact aF ⟨_,rfl,"set_iterator",_,hT,eX.lookup,h⟩
theorem VI (hh:A.handled=none) (hne:S≠I) (hTI:T≠I) (G:mO (!dQ w) t es.size) (hps:fM ps (cK es.size)) :
  Walks prog w A I [I,S,T] [I] es.size (λi v=>∃ p x,ps[i]?=some p/\es[p]?=some x/\v=x.2) (λi h=>U2 h I S T ps es.size ep i/\rJ h S es ep t) where
 sub:=λb hb=>by simp at hb;simp [hb]
 frame:=λ_ _ _ st hk=>by
  obtain ⟨⟨⟨o,ho,r⟩,oT,cT,hoT,hdT⟩,⟨p,hp,q⟩⟩:=st
  exact ⟨⟨⟨o,hk I (by simp) o ho,r⟩,oT,cT,hk T (by simp) oT hoT,hdT⟩,⟨p,hk S (by simp) p hp,q⟩⟩
 item:=λi s Q E hi st hQ=>by
  have hpl:ps.length=es.size:=by rw [hps.length_eq,eF]
  have hp:ps[i]?=some ps[i]:=aH (by omega)
  have hlt:ps[i]<es.size:=kX.mp (hps.mem_iff.mp (fE (by omega)))
  have hx:es[ps[i]]?=some (es[ps[i]]'(by omega)):=bM (by omega)
  refine O3 hTI G st.1 st.2 hp hx λh' hit' hs'=>?_
  obtain ⟨p,hp',q⟩:=st.2
  exact hQ _ h' s.toks ⟨_,_,hp,hx,rfl⟩ ⟨hit',⟨p,hs'.extBut S p hne hp',q⟩⟩ λb o hb e=>hs'.extBut b o (λh=>hb (by simp [h])) e
 done:=λs Q E st hQ=>by
  have hpl:ps.length=es.size:=by rw [hps.length_eq,eF]
  exact UD hh G st.1 st.2 hpl λh' he'=>hQ h' s.toks λb o hb e=>he' b o (λh=>hb (by simp [h])) e
 self:=λ_ _ _ _ st hQ=>O2 st.1 hQ
theorem NW {Q:Value->Shared->Prop} (G:mO (!dQ w) t es.size) (hS:rJ s.heap S es ep t) (hb:dQ w=false) (hpn:t.plain=false) (hz:es.size<=1000) (h1:1<es.size)
  (h:∀ ps d,fM ps (cK es.size)->Q (.ref (s.heap.objs.size+1)) { s with heap:=(s.heap.push { cls:=.type "tuple",data:=.seq (ps.map λ(p:Nat)=>Value.int p 0).toArray }).push { cls:=.type "set_iterator",data:=.fields (jT S s.heap.objs.size es.size ep 0) },drawn:=d }):wpAny (model prog w) A (pyIter (.ref S)) Q E s:=by
 obtain ⟨oS,hoS,hex,hdS⟩:=id hS
 have hT:s.TypeIs (.ref S) "set":=⟨oS,hoS,hex.1⟩
 have hf:=G.fits
 refine wpAny_pyIter_slot hT mT (cW mT hT sV ?_ (EF _))
 show wpAny _ _ (Builtin.Frozenset.sizeOf S >>= _) _ _ s
 unfold Builtin.Frozenset.sizeOf
 refine aA (aA (wpAny_setEntries_of hoS hdS hf (aF ?_)))
 unfold setDrawn setsByText
 refine aA (aA (wpAny_setState_of hoS hdS hf ?_))
 refine aA (aA (wpAny_askSetting (aF (aF ?_))))
 have e:(!dQ w && (!t.plain && decide (es.size > 1)))=true:=by rw [hb,hpn,decide_eq_true h1];rfl
 show wpAny _ _ (if (!dQ w && (!t.plain && decide (es.size > 1)))=true then _ else _) _ _ _
 rw [if_pos e]
 refine aA (BT es.size (cK es.size) _ _ (eF ..) λps d hp=>?_)
 have hpl:ps.length=es.size:=by rw [hp.length_eq,eF]
 refine aA (wpAny_newTuple ?_ (by rw [aB,hpl,sizeLine_eq];omega))
 unfold setEpoch
 refine aA (aA (wpAny_setState_of (aJ _ hoS) hdS hf (aF ?_)))
 have h2:=h ps d hp
 unfold jT at h2
 have z:(s.heap.push { cls:=.type "tuple",data:=.seq (ps.map λ(p:Nat)=>Value.int p 0).toArray }).objs.size=s.heap.objs.size+1:=fF ..
 refine aA (cN ?_)
 refine aF ⟨_,rfl,"set_iterator",_,⟨_,aR _ rfl,rfl⟩,eX.lookup,?_⟩
 show Q (.ref (s.heap.push { cls:=.type "tuple",data:=.seq (ps.map λ(p:Nat)=>Value.int p 0).toArray }).objs.size) _
 rw [z];exact h2
end
section
variable {prog:bF} {w:World} {A:Around} {E:Value->Shared->Prop} {s:Shared} {S:Addr} {t:SetTable} {ep:Nat} {es:Array (Int×Value)}
theorem N3 {α:Type} {xs:List α}:∀ {ps ns:List Nat},fM ps ns->fM (ps.filterMap λp=>xs[p]?) (ns.filterMap λp=>xs[p]?):=λh=>h.filterMap _
theorem FO {Q:List Value->Shared->Prop} (hh:A.handled=none) (G:mO (!dQ w) t es.size) (hz:es.size<=1000) (hS:rJ s.heap S es ep t)
  (hQ:∀ h' tk d vs,s.heap.objs.size<=h'.objs.size->(∀ b o,s.heap.get? b=some o->h'.get? b=some o)->fM vs (es.toList.map (·.2))->Q vs { s with heap:=h',toks:=tk,drawn:=d }):wpAny (model prog w) A (collect (.ref S)) Q E s:=by
 obtain ⟨oS,hoS,hex,hdS⟩:=id hS
 have lS:S<s.heap.objs.size:=bH hoS
 unfold collect
 refine aA (wpAny_runValue (codeAny_builtin AU ?_))
 rw [Around.under_plainId AS _]
 show wpAny _ A.in1 (newList [] >>= λr=>again (.builtin "list.__iadd__" ⟨[r,.ref S],[]⟩)) _ _ s
 refine aA (cN ?_)
 refine aF ⟨plainId_quiet lX _,codeAny_builtin EE ?_⟩
 rw [Around.under_plainId lX _]
 generalize hH:s.heap.push { cls:=.type "list",data:=.seq ([]:List Value).toArray }=H1
 have gL:H1.get? s.heap.objs.size=some { cls:=.type "list",data:=.seq ([]:List Value).toArray }:=by rw [<- hH];exact aR _ rfl
 have z1:H1.objs.size=s.heap.objs.size+1:=by rw [<- hH,fF]
 have k1:∀ b o,s.heap.get? b=some o->H1.get? b=some o:=λb o e=>by rw [<- hH];exact aJ _ e
 have gS:=k1 S oS hoS
 have tS:Shared.TypeIs { s with heap:=H1 } (.ref S) "set":=⟨oS,gS,hex.1⟩
 show wpAny _ A.in1 (Builtin.List.listExtendWith (.ref s.heap.objs.size) (.ref S) (.ref s.heap.objs.size)) _ _ _
 unfold Builtin.List.listExtendWith
 refine aA (wpAny_typeOf tS ?_)
 have b1:Builtin.List.listSameRef (.ref s.heap.objs.size) (.ref S)=false:=by
  show (s.heap.objs.size == S)=false
  exact beq_eq_false_iff_ne.mpr (fS lS)
 have b2:(Value.type "set" == Value.type "list")=false:=by decide
 have b3:(Value.type "set" == Value.type "tuple")=false:=by decide
 simp only [b1,b2,b3,xS,fW,if_false]
 have hiter:∀ (Q':Value->Shared->Prop) (E':Value->Shared->Prop),(∀ (H2:Heap) (d:Drawn) (I:Addr) (fp:List Addr) (P:Nat->Value->Prop) (St:Nat->Heap->Prop),(∀ b o,H1.get? b=some o->H2.get? b=some o)->H1.objs.size<=I->(∀ b∈fp,b≠s.heap.objs.size)->Walks prog w A.in1 I fp [I] es.size P St->(∀ H4:Heap,(∀ b o,b≠s.heap.objs.size->H2.get? b=some o->H4.get? b=some o)->St 0 H4)->(∀ acc:Array Value,ItemsOf P acc es.size->fM acc.toList (es.toList.map (·.2)))->Q' (.ref I) { s with heap:=H2,drawn:=d })->wpAny (model prog w) A.in1 (pyIter (.ref S)) Q' E' { s with heap:=H1 }:=λQ' E' hq=>by
  have hh3:A.in1.handled=none:=by simp [hh]
  by_cases hdr0:dQ w=true\/t.plain=true\/es.size<=1
  ·have hdr:dQ w=false->(!t.plain && decide (es.size > 1))=false:=λhb=>by
    rcases hdr0 with z | z
    ·rw [hb] at z;cases z
    ·rcases z with z | z
     ·rw [z];rfl
     ·rw [decide_eq_false (by omega)];simp
   refine NV hdr G (s:={ s with heap:=H1 }) ⟨oS,gS,hex,hdS⟩ ?_
   have hSI:S≠H1.objs.size:=by rw [z1];exact bS (eV lS)
   refine hq _ s.drawn _ _ _ _ (λb o e=>aJ _ e) (aL _) (λb hb=>?_) (NM (prog:=prog) (w:=w) (A:=A.in1) (ep:=ep) hh3 H1.objs.size hSI hdr G) (λH4 k4=>?_) λacc hit=>?_
   ·simp only [aZ,dS,or_false] at hb
    rcases hb with rfl | rfl
    ·rw [z1];exact fS (eE _)
    ·exact bS lS
   ·exact ⟨⟨_,k4 _ _ (by rw [z1];exact fS (eE _)) (aR _ rfl),rfl,rfl⟩,⟨oS,k4 _ _ (bS lS) (aJ _ gS),hex,hdS⟩⟩
   ·have hsz:(uK w S ep es).size=es.size:=by rw [<- bP,(wQ w S ep es).length_eq,bP]
    have ea:acc.toList=(uK w S ep es).toList.map (·.2):=by
     apply gD
     intro i
     rw [aI,fQ,fQ]
     by_cases hi:i<es.size
     ·have hia:i<acc.size:=by have:=hit.1;omega
      obtain ⟨x,hx,hv⟩:=hit.2 i acc[i] (bM hia)
      rw [bM hia,hx,hv];rfl
     ·rw [fJ (by have:=hit.1;omega),fJ (by omega)];rfl
    rw [ea]
    exact (wQ w S ep es).map _
  ·have hb:dQ w=false:=by
    cases hb:dQ w with
    | true=>exact absurd (.inl hb) hdr0
    | false=>rfl
   have h1:1<es.size:=by
    by_cases z:es.size<=1
    ·exact absurd (.inr (.inr z)) hdr0
    ·omega
   have hpn:t.plain=false:=by
    cases z:t.plain with
    | true=>exact absurd (.inr (.inl z)) hdr0
    | false=>rfl
   refine NW G (s:={ s with heap:=H1 }) ⟨oS,gS,hex,hdS⟩ hb hpn hz h1 λps d hps=>?_
   have z2:H1.objs.size≠H1.objs.size+1:=bS (eE _)
   have hSI:S≠H1.objs.size+1:=by rw [z1];exact bS (eV (eV lS))
   have z3:(H1.push { cls:=.type "tuple",data:=.seq (ps.map λ(p:Nat)=>Value.int p 0).toArray }).objs.size=H1.objs.size+1:=fF ..
   refine hq _ d _ [H1.objs.size+1,S,H1.objs.size] _ _ (λb o e=>aJ _ (aJ _ e)) (PU _) (λb hb=>?_) (VI (prog:=prog) (w:=w) (A:=A.in1) (ep:=ep) (T:=H1.objs.size) hh3 hSI z2 G hps) (λH4 k4=>?_) λacc hit=>?_
   ·simp only [aZ,dS,or_false] at hb
    rcases hb with rfl | rfl | rfl
    ·rw [z1];exact fS (eV (eE _))
    ·exact bS lS
    ·rw [z1];exact fS (eE _)
   ·have g1:((H1.push { cls:=.type "tuple",data:=.seq (ps.map λ(p:Nat)=>Value.int p 0).toArray }).push { cls:=.type "set_iterator",data:=.fields (jT S H1.objs.size es.size ep 0) }).get? (H1.objs.size+1)=some { cls:=.type "set_iterator",data:=.fields (jT S H1.objs.size es.size ep 0) }:=by rw [<- z3];exact aR _ rfl
    have g2:((H1.push { cls:=.type "tuple",data:=.seq (ps.map λ(p:Nat)=>Value.int p 0).toArray }).push { cls:=.type "set_iterator",data:=.fields (jT S H1.objs.size es.size ep 0) }).get? H1.objs.size=some { cls:=.type "tuple",data:=.seq (ps.map λ(p:Nat)=>Value.int p 0).toArray }:=aJ _ (aR _ rfl)
    exact ⟨⟨⟨_,k4 _ _ (by show H1.objs.size+1≠_;rw [z1];exact fS (eV (eE _))) g1,rfl,rfl⟩,_,_,k4 _ _ (by rw [z1];exact fS (eE _)) g2,rfl⟩,⟨oS,k4 _ _ (bS lS) (aJ _ (aJ _ gS)),hex,hdS⟩⟩
   ·have hpl:ps.length=es.size:=by rw [hps.length_eq,eF]
    have ea:acc.toList=(ps.filterMap λp=>es.toList[p]?).map (·.2):=by
     have e0:∀ p∈ps,p<es.size:=λp hp=>by exact kX.mp (hps.mem_iff.mp hp)
     have e1:(ps.filterMap λp=>es.toList[p]?)=ps.attach.map λp=>es[p.1]'(e0 p.1 p.2):=by
      clear hit hpl hps z3
      induction ps with
      | nil=>rfl
      | cons p ps ih =>
       have hp:=e0 p (aU ..)
       rw [eN,fQ,bM hp]
       dsimp only
       rw [ih λq hq=>e0 q (aN _ hq),List.attach_cons,aX,bG]
       rfl
     rw [e1,bG]
     apply gD
     intro i
     rw [fQ,aI]
     by_cases hi:i<es.size
     ·have hia:i<acc.size:=by have:=hit.1;omega
      obtain ⟨p,x,hp,hx,hv⟩:=hit.2 i acc[i] (bM hia)
      have hpi:i<ps.length:=by omega
      have hpe:ps[i]=p:=by rw [aH hpi] at hp;exact Option.some.inj hp
      rw [bM hia,aH (by rw [P9];exact hpi),hv]
      simp only [Option.map_some,List.getElem_attach,Function.comp]
      subst hpe
      rw [bM (e0 _ (fE hpi))] at hx
      rw [Option.some.inj hx]
     ·rw [fJ (by have:=hit.1;omega),gG (by rw [P9];omega)];rfl
    rw [ea]
    have hr:(cK es.size).filterMap (λp=>es.toList[p]?)=es.toList:=by rw [<- bP];exact List.filterMap_getElem?_range_length _
    have:=(N3 (xs:=es.toList) hps)
    rw [hr] at this
    exact this.map _
 refine aA (hiter _ _ λH2 d I fp P St k2 hI hfp W0 st0 hper=>?_)
 refine aA (wpAny_holding ?_)
 have tS2:Shared.TypeIs { s with heap:=H2,drawn:=d } (.ref S) "set":=⟨oS,k2 _ _ gS,hex.1⟩
 unfold Builtin.List.listLengthHint
 refine aA (wpAny_specialOf tS2 PySem.F.slot_set_len.lookup ?_)
 have hsp:splitId "set.__len__"=some ("set","__len__"):=by decide +kernel
 dsimp only
 rw [hsp]
 dsimp only
 refine aA (wpAny_isInstance (T:="set") (b:=true) tS2 PySem.sub_set_self ?_)
 rw [if_neg (by decide)]
 rw [if_pos (by decide +kernel)]
 refine aA (wpAny_typeOf tS2 ?_)
 refine aF ?_
 rw [if_pos (by decide +kernel)]
 refine aA (wpAny_rule (aA ?_))
 have gL2:=k2 _ _ gL
 show wpAny _ A.in1 (updateSeq s.heap.objs.size (·.push .none) >>= λ_=>updateSeq s.heap.objs.size (·.pop)) _ _ _
 refine aA (wpAny_updateSeq gL2 rfl ?_)
 have gL3:=eM (Obj.mapSeq (·.push Value.none)) gL2 rfl
 refine wpAny_updateSeq gL3 rfl ?_
 have gL4:=eM (Obj.mapSeq (·.pop)) gL3 rfl
 generalize hH4:(H2.update s.heap.objs.size (Obj.mapSeq (·.push Value.none))).update s.heap.objs.size (Obj.mapSeq (·.pop))=H4
 rw [hH4] at gL4
 have k4:∀ b o,b≠s.heap.objs.size->H2.get? b=some o->H4.get? b=some o:=λb o hb e=>by
  rw [<- hH4]
  exact (gU _ _ (Ne.symm hb)).trans ((gU _ _ (Ne.symm hb)).trans e)
 obtain ⟨c0,gL5⟩:∃ c,H4.get? s.heap.objs.size=some { cls:=.type "list",dict:=none,data:=.seq #[] c,slots:=#[] }:=⟨_,gL4⟩
 have hh3:A.in1.handled=none:=by simp [hh]
 have hLf:s.heap.objs.size∉fp:=λz=>hfp _ z rfl
 have st:=st0 H4 k4
 have W:=W0.toS
 refine aF ⟨plainId_quiet oX _,codeAny_extend_loopS W (by rw [sizeLine_eq];omega) _ hLf _ es.size 0 _ _ _ rfl (cS _) st gL5 (ItemsOf.nil _) λs' acc c hm hL' hit=>?_⟩
 obtain ⟨h',g',d',tk',os'⟩:=s'
 have eg:g'=s.gens:=hm.gens
 have ed:d'=d:=hm.drawn
 have eo:os'=s.os:=hm.os
 subst eg;subst ed;subst eo
 show wpAny _ A (load s.heap.objs.size >>= _) _ _ _
 refine aA (wpAny_load hL' (aF ?_))
 refine hQ h' tk' d' _ (jZ (bH hL')) (λb o e=>hm.heap b o ?_ (k4 b o (bS (bH e)) (k2 b o (k1 b o e)))) (hper acc hit)
 have lb:=bH e
 simp only [aZ,dS,or_false,not_or]
 exact ⟨bS lb,bS (cV (eV lb) (by rw [z1] at hI;exact hI))⟩
end
end L2

namespace L2
open PySem PySem.Spec PyProof.Rows
theorem GM {l m:List Nat} {ms:List Int} (hl:l.Pairwise (·<·)) (hm:fM m l) (hp:ms.Perm (m.map gX)) (hs:ms.Pairwise (·<=·)):ms=l.map gX:=by
 refine fM.eq_of_pairwise (le:=(·<=·)) (λa b _ _ h1 h2=>Int.le_antisymm h1 h2) hs ?_ (hp.trans (hm.map _))
 rw [U4]
 exact hl.imp λh=>Int.ofNat_le.mpr (jZ h)
theorem OS {vs us:List Value} {xs:List Int} (h:IntsAre us xs) (p:fM vs us):∃ ms,IntsAre vs ms/\fM ms xs:=by
 induction p generalizing xs with
 | nil=>exact ⟨xs,h,.refl _⟩
 | cons a p ih =>
  cases h with
  | cons k t h=>obtain ⟨ms,h1,h2⟩:=ih h;exact ⟨_,.cons k t h1,h2.cons _⟩
 | swap a b l =>
  cases h with
  | cons k t h=>cases h with
   | cons k2 t2 h=>exact ⟨_,.cons k2 t2 (.cons k t h),.swap ..⟩
 | trans p q i1 i2 =>
  obtain ⟨ms,h1,h2⟩:=i2 h
  obtain ⟨ns,h3,h4⟩:=i1 h1
  exact ⟨ns,h3,h4.trans h2⟩
theorem M3:∀ {l m:List Nat},m.Nodup->l.Nodup->(∀ z,z∈m↔z∈l)->fM m l
 | [],m,_,_,h=>by
  cases m with
  | nil=>exact .refl _
  | cons a m=>exact absurd ((h a).mp (aU ..)) (by simp)
 | a::l,m,hm,hl,h=>by
  have ha:a∈m:=(h a).mpr (aU ..)
  refine (List.perm_cons_erase ha).trans (fM.cons a (M3 (hm.erase a) (iK.mp hl).2 λz=>?_))
  rw [hm.mem_erase_iff,h z,aZ]
  constructor
  ·rintro ⟨h1,h2 | h2⟩
   ·exact absurd h2 h1
   ·exact h2
  ·intro hz
   exact ⟨λe=>(iK.mp hl).1 (e▸hz),.inr hz⟩
section
variable {prog:bF} {w:World} {A:Around} {E:Value->Shared->Prop} {s:Shared} {S:Addr} {l m:List Nat}
theorem GL {Q:Value->Shared->Prop} (hh:A.handled=none) (hS:vT s.heap S m (!dQ w)) (hso:l.Pairwise (·<·)) (hpm:fM m l) (hl6:l.length<=60)
  (h:∀ h' tk d (r:Addr) (out:Array Value) e,s.heap.objs.size<=r->(∀ b o,s.heap.get? b=some o->h'.get? b=some o)->h'.get? r=some (seqObj "list" out e)->IntsAre out.toList (l.map gX)->Q (.ref r) { s with heap:=h',toks:=tk,drawn:=d }) :
  wpAny (model prog w) A (call (.builtin "sorted") [.ref S]) Q E s:=by
 obtain ⟨o,es,ep,t,ho,hex,hd,hE,g⟩:=hS
 have hz:es.size<=60:=by rw [<- bP,hE.len,hpm.length_eq];exact hl6
 refine Calls.call_function_entry kind_sorted plain_sorted entry_sorted (args_sorted1 _) ?_
 unfold Builtin.«sorted»
 refine aA (m:=checkCount "sorted" 1 1 _) (aF ?_)
 refine aA (FO (by simp [hh]) g (by omega) ⟨o,ho,hex,hd⟩ λh' tk d vs hz' kk hp=>?_)
 have hvl:vs.length<=60:=by rw [hp.length_eq,aB,bP];exact hz
 obtain ⟨ns,hI,hpn⟩:=OS (DZ hE) hp
 refine aA (wpAny_newList ?_ (by rw [sizeLine_eq];omega))
 have gL:(h'.push (seqObj "list" vs.toArray 0)).get? h'.objs.size=some (seqObj "list" vs.toArray 0):=aR _ rfl
 refine aA (wpAny_holding (cW slot_list_sort ⟨_,gL,rfl⟩ entry_list_sort (list_sort_tree gL hI (by omega) λout ms a1 a2 a3=>⟨_,rfl,?_⟩) (args_list_sort _)))
 have em:=GM hso hpm (a2.trans hpn) a3
 subst em
 obtain ⟨e,he⟩:=sortedHeap_at (out:=out) gL
 refine aF ⟨_,rfl,h _ tk d h'.objs.size out e hz' (λb u x=>?_) he a1⟩
 have lb:=bH (kk b u x)
 rw [sortedHeap_old (bS lb) (cV lb (by rw [fF];exact PU _))]
 exact aJ _ (kk b u x)
end
def aDv (w:World) (q:Addr) (l:List Nat):HO:=.ext λh=>∃ m,vT h q m (!dQ w)/\fM m l
def WX (l:List Nat):List V:=(l.map gX).map V.int
section
variable {X:Cx}
def aAk (X:Cx):List V->Hp->VK->Prop:=λxs H Q=>∃ (p:Addr) (ns:List Nat),xs=[.ref p]/\rW X.K H p (WX ns)/\(∀ k∈ns,k<64)/\ns.Pairwise (·<·)/\ns.length<=60/\∀ q,H q=none->Q (.ref q) (fZ H q (aDv X.w q ns))
def RI (X:Cx):List V->Hp->VK->Prop:=λxs H Q=>∃ (q:Addr) (l:List Nat),xs=[.ref q]/\H q=some (aDv X.w q l)/\l.Pairwise (·<·)/\l.length<=60/\∀ r,H r=none->Q (.ref r) (fZ H r (.lst (WX l)))
theorem PB (hc:X.calm=true):kJ X (.type "set") (aAk X):=by
 intro pins s σ H xs us Q I r h
 obtain ⟨p,ns,rfl,hq,hb,hso,hz,q⟩:=h
 obtain ⟨u,rfl,rx⟩:=rL r
 cases rx
 obtain ⟨its,rv,pl,_⟩:=I.tuple hq
 refine FQ (I.ok.hd hc) pl (MO rv) hb (by omega) λh' tk hD kk=>?_
 obtain ⟨m,hG,hd⟩:=hD
 have hp:fM m ns:=M3 hd.1 (hso.imp λh=>bS h) hd.2.2
 obtain ⟨o,es,ep,t,ho,rest⟩:=id hG
 refine ⟨.ref _,_,I.laid kk (aL _) (show iJ X.prog X.w _ h' _ (aDv X.w s.heap.objs.size ns) from ⟨⟨m,hG,hp⟩,⟨o,ho⟩,?_⟩),rfl,q _ (I.hok.fresh (aL _))⟩
 rintro h1 h2 ⟨m,a,b⟩ k
 exact ⟨m,a.at k,b⟩
theorem KI (hc:X.calm=true):kJ X (.builtin "sorted") (RI X):=by
 intro pins s σ H xs us Q I r h
 obtain ⟨p,l,rfl,hq,hso,hz,q⟩:=h
 obtain ⟨u,rfl,rx⟩:=rL r
 cases rx
 obtain ⟨⟨m,hS,hp⟩,_⟩:=I.hok p _ hq
 refine GL (I.ok.hd hc) hS hso hp hz λh' tk d r out e hr kk he hi=>?_
 refine ⟨.ref r,_,dP.drawn (I.laid (t':=tk) (o:=.lst (WX l)) kk hr ?_) d,rfl,q _ (I.hok.fresh hr)⟩
 have hL:bD=2 ^ 24:=rfl
 exact ⟨by unfold WX;rw [aB,aB];omega,out.toList,e,MB hi,by simpa [seqObj] using he⟩
end
end L2
namespace TL
open PySem PySem.Spec PyProof.Rows L2
section
variable {X:Cx} {e:Expr} {te:ET} {pos:Pos}
def aDf (te:ET):ET:=λσ Q=>te σ λd=>∃ ns:List Nat,d=.tuple ((ns.map gX).map aO)/\(∀ k∈ns,k<64)/\ns.Pairwise (·<·)/\ns.length<=60/\Q (.list ((ns.map gX).map aO))
theorem T6 {g1 g2:Expr} {p2:Pos} (he:hU X e te) (hs:bN [e] X.env=(false,eval e X.env)::bN [] X.env:=by rfl)
  (pc:∀ {v:TE},PA X [e] (uQ v EN)->PE X (.Call g1 [.Call g2 [e] [] p2] [] pos) (QS (RI X) (uQ (QS (aAk X) (uQ v EN)) EN))) :
  hU X (.Call g1 [.Call g2 [e] [] p2] [] pos) (aDf te):=by
 obtain ⟨v,pe,re⟩:=he
 refine ⟨_,pc (fL pe iZ hs),λB p0 H ps σT σ Q QV o h k=>re B p0 H ps σT σ _ _ o h λd x H1 s1 r1 q1=>?_⟩
 obtain ⟨ns,rfl,hb,hso,hz,q⟩:=q1
 cases r1 with
 | tuple hq s =>
  have e:=tM s
  subst e
  refine ⟨_,ns,rfl,bB.seqT bV hq,hb,hso,hz,λw hw=>⟨w,_,rfl,cO,hso,hz,λr hr=>k _ _ _ ((s1.trans (dF hw)).trans (dF hr)) ?_ q⟩⟩
  exact pC ((o.grow (s1.trans (dF hw)))).live hr (LU _)
end
end TL

namespace L2
open PySem PySem.Spec PyProof.Rows TL
theorem T5 {es:List (Int×Addr×V)} {ks:List D} {xs:List (D×Addr×Value)} (ex:EX es ks xs) (k:D):(atKey xs k).isSome=decide (k∈ks):=by
 have h1:=ex.1
 by_cases hk:k∈ks
 ·rw [decide_eq_true hk]
  rw [<- h1] at hk
  obtain ⟨x,hx,e⟩:=aQ.mp hk
  unfold atKey
  rw [pY]
  exact zO.mpr ⟨x,hx,by simpa using e⟩
 ·rw [decide_eq_false hk]
  unfold atKey
  rw [pY,zP]
  intro z
  obtain ⟨x,hx,e⟩:=zO.mp z
  exact hk (by rw [<- h1];exact aQ.mpr ⟨x,hx,by simpa using e⟩)
def WI (neg:Bool) (K:aD) (w:World):R2:=λx y H Q=>∃ (p a:Addr) (es:List (Int×Addr×V)) (ks:List D) (k:D),x=.ref a/\y=.ref p/\FY H p es/\DK K w H es ks/\gE K H k x/\jL k/\Q (.bl (if neg=true then !decide (k∈ks) else decide (k∈ks))) H
section
variable {X:Cx}
theorem aCq (hu:X.A.units+9<cLine):nF X (compareOp .In) (WI false X.K X.w):=by
 intro pins s σ H x y v u Q I rx ry h
 obtain ⟨p,a,es,ks,k,rfl,rfl,hp,dk,rk,ok,q⟩:=h
 cases rx
 cases ry
 obtain ⟨h1,h2,xs,x1,x2⟩:=BV I hp dk
 refine wpAny_in_heap (show X.A.units+1+8<cLine by omega) (yC I rk ok) h1 x2 ?_
 rw [T5 x1]
 exact ⟨_,H,I.tok _,(show gC (.bl _) (Value.bool _) from rfl),q⟩
theorem N9 (hu:X.A.units+9<cLine):nF X (compareOp .NotIn) (WI true X.K X.w):=by
 intro pins s σ H x y v u Q I rx ry h
 obtain ⟨p,a,es,ks,k,rfl,rfl,hp,dk,rk,ok,q⟩:=h
 cases rx
 cases ry
 obtain ⟨h1,h2,xs,x1,x2⟩:=BV I hp dk
 refine wpAny_notIn_heap (show X.A.units+1+8<cLine by omega) (yC I rk ok) h1 x2 ?_
 rw [T5 x1]
 exact ⟨_,H,I.tok _,(show gC (.bl _) (Value.bool _) from rfl),q⟩
end
end L2
namespace TL
open PySem PySem.Spec PyProof.Rows L2
section
variable {X:Cx} {e n a b:Expr} {tk ta tb:ET} {pos:Pos}
def aJv (neg:Bool) (w:World) (k d:D) (Q:D->Prop):Prop:=∃ kvs,d=lY w kvs/\FX k/\(∀ kv∈kvs,jL kv.1)/\∀ z:Bool,(z=true↔k∈kvs.map (·.1))->Q (.bool (if neg=true then !z else z))
theorem aGn (neg:Bool):zG X (WI neg X.K X.w) (aJv neg X.w):=by
 intro H ps d1 d2 x y Q QV _ r1 r2 h k
 obtain ⟨kvs,rfl,⟨kok,ys,rfl⟩,hok,q⟩:=h
 obtain ⟨c,rfl⟩:=nB r1
 obtain ⟨p,es,ep,rfl,h1,h2,h3,h4,h5⟩:=wL r2
 exact ⟨p,c,es,kvs.map (·.1),_,rfl,rfl,.inr ⟨ep,bV _ _ h1⟩,(nZ (w:=X.w) h2 h3 hok h4).same bV,r1.same bV,kok,k _ _ H (L2.bB.refl _) (.bool _) (q _ (by rw [decide_eq_true_iff]))⟩
def aHi (neg:Bool) (w:World) (i:Nat) (tk:ET):ET:=λσ Q=>tk σ λk=>∃ kvs,σ[i]?=some (rC w kvs)/\FX k/\(∀ kv∈kvs,jL kv.1)/\∀ z:Bool,(z=true↔k∈kvs.map (·.1))->Q (.bool (if neg=true then !z else z))
end
theorem VL {X:Cx} {e n:Expr} {tk:ET} {pos:Pos} {i:Nat} {op:CmpOp} {neg:Bool} (ho:nF X (compareOp op) (WI neg X.K X.w)) (hn:PE X n (oU i)) (hk':hU X e tk) (hm:behindInMarks op n=false:=by first | exact E8 _ | rfl):IJ X (.Compare e [op] [n] pos) (M7 (aHi neg X.w i tk)):=by
 obtain ⟨vk,pk,rk⟩:=hk'
 refine ⟨_,E3 ho pk hn hm,λB p0 H ps σT σ Q QV o h k=>rk B p0 H ps σT σ _ _ o h λkd z H1 s1 r1 q1=>?_⟩
 obtain ⟨kvs,hi,⟨kok,ys,rfl⟩,hok,q⟩:=q1
 obtain ⟨⟨p,es,hσ,x⟩,u⟩:=(o.grow s1).isDic hi
 obtain ⟨a,rfl⟩:=nB r1
 exact ⟨.ref p,hσ,p,a,es,kvs.map (·.1),_,rfl,rfl,.inl x.obj,(nZ (w:=X.w) x.hsh x.nd hok x.ks).same bV,r1.same bV,kok,_,rfl,k _ H1 s1 (q _ (by rw [decide_eq_true_iff]))⟩
end TL

namespace TL
open PySem PySem.Spec PyProof.Rows L2
mutual
def nl:D->Bool
 | .tuple ts=>nlA ts
 | .list _=>false
 | .dict _=>false
 | _=>true
def nlA:List D->Bool
 | []=>true
 | t::ts=>nl t && nlA ts
end
def UZ (H H':Hp):Prop:=∀ a u,H a=some u->(∀ l,u≠.lst l)->H' a=some u
mutual
theorem gE.nl {K:aD} {H H':Hp} (e:UZ H H'):∀ {d:D} {v:V},gE K H d v->TL.nl d=true->gE K H' d v
 | _,_,.none,_=>.none
 | _,_,.bool b,_=>.bool b
 | _,_,.int i,_=>.int i
 | _,_,.str x,_=>.str x
 | _,_,.list q r,h=>by cases h
 | _,_,.tuple q r,h=>by
  refine .tuple ?_ (Reps.nl e r h)
  rcases q with (q | ⟨o,q⟩) | q
  ·exact .inl (.inl (e _ _ q λl z=>by cases z))
  ·exact .inl (.inr ⟨o,e _ _ q λl z=>by cases z⟩)
  ·exact .inr q
 | _,_,.wild _,h=>by cases h
 | _,_,.exc _ _,h=>by cases h
 | _,_,.excA _ _ _,h=>by cases h
 | _,_,.tape _ _,h=>by cases h
 | _,_,.dct _ _ _ _,h=>by cases h
 | _,_,.addr _,h=>by cases h
 | _,_,.ins _ _,h=>by cases h
theorem Reps.nl {K:aD} {H H':Hp} (e:UZ H H'):∀ {ds:List D} {vs:List V},Reps K H ds vs->nlA ds=true->Reps K H' ds vs
 | _,_,.nil,_=>.nil
 | _,_,.cons r t,h=>.cons (gE.nl e r ((cJ _ _▸h:_/\_).1)) (Reps.nl e t ((cJ _ _▸h:_/\_).2))
end
theorem OO {H:Hp} {z:Addr} {zs l:List V} {ps:List Addr} (h:H z=some (.lst zs)):UZ (mask H ps) (mask (fZ H z (.lst l)) ps):=λa u e hu=>by
 unfold mask at e |-
 by_cases hp:a∈ps
 ·rw [if_pos hp] at e;cases e
 ·rw [if_neg hp] at e |-
  rw [cG λq=>by rw [q,h] at e;cases e;exact hu _ rfl];exact e
def B8 (B H:Hp) (v:V):Prop:=∃ t x y z zs,v=V.ref t/\H t=some (.tup [x,y,.ref z])/\H z=some (.lst zs)/\B z=none/\zs.length<=100000
theorem B8.base (B B' H:Hp) (v:V) (hb:∀ z,B z=none->B' z=none) (h:B8 B H v):B8 B' H v :=
 let ⟨t,x,y,z,zs,h1,h2,h3,h4,h5⟩:=h;⟨t,x,y,z,zs,h1,h2,h3,hb _ h4,h5⟩
abbrev MG:=tP B8
section
variable {X:Cx} {a b c e:Expr} {ta tb te:ET} {tf:FT} {pos:Pos} {st:Stmt} {rest:List Stmt}
def aE8 (ta tb:ET) (tf:FT):RT:=λQ σ=>ta σ λx=>tb σ λy=>tf σ λms=>ms.length<=100000/\Q (.tuple [x,y,.list ms])
theorem WF {x1:Nat} {p2:Pos} (ha:hU X a ta) (hb:hU X b tb) (hf:VA X c tf) (hs:bN [a,b,c] X.env=(false,eval a X.env)::bN [b,c] X.env:=by rfl) (hs2:bN [b,c] X.env=(false,eval b X.env)::bN [c] X.env:=by rfl) (hs3:bN [c] X.env=(false,eval c X.env)::bN [] X.env:=by rfl) :
  PRt B8 X [.Return (some (.Tuple [a,b,c] x1 p2)) pos] (aE8 ta tb tf):=by
 obtain ⟨va,pa,ra⟩:=ha
 obtain ⟨vb,pb,rb⟩:=hb
 obtain ⟨vc,pc,rc⟩:=hf
 refine ⟨_,wO (vE (JK (fL pa (fL pb (fL pc iZ hs3) hs2) hs))),λB p0 H ps σT σ Q DV o h k=>?_⟩
 refine ra B p0 H ps σT σ _ _ o h λd1 v1 H1 s1 r1 q1=>?_
 refine rb B p0 H1 ps σT σ _ _ (o.grow s1) q1 λd2 v2 H2 s2 r2 q2=>?_
 have o2:=(o.grow s1).grow s2
 refine rc B p0 H2 ps σT σ _ _ o2 q2 λms z ys H3 s3 hz hy rs q3=>⟨aE rfl,λt ht=>?_⟩
 have hzp:z∉ps:=iC o2.live hz
 have o3:=o2.grow s3
 have rep3:gE X.K (mask H3 ps) (.list ms) (.ref z):=.list (mK.of (nT hzp hy)) (rs.same (iN λq hq=>aN _ hq))
 have nzt:z≠t:=λe=>by rw [<- e,hy] at ht;cases ht
 refine k _ _ _ (o3.base.trans (dF ht)) ((pB o3.live ht (.cons (r1.same (bO (s2.trans s3))) (.cons (r2.same (bO s3)) (.cons rep3 .nil)))).same (iN o3.sub)) ?_ q3.2
 exact ⟨t,v1,v2,z,ys,rfl,cO,by rw [cG nzt];exact hy,bB.free' o2.base hz,by rw [<- rs.length];exact q3.1⟩
structure Gh (K:aD) (B:Hp) (p0:List Addr) (H0:Hp) (ps:List Addr) (H:Hp) (σT:List Sl) (σ:L2.St) (T:kC) (n i:Nat) (z:Addr):Prop where
 o:mL K B p0 H ps σT σ T n
 r:∀ l,mL K B p0 (fZ H z (.lst l)) ps (σT.set i .un) σ T n
 s:∀ l,bB (mask H0 ps) (mask (fZ H z (.lst l)) ps)
 nt:z≠T.p
 h:∃ t x y zs,σ[i]?=some (some (.ref t))/\H t=some (.tup [x,y,.ref z])/\H z=some (.lst zs)/\zs.length<=100000
theorem xW {p z:Addr} {H H':Hp} {u:HO} (s:iL p H H'):iL p (fZ H z u) (fZ H' z u):=λa o ne e=>by
 by_cases q:a=z
 ·subst q;rw [cO] at e |-;exact e
 ·rw [cG q] at e |-;exact s a o ne e
theorem Gh.grow {K:aD} {B H0 H H':Hp} {p0 ps:List Addr} {σT:List Sl} {σ:L2.St} {T:kC} {n n' i:Nat} {z:Addr} (g:Gh K B p0 H0 ps H σT σ T n i z) (s:iL T.p H H') (t:pW K H' ps T n'):Gh K B p0 H0 ps H' σT σ T n' i z:=by
 refine ⟨g.o.growX s t,λl=>?_,λl=>(g.s l).trans ((xW s).mask g.o.mem'),g.nt,?_⟩
 ·refine (g.r l).growX (xW s) ⟨?_,L2.bB.seq ((xW s).mask g.o.mem') (g.r l).tp.scr,t.dig⟩
  obtain ⟨k,hk⟩:=t.obj
  exact ⟨k,by rw [cG g.nt.symm];exact hk⟩
 ·obtain ⟨t',x,y,zs,h1,h2,h3,h4⟩:=g.h
  have ne:t'≠T.p:=λq=>by
   obtain ⟨k,hk⟩:=g.o.tp.obj
   rw [q,hk] at h2;cases h2
  exact ⟨t',x,y,zs,h1,s _ _ ne h2,s _ _ g.nt h3,h4⟩
theorem Q5 {α:Type} {l:List α} {i j:Nat} {x y:α} (h:i≠j):(l.set i x).set j y=(l.set j y).set i x:=by
 rw [List.set_comm _ _ h]
theorem Gh.set {K:aD} {B H0 H:Hp} {p0 ps:List Addr} {σT:List Sl} {σ:L2.St} {T:kC} {n i j:Nat} {z:Addr} {d:D} {v:V} (g:Gh K B p0 H0 ps H σT σ T n i z) (hij:j≠i) (r:gE K (mask H ps) d v) (hn:nl d=true):Gh K B p0 H0 ps H (σT.set j (.val d)) (σ.set j (some v)) T n i z:=by
 obtain ⟨t',x,y,zs,h1,h2,h3,h4⟩:=g.h
 refine ⟨g.o.set r,λl=>?_,g.s,g.nt,t',x,y,zs,by rw [aW hij];exact h1,h2,h3,h4⟩
 rw [Q5 hij]
 exact (g.r l).set (gE.nl (OO h3) r hn)
def PQc (i:Nat) (X:Cx) (st:List Stmt) (t:qL):Prop:=∃ ts:TS,CQ X st ts/\∀ (B:Hp) (p0:List Addr) (H0 H:Hp) (ps:List Addr) (σT:List Sl) (σ:L2.St) (T:kC) (n:Nat) (DC:xN) (DV:rT) (z:Addr),Gh X.K B p0 H0 ps H σT σ T n i z->t (oZ T) DC n σT->zH X.K B p0 H0 ps T DC DV->ts DV σ H
def qIf (c:qQ) (te:ET) (u:qL):qL:=λτ DC n σ=>c σ λb=>if b=true then te σ (DC.rt n) else u τ DC n σ
theorem aFe {i:Nat} {ct:qQ} {u:qL} {p2:Pos} (hc:IJ X c ct) (he:hU X e te) (hr:PQc i X rest u):PQc i X (.If c [.Return (some e) p2] [] pos::rest) (qIf ct te u):=by
 obtain ⟨vc,pc,rc⟩:=hc
 obtain ⟨ve,pe,re⟩:=he
 obtain ⟨vr,pr,rr⟩:=hr
 refine ⟨_,lC (RS pc (wO (vE pe)) AB) pr,λB p0 H0 H ps σT σ T n DC DV z g h f=>?_⟩
 refine rc B p0 H ps σT σ _ _ g.o.ok h λb H1 s1 q1=>?_
 have o1:=g.o.grow s1
 cases b with
 | true =>
  rw [if_pos rfl] at q1 |-
  refine re B p0 H1 ps σT σ _ _ o1.ok q1 λd v H2 s2 r2 q2=>?_
  have o2:=o1.grow s2
  exact f.rt n d v H2 o2.ok.base ⟨o2.tp.obj,L2.bB.seq (bO o2.ok.base) o2.bq,o2.tp.dig⟩ (r2.same (iN o2.ok.sub)) q2
 | false =>
  rw [if_neg (by decide)] at q1 |-
  exact rr B p0 H0 H1 ps σT σ T n DC DV z (g.grow (.of s1) (g.o.tp.grow s1)) q1 f
def aI1 (j:Nat) (te:EC) (u:qL):qL:=λτ DC n σ=>te τ n σ λn1 d=>nl d=true/\u τ DC n1 (σ.set j (.val d))
theorem aAn {i j:Nat} {te:EC} {u:qL} {x:Str} {p1:Pos} (hij:j≠i) (he:rS X e te) (ps':∀ {v:TE},PE X e v->PS X (.Assign [.Name x p1] e pos) (rQ v (jE j))) (hr:PQc i X rest u):PQc i X (.Assign [.Name x p1] e pos::rest) (aI1 j te u):=by
 obtain ⟨ve,pe,re⟩:=he
 obtain ⟨vr,pr,rr⟩:=hr
 refine ⟨_,lC (ps' pe) pr,λB p0 H0 H ps σT σ T n DC DV z g h f=>?_⟩
 refine re B p0 H ps σT σ T n _ _ g.o h λn1 d v H1 s1 t1 r1 q1=>?_
 exact rr B p0 H0 H1 ps _ _ T n1 DC DV z ((g.grow s1 t1).set hij r1 q1.1) q1.2 f
def aI2 (i:Nat) (te:ET) (u:qL):qL:=λτ DC n σ=>te σ λ_=>u τ DC n (σ.set i .un)
theorem aFf {i:Nat} {m:Expr} {u:qL} {ap cp p1:Pos} (he:hU X e te) (hs:bN [e] X.env=(false,eval e X.env)::bN [] X.env:=by rfl)
  (pb:∀ {ta:TA},PA X [e] ta->PS X (.Expr (.Call (.Attribute m "append" ap) [e] [] cp) p1) (LF (VQ X.K "list" EZ (tOp (rIx X.K) (oU i) (tC (.int 2))) ta))) (hr:xL X rest u):PQc i X (.Expr (.Call (.Attribute m "append" ap) [e] [] cp) p1::rest) (aI2 i te u):=by
 obtain ⟨ve,pe,re⟩:=he
 obtain ⟨vr,pr,rr⟩:=hr
 refine ⟨_,lC (pb (fL pe iZ hs)) pr,λB p0 H0 H ps σT σ T n DC DV z g h f=>?_⟩
 obtain ⟨t',x,y,zs,h1,h2,h3,h4⟩:=g.h
 refine ⟨.ref t',h1,.inr (.inl ⟨t',[x,y,.ref z],2,.ref z,rfl,rfl,rW.of h2,rfl,.inl ⟨rfl,zs,mK.of h3⟩,?_⟩)⟩
 refine re B p0 H ps σT σ _ _ g.o.ok h λd v H1 s1 r1 q1=>?_
 have hL:bD=2 ^ 24:=rfl
 refine ⟨z,zs,v,rfl,rfl,s1 _ _ h3,by omega,?_⟩
 have g1:=g.grow (.of s1) (g.o.tp.grow s1)
 exact rr B p0 _ ps _ σ T n DC DV (g1.r _) q1 (f.later (g1.s _))
def aHs (i:Nat) (te:ET) (u:qL):qL:=λτ DC n σ=>i<σ.length/\te σ λd=>u τ DC n (σ.set i (.val d))
theorem V9 {i:Nat} {x:Str} {p1:Pos} {u:qL} (he:PUt B8 X e te) (ps':∀ {v:TE},PE X e v->PS X (.Assign [.Name x p1] e pos) (rQ v (jE i))) (hr:PQc i X rest u):xL X (.Assign [.Name x p1] e pos::rest) (aHs i te u):=by
 obtain ⟨ve,pe,re⟩:=he
 obtain ⟨vr,pr,rr⟩:=hr
 refine ⟨_,lC (ps' pe) pr,λB p0 H ps σT σ T n DC DV o h f=>?_⟩
 obtain ⟨hi,h⟩:=h
 refine re B p0 H ps σT σ _ _ o.ok h λd v H1 s1 r1 x1 q1=>?_
 obtain ⟨t,vx,vy,z,zs,rfl,h2,h3,h4,h5⟩:=x1
 have hz:∀ l,bB H (fZ H1 z (.lst l)):=λl b u' hb=>by
  rw [cG λq=>by rw [q,h4] at hb;cases hb];exact s1 b u' hb
 have og:=λl=>o.grow (hz l)
 refine rr B p0 H H1 ps _ _ T n DC DV z ⟨(o.grow s1).set r1,λl=>?_,λl=>bO (hz l),λq=>?_,t,vx,vy,zs,aY (by rw [<- o.ok.len];exact hi),h2,h3,h5⟩ q1 f
 ·rw [zL]
  exact (og l).with (og l).ok.setUn
 ·obtain ⟨k,hk⟩:=o.tp.obj
  rw [<- q,h4] at hk;cases hk
end
end TL

namespace L2
open PySem PySem.Spec PyProof.Rows
abbrev fO (x q:Str) (st:Stmt) (kV dc pm:Value) (an:Option Addr) (cd ct:Value):dI:=mP x q (xH st) (lN st) (bQ st) .none kV dc pm an cd ct
theorem aJi {α:Type} {P:List α->Prop} (h:∀ a,P [a]):∀ us:List α,us.length=1->P us
 | [a],_=>h a
theorem aJh {α:Type} {P:List α->Prop} (h:∀ a b,P [a,b]):∀ us:List α,us.length=2->P us
 | [a,b],_=>h a b
theorem aJg {α:Type} {P:List α->Prop} (h:∀ a b c,P [a,b,c]):∀ us:List α,us.length=3->P us
 | [a,b,c],_=>h a b c
theorem aJf {α:Type} {P:List α->Prop} (h:∀ a b c d,P [a,b,c,d]):∀ us:List α,us.length=4->P us
 | [a,b,c,d],_=>h a b c d
theorem aJe {α:Type} {P:List α->Prop} (h:∀ a b c d e,P [a,b,c,d,e]):∀ us:List α,us.length=5->P us
 | [a,b,c,d,e],_=>h a b c d e
abbrev oN (x q:Str) (st:Stmt) (ps:List Str):Prop:=∀ (kV dc pm:Value) (an:Option Addr) (cd ct:Value) (us:List Value),us.length=ps.length->bindArgs (fO x q st kV dc pm an cd ct) ⟨us,[]⟩=pure (ps.zip us)
structure Dg (K:aD) (x q:Str) (st:Stmt) (a:Addr) (f:dI) (ps:List Str):Prop where
 k:fU K (.ref a)=true
 F:P5 K x q st a f
 d:pH K f ps []
structure Df (K:aD) (mg:Str->Option Value) (x:Str) (st:Stmt) (a:Addr) (f:dI) (ps:List Str):Prop extends Dg K x x st a f ps where
 m:mg x=some (.ref a)
section
variable {K:aD} {h:Heap} {mg:Str->Option Value} {x q:Str} {st:Stmt} {ps:List Str} {f:Addr} {oc:Value} {od an:Option Addr} {sl:Array (Option Value)} {kV dc pm cd ct:Value}
theorem dg (b:oN x q st ps) (l:K.lookup f=some ⟨oc,od,.func (fO x q st kV dc pm an cd ct),sl⟩) (c:oO K cd q=true) (k:fU K (.ref f)=true):Dg K x q st f (fO x q st kV dc pm an cd ct) ps:=⟨k,T0 l c k,(T0 l c k).binds b⟩
theorem df (X:K.In h) (G:h.Ns iR mg) (b:oN x x st ps) (a:PySem.W.nsIn K iR x=some (some (.ref f))) (l:K.lookup f=some ⟨oc,od,.func (fO x x st kV dc pm an cd ct),sl⟩) (c:oO K cd x=true) (k:fU K (.ref f)=true):Df K mg x st f (fO x x st kV dc pm an cd ct) ps:=⟨dg b l c k,PySem.W.mg_of X G a⟩
theorem U8 {p0:Str} (h:∀ kV dc pm an cd ct a0,bindArgs (fO x q st kV dc pm an cd ct) ⟨[a0],[]⟩=pure ([p0].zip [a0]):=by intros;rfl):oN x q st [p0]:=λa b c d e f=>aJi (h a b c d e f)
theorem PH {p0 p1:Str} (h:∀ kV dc pm an cd ct a0 a1,bindArgs (fO x q st kV dc pm an cd ct) ⟨[a0,a1],[]⟩=pure ([p0,p1].zip [a0,a1]):=by intros;rfl):oN x q st [p0,p1]:=λa b c d e f=>aJh (h a b c d e f)
theorem U7 {p0 p1 p2:Str} (h:∀ kV dc pm an cd ct a0 a1 a2,bindArgs (fO x q st kV dc pm an cd ct) ⟨[a0,a1,a2],[]⟩=pure ([p0,p1,p2].zip [a0,a1,a2]):=by intros;rfl):oN x q st [p0,p1,p2]:=λa b c d e f=>aJg (h a b c d e f)
theorem bn4 {p0 p1 p2 p3:Str} (h:∀ kV dc pm an cd ct a0 a1 a2 a3,bindArgs (fO x q st kV dc pm an cd ct) ⟨[a0,a1,a2,a3],[]⟩=pure ([p0,p1,p2,p3].zip [a0,a1,a2,a3]):=by intros;rfl):oN x q st [p0,p1,p2,p3]:=λa b c d e f=>aJf (h a b c d e f)
theorem bn5 {p0 p1 p2 p3 p4:Str} (h:∀ kV dc pm an cd ct a0 a1 a2 a3 a4,bindArgs (fO x q st kV dc pm an cd ct) ⟨[a0,a1,a2,a3,a4],[]⟩=pure ([p0,p1,p2,p3,p4].zip [a0,a1,a2,a3,a4]):=by intros;rfl):oN x q st [p0,p1,p2,p3,p4]:=λa b c d e f=>aJe (h a b c d e f)
theorem na {C:Addr} {f:Str} (h:fK K (.ref C) f=some none):mN K C f:=h
end
end L2
namespace TL
open PySem PySem.Spec PyProof.Rows L2
section
variable {X:Cx} {e:Expr} {es:List Expr} {te:ET} {x:Str} {pos pos' p:Pos}
theorem cd {k n:Nat} {f:Addr} {fd:dI} {pn:List Str} {sp:oA} {t:AT} {st:Stmt} (F:cL X.prog X.w X.K X.mg X.base fP k f fd pn (bX X.K sp)) (D:Df X.K X.mg x st f fd pn) (hr:Room n X.A) (ha:xU X (e::es) t) (hk:k<=n:=by decide)
  (hg:Gl X x:=by rfl) (hdb:(x == ("__debug__":Str))=false:=by decide) (he:bN (e::es) X.env=(false,eval e X.env)::bN es X.env:=by rfl) (hpl:(backTo pos (bN es X.env)).any (·.1)=false:=by rfl):hU X (.Call (.Name x p) (e::es) [] pos) (mS sp t):=MX F D.m D.k D.d (hr.mono hk) ha λh=>tN F (hr.mono hk) hg D.m D.k D.d .nil sQ h hdb he hpl
theorem cc {k n:Nat} {f:Addr} {fd:dI} {pn:List Str} {sp:M9} {t:AC} {st:Stmt} (F:cL X.prog X.w X.K X.mg X.base fP k f fd pn (fB X.K sp)) (D:Df X.K X.mg x st f fd pn) (hr:Room n X.A) (ha:UY X (e::es) t) (hk:k<=n:=by decide)
  (hg:Gl X x:=by rfl) (hdb:(x == ("__debug__":Str))=false:=by decide) (he:bN (e::es) X.env=(false,eval e X.env)::bN es X.env:=by rfl) (hpl:(backTo pos (bN es X.env)).any (·.1)=false:=by rfl):rS X (.Call (.Name x p) (e::es) [] pos) (aA4 sp t):=X4 F D.m D.k D.d (hr.mono hk) ha λh=>tN F (hr.mono hk) hg D.m D.k D.d .nil sQ h hdb he hpl
theorem cF {k n:Nat} {f:Addr} {fd:dI} {pn:List Str} {sp:SpF} {t:AT} {st:Stmt} (F:cL X.prog X.w X.K X.mg X.base fP k f fd pn (lM X.K sp)) (D:Df X.K X.mg x st f fd pn) (hr:Room n X.A) (ha:xU X (e::es) t) (hk:k<=n:=by decide)
  (hg:Gl X x:=by rfl) (hdb:(x == ("__debug__":Str))=false:=by decide) (he:bN (e::es) X.env=(false,eval e X.env)::bN es X.env:=by rfl) (hpl:(backTo pos (bN es X.env)).any (·.1)=false:=by rfl):VA X (.Call (.Name x p) (e::es) [] pos) (aAv sp t):=XQ F D.m D.k D.d (hr.mono hk) ha λh=>tN F (hr.mono hk) hg D.m D.k D.d .nil sQ h hdb he hpl
theorem cU {R:Hp->Hp->V->Prop} (hR:∀ (B B' H:Hp) (v:V),(∀ z,B z=none->B' z=none)->R B H v->R B' H v) {k n:Nat} {f:Addr} {fd:dI} {pn:List Str} {sp:oA} {t:AT} {st:Stmt} (F:cL X.prog X.w X.K X.mg X.base fP k f fd pn (tP R X.K sp)) (D:Df X.K X.mg x st f fd pn) (hr:Room n X.A) (ha:xU X (e::es) t) (hk:k<=n:=by decide)
  (hg:Gl X x:=by rfl) (hdb:(x == ("__debug__":Str))=false:=by decide) (he:bN (e::es) X.env=(false,eval e X.env)::bN es X.env:=by rfl) (hpl:(backTo pos (bN es X.env)).any (·.1)=false:=by rfl):PUt R X (.Call (.Name x p) (e::es) [] pos) (mS sp t):=VJ hR F D.m D.k D.d (hr.mono hk) ha λh=>tN F (hr.mono hk) hg D.m D.k D.d .nil sQ h hdb he hpl
theorem sf {tg iter:Expr} {body:List Stmt} {g:GT} {tb:oW} {ti:IT} (he:CS X tg iter ti) (hg:CT X tg g) (hb:vS X body tb) (hp:PassesOwn (model X.prog X.w) X.A X.env X.xe:=by exact PassesOwn.never) (hc:X.calm=true:=by rfl) (hs:∀ x,foldedSetIterable iter X.env x=pure x:=by intro _;rfl):xT X (.For tg iter body [] pos) (WD ti g tb):=aBu he hg hb λh1 h2 h3=>RV hp hc h1 h2 h3 hs
theorem sfC {tg iter:Expr} {body:List Stmt} {g:GT} {tb:qL} {ti:IT} (he:CS X tg iter ti) (hg:CT X tg g) (hb:xL X body tb) (hp:PassesOwn (model X.prog X.w) X.A X.env X.xe:=by exact PassesOwn.never) (hc:X.calm=true:=by rfl) (hs:∀ x,foldedSetIterable iter X.env x=pure x:=by intro _;rfl):P4 X (.For tg iter body [] pos) (YE ti g tb):=aB5 he hg hb λh1 h2 h3=>RV hp hc h1 h2 h3 hs
theorem el {elt iter tg:Expr} {ifs:List Expr} {scope:Scope} {fr:List (Option Nat)} {N':List Str} {ti:IT} {g:GT} {tt:qQ} {te:ET} (hi:CS X tg iter ti) (hY:∀ b:BP,CT (blk X scope N' b) tg g/\zV (blk X scope N' b) ifs tt/\hU (blk X scope N' b) elt te) (h:uT scope X.env.scope X.N N' fr=true:=by kernel_rfl) (hc:X.calm=true:=by rfl) (hs:∀ x,foldedSetIterable iter X.env x=pure x:=by intro _;rfl):hU X (.ListComp elt [⟨tg,iter,ifs,0⟩] scope pos) (X5 fr ti g tt te):=aHd hi hY λa b=>JM h hc a b hs
theorem fl {elt iter tg:Expr} {ifs:List Expr} {scope:Scope} {fr:List (Option Nat)} {N':List Str} {ti:IT} {g:GT} {tt:qQ} {te:ET} (hi:CS X tg iter ti) (hY:∀ b:BP,CT (blk X scope N' b) tg g/\zV (blk X scope N' b) ifs tt/\hU (blk X scope N' b) elt te) (h:uT scope X.env.scope X.N N' fr=true:=by kernel_rfl) (hc:X.calm=true:=by rfl) (hs:∀ x,foldedSetIterable iter X.env x=pure x:=by intro _;rfl):VA X (.ListComp elt [⟨tg,iter,ifs,0⟩] scope pos) (fLc fr ti g tt te):=aG6 hi hY λa b=>JM h hc a b hs
theorem elC {elt iter tg:Expr} {scope:Scope} {fr:List (Option Nat)} {N':List Str} {ti:IT} {g:GT} {te:EC} (hi:CS X tg iter ti) (hY:∀ b:BP,CT (blk X scope N' b) tg g/\zV (blk X scope N' b) [] xI/\rS (blk X scope N' b) elt te) (h:uT scope X.env.scope X.N N' fr=true:=by kernel_rfl) (hc:X.calm=true:=by rfl) (hs:∀ x,foldedSetIterable iter X.env x=pure x:=by intro _;rfl):rS X (.ListComp elt [⟨tg,iter,[],0⟩] scope pos) (cLc fr ti g te):=aHe hi hY λa b=>JM h hc a b hs
theorem cY {r:List V->Hp->VK->Prop} {f:List D->(D->Prop)->Prop} {t:AT} {T:String} (hf:tD X r f) (ha:xU X (e::es) t) (hc:kJ X (.type T) r) (hm:X.mg x=none) (hv:bootBuiltins x=some (.type T)) (hg:Gl X x:=by rfl) (hn:x≠"__name__":=by decide) (hdb:(x == ("__debug__":Str))=false:=by decide) (he:bN (e::es) X.env=(false,eval e X.env)::bN es X.env:=by rfl) (hpl:(backTo pos (bN es X.env)).any (·.1)=false:=by rfl):hU X (.Call (.Name x p) (e::es) [] pos) (mS f t):=aAy hf ha λh=>jH hc hg hm hv h hn hdb he hpl
theorem cB {r:List V->Hp->VK->Prop} {f:List D->(D->Prop)->Prop} {t:AT} {T:String} (hf:tD X r f) (ha:xU X (e::es) t) (hc:kJ X (.builtin T) r) (hm:X.mg x=none) (hv:bootBuiltins x=some (.builtin T)) (hg:Gl X x:=by rfl) (hn:x≠"__name__":=by decide) (hdb:(x == ("__debug__":Str))=false:=by decide) (he:bN (e::es) X.env=(false,eval e X.env)::bN es X.env:=by rfl) (hpl:(backTo pos (bN es X.env)).any (·.1)=false:=by rfl):hU X (.Call (.Name x p) (e::es) [] pos) (mS f t):=aAy hf ha λh=>lD hc hg hm hv h hn hdb he hpl
theorem kT {r:List V->Hp->VK->Prop} {f:List D->(D->Prop)->Prop} {t:AC} {T:String} (hf:tD X r f) (ha:UY X (e::es) t) (hc:kJ X (.type T) r) (hm:X.mg x=none) (hv:bootBuiltins x=some (.type T)) (hg:Gl X x:=by rfl) (hn:x≠"__name__":=by decide) (hdb:(x == ("__debug__":Str))=false:=by decide) (he:bN (e::es) X.env=(false,eval e X.env)::bN es X.env:=by rfl) (hpl:(backTo pos (bN es X.env)).any (·.1)=false:=by rfl):rS X (.Call (.Name x p) (e::es) [] pos) (US f t):=aHf hf ha λh=>jH hc hg hm hv h hn hdb he hpl
theorem so {p2:Pos} {t:AT} (i:Nat) (hN:X.N.Nodup) (h:xU X es t) (hi:X.N[i]?=some x:=by rfl) (hx:NC X.env.scope x:=by first | exact Or.inl rfl | exact Or.inr rfl) (hs:gT (.List es p2) (some (.Name x pos')) pos.line X.env=pure false:=by rfl) (hf:X.fn x=true\/X.env.scope.names.lookup x=some .local:=by first | exact .inl rfl | exact .inr rfl):xT X (.Assign [.Name x pos'] (.List es p2) pos) (aB7 i t):=aBt (i:=i) h λh=>pQ hN hi hx h hs hf
theorem sn {p2:Pos} (i:Nat) (hN:X.N.Nodup) (hi:X.N[i]?=some x:=by rfl) (hx:NC X.env.scope x:=by first | exact Or.inl rfl | exact Or.inr rfl) (hs:gT (.Dict [] [] p2) (some (.Name x pos')) pos.line X.env=pure false:=by rfl) (hf:X.fn x=true\/X.env.scope.names.lookup x=some .local:=by first | exact .inl rfl | exact .inr rfl):xT X (.Assign [.Name x pos'] (.Dict [] [] p2) pos) (RB i):=V0 (i:=i) λh=>pQ hN hi hx h hs hf
theorem sF {t:FT} (i:Nat) (hN:X.N.Nodup) (h:VA X e t) (hi:X.N[i]?=some x:=by rfl) (hx:NC X.env.scope x:=by first | exact Or.inl rfl | exact Or.inr rfl) (hs:gT e (some (.Name x pos')) pos.line X.env=pure false:=by rfl) (hf:X.fn x=true\/X.env.scope.names.lookup x=some .local:=by first | exact .inl rfl | exact .inr rfl):xT X (.Assign [.Name x pos'] e pos) (RA i t):=VZ (i:=i) h λh=>pQ hN hi hx h hs hf
theorem sC {te:EC} (i:Nat) (hN:X.N.Nodup) (h:rS X e te) (hi:X.N[i]?=some x:=by rfl) (hx:NC X.env.scope x:=by first | exact Or.inl rfl | exact Or.inr rfl) (hs:gT e (some (.Name x pos')) pos.line X.env=pure false:=by rfl) (hf:X.fn x=true\/X.env.scope.names.lookup x=some .local:=by first | exact .inl rfl | exact .inr rfl):P4 X (.Assign [.Name x pos'] e pos) (PD i te):=aB4 (i:=i) h λh=>pQ hN hi hx h hs hf
def ndB (l:List Str):Bool:=decide l.Nodup
theorem pk (i:Nat) (hN:ndB X.N=true:=by kernel_rfl) (hi:X.N[i]?=some x:=by rfl) (hx:NC X.env.scope x:=by first | exact Or.inl rfl | exact Or.inr rfl) (hf:X.fn x=true\/X.env.scope.names.lookup x=some .local:=by first | exact .inl rfl | exact .inr rfl):PG X (.Name x pos) (jE i):=L5 (of_decide_eq_true hN) hi hx hf
theorem tv (h:hU X e te) (he:∀ whole,isTrue e X.env whole=(do let v <- whole;standAt e.pos;holding [v] (truthy v)):=by intro _;rfl):IJ X e (M7 te):=aBi h λh=>RP h he
end
end TL

namespace K36
open PySem L2 TL
def iY (i:Nat):Stmt:=PySem.Challenge.pw_leafjudge_k36_whole_no_tree_costs_less.main.body.getD i (.Pass ⟨0,0,0,0⟩)
structure Txt (K:aD) (mg:Str->Option Value) (a_0 a_1 a_2 a_3 a_4 a_5 a_6 a_7 a_8 a_9 a_10 a_11 a_12 a_13 a_14 a_15 a_16 a_17 a_18 a_19 a_20 a_21 a_22 a_23 a_24 a_25 a_26 a_27 a_28 a_29 a_30 a_31 a_32 a_33 a_34 a_35 a_36 a_37 a_38 a_39 a_40 a_law:Addr) (f_0 f_1 f_2 f_3 f_4 f_5 f_6 f_7 f_8 f_9 f_10 f_11 f_12 f_13 f_14 f_15 f_16 f_17 f_18 f_19 f_20 f_21 f_22 f_23 f_24 f_25 f_26 f_27 f_28 f_29 f_30 f_31 f_32 f_33 f_34 f_35 f_36 f_37 f_38 f_39 f_40 f_law:dI) (c_RowSets:Addr) (t_SIDES:Addr) (t_MOST_SETS:Tok):Prop where
 x_RowSets:mg "RowSets"=some (.ref c_RowSets)
 C_RowSets:P6 K c_RowSets
 K_RowSets:Mk K c_RowSets a_0
 n_RowSets_form:mN K c_RowSets "form"
 n_RowSets_kept:mN K c_RowSets "kept"
 n_RowSets_slip:mN K c_RowSets "slip"
 n_RowSets_knot:mN K c_RowSets "knot"
 n_RowSets_choices:mN K c_RowSets "choices"
 M_1:YL K c_RowSets "leaf_of" a_1
 M_2:YL K c_RowSets "partings" a_2
 D_0:Dg K "__init__" "RowSets.__init__" (vH (iY 17) 0) a_0 f_0 ["self","form","rows","prices"]
 D_1:Dg K "leaf_of" "RowSets.leaf_of" (vH (iY 17) 1) a_1 f_1 ["self","numbers"]
 D_2:Dg K "partings" "RowSets.partings" (vH (iY 17) 2) a_2 f_2 ["self","numbers"]
 D_3:Df K mg "counted" (iY 4) a_3 f_3 ["form","rows"]
 D_4:Df K mg "first_answer" (iY 5) a_4 f_4 ["form","rows"]
 D_5:Df K mg "questions_of" (iY 8) a_5 f_5 ["form"]
 D_6:Df K mg "questions_on" (iY 9) a_6 f_6 ["field"]
 D_7:Df K mg "choices_of" (iY 10) a_7 f_7 ["form"]
 D_8:Df K mg "side_of" (iY 11) a_8 f_8 ["form","question","stray","case"]
 D_9:Df K mg "field_asked" (iY 12) a_9 f_9 ["form","question"]
 D_10:Df K mg "entries_to_yes" (iY 13) a_10 f_10 ["question","stray","field"]
 D_11:Df K mg "values_held" (iY 14) a_11 f_11 ["question","field"]
 D_12:Df K mg "is_proper" (iY 15) a_12 f_12 ["sides","fewest"]
 D_13:Df K mg "sides_of_rows" (iY 18) a_13 f_13 ["form","choice","rows"]
 D_14:Df K mg "least" (iY 21) a_14 f_14 ["form","rows","deep","prices"]
 D_15:Df K mg "known_trees" (iY 22) a_15 f_15 ["sets","numbers","deep"]
 D_16:Df K mg "sets_met" (iY 23) a_16 f_16 ["sets","numbers","deep"]
 D_17:Df K mg "sides_of_all" (iY 24) a_17 f_17 ["sets","level"]
 D_18:Df K mg "cheapest" (iY 25) a_18 f_18 ["sets","known","numbers","deep"]
 D_19:Df K mg "tree_for" (iY 26) a_19 f_19 ["sets","known","numbers","deep"]
 D_20:Df K mg "_law_tape" (iY 28) a_20 f_20 ["_law_script"]
 D_21:Df K mg "_law_draw" (iY 29) a_21 f_21 ["_law_tape_here","_law_many"]
 D_22:Df K mg "_law_names" (iY 30) a_22 f_22 ["_law_tape_here","_law_many"]
 D_23:Df K mg "_law_form" (iY 31) a_23 f_23 ["_law_tape_here","_law_fields","_law_values"]
 D_24:Df K mg "_law_case" (iY 32) a_24 f_24 ["_law_tape_here","_law_form_here"]
 D_25:Df K mg "_law_rows" (iY 33) a_25 f_25 ["_law_tape_here","_law_form_here","_law_many"]
 D_26:Df K mg "_law_questions" (iY 34) a_26 f_26 ["_law_form_here"]
 D_27:Df K mg "_law_side" (iY 35) a_27 f_27 ["_law_form_here","_law_question","_law_stray","_law_case_here"]
 D_28:Df K mg "_law_parts" (iY 36) a_28 f_28 ["_law_form_here","_law_question","_law_stray","_law_rows_here"]
 D_29:Df K mg "_law_counts" (iY 37) a_29 f_29 ["_law_form_here","_law_rows_here"]
 D_30:Df K mg "_law_tree" (iY 38) a_30 f_30 ["_law_tape_here","_law_form_here","_law_deep"]
 D_31:Df K mg "_law_knots" (iY 39) a_31 f_31 ["_law_tree_here"]
 D_32:Df K mg "_law_slips" (iY 40) a_32 f_32 ["_law_form_here","_law_tree_here","_law_rows_here"]
 D_33:Df K mg "_law_prices" (iY 41) a_33 f_33 ["_law_tape_here"]
 D_34:Df K mg "_law_leaf" (iY 42) a_34 f_34 ["_law_form_here","_law_rows_here","_law_slip"]
 D_35:Df K mg "_law_proper" (iY 43) a_35 f_35 ["_law_form_here","_law_rows_here"]
 D_36:Df K mg "_law_numbers" (iY 44) a_36 f_36 ["_law_rows_here"]
 D_37:Df K mg "_law_holds" (iY 45) a_37 f_37 ["_law_form_here","_law_rows_here","_law_prices_here","_law_table"]
 D_38:Df K mg "_law_is_tree" (iY 46) a_38 f_38 ["_law_form_here","_law_tree_here","_law_deep"]
 D_39:Df K mg "_law_kinds" (iY 47) a_39 f_39 ["_law_table"]
 D_40:Df K mg "_law_right" (iY 48) a_40 f_40 ["_law_form_here","_law_rows_here","_law_deep","_law_prices_here","_law_found"]
 D_law:Df K mg "law" (iY 49) a_law f_law ["_law_script"]
 c_SIDES:mg "SIDES"=some (.ref t_SIDES)
 t_SIDES:aD0 K t_SIDES ["yes","no"]
 c_MOST_SETS:mg "MOST_SETS"=some (.int 400 t_MOST_SETS)
 b_ValueError:mg "ValueError"=none
 b_bool:mg "bool"=none
 b_int:mg "int"=none
 b_isinstance:mg "isinstance"=none
 b_len:mg "len"=none
 b_list:mg "list"=none
 b_max:mg "max"=none
 b_min:mg "min"=none
 b_range:mg "range"=none
 b_reversed:mg "reversed"=none
 b_set:mg "set"=none
 b_sorted:mg "sorted"=none
 b_tuple:mg "tuple"=none
def iE:Str:="abcdefghijklmnopqrstuvwxyz"
def sgn (c:Nat):Bool:=Txt.contains iE ⟨#[c]⟩
def yW (z:Str):Bool:=decide (1<=z.length) && decide (z.length<=8) && z.cps.toList.all sgn
def nm:D->Bool
 | .str z=>yW z
 | _=>false
def txt:D->Str
 | .str z=>z
 | _=>""
def nms (d:D) (lo hi:Int):Bool:=match d with | .tuple ts=>decide (lo<=ts.length) && decide ((ts.length:Int)<=hi) && ts.all nm && decide ((ts.map txt).Nodup) | _=>false
def fld:D->Bool
 | .tuple [n,vs]=>nm n && nms vs 2 5
 | _=>false
def fst:D->D
 | .tuple (n::_)=>n
 | _=>.none
def aD4 (n:Nat) (bs:List Int):Prop:=bs.length=n/\∀ b∈bs,0<=b/\b<4096
def IK (n:Nat) (ys:List Str):Prop:=ys.length=n/\(∀ y∈ys,yW y=true)/\ys.Nodup
def jT (f:Str×List Str):D:=.tuple [.str f.1,.tuple (f.2.map aP)]
def fX (fs:List (Str×List Str)) (an:List Str):D:=.tuple [.tuple (fs.map jT),.tuple (an.map aP)]
structure jD (fs:List (Str×List Str)) (an:List Str):Prop where
 n1:1<=fs.length
 n5:fs.length<=5
 nd:IK fs.length (fs.map (·.1))
 vs:∀ f∈fs,2<=f.2.length/\f.2.length<=5/\IK f.2.length f.2
 a2:2<=an.length
 a4:an.length<=4
 an:IK an.length an
def ZA:oA:=λ_ _=>False
def wE:M9:=λ_ n ds Q=>∃ m:Int,ds=[.int m]/\0<m/\m<=100000/\n<1099511627776/\∀ r:Int,0<=r->r<m->Q (n+1) (.int r)
def Y9:M9:=λ_ n ds Q=>∃ m:Nat,ds=[.int m]/\1<=m/\m<=5/\n<1000000000000/\∀ n' ys,n'<=n+12->IK m ys->Q n' (.tuple (ys.map aP))
def Y8:M9:=λ_ n ds Q=>∃ f v:Nat,ds=[.int f,.int v]/\1<=f/\f<=5/\2<=v/\v<=5/\n<900000000000/\∀ n' fs an,n'<=n+100->jD fs an->fs.length=f->(∀ x∈fs,x.2.length<=v)->Q n' (fX fs an)
theorem rH {α:Type} {xs:List α} {i:Int} (h0:0<=i) (h1:i<xs.length):∃ a,a∈xs/\L2.atI xs i=some a/\xs[i.toNat]?=some a:=by
 have hi:i.toNat<xs.length:=by omega
 refine ⟨xs[i.toNat],fE hi,?_,aH hi⟩
 have:=L2.gJ (xs:=xs) (j:=i.toNat) (v:=xs[i.toNat]) (aH hi)
 rwa [show ((i.toNat:Nat):Int)=i by omega] at this
theorem lQ (n:Nat):(iO n).length=n:=by unfold iO;simp
theorem vK {n k:Nat} {x:D} (h:(iO n)[k]?=some x):k<n/\x=.int k:=by
 unfold iO at h
 rw [aI] at h
 by_cases hk:k<n
 ·rw [jJ hk] at h
  cases h
  exact ⟨hk,rfl⟩
 ·rw [gG (by simpa using hk)] at h
  cases h
theorem BW {α:Type} (xs:List α) (j:Nat):mJ xs none (some (j:Int))=xs.take j:=by
 unfold mJ
 rw [HT.sIx_none,HT.sIx_nat,EI,aHz]
 by_cases h:j<=xs.length
 ·rw [aBa h]
 ·rw [YN (by omega),dR,mU (by omega)]
theorem UJ {α:Type} (xs:List α) (i:Nat):mJ xs (some (i:Int)) none=xs.drop i:=by
 unfold mJ
 rw [HT.sIx_none,HT.sIx_nat]
 by_cases h:i<=xs.length
 ·rw [aBa h,mU (by rw [fD];omega)]
 ·rw [YN (by omega),IP (aL _),IP (by omega)]
  simp
theorem tY {α β:Type} (f:α->β) (xs:List α) (lo hi:Option Int):mJ (xs.map f) lo hi=(mJ xs lo hi).map f:=by
 unfold mJ
 rw [aB,List.map_take,List.map_drop]
theorem SN {z:Str} (h1:1<=z.cps.toList.length) (h2:z.cps.toList.length<=8) (h3:∀ c∈z.cps.toList,c∈iE.cps.toList):yW z=true:=by
 have e:z.length=z.cps.toList.length:=by simp [Str.length]
 unfold yW
 rw [e,decide_eq_true h1,decide_eq_true h2]
 simp only [aD9,jO]
 intro c hc
 unfold sgn
 rw [TK]
 exact decide_eq_true (h3 c hc)
theorem MC {z:Str} (h:yW z=true):1<=z.length/\z.length<=8/\∀ c∈z.cps.toList,c∈iE.cps.toList:=by
 unfold yW at h
 simp only [cJ,decide_eq_true_eq,jO] at h
 refine ⟨h.1.1,h.1.2,λc hc=>?_⟩
 have:=h.2 c hc
 unfold sgn at this
 rw [TK] at this
 exact of_decide_eq_true this
theorem nodup_range {α:Type} {n:Nat} (F:Nat->α) (inj:∀ i j,i<n->j<n->F i=F j->i=j):((cK n).map F).Nodup:=by
 rw [List.Nodup,U4]
 have:(cK n).Nodup:=List.nodup_range
 refine xR.imp_of_mem (λ{a b} ha hb hab e=>?_) this
 exact hab (inj a b (by simpa using ha) (by simpa using hb) e)
theorem JX:iE.cps.toList.Nodup:=by decide +kernel
theorem zA:iE.cps.toList.length=26:=by decide +kernel
theorem WY {xs:List Nat} (nd:xs.Nodup) {i j:Nat} {c:Nat} (h1:xs[i]?=some c) (h2:xs[j]?=some c):i=j:=by
 obtain ⟨a1,a2⟩:=aG.mp h1
 obtain ⟨b1,b2⟩:=aG.mp h2
 exact (AV nd).mp (a2.trans b2.symm)
theorem GN:∀ {ys:List D},(∀ y∈ys,∃ c,c∈iE.cps.toList/\y=.str ⟨#[c]⟩)->∃ cs:List Nat,ys=cs.map (λc=>aP ⟨#[c]⟩)/\∀ c∈cs,c∈iE.cps.toList
 | [],_=>⟨[],rfl,λc h=>by simp at h⟩
 | y::ys,h=>by
  obtain ⟨c,hc,rfl⟩:=h y (aU ..)
  obtain ⟨cs,rfl,h2⟩:=GN (ys:=ys) λy hy=>h y (aN _ hy)
  refine ⟨c::cs,rfl,λd hd=>?_⟩
  rcases aZ.mp hd with rfl | hd
  ·exact hc
  ·exact h2 d hd
theorem BK (cs:List Nat):(Txt.join ⟨#[]⟩ (cs.map λc=>⟨#[c]⟩)).cps.toList=cs:=by
 rw [JZ,bG]
 induction cs with
 | nil=>rfl
 | cons c cs ih=>rw [aX,kO,ih];rfl
theorem sY {ys:List Str} {k:Nat} (h:k<ys.length):L2.atI (ys.map aP) (k:Int)=some (.str ys[k]):=L2.gJ (by rw [aI,aH h];rfl)
theorem JC {c:qQ} {te:ET} {u:oW} {DT:nG} {σ:List Sl} {i:Nat} (C:Prop) (R:D->Prop) (h:∀ q:Bool->Prop,(∀ b,(b=true->C)->q b)->c σ q) (h1:C->∀ q:D->Prop,(∀ d,R d->q d)->te σ q) (d0:D) (h0:σ[i]?=some (.val d0)) (r0:R d0) (k:∀ d,R d->u DT (σ.set i (.val d))):jI (sIf c (wI i te) kB) u DT σ:=by
 refine h _ λb hb=>?_
 cases b with
 | true =>
  rw [if_pos rfl]
  exact h1 (hb rfl) _ k
 | false =>
  rw [if_neg (by decide)]
  have e:σ.set i (.val d0)=σ:=by
   apply gD
   intro j
   by_cases hj:i=j
   ·subst hj
    rw [aY (aG.mp h0).1,h0]
   ·rw [aW hj]
  have:=k d0 r0
  rw [e] at this
  exact this
theorem vG {n:Nat} (F:Nat->Str) (h:∀ i,i<n->yW (F i)=true) (inj:∀ i j,i<n->j<n->F i=F j->i=j):IK n ((cK n).map F) :=
 ⟨by simp,λy hy=>by
  obtain ⟨i,hi,rfl⟩:=aQ.mp hy
  exact h i (by simpa using hi),nodup_range F inj⟩
theorem OF {n:Nat} {ys:List Str} (h:IK n ys) (t:Nat) {m:Nat} (hm:m<=n):IK m ((ys.drop t++ys.take t).take m):=by
 have hp:(ys.drop t++ys.take t).Perm ys:=by
  have:(ys.take t++ys.drop t).Perm ys:=by rw [K4]
  exact List.perm_append_comm.trans this
 refine ⟨?_,λy hy=>h.2.1 y (hp.mem_iff.mp (fV hy)),(hp.nodup_iff.mpr h.2.2).sublist (zK _ _)⟩
 rw [bC,hp.length_eq,h.1]
 omega
theorem OE {n:Nat} {ys:List Str} (h:IK n ys) (t:Nat):IK n (ys.drop t++ys.take t):=by
 have e:=OF h t (aL n)
 rwa [mU] at e
 rw [bL,fD,bC,h.1]
 omega
theorem HZ {ns:List Int} (h:0<ns.length) (i:Int):∃ x:Int,L2.atI (ns.map aO) (i % ((ns.map aO).length:Nat))=some (.int x):=by
 rw [aB]
 obtain ⟨a,hm,ha,_⟩:=rH (xs:=ns.map aO) (i:=i % (ns.length:Nat)) (uH _ (by omega)) (by rw [aB];exact pZ _ (by omega))
 obtain ⟨b,hb,rfl⟩:=aQ.mp hm
 exact ⟨b,ha⟩
@[irreducible] def PF (i:Nat):Nat:=iE.cps.toList.getD i 0
theorem AO {i:Nat} (h:i<26):iE.cps.toList[i]?=some (PF i):=by
 have hl:i<iE.cps.toList.length:=by rw [zA];exact h
 unfold PF
 rw [pK,aH hl];rfl

theorem YF {i:Nat} (h:i<26):PF i∈iE.cps.toList:=aV (AO h)
theorem wU {α:Type} {xs:List α} (nd:xs.Nodup) {i j:Nat} {c:α} (h1:xs[i]?=some c) (h2:xs[j]?=some c):i=j:=by
 obtain ⟨a1,a2⟩:=aG.mp h1
 obtain ⟨b1,b2⟩:=aG.mp h2
 exact (AV nd).mp (a2.trans b2.symm)
def qS:List Str:=["say","ask","is","upto","yes","no","all","in","none","a"]
theorem IR:qS.Nodup:=by decide +kernel
theorem IQ:∀ y∈qS,yW y=true:=by decide +kernel
@[irreducible] def wAt (i:Nat):Str:=qS.getD i ""
theorem zZ {i:Nat} (h:i<10):qS[i]?=some (wAt i):=by
 have hl:i<qS.length:=h
 unfold wAt
 rw [pK,aH hl];rfl
theorem G7 {s m:Nat} (hm:m<=10):IK m ((cK m).map λj:Nat=>wAt ((s+3*j) % 10)):=by
 refine vG _ (λi hi=>IQ _ (aV (zZ (jY _ (by decide))))) λi j hi hj h=>?_
 have l1:=zZ (i:=(s+3*i) % 10) (jY _ (by decide))
 have l2:=zZ (i:=(s+3*j) % 10) (jY _ (by decide))
 have h':wAt ((s+3*i) % 10)=wAt ((s+3*j) % 10):=h
 rw [<- h'] at l2
 have:=wU IR l1 l2
 omega
theorem SM {z:Str} (hz7:z.cps.toList.length=7) (hzl:∀ c∈z.cps.toList,c∈iE.cps.toList) {m:Nat} (hm:m<=7):IK m ((cK m).map λj:Nat=>Txt.slice z none (some ((j:Int)+1))):=by
 have e:∀ j:Nat,(Txt.slice z none (some ((j:Int)+1))).cps.toList=z.cps.toList.take (j+1):=λj=>by
  rw [sK];exact BW _ (j+1)
 refine vG _ (λi hi=>?_) λi j hi hj h=>?_
 ·refine SN ?_ ?_ λc hc=>?_
  ·rw [e,bC];omega
  ·rw [e,bC];omega
  ·rw [e] at hc;exact hzl c (fV hc)
 ·have e1:=e i
  rw [h,e j] at e1
  have:=congrArg iG e1
  rw [bC,bC] at this
  omega
def DO (z:Str) (t c:Nat):Str:=Txt.slice z none (some (t:Int))++⟨#[c]⟩++Txt.slice z (some (t:Int)) none
theorem sS (z:Str) (t c:Nat):(DO z t c).cps.toList=z.cps.toList.take t++(c::z.cps.toList.drop t):=by
 unfold DO
 rw [uB,uB,sK,sK,UJ,BW]
 simp
theorem WZ {z:Str} (hz7:z.cps.toList.length=7) (hzl:∀ c∈z.cps.toList,c∈iE.cps.toList) {t s m:Nat} (hm:m<=26):IK m ((cK m).map λj:Nat=>DO z t (PF ((s+7*j) % 26))):=by
 refine vG _ (λi hi=>?_) λi j hi hj h=>?_
 ·have e:=sS z t (PF ((s+7*i) % 26))
  refine SN ?_ ?_ λc hc=>?_
  ·rw [e,bL,cI];omega
  ·rw [e,bL,cI,bC,fD];omega
  ·rw [e] at hc
   rcases eP.mp hc with hc | hc
   ·exact hzl c (fV hc)
   ·rcases aZ.mp hc with rfl | hc
    ·exact YF (jY _ (by decide))
    ·exact hzl c (uZ hc)
 ·have e1:=sS z t (PF ((s+7*i) % 26))
  have h':DO z t (PF ((s+7*i) % 26))=DO z t (PF ((s+7*j) % 26)):=h
  rw [h',sS] at e1
  have e2:=List.append_cancel_left e1
  have e3:PF ((s+7*j) % 26)=PF ((s+7*i) % 26):=(List.cons.inj e2).1
  have l1:=AO (i:=(s+7*i) % 26) (jY _ (by decide))
  have l2:=AO (i:=(s+7*j) % 26) (jY _ (by decide))
  rw [e3] at l2
  have:=WY JX l1 l2
  omega
theorem OU (z:Str) (hz7:z.cps.toList.length=7) (t c:Nat):(Txt.slice z none (some (t:Int))).length+1<=100000/\(Txt.slice z none (some (t:Int))++(⟨#[c]⟩:Str)).length+(Txt.slice z (some (t:Int)) none).length<=100000:=by
 have a1:=Txt.slice_le z none (some (t:Int))
 have a2:=Txt.slice_le z (some (t:Int)) none
 have a3:z.length=z.cps.toList.length:=by simp [Str.length]
 have a4:(Txt.slice z none (some (t:Int))++(⟨#[c]⟩:Str)).length=(Txt.slice z none (some (t:Int))).length+1:=by
  show ((Txt.slice z none (some (t:Int))).cps++#[_]).size=_
  rw [QC];rfl
 rw [a4]
 omega
theorem DE {r:Int} (h:0<=r):∃ t:Nat,r=(t:Int):=⟨r.toNat,(lR h).symm⟩
theorem MT {Pv:List Str->Prop}:∀ (ns:List Str) (ys:List D),ys.length=ns.length->(∀ (k:Nat) (x y:D),(ns.map aP)[k]?=some x->ys[k]?=some y->∃ nm vs,x=.str nm/\y=jT (nm,vs)/\Pv vs)->∃ fs:List (Str×List Str),ys=fs.map jT/\fs.map (·.1)=ns/\∀ f∈fs,Pv f.2
 | [],ys,hl,_=>⟨[],jM.mp hl,rfl,λf hf=>by simp at hf⟩
 | n::ns,[],hl,_=>by simp at hl
 | n::ns,y::ys,hl,h=>by
  obtain ⟨nm,vs,e1,e2,hp⟩:=h 0 (.str n) y rfl rfl
  cases e1
  obtain ⟨fs,h1,h2,h3⟩:=MT ns ys (by simpa using hl) λk x y hx hy=>h (k+1) x y (by simpa using hx) (by simpa using hy)
  refine ⟨(n,vs)::fs,by rw [e2,h1];rfl,by rw [aX,h2],λf hf=>?_⟩
  rcases aZ.mp hf with rfl | hf
  ·exact hp
  ·exact h3 f hf
def U6 (f:Str×List Str) (d:D):Bool:=match d with | .none=>true | .str z=>decide (z∈f.2) | _=>false
def TD (an:List Str) (d:D):Bool:=match d with | .str z=>decide (z∈an) | _=>false
structure Cd (d:D):Prop where
 lay:d.canLay0=true
 dep:d.depth<=60
structure Th (n m:Nat) (d:D):Prop where
 bulk:d.bulk<=n
 fit:d.leavesShort 110=true
 shw:d.showable=true
 nodict:d.hasDict=false
 depth:d.depth<=m
 lay:d.canLay0=true
theorem Th.mono {n n' m m':Nat} {d:D} (h:Th n m d) (hn:n<=n') (hm:m<=m'):Th n' m' d:=⟨cM h.bulk hn,h.fit,h.shw,h.nodict,cM h.depth hm,h.lay⟩
theorem rY {n m:Nat}:∀ {ts:List D},(∀ t∈ts,Th n m t)->uF ts<=ts.length*(n+1)/\IG 110 ts=true/\NH ts=true/\iH ts=false/\cD ts<=m/\cR ts=true
 | [],_=>⟨cS _,rfl,rfl,rfl,cS _,rfl⟩
 | t::ts,h=>by
  have a:=h t (aU ..)
  obtain ⟨b1,b2,b3,b4,b5,b6⟩:=rY (ts:=ts) λx hx=>h x (aN _ hx)
  refine ⟨?_,?_,?_,?_,?_,?_⟩
  ·show t.bulk+1+uF ts<=(ts.length+1)*(n+1)
   have:=a.bulk
   rw [Nat.add_mul,aIi]
   omega
  ·show (t.leavesShort 110 && IG 110 ts)=true
   rw [a.fit,b2];rfl
  ·show (t.showable && NH ts)=true
   rw [a.shw,b3];rfl
  ·show (t.hasDict || iH ts)=false
   rw [a.nodict,b4];rfl
  ·show max t.depth (cD ts)<=m
   exact Nat.max_le.mpr ⟨a.depth,b5⟩
  ·show (t.canLay0 && cR ts)=true
   rw [a.lay,b6];rfl
theorem vB (n m k:Nat) {N M:Nat} {ts:List D} (h:∀ t∈ts,Th n m t) (hl:ts.length<=k) (hN:k*(n+1)<=N) (hM:m+1<=M):Th N M (.tuple ts):=by
 obtain ⟨b1,b2,b3,b4,b5,b6⟩:=rY h
 have:ts.length*(n+1)<=k*(n+1):=PR _ hl
 exact ⟨by show uF ts<=N;omega,b2,b3,b4,by show cD ts+1<=M;omega,b6⟩
theorem QP (n m k:Nat) {N M:Nat} {ts:List D} (h:∀ t∈ts,Th n m t) (hl:ts.length<=k) (hN:k*(n+1)<=N) (hM:m+1<=M):Th N M (.list ts):=by
 obtain ⟨b1,b2,b3,b4,b5,b6⟩:=rY h
 have:ts.length*(n+1)<=k*(n+1):=PR _ hl
 exact ⟨by show uF ts<=N;omega,b2,b3,b4,by show cD ts+1<=M;omega,b6⟩
theorem EL {n m:Nat}:Th n m .none:=⟨cS _,rfl,rfl,rfl,cS _,rfl⟩
theorem GH {z:Str} (hc:∀ c∈z.cps.toList,c<1000):aA9 z=true:=by
 unfold aA9
 rw [<- Array.all_toList,jO]
 intro c h1
 have:=hc c h1
 exact decide_eq_true (by omega)
theorem aBj {n m:Nat} {z:Str} (h:z.length<=n) (hc:∀ c∈z.cps.toList,c<1000):Th n m (.str z):=by
 refine ⟨h,?_,rfl,rfl,cS _,GH hc⟩
 show (z.cps.toList.all λc=>decide (c<16 ^ 8))=true
 rw [jO]
 intro c h1
 have:=hc c h1
 exact decide_eq_true (by omega)
theorem OL {c:Nat} (h:c∈iE.cps.toList):c<128:=by
 have:∀ c∈iE.cps.toList,c<128:=by decide +kernel
 exact this c h
theorem G8 {y:Str} (h:yW y=true):y.length<=8/\∀ c∈y.cps.toList,c<128:=⟨(MC h).2.1,λc hc=>OL ((MC h).2.2 c hc)⟩
theorem kQ {y:Str} (h:yW y=true) {n m:Nat} (hn:8<=n):Th n m (.str y):=aBj (cM (G8 h).1 hn) λc hc=>by have:=(G8 h).2 c hc;omega
theorem wC {ys:List Str} (h:∀ y∈ys,yW y=true) {n m:Nat} (hn:8<=n):∀ t∈ys.map aP,Th n m t:=λt ht=>by
 obtain ⟨y,hy,rfl⟩:=aQ.mp ht
 exact kQ (h y hy) hn
theorem QN {ys:List Str} (h:∀ y∈ys,yW y=true) (hl:ys.length<=8):Th 72 1 (.tuple (ys.map aP)):=vB 8 0 8 (wC h (aL _)) (by rw [aB];exact hl) (by decide) (by decide)
theorem xJ {n m:Nat}:∀ t∈([]:List D),Th n m t:=λt h=>by simp at h
theorem kI {n m:Nat} {a:D} {ts:List D} (h:Th n m a) (hs:∀ t∈ts,Th n m t):∀ t∈a::ts,Th n m t:=λt ht=>by
 rcases aZ.mp ht with rfl | ht
 ·exact h
 ·exact hs t ht
theorem YI {n m:Nat} {as bs:List D} (h:∀ t∈as,Th n m t) (hs:∀ t∈bs,Th n m t):∀ t∈as++bs,Th n m t:=λt ht=>(eP.mp ht).elim (h t) (hs t)
theorem Th.cd {n m:Nat} {d:D} (h:Th n m d) (hm:m<=60):Cd d:=⟨h.lay,cM h.depth hm⟩
theorem MH:∀ {ts:List D} {t:D},cR ts=true->t∈ts->t.canLay0=true
 | a::r,t,h,hm=>by
  have h':(a.canLay0 && cR r)=true:=h
  rw [cJ] at h'
  rcases aZ.mp hm with rfl | hm
  ·exact h'.1
  ·exact MH h'.2 hm
theorem D1:∀ {ts:List D} {t:D},t∈ts->t.depth<=cD ts
 | a::r,t,hm=>by
  show t.depth<=max a.depth (cD r)
  rcases aZ.mp hm with rfl | hm
  ·exact aBb _ _
  ·exact cM (D1 hm) (YO _ _)
theorem Cd.item {ts:List D} {t:D} (h:Cd (.tuple ts)) (ht:t∈ts):Cd t:=⟨MH h.lay ht,by
 have h1:cD ts+1<=60:=h.dep
 have:=D1 ht
 omega⟩
section
variable {fs:List (Str×List Str)} {an:List Str}
theorem jD.name (F:jD fs an) {f:Str×List Str} (h:f∈fs):yW f.1=true:=F.nd.2.1 _ (aQ.mpr ⟨f,h,rfl⟩)
theorem jD.vals (F:jD fs an) {f:Str×List Str} (h:f∈fs):∀ y∈f.2,yW y=true:=(F.vs f h).2.2.2.1
theorem jD.fld (F:jD fs an) {f:Str×List Str} (h:f∈fs):Th 146 2 (jT f):=vB 72 1 2 (kI (kQ (F.name h) (by decide)) (kI (QN (F.vals h) (by have:=(F.vs f h).2.1;omega)) xJ)) (aE rfl) (by decide) (by decide)
end
theorem HL {x:D} {ts:List D} {Q:D->Prop} (h1:wS x (.tuple ts)) (h2:Q (.bool (CN x (.tuple ts)))):aDc x (.tuple ts) Q:=by
 cases x<;>exact ⟨h1,h2⟩
theorem T3 {x:D} {ts:List D} {Q:D->Prop} (h1:wS x (.list ts)) (h2:Q (.bool (CN x (.list ts)))):aDc x (.list ts) Q:=by
 cases x<;>exact ⟨h1,h2⟩
theorem B4 (d:D) (ys:List Str):((ys.map aP).any λz=>cP z d)=TD ys d:=by
 induction ys with
 | nil=>cases d<;>rfl
 | cons y ys ih =>
  rw [aX,xQ,ih]
  cases d with
  | str z =>
   show ((y == z) || decide (z∈ys))=decide (z∈y::ys)
   rw [mB]
   simp only [tJ,beq_iff_eq,decide_eq_true_eq,aZ]
   exact ⟨λh=>h.imp Eq.symm id,λh=>h.imp Eq.symm id⟩
  | _=>rfl
theorem E6 {ys:List Str} (h:∀ y∈ys,yW y=true) {d:D} (hd:Cd d):wS d (.tuple (ys.map aP)):=by
 obtain ⟨_,_,_,_,b5,b6⟩:=rY (wC h (aL 8) (m:=0))
 exact ⟨b6,hd.lay,by have:=hd.dep;omega⟩
theorem JQ {ys:List Str} (h:∀ y∈ys,yW y=true) {d:D} (hd:Cd d):wS d (.tuple (ys.map aP++[.none])):=by
 obtain ⟨_,_,_,_,b5,b6⟩:=rY (YI (wC h (aL 8) (m:=0)) (kI EL xJ))
 exact ⟨b6,hd.lay,by have:=hd.dep;omega⟩
theorem FE:∀ {ys:List Str} {z:Str} {m:Nat},m<ys.idxOf z->ys[m]?≠some z
 | [],z,m,h=>by simp at h
 | y::ys,z,m,h=>by
  rw [List.idxOf_cons] at h
  by_cases e:y=z
  ·subst e
   simp at h
  ·have e':(y == z)=false:=by simpa using e
   rw [e'] at h
   simp only [cond_false] at h
   cases m with
   | zero=>simpa using e
   | succ m =>
    rw [List.getElem?_cons_succ]
    exact FE (by omega)
theorem aD4.drop {n:Nat} {bs:List Int} (h:aD4 n bs) (k:Nat):aD4 (n-k) (bs.drop k):=⟨by rw [fD,h.1],λb hb=>h.2 b (uZ hb)⟩
theorem V6 {te:ET} {u:oW} {DT:nG} {σ:List Sl} {i j:Nat} {a b:D} (h:∀ q:D->Prop,q (.tuple [a,b])->te σ q) (k:u DT ((σ.set i (.val a)).set j (.val b))):jI (aE3 i j te) u DT σ:=h _ ⟨a,b,rfl,k⟩
def oJ (fs:List (Str×List Str)) (d:D):Bool:=match d with | .tuple ts=>decide (ts.length=fs.length) && (fs.zip ts).all (λp=>U6 p.1 p.2) | _=>false
section
variable {fs:List (Str×List Str)} {an:List Str}
theorem nE {cs:List D} (h:oJ fs (.tuple cs)=true):cs.length=fs.length/\∀ (k:Nat) f c,fs[k]?=some f->cs[k]?=some c->U6 f c=true:=by
 unfold oJ at h
 simp only [cJ,decide_eq_true_eq,jO] at h
 refine ⟨h.1,λk f c h1 h2=>?_⟩
 exact h.2 (f,c) (aV ((F3 (z:=(f,c))).mpr ⟨h1,h2⟩))
theorem YC {cs:List D} (hl:cs.length=fs.length) (h:∀ (k:Nat) f c,fs[k]?=some f->cs[k]?=some c->U6 f c=true):oJ fs (.tuple cs)=true:=by
 unfold oJ
 simp only [cJ,decide_eq_true_eq,jO]
 refine ⟨hl,λp hp=>?_⟩
 obtain ⟨k,hk⟩:=bZ hp
 obtain ⟨h1,h2⟩:=F3.mp hk
 exact h k p.1 p.2 h1 h2
theorem BY (F:jD fs an) {cs:List D} (h:oJ fs (.tuple cs)=true) {n m:Nat} (hn:8<=n):∀ c∈cs,Th n m c:=λc hc=>by
 obtain ⟨hl,hv⟩:=nE h
 obtain ⟨k,hk⟩:=bZ hc
 have hk':k<fs.length:=by rw [<- hl];exact (aG.mp hk).1
 have:=hv k fs[k] c (aH hk') hk
 cases c with
 | none=>exact EL
 | str z=>exact kQ (F.vals (fE hk') z (of_decide_eq_true this)) hn
 | _=>cases this
end
def fR (r:List D×Str):D:=.tuple [.tuple r.1,.str r.2]
def NA (fs:List (Str×List Str)) (an:List Str) (r:List D×Str):Prop:=oJ fs (.tuple r.1)=true/\r.2∈an
def iD (fs:List (Str×List Str)) (an:List Str) (rs:List (List D×Str)):Prop:=∀ r∈rs,NA fs an r
theorem aBk {fs:List (Str×List Str)} {an:List Str} (F:jD fs an) {r:List D×Str} (h:NA fs an r):Th 92 2 (fR r):=by
 have n5:=F.n5
 exact vB 45 1 2 (kI (vB 8 0 5 (BY F h.1 (aL 8)) (by rw [(nE h.1).1];exact n5) (by decide) (by decide)) (kI (kQ (F.an.2.1 _ h.2) (by decide)) xJ)) (aE rfl) (by decide) (by decide)
theorem VM {fs:List (Str×List Str)} {an:List Str} (F:jD fs an) {rs:List (List D×Str)} (h:iD fs an rs) (hl:rs.length<=60):Th 6000 3 (.list (rs.map fR)) :=
 QP 92 2 60 (λt ht=>by
  obtain ⟨r,hr,rfl⟩:=aQ.mp ht
  exact aBk F (h r hr)) (by rw [aB];exact hl) (by decide) (by decide)
def qOk (f:Str×List Str) (k v:D):Bool:=match k,v with
 | .str kk,.str z=>decide (z∈f.2) && (decide (kk="is") || (decide (kk="upto") && decide (f.2.idxOf z+1<f.2.length)))
 | _,_=>false
def isN (n:D) (f:Str×List Str):Bool:=match n with | .str z=>decide (f.1=z) | _=>false
def MN (fs:List (Str×List Str)) (d:D):Bool:=match d with
 | .tuple [k,n,v]=>fs.any λf=>isN n f && qOk f k v
 | _=>false
def OH (k:Str) (f:Str×List Str) (z:Str):D:=.tuple [.str k,.str f.1,.str z]
def sN (f:Str×List Str):List Str:=if f.2.length=2 then f.2.take 1 else f.2
def wN (f:Str×List Str):List Str:=(f.2.drop 1).take (f.2.length-3)
def F4 (f:Str×List Str):List D:=(sN f).map (OH "is" f)++(wN f).map (OH "upto" f)
def fH (fs:List (Str×List Str)):List D:=(fs.map F4).flatten
def aEq:SpF:=λds Q=>∃ (fs:List (Str×List Str)) (an:List Str),ds=[fX fs an]/\jD fs an/\Q (fH fs)
theorem J6 {ys:List Str} {z:Str} {j:Nat} (h:ys[j]?=some z):ys.idxOf z<=j:=by
 by_cases q:ys.idxOf z<=j
 ·exact q
 ·exact absurd h (FE (by omega))
theorem SV {f:Str×List Str} {z:Str} (h:z∈wN f):z∈f.2/\f.2.idxOf z+1<f.2.length:=by
 unfold wN at h
 have h1:z∈f.2:=uZ (fV h)
 refine ⟨h1,?_⟩
 obtain ⟨i,hi⟩:=bZ h
 have hl:=(aG.mp hi).1
 rw [bC,fD] at hl
 rw [gK,if_pos (by omega),jX] at hi
 have:=J6 hi
 omega
theorem FD {fs:List (Str×List Str)} {f:Str×List Str} {k:Str} {z:Str} (hf:f∈fs) (h:qOk f (.str k) (.str z)=true):MN fs (OH k f z)=true:=by
 show (fs.any λg=>isN (.str f.1) g && qOk g (.str k) (.str z))=true
 rw [rP]
 refine ⟨f,hf,?_⟩
 show (decide (f.1=f.1) && qOk f (.str k) (.str z))=true
 rw [h,decide_eq_true rfl];rfl
theorem vR {fs:List (Str×List Str)} {d:D} (h:d∈fH fs):∃ f∈fs,(∃ z∈f.2,d=OH "is" f z)\/(∃ z,z∈f.2/\f.2.idxOf z+1<f.2.length/\d=OH "upto" f z):=by
 unfold fH at h
 obtain ⟨l,hl,hd⟩:=VF.mp h
 obtain ⟨f,hf,rfl⟩:=aQ.mp hl
 refine ⟨f,hf,?_⟩
 unfold F4 at hd
 rcases eP.mp hd with q | q
 ·obtain ⟨z,hz,rfl⟩:=aQ.mp q
  refine .inl ⟨z,?_,rfl⟩
  unfold sN at hz
  split at hz
  ·exact fV hz
  ·exact hz
 ·obtain ⟨z,hz,rfl⟩:=aQ.mp q
  exact .inr ⟨z,(SV hz).1,(SV hz).2,rfl⟩
theorem KG {fs:List (Str×List Str)} {d:D} (h:d∈fH fs):MN fs d=true:=by
 obtain ⟨f,hf,⟨z,hz,rfl⟩ | ⟨z,hz,hi,rfl⟩⟩:=vR h
 ·refine FD hf ?_
  show (decide (z∈f.2) && (decide (("is":Str)="is") || _))=true
  rw [decide_eq_true hz];rfl
 ·refine FD hf ?_
  show (decide (z∈f.2) && (decide (("upto":Str)="is") || (decide (("upto":Str)="upto") && decide (f.2.idxOf z+1<f.2.length))))=true
  rw [decide_eq_true hz,decide_eq_true hi,decide_eq_true (rfl:("upto":Str)="upto")];simp
theorem aGq:yW "is"=true:=by decide +kernel
theorem W1:yW "upto"=true:=by decide +kernel
theorem QO {fs:List (Str×List Str)} {an:List Str} (F:jD fs an) {k:Str} (hk:yW k=true) {f:Str×List Str} (hf:f∈fs) {z:Str} (hz:z∈f.2):Th 27 1 (OH k f z) :=
 vB 8 0 3 (kI (kQ hk (aL _)) (kI (kQ (F.name hf) (aL _)) (kI (kQ (F.vals hf z hz) (aL _)) xJ))) (aE rfl) (by decide) (by decide)
theorem C2 {fs:List (Str×List Str)} {an:List Str} (F:jD fs an):∀ d∈fH fs,Th 27 1 d:=λd h=>by
 obtain ⟨f,hf,⟨z,hz,rfl⟩ | ⟨z,hz,hi,rfl⟩⟩:=vR h
 ·exact QO F aGq hf hz
 ·exact QO F W1 hf hz
theorem jU {fs:List (Str×List Str)} {an:List Str} (F:jD fs an):∀ gs:List (Str×List Str),(∀ g∈gs,g∈fs)->(fH gs).length<=10*gs.length
 | [],_=>aL _
 | g::gs,h=>by
  have ih:=jU F gs λx hx=>h x (aN _ hx)
  obtain ⟨_,v5,_⟩:=F.vs g (h g (aU ..))
  show ((F4 g::gs.map F4).flatten).length<=_
  rw [kO,bL]
  have h1:(F4 g).length<=10:=by
   unfold F4 sN wN
   rw [bL,aB,aB,bC,fD]
   split
   ·rw [bC];omega
   ·omega
  have:(fH gs).length=((gs.map F4).flatten).length:=rfl
  rw [cI]
  omega
theorem qH {ys:List Str} (hy:∀ y∈ys,yW y=true) {z:Str} (hz:z∈ys):OB (ys.map aP) (.str z) (ys.idxOf z):=by
 have hzi:ys.idxOf z<ys.length:=eW.mpr hz
 obtain ⟨_,_,_,_,d5,d6⟩:=rY (wC hy (aL 8) (m:=0))
 refine ⟨d6,(kQ (hy z hz) (aL 8) (m:=0)).lay,by omega,⟨.str z,?_,?_⟩,λm t hm ht=>?_⟩
 ·rw [aI,aH hzi,hZ hzi];rfl
 ·show (z == z)=true
  simp
 ·rw [aI] at ht
  cases e2:ys[m]? with
  | none=>rw [e2] at ht;cases ht
  | some y =>
   rw [e2] at ht
   cases ht
   show (y == z)=false
   have:y≠z:=λq=>by
    subst q
    exact FE hm e2
   simpa using this
inductive Tr | say (a:Str) | ask (k n v s:Str) (y m:Tr)
def AA:Tr->D
 | .say a=>.tuple [.str "say",.str a]
 | .ask k n v s y m=>.tuple [.str "ask",.tuple [.str k,.str n,.str v],.str s,AA y,AA m]
def Tr.dep:Tr->Nat
 | .say _=>0
 | .ask _ _ _ _ y m=>max y.dep m.dep+1
def Tr.kn:Tr->Nat
 | .say _=>0
 | .ask _ _ _ _ y m=>y.kn+m.kn+1
def PM (fs:List (Str×List Str)) (an:List Str):Tr->Prop
 | .say a=>a∈an
 | .ask k n v s y m=>MN fs (.tuple [.str k,.str n,.str v])=true/\(s="yes"\/s="no")/\PM fs an y/\PM fs an m
theorem AK {fs:List (Str×List Str)} {k n v:Str} (h:MN fs (.tuple [.str k,.str n,.str v])=true):∃ f∈fs,f.1=n/\v∈f.2/\(k="is"\/(k="upto"/\f.2.idxOf v+1<f.2.length)):=by
 obtain ⟨f,hf,hq⟩:=rP.mp (h:(fs.any λf=>isN (.str n) f && qOk f (.str k) (.str v))=true)
 rw [cJ] at hq
 have h2:(decide (v∈f.2) && (decide (k="is") || (decide (k="upto") && decide (f.2.idxOf v+1<f.2.length))))=true:=hq.2
 simp only [cJ,tJ,decide_eq_true_eq] at h2
 exact ⟨f,hf,of_decide_eq_true hq.1,h2.1,h2.2⟩
theorem Tr.kn_dep:∀ t:Tr,t.kn<2 ^ t.dep
 | .say _=>by show 0<2 ^ 0;decide
 | .ask _ _ _ _ y m=>by
  have:=kn_dep y
  have:=kn_dep m
  show y.kn+m.kn+1<2 ^ (max y.dep m.dep+1)
  have h1:2 ^ y.dep<=2 ^ (max y.dep m.dep):=jG (by decide) (aBb ..)
  have h2:2 ^ m.dep<=2 ^ (max y.dep m.dep):=jG (by decide) (YO ..)
  rw [aH0]
  omega
theorem X8 (ys:List Str) (h:2<=ys.length):mJ ys (some 1) (some (-2))=(ys.drop 1).take (ys.length-3):=by
 unfold mJ
 have e1:HT.sIx ys.length 0 (some 1)=1:=by
  show (if (1:Int)<0 then ((1:Int)+(ys.length:Int)).toNat else min (1:Int).toNat ys.length)=_
  rw [if_neg (by decide)]
  show min 1 ys.length=1
  omega
 have e2:HT.sIx ys.length ys.length (some (-2))=ys.length-2:=by
  show (if (-2:Int)<0 then ((-2:Int)+(ys.length:Int)).toNat else min (-2:Int).toNat ys.length)=_
  rw [if_pos (by decide)]
  omega
 rw [e1,e2]
 congr 1
theorem M4 (ys:List Str) (h:2<=ys.length):mJ ys none (some 1)=ys.take 1:=BW ys 1
def aEp:SpF:=λds Q=>∃ f:Str×List Str,ds=[jT f]/\2<=f.2.length/\f.2.length<=5/\Q (F4 f)
abbrev Rw:=List D×Str
def zF (rs:List Rw) (a:Str):Nat:=rs.countP λr=>decide (r.2=a)
def nU (an:List Str) (rs:List Rw):List Int:=an.map λa=>(zF rs a:Int)
def zI (an:List Str) (rs:List Rw) (a:Str):Prop:=∃ k,an[k]?=some a/\(∀ (j:Nat) b,an[j]?=some b->zF rs b<=zF rs a)/\∀ (j:Nat) b,j<k->an[j]?=some b->zF rs b<zF rs a
def aBw:SpF:=λds Q=>∃ (fs:List (Str×List Str)) (an:List Str) (rs:List Rw),ds=[fX fs an,.list (rs.map fR)]/\jD fs an/\iD fs an rs/\rs.length<=60/\Q ((nU an rs).map aO)
def aEr:oA:=λds Q=>∃ (fs:List (Str×List Str)) (an:List Str) (rs:List Rw),ds=[fX fs an,.list (rs.map fR)]/\jD fs an/\iD fs an rs/\rs.length<=60/\∀ a,zI an rs a->Q (.str a)
theorem HJ {α:Type} [DecidableEq α]:∀ (l:List α) (x:α),x∈l->∃ k:Nat,l[k]?=some x/\∀ j:Nat,j<k->l[j]?≠some x
 | y::l,x,h=>by
  by_cases e:y=x
  ·exact ⟨0,by rw [e];rfl,λj hj=>by omega⟩
  ·obtain ⟨k,h1,h2⟩:=HJ l x ((aZ.mp h).resolve_left λz=>e z.symm)
   refine ⟨k+1,h1,λj hj=>?_⟩
   cases j with
   | zero=>exact λz=>e (Option.some.inj z)
   | succ j=>exact h2 j (by omega)
def aIk (a:Str) (x:D):Bool:=match x with | .tuple [_,.str b]=>!decide (b=a) | _=>false
def sM (f:Str×List Str) (k v st:Str) (c:D):Str:=match c with
 | .none=>st
 | .str z=>if k="is" then (if z=v then "yes" else "no") else if f.2.idxOf z<=f.2.idxOf v then "yes" else "no"
 | _=>""
def kW (fs:List (Str×List Str)) (k n v st:Str) (cs:List D):Str:=match fs[(fs.map (·.1)).idxOf n]?,cs[(fs.map (·.1)).idxOf n]? with
 | some f,some c=>sM f k v st c
 | _,_=>""
def aBv:oA:=λds Q=>∃ (fs:List (Str×List Str)) (an:List Str) (k n v st:Str) (cs:List D),ds=[fX fs an,.tuple [.str k,.str n,.str v],.str st,.tuple cs]/\jD fs an/\MN fs (.tuple [.str k,.str n,.str v])=true/\(st="yes"\/st="no")/\oJ fs (.tuple cs)=true/\Q (.str (kW fs k n v st cs))
def Y5:oA:=aBv
def yA (fs:List (Str×List Str)) (k n v st:Str) (rs:List (List D×Str)) (w:Str) (x:D):Bool:=match x with
 | .int i=>match L2.atI rs i with | some r=>decide (kW fs k n v st r.1=w) | none=>false
 | _=>false
theorem AI {fs:List (Str×List Str)} {an:List Str} (F:jD fs an) {j:Nat} {f:Str×List Str} (h:fs[j]?=some f):(fs.map (·.1)).idxOf f.1=j:=by
 have hm:f.1∈fs.map (·.1):=aQ.mpr ⟨f,aV h,rfl⟩
 have hi:(fs.map (·.1)).idxOf f.1<(fs.map (·.1)).length:=eW.mpr hm
 have h1:(fs.map (·.1))[(fs.map (·.1)).idxOf f.1]?=some f.1:=by rw [aH hi,hZ hi]
 have h2:(fs.map (·.1))[j]?=some f.1:=by rw [aI,h];rfl
 exact (List.getElem?_inj hi F.nd.2.2).mp (h1.trans h2.symm)
theorem sL {fs:List (Str×List Str)} {an:List Str} (F:jD fs an) {k n v st:Str} {cs:List D} {j:Nat} {f:Str×List Str} {c:D} (h1:fs[j]?=some f) (h2:cs[j]?=some c) (hn:f.1=n):kW fs k n v st cs=sM f k v st c:=by
 subst hn
 unfold kW
 rw [AI F h1,h1,h2]
theorem G5 {te:ET} {DT:nG} {σ:List Sl} {i:Nat} {ts us:List D} (ho:σ[i]?=some (.own ts)) (hz:ts.length+us.length<=100000) (h:∀ q:D->Prop,q (.list us)->te σ q) (k:DT.nx (σ.set i (.own (ts++us)))):aAh i te DT σ:=⟨ts,ho,h _ ⟨us,rfl,hz,k⟩⟩
theorem DB {fs:List (Str×List Str)} {k n v st:Str} {rs:List (List D×Str)} {w:Str} {j:Nat} {r:List D×Str} (h:rs[j]?=some r):yA fs k n v st rs w (.int (j:Int))=decide (kW fs k n v st r.1=w):=by
 show (match L2.atI rs (j:Int) with | some r=>decide (kW fs k n v st r.1=w) | none=>false)=_
 rw [L2.gJ h]
def BL (k v:Str) (f:Str×List Str):List Str:=if k="is" then [v] else f.2.take (f.2.idxOf v+1)
def ZI:oA:=λds Q=>∃ (k n v:Str) (f:Str×List Str),ds=[.tuple [.str k,.str n,.str v],jT f]/\(∀ y∈f.2,yW y=true)/\v∈f.2/\f.2.length<=5/\Q (.tuple ((BL k v f).map aP))
theorem OX {f:Str×List Str} {k v st z:Str} (hz:z∈f.2):(if TD (BL k v f) (.str z)=true then ("yes":Str) else "no")=sM f k v st (.str z):=by
 show (if decide (z∈BL k v f)=true then ("yes":Str) else "no")=if k="is" then (if z=v then ("yes":Str) else "no") else if f.2.idxOf z<=f.2.idxOf v then ("yes":Str) else "no"
 unfold BL
 by_cases hk:k="is"
 ·rw [if_pos hk,if_pos hk]
  by_cases e:z=v
  ·rw [if_pos e,if_pos (decide_eq_true (cZ.mpr e))]
  ·rw [if_neg e,if_neg (λq=>e (cZ.mp (of_decide_eq_true q)))]
 ·rw [if_neg hk,if_neg hk]
  have hi:f.2.idxOf z<f.2.length:=eW.mpr hz
  by_cases e:f.2.idxOf z<=f.2.idxOf v
  ·rw [if_pos e,if_pos]
   refine decide_eq_true (aV (i:=f.2.idxOf z) ?_)
   rw [gK,if_pos (by omega),aH hi,hZ hi]
  ·rw [if_neg e,if_neg]
   intro q
   obtain ⟨i,hi'⟩:=bZ (of_decide_eq_true q)
   have hl:=(aG.mp hi').1
   rw [bC] at hl
   rw [gK,if_pos (by omega)] at hi'
   have:=J6 hi'
   omega
theorem HI {f:Str×List Str} {k v y:Str} (hv:v∈f.2) (h:y∈BL k v f):y∈f.2:=by
 unfold BL at h
 split at h
 ·rw [cZ.mp h];exact hv
 ·exact fV h
def uP (k v st:Str) (f:Str×List Str):List D:=(BL k v f).map aP++(if st="yes" then [uE] else [])
def ZJ:oA:=λds Q=>∃ (k n v st:Str) (f:Str×List Str),ds=[.tuple [.str k,.str n,.str v],.str st,jT f]/\(∀ y∈f.2,yW y=true)/\v∈f.2/\f.2.length<=5/\Q (.tuple (uP k v st f))
def aEn:oA:=λds Q=>∃ (fs:List (Str×List Str)) (an:List Str) (k n v:Str) (f:Str×List Str) (j:Nat),ds=[fX fs an,.tuple [.str k,.str n,.str v]]/\jD fs an/\fs[j]?=some f/\f.1=n/\Q (.int (j:Int))
theorem TU {k v:Str} {f:Str×List Str} (h:f.2.length<=5):(BL k v f).length<=5:=by
 unfold BL
 split
 ·show 1<=5;decide
 ·rw [bC];omega
theorem TJ {k v st:Str} {f:Str×List Str} (hst:st="yes"\/st="no") {c:D} (hc:U6 f c=true):(if CN c (.tuple (uP k v st f))=true then ("yes":Str) else "no")=sM f k v st c:=by
 have e:CN c (.tuple (uP k v st f))=(TD (BL k v f) c || ((if st="yes" then [uE] else []).any λz=>cP z c)):=by
  show ((uP k v st f).any λz=>cP z c)=_
  unfold uP
  rw [List.any_append,B4]
 cases c with
 | none =>
  rw [e]
  rcases hst with rfl | rfl<;>rfl
 | str z =>
  have hz:z∈f.2:=of_decide_eq_true hc
  have e2:((if st="yes" then [uE] else []).any λx=>cP x (.str z))=false:=by
   rcases hst with rfl | rfl<;>rfl
  rw [e,e2,xS]
  exact OX hz
 | _=>cases hc
theorem SH {k v st:Str} {f:Str×List Str} (hf:∀ y∈f.2,yW y=true) (hv:v∈f.2) {d:D} (hd:Cd d):wS d (.tuple (uP k v st f)):=by
 unfold uP
 split
 ·exact JQ (λy hy=>hf y (HI hv hy)) hd
 ·rw [fA];exact E6 (λy hy=>hf y (HI hv hy)) hd
def YA (rs:List Rw) (x:D):D:=match x with | .str a=>.int ((zF rs a:Nat):Int) | _=>.none
theorem AW (rs:List Rw) (a:Str):((rs.map λr=>aP r.2).countP λt=>cP t (.str a))=zF rs a:=by
 rw [YS]
 unfold zF
 congr 1
theorem HD:∀ {ys:List Str},(∀ y∈ys,yW y=true)->cR (ys.map aP)=true/\cD (ys.map aP)<=0:=λh=>by
 obtain ⟨_,_,_,_,b5,b6⟩:=rY (wC h (aL 8) (m:=0))
 exact ⟨b6,b5⟩
theorem HE:∀ ns:List Int,cR (ns.map aO)=true/\cD (ns.map aO)=0
 | []=>⟨rfl,rfl⟩
 | n::ns=>by
  have:=HE ns
  refine ⟨?_,?_⟩
  ·show (true && cR (ns.map aO))=true
   rw [this.1];rfl
  ·show max 0 (cD (ns.map aO))=0
   rw [this.2];rfl
theorem OA {ns:List Int} {m:Int} {j:Nat} (h:ns[j]?=some m) (hno:∀ i:Nat,i<j->ns[i]?≠some m):OB (ns.map aO) (.int m) j:=by
 obtain ⟨h1,h2⟩:=HE ns
 refine ⟨h1,rfl,by rw [h2];omega,⟨.int m,by rw [aI,h];rfl,?_⟩,λi t hi ht=>?_⟩
 ·show (m == m)=true
  simp
 ·rw [aI] at ht
  cases e:ns[i]? with
  | none=>rw [e] at ht;cases ht
  | some n =>
   rw [e] at ht
   cases ht
   show (n == m)=false
   have:n≠m:=λz=>hno i hi (by rw [e,z])
   simpa using this
def aIu (x:D):D:=match x with | .tuple [_,b]=>b | _=>x
def I0 (fs:List (Str×List Str)):Tr->List D->List Str
 | .say _,_=>[]
 | .ask k n v s y m,cs=>kW fs k n v s cs::(if kW fs k n v s cs="yes" then I0 fs y cs else I0 fs m cs)
def IA (fs:List (Str×List Str)):Tr->List D->Str
 | .say a,_=>a
 | .ask k n v s y m,cs=>if kW fs k n v s cs="yes" then IA fs y cs else IA fs m cs
section
variable {fs:List (Str×List Str)} {an:List Str}
theorem V3 (F:jD fs an) {k n v st:Str} {cs:List D} (hq:MN fs (.tuple [.str k,.str n,.str v])=true) (hst:st="yes"\/st="no") (hc:oJ fs (.tuple cs)=true):kW fs k n v st cs="yes"\/kW fs k n v st cs="no":=by
 obtain ⟨f,hf,hfn,hv,hk⟩:=AK hq
 obtain ⟨j,hj⟩:=bZ hf
 obtain ⟨hcl,hcv⟩:=nE hc
 have hjl:=(aG.mp hj).1
 have hcj:cs[j]?=some cs[j]:=aH (by omega)
 generalize cs[j]=c at hcj
 rw [sL F hj hcj hfn]
 have hok:=hcv j f c hj hcj
 cases c with
 | none=>exact hst
 | str z =>
  show (if k="is" then (if z=v then ("yes":Str) else "no") else if f.2.idxOf z<=f.2.idxOf v then ("yes":Str) else "no")="yes"\/_
  by_cases h1:k="is"
  ·by_cases h2:z=v
   ·exact .inl (by rw [if_pos h1,if_pos h2])
   ·exact .inr (by show (if k="is" then (if z=v then ("yes":Str) else "no") else if f.2.idxOf z<=f.2.idxOf v then ("yes":Str) else "no")="no";rw [if_pos h1,if_neg h2])
  ·by_cases h2:f.2.idxOf z<=f.2.idxOf v
   ·exact .inl (by rw [if_neg h1,if_pos h2])
   ·exact .inr (by show (if k="is" then (if z=v then ("yes":Str) else "no") else if f.2.idxOf z<=f.2.idxOf v then ("yes":Str) else "no")="no";rw [if_neg h1,if_neg h2])
 | _=>cases hok
end
def there (fs:List (Str×List Str)) (t:Tr) (rs:List (List D×Str)) (pl:List Str) (x:D):Bool:=match x with
 | .int i=>(match L2.atI rs i with | some r=>decide ((I0 fs t r.1).take pl.length=pl) | none=>false)
 | _=>false
def A2:oA:=λds Q=>∃ ns:List Int,ds=[.list (ns.map aO)]/\ns.length<=63/\Q (.bool true)
section
variable {fs:List (Str×List Str)} {an:List Str} {t:Tr} {rs:List (List D×Str)} {pl:List Str}
end
theorem aC7 {fs:List (Str×List Str)} {f:Str×List Str} {z:Str} (hf:f∈fs) (hz:z∈f.2):MN fs (.tuple [.str "is",.str f.1,.str z])=true:=by
 refine FD hf ?_
 show (decide (z∈f.2) && (decide (("is":Str)="is") || _))=true
 rw [decide_eq_true hz];rfl
theorem TB {fs:List (Str×List Str)} {f:Str×List Str} {z:Str} {j:Nat} (hf:f∈fs) (hz:f.2[j]?=some z) (hj:j+1<f.2.length):MN fs (.tuple [.str "upto",.str f.1,.str z])=true:=by
 refine FD hf ?_
 have:=J6 hz
 show (decide (z∈f.2) && (decide (("upto":Str)="is") || (decide (("upto":Str)="upto") && decide (f.2.idxOf z+1<f.2.length))))=true
 rw [decide_eq_true (aV hz),decide_eq_true (rfl:("upto":Str)="upto"),decide_eq_true (show f.2.idxOf z+1<f.2.length by omega)];simp
def Y7:M9:=λ_ n ds Q=>∃ (fs:List (Str×List Str)) (an:List Str),ds=[fX fs an]/\jD fs an/\n<800000000000/\∀ n' cs,n'<=n+5->oJ fs (.tuple cs)=true->Q n' (.tuple cs)
def Y6:M9:=λ_ n ds Q=>∃ (fs:List (Str×List Str)) (an:List Str) (m:Nat),ds=[fX fs an,.int m]/\jD fs an/\m<=60/\n<700000000000/\∀ n' rs,n'<=n+10*m->iD fs an rs->rs.length=m->Q n' (.list (rs.map fR))
def AZ:Nat->Nat
 | 0=>6
 | k+1=>6+2*AZ k
def sI (d:Nat):M9:=λ_ n ds Q=>∃ (fs:List (Str×List Str)) (an:List Str) (k:Nat),ds=[fX fs an,.int k]/\jD fs an/\k<d/\n+AZ k<600000000000/\∀ n' t,n'<=n+AZ k->PM fs an t->t.dep<=k->Q n' (AA t)
def Y3:M9:=sI 6
theorem SS {τ:D} {n:Nat} {ds:List D} {Q:Nat->D->Prop} (h:sI 0 τ n ds Q):False:=by
 obtain ⟨_,_,_,_,_,h,_⟩:=h
 omega
def Y2:M9:=λ_ n ds Q=>ds=[]/\n<900000000000/\∀ n' (a b:Int),n'<=n+3->0<=a->a<=1000000->0<=b->b<=1000000->Q n' (.tuple [.int a,.int b])
def sA (n:Nat):oA:=λds Q=>∃ t:Tr,ds=[AA t]/\t.kn<=600/\t.dep<n/\Q (.int t.kn)
theorem BF {ds:List D} {Q:D->Prop} (h:sA 0 ds Q):False:=by
 obtain ⟨_,_,_,h,_⟩:=h
 omega
def jK (fs:List (Str×List Str)) (t:Tr) (rs:List (List D×Str)):Nat:=(rs.filter λr=>!decide (IA fs t r.1=r.2)).length
def uR (fs:List (Str×List Str)) (k n v st:Str) (r:List D×Str):Bool:=decide (kW fs k n v st r.1="yes")
theorem wF {fs:List (Str×List Str)} (k n v s:Str) (y m:Tr):∀ rs:List (List D×Str),jK fs (.ask k n v s y m) rs=jK fs y (rs.filter (uR fs k n v s))+jK fs m (rs.filter λr=>!uR fs k n v s r)
 | []=>rfl
 | r::rs=>by
  have ih:=wF (fs:=fs) k n v s y m rs
  have e:IA fs (.ask k n v s y m) r.1=if kW fs k n v s r.1="yes" then IA fs y r.1 else IA fs m r.1:=rfl
  unfold jK at ih |-
  by_cases hy:kW fs k n v s r.1="yes"
  ·have h1:uR fs k n v s r=true:=decide_eq_true hy
   rw [bK (p:=uR fs k n v s),if_pos h1,bK (p:=λr=>!uR fs k n v s r),if_neg (by rw [h1];decide)]
   rw [if_pos hy] at e
   by_cases ha:IA fs y r.1=r.2
   ·rw [bK,if_neg (by rw [e];simp [ha]),bK (x:=r),if_neg (by simp [ha])]
    exact ih
   ·rw [bK,if_pos (by rw [e];simp [ha]),bK (x:=r),if_pos (by simp [ha]),cI,cI,ih]
    omega
  ·have h1:uR fs k n v s r=false:=decide_eq_false hy
   rw [bK (p:=uR fs k n v s),if_neg (by rw [h1];decide),bK (p:=λr=>!uR fs k n v s r),if_pos (by rw [h1];rfl)]
   rw [if_neg hy] at e
   by_cases ha:IA fs m r.1=r.2
   ·rw [bK,if_neg (by rw [e];simp [ha]),bK (x:=r),if_neg (by simp [ha])]
    exact ih
   ·rw [bK,if_pos (by rw [e];simp [ha]),bK (x:=r),if_pos (by simp [ha]),cI,cI,ih]
    omega
def sG (n:Nat):oA:=sA n
def Q2:oA:=sG 7
theorem SR {ds:List D} {Q:D->Prop} (h:sG 0 ds Q):False:=BF h
def sE (d:Nat):oA:=λds Q=>∃ (fs:List (Str×List Str)) (an:List Str) (t:Tr) (rs:List (List D×Str)),ds=[fX fs an,AA t,.list (rs.map fR)]/\jD fs an/\PM fs an t/\t.dep<d/\iD fs an rs/\rs.length<=60/\Q (.int (jK fs t rs:Nat))
def Q1:oA:=sE 7
theorem SQ {ds:List D} {Q:D->Prop} (h:sE 0 ds Q):False:=by
 obtain ⟨_,_,_,_,_,_,_,h,_⟩:=h
 omega
theorem iD.filt {fs:List (Str×List Str)} {an:List Str} {rs:List (List D×Str)} (h:iD fs an rs) (p:List D×Str->Bool):iD fs an (rs.filter p):=λr hr=>h r (bY.mp hr).1
def FA (fs:List (Str×List Str)) (an:List Str) (fa:List (List D×Str)->Str):Prop:=∀ rs,iD fs an rs->zI an rs (fa rs)
theorem zI.uniq {an:List Str} {rs:List (List D×Str)} {a b:Str} (h:zI an rs a) (g:zI an rs b):a=b:=by
 obtain ⟨i,h1,h2,h3⟩:=h
 obtain ⟨j,g1,g2,g3⟩:=g
 have e1:=h2 j b g1
 have e2:=g2 i a h1
 rcases VD i j with z | z | z
 ·have:=g3 i a z h1;omega
 ·subst z
  rw [h1] at g1
  exact Option.some.inj g1
 ·have:=h3 j b z g1;omega
def RG (rs:List (List D×Str)) (x:D):D:=match x with | .int i=>(match L2.atI rs i with | some r=>fR r | none=>.none) | _=>.none
theorem HK {an:List Str} (h:0<an.length) (rs:List (List D×Str)):∃ a,zI an rs a:=by
 have key:∀ (l:List Str),0<l.length->∃ k a,l[k]?=some a/\(∀ (j:Nat) b,l[j]?=some b->zF rs b<=zF rs a)/\∀ (j:Nat) b,j<k->l[j]?=some b->zF rs b<zF rs a:=λl=>by
  induction l with
  | nil=>intro h;exact absurd h (by decide)
  | cons x l ih =>
   intro _
   cases l with
   | nil=>exact ⟨0,x,rfl,λj b hb=>by
     cases j with
     | zero=>cases hb;exact aL _
     | succ j=>simp at hb,λj b hj _=>absurd hj (oP _)⟩
   | cons y l =>
    obtain ⟨k,a,h1,h2,h3⟩:=ih (by simp)
    by_cases hx:zF rs a<=zF rs x
    ·refine ⟨0,x,rfl,λj b hb=>?_,λj b hj _=>absurd hj (oP _)⟩
     cases j with
     | zero=>cases hb;exact aL _
     | succ j=>exact cM (h2 j b (by simpa using hb)) hx
    ·refine ⟨k+1,a,by simpa using h1,λj b hb=>?_,λj b hj hb=>?_⟩
     ·cases j with
      | zero=>cases hb;omega
      | succ j=>exact h2 j b (by simpa using hb)
     ·cases j with
      | zero=>cases hb;omega
      | succ j=>exact h3 j b (by omega) (by simpa using hb)
 obtain ⟨k,a,h1,h2,h3⟩:=key an h
 exact ⟨a,k,h1,h2,h3⟩
theorem aG9 {fs:List (Str×List Str)} {an:List Str} (F:jD fs an):∃ fa,FA fs an fa :=
 ⟨λrs=>(HK (an:=an) (by have:=F.a2;omega) rs).choose,λrs _=>(HK (an:=an) (by have:=F.a2;omega) rs).choose_spec⟩

abbrev Fs:=List (Str×List Str)
abbrev Qn:=Str×Str×Str
abbrev Ch:=Qn×Str
def qD (q:Qn):D:=.tuple [.str q.1,.str q.2.1,.str q.2.2]
def tq (d:D):Qn:=match d with | .tuple [.str k,.str n,.str v]=>(k,n,v) | _=>("","","")
def qs (fs:Fs):List Qn:=(fH fs).map tq
theorem qX (fs:Fs):(qs fs).map qD=fH fs:=by
 unfold qs
 rw [bG]
 have:∀ d∈fH fs,(qD ∘ tq) d=id d:=λd hd=>by
  obtain ⟨f,hf,⟨z,hz,rfl⟩ | ⟨z,hz,hi,rfl⟩⟩:=vR hd<;>rfl
 rw [lP this,vA]
theorem E1 {fs:Fs} {q:Qn} (h:q∈qs fs):MN fs (.tuple [.str q.1,.str q.2.1,.str q.2.2])=true:=by
 have:qD q∈(qs fs).map qD:=aQ.mpr ⟨q,h,rfl⟩
 rw [qX] at this
 exact KG this
def uJ (q:Qn):List Ch:=[(q,"yes"),(q,"no")]
def mR (fs:Fs):List Ch:=(qs fs).flatMap uJ
theorem KF {fs:Fs} {c:Ch} (h:c∈mR fs):c.1∈qs fs/\(c.2="yes"\/c.2="no"):=by
 obtain ⟨q,hq,hc⟩:=VG.mp h
 simp only [uJ,aZ,dS,or_false] at hc
 rcases hc with rfl | rfl
 ·exact ⟨hq,.inl rfl⟩
 ·exact ⟨hq,.inr rfl⟩
theorem AN (fs:Fs):(mR fs).length=2*(fH fs).length:=by
 unfold mR qs
 generalize (fH fs)=l
 induction l with
 | nil=>rfl
 | cons x l ih =>
  rw [aX,zN,bL,ih]
  show 2+_=2*(l.length+1)
  omega
def zQ (fs:Fs) (c:Ch) (r:Rw):Bool:=uR fs c.1.1 c.1.2.1 c.1.2.2 c.2 r
abbrev yR (fs:Fs) (c:Ch) (R:List Rw):List Rw:=R.filter (zQ fs c)
abbrev nR (fs:Fs) (c:Ch) (R:List Rw):List Rw:=R.filter λr=>!zQ fs c r
def eJ (fs:Fs) (R:List Rw) (c:Ch):Bool:=!(yR fs c R).isEmpty && !(nR fs c R).isEmpty
def nD (fs:Fs) (fa:List Rw->Str) (a:Int) (R:List Rw):Int×Tr:=(a*(jK fs (.say (fa R)) R:Nat),.say (fa R))
def nP (b:Int) (c:Ch) (x y told:Int×Tr):Int×Tr:=if b+x.1+y.1<told.1 then (b+x.1+y.1,.ask c.1.1 c.1.2.1 c.1.2.2 c.2 x.2 y.2) else told
def dW (fs:Fs) (fa:List Rw->Str) (a b:Int):Nat->List Rw->Int×Tr
 | 0,R=>nD fs fa a R
 | d+1,R=>((mR fs).filter (eJ fs R)).foldl (λtold c=>nP b c (dW fs fa a b d (yR fs c R)) (dW fs fa a b d (nR fs c R)) told) (nD fs fa a R)
theorem BN {α β:Type} {P:β->Prop} {f:β->α->β}:∀ {cs:List α} {x:β},P x->(∀ c∈cs,∀ y,P y->P (f y c))->P (cs.foldl f x)
 | [],_,h,_=>h
 | c::cs,x,h,k=>BN (cs:=cs) (k c (aU ..) x h) λd hd=>k d (aN _ hd)
theorem FH {α:Type} {g:α->Int×Tr->Int×Tr} (dn:∀ c y,(g c y).1<=y.1):∀ (cs:List α) (x:Int×Tr),(cs.foldl (λt c=>g c t) x).1<=x.1
 | [],_=>vW _
 | c::cs,x=>tI (FH dn cs (g c x)) (dn c x)
theorem MS {α:Type} {g:α->Int×Tr->Int×Tr} (dn:∀ c y,(g c y).1<=y.1) {m:α->Int} (hm:∀ c y,(g c y).1<=m c):∀ (cs:List α) (x:Int×Tr) (c:α),c∈cs->(cs.foldl (λt c=>g c t) x).1<=m c
 | c'::cs,x,c,h=>by
  rcases aZ.mp h with rfl | h
  ·exact tI (FH dn cs (g c x)) (hm c x)
  ·exact MS dn hm cs (g c' x) c h
section
variable {fs:Fs} {fa:List Rw->Str} {a b:Int}
theorem LI (c:Ch) (x y t:Int×Tr):(nP b c x y t).1<=t.1:=by
 unfold nP
 split
 ·rename_i h;exact Int.le_of_lt h
 ·exact vW _
theorem VS (c:Ch) (x y t:Int×Tr):(nP b c x y t).1<=b+x.1+y.1:=by
 unfold nP
 split
 ·exact vW _
 ·rename_i h;exact Int.not_lt.mp h
abbrev cC (fs:Fs) (fa:List Rw->Str) (a b:Int) (d:Nat) (R:List Rw) (c:Ch):Int:=b+(dW fs fa a b d (yR fs c R)).1+(dW fs fa a b d (nR fs c R)).1
theorem uA (d:Nat) (R:List Rw):(dW fs fa a b d R).1<=(nD fs fa a R).1:=by
 cases d with
 | zero=>exact vW _
 | succ d=>exact FH (g:=λc t=>nP b c (dW fs fa a b d (yR fs c R)) (dW fs fa a b d (nR fs c R)) t) (λc y=>LI c _ _ y) _ _
theorem KN {d:Nat} {R:List Rw} {c:Ch} (hc:c∈mR fs) (hp:eJ fs R c=true):(dW fs fa a b (d+1) R).1<=cC fs fa a b d R c :=
 MS (g:=λc t=>nP b c (dW fs fa a b d (yR fs c R)) (dW fs fa a b d (nR fs c R)) t) (m:=cC fs fa a b d R) (λc y=>LI c _ _ y) (λc y=>VS c _ _ y) _ _ c (bY.mpr ⟨hc,hp⟩)
theorem M8 (d:Nat) (R:List Rw):(dW fs fa a b (d+1) R).1=(nD fs fa a R).1\/∃ c∈mR fs,eJ fs R c=true/\(dW fs fa a b (d+1) R).1=cC fs fa a b d R c:=by
 refine BN (P:=λt:Int×Tr=>t.1=(nD fs fa a R).1\/∃ c∈mR fs,eJ fs R c=true/\t.1=cC fs fa a b d R c) (.inl rfl) λc hc y hy=>?_
 obtain ⟨h1,h2⟩:=bY.mp hc
 unfold nP
 split
 ·exact .inr ⟨c,h1,h2,rfl⟩
 ·exact hy
theorem AQ (ha:0<=a) (hb:0<=b):∀ (d:Nat) (R:List Rw),0<=(dW fs fa a b d R).1
 | 0,R=>aD7 ha (yM _)
 | d+1,R=>by
  rcases M8 (fs:=fs) (fa:=fa) (a:=a) (b:=b) d R with h | ⟨c,_,_,h⟩
  ·rw [h];exact aD7 ha (yM _)
  ·rw [h]
   have h1:=AQ ha hb d (yR fs c R)
   have h2:=AQ ha hb d (nR fs c R)
   show 0<=b+_+_
   omega
theorem yJ:∀ (d:Nat) (R:List Rw),(dW fs fa a b (d+1) R).1<=(dW fs fa a b d R).1
 | 0,R=>uA 1 R
 | d+1,R=>by
  rcases M8 (fs:=fs) (fa:=fa) (a:=a) (b:=b) d R with h | ⟨c,hc,hp,h⟩
  ·rw [h];exact uA _ R
  ·rw [h]
   refine tI (KN hc hp) ?_
   have h1:=yJ d (yR fs c R)
   have h2:=yJ d (nR fs c R)
   show b+_+_<=b+_+_
   omega
theorem R9 {R:List Rw} {c:Ch} (h:eJ fs R c=false):(yR fs c R=[]/\nR fs c R=R)\/(yR fs c R=R/\nR fs c R=[]):=by
 unfold eJ at h
 rw [Bool.and_eq_false_iff] at h
 rcases h with h | h
 ·have hy:yR fs c R=[]:=by simpa using h
  refine .inl ⟨hy,PY.mpr λr hr=>?_⟩
  have:=IN.mp hy r hr
  simpa using this
 ·have hy:nR fs c R=[]:=by simpa using h
  refine .inr ⟨PY.mpr λr hr=>?_,hy⟩
  have:=IN.mp hy r hr
  simpa using this
theorem UT (ha:0<=a) (hb:0<=b) (d:Nat) (R:List Rw) {c:Ch} (hc:c∈mR fs):(dW fs fa a b (d+1) R).1<=cC fs fa a b d R c:=by
 cases hp:eJ fs R c with
 | true=>exact KN hc hp
 | false =>
  have h0:=AQ (fs:=fs) (fa:=fa) ha hb d []
  have h1:=yJ (fs:=fs) (fa:=fa) (a:=a) (b:=b) d R
  unfold cC
  rcases R9 hp with ⟨e1,e2⟩ | ⟨e1,e2⟩
  ·rw [e1,e2];omega
  ·rw [e1,e2];omega
def G0 (R:List Rw) (z:Str):Nat:=(R.filter λr=>!decide (r.2=z)).length
theorem AF (R:List Rw) (z:Str):G0 R z+zF R z=R.length:=by
 unfold G0 zF
 induction R with
 | nil=>rfl
 | cons r R ih =>
  rw [bK,List.countP_cons,cI]
  by_cases e:r.2=z
  ·rw [if_neg (by simp [e]),if_pos (decide_eq_true e)];omega
  ·rw [if_pos (by simp [e]),if_neg (by simp [e]),cI];omega
theorem sJ (R:List Rw) (z:Str):jK fs (.say z) R=G0 R z:=by
 unfold jK G0
 congr 1
 apply kP
 intro r _
 show (!decide (z=r.2))=!decide (r.2=z)
 congr 1
 exact decide_eq_decide.mpr ⟨Eq.symm,Eq.symm⟩
theorem W4 {an:List Str} {R:List Rw} (hf:zI an R (fa R)) (ha:0<=a):(nD fs fa a R).1∈an.map (λz=>a*(G0 R z:Nat))/\∀ m∈an.map (λz=>a*((G0 R z:Nat):Int)),(nD fs fa a R).1<=m:=by
 obtain ⟨k,h1,h2,_⟩:=hf
 have e:(nD fs fa a R).1=a*(G0 R (fa R):Nat):=by show a*_=_;rw [sJ]
 refine ⟨by rw [e];exact aQ.mpr ⟨_,aV h1,rfl⟩,λm hm=>?_⟩
 obtain ⟨z,hz,rfl⟩:=aQ.mp hm
 obtain ⟨j,hj⟩:=bZ hz
 have h3:=h2 j z hj
 have h4:=AF R z
 have h5:=AF R (fa R)
 rw [e]
 exact Int.mul_le_mul_of_nonneg_left (by omega) ha
def U9 (fs:Fs) (an:List Str):Nat->Tr->Prop
 | _,.say z=>z∈an
 | 0,.ask _ _ _ _ _ _=>False
 | d+1,.ask k n v s y m=>(k,n,v)∈qs fs/\(s="yes"\/s="no")/\U9 fs an d y/\U9 fs an d m
theorem U9.ok {an:List Str}:∀ {d:Nat} {t:Tr},U9 fs an d t->PM fs an t/\t.dep<=d
 | 0,.say z,h=>⟨h,cS _⟩
 | d+1,.say z,h=>⟨h,cS _⟩
 | 0,.ask _ _ _ _ _ _,h=>h.elim
 | d+1,.ask k n v s y m,⟨h1,h2,h3,h4⟩=>by
  obtain ⟨a1,a2⟩:=h3.ok
  obtain ⟨b1,b2⟩:=h4.ok
  refine ⟨⟨E1 h1,h2,a1,b1⟩,?_⟩
  show max y.dep m.dep+1<=d+1
  omega
theorem U9.up {an:List Str}:∀ {d:Nat} {t:Tr},U9 fs an d t->U9 fs an (d+1) t
 | 0,.say z,h=>h
 | d+1,.say z,h=>h
 | 0,.ask _ _ _ _ _ _,h=>h.elim
 | d+1,.ask k n v s y m,⟨h1,h2,h3,h4⟩=>⟨h1,h2,h3.up,h4.up⟩
theorem yI {an:List Str} (hfa:FA fs an fa):∀ (d:Nat) (R:List Rw),iD fs an R->U9 fs an d (dW fs fa a b d R).2/\(dW fs fa a b d R).1=a*(jK fs (dW fs fa a b d R).2 R:Nat)+b*((dW fs fa a b d R).2.kn:Nat)
 | 0,R,hR=>by
  obtain ⟨k,h1,_⟩:=hfa R hR
  refine ⟨aV h1,?_⟩
  show a*_=a*_+b*((0:Nat):Int)
  rw [show ((0:Nat):Int)=0 from rfl,K7,K8];rfl
 | d+1,R,hR=>by
  refine BN (P:=λt:Int×Tr=>U9 fs an (d+1) t.2/\t.1=a*(jK fs t.2 R:Nat)+b*(t.2.kn:Nat)) ?_ λc hc y hy=>?_
  ·obtain ⟨k,h1,_⟩:=hfa R hR
   refine ⟨aV h1,?_⟩
   show a*_=a*_+b*((0:Nat):Int)
   rw [show ((0:Nat):Int)=0 from rfl,K7,K8];rfl
  ·obtain ⟨h1,h2⟩:=bY.mp hc
   obtain ⟨hq,hs⟩:=KF h1
   unfold nP
   split
   ·obtain ⟨t1,c1⟩:=yI hfa d (yR fs c R) (hR.filt _)
    obtain ⟨t2,c2⟩:=yI hfa d (nR fs c R) (hR.filt _)
    refine ⟨⟨hq,hs,t1,t2⟩,?_⟩
    have e:=wF (fs:=fs) c.1.1 c.1.2.1 c.1.2.2 c.2 (dW fs fa a b d (yR fs c R)).2 (dW fs fa a b d (nR fs c R)).2 R
    have ek:(Tr.ask c.1.1 c.1.2.1 c.1.2.2 c.2 (dW fs fa a b d (yR fs c R)).2 (dW fs fa a b d (nR fs c R)).2).kn=(dW fs fa a b d (yR fs c R)).2.kn+(dW fs fa a b d (nR fs c R)).2.kn+1:=rfl
    show b+(dW fs fa a b d (yR fs c R)).1+(dW fs fa a b d (nR fs c R)).1=a*(jK fs (Tr.ask c.1.1 c.1.2.1 c.1.2.2 c.2 (dW fs fa a b d (yR fs c R)).2 (dW fs fa a b d (nR fs c R)).2) R:Nat)+b*((Tr.ask c.1.1 c.1.2.1 c.1.2.2 c.2 (dW fs fa a b d (yR fs c R)).2 (dW fs fa a b d (nR fs c R)).2).kn:Nat)
    rw [e,ek,c1,c2,mC,mC,mC,qR,qR,qR]
    show b+(a*((jK fs (dW fs fa a b d (yR fs c R)).2 (yR fs c R):Nat):Int)+_)+(a*((jK fs (dW fs fa a b d (nR fs c R)).2 (nR fs c R):Nat):Int)+_)=a*((jK fs (dW fs fa a b d (yR fs c R)).2 (yR fs c R):Nat):Int)+a*((jK fs (dW fs fa a b d (nR fs c R)).2 (nR fs c R):Nat):Int)+(_+_+b*((1:Nat):Int))
    rw [show ((1:Nat):Int)=1 from rfl,PZ]
    omega
   ·exact hy
end
def fN (ns:List Nat):D:=.tuple (ns.map λ(i:Nat)=>aO (i:Int))
def bJ (rs:List Rw) (ns:List Nat):List Rw:=ns.filterMap λi=>rs[i]?
def U5 (fs:Fs) (rs:List Rw) (c:Ch) (i:Nat):Bool:=match rs[i]? with | some r=>zQ fs c r | none=>false
abbrev yN (fs:Fs) (rs:List Rw) (c:Ch) (ns:List Nat):List Nat:=ns.filter (U5 fs rs c)
abbrev nN (fs:Fs) (rs:List Rw) (c:Ch) (ns:List Nat):List Nat:=ns.filter λi=>!U5 fs rs c i
abbrev mM (rs:List Rw) (ns:List Nat):Prop:=ns.Sublist (cK rs.length)
theorem mM.lt {rs:List Rw} {ns:List Nat} (h:mM rs ns) {i:Nat} (hi:i∈ns):i<rs.length:=kX.mp (h.subset hi)
theorem mM.len {rs:List Rw} {ns:List Nat} (h:mM rs ns):ns.length<=rs.length:=by
 have:=h.length_le
 rwa [eF] at this
theorem mM.filt {rs:List Rw} {ns:List Nat} (h:mM rs ns) (p:Nat->Bool):mM rs (ns.filter p):=List.filter_sublist.trans h
theorem ES {fs:Fs} {rs:List Rw} {c:Ch}:∀ {ns:List Nat},(∀ i∈ns,i<rs.length)->bJ rs (yN fs rs c ns)=yR fs c (bJ rs ns)/\bJ rs (nN fs rs c ns)=nR fs c (bJ rs ns)
 | [],_=>⟨rfl,rfl⟩
 | i::ns,h=>by
  have hi:=h i (aU ..)
  obtain ⟨e1,e2⟩:=ES (fs:=fs) (rs:=rs) (c:=c) (ns:=ns) λj hj=>h j (aN _ hj)
  have er:rs[i]?=some rs[i]:=aH hi
  have eo:U5 fs rs c i=zQ fs c rs[i]:=by unfold U5;rw [er]
  have eR:bJ rs (i::ns)=rs[i]::bJ rs ns:=by unfold bJ;rw [eN,er]
  have eR':∀ l:List Nat,bJ rs (i::l)=rs[i]::bJ rs l:=λl=>by unfold bJ;rw [eN,er]
  unfold yN nN yR nR at *
  rw [eR,bK,bK,bK,bK,eo]
  cases zQ fs c rs[i] with
  | true=>exact ⟨by rw [if_pos rfl,if_pos rfl,eR',e1],by rw [if_neg (by decide),if_neg (by decide),e2]⟩
  | false=>exact ⟨by rw [if_neg (by decide),if_neg (by decide),e1],by rw [if_pos (by decide),if_pos (by decide),eR',e2]⟩
theorem A6 {rs:List Rw}:∀ {ns:List Nat},(∀ i∈ns,i<rs.length)->(bJ rs ns).length=ns.length
 | [],_=>rfl
 | i::ns,h=>by
  have er:rs[i]?=some (rs[i]'(h i (aU ..))):=aH _
  have ih:=A6 (rs:=rs) (ns:=ns) λj hj=>h j (aN _ hj)
  unfold bJ at ih |-
  rw [eN,er,cI,ih];rfl
theorem RF {rs:List Rw} {ns:List Nat} {r:Rw} (h:r∈bJ rs ns):r∈rs:=by
 obtain ⟨i,_,e⟩:=pJ.mp h
 exact aV e
theorem LS {fs:Fs} {an:List Str} {rs:List Rw} (h:iD fs an rs) (ns:List Nat):iD fs an (bJ rs ns):=λr hr=>h r (RF hr)
theorem GU (rs:List Rw):bJ rs (cK rs.length)=rs:=by
 unfold bJ
 apply gD
 intro i
 have:∀ n,n<=rs.length->(cK n).filterMap (λi=>rs[i]?)=rs.take n:=λn=>by
  induction n with
  | zero=>intro _;simp
  | succ n ih =>
   intro hn
   rw [YQ,K6,ih (by omega),dM]
   congr 1
 rw [this rs.length (aL _),dR]
theorem E7:∀ {xs ys:List Nat},fN xs=fN ys->xs=ys:=λ{xs ys} h=>by
 have h:eY _=eY _:=h
 injection h with h
 have:=congrArg (zM λd:D=>match d with | .int i=>i.toNat | _=>0) h
 simpa only [bG,Function.comp_def,eG,List.map_id'] using this
def mE (p:Int×Tr):D:=.tuple [.int p.1,AA p.2]
def CM (ns:List Nat) (d:Nat):D:=.tuple [fN ns,.int (d:Nat)]
def YB (c:Ch):D:=.tuple [qD c.1,.str c.2]
def V4 (fs:Fs) (rs:List Rw) (c:Ch):D:=.list (rs.map λr=>aP (kW fs c.1.1 c.1.2.1 c.1.2.2 c.2 r.1))
def chD (fs:Fs) (rs:List Rw) (c:Ch):D:=.tuple [qD c.1,.str c.2,V4 fs rs c]
def eQ:List Str:=["form","kept","slip","knot","choices"]
def nA (C:Addr) (fs:Fs) (an:List Str) (rs:List Rw) (a b:Int):D:=J4 C eQ [fX fs an,.list (rs.map fR),.int a,.int b,.list ((mR fs).map (chD fs rs))]
def N1 (fs:Fs) (rs:List Rw) (ns:List Nat) (c:Ch):D:=.tuple [qD c.1,.str c.2,fN (yN fs rs c ns),fN (nN fs rs c ns)]
structure pF (fs:Fs) (an:List Str) (fa:List Rw->Str) (rs:List Rw) (a b:Int):Prop where
 F:jD fs an
 fa:FA fs an fa
 R:iD fs an rs
 l:rs.length<=60
 a0:0<=a
 a1:a<=1000000
 b0:0<=b
 b1:b<=1000000
def aEo:oA:=λds Q=>∃ (fs:Fs) (an:List Str),ds=[fX fs an]/\jD fs an/\Q (.list ((mR fs).map YB))
def ZG:oA:=λds Q=>∃ (fs:Fs) (an:List Str) (c:Ch) (rs:List Rw),ds=[fX fs an,YB c,.list (rs.map fR)]/\jD fs an/\c∈mR fs/\iD fs an rs/\rs.length<=60/\Q (V4 fs rs c)
def ZH:oA:=λds Q=>∃ xs ys:List Nat,ds=[.tuple [fN xs,fN ys],.int 1]/\Q (.bool (!xs.isEmpty && !ys.isEmpty))
def aEs:SpI:=λds Q=>∃ (fs:Fs) (an:List Str) (rs:List Rw) (a b:Int),ds=[fX fs an,.list (rs.map fR),.tuple [.int a,.int b]]/\jD fs an/\iD fs an rs/\rs.length<=60/\Q [fX fs an,.list (rs.map fR),.int a,.int b,.list ((mR fs).map (chD fs rs))]
def aBy (w:World) (C:Addr):oA:=λds Q=>∃ (fs:Fs) (an:List Str) (fa:List Rw->Str) (rs:List Rw) (a b:Int) (ns:List Nat),ds=[nA C fs an rs a b,fN ns]/\pF fs an fa rs a b/\mM rs ns/\Q (mE (nD fs fa a (bJ rs ns)))
def aBx (w:World) (C:Addr):oA:=λds Q=>∃ (fs:Fs) (an:List Str) (fa:List Rw->Str) (rs:List Rw) (a b:Int) (ns:List Nat),ds=[nA C fs an rs a b,fN ns]/\pF fs an fa rs a b/\mM rs ns/\Q (.list (((mR fs).filter (eJ fs (bJ rs ns))).map (N1 fs rs ns)))
def Q3 (w:World) (C:Addr):oA:=λds Q=>∃ (fs:Fs) (an:List Str) (fa:List Rw->Str) (rs:List Rw) (a b:Int) (kvs:List (D×D)) (ns:List Nat) (d:Nat),ds=[nA C fs an rs a b,lY w kvs,fN ns,.int (d:Nat)]/\pF fs an fa rs a b/\mM rs ns/\(∀ kv∈kvs,jL kv.1)/\(d=0\/(CM ns d,mE (dW fs fa a b d (bJ rs ns)))∈kvs)/\Q (mE (dW fs fa a b d (bJ rs ns)))
def InK (fs:Fs) (fa:List Rw->Str) (rs:List Rw) (a b:Int) (kvs:List (D×D)) (d:Nat) (ns:List Nat):Prop:=d=0\/(CM ns d,mE (dW fs fa a b d (bJ rs ns)))∈kvs
def ZB (w:World) (C:Addr):oA:=λds Q=>∃ (fs:Fs) (an:List Str) (fa:List Rw->Str) (rs:List Rw) (a b:Int) (kvs:List (D×D)) (ns:List Nat) (d:Nat),ds=[nA C fs an rs a b,lY w kvs,fN ns,.int ((d+1:Nat):Int)]/\pF fs an fa rs a b/\mM rs ns/\(∀ kv∈kvs,jL kv.1)/\(∀ c∈mR fs,eJ fs (bJ rs ns) c=true->InK fs fa rs a b kvs d (yN fs rs c ns)/\InK fs fa rs a b kvs d (nN fs rs c ns))/\Q (mE (dW fs fa a b (d+1) (bJ rs ns)))
def ZC (w:World) (C:Addr):oA:=λds Q=>∃ (fs:Fs) (an:List Str) (fa:List Rw->Str) (rs:List Rw) (a b:Int) (lv:List (List Nat)),ds=[nA C fs an rs a b,.list (lv.map fN)]/\pF fs an fa rs a b/\lv.length<=400/\(∀ x∈lv,mM rs x)/\∀ ls:List (List Nat),ls.Nodup->ls.length<=2*(mR fs).length*lv.length->(∀ x∈ls,mM rs x/\x≠[]) ->
 (∀ ns∈lv,∀ c∈mR fs,eJ fs (bJ rs ns) c=true->yN fs rs c ns∈ls/\nN fs rs c ns∈ls)->Q (.list (ls.map fN))
def lE (x:List Nat×Nat):D:=CM x.1 x.2
def Fed (fs:Fs) (rs:List Rw) (ks:List (List Nat×Nat)):Prop:=∀ (i:Nat) (x:List Nat) (d:Nat),ks[i]?=some (x,d+2)->∀ c∈mR fs,eJ fs (bJ rs x) c=true->(∃ j,i<j/\ks[j]?=some (yN fs rs c x,d+1))/\∃ j,i<j/\ks[j]?=some (nN fs rs c x,d+1)
def B9 (fs:Fs) (rs:List Rw) (ns:List Nat) (dp:Nat) (ks:List (List Nat×Nat)):Prop:=ks.Nodup/\ks.length<=400/\(∀ x∈ks,mM rs x.1/\1<=x.2/\x.2<=3/\x.1≠[])/\(0<dp->(ns,dp)∈ks)/\∀ x d,(x,d+2)∈ks->∀ c∈mR fs,eJ fs (bJ rs x) c=true->(yN fs rs c x,d+1)∈ks/\(nN fs rs c x,d+1)∈ks
def ZD (w:World) (C:Addr):oA:=λds Q=>∃ (fs:Fs) (an:List Str) (fa:List Rw->Str) (rs:List Rw) (a b:Int) (ns:List Nat) (dp:Nat),ds=[nA C fs an rs a b,fN ns,.int (dp:Nat)]/\pF fs an fa rs a b/\mM rs ns/\ns≠[]/\dp<=3/\(dp=3->rs.length<=7)/\∀ ks:List (List Nat×Nat),B9 fs rs ns dp ks->Fed fs rs ks->Q (.list (ks.map lE))
def ZE (w:World) (C:Addr):oA:=λds Q=>∃ (fs:Fs) (an:List Str) (fa:List Rw->Str) (rs:List Rw) (a b:Int) (ns:List Nat) (dp:Nat),ds=[nA C fs an rs a b,fN ns,.int (dp:Nat)]/\pF fs an fa rs a b/\mM rs ns/\ns≠[]/\dp<=3/\(dp=3->rs.length<=7)/\∀ ks:List (List Nat×Nat),B9 fs rs ns dp ks ->
 Q (lY w (ks.map λx=>(lE x,mE (dW fs fa a b x.2 (bJ rs x.1)))))
def aHm:D->D
 | .tuple [.tuple k,.tuple (c::_)]=>.tuple (k++[c])
 | _=>.none
def oV (fs:Fs) (fa:List Rw->Str) (a b:Int) (rs:List Rw) (x:List Nat×Nat):D:=.tuple [fN x.1,.int (x.2:Nat),.int (dW fs fa a b x.2 (bJ rs x.1)).1]
def ZF (w:World) (C:Addr):oA:=λds Q=>∃ (fs:Fs) (an:List Str) (fa:List Rw->Str) (rs:List Rw) (a b:Int) (dp:Nat),ds=[fX fs an,.list (rs.map fR),.int (dp:Nat),.tuple [.int a,.int b]]/\pF fs an fa rs a b/\rs≠[]/\dp<=3/\(dp=3->rs.length<=7)/\∀ ks:List (List Nat×Nat),B9 fs rs (cK rs.length) dp ks->Q (.tuple [AA (dW fs fa a b dp rs).2,.int (dW fs fa a b dp rs).1,.list (ks.map (oV fs fa a b rs))])
theorem RE {te:ET} {u:RT} {Q:D->Prop} {σ:List Sl} {i:Nat} (v:D) (h:∀ q:D->Prop,q v->te σ q) (k:u Q (σ.set i (.val v))):WH (wI i te) u Q σ:=h _ k
theorem WG {te:ET} {u:RT} {Q:D->Prop} {σ:List Sl} {i:Nat} (R:D->Prop) (h:∀ q:D->Prop,(∀ v,R v->q v)->te σ q) (k:∀ v,R v->u Q (σ.set i (.val v))):WH (wI i te) u Q σ:=h _ k
theorem DD {α:Type} [DecidableEq α]:∀ {ls ms:List α},ls.Nodup->(∀ x∈ls,x∈ms)->ls.length<=ms.length
 | [],ms,_,_=>cS _
 | a::l,ms,hn,h=>by
  have ha:=h a (aU ..)
  have:=DD (ls:=l) (ms:=ms.erase a) (iK.mp hn).2 λx hx=>by
   refine (List.mem_erase_of_ne (λe:x=a=>(iK.mp hn).1 (e▸hx))).mpr (h x (aN _ hx))
  rw [List.length_erase_of_mem ha] at this
  have hp:=List.length_pos_of_mem ha
  rw [cI];omega
def GF:List Nat->List (List Nat)
 | []=>[[]]
 | a::l=>GF l++(GF l).map (a::·)
theorem C4:∀ l:List Nat,(GF l).length=2 ^ l.length
 | []=>rfl
 | a::l=>by
  show (GF l++_).length=_
  rw [bL,aB,C4 l,cI,aH0];omega
theorem NR {x l:List Nat} (h:x.Sublist l):x∈GF l:=by
 induction h with
 | slnil=>exact cZ.mpr rfl
 | cons a _ ih=>exact jF _ ih
 | cons_cons a _ ih=>exact dU _ (aQ.mpr ⟨_,ih,rfl⟩)
theorem QT {rs:List Rw} {ls:List (List Nat)} (hn:ls.Nodup) (h:∀ x∈ls,mM rs x) (h7:rs.length<=7):ls.length<=128:=by
 have:=DD hn λx hx=>NR (h x hx)
 rw [C4,eF] at this
 exact cM this (jG (n:=2) (by decide) h7)
def sD (n:Nat):oA:=λds Q=>∃ (fs:Fs) (an:List Str) (t:Tr) (d:Nat),ds=[fX fs an,AA t,.int (d:Nat)]/\jD fs an/\U9 fs an d t/\d<n/\d<=3/\Q (.bool true)
def YZ:oA:=sD 4
theorem SO {ds:List D} {Q:D->Prop} (h:sD 0 ds Q):False:=by
 obtain ⟨_,_,_,_,_,_,_,h,_⟩:=h
 omega
def LN:oA:=λds Q=>∃ (fs:Fs) (an:List Str),ds=[fX fs an]/\jD fs an/\Q (.list ((qs fs).map qD))
theorem wH {w:World} {u:oW} {DT:nG} {σ:List Sl} {i:Nat} (hi:i<σ.length) (hn:∀ (j:Nat) (hs:List Int) (kvs:List (D×D)),σ[j]?≠some (.dic hs kvs)) (k:u DT (σ.set i (rC w []))):jI (RB i) u DT σ:=⟨hi,hn,k⟩
theorem xZ {w:World} {tk tv:ET} {DT:nG} {σ:List Sl} {i:Nat} {kvs:List (D×D)} (k v:D) (h:σ[i]?=some (rC w kvs)) (hv:∀ q:D->Prop,q v->tv (σ.set i (.val (lY w kvs))) q) (hd:v.hasDict=false) (hk:∀ q:D->Prop,q k->tk (σ.set i (.val (lY w kvs))) q) (h1:FX k) (h2:∀ kv∈kvs,jL kv.1) (h3:kvs.length<=100000) (kk:DT.nx (σ.set i (rC w (vD kvs k v)))):JD w i tk tv DT σ:=⟨kvs,h,hv _ ⟨hd,hk _ ⟨h1,h2,h3,kk⟩⟩⟩
theorem NZ {u:oW} {w:World} {tk tv:ET} {DT:nG} {σ:List Sl} {i:Nat} {kvs:List (D×D)} (k v:D) (h:σ[i]?=some (rC w kvs)) (hv:∀ q:D->Prop,q v->tv (σ.set i (.val (lY w kvs))) q) (hd:v.hasDict=false) (hk:∀ q:D->Prop,q k->tk (σ.set i (.val (lY w kvs))) q) (h1:FX k) (h2:∀ kv∈kvs,jL kv.1) (h3:kvs.length<=100000) (kk:u DT (σ.set i (rC w (vD kvs k v)))):jI (JD w i tk tv) u DT σ:=⟨kvs,h,hv _ ⟨hd,hk _ ⟨h1,h2,h3,kk⟩⟩⟩
theorem xA:∀ ns:List Nat,hkAll (ns.map λ(i:Nat)=>aO (i:Int))=true/\cD (ns.map λ(i:Nat)=>aO (i:Int))=0
 | []=>⟨rfl,rfl⟩
 | n::ns=>by
  have:=xA ns
  refine ⟨?_,?_⟩
  ·show (true && hkAll (ns.map λ(i:Nat)=>aO (i:Int)))=true
   rw [this.1];rfl
  ·show max 0 (cD (ns.map λ(i:Nat)=>aO (i:Int)))=0
   rw [this.2];rfl
theorem AJ (ns:List Nat):FX (fN ns):=by
 obtain ⟨h1,h2⟩:=xA ns
 refine ⟨⟨h1,?_⟩,_,rfl⟩
 show cD _+1<=8
 rw [h2];decide
theorem kR (ns:List Nat) (d:Nat):FX (CM ns d):=by
 obtain ⟨h1,h2⟩:=xA ns
 refine ⟨⟨?_,?_⟩,_,rfl⟩
 ·show (hkAll (ns.map λ(i:Nat)=>aO (i:Int)) && true)=true
  rw [h1];rfl
 ·show max (cD _+1) (max 0 0)+1<=8
  rw [h2];decide
theorem MI {xs ys:List Nat} {d e:Nat} (h:CM xs d=CM ys e):xs=ys/\d=e:=by
 have h:eY _=eY _:=h
 injection h with h
 injection h with h1 h
 injection h with h2 _
 injection h2 with h2
 exact ⟨E7 h1,gX.inj h2⟩
theorem QM:∀ t:Tr,(AA t).hasDict=false
 | .say _=>rfl
 | .ask k n v s y m=>by
  show (eZ (.str "ask") || (eZ (.tuple [.str k,.str n,.str v]) || (eZ (.str s) || (eZ (AA y) || (eZ (AA m) || false)))))=false
  rw [QM y,QM m];rfl
theorem aBf (p:Int×Tr):(mE p).hasDict=false:=by
 show (false || (eZ (AA p.2) || false))=false
 rw [QM];rfl
theorem DH (d1 d2 d3 d4 d5:D):(eQ.zip [d1,d2,d3,d4,d5]).lookup ("form":Str)=some d1/\(eQ.zip [d1,d2,d3,d4,d5]).lookup ("kept":Str)=some d2/\(eQ.zip [d1,d2,d3,d4,d5]).lookup ("slip":Str)=some d3/\(eQ.zip [d1,d2,d3,d4,d5]).lookup ("knot":Str)=some d4/\(eQ.zip [d1,d2,d3,d4,d5]).lookup ("choices":Str)=some d5:=by
 have n1:(("kept":Str) == "form")=false:=by decide +kernel
 have n2:(("slip":Str) == "form")=false:=by decide +kernel
 have n3:(("slip":Str) == "kept")=false:=by decide +kernel
 have n4:(("knot":Str) == "form")=false:=by decide +kernel
 have n5:(("knot":Str) == "kept")=false:=by decide +kernel
 have n6:(("knot":Str) == "slip")=false:=by decide +kernel
 have n7:(("choices":Str) == "form")=false:=by decide +kernel
 have n8:(("choices":Str) == "kept")=false:=by decide +kernel
 have n9:(("choices":Str) == "slip")=false:=by decide +kernel
 have n0:(("choices":Str) == "knot")=false:=by decide +kernel
 unfold eQ
 simp only [List.zip_cons_cons,hX,beq_self_eq_true,n1,n2,n3,n4,n5,n6,n7,n8,n9,n0,and_self]
theorem LT {rs:List Rw}:∀ {ns:List Nat},(∀ i∈ns,i<rs.length)->(ns.map λ(i:Nat)=>aO (i:Int)).map (RG rs)=(bJ rs ns).map fR
 | [],_=>rfl
 | i::ns,h=>by
  have hi:=h i (aU ..)
  have ih:=LT (rs:=rs) (ns:=ns) λj hj=>h j (aN _ hj)
  have er:rs[i]?=some rs[i]:=aH hi
  have eR:bJ rs (i::ns)=rs[i]::bJ rs ns:=by unfold bJ;rw [eN,er]
  rw [aX,aX,ih,eR,aX]
  congr 1
  show (match L2.atI rs (i:Int) with | some r=>fR r | none=>uE)=_
  rw [L2.gJ er]
theorem Q4 {fs:Fs} {an:List Str} {rs:List Rw} {c:Ch} (F:jD fs an) (hc:c∈mR fs) (hR:iD fs an rs):∀ {ns:List Nat},(∀ i∈ns,i<rs.length) ->
  (ns.map λ(i:Nat)=>aO (i:Int)).filter (yA fs c.1.1 c.1.2.1 c.1.2.2 c.2 rs "yes")=(yN fs rs c ns).map (λ(i:Nat)=>aO (i:Int)) /\
  (ns.map λ(i:Nat)=>aO (i:Int)).filter (yA fs c.1.1 c.1.2.1 c.1.2.2 c.2 rs "no")=(nN fs rs c ns).map (λ(i:Nat)=>aO (i:Int))
 | [],_=>⟨rfl,rfl⟩
 | i::ns,h=>by
  have hi:=h i (aU ..)
  obtain ⟨e1,e2⟩:=Q4 F hc hR (ns:=ns) λj hj=>h j (aN _ hj)
  have er:rs[i]?=some rs[i]:=aH hi
  have eo:U5 fs rs c i=zQ fs c rs[i]:=by unfold U5;rw [er]
  obtain ⟨hq,hs⟩:=KF hc
  have hyn:=V3 F (E1 hq) hs (hR _ (fE hi)).1
  have o1:∀ w,yA fs c.1.1 c.1.2.1 c.1.2.2 c.2 rs w (.int (i:Int))=decide (kW fs c.1.1 c.1.2.1 c.1.2.2 c.2 rs[i].1=w):=λw=>by
   show (match L2.atI rs (i:Int) with | some r=>decide (kW fs c.1.1 c.1.2.1 c.1.2.2 c.2 r.1=w) | none=>false)=_
   rw [L2.gJ er]
  have oc:zQ fs c rs[i]=decide (kW fs c.1.1 c.1.2.1 c.1.2.2 c.2 rs[i].1="yes"):=rfl
  unfold yN nN at *
  rw [aX,bK,bK,bK,bK,eo,oc,o1,o1,e1,e2]
  rcases hyn with e | e
  ·rw [e]
   have d1:decide (("yes":Str)="yes")=true:=by decide +kernel
   have d2:decide (("yes":Str)="no")=false:=by decide +kernel
   rw [d1,d2]
   exact ⟨rfl,rfl⟩
  ·rw [e]
   have d1:decide (("no":Str)="yes")=false:=by decide +kernel
   have d2:decide (("no":Str)="no")=true:=by decide +kernel
   rw [d1,d2]
   exact ⟨rfl,rfl⟩
theorem GY {fs:Fs} {rs:List Rw} {c:Ch} {ns:List Nat} (h:∀ i∈ns,i<rs.length):eJ fs (bJ rs ns) c=(!(yN fs rs c ns).isEmpty && !(nN fs rs c ns).isEmpty):=by
 obtain ⟨e1,e2⟩:=ES (fs:=fs) (rs:=rs) (c:=c) h
 have em:∀ l:List Nat,(∀ i∈l,i<rs.length)->(bJ rs l).isEmpty=l.isEmpty:=λl hl=>by
  have:=A6 hl
  rw [mB,zY,zY,this]
 unfold eJ
 rw [<- e1,<- e2,em _ λi hi=>h i (bY.mp hi).1,em _ λi hi=>h i (bY.mp hi).1]
theorem ME {an:List Str} {R:List Rw} {z:Str} (hf:zI an R z) {m:Int} (hm:m∈nU an R) (hx:∀ n∈nU an R,n<=m):m=(zF R z:Int):=by
 obtain ⟨k,h1,h2,_⟩:=hf
 have g1:=hx _ (aQ.mpr ⟨z,aV h1,rfl⟩)
 obtain ⟨y,hy,rfl⟩:=aQ.mp hm
 obtain ⟨j,hj⟩:=bZ hy
 have g2:=h2 j y hj
 omega
def zT {α:Type} [DecidableEq α] (ls:List α) (x:α):List α:=if x∈ls then ls else ls++[x]
theorem mI {α:Type} [DecidableEq α] {ls:List α} {x y:α}:y∈zT ls x↔y∈ls\/y=x:=by
 unfold zT
 split
 ·rename_i h
  exact ⟨.inl,λz=>z.elim id λe=>by rw [e];exact h⟩
 ·rw [eP,cZ]
theorem TF {α:Type} [DecidableEq α] {ls:List α} {x:α} (h:ls.Nodup):(zT ls x).Nodup:=by
 unfold zT
 split
 ·exact h
 ·rename_i hx
  rw [qO]
  exact ⟨h,by simp,λa ha b hb=>by rw [cZ.mp hb];exact λe=>hx (e▸ha)⟩
theorem MP {α:Type} [DecidableEq α] (ls:List α) (x:α):(zT ls x).length<=ls.length+1:=by
 unfold zT
 split
 ·omega
 ·rw [bL];exact aL _
def pN {α:Type} (kf:α->D) (ls:List α):List (D×D):=ls.map λy=>(kf y,.bool true)
theorem AY {α:Type} (kf:α->D) (ls:List α):(pN kf ls).map (·.1)=ls.map kf:=by
 unfold pN
 rw [bG];rfl
theorem E2 {α:Type} [DecidableEq α] {kf:α->D} (inj:∀ x y,kf x=kf y->x=y) (ls:List α) (x:α):vD (pN kf ls) (kf x) (.bool true)=pN kf (zT ls x):=by
 have hm:kf x∈(pN kf ls).map (·.1)↔x∈ls:=by
  rw [AY,aQ]
  exact ⟨λ⟨y,hy,e⟩=>inj y x e▸hy,λh=>⟨x,h,rfl⟩⟩
 unfold vD zT
 by_cases h:x∈ls
 ·rw [if_pos (hm.mpr h),if_pos h]
  unfold pN
  rw [bG]
  apply lP
  intro y _
  show (if kf y=kf x then (kf y,aD6 true) else (kf y,aD6 true))=_
  split<;>rfl
 ·rw [if_neg (λz=>h (hm.mp z)),if_neg h]
  unfold pN
  rw [bT];rfl
theorem QQ {α:Type} {kf:α->D} (hk:∀ x,jL (kf x)) (ls:List α):∀ kv∈pN kf ls,jL kv.1:=λkv h=>by
 obtain ⟨y,_,rfl⟩:=aQ.mp h
 exact hk y
theorem BJ (x y:List Nat×Nat) (h:lE x=lE y):x=y:=Prod.ext (MI h).1 (MI h).2
theorem XH {α:Type} [DecidableEq α] {ls:List α} {x:α} (h:x∉ls):zT ls x=ls++[x]:=if_neg h
theorem LZ {kvs:List (D×D)} {k v:D} (h:k∉kvs.map (·.1)):vD kvs k v=kvs++[(k,v)]:=if_neg h
structure IC (fs:Fs) (rs:List Rw) (ns:List Nat) (dp k:Nat) (ks:List (List Nat×Nat)) (lv:List (List Nat)):Prop where
 nd:ks.Nodup
 nl:lv.Nodup
 lo:∀ x∈lv,mM rs x
 ko:∀ x∈ks,mM rs x.1/\dp<x.2+k/\x.2<=dp/\1<=x.2
 z0:k=0->lv=[ns]/\ks=[]
 z1:0<k->(ns,dp)∈ks
 fed:∀ (i:Nat) (x:List Nat) (d:Nat),ks[i]?=some (x,d+2)->∀ c∈mR fs,eJ fs (bJ rs x) c=true->((∃ j,i<j/\ks[j]?=some (yN fs rs c x,d+1))\/(d+1+k=dp/\yN fs rs c x∈lv))/\((∃ j,i<j/\ks[j]?=some (nN fs rs c x,d+1))\/(d+1+k=dp/\nN fs rs c x∈lv))
theorem IC.step {fs:Fs} {rs:List Rw} {ns:List Nat} {dp k:Nat} {ks:List (List Nat×Nat)} {lv lv':List (List Nat)} (m:IC fs rs ns dp k ks lv) (hk:k<dp) (nl:lv'.Nodup) (lo:∀ x∈lv',mM rs x)
  (hs:k+1<dp->∀ x∈lv,∀ c∈mR fs,eJ fs (bJ rs x) c=true->yN fs rs c x∈lv'/\nN fs rs c x∈lv'):IC fs rs ns dp (k+1) (ks++lv.map λx=>(x,dp-k)) lv':=by
 have at2:∀ s,s∈lv->∀ i,i<ks.length->∃ j,i<j/\(ks++lv.map λx=>(x,dp-k))[j]?=some (s,dp-k):=λs hs i hi=>by
  obtain ⟨j,hj⟩:=bZ hs
  refine ⟨ks.length+j,by omega,?_⟩
  rw [dN (by omega),aI,show ks.length+j-ks.length=j by omega,hj];rfl
 refine ⟨?_,nl,lo,λx hx=>?_,λz=>absurd z (YM _),λ_=>?_,λi x d hi c hc hp=>?_⟩
 ·rw [qO]
  refine ⟨m.nd,?_,λa ha b hb=>?_⟩
  ·exact xR.map _ (λa b (h:a≠b) e=>h (congrArg Prod.fst e)) m.nl
  ·obtain ⟨y,_,rfl⟩:=aQ.mp hb
   rintro rfl
   have:=(m.ko _ ha).2.1
   dsimp only at this
   omega
 ·rcases eP.mp hx with hx | hx
  ·obtain ⟨h1,h2,h3,h4⟩:=m.ko x hx
   exact ⟨h1,by omega,h3,h4⟩
  ·obtain ⟨y,hy,rfl⟩:=aQ.mp hx
   exact ⟨m.lo y hy,by dsimp only;omega,by dsimp only;omega,by dsimp only;omega⟩
 ·by_cases h0:k=0
  ·obtain ⟨e1,e2⟩:=m.z0 h0
   rw [e1,e2,h0]
   exact cZ.mpr rfl
  ·exact jF _ (m.z1 (by omega))
 ·by_cases hl:i<ks.length
  ·rw [dH hl] at hi
   obtain ⟨f1,f2⟩:=m.fed i x d hi c hc hp
   have go:∀ s,((∃ j,i<j/\ks[j]?=some (s,d+1))\/(d+1+k=dp/\s∈lv))->(∃ j,i<j/\(ks++lv.map λx=>(x,dp-k))[j]?=some (s,d+1))\/(d+1+(k+1)=dp/\s∈lv'):=λs h=>by
    rcases h with ⟨j,h1,h2⟩ | ⟨h1,h2⟩
    ·exact .inl ⟨j,h1,by rw [dH (aG.mp h2).1];exact h2⟩
    ·obtain ⟨j,g1,g2⟩:=at2 s h2 i hl
     exact .inl ⟨j,g1,by rw [g2];congr 2;omega⟩
   exact ⟨go _ f1,go _ f2⟩
  ·rw [dN (by omega),aI] at hi
   obtain ⟨y,hy,e⟩:=bU.mp hi
   injection e with e1 e2
   subst e1
   obtain ⟨g1,g2⟩:=hs (by omega) y (aV hy) c hc hp
   exact ⟨.inr ⟨by omega,g1⟩,.inr ⟨by omega,g2⟩⟩
theorem IC.fin {fs:Fs} {rs:List Rw} {ns:List Nat} {dp:Nat} {ks:List (List Nat×Nat)} {lv:List (List Nat)} (m:IC fs rs ns dp dp ks lv):Fed fs rs ks:=λi x d hi c hc hp=>by
 obtain ⟨f1,f2⟩:=m.fed i x d hi c hc hp
 exact ⟨f1.elim id λh=>absurd h.1 (by omega),f2.elim id λh=>absurd h.1 (by omega)⟩
theorem LD:("leaf_of":Str)∉eQ:=by decide +kernel
theorem LC:("partings":Str)∉eQ:=by decide +kernel
theorem _root_.L2.Room.u9 {k:Nat} {A:Around} (r:Room k A):A.units+9<cLine:=by have:=r.un;omega
theorem SG {te:ET} {DT:nG} {σ:List Sl} {i:Nat} (R:D->Prop) (h:∀ q:D->Prop,(∀ v,R v->q v)->te σ q) (k:∀ v,R v->DT.nx (σ.set i (.val v))):wI i te DT σ:=h _ k
theorem pF.filt {fs:Fs} {an:List Str} {fa:List Rw->Str} {rs:List Rw} {a b:Int} (S:pF fs an fa rs a b) (p:Rw->Bool):pF fs an fa (rs.filter p) a b :=
 ⟨S.F,S.fa,S.R.filt p,cM (eK _ _) S.l,S.a0,S.a1,S.b0,S.b1⟩
def SX (f:Str×List Str) (x:D):D:=match x with | .int i=>(match L2.atI (f.2.map aP) i with | some d=>eY [.str "upto",.str f.1,d] | none=>.none) | _=>.none
theorem SW {f:Str×List Str} (h:2<=f.2.length):(TL.lF 1 (((f.2.map aP).length:Int)-2-1).toNat).map (SX f)=(wN f).map (OH "upto" f):=by
 have hn:(((f.2.map aP).length:Int)-2-1).toNat=f.2.length-3:=by rw [aB];omega
 rw [hn]
 unfold TL.lF wN
 apply gD
 intro m
 rw [aI,aI,aI]
 by_cases hm:m<f.2.length-3
 ·rw [jJ hm,gK,if_pos hm,jX,aH (show 1+m<f.2.length by omega)]
  have e:(1:Int)+(m:Int)=((1+m:Nat):Int):=by omega
  unfold SX
  show some (match L2.atI (f.2.map aP) ((1:Int)+(m:Int)) with | some d=>eY [.str "upto",.str f.1,d] | none=>.none)=some (OH "upto" f (f.2[1+m]'(by omega)))
  rw [e,sY (by omega)];rfl
 ·rw [gG (by rw [eF];omega),gG (by rw [bC,fD];omega)];rfl
theorem aGu {fs:Fs} {an:List Str} (F:jD fs an) {q:Qn} (h:q∈qs fs):wS (qD q) (.list ((qs fs).map qD))/\CN (qD q) (.list ((qs fs).map qD))=true:=by
 have hm:qD q∈fH fs:=by rw [<- qX];exact aQ.mpr ⟨q,h,rfl⟩
 have t:=C2 F _ hm
 obtain ⟨_,_,_,_,b5,b6⟩:=rY (C2 F)
 rw [qX]
 refine ⟨⟨b6,t.lay,by omega⟩,?_⟩
 show ((fH fs).any λz=>cP z (qD q))=true
 rw [rP]
 exact ⟨qD q,hm,PySem.SeqAt.eqv_refl _ t.lay⟩
theorem YT:∀ y∈(["yes","no"]:List Str),yW y=true:=by decide +kernel
theorem aA1 {z:Str} (h:yW z=true):Cd (.str z):=(kQ h (n:=8) (m:=0) (aL _)).cd (by decide)
theorem TH {s:Str} (h:s="yes"\/s="no"):wS (.str s) (.tuple [.str "yes",.str "no"])/\CN (.str s) (.tuple [.str "yes",.str "no"])=true:=by
 have hm:s∈(["yes","no"]:List Str):=by rcases h with rfl | rfl<;>decide +kernel
 refine ⟨E6 YT (aA1 (YT s hm)),?_⟩
 show (((["yes","no"]:List Str).map aP).any λy=>cP y (.str s))=true
 rw [B4];exact decide_eq_true hm
theorem Q6 {te:ET} {u:oW} {DT:nG} {σ:List Sl} {i j l:Nat} {a b c:D} (h:∀ q:D->Prop,q (.tuple [a,b,c])->te σ q) (k:u DT (((σ.set i (.val a)).set j (.val b)).set l (.val c))):jI (Q9 te (gP3 i j l)) u DT σ:=h _ ⟨a,b,c,rfl,k⟩
theorem aBm {i:Int} (h0:-999999999999<=i) (h1:i<=999999999999) {m:Nat}:Th 0 m (.int i):=by
 have hz:i.natAbs<10 ^ 12:=by omega
 refine ⟨aL _,?_,?_,rfl,cS _,rfl⟩
 ·have:=PyData.shown_int_le hz
  show decide ((PyData.shown (.int i)).length<=110)=true
  exact decide_eq_true (by omega)
 ·show decide (i.natAbs.log2<1920)=true
  refine decide_eq_true ?_
  by_cases e:i.natAbs=0
  ·rw [e];decide
  ·refine (Nat.log2_lt e).mpr (cV hz ?_)
   exact cM (show 10 ^ 12<=2 ^ 40 by decide) (jG (aE rfl) (aE rfl))
theorem aBl {n:Nat} (h:n<=999999999999) {m:Nat}:Th 0 m (.int (n:Nat)):=aBm (by omega) (by omega)
abbrev Rg:=Rw×List D
def gQ (r:Rg):D:=.tuple (.tuple r.1.1::.str r.1.2::r.2)
def II (fs:Fs) (k n v st:Str) (r:Rg):Bool:=uR fs k n v st r.1
def aIv:D->D
 | .tuple (_::b::_)=>b
 | d=>d
def aEg:D->D
 | .tuple [_,_,b]=>b
 | d=>d
def plain (r:Rw):Rg:=(r,[])
theorem C9 (rs:List Rw):(rs.map plain).map gQ=rs.map fR:=by rw [bG];rfl
theorem xY (rs:List Rw):(rs.map plain).map (·.1)=rs:=by rw [bG];exact vA _
theorem BC (rs:List Rw) (p:Rg->Bool) (q:Rw->Bool) (h:∀ r,p (plain r)=q r):((rs.map plain).filter p).map gQ=(rs.filter q).map fR:=by
 rw [tH,bG]
 have:(p ∘ plain)=q:=funext h
 rw [this];rfl
def GK:oA:=λds Q=>∃ (fs:Fs) (an:List Str) (k n v st:Str) (rs:List Rg),ds=[fX fs an,.tuple [.str k,.str n,.str v],.str st,.list (rs.map gQ)]/\jD fs an/\MN fs (.tuple [.str k,.str n,.str v])=true/\(st="yes"\/st="no")/\iD fs an (rs.map (·.1))/\rs.length<=60/\Q (.tuple [.list ((rs.filter (II fs k n v st)).map gQ),.list ((rs.filter λr=>!II fs k n v st r).map gQ)])
theorem GZ (fs:Fs) (an:List Str) (k n v st:Str) (rs:List Rw) {Q:D->Prop} (F:jD fs an) (hq:MN fs (.tuple [.str k,.str n,.str v])=true) (hs:st="yes"\/st="no") (hrs:iD fs an rs) (hl:rs.length<=60) (h:Q (.tuple [.list ((rs.filter (uR fs k n v st)).map fR),.list ((rs.filter λr=>!uR fs k n v st r).map fR)])) :
  GK [fX fs an,.tuple [.str k,.str n,.str v],.str st,.list (rs.map fR)] Q:=by
 refine ⟨fs,an,k,n,v,st,rs.map plain,by rw [C9],F,hq,hs,by rw [xY];exact hrs,by rw [aB];exact hl,?_⟩
 rw [BC rs _ (uR fs k n v st) λ_=>rfl,BC rs _ (λr=>!uR fs k n v st r) λ_=>rfl]
 exact h
def Y4:oA:=λds Q=>∃ (fs:Fs) (an:List Str) (rs:List Rg),ds=[fX fs an,.list (rs.map gQ)]/\jD fs an/\iD fs an (rs.map (·.1))/\rs.length<=60/\Q (.list ((nU an (rs.map (·.1))).map aO))
def Q0:oA:=λds Q=>∃ (fs:Fs) (an:List Str) (fa:List Rw->Str) (rs:List Rg) (a:Int),ds=[fX fs an,.list (rs.map gQ),.int a]/\jD fs an/\FA fs an fa/\iD fs an (rs.map (·.1))/\rs.length<=60/\0<=a/\a<=1000000/\Q (.int (nD fs fa a (rs.map (·.1))).1)
def wB (fs:Fs) (rs:List Rg) (c:Ch):D:=.tuple [.list ((rs.filter λr=>zQ fs c r.1).map gQ),.list ((rs.filter λr=>!zQ fs c r.1).map gQ)]
def Y1:oA:=λds Q=>∃ (fs:Fs) (an:List Str) (rs:List Rg),ds=[fX fs an,.list (rs.map gQ)]/\jD fs an/\iD fs an (rs.map (·.1))/\rs.length<=60/\(∀ r∈rs,Th 200 2 (gQ r))/\Q (.list (((mR fs).filter (eJ fs (rs.map (·.1)))).map (wB fs rs)))
def fY (rs:List Rw) (ns:List Nat):List Rg:=ns.filterMap λi=>(rs[i]?).map λr=>(r,[aO (i:Nat)])
def Y0:oA:=λds Q=>∃ (rs:List Rw) (ns:List Nat),ds=[.list ((fY rs ns).map gQ)]/\mM rs ns/\rs.length<=60/\Q (fN ns)
theorem tW (rs:List Rw) (ns:List Nat):(fY rs ns).map (·.1)=bJ rs ns:=by
 unfold fY bJ
 rw [List.map_filterMap]
 congr 1
 funext i
 cases rs[i]?<;>rfl
theorem DR {rs:List Rw}:∀ {ns:List Nat},(∀ i∈ns,i<rs.length)->((fY rs ns).map gQ).map aEg=ns.map λ(i:Nat)=>aO (i:Int)
 | [],_=>rfl
 | i::ns,h=>by
  have hi:=h i (aU ..)
  have ih:=DR λj hj=>h j (aN _ hj)
  unfold fY at ih |-
  rw [eN,aH hi]
  show _::_=_::_
  rw [<- ih];rfl
theorem DS {rs:List Rw} {ns:List Nat} {r:Rg} (h:r∈fY rs ns):∃ i:Nat,i∈ns/\r.2=[.int (i:Nat)]/\r.1∈rs:=by
 obtain ⟨i,hi,e⟩:=pJ.mp h
 obtain ⟨x,hx,rfl⟩:=bU.mp e
 exact ⟨i,hi,rfl,aV hx⟩
theorem DU (rs:List Rw) (ns:List Nat):(fY rs ns).length<=ns.length:=List.length_filterMap_le ..
theorem vM (rs:List Rw) (p:Rw->Bool) (q:Nat->Bool):∀ (ns:List Nat),(∀ i∈ns,∀ r,rs[i]?=some r->p r=q i)->(fY rs ns).filter (λr=>p r.1)=fY rs (ns.filter q)
 | [],_=>rfl
 | i::ns,h=>by
  have ih:=vM rs p q ns λj hj=>h j (aN _ hj)
  unfold fY at ih |-
  cases hx:rs[i]? with
  | none =>
   rw [F9 (by rw [hx];rfl),ih,bK]
   split
   ·rw [F9 (by rw [hx];rfl)]
   ·rfl
  | some r =>
   have hp:=h i (aU ..) r hx
   rw [F8 (b:=(r,[aO (i:Nat)])) (by rw [hx];rfl),bK,bK]
   dsimp only
   rw [hp,ih]
   split
   ·rw [F8 (b:=(r,[aO (i:Nat)])) (by rw [hx];rfl)]
   ·rfl
def zC (x:List Int×Int×Int):D:=.tuple [.tuple (x.1.map aO),.int x.2.1,.int x.2.2]
def YY:oA:=λds Q=>∃ xs:List (List Int×Int×Int),ds=[.list (xs.map zC)]/\(∀ x∈xs,x.1.length<=60)/\Q (.bool true)
def QZ:oA:=λds Q=>∃ (fs:Fs) (an:List Str) (fa:List Rw->Str) (rs:List Rw) (a b:Int) (ns:List Nat) (dp:Nat) (ks:List (List Nat×Nat)),ds=[fX fs an,.list (rs.map fR),.tuple [.int a,.int b],.list (ks.map (oV fs fa a b rs))]/\pF fs an fa rs a b/\rs.length<=40/\B9 fs rs ns dp ks/\Q (.bool true)
def KV (fs:Fs) (fa:List Rw->Str) (a b:Int) (rs:List Rw) (ks:List (List Nat×Nat)):List (D×D):=ks.map λx=>(lE x,aO (dW fs fa a b x.2 (bJ rs x.1)).1)
theorem qI:∀ ns:List Nat,cR (ns.map λ(i:Nat)=>aO (i:Int))=true
 | []=>rfl
 | i::ns=>by
  show (CG (.int (i:Int)) && cR (ns.map λ(i:Nat)=>aO (i:Int)))=true
  rw [qI ns];rfl
theorem HN {y:List Nat} (h:y≠[]):cP (fN y) (.tuple [])=false:=by
 cases y with
 | nil=>exact absurd rfl h
 | cons a l=>rfl
theorem SK {y:List Nat} {n:Nat} (h:y≠[]) (hl:∀ i∈y,i<n):∃ i0 il:Nat,L2.atI (y.map λ(i:Nat)=>aO (i:Int)) 0=some (.int (i0:Nat))/\L2.atI (y.map λ(i:Nat)=>aO (i:Int)) (-1)=some (.int (il:Nat))/\il<n:=by
 refine ⟨y.head h,y.getLast h,?_,?_,hl _ (List.getLast_mem h)⟩
 ·refine L2.gJ (j:=0) ?_
  cases y with
  | nil=>exact absurd rfl h
  | cons a l=>rfl
 ·have e:=(List.dropLast_concat_getLast h).symm
  conv=>lhs;rw [e]
  rw [bT]
  exact L2.UU _ _
def gF (rs:List Rw):D->D
 | .int i=>match rs[i.toNat]? with | some r=>gQ (r,[.int i]) | none=>.none
 | _=>.none
theorem MR {rs:List Rw}:∀ {ns:List Nat},(∀ i∈ns,i<rs.length)->(ns.map λ(i:Nat)=>aO (i:Int)).map (gF rs)=(fY rs ns).map gQ
 | [],_=>rfl
 | i::ns,h=>by
  have hi:=h i (aU ..)
  have ih:=MR λj hj=>h j (aN _ hj)
  unfold fY at ih |-
  rw [eN,aH hi,aX,aX,ih]
  show gF rs (.int ((i:Nat):Int))::_=_::_
  congr 1
  unfold gF
  dsimp only
  rw [eG,aH hi]
theorem VN {fs:Fs} {an:List Str} (F:jD fs an) {rs:List Rw} (hR:iD fs an rs) {ns:List Nat} (hn:mM rs ns) (hl:rs.length<=60) {r:Rg} (hr:r∈fY rs ns):Th 200 2 (gQ r):=by
 obtain ⟨i,hi,e,hm⟩:=DS hr
 have hil:=hn.lt hi
 have h:=hR _ hm
 obtain ⟨r1,r2⟩:=r
 dsimp only at e hm h
 subst e
 have n5:=F.n5
 exact vB 45 1 3 (kI (vB 8 0 5 (BY F h.1 (aL 8)) (by rw [(nE h.1).1];exact n5) (by decide) (by decide)) (kI (kQ (F.an.2.1 _ h.2) (by decide)) (kI ((aBl (n:=i) (m:=1) (by omega)).mono (by decide) (by decide)) xJ))) (aE rfl) (by decide) (by decide)
def YX:oA:=λds Q=>∃ (fs:Fs) (an:List Str) (fa:List Rw->Str) (rs:List Rw) (a b:Int) (dp:Nat) (ks:List (List Nat×Nat)),ds=[fX fs an,.list (rs.map fR),.int (dp:Nat),.tuple [.int a,.int b],.tuple [AA (dW fs fa a b dp rs).2,.int (dW fs fa a b dp rs).1,.list (ks.map (oV fs fa a b rs))]]/\pF fs an fa rs a b/\rs≠[]/\rs.length<=40/\dp<=3/\B9 fs rs (cK rs.length) dp ks/\Q (.bool true)
theorem HF:∀ {l:List D},(∀ x∈l,x.canLay0=true)->cR l=true
 | [],_=>rfl
 | a::l,h=>by
  show (a.canLay0 && cR l)=true
  rw [h a (aU ..),HF λx hx=>h x (aN _ hx)];rfl
def opp (s:Str):Str:=if s="yes" then "no" else "yes"
theorem SA (s:Str):opp s="yes"\/opp s="no":=by
 unfold opp
 split
 ·exact .inr rfl
 ·exact .inl rfl
def xV (f:Str×List Str) (k v st:Str) (c:D):Bool:=decide (sM f k v st c="yes")
theorem qC (f:Str×List Str) (k v st:Str):xV f k v st .none=decide (st="yes"):=rfl
theorem EJ (f:Str×List Str) (v st z:Str):xV f "is" v st (.str z)=decide (z=v):=by
 show decide ((if ("is":Str)="is" then (if z=v then ("yes":Str) else "no") else if f.2.idxOf z<=f.2.idxOf v then ("yes":Str) else "no")="yes")=_
 rw [if_pos rfl]
 by_cases e:z=v
 ·rw [if_pos e,decide_eq_true e];rfl
 ·rw [if_neg e,decide_eq_false e];rfl
theorem QE (f:Str×List Str) (v st z:Str):xV f "upto" v st (.str z)=decide (f.2.idxOf z<=f.2.idxOf v):=by
 show decide ((if ("upto":Str)="is" then (if z=v then ("yes":Str) else "no") else if f.2.idxOf z<=f.2.idxOf v then ("yes":Str) else "no")="yes")=_
 rw [if_neg (by decide)]
 by_cases e:f.2.idxOf z<=f.2.idxOf v
 ·rw [if_pos e,decide_eq_true e];rfl
 ·rw [if_neg e,decide_eq_false e];rfl
theorem L8 {st:Str} (h:st="yes"\/st="no"):decide (st="yes")=(true ^^ decide (opp st="yes")):=by
 rcases h with rfl | rfl<;>rfl
def YK (f:Str×List Str) (k v st:Str):Prop:=∃ k' v' st':Str,OH k' f v'∈F4 f/\(st'="yes"\/st'="no")/\∃ e:Bool,∀ c,U6 f c=true->xV f k v st c=(e ^^ xV f k' v' st' c)
theorem YK.turn {f:Str×List Str} {k v st k2 v2 st2:Str} (h:YK f k2 v2 st2) (e0:Bool) (h0:∀ c,U6 f c=true->xV f k v st c=(e0 ^^ xV f k2 v2 st2 c)):YK f k v st:=by
 obtain ⟨k',v',st',h1,h2,e,h3⟩:=h
 exact ⟨k',v',st',h1,h2,e0 ^^ e,λc hc=>by rw [h0 c hc,h3 c hc,Bool.xor_assoc]⟩
theorem YK.self {f:Str×List Str} {k v st:Str} (h:OH k f v∈F4 f) (hs:st="yes"\/st="no"):YK f k v st:=⟨k,v,st,h,hs,false,λc _=>(pL _).symm⟩
theorem JR {f:Str×List Str} {c:D} (h:U6 f c=true) {P:D->Prop} (h0:P .none) (h1:∀ z∈f.2,P (.str z)):P c:=by
 cases c with
 | none=>exact h0
 | str z=>exact h1 z (of_decide_eq_true h)
 | _=>cases h
theorem JU {f:Str×List Str} {v st:Str} (hn:f.2.Nodup) (hv:v∈f.2) (hs:st="yes"\/st="no"):YK f "is" v st:=by
 by_cases hl:f.2.length=2
 ·obtain ⟨n,vs⟩:=f
  dsimp only at hl hn hv
  match vs,hl,hn,hv with
  | [x,y],_,hn,hv =>
   have hx:OH "is" (n,[x,y]) x∈F4 (n,[x,y]):=jF _ (aU ..)
   have hxy:x≠y:=λe=>(iK.mp hn).1 (by rw [e];exact aU ..)
   simp only [aZ,dS,or_false] at hv
   rcases hv with rfl | rfl
   ·exact .self hx hs
   ·refine (YK.self hx (SA st)).turn true λc hc=>JR (P:=λc=>xV _ _ _ _ c=(true ^^ xV _ _ _ _ c)) hc ?_ λz hz=>?_
    ·rw [qC,qC];exact L8 hs
    ·rw [EJ,EJ]
     simp only [aZ,dS,or_false] at hz
     rcases hz with rfl | rfl
     ·rw [decide_eq_false hxy,decide_eq_true rfl];rfl
     ·rw [decide_eq_true rfl,decide_eq_false λe=>hxy e.symm];rfl
 ·refine .self (jF _ (aQ.mpr ⟨v,?_,rfl⟩)) hs
  unfold sN
  rw [if_neg hl];exact hv
theorem TM {ys:List Str} {z v:Str} (hz:z∈ys) (hv:v∈ys) (h:ys.idxOf z=ys.idxOf v):z=v:=by
 have h1:=eW.mpr hz
 have h2:=eW.mpr hv
 rw [<- hZ h1,<- hZ h2]
 congr 1
theorem aCw {f:Str×List Str} {v st:Str} (hn:f.2.Nodup) (hv:v∈f.2) (hi:f.2.idxOf v+1<f.2.length) (hs:st="yes"\/st="no"):YK f "upto" v st:=by
 by_cases h0:f.2.idxOf v=0
 ·refine (JU hn hv hs).turn false λc hc=>JR (P:=λc=>xV _ _ _ _ c=(false ^^ xV _ _ _ _ c)) hc ?_ λz hz=>?_
  ·rw [qC,qC,pL]
  ·rw [QE,EJ,pL]
   refine decide_eq_decide.mpr ⟨λh=>TM hz hv (by omega),λh=>by rw [h];exact aL _⟩
 ·by_cases h2:f.2.idxOf v+2=f.2.length
  ·have hj:f.2.length-1<f.2.length:=by omega
   have hw:f.2.idxOf f.2[f.2.length-1]=f.2.length-1:=hn.idxOf_getElem _ hj
   have hwm:f.2[f.2.length-1]∈f.2:=fE hj
   generalize f.2[f.2.length-1]=w at hw hwm
   refine (JU (v:=w) (st:=opp st) hn hwm (SA st)).turn true λc hc=>JR (P:=λc=>xV _ _ _ _ c=(true ^^ xV _ _ _ _ c)) hc ?_ λz hz=>?_
   ·rw [qC,qC];exact L8 hs
   ·rw [QE,EJ]
    have hzl:=eW.mpr hz
    by_cases e:z=w
    ·rw [decide_eq_true e,decide_eq_false (by rw [e];omega)];rfl
    ·rw [decide_eq_false e,decide_eq_true];rfl
     have:f.2.idxOf z≠f.2.length-1:=λq=>e (TM hz hwm (q.trans hw.symm))
     omega
  ·refine .self (dU _ (aQ.mpr ⟨v,?_,rfl⟩)) hs
   have hl:=eW.mpr hv
   refine aV (i:=f.2.idxOf v-1) ?_
   unfold wN
   rw [gK,if_pos (by omega),jX,show 1+(f.2.idxOf v-1)=f.2.idxOf v by omega,aH hl,hZ hl]
theorem aCx {fs:Fs} {an:List Str} (F:jD fs an) {k n v st:Str} (hq:MN fs (.tuple [.str k,.str n,.str v])=true) (hs:st="yes"\/st="no"):∃ c∈mR fs,∃ e:Bool,∀ r:Rw,oJ fs (.tuple r.1)=true->uR fs k n v st r=(e ^^ zQ fs c r):=by
 obtain ⟨f,hf,rfl,hv,hk⟩:=AK hq
 have hn:=(F.vs f hf).2.2.2.2
 have hM:YK f k v st:=by
  rcases hk with rfl | ⟨rfl,hi⟩
  ·exact JU hn hv hs
  ·exact aCw hn hv hi hs
 obtain ⟨k',v',st',h1,h2,e,h3⟩:=hM
 have hm:(k',f.1,v')∈qs fs:=aQ.mpr ⟨OH k' f v',VF.mpr ⟨_,aQ.mpr ⟨f,hf,rfl⟩,h1⟩,rfl⟩
 refine ⟨((k',f.1,v'),st'),VG.mpr ⟨_,hm,?_⟩,e,λr hr=>?_⟩
 ·rcases h2 with rfl | rfl
  ·exact aU ..
  ·exact aN _ (aU ..)
 ·obtain ⟨j,hj⟩:=bZ hf
  obtain ⟨hl,hcv⟩:=nE hr
  have hjc:j<r.1.length:=by rw [hl];exact (aG.mp hj).1
  have hcj:r.1[j]?=some r.1[j]:=aH hjc
  have:=h3 _ (hcv j f _ hj hcj)
  unfold zQ uR
  rw [sL F hj hcj rfl,sL F hj hcj rfl]
  exact this
theorem E9 {fs:Fs} {an:List Str} {fa:List Rw->Str} {a b:Int} (F:jD fs an) (hfa:FA fs an fa) (ha:0<=a) (hb:0<=b):∀ (t:Tr) (d:Nat) (R:List Rw),PM fs an t->t.dep<=d->iD fs an R->(dW fs fa a b d R).1<=a*(jK fs t R:Nat)+b*(t.kn:Nat)
 | .say z,d,R,ht,_,hR=>by
  refine tI (uA d R) ?_
  have:=(W4 (fs:=fs) (hfa R hR) ha).2 _ (aQ.mpr ⟨z,ht,rfl⟩)
  rw [sJ]
  show _<=a*_+b*((0:Nat):Int)
  rw [show ((0:Nat):Int)=0 from rfl,K7,K8]
  exact this
 | .ask k n v s y m,0,R,_,hd,_=>absurd (show max y.dep m.dep+1<=0 from hd) (by omega)
 | .ask k n v s y m,d+1,R,⟨hq,hs,hy,hm⟩,hd,hR=>by
  have hd:max y.dep m.dep+1<=d+1:=hd
  obtain ⟨c,hc,e,h⟩:=aCx F hq hs
  have i1:=E9 F hfa ha hb y d (R.filter (uR fs k n v s)) hy (by omega) (hR.filt _)
  have i2:=E9 F hfa ha hb m d (R.filter λr=>!uR fs k n v s r) hm (by omega) (hR.filt _)
  have hB:=UT (fs:=fs) (fa:=fa) ha hb d R hc
  have hle:(dW fs fa a b (d+1) R).1<=b+(dW fs fa a b d (R.filter (uR fs k n v s))).1+(dW fs fa a b d (R.filter λr=>!uR fs k n v s r)).1:=by
   refine tI hB ?_
   cases e with
   | false =>
    have e1:R.filter (uR fs k n v s)=yR fs c R:=kP λr hr=>by rw [h r (hR r hr).1,pL]
    have e2:(R.filter λr=>!uR fs k n v s r)=nR fs c R:=kP λr hr=>by rw [h r (hR r hr).1,pL]
    rw [e1,e2];exact vW _
   | true =>
    have e1:R.filter (uR fs k n v s)=nR fs c R:=kP λr hr=>by rw [h r (hR r hr).1,aD8]
    have e2:(R.filter λr=>!uR fs k n v s r)=yR fs c R:=kP λr hr=>by rw [h r (hR r hr).1,aD8,Bool.not_not]
    rw [e1,e2]
    unfold cC
    omega
  have es:=wF (fs:=fs) k n v s y m R
  have ek:(Tr.ask k n v s y m).kn=y.kn+m.kn+1:=rfl
  rw [es,ek,mC,mC,mC,qR,qR,qR,show ((1:Nat):Int)=1 from rfl,PZ]
  generalize (dW fs fa a b (d+1) R).1=x0 at *
  generalize (dW fs fa a b d (R.filter (uR fs k n v s))).1=x1 at *
  generalize (dW fs fa a b d (R.filter λr=>!uR fs k n v s r)).1=x2 at *
  generalize a*((jK fs y (R.filter (uR fs k n v s)):Nat):Int)=x3 at *
  generalize a*((jK fs m (R.filter λr=>!uR fs k n v s r):Nat):Int)=x4 at *
  generalize b*((y.kn:Nat):Int)=x5 at *
  generalize b*((m.kn:Nat):Int)=x6 at *
  omega
theorem FB:∀ t:Tr,nl (AA t)=true
 | .say _=>rfl
 | .ask k n v s y m=>by
  show (true && (true && (true && (nl (AA y) && (nl (AA m) && true)))))=true
  rw [FB y,FB m];rfl
theorem LQ {c:qQ} {t u:oW} {DT:nG} {σ:List Sl} (R:Bool->Prop) (J:List Sl->Prop) (h:∀ q:Bool->Prop,(∀ b,R b->q b)->c σ q) (k1:∀ nx:List Sl->Prop,(∀ σ',J σ'->nx σ')->R true->t { DT with nx:=nx } σ) (k0:R false->J σ) (k:∀ σ',J σ'->u DT σ'):jI (sIf c t kB) u DT σ :=
 iA R h (λhT=>k1 _ k hT) λhF=>k σ (k0 hF)
theorem aDl {c:TC} {t u:qL} {τ:D} {DC:xN} {n:Nat} {σ:List Sl} (J:Nat->List Sl->Prop) (R:Nat->Prop) (h:∀ q:Nat->Bool->Prop,(∀ m b,R m->q m b)->c τ n σ q) (k1:∀ nx:Nat->List Sl->Prop,(∀ m σ',J m σ'->nx m σ')->∀ m,R m->t τ { DC with nx:=nx } m σ) (k0:∀ m,R m->J m σ) (k:∀ m σ',J m σ'->u τ DC m σ'):nV (cIf c t B1) u τ DC n σ :=
 UL (λm _=>R m) (λq hq=>h q λm b hm=>hq m b hm) (λm hm=>k1 _ k m hm) λm hm=>k m σ (k0 m hm)

end K36

namespace K36
set_option maxHeartbeats 4000000
open PySem L2 TL

theorem aEz:dB ["form","rows","told"] ["form","rows"] (bQ (iY 4)):=qA
theorem aEy:dB ["form","rows","counts"] ["form","rows"] (bQ (iY 5)):=qA
theorem aEw:dB ["field","name","values","told_by_is","told_by_upto"] ["field"] (bQ (iY 9)):=qA
theorem aEx:dB ["form","questions","field"] ["form"] (bQ (iY 8)):=qA
theorem aEv:dB ["form","choices","question"] ["form"] (bQ (iY 10)):=qA
theorem aAd:dB ["question","field"] ["question","field"] (bQ (iY 14)):=qA
theorem aEt:dB ["form","question"] ["form","question"] (bQ (iY 12)):=qA
theorem aAe:dB ["question","stray","field"] ["question","stray","field"] (bQ (iY 13)):=qA
theorem aEu:dB ["form","question","stray","case","number"] ["form","question","stray","case"] (bQ (iY 11)):=qA
theorem aAc:dB ["sides","fewest"] ["sides","fewest"] (bQ (iY 15)):=qA
theorem aAb:dB ["form","choice","rows"] ["form","choice","rows"] (bQ (iY 18)):=qA
theorem aE2:dB ["self","form","rows","prices"] ["self","form","rows","prices"] (bQ (vH (iY 17) 0)):=qA
theorem aE1:dB ["self","numbers","rows","slips"] ["self","numbers"] (bQ (vH (iY 17) 1)):=qA
theorem aE0:dB ["self","numbers","told","question","stray","sides","yes","no"] ["self","numbers"] (bQ (vH (iY 17) 2)):=qA
theorem Z5:dB ["sets","known","numbers","deep"] ["sets","known","numbers","deep"] (bQ (iY 26)):=qA
theorem Z6:dB ["sets","known","numbers","deep","told","question","stray","yes","no","one","other","cost"] ["sets","known","numbers","deep"] (bQ (iY 25)):=qA
theorem Z7:dB ["sets","level","sides","numbers","question","stray","yes","no"] ["sets","level"] (bQ (iY 24)):=qA
theorem Z8:dB ["sets","numbers","deep","met","level","left","found"] ["sets","numbers","deep"] (bQ (iY 23)):=qA
theorem Z9:dB ["sets","numbers","deep","known","key"] ["sets","numbers","deep"] (bQ (iY 22)):=qA
theorem aAa:dB ["form","rows","deep","prices","sets","known","top"] ["form","rows","deep","prices"] (bQ (iY 21)):=qA
theorem Z4:dB ["_law_script","_law_digits"] ["_law_script"] (bQ (iY 28)):=qA
theorem Z3:dB ["_law_tape_here","_law_many","_law_script","_law_at","_law_left","_law_number"] ["_law_tape_here","_law_many"] (bQ (iY 29)):=qA
theorem Z2:dB ["_law_tape_here","_law_many","_law_way","_law_first","_law_letters","_law_words","_law_base","_law_names_here","_law_at"] ["_law_tape_here","_law_many"] (bQ (iY 30)):=qA
theorem Z1:dB ["_law_tape_here","_law_fields","_law_values","_law_answers","_law_names_here"] ["_law_tape_here","_law_fields","_law_values"] (bQ (iY 31)):=qA
theorem Z0:dB ["_law_tape_here","_law_form_here","_law_case_here","_law_name","_law_values","_law_at"] ["_law_tape_here","_law_form_here"] (bQ (iY 32)):=qA
theorem ZZ:dB ["_law_tape_here","_law_form_here","_law_many","_law_rows_here","_law_k","_law_case_here","_law_at","_law_row"] ["_law_tape_here","_law_form_here","_law_many"] (bQ (iY 33)):=qA
theorem ZY:dB ["_law_form_here","_law_found","_law_name","_law_values","_law_some"] ["_law_form_here"] (bQ (iY 34)):=qA
theorem ZX:dB ["_law_form_here","_law_question","_law_stray","_law_case_here","_law_kind","_law_name","_law_value","_law_values","_law_mine","_law_k","_law_far"] ["_law_form_here","_law_question","_law_stray","_law_case_here"] (bQ (iY 35)):=qA
theorem ZW:dB ["_law_form_here","_law_question","_law_stray","_law_rows_here","_law_ones","_law_others","_law_row"] ["_law_form_here","_law_question","_law_stray","_law_rows_here"] (bQ (iY 36)):=qA
theorem ZV:dB ["_law_form_here","_law_rows_here","_law_told"] ["_law_form_here","_law_rows_here"] (bQ (iY 37)):=qA
theorem ZU:dB ["_law_tape_here","_law_form_here","_law_deep","_law_name","_law_values","_law_question","_law_stray"] ["_law_tape_here","_law_form_here","_law_deep"] (bQ (iY 38)):=qA
theorem ZT:dB ["_law_tree_here"] ["_law_tree_here"] (bQ (iY 39)):=qA
theorem ZS:dB ["_law_form_here","_law_tree_here","_law_rows_here","_law_ones","_law_others"] ["_law_form_here","_law_tree_here","_law_rows_here"] (bQ (iY 40)):=qA
theorem ZR:dB ["_law_tape_here","_law_some"] ["_law_tape_here"] (bQ (iY 41)):=qA
theorem ZQ:dB ["_law_form_here","_law_rows_here","_law_slip"] ["_law_form_here","_law_rows_here","_law_slip"] (bQ (iY 42)):=qA
theorem ZO:dB ["_law_rows_here"] ["_law_rows_here"] (bQ (iY 44)):=qA
theorem ZP:dB ["_law_form_here","_law_rows_here","_law_found","_law_question","_law_stray","_law_sides"] ["_law_form_here","_law_rows_here"] (bQ (iY 43)):=qA
theorem ZN:dB ["_law_form_here","_law_rows_here","_law_prices_here","_law_table","_law_costs","_law_numbers_here","_law_deep","_law_cost","_law_right_here","_law_some","_law_sides","_law_least_cost","_law_side_here"] ["_law_form_here","_law_rows_here","_law_prices_here","_law_table"] (bQ (iY 45)):=qA
theorem ZM:dB ["_law_form_here","_law_tree_here","_law_deep"] ["_law_form_here","_law_tree_here","_law_deep"] (bQ (iY 46)):=qA
theorem ZL:dB ["_law_table","_law_one","_law_number"] ["_law_table"] (bQ (iY 47)):=qA
theorem ZK:dB ["_law_form_here","_law_rows_here","_law_deep","_law_prices_here","_law_found","_law_tree_here","_law_cost","_law_table"] ["_law_form_here","_law_rows_here","_law_deep","_law_prices_here","_law_found"] (bQ (iY 48)):=qA
theorem Q8:dB ["_law_script","_law_tape_here","_law_fields","_law_values","_law_many","_law_deep","_law_form_here","_law_rows_here","_law_prices_here","_law_handed","_law_found","_law_tree_here","_law_cost","_law_again"] ["_law_script"] (bQ (iY 49)):=qA
section
variable {P:bF} {w:World} {K:aD} {mg:Str->Option Value} {base:Heap} {a_0 a_1 a_2 a_3 a_4 a_5 a_6 a_7 a_8 a_9 a_10 a_11 a_12 a_13 a_14 a_15 a_16 a_17 a_18 a_19 a_20 a_21 a_22 a_23 a_24 a_25 a_26 a_27 a_28 a_29 a_30 a_31 a_32 a_33 a_34 a_35 a_36 a_37 a_38 a_39 a_40 a_law:Addr} {f_0 f_1 f_2 f_3 f_4 f_5 f_6 f_7 f_8 f_9 f_10 f_11 f_12 f_13 f_14 f_15 f_16 f_17 f_18 f_19 f_20 f_21 f_22 f_23 f_24 f_25 f_26 f_27 f_28 f_29 f_30 f_31 f_32 f_33 f_34 f_35 f_36 f_37 f_38 f_39 f_40 f_law:dI} {c_RowSets:Addr} {t_SIDES:Addr} {t_MOST_SETS:Tok} (T:Txt K mg a_0 a_1 a_2 a_3 a_4 a_5 a_6 a_7 a_8 a_9 a_10 a_11 a_12 a_13 a_14 a_15 a_16 a_17 a_18 a_19 a_20 a_21 a_22 a_23 a_24 a_25 a_26 a_27 a_28 a_29 a_30 a_31 a_32 a_33 a_34 a_35 a_36 a_37 a_38 a_39 a_40 a_law f_0 f_1 f_2 f_3 f_4 f_5 f_6 f_7 f_8 f_9 f_10 f_11 f_12 f_13 f_14 f_15 f_16 f_17 f_18 f_19 f_20 f_21 f_22 f_23 f_24 f_25 f_26 f_27 f_28 f_29 f_30 f_31 f_32 f_33 f_34 f_35 f_36 f_37 f_38 f_39 f_40 f_law c_RowSets t_SIDES t_MOST_SETS)
include T
theorem aI9:cL P w K mg base fP 1 a_3 f_3 ["form","rows"] (lM K aBw):=by
 refine fnF T.D_3.F aEz (λds Q h=>by obtain ⟨fs,an,rs,rfl,F,hok,hrl,h⟩:=h;rfl) λcdv Ar outer s H E hr ds Q h=>?_
 obtain ⟨fs,an,rs,rfl,F,hok,hrl,h⟩:=h
 have nd:=aEz.nd
 refine ⟨_,(bW (ss 2 nd (el (fr:=[none]) (N':=["row"]) (fT (aK 1)) (λb=>⟨(dY (pk 0)),jA,(cH bI dE (aK 0) aM)⟩)))
 (cA (LL (fl (fr:=[none,some 2]) (N':=["answer","told"]) (fT (cH bI dE (aK 0) aM)) (λb=>⟨(dY (pk 0)),jA,(DX (aK 1) (aC (aK 0) aS) (λh ha=>nC dG EB D9 (DG hr) h ha))⟩))))),?_⟩
 show jI _ _ _ [.val (fX fs an),.val (.list (rs.map fR)),.un]
 have a4:=F.a4
 refine eI (.list (rs.map λr=>aP r.2)) (λq hq=>?_) ?_
 ·refine iP (ts:=rs.map fR) (λR h=>⟨_,rfl,_,rfl,h⟩) aIu (by rw [aB];omega) (λx q hx hq=>?_) ?_
  ·obtain ⟨r,hr,rfl⟩:=aQ.mp hx
   exact ⟨_,rfl,_,rfl,hq⟩
  ·rw [bG];exact hq
 have ll:=HD (ys:=rs.map λr=>r.2) λy hy=>by
  obtain ⟨r,hr,rfl⟩:=aQ.mp hy
  exact F.an.2.1 _ (hok r hr).2
 rw [bG] at ll
 refine T2 (iP (ts:=an.map aP) (λR h=>⟨_,rfl,_,rfl,_,rfl,h⟩) (YA rs) (by rw [aB];omega) (λx q hx hq=>?_) ?_)
 ·obtain ⟨a,ha,rfl⟩:=aQ.mp hx
  have hA:=kQ (F.an.2.1 a ha) (n:=8) (m:=0) (aL _)
  refine ⟨_,rfl,_,rfl,_,rfl,_,rfl,⟨ll.1,hA.lay,by have:=hA.depth;omega⟩,?_⟩
  rw [AW];exact hq
 ·show Q _
  have e:(an.map aP).map (YA rs)=(nU an rs).map aO:=by
   unfold nU
   rw [bG,bG];rfl
  rw [e];exact h

theorem aI8
  (F_3:cL P w K mg base fP 1 a_3 f_3 ["form","rows"] (lM K aBw)):cL P w K mg base fP 2 a_4 f_4 ["form","rows"] (bX K aEr):=by
 refine xC T.D_4.F aEy (λds Q h=>by obtain ⟨fs,an,rs,rfl,F,hok,hrl,h⟩:=h;rfl) λcdv Ar outer s H E hr ds Q h=>?_
 obtain ⟨fs,an,rs,rfl,F,hok,hrl,h⟩:=h
 have nd:=aEy.nd
 refine ⟨_,(bW (ss 2 nd (MW (cF F_3 T.D_3 hr (aC (aK 0) (aC (aK 1) aS)))))
 (cA (dJ (cH bI dE (cH bI dE (aK 0) aM) (DW (aK 2) (aC (cB UQ (aC (aK 2) aS) (pV rfl) T.b_max KM) aS) (λh ha=>nC dG EA D8 (DF hr) h ha)))))),?_⟩
 show jI _ _ _ [.val (fX fs an),.val (.list (rs.map fR)),.un]
 have a2:=F.a2
 refine eI (.list ((nU an rs).map aO)) (λq hq=>⟨_,rfl,_,rfl,fs,an,rs,rfl,F,hok,hrl,hq⟩) ?_
 have hne:nU an rs≠[]:=λz=>by
  have:=congrArg iG z
  unfold nU at this
  rw [aB] at this
  simp at this
  rw [this] at a2
  simp at a2
 refine ⟨_,rfl,_,rfl,_,rfl,_,rfl,_,rfl,_,rfl,hne,λm hm hmax=>?_⟩
 obtain ⟨j,hj,hno⟩:=HJ (nU an rs) m hm
 have hjl:=(aG.mp hj).1
 have hal:(nU an rs).length=an.length:=by unfold nU;rw [aB]
 have a4:=F.a4
 have haj:an[j]?=some an[j]:=aH (by omega)
 have hcj:(nU an rs)[j]?=some ((zF rs an[j]:Nat):Int):=by unfold nU;rw [aI,haj];rfl
 rw [hj] at hcj
 have em:m=((zF rs an[j]:Nat):Int):=Option.some.inj hcj
 refine ⟨_,j,rfl,OA hj hno,by omega,_,L2.gJ (by rw [aI,haj];rfl),h _ ⟨j,haj,λi b hb=>?_,λi b hi hb=>?_⟩⟩
 ·have:=hmax ((zF rs b:Nat):Int) (aV (i:=i) (by unfold nU;rw [aI,hb];rfl))
  omega
 ·have hcb:(nU an rs)[i]?=some ((zF rs b:Nat):Int):=by unfold nU;rw [aI,hb];rfl
  have h1:=hmax _ (aV hcb)
  have h2:((zF rs b:Nat):Int)≠m:=λz=>hno i hi (by rw [hcb,z])
  omega

theorem aI6:cL P w K mg base fP 1 a_6 f_6 ["field"] (lM K aEp):=by
 refine fnF T.D_6.F aEw (λds Q h=>by obtain ⟨f,rfl,h2,h5,h⟩:=h;rfl) λcdv Ar outer s H E hr ds Q h=>?_
 obtain ⟨f,rfl,h2,h5,h⟩:=h
 have nd:=aEw.nd
 refine ⟨_,(bW (ss 1 nd (cH bI dE (aK 0) aM))
 (bW (ss 2 nd (cH bI dE (aK 0) aM))
 (bW (ss 3 nd (zD (dO iI kZ (cB iV (aC (aK 2) aS) cX T.b_len gO) aM) (lG pO CL (aK 2) nS (mF aM)) (aK 2)))
 (bW (ss 4 nd (lG pO CL (aK 2) (mF aM) (mF (FJ aM))))
 (cA (LL (aDa (el (fr:=[none,some 1]) (N':=["value","name"]) (fT (aK 3)) (λb=>⟨(dY (pk 0)),jA,(dZ (aC gB (aC (aK 1) (aC (aK 0) aS))))⟩)) (el (fr:=[none,some 1]) (N':=["value","name"]) (fT (aK 4)) (λb=>⟨(dY (pk 0)),jA,(dZ (aC gB (aC (aK 1) (aC (aK 0) aS))))⟩))))))))),?_⟩
 show jI _ _ _ [.val (jT f),.un,.un,.un,.un]
 refine eI (.str f.1) (λq hq=>⟨_,rfl,_,rfl,hq⟩) ?_
 refine eI (.tuple (f.2.map aP)) (λq hq=>⟨_,rfl,_,rfl,hq⟩) ?_
 refine eI (.tuple ((sN f).map aP)) (λq hq=>⟨_,rfl,?_⟩) ?_
 ·show (if decide (((f.2.map aP).length:Int)=2)=true then _ else _)
  unfold sN at hq
  rw [aB]
  by_cases e:f.2.length=2
  ·rw [if_pos (decide_eq_true (by omega))]
   rw [if_pos e] at hq
   refine ⟨_,rfl,?_⟩
   show q (.tuple (mJ (f.2.map aP) none (some 1)))
   rw [tY,M4 _ h2];exact hq
  ·rw [if_neg (by simpa using (by omega:¬ (f.2.length:Int)=2))]
   rw [if_neg e] at hq
   exact ⟨_,rfl,hq⟩
 refine eI (.tuple ((wN f).map aP)) (λq hq=>⟨_,rfl,?_⟩) ?_
 ·show q (.tuple (mJ (f.2.map aP) (some 1) (some (-2))))
  rw [tY,X8 _ h2];exact hq
 have s5:(sN f).length<=5:=by
  unfold sN
  split
  ·rw [bC];omega
  ·omega
 have m5:(wN f).length<=5:=by
  unfold wN
  rw [bC,fD];omega
 dsimp only [aAg,aAw]
 refine iP (ts:=(sN f).map aP) (λR h=>⟨_,rfl,_,rfl,h⟩) (λx=>.tuple [.str "is",.str f.1,x]) (by rw [aB];omega) (λx q hx hq=>⟨_,rfl,_,rfl,aE rfl,hq⟩) ?_
 refine iP (ts:=(wN f).map aP) (λR h=>⟨_,rfl,_,rfl,h⟩) (λx=>.tuple [.str "upto",.str f.1,x]) (by rw [aB];omega) (λx q hx hq=>⟨_,rfl,_,rfl,aE rfl,hq⟩) ?_
 refine ⟨_,_,rfl,rfl,by simp only [aB];omega,?_⟩
 rw [bG,bG]
 exact h

theorem aI7
  (F_6:cL P w K mg base fP 1 a_6 f_6 ["field"] (lM K aEp)):cL P w K mg base fP 2 a_5 f_5 ["form"] (lM K aEq):=by
 refine fnF T.D_5.F aEx (λds Q h=>by obtain ⟨fs,an,rfl,F,h⟩:=h;rfl) λcdv Ar outer s H E hr ds Q h=>?_
 obtain ⟨fs,an,rfl,F,h⟩:=h
 have nd:=aEx.nd
 refine ⟨_,(bW (so 1 nd aS)
 (bW (sf (fT (cH bI dE (aK 0) aM)) (dY (pn 2 nd))
 (cA (LM (i:=1) (pv 1) (MW (cF F_6 T.D_6 hr (aC (aK 2) aS))) (pb:=λh=>pD (nC dG CY CW MD (pv 1) h)))))
 (cA (NS (pv 1))))),?_⟩
 show jI _ _ _ [.val (fX fs an),.un,.un]
 have n5:=F.n5
 refine qV [] (by decide) (λq hq=>hq) ?_
 refine jP (ts:=fs.map jT) (λR h=>⟨_,rfl,_,rfl,_,rfl,h⟩)
  (λk σ=>∃ s2:Sl,σ=[.val (fX fs an),.own (fH (fs.take k)),s2]) ⟨_,rfl⟩ (λk x σ' hx hP=>?_) λσ' hP=>?_
 ·obtain ⟨s2,rfl⟩:=hP
  rw [aI] at hx
  obtain ⟨f,hfk,rfl⟩:=bU.mp hx
  have hf:f∈fs:=aV hfk
  obtain ⟨v2,v5,hvv⟩:=F.vs f hf
  have hcl:=jU F (fs.take k) λg hg=>fV hg
  have hkl:(fs.take k).length<=5:=by rw [bC];omega
  have hql:(F4 f).length<=10:=by
   unfold F4 sN wN
   rw [bL,aB,aB,bC,fD]
   split
   ·rw [bC];omega
   ·omega
  refine G5 (ts:=fH (fs.take k)) (us:=F4 f) rfl (by omega) (λq hq=>⟨_,rfl,f,rfl,v2,v5,hq⟩) ⟨.val (jT f),?_⟩
  have e:fH (fs.take (k+1))=fH (fs.take k)++F4 f:=by
   unfold fH
   rw [dM,hfk,bT,PV]
   show _++[F4 f].flatten=_
   rw [IM]
  rw [e];rfl
 ·obtain ⟨s2,rfl⟩:=hP
  rw [aB,dR]
  exact ⟨_,rfl,h⟩

theorem aI5
  (F_5:cL P w K mg base fP 2 a_5 f_5 ["form"] (lM K aEq)):cL P w K mg base fP 3 a_7 f_7 ["form"] (bX K aEo):=by
 refine xC T.D_7.F aEv (λds Q h=>by obtain ⟨fs,an,rfl,F,h⟩:=h;rfl) λcdv Ar outer s H E hr ds Q h=>?_
 obtain ⟨fs,an,rfl,F,h⟩:=h
 have nd:=aEv.nd
 refine ⟨_,(bW (so 1 nd aS)
 (bW (sf (fT (MW (cF F_5 T.D_5 hr (aC (aK 0) aS)))) (dY (pn 2 nd))
 (cA (LM (i:=1) (pv 1) (el (fr:=[none,some 2]) (N':=["stray","question"]) (fT (XW rfl T.c_SIDES T.t_SIDES)) (λb=>⟨(dY (pk 0)),jA,(dZ (aC (aK 1) (aC (aK 0) aS)))⟩)) (pb:=λh=>pD (nC dG CY CW MD (pv 1) h)))))
 (rZ 1 (cA (dJ (aK 1)))))),?_⟩
 show jI _ _ _ [.val (fX fs an),.un,.un]
 have n5:=F.n5
 have hcl:=jU F fs λg hg=>hg
 have hql:(qs fs).length=(fH fs).length:=by rw [<- qX,aB]
 refine qV [] (by decide) (λq hq=>hq) ?_
 refine jP (ts:=(qs fs).map qD) (λR h=>⟨_,rfl,fs,an,rfl,F,_,rfl,by rw [<- qX];exact h⟩)
  (λk σ=>∃ s2:Sl,σ=[.val (fX fs an),.own ((((qs fs).take k).flatMap uJ).map YB),s2]) ⟨_,rfl⟩ (λk x σ' hx hP=>?_) λσ' hP=>?_
 ·obtain ⟨s2,rfl⟩:=hP
  rw [aI] at hx
  obtain ⟨q,hqk,rfl⟩:=bU.mp hx
  have hlen:((((qs fs).take k).flatMap uJ).map YB).length=2*((qs fs).take k).length:=by
   rw [aB]
   generalize (qs fs).take k=l
   induction l with
   | nil=>rfl
   | cons x l ih=>rw [zN,bL,ih,cI];show 2+_=_;omega
  have hk2:((qs fs).take k).length<=50:=by rw [bC];omega
  refine G5 (us:=[YB (q,"yes"),YB (q,"no")]) rfl (by rw [hlen];show _+2<=_;omega) (λr hr=>?_) ⟨.val (qD q),?_⟩
  ·refine iP (ts:=[.str "yes",.str "no"]) (λR h=>⟨_,rfl,h⟩) (λx=>.tuple [qD q,x]) (by decide) (λx r' hx hr'=>⟨_,rfl,_,rfl,(aE rfl),hr'⟩) hr
  ·rw [dM,hqk]
   show _=[_,Sl.own (((((qs fs).take k)++[q]).flatMap uJ).map YB),_]
   rw [PX,bT];rfl
 ·obtain ⟨s2,rfl⟩:=hP
  rw [aB,dR]
  exact ⟨_,rfl,_,rfl,h⟩

theorem aGi:cL P w K mg base fP 1 a_11 f_11 ["question","field"] (bX K ZI):=by
 refine xC T.D_11.F aAd (λds Q h=>by obtain ⟨k,n,v,f,rfl,hn,hv,hl,h⟩:=h;rfl) λcdv Ar outer s H E hr ds Q h=>?_
 obtain ⟨k,n,v,f,rfl,hn,hv,hl,h⟩:=h
 have nd:=aAd.nd
 refine ⟨_,(bW (iM (dO iI kZ (cH bI dE (aK 0) aM) gB)
 (cA (dJ (dZ (aC (cH bI dE (aK 0) aM) aS))))
 gW)
 (cA (dJ (lG pO CL (cH bI dE (aK 1) aM) nS (mF (dD dC iB (xE (cH bI dE (aK 1) aM) (aC (cH bI dE (aK 0) aM) aS) (λh ha=>nC lJ lI lH (wX hr) h ha)) aM)))))),?_⟩
 show jI _ _ _ [.val (.tuple [.str k,.str n,.str v]),.val (jT f)]
 unfold BL at h
 refine iA (λb=>b=decide (k="is")) (λq hq=>⟨_,rfl,_,rfl,hq _ rfl⟩) (λhT=>?_) λhF=>?_
 ·rw [if_pos (of_decide_eq_true hT.symm)] at h
  exact ⟨_,rfl,_,rfl,aE rfl,h⟩
 ·try unfold kB
  dsimp only
  rw [if_neg (of_decide_eq_false hF.symm)] at h
  refine ⟨_,rfl,_,rfl,_,rfl,_,rfl,_,rfl,_,rfl,_,rfl,_,_,rfl,qH hn hv,?_⟩
  show Q (.tuple (mJ (f.2.map aP) none (some ((f.2.idxOf v:Int)+1))))
  have e:((f.2.idxOf v:Nat):Int)+1=((f.2.idxOf v+1:Nat):Int):=rfl
  rw [e,tY,BW];exact h

theorem aI3:cL P w K mg base fP 1 a_9 f_9 ["form","question"] (bX K aEn):=by
 refine xC T.D_9.F aEt (λds Q h=>by obtain ⟨fs,an,k,n,v,f0,j,rfl,F,hj,hfn,h⟩:=h;rfl) λcdv Ar outer s H E hr ds Q h=>?_
 obtain ⟨fs,an,k,n,v,f0,j,rfl,F,hj,hfn,h⟩:=h
 have nd:=aEt.nd
 refine ⟨_,(cA (dJ (DW (el (fr:=[none]) (N':=["field"]) (fT (cH bI dE (aK 0) aM)) (λb=>⟨(dY (pk 0)),jA,(cH bI dE (aK 0) aM)⟩)) (aC (cH bI dE (aK 1) aM) aS) (λh ha=>nC dG EA D8 (DF hr) h ha)))),?_⟩
 have n5:=F.n5
 have hjl:=(aG.mp hj).1
 have ej:(fs.map (·.1)).idxOf n=j:=by rw [<- hfn];exact AI F hj
 have hnm:n∈fs.map (·.1):=aQ.mpr ⟨f0,aV hj,hfn⟩
 show FK _ _ _ Q
 dsimp only [FK]
 refine iP (ts:=fs.map jT) (λR h=>⟨_,rfl,_,rfl,_,rfl,h⟩) fst (by rw [aB];omega) (λx q hx hq=>?_) ?_
 ·obtain ⟨f,hf,rfl⟩:=aQ.mp hx
  exact ⟨_,rfl,_,rfl,hq⟩
 ·have e:(fs.map jT).map fst=(fs.map (·.1)).map aP:=by rw [bG,bG];rfl
  rw [e]
  have:=qH F.nd.2.1 hnm
  rw [ej] at this
  exact ⟨_,rfl,_,rfl,_,rfl,_,j,rfl,this,by omega,h⟩

theorem aGj
  (F_11:cL P w K mg base fP 1 a_11 f_11 ["question","field"] (bX K ZI)):cL P w K mg base fP 2 a_10 f_10 ["question","stray","field"] (bX K ZJ):=by
 refine xC T.D_10.F aAe (λds Q h=>by obtain ⟨k,n,v,st,f,rfl,hn,hv,hl,h⟩:=h;rfl) λcdv Ar outer s H E hr ds Q h=>?_
 obtain ⟨k,n,v,st,f,rfl,hn,hv,hl,h⟩:=h
 have nd:=aAe.nd
 refine ⟨_,(cA (dJ (dD dC iB (cd F_11 T.D_11 hr (aC (aK 0) (aC (aK 2) aS))) (zD (dO iI kZ (aK 1) gB) (dZ (aC BQ aS)) (dZ aS))))),?_⟩
 have hhl:=TU (k:=k) (v:=v) hl
 refine ⟨_,rfl,_,rfl,k,n,v,f,rfl,hn,hv,hl,_,rfl,?_⟩
 unfold uP at h
 show (if decide (st="yes")=true then _ else _)
 by_cases e:st="yes"
 ·rw [if_pos (decide_eq_true e)]
  rw [if_pos e] at h
  exact ⟨aE rfl,by rw [aB];show _+1<=_;omega,h⟩
 ·rw [if_neg (by simpa using e)]
  rw [if_neg e] at h
  exact ⟨aE rfl,by rw [aB];show _+0<=_;omega,h⟩

theorem aI4
  (F_10:cL P w K mg base fP 2 a_10 f_10 ["question","stray","field"] (bX K ZJ))
  (F_9:cL P w K mg base fP 1 a_9 f_9 ["form","question"] (bX K aEn)):cL P w K mg base fP 3 a_8 f_8 ["form","question","stray","case"] (bX K aBv):=by
 refine xC T.D_8.F aEu (λds Q h=>by obtain ⟨fs,an,k,n,v,st,cs,rfl,F,hq,hst,hc,h⟩:=h;rfl) λcdv Ar outer s H E hr ds Q h=>?_
 obtain ⟨fs,an,k,n,v,st,cs,rfl,F,hq,hst,hc,h⟩:=h
 have nd:=aEu.nd
 refine ⟨_,(bW (ss 4 nd (cd F_9 T.D_9 hr (aC (aK 0) (aC (aK 1) aS))))
 (cA (dJ (zD (dO (JO hr) SJ (cH bI dE (aK 3) (aK 4)) (cd F_10 T.D_10 hr (aC (aK 1) (aC (aK 2) (aC (cH bI dE (cH bI dE (aK 0) aM) (aK 4)) aS))))) gB gB)))),?_⟩
 show jI _ _ _ [.val (fX fs an),.val (.tuple [.str k,.str n,.str v]),.val (.str st),.val (.tuple cs),.un]
 obtain ⟨hcl,hcv⟩:=nE hc
 obtain ⟨f0,hf0,hfn,hv0,hk0⟩:=AK hq
 obtain ⟨j,hj⟩:=bZ hf0
 have hjl:=(aG.mp hj).1
 have hcj:cs[j]?=some cs[j]:=aH (by omega)
 generalize hcc:cs[j]=c at hcj
 have hca:L2.atI cs (j:Int)=some c:=L2.gJ hcj
 have hfa:L2.atI (fs.map jT) (j:Int)=some (jT f0):=L2.gJ (by rw [aI,hj];rfl)
 have hok:=hcv j f0 c hj hcj
 rw [sL F hj hcj hfn] at h
 have hcd:Cd c:=by
  cases c with
  | none=>exact (EL (n:=8) (m:=0)).cd (by decide)
  | str z=>exact (kQ (F.vals hf0 z (of_decide_eq_true hok)) (n:=8) (m:=0) (aL _)).cd (by decide)
  | _=>cases hok
 refine eI (.int (j:Int)) (λq hq=>⟨_,rfl,_,rfl,fs,an,k,n,v,f0,j,rfl,F,hj,hfn,hq⟩) ?_
 refine ⟨_,rfl,_,rfl,_,hca,_,rfl,_,rfl,_,rfl,_,rfl,_,rfl,_,hfa,k,n,v,st,f0,rfl,F.vals hf0,hv0,(F.vs f0 hf0).2.1,HL (SH (F.vals hf0) hv0 hcd) ?_⟩
 rw [<- TJ hst hok] at h
 show (if CN c (.tuple (uP k v st f0))=true then _ else _)
 cases hb:CN c (.tuple (uP k v st f0)) with
 | true=>rw [if_pos rfl];rw [hb,if_pos rfl] at h;exact h
 | false=>rw [if_neg (by decide)];rw [hb,if_neg (by decide)] at h;exact h

theorem aGh:cL P w K mg base fP 1 a_12 f_12 ["sides","fewest"] (bX K ZH):=by
 refine xC T.D_12.F aAc (λds Q h=>by obtain ⟨xs,ys,rfl,h⟩:=h;rfl) λcdv Ar outer s H E hr ds Q h=>?_
 obtain ⟨xs,ys,rfl,h⟩:=h
 have nd:=aAc.nd
 refine ⟨_,(cA (dJ (pT (nL L9 rA (cB iV (aC (cH bI dE (aK 0) aM) aS) cX T.b_len gO) (aK 1)) (sU (nL L9 rA (cB iV (aC (cH bI dE (aK 0) aM) aS) cX T.b_len gO) (aK 1)))))),?_⟩
 show WC _ _ [.val (.tuple [fN xs,fN ys]),.val (.int 1)]
 have e:∀ zs:List Nat,decide ((1:Int)<=((zs.map λ(i:Nat)=>aO (i:Int)).length:Int))=!zs.isEmpty:=λzs=>by
  cases zs with
  | nil=>rfl
  | cons z zs=>rw [aB];exact decide_eq_true (by simp only [cI];omega)
 refine ⟨_,rfl,_,rfl,_,rfl,?_⟩
 show (if decide ((1:Int)<=((xs.map λ(i:Nat)=>aO (i:Int)).length:Int))=true then _ else _)
 rw [e xs]
 cases xs with
 | nil=>rw [if_neg (by decide)];exact h
 | cons x xs =>
  rw [if_pos (by rfl)]
  refine ⟨_,rfl,_,rfl,_,rfl,?_⟩
  show Q (.bool (decide ((1:Int)<=((ys.map λ(i:Nat)=>aO (i:Int)).length:Int))))
  rw [e ys];exact h

theorem aGg
  (F_8:cL P w K mg base fP 3 a_8 f_8 ["form","question","stray","case"] (bX K aBv)):cL P w K mg base fP 4 a_13 f_13 ["form","choice","rows"] (bX K ZG):=by
 refine xC T.D_13.F aAb (λds Q h=>by obtain ⟨fs,an,c,rs,rfl,F,hc,hrs,hl,h⟩:=h;rfl) λcdv Ar outer s H E hr ds Q h=>?_
 obtain ⟨fs,an,c,rs,rfl,F,hc,hrs,hl,h⟩:=h
 have nd:=aAb.nd
 refine ⟨_,(cA (dJ (el (fr:=[none,some 0,some 1]) (N':=["row","form","choice"]) (fT (aK 2)) (λb=>⟨(dY (pk 0)),jA,(cd F_8 T.D_8 hr (aC (aK 1) (aC (cH bI dE (aK 2) aM) (aC (cH bI dE (aK 2) aM) (aC (cH bI dE (aK 0) aM) aS)))))⟩)))),?_⟩
 show WC _ _ [.val (fX fs an),.val (YB c),.val (.list (rs.map fR))]
 obtain ⟨hq,hs⟩:=KF hc
 refine iP (ts:=rs.map fR) (λR h=>⟨_,rfl,_,rfl,h⟩) (λx=>match x with | .tuple [.tuple cs,_]=>.str (kW fs c.1.1 c.1.2.1 c.1.2.2 c.2 cs) | _=>.none) (by rw [aB];omega) (λx q' hx hq'=>?_) ?_
 ·obtain ⟨r,hr',rfl⟩:=aQ.mp hx
  exact ⟨_,rfl,_,rfl,_,rfl,_,rfl,_,rfl,_,rfl,_,rfl,fs,an,c.1.1,c.1.2.1,c.1.2.2,c.2,r.1,rfl,F,E1 hq,hs,(hrs r hr').1,hq'⟩
 ·rw [bG];exact h

theorem aJc
  (F_7:cL P w K mg base fP 3 a_7 f_7 ["form"] (bX K aEo))
  (F_13:cL P w K mg base fP 4 a_13 f_13 ["form","choice","rows"] (bX K ZG)):cL P w K mg base fP 5 a_0 f_0 ["self","form","rows","prices"] (wY c_RowSets eQ K aEs):=by
 refine fnI T.D_0.F aE2 (λds Q h=>by obtain ⟨fs,an,rs,a,b,rfl,F,hrs,hl,h⟩:=h;rfl) λcdv Ar outer s H E hr zz ds Q h=>?_
 obtain ⟨fs,an,rs,a,b,rfl,F,hrs,hl,h⟩:=h
 have nd:=aE2.nd
 refine ⟨_,(wV T.C_RowSets T.n_RowSets_form (pv 0) (aK 1)
 (wV T.C_RowSets T.n_RowSets_kept (pv 0) (cY KK (aC (aK 2) aS) rF T.b_list tZ)
 (wV T.C_RowSets T.n_RowSets_slip (pv 0) (cH bI dE (aK 3) aM)
 (wV T.C_RowSets T.n_RowSets_knot (pv 0) (cH bI dE (aK 3) aM)
 (wV T.C_RowSets T.n_RowSets_choices (pv 0) (el (fr:=[none,some 1,some 2]) (N':=["choice","form","rows"]) (fT (cd F_7 T.D_7 hr (aC (aK 1) aS))) (λb=>⟨(dY (pk 0)),jA,(dD dC iB (aK 0) (dZ (aC (cd F_13 T.D_13 hr (aC (aK 1) (aC (aK 0) (aC (aK 2) aS)))) aS)))⟩))
 aCv))))),?_⟩
 show aGs _ _ _ _ _ [.val zz,.val (fX fs an),.val (.list (rs.map fR)),.val (.tuple [.int a,.int b])]
 have n5:=F.n5
 have hcl:=jU F fs λg hg=>hg
 have hch:=AN fs
 refine ⟨_,rfl,(aE rfl),(λz=>nomatch z),_,rfl,(aE rfl),(show ("kept":Str)∉(["form"]:List Str) from by decide +kernel),_,rfl,_,rfl,(aE rfl),(show ("slip":Str)∉(["form","kept"]:List Str) from by decide +kernel),_,rfl,_,rfl,(aE rfl),(show ("knot":Str)∉(["form","kept","slip"]:List Str) from by decide +kernel),?_⟩
 refine iP (ts:=(mR fs).map YB) (λR h=>⟨_,rfl,fs,an,rfl,F,_,rfl,h⟩) (λx=>match x with | .tuple [.tuple [.str k,.str n,.str v],.str s]=>chD fs rs ((k,n,v),s) | _=>.none) (by rw [aB];omega) (λx q' hx hq'=>?_) ?_
 ·obtain ⟨c,hc,rfl⟩:=aQ.mp hx
  exact ⟨_,rfl,_,rfl,_,rfl,_,rfl,fs,an,c,rs,rfl,F,hc,hrs,hl,(aE rfl),(aE rfl),hq'⟩
 ·rw [bG]
  exact ⟨(aE rfl),(show ("choices":Str)∉(["form","kept","slip","knot"]:List Str) from by decide +kernel),rfl,h⟩

theorem aJb
  (F_3:cL P w K mg base fP 1 a_3 f_3 ["form","rows"] (lM K aBw))
  (F_4:cL P w K mg base fP 2 a_4 f_4 ["form","rows"] (bX K aEr)):cL P w K mg base fP 3 a_1 f_1 ["self","numbers"] (bX K (aBy w c_RowSets)):=by
 refine xC T.D_1.F aE1 (λds Q h=>by obtain ⟨fs,an,fa,rs,a,b,ns,rfl,S,hns,h⟩:=h;rfl) λcdv Ar outer s H E hr ds Q h=>?_
 obtain ⟨fs,an,fa,rs,a,b,ns,rfl,S,hns,h⟩:=h
 have nd:=aE1.nd
 refine ⟨_,(bW (A0 (i:=2) (fr:=[none,some 0]) (N':=["number","self"]) (fT (aK 1)) (λb=>⟨(dY (pk 0)),jA,(cH bI dE (yE (K:=K) rfl (aK 1)) (aK 0))⟩) (λhi hY=>xX (show uT _ (bQ (vH (iY 17) 1)) ["self","numbers","rows","slips"] ["number","self"] [none,some 0]=true from by decide +kernel) nd rfl (by first | exact Or.inl rfl | exact Or.inr rfl) rfl hi hY rfl))
 (bW (ss 3 nd (dD mG wT (cB iV (aC (aK 2) aS) cX T.b_len gO) (cB UQ (aC (MW (cF F_3 T.D_3 hr (aC (yE (K:=K) rfl (aK 0)) (aC (aK 2) aS)))) aS) (pV rfl) T.b_max KM)))
 (cA (dJ (dZ (aC (dD gZ oI (yE (K:=K) rfl (aK 0)) (aK 3)) (aC (dZ (aC gB (aC (cd F_4 T.D_4 hr (aC (yE (K:=K) rfl (aK 0)) (aC (aK 2) aS))) aS))) aS))))))),?_⟩
 show jI _ _ _ [.val (nA c_RowSets fs an rs a b),.val (fN ns),.un,.un]
 have hlt:∀ i∈ns,i<rs.length:=λi hi=>hns.lt hi
 have hR:=LS S.R ns
 have hl:=S.l
 have hnl:=hns.len
 have hrl:(bJ rs ns).length<=60:=by rw [A6 hlt];omega
 refine eI (.list ((bJ rs ns).map fR)) (λq hq=>?_) ?_
 ·refine iP (ts:=ns.map λ(i:Nat)=>aO (i:Int)) (λR h=>⟨_,rfl,_,rfl,h⟩) (RG rs) (by rw [aB];omega) (λx q' hx hq'=>?_) (by rw [LT hlt];exact hq)
  obtain ⟨i,hi,rfl⟩:=aQ.mp hx
  have er:rs[i]?=some (rs[i]'(hlt i hi)):=aH (hlt i hi)
  refine ⟨_,rfl,c_RowSets,eQ,_,_,rfl,T.C_RowSets,T.n_RowSets_kept,(DH _ _ _ _ _).2.1,_,rfl,_,L2.gJ (v:=fR (rs[i]'(hlt i hi))) (by rw [aI,er];rfl),?_⟩
  have e:RG rs (.int (i:Int))=fR (rs[i]'(hlt i hi)):=by
   show (match L2.atI rs (i:Int) with | some r=>fR r | none=>uE)=_
   rw [L2.gJ er]
  rw [e] at hq';exact hq'
 have hf:=S.fa _ hR
 have ho:=AF (bJ rs ns) (fa (bJ rs ns))
 refine eI (.int (jK fs (.say (fa (bJ rs ns))) (bJ rs ns):Nat)) (λq hq=>?_) ?_
 ·refine ⟨_,rfl,_,rfl,c_RowSets,eQ,_,_,rfl,T.C_RowSets,T.n_RowSets_form,(DH _ _ _ _ _).1,_,rfl,fs,an,bJ rs ns,rfl,S.F,hR,hrl,nU an (bJ rs ns),rfl,?_,λm hm hx=>?_⟩
  ·intro z
   have a2:=S.F.a2
   have:=congrArg iG z
   unfold nU at this
   rw [aB,oC] at this
   omega
  ·rw [ME hf hm hx]
   show q (.int (((((bJ rs ns).map fR).length:Nat):Int)-_))
   rw [sJ] at hq
   have e:((((bJ rs ns).map fR).length:Nat):Int)-(zF (bJ rs ns) (fa (bJ rs ns)):Int)=((G0 (bJ rs ns) (fa (bJ rs ns)):Nat):Int):=by rw [aB];omega
   rw [e];exact hq
 have hs:=sJ (fs:=fs) (bJ rs ns) (fa (bJ rs ns))
 have a0:=S.a0
 have a1:=S.a1
 refine ⟨_,rfl,c_RowSets,eQ,_,_,rfl,T.C_RowSets,T.n_RowSets_slip,(DH _ _ _ _ _).2.2.1,_,rfl,.inl ⟨by omega,by omega⟩,_,rfl,c_RowSets,eQ,_,_,rfl,T.C_RowSets,T.n_RowSets_form,(DH _ _ _ _ _).1,_,rfl,fs,an,bJ rs ns,rfl,S.F,hR,hrl,λz hz=>?_⟩
 rw [hz.uniq hf]
 exact ⟨(aE rfl),(aE rfl),h⟩

theorem aJa
  (F_12:cL P w K mg base fP 1 a_12 f_12 ["sides","fewest"] (bX K ZH)):cL P w K mg base fP 2 a_2 f_2 ["self","numbers"] (bX K (aBx w c_RowSets)):=by
 refine xC T.D_2.F aE0 (λds Q h=>by obtain ⟨fs,an,fa,rs,a,b,ns,rfl,S,hns,h⟩:=h;rfl) λcdv Ar outer s H E hr ds Q h=>?_
 obtain ⟨fs,an,fa,rs,a,b,ns,rfl,S,hns,h⟩:=h
 have nd:=aE0.nd
 refine ⟨_,(bW (so 2 nd aS)
 (bW (sf (fT (yE (K:=K) rfl (aK 0))) (tU (nJ rfl (dX (pn 3 nd) (dX (pn 4 nd) (dX (pn 5 nd) lL)))))
 (bW (ss 6 nd (cY rG (aC (el (fr:=[none,some 5]) (N':=["number","sides"]) (fT (aK 1)) (λb=>⟨(dY (pk 0)),(J5 (dO iI kZ (cH bI dE (aK 1) (aK 0)) gB)),(aK 0)⟩)) aS) jB T.b_tuple iW))
 (bW (ss 7 nd (cY rG (aC (el (fr:=[none,some 5]) (N':=["number","sides"]) (fT (aK 1)) (λb=>⟨(dY (pk 0)),(J5 (dO iI kZ (cH bI dE (aK 1) (aK 0)) gB)),(aK 0)⟩)) aS) jB T.b_tuple iW))
 (cA (iM (tv (cd F_12 T.D_12 hr (aC (dZ (aC (aK 6) (aC (aK 7) aS))) (aC aM aS))))
 (cA (A1 (i:=2) (pv 2) (dZ (aC (aK 3) (aC (aK 4) (aC (aK 6) (aC (aK 7) aS))))) (pb:=λh=>pD (nC dG hW hV mX (pv 2) h))))
 gW)))))
 (rZ 2 (cA (dJ (aK 2)))))),?_⟩
 show jI _ _ _ [.val (nA c_RowSets fs an rs a b),.val (fN ns),.un,.un,.un,.un,.un,.un]
 have hlt:∀ i∈ns,i<rs.length:=λi hi=>hns.lt hi
 have hl:=S.l
 have hnl:=hns.len
 have n5:=S.F.n5
 have hcl:=jU S.F fs λg hg=>hg
 have hch:=AN fs
 refine qV [] (by decide) (λq hq=>hq) ?_
 refine jP (ts:=(mR fs).map (chD fs rs)) (λR h=>⟨_,rfl,c_RowSets,eQ,_,_,rfl,T.C_RowSets,T.n_RowSets_choices,(DH _ _ _ _ _).2.2.2.2,_,rfl,h⟩)
  (λk σ=>∃ s3 s4 s5 s6 s7:Sl,σ=[.val (nA c_RowSets fs an rs a b),.val (fN ns),.own ((((mR fs).take k).filter (eJ fs (bJ rs ns))).map (N1 fs rs ns)),s3,s4,s5,s6,s7]) ⟨_,_,_,_,_,rfl⟩ (λk x σ' hx hP=>?_) λσ' hP=>?_
 ·obtain ⟨s3,s4,s5,s6,s7,rfl⟩:=hP
  rw [aI] at hx
  obtain ⟨c,hck,rfl⟩:=bU.mp hx
  have hc:c∈mR fs:=aV hck
  obtain ⟨w1,w2⟩:=Q4 S.F hc S.R hlt
  have sat:∀ x∈ns.map (λ(i:Nat)=>aO (i:Int)),∃ (i:Nat) (r:Rw),x=.int (i:Int)/\rs[i]?=some r:=λx hx=>by
   obtain ⟨i,hi,rfl⟩:=aQ.mp hx
   exact ⟨i,_,rfl,aH (hlt i hi)⟩
  refine ⟨_,_,_,rfl,?_⟩
  refine eI (fN (yN fs rs c ns)) (λq hq=>?_) ?_
  ·dsimp only [mS,B5]
   refine BI (ts:=ns.map λ(i:Nat)=>aO (i:Int)) (λR h=>⟨_,rfl,_,rfl,h⟩) (yA fs c.1.1 c.1.2.1 c.1.2.2 c.2 rs "yes") id (by rw [aB];omega) (λx q' hx hq'=>by
    obtain ⟨i,r,rfl,er⟩:=sat x hx
    rw [DB er] at hq'
    exact ⟨_,rfl,_,rfl,_,L2.gJ (v:=aP (kW fs c.1.1 c.1.2.1 c.1.2.2 c.2 r.1)) (by rw [aI,er];rfl),hq'⟩) (λx q' hx hq'=>⟨_,rfl,hq'⟩) ?_
   rw [w1,vA];exact hq
  refine eI (fN (nN fs rs c ns)) (λq hq=>?_) ?_
  ·dsimp only [mS,B5]
   refine BI (ts:=ns.map λ(i:Nat)=>aO (i:Int)) (λR h=>⟨_,rfl,_,rfl,h⟩) (yA fs c.1.1 c.1.2.1 c.1.2.2 c.2 rs "no") id (by rw [aB];omega) (λx q' hx hq'=>by
    obtain ⟨i,r,rfl,er⟩:=sat x hx
    rw [DB er] at hq'
    exact ⟨_,rfl,_,rfl,_,L2.gJ (v:=aP (kW fs c.1.1 c.1.2.1 c.1.2.2 c.2 r.1)) (by rw [aI,er];rfl),hq'⟩) (λx q' hx hq'=>⟨_,rfl,hq'⟩) ?_
   rw [w2,vA];exact hq
  have hp:=GY (fs:=fs) (c:=c) hlt
  have hlen:((((mR fs).take k).filter (eJ fs (bJ rs ns))).map (N1 fs rs ns)).length<=100:=by
   have h1:=eK (eJ fs (bJ rs ns)) ((mR fs).take k)
   have h2:((mR fs).take k).length<=(mR fs).length:=by rw [bC];omega
   rw [aB];omega
  have et:(mR fs).take (k+1)=(mR fs).take k++[c]:=by rw [dM,hck];rfl
  refine nK (λt=>t=eJ fs (bJ rs ns) c) (λq hq=>⟨_,rfl,_,rfl,(aE rfl),yN fs rs c ns,nN fs rs c ns,rfl,hq _ hp.symm⟩) (λht=>?_) λhf=>?_
  ·refine wR (N1 fs rs ns c) rfl (by omega) (λq hq=>⟨_,rfl,_,rfl,_,rfl,_,rfl,(aE rfl),hq⟩) ⟨.val (qD c.1),.val (.str c.2),.val (V4 fs rs c),.val (fN (yN fs rs c ns)),.val (fN (nN fs rs c ns)),?_⟩
   rw [et,gM,bT,bK,if_pos ht.symm];rfl
  ·refine ⟨.val (qD c.1),.val (.str c.2),.val (V4 fs rs c),.val (fN (yN fs rs c ns)),.val (fN (nN fs rs c ns)),?_⟩
   rw [et,gM,bT,bK,if_neg (by rw [<- hf];decide)]
   show _=[_,_,Sl.own (_++[]),_,_,_,_,_]
   rw [fA];rfl
 ·obtain ⟨s3,s4,s5,s6,s7,rfl⟩:=hP
  rw [aB,dR]
  exact ⟨_,rfl,_,rfl,h⟩

theorem aGa
  (F_1:cL P w K mg base fP 3 a_1 f_1 ["self","numbers"] (bX K (aBy w c_RowSets))):cL P w K mg base fP 4 a_19 f_19 ["sets","known","numbers","deep"] (bX K (Q3 w c_RowSets)):=by
 refine xC T.D_19.F Z5 (λds Q h=>by obtain ⟨fs,an,fa,rs,a,b,kvs,ns,d,rfl,S,hns,hok,hin,h⟩:=h;rfl) λcdv Ar outer s H E hr ds Q h=>?_
 obtain ⟨fs,an,fa,rs,a,b,kvs,ns,d,rfl,S,hns,hok,hin,h⟩:=h
 have nd:=Z5.nd
 refine ⟨_,(cA (dJ (zD (dO yV rA (aK 3) aM) (xF (w:=w) rfl hr.u9 (aK 1) (dZ (aC (aK 2) (aC (aK 3) aS)))) (xD (aK 0) (aC (aK 2) aS) (λh ha=>AD h T.C_RowSets T.M_1 F_1 (hr.mono (by decide)) T.D_1.d .nil sQ ha))))),?_⟩
 show WC _ _ [.val (nA c_RowSets fs an rs a b),.val (lY w kvs),.val (fN ns),.val (.int (d:Nat))]
 refine ⟨_,rfl,?_⟩
 show (if decide ((0:Int)<((d:Nat):Int))=true then _ else _)
 by_cases hd:d=0
 ·subst hd
  rw [if_neg (by decide)]
  exact ⟨_,rfl,eQ,_,rfl,LD,_,rfl,fs,an,fa,rs,a,b,ns,rfl,S,hns,h⟩
 ·rw [if_pos (decide_eq_true (by omega))]
  exact ⟨_,rfl,_,rfl,_,rfl,(aE rfl),kvs,rfl,kR ns d,hok,_,hin.resolve_left hd,h⟩

theorem aGb
  (F_1:cL P w K mg base fP 3 a_1 f_1 ["self","numbers"] (bX K (aBy w c_RowSets)))
  (F_2:cL P w K mg base fP 2 a_2 f_2 ["self","numbers"] (bX K (aBx w c_RowSets)))
  (F_19:cL P w K mg base fP 4 a_19 f_19 ["sets","known","numbers","deep"] (bX K (Q3 w c_RowSets))):cL P w K mg base fP 5 a_18 f_18 ["sets","known","numbers","deep"] (bX K (ZB w c_RowSets)):=by
 refine xC T.D_18.F Z6 (λds Q h=>by obtain ⟨fs,an,fa,rs,a,b,kvs,ns,d,rfl,S,hns,hok,hin,h⟩:=h;rfl) λcdv Ar outer s H E hr ds Q h=>?_
 obtain ⟨fs,an,fa,rs,a,b,kvs,ns,d,rfl,S,hns,hok,hin,h⟩:=h
 have nd:=Z6.nd
 refine ⟨_,(bW (ss 4 nd (xD (aK 0) (aC (aK 2) aS) (λh ha=>AD h T.C_RowSets T.M_1 F_1 (hr.mono (by decide)) T.D_1.d .nil sQ ha)))
 (bW (sf (fT (xD (aK 0) (aC (aK 2) aS) (λh ha=>AD h T.C_RowSets T.M_2 F_2 (hr.mono (by decide)) T.D_2.d .nil sQ ha))) (MQ (nJ rfl (dX (pn 5 nd) (dX (pn 6 nd) (dX (pn 7 nd) (dX (pn 8 nd) lL))))))
 (bW (ss 9 nd (cd F_19 T.D_19 hr (aC (aK 0) (aC (aK 1) (aC (aK 7) (aC (dD mG wT (aK 3) aM) aS))))))
 (bW (ss 10 nd (cd F_19 T.D_19 hr (aC (aK 0) (aC (aK 1) (aC (aK 8) (aC (dD mG wT (aK 3) aM) aS))))))
 (bW (ss 11 nd (dD dC iB (dD dC iB (yE (K:=K) rfl (aK 0)) (cH bI dE (aK 9) aM)) (cH bI dE (aK 10) aM)))
 (cA (iM (dO G4 rA (aK 11) (cH bI dE (aK 4) aM))
 (cA (ss 4 nd (dZ (aC (aK 11) (aC (dZ (aC gB (aC (aK 5) (aC (aK 6) (aC (cH bI dE (aK 9) aM) (aC (cH bI dE (aK 10) aM) aS)))))) aS)))))
 gW))))))
 (cA (dJ (aK 4))))),?_⟩
 show jI _ _ _ [.val (nA c_RowSets fs an rs a b),.val (lY w kvs),.val (fN ns),.val (.int ((d+1:Nat):Int)),.un,.un,.un,.un,.un,.un,.un,.un]
 have hlt:∀ i∈ns,i<rs.length:=λi hi=>hns.lt hi
 refine eI (mE (nD fs fa a (bJ rs ns))) (λq hq=>⟨_,rfl,eQ,_,rfl,LD,_,rfl,fs,an,fa,rs,a,b,ns,rfl,S,hns,hq⟩) ?_
 refine jP (ts:=((mR fs).filter (eJ fs (bJ rs ns))).map (N1 fs rs ns)) (λR h=>⟨_,rfl,eQ,_,rfl,LC,_,rfl,fs,an,fa,rs,a,b,ns,rfl,S,hns,_,rfl,h⟩)
  (λk σ=>∃ s5 s6 s7 s8 s9 s10 s11:Sl,σ=[.val (nA c_RowSets fs an rs a b),.val (lY w kvs),.val (fN ns),.val (.int ((d+1:Nat):Int)),.val (mE ((((mR fs).filter (eJ fs (bJ rs ns))).take k).foldl (λtold c=>nP b c (dW fs fa a b d (yR fs c (bJ rs ns))) (dW fs fa a b d (nR fs c (bJ rs ns))) told) (nD fs fa a (bJ rs ns)))),s5,s6,s7,s8,s9,s10,s11]) ⟨_,_,_,_,_,_,_,rfl⟩ (λk x σ' hx hP=>?_) λσ' hP=>?_
 ·obtain ⟨s5,s6,s7,s8,s9,s10,s11,rfl⟩:=hP
  rw [aI] at hx
  obtain ⟨c,hck,rfl⟩:=bU.mp hx
  obtain ⟨hc,hp⟩:=bY.mp (aV hck)
  obtain ⟨i1,i2⟩:=hin c hc hp
  obtain ⟨e1,e2⟩:=ES (fs:=fs) (rs:=rs) (c:=c) hlt
  have ed:(((d+1:Nat):Int)-1)=((d:Nat):Int):=by omega
  have key:∀ x:D,[nA c_RowSets fs an rs a b,lY w kvs,x,aO (((d+1:Nat):Int)-1)]=[nA c_RowSets fs an rs a b,lY w kvs,x,.int (d:Nat)]:=λx=>by rw [ed]
  have et:((mR fs).filter (eJ fs (bJ rs ns))).take (k+1)=((mR fs).filter (eJ fs (bJ rs ns))).take k++[c]:=by rw [dM,hck];rfl
  have fin:∀ v:Int×Tr,v=nP b c (dW fs fa a b d (yR fs c (bJ rs ns))) (dW fs fa a b d (nR fs c (bJ rs ns))) ((((mR fs).filter (eJ fs (bJ rs ns))).take k).foldl (λtold c=>nP b c (dW fs fa a b d (yR fs c (bJ rs ns))) (dW fs fa a b d (nR fs c (bJ rs ns))) told) (nD fs fa a (bJ rs ns)))->∀ s5 s6 s7 s8 s9 s10 s11:Sl,∃ t5 t6 t7 t8 t9 t10 t11:Sl,[.val (nA c_RowSets fs an rs a b),.val (lY w kvs),.val (fN ns),.val (.int ((d+1:Nat):Int)),.val (mE v),s5,s6,s7,s8,s9,s10,s11]=[.val (nA c_RowSets fs an rs a b),.val (lY w kvs),.val (fN ns),.val (.int ((d+1:Nat):Int)),.val (mE ((((mR fs).filter (eJ fs (bJ rs ns))).take (k+1)).foldl (λtold c=>nP b c (dW fs fa a b d (yR fs c (bJ rs ns))) (dW fs fa a b d (nR fs c (bJ rs ns))) told) (nD fs fa a (bJ rs ns)))),t5,t6,t7,t8,t9,t10,t11]:=λv hv s5 s6 s7 s8 s9 s10 s11=>by
   refine ⟨s5,s6,s7,s8,s9,s10,s11,?_⟩
   rw [et,List.foldl_append,hv];rfl
  rw [<- e1,<- e2] at fin
  generalize hF:((((mR fs).filter (eJ fs (bJ rs ns))).take k).foldl (λtold c=>nP b c (dW fs fa a b d (yR fs c (bJ rs ns))) (dW fs fa a b d (nR fs c (bJ rs ns))) told) (nD fs fa a (bJ rs ns)))=told at fin |-
  refine ⟨_,_,_,_,rfl,?_⟩
  refine eI (mE (dW fs fa a b d (bJ rs (yN fs rs c ns)))) (λq hq=>⟨_,rfl,_,rfl,_,rfl,_,rfl,fs,an,fa,rs,a,b,kvs,yN fs rs c ns,d,key _,S,hns.filt _,hok,i1,hq⟩) ?_
  refine eI (mE (dW fs fa a b d (bJ rs (nN fs rs c ns)))) (λq hq=>⟨_,rfl,_,rfl,_,rfl,_,rfl,fs,an,fa,rs,a,b,kvs,nN fs rs c ns,d,key _,S,hns.filt _,hok,i2,hq⟩) ?_
  generalize dW fs fa a b d (bJ rs (yN fs rs c ns))=x at fin |-
  generalize dW fs fa a b d (bJ rs (nN fs rs c ns))=y at fin |-
  refine eI (.int (b+x.1+y.1)) (λq hq=>⟨_,rfl,c_RowSets,eQ,_,_,rfl,T.C_RowSets,T.n_RowSets_knot,(DH _ _ _ _ _).2.2.2.1,_,rfl,_,rfl,_,rfl,_,rfl,hq⟩) ?_
  refine nK (λt=>t=decide (b+x.1+y.1<told.1)) (λq hq=>⟨_,rfl,_,rfl,_,rfl,hq _ rfl⟩) (λht=>?_) λhf=>?_
  ·refine tO (mE (b+x.1+y.1,.ask c.1.1 c.1.2.1 c.1.2.2 c.2 x.2 y.2)) (λq hq=>⟨_,rfl,_,rfl,_,rfl,_,rfl,_,rfl,_,rfl,_,rfl,(aE rfl),(aE rfl),hq⟩) ?_
   refine fin (b+x.1+y.1,.ask c.1.1 c.1.2.1 c.1.2.2 c.2 x.2 y.2) ?_ _ _ _ _ _ _ _
   unfold nP
   rw [if_pos (of_decide_eq_true ht.symm)]
  ·refine fin told ?_ _ _ _ _ _ _ _
   unfold nP
   rw [if_neg (of_decide_eq_false hf.symm)]
 ·obtain ⟨s5,s6,s7,s8,s9,s10,s11,rfl⟩:=hP
  rw [aB,dR]
  exact ⟨_,rfl,h⟩

theorem aGc
  (F_2:cL P w K mg base fP 2 a_2 f_2 ["self","numbers"] (bX K (aBx w c_RowSets))):cL P w K mg base fP 3 a_17 f_17 ["sets","level"] (bX K (ZC w c_RowSets)):=by
 refine xC T.D_17.F Z7 (λds Q h=>by obtain ⟨fs,an,fa,rs,a,b,lv,rfl,S,hlv,hlo,h⟩:=h;rfl) λcdv Ar outer s H E hr ds Q h=>?_
 obtain ⟨fs,an,fa,rs,a,b,lv,rfl,S,hlv,hlo,h⟩:=h
 have nd:=Z7.nd
 refine ⟨_,(bW (sn 2 nd)
 (bW (sf (fT (aK 1)) (dY (pn 3 nd))
 (cA (sf (fT (xD (aK 0) (aC (aK 3) aS) (λh ha=>AD h T.C_RowSets T.M_2 F_2 (hr.mono (by decide)) T.D_2.d .nil sQ ha))) (MQ (nJ rfl (dX (pn 4 nd) (dX (pn 5 nd) (dX (pn 6 nd) (dX (pn 7 nd) lL))))))
 (bW (wD (i:=2) hr.u9 (pv 2) (aK 6) lV)
 (cA (wD (i:=2) hr.u9 (pv 2) (aK 7) lV))))))
 (tL 2 (cA (dJ (HM (aK 2) (pc:=λh=>jH (rN rfl) rfl T.b_list tZ h))))))),?_⟩
 show jI _ _ _ [.val (nA c_RowSets fs an rs a b),.val (.list (lv.map fN)),.un,.un,.un,.un,.un,.un]
 have kok:∀ ls:List (List Nat),∀ kv∈pN fN ls,jL kv.1:=λls=>QQ (λx=>(AJ x).1) ls
 have n5:=S.F.n5
 have hcl:=jU S.F fs λg hg=>hg
 have hch:=AN fs
 have hN:(mR fs).length<=100:=by omega
 refine wH (w:=w) (show 2<8 by decide) (λj hs kvs hj=>?_) ?_
 ·rcases j with _ | _ | _ | _ | _ | _ | _ | _ | j<;>simp at hj
 refine jP (ts:=lv.map fN) (λR h=>⟨_,rfl,_,rfl,h⟩)
  (λk σ=>∃ (ls:List (List Nat)) (s3 s4 s5 s6 s7:Sl),σ=[.val (nA c_RowSets fs an rs a b),.val (.list (lv.map fN)),rC w (pN fN ls),s3,s4,s5,s6,s7]/\ls.Nodup/\ls.length<=2*(mR fs).length*k/\(∀ x∈ls,mM rs x/\x≠[])/\∀ (j:Nat) (ns:List Nat),j<k->lv[j]?=some ns->∀ c∈mR fs,eJ fs (bJ rs ns) c=true->yN fs rs c ns∈ls/\nN fs rs c ns∈ls)
  ⟨[],_,_,_,_,_,rfl,EG,by simp,(λx hx=>by simp at hx),λj ns hj=>absurd hj (oP _)⟩ (λk x σ' hx hP=>?_) λσ' hP=>?_
 ·obtain ⟨ls,s3,s4,s5,s6,s7,rfl,hnd,hlen,hok,hall⟩:=hP
  rw [aI] at hx
  obtain ⟨ns,hnk,rfl⟩:=bU.mp hx
  have hns:=hlo ns (aV hnk)
  have hkl:k<lv.length:=(aG.mp hnk).1
  have hpl:=eK (eJ fs (bJ rs ns)) (mR fs)
  have hkk:2*(mR fs).length*k<=2*100*400:=mY (mY (aL 2) hN) (by omega)
  refine T1 (ts:=((mR fs).filter (eJ fs (bJ rs ns))).map (N1 fs rs ns)) (λR h=>⟨_,rfl,eQ,_,rfl,LC,_,rfl,fs,an,fa,rs,a,b,ns,rfl,S,hns,_,rfl,h⟩)
   (λi σ=>∃ (l2:List (List Nat)) (s4 s5 s6 s7:Sl),σ=[.val (nA c_RowSets fs an rs a b),.val (.list (lv.map fN)),rC w (pN fN l2),.val (fN ns),s4,s5,s6,s7]/\l2.Nodup/\l2.length<=2*(mR fs).length*k+2*i/\(∀ x∈l2,mM rs x/\x≠[])/\(∀ x∈ls,x∈l2)/\∀ (j:Nat) (c:Ch),j<i->((mR fs).filter (eJ fs (bJ rs ns)))[j]?=some c->yN fs rs c ns∈l2/\nN fs rs c ns∈l2)
   ⟨ls,_,_,_,_,rfl,hnd,hlen,hok,λx hx=>hx,λj c hj=>absurd hj (oP _)⟩ (λi x σ' hx hP=>?_) λσ' hP=>?_
  ·obtain ⟨l2,s4,s5,s6,s7,rfl,hn2,hlen2,hok2,hsub,hall2⟩:=hP
   rw [aI] at hx
   obtain ⟨c,hck,rfl⟩:=bU.mp hx
   have hil:i<((mR fs).filter (eJ fs (bJ rs ns))).length:=(aG.mp hck).1
   have hpp:=(bY.mp (aV hck)).2
   rw [GY λi hi=>hns.lt hi,cJ] at hpp
   have e1:=MP l2 (yN fs rs c ns)
   have e2:=MP (zT l2 (yN fs rs c ns)) (nN fs rs c ns)
   have tl:∀ l:List (List Nat),(pN fN l).length=l.length:=λl=>by unfold pN;rw [aB]
   refine ⟨_,_,_,_,rfl,?_⟩
   refine NZ (w:=w) (fN (yN fs rs c ns)) (.bool true) rfl (λq hq=>hq) rfl (λq hq=>⟨_,rfl,hq⟩) (AJ _) (kok _) (by rw [tl];omega) ?_
   rw [E2 (λx y=>E7)]
   refine xZ (w:=w) (fN (nN fs rs c ns)) (.bool true) rfl (λq hq=>hq) rfl (λq hq=>⟨_,rfl,hq⟩) (AJ _) (kok _) (by rw [tl];omega) ?_
   rw [E2 (λx y=>E7)]
   refine ⟨zT (zT l2 (yN fs rs c ns)) (nN fs rs c ns),_,_,_,_,rfl,TF (TF hn2),by omega,λx hx=>?_,λx hx=>mI.mpr (.inl (mI.mpr (.inl (hsub x hx)))),λj c' hj hc'=>?_⟩
   ·rcases mI.mp hx with hx | rfl
    ·rcases mI.mp hx with hx | rfl
     ·exact hok2 x hx
     ·exact ⟨hns.filt _,λe=>by rw [e] at hpp;cases hpp.1⟩
    ·exact ⟨hns.filt _,λe=>by rw [e] at hpp;cases hpp.2⟩
   ·by_cases hji:j<i
    ·obtain ⟨g1,g2⟩:=hall2 j c' hji hc'
     exact ⟨mI.mpr (.inl (mI.mpr (.inl g1))),mI.mpr (.inl (mI.mpr (.inl g2)))⟩
    ·have:j=i:=by omega
     subst this
     rw [hck] at hc'
     cases hc'
     exact ⟨mI.mpr (.inl (mI.mpr (.inr rfl))),mI.mpr (.inr rfl)⟩
  ·obtain ⟨l2,s4,s5,s6,s7,rfl,hn2,hlen2,hok2,hsub,hall2⟩:=hP
   rw [aB] at hlen2 hall2
   refine ⟨l2,_,_,_,_,_,rfl,hn2,?_,hok2,λj ns' hj hns' c hc hp=>?_⟩
   ·have:2*(mR fs).length*(k+1)=2*(mR fs).length*k+2*(mR fs).length:=aH1 _ _
    omega
   ·by_cases hjk:j<k
    ·obtain ⟨g1,g2⟩:=hall j ns' hjk hns' c hc hp
     exact ⟨hsub _ g1,hsub _ g2⟩
    ·have:j=k:=by omega
     subst this
     rw [hnk] at hns'
     cases hns'
     obtain ⟨i,hi⟩:=bZ (bY.mpr ⟨hc,hp⟩)
     exact hall2 i c (aG.mp hi).1 hi
 ·obtain ⟨ls,s3,s4,s5,s6,s7,rfl,hnd,hlen,hok,hall⟩:=hP
  rw [aB] at hlen hall
  refine ⟨_,_,rfl,_,rfl,pN fN ls,rfl,?_⟩
  rw [AY]
  refine h ls hnd hlen hok λns hns c hc hp=>?_
  obtain ⟨j,hj⟩:=bZ hns
  exact hall j ns (aG.mp hj).1 hj c hc hp

theorem aGd
  (F_17:cL P w K mg base fP 3 a_17 f_17 ["sets","level"] (bX K (ZC w c_RowSets))):cL P w K mg base fP 4 a_16 f_16 ["sets","numbers","deep"] (bX K (ZD w c_RowSets)):=by
 refine xC T.D_16.F Z8 (λds Q h=>by obtain ⟨fs,an,fa,rs,a,b,ns,dp,rfl,S,hns,hne,hdp,hd7,h⟩:=h;rfl) λcdv Ar outer s H E hr ds Q h=>?_
 obtain ⟨fs,an,fa,rs,a,b,ns,dp,rfl,S,hns,hne,hdp,hd7,h⟩:=h
 have nd:=Z8.nd
 refine ⟨_,(bW (sn 3 nd)
 (bW (ss 4 nd (pS (aC (aK 1) aS)))
 (bW (sf (S9 (aC (aK 2) (aC aM (aC (FJ aM) aS))) (λh=>R0 rfl T.b_range h)) (dY (pn 5 nd))
 (bW (sf (fT (aK 4)) (dY (pn 6 nd))
 (cA (wD (i:=3) hr.u9 (pv 3) (dZ (aC (aK 6) (aC (aK 5) aS))) lV)))
 (bW (iM (dO yV rA (T7 (i:=3) (lD PC rfl T.b_len gO (fL (pv 3) iZ))) (XX rfl T.c_MOST_SETS))
 (cA aEm)
 gW)
 (cA (ss 4 nd (zD (dO yV rA (aK 5) aM) (cd F_17 T.D_17 hr (aC (aK 0) (aC (aK 4) aS))) (pS aS)))))))
 (tL 3 (cA (dJ (HM (aK 3) (pc:=λh=>jH (rN rfl) rfl T.b_list tZ h)))))))),?_⟩
 show jI _ _ _ [.val (nA c_RowSets fs an rs a b),.val (fN ns),.val (.int (dp:Nat)),.un,.un,.un,.un]
 have kok:∀ ks:List (List Nat×Nat),∀ kv∈pN lE ks,jL kv.1:=λks=>QQ (kf:=lE) (λx=>(kR x.1 x.2).1) ks
 have tl:∀ l:List (List Nat×Nat),(pN lE l).length=l.length:=λl=>by unfold pN;rw [aB]
 have n5:=S.F.n5
 have hcl:=jU S.F fs λg hg=>hg
 have hcn:=AN fs
 have hN:(mR fs).length<=100:=by omega
 obtain ⟨LB,hLB,hB1,hB3,hB2⟩:∃ LB:Nat,LB<=200/\1+LB*(dp-1)<=300/\(dp=3->128<=LB)/\(dp≠3->200<=LB):=by
  by_cases h3:dp=3
  ·exact ⟨128,by omega,by subst h3;decide,λ_=>by omega,λz=>absurd h3 z⟩
  ·refine ⟨200,by omega,?_,λz=>absurd z h3,λ_=>by omega⟩
   rcases (show dp=0\/dp=1\/dp=2 by omega) with rfl | rfl | rfl<;>decide
 have up:∀ k,0<k->k<dp->1+LB*(k-1)+LB<=1+LB*(dp-1):=λk h0 hk=>by
  have:LB*(k-1)+LB=LB*(k-1+1):=rfl
  have:=mY (aL LB) (show k-1+1<=dp-1 by omega)
  omega
 refine wH (w:=w) (show 3<7 by decide) (λj hs kvs hj=>?_) ?_
 ·rcases j with _ | _ | _ | _ | _ | _ | _ | j<;>simp at hj
 refine eI (.list [fN ns]) (λq hq=>⟨_,rfl,(aE rfl),hq⟩) ?_
 have hd:∀ k x,(pU ((dp:Nat):Int))[k]?=some x->k<dp/\x=.int ((dp-k:Nat):Int):=λk x hx=>by
  unfold pU at hx
  rw [aI] at hx
  obtain ⟨j,hj,rfl⟩:=bU.mp hx
  have hl:=(aG.mp hj).1
  rw [eF] at hl
  rw [jJ hl] at hj
  cases hj
  exact ⟨by omega,by congr 1;omega⟩
 have hdl:(pU ((dp:Nat):Int)).length=dp:=by unfold pU;rw [aB,eF];omega
 refine jP (ts:=pU ((dp:Nat):Int)) (λR h=>⟨_,rfl,((dp:Nat):Int),rfl,by omega,by omega,h⟩)
  (λk σ=>∃ (ks:List (List Nat×Nat)) (lv:List (List Nat)) (s5 s6:Sl),σ=[.val (nA c_RowSets fs an rs a b),.val (fN ns),.val (.int (dp:Nat)),rC w (pN lE ks),.val (.list (lv.map fN)),s5,s6]/\IC fs rs ns dp k ks lv/\lv.length<=LB/\(k=0->lv.length<=1)/\(0<k->ks.length<=1+LB*(k-1))/\(∀ x∈ks,x.1≠[])/\∀ x∈lv,x≠[])
  ⟨[],[ns],_,_,rfl,⟨EG,by simp,(λx hx=>by rw [cZ.mp hx];exact hns),(λx hx=>by simp at hx),λ_=>⟨rfl,rfl⟩,(λz=>absurd z (by omega)),(λi x d hi=>by simp at hi)⟩,(by show 1<=LB;by_cases h3:dp=3;have:=hB3 h3;omega;have:=hB2 h3;omega),(λ_=>(aE rfl)),(λz=>absurd z (by omega)),(λx hx=>by simp at hx),λx hx=>by rw [cZ.mp hx];exact hne⟩ (λk x σ' hx hP=>?_) λσ' hP=>?_
 ·obtain ⟨ks,lv,s5,s6,rfl,M,hl80,hl1,hk81,hn1,hn2⟩:=hP
  obtain ⟨hkd,rfl⟩:=hd k x hx
  have hnew:∀ y∈lv,(y,dp-k)∉ks:=λy _ hm=>by
   have:=(M.ko _ hm).2.1
   dsimp only at this
   omega
  have hks0:k=0->ks=[]:=λz=>(M.z0 z).2
  have hksl:ks.length+lv.length<=1+LB*k:=by
   by_cases h0:k=0
   ·rw [hks0 h0];have:=hl1 h0;show 0+_<=1+_;omega
   ·have h1:=hk81 (by omega)
    have:LB*(k-1)+LB=LB*(k-1+1):=rfl
    rw [show k-1+1=k by omega] at this
    omega
  have hk300:1+LB*k<=300:=by
   have:=mY (aL LB) (show k<=dp-1 by omega)
   omega
  refine jP (ts:=lv.map fN) (λR h=>⟨_,rfl,_,rfl,h⟩)
   (λi σ=>∃ s6:Sl,σ=[.val (nA c_RowSets fs an rs a b),.val (fN ns),.val (.int (dp:Nat)),rC w (pN lE (ks++(lv.take i).map λx=>(x,dp-k))),.val (.list (lv.map fN)),.val (.int ((dp-k:Nat):Int)),s6]) ⟨s6,by simp⟩ (λi x σ' hx hP=>?_) λσ' hP=>?_
  ·obtain ⟨s6,rfl⟩:=hP
   rw [aI] at hx
   obtain ⟨y,hy,rfl⟩:=bU.mp hx
   have hym:=aV hy
   have hnot:(y,dp-k)∉ks++(lv.take i).map λx=>(x,dp-k):=λz=>by
    rcases eP.mp z with z | z
    ·exact hnew y hym z
    ·obtain ⟨y',hy',e⟩:=aQ.mp z
     injection e with e _
     subst e
     obtain ⟨j,hj⟩:=bZ hy'
     have hjl:=(aG.mp hj).1
     rw [bC] at hjl
     rw [gK,if_pos (by omega)] at hj
     have:=wU M.nl hj hy
     omega
   have hle:(ks++(lv.take i).map λx=>(x,dp-k)).length<=300:=by rw [bL,aB,bC];omega
   refine xZ (w:=w) (lE (y,dp-k)) (.bool true) rfl (λq hq=>hq) rfl (λq hq=>⟨_,rfl,_,rfl,(aE rfl),hq⟩) (kR _ _) (kok _) (by rw [tl];omega) ?_
   rw [E2 BJ,XH hnot]
   refine ⟨.val (fN y),?_⟩
   rw [dM,hy]
   show _=[_,_,_,rC w (pN lE (ks++(lv.take i++[y]).map λx=>(x,dp-k))),_,_,_]
   rw [bT,<- qP];rfl
  ·obtain ⟨s6,rfl⟩:=hP
   rw [aB,dR]
   have hkl2:(ks++lv.map λx=>(x,dp-k)).length<=300:=by rw [bL,aB];omega
   refine iA (λt=>t=false) (λq hq=>⟨_,_,rfl,?_⟩) (λhT=>by cases hT) λ_=>?_
   ·refine hq _ (decide_eq_false ?_)
    rw [tl];omega
   try unfold kB
   dsimp only
   have M0:∀ lv',lv'.Nodup->(∀ x∈lv',mM rs x)->(k+1<dp->∀ x∈lv,∀ c∈mR fs,eJ fs (bJ rs x) c=true->yN fs rs c x∈lv'/\nN fs rs c x∈lv')->IC fs rs ns dp (k+1) (ks++lv.map λx=>(x,dp-k)) lv':=λlv' h1 h2 h3=>M.step hkd h1 h2 h3
   have hk11:(ks++lv.map λx=>(x,dp-k)).length<=1+LB*(k+1-1):=by rw [bL,aB];exact hksl
   have hn11:∀ x∈ks++lv.map λx=>(x,dp-k),x.1≠[]:=λx hx=>by
    rcases eP.mp hx with hx | hx
    ·exact hn1 x hx
    ·obtain ⟨y,hy,rfl⟩:=aQ.mp hx
     exact hn2 y hy
   refine SG (λv=>∃ lv':List (List Nat),v=.list (lv'.map fN)/\IC fs rs ns dp (k+1) (ks++lv.map λx=>(x,dp-k)) lv'/\lv'.length<=LB/\∀ x∈lv',x≠[]) (λq hq=>⟨_,rfl,?_⟩) ?_
   ·show (if decide ((1:Int)<((dp-k:Nat):Int))=true then _ else _)
    by_cases hg:1<dp-k
    ·rw [if_pos (decide_eq_true (by omega))]
     refine ⟨_,rfl,_,rfl,fs,an,fa,rs,a,b,lv,rfl,S,by omega,M.lo,λls g1 g2 g3 g4=>hq _ ⟨ls,rfl,M0 ls g1 (λx hx=>(g3 x hx).1) λ_=>g4,?_,λx hx=>(g3 x hx).2⟩⟩
     by_cases h3:dp=3
     ·exact cM (QT g1 (λx hx=>(g3 x hx).1) (hd7 h3)) (hB3 h3)
     ·have:=hl1 (by omega)
      have h2:2*(mR fs).length*lv.length<=200*1:=mY (by omega) this
      have:=hB2 h3
      omega
    ·rw [if_neg (λz=>by have:=of_decide_eq_true z;omega)]
     exact ⟨(aE rfl),hq _ ⟨[],rfl,M0 [] EG (λx hx=>by simp at hx) (λz=>absurd z (by omega)),cS _,λx hx=>by simp at hx⟩⟩
   ·rintro _ ⟨lv',rfl,M',hl',hn'⟩
    exact ⟨_,lv',_,_,rfl,M',hl',(λz=>by omega),(λ_=>hk11),hn11,hn'⟩
 ·obtain ⟨ks,lv,s5,s6,rfl,M,hl80,hl1,hk81,hn1,hn2⟩:=hP
  rw [hdl] at M hk81
  refine ⟨_,_,rfl,_,rfl,pN lE ks,rfl,?_⟩
  rw [AY]
  have hkl:ks.length<=300:=by
   by_cases h0:dp=0
   ·rw [(M.z0 h0).2];exact cS _
   ·exact cM (hk81 (by omega)) hB1
  refine h ks ⟨M.nd,by omega,λx hx=>?_,M.z1,λx d hx c hc hp=>?_⟩ M.fin
  ·obtain ⟨h1,h2,h3,h4⟩:=M.ko x hx
   exact ⟨h1,h4,by omega,hn1 x hx⟩
  ·obtain ⟨i,hi⟩:=bZ hx
   obtain ⟨⟨j1,_,g1⟩,j2,_,g2⟩:=M.fin i x d hi c hc hp
   exact ⟨aV g1,aV g2⟩

theorem aGe
  (F_18:cL P w K mg base fP 5 a_18 f_18 ["sets","known","numbers","deep"] (bX K (ZB w c_RowSets)))
  (F_16:cL P w K mg base fP 4 a_16 f_16 ["sets","numbers","deep"] (bX K (ZD w c_RowSets))):cL P w K mg base fP 6 a_15 f_15 ["sets","numbers","deep"] (bX K (ZE w c_RowSets)):=by
 refine xC T.D_15.F Z9 (λds Q h=>by obtain ⟨fs,an,fa,rs,a,b,ns,dp,rfl,S,hns,hne,hdp,hd7,h⟩:=h;rfl) λcdv Ar outer s H E hr ds Q h=>?_
 obtain ⟨fs,an,fa,rs,a,b,ns,dp,rfl,S,hns,hne,hdp,hd7,h⟩:=h
 have nd:=Z9.nd
 refine ⟨_,(bW (sn 3 nd)
 (bW (sf (aC5 (aC (cd F_16 T.D_16 hr (aC (aK 0) (aC (aK 1) (aC (aK 2) aS)))) aS) (λh=>aCg rfl T.b_reversed h)) (dY (pn 4 nd))
 (cA (wD (i:=3) hr.u9 (pv 3) (aK 4) (cd F_18 T.D_18 hr (aC (aK 0) (aC (aK 3) (aC (cH bI dE (aK 4) aM) (aC (cH bI dE (aK 4) aM) aS))))))))
 (tL 3 (cA (dJ (aK 3)))))),?_⟩
 show jI _ _ _ [.val (nA c_RowSets fs an rs a b),.val (fN ns),.val (.int (dp:Nat)),.un,.un]
 refine wH (w:=w) (show 3<5 by decide) (λj hs kvs hj=>?_) ?_
 ·rcases j with _ | _ | _ | _ | _ | j<;>simp at hj
 refine ⟨_,rfl,_,rfl,_,rfl,fs,an,fa,rs,a,b,ns,dp,rfl,S,hns,hne,hdp,hd7,λks hG hfed=>⟨_,rfl,?_⟩⟩
 obtain ⟨hnd,hlen,hok,hin,hcl⟩:=id hG
 rw [<- List.map_reverse]
 have hrl:ks.reverse.length=ks.length:=oR
 have hrn:ks.reverse.Nodup:=List.pairwise_reverse.mpr (hnd.imp λh=>Ne.symm h)
 have kok:∀ l:List (List Nat×Nat),∀ kv∈l.map (λx=>(lE x,mE (dW fs fa a b x.2 (bJ rs x.1)))),jL kv.1:=λl kv hkv=>by
  obtain ⟨x,_,rfl⟩:=aQ.mp hkv
  exact (kR x.1 x.2).1
 refine ⟨λk σ=>∃ s4:Sl,σ=[.val (nA c_RowSets fs an rs a b),.val (fN ns),.val (.int (dp:Nat)),rC w ((ks.reverse.take k).map (λx=>(lE x,mE (dW fs fa a b x.2 (bJ rs x.1))))),s4],⟨_,rfl⟩,λk x σ' hx hP=>?_,λσ' hP=>?_⟩
 ·obtain ⟨s4,rfl⟩:=hP
  rw [aI] at hx
  obtain ⟨⟨y,e⟩,hyk,rfl⟩:=bU.mp hx
  have hkl:k<ks.length:=by have:=(aG.mp hyk).1;omega
  have hym:(y,e)∈ks:=lB.mp (aV hyk)
  obtain ⟨hyo,he1,he2,_⟩:=hok _ hym
  obtain ⟨d,rfl⟩:∃ d,e=d+1:=⟨e-1,by dsimp only at he1;omega⟩
  have hki:ks[ks.length-1-k]?=some (y,d+1):=by rw [<- uG hkl];exact hyk
  have back:∀ (j:Nat) (z:List Nat×Nat),ks.length-1-k<j->ks[j]?=some z->z∈ks.reverse.take k:=λj z hj hz=>by
   have hjl:=(aG.mp hz).1
   have e2:ks.reverse[ks.length-1-j]?=some z:=by
    rw [uG (by omega),show ks.length-1-(ks.length-1-j)=j by omega];exact hz
   refine aV (i:=ks.length-1-j) ?_
   rw [gK,if_pos (by omega)];exact e2
  have hin2:∀ c∈mR fs,eJ fs (bJ rs y) c=true->InK fs fa rs a b ((ks.reverse.take k).map (λx=>(lE x,mE (dW fs fa a b x.2 (bJ rs x.1))))) d (yN fs rs c y)/\InK fs fa rs a b ((ks.reverse.take k).map (λx=>(lE x,mE (dW fs fa a b x.2 (bJ rs x.1))))) d (nN fs rs c y):=λc hc hp=>by
   cases d with
   | zero=>exact ⟨.inl rfl,.inl rfl⟩
   | succ d =>
    obtain ⟨⟨j1,g1,g2⟩,j2,g3,g4⟩:=hfed _ y d hki c hc hp
    exact ⟨.inr (aQ.mpr ⟨_,back j1 _ g1 g2,rfl⟩),.inr (aQ.mpr ⟨_,back j2 _ g3 g4,rfl⟩)⟩
  have hnot:lE (y,d+1)∉((ks.reverse.take k).map (λx=>(lE x,mE (dW fs fa a b x.2 (bJ rs x.1))))).map (·.1):=λz=>by
   rw [bG] at z
   obtain ⟨x,hx,ex⟩:=aQ.mp z
   have:x=(y,d+1):=BJ _ _ ex
   subst this
   obtain ⟨j,hj⟩:=bZ hx
   have hjl:=(aG.mp hj).1
   rw [bC] at hjl
   rw [gK,if_pos (by omega)] at hj
   have:=wU hrn hj hyk
   omega
  have hle:((ks.reverse.take k).map (λx=>(lE x,mE (dW fs fa a b x.2 (bJ rs x.1))))).length<=400:=by rw [aB,bC];omega
  refine xZ (w:=w) (lE (y,d+1)) (mE (dW fs fa a b (d+1) (bJ rs y))) rfl (λq hq=>⟨_,rfl,_,rfl,_,rfl,_,rfl,_,rfl,_,rfl,fs,an,fa,rs,a,b,_,y,d,rfl,S,hyo,kok _,hin2,hq⟩) (aBf _) (λq hq=>⟨_,rfl,hq⟩) (kR _ _) (kok _) (by omega) ?_
  rw [LZ hnot]
  refine ⟨.val (lE (y,d+1)),?_⟩
  rw [dM,hyk]
  show _=[_,_,_,rC w ((ks.reverse.take k++[(y,d+1)]).map (λx=>(lE x,mE (dW fs fa a b x.2 (bJ rs x.1))))),_]
  rw [bT];rfl
 ·obtain ⟨s4,rfl⟩:=hP
  rw [aB,dR]
  exact ⟨_,_,rfl,_,rfl,h ks.reverse ⟨hrn,by omega,λx hx=>hok x (lB.mp hx),λz=>lB.mpr (hin z),λx d hx c hc hp=>let ⟨u,v⟩:=hcl x d (lB.mp hx) c hc hp;⟨lB.mpr u,lB.mpr v⟩⟩⟩

theorem aGf
  (F_0:cL P w K mg base fP 5 a_0 f_0 ["self","form","rows","prices"] (wY c_RowSets eQ K aEs))
  (F_15:cL P w K mg base fP 6 a_15 f_15 ["sets","numbers","deep"] (bX K (ZE w c_RowSets)))
  (F_19:cL P w K mg base fP 4 a_19 f_19 ["sets","known","numbers","deep"] (bX K (Q3 w c_RowSets))):cL P w K mg base fP 9 a_14 f_14 ["form","rows","deep","prices"] (MG K (ZF w c_RowSets)):=by
 refine fnR (R:=B8) T.D_14.F aAa (λds Q h=>by obtain ⟨fs,an,fa,rs,a,b,dp,rfl,S,hne,hdp,hd7,h⟩:=h;rfl) λcdv Ar outer s H E hr ds Q h=>?_
 obtain ⟨fs,an,fa,rs,a,b,dp,rfl,S,hne,hdp,hd7,h⟩:=h
 have nd:=aAa.nd
 refine ⟨_,(ER (ss 4 nd (XV (aC (aK 0) (aC (aK 1) (aC (aK 3) aS))) (λh=>WP T.K_RowSets F_0 (hr.mono (by decide)) rfl T.x_RowSets T.D_0.d .nil sQ h)))
 (ER (ss 5 nd (cd F_15 T.D_15 hr (aC (aK 4) (aC (FI (aC (cB iV (aC (aK 1) aS) cX T.b_len gO) aS) (λh=>jH (oK rfl) rfl T.b_tuple iW (fL (jH sX rfl T.b_range B2 h) iZ))) (aC (aK 2) aS)))))
 (ER (ss 6 nd (cd F_19 T.D_19 hr (aC (aK 4) (aC (aK 5) (aC (FI (aC (cB iV (aC (aK 1) aS) cX T.b_len gO) aS) (λh=>jH (oK rfl) rfl T.b_tuple iW (fL (jH sX rfl T.b_range B2 h) iZ))) (aC (aK 2) aS))))))
 (WF (cH bI dE (aK 6) aM) (cH bI dE (aK 6) aM) (fl (fr:=[none,none]) (N':=["key","found"]) (S8 (aK 5) (λh=>RZ h)) (λb=>⟨(tV (nJ rfl (dX (pk 0) (dX (pk 1) lL)))),jA,(dD dC iB (aK 0) (dZ (aC (cH bI dE (aK 1) aM) aS)))⟩)))))),?_⟩
 show WH _ _ _ [.val (fX fs an),.val (.list (rs.map fR)),.val (.int (dp:Nat)),.val (.tuple [.int a,.int b]),.un,.un,.un]
 have hl:=S.l
 have hns:mM rs (cK rs.length):=List.Sublist.refl _
 have hnr:cK rs.length≠[]:=λe=>hne (jM.mp (by have:=congrArg iG e;rw [eF] at this;exact this))
 have hz0:(0:Int)<=(((rs.map fR).length:Nat):Int):=yM _
 have hz1:(((rs.map fR).length:Nat):Int)<=100000:=by rw [aB];omega
 have en:eY (iO (((rs.map fR).length:Nat):Int).toNat)=fN (cK rs.length):=by rw [eG,aB];rfl
 refine RE (nA c_RowSets fs an rs a b) (λq hq=>⟨_,rfl,_,rfl,_,rfl,fs,an,rs,a,b,rfl,S.F,S.R,S.l,hq⟩) ?_
 refine WG (λv=>∃ ks:List (List Nat×Nat),v=lY w (ks.map (λx=>(lE x,mE (dW fs fa a b x.2 (bJ rs x.1)))))/\B9 fs rs (cK rs.length) dp ks) (λq hq=>⟨_,rfl,_,rfl,_,rfl,hz0,hz1,_,rfl,fs,an,fa,rs,a,b,cK rs.length,dp,by rw [en],S,hns,hnr,hdp,hd7,λks h1=>hq _ ⟨ks,rfl,h1⟩⟩) ?_
 rintro _ ⟨ks,rfl,hG⟩
 have hkl:=hG.2.1
 have hin:=hG.2.2.2.1
 have kok:∀ kv∈ks.map (λx=>(lE x,mE (dW fs fa a b x.2 (bJ rs x.1)))),jL kv.1:=λkv hkv=>by
  obtain ⟨x,_,rfl⟩:=aQ.mp hkv
  exact (kR x.1 x.2).1
 have hin2:dp=0\/(CM (cK rs.length) dp,mE (dW fs fa a b dp (bJ rs (cK rs.length))))∈ks.map (λx=>(lE x,mE (dW fs fa a b x.2 (bJ rs x.1)))):=by
  by_cases z:dp=0
  ·exact .inl z
  ·exact .inr (aQ.mpr ⟨_,hin (by omega),rfl⟩)
 refine RE (mE (dW fs fa a b dp rs)) (λq hq=>⟨_,rfl,_,rfl,_,rfl,_,rfl,hz0,hz1,_,rfl,fs,an,fa,rs,a,b,_,cK rs.length,dp,by rw [en],S,hns,kok,hin2,by rw [GU];exact hq⟩) ?_
 refine ⟨_,rfl,_,rfl,_,rfl,_,rfl,?_⟩
 have eT:((ks.map (λx=>(lE x,mE (dW fs fa a b x.2 (bJ rs x.1))))).map λkv=>eY [kv.1,kv.2]).map aHm=ks.map (oV fs fa a b rs):=by rw [bG,bG];rfl
 refine T2 (W5 (ts:=(ks.map (λx=>(lE x,mE (dW fs fa a b x.2 (bJ rs x.1))))).map λkv=>.tuple [kv.1,kv.2]) (λR h=>⟨_,rfl,_,rfl,h⟩) aHm (by rw [aB,aB];omega) (λx hx=>?_) (λu v q hx hq=>?_) ?_)
 ·obtain ⟨kv,_,rfl⟩:=aQ.mp hx
  exact ⟨_,_,rfl⟩
 ·obtain ⟨kv,hkv,e⟩:=aQ.mp hx
  obtain ⟨x,_,rfl⟩:=aQ.mp hkv
  injection e with e
  injection e with e1 e
  injection e with e2 _
  subst e1 e2
  exact ⟨_,rfl,_,rfl,_,rfl,(aE rfl),(aE rfl),hq⟩
 ·rw [eT]
  exact ⟨by rw [aB];omega,h ks hG⟩

theorem aF9:cL P w K mg base fP 1 a_20 f_20 ["_law_script"] (MF K ZA):=by
 refine aG8 T.D_20.F Z4 λcdv Ar outer s H E hr=>?_
 have nd:=Z4.nd
 refine ⟨_,_,_,_,rfl,(ss 1 nd (pT (nL yV rA (cB iV (aC (aK 0) aS) cX T.b_len gO) aM) (sU (nL iI kZ (dD kY CD (cH bI dE (aK 0) aM) aM) aM)))),(WQ (wP oH (pv 0) (wP oH E5 (wP oH E5 (wP oH (pv 1) WJ)))) rfl rfl (λz=>nomatch z) (by decide)),λns Q h=>?_⟩
 refine ⟨_,rfl,?_⟩
 show (if decide (((ns.map aO).length:Int) > 0)=true then _ else Q (.bool false))
 split
 ·next hb =>
  have hb':((ns.map aO).length:Int) > 0:=of_decide_eq_true hb
  rw [aB] at hb'
  have hn:0<ns.length:=by omega
  have e:L2.atI (ns.map aO) 0=some (.int ns[0]):=L2.gJ (j:=0) (by rw [aI,aH hn];rfl)
  exact ⟨_,rfl,_,e,(show (0:Int)<2 by decide),h _ λ_=>hn⟩
 ·exact h false λz=>by cases z

theorem aF8:cL P w K mg base fP 1 a_21 f_21 ["_law_tape_here","_law_many"] (fB K wE):=by
 refine fnC T.D_21.F Z3 (λτ n ds Q h=>by obtain ⟨m,rfl,hm0,hm1,hc,h⟩:=h;rfl) λcdv Ar outer s H E hr Tp c ds Q hdig h=>?_
 obtain ⟨m,rfl,hm0,hm1,hc,h⟩:=h
 have nd:=Z3.nd
 refine ⟨_,(dA (sC 2 nd (X0 hr (pv 0)))
 (dA (sC 3 nd (X3 hr (pv 0)))
 (dA (V8 hr (pv 0) (dL (dD dC iB (aK 3) aM)))
 (dA (A5 (aBn (X2 hr (pv 0)) (λh=>RP h))
 (dA (A5 (VO (dO iI kZ (dD kY CD (aK 3) aM) aM))
 (kG (LR hr (pv 0) (dL (dD AH CD (cH bI dE (aK 2) (dD kY CD (dD AH CD (aK 3) aM) (cB iV (aC (aK 2) aS) cX T.b_len gO))) aM))))
 vC)
 (dA (sC 4 nd (X1 hr (pv 0)))
 (dA (LR hr (pv 0) (dL (dD AH CD (aK 4) (aK 1))))
 (kG (mW (dJ (dD kY CD (aK 4) (aK 1))))))))
 vC)
 (dA (mW (ss 5 nd (dD dC iB (dD dC iB (dD gZ oI (aK 3) (aK 3)) (dD gZ oI aM (aK 3))) aM)))
 (dA (mW (iM (dO yV rA (cB iV (aC (aK 2) aS) cX T.b_len gO) aM)
 (cA (ss 5 nd (dD dC iB (aK 5) (dD kY CD (cH bI dE (aK 2) (dD kY CD (aK 3) (cB iV (aC (aK 2) aS) cX T.b_len gO))) aM))))
 gW))
 (dA (mW (ss 5 nd (dD kY CD (dD gZ oI (dD dC iB (dD kY CD (dD gZ oI (aK 5) aM) aM) (aK 3)) aM) aM)))
 (kG (mW (dJ (dD kY CD (dD kY CD (dD gZ oI (dD dC iB (dD gZ oI (aK 5) (aK 5)) (aK 3)) aM) aM) (aK 1)))))))))))),?_⟩
 show nV _ _ _ _ _ [.val (oZ Tp),.val (.int m),.un,.un,.un,.un]
 have p50:(0:Int)<50:=by decide
 refine M5 (.list (Tp.ns.map aO)) (λq hq=>⟨rfl,hq⟩) ?_
 refine M5 (.int (c:Int)) (λq hq=>⟨rfl,hq⟩) ?_
 refine (show nV (aA2 _ _) _ _ _ _ _ from ⟨_,rfl,rfl,rfl,?_⟩)
 dsimp only
 refine UM Tp.b (λq hq=>⟨rfl,hq⟩) (λhb=>?_) λ_=>?_
 ·have hn:=hdig hb
  have hp:(0:Int)<((Tp.ns.map aO).length:Nat):=by rw [aB];omega
  obtain ⟨x,hx⟩:=HZ hn ((c:Int) / 50)
  refine UK rfl (decide ((c:Int) % 50=0)) (λq hq=>⟨_,rfl,p50,hq⟩) (λq hq=>⟨_,rfl,_,rfl,⟨by decide,by decide⟩,_,rfl,hp,_,hx,⟨by decide,by decide⟩,hq _⟩) ?_
  refine (show nV (PD _ _) _ _ _ _ _ from ⟨rfl,λl=>?_⟩)
  dsimp only
  refine (show nV (UR _ _) _ _ _ _ _ from ⟨_,rfl,_,rfl,⟨hm0,by omega⟩,⟨_,rfl⟩,rfl,?_⟩)
  exact ⟨_,rfl,_,rfl,hm0,h _ (uH _ (by omega)) (pZ _ hm0)⟩
 ·try unfold B1
  dsimp only
  have cm:K0 (c:Int) (c:Int):=.inl ⟨by omega,by omega⟩
  refine iU (A4 (λd=>∃ x:Int,d=.int x) (λq hq=>⟨_,rfl,_,rfl,cm,_,rfl,.inl ⟨by decide,by decide⟩,hq _ ⟨_,rfl⟩⟩) ?_)
  rintro _ ⟨x,rfl⟩
  refine iU (JC (0<Tp.ns.length) (λd=>∃ x:Int,d=.int x) (λq hq=>⟨_,rfl,hq _ λhb=>?_⟩) (λhn q hq=>?_) (.int x) rfl ⟨x,rfl⟩ ?_)
  ·have hb':((Tp.ns.map aO).length:Int) > 0:=of_decide_eq_true hb
   rw [aB] at hb'
   omega
  ·have hp:(0:Int)<((Tp.ns.map aO).length:Nat):=by rw [aB];omega
   obtain ⟨y,hy⟩:=HZ hn (c:Int)
   exact ⟨_,rfl,_,rfl,_,rfl,_,rfl,hp,_,hy,(show (0:Int)<1000003 by decide),hq _ ⟨_,rfl⟩⟩
  rintro _ ⟨y,rfl⟩
  refine iU (A4 (λd=>∃ x:Int,d=.int x/\0<=x/\x<65519) (λq hq=>⟨_,rfl,.inr ⟨by decide,by decide⟩,(show (0:Int)<999983 by decide),_,rfl,.inr ⟨by decide,by decide⟩,(show (0:Int)<65519 by decide),hq _ ⟨_,rfl,uH _ (by decide),pZ _ (by decide)⟩⟩) ?_)
  rintro _ ⟨z,rfl,z0,z1⟩
  exact ⟨_,rfl,_,rfl,.inl ⟨by omega,by omega⟩,_,rfl,.inr ⟨by decide,by decide⟩,(show (0:Int)<65521 by decide),_,rfl,hm0,h _ (uH _ (by omega)) (pZ _ hm0)⟩

theorem aF7
  (F_21:cL P w K mg base fP 1 a_21 f_21 ["_law_tape_here","_law_many"] (fB K wE)):cL P w K mg base fP 2 a_22 f_22 ["_law_tape_here","_law_many"] (fB K Y9):=by
 refine fnC T.D_22.F Z2 (λτ n ds Q h=>by obtain ⟨m,rfl,hm1,hm5,hc,h⟩:=h;rfl) λcdv Ar outer s H E hr Tp c ds Q hdig h=>?_
 obtain ⟨m,rfl,hm1,hm5,hc,h⟩:=h
 have nd:=Z2.nd
 refine ⟨_,(dA (sC 2 nd (cc F_21 T.D_21 hr (bE (dL (aK 0)) (bE (dL aM) eD))))
 (dA (sC 3 nd (cc F_21 T.D_21 hr (bE (dL (aK 0)) (bE (dL aM) eD))))
 (dA (mW (ss 4 nd gB))
 (dA (mW (LK (i:=5) nd rfl (by first | exact Or.inl rfl | exact Or.inr rfl) (pS (D7 rfl))))
 (dA (mW (iM (dO iI kZ (aK 2) aM)
 (cA (dJ (cY rG (aC (el (fr:=[none,some 5,some 3]) (N':=["_law_k","_law_words","_law_first"]) (qJ (aC (aK 1) aS) (λh=>nX rfl T.b_range h)) (λb=>⟨(dY (pk 0)),jA,(cH bI dE (aK 1) (dD kY CD (dD dC iB (aK 2) (dD gZ oI aM (aK 0))) aM))⟩)) aS) jB T.b_tuple iW)))
 gW))
 (dA (sC 6 nd (XZ gB (bE (elC (fr:=[none,some 4,some 0]) (N':=["_law_k","_law_letters","_law_tape_here"]) (qJ (aC aM aS) (λh=>nX rfl T.b_range h)) (λb=>⟨(dY (pk 0)),jA,(xG bI dE (dL (aK 1)) (cc F_21 T.D_21 hr (bE (dL (aK 2)) (bE (dL aM) eD))))⟩)) eD) (λh ha=>nC PySem.F.plainAttrs_str PySem.F.slot_str_join PySem.F.type_str_join W3 h ha)))
 (dA (mW (iM (dO iI kZ (aK 2) aM)
 (bW (A0 (i:=7) (fr:=[none,some 6]) (N':=["_law_k","_law_base"]) (qJ (aC (aK 1) aS) (λh=>nX rfl T.b_range h)) (λb=>⟨(dY (pk 0)),jA,(lG pO CL (aK 1) nS (mF (dD dC iB (aK 0) aM)))⟩) (λhi hY=>xX (show uT _ (bQ (iY 30)) ["_law_tape_here","_law_many","_law_way","_law_first","_law_letters","_law_words","_law_base","_law_names_here","_law_at"] ["_law_k","_law_base"] [none,some 6]=true from by decide +kernel) nd rfl (by first | exact Or.inl rfl | exact Or.inr rfl) rfl hi hY rfl))
 (cA (dJ (cY rG (aC (dD dC iB (lG pO CL (aK 7) (mF (dD kY CD (aK 3) (aK 1))) nS) (lG pO CL (aK 7) nS (mF (dD kY CD (aK 3) (aK 1))))) aS) jB T.b_tuple iW))))
 gW))
 (dA (sC 8 nd (cc F_21 T.D_21 hr (bE (dL (aK 0)) (bE (dL aM) eD))))
 (kG (mW (dJ (cY rG (aC (el (fr:=[none,some 6,some 4,some 8,some 3]) (N':=["_law_k","_law_base","_law_letters","_law_at","_law_first"]) (qJ (aC (aK 1) aS) (λh=>nX rfl T.b_range h)) (λb=>⟨(dY (pk 0)),jA,(dD dC iB (dD dC iB (lG pO CL (aK 1) nS (mF (aK 3))) (cH bI dE (aK 2) (dD kY CD (dD dC iB (aK 4) (dD gZ oI aM (aK 0))) aM))) (lG pO CL (aK 1) (mF (aK 3)) nS))⟩)) aS) jB T.b_tuple iW)))))))))))),?_⟩
 show nV _ _ _ _ _ [.val (oZ Tp),.val (.int m),.un,.un,.un,.un,.un,.un,.un]
 refine iF (λn1 d=>n1=c+1/\∃ w:Int,d=.int w) (λq hq=>⟨_,rfl,_,rfl,3,rfl,by decide,by decide,by omega,λr _ _=>hq _ _ ⟨rfl,r,rfl⟩⟩) ?_
 rintro c1 _ ⟨hc1,w,rfl⟩
 refine iF (λn1 d=>n1=c+2/\∃ s:Nat,d=.int (s:Int)) (λq hq=>⟨_,rfl,_,rfl,26,rfl,by decide,by decide,by omega,λr h0 _=>hq _ _ ⟨by omega,(DE h0).imp λ_ e=>by rw [e]⟩⟩) ?_
 rintro c2 _ ⟨hc2,s,rfl⟩
 refine iU (eI (.str iE) (λq hq=>hq) ?_)
 refine iU (eI (.list (qS.map aP)) (λq hq=>⟨by decide,hq⟩) ?_)
 refine iU (iA (λ_=>True) (λq hq=>⟨_,rfl,hq _ trivial⟩) (λ_=>?_) λ_=>?_)
 ·show mS (f1 FG) _ _ _
  dsimp only [mS,B5,UV]
  refine iP (ts:=iO m) (λR h=>⟨_,rfl,(m:Int),rfl,by omega,by omega,by simpa using h⟩) (λx=>match x with | .int j=>.str (wAt ((s+3*j.toNat) % 10)) | _=>.none) (by rw [lQ];omega) (λx q hx hq=>?_) ?_
  ·obtain ⟨j,hj,rfl⟩:=aQ.mp hx
   have hj':j<m:=by simpa using hj
   have e:((s:Int)+3*(j:Int)) % 10=(((s+3*j) % 10:Nat):Int):=by omega
   have hat:L2.atI (qS.map aP) (((s:Int)+3*(j:Int)) % 10)=some (.str (wAt ((s+3*j) % 10))):=by
    rw [e];exact L2.gJ (by rw [aI,zZ (jY _ (by decide))];rfl)
   exact ⟨_,rfl,_,rfl,_,rfl,.inl ⟨by decide,by decide⟩,(show (0:Int)<10 by decide),_,hat,hq⟩
  ·unfold iO
   rw [bG]
   have:=h c2 _ (by omega) (G7 (s:=s) (m:=m) (by omega))
   rw [bG] at this
   exact this
 ·try unfold kB
  dsimp only
  refine iF (λn1 d=>n1<=c+9/\∃ z:Str,d=.str z/\z.cps.toList.length=7/\∀ c∈z.cps.toList,c∈iE.cps.toList) (λq hq=>?_) ?_
  ·refine ⟨_,rfl,?_⟩
   refine UP (ts:=iO 7) (λR h=>⟨7,rfl,by decide,by decide,h⟩) (λ_ _ y=>∃ c,c∈iE.cps.toList/\y=.str ⟨#[c]⟩) 1 (by decide) (λj k x q hx hk hq=>?_) λk ys hk hl' hy=>?_
   ·rw [aIi] at hk
    have hj:=(vK hx).1
    refine ⟨_,rfl,_,rfl,_,rfl,26,rfl,by decide,by decide,by omega,λr h0 h1=>?_⟩
    obtain ⟨c,hc,hcc,_⟩:=rH (xs:=iE.cps.toList) (i:=r) h0 (by rw [zA];exact h1)
    exact ⟨by decide,c,hcc,hq _ _ (aL _) ⟨c,hc,rfl⟩⟩
   ·obtain ⟨cs,rfl,hcl⟩:=GN (ys:=ys) λy hy'=>by
     obtain ⟨j,hj,rfl⟩:=NK.mp hy'
     have hjt:j<(iO 7).length:=by rw [<- hl'];exact hj
     exact hy j (iO 7)[j] _ (aH hjt) (aH hj)
    have hl7:cs.length=7:=by rw [aB,lQ] at hl';exact hl'
    rw [lQ] at hk
    refine ⟨cs.map λc=>⟨#[c]⟩,by rw [bG];rfl,?_,hq _ _ ⟨by omega,_,rfl,?_,?_⟩⟩
    ·rw [aB,bG,hl7]
     have:(zM ((λx:Str=>x.length) ∘ λc=>(⟨#[c]⟩:Str)) cs).sum=cs.length:=by
      clear hl7 hl' hy hcl
      induction cs with
      | nil=>rfl
      | cons a l ih=>rw [aX,List.sum_cons,ih,cI];show 1+_=_;omega
     rw [this,hl7]
     decide
    ·rw [show (Txt.join (Str.ofString "") (cs.map λc=>⟨#[c]⟩)).cps.toList=cs from BK cs];exact hl7
    ·rw [show (Txt.join (Str.ofString "") (cs.map λc=>⟨#[c]⟩)).cps.toList=cs from BK cs];exact hcl
  rintro c3 _ ⟨hc3,z,rfl,hz7,hzl⟩
  have hz:z.length<=100000:=by
   have:z.length=z.cps.toList.length:=by simp [Str.length]
   omega
  refine iU (iA (λ_=>True) (λq hq=>⟨_,rfl,hq _ trivial⟩) (λ_=>?_) λ_=>?_)
  ·refine eI (.list (((cK m).map λj:Nat=>Txt.slice z none (some ((j:Int)+1))).map aP)) (λq hq=>?_) ?_
   ·refine iP (ts:=iO m) (λR h=>⟨_,rfl,(m:Int),rfl,by omega,by omega,by simpa using h⟩) (λx=>match x with | .int j=>.str (Txt.slice z none (some (j+1))) | _=>.none) (by rw [lQ];omega) (λx q hx hq=>?_) ?_
    ·obtain ⟨j,hj,rfl⟩:=aQ.mp hx
     exact ⟨_,rfl,_,rfl,hz,hq⟩
    ·unfold iO
     rw [bG]
     rw [bG] at hq
     exact hq
   have hnb:=SM hz7 hzl (m:=m) (by omega)
   have e:(s:Int) % (m:Int)=((s % m:Nat):Int):=by omega
   have fin:∀ ys:List Str,IK m ys->(mJ (ys.map aP) (some ((s:Int) % (m:Int))) none).length+(mJ (ys.map aP) none (some ((s:Int) % (m:Int)))).length<=100000/\Q c3 (.tuple (mJ (ys.map aP) (some ((s:Int) % (m:Int))) none++mJ (ys.map aP) none (some ((s:Int) % (m:Int))))):=λys hy=>by
    have h1:=hy.1
    rw [e,tY,tY,<- bT,aB,aB,UJ,BW,fD,bC]
    exact ⟨by omega,h _ _ (by omega) (OE hy (s % m))⟩
   have hm0:(0:Int)<(m:Int):=by omega
   exact ⟨_,rfl,_,rfl,_,rfl,hm0,_,rfl,_,rfl,_,rfl,hm0,fin _ hnb⟩
  ·try unfold kB
   dsimp only
   refine iF (λn1 d=>n1<=c+10/\∃ t:Nat,d=.int (t:Int)) (λq hq=>⟨_,rfl,_,rfl,8,rfl,by decide,by decide,by omega,λr h0 _=>hq _ _ ⟨by omega,(DE h0).imp λ_ e=>by rw [e]⟩⟩) ?_
   rintro c4 _ ⟨hc4,t,rfl⟩
   show mS (f1 FG) _ _ _
   dsimp only [mS,B5,UV]
   refine iP (ts:=iO m) (λR h=>⟨_,rfl,(m:Int),rfl,by omega,by omega,by simpa using h⟩) (λx=>match x with | .int j=>.str (DO z t (PF ((s+7*j.toNat) % 26))) | _=>.none) (by rw [lQ];omega) (λx q hx hq=>?_) ?_
   ·obtain ⟨j,hj,rfl⟩:=aQ.mp hx
    have e:((s:Int)+7*(j:Int)) % 26=(((s+7*j) % 26:Nat):Int):=by omega
    have hc:=AO (i:=(s+7*j) % 26) (jY _ (by decide))
    have hca:L2.atI iE.cps.toList (((s:Int)+7*(j:Int)) % 26)=some (PF ((s+7*j) % 26)):=by rw [e];exact L2.gJ hc
    obtain ⟨w1,w2⟩:=OU z hz7 t (PF ((s+7*j) % 26))
    exact ⟨_,rfl,_,rfl,hz,_,rfl,_,rfl,_,rfl,.inl ⟨by decide,by decide⟩,(show (0:Int)<26 by decide),by decide,_,hca,w1,_,rfl,_,rfl,hz,w2,hq⟩
   ·unfold iO
    rw [bG]
    have:=h c4 _ (by omega) (WZ hz7 hzl (t:=t) (s:=s) (m:=m) (by omega))
    rw [bG] at this
    exact this

theorem aF6
  (F_21:cL P w K mg base fP 1 a_21 f_21 ["_law_tape_here","_law_many"] (fB K wE))
  (F_22:cL P w K mg base fP 2 a_22 f_22 ["_law_tape_here","_law_many"] (fB K Y9)):cL P w K mg base fP 3 a_23 f_23 ["_law_tape_here","_law_fields","_law_values"] (fB K Y8):=by
 refine fnC T.D_23.F Z1 (λτ n ds Q h=>by obtain ⟨f,v,rfl,hf1,hf5,hv2,hv5,hc,h⟩:=h;rfl) λcdv Ar outer s H E hr Tp c ds Q hdig h=>?_
 obtain ⟨f,v,rfl,hf1,hf5,hv2,hv5,hc,h⟩:=h
 have nd:=Z1.nd
 refine ⟨_,(dA (sC 3 nd (cc F_22 T.D_22 hr (bE (dL (aK 0)) (bE (xG bI dE (dL (pS (aC aM (aC aM (aC aM (aC aM aS)))))) (cc F_21 T.D_21 hr (bE (dL (aK 0)) (bE (dL aM) eD)))) eD))))
 (dA (sC 4 nd (cc F_22 T.D_22 hr (bE (dL (aK 0)) (bE (dL (aK 1)) eD))))
 (kG (EQ (vP (bE (kT rG (bE (elC (fr:=[none,some 0,some 2]) (N':=["_law_name","_law_tape_here","_law_values"]) (fT (aK 4)) (λb=>⟨(dY (pk 0)),jA,(vP (bE (dL (aK 0)) (bE (cc F_22 T.D_22 hr (bE (dL (aK 1)) (bE (D0 dC iB (dL aM) (cc F_21 T.D_21 hr (bE (dL (aK 1)) (bE (dL (dD mG wT (aK 2) aM)) eD)))) eD))) eD)))⟩)) eD) jB T.b_tuple iW) (bE (dL (aK 3)) eD))))))),?_⟩
 show nV _ _ _ _ _ [.val (oZ Tp),.val (.int f),.val (.int v),.un,.un]
 refine iF (λn1 d=>n1<=c+13/\∃ (m:Nat) (ys:List Str),2<=m/\m<=4/\IK m ys/\d=.tuple (ys.map aP)) (λq hq=>⟨_,rfl,by decide,_,rfl,_,rfl,4,rfl,by decide,by decide,by omega,λr h0 h1=>?_⟩) ?_
 ·obtain ⟨d,hm,hat,_⟩:=rH (xs:=[aO 2,.int 3,.int 2,.int 4]) (i:=r) h0 h1
  have:∃ m:Nat,d=.int (m:Int)/\2<=m/\m<=4:=by
   simp only [aZ,dS,or_false] at hm
   rcases hm with rfl | rfl | rfl | rfl
   ·exact ⟨2,rfl,by decide,by decide⟩
   ·exact ⟨3,rfl,by decide,by decide⟩
   ·exact ⟨2,rfl,by decide,by decide⟩
   ·exact ⟨4,rfl,by decide,by decide⟩
  obtain ⟨m,rfl,hm2,hm4⟩:=this
  exact ⟨_,hat,_,rfl,m,rfl,by omega,by omega,by omega,λn' ys hn hy=>hq _ _ ⟨by omega,m,ys,hm2,hm4,hy,rfl⟩⟩
 rintro c1 _ ⟨hc1,ma,an,hma2,hma4,han,rfl⟩
 refine iF (λn1 d=>n1<=c+25/\∃ ys:List Str,IK f ys/\d=.tuple (ys.map aP)) (λq hq=>⟨_,rfl,_,rfl,_,rfl,f,rfl,hf1,hf5,by omega,λn' ys hn hy=>hq _ _ ⟨by omega,ys,hy,rfl⟩⟩) ?_
 rintro c2 _ ⟨hc2,ns,hns,rfl⟩
 have hnl:=hns.1
 dsimp only [aHq,aHp,aA5,US]
 refine UP (ts:=ns.map aP) (λR h=>⟨_,rfl,_,rfl,h⟩) (λ_ x y=>∃ nm vs,x=.str nm/\y=jT (nm,vs)/\(2<=vs.length/\vs.length<=v/\IK vs.length vs)) 13 (by rw [aB];omega) (λj k x q hx hk hq=>?_) λk ys hk hl' hy=>?_
 ·have hj:j<ns.length:=by have:=(aG.mp hx).1;rw [aB] at this;exact this
  obtain ⟨nm,_,rfl⟩:=aQ.mp (aV hx)
  refine ⟨_,rfl,_,rfl,_,rfl,_,rfl,_,rfl,(v:Int)-1,rfl,by omega,by omega,by omega,λr h0 h1=>?_⟩
  obtain ⟨t,rfl⟩:=DE h0
  have e:[aO (2+(t:Int))]=[.int ((2+t:Nat):Int)]:=by
   have:(2:Int)+(t:Int)=((2+t:Nat):Int):=by omega
   rw [this]
  exact ⟨_,rfl,2+t,e,by omega,by omega,by omega,λn' vs hn hv=>⟨(aE rfl),hq _ _ (by omega) ⟨nm,vs,rfl,rfl,by rw [hv.1];omega,by rw [hv.1];omega,by rw [hv.1];exact hv⟩⟩⟩
 ·rw [aB] at hl' hk
  obtain ⟨fs,rfl,h1,h2⟩:=MT ns ys hl' hy
  have hfl:fs.length=f:=by rw [<- hnl,<- h1,aB]
  have hal:=han.1
  refine ⟨_,rfl,(aE rfl),h k fs an (by omega) ⟨by omega,by omega,by rw [h1,hfl];exact hns,λx hx=>⟨(h2 x hx).1,by have:=(h2 x hx).2.1;omega,(h2 x hx).2.2⟩,by omega,by omega,by rw [hal];exact han⟩ hfl λx hx=>(h2 x hx).2.1⟩

theorem aF5
  (F_21:cL P w K mg base fP 1 a_21 f_21 ["_law_tape_here","_law_many"] (fB K wE)):cL P w K mg base fP 2 a_24 f_24 ["_law_tape_here","_law_form_here"] (fB K Y7):=by
 refine fnC T.D_24.F Z0 (λτ n ds Q h=>by obtain ⟨fs,an,rfl,F,hc,h⟩:=h;rfl) λcdv Ar outer s H E hr Tp c ds Q hdig h=>?_
 obtain ⟨fs,an,rfl,F,hc,h⟩:=h
 have nd:=Z0.nd
 refine ⟨_,(dA (mW (ss 2 nd (dZ aS)))
 (dA (sfC (fT (cH bI dE (aK 1) aM)) (tV (nJ rfl (dX (pn 3 nd) (dX (pn 4 nd) lL))))
 (dA (sC 5 nd (cc F_21 T.D_21 hr (bE (dL (aK 0)) (bE (dL (dD gZ oI aM (cB iV (aC (aK 4) aS) cX T.b_len gO))) eD))))
 (kG (mW (ss 2 nd (dD dC iB (aK 2) (dZ (aC (zD (dO iI kZ (dD kY CD (aK 5) aM) aM) BQ (cH bI dE (aK 4) (dD AH CD (aK 5) aM))) aS))))))))
 (kG (mW (dJ (aK 2)))))),?_⟩
 show nV _ _ _ _ _ [.val (oZ Tp),.val (fX fs an),.un,.un,.un,.un]
 have n5:=F.n5
 refine iU (eI (.tuple []) (λq hq=>⟨(aE rfl),hq⟩) ?_)
 refine UN (ts:=fs.map jT) (λR h=>⟨_,rfl,_,rfl,_,rfl,h⟩)
  (λk m σ=>∃ (cs:List D) (s3 s4 s5:Sl),σ=[.val (oZ Tp),.val (fX fs an),.val (.tuple cs),s3,s4,s5]/\m<=c+k/\cs.length=k/\∀ (j:Nat) f d,fs[j]?=some f->cs[j]?=some d->U6 f d=true) ⟨[],_,_,_,rfl,aL _,rfl,λj f d _ h=>by simp at h⟩ (λk m x σ' hx hP=>?_) λm σ' hP=>?_
 ·obtain ⟨cs,s3,s4,s5,rfl,hm,hcl,hcv⟩:=hP
  have hk:k<fs.length:=by have:=(aG.mp hx).1;rw [aB] at this;exact this
  have ex:x=jT fs[k]:=by rw [aI,aH hk] at hx;exact (Option.some.inj hx).symm
  subst ex
  have hfk:fs[k]?=some fs[k]:=aH hk
  obtain ⟨v2,v5,hvv⟩:=F.vs _ (fE hk)
  generalize fs[k]=f at *
  refine ⟨.str f.1,.tuple (f.2.map aP),rfl,?_⟩
  refine iF (λn1 d=>n1=m+1/\∃ t:Nat,d=.int (t:Int)/\t<5*f.2.length) (λq hq=>⟨_,rfl,_,rfl,.inl ⟨by decide,by decide⟩,_,rfl,5*((f.2.map aP).length:Int),rfl,by rw [aB];omega,by rw [aB];omega,by omega,λr h0 h1=>hq _ _ ⟨rfl,?_⟩⟩) ?_
  ·obtain ⟨t,rfl⟩:=DE h0
   rw [aB] at h1
   exact ⟨t,rfl,by omega⟩
  rintro m1 _ ⟨hm1,t,rfl,ht⟩
  have e5:((t:Int) / 5)=((t / 5:Nat):Int):=by omega
  have hat:L2.atI (f.2.map aP) ((t:Int) / 5)=some (.str f.2[t / 5]):=by rw [e5];exact sY (by omega)
  have fin:∀ d,U6 f d=true->∃ (cs':List D) (s3 s4 s5:Sl),[Sl.val (oZ Tp),.val (fX fs an),.val (.tuple (cs++[d])),.val (.str f.1),.val (.tuple (f.2.map aP)),.val (.int (t:Int))]=[.val (oZ Tp),.val (fX fs an),.val (.tuple cs'),s3,s4,s5]/\m1<=c+(k+1)/\cs'.length=k+1/\∀ (j:Nat) f d,fs[j]?=some f->cs'[j]?=some d->U6 f d=true:=λd hd=>by
   refine ⟨cs++[d],_,_,_,rfl,by omega,by simp [hcl],λj g e hg he=>?_⟩
   by_cases hj:j<k
   ·rw [dH (by omega)] at he
    exact hcv j g e hg he
   ·rw [dN (by omega)] at he
    have:j=k:=by
     by_cases z:j=k
     ·exact z
     ·have:j-cs.length≠0:=by omega
      cases q:j-cs.length with
      | zero=>exact absurd q this
      | succ n=>rw [q] at he;simp at he
    subst this
    rw [hfk] at hg
    cases hg
    simp [hcl] at he
    subst he
    exact hd
  by_cases hz:(t:Int) % 5=4
  ·refine tO (.tuple (cs++[.none])) (λq hq=>⟨_,rfl,_,rfl,(show (0:Int)<5 by decide),by
    show (if decide ((t:Int) % 5=4)=true then _ else _)
    rw [if_pos (decide_eq_true hz)]
    exact ⟨(aE rfl),by show cs.length+1<=_;omega,hq⟩⟩) ?_
   dsimp only
   exact fin .none rfl
  ·refine tO (.tuple (cs++[.str f.2[t / 5]])) (λq hq=>⟨_,rfl,_,rfl,(show (0:Int)<5 by decide),by
    show (if decide ((t:Int) % 5=4)=true then _ else _)
    rw [if_neg (by simpa using hz)]
    exact ⟨_,rfl,_,rfl,⟨by decide,by decide⟩,_,hat,(aE rfl),by show cs.length+1<=_;omega,hq⟩⟩) ?_
   dsimp only
   have hmem:f.2[t / 5]∈f.2:=fE _
   exact fin (.str f.2[t / 5]) (decide_eq_true hmem)
 ·obtain ⟨cs,s3,s4,s5,rfl,hm,hcl,hcv⟩:=hP
  rw [aB] at hm hcl
  exact ⟨_,rfl,h m cs (by omega) (YC hcl hcv)⟩

theorem aF4
  (F_24:cL P w K mg base fP 2 a_24 f_24 ["_law_tape_here","_law_form_here"] (fB K Y7))
  (F_21:cL P w K mg base fP 1 a_21 f_21 ["_law_tape_here","_law_many"] (fB K wE)):cL P w K mg base fP 3 a_25 f_25 ["_law_tape_here","_law_form_here","_law_many"] (fB K Y6):=by
 refine fnC T.D_25.F ZZ (λτ n ds Q h=>by obtain ⟨fs,an,m,rfl,F,hm60,hc,h⟩:=h;rfl) λcdv Ar outer s H E hr Tp c ds Q hdig h=>?_
 obtain ⟨fs,an,m,rfl,F,hm60,hc,h⟩:=h
 have nd:=ZZ.nd
 refine ⟨_,(dA (mW (so 3 nd aS))
 (dA (sfC (qJ (aC (aK 2) aS) (λh=>nX rfl T.b_range h)) (dY (pn 4 nd))
 (dA (sC 5 nd (cc F_24 T.D_24 hr (bE (dL (aK 0)) (bE (dL (aK 1)) eD))))
 (dA (sC 6 nd (cc F_21 T.D_21 hr (bE (dL (aK 0)) (bE (dL (cB iV (aC (cH bI dE (aK 1) aM) aS) cX T.b_len gO)) eD))))
 (dA (A5 (QF (QG (VO (dO N6 SI (cH bI dE (aK 5) aM) BQ)) (K9 (AX iI kZ (cc F_21 T.D_21 hr (bE (dL (aK 0)) (bE (dL aM) eD))) (dL aM)))))
 (kG (mW (ss 6 nd (dD kY CD (xE (cH bI dE (cH bI dE (cH bI dE (aK 1) aM) aM) aM) (aC (cH bI dE (aK 5) aM) aS) (λh ha=>nC lJ lI lH (wX hr) h ha)) (cB iV (aC (cH bI dE (aK 1) aM) aS) cX T.b_len gO)))))
 vC)
 (dA (mW (ss 7 nd (dZ (aC (aK 5) (aC (cH bI dE (cH bI dE (aK 1) aM) (aK 6)) aS)))))
 (dA (A5 (QF (QG (VO (dO yV rA (aK 4) aM)) (K9 (AX iI kZ (cc F_21 T.D_21 hr (bE (dL (aK 0)) (bE (dL aM) eD))) (dL aM)))))
 (kG (sC 7 nd (UA (i:=3) (pv 3) (cc F_21 T.D_21 hr (bE (dL (aK 0)) (bE (dL (aK 4)) eD))))))
 vC)
 (kG (mW (A1 (i:=3) (pv 3) (aK 7) (pb:=λh=>pD (nC dG hW hV mX (pv 3) h)))))))))))
 (Q7 3 (kG (mW (dJ (aK 3))))))),?_⟩
 show nV _ _ _ _ _ [.val (oZ Tp),.val (fX fs an),.val (.int m),.un,.un,.un,.un,.un]
 have n1:=F.n1
 have a2:=F.a2
 have a4:=F.a4
 refine iU (qV [] (by decide) (λq hq=>hq) ?_)
 refine UN (ts:=iO m) (λR h=>⟨_,rfl,(m:Int),rfl,by omega,by omega,by simpa using h⟩)
  (λk c1 σ=>∃ (rs:List (List D×Str)) (s4 s5 s6 s7:Sl),σ=[.val (oZ Tp),.val (fX fs an),.val (.int m),.own (rs.map fR),s4,s5,s6,s7]/\c1<=c+10*k/\rs.length=k/\iD fs an rs) ⟨[],_,_,_,_,rfl,by omega,rfl,λr hr=>by simp at hr⟩ (λk c1 x σ' hx hP=>?_) λc1 σ' hP=>?_
 ·obtain ⟨hk,rfl⟩:=vK hx
  obtain ⟨rs,s4,s5,s6,s7,rfl,hc1,hrl,hrs⟩:=hP
  refine iF (λn1 d=>n1<=c1+5/\∃ cs,oJ fs (.tuple cs)=true/\d=.tuple cs) (λq hq=>⟨_,rfl,_,rfl,_,rfl,fs,an,rfl,F,by omega,λn' cs hn hcs=>hq _ _ ⟨hn,cs,hcs,rfl⟩⟩) ?_
  rintro c2 _ ⟨hc2,cs,hcs,rfl⟩
  have hal:((an.map aP).length:Int)=(an.length:Int):=by rw [aB]
  refine iF (λn1 d=>n1=c2+1/\∃ t:Nat,d=.int (t:Int)/\t<an.length) (λq hq=>⟨_,rfl,_,rfl,_,rfl,_,rfl,((an.map aP).length:Int),rfl,by omega,by omega,by omega,λr h0 h1=>hq _ _ ⟨rfl,?_⟩⟩) ?_
  ·obtain ⟨t,rfl⟩:=DE h0
   exact ⟨t,rfl,by omega⟩
  rintro c3 _ ⟨hc3,t,rfl,ht⟩
  obtain ⟨hcl,hcv⟩:=nE hcs
  obtain ⟨f0,hf0⟩:∃ f,fs[0]?=some f:=⟨_,aH (by omega)⟩
  obtain ⟨d0,hd0⟩:∃ d,cs[0]?=some d:=⟨_,aH (by omega)⟩
  have hok:=hcv 0 f0 d0 hf0 hd0
  have hca:L2.atI cs 0=some d0:=L2.gJ (j:=0) hd0
  have hfa:L2.atI (fs.map jT) 0=some (jT f0):=L2.gJ (j:=0) (by rw [aI,hf0];rfl)
  have hfm:=aV hf0
  refine O6 (∃ z:Str,d0=.str z/\z∈f0.2) (λc4=>c4<=c3+1) (λd=>∃ t:Nat,d=.int (t:Int)/\t<an.length) (λq hq=>⟨_,rfl,_,hca,?_⟩) (.int (t:Int)) rfl ⟨t,rfl,ht⟩ (λhC q hq=>?_) ?_
  ·show (if (!pE d0)=true then _ else q c3 false)
   cases hn:pE d0 with
   | true=>rw [if_neg (by decide)];exact hq _ _ (by omega) λz=>by cases z
   | false =>
    rw [if_pos (by decide)]
    have hstr:∃ z:Str,d0=.str z/\z∈f0.2:=by
     cases d0 with
     | none=>cases hn
     | str z=>exact ⟨z,rfl,of_decide_eq_true hok⟩
     | _=>cases hok
    exact ⟨_,rfl,_,rfl,2,rfl,by decide,by decide,by omega,λr h0 h1=>hq _ _ (aL _) λ_=>hstr⟩
  ·obtain ⟨z,rfl,hz⟩:=hC
   have hx:=qH (F.vals hfm) hz
   have hp:(0:Int)<((an.map aP).length:Int):=by omega
   refine ⟨_,rfl,_,rfl,_,hfa,_,rfl,_,rfl,_,rfl,_,hca,_,_,rfl,hx,_,rfl,_,rfl,hp,hq _ ⟨(f0.2.idxOf z) % an.length,?_,jY _ (by omega)⟩⟩
   show aO (((f0.2.idxOf z:Nat):Int) % ((an.map aP).length:Int))=_
   rw [hal]
   rfl
  rintro c4 _ hc4 ⟨t2,rfl,ht2⟩
  have haa:L2.atI (an.map aP) (t2:Int)=some (.str an[t2]):=sY ht2
  refine iU (eI (fR (cs,an[t2])) (λq hq=>⟨_,rfl,_,rfl,_,rfl,_,rfl,_,haa,(aE rfl),hq⟩) ?_)
  have hrow:NA fs an (cs,an[t2]):=⟨hcs,fE _⟩
  refine HR (0<k) (λc5=>c5<=c4+1) (λd=>∃ r,NA fs an r/\d=fR r) (λq hq=>⟨_,rfl,?_⟩) (fR (cs,an[t2])) rfl ⟨_,hrow,rfl⟩ (λc6=>c6<=c4+2) (λ_ z=>by omega) (λc5 hc5 hk0 q hq=>⟨rs.map fR,rfl,_,rfl,_,rfl,_,rfl,(k:Int),rfl,by omega,by omega,by omega,λr h0 h1=>?_⟩) ?_
  ·show (if decide ((k:Int) > 0)=true then _ else q c4 false)
   by_cases hk0:(k:Int) > 0
   ·rw [if_pos (decide_eq_true hk0)]
    exact ⟨_,rfl,_,rfl,8,rfl,by decide,by decide,by omega,λr h0 h1=>hq _ _ (aL _) λ_=>by omega⟩
   ·rw [if_neg (by simpa using hk0)]
    exact hq _ _ (by omega) λz=>by cases z
  ·obtain ⟨d,hdm,hda,_⟩:=rH (xs:=rs.map fR) (i:=r) h0 (by rw [aB,hrl];exact h1)
   obtain ⟨r',hr',rfl⟩:=aQ.mp hdm
   exact ⟨r,_,rfl,hda,hq _ _ (by omega) ⟨r',hrs r' hr',rfl⟩⟩
  rintro c6 _ hc6 ⟨r,hr,rfl⟩
  refine wR (ts:=rs.map fR) (fR r) rfl (by rw [aB];omega) (λq hq=>⟨_,rfl,hq⟩) ?_
  refine ⟨rs++[r],_,_,_,_,by rw [bT];rfl,by omega,by simp [hrl],λr' hr'=>?_⟩
  rcases eP.mp hr' with z | z
  ·exact hrs r' z
  ·rw [cZ.mp z];exact hr
 ·obtain ⟨rs,s4,s5,s6,s7,rfl,hc1,hrl,hrs⟩:=hP
  rw [lQ] at hc1 hrl
  exact ⟨_,rfl,_,rfl,h c1 rs hc1 hrs hrl⟩

theorem aF3:cL P w K mg base fP 1 a_26 f_26 ["_law_form_here"] (bX K LN):=by
 refine xC T.D_26.F ZY (λds Q h=>by obtain ⟨fs,an,rfl,F,h⟩:=h;rfl) λcdv Ar outer s H E hr ds Q h=>?_
 obtain ⟨fs,an,rfl,F,h⟩:=h
 have nd:=ZY.nd
 refine ⟨_,(bW (ss 1 nd (pS aS))
 (bW (sf (fT (cH bI dE (aK 0) aM)) (tV (nJ rfl (dX (pn 2 nd) (dX (pn 3 nd) lL))))
 (bW (ss 4 nd (zD (dO iI kZ (cB iV (aC (aK 3) aS) cX T.b_len gO) aM) (lG pO CL (aK 3) nS (mF aM)) (aK 3)))
 (bW (ss 1 nd (dD dC iB (aK 1) (el (fr:=[none,some 2]) (N':=["_law_value","_law_name"]) (fT (aK 4)) (λb=>⟨(dY (pk 0)),jA,(dZ (aC gB (aC (aK 1) (aC (aK 0) aS))))⟩))))
 (cA (ss 1 nd (dD dC iB (aK 1) (el (fr:=[none,some 2,some 3]) (N':=["_law_k","_law_name","_law_values"]) (OQ (aC aM (aC (dD mG wT (cB iV (aC (aK 3) aS) cX T.b_len gO) aM) aS)) (λh=>N2 rfl T.b_range h)) (λb=>⟨(dY (pk 0)),jA,(dZ (aC gB (aC (aK 1) (aC (cH bI dE (aK 2) (aK 0)) aS))))⟩))))))))
 (cA (dJ (aK 1))))),?_⟩
 show jI _ _ _ [.val (fX fs an),.un,.un,.un,.un]
 have n5:=F.n5
 refine eI (.list []) (λq hq=>⟨(aE rfl),hq⟩) ?_
 refine jP (ts:=fs.map jT) (λR h=>⟨_,rfl,_,rfl,_,rfl,h⟩)
  (λi σ=>∃ s2 s3 s4:Sl,σ=[.val (fX fs an),.val (.list (fH (fs.take i))),s2,s3,s4]) ⟨_,_,_,rfl⟩ (λi x σ' hx hP=>?_) λσ' hP=>?_
 ·obtain ⟨s2,s3,s4,rfl⟩:=hP
  rw [aI] at hx
  obtain ⟨f,hfk,rfl⟩:=bU.mp hx
  have hf:=aV hfk
  obtain ⟨v2,v5,hvv⟩:=F.vs f hf
  have hcl:=jU F (fs.take i) λg hg=>fV hg
  have hkl:(fs.take i).length<=5:=by rw [bC];omega
  refine ⟨.str f.1,.tuple (f.2.map aP),rfl,?_⟩
  dsimp only
  refine eI (.tuple ((sN f).map aP)) (λq hq=>⟨_,rfl,?_⟩) ?_
  ·show (if decide (((f.2.map aP).length:Int)=2)=true then _ else _)
   unfold sN at hq
   rw [aB]
   by_cases e:f.2.length=2
   ·rw [if_pos (decide_eq_true (by omega))]
    rw [if_pos e] at hq
    refine ⟨_,rfl,?_⟩
    show q (.tuple (mJ (f.2.map aP) none (some 1)))
    rw [tY,M4 _ v2];exact hq
   ·rw [if_neg (by simpa using (by omega:¬ (f.2.length:Int)=2))]
    rw [if_neg e] at hq
    exact ⟨_,rfl,hq⟩
  have s5:(sN f).length<=5:=by
   unfold sN
   split
   ·rw [bC];omega
   ·omega
  refine eI (.list (fH (fs.take i)++(sN f).map (OH "is" f))) (λq hq=>⟨_,rfl,?_⟩) ?_
  ·refine iP (ts:=(sN f).map aP) (λR h=>⟨_,rfl,_,rfl,h⟩) (λx=>.tuple [.str "is",.str f.1,x]) (by rw [aB];omega) (λx q hx hq=>⟨_,rfl,_,rfl,(aE rfl),hq⟩) ?_
   rw [bG]
   exact ⟨by rw [aB];omega,hq⟩
  have hlF:(TL.lF 1 (((f.2.map aP).length:Int)-2-1).toNat).length<=5:=by
   unfold TL.lF
   rw [aB,eF,aB]
   omega
  refine (show wI _ _ _ _ from ⟨_,rfl,?_⟩)
  refine iP (ts:=TL.lF 1 (((f.2.map aP).length:Int)-2-1).toNat) (λR h=>⟨_,rfl,1,((f.2.map aP).length:Int)-2,rfl,⟨by decide,by decide,by rw [aB];omega,by rw [aB];omega⟩,h⟩) (SX f) (by omega) (λx q hx hq=>?_) ?_
  ·obtain ⟨m,hm,rfl⟩:=aQ.mp hx
   have hm':m<(((f.2.map aP).length:Int)-2-1).toNat:=by simpa using hm
   rw [aB] at hm'
   have e:(1:Int)+(m:Int)=((m+1:Nat):Int):=by omega
   have hat:L2.atI (f.2.map aP) (1+(m:Int))=some (.str (f.2[m+1]'(by omega))):=by rw [e];exact sY (by omega)
   have hq2:q (.tuple [.str "upto",.str f.1,.str (f.2[m+1]'(by omega))]):=by
    have e2:SX f (.int (1+(m:Int)))=.tuple [.str "upto",.str f.1,.str (f.2[m+1]'(by omega))]:=by unfold SX;dsimp only;rw [hat]
    rw [<- e2];exact hq
   exact ⟨_,rfl,_,rfl,_,rfl,_,hat,(aE rfl),hq2⟩
  ·rw [SW v2]
   have ql:(wN f).length<=5:=by unfold wN;rw [bC,fD];omega
   refine ⟨by rw [bL,aB,aB];omega,.val (.str f.1),.val (.tuple (f.2.map aP)),.val (.tuple ((sN f).map aP)),?_⟩
   rw [qP]
   have e:fH (fs.take (i+1))=fH (fs.take i)++F4 f:=by
    unfold fH
    rw [dM,hfk,bT,PV]
    show _++[F4 f].flatten=_
    rw [IM]
   rw [e];rfl
 ·obtain ⟨s2,s3,s4,rfl⟩:=hP
  rw [aB,dR]
  exact ⟨_,rfl,by rw [<- qX];exact h⟩

theorem aF2:cL P w K mg base fP 1 a_27 f_27 ["_law_form_here","_law_question","_law_stray","_law_case_here"] (bX K Y5):=by
 refine xC T.D_27.F ZX (λds Q h=>by obtain ⟨fs,an,k,n,v,st,cs,rfl,F,hq,hst,hcs,h⟩:=h;rfl) λcdv Ar outer s H E hr ds Q h=>?_
 obtain ⟨fs,an,k,n,v,st,cs,rfl,F,hq,hst,hcs,h⟩:=h
 have nd:=ZX.nd
 refine ⟨_,(bW (LJ (aK 1) (tU (nJ rfl (dX (pn 4 nd) (dX (pn 5 nd) (dX (pn 6 nd) lL))))) (λhe hg=>E4 he hg))
 (bW (ss 7 nd (dZ aS))
 (bW (ss 8 nd BQ)
 (bW (sf (qJ (aC (cB iV (aC (cH bI dE (aK 0) aM) aS) cX T.b_len gO) aS) (λh=>nX rfl T.b_range h)) (dY (pn 9 nd))
 (cA (iM (dO iI kZ (cH bI dE (cH bI dE (cH bI dE (aK 0) aM) (aK 9)) aM) (aK 5))
 (bW (ss 7 nd (cH bI dE (cH bI dE (cH bI dE (aK 0) aM) (aK 9)) aM))
 (cA (ss 8 nd (cH bI dE (aK 3) (aK 9)))))
 gW)))
 (bW (iM (dO aCp aGm (aK 8) BQ)
 (cA (dJ (aK 2)))
 gW)
 (bW (ss 10 nd (dD mG wT (xE (aK 7) (aC (aK 8) aS) (λh ha=>nC lJ lI lH (wX hr) h ha)) (xE (aK 7) (aC (aK 6) aS) (λh ha=>nC lJ lI lH (wX hr) h ha))))
 (cA (dJ (zD (rM (nO (dO iI kZ (aK 10) aM) (pM (rM (QK (dO iI kZ (aK 4) gB) (LA (dO G4 rA (aK 10) aM))))))) gB gB))))))))),?_⟩
 show jI _ _ _ [.val (fX fs an),.val (.tuple [.str k,.str n,.str v]),.val (.str st),.val (.tuple cs),.un,.un,.un,.un,.un,.un,.un]
 have n5:=F.n5
 obtain ⟨f,hf,hfn,hv,hk⟩:=AK hq
 obtain ⟨j,hj⟩:=bZ hf
 have hjl:=(aG.mp hj).1
 obtain ⟨hcl,hcv⟩:=nE hcs
 obtain ⟨c0,hc0⟩:∃ d,cs[j]?=some d:=⟨_,aH (by omega)⟩
 have hok:=hcv j f c0 hj hc0
 have hfl:((fs.map jT).length:Int)=(fs.length:Int):=by rw [aB]
 refine (show jI (Q9 _ _) _ _ _ from ⟨_,rfl,_,_,_,rfl,?_⟩)
 dsimp only
 refine eI (.tuple []) (λq hq=>⟨(aE rfl),hq⟩) ?_
 refine eI .none (λq hq=>hq) ?_
 refine jP (ts:=iO fs.length) (λR h=>⟨_,rfl,_,rfl,((fs.map jT).length:Int),rfl,by omega,by omega,by rw [hfl];simpa using h⟩)
  (λi σ=>∃ s9:Sl,σ=[.val (fX fs an),.val (.tuple [.str k,.str n,.str v]),.val (.str st),.val (.tuple cs),.val (.str k),.val (.str n),.val (.str v),.val (if j<i then .tuple (f.2.map aP) else .tuple []),.val (if j<i then c0 else .none),s9,.un]) ⟨_,by rw [if_neg (by omega),if_neg (by omega)];rfl⟩ (λi x σ' hx hP=>?_) λσ' hP=>?_
 ·obtain ⟨hi,rfl⟩:=vK hx
  obtain ⟨s9,rfl⟩:=hP
  have hfi:L2.atI (fs.map jT) (i:Int)=some (jT fs[i]):=L2.gJ (by rw [aI,aH hi];rfl)
  have hci:L2.atI cs (i:Int)=some cs[i]:=L2.gJ (aH (by omega))
  by_cases hij:i=j
  ·subst hij
   have e1:fs[i]=f:=by rw [aH hi] at hj;exact Option.some.inj hj
   have e2:cs[i]=c0:=by rw [aH (by omega)] at hc0;exact Option.some.inj hc0
   rw [e1] at hfi
   rw [e2] at hci
   refine nK (λb=>b=true) (λq hq=>⟨_,rfl,_,rfl,_,rfl,_,hfi,_,rfl,_,rfl,hq _ (decide_eq_true hfn)⟩) (λ_=>?_) λhF=>by cases hF
   refine eI (.tuple (f.2.map aP)) (λq hq=>⟨_,rfl,_,rfl,_,rfl,_,hfi,_,rfl,hq⟩) ?_
   refine tO c0 (λq hq=>⟨_,rfl,_,rfl,_,hci,hq⟩) ?_
   refine ⟨.val (.int (i:Int)),?_⟩
   rw [if_pos (eE i),if_pos (eE i)];rfl
  ·have hne:¬ fs[i].1=n:=λe=>hij (by
    have h1:=AI F (aH hi)
    have h2:=AI F hj
    rw [e] at h1
    rw [hfn] at h2
    omega)
   refine nK (λb=>b=false) (λq hq=>⟨_,rfl,_,rfl,_,rfl,_,hfi,_,rfl,_,rfl,hq _ (decide_eq_false hne)⟩) (λhT=>by cases hT) λ_=>?_
   try unfold kB
   dsimp only
   refine ⟨.val (.int (i:Int)),?_⟩
   by_cases hl:j<i
   ·rw [if_pos hl,if_pos hl,if_pos (eV hl),if_pos (eV hl)];rfl
   ·rw [if_neg hl,if_neg hl,if_neg (show ¬ j<i+1 by omega),if_neg (show ¬ j<i+1 by omega)];rfl
 ·obtain ⟨s9,rfl⟩:=hP
  rw [lQ,if_pos hjl,if_pos hjl]
  rw [sL F hj hc0 hfn] at h
  cases c0 with
  | none =>
   refine iA (λb=>b=true) (λq hq=>⟨_,rfl,hq _ rfl⟩) (λ_=>⟨_,rfl,h⟩) λhF=>by cases hF
  | str z =>
   have hz:z∈f.2:=of_decide_eq_true hok
   refine iA (λb=>b=false) (λq hq=>⟨_,rfl,hq _ rfl⟩) (λhT=>by cases hT) λ_=>?_
   try unfold kB
   dsimp only
   have x1:=qH (F.vals hf) hz
   have x2:=qH (F.vals hf) hv
   refine eI (.int ((f.2.idxOf z:Nat)-(f.2.idxOf v:Nat):Int)) (λq hq=>⟨_,rfl,_,rfl,_,rfl,_,_,rfl,x1,_,rfl,_,rfl,_,rfl,_,_,rfl,x2,hq⟩) ?_
   have hinj:f.2.idxOf z=f.2.idxOf v->z=v:=λe=>by
    have a1:=hZ (eW.mpr hz)
    have a2:=hZ (eW.mpr hv)
    rw [<- a1,<- a2]
    congr 1
   refine ⟨_,rfl,?_⟩
   show (if decide (((f.2.idxOf z:Nat)-(f.2.idxOf v:Nat):Int)=0)=true then _ else _)
   by_cases e0:f.2.idxOf z=f.2.idxOf v
   ·rw [if_pos (decide_eq_true (by omega))]
    have hs:sM f k v st (.str z)="yes":=by
     show (if k="is" then (if z=v then ("yes":Str) else "no") else if f.2.idxOf z<=f.2.idxOf v then ("yes":Str) else "no")=_
     rw [if_pos (hinj e0),if_pos (show f.2.idxOf z<=f.2.idxOf v by omega)]
     exact ite_self _
    rw [hs] at h
    exact h
   ·rw [if_neg (by rw [decide_eq_false (by omega)];decide)]
    refine ⟨_,rfl,?_⟩
    show (if decide (k="upto")=true then _ else _)
    have hzv:¬ z=v:=λe=>e0 (by rw [e])
    rcases hk with rfl | ⟨rfl,_⟩
    ·have hs:sM f "is" v st (.str z)="no":=by
      show (if ("is":Str)="is" then (if z=v then ("yes":Str) else "no") else if f.2.idxOf z<=f.2.idxOf v then ("yes":Str) else "no")=_
      rw [if_pos rfl,if_neg hzv]
     rw [hs] at h
     rw [if_neg (by decide +kernel)]
     exact h
    ·rw [if_pos (by decide +kernel)]
     refine ⟨_,rfl,?_⟩
     have hs:sM f "upto" v st (.str z)=if f.2.idxOf z<=f.2.idxOf v then ("yes":Str) else "no":=by
      show (if ("upto":Str)="is" then (if z=v then ("yes":Str) else "no") else if f.2.idxOf z<=f.2.idxOf v then ("yes":Str) else "no")=_
      rw [if_neg (by decide +kernel)]
     rw [hs] at h
     show (if decide (((f.2.idxOf z:Nat)-(f.2.idxOf v:Nat):Int)<0)=true then _ else _)
     by_cases hl:f.2.idxOf z<f.2.idxOf v
     ·rw [if_pos (decide_eq_true (by omega))]
      rw [if_pos (by omega)] at h
      exact h
     ·rw [if_neg (by rw [decide_eq_false (by omega)];decide)]
      rw [if_neg (by omega)] at h
      exact h
  | _=>cases hok

theorem aF1
  (F_27:cL P w K mg base fP 1 a_27 f_27 ["_law_form_here","_law_question","_law_stray","_law_case_here"] (bX K Y5)):cL P w K mg base fP 2 a_28 f_28 ["_law_form_here","_law_question","_law_stray","_law_rows_here"] (bX K GK):=by
 refine xC T.D_28.F ZW (λds Q h=>by obtain ⟨fs,an,k,n,v,st,rs,rfl,F,hq,hst,hrs,hl,h⟩:=h;rfl) λcdv Ar outer s H E hr ds Q h=>?_
 obtain ⟨fs,an,k,n,v,st,rs,rfl,F,hq,hst,hrs,hl,h⟩:=h
 have nd:=ZW.nd
 refine ⟨_,(bW (so 4 nd aS)
 (bW (so 5 nd aS)
 (bW (sf (fT (aK 3)) (dY (pn 6 nd))
 (cA (iM (dO iI kZ (cd F_27 T.D_27 hr (aC (aK 0) (aC (aK 1) (aC (aK 2) (aC (cH bI dE (aK 6) aM) aS))))) gB)
 (cA (A1 (i:=4) (pv 4) (aK 6) (pb:=λh=>pD (nC dG hW hV mX (pv 4) h))))
 (cA (A1 (i:=5) (pv 5) (aK 6) (pb:=λh=>pD (nC dG hW hV mX (pv 5) h)))))))
 (rZ 5 (rZ 4 (cA (dJ (dZ (aC (aK 4) (aC (aK 5) aS)))))))))),?_⟩
 show jI _ _ _ [.val (fX fs an),.val (.tuple [.str k,.str n,.str v]),.val (.str st),.val (.list (rs.map gQ)),.un,.un,.un]
 refine qV [] (by decide) (λq hq=>hq) ?_
 refine qV [] (by decide) (λq hq=>hq) ?_
 refine jP (ts:=rs.map gQ) (λR h=>⟨_,rfl,_,rfl,h⟩)
  (λi σ=>∃ s6:Sl,σ=[.val (fX fs an),.val (.tuple [.str k,.str n,.str v]),.val (.str st),.val (.list (rs.map gQ)),.own (((rs.take i).filter (II fs k n v st)).map gQ),.own (((rs.take i).filter λr=>!II fs k n v st r).map gQ),s6]) ⟨_,rfl⟩ (λi x σ' hx hP=>?_) λσ' hP=>?_
 ·obtain ⟨s6,rfl⟩:=hP
  have hi:i<rs.length:=by have:=(aG.mp hx).1;rw [aB] at this;exact this
  have ex:x=gQ rs[i]:=by rw [aI,aH hi] at hx;exact (Option.some.inj hx).symm
  subst ex
  have et:rs.take (i+1)=rs.take i++[rs[i]]:=by rw [dM,aH hi];rfl
  have hr:=hrs rs[i].1 (aQ.mpr ⟨_,fE hi,rfl⟩)
  have l1:(((rs.take i).filter (II fs k n v st)).map gQ).length<=60:=by
   rw [aB]
   have:=eK (II fs k n v st) (rs.take i)
   rw [bC] at this
   omega
  have l2:(((rs.take i).filter λr=>!II fs k n v st r).map gQ).length<=60:=by
   rw [aB]
   have:=eK (λr=>!II fs k n v st r) (rs.take i)
   rw [bC] at this
   omega
  generalize rs[i]=r at *
  by_cases hy:kW fs k n v st r.1.1="yes"
  ·have hb:II fs k n v st r=true:=decide_eq_true hy
   refine nK (λb=>b=true) (λq hq'=>⟨_,rfl,_,rfl,_,rfl,_,rfl,_,L2.gJ (j:=0) rfl,fs,an,k,n,v,st,r.1.1,rfl,F,hq,hst,hr.1,hq' _ (decide_eq_true hy)⟩) (λ_=>?_) λhF=>by cases hF
   refine wR (ts:=((rs.take i).filter (II fs k n v st)).map gQ) (gQ r) rfl (by omega) (λq hq=>⟨_,rfl,hq⟩) ?_
   refine ⟨.val (gQ r),?_⟩
   rw [et,gM,gM,bT,bT,bK (p:=II fs k n v st),if_pos hb,bK (p:=λr=>!II fs k n v st r),if_neg (by rw [hb];decide),tG,tG,jW,fA]
   rfl
  ·have hb:II fs k n v st r=false:=decide_eq_false hy
   refine nK (λb=>b=false) (λq hq'=>⟨_,rfl,_,rfl,_,rfl,_,rfl,_,L2.gJ (j:=0) rfl,fs,an,k,n,v,st,r.1.1,rfl,F,hq,hst,hr.1,hq' _ (decide_eq_false hy)⟩) (λhT=>by cases hT) λ_=>?_
   refine wR (ts:=((rs.take i).filter λr=>!II fs k n v st r).map gQ) (gQ r) rfl (by omega) (λq hq=>⟨_,rfl,hq⟩) ?_
   refine ⟨.val (gQ r),?_⟩
   rw [et,gM,gM,bT,bT,bK (p:=II fs k n v st),if_neg (by rw [hb];decide),bK (p:=λr=>!II fs k n v st r),if_pos (by rw [hb];rfl),tG,tG,jW,fA]
   rfl
 ·obtain ⟨s6,rfl⟩:=hP
  rw [aB,dR]
  exact ⟨_,rfl,_,rfl,_,rfl,_,rfl,(aE rfl),h⟩

theorem aF0:cL P w K mg base fP 1 a_29 f_29 ["_law_form_here","_law_rows_here"] (bX K Y4):=by
 refine xC T.D_29.F ZV (λds Q h=>by obtain ⟨fs,an,rs,rfl,F,hok,hrl,h⟩:=h;rfl) λcdv Ar outer s H E hr ds Q h=>?_
 obtain ⟨fs,an,rs,rfl,F,hok,hrl,h⟩:=h
 have nd:=ZV.nd
 refine ⟨_,(bW (ss 2 nd (el (fr:=[none]) (N':=["_law_row"]) (fT (aK 1)) (λb=>⟨(dY (pk 0)),jA,(cH bI dE (aK 0) aM)⟩)))
 (cA (dJ (el (fr:=[none,some 2]) (N':=["_law_answer","_law_told"]) (fT (cH bI dE (aK 0) aM)) (λb=>⟨(dY (pk 0)),jA,(DX (aK 1) (aC (aK 0) aS) (λh ha=>nC dG EB D9 (DG hr) h ha))⟩))))),?_⟩
 show jI _ _ _ [.val (fX fs an),.val (.list (rs.map gQ)),.un]
 have a4:=F.a4
 refine eI (.list ((rs.map (·.1)).map λr=>aP r.2)) (λq hq=>?_) ?_
 ·refine iP (ts:=rs.map gQ) (λR h=>⟨_,rfl,_,rfl,h⟩) aIv (by rw [aB];omega) (λx q hx hq=>?_) ?_
  ·obtain ⟨r,hr,rfl⟩:=aQ.mp hx
   exact ⟨_,rfl,_,L2.gJ (j:=1) rfl,hq⟩
  ·rw [bG] at hq |-;exact hq
 have ll:=HD (ys:=(rs.map (·.1)).map λr=>r.2) λy hy=>by
  obtain ⟨r,hr,rfl⟩:=aQ.mp hy
  exact F.an.2.1 _ (hok r hr).2
 rw [bG] at ll
 refine (iP (ts:=an.map aP) (λR h=>⟨_,rfl,_,rfl,_,rfl,h⟩) (YA (rs.map (·.1))) (by rw [aB];omega) (λx q hx hq=>?_) ?_)
 ·obtain ⟨a,ha,rfl⟩:=aQ.mp hx
  have hA:=kQ (F.an.2.1 a ha) (n:=8) (m:=0) (aL _)
  refine ⟨_,rfl,_,rfl,_,rfl,_,rfl,⟨ll.1,hA.lay,by have:=hA.depth;omega⟩,?_⟩
  rw [AW];exact hq
 ·show Q _
  have e:(an.map aP).map (YA (rs.map (·.1)))=(nU an (rs.map (·.1))).map aO:=by
   unfold nU
   rw [bG,bG];rfl
  rw [e];exact h

theorem VX (dd:Nat)
  (F_21:cL P w K mg base fP 1 a_21 f_21 ["_law_tape_here","_law_many"] (fB K wE))
  (F_30:cL P w K mg base fP (2+dd) a_30 f_30 ["_law_tape_here","_law_form_here","_law_deep"] (fB K (sI dd))):cL P w K mg base fP (2+dd+1) a_30 f_30 ["_law_tape_here","_law_form_here","_law_deep"] (fB K (sI (dd+1))):=by
 refine fnC T.D_30.F ZU (λτ n ds Q h=>by obtain ⟨fs,an,k,rfl,F,hk,hc,h⟩:=h;rfl) λcdv Ar outer s H E hr Tp c ds Q hdig h=>?_
 obtain ⟨fs,an,k,rfl,F,hk,hc,h⟩:=h
 have nd:=ZU.nd
 refine ⟨_,(dA (A5 (QF (aEf (VO (dO iI kZ (aK 2) aM)) (aBd (AX iI kZ (cc (hk:=by omega) F_21 T.D_21 hr (bE (dL (aK 0)) (bE (dL aM) eD))) (dL aM)))))
 (kG (EQ (vP (bE (dL gB) (bE (xG bI dE (dL (cH bI dE (aK 1) aM)) (cc (hk:=by omega) F_21 T.D_21 hr (bE (dL (aK 0)) (bE (dL (cB iV (aC (cH bI dE (aK 1) aM) aS) cX T.b_len gO)) eD)))) eD)))))
 vC)
 (dA (aB3 (xG bI dE (dL (cH bI dE (aK 1) aM)) (cc (hk:=by omega) F_21 T.D_21 hr (bE (dL (aK 0)) (bE (dL (cB iV (aC (cH bI dE (aK 1) aM) aS) cX T.b_len gO)) eD)))) (tV (nJ rfl (dX (pn 3 nd) (dX (pn 4 nd) lL)))) (λhe hg=>E4 he hg))
 (dA (sC 5 nd (vP (bE (dL gB) (bE (dL (aK 3)) (bE (xG bI dE (dL (aK 4)) (cc (hk:=by omega) F_21 T.D_21 hr (bE (dL (aK 0)) (bE (dL (cB iV (aC (aK 4) aS) cX T.b_len gO)) eD)))) eD)))))
 (dA (A5 (AX iI kZ (cc (hk:=by omega) F_21 T.D_21 hr (bE (dL (aK 0)) (bE (dL aM) eD))) (dL aM))
 (kG (sC 5 nd (vP (bE (dL gB) (bE (dL (aK 3)) (bE (xG bI dE (dL (aK 4)) (cc (hk:=by omega) F_21 T.D_21 hr (bE (dL (aK 0)) (bE (dL (dD mG wT (cB iV (aC (aK 4) aS) cX T.b_len gO) aM)) eD)))) eD))))))
 vC)
 (dA (sC 6 nd (xG bI dE (dL (pS (aC gB (aC gB aS)))) (cc (hk:=by omega) F_21 T.D_21 hr (bE (dL (aK 0)) (bE (dL aM) eD)))))
 (kG (EQ (vP (bE (dL gB) (bE (dL (aK 5)) (bE (dL (aK 6)) (bE (cc (hk:=by omega) F_30 T.D_30 hr (bE (dL (aK 0)) (bE (dL (aK 1)) (bE (dL (dD mG wT (aK 2) aM)) eD)))) (bE (cc (hk:=by omega) F_30 T.D_30 hr (bE (dL (aK 0)) (bE (dL (aK 1)) (bE (dL (dD mG wT (aK 2) aM)) eD)))) eD))))))))))))),?_⟩
 show nV _ _ _ _ _ [.val (oZ Tp),.val (fX fs an),.val (.int k),.un,.un,.un,.un]
 have n1:=F.n1
 have n5:=F.n5
 have a2:=F.a2
 have a4:=F.a4
 have hal:((an.map aP).length:Int)=(an.length:Int):=by rw [aB]
 have hfl:((fs.map jT).length:Int)=(fs.length:Int):=by rw [aB]
 have t6:6<=AZ k:=by cases k with | zero=>exact aL _ | succ e=>exact Nat.le_add_right _ _
 refine UL (λm b=>m<=c+1/\(b=false->0<k)) (λq hq=>⟨_,rfl,?_⟩) (λm hm=>?_) λm hm=>?_
 ·show (if decide ((k:Int)=0)=true then q c true else _)
  by_cases hk0:(k:Int)=0
  ·rw [if_pos (decide_eq_true hk0)];exact hq _ _ ⟨by omega,λz=>by cases z⟩
  ·rw [if_neg (by simpa using hk0)]
   exact ⟨_,rfl,_,rfl,4,rfl,by decide,by decide,by omega,λr h0 h1=>hq _ _ ⟨by omega,λ_=>by omega⟩⟩
 ·obtain ⟨hm,_⟩:=hm
  refine ⟨_,rfl,_,rfl,_,rfl,_,rfl,_,rfl,_,rfl,((an.map aP).length:Int),rfl,by omega,by omega,by omega,λr h0 h1=>?_⟩
  obtain ⟨d,hdm,hda,_⟩:=rH (xs:=an.map aP) (i:=r) h0 h1
  obtain ⟨a,ha,rfl⟩:=aQ.mp hdm
  exact ⟨_,hda,(aE rfl),h _ (.say a) (by omega) ha (cS _)⟩
 ·obtain ⟨hm,hk0⟩:=hm
  have hk0:=hk0 rfl
  try unfold B1
  dsimp only
  refine X9 (λm' d=>m'<=c+2/\∃ f,f∈fs/\d=jT f) (λq hq=>⟨_,rfl,_,rfl,_,rfl,_,rfl,_,rfl,_,rfl,((fs.map jT).length:Int),rfl,by omega,by omega,by omega,λr h0 h1=>?_⟩) ?_
  ·obtain ⟨d,hdm,hda,_⟩:=rH (xs:=fs.map jT) (i:=r) h0 h1
   obtain ⟨f,hf,rfl⟩:=aQ.mp hdm
   exact ⟨_,hda,hq _ _ ⟨by omega,f,hf,rfl⟩⟩
  rintro m1 _ ⟨hm1,f,hf,rfl⟩
  obtain ⟨v2,v5,hvv⟩:=F.vs f hf
  have hvl:((f.2.map aP).length:Int)=(f.2.length:Int):=by rw [aB]
  refine ⟨.str f.1,.tuple (f.2.map aP),rfl,?_⟩
  refine iF (λm' d=>m'<=c+3/\∃ kk z:Str,MN fs (.tuple [.str kk,.str f.1,.str z])=true/\d=.tuple [.str kk,.str f.1,.str z]) (λq hq=>⟨_,rfl,_,rfl,_,rfl,_,rfl,_,rfl,((f.2.map aP).length:Int),rfl,by omega,by omega,by omega,λr h0 h1=>?_⟩) ?_
  ·obtain ⟨d,hdm,hda,_⟩:=rH (xs:=f.2.map aP) (i:=r) h0 h1
   obtain ⟨z,hz,rfl⟩:=aQ.mp hdm
   exact ⟨_,hda,(aE rfl),hq _ _ ⟨by omega,"is",z,aC7 hf hz,rfl⟩⟩
  rintro m2 _ ⟨hm2,kk,z,hq,rfl⟩
  refine HR True (λm'=>m'<=c+4) (λd=>∃ kk z:Str,MN fs (.tuple [.str kk,.str f.1,.str z])=true/\d=.tuple [.str kk,.str f.1,.str z]) (λq hq=>⟨_,rfl,_,rfl,2,rfl,by decide,by decide,by omega,λr h0 h1=>hq _ _ (by omega) λ_=>trivial⟩) _ rfl ⟨kk,z,hq,rfl⟩ (λm'=>m'<=c+5) (λ_ z=>by omega) (λm3 hm3 _ q hq=>⟨_,rfl,_,rfl,_,rfl,_,rfl,_,rfl,((f.2.map aP).length:Int)-1,rfl,by omega,by omega,by omega,λr h0 h1=>?_⟩) ?_
  ·obtain ⟨t,rfl⟩:=DE h0
   have ht:t+1<f.2.length:=by omega
   have hat:L2.atI (f.2.map aP) (t:Int)=some (.str f.2[t]):=sY (by omega)
   exact ⟨_,hat,(aE rfl),hq _ _ (by omega) ⟨"upto",f.2[t],TB hf (aH (by omega)) ht,rfl⟩⟩
  rintro m4 _ hm4 ⟨kk,z,hq,rfl⟩
  refine iF (λm' d=>m'<=c+6/\∃ s:Str,(s="yes"\/s="no")/\d=.str s) (λq hq=>⟨(aE rfl),_,rfl,_,rfl,2,rfl,by decide,by decide,by omega,λr h0 h1=>?_⟩) ?_
  ·obtain ⟨d,hdm,hda,_⟩:=rH (xs:=[aP "yes",.str "no"]) (i:=r) h0 h1
   simp only [aZ,dS,or_false] at hdm
   rcases hdm with rfl | rfl
   ·exact ⟨_,hda,hq _ _ ⟨by omega,_,.inl rfl,rfl⟩⟩
   ·exact ⟨_,hda,hq _ _ ⟨by omega,_,.inr rfl,rfl⟩⟩
  rintro m5 _ ⟨hm5,s,hs,rfl⟩
  obtain ⟨e,rfl⟩:∃ e,k=e+1:=⟨k-1,by omega⟩
  have ee:[fX fs an,aO (((e+1:Nat):Int)-1)]=[fX fs an,.int (e:Int)]:=by
   have:((e+1:Nat):Int)-1=(e:Int):=by omega
   rw [this]
  have et:AZ (e+1)=6+2*AZ e:=rfl
  rw [et] at hc h
  refine ⟨_,rfl,_,rfl,_,rfl,_,rfl,_,rfl,_,rfl,fs,an,e,ee,F,by omega,by omega,λn1 y hn1 hy hyd=>⟨_,rfl,_,rfl,_,rfl,_,rfl,fs,an,e,ee,F,by omega,by omega,λn2 m hn2 hm' hmd=>⟨(aE rfl),?_⟩⟩⟩
  exact h n2 (.ask kk f.1 z s y m) (by omega) ⟨hq,hs,hy,hm'⟩ (by show max y.dep m.dep+1<=e+1;omega)

theorem aFz
  (F_21:cL P w K mg base fP 1 a_21 f_21 ["_law_tape_here","_law_many"] (fB K wE)):cL P w K mg base fP 8 a_30 f_30 ["_law_tape_here","_law_form_here","_law_deep"] (fB K Y3):=by
 have h:∀ dd:Nat,cL P w K mg base fP (2+dd) a_30 f_30 ["_law_tape_here","_law_form_here","_law_deep"] (fB K (sI dd)):=λdd=>by
  induction dd with
  | zero=>exact XS O0 λτ n ds Q h=>SS h
  | succ dd ih=>exact VX T dd F_21 ih
 exact h 6
theorem VW (dd:Nat)
  (F_31:cL P w K mg base fP (0+dd) a_31 f_31 ["_law_tree_here"] (bX K (sG dd))):cL P w K mg base fP (0+dd+1) a_31 f_31 ["_law_tree_here"] (bX K (sG (dd+1))):=by
 refine xC T.D_31.F ZT (λds Q h=>by obtain ⟨t,rfl,hk,hd,h⟩:=h;rfl) λcdv Ar outer s H E hr ds Q h=>?_
 obtain ⟨t,rfl,hk,hd,h⟩:=h
 have nd:=ZT.nd
 refine ⟨_,(bW (iM (dO iI kZ (cH bI dE (aK 0) aM) gB)
 (cA (dJ aM))
 gW)
 (cA (dJ (dD dC iB (dD dC iB aM (cd (hk:=by omega) F_31 T.D_31 hr (aC (cH bI dE (aK 0) aM) aS))) (cd (hk:=by omega) F_31 T.D_31 hr (aC (cH bI dE (aK 0) aM) aS)))))),?_⟩
 show jI _ _ _ [.val (AA t)]
 cases t with
 | say a=>exact iA (λb=>b=true) (λq hq=>⟨_,rfl,_,rfl,hq _ (by decide +kernel)⟩) (λ_=>h) λhF=>by cases hF
 | ask k n v s y m =>
  have e1:(Tr.ask k n v s y m).dep=max y.dep m.dep+1:=rfl
  have e2:(Tr.ask k n v s y m).kn=y.kn+m.kn+1:=rfl
  rw [e1] at hd
  rw [e2] at hk
  refine iA (λb=>b=false) (λq hq=>⟨_,rfl,_,rfl,hq _ (by decide +kernel)⟩) (λhT=>by cases hT) λ_=>?_
  try unfold kB
  dsimp only
  refine ⟨_,rfl,_,rfl,y,rfl,by omega,by omega,_,rfl,_,rfl,m,rfl,by omega,by omega,?_⟩
  have e3:(1:Int)+(y.kn:Int)+(m.kn:Int)=(((Tr.ask k n v s y m).kn:Nat):Int):=by
   rw [e2];omega
  show Q (.int (1+(y.kn:Int)+(m.kn:Int)))
  rw [e3];exact h

theorem aFy:cL P w K mg base fP 7 a_31 f_31 ["_law_tree_here"] (bX K Q2):=by
 have h:∀ dd:Nat,cL P w K mg base fP (0+dd) a_31 f_31 ["_law_tree_here"] (bX K (sG dd)):=λdd=>by
  induction dd with
  | zero=>exact KB BO λds Q h=>SR h
  | succ dd ih=>exact VW T dd ih
 exact h 7
theorem VU (dd:Nat)
  (F_28:cL P w K mg base fP 2 a_28 f_28 ["_law_form_here","_law_question","_law_stray","_law_rows_here"] (bX K GK))
  (F_32:cL P w K mg base fP (2+dd) a_32 f_32 ["_law_form_here","_law_tree_here","_law_rows_here"] (bX K (sE dd))):cL P w K mg base fP (2+dd+1) a_32 f_32 ["_law_form_here","_law_tree_here","_law_rows_here"] (bX K (sE (dd+1))):=by
 refine xC T.D_32.F ZS (λds Q h=>by obtain ⟨fs,an,t,rs,rfl,F,ht,hd,hrs,hl,h⟩:=h;rfl) λcdv Ar outer s H E hr ds Q h=>?_
 obtain ⟨fs,an,t,rs,rfl,F,ht,hd,hrs,hl,h⟩:=h
 have nd:=ZS.nd
 refine ⟨_,(bW (iM (dO iI kZ (cH bI dE (aK 1) aM) gB)
 (cA (dJ (cB iV (aC (el (fr:=[none,some 1]) (N':=["_law_row","_law_tree_here"]) (fT (aK 2)) (λb=>⟨(dY (pk 0)),(J5 (dO DA OD (cH bI dE (aK 0) aM) (cH bI dE (aK 1) aM))),(aK 0)⟩)) aS) cX T.b_len gO)))
 gW)
 (bW (aBs (g:=λ_ _ _ _=>True) (cd (hk:=by omega) F_28 T.D_28 hr (aC (aK 0) (aC (cH bI dE (aK 1) aM) (aC (cH bI dE (aK 1) aM) (aC (aK 2) aS))))) (tV (nJ rfl (dX (pn 3 nd) (dX (pn 4 nd) lL)))) (λhe hg=>E4 he hg))
 (cA (dJ (dD dC iB (cd (hk:=by omega) F_32 T.D_32 hr (aC (aK 0) (aC (cH bI dE (aK 1) aM) (aC (aK 3) aS)))) (cd (hk:=by omega) F_32 T.D_32 hr (aC (aK 0) (aC (cH bI dE (aK 1) aM) (aC (aK 4) aS))))))))),?_⟩
 show jI _ _ _ [.val (fX fs an),.val (AA t),.val (.list (rs.map fR)),.un,.un]
 cases t with
 | say a =>
  refine iA (λb=>b=true) (λq hq=>⟨_,rfl,_,rfl,hq _ (by decide +kernel)⟩) (λ_=>?_) λhF=>by cases hF
  show mS (f1 aG4) _ _ _
  dsimp only [mS,B5,UV]
  refine BI (ts:=rs.map fR) (λR h=>⟨_,rfl,_,rfl,h⟩) (λx=>match x with | .tuple [_,.str b]=>!decide (b=a) | _=>false) id (by rw [aB];omega) (λx q hx hq=>?_) (λx q hx hq=>⟨_,rfl,hq⟩) ?_
  ·obtain ⟨r,hr,rfl⟩:=aQ.mp hx
   exact ⟨_,rfl,_,rfl,_,rfl,_,rfl,hq⟩
  ·rw [vA,tH]
   show Q (.int ((zM fR _).length:Nat))
   rw [aB]
   have e:jK fs (.say a) rs=(rs.filter ((λx:D=>match x with | .tuple [_,.str b]=>!decide (b=a) | _=>false) ∘ fR)).length:=by
    unfold jK
    congr 1
    refine kP λr _=>?_
    show (!decide (a=r.2))=(!decide (r.2=a))
    congr 1
    rw [decide_eq_decide]
    exact eq_comm
   rw [e] at h
   exact h
 | ask k n v s y m =>
  have e1:(Tr.ask k n v s y m).dep=max y.dep m.dep+1:=rfl
  rw [e1] at hd
  obtain ⟨hq,hs,hy,hm⟩:=ht
  refine iA (λb=>b=false) (λq hq=>⟨_,rfl,_,rfl,hq _ (by decide +kernel)⟩) (λhT=>by cases hT) λ_=>?_
  try unfold kB
  dsimp only
  refine V6 (a:=.list ((rs.filter (uR fs k n v s)).map fR)) (b:=.list ((rs.filter λr=>!uR fs k n v s r).map fR)) (λq hq'=>⟨_,rfl,_,rfl,_,rfl,_,rfl,_,rfl,_,rfl,GZ fs an k n v s rs F hq hs hrs hl hq'⟩) ?_
  have l1:=eK (uR fs k n v s) rs
  have l2:=eK (λr=>!uR fs k n v s r) rs
  refine ⟨_,rfl,_,rfl,_,rfl,_,rfl,fs,an,y,_,rfl,F,hy,by omega,hrs.filt _,by omega,_,rfl,_,rfl,_,rfl,_,rfl,fs,an,m,_,rfl,F,hm,by omega,hrs.filt _,by omega,?_⟩
  rw [wF] at h
  exact h

theorem aFx
  (F_28:cL P w K mg base fP 2 a_28 f_28 ["_law_form_here","_law_question","_law_stray","_law_rows_here"] (bX K GK)):cL P w K mg base fP 9 a_32 f_32 ["_law_form_here","_law_tree_here","_law_rows_here"] (bX K Q1):=by
 have h:∀ dd:Nat,cL P w K mg base fP (2+dd) a_32 f_32 ["_law_form_here","_law_tree_here","_law_rows_here"] (bX K (sE dd)):=λdd=>by
  induction dd with
  | zero=>exact KB BO λds Q h=>SQ h
  | succ dd ih=>exact VU T dd F_28 ih
 exact h 7
theorem aFw
  (F_21:cL P w K mg base fP 1 a_21 f_21 ["_law_tape_here","_law_many"] (fB K wE)):cL P w K mg base fP 2 a_33 f_33 ["_law_tape_here"] (fB K Y2):=by
 refine fnC T.D_33.F ZR (λτ n ds Q h=>by obtain ⟨rfl,hc,h⟩:=h;rfl) λcdv Ar outer s H E hr Tp c ds Q hdig h=>?_
 obtain ⟨rfl,hc,h⟩:=h
 have nd:=ZR.nd
 refine ⟨_,(dA (mW (LK (i:=1) nd rfl (by first | exact Or.inl rfl | exact Or.inr rfl) (pS (aC (dZ (aC aM (aC aM aS))) (aC (dZ (aC aM (aC aM aS))) (aC (dZ (aC aM (aC aM aS))) (aC (dZ (aC aM (aC aM aS))) (aC (dZ (aC aM (aC aM aS))) (aC (dZ (aC aM (aC aM aS))) (aC (dZ (aC (dD SC CD aM aM) (aC aM aS))) (aC (dZ (aC aM (aC (dD SC CD aM aM) aS))) aS)))))))))))
 (dA (sC 1 nd (D0 dC iB (dL (aK 1)) (aDe (bE (vP (bE (cc F_21 T.D_21 hr (bE (dL (aK 0)) (bE (dL aM) eD))) (bE (cc F_21 T.D_21 hr (bE (dL (aK 0)) (bE (dL aM) eD))) eD))) (bE (dL (dZ (aC aM (aC aM aS)))) eD)))))
 (kG (EQ (xG bI dE (dL (aK 1)) (cc F_21 T.D_21 hr (bE (dL (aK 0)) (bE (dL aM) eD)))))))),?_⟩
 show nV _ _ _ _ _ [.val (oZ Tp),.un]
 have pw:aD3 10 6:=by unfold aD3;decide
 refine iU (eI (.list ([(1,0),(0,1),(3,1),(1,1),(2,3),(0,0),(10 ^ 6,1),(1,10 ^ 6)].map λp:Int×Int=>.tuple [.int p.1,.int p.2])) (λq hq=>⟨(aE rfl),(aE rfl),(aE rfl),(aE rfl),(aE rfl),(aE rfl),pw,(aE rfl),pw,(aE rfl),(aE rfl),hq⟩) ?_)
 refine iF (λn1 d=>n1=c+2/\∃ ps:List (Int×Int),ps.length=10/\(∀ p∈ps,(0<=p.1/\p.1<=1000000)/\0<=p.2/\p.2<=1000000)/\d=.list (ps.map λp:Int×Int=>.tuple [.int p.1,.int p.2])) (λq hq=>⟨_,rfl,_,rfl,_,rfl,12,rfl,by decide,by decide,by omega,λr h0 h1=>⟨_,rfl,_,rfl,6,rfl,by decide,by decide,by omega,λs g0 g1=>⟨(aE rfl),(aE rfl),(aE rfl),(aE rfl),hq _ _ ⟨rfl,[(1,0),(0,1),(3,1),(1,1),(2,3),(0,0),(10 ^ 6,1),(1,10 ^ 6),(r,s),(7,2)],rfl,λp hp=>?_,rfl⟩⟩⟩⟩) ?_
 ·simp only [aZ,dS,or_false] at hp
  rcases hp with rfl | rfl | rfl | rfl | rfl | rfl | rfl | rfl | rfl | rfl<;>(refine ⟨⟨?_,?_⟩,?_,?_⟩<;>first | decide | (show (0:Int)<=r;exact h0) | (show r<=1000000;omega) | (show (0:Int)<=s;exact g0) | (show s<=1000000;omega))
 rintro c1 _ ⟨hc1,ps,hl,hp,rfl⟩
 refine ⟨_,rfl,_,rfl,_,rfl,10,rfl,by decide,by decide,by omega,λr h0 h1=>?_⟩
 obtain ⟨d,hdm,hda,_⟩:=rH (xs:=ps.map λp:Int×Int=>eY [.int p.1,.int p.2]) (i:=r) h0 (by rw [aB,hl];exact h1)
 obtain ⟨p,hpm,rfl⟩:=aQ.mp hdm
 exact ⟨_,hda,h _ p.1 p.2 (by omega) (hp p hpm).1.1 (hp p hpm).1.2 (hp p hpm).2.1 (hp p hpm).2.2⟩

theorem aFv
  (F_29:cL P w K mg base fP 1 a_29 f_29 ["_law_form_here","_law_rows_here"] (bX K Y4)):cL P w K mg base fP 2 a_34 f_34 ["_law_form_here","_law_rows_here","_law_slip"] (bX K Q0):=by
 refine xC T.D_34.F ZQ (λds Q h=>by obtain ⟨fs,an,fa,rs,a,rfl,F,hfa,hok,hl,ha0,ha1,h⟩:=h;rfl) λcdv Ar outer s H E hr ds Q h=>?_
 obtain ⟨fs,an,fa,rs,a,rfl,F,hfa,hok,hl,ha0,ha1,h⟩:=h
 have nd:=ZQ.nd
 refine ⟨_,(cA (dJ (dD gZ oI (aK 2) (dD mG wT (cB iV (aC (aK 1) aS) cX T.b_len gO) (cB UQ (aC (cd F_29 T.D_29 hr (aC (aK 0) (aC (aK 1) aS))) aS) (pV rfl) T.b_max KM))))),?_⟩
 have a2:=F.a2
 have hf:=hfa _ hok
 have hcl:(nU an (rs.map (·.1))).length=an.length:=by unfold nU;rw [aB]
 refine ⟨_,rfl,_,rfl,_,rfl,_,rfl,fs,an,rs,rfl,F,hok,hl,nU an (rs.map (·.1)),rfl,?_,λm hm hx=>?_⟩
 ·intro z
  have:=congrArg iG z
  rw [hcl,oC] at this
  omega
 ·have em:=ME hf hm hx
  subst em
  have e1:=sJ (fs:=fs) (rs.map (·.1)) (fa (rs.map (·.1)))
  have e2:=AF (rs.map (·.1)) (fa (rs.map (·.1)))
  have e3:(((rs.map gQ).length:Nat):Int)-(zF (rs.map (·.1)) (fa (rs.map (·.1))):Int)=((jK fs (.say (fa (rs.map (·.1)))) (rs.map (·.1)):Nat):Int):=by
   rw [aB] at e2 |-
   rw [e1];omega
  show K0 a ((((rs.map gQ).length:Nat):Int)-(zF (rs.map (·.1)) (fa (rs.map (·.1))):Int))/\Q (.int (a*((((rs.map gQ).length:Nat):Int)-(zF (rs.map (·.1)) (fa (rs.map (·.1))):Int))))
  rw [e3]
  exact ⟨.inl ⟨by omega,by omega⟩,h⟩

theorem aFt:cL P w K mg base fP 1 a_36 f_36 ["_law_rows_here"] (bX K Y0):=by
 refine xC T.D_36.F ZO (λds Q h=>by obtain ⟨rs,ns,rfl,hns,hl,h⟩:=h;rfl) λcdv Ar outer s H E hr ds Q h=>?_
 obtain ⟨rs,ns,rfl,hns,hl,h⟩:=h
 have nd:=ZO.nd
 refine ⟨_,(cA (dJ (cY rG (aC (el (fr:=[none]) (N':=["_law_row"]) (fT (aK 0)) (λb=>⟨(dY (pk 0)),jA,(cH bI dE (aK 0) aM)⟩)) aS) jB T.b_tuple iW))),?_⟩
 show mS (f1 FG) _ _ _
 dsimp only [mS,B5,UV]
 have hgl:=DU rs ns
 have hnl:=hns.len
 refine iP (ts:=(fY rs ns).map gQ) (λR h=>⟨_,rfl,_,rfl,h⟩) aEg (by rw [aB];omega) (λx q hx hq=>?_) ?_
 ·obtain ⟨r,hr,rfl⟩:=aQ.mp hx
  obtain ⟨i,hi,e,_⟩:=DS hr
  obtain ⟨r1,r2⟩:=r
  dsimp only at e
  subst e
  exact ⟨_,rfl,_,rfl,hq⟩
 ·rw [DR λi hi=>hns.lt hi]
  exact h

theorem aFu
  (F_28:cL P w K mg base fP 2 a_28 f_28 ["_law_form_here","_law_question","_law_stray","_law_rows_here"] (bX K GK))
  (F_26:cL P w K mg base fP 1 a_26 f_26 ["_law_form_here"] (bX K LN)):cL P w K mg base fP 3 a_35 f_35 ["_law_form_here","_law_rows_here"] (bX K Y1):=by
 refine xC T.D_35.F ZP (λds Q h=>by obtain ⟨fs,an,rs,rfl,F,hok,hl,hth,h⟩:=h;rfl) λcdv Ar outer s H E hr ds Q h=>?_
 obtain ⟨fs,an,rs,rfl,F,hok,hl,hth,h⟩:=h
 have nd:=ZP.nd
 refine ⟨_,(bW (so 2 nd aS)
 (bW (sf (fT (cd F_26 T.D_26 hr (aC (aK 0) aS))) (dY (pn 3 nd))
 (cA (sf (fT (dZ (aC gB (aC gB aS)))) (dY (pn 4 nd))
 (bW (ss 5 nd (cd F_28 T.D_28 hr (aC (aK 0) (aC (aK 3) (aC (aK 4) (aC (aK 1) aS))))))
 (cA (iM (dO (qZ hr) vF (pS aS) (aK 5))
 (cA (A1 (i:=2) (pv 2) (aK 5) (pb:=λh=>pD (nC dG hW hV mX (pv 2) h))))
 gW))))))
 (rZ 2 (cA (dJ (aK 2)))))),?_⟩
 show jI _ _ _ [.val (fX fs an),.val (.list (rs.map gQ)),.un,.un,.un,.un]
 have n5:=F.n5
 have hcl:=jU F fs λg hg=>hg
 have hql:(qs fs).length=(fH fs).length:=by rw [<- qX,aB]
 have two:∀ l:List Qn,(l.flatMap uJ).length=2*l.length:=λl=>by
  induction l with
  | nil=>rfl
  | cons x l ih=>rw [zN,bL,ih];show 2+_=2*(l.length+1);omega
 refine qV [] (by decide) (λq hq=>hq) ?_
 refine jP (ts:=(qs fs).map qD) (λR h=>⟨_,rfl,fs,an,rfl,F,_,rfl,h⟩)
  (λk σ=>∃ s3 s4 s5:Sl,σ=[.val (fX fs an),.val (.list (rs.map gQ)),.own (((((qs fs).take k).flatMap uJ).filter (eJ fs (rs.map (·.1)))).map (wB fs rs)),s3,s4,s5]) ⟨_,_,_,rfl⟩ (λk x σ' hx hP=>?_) λσ' hP=>?_
 ·obtain ⟨s3,s4,s5,rfl⟩:=hP
  rw [aI] at hx
  obtain ⟨q0,hqk,rfl⟩:=bU.mp hx
  have hqm:=aV hqk
  have hk:k<(qs fs).length:=(aG.mp hqk).1
  have hfl:(((qs fs).take k).flatMap uJ).length<=100:=by rw [two,bC];omega
  generalize hL:((qs fs).take k).flatMap uJ=L at hfl |-
  refine T1 (ts:=[.str "yes",.str "no"]) (λR h=>⟨(aE rfl),_,rfl,h⟩)
   (λi σ=>∃ s4 s5:Sl,σ=[.val (fX fs an),.val (.list (rs.map gQ)),.own (((L++(uJ q0).take i).filter (eJ fs (rs.map (·.1)))).map (wB fs rs)),.val (qD q0),s4,s5]) ⟨s4,s5,by simp⟩ (λi x σ' hx hP=>?_) λσ' hP=>?_
  ·obtain ⟨s4,s5,rfl⟩:=hP
   have hi:i<2:=(aG.mp hx).1
   obtain ⟨st,hst,htk,rfl⟩:∃ st:Str,(st="yes"\/st="no")/\(uJ q0)[i]?=some (q0,st)/\x=.str st:=by
    rcases (show i=0\/i=1 by omega) with rfl | rfl
    ·cases hx;exact ⟨"yes",.inl rfl,rfl,rfl⟩
    ·cases hx;exact ⟨"no",.inr rfl,rfl,rfl⟩
   have htl:((uJ q0).take i).length<=2:=by rw [bC];show min i 2<=2;omega
   have hll:(((L++(uJ q0).take i).filter (eJ fs (rs.map (·.1)))).map (wB fs rs)).length<=102:=by
    rw [aB]
    refine cM (eK _ _) ?_
    rw [bL];omega
   have eA:((rs.map (·.1)).filter (zQ fs (q0,st)))=(rs.filter λr=>zQ fs (q0,st) r.1).map (·.1):=by rw [tH];rfl
   have eB:((rs.map (·.1)).filter λr=>!zQ fs (q0,st) r)=(rs.filter λr=>!zQ fs (q0,st) r.1).map (·.1):=by rw [tH];rfl
   have ep:eJ fs (rs.map (·.1)) (q0,st)=!CN (.list []) (wB fs rs (q0,st)):=by
    unfold eJ
    rw [show yR fs (q0,st) (rs.map (·.1))=_ from eA,show nR fs (q0,st) (rs.map (·.1))=_ from eB]
    show _=!(cP (.list ((rs.filter λr=>zQ fs (q0,st) r.1).map gQ)) (.list []) || (cP (.list ((rs.filter λr=>!zQ fs (q0,st) r.1).map gQ)) (.list []) || false))
    cases (rs.filter λr=>zQ fs (q0,st) r.1)<;>cases (rs.filter λr=>!zQ fs (q0,st) r.1)<;>rfl
   have thF:∀ p:Rg->Bool,Th 13000 3 (.list ((rs.filter p).map gQ)):=λp=>QP 200 2 60 (λt ht=>by
    obtain ⟨r,hr,rfl⟩:=aQ.mp ht
    exact hth r (bY.mp hr).1) (by rw [aB];exact cM (eK _ _) hl) (by decide) (by decide)
   have t1:=thF λr=>zQ fs (q0,st) r.1
   have t2:=thF λr=>!zQ fs (q0,st) r.1
   have d1:=t1.depth
   have d2:=t2.depth
   refine eI (wB fs rs (q0,st)) (λq hq=>⟨_,rfl,_,rfl,_,rfl,_,rfl,fs,an,q0.1,q0.2.1,q0.2.2,st,rs,rfl,F,E1 hqm,hst,hok,hl,hq⟩) ?_
   have et:(L++(uJ q0).take (i+1)).filter (eJ fs (rs.map (·.1)))=(L++(uJ q0).take i).filter (eJ fs (rs.map (·.1)))++(if eJ fs (rs.map (·.1)) (q0,st)=true then [(q0,st)] else []):=by
    rw [dM,htk,<- qP,gM]
    congr 1
    show List.filter _ [(q0,st)]=_
    rw [bK];rfl
   refine nK (λb=>b=eJ fs (rs.map (·.1)) (q0,st)) (λq hq=>⟨(aE rfl),_,rfl,?_,?_⟩) (λhT=>?_) λhF=>?_
   ·refine ⟨?_,rfl,cM (rV _ _) (by decide)⟩
    show (CG _ && (CG _ && true))=true
    rw [t1.lay,t2.lay];rfl
   ·show q (!CN _ _)
    rw [<- ep];exact hq _ rfl
   ·refine wR (wB fs rs (q0,st)) rfl (by omega) (λq hq=>⟨_,rfl,hq⟩) ⟨.val (.str st),.val (wB fs rs (q0,st)),?_⟩
    rw [et,if_pos hT.symm,bT];rfl
   ·refine ⟨.val (.str st),.val (wB fs rs (q0,st)),?_⟩
    rw [et,if_neg (by rw [<- hF];decide),fA];rfl
  ·obtain ⟨s4,s5,rfl⟩:=hP
   refine ⟨.val (qD q0),s4,s5,?_⟩
   rw [dM,hqk]
   show _=[_,_,Sl.own (((((qs fs).take k++[q0]).flatMap uJ).filter (eJ fs (rs.map (·.1)))).map (wB fs rs)),_,_,_]
   rw [PX,hL];rfl
 ·obtain ⟨s3,s4,s5,rfl⟩:=hP
  rw [aB,dR]
  exact ⟨_,rfl,_,rfl,h⟩

theorem aFs
  (F_34:cL P w K mg base fP 2 a_34 f_34 ["_law_form_here","_law_rows_here","_law_slip"] (bX K Q0))
  (F_36:cL P w K mg base fP 1 a_36 f_36 ["_law_rows_here"] (bX K Y0))
  (F_35:cL P w K mg base fP 3 a_35 f_35 ["_law_form_here","_law_rows_here"] (bX K Y1)):cL P w K mg base fP 4 a_37 f_37 ["_law_form_here","_law_rows_here","_law_prices_here","_law_table"] (bX K QZ):=by
 refine xC T.D_37.F ZN (λds Q h=>by obtain ⟨fs,an,fa,rs,a,b,ns,dp,ks,rfl,S,hl,hG,h⟩:=h;rfl) λcdv Ar outer s H E hr ds Q h=>?_
 obtain ⟨fs,an,fa,rs,a,b,ns,dp,ks,rfl,S,hl,hG,h⟩:=h
 have nd:=ZN.nd
 refine ⟨_,(bW (sn 4 nd)
 (bW (sf (fT (aK 3)) (tU (nJ rfl (dX (pn 5 nd) (dX (pn 6 nd) (dX (pn 7 nd) lL)))))
 (bW (ss 8 nd (pT (nL (SD hr) vF (aK 5) (dZ aS)) (pT (nL (SE hr) vF (cY KK (aC (aK 5) aS) rF T.b_list tZ) (T6 (aK 5) (pc:=λh=>lD (KI rfl) rfl T.b_sorted PL (fL (jH (PB rfl) rfl T.b_set aDp h) iZ)))) (pT (T8 aAp aAp rA rA aM (aK 6) aM) (sU (nL L9 rA (aK 7) aM))))))
 (bW (iM (rM (nO (oF (tv (aK 8))) (nO (dO G4 rA (cH bI dE (aK 5) aM) aM) (nO (dO L9 rA (cH bI dE (aK 5) (FJ aM)) (cB iV (aC (aK 1) aS) cX T.b_len gO)) (pM (VL (i:=4) (aCq hr.u9) (pv 4) (dZ (aC (aK 5) (aC (aK 6) aS)))))))))
 (cA (dJ lV))
 gW)
 (cA (QW (i:=4) hr.u9 (pv 4) (dZ (aC (aK 5) (aC (aK 6) aS))) (aK 7))))))
 (tL 4 (bW (sf (XE (aK 4)) (tV (nJ rfl (dX (pn 5 nd) (dX (pn 6 nd) lL))))
 (bW (A0 (i:=9) (fr:=[none,some 1]) (N':=["_law_k","_law_rows_here"]) (fT (aK 5)) (λb=>⟨(dY (pk 0)),jA,(dZ (aC (cH bI dE (cH bI dE (aK 1) (aK 0)) aM) (aC (cH bI dE (cH bI dE (aK 1) (aK 0)) aM) (aC (aK 0) aS))))⟩) (λhi hY=>xX (show uT _ (bQ (iY 45)) ["_law_form_here","_law_rows_here","_law_prices_here","_law_table","_law_costs","_law_numbers_here","_law_deep","_law_cost","_law_right_here","_law_some","_law_sides","_law_least_cost","_law_side_here"] ["_law_k","_law_rows_here"] [none,some 1]=true from by decide +kernel) nd rfl (by first | exact Or.inl rfl | exact Or.inr rfl) rfl hi hY rfl))
 (bW (iM (dO yV rA (xF (w:=w) rfl hr.u9 (aK 4) (dZ (aC (aK 5) (aC (aK 6) aS)))) (cd F_34 T.D_34 hr (aC (aK 0) (aC (aK 9) (aC (cH bI dE (aK 2) aM) aS)))))
 (cA (dJ lV))
 gW)
 (cA (sf (fT (cd F_35 T.D_35 hr (aC (aK 0) (aC (aK 9) aS)))) (dY (pn 10 nd))
 (bW (ss 11 nd (cH bI dE (aK 2) aM))
 (bW (sf (fT (aK 10)) (dY (pn 12 nd))
 (cA (iM (dO (SE hr) vF (aK 6) aM)
 (cA (ss 11 nd (dD dC iB (aK 11) (cd F_34 T.D_34 hr (aC (aK 0) (aC (aK 12) (aC (cH bI dE (aK 2) aM) aS)))))))
 (cA (iM (dO (N9 hr.u9) (aGn true) (dZ (aC (cd F_36 T.D_36 hr (aC (aK 12) aS)) (aC (dD mG wT (aK 6) aM) aS))) (aK 4))
 (cA (dJ lV))
 (cA (ss 11 nd (dD dC iB (aK 11) (xF (w:=w) rfl hr.u9 (aK 4) (dZ (aC (cd F_36 T.D_36 hr (aC (aK 12) aS)) (aC (dD mG wT (aK 6) aM) aS))))))))))))
 (cA (iM (dO yV rA (xF (w:=w) rfl hr.u9 (aK 4) (dZ (aC (aK 5) (aC (aK 6) aS)))) (aK 11))
 (cA (dJ lV))
 gW)))))))))
 (cA (dJ lV)))))),?_⟩
 show jI _ _ _ [.val (fX fs an),.val (.list (rs.map fR)),.val (.tuple [.int a,.int b]),.val (.list (ks.map (oV fs fa a b rs))),.un,.un,.un,.un,.un,.un,.un,.un,.un]
 have ff:¬ (false=true):=bA
 obtain ⟨hnd,hlen,hok,hin,hcl⟩:=hG
 have kok:∀ l:List (List Nat×Nat),∀ kv∈KV fs fa a b rs l,jL kv.1:=λl kv hkv=>by
  obtain ⟨x,_,rfl⟩:=aQ.mp hkv
  exact (kR x.1 x.2).1
 have kvk:∀ l:List (List Nat×Nat),(KV fs fa a b rs l).map (·.1)=l.map lE:=λl=>by unfold KV;rw [bG];rfl
 refine wH (w:=w) (show 4<13 by decide) (λj hs kvs hj=>?_) ?_
 ·rcases j with _ | _ | _ | _ | _ | _ | _ | _ | _ | _ | _ | _ | _ | j<;>simp at hj
 refine jP (ts:=ks.map (oV fs fa a b rs)) (λR h=>⟨_,rfl,_,rfl,h⟩)
  (λk σ=>∃ s5 s6 s7 s8:Sl,σ=[.val (fX fs an),.val (.list (rs.map fR)),.val (.tuple [.int a,.int b]),.val (.list (ks.map (oV fs fa a b rs))),rC w (KV fs fa a b rs (ks.take k)),s5,s6,s7,s8,.un,.un,.un,.un]) ⟨_,_,_,_,rfl⟩ (λk x σ' hx hP=>?_) λσ' hP=>?_
 ·obtain ⟨s5,s6,s7,s8,rfl⟩:=hP
  rw [aI] at hx
  obtain ⟨⟨y,e⟩,hyk,rfl⟩:=bU.mp hx
  have hkl:k<ks.length:=(aG.mp hyk).1
  obtain ⟨hyo,he1,he3,hye⟩:=hok _ (aV hyk)
  dsimp only at hyo he1 he3 hye
  have hyl:=hyo.len
  have hns:=AJ y
  have hc0:0<=(dW fs fa a b e (bJ rs y)).1:=AQ S.a0 S.b0 e _
  have eL:eY ((y.map gX).map aO)=fN y:=by unfold fN;rw [bG];rfl
  have hri:y.Pairwise (·<·):=rX.sublist hyo
  refine ⟨_,_,_,rfl,?_⟩
  refine eI (.bool true) (λq hq=>?_) ?_
  ·refine ⟨_,rfl,(aE rfl),⟨qI y,rfl,cM (rV _ _) (by decide)⟩,?_⟩
   show (if (!cP (fN y) (.tuple []))=true then _ else q (.bool false))
   rw [HN hye,if_pos (by decide)]
   refine ⟨_,rfl,_,rfl,y,eL.symm,λi hi=>by have:=hyo.lt hi;omega,hri,by omega,⟨qI y,by rw [bG];exact qI y,?_⟩,?_⟩
   ·refine cM (Nat.min_le_left _ _) ?_
    show cD (y.map λ(i:Nat)=>aO (i:Int))+1<=60
    rw [(xA y).2];decide
   ·have ev:cP (.list (y.map λ(i:Nat)=>aO (i:Int))) (.list ((y.map gX).map aO))=true:=by rw [bG];exact PySem.SeqAt.eqv_refl _ (qI y)
    show (if cP (.list (y.map λ(i:Nat)=>aO (i:Int))) (.list ((y.map gX).map aO))=true then _ else q (.bool false))
    rw [if_pos ev]
    refine ⟨_,rfl,?_⟩
    show (if decide ((1:Int)<=((e:Nat):Int))=true then _ else _)
    rw [if_pos (decide_eq_true (show (1:Int)<=((e:Nat):Int) by omega))]
    show (if decide (((e:Nat):Int)<=3)=true then _ else _)
    rw [if_pos (decide_eq_true (show ((e:Nat):Int)<=3 by omega))]
    refine ⟨_,rfl,?_⟩
    show q (.bool (decide ((0:Int)<=_)))
    rw [decide_eq_true hc0];exact hq
  ·have hkeys:lE (y,e)∉(KV fs fa a b rs (ks.take k)).map (·.1):=λz=>by
    rw [kvk] at z
    obtain ⟨x,hx,ex⟩:=aQ.mp z
    have:x=(y,e):=BJ _ _ ex
    subst this
    obtain ⟨j,hj⟩:=bZ hx
    have hjl:=(aG.mp hj).1
    rw [bC] at hjl
    rw [gK,if_pos (by omega)] at hj
    have:=wU hnd hj hyk
    omega
   have hkvl:(KV fs fa a b rs (ks.take k)).length<=400:=by unfold KV;rw [aB,bC];omega
   refine iA (λz=>z=false) (λq hq=>⟨_,rfl,?_⟩) (λhT=>by cases hT) λ_=>?_
   ·show (if (!true)=true then q true else _)
    rw [if_neg (by decide)]
    obtain ⟨i0,il,g0,g1,hil⟩:=SK hye λi hi=>hyo.lt hi
    refine ⟨_,rfl,_,g0,?_⟩
    show (if decide (((i0:Nat):Int)<0)=true then q true else _)
    rw [if_neg (λz=>by have:=of_decide_eq_true z;omega)]
    refine ⟨_,rfl,_,g1,_,rfl,?_⟩
    show (if decide ((((rs.map fR).length:Nat):Int)<=((il:Nat):Int))=true then q true else _)
    rw [if_neg (λz=>by have:=of_decide_eq_true z;rw [aB] at this;omega)]
    refine ⟨_,rfl,_,rfl,(aE rfl),_,rfl,kR y e,kok _,λz hz=>?_⟩
    cases z with
    | true=>exact absurd (hz.mp rfl) hkeys
    | false=>exact hq _ rfl
   try unfold kB
   dsimp only
   refine ⟨_,rfl,_,rfl,_,rfl,_,rfl,(aE rfl),kR y e,kok _,by omega,?_⟩
   refine ⟨.val (fN y),.val (.int (e:Nat)),.val (.int (dW fs fa a b e (bJ rs y)).1),.val (.bool true),?_⟩
   rw [show eY [fN (y,e).1,aO (((y,e).2:Nat):Int)]=lE (y,e) from rfl,LZ hkeys,dM,hyk]
   unfold KV
   show _=[_,_,_,_,rC w ((ks.take k++[(y,e)]).map _),_,_,_,_,_,_,_,_]
   rw [bT];rfl
 ·obtain ⟨s5,s6,s7,s8,rfl⟩:=hP
  rw [aB,dR]
  refine ⟨_,_,rfl,?_⟩
  show jI _ _ _ [.val (fX fs an),.val (.list (rs.map fR)),.val (.tuple [.int a,.int b]),.val (.list (ks.map (oV fs fa a b rs))),.val (lY w (KV fs fa a b rs ks)),s5,s6,s7,s8,.un,.un,.un,.un]
  have thG:∀ ns:List Nat,mM rs ns->∀ r∈fY rs ns,Th 200 2 (gQ r):=λns hn r hr=>VN S.F S.R hn (by omega) hr
  have okG:∀ ns:List Nat,iD fs an ((fY rs ns).map (·.1)):=λns=>by rw [tW];exact LS S.R ns
  have lenG:∀ ns:List Nat,mM rs ns->(fY rs ns).length<=60:=λns hn=>by have:=DU rs ns;have:=hn.len;omega
  refine jP (ts:=ks.map lE) (λR h=>⟨_,rfl,KV fs fa a b rs ks,rfl,by rw [kvk];exact h⟩)
   (λk σ=>∃ s5 s6 s7 s8 s9 s10 s11 s12:Sl,σ=[.val (fX fs an),.val (.list (rs.map fR)),.val (.tuple [.int a,.int b]),.val (.list (ks.map (oV fs fa a b rs))),.val (lY w (KV fs fa a b rs ks)),s5,s6,s7,s8,s9,s10,s11,s12]) ⟨_,_,_,_,_,_,_,_,rfl⟩ (λk x σ' hx hP=>?_) λσ' hP=>?_
  ·obtain ⟨s5,s6,s7,s8,s9,s10,s11,s12,rfl⟩:=hP
   rw [aI] at hx
   obtain ⟨⟨y,e⟩,hyk,rfl⟩:=bU.mp hx
   have hym:=aV hyk
   obtain ⟨hyo,he1,he3,hye⟩:=hok _ hym
   dsimp only at hyo he1 he3 hye
   obtain ⟨d,rfl⟩:∃ d,e=d+1:=⟨e-1,by omega⟩
   have hget:(CM y (d+1),aO (dW fs fa a b (d+1) (bJ rs y)).1)∈KV fs fa a b rs ks:=aQ.mpr ⟨_,hym,rfl⟩
   refine ⟨_,_,rfl,?_⟩
   refine eI (.list ((fY rs y).map gQ)) (λq hq=>?_) ?_
   ·rw [<- MR λi hi=>hyo.lt hi] at hq
    refine iP (ts:=y.map λ(i:Nat)=>aO (i:Int)) (λR h=>⟨_,rfl,_,rfl,h⟩) (gF rs) (by rw [aB];have:=hyo.len;omega) (λx q hx hq=>?_) hq
    obtain ⟨i,hi,rfl⟩:=aQ.mp hx
    have hil:=hyo.lt hi
    have ei:L2.atI (rs.map fR) ((i:Nat):Int)=some (fR rs[i]):=L2.gJ (by rw [aI,aH hil];rfl)
    have eg:gF rs (.int ((i:Nat):Int))=.tuple [.tuple rs[i].1,.str rs[i].2,.int ((i:Nat):Int)]:=by
     unfold gF
     dsimp only
     rw [eG,aH hil];rfl
    rw [eg] at hq
    exact ⟨_,rfl,_,rfl,_,ei,_,rfl,_,rfl,_,rfl,_,ei,_,rfl,_,rfl,(aE rfl),hq⟩
   have hbl:=uA (fs:=fs) (fa:=fa) (a:=a) (b:=b) (d+1) (bJ rs y)
   refine iA (λz=>z=false) (λq hq=>⟨_,rfl,_,rfl,_,rfl,(aE rfl),KV fs fa a b rs ks,rfl,kR y (d+1),kok _,_,hget,?_⟩) (λhT=>by cases hT) λ_=>?_
   ·refine ⟨_,rfl,_,rfl,_,rfl,_,rfl,fs,an,fa,fY rs y,a,rfl,S.F,S.fa,okG y,lenG y hyo,S.a0,S.a1,?_⟩
    rw [tW]
    exact hq _ (decide_eq_false (by omega))
   try unfold kB
   dsimp only
   have hR:(fY rs y).map (·.1)=bJ rs y:=tW rs y
   refine T1 (ts:=((mR fs).filter (eJ fs (bJ rs y))).map (wB fs (fY rs y))) (λR h=>⟨_,rfl,_,rfl,fs,an,fY rs y,rfl,S.F,okG y,lenG y hyo,thG y hyo,by rw [hR];exact ⟨_,rfl,h⟩⟩)
    (λk σ=>∃ s7 s8 s10 s11 s12:Sl,σ=[.val (fX fs an),.val (.list (rs.map fR)),.val (.tuple [.int a,.int b]),.val (.list (ks.map (oV fs fa a b rs))),.val (lY w (KV fs fa a b rs ks)),.val (fN y),.val (.int ((d+1:Nat):Int)),s7,s8,.val (.list ((fY rs y).map gQ)),s10,s11,s12]) ⟨_,_,_,_,_,rfl⟩ (λk x σ' hx hP=>?_) λσ' hP=>?_
   ·obtain ⟨s7,s8,s10,s11,s12,rfl⟩:=hP
    rw [aI] at hx
    obtain ⟨c,hck,rfl⟩:=bU.mp hx
    obtain ⟨hcm,hcp⟩:=bY.mp (aV hck)
    obtain ⟨ry,rn⟩:=ES (fs:=fs) (c:=c) λi hi=>hyo.lt hi
    have gy:(fY rs y).filter (λr=>zQ fs c r.1)=fY rs (yN fs rs c y):=vM rs (zQ fs c) (U5 fs rs c) y λi _ r hr=>by unfold U5;rw [hr]
    have gn:(fY rs y).filter (λr=>!zQ fs c r.1)=fY rs (nN fs rs c y):=vM rs (λr=>!zQ fs c r) (λi=>!U5 fs rs c i) y λi _ r hr=>by unfold U5;rw [hr]
    have e2:wB fs (fY rs y) c=.tuple [.list ((fY rs (yN fs rs c y)).map gQ),.list ((fY rs (nN fs rs c y)).map gQ)]:=by unfold wB;rw [gy,gn]
    have hbc:=KN (fs:=fs) (fa:=fa) (a:=a) (b:=b) (d:=d) hcm hcp
    obtain ⟨vY,hY⟩:∃ v,v=(dW fs fa a b d (bJ rs (yN fs rs c y))).1:=⟨_,rfl⟩
    obtain ⟨vN,hN⟩:∃ v,v=(dW fs fa a b d (bJ rs (nN fs rs c y))).1:=⟨_,rfl⟩
    have hle:(dW fs fa a b (d+1) (bJ rs y)).1<=b+vY+vN:=by rw [hY,hN,ry,rn];exact hbc
    show jI _ _ _ [.val (fX fs an),.val (.list (rs.map fR)),.val (.tuple [.int a,.int b]),.val (.list (ks.map (oV fs fa a b rs))),.val (lY w (KV fs fa a b rs ks)),.val (fN y),.val (.int ((d+1:Nat):Int)),s7,s8,.val (.list ((fY rs y).map gQ)),.val (wB fs (fY rs y) c),s11,s12]
    refine eI (.int b) (λq hq=>⟨_,rfl,_,rfl,hq⟩) ?_
    rw [e2]
    refine jP (ts:=[.list ((fY rs (yN fs rs c y)).map gQ),.list ((fY rs (nN fs rs c y)).map gQ)]) (λR h=>⟨_,rfl,_,rfl,h⟩)
     (λi σ=>∃ s12:Sl,σ=[.val (fX fs an),.val (.list (rs.map fR)),.val (.tuple [.int a,.int b]),.val (.list (ks.map (oV fs fa a b rs))),.val (lY w (KV fs fa a b rs ks)),.val (fN y),.val (.int ((d+1:Nat):Int)),s7,s8,.val (.list ((fY rs y).map gQ)),.val (.tuple [.list ((fY rs (yN fs rs c y)).map gQ),.list ((fY rs (nN fs rs c y)).map gQ)]),.val (.int (if i=0 then b else if i=1 then b+vY else b+vY+vN)),s12]) ⟨s12,rfl⟩ (λi x σ' hx hP=>?_) λσ' hP=>?_
    ·obtain ⟨s12,rfl⟩:=hP
     have hi:i<2:=(aG.mp hx).1
     obtain ⟨zs,v,hzs,hv,hzk,rfl,hnx⟩:∃ (zs:List Nat) (v:Int),mM rs zs/\v=(dW fs fa a b d (bJ rs zs)).1/\(0<d->(zs,d)∈ks)/\x=.list ((fY rs zs).map gQ)/\(if i=0 then b else if i=1 then b+vY else b+vY+vN)+v=(if i+1=0 then b else if i+1=1 then b+vY else b+vY+vN):=by
      have hk2:0<d->(yN fs rs c y,d)∈ks/\(nN fs rs c y,d)∈ks:=λh0=>by
       obtain ⟨d',rfl⟩:∃ d',d=d'+1:=⟨d-1,by omega⟩
       exact hcl y d' hym c hcm hcp
      rcases (show i=0\/i=1 by omega) with rfl | rfl
      ·cases hx
       exact ⟨yN fs rs c y,vY,hyo.filt _,hY,λh0=>(hk2 h0).1,rfl,rfl⟩
      ·cases hx
       exact ⟨nN fs rs c y,vN,hyo.filt _,hN,λh0=>(hk2 h0).2,rfl,rfl⟩
     generalize (if i=0 then b else if i=1 then b+vY else b+vY+vN)=t at hnx |-
     show sIf _ _ _ _ [.val (fX fs an),.val (.list (rs.map fR)),.val (.tuple [.int a,.int b]),.val (.list (ks.map (oV fs fa a b rs))),.val (lY w (KV fs fa a b rs ks)),.val (fN y),.val (.int ((d+1:Nat):Int)),s7,s8,.val (.list ((fY rs y).map gQ)),.val (.tuple [.list ((fY rs (yN fs rs c y)).map gQ),.list ((fY rs (nN fs rs c y)).map gQ)]),.val (.int t),.val (.list ((fY rs zs).map gQ))]
     cases d with
     | zero =>
      refine nK (λz=>z=true) (λq hq=>⟨_,rfl,⟨rfl,rfl,(aE rfl)⟩,hq _ (PySem.SeqAt.eqv_refl _ rfl)⟩) (λ_=>?_) λhF=>by cases hF
      refine tO (.int (t+v)) (λq hq=>⟨_,rfl,_,rfl,_,rfl,_,rfl,_,rfl,fs,an,fa,fY rs zs,a,rfl,S.F,S.fa,okG zs,lenG zs hzs,S.a0,S.a1,?_⟩) ⟨.val (.list ((fY rs zs).map gQ)),?_⟩
      ·rw [tW]
       rw [hv] at hq
       exact hq
      ·rw [<- hnx];rfl
     | succ d =>
      have ed:(((d+1+1:Nat):Int)-1)=((d+1:Nat):Int):=by omega
      have hmk:=hzk (by omega)
      have hg2:(CM zs (d+1),aO v)∈KV fs fa a b rs ks:=by rw [hv];exact aQ.mpr ⟨_,hmk,rfl⟩
      have ekey:eY [fN zs,.int (((d+1+1:Nat):Int)-1)]=CM zs (d+1):=by rw [ed];rfl
      have evF:cP (.int ((d+1+1:Nat):Int)) (.int 1)=false:=by
       show ((((d+1+1:Nat):Int)) == 1)=false
       rw [beq_eq_false_iff_ne];omega
      refine nK (λz=>z=false) (λq hq=>⟨_,rfl,⟨rfl,rfl,(aE rfl)⟩,hq _ evF⟩) (λhT=>by cases hT) λ_=>?_
      refine nK (λz=>z=false) (λq hq=>⟨_,rfl,rs,zs,rfl,hzs,by omega,_,rfl,(aE rfl),_,rfl,KV fs fa a b rs ks,rfl,by rw [ekey];exact kR zs (d+1),kok _,λz hz=>?_⟩) (λhT=>by cases hT) λ_=>?_
      ·rw [ekey] at hz
       have:z=true:=hz.mpr (aQ.mpr ⟨_,hg2,rfl⟩)
       subst this
       exact hq _ rfl
      ·refine tO (.int (t+v)) (λq hq=>⟨_,rfl,_,rfl,_,rfl,rs,zs,rfl,hzs,by omega,_,rfl,(aE rfl),KV fs fa a b rs ks,rfl,by rw [ekey];exact kR zs (d+1),kok _,aO v,by rw [ekey];exact hg2,hq⟩) ⟨.val (.list ((fY rs zs).map gQ)),?_⟩
       rw [<- hnx];rfl
    ·obtain ⟨s12,rfl⟩:=hP
     refine nK (λz=>z=false) (λq hq=>⟨_,rfl,_,rfl,_,rfl,(aE rfl),KV fs fa a b rs ks,rfl,kR y (d+1),kok _,_,hget,_,rfl,hq _ (decide_eq_false ?_)⟩) (λhT=>by cases hT) λ_=>⟨_,_,_,_,_,rfl⟩
     show ¬ ((if (2:Nat)=0 then b else if (2:Nat)=1 then b+vY else b+vY+vN)<_)
     rw [if_neg (by decide),if_neg (by decide)];omega
   ·obtain ⟨s7,s8,s10,s11,s12,rfl⟩:=hP
    exact ⟨_,_,_,_,_,_,_,_,rfl⟩
  ·obtain ⟨s5,s6,s7,s8,s9,s10,s11,s12,rfl⟩:=hP
   exact h

theorem VT (dd:Nat)
  (F_26:cL P w K mg base fP 1 a_26 f_26 ["_law_form_here"] (bX K LN))
  (F_38:cL P w K mg base fP (1+dd) a_38 f_38 ["_law_form_here","_law_tree_here","_law_deep"] (bX K (sD dd))):cL P w K mg base fP (1+dd+1) a_38 f_38 ["_law_form_here","_law_tree_here","_law_deep"] (bX K (sD (dd+1))):=by
 refine xC T.D_38.F ZM (λds Q h=>by obtain ⟨fs,an,t,d,rfl,F,ht,hdn,hd2,h⟩:=h;rfl) λcdv Ar outer s H E hr ds Q h=>?_
 obtain ⟨fs,an,t,d,rfl,F,ht,hdn,hd2,h⟩:=h
 have nd:=ZM.nd
 refine ⟨_,(bW (iM (rM (nO (oF (tv (vO (tQ _) (aK 1) (λh=>lD oM rfl T.b_isinstance jC (fL h (fL (qY rfl T.b_tuple iW rfl) iZ)))))) (pM (dO G4 rA (cB iV (aC (aK 1) aS) cX T.b_len gO) aM))))
 (cA (dJ lV))
 gW)
 (bW (iM (dO iI kZ (cH bI dE (aK 1) aM) gB)
 (cA (dJ (pT (nL iI kZ (cB iV (aC (aK 1) aS) cX T.b_len gO) aM) (sU (nL (JO hr) SJ (cH bI dE (aK 1) aM) (cH bI dE (aK 0) aM))))))
 gW)
 (bW (iM (rM (nO (dO iI kZ (aK 2) aM) (nO (dO DA OD (cH bI dE (aK 1) aM) gB) (nO (dO DA OD (cB iV (aC (aK 1) aS) cX T.b_len gO) aM) (pM (dO (qZ hr) vF (cH bI dE (aK 1) aM) (dZ (aC gB (aC gB aS)))))))))
 (cA (dJ lV))
 gW)
 (bW (iM (dO (qZ hr) vF (cH bI dE (aK 1) aM) (cd (hk:=by omega) F_26 T.D_26 hr (aC (aK 0) aS)))
 (cA (dJ lV))
 gW)
 (cA (dJ (pT (cd (hk:=by omega) F_38 T.D_38 hr (aC (aK 0) (aC (cH bI dE (aK 1) aM) (aC (dD mG wT (aK 2) aM) aS)))) (sU (cd (hk:=by omega) F_38 T.D_38 hr (aC (aK 0) (aC (cH bI dE (aK 1) aM) (aC (dD mG wT (aK 2) aM) aS)))))))))))),?_⟩
 show jI _ _ _ [.val (fX fs an),.val (AA t),.val (.int (d:Nat))]
 have ff:¬ (false=true):=bA
 cases t with
 | say z =>
  have hz:z∈an:=by cases d<;>exact ht
  refine iA (λb=>b=false) (λq hq=>⟨_,rfl,Eq.mpr (if_neg (t:=q true) (c:=(!P2 "tuple" (AA (.say z)))=true) ff) ⟨_,rfl,hq _ rfl⟩⟩) (λhT=>by cases hT) λ_=>?_
  try unfold kB
  dsimp only
  refine iA (λb=>b=true) (λq hq=>⟨_,rfl,_,rfl,hq _ (by decide +kernel)⟩) (λ_=>?_) λhF=>by cases hF
  refine ⟨_,rfl,?_⟩
  show (if decide ((2:Int)=2)=true then _ else Q (.bool false))
  rw [if_pos (by decide)]
  refine ⟨_,rfl,_,rfl,_,rfl,_,rfl,HL (E6 F.an.2.1 (aA1 (F.an.2.1 z hz))) ?_⟩
  have e:CN (.str z) (.tuple (an.map aP))=true:=by
   show ((an.map aP).any λy=>cP y (.str z))=true
   rw [B4];exact decide_eq_true hz
  rw [e];exact h
 | ask k n v st y m =>
  cases d with
  | zero=>exact ht.elim
  | succ d =>
  obtain ⟨hq,hs,hy,hm⟩:=ht
  have ed:(((d+1:Nat):Int)-1)=((d:Nat):Int):=by omega
  have key:∀ x:D,[fX fs an,x,aO (((d+1:Nat):Int)-1)]=[fX fs an,x,.int (d:Nat)]:=λx=>by rw [ed]
  refine iA (λb=>b=false) (λq hq=>⟨_,rfl,Eq.mpr (if_neg (t:=q true) (c:=(!P2 "tuple" (AA (.ask k n v st y m)))=true) ff) ⟨_,rfl,hq _ rfl⟩⟩) (λhT=>by cases hT) λ_=>?_
  try unfold kB
  dsimp only
  refine iA (λb=>b=false) (λq hq=>⟨_,rfl,_,rfl,hq _ (by decide +kernel)⟩) (λhT=>by cases hT) λ_=>?_
  try unfold kB
  dsimp only
  refine iA (λb=>b=false) (λq hq=>⟨_,rfl,?_⟩) (λhT=>by cases hT) λ_=>?_
  ·show (if decide (((d+1:Nat):Int)=0)=true then q true else _)
   rw [if_neg (λz=>by have:=of_decide_eq_true z;omega)]
   refine ⟨_,rfl,_,rfl,?_⟩
   show (if (!decide (("ask":Str)="ask"))=true then q true else _)
   rw [if_neg (by decide +kernel)]
   refine ⟨_,rfl,Eq.mpr (if_neg (t:=q true) (c:=(!decide ((5:Int)=5))=true) ff) ?_⟩
   refine ⟨_,rfl,_,rfl,(aE rfl),(TH hs).1,?_⟩
   show q (!CN (.str st) (.tuple [.str "yes",.str "no"]))
   rw [(TH hs).2];exact hq _ rfl
  try unfold kB
  dsimp only
  obtain ⟨o1,o2⟩:=aGu F hq
  refine iA (λb=>b=false) (λq hq=>⟨_,rfl,_,rfl,_,rfl,fs,an,rfl,F,o1,hq _ (by show (!CN (qD (k,n,v)) (.list ((qs fs).map qD)))=false;rw [o2];rfl)⟩) (λhT=>by cases hT) λ_=>?_
  try unfold kB
  dsimp only
  refine ⟨_,rfl,_,rfl,_,rfl,_,rfl,fs,an,y,d,key _,F,hy,by omega,by omega,?_⟩
  show (if true=true then _ else Q (.bool false))
  rw [if_pos rfl]
  exact ⟨_,rfl,_,rfl,_,rfl,_,rfl,fs,an,m,d,key _,F,hm,by omega,by omega,h⟩

theorem aFr
  (F_26:cL P w K mg base fP 1 a_26 f_26 ["_law_form_here"] (bX K LN)):cL P w K mg base fP 5 a_38 f_38 ["_law_form_here","_law_tree_here","_law_deep"] (bX K YZ):=by
 have h:∀ dd:Nat,cL P w K mg base fP (1+dd) a_38 f_38 ["_law_form_here","_law_tree_here","_law_deep"] (bX K (sD dd)):=λdd=>by
  induction dd with
  | zero=>exact KB BO λds Q h=>SO h
  | succ dd ih=>exact VT T dd F_26 ih
 exact h 4
theorem aFq:cL P w K mg base fP 1 a_39 f_39 ["_law_table"] (bX K YY):=by
 refine xC T.D_39.F ZL (λds Q h=>by obtain ⟨xs,rfl,hl,h⟩:=h;rfl) λcdv Ar outer s H E hr ds Q h=>?_
 obtain ⟨xs,rfl,hl,h⟩:=h
 have nd:=ZL.nd
 refine ⟨_,(bW (iM (oF (tv (vO (S6 _) (aK 0) (λh=>lD oM rfl T.b_isinstance jC (fL h (fL (qY rfl T.b_list tZ rfl) iZ))))))
 (cA (dJ lV))
 gW)
 (bW (sf (fT (aK 0)) (dY (pn 1 nd))
 (bW (iM (rM (nO (oF (tv (vO (tQ _) (aK 1) (λh=>lD oM rfl T.b_isinstance jC (fL h (fL (qY rfl T.b_tuple iW rfl) iZ)))))) (nO (dO DA OD (cB iV (aC (aK 1) aS) cX T.b_len gO) aM) (pM (oF (tv (vO (tQ _) (cH bI dE (aK 1) aM) (λh=>lD oM rfl T.b_isinstance jC (fL h (fL (qY rfl T.b_tuple iW rfl) iZ))))))))))
 (cA (dJ lV))
 gW)
 (cA (sf (fT (dD dC iB (cH bI dE (aK 1) aM) (lG pO CL (aK 1) (mF aM) nS))) (dY (pn 2 nd))
 (cA (iM (rM (nO (oF (tv (vO (XA _) (aK 2) (λh=>lD oM rfl T.b_isinstance jC (fL h (fL (qY rfl T.b_int aDq rfl) iZ)))))) (pM (tv (vO (S7 _) (aK 2) (λh=>lD oM rfl T.b_isinstance jC (fL h (fL (qY rfl T.b_bool YG rfl) iZ))))))))
 (cA (dJ lV))
 gW))))))
 (cA (dJ lV)))),?_⟩
 show jI _ _ _ [.val (.list (xs.map zC)),.un,.un]
 have ff:¬ (false=true):=bA
 refine iA (λb=>b=false) (λq hq=>⟨_,rfl,hq _ rfl⟩) (λhT=>by cases hT) λ_=>?_
 try unfold kB
 dsimp only
 refine jP (ts:=xs.map zC) (λR h=>⟨_,rfl,_,rfl,h⟩) (λk σ=>∃ s1 s2:Sl,σ=[.val (.list (xs.map zC)),s1,s2]) ⟨_,_,rfl⟩ (λk x σ' hx hP=>?_) λσ' hP=>?_
 ·obtain ⟨s1,s2,rfl⟩:=hP
  rw [aI] at hx
  obtain ⟨x,hxk,rfl⟩:=bU.mp hx
  have hxl:=hl x (aV hxk)
  refine iA (λb=>b=false) (λq hq=>⟨_,rfl,Eq.mpr (if_neg (t:=q true) (c:=(!P2 "tuple" (zC x))=true) ff) ⟨_,rfl,Eq.mpr (if_neg (t:=q true) (c:=(!decide ((3:Int)=3))=true) ff) ⟨_,rfl,_,rfl,hq _ rfl⟩⟩⟩) (λhT=>by cases hT) λ_=>?_
  try unfold kB
  dsimp only
  have eS:mJ [eY (x.1.map aO),.int x.2.1,.int x.2.2] (some 1) none=[.int x.2.1,.int x.2.2]:=rfl
  refine T1 (ts:=(x.1++[x.2.1,x.2.2]).map aO) (λR h=>⟨_,rfl,_,rfl,_,rfl,?_⟩) (λk σ=>∃ s2:Sl,σ=[.val (.list (xs.map zC)),.val (zC x),s2]) ⟨_,rfl⟩ (λi y σ' hy hP=>?_) λσ' hP=>?_
  ·show (x.1.map aO).length+(mJ [eY (x.1.map aO),.int x.2.1,.int x.2.2] (some 1) none).length<=100000/\_
   rw [eS]
   refine ⟨by rw [aB];show _+2<=_;omega,_,rfl,?_⟩
   rw [bT] at h
   exact h
  ·obtain ⟨s2,rfl⟩:=hP
   rw [aI] at hy
   obtain ⟨z,_,rfl⟩:=bU.mp hy
   exact nK (λb=>b=false) (λq hq=>⟨_,rfl,Eq.mpr (if_neg (t:=q true) (c:=(!P2 "int" (.int z))=true) ff) ⟨_,rfl,hq _ rfl⟩⟩) (λhT=>by cases hT) λ_=>⟨_,rfl⟩
  ·obtain ⟨s2,rfl⟩:=hP
   exact ⟨_,_,rfl⟩
 ·obtain ⟨s1,s2,rfl⟩:=hP
  exact h

theorem aFp
  (F_37:cL P w K mg base fP 4 a_37 f_37 ["_law_form_here","_law_rows_here","_law_prices_here","_law_table"] (bX K QZ))
  (F_38:cL P w K mg base fP 5 a_38 f_38 ["_law_form_here","_law_tree_here","_law_deep"] (bX K YZ))
  (F_39:cL P w K mg base fP 1 a_39 f_39 ["_law_table"] (bX K YY))
  (F_31:cL P w K mg base fP 7 a_31 f_31 ["_law_tree_here"] (bX K Q2))
  (F_34:cL P w K mg base fP 2 a_34 f_34 ["_law_form_here","_law_rows_here","_law_slip"] (bX K Q0))
  (F_32:cL P w K mg base fP 9 a_32 f_32 ["_law_form_here","_law_tree_here","_law_rows_here"] (bX K Q1)):cL P w K mg base fP 10 a_40 f_40 ["_law_form_here","_law_rows_here","_law_deep","_law_prices_here","_law_found"] (bX K YX):=by
 refine xC T.D_40.F ZK (λds Q h=>by obtain ⟨fs,an,fa,rs,a,b,dp,ks,rfl,S,hne,hl,hdp,hG,h⟩:=h;rfl) λcdv Ar outer s H E hr ds Q h=>?_
 obtain ⟨fs,an,fa,rs,a,b,dp,ks,rfl,S,hne,hl,hdp,hG,h⟩:=h
 have nd:=ZK.nd
 refine ⟨_,(bW (iM (rM (nO (oF (tv (vO (tQ _) (aK 4) (λh=>lD oM rfl T.b_isinstance jC (fL h (fL (qY rfl T.b_tuple iW rfl) iZ)))))) (pM (dO DA OD (cB iV (aC (aK 4) aS) cX T.b_len gO) aM))))
 (cA (dJ lV))
 gW)
 (bW (LJ (aK 4) (tU (nJ rfl (dX (pn 5 nd) (dX (pn 6 nd) (dX (pn 7 nd) lL))))) (λhe hg=>E4 he hg))
 (bW (iM (rM (nO (oF (tv (cd F_38 T.D_38 hr (aC (aK 0) (aC (aK 5) (aC (aK 2) aS)))))) (nO (oF (tv (cd F_39 T.D_39 hr (aC (aK 7) aS)))) (pM (oF (tv (cd F_39 T.D_39 hr (aC (pS (aC (dZ (aC (dZ aS) (aC aM (aC (aK 6) aS)))) aS)) aS))))))))
 (cA (dJ lV))
 gW)
 (bW (iM (dO DA OD (aK 6) (dD dC iB (dD gZ oI (cH bI dE (aK 3) aM) (cd F_32 T.D_32 hr (aC (aK 0) (aC (aK 5) (aC (aK 1) aS))))) (dD gZ oI (cH bI dE (aK 3) aM) (cd F_31 T.D_31 hr (aC (aK 5) aS)))))
 (cA (dJ lV))
 gW)
 (bW (iM (dO iI kZ (aK 2) aM)
 (cA (dJ (pT (nL iI kZ (aK 6) (cd F_34 T.D_34 hr (aC (aK 0) (aC (aK 1) (aC (cH bI dE (aK 3) aM) aS))))) (sU (cd F_37 T.D_37 hr (aC (aK 0) (aC (aK 1) (aC (aK 3) (aC (aK 7) aS)))))))))
 gW)
 (cA (dJ (pT (nL (JO hr) SJ (dZ (aC (FI (aC (cB iV (aC (aK 1) aS) cX T.b_len gO) aS) (λh=>jH (oK rfl) rfl T.b_tuple iW (fL (jH sX rfl T.b_range B2 h) iZ))) (aC (aK 2) (aC (aK 6) aS)))) (aK 7)) (sU (cd F_37 T.D_37 hr (aC (aK 0) (aC (aK 1) (aC (aK 3) (aC (aK 7) aS)))))))))))))),?_⟩
 show jI _ _ _ [.val (fX fs an),.val (.list (rs.map fR)),.val (.int (dp:Nat)),.val (.tuple [.int a,.int b]),.val (.tuple [AA (dW fs fa a b dp rs).2,.int (dW fs fa a b dp rs).1,.list (ks.map (oV fs fa a b rs))]),.un,.un,.un]
 have ff:¬ (false=true):=bA
 have F:=S.F
 have a0:=S.a0
 have a1:=S.a1
 have b0:=S.b0
 have b1:=S.b1
 obtain ⟨hT,hC⟩:=yI (a:=a) (b:=b) S.fa dp rs S.R
 obtain ⟨hto,htd⟩:=hT.ok
 have hholds:∀ {q:D->Prop},q (.bool true)->QZ [fX fs an,.list (rs.map fR),.tuple [.int a,.int b],.list (ks.map (oV fs fa a b rs))] q:=λhq=>⟨fs,an,fa,rs,a,b,cK rs.length,dp,ks,rfl,S,hl,hG,hq⟩
 have hin:=hG.2.2.2.1
 have hko:=hG.2.2.1
 have eT:ks.map (oV fs fa a b rs)=(ks.map λx=>(x.1.map gX,(x.2:Int),(dW fs fa a b x.2 (bJ rs x.1)).1)).map zC:=by
  rw [bG]
  refine lP λx _=>?_
  show eY [fN x.1,_,_]=.tuple [.tuple ((x.1.map gX).map aO),_,_]
  unfold fN
  rw [bG];rfl
 have tl:∀ x∈ks.map (oV fs fa a b rs),x.canLay0=true/\x.depth<=2:=λx hx=>by
  obtain ⟨z,_,rfl⟩:=aQ.mp hx
  refine ⟨?_,?_⟩
  ·show (cR (z.1.map λ(i:Nat)=>aO (i:Int)) && (true && (true && true)))=true
   rw [qI];rfl
  ·show max (cD (z.1.map λ(i:Nat)=>aO (i:Int))+1) (max 0 (max 0 0))+1<=2
   rw [(xA z.1).2];decide
 have hmem:0<dp->eY [fN (cK rs.length),.int (dp:Nat),.int (dW fs fa a b dp rs).1]∈ks.map (oV fs fa a b rs):=λh0=>aQ.mpr ⟨_,hin h0,by unfold oV;dsimp only;rw [GU]⟩
 have hleaf:dp=0->(dW fs fa a b dp rs).1=(nD fs fa a rs).1:=λz=>by subst z;rfl
 generalize hg:dW fs fa a b dp rs=bt at *
 obtain ⟨c,t⟩:=bt
 dsimp only at hT hC hto htd hmem hleaf |-
 have htk:t.kn<=600:=by
  have:=t.kn_dep
  have:2 ^ t.dep<=2 ^ 3:=jG (by decide) (by omega)
  omega
 refine iA (λb=>b=false) (λq hq=>⟨_,rfl,Eq.mpr (if_neg (t:=q true) (c:=(!P2 "tuple" (.tuple [AA t,.int c,.list (ks.map (oV fs fa a b rs))]))=true) ff) ⟨_,rfl,hq _ rfl⟩⟩) (λhT=>by cases hT) λ_=>?_
 try unfold kB
 dsimp only
 refine Q6 (λq hq=>⟨_,rfl,hq⟩) ?_
 refine iA (λb=>b=false) (λq hq=>⟨_,rfl,_,rfl,_,rfl,fs,an,t,dp,rfl,F,hT,by omega,hdp,?_⟩) (λhT=>by cases hT) λ_=>?_
 ·show (if (!true)=true then q true else _)
  rw [if_neg (by decide)]
  refine ⟨_,rfl,_,by rw [eT],λx hx=>?_,?_⟩
  ·obtain ⟨z,hz,rfl⟩:=aQ.mp hx
   have:=(hko z hz).1.len
   show (z.1.map gX).length<=60
   rw [aB];omega
  ·show (if (!true)=true then q true else _)
   rw [if_neg (by decide)]
   exact ⟨(aE rfl),_,rfl,(aE rfl),(aE rfl),[([],1,c)],rfl,(λx hx=>by rw [cZ.mp hx];exact cS _),hq _ rfl⟩
 try unfold kB
 dsimp only
 have hsl:jK fs t rs<=60:=cM (eK _ _) (by omega)
 refine iA (λb=>b=false) (λq hq=>⟨_,rfl,_,rfl,_,rfl,_,rfl,_,rfl,_,rfl,fs,an,t,rs,rfl,F,hto,by omega,S.R,by omega,.inl ⟨by omega,by omega⟩,_,rfl,_,rfl,_,rfl,t,rfl,htk,by omega,.inl ⟨by omega,by omega⟩,hq _ ?_⟩) (λhT=>by cases hT) λ_=>?_
 ·show (!decide (c=a*((jK fs t rs:Nat):Int)+b*((t.kn:Nat):Int)))=false
  rw [decide_eq_true hC];rfl
 try unfold kB
 dsimp only
 by_cases hd0:dp=0
 ·refine iA (λz=>z=true) (λq hq=>⟨_,rfl,hq _ (decide_eq_true (by omega))⟩) (λ_=>?_) λhF=>by cases hF
  refine ⟨_,rfl,_,rfl,_,rfl,_,rfl,_,rfl,fs,an,fa,rs.map plain,a,by rw [C9],F,S.fa,by rw [xY];exact S.R,by rw [aB];omega,a0,a1,?_⟩
  rw [xY]
  show (if decide (c=(nD fs fa a rs).1)=true then _ else Q (.bool false))
  rw [if_pos (decide_eq_true (hleaf hd0))]
  exact ⟨_,rfl,_,rfl,_,rfl,_,rfl,hholds h⟩
 ·refine iA (λz=>z=false) (λq hq=>⟨_,rfl,hq _ (decide_eq_false (by omega))⟩) (λhT=>by cases hT) λ_=>?_
  try unfold kB
  dsimp only
  have hm:=hmem (by omega)
  have ht:=tl _ hm
  have en:eY (iO (((rs.map fR).length:Nat):Int).toNat)=fN (cK rs.length):=by rw [eG,aB];rfl
  refine ⟨_,rfl,(((rs.map fR).length:Nat):Int),rfl,by omega,by rw [aB];omega,_,rfl,_,rfl,(aE rfl),_,rfl,?_⟩
  rw [en]
  refine T3 ⟨HF λx hx=>(tl x hx).1,ht.1,cM (rV _ _) (by omega)⟩ ?_
  have ev:CN (.tuple [fN (cK rs.length),.int (dp:Nat),.int c]) (.list (ks.map (oV fs fa a b rs)))=true:=rP.mpr ⟨_,hm,PySem.SeqAt.eqv_refl _ ht.1⟩
  rw [ev]
  show (if true=true then _ else Q (.bool false))
  rw [if_pos rfl]
  exact ⟨_,rfl,_,rfl,_,rfl,_,rfl,hholds h⟩

theorem aCt
  (F_21:cL P w K mg base fP 1 a_21 f_21 ["_law_tape_here","_law_many"] (fB K wE))
  (F_23:cL P w K mg base fP 3 a_23 f_23 ["_law_tape_here","_law_fields","_law_values"] (fB K Y8))
  (F_31:cL P w K mg base fP 7 a_31 f_31 ["_law_tree_here"] (bX K Q2))
  (F_33:cL P w K mg base fP 2 a_33 f_33 ["_law_tape_here"] (fB K Y2))
  (F_40:cL P w K mg base fP 10 a_40 f_40 ["_law_form_here","_law_rows_here","_law_deep","_law_prices_here","_law_found"] (bX K YX))
  (F_25:cL P w K mg base fP 3 a_25 f_25 ["_law_tape_here","_law_form_here","_law_many"] (fB K Y6))
  (F_32:cL P w K mg base fP 9 a_32 f_32 ["_law_form_here","_law_tree_here","_law_rows_here"] (bX K Q1))
  (F_20:cL P w K mg base fP 1 a_20 f_20 ["_law_script"] (MF K ZA))
  (F_30:cL P w K mg base fP 8 a_30 f_30 ["_law_tape_here","_law_form_here","_law_deep"] (fB K Y3))
  (F_14:cL P w K mg base fP 9 a_14 f_14 ["form","rows","deep","prices"] (MG K (ZF w c_RowSets))):cL P w K mg base fP 11 a_law f_law ["_law_script"] (bX K A2):=by
 refine xC T.D_law.F Q8 (λds Q h=>by obtain ⟨ns,rfl,hl63,h⟩:=h;rfl) λcdv Ar outer s H E hr ds Q h=>?_
 obtain ⟨ns,rfl,hl63,h⟩:=h
 have nd:=Q8.nd
 refine ⟨_,(VY (i:=1) F_20 (aK 0) rfl (λh=>pQ (i:=1) nd rfl (by first | exact Or.inl rfl | exact Or.inr rfl) (tN F_20 (hr.mono (by decide)) rfl T.D_20.m T.D_20.k T.D_20.d .nil sQ h)) (dA (sC 2 nd (D0 dC iB (dL aM) (cc F_21 T.D_21 hr (bE (dL (aK 1)) (bE (dL aM) eD)))))
 (dA (sC 3 nd (D0 dC iB (dL aM) (cc F_21 T.D_21 hr (bE (dL (aK 1)) (bE (dL aM) eD)))))
 (dA (sC 4 nd (D0 dC iB (dL aM) (cc F_21 T.D_21 hr (bE (dL (aK 1)) (bE (dL aM) eD)))))
 (dA (sC 5 nd (xG bI dE (dL (pS (aC aM (aC aM (aC aM (aC aM (aC aM (aC aM aS)))))))) (cc F_21 T.D_21 hr (bE (dL (aK 1)) (bE (dL aM) eD)))))
 (dA (mW (iM (rM (nO (dO iI kZ (aK 2) aM) (pM (rM (QK (dO iI kZ (aK 2) aM) (LA (dO iI kZ (aK 3) aM)))))))
 (cA (ss 5 nd (cB KJ (aC (aK 5) (aC aM aS)) (yH rfl) T.b_min KL)))
 gW))
 (dA (mW (iM (dO iI kZ (aK 5) aM)
 (cA (ss 4 nd (cB KJ (aC (aK 4) (aC aM aS)) (yH rfl) T.b_min KL)))
 gW))
 (dA (A5 (AX iI kZ (cc F_21 T.D_21 hr (bE (dL (aK 1)) (bE (dL aM) eD))) (dL aM))
 (dA (mW (ss 2 nd aM))
 (dA (mW (ss 3 nd aM))
 (dA (sC 4 nd (D0 dC iB (dL aM) (cc F_21 T.D_21 hr (bE (dL (aK 1)) (bE (dL aM) eD)))))
 (kG (mW (ss 5 nd (cB KJ (aC (aK 5) (aC aM aS)) (yH rfl) T.b_min KL)))))))
 vC)
 (dA (sC 6 nd (cc F_23 T.D_23 hr (bE (dL (aK 1)) (bE (dL (aK 2)) (bE (dL (aK 3)) eD)))))
 (dA (sC 7 nd (cc F_25 T.D_25 hr (bE (dL (aK 1)) (bE (dL (aK 6)) (bE (dL (aK 4)) eD)))))
 (dA (sC 8 nd (cc F_33 T.D_33 hr (bE (dL (aK 1)) eD)))
 (dA (mW (ss 9 nd (cY KK (aC (aK 7) aS) rF T.b_list tZ)))
 (V9 (i:=10) (cU (R:=B8) B8.base F_14 T.D_14 hr (aC (aK 6) (aC (aK 9) (aC (aK 5) (aC (aK 8) aS))))) (λh=>pQ (i:=10) nd rfl (by first | exact Or.inl rfl | exact Or.inr rfl) h)
 (aFe (rM (nO (dO (SD hr) vF (aK 9) (aK 7)) (pM (oF (tv (cd F_40 T.D_40 hr (aC (aK 6) (aC (aK 7) (aC (aK 5) (aC (aK 8) (aC (aK 10) aS))))))))))) lV
 (aAn (j:=11) (by decide) (cc F_30 T.D_30 hr (bE (dL (aK 1)) (bE (dL (aK 6)) (bE (dL (aK 5)) eD)))) (λh=>pQ (i:=11) nd rfl (by first | exact Or.inl rfl | exact Or.inr rfl) h)
 (aFe (dO G4 rA (dD dC iB (dD gZ oI (cH bI dE (aK 8) aM) (cd F_32 T.D_32 hr (aC (aK 6) (aC (aK 11) (aC (aK 7) aS))))) (dD gZ oI (cH bI dE (aK 8) aM) (cd F_31 T.D_31 hr (aC (aK 11) aS)))) (cH bI dE (aK 10) aM)) lV
 (aAn (j:=12) (by decide) (dL (cH bI dE (aK 10) aM)) (λh=>pQ (i:=12) nd rfl (by first | exact Or.inl rfl | exact Or.inr rfl) h)
 (aFf (dZ (aC (dZ (aC aM aS)) (aC aM (aC (FJ aM) aS)))) (pb:=λh=>pD (nC dG hW hV mX (L6 bI (pv 10) E5 (by intro _ _;rfl)) h)) (hr:=(dA (mW (ss 13 nd (aHc (cU (R:=B8) B8.base F_14 T.D_14 hr (aC (aK 6) (aC (aK 9) (aC (aK 5) (aC (aK 8) aS))))))))
 (kG (mW (dJ (pT (nL iI kZ (cH bI dE (aK 13) aM) (aK 12)) (sU (cd F_40 T.D_40 hr (aC (aK 6) (aC (aK 7) (aC (aK 5) (aC (aK 8) (aC (aK 13) aS))))))))))))))))))))))))))))))),?_⟩
 show aAf _ _ _ _ [.val (.list (ns.map aO)),.un,.un,.un,.un,.un,.un,.un,.un,.un,.un,.un,.un,.un]
 refine ⟨_,rfl,ns,rfl,λTp _ _=>?_⟩
 show nV _ _ _ _ _ [.val (.list (ns.map aO)),.val (oZ Tp),.un,.un,.un,.un,.un,.un,.un,.un,.un,.un,.un,.un]
 refine iF (λm d=>m<=1/\∃ f:Nat,1<=f/\f<=3/\d=.int (f:Nat)) (λq hq=>⟨_,rfl,_,rfl,3,rfl,by decide,by decide,by decide,λr h0 h1=>hq _ _ ⟨by omega,(1+r).toNat,by omega,by omega,by rw [lR (by omega)]⟩⟩) ?_
 rintro c1 _ ⟨hc1,f,hf1,hf3,rfl⟩
 refine iF (λm d=>m<=2/\∃ v:Nat,2<=v/\v<=5/\d=.int (v:Nat)) (λq hq=>⟨_,rfl,_,rfl,3,rfl,by decide,by decide,by omega,λr h0 h1=>hq _ _ ⟨by omega,(2+r).toNat,by omega,by omega,by rw [lR (by omega)]⟩⟩) ?_
 rintro c2 _ ⟨hc2,v,hv2,hv5,rfl⟩
 refine iF (λm d=>m<=3/\∃ v:Nat,1<=v/\v<=30/\d=.int (v:Nat)) (λq hq=>⟨_,rfl,_,rfl,11,rfl,by decide,by decide,by omega,λr h0 h1=>hq _ _ ⟨by omega,(1+r).toNat,by omega,by omega,by rw [lR (by omega)]⟩⟩) ?_
 rintro c3 _ ⟨hc3,mn,hm1,hm30,rfl⟩
 refine iF (λm d=>m<=4/\∃ v:Nat,v<=3/\d=.int (v:Nat)) (λq hq=>⟨(aE rfl),_,rfl,_,rfl,6,rfl,by decide,by decide,by omega,λr h0 h1=>?_⟩) ?_
 ·rcases (show r=0\/r=1\/r=2\/r=3\/r=4\/r=5 by omega) with rfl | rfl | rfl | rfl | rfl | rfl
  ·exact ⟨_,rfl,hq _ _ ⟨by omega,2,by decide,rfl⟩⟩
  ·exact ⟨_,rfl,hq _ _ ⟨by omega,3,by decide,rfl⟩⟩
  ·exact ⟨_,rfl,hq _ _ ⟨by omega,1,by decide,rfl⟩⟩
  ·exact ⟨_,rfl,hq _ _ ⟨by omega,2,by decide,rfl⟩⟩
  ·exact ⟨_,rfl,hq _ _ ⟨by omega,3,by decide,rfl⟩⟩
  ·exact ⟨_,rfl,hq _ _ ⟨by omega,0,by decide,rfl⟩⟩
 rintro c4 _ ⟨hc4,dp,hdp,rfl⟩
 have mn2:∀ x k:Nat,∃ y:Nat,y<=x/\y<=k/\(1<=x->1<=k->1<=y)/\(if ((k:Nat):Int)<((x:Nat):Int) then ((k:Nat):Int) else ((x:Nat):Int))=((y:Nat):Int):=λx k=>by
  by_cases e:((k:Nat):Int)<((x:Nat):Int)
  ·exact ⟨k,by omega,aL _,λ_ h=>h,if_pos e⟩
  ·exact ⟨x,aL _,by omega,λh _=>h,if_neg e⟩
 show nV _ _ _ _ _ [.val (.list (ns.map aO)),.val (oZ Tp),.val (.int (f:Nat)),.val (.int (v:Nat)),.val (.int (mn:Nat)),.val (.int (dp:Nat)),.un,.un,.un,.un,.un,.un,.un,.un]
 refine iU (LQ (λ_=>True) (λσ'=>∃ dp:Nat,dp<=3/\σ'=[.val (.list (ns.map aO)),.val (oZ Tp),.val (.int (f:Nat)),.val (.int (v:Nat)),.val (.int (mn:Nat)),.val (.int (dp:Nat)),.un,.un,.un,.un,.un,.un,.un,.un]) (λq hq=>⟨_,rfl,?_⟩) (λnx k _=>?_) (λ_=>⟨dp,hdp,rfl⟩) ?_)
 ·show (if decide (((f:Nat):Int)=3)=true then q true else _)
  split
  ·exact hq _ trivial
  ·refine ⟨_,rfl,?_⟩
   show (if decide (((f:Nat):Int)=2)=true then _ else q false)
   split
   ·exact ⟨_,rfl,hq _ trivial⟩
   ·exact hq _ trivial
 ·obtain ⟨y,h1,h2,_,h3⟩:=mn2 dp 2
  refine ⟨_,rfl,k _ ⟨y,by omega,?_⟩⟩
  rw [<- h3];rfl
 rintro _ ⟨dp,hdp,rfl⟩
 refine iU (LQ (λb=>b=decide (((dp:Nat):Int)=3)) (λσ'=>∃ mn:Nat,1<=mn/\mn<=30/\(dp=3->mn<=7)/\σ'=[.val (.list (ns.map aO)),.val (oZ Tp),.val (.int (f:Nat)),.val (.int (v:Nat)),.val (.int (mn:Nat)),.val (.int (dp:Nat)),.un,.un,.un,.un,.un,.un,.un,.un]) (λq hq=>⟨_,rfl,hq _ rfl⟩) (λnx k _=>?_) (λhF=>⟨mn,hm1,hm30,(λe=>by subst e;cases hF),rfl⟩) ?_)
 ·obtain ⟨y,h1,h2,h4,h3⟩:=mn2 mn 7
  refine ⟨_,rfl,k _ ⟨y,h4 hm1 (by decide),by omega,λ_=>h2,?_⟩⟩
  rw [<- h3];rfl
 rintro _ ⟨mn,hm1,hm30,hm7,rfl⟩
 refine aDl (λm σ'=>m<=6/\∃ f v mn dp:Nat,1<=f/\f<=3/\2<=v/\v<=5/\1<=mn/\mn<=30/\dp<=3/\(dp=3->mn<=7)/\σ'=[.val (.list (ns.map aO)),.val (oZ Tp),.val (.int (f:Nat)),.val (.int (v:Nat)),.val (.int (mn:Nat)),.val (.int (dp:Nat)),.un,.un,.un,.un,.un,.un,.un,.un]) (λm=>m<=5) (λq hq=>⟨_,rfl,_,rfl,16,rfl,by decide,by decide,by omega,λr h0 h1=>hq _ _ (by omega)⟩) (λnx k m hm=>?_) (λm hm=>⟨by omega,f,v,mn,dp,hf1,hf3,hv2,hv5,hm1,hm30,hdp,hm7,rfl⟩) ?_
 ·refine iU (eI (.int 2) (λq hq=>hq) ?_)
  refine iU (eI (.int 5) (λq hq=>hq) ?_)
  refine iF (λm' d=>m'<=6/\∃ mn:Nat,28<=mn/\mn<=30/\d=.int (mn:Nat)) (λq hq=>⟨_,rfl,_,rfl,3,rfl,by decide,by decide,by omega,λr h0 h1=>hq _ _ ⟨by omega,(28+r).toNat,by omega,by omega,by rw [lR (by omega)]⟩⟩) ?_
  rintro c6 _ ⟨hc6,mn',h28,h30,rfl⟩
  obtain ⟨y,h1,h2,_,h3⟩:=mn2 dp 2
  refine ⟨_,rfl,k _ _ ⟨hc6,2,5,mn',y,by decide,by decide,by decide,by decide,by omega,by omega,by omega,λe=>by omega,?_⟩⟩
  rw [<- h3];rfl
 rintro c6 _ ⟨hc6,f,v,mn,dp,hf1,hf3,hv2,hv5,hm1,hm30,hdp,hm7,rfl⟩
 refine iF (λm d=>m<=200/\∃ fs an,jD fs an/\d=fX fs an) (λq hq=>⟨_,rfl,_,rfl,_,rfl,_,rfl,f,v,rfl,hf1,by omega,hv2,hv5,by omega,λn' fs an hn F _ _=>hq _ _ ⟨by omega,fs,an,F,rfl⟩⟩) ?_
 rintro c7 _ ⟨hc7,fs,an,F,rfl⟩
 refine iF (λm d=>m<=600/\∃ rs,iD fs an rs/\rs.length=mn/\d=.list (rs.map fR)) (λq hq=>⟨_,rfl,_,rfl,_,rfl,_,rfl,fs,an,mn,rfl,F,by omega,by omega,λn' rs hn hrs hrl=>hq _ _ ⟨by omega,rs,hrs,hrl,rfl⟩⟩) ?_
 rintro c8 _ ⟨hc8,rs,hrs,hrl,rfl⟩
 refine iF (λm' d=>m'<=700/\∃ a b:Int,0<=a/\a<=1000000/\0<=b/\b<=1000000/\d=.tuple [.int a,.int b]) (λq hq=>⟨_,rfl,_,rfl,rfl,by omega,λn' a b hn a0 a1 b0 b1=>hq _ _ ⟨by omega,a,b,a0,a1,b0,b1,rfl⟩⟩) ?_
 rintro c9 _ ⟨hc9,a,b,a0,a1,b0,b1,rfl⟩
 obtain ⟨fa,hfa⟩:=aG9 F
 have S:pF fs an fa rs a b:=⟨F,hfa,hrs,by omega,a0,a1,b0,b1⟩
 have hne:rs≠[]:=λe=>by rw [e] at hrl;have:(0:Nat)=mn:=hrl;omega
 have hd7:dp=3->rs.length<=7:=λe=>by have:=hm7 e;omega
 have hR:=VM F hrs (by omega)
 have er:cP (.list (rs.map fR)) (.list (rs.map fR))=true:=PySem.SeqAt.eqv_refl _ hR.lay
 refine iU (eI (.list (rs.map fR)) (λq hq=>⟨_,rfl,hq⟩) ?_)
 refine ⟨(show 10<14 by decide),_,rfl,_,rfl,_,rfl,_,rfl,fs,an,fa,rs,a,b,dp,rfl,S,hne,hdp,hd7,λks hG=>?_⟩
 refine ⟨_,rfl,_,rfl,⟨hR.lay,hR.lay,by have:=hR.depth;omega⟩,?_⟩
 show (if (!cP (.list (rs.map fR)) (.list (rs.map fR)))=true then _ else _)
 rw [er,if_neg (by decide)]
 refine ⟨_,rfl,_,rfl,_,rfl,_,rfl,_,rfl,fs,an,fa,rs,a,b,dp,ks,rfl,S,hne,by omega,hdp,hG,?_⟩
 have tc:AZ dp<=90:=by rcases (show dp=0\/dp=1\/dp=2\/dp=3 by omega) with rfl | rfl | rfl | rfl<;>decide
 refine ⟨_,rfl,_,rfl,_,rfl,_,rfl,fs,an,dp,rfl,F,by omega,by omega,λc10 t hc10 ht htd=>⟨FB t,?_⟩⟩
 have htk:t.kn<=600:=by
  have:=t.kn_dep
  have:2 ^ t.dep<=2 ^ 3:=jG (by decide) (by omega)
  omega
 have hsl:jK fs t rs<=60:=cM (eK _ _) (by omega)
 refine ⟨_,rfl,_,rfl,_,rfl,_,rfl,_,rfl,fs,an,t,rs,rfl,F,ht,by omega,hrs,by omega,.inl ⟨by omega,by omega⟩,_,rfl,_,rfl,_,rfl,t,rfl,htk,by omega,.inl ⟨by omega,by omega⟩,_,rfl,_,rfl,?_⟩
 show (if decide (a*((jK fs t rs:Nat):Int)+b*((t.kn:Nat):Int)<(dW fs fa a b dp rs).1)=true then _ else _)
 rw [if_neg (λz=>by have:=of_decide_eq_true z;have:=E9 F hfa a0 b0 t dp rs ht htd hrs;omega)]
 refine ⟨_,rfl,_,rfl,rfl,(aE rfl),(aE rfl),?_⟩
 refine iU (A4 (λv=>∃ ks:List (List Nat×Nat),B9 fs rs (cK rs.length) dp ks/\v=.tuple [AA (dW fs fa a b dp rs).2,.int (dW fs fa a b dp rs).1,.list (ks.map (oV fs fa a b rs))]) (λq hq=>⟨_,rfl,_,rfl,_,rfl,_,rfl,fs,an,fa,rs,a,b,dp,rfl,S,hne,hdp,hd7,λks hG=>hq _ ⟨ks,hG,rfl⟩⟩) ?_)
 rintro _ ⟨ks2,hG2,rfl⟩
 refine ⟨_,rfl,_,rfl,_,rfl,?_⟩
 show (if decide ((dW fs fa a b dp rs).1=(dW fs fa a b dp rs).1)=true then _ else _)
 rw [if_pos (decide_eq_true rfl)]
 exact ⟨_,rfl,_,rfl,_,rfl,_,rfl,_,rfl,fs,an,fa,rs,a,b,dp,ks2,rfl,S,hne,by omega,hdp,hG2,h⟩

theorem aDs:cL P w K mg base fP 11 a_law f_law ["_law_script"] (bX K A2):=by
 have O_21:=aF8 (P:=P) (w:=w) (base:=base) T
 have O_22:=aF7 (P:=P) (w:=w) (base:=base) T O_21
 have O_23:=aF6 (P:=P) (w:=w) (base:=base) T O_21 O_22
 have O_31:=aFy (P:=P) (w:=w) (base:=base) T
 have O_33:=aFw (P:=P) (w:=w) (base:=base) T O_21
 have O_29:=aF0 (P:=P) (w:=w) (base:=base) T
 have O_34:=aFv (P:=P) (w:=w) (base:=base) T O_29
 have O_36:=aFt (P:=P) (w:=w) (base:=base) T
 have O_27:=aF2 (P:=P) (w:=w) (base:=base) T
 have O_28:=aF1 (P:=P) (w:=w) (base:=base) T O_27
 have O_26:=aF3 (P:=P) (w:=w) (base:=base) T
 have O_35:=aFu (P:=P) (w:=w) (base:=base) T O_28 O_26
 have O_37:=aFs (P:=P) (w:=w) (base:=base) T O_34 O_36 O_35
 have O_38:=aFr (P:=P) (w:=w) (base:=base) T O_26
 have O_39:=aFq (P:=P) (w:=w) (base:=base) T
 have O_32:=aFx (P:=P) (w:=w) (base:=base) T O_28
 have O_40:=aFp (P:=P) (w:=w) (base:=base) T O_37 O_38 O_39 O_31 O_34 O_32
 have O_24:=aF5 (P:=P) (w:=w) (base:=base) T O_21
 have O_25:=aF4 (P:=P) (w:=w) (base:=base) T O_24 O_21
 have O_20:=aF9 (P:=P) (w:=w) (base:=base) T
 have O_30:=aFz (P:=P) (w:=w) (base:=base) T O_21
 have O_6:=aI6 (P:=P) (w:=w) (base:=base) T
 have O_5:=aI7 (P:=P) (w:=w) (base:=base) T O_6
 have O_7:=aI5 (P:=P) (w:=w) (base:=base) T O_5
 have O_11:=aGi (P:=P) (w:=w) (base:=base) T
 have O_10:=aGj (P:=P) (w:=w) (base:=base) T O_11
 have O_9:=aI3 (P:=P) (w:=w) (base:=base) T
 have O_8:=aI4 (P:=P) (w:=w) (base:=base) T O_10 O_9
 have O_13:=aGg (P:=P) (w:=w) (base:=base) T O_8
 have O_0:=aJc (P:=P) (w:=w) (base:=base) T O_7 O_13
 have O_3:=aI9 (P:=P) (w:=w) (base:=base) T
 have O_4:=aI8 (P:=P) (w:=w) (base:=base) T O_3
 have O_1:=aJb (P:=P) (w:=w) (base:=base) T O_3 O_4
 have O_12:=aGh (P:=P) (w:=w) (base:=base) T
 have O_2:=aJa (P:=P) (w:=w) (base:=base) T O_12
 have O_19:=aGa (P:=P) (w:=w) (base:=base) T O_1
 have O_18:=aGb (P:=P) (w:=w) (base:=base) T O_1 O_2 O_19
 have O_17:=aGc (P:=P) (w:=w) (base:=base) T O_2
 have O_16:=aGd (P:=P) (w:=w) (base:=base) T O_17
 have O_15:=aGe (P:=P) (w:=w) (base:=base) T O_18 O_16
 have O_14:=aGf (P:=P) (w:=w) (base:=base) T O_0 O_15 O_19
 have O_law:=aCt (P:=P) (w:=w) (base:=base) T O_21 O_23 O_31 O_33 O_40 O_25 O_32 O_20 O_30 O_14
 exact O_law
theorem aDt {l:PySem.W.OpenLaw} {fa:Addr} (hfa:mg "law"=some (.ref fa)):∃ fd:dI,(∀ (s:Shared) (v:Value),BindsTo s fd ⟨[v],[]⟩ [("_law_script",v)])/\∀ base:Heap,K.In base->base.Ns iR mg->cL l.prog w K mg base fP 11 fa fd ["_law_script"] (bX K A2):=by
 have e:=hfa.symm.trans T.D_law.m
 cases e
 refine ⟨f_law,?_,λbase _ _=>aDs T⟩
 obtain ⟨_,_,_,_,_,_,_,_,_,e,_⟩:=T.D_law.F.ex
 rw [e]
 exact λs v=>.of_eq rfl
omit T
theorem S4 {t n:Nat} {s:Array (Option Value)} {k0 k1:Tok} (l:K.lookup t=some ⟨.type "tuple",none,.seq #[.str "yes" k0,.str "no" k1] n,s⟩):aD0 K t ["yes","no"]:=⟨_,_,_,l,rfl,rfl,rfl,(by show 2<=bD;decide),.cons ⟨_,rfl⟩ (.cons ⟨_,rfl⟩ (.nil))⟩
theorem SY {H:Hp}:bB H (mask H []):=λb o e=>by
 unfold mask
 rw [if_neg (by simp)]
 exact e
theorem DN {K:aD} {H:Hp}:∀ ns:List Int,Reps K H (ns.map aO) (ns.map V.int)
 | []=>.nil
 | n::ns=>.cons (.int n) (DN ns)
theorem aIj {l:PySem.W.OpenLaw} {q:bF} {loose:List Str} {XP:(Str->Option Value)->Heap->Prop} {YP:World->Heap->Prop} {d:DefRec} {K:Params->aD} (hn:l.most=some 63) (hdf:d.params.defaults=[])
  (hY:∀ (w:World) (h:Heap),YP w h->(K w.params).In h) (hT:∀ (w:World) (h:Heap),YP w h->∀ P,tabA=some P->h.get? P=some { cls:=.none,data:=.fields #[] }/\(K w.params).lookup P=none/\isCodeTable h P)
  (F:∀ (w:World) (mg:Str->Option Value) (fa:Addr) (h:Heap),(K w.params).In h->h.Ns iR mg->mg d.name=some (.ref fa) ->
   ∃ fd:dI,(∀ (s:Shared) (u:Value),BindsTo s fd ⟨[u],[]⟩ [("_law_script",u)])/\∀ base:Heap,(K w.params).In base->base.Ns iR mg->cL l.prog w (K w.params) mg base fP 11 fa fd ["_law_script"] (bX (K w.params) A2)) :
  VC q loose XP YP l.row.toRowW d [] (λf vs=>PySem.call f vs) :=
 L2.VH (n:=63) (k:=11) (x:="_law_script") (CX:=λ_=>fP) (sp:=λw=>bX (K w.params) A2) hn (by decide) hdf ⟨rfl,by decide,by decide,rfl⟩ hY hT F
  (λw H a ns hl _ hS=>⟨[],[.list (ns.map aO)],λd=>d=.bool true,λp hp=>by simp at hp,.cons (.list (L2.bB.seq SY hS) (DN ns)) .nil,⟨ns,rfl,hl,rfl⟩,λd v H' _ r q=>by subst q;cases r;rfl⟩) λ_ _ _ _ _ z=>z
end
end K36
open L2
def PySem.W.Fast.tw17748741559269355407:Nat:=0
def PySem.W.Fast.tw6021083872426392595:Nat:=0
def PySem.W.Fast.tw6471691697548678218:Nat:=0
def PySem.W.Fast.tw9743317839180899133:Nat:=0
def PySem.W.Fast.tw17251450182113499768:Nat:=0
def PySem.W.Fast.tw12780300565451022824:Nat:=0
def PySem.W.Fast.tw9572297656029564764:Nat:=0
def PySem.W.Fast.tw17786432687647405066:Nat:=0
def PySem.W.Fast.tw11427650449435926005:Nat:=0
def PySem.W.Fast.tw1693710811211076162:Nat:=0
def PySem.W.Fast.tw7115223603942018418:Nat:=0
def PySem.W.Fast.tw12144008791678354645:Nat:=0
def PySem.W.Fast.tw4304589580787470177:Nat:=0
def PySem.W.Fast.tw1702136876659059731:Nat:=0
def PySem.W.Fast.tw2200634836304229242:Nat:=0
def PySem.W.Fast.tw2817747490000787569:Nat:=0
def PySem.W.Fast.tw8239644903950339651:Nat:=0
def PySem.W.Fast.tw16034214417476193422:Nat:=0
def PySem.W.Fast.tw14620673619274345119:Nat:=0
def PySem.W.Fast.tw14824436577149928797:Nat:=0
def PySem.W.Fast.tw16307687654330300483:Nat:=0
def PySem.W.Fast.tw7062112257452803962:Nat:=0
def PySem.W.Fast.tw5165667718940172153:Nat:=0
def PySem.W.Fast.tw7708051055205576730:Nat:=0
def PySem.W.Fast.tw2796746645692151370:Nat:=0
def PySem.W.Fast.tw5855845742315718290:Nat:=0
open PySem PySem.W PyProof.Rows
set_option maxRecDepth 100000 in
set_option maxHeartbeats 0 in
theorem PySem.Challenge.cw_leafjudge_k36_whole_no_tree_costs_less_holds : PySem.Challenge.rw_leafjudge_k36_whole_no_tree_costs_less.Holds := by
  w_on; o_law; k_head; (case hw => w_witness2)
  k_fill
  refine K36.aIj (l := PySem.Challenge.rw_leafjudge_k36_whole_no_tree_costs_less) rfl rfl (λw h Y => PySem.W.kIn_of Y) (λ_ _ _ _ e => nomatch e) ?F
  case F =>
    intro w mg fa h KX G hmg
    refine' K36.aDt ⟨mg_of KX G ?_,⟨?_, ?_, ?_, ?_⟩,⟨?_, ?_, ?_, ?_⟩,na ?_,na ?_,na ?_,na ?_,na ?_,⟨?_, ?_, ?_⟩,⟨?_, ?_, ?_⟩,dg bn4 ?_ ?_ ?_,dg PH ?_ ?_ ?_,dg PH ?_ ?_ ?_,df KX G PH ?_ ?_ ?_ ?_,df KX G PH ?_ ?_ ?_ ?_,df KX G U8 ?_ ?_ ?_ ?_,df KX G U8 ?_ ?_ ?_ ?_,df KX G U8 ?_ ?_ ?_ ?_,df KX G bn4 ?_ ?_ ?_ ?_,df KX G PH ?_ ?_ ?_ ?_,df KX G U7 ?_ ?_ ?_ ?_,df KX G PH ?_ ?_ ?_ ?_,df KX G PH ?_ ?_ ?_ ?_,df KX G U7 ?_ ?_ ?_ ?_,df KX G bn4 ?_ ?_ ?_ ?_,df KX G U7 ?_ ?_ ?_ ?_,df KX G U7 ?_ ?_ ?_ ?_,df KX G PH ?_ ?_ ?_ ?_,df KX G bn4 ?_ ?_ ?_ ?_,df KX G bn4 ?_ ?_ ?_ ?_,df KX G U8 ?_ ?_ ?_ ?_,df KX G PH ?_ ?_ ?_ ?_,df KX G PH ?_ ?_ ?_ ?_,df KX G U7 ?_ ?_ ?_ ?_,df KX G PH ?_ ?_ ?_ ?_,df KX G U7 ?_ ?_ ?_ ?_,df KX G U8 ?_ ?_ ?_ ?_,df KX G bn4 ?_ ?_ ?_ ?_,df KX G bn4 ?_ ?_ ?_ ?_,df KX G PH ?_ ?_ ?_ ?_,df KX G U7 ?_ ?_ ?_ ?_,df KX G U8 ?_ ?_ ?_ ?_,df KX G U7 ?_ ?_ ?_ ?_,df KX G U8 ?_ ?_ ?_ ?_,df KX G U7 ?_ ?_ ?_ ?_,df KX G PH ?_ ?_ ?_ ?_,df KX G U8 ?_ ?_ ?_ ?_,df KX G bn4 ?_ ?_ ?_ ?_,df KX G U7 ?_ ?_ ?_ ?_,df KX G U8 ?_ ?_ ?_ ?_,df KX G bn5 ?_ ?_ ?_ ?_,df KX G U8 ?_ ?_ ?_ ?_,mg_of KX G ?_,K36.S4 ?_,mg_of KX G ?_,mg_none_of KX G ?_,mg_none_of KX G ?_,mg_none_of KX G ?_,mg_none_of KX G ?_,mg_none_of KX G ?_,mg_none_of KX G ?_,mg_none_of KX G ?_,mg_none_of KX G ?_,mg_none_of KX G ?_,mg_none_of KX G ?_,mg_none_of KX G ?_,mg_none_of KX G ?_,mg_none_of KX G ?_⟩ hmg
    all_goals try k_is
