import PyProof.Rows.All
import Wide.All
import OpenK.AllK
import Wide.FinOn
import Lean
import PyProof.EqAt
import PyProof.EqKinds
import PyProof.TupleCall
import PyProof.P3In
import PyProof.NeData
import KE.KLam
import KE.KNestM
import KE.KSortKey
import KE.KListMore
import PySem.Challenge.RW_leafjudge_k32_whole_trees_grown
set_option Elab.async false
set_option linter.all false
set_option maxRecDepth 100000
def L2.tabA : Option PySem.Addr := some 129
namespace L2
open PySem PySem.Spec PyProof.Rows

abbrev Key:=Sum Int Str
def keyIs:Key->Value->Bool
 | .inl k,v=>Value.isInt k v
 | .inr x,v=>Value.isStrOf x v
def keyH (w:World):Key->Int
 | .inl k=>hashInt k
 | .inr x=>hashStr w x
theorem keyIs_shape:∀ {k:Key} {v:Value},keyIs k v=true->(∃ i t,k=Sum.inl i/\v=Value.int i t)\/(∃ x t,k=Sum.inr x/\v=Value.str x t)
 | .inl i,v,h=>by
  obtain ⟨t,e⟩:=Value.isInt_shape (k:=i) (v:=v) h
  exact .inl ⟨i,t,rfl,e⟩
 | .inr x,v,h=>by
  obtain ⟨t,e⟩:=Value.isStrOf_shape (x:=x) (v:=v) h
  exact .inr ⟨x,t,rfl,e⟩
theorem keyIs_int (i:Int) (t:Tok):keyIs (.inl i) (.int i t)=true:=by simp [keyIs,Value.isInt]
theorem keyIs_str (x:Str) (t:Tok):keyIs (.inr x) (.str x t)=true:=by simp [keyIs,Value.isStrOf]
theorem key_ll (a b:Int):decide ((Sum.inl a:Key)=Sum.inl b)=(a == b):=by
 by_cases e:a=b
 ·subst e;simp
 ·have h:¬ (Sum.inl a:Key)=Sum.inl b:=fun q=>e (Sum.inl.inj q)
  rw [decide_eq_false h]
  exact (beq_eq_false_iff_ne.mpr e).symm
theorem key_rr (a b:Str):decide ((Sum.inr a:Key)=Sum.inr b)=decide (a=b):=by
 by_cases e:a=b
 ·subst e;simp
 ·have h:¬ (Sum.inr a:Key)=Sum.inr b:=fun q=>e (Sum.inr.inj q)
  rw [decide_eq_false h,decide_eq_false e]
theorem key_lr (a:Int) (b:Str):decide ((Sum.inl a:Key)=Sum.inr b)=false:=decide_eq_false (fun q=>nomatch q)
theorem key_rl (a:Str) (b:Int):decide ((Sum.inr a:Key)=Sum.inl b)=false:=decide_eq_false (fun q=>nomatch q)

def mixKind (prog:Program) (w:World):PySem.KeyKind prog w Key where
 is:=keyIs
 hash:=keyH w
 inj:=fun v a b ha hb=>by
  rcases keyIs_shape ha with ⟨i,t,rfl,rfl⟩ | ⟨x,t,rfl,rfl⟩
  ·rcases keyIs_shape hb with ⟨j,u,rfl,e⟩ | ⟨y,u,rfl,e⟩
   ·injection e with e1 _;rw [e1]
   ·exact nomatch e
  ·rcases keyIs_shape hb with ⟨j,u,rfl,e⟩ | ⟨y,u,rfl,e⟩
   ·exact nomatch e
   ·injection e with e1 _;rw [e1]
 byValue:=fun k v h=>by
  rcases keyIs_shape h with ⟨i,t,rfl,rfl⟩ | ⟨x,t,rfl,rfl⟩<;>rfl
 pyHash:=fun hv h=>by
  rcases keyIs_shape hv with ⟨i,t,rfl,rfl⟩ | ⟨x,t,rfl,rfl⟩
  ·exact wpAny_pyHash_int h
  ·exact wpAny_pyHash_str h
 eqBool:=fun hu hv h=>by
  rcases keyIs_shape hu with ⟨i,t,rfl,rfl⟩ | ⟨x,t,rfl,rfl⟩
  ·rcases keyIs_shape hv with ⟨j,u,rfl,rfl⟩ | ⟨y,u,rfl,rfl⟩
   ·rw [key_ll] at h;exact wpAny_eqBool_int h
   ·rw [key_lr] at h;exact SeqAt.EqAt.int_str i t y u _ _ _ _ h
  ·rcases keyIs_shape hv with ⟨j,u,rfl,rfl⟩ | ⟨y,u,rfl,rfl⟩
   ·rw [key_rl] at h;exact SeqAt.EqAt.str_int x t j u _ _ _ _ h
   ·rw [key_rr] at h;exact wpAny_eqBool_str h
 «strs»:=fun k x t v h=>by
  rcases keyIs_shape h with ⟨i,u,rfl,e⟩ | ⟨y,u,rfl,e⟩
  ·exact nomatch e
  ·injection e with e1 _
   subst e1
   cases v<;>rfl

theorem mixKind_int (prog:Program) (w:World) (i:Int) (t:Tok):(mixKind prog w).is (.inl i) (.int i t)=true:=keyIs_int i t
theorem mixKind_str (prog:Program) (w:World) (x:Str) (t:Tok):(mixKind prog w).is (.inr x) (.str x t)=true:=keyIs_str x t

inductive V where
 | non | bl (b:Bool) | int (i:Int) | str (x:Str) | byt (b:Array UInt8) | flt (b:UInt64) | ref (a:Addr) | ty (n:String)
 deriving DecidableEq

def RelV:V->Value->Prop
 | .non,u=>u=Value.none
 | .bl b,u=>u=Value.bool b
 | .int i,u=>∃ t,u=Value.int i t
 | .str x,u=>∃ t,u=Value.str x t
 | .byt b,u=>∃ t,u=Value.bytes b t
 | .flt b,u=>∃ t,u=Value.float b t
 | .ref a,u=>u=Value.ref a
 | .ty n,u=>u=Value.type n

abbrev Vals:List V->List Value->Prop:=Paired RelV
theorem Vals.length {xs:List V} {us:List Value} (r:Vals xs us):xs.length=us.length:=Paired.length r
theorem Vals.get:∀ {xs:List V} {us:List Value} {i:Nat} {x:V},Vals xs us->xs[i]?=some x->∃ u,us[i]?=some u/\RelV x u
 | _,_,_,_,.nil,e=>by simp at e
 | _,_,0,_,.cons r _,e=>by simp at e;subst e;exact ⟨_,rfl,r⟩
 | _,_,i+1,x,.cons _ t,e=>by
  obtain ⟨u,h1,h2⟩:=Vals.get (i:=i) (x:=x) t (by simpa using e)
  exact ⟨u,by simpa using h1,h2⟩
theorem Vals.set {x:V} {u:Value} (r:RelV x u):∀ {xs:List V} {us:List Value} (i:Nat),Vals xs us->Vals (xs.set i x) (us.set i u)
 | _,_,_,.nil=>.nil
 | _,_,0,.cons _ t=>.cons r t
 | _,_,i+1,.cons q t=>.cons q (Vals.set r i t)
theorem Vals.append:∀ {xs ys:List V} {us ws:List Value},Vals xs us->Vals ys ws->Vals (xs++ys) (us++ws)
 | _,_,_,_,.nil,s=>s
 | _,_,_,_,.cons r t,s=>.cons r (Vals.append t s)
theorem Vals.take:∀ {xs:List V} {us:List Value} (n:Nat),Vals xs us->Vals (xs.take n) (us.take n)
 | _,_,0,_=>.nil
 | _,_,_+1,.nil=>.nil
 | _,_,n+1,.cons r t=>.cons r (Vals.take n t)
theorem Vals.drop:∀ {xs:List V} {us:List Value} (n:Nat),Vals xs us->Vals (xs.drop n) (us.drop n)
 | _,_,0,r=>r
 | _,_,_+1,.nil=>.nil
 | _,_,n+1,.cons _ t=>Vals.drop n t
def RelO:Option V->Option Value->Prop
 | some v,some u=>RelV v u
 | none,none=>True
 | _,_=>False
def KV {κ:Type}:List (κ×V)->List (κ×Value)->Prop:=Paired fun (p:κ×V) (q:κ×Value)=>p.1=q.1/\RelV p.2 q.2

def kV:Key->V
 | .inl i=>.int i
 | .inr x=>.str x

inductive HO where
 /-- a list -/
 | lst (xs:List V)
 /-- a tuple (never changes) -/
 | tup (xs:List V)
 /-- a dict whose keys are ints and texts;one whose keys are tuples of ints and texts (the empty one is both) -/
 | dK (kvs:List (Key×V)) | dT (kvs:List (List Key×V))
 /-- a set of ints: its members,its size -/
 | set (S:Int->Bool) (n:Nat)
 /-- an instance of the class at C,its dict at dx,its attributes -/
 | ins (C dx:Addr) (fs:List (Str×V))
 /-- the dict of the instance at x -/
 | own (x:Addr)
 /-- the dict of an exception -/
 | xd (fs:List (Str×V))
 /-- a bound method,f of x -/
 | met (f x:Addr)
 /-- a range object lo,lo+1,.. below hi -/
 | rng (lo hi:Int)
 /-- a thing that is known to the object (the script;a dict while a loop walks it): read,never written while it is so -/
 | frz (o:Obj) (u:HO)
 /-- a code object's table -/
 | tbl (ps:Array Value)
 /-- any other thing,by what is true of its one object (a def of one's own: SetO a S n:=HO.ext fun h=>..) -/
 | ext (φ:Heap->Prop)

abbrev Hp:=Addr->Option HO
def upd (H:Hp) (a:Addr) (o:HO):Hp:=fun b=>if b=a then some o else H b
theorem upd_same {H:Hp} {a:Addr} {o:HO}:upd H a o a=some o:=by unfold upd;rw [if_pos rfl]
theorem upd_ne {H:Hp} {a b:Addr} {o:HO} (h:b≠a):upd H a o b=H b:=by unfold upd;rw [if_neg h]
theorem ne_of {H:Hp} {a b:Addr} {o u:HO} (h:H a=some o) (h':H b=some u) (d:o≠u):a≠b:=by
 intro e;subst e;rw [h] at h';exact d (Option.some.inj h')
theorem ne_of_none {H:Hp} {a b:Addr} {o:HO} (h:H a=some o) (h':H b=none):a≠b:=by
 intro e;subst e;rw [h] at h';cases h'

section
variable (P:Program) (w:World)
def TupN (h:Heap) (a:Addr) (items:Array Value):Prop:=∃ o,h.get? a=some o/\o.cls=.type "tuple"/\∃ n,o.data=.seq items n/\o.dict=none
theorem TupN.tup {h:Heap} {a:Addr} {items:Array Value} (x:TupN h a items):IsTup h a items:=let ⟨o,e,c,n,d,_⟩:=x;⟨o,e,c,n,d⟩
theorem TupN.lt {h:Heap} {a:Addr} {items:Array Value} (x:TupN h a items):a<h.objs.size:=x.tup.lt
theorem TupN.new (h:Heap) (items:Array Value):TupN (h.push { cls:=.type "tuple",data:=.seq items }) h.objs.size items:=⟨_,Heap.get?_push_size _ rfl,rfl,_,rfl,rfl⟩
def CodeO (oc:Obj):Prop:=∃ (vs:Array Value) (q:Str) (t:Tok),oc.data=.fields vs/\vs[1]?=some (.str q t)
def ObjOk (H:Hp) (h:Heap) (a:Addr):HO->Prop
 | .lst xs=>xs.length<=sizeLine/\∃ (its:List Value) (n:Nat),Vals xs its/\h.get? a=some { cls:=.type "list",data:=.seq its.toArray n }
 | .tup xs=>xs.length<=sizeLine/\∃ its:List Value,Vals xs its/\TupN h a its.toArray
 | .dK kvs=>kvs.length<=sizeLine/\(a == sysModules)=false/\∃ vs,KV kvs vs/\h.DictOf (mixKind P w) a vs
 | .dT kvs=>kvs.length<=sizeLine/\(a == sysModules)=false/\∃ xs:List (List Key×Addr×Value),
   Paired (fun (p:List Key×V) (q:List Key×Addr×Value)=>p.1=q.1/\H q.2.1=some (.tup (p.1.map kV))/\RelV p.2 q.2.2) kvs xs /\
   ∃ o es ep,h.get? a=some o/\o.ExactDict/\o.data=.dict es ep/\es.toList=xs.map (entryOfKey (tupleKind (mixKind P w)))/\(xs.map (·.1)).Nodup
 | .set S n=>h.SetOf (intKind P w) a S n
 | .ins C dx fs=>H dx=some (.own a)/\fs.length<=1000/\dx≠a/\h.get? a=some (PySem.W.instObj C dx) /\
   ∃ mA,h.Ns1 dx mA/\(∀ f,RelO (fs.lookup f) (mA f))/\PySem.Within mA (fs.map (·.1))
 | .own _=>∃ o,h.get? a=some o
 | .xd fs=>∃ mA,h.Ns1 a mA/\∀ f,RelO (fs.lookup f) (mA f)
 | .rng lo hi=>∃ t u v,h.get? a=some { cls:=.type "range",data:=.fields #[.int lo t,.int hi u,.int 1 v] }
 | .frz o u=>h.get? a=some o/\ObjOk H h a u
 | .tbl _=>∃ qs:Array Value,h.get? a=some { cls:=.none,data:=.fields qs }/\TriplesOk qs.toList/\∀ (p:Pos) (c:Value),codeAmong p qs.toList=some c->∃ c' oc,c=.ref c'/\H c'=some (.frz oc (.own a))/\CodeO oc
 | .met f x=>h.get? a=some (PySem.W.methodObj (.ref f) (.ref x))
 | .ext φ=>φ h/\(∃ o,h.get? a=some o)/\∀ h1 h2:Heap,φ h1->(∀ o,h1.get? a=some o->h2.get? a=some o)->φ h2
def HOk (H:Hp) (h:Heap):Prop:=∀ a o,H a=some o->ObjOk P w H h a o
end

section
variable {P:Program} {w:World} {H H':Hp} {h h':Heap} {a:Addr} {o:HO}
theorem ObjOk.lt (x:ObjOk P w H h a o):a<h.objs.size:=by
 cases o with
 | lst xs=>obtain ⟨_,_,_,_,e⟩:=x;exact Heap.lt_size e
 | tup xs=>obtain ⟨_,_,_,p⟩:=x;exact p.lt
 | dK kvs=>obtain ⟨_,_,_,_,o,_,_,e,_⟩:=x;exact Heap.lt_size e
 | dT kvs=>obtain ⟨_,_,_,_,o,_,_,e,_⟩:=x;exact Heap.lt_size e
 | set S n=>obtain ⟨o,_,_,_,e,_⟩:=x;exact Heap.lt_size e
 | ins C dx fs=>obtain ⟨_,_,_,e,_⟩:=x;exact Heap.lt_size e
 | own y=>obtain ⟨_,e⟩:=x;exact Heap.lt_size e
 | xd fs=>obtain ⟨_,⟨_,_,_,e,_⟩,_⟩:=x;exact Heap.lt_size e
 | rng lo hi=>obtain ⟨_,_,_,e⟩:=x;exact Heap.lt_size e
 | frz ob u=>obtain ⟨e,_⟩:=x;exact Heap.lt_size e
 | tbl ps=>obtain ⟨_,e,_⟩:=x;exact Heap.lt_size e
 | met f y=>exact Heap.lt_size (show h.get? a=some _ from x)
 | ext φ=>obtain ⟨_,⟨_,e⟩,_⟩:=x;exact Heap.lt_size e
theorem Paired.mapP {α β:Type} {F G:α->β->Prop}:∀ {l₁:List α} {l₂:List β},Paired F l₁ l₂->(∀ a b,F a b->G a b)->Paired G l₁ l₂
 | _,_,.nil,_=>.nil
 | _,_,.cons r t,f=>.cons (f _ _ r) (Paired.mapP t f)
theorem ObjOk.stay (x:ObjOk P w H h a o) (k:∀ b u,(b=a\/H b=some (.own a))->h.get? b=some u->h'.get? b=some u)
  (ho:∀ b,H b=some (.own a)->H' b=some (.own a)) (ht:∀ b xs,H b=some (.tup xs)->H' b=some (.tup xs)) (hf:∀ b ob u,H b=some (.frz ob u)->H' b=some (.frz ob u):=by exact fun _ _ _ q=>q):ObjOk P w H' h' a o:=by
 induction o with
 | lst xs=>obtain ⟨z,its,n,r,e⟩:=x;exact ⟨z,its,n,r,k _ _ (.inl rfl) e⟩
 | tup xs=>obtain ⟨z,its,r,ob,e,c⟩:=x;exact ⟨z,its,r,ob,k _ _ (.inl rfl) e,c⟩
 | dK kvs=>obtain ⟨z,y,vs,r,ob,es,ep,e,c⟩:=x;exact ⟨z,y,vs,r,ob,es,ep,k _ _ (.inl rfl) e,c⟩
 | dT kvs =>
  obtain ⟨z,y,xs,r,ob,es,ep,e,c⟩:=x
  exact ⟨z,y,xs,Paired.mapP r fun p q z=>⟨z.1,ht _ _ z.2.1,z.2.2⟩,ob,es,ep,k _ _ (.inl rfl) e,c⟩
 | set S n=>obtain ⟨ob,es,ep,t,e,c⟩:=x;exact ⟨ob,es,ep,t,k _ _ (.inl rfl) e,c⟩
 | ins C dx fs =>
  obtain ⟨d,z,ne,e,mA,⟨od,es,ep,e2,c⟩,r⟩:=x
  exact ⟨ho _ d,z,ne,k _ _ (.inl rfl) e,mA,⟨od,es,ep,k _ _ (.inr d) e2,c⟩,r⟩
 | own y=>obtain ⟨ob,e⟩:=x;exact ⟨ob,k _ _ (.inl rfl) e⟩
 | xd fs=>obtain ⟨mA,⟨od,es,ep,e,c⟩,r⟩:=x;exact ⟨mA,⟨od,es,ep,k _ _ (.inl rfl) e,c⟩,r⟩
 | rng lo hi=>obtain ⟨t,u,v,e⟩:=x;exact ⟨t,u,v,k _ _ (.inl rfl) e⟩
 | frz ob u ih=>obtain ⟨e,q⟩:=x;exact ⟨k _ _ (.inl rfl) e,ih q⟩
 | tbl ps =>
  obtain ⟨qs,e,t,z⟩:=x
  exact ⟨qs,k a _ (.inl rfl) e,t,fun p c q=>let ⟨c',oc,h1,h2,h3⟩:=z p c q;⟨c',oc,h1,hf _ _ _ h2,h3⟩⟩
 | met f y =>
  have e:h.get? a=some (PySem.W.methodObj (.ref f) (.ref y)):=x
  show h'.get? a=some (PySem.W.methodObj (.ref f) (.ref y))
  exact k a _ (.inl rfl) e
 | ext φ=>obtain ⟨p,⟨o,e⟩,st⟩:=x;exact ⟨st _ _ p fun o q=>k _ _ (.inl rfl) q,⟨o,k _ _ (.inl rfl) e⟩,st⟩
theorem HOk.lt (x:HOk P w H h) (e:H a=some o):a<h.objs.size:=(x a o e).lt
theorem HOk.fresh (x:HOk P w H h) (e:h.objs.size<=a):H a=none:=by
 cases q:H a with
 | none=>rfl
 | some u=>exact absurd (Nat.lt_of_lt_of_le (x.lt q) e) (Nat.lt_irrefl _)
theorem HOk.kept (x:HOk P w H h) (k:∀ b u,h.get? b=some u->h'.get? b=some u):HOk P w H h':=fun a o e =>
 (x a o e).stay (fun b u _ q=>k b u q) (fun _ q=>q) fun _ _ q=>q
theorem HOk.laid (x:HOk P w H h) (k:∀ b u,h.get? b=some u->h'.get? b=some u) (hp:h.objs.size<=a) (new:ObjOk P w (upd H a o) h' a o):HOk P w (upd H a o) h':=fun b u e=>by
 have hn:=x.fresh hp
 by_cases hb:b=a
 ·subst hb;rw [upd_same] at e;cases e;exact new
 ·rw [upd_ne hb] at e
  exact (x b u e).stay (fun c v _ q=>k c v q) (fun c q=>by rw [upd_ne (ne_of_none q hn)];exact q) (fun c xs q=>by rw [upd_ne (ne_of_none q hn)];exact q) fun c ob v q=>by rw [upd_ne (ne_of_none q hn)];exact q
end

def Rd (H:Hp) (a:Addr) (u:HO):Prop:=H a=some u\/∃ o,H a=some (.frz o u)
theorem Rd.of {H:Hp} {a:Addr} {u:HO} (h:H a=some u):Rd H a u:=.inl h
theorem Rd.ok {P:Program} {w:World} {H:Hp} {h:Heap} {a:Addr} {u:HO} (r:Rd H a u) (x:HOk P w H h):ObjOk P w H h a u:=by
 rcases r with r | ⟨o,r⟩
 ·exact x a u r
 ·obtain ⟨_,q⟩:=x a _ r
  exact q
def Mut:Option HO->Prop
 | some (.lst _)=>True
 | some (.dK _)=>True
 | some (.dT _)=>True
 | some (.set _ _)=>True
 | some (.ins _ _ _)=>True
 | some (.ext _)=>True
 | _=>False
section
variable {P:Program} {w:World} {H:Hp} {h h':Heap} {x e:Addr} {o':HO}
theorem HOk.write (ok:HOk P w H h) (mu:Mut (H x)) (he:e=x\/H e=some (.own x)) (k:∀ b u,b≠e->h.get? b=some u->h'.get? b=some u) (heo:∃ u,h'.get? e=some u)
  (new:ObjOk P w (upd H x o') h' x o'):HOk P w (upd H x o') h':=fun b u q=>by
 have nown:∀ c y,H c=some (.own y)->c≠x:=fun c y r z=>by subst z;rw [r] at mu;exact mu
 have ntup:∀ c xs,H c=some (.tup xs)->c≠x:=fun c xs r z=>by subst z;rw [r] at mu;exact mu
 by_cases hb:b=x
 ·subst hb;rw [upd_same] at q;cases q;exact new
 ·rw [upd_ne hb] at q
  by_cases hbe:b=e
  ·have q':H b=some (.own x):=by
    rcases he with z | z
    ·exact absurd (hbe.trans z) hb
    ·rw [hbe];exact z
   rw [q] at q';cases q'
   obtain ⟨v,hv⟩:=heo
   exact ⟨v,by rw [hbe];exact hv⟩
  ·refine (ok b u q).stay (fun c v hc r=>k c v ?_ r) (fun c r=>by rw [upd_ne (nown c b r)];exact r) (fun c xs r=>by rw [upd_ne (ntup c xs r)];exact r) fun c ob v r=>by rw [upd_ne (fun z=>by subst z;rw [r] at mu;exact mu)];exact r
   rcases hc with rfl | hc
   ·exact hbe
   ·rintro rfl
    rcases he with z | z
    ·exact nown c b hc z
    ·rw [hc] at z;cases z;exact hb rfl
end

structure Un (fs ex:List Addr) (H H':Hp) (h h':Heap):Prop where
 keep:∀ b o,h.get? b=some o->H b=none->b∉fs->b∉ex->h'.get? b=some o
 slot:∀ b o,h.get? b=some o->H b=none->b∈fs->b∉ex->∃ sl,h'.get? b=some { o with slots:=sl }
 free:∀ b o,h.get? b=some o->H b=none->b∉ex->H' b=none
 there:∀ b o,h.get? b=some o->b∉ex->∃ o',h'.get? b=some o'
 tups:∀ b xs,H b=some (.tup xs)->H' b=some (.tup xs)
 frzs:∀ b o u,H b=some (.frz o u)->H' b=some (.frz o u)
 tbls:∀ b ps,H b=some (.tbl ps)->∃ more,H' b=some (.tbl (ps++more))
section
variable {fs fs' ex ex':List Addr} {H H1 H2:Hp} {h h1 h2 h':Heap} {a x e:Addr} {o:HO}
theorem Un.any (u:Un fs ex H H1 h h1) {b:Addr} {ob:Obj} (q:h.get? b=some ob) (n:H b=none) (hx:b∉ex):∃ sl,h1.get? b=some { ob with slots:=sl }:=by
 by_cases hb:b∈fs
 ·exact u.slot b ob q n hb hx
 ·exact ⟨ob.slots,u.keep b ob q n hb hx⟩
theorem Un.trans (a:Un fs ex H H1 h h1) (b:Un fs ex H1 H2 h1 h2):Un fs ex H H2 h h2 where
 keep:=fun c ob q n hc hx=>b.keep c ob (a.keep c ob q n hc hx) (a.free c ob q n hx) hc hx
 slot:=fun c ob q n hc hx=>by
  obtain ⟨sl,e1⟩:=a.slot c ob q n hc hx
  obtain ⟨sl',e2⟩:=b.slot c _ e1 (a.free c ob q n hx) hc hx
  exact ⟨sl',e2⟩
 free:=fun c ob q n hx=>by
  obtain ⟨o',e1⟩:=a.there c ob q hx
  exact b.free c o' e1 (a.free c ob q n hx) hx
 there:=fun c ob q hx=>by
  obtain ⟨o',e1⟩:=a.there c ob q hx
  exact b.there c o' e1 hx
 tups:=fun c xs q=>b.tups c xs (a.tups c xs q)
 frzs:=fun c ob xs q=>b.frzs c ob xs (a.frzs c ob xs q)
 tbls:=fun c ps q=>by
  obtain ⟨m1,e1⟩:=a.tbls c ps q
  obtain ⟨m2,e2⟩:=b.tbls c _ e1
  exact ⟨m1++m2,by rw [e2,Array.append_assoc]⟩
theorem Un.kept (k:∀ b u,h.get? b=some u->h'.get? b=some u):Un fs ex H H h h' :=
 ⟨fun b ob q _ _ _=>k b ob q,fun b ob q _ _ _=>⟨ob.slots,k b ob q⟩,fun _ _ _ n _=>n,fun b ob q _=>⟨ob,k b ob q⟩,fun _ _ q=>q,fun _ _ _ q=>q,fun _ ps q=>⟨#[],by rw [q];simp⟩⟩
theorem Un.refl:Un fs ex H H h h:=Un.kept fun _ _ q=>q
theorem Un.laid (k:∀ b u,h.get? b=some u->h'.get? b=some u) (hp:h.objs.size<=a) (hn:H a=none):Un fs ex H (upd H a o) h h' where
 keep:=fun b u q _ _ _=>k b u q
 slot:=fun b u q _ _ _=>⟨u.slots,k b u q⟩
 free:=fun b u q n _=>by rw [upd_ne (Nat.ne_of_lt (Nat.lt_of_lt_of_le (Heap.lt_size q) hp))];exact n
 there:=fun b u q _=>⟨u,k b u q⟩
 tups:=fun b xs q=>by rw [upd_ne (ne_of_none q hn)];exact q
 frzs:=fun b u xs q=>by rw [upd_ne (ne_of_none q hn)];exact q
 tbls:=fun b ps q=>⟨#[],by rw [upd_ne (ne_of_none q hn),q];simp⟩
theorem Un.write (mu:Mut (H x)) (he:e=x\/H e=some (.own x)) (k:∀ b u,b≠e->h.get? b=some u->h'.get? b=some u) (heo:∃ u,h'.get? e=some u):Un fs ex H (upd H x o) h h':=by
 have hx:∀ b,H b=none->b≠x:=fun b n z=>by subst z;rw [n] at mu;exact mu
 have hb:∀ b,H b=none->b≠e:=fun b n z=>by
  subst z
  rcases he with r | r
  ·exact hx b n r
  ·rw [n] at r;cases r
 have hm:∀ b u,H b=some u->¬ Mut (some u)->b≠x:=fun b u q nm z=>by subst z;rw [q] at mu;exact nm mu
 refine ⟨fun b u q n _ _=>k b u (hb b n) q,fun b u q n _ _=>⟨u.slots,k b u (hb b n) q⟩,fun b u q n _=>by rw [upd_ne (hx b n)];exact n,fun b u q _=>?_,
  fun b xs q=>by rw [upd_ne (hm b _ q fun z=>z)];exact q,fun b u xs q=>by rw [upd_ne (hm b _ q fun z=>z)];exact q,fun b ps q=>⟨#[],by rw [upd_ne (hm b _ q fun z=>z),q];simp⟩⟩
 by_cases hbe:b=e
 ·subst hbe;exact heo
 ·exact ⟨u,k b u hbe q⟩
theorem Un.mono (u:Un fs ex H H1 h h1) (hs:∀ b∈fs,b∈fs') (hx:∀ b∈ex,b∈ex'):Un fs' ex' H H1 h h1 :=
 ⟨fun b ob q n hb he=>u.keep b ob q n (fun z=>hb (hs b z)) fun z=>he (hx b z),fun _ _ q n _ he=>u.any q n fun z=>he (hx _ z),fun b ob q n he=>u.free b ob q n fun z=>he (hx b z),fun b ob q he=>u.there b ob q fun z=>he (hx b z),u.tups,u.frzs,u.tbls⟩
end

def trk (h:Heap) (H:Hp):List Addr:=(List.range h.objs.size).filter fun a=>(H a).isSome
def hidT (h:Heap) (H:Hp):Heap:=PySem.W.hideAll h (trk h H)
theorem hidT_size (h:Heap) (H:Hp):(hidT h H).objs.size=h.objs.size:=PySem.W.hideAll_size _ _
theorem hidT_get {h:Heap} {H:Hp} {b:Addr} {o:Obj} (e:h.get? b=some o) (n:H b=none):(hidT h H).get? b=some o :=
 PySem.W.hideAll_get _ e fun hm=>by
  have q:(H b).isSome=true:=(List.mem_filter.mp hm).2
  rw [n] at q;simp at q
theorem of_hidT {h:Heap} {H:Hp} {b:Addr} {o:Obj} (e:(hidT h H).get? b=some o):h.get? b=some o/\H b=none:=by
 have e':h.get? b=some o:=PySem.W.of_hideAll (trk h H) e
 refine ⟨e',?_⟩
 cases q:H b with
 | none=>rfl
 | some x =>
  have hm:b∈trk h H:=List.mem_filter.mpr ⟨List.mem_range.mpr (Heap.lt_size e'),by simp [q]⟩
  have z:(hidT h H).get? b=none:=PySem.W.hideAll_none (trk h H) hm
  rw [z] at e;cases e

end L2

namespace L2
open PySem PySem.Spec PyProof.Rows

structure Mod (K:PySem.W.Frag) (mg:Str->Option Value) (base:Heap):Prop where
 kin:K.In base
 glob:base.Ns mainGlobals mg
 blt:∃ mb,base.Ns builtinsNs mb/\∀ x:Str,x≠"__name__"->mb x=bootBuiltins x
 nolimit:base.NoLimit
 bmod:∃ bm o,mg "__builtins__"=some (.ref bm)/\bm≠builtinsNs/\base.get? bm=some o/\o.cls=.type "module"/\o.dict=some builtinsNs/\o.data=.plain

structure Cx where
 prog:Program
 w:World
 K:PySem.W.Frag
 mg:Str->Option Value
 base:Heap
 A:Around
 N:List Str
 s₀:Shared
 H₀:Hp
 env:Env
 outer:List Env
 stack:List Env
 ex:List Addr
 fn:Str->Bool
 calm:Bool
 pn:List (Addr×Obj)
 xe:Value->Shared->Prop
def frs (l:List Env):List Addr:=l.filterMap (·.frame)
abbrev Cx.fs (X:Cx):List Addr:=frs X.outer

def Vis (sc:Scope) (x:Str):Prop:=sc.names.lookup x=some .local\/sc.names.lookup x=some .cell\/sc.names.lookup x=some .free
def Loc (sc:Scope) (x:Str):Prop:=sc.names.lookup x=some .local\/sc.names.lookup x=some .cell
def Look (env:Env) (h:Heap) (m:Str->Option Value) (x:Str) (u:Value):Prop :=
 (env.kindOf x=some .local/\m x=some u)\/((env.kindOf x=some .cell\/env.kindOf x=some .free)/\∃ c,env.cells.lookup x=some c/\h.IsCell c (some u))

def Tb (H:Hp):Prop:=∀ P,tabA=some P->∃ ps,H P=some (.tbl ps)
structure Cx.Ok (X:Cx):Prop where
 mod:Mod X.K X.mg X.base
 kind:X.env.scope.kind=.function
 glob:X.env.globals=mainGlobals
 blt:X.env.builtins=builtinsNs
 above:X.s₀.heap.objs.size<=X.env.locals
 inj:∀ x y c,X.env.cells.lookup x=some c->X.env.cells.lookup y=some c->x=y
 has:∀ x,(X.env.kindOf x=some .cell\/X.env.kindOf x=some .free)->∃ c,X.env.cells.lookup x=some c
 cab:∀ x c,X.fn x=true->X.env.cells.lookup x=some c->X.s₀.heap.objs.size<=c
 hd:X.calm=true->X.A.handled=none
 frames:X.A.frames=some X.stack
 stk:X.stack=X.outer\/(X.stack=X.env::X.outer/\X.env.frame=some X.env.locals)
 exf:∀ b∈X.ex,b≠X.env.locals/\∀ x c,X.env.cells.lookup x=some c->c≠b
 bs:∀ b o,X.base.get? b=some o->X.s₀.heap.get? b=some o/\X.H₀ b=none
 bsz:X.base.objs.size<=X.s₀.heap.objs.size
 noex:∀ b o,X.base.get? b=some o->b∉X.ex
 exfs:∀ b∈X.ex,b∉X.fs
 funs:X.s₀.heap.FunFrames X.base X.outer
 frf:∀ b∈X.fs,X.H₀ b=none
 tab:Tb X.H₀

structure Inv (X:Cx) (pins:List (Addr×Obj)) (σ:List (Option V)) (H:Hp) (s:Shared):Prop where
 ok:X.Ok
 os:s.os=X.s₀.os
 bare:AllBare s.gens
 base:Un X.fs X.ex X.H₀ H X.s₀.heap s.heap
 loc:∃ m,s.heap.Ns X.env.locals m/\∀ (i:Nat) (x:Str) (v:V),X.N[i]?=some x->σ[i]?=some (some v)->Vis X.env.scope x->∃ u,RelV v u/\Look X.env s.heap m x u
 cell:∀ x c,X.env.cells.lookup x=some c->∃ v,s.heap.IsCell c v
 free:H X.env.locals=none
 freeC:∀ x c,X.env.cells.lookup x=some c->H c=none
 pin:∀ p∈X.pn++pins,s.heap.get? p.1=some p.2/\H p.1=none/\p.1≠X.env.locals/\p.1∉X.fs/\∀ v,p.2.data≠.cell v
 hok:HOk X.prog X.w H s.heap
 len:σ.length=X.N.length

section
variable {X:Cx} {pins:List (Addr×Obj)} {σ:List (Option V)} {H H':Hp} {s:Shared} {h':Heap}

theorem Cx.Ok.nofr (ok:X.Ok) {b:Addr} {o:Obj} (e:X.base.get? b=some o):b∉X.fs:=fun hb=>by
 have:=(ok.funs.mem hb).1
 rw [e] at this;cases this
theorem Inv.bs (I:Inv X pins σ H s):∀ b o,X.base.get? b=some o->s.heap.get? b=some o/\H b=none:=fun b o e =>
 ⟨I.base.keep b o (I.ok.bs b o e).1 (I.ok.bs b o e).2 (I.ok.nofr e) (I.ok.noex b o e),I.base.free b o (I.ok.bs b o e).1 (I.ok.bs b o e).2 (I.ok.noex b o e)⟩
theorem Inv.bk (I:Inv X pins σ H s):∀ b o,X.base.get? b=some o->s.heap.get? b=some o:=fun b o e=>(I.bs b o e).1
theorem Inv.mod (I:Inv X pins σ H s):Mod X.K X.mg X.base:=I.ok.mod
theorem Inv.kIn (I:Inv X pins σ H s):X.K.In s.heap:=I.ok.mod.kin.keeps I.bk
theorem Inv.nolimit (I:Inv X pins σ H s):s.heap.NoLimit:=I.ok.mod.nolimit.keeps I.bk
theorem Inv.lt (I:Inv X pins σ H s):X.env.locals<s.heap.objs.size:=let ⟨_,hn,_⟩:=I.loc;hn.lt
theorem Inv.sz (I:Inv X pins σ H s):X.s₀.heap.objs.size<=s.heap.objs.size:=Nat.le_trans I.ok.above (Nat.le_of_lt I.lt)
theorem Inv.nofs (I:Inv X pins σ H s) {a:Addr} (h:s.heap.objs.size<=a):a∉X.fs:=fun hb=>by
 obtain ⟨_,o,ho,_⟩:=I.ok.funs.mem hb
 exact absurd (Nat.lt_of_lt_of_le (Heap.lt_size ho) (Nat.le_trans I.sz h)) (Nat.lt_irrefl _)
theorem Inv.cne (I:Inv X pins σ H s):∀ x c,X.env.cells.lookup x=some c->c≠X.env.locals:=fun x c e z=>by
 obtain ⟨v,o,ho,hd⟩:=I.cell x c e
 obtain ⟨m,⟨o',es,ep,ho',hd',_⟩,_⟩:=I.loc
 rw [z,ho'] at ho;cases ho;rw [hd'] at hd;cases hd
theorem Inv.funs (I:Inv X pins σ H s):s.heap.FunFrames X.base X.outer:=by
 have all:∀ (l:List Env),(∀ b∈frs l,b∈X.fs)->X.s₀.heap.FunFrames X.base l->s.heap.FunFrames X.base l:=by
  intro l
  induction l with
  | nil=>intro _ _;trivial
  | cons env r ih =>
   intro hs hl
   obtain ⟨hk,⟨L,o,hf,hn,ho,hd⟩,hr⟩:=hl
   have hL:L∈X.fs:=hs L (by unfold frs;rw [List.filterMap_cons,hf];exact List.mem_cons_self)
   obtain ⟨sl,e⟩:=I.base.slot L o ho (I.ok.frf L hL) hL fun z=>I.ok.exfs L z hL
   exact ⟨hk,⟨L,_,hf,hn,e,hd⟩,ih (fun b hb=>hs b (by unfold frs;rw [List.filterMap_cons,hf];exact List.mem_cons_of_mem _ hb)) hr⟩
 exact all X.outer (fun _ hb=>hb) I.ok.funs

theorem Inv.stack (I:Inv X pins σ H s):s.heap.FunFrames X.base X.stack:=by
 rcases I.ok.stk with e | ⟨e,hf⟩
 ·rw [e];exact I.funs
 ·rw [e]
  obtain ⟨m,hn,_⟩:=I.loc
  refine .cons (by rw [I.ok.kind];decide) hf hn ?_ I.funs
  exact Heap.get?_none_of_le (Nat.le_trans I.ok.bsz I.ok.above)
theorem Inv.stkSub (I:Inv X pins σ H s):∀ b∈frs X.stack,b∈X.env.locals::X.fs:=fun b hb=>by
 rcases I.ok.stk with e | ⟨e,hf⟩
 ·rw [e] at hb;exact List.mem_cons_of_mem _ hb
 ·rw [e] at hb
  unfold frs at hb
  rw [List.filterMap_cons,hf] at hb
  exact hb
theorem Inv.stkFree (I:Inv X pins σ H s):∀ b∈frs X.stack,H b=none:=fun b hb=>by
 rcases List.mem_cons.mp (I.stkSub b hb) with e | hb
 ·rw [e];exact I.free
 ·obtain ⟨_,o,ho,_⟩:=I.ok.funs.mem hb
  exact I.base.free b o ho (I.ok.frf b hb) fun z=>I.ok.exfs b z hb

theorem Inv.step {g':Array GenState} {t':Nat} {d':Drawn} {ch:List Addr} (I:Inv X pins σ H s)
  (hch:∀ b∈ch,(b∈X.ex\/X.s₀.heap.objs.size<=b)/\b≠X.env.locals/\(∀ x c,X.env.cells.lookup x=some c->c≠b)/\∀ p∈X.pn++pins,p.1≠b)
  (keep:∀ b o,b≠X.env.locals->b∉X.fs->b∉ch->s.heap.get? b=some o->H b=none->h'.get? b=some o)
  (slot:∀ b o,b≠X.env.locals->b∈X.fs->b∉ch->s.heap.get? b=some o->H b=none->∃ sl,h'.get? b=some { o with slots:=sl }) (free:∀ b o,b∉ch->s.heap.get? b=some o->H b=none->H' b=none)
  (there:∀ b o,b∉ch->s.heap.get? b=some o->∃ o',h'.get? b=some o')
  (tups:∀ b xs,H b=some (.tup xs)->H' b=some (.tup xs)) (frzs:∀ b o u,H b=some (.frz o u)->H' b=some (.frz o u)) (tbls:∀ b ps,H b=some (.tbl ps)->∃ more,H' b=some (.tbl (ps++more)))
  (ns:∀ m,s.heap.Ns X.env.locals m->h'.Ns X.env.locals m) (hok:HOk X.prog X.w H' h') (hg:AllBare g') :
  Inv X pins σ H' { s with heap:=h',gens:=g',drawn:=d',toks:=t' }:=by
 have neL:∀ b o,X.s₀.heap.get? b=some o->b≠X.env.locals:=fun b o e=>Nat.ne_of_lt (Nat.lt_of_lt_of_le (Heap.lt_size e) I.ok.above)
 have neC:∀ b o,X.s₀.heap.get? b=some o->b∉X.ex->b∉ch:=fun b o e hx hb=>by
  rcases (hch b hb).1 with z | z
  ·exact hx z
  ·exact absurd (Nat.lt_of_lt_of_le (Heap.lt_size e) z) (Nat.lt_irrefl _)
 have cellK:∀ x c,X.env.cells.lookup x=some c->∀ v,s.heap.IsCell c v->h'.IsCell c v:=fun x c e v ⟨o,ho,hd⟩=>by
  have nch:c∉ch:=fun z=>(hch c z).2.2.1 x c e rfl
  by_cases hc:c∈X.fs
  ·obtain ⟨sl,q⟩:=slot c o (I.cne x c e) hc nch ho (I.freeC x c e)
   exact ⟨_,q,hd⟩
  ·exact ⟨o,keep c o (I.cne x c e) hc nch ho (I.freeC x c e),hd⟩
 refine ⟨I.ok,I.os,hg,⟨fun b o e n hb hx=>?_,fun b o e n hb hx=>?_,fun b o e n hx=>?_,fun b o e hx=>?_,fun b xs e=>tups b xs (I.base.tups b xs e),fun b o xs e=>frzs b o xs (I.base.frzs b o xs e),fun b ps e=>?_⟩,?_,fun x c e=>?_,?_,fun x c e=>?_,fun p hp=>?_,hok,I.len⟩
 ·exact keep b o (neL b o e) hb (neC b o e hx) (I.base.keep b o e n hb hx) (I.base.free b o e n hx)
 ·obtain ⟨sl,e1⟩:=I.base.slot b o e n hb hx
  obtain ⟨sl',e2⟩:=slot b _ (neL b o e) hb (neC b o e hx) e1 (I.base.free b o e n hx)
  exact ⟨sl',e2⟩
 ·obtain ⟨o',e1⟩:=I.base.there b o e hx
  exact free b o' (neC b o e hx) e1 (I.base.free b o e n hx)
 ·obtain ⟨o',e1⟩:=I.base.there b o e hx
  exact there b o' (neC b o e hx) e1
 ·obtain ⟨m1,e1⟩:=I.base.tbls b ps e
  obtain ⟨m2,e2⟩:=tbls b _ e1
  exact ⟨m1++m2,by rw [e2,Array.append_assoc]⟩
 ·obtain ⟨m,hn,hl⟩:=I.loc
  refine ⟨m,ns m hn,fun i x v e1 e2 e3=>?_⟩
  obtain ⟨u,r,l⟩:=hl i x v e1 e2 e3
  refine ⟨u,r,?_⟩
  rcases l with l | ⟨k,c,e,z⟩
  ·exact .inl l
  ·exact .inr ⟨k,c,e,cellK x c e _ z⟩
 ·obtain ⟨v,z⟩:=I.cell x c e
  exact ⟨v,cellK x c e v z⟩
 ·obtain ⟨m,⟨o,_,_,ho,_⟩,_⟩:=I.loc
  exact free _ o (fun z=>(hch _ z).2.1 rfl) ho I.free
 ·obtain ⟨v,o,ho,hd⟩:=I.cell x c e
  exact free c o (fun z=>(hch c z).2.2.1 x c e rfl) ho (I.freeC x c e)
 ·obtain ⟨e,n,ne,nf,d⟩:=I.pin p hp
  have nch:p.1∉ch:=fun z=>(hch p.1 z).2.2.2 p hp rfl
  exact ⟨keep p.1 p.2 ne nf nch e n,free p.1 p.2 nch e n,ne,nf,d⟩
theorem Inv.un {t':Nat} (I:Inv X pins σ H s) (u:Un X.fs [] H H' s.heap h') (hok:HOk X.prog X.w H' h'):Inv X pins σ H' { s with heap:=h',toks:=t' }:=by
 obtain ⟨m,⟨o,es,ep,ho,r⟩,_⟩:=id I.loc
 obtain ⟨sl,hL⟩:=u.any ho I.free (by simp)
 exact I.step (g':=s.gens) (d':=s.drawn) (ch:=[]) (fun _ z=>nomatch z) (fun b o _ hb _ e n=>u.keep b o e n hb (by simp)) (fun b o _ hb _ e n=>u.slot b o e n hb (by simp)) (fun b o _ e n=>u.free b o e n (by simp)) (fun b o _ e=>u.there b o e (by simp)) u.tups u.frzs u.tbls (fun m' hm=>by
  obtain ⟨o',es',ep',ho',r'⟩:=hm
  rw [ho] at ho';cases ho'
  exact ⟨_,es',ep',hL,r'⟩) hok I.bare
theorem Inv.call {g':Array GenState} {t':Nat} {d':Drawn} {ch:List Addr} (I:Inv X pins σ H s) (u:Un (frs X.stack) ch H H' s.heap h') (hok:HOk X.prog X.w H' h') (hg:AllBare g')
  (hch:∀ b∈ch,(b∈X.ex\/X.s₀.heap.objs.size<=b)/\b≠X.env.locals/\(∀ x c,X.env.cells.lookup x=some c->c≠b)/\∀ p∈X.pn++pins,p.1≠b) :
  Inv X pins σ H' { s with heap:=h',gens:=g',drawn:=d',toks:=t' }:=by
 obtain ⟨m,⟨o,es,ep,ho,r⟩,_⟩:=id I.loc
 obtain ⟨sl,hL⟩:=u.any ho I.free fun z=>(hch _ z).2.1 rfl
 exact I.step (ch:=ch) hch (fun b o hL hb hc e n=>u.keep b o e n (fun z=>(List.mem_cons.mp (I.stkSub b z)).elim hL hb) hc) (fun b o _ _ hc e n=>u.any e n hc) (fun b o hc e n=>u.free b o e n hc) (fun b o hc e=>u.there b o e hc) u.tups u.frzs u.tbls (fun m' hm=>by
  obtain ⟨o',es',ep',ho',r'⟩:=hm
  rw [ho] at ho';cases ho'
  exact ⟨_,es',ep',hL,r'⟩) hok hg
theorem Inv.turned {t':Nat} {it:Addr} (I:Inv X pins σ H s) (k:∀ b o,b≠it->s.heap.get? b=some o->h'.get? b=some o) (hn:H it=none) (hL:it≠X.env.locals)
  (h1:it∈X.ex\/X.s₀.heap.objs.size<=it) (h2:∀ x c,X.env.cells.lookup x=some c->c≠it) (h3:∀ p∈X.pn++pins,p.1≠it):Inv X pins σ H { s with heap:=h',toks:=t' }:=by
 have nit:∀ b u,H b=some u->b≠it:=fun b u e z=>by rw [z,hn] at e;cases e
 refine I.step (g':=s.gens) (d':=s.drawn) (ch:=[it]) (fun b hb=>?_) (fun b o _ _ hc e _=>k b o (fun z=>hc (by simp [z])) e) (fun b o _ _ hc e _=>⟨o.slots,k b o (fun z=>hc (by simp [z])) e⟩) (fun _ _ _ _ n=>n)
  (fun b o hc e=>⟨o,k b o (fun z=>hc (by simp [z])) e⟩) (fun _ _ e=>e) (fun _ _ _ e=>e) (fun b ps e=>⟨#[],by rw [e];simp⟩) (fun m hm=>?_) (fun b u e=>?_) I.bare
 ·have e:b=it:=by simpa using hb
  subst e
  exact ⟨h1,hL,h2,h3⟩
 ·obtain ⟨o,es,ep,ho,r⟩:=hm
  exact ⟨o,es,ep,k _ o (Ne.symm hL) ho,r⟩
 ·refine (I.hok b u e).stay (fun c v hc q=>k c v ?_ q) (fun _ q=>q) fun _ _ q=>q
  rcases hc with z | z
  ·rw [z];exact nit b u e
  ·exact nit c _ z
theorem Inv.tok (I:Inv X pins σ H s) (t:Nat):Inv X pins σ H { s with toks:=t }:=I.un (h':=s.heap) (t':=t) Un.refl I.hok
theorem Inv.kept {t':Nat} (I:Inv X pins σ H s) (k:∀ b u,s.heap.get? b=some u->h'.get? b=some u):Inv X pins σ H { s with heap:=h',toks:=t' }:=I.un (Un.kept k) (I.hok.kept k)
theorem Inv.laid {a:Addr} {o:HO} {t':Nat} (I:Inv X pins σ H s) (k:∀ b u,s.heap.get? b=some u->h'.get? b=some u) (hp:s.heap.objs.size<=a) (new:ObjOk X.prog X.w (upd H a o) h' a o) :
  Inv X pins σ (upd H a o) { s with heap:=h',toks:=t' }:=I.un (Un.laid k hp (I.hok.fresh hp)) (I.hok.laid k hp new)
theorem Inv.write {x e:Addr} {o:HO} {t':Nat} (I:Inv X pins σ H s) (mu:Mut (H x)) (he:e=x\/H e=some (.own x)) (k:∀ b u,b≠e->s.heap.get? b=some u->h'.get? b=some u) (heo:∃ u,h'.get? e=some u)
  (new:ObjOk X.prog X.w (upd H x o) h' x o):Inv X pins σ (upd H x o) { s with heap:=h',toks:=t' }:=I.un (Un.write mu he k heo) (I.hok.write mu he k heo new)
theorem Inv.pins_of {pins':List (Addr×Obj)} (I:Inv X pins σ H s) (h:∀ p∈pins',s.heap.get? p.1=some p.2/\H p.1=none/\p.1≠X.env.locals/\p.1∉X.fs/\∀ v,p.2.data≠.cell v):Inv X pins' σ H s :=
 ⟨I.ok,I.os,I.bare,I.base,I.loc,I.cell,I.free,I.freeC,fun p hp=>(List.mem_append.mp hp).elim (fun z=>I.pin p (List.mem_append_left _ z)) (h p),I.hok,I.len⟩

theorem nodup_ix {N:List Str} (hN:N.Nodup) {i j:Nat} {x:Str} (a:N[i]?=some x) (b:N[j]?=some x):i=j:=by
 obtain ⟨h1,e1⟩:=List.getElem?_eq_some_iff.mp a
 obtain ⟨h2,e2⟩:=List.getElem?_eq_some_iff.mp b
 exact (List.getElem_inj hN).mp (e1.trans e2.symm)

theorem store_ok2 {M:Model} {A:Around} {E:Value->Shared->Prop} {i:Nat} {x:Str} {v:V} {u:Value} {Q:Unit->Shared->Prop} (I:Inv X pins σ H s) (hN:X.N.Nodup) (hi:X.N[i]?=some x) (hx:Loc X.env.scope x) (r:RelV v u)
  (h:∀ s',Inv X pins (σ.set i (some v)) H s'->(∃ a,Heap.SameBut a s.heap s'.heap/\(a=X.env.locals\/X.env.cells.lookup x=some a))->Q () s') (hf:X.fn x=true\/X.env.scope.names.lookup x=some .local:=by first | exact .inl rfl | exact .inr rfl | assumption):wpAny M A (storeName X.env x u) Q E s:=by
 obtain ⟨m,hn,hl⟩:=id I.loc
 have hcls:(X.env.scope.kind == .class || (X.env.scope.kind == .module && X.env.locals != X.env.globals))=false:=by rw [I.ok.kind];rfl
 have hiσ:i<σ.length:=by rw [I.len];exact (List.getElem?_eq_some_iff.mp hi).1
 have cne:=I.cne
 have tracked:∀ {a:Addr} {h':Heap},(∃ o,s.heap.get? a=some o/\H a=none)->Heap.SameBut a s.heap h'->HOk X.prog X.w H h':=fun {a h'} ha hs b ob e=>by
  obtain ⟨_,_,hfree⟩:=ha
  refine (I.hok b ob e).stay (fun c w' hc q=>(hs.2 c ?_).trans q) (fun _ q=>q) fun _ _ q=>q
  rintro rfl
  rcases hc with rfl | hc
  ·rw [hfree] at e;cases e
  ·rw [hfree] at hc;cases hc
 rcases hx with hk | hk
 ·refine wpAny_storeName_local hk hn (fun h' hn' hs=>?_) hcls
  obtain ⟨oL,_,_,hoL,_⟩:=id hn
  refine h _ ⟨I.ok,I.os,I.bare,⟨fun b o e n hb hx=>?_,fun b o e n hb hx=>?_,I.base.free,fun b o e hx=>?_,I.base.tups,I.base.frzs,I.base.tbls⟩,⟨_,hn',fun j y v' e1 e2 e3=>?_⟩,fun y c e=>?_,I.free,I.freeC,fun p hp=>?_,tracked ⟨oL,hoL,I.free⟩ hs,by simpa using I.len⟩ ⟨_,hs,.inl rfl⟩
  ·exact (hs.2 b (Nat.ne_of_lt (Nat.lt_of_lt_of_le (Heap.lt_size e) I.ok.above))).trans (I.base.keep b o e n hb hx)
  ·obtain ⟨sl,e1⟩:=I.base.slot b o e n hb hx
   exact ⟨sl,(hs.2 b (Nat.ne_of_lt (Nat.lt_of_lt_of_le (Heap.lt_size e) I.ok.above))).trans e1⟩
  ·obtain ⟨o',e1⟩:=I.base.there b o e hx
   exact ⟨o',(hs.2 b (Nat.ne_of_lt (Nat.lt_of_lt_of_le (Heap.lt_size e) I.ok.above))).trans e1⟩
  ·by_cases hj:j=i
   ·subst hj
    rw [hi] at e1;cases e1
    rw [List.getElem?_set_self hiσ] at e2
    cases e2
    exact ⟨u,r,.inl ⟨hk,by simp⟩⟩
   ·rw [List.getElem?_set_ne (Ne.symm hj)] at e2
    obtain ⟨u',r',q⟩:=hl j y v' e1 e2 e3
    refine ⟨u',r',?_⟩
    rcases q with ⟨k,e⟩ | ⟨k,c,e,z⟩
    ·refine .inl ⟨k,?_⟩
     have:y≠x:=fun e=>hj (nodup_ix hN e1 (e▸hi))
     simp [this,e]
    ·exact .inr ⟨k,c,e,z.sameBut hs (cne y c e)⟩
  ·obtain ⟨w',z⟩:=I.cell y c e
   exact ⟨w',z.sameBut hs (cne y c e)⟩
  ·obtain ⟨e,n,ne,nf,d⟩:=I.pin p hp
   exact ⟨(hs.2 p.1 ne).trans e,n,ne,nf,d⟩
 ·have hfn:X.fn x=true:=by
   rcases hf with z | z
   ·exact z
   ·rw [z] at hk;cases hk
  obtain ⟨c,hc⟩:=I.ok.has x (.inl hk)
  obtain ⟨w',z⟩:=I.cell x c hc
  refine wpAny_storeName_cell I.ok.kind hk hc z (fun h' hc' hs=>?_)
  obtain ⟨oc,hoc,hocd⟩:=id z
  refine h { s with heap:=h' } ⟨I.ok,I.os,I.bare,⟨fun b o e n hb hx=>?_,fun b o e n hb hx=>?_,I.base.free,fun b o e hx=>?_,I.base.tups,I.base.frzs,I.base.tbls⟩,⟨m,hn.sameBut hs (Ne.symm (cne x c hc)),fun j y v' e1 e2 e3=>?_⟩,fun y c' e=>?_,I.free,I.freeC,fun p hp=>?_,tracked ⟨oc,hoc,I.freeC x c hc⟩ hs,by simpa using I.len⟩ ⟨c,hs,.inr hc⟩
  ·exact (hs.2 b (Nat.ne_of_lt (Nat.lt_of_lt_of_le (Heap.lt_size e) (I.ok.cab x c hfn hc)))).trans (I.base.keep b o e n hb hx)
  ·obtain ⟨sl,e1⟩:=I.base.slot b o e n hb hx
   exact ⟨sl,(hs.2 b (Nat.ne_of_lt (Nat.lt_of_lt_of_le (Heap.lt_size e) (I.ok.cab x c hfn hc)))).trans e1⟩
  ·obtain ⟨o',e1⟩:=I.base.there b o e hx
   exact ⟨o',(hs.2 b (Nat.ne_of_lt (Nat.lt_of_lt_of_le (Heap.lt_size e) (I.ok.cab x c hfn hc)))).trans e1⟩
  ·by_cases hj:j=i
   ·subst hj
    rw [hi] at e1;cases e1
    rw [List.getElem?_set_self hiσ] at e2
    cases e2
    exact ⟨u,r,.inr ⟨.inl hk,c,hc,hc'⟩⟩
   ·rw [List.getElem?_set_ne (Ne.symm hj)] at e2
    obtain ⟨u',r',q⟩:=hl j y v' e1 e2 e3
    refine ⟨u',r',?_⟩
    rcases q with q | ⟨k,c',e,z'⟩
    ·exact .inl q
    ·refine .inr ⟨k,c',e,z'.sameBut hs ?_⟩
     rintro rfl
     exact hj (nodup_ix hN e1 (I.ok.inj _ _ _ e hc▸hi))
  ·by_cases hcc:c'=c
   ·subst hcc;exact ⟨_,hc'⟩
   ·obtain ⟨w2,z2⟩:=I.cell y c' e
    exact ⟨w2,z2.sameBut hs hcc⟩
  ·obtain ⟨e,n,ne,nf,d⟩:=I.pin p hp
   refine ⟨(hs.2 p.1 ?_).trans e,n,ne,nf,d⟩
   intro q
   rw [q,hoc] at e
   have q':oc=p.2:=Option.some.inj e
   exact d w' (by rw [<- q'];exact hocd)
theorem store_ok {M:Model} {A:Around} {E:Value->Shared->Prop} {i:Nat} {x:Str} {v:V} {u:Value} {Q:Unit->Shared->Prop} (I:Inv X pins σ H s) (hN:X.N.Nodup) (hi:X.N[i]?=some x) (hx:Loc X.env.scope x) (r:RelV v u)
  (h:∀ s',Inv X pins (σ.set i (some v)) H s'->Q () s') (hf:X.fn x=true\/X.env.scope.names.lookup x=some .local:=by first | exact .inl rfl | exact .inr rfl | assumption):wpAny M A (storeName X.env x u) Q E s :=
 store_ok2 I hN hi hx r (fun s' I' _=>h s' I') hf
theorem Inv.call' {s':Shared} {ch:List Addr} (I:Inv X pins σ H s) (ho:s'.os=s.os) (u:Un (frs X.stack) ch H H' s.heap s'.heap) (hok:HOk X.prog X.w H' s'.heap) (hg:AllBare s'.gens)
  (hch:∀ b∈ch,(b∈X.ex\/X.s₀.heap.objs.size<=b)/\b≠X.env.locals/\(∀ x c,X.env.cells.lookup x=some c->c≠b)/\∀ p∈X.pn++pins,p.1≠b):Inv X pins σ H' s':=by
 obtain ⟨h',g',d',t',o'⟩:=s'
 have e:o'=s.os:=ho
 subst e
 exact I.call (g':=g') (t':=t') (d':=d') u hok hg hch
end

abbrev XK:=Value->Option Addr->Hp->Prop
abbrev St:=List (Option V)
abbrev VK:=V->Hp->Prop
abbrev TE:=St->Hp->VK->Prop
abbrev TT:=St->Hp->(Bool->Hp->Prop)->Prop
abbrev TA:=St->Hp->(List V->Hp->Prop)->Prop
structure Ends where
 nx:St->Hp->Prop
 rt:VK
 bk:St->Hp->Prop:=fun _ _=>False
 ct:St->Hp->Prop:=fun _ _=>False
abbrev TS:=Ends->St->Hp->Prop

def EP (X:Cx) (pins:List (Addr×Obj)) (σ:St) (Q:VK) (u:Value) (s':Shared):Prop:=∃ v H',Inv X pins σ H' s'/\RelV v u/\Q v H'
def TP (X:Cx) (pins:List (Addr×Obj)) (σ:St) (Q:Bool->Hp->Prop) (b:Bool) (s':Shared):Prop:=∃ H',Inv X pins σ H' s'/\Q b H'
def AP (X:Cx) (pins:List (Addr×Obj)) (σ:St) (Q:List V->Hp->Prop) (us:List Value) (s':Shared):Prop:=∃ vs H',Inv X pins σ H' s'/\Vals vs us/\Q vs H'
def SP (X:Cx) (pins:List (Addr×Obj)) (D:Ends) (f:Flow) (s':Shared):Prop :=
 match f with
 | .next=>∃ σ' H',Inv X pins σ' H' s'/\D.nx σ' H'
 | .brk=>∃ σ' H',Inv X pins σ' H' s'/\D.bk σ' H'
 | .cont=>∃ σ' H',Inv X pins σ' H' s'/\D.ct σ' H'
 | .ret u=>∃ v σ' H',Inv X pins σ' H' s'/\RelV v u/\D.rt v H'

def PE (X:Cx) (e:Expr) (t:TE):Prop :=
 ∀ (pins:List (Addr×Obj)) (s:Shared) (σ:St) (H:Hp) (Q:VK),Inv X pins σ H s->t σ H Q->wpAny (model X.prog X.w) X.A (eval e X.env) (EP X pins σ Q) X.xe s
def PT (X:Cx) (e:Expr) (t:TT):Prop :=
 ∀ (pins:List (Addr×Obj)) (s:Shared) (σ:St) (H:Hp) (Q:Bool->Hp->Prop),Inv X pins σ H s->t σ H Q->wpAny (model X.prog X.w) X.A (isTrue e X.env (eval e X.env)) (TP X pins σ Q) X.xe s
def PW (X:Cx) (e:Expr) (t:TT):Prop :=
 ∀ (whole:Sem Value) (pins:List (Addr×Obj)) (s:Shared) (σ:St) (H:Hp) (Q:Bool->Hp->Prop),Inv X pins σ H s->t σ H Q->wpAny (model X.prog X.w) X.A (isTrue e X.env whole) (TP X pins σ Q) X.xe s
theorem PW.pt {X:Cx} {e:Expr} {t:TT} (h:PW X e t):PT X e t:=h _
def PA (X:Cx) (es:List Expr) (t:TA):Prop :=
 ∀ (pos:Pos) (pins:List (Addr×Obj)) (s:Shared) (σ:St) (H:Hp) (Q:List V->Hp->Prop),Inv X pins σ H s->t σ H Q->wpAny (model X.prog X.w) X.A (spliced (backTo pos (starEach es X.env))) (AP X pins σ Q) X.xe s
def PS (X:Cx) (st:Stmt) (t:TS):Prop :=
 ∀ (pins:List (Addr×Obj)) (s:Shared) (σ:St) (H:Hp) (D:Ends),Inv X pins σ H s->t D σ H->wpAny (model X.prog X.w) X.A (exec st X.env) (SP X pins D) X.xe s
def PSs (X:Cx) (st:List Stmt) (t:TS):Prop :=
 ∀ (pins:List (Addr×Obj)) (s:Shared) (σ:St) (H:Hp) (D:Ends),Inv X pins σ H s->t D σ H->wpAny (model X.prog X.w) X.A (execs st X.env) (SP X pins D) X.xe s
theorem thn {α:Type} {t:Sem α} {Q Q':α->Shared->Prop} {M:Model} {A:Around} {E:Value->Shared->Prop} {s:Shared} (h:wpAny M A t Q E s) (hQ:∀ a s,Q a s->Q' a s):wpAny M A t Q' E s:=wpAny_mono h hQ fun _ _ x=>x
section
variable {X:Cx}

def tVar (i:Nat):TE:=fun σ H Q=>∃ v,σ[i]?=some (some v)/\Q v H
def tC (v:V):TE:=fun _ H Q=>Q v H
theorem pe_var {i:Nat} {x:Str} {pos:Pos} (hN:X.N[i]?=some x) (hv:Vis X.env.scope x) (hd:(x == ("__debug__":Str))=false:=by decide) (hcd:(x == ("__classdict__":Str))=false:=by decide):PE X (.Name x pos) (tVar i):=by
 intro pins s σ H Q I h
 obtain ⟨v,e,h⟩:=h
 obtain ⟨m,hn,hl⟩:=I.loc
 obtain ⟨u,r,l⟩:=hl i x v hN e hv
 have fin:EP X pins σ Q u s:=⟨v,H,I,r,h⟩
 rcases l with ⟨hk,hm⟩ | ⟨hk,c,hc,hcell⟩
 ·exact wpAny_Name (wpAny_loadName_local I.ok.kind hk hn hm fin) hd
 ·rcases hk with hk | hk
  ·exact wpAny_Name (wpAny_loadName_cell I.ok.kind hk hc hcell fin) hd
  ·exact wpAny_Name (wpAny_loadName_free I.ok.kind hk hc hcell fin hcd) hd
theorem pe_int {i j pos}:PE X (.Constant (.int i) j pos) (tC (.int i)):=fun _ _ _ H _ I h=>wpAny_Constant_int ⟨.int i,H,I.tok _,⟨_,rfl⟩,h⟩
theorem pe_bl {b j pos}:PE X (.Constant (.bool b) j pos) (tC (.bl b)):=fun _ _ _ H _ I h=>Constant_bool ⟨.bl b,H,I,rfl,h⟩
theorem pe_non {j pos}:PE X (.Constant .none j pos) (tC .non):=fun _ _ _ H _ I h=>Constant_none ⟨.non,H,I,rfl,h⟩
theorem pe_str {x j pos}:PE X (.Constant (.str x) j pos) (tC (.str x)):=fun _ _ _ H _ I h=>Calls.Constant_str ⟨.str x,H,I.tok _,⟨_,rfl⟩,h⟩

def Gl (X:Cx) (x:Str):Prop:=X.env.kindOf x=some .globalImplicit
theorem ld_glob {E:Value->Shared->Prop} {pins:List (Addr×Obj)} {s:Shared} {σ:St} {H:Hp} {x:Str} {u:Value} {pos:Pos} {Q:Value->Shared->Prop} (I:Inv X pins σ H s) (hg:Gl X x) (hm:X.mg x=some u) (h:Q u s)
  (hd:(x == ("__debug__":Str))=false:=by decide):wpAny (model X.prog X.w) X.A (eval (.Name x pos) X.env) Q E s :=
 Calls.Name_function_global I.ok.kind hg (Calls.loadGlobal_global (by rw [I.ok.glob];exact I.mod.glob.keeps I.bk) hm h) hd
theorem ld_blt {E:Value->Shared->Prop} {pins:List (Addr×Obj)} {s:Shared} {σ:St} {H:Hp} {x:Str} {u:Value} {pos:Pos} {Q:Value->Shared->Prop} (I:Inv X pins σ H s) (hg:Gl X x) (hm:X.mg x=none) (hv:bootBuiltins x=some u) (h:Q u s)
  (hn:x≠"__name__":=by decide) (hd:(x == ("__debug__":Str))=false:=by decide):wpAny (model X.prog X.w) X.A (eval (.Name x pos) X.env) Q E s:=by
 obtain ⟨mb,h1,h2⟩:=I.mod.blt
 exact Calls.Name_function_global I.ok.kind hg (Calls.loadGlobal_builtin (by rw [I.ok.glob];exact I.mod.glob.keeps I.bk) hm (by rw [I.ok.blt];exact h1.keeps I.bk) ((h2 x hn).trans hv) h) hd
theorem pe_glob {x:Str} {v:V} {u:Value} {pos:Pos} (hg:Gl X x) (hm:X.mg x=some u) (r:RelV v u) (hd:(x == ("__debug__":Str))=false:=by decide):PE X (.Name x pos) (tC v) :=
 fun _ _ _ H _ I h=>ld_glob I hg hm ⟨v,H,I,r,h⟩ hd
variable {a b:Expr} {ta tb:TE} {pos:Pos}
def tB (t:TE):TT:=fun σ H Q=>t σ H fun x H1=>∃ c,x=.bl c/\Q c H1
theorem pt_val {e:Expr} {t:TE} (h:PE X e t) (he:∀ whole,isTrue e X.env whole=(do let v <- whole;standAt e.pos;holding [v] (truthy v)):=by intro _;rfl):PT X e (tB t):=by
 intro pins s σ H Q I hw
 refine isTrue_plain (thn (h pins s σ H _ I hw) fun v s1 ⟨x,H1,I1,r1,q1⟩=>?_) (he _)
 obtain ⟨d,rfl,q⟩:=q1
 cases r1
 exact wpAny_truthy_bool ⟨H1,I1,q⟩

variable {tA tB':TT} {rest:List Expr}
def tAnd (t u:TT):TT:=fun σ H Q=>t σ H fun c H1=>if c=true then u σ H1 Q else Q false H1
def tOr (t u:TT):TT:=fun σ H Q=>t σ H fun c H1=>if c=true then Q true H1 else u σ H1 Q
def tNot (t:TT):TT:=fun σ H Q=>t σ H fun c H1=>Q (!c) H1
theorem pw_and1 (ha:PT X a tA):PW X (.BoolOp .And [a] pos) tA:=by
 intro wh pins s σ H Q I h
 refine isTrue_and (thn (ha pins s σ H Q I h) fun c s1 e=>?_)
 cases c with
 | true=>exact isTrue_and_nil e
 | false=>exact e
theorem pw_or1 (ha:PT X a tA):PW X (.BoolOp .Or [a] pos) tA:=by
 intro wh pins s σ H Q I h
 refine isTrue_or (thn (ha pins s σ H Q I h) fun c s1 e=>?_)
 cases c with
 | false=>exact isTrue_or_nil e
 | true=>exact e
theorem pw_and (ha:PT X a tA) (hb:PW X (.BoolOp .And (b::rest) pos) tB'):PW X (.BoolOp .And (a::b::rest) pos) (tAnd tA tB'):=by
 intro wh pins s σ H Q I h
 refine isTrue_and (thn (ha pins s σ H _ I h) fun c s1 ⟨H1,I1,q1⟩=>?_)
 cases c with
 | true=>exact hb wh pins s1 σ H1 Q I1 q1
 | false=>exact ⟨H1,I1,q1⟩
theorem pw_or (ha:PT X a tA) (hb:PW X (.BoolOp .Or (b::rest) pos) tB'):PW X (.BoolOp .Or (a::b::rest) pos) (tOr tA tB'):=by
 intro wh pins s σ H Q I h
 refine isTrue_or (thn (ha pins s σ H _ I h) fun c s1 ⟨H1,I1,q1⟩=>?_)
 cases c with
 | true=>exact ⟨H1,I1,q1⟩
 | false=>exact hb wh pins s1 σ H1 Q I1 q1
theorem pt_not (ha:PT X a tA):PT X (.UnaryOp .Not a pos) (tNot tA):=by
 intro pins s σ H Q I h
 exact isTrue_not (ha pins s σ H (fun c H1=>Q (!c) H1) I h)
def tAndV (ta tb:TE):TE:=fun σ H Q=>ta σ H fun x H1=>∃ c,x=.bl c/\if c=true then tb σ H1 Q else Q (.bl false) H1
theorem pe_one {op} {t:TE} (h:PE X a t):PE X (.BoolOp op [a] pos) t:=fun pins s σ H Q I hw=>BoolOp_one (h pins s σ H Q I hw)
theorem pe_and (ha:PE X a ta) (hb:PE X (.BoolOp .And (b::rest) pos) tb):PE X (.BoolOp .And (a::b::rest) pos) (tAndV ta tb):=by
 intro pins s σ H Q I h
 refine BoolOp_and (thn (ha pins s σ H _ I h) fun v s1 ⟨x,H1,I1,r1,q1⟩=>?_)
 obtain ⟨c,rfl,q1⟩:=q1
 cases r1
 refine wpAny_truthy_bool ?_
 cases c with
 | true=>exact hb pins s1 σ H1 Q I1 q1
 | false=>exact ⟨.bl false,H1,I1,rfl,q1⟩
def tIf (t:TT) (ta tb:TE):TE:=fun σ H Q=>t σ H fun c H1=>if c=true then ta σ H1 Q else tb σ H1 Q
theorem pe_ifExp {c:Expr} (hc:PT X c tA) (ha:PE X a ta) (hb:PE X b tb):PE X (.IfExp c a b pos) (tIf tA ta tb):=by
 intro pins s σ H Q I h
 refine wpAny_IfExp (thn (hc pins s σ H _ I h) fun d s1 ⟨H1,I1,q1⟩=>?_)
 cases d with
 | true=>exact ha pins s1 σ H1 Q I1 q1
 | false=>exact hb pins s1 σ H1 Q I1 q1
end
end L2

namespace L2
open PySem PySem.Spec PyProof.Rows

def SqL (K:PySem.W.Frag) (H:Hp) (a:Addr) (xs:List V):Prop :=
 Rd H a (.lst xs) \/
  ∃ (o:Obj) (its:Array Value) (n:Nat),K.lookup a=some o/\o.cls=.type "list"/\o.dict=none/\o.data=.seq its n/\its.size<=sizeLine/\Vals xs its.toList
def SqT (K:PySem.W.Frag) (H:Hp) (a:Addr) (xs:List V):Prop :=
 Rd H a (.tup xs) \/
  ∃ (o:Obj) (its:Array Value) (n:Nat),K.lookup a=some o/\o.cls=.type "tuple"/\o.dict=none/\o.data=.seq its n/\its.size<=sizeLine/\Vals xs its.toList
def absV:Value->Option V
 | .none=>some .non
 | .bool b=>some (.bl b)
 | .int i _=>some (.int i)
 | .str x _=>some (.str x)
 | .bytes b _=>some (.byt b)
 | .float b _=>some (.flt b)
 | .ref a=>some (.ref a)
 | .type n=>some (.ty n)
 | _=>none
theorem RelV.abs {x:V} {u:Value} (r:RelV x u):absV u=some x:=by
 cases x with
 | non=>cases r;rfl
 | bl _=>cases r;rfl
 | int _=>obtain ⟨t,rfl⟩:=r;rfl
 | str _=>obtain ⟨t,rfl⟩:=r;rfl
 | byt _=>obtain ⟨t,rfl⟩:=r;rfl
 | flt _=>obtain ⟨t,rfl⟩:=r;rfl
 | ref _=>cases r;rfl
 | ty _=>cases r;rfl
theorem RelV.inj {x y:V} {u:Value} (r:RelV x u) (q:RelV y u):x=y:=Option.some.inj (r.abs.symm.trans q.abs)
theorem Vals.inj:∀ {xs ys:List V} {us:List Value},Vals xs us->Vals ys us->xs=ys
 | _,_,_,.nil,.nil=>rfl
 | _,_,_,.cons r t,.cons r' t'=>by rw [r.inj r',Vals.inj t t']
section
variable {X:Cx} {pins:List (Addr×Obj)} {σ:St} {H:Hp} {s:Shared} {a:Addr} {xs ys:List V}
theorem SqL.of {K:PySem.W.Frag} (h:H a=some (.lst xs)):SqL K H a xs:=.inl (.inl h)
theorem SqT.of {K:PySem.W.Frag} (h:H a=some (.tup xs)):SqT K H a xs:=.inl (.inl h)
theorem Inv.list (I:Inv X pins σ H s) (h:SqL X.K H a xs):∃ its:List Value,Vals xs its/\PlainL s.heap a its.toArray/\xs.length<=sizeLine:=by
 rcases h with h | ⟨o,its,n,hk,hc,hd,hs,hz,r⟩
 ·obtain ⟨z,its,n,r,e⟩:=h.ok I.hok
  exact ⟨its,r,⟨_,n,e,rfl,rfl,rfl⟩,z⟩
 ·refine ⟨its.toList,r,⟨o,n,I.kIn a o hk,hc,hd,by simpa using hs⟩,?_⟩
  have e:=r.length
  simp only [Array.length_toList] at e
  omega
theorem Inv.tuple (I:Inv X pins σ H s) (h:SqT X.K H a xs):∃ its:List Value,Vals xs its/\IsTup s.heap a its.toArray/\xs.length<=sizeLine:=by
 rcases h with h | ⟨o,its,n,hk,hc,_,hs,hz,r⟩
 ·obtain ⟨z,its,r,p⟩:=h.ok I.hok
  exact ⟨its,r,p.tup,z⟩
 ·refine ⟨its.toList,r,⟨o,I.kIn a o hk,hc,n,by simpa using hs⟩,?_⟩
  have e:=r.length
  simp only [Array.length_toList] at e
  omega
theorem Inv.tupleN (I:Inv X pins σ H s) (h:SqT X.K H a xs):∃ o,s.heap.get? a=some o/\o.cls=.type "tuple"/\o.dict=none:=by
 rcases h with h | ⟨o,its,n,hk,hc,hd,_⟩
 ·obtain ⟨z,its,r,⟨o,e,c,n,_,d⟩⟩:=h.ok I.hok
  exact ⟨o,e,c,d⟩
 ·exact ⟨o,I.kIn a o hk,hc,hd⟩
theorem Inv.list_inj (I:Inv X pins σ H s) (h:SqL X.K H a xs) (h':SqL X.K H a ys):xs=ys:=by
 obtain ⟨its,r,⟨o,n,e,_,_,d⟩,_⟩:=I.list h
 obtain ⟨its',r',⟨o',n',e',_,_,d'⟩,_⟩:=I.list h'
 rw [e] at e';cases e'
 rw [d] at d'
 injection d' with d1 _
 have:its=its':=by simpa using congrArg Array.toList d1
 subst this
 exact r.inj r'
theorem Inv.tuple_inj (I:Inv X pins σ H s) (h:SqT X.K H a xs) (h':SqT X.K H a ys):xs=ys:=by
 obtain ⟨its,r,⟨o,e,_,n,d⟩,_⟩:=I.tuple h
 obtain ⟨its',r',⟨o',e',_,n',d'⟩,_⟩:=I.tuple h'
 rw [e] at e';cases e'
 rw [d] at d'
 injection d' with d1 _
 have:its=its':=by simpa using congrArg Array.toList d1
 subst this
 exact r.inj r'
end

abbrev Cx.wish (X:Cx) (E:Value->Shared->Prop):Cx:={ X with xe:=E }
abbrev Cx.nox (X:Cx):Cx:=X.wish fun _ _=>False
theorem Cx.Ok.wish {X:Cx} (ok:X.Ok) (E:Value->Shared->Prop):(X.wish E).Ok :=
 ⟨ok.mod,ok.kind,ok.glob,ok.blt,ok.above,ok.inj,ok.has,ok.cab,ok.hd,ok.frames,ok.stk,ok.exf,ok.bs,ok.bsz,ok.noex,ok.exfs,ok.funs,ok.frf,ok.tab⟩
theorem Cx.Ok.unwish {X:Cx} {E:Value->Shared->Prop} (ok:(X.wish E).Ok):X.Ok :=
 ⟨ok.mod,ok.kind,ok.glob,ok.blt,ok.above,ok.inj,ok.has,ok.cab,ok.hd,ok.frames,ok.stk,ok.exf,ok.bs,ok.bsz,ok.noex,ok.exfs,ok.funs,ok.frf,ok.tab⟩
section
variable {X:Cx} {pins:List (Addr×Obj)} {σ:St} {H:Hp} {s:Shared} {E:Value->Shared->Prop}
theorem Inv.wish (I:Inv X pins σ H s) (E:Value->Shared->Prop):Inv (X.wish E) pins σ H s:=⟨I.ok.wish E,I.os,I.bare,I.base,I.loc,I.cell,I.free,I.freeC,I.pin,I.hok,I.len⟩
theorem Inv.unwish (I:Inv (X.wish E) pins σ H s):Inv X pins σ H s:=⟨I.ok.unwish,I.os,I.bare,I.base,I.loc,I.cell,I.free,I.freeC,I.pin,I.hok,I.len⟩
theorem SP.unwish {D:Ends} {f:Flow} {s':Shared} (h:SP (X.wish E) pins D f s'):SP X pins D f s':=by
 cases f with
 | next=>obtain ⟨σ',H',I,q⟩:=h;exact ⟨σ',H',I.unwish,q⟩
 | brk=>obtain ⟨σ',H',I,q⟩:=h;exact ⟨σ',H',I.unwish,q⟩
 | cont=>obtain ⟨σ',H',I,q⟩:=h;exact ⟨σ',H',I.unwish,q⟩
 | ret u=>obtain ⟨v,σ',H',I,r,q⟩:=h;exact ⟨v,σ',H',I.unwish,r,q⟩
theorem PE.nox {e:Expr} {t:TE} (h:PE X.nox e t):PE X e t:=fun pins s σ H Q I hw =>
 wpAny_mono (h pins s σ H Q (I.wish _) hw) (fun _ _ ⟨v,H',I',r,q⟩=>⟨v,H',I'.unwish,r,q⟩) fun _ _ z=>False.elim z
theorem PT.nox {e:Expr} {t:TT} (h:PT X.nox e t):PT X e t:=fun pins s σ H Q I hw =>
 wpAny_mono (h pins s σ H Q (I.wish _) hw) (fun _ _ ⟨H',I',q⟩=>⟨H',I'.unwish,q⟩) fun _ _ z=>False.elim z
theorem PSs.nox {st:List Stmt} {t:TS} (h:PSs X.nox st t):PSs X st t:=fun pins s σ H D I hw =>
 wpAny_mono (h pins s σ H D (I.wish _) hw) (fun _ _ q=>q.unwish) fun _ _ z=>False.elim z
end

section
variable {X:Cx} {st:Stmt} {rest:List Stmt} {t u:TS} {e:Expr} {te:TE} {pos:Pos}
def tNext:TS:=fun D σ H=>D.nx σ H
def tSeq (t u:TS):TS:=fun D σ H=>t { D with nx:=u D } σ H
theorem pss_nil:PSs X [] tNext:=fun _ _ σ H _ I h=>wpAny_execs_nil ⟨σ,H,I,h⟩
theorem pss_cons (h1:PS X st t) (h2:PSs X rest u):PSs X (st::rest) (tSeq t u):=by
 intro pins s σ H D I h
 refine wpAny_execs_cons (thn (h1 pins s σ H { D with nx:=u D } I h) fun f s1 q=>?_)
 cases f with
 | next =>
  obtain ⟨σ',H',I',q⟩:=q
  exact h2 pins s1 σ' H' D I' q
 | ret v=>exact q
 | brk=>exact q
 | cont=>exact q
theorem pss_one (h1:PS X st t):PSs X [st] t:=by
 intro pins s σ H D I h
 refine wpAny_execs_cons (thn (h1 pins s σ H D I h) fun f s1 q=>?_)
 cases f with
 | next=>exact wpAny_execs_nil q
 | ret v=>exact q
 | brk=>exact q
 | cont=>exact q
theorem Inv.quiet {pins:List (Addr×Obj)} {σ:St} {H:Hp} {s:Shared} (I:Inv X pins σ H s):interactive X.env=false:=by simp [interactive,I.ok.kind]
def tDrop (te:TE):TS:=fun D σ H=>te σ H fun _ H1=>D.nx σ H1
theorem ps_expr (he:PE X e te) (hs:swapsWith e none pos.line X.env=pure false:=by rfl):PS X (.Expr e pos) (tDrop te):=by
 intro pins s σ H D I h
 exact wpAny_Expr_any (thn (he pins s σ H _ I h) fun v s1 ⟨x,H1,I1,r1,q1⟩=>⟨σ,H1,I1,q1⟩) I.quiet hs
def tRet (te:TE):TS:=fun D σ H=>te σ H D.rt
theorem ps_ret (he:PE X e te):PS X (.Return (some e) pos) (tRet te):=by
 intro pins s σ H D I h
 exact wpAny_Return_some (thn (he pins s σ H _ I h) fun v s1 ⟨x,H1,I1,r1,q1⟩=>⟨x,σ,H1,I1,r1,q1⟩)
def tIfS (c:TT) (t u:TS):TS:=fun D σ H=>c σ H fun b H1=>if b=true then t D σ H1 else u D σ H1
theorem ps_if {c:Expr} {a b:List Stmt} {tc:TT} (hc:PT X c tc) (ha:PSs X a t) (hb:PSs X b u):PS X (.If c a b pos) (tIfS tc t u):=by
 intro pins s σ H D I h
 refine wpAny_If (thn (hc pins s σ H _ I h) fun d s1 ⟨H1,I1,q1⟩=>?_)
 cases d with
 | true=>exact ha pins s1 σ H1 D I1 q1
 | false=>exact hb pins s1 σ H1 D I1 q1
end

abbrev TG:=V->St->Hp->(St->Hp->Prop)->Prop
abbrev TGs:=List V->St->Hp->(St->Hp->Prop)->Prop
def PG (X:Cx) (target:Expr) (t:TG):Prop :=
 ∀ (pins:List (Addr×Obj)) (s:Shared) (σ:St) (H:Hp) (v:V) (u:Value) (Q:St->Hp->Prop),Inv X pins σ H s->RelV v u->t v σ H Q ->
  wpAny (model X.prog X.w) X.A (assign target X.env u) (fun _ s'=>∃ σ' H',Inv X pins σ' H' s'/\Q σ' H') X.xe s
def PGs (X:Cx) (ts:List Expr) (t:TGs):Prop :=
 ∀ (pins:List (Addr×Obj)) (s:Shared) (σ:St) (H:Hp) (vs:List V) (us:List Value) (Q:St->Hp->Prop),Inv X pins σ H s->Vals vs us->t vs σ H Q ->
  wpAny (model X.prog X.w) X.A (assignInOrder ((assignEach ts X.env).map (·.2)) us) (fun _ s'=>∃ σ' H',Inv X pins σ' H' s'/\Q σ' H') X.xe s
section
variable {X:Cx} {pos:Pos}
def gName (i:Nat):TG:=fun v σ H Q=>Q (σ.set i (some v)) H
theorem pg_name {i:Nat} {x:Str} (hN:X.N.Nodup) (hi:X.N[i]?=some x) (hx:Loc X.env.scope x) (hf:X.fn x=true\/X.env.scope.names.lookup x=some .local:=by first | exact .inl rfl | exact .inr rfl | assumption):PG X (.Name x pos) (gName i):=by
 intro pins s σ H v u Q I r h
 exact wpAny_assign_Name (store_ok I hN hi hx r (fun s' I'=>⟨_,H,I',h⟩) hf)
def gNil:TGs:=fun vs σ H Q=>vs=[]/\Q σ H
def gCons (t:TG) (u:TGs):TGs:=fun vs σ H Q=>∃ v r,vs=v::r/\t v σ H fun σ' H'=>u r σ' H' Q
theorem pgs_nil:PGs X [] gNil:=by
 intro pins s σ H vs us Q I r h
 obtain ⟨e,h⟩:=h
 subst e
 cases r
 exact assignInOrder_nil ⟨σ,H,I,h⟩
theorem pgs_cons {e:Expr} {es:List Expr} {t:TG} {u:TGs} (h1:PG X e t) (h2:PGs X es u)
  (hs:(assignEach (e::es) X.env).map (·.2)=assign e X.env::(assignEach es X.env).map (·.2):=by rfl):PGs X (e::es) (gCons t u):=by
 intro pins s σ H vs us Q I r h
 obtain ⟨v,vr,e1,h⟩:=h
 subst e1
 cases r with
 | cons r rr =>
  rw [hs]
  refine assignInOrder_cons (thn (h1 pins s σ H _ _ _ I r h) fun _ s1 ⟨σ1,H1,I1,q1⟩=>?_)
  exact h2 pins s1 σ1 H1 _ _ Q I1 rr q1
def gTup (K:PySem.W.Frag) (n:Nat) (t:TGs):TG:=fun v σ H Q=>∃ a xs,v=.ref a/\SqT K H a xs/\xs.length=n/\t xs σ H Q
theorem pg_tup {es:List Expr} {k:Nat} {t:TGs} {n:Nat} (hc:X.calm=true) (h:PGs X es t)
  (hn:(assignEach es X.env).length=n:=by rfl) (hst:(assignEach es X.env).findIdx? (·.1)=none:=by rfl):PG X (.Tuple es k pos) (gTup X.K n t):=by
 intro pins s σ H v u Q I r hw
 obtain ⟨a,xs,e1,hq,hl,hw⟩:=hw
 subst e1
 cases r
 obtain ⟨its,rv,ht,hz⟩:=I.tuple hq
 refine assign_Tuple_tuple (I.ok.hd hc) ht (by simp [hn,<- hl,rv.length]) hst fun h' hx=>?_
 have I1:Inv X pins σ H { s with heap:=h' }:=I.kept (t':=s.toks) fun b o e=>hx b o (Nat.ne_of_lt (Heap.lt_size e)) e
 exact h pins _ σ H xs _ Q I1 (by simpa using rv) hw
def tAsg (te:TE) (g:TG):TS:=fun D σ H=>te σ H fun x H1=>g x σ H1 D.nx
theorem ps_asg {tg e:Expr} {te:TE} {g:TG} (he:PE X e te) (hg:PG X tg g) (hs:swapsWithSole [tg] e pos.line X.env=pure false:=by rfl) (hw:swappedStores [tg] e X.env=pure none:=by rfl)
  (h1:(assignEach [tg] X.env).map (·.2)=[assign tg X.env]:=by rfl):PS X (.Assign [tg] e pos) (tAsg te g):=by
 intro pins s σ H D I h
 refine wpAny_Assign_stores (thn (he pins s σ H _ I h) fun v s1 ⟨x,H1,I1,r1,q1⟩=>?_) hs hw
 rw [h1]
 exact thn (hg pins s1 σ H1 x v _ I1 r1 q1) fun _ s2 q=>q
theorem ps_set {i:Nat} {x:Str} {e:Expr} {te:TE} {pos':Pos} (hN:X.N.Nodup) (hi:X.N[i]?=some x) (hx:Loc X.env.scope x) (he:PE X e te) (hs:swapsWith e (some (.Name x pos')) pos.line X.env=pure false:=by rfl) (hf:X.fn x=true\/X.env.scope.names.lookup x=some .local:=by first | exact .inl rfl | exact .inr rfl | assumption) :
  PS X (.Assign [.Name x pos'] e pos) (tAsg te (gName i)):=by
 intro pins s σ H D I h
 refine wpAny_Assign_Name (thn (he pins s σ H _ I h) fun v s1 ⟨y,H1,I1,r1,q1⟩=>?_) hs
 exact store_ok I1 hN hi hx r1 (fun s2 I2=>⟨_,H1,I2,q1⟩) hf
def tPar (i j:Nat) (ta:TA):TS:=fun D σ H=>ta σ H fun vs H1=>∃ v w,vs=[v,w]/\D.nx ((σ.set i (some v)).set j (some w)) H1
theorem ps_par {i j:Nat} {x y:Str} {a b:Expr} {ta:TA} {px py pt:Pos} {kt k2 pt2} (hc:X.calm=true) (hN:X.N.Nodup) (hi:X.N[i]?=some x) (hj:X.N[j]?=some y) (hij:i≠j)
  (hx:X.env.scope.names.lookup x=some .local) (hy:X.env.scope.names.lookup y=some .local) (ha:PA X [a,b] ta)
  (hw:swappedStores [.Tuple [.Name x px,.Name y py] kt pt] (.Tuple [a,b] k2 pt2) X.env=pure (some [x,y]))
  (hs:swapsWithSole [.Tuple [.Name x px,.Name y py] kt pt] (.Tuple [a,b] k2 pt2) pos.line X.env=pure false:=by rfl) :
  PS X (.Assign [.Tuple [.Name x px,.Name y py] kt pt] (.Tuple [a,b] k2 pt2) pos) (tPar i j ta):=by
 intro pins s σ H D I h
 rw [exec_Assign_arm]
 refine wpAny_bind (wpAny_standAt ?_)
 rw [hs]
 refine wpAny_bind (wpAny_pure ?_)
 rw [if_neg (by decide)]
 refine wpAny_bind (Tuple_ (thn (ha _ pins s σ H _ I h) fun us s1 ⟨vs,H1,I1,r1,q1⟩=>?_))
 obtain ⟨v,w,e1,q1⟩:=q1
 subst e1
 obtain ⟨u1,u2,rfl,rv,rw'⟩:∃ u1 u2,us=[u1,u2]/\RelV v u1/\RelV w u2:=by
  cases r1 with
  | cons p q =>
   cases q with
   | cons p' q' =>
    cases q'
    exact ⟨_,_,rfl,p,p'⟩
 refine wpAny_newObj_type ?_ (by show 2<=sizeLine;decide)
 have I2:Inv X pins σ H1 { s1 with heap:=s1.heap.push { cls:=.type "tuple",data:=.seq [u1,u2].toArray } }:=I1.kept (t':=s1.toks) fun b o e=>Heap.get?_push_of_some _ e
 rw [hw]
 refine wpAny_bind (wpAny_pure ?_)
 show wpAny (model X.prog X.w) X.A (do rule "assign.swapped-stores";let items <- unpackItems (.ref s1.heap.objs.size) 2 none;assignInOrder [fun v=>bindName X.env y v,fun v=>bindName X.env x v] items.reverse;pure Flow.next) _ _ _
 refine wpAny_bind (wpAny_rule (wpAny_bind (unpackItems_tuple (items:=#[u1,u2]) (I.ok.hd hc) (IsTup.new s1.heap _) fun h' hx'=>?_)))
 have I3:=I2.kept (h':=h') (t':=s1.toks) fun b o e=>hx' b o (Nat.ne_of_lt (Heap.lt_size e)) e
 show wpAny _ _ (assignInOrder [fun v=>bindName X.env y v,fun v=>bindName X.env x v] [u2,u1] >>= fun _=>pure Flow.next) _ _ _
 refine wpAny_bind (assignInOrder_cons (wpAny_bindName (store_ok I3 hN hj (.inl hy) rw' (fun s2 I4=>?_) (.inr hy))))
 refine assignInOrder_cons (wpAny_bindName (store_ok I4 hN hi (.inl hx) rv (fun s3 I5=>assignInOrder_nil (wpAny_pure ?_)) (.inr hx)))
 rw [List.set_comm _ _ (Ne.symm hij)] at I5
 exact ⟨_,H1,I5,q1⟩
end

section
variable {X:Cx} {pos:Pos}
def tWhile (c:TT) (tb:TS):TS:=fun D σ H=>∃ W:Nat->St->Hp->Prop,(∃ m,W m σ H)/\∀ m σ H,W m σ H ->
 c σ H fun b H1=>if b=true then ∃ N:St->Hp->Prop,(∀ σ' H',N σ' H'->∃ m',m'<m/\W m' σ' H')/\tb { D with nx:=N,ct:=N,bk:=D.nx } σ H1 else D.nx σ H1
theorem ps_while {c:Expr} {body:List Stmt} {tc:TT} {tb:TS} (hp:PassesOwn (model X.prog X.w) X.A X.env X.xe) (hc:PT X c tc) (hb:PSs X body tb):PS X (.While c body [] pos) (tWhile tc tb):=by
 intro pins s σ H D I h
 obtain ⟨W,⟨m0,w0⟩,turn⟩:=h
 refine wpAny_While (codeAny_whileLoop (fun n s'=>∃ σ' H',Inv X pins σ' H' s'/\W n σ' H') ?_ m0 ⟨σ,H,I,w0⟩)
 rintro n s1 ⟨σ1,H1,I1,w1⟩
 refine wpAny_passesOwn hp (thn (hc pins s1 σ1 H1 _ I1 (turn n σ1 H1 w1)) fun b s2 ⟨H2,I2,q2⟩=>?_)
 cases b with
 | true =>
  obtain ⟨N,hN,q2⟩:=q2
  rw [if_pos rfl]
  refine wpAny_passesOwn hp (thn (hb pins s2 σ1 H2 _ I2 q2) fun f s3 q3=>?_)
  cases f with
  | next =>
   obtain ⟨σ3,H3,I3,n3⟩:=q3
   obtain ⟨m',hm,w3⟩:=hN σ3 H3 n3
   exact ⟨m',hm,σ3,H3,I3,w3⟩
  | cont =>
   obtain ⟨σ3,H3,I3,n3⟩:=q3
   obtain ⟨m',hm,w3⟩:=hN σ3 H3 n3
   exact ⟨m',hm,σ3,H3,I3,w3⟩
  | brk=>exact q3
  | ret v=>exact q3
 | false =>
  rw [if_neg Bool.false_ne_true]
  exact wpAny_execs_nil ⟨σ1,H2,I2,q2⟩
end

structure It where
 go:Nat->Hp->Prop
 yld:Nat->Hp->V->Hp->Prop
 stop:Nat->Hp->Prop
def FpOk (X:Cx) (pins:List (Addr×Obj)) (H:Hp) (b:Addr):Prop :=
 H b=none/\b≠X.env.locals/\b∉X.fs/\(b∈X.ex\/X.s₀.heap.objs.size<=b)/\(∀ x c,X.env.cells.lookup x=some c->c≠b)/\∀ p∈X.pn++pins,p.1≠b
theorem Inv.fpOk {X:Cx} {pins:List (Addr×Obj)} {σ:St} {H H':Hp} {s:Shared} {b:Addr} (I:Inv X pins σ H s) (hb:s.heap.objs.size<=b) (hn:H' b=none):FpOk X pins H' b:=by
 refine ⟨hn,Nat.ne_of_gt (Nat.lt_of_lt_of_le I.lt hb),I.nofs hb,.inr (Nat.le_trans I.sz hb),fun x c e z=>?_,fun p hp z=>?_⟩
 ·obtain ⟨v,q⟩:=I.cell x c e
  exact absurd (Nat.lt_of_lt_of_le q.lt (by rw [z];exact hb)) (Nat.lt_irrefl _)
 ·exact absurd (Nat.lt_of_lt_of_le (Heap.lt_size (I.pin p hp).1) (by rw [z];exact hb)) (Nat.lt_irrefl _)
structure Turn (P:Program) (w:World) (K:PySem.W.Frag) (tg:Expr) (J:It) (fp:List Addr) (it:Addr) (tn:Nat->Heap->Prop):Prop where
 mem:it∈fp
 obj:∀ i h,tn i h->∀ b∈fp,∃ o,h.get? b=some o/\∀ v,o.data≠.cell v
 keep:∀ i h h',tn i h->(∀ b∈fp,∀ o,h.get? b=some o->h'.get? b=some o)->tn i h'
 item:∀ (X:Cx),X.prog=P->X.w=w->X.K=K->X.calm=true->∀ (i:Nat) (pins:List (Addr×Obj)) (s:Shared) (σ:St) (H:Hp) (E:Value->Shared->Prop),Inv X pins σ H s->(∀ b∈fp,FpOk X pins H b)->tn i s.heap->J.go i H ->
  wpAny (model P w) X.A (pyNext (.ref it)) (fun r s1=>∃ u,r=some u /\
   wpAny (model P w) X.A (letOwnedTupleGo tg (.ref it) u) (fun _ s2=>∃ x H',Inv X pins σ H' s2/\RelV x u/\J.yld i H x H'/\tn (i+1) s2.heap/\∀ b∈fp,H' b=none) E s1) E s
 done:∀ (X:Cx),X.prog=P->X.w=w->X.K=K->X.calm=true->∀ (i:Nat) (pins:List (Addr×Obj)) (s:Shared) (σ:St) (H:Hp) (E:Value->Shared->Prop),Inv X pins σ H s->(∀ b∈fp,FpOk X pins H b)->tn i s.heap->J.stop i H ->
  wpAny (model P w) X.A (pyNext (.ref it)) (fun r s1=>r=none/\Inv X pins σ H s1) E s
 self:∀ (A:Around) (i:Nat) (s:Shared) (Q:Value->Shared->Prop) (E:Value->Shared->Prop),tn i s.heap->Q (.ref it) s->wpAny (model P w) A (pyIter (.ref it)) Q E s
abbrev TI:=St->Hp->(It->Hp->Prop)->Prop
def PIE (X:Cx) (pins:List (Addr×Obj)) (σ:St) (tg:Expr) (R:It->Hp->Prop) (itv:Value) (s2:Shared):Prop :=
 ∃ (it:Addr) (fp:List Addr) (tn:Nat->Heap->Prop) (J:It) (H':Hp),itv=.ref it/\Inv X pins σ H' s2/\Turn X.prog X.w X.K tg J fp it tn/\tn 0 s2.heap/\(∀ b∈fp,FpOk X pins H' b)/\R J H'
def PI (X:Cx) (tg iter:Expr) (wi:TI):Prop :=
 ∀ (pins:List (Addr×Obj)) (s:Shared) (σ:St) (H:Hp) (R:It->Hp->Prop),Inv X pins σ H s->wi σ H R ->
  wpAny (model X.prog X.w) X.A (eval iter X.env) (fun v s1=>wpAny (model X.prog X.w) X.A (pyIter v) (PIE X pins σ tg R) X.xe s1) X.xe s

theorem go_of {M:Model} {A:Around} {E:Value->Shared->Prop} {s:Shared} {tg:Expr} {it:Addr} {u:Value} {o:Obj} {n:String} {vs:Array Value} {Q:Unit->Shared->Prop} (ho:s.heap.get? it=some o) (hc:o.cls=.type n) (hd:o.data=.fields vs)
  (hn:["enumerate","zip","dict_itemiterator","dict_reverseitemiterator","odict_iterator","itertools.zip_longest","itertools.pairwise"].contains n=false) (hQ:Q () s):wpAny M A (letOwnedTupleGo tg (.ref it) u) Q E s:=by
 unfold letOwnedTupleGo
 cases tg<;>first
  | exact wpAny_pure hQ
  | (cases u<;>first
    | exact wpAny_pure hQ
    | (refine wpAny_bind (wpAny_load ho ?_)
       rw [hc,hd]
       show wpAny M A (if (["enumerate","zip","dict_itemiterator","dict_reverseitemiterator","odict_iterator","itertools.zip_longest","itertools.pairwise"].contains n && vs[0]? == some (rawInt _))=true then _ else _) Q E s
       rw [if_neg (by intro h;rw [hn,Bool.false_and] at h;cases h)]
       exact wpAny_pure hQ))

def Itl (K:PySem.W.Frag) (a:Addr):It :=
 ⟨fun i H=>∃ xs x,SqL K H a xs/\xs[i]?=some x,fun i H x H'=>H'=H/\∀ xs,SqL K H a xs->xs[i]?=some x,fun i H=>∃ xs,SqL K H a xs/\xs.length<=i⟩
def Itt (K:PySem.W.Frag) (a:Addr):It :=
 ⟨fun i H=>∃ xs x,SqT K H a xs/\xs[i]?=some x,fun i H x H'=>H'=H/\∀ xs,SqT K H a xs->xs[i]?=some x,fun i H=>∃ xs,SqT K H a xs/\xs.length<=i⟩
def Itr (lo:Int) (n:Nat):It:=⟨fun i _=>i<n,fun i H x H'=>H'=H/\x=.int (lo+i),fun i _=>n<=i⟩
theorem turn_list {P:Program} {w:World} {K:PySem.W.Frag} {tg:Expr} (a it:Addr):Turn P w K tg (Itl K a) [it] it (fun i h=>h.IsListIter it a i) where
 mem:=by simp
 obj:=fun i h st b hb=>by
  have e:b=it:=by simpa using hb
  subst e
  obtain ⟨o,e,c,d⟩:=st
  exact ⟨o,e,fun v z=>by rw [d] at z;cases z⟩
 keep:=fun i h h' st k=>st.at fun o e=>k it (by simp) o e
 item:=by
  intro X hP hw hK hc i pins s σ H E I hf st hg
  subst hP hw hK
  obtain ⟨xs,x,hq,hx⟩:=hg
  obtain ⟨its,rv,p,hz⟩:=I.list hq
  obtain ⟨u,hu,ru⟩:=rv.get hx
  obtain ⟨f0,f1,f2,f3,f4,f5⟩:=hf it (by simp)
  refine wpAny_pyNext_list_item st p.isList (x:=u) (by simpa using hu) fun h' st' sb=>?_
  have I1:Inv X pins σ H { s with heap:=h' }:=I.turned (t':=s.toks) (fun b o hb e=>(sb.2 b hb).trans e) f0 f1 f3 f4 f5
  obtain ⟨o,e,c,d⟩:=id st'
  exact ⟨u,rfl,go_of (s:={ s with heap:=h' }) e c d (by decide) ⟨x,H,I1,ru,⟨rfl,fun ys hy=>by rw [I.list_inj hy hq];exact hx⟩,st',fun b hb=>(hf b hb).1⟩⟩
 done:=by
  intro X hP hw hK hc i pins s σ H E I hf st hg
  subst hP hw hK
  obtain ⟨xs,hq,hx⟩:=hg
  obtain ⟨its,rv,p,hz⟩:=I.list hq
  obtain ⟨f0,f1,f2,f3,f4,f5⟩:=hf it (by simp)
  have hl:=rv.length
  exact wpAny_pyNext_list_end (I.ok.hd hc) st p.isList (by simp;omega) fun h' eb=>⟨rfl,I.turned (t':=s.toks) (fun b o hb e=>eb b o hb e) f0 f1 f3 f4 f5⟩
 self:=fun _ _ _ _ _ st h=>wpAny_pyIter_listiter st h
theorem turn_tuple {P:Program} {w:World} {K:PySem.W.Frag} {tg:Expr} (a it:Addr):Turn P w K tg (Itt K a) [it] it (fun i h=>h.IsTupleIter it a i) where
 mem:=by simp
 obj:=fun i h st b hb=>by
  have e:b=it:=by simpa using hb
  subst e
  obtain ⟨o,e,c,d⟩:=st
  exact ⟨o,e,fun v z=>by rw [d] at z;cases z⟩
 keep:=fun i h h' st k=>st.at fun o e=>k it (by simp) o e
 item:=by
  intro X hP hw hK hc i pins s σ H E I hf st hg
  subst hP hw hK
  obtain ⟨xs,x,hq,hx⟩:=hg
  obtain ⟨its,rv,p,hz⟩:=I.tuple hq
  obtain ⟨u,hu,ru⟩:=rv.get hx
  obtain ⟨f0,f1,f2,f3,f4,f5⟩:=hf it (by simp)
  refine wpAny_pyNext_tuple_item st (show s.heap.IsTuple a its.toArray from p) (x:=u) (by simpa using hu) fun h' st' sb=>?_
  have I1:Inv X pins σ H { s with heap:=h' }:=I.turned (t':=s.toks) (fun b o hb e=>(sb.2 b hb).trans e) f0 f1 f3 f4 f5
  obtain ⟨o,e,c,d⟩:=id st'
  exact ⟨u,rfl,go_of (s:={ s with heap:=h' }) e c d (by decide) ⟨x,H,I1,ru,⟨rfl,fun ys hy=>by rw [I.tuple_inj hy hq];exact hx⟩,st',fun b hb=>(hf b hb).1⟩⟩
 done:=by
  intro X hP hw hK hc i pins s σ H E I hf st hg
  subst hP hw hK
  obtain ⟨xs,hq,hx⟩:=hg
  obtain ⟨its,rv,p,hz⟩:=I.tuple hq
  obtain ⟨f0,f1,f2,f3,f4,f5⟩:=hf it (by simp)
  have hl:=rv.length
  exact wpAny_pyNext_tuple_end (I.ok.hd hc) st (show s.heap.IsTuple a its.toArray from p) (by simp;omega) fun h' eb=>⟨rfl,I.turned (t':=s.toks) (fun b o hb e=>eb b o hb e) f0 f1 f3 f4 f5⟩
 self:=fun _ _ _ _ _ st h=>wpAny_pyIter_tupleiter st h
theorem turn_range {P:Program} {w:World} {K:PySem.W.Frag} {tg:Expr} (it:Addr) (lo:Int) (n:Nat):Turn P w K tg (Itr lo n) [it] it (fun i h=>IsRangeIter h it (lo+(i:Nat)*1) ((n:Int)-(i:Nat)) 1) where
 mem:=by simp
 obj:=fun i h st b hb=>by
  have e:b=it:=by simpa using hb
  subst e
  exact ⟨_,st,fun v z=>by
   have z':Data.fields _=Data.cell v:=z
   cases z'⟩
 keep:=fun i h h' st k=>k it (by simp) _ st
 item:=by
  intro X hP hw hK hc i pins s σ H E I hf st hg
  subst hP hw hK
  obtain ⟨f0,f1,f2,f3,f4,f5⟩:=hf it (by simp)
  have W:=Walks.range (prog:=X.prog) (w:=X.w) (I.ok.hd hc) it lo 1 n
  refine W.item i s _ _ hg st fun v h' tk hv st' kk=>?_
  obtain ⟨t,rfl⟩:=hv
  have I1:Inv X pins σ H { s with heap:=h',toks:=tk }:=I.turned (fun b o hb e=>kk b o (by simpa using hb) e) f0 f1 f3 f4 f5
  refine ⟨_,rfl,go_of (s:={ s with heap:=h',toks:=tk }) (n:="range_iterator") st' rfl rfl (by decide) ⟨.int (lo+i),H,I1,⟨t,?_⟩,⟨rfl,rfl⟩,st',fun b hb=>(hf b hb).1⟩⟩
  rw [Int.mul_one]
 done:=by
  intro X hP hw hK hc i pins s σ H E I hf st hg
  subst hP hw hK
  obtain ⟨f0,f1,f2,f3,f4,f5⟩:=hf it (by simp)
  exact wpAny_pyNext_range_end (I.ok.hd hc) st (by have:n<=i:=hg;omega) fun h' eb=>⟨rfl,I.turned (t':=s.toks) (fun b o hb e=>eb b o hb e) f0 f1 f3 f4 f5⟩
 self:=fun _ _ _ _ _ st h=>wpAny_pyIter_rangeiter st h
section
variable {X:Cx} {tg:Expr}
theorem range_it {pins:List (Addr×Obj)} {σ:St} {H:Hp} {s:Shared} {R:It->Hp->Prop} {E:Value->Shared->Prop} {lo hi:Int} {t u v:Tok} {tk:Nat} (I:Inv X pins σ H s) (h1:-(2 ^ 62)<=lo) (h2:lo<2 ^ 62) (h3:-(2 ^ 62)<=hi) (h4:hi<2 ^ 62)
  (q:R (Itr lo (hi-lo).toNat) H):wpAny (model X.prog X.w) X.A (pyIter (.ref s.heap.objs.size)) (PIE X pins σ tg R) E { s with heap:=s.heap.push { cls:=.type "range",data:=.fields #[.int lo t,.int hi u,.int 1 v] },toks:=tk }:=by
 refine wpAny_pyIter_range (IsRange.new ..) (small_one h1 h2 h3 h4) ?_
 have I1:Inv X pins σ H { s with heap:=s.heap.push { cls:=.type "range",data:=.fields #[.int lo t,.int hi u,.int 1 v] },toks:=tk }:=I.kept fun b o e=>Heap.get?_push_of_some _ e
 refine ⟨(s.heap.push { cls:=.type "range",data:=.fields #[.int lo t,.int hi u,.int 1 v] }).objs.size,[(s.heap.push { cls:=.type "range",data:=.fields #[.int lo t,.int hi u,.int 1 v] }).objs.size],_,_,H,rfl,
  I1.kept (t':=tk) fun b o e=>Heap.get?_push_of_some _ e,turn_range _ lo (hi-lo).toNat,?_,fun b hb=>?_,q⟩
 ·have e1:lo+((0:Nat):Int)*1=lo:=by simp
  have e2:(((hi-lo).toNat:Nat):Int)-((0:Nat):Int)=Builtin.Range.rangeSize lo hi 1:=by rw [rangeSize_one];split<;>omega
  show IsRangeIter _ _ (lo+((0:Nat):Int)*1) ((((hi-lo).toNat:Nat):Int)-((0:Nat):Int)) 1
  rw [e1,e2]
  exact Heap.get?_push_size _ rfl
 ·have e:b=(s.heap.push { cls:=.type "range",data:=.fields #[.int lo t,.int hi u,.int 1 v] }).objs.size:=by simpa using hb
  subst e
  exact I1.fpOk (Nat.le_refl _) (I1.hok.fresh (Nat.le_refl _))
def iRng1 (ta:TA):TI:=fun σ H R=>ta σ H fun vs H1=>∃ j:Int,vs=[.int j]/\-(2 ^ 62)<=j/\j<2 ^ 62/\R (Itr 0 j.toNat) H1
def iRng2 (ta:TA):TI:=fun σ H R=>ta σ H fun vs H1=>∃ i j:Int,vs=[.int i,.int j]/\(-(2 ^ 62)<=i/\i<2 ^ 62/\-(2 ^ 62)<=j/\j<2 ^ 62)/\R (Itr i (j-i).toNat) H1
theorem pi_range1 {a:Expr} {ta:TA} {p pos:Pos} (hg:Gl X "range") (hm:X.mg "range"=none) (ha:PA X [a] ta) (hs:starEach [a] X.env=[(false,eval a X.env)]:=by rfl):PI X tg (.Call (.Name "range" p) [a] [] pos) (iRng1 ta):=by
 intro pins s σ H R I h
 refine Call_ (ld_blt I hg hm boot_range (PyProof.Rows.callWith_type1 (thn (ha pos pins s σ H _ I h) fun us s1 ⟨vs,H1,I1,r1,q1⟩=>?_) hs rfl))
 obtain ⟨j,e,q1,q2,q⟩:=q1
 subst e
 cases r1 with
 | cons r rr =>
  cases rr
  obtain ⟨t,rfl⟩:=r
  exact call_range_1 (range_it I1 (by omega) (by omega) q1 q2 (by simpa using q))
theorem pi_range2 {a b:Expr} {ta:TA} {p pos:Pos} (hg:Gl X "range") (hm:X.mg "range"=none) (ha:PA X [a,b] ta) (hs:starEach [a,b] X.env=[(false,eval a X.env),(false,eval b X.env)]:=by rfl) (hs2:starEach [b] X.env=[(false,eval b X.env)]:=by rfl) :
  PI X tg (.Call (.Name "range" p) [a,b] [] pos) (iRng2 ta):=by
 intro pins s σ H R I h
 refine Call_ (ld_blt I hg hm boot_range (PyProof.Rows.callWith_type1 (thn (ha pos pins s σ H _ I h) fun us s1 ⟨vs,H1,I1,r1,q1⟩=>?_) (by rw [hs,hs2]) (by rw [hs2];rfl)))
 obtain ⟨i,j,e,⟨q1,q2,q3,q4⟩,q⟩:=q1
 subst e
 cases r1 with
 | cons r rr =>
  cases rr with
  | cons r' rr =>
   cases rr
   obtain ⟨t,rfl⟩:=r
   obtain ⟨t',rfl⟩:=r'
   exact call_range_2 (range_it I1 q1 q2 q3 q4 q)

def tFor (wi:TI) (g:TG) (tb:TS):TS:=fun D σ H=>wi σ H fun J H1=>∃ W:Nat->Nat->St->Hp->Prop,(∃ m,W 0 m σ H1)/\∀ i m σ H,W i m σ H ->
 (J.stop i H/\D.nx σ H)\/(J.go i H/\∃ N:St->Hp->Prop,(∀ σ' H',N σ' H'->∃ m',m'<m/\W (i+1) m' σ' H')/\∀ x H',J.yld i H x H'->g x σ H' fun σ2 H2=>tb { D with nx:=N,ct:=N,bk:=D.nx } σ2 H2)
def pinsAt (fp:List Addr) (h:Heap):List (Addr×Obj):=fp.filterMap fun b=>(h.get? b).map fun o=>(b,o)
theorem mem_pinsAt {fp:List Addr} {h:Heap} {b:Addr} {o:Obj} (hb:b∈fp) (e:h.get? b=some o):(b,o)∈pinsAt fp h:=List.mem_filterMap.mpr ⟨b,hb,by rw [e];rfl⟩
theorem of_pinsAt {fp:List Addr} {h:Heap} {p:Addr×Obj} (hp:p∈pinsAt fp h):p.1∈fp/\h.get? p.1=some p.2:=by
 obtain ⟨b,hb,e⟩:=List.mem_filterMap.mp hp
 cases q:h.get? b with
 | none=>rw [q] at e;cases e
 | some o =>
  rw [q] at e
  have e':(b,o)=p:=Option.some.inj e
  subst e'
  exact ⟨hb,q⟩
theorem Inv.pinned {pins:List (Addr×Obj)} {σ:St} {H:Hp} {s:Shared} {fp:List Addr} (I:Inv X pins σ H s) (hf:∀ b∈fp,FpOk X pins H b) (ho:∀ b∈fp,∃ o,s.heap.get? b=some o/\∀ v,o.data≠.cell v):Inv X (pins++pinsAt fp s.heap) σ H s :=
 I.pins_of fun p hp=>(List.mem_append.mp hp).elim (fun z=>I.pin p (List.mem_append_right _ z)) fun z=>by
  obtain ⟨hb,e⟩:=of_pinsAt z
  obtain ⟨f0,f1,f2,_⟩:=hf p.1 hb
  obtain ⟨o,e',d⟩:=ho p.1 hb
  rw [e] at e';cases e'
  exact ⟨e,f0,f1,f2,d⟩
theorem Inv.unpinned {pins pl:List (Addr×Obj)} {σ:St} {H:Hp} {s:Shared} (I:Inv X (pins++pl) σ H s):Inv X pins σ H s:=I.pins_of fun p hp=>I.pin p (List.mem_append_right _ (List.mem_append_left _ hp))
theorem ps_for {iter:Expr} {body:List Stmt} {wi:TI} {g:TG} {tb:TS} {pos:Pos} (hp:PassesOwn (model X.prog X.w) X.A X.env X.xe) (hc:X.calm=true) (hi:PI X tg iter wi) (hg:PG X tg g) (hb:PSs X body tb)
  (hs:∀ x,foldedSetIterable iter X.env x=pure x:=by intro _;rfl):PS X (.For tg iter body [] pos) (tFor wi g tb):=by
 intro pins s σ H D I h
 refine wpAny_For (thn (hi pins s σ H _ I h) fun v s1 h1=>thn h1 fun itv s2 h2=>?_) hs
 obtain ⟨it,fp,tn,J,H2,e,I2,T,st2,f2,W,⟨m0,w0⟩,turn⟩:=h2
 subst e
 -- what stays true of the iterator's objects through the loop
 have stat:∀ {H':Hp},(∀ b∈fp,H' b=none)->∀ b∈fp,FpOk X pins H' b:=fun hn b hb=>⟨hn b hb,(f2 b hb).2⟩
 refine codeAny_forLoop_any (fun n s'=>∃ i σ' H',Inv X pins σ' H' s'/\tn i s'.heap/\(∀ b∈fp,H' b=none)/\W i n σ' H') ?_ m0 ⟨0,σ,H2,I2,st2,fun b hb=>(f2 b hb).1,w0⟩
 rintro n s3 ⟨i,σ3,H3,I3,st3,fr3,w3⟩
 rcases turn i n σ3 H3 w3 with ⟨stop,qn⟩ | ⟨go,N,hN,step⟩
 ·refine wpAny_passesOwn hp (thn (T.done X rfl rfl rfl hc i pins s3 σ3 H3 X.xe I3 (stat fr3) st3 stop) fun r s4 ⟨hr,I4⟩=>?_)
  subst hr
  exact wpAny_execs_nil ⟨σ3,H3,I4,qn⟩
 ·refine wpAny_passesOwn hp (thn (T.item X rfl rfl rfl hc i pins s3 σ3 H3 X.xe I3 (stat fr3) st3 go) fun r s4 ⟨u,hr,h4⟩=>?_)
  subst hr
  refine wpAny_passesOwn hp (thn h4 fun _ s5 ⟨x,H5,I5,r5,y5,st5,fr5⟩=>?_)
  have I5':=I5.pinned (stat fr5) (T.obj _ _ st5)
  refine wpAny_passesOwn hp (thn (hg _ s5 σ3 H5 x u _ I5' r5 (step x H5 y5)) fun _ s6 ⟨σ6,H6,I6,q6⟩=>?_)
  refine wpAny_passesOwn hp (thn (hb _ s6 σ6 H6 _ I6 q6) fun f s7 q7=>?_)
  have again:∀ {σ7:St} {H7:Hp},Inv X (pins++pinsAt fp s5.heap) σ7 H7 s7->N σ7 H7->∃ m,m<n/\∃ i σ' H',Inv X pins σ' H' s7/\tn i s7.heap/\(∀ b∈fp,H' b=none)/\W i m σ' H':=fun {σ7 H7} I7 n7=>by
   obtain ⟨m',hm,w7⟩:=hN σ7 H7 n7
   refine ⟨m',hm,i+1,σ7,H7,I7.unpinned,T.keep _ _ _ st5 fun b hb o e=>(I7.pin (b,o) (List.mem_append_right _ (List.mem_append_right _ (mem_pinsAt hb e)))).1,fun b hb=>?_,w7⟩
   obtain ⟨o,e,d⟩:=T.obj _ _ st5 b hb
   exact (I7.pin (b,o) (List.mem_append_right _ (List.mem_append_right _ (mem_pinsAt hb e)))).2.1
  cases f with
  | next=>obtain ⟨σ7,H7,I7,n7⟩:=q7;exact again I7 n7
  | cont=>obtain ⟨σ7,H7,I7,n7⟩:=q7;exact again I7 n7
  | brk=>obtain ⟨σ7,H7,I7,q7⟩:=q7;exact ⟨σ7,H7,I7.unpinned,q7⟩
  | ret v=>obtain ⟨x7,σ7,H7,I7,r7,q7⟩:=q7;exact ⟨x7,σ7,H7,I7.unpinned,r7,q7⟩
end

end L2

namespace L2
open PySem PySem.Spec PyProof.Rows

abbrev R2:=V->V->Hp->VK->Prop
def OpR (X:Cx) (f:Value->Value->Sem Value) (r:R2):Prop :=
 ∀ (pins:List (Addr×Obj)) (s:Shared) (σ:St) (H:Hp) (x y:V) (v u:Value) (Q:VK),Inv X pins σ H s->RelV x v->RelV y u->r x y H Q ->
  wpAny (model X.prog X.w) X.A (f v u) (EP X pins σ Q) X.xe s
def UnR (X:Cx) (f:Value->Sem Value) (r:V->Hp->VK->Prop):Prop :=
 ∀ (pins:List (Addr×Obj)) (s:Shared) (σ:St) (H:Hp) (x:V) (v:Value) (Q:VK),Inv X pins σ H s->RelV x v->r x H Q ->
  wpAny (model X.prog X.w) X.A (f v) (EP X pins σ Q) X.xe s
def CallR (X:Cx) (f:Value) (r:List V->Hp->VK->Prop):Prop :=
 ∀ (pins:List (Addr×Obj)) (s:Shared) (σ:St) (H:Hp) (xs:List V) (us:List Value) (Q:VK),Inv X pins σ H s->Vals xs us->r xs H Q ->
  wpAny (model X.prog X.w) X.A (call f us) (EP X pins σ Q) X.xe s
def TruR (X:Cx) (r:V->Hp->(Bool->Hp->Prop)->Prop):Prop :=
 ∀ (pins:List (Addr×Obj)) (s:Shared) (σ:St) (H:Hp) (x:V) (v:Value) (Q:Bool->Hp->Prop),Inv X pins σ H s->RelV x v->r x H Q ->
  wpAny (model X.prog X.w) X.A (truthy v) (TP X pins σ Q) X.xe s

def tOp (r:R2) (ta tb:TE):TE:=fun σ H Q=>ta σ H fun x H1=>tb σ H1 fun y H2=>r x y H2 Q
def tUn (r:V->Hp->VK->Prop) (ta:TE):TE:=fun σ H Q=>ta σ H fun x H1=>r x H1 Q
def rI (C:Int->Int->Prop) (g:Int->Int->V):R2:=fun x y H Q=>∃ i j,x=.int i/\y=.int j/\C i j/\Q (g i j) H
def rI0 (g:Int->Int->V):R2:=fun x y H Q=>∃ i j,x=.int i/\y=.int j/\Q (g i j) H
def rU (g:Int->V):V->Hp->VK->Prop:=fun x H Q=>∃ i,x=.int i/\Q (g i) H

section
variable {X:Cx} {a b c:Expr} {ta tb tc:TE} {pos:Pos}

theorem binT (ha:PE X a ta) (hb:PE X b tb) {pins:List (Addr×Obj)} {s:Shared} {σ:St} {H:Hp} {R:V->V->Hp->Prop} (I:Inv X pins σ H s)
  (h:ta σ H fun x H1=>tb σ H1 fun y H2=>R x y H2) {Q:Value->Shared->Prop} {f:Value->Value->Sem Value}
  (hf:∀ v u s2 x y H2,Inv X pins σ H2 s2->RelV x v->RelV y u->R x y H2->wpAny (model X.prog X.w) X.A (f v u) Q X.xe s2) :
  wpAny (model X.prog X.w) X.A (eval a X.env) (fun v s₁=>wpAny (model X.prog X.w) X.A (eval b X.env) (fun u s₂=>wpAny (model X.prog X.w) X.A (f v u) Q X.xe s₂) X.xe s₁) X.xe s:=by
 refine thn (ha pins s σ H _ I h) fun v s1 ⟨x,H1,I1,r1,q1⟩=>?_
 refine thn (hb pins s1 σ H1 _ I1 q1) fun u s2 ⟨y,H2,I2,r2,q2⟩=>?_
 exact hf v u s2 x y H2 I2 r1 r2 q2

theorem pe_op {op:Operator} {r:R2} (ho:OpR X (binaryOp op) r) (ha:PE X a ta) (hb:PE X b tb):PE X (.BinOp a op b pos) (tOp r ta tb):=by
 intro pins s σ H Q I h
 exact wpAny_BinOp (binT ha hb I h fun v u s2 x y H2 I2 rx ry q=>ho pins s2 σ H2 x y v u Q I2 rx ry q)
theorem pe_un {op:UnaryOp} {r:V->Hp->VK->Prop} (ho:UnR X (unaryOp op) r) (ha:PE X a ta):PE X (.UnaryOp op a pos) (tUn r ta):=by
 intro pins s σ H Q I h
 exact UnaryOp_ (thn (ha pins s σ H _ I h) fun v s1 ⟨x,H1,I1,r1,q1⟩=>ho pins s1 σ H1 x v Q I1 r1 q1)
theorem opI {f:Value->Value->Sem Value} {C:Int->Int->Prop} {g:Int->Int->Int}
  (rule:∀ (i j:Int) (t u:Tok) (s:Shared) (Q:Value->Shared->Prop) (E:Value->Shared->Prop),C i j->Q (.int (g i j) s.toks) { s with toks:=s.toks+1 }->wpAny (model X.prog X.w) X.A (f (.int i t) (.int j u)) Q E s) :
  OpR X f (rI C fun i j=>.int (g i j)):=by
 intro pins s σ H x y v u Q I rx ry h
 obtain ⟨i,j,rfl,rfl,hc,q⟩:=h
 obtain ⟨t,rfl⟩:=rx
 obtain ⟨t',rfl⟩:=ry
 exact rule i j t t' s _ _ hc ⟨.int (g i j),H,I.tok _,⟨_,rfl⟩,q⟩
theorem opI0 {f:Value->Value->Sem Value} {g:Int->Int->Int}
  (rule:∀ (i j:Int) (t u:Tok) (s:Shared) (Q:Value->Shared->Prop) (E:Value->Shared->Prop),Q (.int (g i j) s.toks) { s with toks:=s.toks+1 }->wpAny (model X.prog X.w) X.A (f (.int i t) (.int j u)) Q E s) :
  OpR X f (rI0 fun i j=>.int (g i j)):=by
 intro pins s σ H x y v u Q I rx ry h
 obtain ⟨i,j,rfl,rfl,q⟩:=h
 obtain ⟨t,rfl⟩:=rx
 obtain ⟨t',rfl⟩:=ry
 exact rule i j t t' s _ _ ⟨.int (g i j),H,I.tok _,⟨_,rfl⟩,q⟩
theorem opB0 {f:Value->Value->Sem Value} {g:Int->Int->Bool}
  (rule:∀ (i j:Int) (t u:Tok) (s:Shared) (Q:Value->Shared->Prop) (E:Value->Shared->Prop),Q (.bool (g i j)) s->wpAny (model X.prog X.w) X.A (f (.int i t) (.int j u)) Q E s) :
  OpR X f (rI0 fun i j=>.bl (g i j)):=by
 intro pins s σ H x y v u Q I rx ry h
 obtain ⟨i,j,rfl,rfl,q⟩:=h
 obtain ⟨t,rfl⟩:=rx
 obtain ⟨t',rfl⟩:=ry
 exact rule i j t t' s _ _ ⟨.bl (g i j),H,I,rfl,q⟩

def CDiv (i j:Int):Prop:=0<j/\j<1073741824
def CMul (i j:Int):Prop:=(-(2 ^ 64)<i/\i<2 ^ 64)\/(-(2 ^ 64)<j/\j<2 ^ 64)
theorem CMul.ok {i j:Int} (h:CMul i j):IntMulOk i j:=by
 rcases h with ⟨h1,h2⟩ | ⟨h1,h2⟩
 ·exact .of_left (intBits_le_64 h1 h2)
 ·exact .of_right (intBits_le_64 h1 h2)
theorem op_add:OpR X (binaryOp .Add) (rI0 fun i j=>.int (i+j)):=opI0 fun _ _ _ _ _ _ _ q=>add_int q
theorem op_sub:OpR X (binaryOp .Sub) (rI0 fun i j=>.int (i-j)):=opI0 fun _ _ _ _ _ _ _ q=>sub_int q
theorem op_mul:OpR X (binaryOp .Mult) (rI CMul fun i j=>.int (i*j)):=opI fun _ _ _ _ _ _ _ hc q=>mul_int q hc.ok
theorem op_fdiv:OpR X (binaryOp .FloorDiv) (rI CDiv fun i j=>.int (i / j)):=opI fun i j _ _ _ _ _ hc q=>by
 have h1:(0:Int)<j:=hc.1
 have h2:j<1073741824:=hc.2
 exact floordiv_int (by omega) (by rw [Int.fdiv_eq_ediv_of_nonneg i (by omega)];exact q) (.inl (PyProof.noPylong_small (by omega)))
theorem op_mod:OpR X (binaryOp .Mod) (rI (fun _ j=>0<j) fun i j=>.int (i % j)):=opI fun i j _ _ _ _ _ hc q=>by
 have h1:(0:Int)<j:=hc
 exact mod_int' (by omega) (by rw [Int.fmod_eq_emod_of_nonneg i (by omega)];exact q)
theorem unI {f:Value->Sem Value} {g:Int->Int}
  (rule:∀ (i:Int) (t:Tok) (s:Shared) (Q:Value->Shared->Prop) (E:Value->Shared->Prop),Q (.int (g i) s.toks) { s with toks:=s.toks+1 }->wpAny (model X.prog X.w) X.A (f (.int i t)) Q E s) :
  UnR X f (rU fun i=>.int (g i)):=by
 intro pins s σ H x v Q I rx h
 obtain ⟨i,rfl,q⟩:=h
 obtain ⟨t,rfl⟩:=rx
 exact rule i t s _ _ ⟨.int (g i),H,I.tok _,⟨_,rfl⟩,q⟩
theorem un_neg:UnR X (unaryOp .USub) (rU fun i=>.int (-i)):=unI fun _ _ _ _ _ q=>neg_int q
end

def scal:V->V->Bool
 | .non,.non=>true | .non,.int _=>true | .int _,.non=>true | .non,.bl _=>true | .bl _,.non=>true | .non,.str _=>true | .str _,.non=>true
 | .int _,.int _=>true | .bl _,.bl _=>true | .str _,.str _=>true | .byt _,.byt _=>true
 | .int _,.str _=>true | .str _,.int _=>true | .bl _,.str _=>true | .str _,.bl _=>true
 | _,_=>false
def rEq:R2:=fun x y H Q=>scal x y=true/\Q (.bl (decide (x=y))) H
def rNe:R2:=fun x y H Q=>scal x y=true/\Q (.bl (!decide (x=y))) H

theorem dec_int {i j:Int}:decide (V.int i=V.int j)=(i == j):=by
 rw [Bool.eq_iff_iff]
 simp
theorem dec_bl {i j:Bool}:decide (V.bl i=V.bl j)=(i == j):=by
 rw [Bool.eq_iff_iff]
 simp
theorem dec_str {i j:Str}:decide (V.str i=V.str j)=(i == j):=by
 rw [Bool.eq_iff_iff]
 simp
theorem dec_byt {i j:Array UInt8}:decide (V.byt i=V.byt j)=(i.toList == j.toList):=by
 rw [Bool.eq_iff_iff]
 cases i
 cases j
 simp

section
variable {X:Cx} {a b c:Expr} {ta tb tc:TE} {pos:Pos}
theorem fin_bl {pins:List (Addr×Obj)} {σ:St} {H:Hp} {s:Shared} {Q:VK} {k k':Bool} (I:Inv X pins σ H s) (q:Q (.bl k) H) (e:k=k'):EP X pins σ Q (.bool k') s:=by
 subst e
 exact ⟨.bl k,H,I,rfl,q⟩
theorem op_eq:OpR X (compareOp .Eq) rEq:=by
 intro pins s σ H x y v u Q I rx ry h
 obtain ⟨hs,q⟩:=h
 cases x with
 | non =>
  cases rx
  cases y with
  | non=>cases ry;exact PySem.EqNone.eq_none_none (fin_bl I q (by simp))
  | bl j=>cases ry;exact PySem.EqNone.eq_none_bool (fin_bl I q (by simp))
  | int j=>obtain ⟨t',rfl⟩:=ry;exact PySem.EqNone.eq_none_int (fin_bl I q (by simp))
  | str j=>obtain ⟨t',rfl⟩:=ry;exact PySem.EqNone.eq_none_str (fin_bl I q (by simp))
  | _=>exact absurd (show false=true from hs) Bool.false_ne_true
 | bl i =>
  cases rx
  cases y with
  | non=>cases ry;exact PySem.EqNone.eq_bool_none (fin_bl I q (by simp))
  | bl j=>cases ry;exact eq_bool (fin_bl I q dec_bl)
  | str j=>obtain ⟨t',rfl⟩:=ry;exact PySem.EqMixed.eq_bool_str (fin_bl I q (by simp))
  | _=>exact absurd (show false=true from hs) Bool.false_ne_true
 | int i =>
  obtain ⟨t,rfl⟩:=rx
  cases y with
  | non=>cases ry;exact PySem.EqNone.eq_int_none (fin_bl I q (by simp))
  | int j=>obtain ⟨t',rfl⟩:=ry;exact eq_int (fin_bl I q dec_int)
  | str j=>obtain ⟨t',rfl⟩:=ry;exact PySem.EqMixed.eq_int_str (fin_bl I q (by simp))
  | _=>exact absurd (show false=true from hs) Bool.false_ne_true
 | str i =>
  obtain ⟨t,rfl⟩:=rx
  cases y with
  | non=>cases ry;exact PySem.EqNone.eq_str_none (fin_bl I q (by simp))
  | bl j=>cases ry;exact PySem.EqMixed.eq_str_bool (fin_bl I q (by simp))
  | int j=>obtain ⟨t',rfl⟩:=ry;exact PySem.EqMixed.eq_str_int (fin_bl I q (by simp))
  | str j=>obtain ⟨t',rfl⟩:=ry;exact eq_str (fin_bl I q dec_str)
  | _=>exact absurd (show false=true from hs) Bool.false_ne_true
 | byt i =>
  obtain ⟨t,rfl⟩:=rx
  cases y with
  | byt j=>obtain ⟨t',rfl⟩:=ry;exact PySem.W.eq_bytes (fin_bl I q dec_byt)
  | _=>exact absurd (show false=true from hs) Bool.false_ne_true
 | _=>cases y<;>exact absurd (show false=true from hs) Bool.false_ne_true
theorem op_ne:OpR X (compareOp .NotEq) rNe:=by
 intro pins s σ H x y v u Q I rx ry h
 obtain ⟨hs,q⟩:=h
 cases x with
 | non =>
  cases rx
  cases y with
  | non=>cases ry;exact PySem.EqNone.ne_none_none (fin_bl I q (by simp))
  | bl j=>cases ry;exact PySem.EqNone.ne_none_bool (fin_bl I q (by simp))
  | int j=>obtain ⟨t',rfl⟩:=ry;exact PySem.EqNone.ne_none_int (fin_bl I q (by simp))
  | str j=>obtain ⟨t',rfl⟩:=ry;exact PySem.EqNone.ne_none_str (fin_bl I q (by simp))
  | _=>exact absurd (show false=true from hs) Bool.false_ne_true
 | bl i =>
  cases rx
  cases y with
  | non=>cases ry;exact PySem.EqNone.ne_bool_none (fin_bl I q (by simp))
  | bl j=>cases ry;exact ne_bool (fin_bl I q (congrArg not dec_bl))
  | str j=>obtain ⟨t',rfl⟩:=ry;exact PySem.EqMixed.ne_bool_str (fin_bl I q (by simp))
  | _=>exact absurd (show false=true from hs) Bool.false_ne_true
 | int i =>
  obtain ⟨t,rfl⟩:=rx
  cases y with
  | non=>cases ry;exact PySem.EqNone.ne_int_none (fin_bl I q (by simp))
  | int j=>obtain ⟨t',rfl⟩:=ry;exact ne_int (fin_bl I q (congrArg not dec_int))
  | str j=>obtain ⟨t',rfl⟩:=ry;exact PySem.EqMixed.ne_int_str (fin_bl I q (by simp))
  | _=>exact absurd (show false=true from hs) Bool.false_ne_true
 | str i =>
  obtain ⟨t,rfl⟩:=rx
  cases y with
  | non=>cases ry;exact PySem.EqNone.ne_str_none (fin_bl I q (by simp))
  | bl j=>cases ry;exact PySem.EqMixed.ne_str_bool (fin_bl I q (by simp))
  | int j=>obtain ⟨t',rfl⟩:=ry;exact PySem.EqMixed.ne_str_int (fin_bl I q (by simp))
  | str j=>obtain ⟨t',rfl⟩:=ry;exact ne_str (fin_bl I q (congrArg not dec_str))
  | _=>exact absurd (show false=true from hs) Bool.false_ne_true
 | byt i =>
  obtain ⟨t,rfl⟩:=rx
  cases y with
  | byt j=>obtain ⟨t',rfl⟩:=ry;exact PySem.W.ne_bytes (fin_bl I q (congrArg not dec_byt))
  | _=>exact absurd (show false=true from hs) Bool.false_ne_true
 | _=>cases y<;>exact absurd (show false=true from hs) Bool.false_ne_true

theorem op_lt:OpR X (compareOp .Lt) (rI0 fun i j=>.bl (decide (i<j))):=opB0 fun _ _ _ _ _ _ _ q=>lt_int q
theorem op_gt:OpR X (compareOp .Gt) (rI0 fun i j=>.bl (decide (j<i))):=opB0 fun _ _ _ _ _ _ _ q=>gt_int q
theorem op_ge:OpR X (compareOp .GtE) (rI0 fun i j=>.bl (decide (j<=i))):=opB0 fun _ _ _ _ _ _ _ q=>ge_int q
theorem op_in_str:OpR X (compareOp .In) (fun x y H Q=>∃ i j,x=.str i/\y=.str j/\Q (.bl (!(Builtin.Str.occurrences j i 0 j.length 1).isEmpty)) H):=by
 intro pins s σ H x y v u Q I rx ry h
 obtain ⟨i,j,rfl,rfl,q⟩:=h
 obtain ⟨t,rfl⟩:=rx
 obtain ⟨t',rfl⟩:=ry
 exact in_str (fin_bl I q rfl)

theorem op_isN:OpR X (compareOp .Is) (fun x y H Q=>y=.non/\Q (.bl (decide (x=.non))) H):=by
 intro pins s σ H x y v u Q I rx ry h
 obtain ⟨rfl,q⟩:=h
 cases ry
 refine is_none_gen (fin_bl I q ?_)
 cases x<;>first
  | (cases rx;rfl)
  | (obtain ⟨t,rfl⟩:=rx;rfl)
theorem op_notN:OpR X (compareOp .IsNot) (fun x y H Q=>y=.non/\Q (.bl (!decide (x=.non))) H):=by
 intro pins s σ H x y v u Q I rx ry h
 obtain ⟨rfl,q⟩:=h
 cases ry
 refine isnot_none_gen (fin_bl I q ?_)
 cases x<;>first
  | (cases rx;rfl)
  | (obtain ⟨t,rfl⟩:=rx;rfl)

theorem OpR.or {f:Value->Value->Sem Value} {r r':R2} (h:OpR X f r) (h':OpR X f r'):OpR X f (fun x y H Q=>r x y H Q\/r' x y H Q):=by
 intro pins s σ H x y v u Q I rx ry q
 rcases q with q | q
 ·exact h pins s σ H x y v u Q I rx ry q
 ·exact h' pins s σ H x y v u Q I rx ry q

theorem nomark (b:Expr) {op:CmpOp} (h:op≠.In:=by decide) (h2:op≠.NotIn:=by decide):behindInMarks op b=false:=by
 have e1:(op == CmpOp.In)=false:=by cases op<;>first | rfl | exact absurd rfl h
 have e2:(op == CmpOp.NotIn)=false:=by cases op<;>first | rfl | exact absurd rfl h2
 cases b<;>simp [behindInMarks,e1,e2]
theorem pe_cmpR {op:CmpOp} {r:R2} (ho:OpR X (compareOp op) r) (ha:PE X a ta) (hb:PE X b tb) (hm:behindInMarks op b=false):PE X (.Compare a [op] [b] pos) (tOp r ta tb):=by
 intro pins s σ H Q I h
 exact wpAny_Compare1 (binT ha hb I h fun v u s2 x y H2 I2 rx ry q=>ho pins s2 σ H2 x y v u Q I2 rx ry q) hm
def tTest (t:TE):TT:=fun σ H Q=>t σ H fun x H'=>∃ k,x=.bl k/\Q k H'
theorem pt_cmpR {op:CmpOp} {r:R2} (ho:OpR X (compareOp op) r) (ha:PE X a ta) (hb:PE X b tb) (hm:behindInMarks op b=false):PT X (.Compare a [op] [b] pos) (tTest (tOp r ta tb)):=by
 intro pins s σ H Q I h
 refine wpAny_isTrue_Compare1 (thn (ha pins s σ H _ I h) fun v s1 ⟨x,H1,I1,r1,q1⟩=>thn (hb pins s1 σ H1 _ I1 q1) fun u s2 ⟨y,H2,I2,r2,q2⟩ =>
  thn (ho pins s2 σ H2 x y v u _ I2 r1 r2 q2) fun c s3 ⟨z,H3,I3,r3,k,e,q3⟩=>?_) hm
 subst e
 cases r3
 exact wpAny_truthy_bool ⟨H3,I3,q3⟩
def TruV (K:PySem.W.Frag) (x:V) (H:Hp) (k:Bool):Prop :=
 match x with
 | .non=>k=false
 | .bl b=>k=b
 | .int i=>k=(i != 0)
 | .str y=>y.length<=sizeLine/\k=((y.length:Int) != 0)
 | .byt y=>y.size<=sizeLine/\k=((y.size:Int) != 0)
 | .ref p=>(∃ xs,SqL K H p xs/\k=!xs.isEmpty)\/(∃ xs,SqT K H p xs/\k=!xs.isEmpty)\/∃ kvs,H p=some (.dK kvs)/\k=!kvs.isEmpty
 | _=>False
theorem isEmpty_kv {κ:Type} {kvs:List (κ×V)} {vs:List (κ×Value)} (r:KV kvs vs):(!vs.isEmpty)=!kvs.isEmpty:=by
 cases r<;>rfl
theorem isEmpty_of {xs:List V} {its:List Value} (r:Vals xs its):(!its.toArray.isEmpty)=!xs.isEmpty:=by
 cases r<;>simp
theorem line63:(sizeLine:Nat)<2 ^ 63:=by rw [sizeLine_eq];decide
theorem tru_ok:TruR X (fun x H Q=>∃ k,TruV X.K x H k/\Q k H):=by
 intro pins s σ H x v Q I rx h
 obtain ⟨k,e,q⟩:=h
 have hl:=line63
 have hs:sizeLine=16777216:=sizeLine_eq
 cases x with
 | non =>
  cases rx
  have e':k=false:=e
  subst e'
  exact truthy_none ⟨H,I,q⟩
 | bl b =>
  cases rx
  have e':k=b:=e
  subst e'
  exact wpAny_truthy_bool ⟨H,I,q⟩
 | int i =>
  obtain ⟨t,rfl⟩:=rx
  have e':k=(i != 0):=e
  subst e'
  exact PySem.P.truthy_int ⟨H,I,q⟩
 | str y =>
  obtain ⟨t,rfl⟩:=rx
  obtain ⟨hy,e'⟩:y.length<=sizeLine/\k=((y.length:Int) != 0):=e
  subst e'
  exact PySem.P.truthy_str (by omega) ⟨H,I.tok _,q⟩
 | byt y =>
  obtain ⟨t,rfl⟩:=rx
  obtain ⟨hy,e'⟩:y.size<=sizeLine/\k=((y.size:Int) != 0):=e
  subst e'
  exact PySem.W.truthy_bytes (by omega) ⟨H,I.tok _,q⟩
 | ref p =>
  cases rx
  have e':(∃ xs,SqL X.K H p xs/\k=!xs.isEmpty)\/(∃ xs,SqT X.K H p xs/\k=!xs.isEmpty)\/∃ kvs,H p=some (.dK kvs)/\k=!kvs.isEmpty:=e
  rcases e' with ⟨xs,hx,e'⟩ | ⟨xs,hx,e'⟩ | ⟨kvs,hx,e'⟩
  ·subst e'
   obtain ⟨its,r,pl,hz⟩:=I.list hx
   have hlen:=r.length
   exact wpAny_truthy_list pl.isList (by simp only [List.size_toArray];omega) ⟨H,I.tok _,by rw [isEmpty_of r];exact q⟩
  ·subst e'
   obtain ⟨its,r,pl,hz⟩:=I.tuple hx
   have hlen:=r.length
   exact truthy_tuple pl (by simp only [List.size_toArray];omega) ⟨H,I.tok _,by rw [isEmpty_of r];exact q⟩
  ·subst e'
   obtain ⟨hz,hS,vs,r,m⟩:kvs.length<=sizeLine/\(p == sysModules)=false/\∃ vs,KV kvs vs/\s.heap.DictOf (mixKind X.prog X.w) p vs:=I.hok p _ hx
   have hlen:kvs.length=vs.length:=Paired.length r
   exact wpAny_truthy_dict hS m (by omega) ⟨H,I.tok _,by rw [isEmpty_kv r];exact q⟩
 | _=>exact (show False from e).elim
theorem pt_truth (ha:PE X a ta) (he:∀ whole,isTrue a X.env whole=(do let v <- whole;standAt a.pos;holding [v] (truthy v))) :
  PT X a (fun σ H Q=>ta σ H fun x H'=>∃ k,TruV X.K x H' k/\Q k H'):=by
 intro pins s σ H Q I h
 exact isTrue_plain (thn (ha pins s σ H _ I h) fun v s1 ⟨x,H1,I1,r1,q1⟩=>tru_ok pins s1 σ H1 x v Q I1 r1 q1) (he _)

theorem op_add_str:OpR X (binaryOp .Add) (fun x y H Q=>∃ i j,x=.str i/\y=.str j/\i.length+j.length<=sizeLine/\Q (.str (i++j)) H):=by
 intro pins s σ H x y v u Q I rx ry h
 obtain ⟨i,j,rfl,rfl,hz,q⟩:=h
 obtain ⟨t,rfl⟩:=rx
 obtain ⟨t',rfl⟩:=ry
 exact add_str (fun t' tk=>⟨.str (i++j),H,I.tok _,⟨_,rfl⟩,q⟩) hz
theorem vals1 {x:V} {us:List Value} (r:Vals [x] us):∃ u,us=[u]/\RelV x u:=by
 cases r with
 | cons r1 r2=>cases r2;exact ⟨_,rfl,r1⟩
theorem vals2 {x y:V} {us:List Value} (r:Vals [x,y] us):∃ u w',us=[u,w']/\RelV x u/\RelV y w':=by
 cases r with
 | cons r1 r2 =>
  cases r2 with
  | cons r3 r4=>cases r4;exact ⟨_,_,rfl,r1,r3⟩
theorem call_min2 (hc:X.calm=true):CallR X (.builtin "min") (fun xs H Q=>∃ i j,xs=[.int i,.int j]/\Q (.int (if j<i then j else i)) H):=by
 intro pins s σ H xs us Q I r h
 obtain ⟨i,j,rfl,q⟩:=h
 obtain ⟨u,w',rfl,⟨t,rfl⟩,⟨t',rfl⟩⟩:=vals2 r
 refine min_two_ints (I.ok.hd hc) fun h' tk k=>⟨_,H,I.kept k,?_,q⟩
 by_cases hj:j<i
 ·rw [if_pos hj,if_pos hj];exact ⟨_,rfl⟩
 ·rw [if_neg hj,if_neg hj];exact ⟨_,rfl⟩
end

section
variable {prog:Program} {w:World} {A:Around} {E:Value->Shared->Prop} {s:Shared} {K:PySem.W.Frag} {x dx C f:Addr} {mA:Str->Option Value} {name:Str} {v:Value}

end

theorem RelO.some_of {v:V} {o:Option Value} (r:RelO (some v) o):∃ u,o=some u/\RelV v u:=by
 cases o with
 | none=>exact (show False from r).elim
 | some u=>exact ⟨u,rfl,r⟩
section
variable {P:Program} {w:World} {H H':Hp} {h h':Heap} {a C dx:Addr} {fs fs':List (Str×V)}
end

structure Cls (K:PySem.W.Frag) (C:Addr):Prop where
 pg:PySem.W.plainGet K C Str.empty=true
 hd:PySem.W.hasDictIn K C=true
 po:PySem.W.plainOver K C=true
 sa:PySem.W.findIn K (.ref C) "__setattr__"=some (some (.builtin "object.__setattr__"))
theorem Cls.get {K:PySem.W.Frag} {C:Addr} (c:Cls K C) (f:Str):PySem.W.plainGet K C f=true:=c.pg
section
variable {X:Cx} {pins:List (Addr×Obj)} {σ:St} {H:Hp} {s:Shared} {a C dx:Addr} {fs:List (Str×V)} {f:Str} {v:V} {A:Around} {E:Value->Shared->Prop}

end

section
variable {X:Cx} {o e value:Expr} {f:Str} {pos pos' tpos:Pos} {ta tv:TE}
end

section
variable {X:Cx} {pins:List (Addr×Obj)} {σ:St} {H:Hp} {s:Shared} {A:Around} {E:Value->Shared->Prop} {Q:Value->Shared->Prop} {c:Value} {b:Bool}
end
end L2

namespace L2
open PySem PySem.Spec PyProof.Rows

structure Room (k:Nat) (A:Around):Prop where
 hd:A.handled=none
 dp:A.depth+3*k+5<recursionLimit
 un:A.units+16*k+200<cLine
 gd:A.guards=some []
theorem Room.mono {j k:Nat} {A:Around} (r:Room k A) (h:j<=k):Room j A:=⟨r.hd,by have:=r.dp;omega,by have:=r.un;omega,r.gd⟩
theorem Room.deeper {k:Nat} {A:Around} (r:Room (k+1) A) (env:Env):Room k (A.deeper env) :=
 ⟨r.hd,by have:=r.dp;show A.depth+1+3*k+5<_;omega,by have:=r.un;show A.units+3+16*k+200<_;omega,r.gd⟩
theorem Room.in1 {k:Nat} {A:Around} (r:Room (k+1) A):Room k A.in1 :=
 ⟨r.hd,by have:=r.dp;show A.depth+3*k+5<_;omega,by have:=r.un;show A.units+1+16*k+200<_;omega,r.gd⟩
theorem Room.depth {k:Nat} {A:Around} (r:Room k A):A.depth<recursionLimit:=by have:=r.dp;omega
def tNil:TA:=fun _ H Q=>Q [] H
def tCons (ta:TE) (tr:TA):TA:=fun σ H Q=>ta σ H fun x H1=>tr σ H1 fun xs H2=>Q (x::xs) H2
section
variable {X:Cx} {e:Expr} {es:List Expr} {te:TE} {t:TA} {pos:Pos}
theorem pa_nil:PA X [] tNil:=fun _ _ _ _ H Q I h=>Calls.spliced_nil ⟨[],H,I,.nil,h⟩
theorem pa_cons (ha:PE X e te) (hr:PA X es t) (hs:starEach (e::es) X.env=(false,eval e X.env)::starEach es X.env:=by rfl):PA X (e::es) (tCons te t):=by
 intro pos pins s σ H Q I h
 rw [hs]
 show wpAny _ _ (spliced ((false,eval e X.env)::backTo pos (starEach es X.env))) _ _ s
 refine Calls.spliced_cons (thn (ha pins s σ H _ I h) fun u s1 ⟨x,H1,I1,r1,q1⟩=>?_)
 exact thn (hr pos pins s1 σ H1 _ I1 q1) fun us s2 ⟨xs,H2,I2,r2,q2⟩=>⟨x::xs,H2,I2,.cons r1 r2,q2⟩

def tTup (t:TA):TE:=fun σ H Q=>t σ H fun xs H1=>xs.length<=sizeLine/\∀ p,H1 p=none->Q (.ref p) (upd H1 p (.tup xs))
def tLst (t:TA):TE:=fun σ H Q=>t σ H fun xs H1=>xs.length<=sizeLine/\∀ p,H1 p=none->Q (.ref p) (upd H1 p (.lst xs))
theorem pe_tup {x1} (h:PA X es t):PE X (.Tuple es x1 pos) (tTup t):=by
 intro pins s σ H Q I hq
 refine wpAny_Tuple_spliced (thn (h pos pins s σ H _ I hq) fun us s1 ⟨xs,H1,I1,r,z,q⟩=>⟨by rw [<- r.length];exact z,?_⟩)
 have hf:H1 s1.heap.objs.size=none:=I1.hok.fresh (Nat.le_refl _)
 refine ⟨.ref s1.heap.objs.size,upd H1 s1.heap.objs.size (.tup xs),I1.laid (t':=s1.toks) (fun b u e=>Heap.get?_push_of_some _ e) (Nat.le_refl _) ?_,rfl,q _ hf⟩
 exact ⟨z,us,r,⟨_,Heap.get?_push_size _ rfl,rfl,_,rfl,rfl⟩⟩
theorem pe_lst (h:PA X es t):PE X (.List es pos) (tLst t):=by
 intro pins s σ H Q I hq
 refine wpAny_List_spliced (thn (h pos pins s σ H _ I hq) fun us s1 ⟨xs,H1,I1,r,z,q⟩=>⟨by rw [<- r.length];exact z,?_⟩)
 have hf:H1 s1.heap.objs.size=none:=I1.hok.fresh (Nat.le_refl _)
 refine ⟨.ref s1.heap.objs.size,upd H1 s1.heap.objs.size (.lst xs),I1.laid (t':=s1.toks) (fun b u e=>Heap.get?_push_of_some _ e) (Nat.le_refl _) ?_,rfl,q _ hf⟩
 exact ⟨z,us,0,r,Heap.get?_push_size _ rfl⟩
end

abbrev Sp:=List V->Hp->VK->XK->Prop
abbrev CXT:=List Env->Hp->Shared->XK->Value->Shared->Prop

structure Env0 (P:Program) (w:World) (K:PySem.W.Frag) (mg:Str->Option Value) (base:Heap) (A:Around) (outer:List Env) (s:Shared) (H:Hp):Prop where
 frames:A.frames=some outer
 mod:Mod K mg base
 bs:∀ b o,base.get? b=some o->s.heap.get? b=some o/\H b=none
 bsz:base.objs.size<=s.heap.objs.size
 funs:s.heap.FunFrames base outer
 frf:∀ b∈frs outer,H b=none
 hok:HOk P w H s.heap
 bare:AllBare s.gens
 tab:Tb H
def CE (outer:List Env) (P:Program) (w:World) (H:Hp) (s:Shared) (Q:VK) (u:Value) (s':Shared):Prop :=
 ∃ v H',s'.os=s.os/\AllBare s'.gens/\Un (frs outer) [] H H' s.heap s'.heap/\HOk P w H' s'.heap/\RelV v u/\Q v H'
def CR (CX:CXT) (outer:List Env) (P:Program) (w:World) (H:Hp) (s:Shared) (Q:VK) (E:XK) (r:Result) (s':Shared):Prop :=
 match r with
 | .ok (.ret u)=>CE outer P w H s Q u s'
 | .ok _=>False
 | .error e=>CX outer H s E e s'
structure FnOk (P:Program) (w:World) (K:PySem.W.Frag) (mg:Str->Option Value) (base:Heap) (CX:CXT) (k:Nat) (f:Addr) (fd:FuncData) (ps:List Str) (sp:Sp):Prop where
 len:∀ vs H Q E,sp vs H Q E->vs.length=ps.length
 run:∀ (A:Around) (outer:List Env) (s:Shared) (H:Hp) (args:Args) (us:List Value) (vs:List V) (Q:VK) (E:XK),Room k A->Env0 P w K mg base A outer s H->BindsTo s fd args (ps.zip us)->Vals vs us->sp vs H Q E ->
  codeAny (model P w) A (.call (.ref f) args) (CR CX outer P w H s Q E) s
theorem FnOk.mono {P:Program} {w:World} {K:PySem.W.Frag} {mg:Str->Option Value} {base:Heap} {CX:CXT} {j k:Nat} {f:Addr} {fd:FuncData} {ps:List Str} {sp:Sp} (F:FnOk P w K mg base CX j f fd ps sp) (h:j<=k) :
  FnOk P w K mg base CX k f fd ps sp:=⟨F.len,fun A outer s H args us vs Q E hr=>F.run A outer s H args us vs Q E (hr.mono h)⟩
theorem FnOk.imp {P:Program} {w:World} {K:PySem.W.Frag} {mg:Str->Option Value} {base:Heap} {CX:CXT} {k:Nat} {f:Addr} {fd:FuncData} {ps:List Str} {sp sp':Sp} (F:FnOk P w K mg base CX k f fd ps sp)
  (h:∀ vs H Q E,sp' vs H Q E->sp vs H Q E):FnOk P w K mg base CX k f fd ps sp' :=
 ⟨fun vs H Q E q=>F.len vs H Q E (h _ _ _ _ q),fun A outer s H args us vs Q E hr he hb hv hs=>F.run A outer s H args us vs Q E hr he hb hv (h _ _ _ _ hs)⟩

theorem Env0.in1 {P:Program} {w:World} {K:PySem.W.Frag} {mg:Str->Option Value} {base:Heap} {A:Around} {outer:List Env} {s:Shared} {H:Hp} (e:Env0 P w K mg base A outer s H) :
  Env0 P w K mg base A.in1 outer s H:=⟨e.frames,e.mod,e.bs,e.bsz,e.funs,e.frf,e.hok,e.bare,e.tab⟩

section
variable {X:Cx} {pins:List (Addr×Obj)} {σ:St} {H:Hp} {s s':Shared}
theorem Inv.env0 (I:Inv X pins σ H s):Env0 X.prog X.w X.K X.mg X.base X.A X.stack s H :=
 ⟨I.ok.frames,I.ok.mod,I.bs,Nat.le_trans I.ok.bsz I.sz,I.stack,I.stkFree,I.hok,I.bare,fun P e=>let ⟨ps,h⟩:=I.ok.tab P e;let ⟨m,h'⟩:=I.base.tbls P ps h;⟨_,h'⟩⟩
theorem Inv.after {Q:VK} {u:Value} (I:Inv X pins σ H s) (h:CE X.stack X.prog X.w H s Q u s'):EP X pins σ Q u s':=by
 obtain ⟨v,H',os,bare,un,hok,r,q⟩:=h
 obtain ⟨hh,g,d,t,os'⟩:=s'
 obtain rfl:os'=s.os:=os
 exact ⟨v,H',I.call (h':=hh) (g':=g) (d':=d) (t':=t) (ch:=[]) un hok bare (fun b z=>absurd z (by simp)),r,q⟩
end

def tCall (sp:Sp) (dvs:List V) (E:XK) (t:TA):TE:=fun σ H Q=>t σ H fun vs H1=>sp (vs++dvs) H1 Q E
def Binds (K:PySem.W.Frag) (fd:FuncData) (ps:List Str) (ds:List Value):Prop :=
 ∀ (s:Shared) (us:List Value),K.In s.heap->(us++ds).length=ps.length->BindsTo s fd ⟨us,[]⟩ (ps.zip (us++ds))
theorem Binds.all {K:PySem.W.Frag} {fd:FuncData} {ps:List Str} (h:∀ us:List Value,us.length=ps.length->bindArgs fd ⟨us,[]⟩=pure (ps.zip us)):Binds K fd ps []:=fun s us _ hl=>by
 rw [List.append_nil] at hl |-
 exact .of_eq (h us hl)

def Passes (CX:CXT) (X:Cx) (E:XK):Prop:=∀ (pins:List (Addr×Obj)) (σ:St) (H:Hp) (s:Shared) (e:Value) (s':Shared),Inv X pins σ H s->CX X.stack H s E e s'->X.xe e s'

section
variable {X:Cx} {CX:CXT} {k:Nat} {f C:Addr} {fd:FuncData} {ps:List Str} {sp:Sp} {dvs:List V} {ds:List Value} {E:XK} {x m:Str} {p pos apos:Pos} {e o:Expr} {es:List Expr} {ta:TE} {t:TA}

theorem run_fn {pins:List (Addr×Obj)} {σ:St} {H:Hp} {s:Shared} {Q:VK} {us:List Value} {vs:List V} (F:FnOk X.prog X.w X.K X.mg X.base CX k f fd ps sp) (hr:Room k X.A) (hb:Binds X.K fd ps ds) (hd:Vals dvs ds) (hx:Passes CX X E)
  (I:Inv X pins σ H s) (r:Vals vs us) (h:sp (vs++dvs) H Q E):wpAny (model X.prog X.w) X.A (call (.ref f) us) (EP X pins σ Q) X.xe s:=by
 have r2:Vals (vs++dvs) (us++ds):=r.append hd
 have hl:(us++ds).length=ps.length:=by rw [<- r2.length];exact F.len _ _ _ _ h
 refine wpAny_call (codeAny_mono (F.run X.A X.stack s H ⟨us,[]⟩ (us++ds) (vs++dvs) Q E hr I.env0 (hb s us I.kIn hl) r2 h) fun r s' hq=>?_)
 cases r with
 | error e=>exact hx pins σ H s e s' I hq
 | ok fl =>
  cases fl with
  | ret u=>exact I.after hq
  | next=>exact False.elim hq
  | brk=>exact False.elim hq
  | cont=>exact False.elim hq

theorem pe_call (F:FnOk X.prog X.w X.K X.mg X.base CX k f fd ps sp) (hr:Room k X.A) (hg:Gl X x) (hm:X.mg x=some (.ref f)) (hk:PySem.W.keepIn X.K (.ref f)=true) (hb:Binds X.K fd ps ds) (hd:Vals dvs ds) (hx:Passes CX X E)
  (ha:PA X (e::es) t) (hdb:(x == ("__debug__":Str))=false:=by decide) (he:starEach (e::es) X.env=(false,eval e X.env)::starEach es X.env:=by rfl) (hpl:(backTo pos (starEach es X.env)).any (·.1)=false:=by rfl) :
  PE X (.Call (.Name x p) (e::es) [] pos) (tCall sp dvs E t):=by
 intro pins s σ H Q I h
 refine wpAny_Call_Name_kw (ld_glob I hg hm ?_ hdb)
 refine PySem.W.callWith_K (h₀:=X.base) I.ok.mod.kin hk (thn (ha pos pins s σ H _ I h) fun us s1 ⟨vs,H1,I1,r,q⟩=>⟨I1.kIn,?_⟩) he hpl
 exact run_fn F hr hb hd hx I1 r q
end

section
variable {X:Cx} {CX:CXT} {k:Nat} {f C:Addr} {fd:FuncData} {ps ks:List Str} {sp:Sp} {E:XK} {x m:Str} {p pos apos kpos:Pos} {e o:Expr} {es:List Expr} {kws:List Keyword} {te ta:TE} {t tk:TA} {nm:Option Str}
variable {g:List Value->List Value->List Value} {gV:List V->List V->List V}
end

structure FnScope (N P:List Str) (sc:Scope):Prop where
 kind:sc.kind=.function
 co:sc.isCoroutine=false
 gen:sc.isGenerator=false
 nd:N.Nodup
 pre:N.take P.length=P
 par:∀ x∈P,sc.names.lookup x=some .local\/sc.names.lookup x=some .cell
 nofree:∀ y∈sc.names,y.2≠.free

theorem bindL_out {kindOf:Str->Option NameKind} {x:Str}:∀ {binds:List (Str×Value)} {m:Str->Option Value},(∀ v,(x,v)∉binds)->bindL kindOf binds m x=m x
 | [],_,_=>rfl
 | (n,v)::r,m,h=>by
  unfold bindL
  rw [bindL_out fun w hw=>h w (List.mem_cons_of_mem _ hw)]
  split
  ·have:x≠n:=by rintro rfl;exact h v List.mem_cons_self
   simp [this]
  ·rfl
theorem bindC_out {kindOf:Str->Option NameKind} {x:Str}:∀ {binds:List (Str×Value)} {m:Str->Option Value},(∀ v,(x,v)∉binds)->bindC kindOf binds m x=m x
 | [],_,_=>rfl
 | (n,v)::r,m,h=>by
  unfold bindC
  rw [bindC_out fun w hw=>h w (List.mem_cons_of_mem _ hw)]
  split
  ·rfl
  ·have:x≠n:=by rintro rfl;exact h v List.mem_cons_self
   simp [this]
theorem bindL_get {kindOf:Str->Option NameKind} {x:Str} {v:Value}:∀ {P:List Str} {vs:List Value} {i:Nat} {m:Str->Option Value},P.Nodup->P[i]?=some x->vs[i]?=some v->kindOf x=some .local ->
  bindL kindOf (P.zip vs) m x=some v
 | [],_,_,_,_,h,_,_=>by simp at h
 | _::_,[],_,_,_,_,h,_=>by simp at h
 | p::P,w::vs,0,m,nd,h1,h2,hk=>by
  simp at h1 h2;subst h1;subst h2
  show bindL kindOf ((p,w)::P.zip vs) m p=_
  unfold bindL
  rw [bindL_out fun v hv=>(List.nodup_cons.mp nd).1 (List.of_mem_zip hv).1,if_pos hk]
  simp
 | p::P,w::vs,i+1,m,nd,h1,h2,hk=>by
  show bindL kindOf ((p,w)::P.zip vs) m x=_
  unfold bindL
  exact bindL_get (i:=i) (List.nodup_cons.mp nd).2 (by simpa using h1) (by simpa using h2) hk
theorem bindC_get {kindOf:Str->Option NameKind} {x:Str} {v:Value}:∀ {P:List Str} {vs:List Value} {i:Nat} {m:Str->Option Value},P.Nodup->P[i]?=some x->vs[i]?=some v->kindOf x≠some .local ->
  bindC kindOf (P.zip vs) m x=some v
 | [],_,_,_,_,h,_,_=>by simp at h
 | _::_,[],_,_,_,_,h,_=>by simp at h
 | p::P,w::vs,0,m,nd,h1,h2,hk=>by
  simp at h1 h2;subst h1;subst h2
  show bindC kindOf ((p,w)::P.zip vs) m p=_
  unfold bindC
  rw [bindC_out fun v hv=>(List.nodup_cons.mp nd).1 (List.of_mem_zip hv).1,if_neg hk]
  simp
 | p::P,w::vs,i+1,m,nd,h1,h2,hk=>by
  show bindC kindOf ((p,w)::P.zip vs) m x=_
  unfold bindC
  exact bindC_get (i:=i) (List.nodup_cons.mp nd).2 (by simpa using h1) (by simpa using h2) hk

def start (N:List Str) (vs:List V):St:=vs.map some++List.replicate (N.length-vs.length) none

def cxOf (CX:CXT) (P:Program) (w:World) (K:PySem.W.Frag) (mg:Str->Option Value) (base:Heap) (N:List Str) (qual:Str) (scope:Scope) (f:Addr) (cd:Value) (A:Around) (outer:List Env) (s:Shared) (H:Hp) (E:XK):Cx where
 prog:=P
 w:=w
 K:=K
 mg:=mg
 base:=base
 A:=A.deeper (envOfC qual scope s.heap.objs.size f cd)
 N:=N
 s₀:=s
 H₀:=H
 env:=envOfC qual scope s.heap.objs.size f cd
 outer:=outer
 stack:=envOfC qual scope s.heap.objs.size f cd::outer
 ex:=[]
 calm:=true
 fn:=fun _=>true
 pn:=[]
 xe:=fun e s'=>wpAny (model P w) (A.deeper (envOfC qual scope s.heap.objs.size f cd)) (leaving (envOfC qual scope s.heap.objs.size f cd) e) (fun _ s''=>CX outer H s E e s'') (fun e' s''=>CX outer H s E e' s'') s'

theorem cell_has {sc:Scope} {n:Nat} {x:Str} (h:sc.names.lookup x=some .cell):∃ c,(cellsFrom n sc.names []).lookup x=some c:=by
 have q:=PySem.W.cellsFrom_some sc.names n [] (.inl h)
 exact Option.isSome_iff_exists.mp q

theorem inv_start {CX:CXT} {P:Program} {w:World} {K:PySem.W.Frag} {mg:Str->Option Value} {base:Heap} {N ps:List Str} {qual:Str} {scope:Scope} {f:Addr} {cd:Value} {A:Around} {outer:List Env} {s s1:Shared} {H:Hp} {E:XK} {us:List Value} {vs:List V}
  (S:FnScope N ps scope) (hd:A.handled=none) (e0:Env0 P w K mg base A outer s H) (hl:vs.length=ps.length) (r:Vals vs us)
  (x:InCallC s s.heap.objs.size (bindL (envOfC qual scope s.heap.objs.size f cd).kindOf (ps.zip us) fun _=>none) (cellsFrom (s.heap.objs.size+1) scope.names []) (bindC (envOfC qual scope s.heap.objs.size f cd).kindOf (ps.zip us) fun _=>none) s1) :
  Inv (cxOf CX P w K mg base N qual scope f cd A outer s H E) [] (start N vs) H s1:=by
 have hpl:ps.length<=N.length:=by have:=congrArg List.length S.pre;rw [List.length_take] at this;omega
 obtain ⟨h1,tk,rfl,hk⟩:=x.done
 have noA:∀ b:Addr,b∉(cxOf CX P w K mg base N qual scope f cd A outer s H E).ex:=fun b z=>absurd (show b∈([]:List Addr) from z) (by simp)
 refine ⟨⟨e0.mod,S.kind,rfl,rfl,Nat.le_refl _,fun y z c h1 h2=>?_,fun y hy=>?_,fun y c _ h=>?_,fun _=>hd,Around.frames_deeper e0.frames,.inr ⟨rfl,rfl⟩,fun b z=>absurd z (noA b),e0.bs,e0.bsz,fun b _ _=>noA b,fun b z=>absurd z (noA b),e0.funs,e0.frf,e0.tab⟩,
  rfl,e0.bare,Un.kept hk,⟨_,x.toInCall.ns,fun i y v h1 h2 h3=>?_⟩,fun y c h=>⟨_,x.cell y c h⟩,e0.hok.fresh (Nat.le_refl _),fun y c h=>?_,fun p hp=>absurd (show p∈([]:List (Addr×Obj)) from hp) (by simp),e0.hok.kept hk,?_⟩
 ·exact name_of_addr x.apart (PySem.mem_of_lookup h1) (PySem.mem_of_lookup h2)
 ·have hy:scope.names.lookup y=some .cell\/scope.names.lookup y=some .free:=hy
  rcases hy with hy | hy
  ·exact cell_has hy
  ·exact absurd rfl (S.nofree _ (PySem.mem_of_lookup hy))
 ·exact Nat.le_of_lt (x.above y c (PySem.mem_of_lookup h))
 ·have hi:i<vs.length:=by
   unfold start at h2
   by_cases hi:i<vs.length
   ·exact hi
   ·rw [List.getElem?_append_right (by simpa using hi)] at h2
    rw [List.getElem?_replicate] at h2
    split at h2<;>cases h2
  have ha:vs[i]?=some v:=by
   unfold start at h2
   rw [List.getElem?_append_left (by simpa using hi),List.getElem?_map] at h2
   cases e:vs[i]? with
   | none=>rw [e] at h2;cases h2
   | some a=>rw [e] at h2;cases h2;rfl
  obtain ⟨u,hu,rv⟩:=r.get ha
  have hp:ps[i]?=some y:=by
   rw [<- S.pre,List.getElem?_take_of_lt (by omega)];exact h1
  have ndP:ps.Nodup:=by rw [<- S.pre];exact S.nd.sublist (List.take_sublist _ _)
  refine ⟨u,rv,?_⟩
  rcases S.par y (List.mem_of_getElem? hp) with k | k
  ·exact .inl ⟨k,bindL_get ndP hp hu k⟩
  ·obtain ⟨c,e⟩:=cell_has (n:=s.heap.objs.size+1) k
   refine .inr ⟨.inl k,c,e,?_⟩
   have q:=x.cell y c e
   rw [bindC_get ndP hp hu (by show scope.names.lookup y≠_;rw [k];decide)] at q
   exact q
 ·exact e0.hok.fresh (Nat.le_of_lt (x.above y c (PySem.mem_of_lookup h)))
 ·unfold start
  show _=N.length
  rw [List.length_append,List.length_map,List.length_replicate]
  omega

theorem fn_of {CX:CXT} {P:Program} {w:World} {K:PySem.W.Frag} {mg:Str->Option Value} {base:Heap} {k:Nat} {f:Addr} {name qual:Str} {params:Arguments} {body:List Stmt} {scope:Scope} {dV kV doc pm cdv ct oc:Value} {an od:Option Addr}
  {osl:Array (Option Value)} {N ps:List Str} {sp:Sp} (lk:K.lookup f=some ⟨oc,od,.func (PySem.W.fnOf name qual params body scope dV kV doc pm an cdv ct),osl⟩) (hcd:PySem.W.codeIn K cdv qual=true) (S:FnScope N ps scope)
  (len:∀ vs H Q E,sp vs H Q E->vs.length=ps.length)
  (hbody:∀ (A:Around) (outer:List Env) (s:Shared) (H:Hp) (vs:List V) (Q:VK) (E:XK),Room k (A.deeper (envOfC qual scope s.heap.objs.size f cdv))->sp vs H Q E ->
   ∃ t,PSs (cxOf CX P w K mg base N qual scope f cdv A outer s H E) body t/\t { nx:=fun _ H'=>Q .non H',rt:=Q } (start N vs) H) :
  FnOk P w K mg base CX (k+1) f (PySem.W.fnOf name qual params body scope dV kV doc pm an cdv ct) ps sp:=by
 refine ⟨len,fun A outer s H args us vs Q E hr e0 hb r hsp=>?_⟩
 have hl:=len _ _ _ _ hsp
 have KX:K.In s.heap:=e0.mod.kin.keeps fun b o e=>(e0.bs b o e).1
 have lim:s.heap.NoLimit:=e0.mod.nolimit.keeps fun b o e=>(e0.bs b o e).1
 have hkind:∀ y∈ps.zip us,scope.names.lookup y.1=some .local\/(scope.names.lookup y.1=some .cell/\((cellsFrom (s.heap.objs.size+1) scope.names []).lookup y.1).isSome=true):=fun ⟨n,v⟩ hy=>by
  rcases S.par n (List.of_mem_zip hy).1 with q | q
  ·exact .inl q
  ·exact .inr ⟨q,PySem.W.cellsFrom_some _ _ _ (.inl q)⟩
 refine codeAny_call_function hr.depth (KX _ _ lk) rfl S.co S.gen rfl (PySem.W.codeRec_of KX hcd) (hb _ _ _ _ ?_)
 refine wpAny_newFunctionEnv_cells S.kind hkind fun env he s1 x=>?_
 subst he
 refine ⟨lim.keeps x.toInCall.keep,codeAny_func ?_⟩
 obtain ⟨t,ht,hq⟩:=hbody A outer s H vs Q E (hr.deeper _) hsp
 have I:Inv (cxOf CX P w K mg base N qual scope f cdv A outer s H E) [] (start N vs) H s1:=inv_start S hr.hd e0 hl r x
 refine wpAny_mono (ht [] s1 (start N vs) H _ I hq) (fun fl s' hs=>?_) fun e s' hs=>hs
 have fin:∀ {σ':St} {H':Hp} {v:V} {u:Value},Inv (cxOf CX P w K mg base N qual scope f cdv A outer s H E) [] σ' H' s'->RelV v u->Q v H'->CE outer P w H s Q u s' :=
  fun {σ' H' v u} J rv q=>⟨v,H',J.os,J.bare,J.base,J.hok,rv,q⟩
 cases fl with
 | ret u =>
  obtain ⟨v,σ',H',J,rv,q⟩:=hs
  exact fin J rv q
 | next =>
  obtain ⟨σ',H',J,q⟩:=hs
  exact fin (v:=V.non) (u:=Value.none) J rfl q
 | brk =>
  obtain ⟨_,_,_,q⟩:=hs
  exact False.elim q
 | cont =>
  obtain ⟨_,_,_,q⟩:=hs
  exact False.elim q
section
variable {X:Cx} {x:Str} {p pos:Pos} {e:Expr} {es:List Expr} {t:TA} {id T:String} {r:List V->Hp->VK->Prop}

def tCB (r:List V->Hp->VK->Prop) (t:TA):TE:=fun σ H Q=>t σ H fun vs H1=>r vs H1 Q
theorem pe_callB (hc:CallR X (.builtin id) r) (hg:Gl X x) (hm:X.mg x=none) (hv:bootBuiltins x=some (.builtin id)) (ha:PA X (e::es) t) (hn:x≠"__name__":=by decide) (hdb:(x == ("__debug__":Str))=false:=by decide)
  (he:starEach (e::es) X.env=(false,eval e X.env)::starEach es X.env:=by rfl) (hpl:(backTo pos (starEach es X.env)).any (·.1)=false:=by rfl):PE X (.Call (.Name x p) (e::es) [] pos) (tCB r t):=by
 intro pins s σ H Q I h
 refine wpAny_Call_Name_kw (ld_blt I hg hm hv ?_ hn hdb)
 exact PyProof.Rows.callWith_builtin1 (thn (ha pos pins s σ H _ I h) fun us s1 ⟨vs,H1,I1,r1,q1⟩=>hc pins s1 σ H1 vs us Q I1 r1 q1) he hpl
theorem pe_callTy (hc:CallR X (.type T) r) (hg:Gl X x) (hm:X.mg x=none) (hv:bootBuiltins x=some (.type T)) (ha:PA X (e::es) t) (hn:x≠"__name__":=by decide) (hdb:(x == ("__debug__":Str))=false:=by decide)
  (he:starEach (e::es) X.env=(false,eval e X.env)::starEach es X.env:=by rfl) (hpl:(backTo pos (starEach es X.env)).any (·.1)=false:=by rfl):PE X (.Call (.Name x p) (e::es) [] pos) (tCB r t):=by
 intro pins s σ H Q I h
 refine wpAny_Call_Name_kw (ld_blt I hg hm hv ?_ hn hdb)
 exact PyProof.Rows.callWith_type1 (thn (ha pos pins s σ H _ I h) fun us s1 ⟨vs,H1,I1,r1,q1⟩=>hc pins s1 σ H1 vs us Q I1 r1 q1) he hpl
end
end L2

namespace HT
open PySem PyProof.Rows

section
open PySem.SeqAt
open PySem.AutoSeq1 (wpAny_loadPart')
open PySem.MeetsSeq PySem.MeetsSeq2 PySem.MeetsSeq3

end

section
variable {prog:Program} {w:World} {A:Around} {E:Value->Shared->Prop} {s:Shared}

theorem cat_tup {t b:Addr} {vs ws:List Value} {Q:Value->Shared->Prop} (ht:IsTup s.heap t vs.toArray) (hb:IsTup s.heap b ws.toArray) (hv:vs≠[])
  (h1:ws=[]->Q (.ref t) s) (h2:ws≠[]->Q (.ref s.heap.objs.size) { s with heap:=s.heap.push { cls:=.type "tuple",data:=.seq (vs++ws).toArray } })
  (hsz:vs.length+ws.length<=sizeLine):wpAny (model prog w) A (binaryOp .Add (.ref t) (.ref b)) Q E s:=by
 obtain ⟨⟨cls,dd,data,sl⟩,ho,hc,n,hd⟩:=id ht
 obtain ⟨⟨cls2,dd2,data2,sl2⟩,ho2,hc2,n2,hd2⟩:=id hb
 simp only at hc hd hc2 hd2
 subst hc hd hc2 hd2
 have e:vs.toArray++ws.toArray=(vs++ws).toArray:=by simp
 by_cases hw:ws=[]
 ·exact concat_meets ⟨_,ho,rfl⟩ ⟨_,ho2,rfl⟩ noFill_tuple_add seq_tuple_add PySem.F.slot_tuple_add PySem.F.entry_tuple_add (PySem.F.args_tuple_add_2 _ _)
   (tuple_addW1 t b vs.toArray ws.toArray n n2 dd dd2 sl sl2 (by simpa using hv) (by simp [hw])) ⟨ho,ho2,h1 hw⟩
 ·refine concat_meets ⟨_,ho,rfl⟩ ⟨_,ho2,rfl⟩ noFill_tuple_add seq_tuple_add PySem.F.slot_tuple_add PySem.F.entry_tuple_add (PySem.F.args_tuple_add_2 _ _)
   (tuple_addW2 t b vs.toArray ws.toArray n n2 dd dd2 sl sl2 (by simpa using hv) (by simpa using hw) (by rw [List.size_toArray,List.size_toArray];exact hsz)) ⟨ho,ho2,?_⟩
  rw [e]
  exact h2 hw

def sIx (n d:Nat):Option Int->Nat
 | none=>d
 | some v=>if v<0 then (v+(n:Int)).toNat else min v.toNat n
theorem sIx_none (n d:Nat):sIx n d none=d:=rfl
theorem sIx_nat (n d k:Nat):sIx n d (some (k:Int))=min k n:=by
 show (if (k:Int)<0 then ((k:Int)+(n:Int)).toNat else min (k:Int).toNat n)=min k n
 rw [if_neg (by omega),Int.toNat_natCast]
theorem sIx_le (n d:Nat) (hd:d<=n) (o:Option Int):sIx n d o<=n:=by
 cases o with
 | none=>exact hd
 | some v =>
  show (if v<0 then (v+(n:Int)).toNat else min v.toNat n)<=n
  by_cases hv:v<0
  ·rw [if_pos hv];omega
  ·rw [if_neg hv];exact Nat.min_le_right _ _
theorem clip_eq (v:Int) (n d:Nat):(if v<0 then max (v+(n:Int)) 0 else min v (n:Int))=((sIx n d (some v):Nat):Int):=by
 show (if v<0 then max (v+(n:Int)) 0 else min v (n:Int))=(((if v<0 then (v+(n:Int)).toNat else min v.toNat n):Nat):Int)
 by_cases hv:v<0
 ·simp only [if_pos hv];omega
 ·simp only [if_neg hv];omega
theorem adjust_gen (lo hi:Option Int) (n:Nat):Builtin.Slice.sliceAdjust lo hi 1 (n:Int)=(((sIx n 0 lo:Nat):Int),((sIx n n hi:Nat):Int)):=by
 have h1:¬ ((1:Int)<0):=by omega
 unfold Builtin.Slice.sliceAdjust
 simp only [h1,if_false]
 refine Prod.ext ?_ ?_
 ·cases lo with
  | none=>rfl
  | some v=>exact clip_eq v n 0
 ·cases hi with
  | none=>rfl
  | some v=>exact clip_eq v n n
theorem places_gen (i j:Nat):Builtin.Slice.slicePlaces (i:Int) (j:Int) 1=j-i:=by
 unfold Builtin.Slice.slicePlaces
 have h1:(1:Int) > 0:=by omega
 simp only [h1,if_true,Int.ediv_one]
 split<;>omega
theorem slicePart_ {v:Value} {o:Option Int} {Q:Option Int->Shared->Prop} (p:IsPart v o) (h:Q o s):wpAny (model prog w) A (Builtin.Slice.slicePartIndex v) Q E s:=by
 cases p with
 | none=>exact slicePart_none h
 | int i t=>exact slicePart_int h
theorem sliceApplied_gen {sl:Addr} {vl vu:Value} {lo hi:Option Int} {n:Nat} {Q:Int×Int×Nat->Shared->Prop} (hs:s.heap.IsSliceOf sl vl vu .none) (pl:IsPart vl lo) (pu:IsPart vu hi)
  (h:Q (((sIx n 0 lo:Nat):Int),1,sIx n n hi-sIx n 0 lo) s):wpAny (model prog w) A (Builtin.Slice.sliceApplied (.ref sl) (pure (n:Int))) Q E s:=by
 obtain ⟨os,hos,hcs,hds⟩:=id hs
 unfold Builtin.Slice.sliceApplied Builtin.Slice.sliceFields
 refine wpAny_bind (wpAny_bind (wpAny_field hos hds (x:=vl) rfl (wpAny_bind (wpAny_field hos hds (x:=vu) rfl (wpAny_bind (wpAny_field hos hds (x:=.none) rfl (wpAny_pure ?_)))))))
 refine wpAny_bind (slicePart_none ?_)
 show wpAny _ _ (if ((1:Int) == 0)=true then _ else _) _ _ s
 rw [if_neg (by decide)]
 refine wpAny_bind (slicePart_ pl (wpAny_bind (slicePart_ pu (wpAny_bind (wpAny_pure ?_)))))
 show wpAny _ _ (match Builtin.Slice.sliceAdjust lo hi 1 (n:Int) with | (lo,hi)=>pure (lo,(1:Int),Builtin.Slice.slicePlaces lo hi 1)) _ _ s
 rw [adjust_gen lo hi n]
 show wpAny _ _ (pure (((sIx n 0 lo:Nat):Int),(1:Int),Builtin.Slice.slicePlaces ((sIx n 0 lo:Nat):Int) ((sIx n n hi:Nat):Int) 1)) _ _ s
 rw [places_gen]
 exact wpAny_pure h
theorem pick_gen (xs:Array Value) (i k:Nat):((List.range k).filterMap fun (m:Nat)=>xs[((i:Int)+(m:Int)*1).toNat]?).toArray=((xs.toList.drop i).take k).toArray:=by
 have e:(fun (m:Nat)=>xs[((i:Int)+(m:Int)*1).toNat]?)=fun m=>xs[i+m]?:=by
  funext m
  have:((i:Int)+(m:Int)*1).toNat=i+m:=by omega
  rw [this]
 rw [e]
 have:=pick_run xs i k
 rw [List.filterMap_map] at this
 have e2:((fun x=>xs[x]?) ∘ fun x=>i+x)=fun m=>xs[i+m]?:=rfl
 rw [e2] at this
 rw [this]

theorem getItem_tuple_cut {t sl:Addr} {items:Array Value} {vl vu:Value} {lo hi:Option Int} {Q:Value->Shared->Prop} (ht:IsTup s.heap t items) (hs:s.heap.IsSliceOf sl vl vu .none) (pl:IsPart vl lo) (pu:IsPart vu hi)
  (hw:¬ (sIx items.size 0 lo=0/\sIx items.size items.size hi=items.size))
  (h:Q (.ref s.heap.objs.size) { s with heap:=s.heap.push { cls:=.type "tuple",data:=.seq ((items.toList.drop (sIx items.size 0 lo)).take (sIx items.size items.size hi-sIx items.size 0 lo)).toArray } })
  (hsz:items.size<=sizeLine):wpAny (model prog w) A (getItem (.ref t) (.ref sl)) Q E s:=by
 have htake:sizeOk (.seq ((items.toList.drop (sIx items.size 0 lo)).take (sIx items.size items.size hi-sIx items.size 0 lo)).toArray):=by
  show ((items.toList.drop (sIx items.size 0 lo)).take (sIx items.size items.size hi-sIx items.size 0 lo)).toArray.size<=sizeLine
  rw [List.size_toArray,List.length_take,List.length_drop,Array.length_toList]
  omega
 have hj:sIx items.size items.size hi<=items.size:=sIx_le _ _ (Nat.le_refl _) hi
 obtain ⟨os,hos,hcs,hds⟩:=id hs
 have hTs:s.TypeIs (.ref sl) "slice":=⟨os,hos,hcs⟩
 unfold getItem
 try with_reducible refine wpAny_holding ?_
 first | refine wpAny_bind (wpAny_pure ?_) | skip
 refine wpAny_bind (wpAny_sequenceKey ht.typeIs (by decide) ?_)
 refine wpAny_bind (wpAny_callSpecial?_slot (name:=Str.ofString "__getitem__") ht.typeIs PyProof.Rows.slot_tuple_getitem
  (wpAny_call_entry PyProof.Rows.slot_tuple_getitem ht.typeIs entry_tuple_getitem ?_ (args_tuple_getitem _ _)))
 show wpAny _ _ (Builtin.Tuple.tupleItemsOf (.ref t) >>= _) _ _ s
 refine wpAny_bind (tupleItemsOf_ ht ?_)
 refine wpAny_bind (wpAny_typeOf hTs ?_)
 rw [if_pos (by decide)]
 refine wpAny_bind (sliceApplied_gen hs pl pu ?_)
 have hno:¬ ((((sIx items.size 0 lo:Nat):Int) == 0 && (1:Int) == 1 && (sIx items.size items.size hi-sIx items.size 0 lo) == items.size)=true):=by
  intro q
  rw [Bool.and_eq_true,Bool.and_eq_true] at q
  have q1:((sIx items.size 0 lo:Nat):Int)=0:=eq_of_beq q.1.1
  have q2:sIx items.size items.size hi-sIx items.size 0 lo=items.size:=eq_of_beq q.2
  exact hw ⟨by omega,by omega⟩
 show wpAny _ _ (if (((sIx items.size 0 lo:Nat):Int) == 0 && (1:Int) == 1 && (sIx items.size items.size hi-sIx items.size 0 lo) == items.size)=true then _ else _) _ _ s
 rw [if_neg hno,pick_gen]
 first
  | exact wpAny_bind (m:=Builtin.Tuple.tupleExact _) (wpAny_newObj_type (wpAny_pure ⟨_,rfl,wpAny_pure h⟩) htake)
  | exact wpAny_bind (m:=Builtin.Tuple.tupleExact _) (wpAny_newObj_type (wpAny_bind (wpAny_pure (wpAny_pure ⟨_,rfl,wpAny_pure h⟩))) htake)
  | exact wpAny_bind (wpAny_bind (m:=Builtin.Tuple.tupleExact _) (wpAny_newObj_type (wpAny_pure (wpAny_pure ⟨_,rfl,wpAny_pure h⟩)) htake))
  | exact wpAny_bind (wpAny_bind (m:=Builtin.Tuple.tupleExact _) (wpAny_newObj_type (wpAny_pure ⟨_,rfl,wpAny_pure h⟩) htake))
end
end HT

namespace L2
open PySem PySem.Spec PyProof.Rows

abbrev TO:=St->Hp->(Option Int->Hp->Prop)->Prop
def PO (X:Cx) (e:Option Expr) (t:TO):Prop :=
 ∀ (pins:List (Addr×Obj)) (s:Shared) (σ:St) (H:Hp) (Q:Option Int->Hp->Prop),Inv X pins σ H s->t σ H Q ->
  wpAny (model X.prog X.w) X.A (evalPart e X.env) (fun u s'=>∃ o H',Inv X pins σ H' s'/\IsPart u o/\Q o H') X.xe s
def tNoPart:TO:=fun _ H Q=>Q none H
def tPart (t:TE):TO:=fun σ H Q=>t σ H fun x H1=>∃ i,x=.int i/\Q (some i) H1

section
variable {X:Cx} {e:Expr} {te:TE} {lo hi:Option Expr} {tl th:TO} {pos p2:Pos}

theorem po_none:PO X none tNoPart:=by
 intro pins s σ H Q I h
 rw [evalPart_none]
 exact wpAny_pure ⟨none,H,I,.none,h⟩
theorem po_some (h:PE X e te):PO X (some e) (tPart te):=by
 intro pins s σ H Q I hw
 rw [evalPart_some]
 refine thn (h pins s σ H _ I hw) fun u s1 ⟨x,H1,I1,r1,q1⟩=>?_
 obtain ⟨i,rfl,q⟩:=q1
 obtain ⟨t,rfl⟩:=r1
 exact ⟨some i,H1,I1,.int i t,q⟩

def SlR (X:Cx) (r:V->Option Int->Option Int->Hp->VK->Prop):Prop :=
 ∀ (pins:List (Addr×Obj)) (s:Shared) (σ:St) (H:Hp) (x:V) (v vl vu:Value) (lo hi:Option Int) (sl:Addr) (Q:VK),Inv X pins σ H s->RelV x v->s.heap.IsSliceOf sl vl vu .none->IsPart vl lo->IsPart vu hi->r x lo hi H Q ->
  ∃ T id,typeLookup (.type T) "__getitem__"=pure (some (.builtin id))/\s.TypeIs v T/\wpAny (model X.prog X.w) X.A (getItem v (.ref sl)) (EP X pins σ Q) X.xe s
theorem SlR.or {r r':V->Option Int->Option Int->Hp->VK->Prop} (h:SlR X r) (h':SlR X r'):SlR X (fun x lo hi H Q=>r x lo hi H Q\/r' x lo hi H Q):=by
 intro pins s σ H x v vl vu lo hi sl Q I rx hs pl pu q
 rcases q with q | q
 ·exact h pins s σ H x v vl vu lo hi sl Q I rx hs pl pu q
 ·exact h' pins s σ H x v vl vu lo hi sl Q I rx hs pl pu q
def tSl (r:V->Option Int->Option Int->Hp->VK->Prop) (te:TE) (tl th:TO):TE:=fun σ H Q=>te σ H fun x H1=>tl σ H1 fun l H2=>th σ H2 fun u H3=>r x l u H3 Q
theorem pe_slice {r:V->Option Int->Option Int->Hp->VK->Prop} (hr:SlR X r) (he:PE X e te) (hl:PO X lo tl) (hu:PO X hi th):PE X (.Subscript e (.Slice lo hi none p2) pos) (tSl r te tl th):=by
 intro pins s σ H Q I h
 refine Subscript_ (thn (he pins s σ H _ I h) fun v s1 ⟨x,H1,I1,r1,q1⟩=>?_)
 refine wpAny_Slice (thn (hl pins s1 σ H1 _ I1 q1) fun vl s2 ⟨l,H2,I2,pl,q2⟩=>thn (hu pins s2 σ H2 _ I2 q2) fun vu s3 ⟨u,H3,I3,pu,q3⟩=>?_)
 rw [evalPart_none]
 refine wpAny_pure ?_
 have I4:Inv X pins σ H3 { s3 with heap:=s3.heap.push { cls:=.type "slice",data:=.fields #[vl,vu,.none] } }:=I3.kept (t':=s3.toks) fun b ob q=>Heap.get?_push_of_some _ q
 obtain ⟨T,id,hT,ht,hg⟩:=hr pins { s3 with heap:=s3.heap.push { cls:=.type "slice",data:=.fields #[vl,vu,.none] } } σ H3 x v vl vu l u s3.heap.objs.size Q I4 r1 (Heap.IsSliceOf.new ..) pl pu q3
 show wpAny (model X.prog X.w) X.A (subscriptTail e (.Slice lo hi none p2) v (.ref s3.heap.objs.size)) (EP X pins σ Q) X.xe { s3 with heap:=s3.heap.push { cls:=.type "slice",data:=.fields #[vl,vu,.none] } }
 exact tail_any (ops:=[.ref s3.heap.objs.size,v]) ht hT hg (by with_unfolding_all rfl)

def cutV (xs:List V) (lo hi:Option Int):List V:=(xs.drop (HT.sIx xs.length 0 lo)).take (HT.sIx xs.length xs.length hi-HT.sIx xs.length 0 lo)
theorem cutV_length (xs:List V) (lo hi:Option Int):(cutV xs lo hi).length<=xs.length:=by
 unfold cutV
 rw [List.length_take,List.length_drop]
 omega
def rSlT (K:PySem.W.Frag):V->Option Int->Option Int->Hp->VK->Prop:=fun x lo hi H Q=>∃ a xs,x=.ref a/\SqT K H a xs /\
 ¬ (HT.sIx xs.length 0 lo=0/\HT.sIx xs.length xs.length hi=xs.length)/\∀ p,H p=none->Q (.ref p) (upd H p (.tup (cutV xs lo hi)))
theorem sl_tup:SlR X (rSlT X.K):=by
 intro pins s σ H x v vl vu lo hi sl Q I rx hs pl pu h
 obtain ⟨a,xs,rfl,hx,hw,q⟩:=h
 cases rx
 obtain ⟨its,r,ht,hz⟩:=I.tuple hx
 have hlen:its.toArray.size=xs.length:=by rw [List.size_toArray];exact r.length.symm
 refine ⟨"tuple",_,PyProof.Rows.slot_tuple_getitem.lookup,ht.typeIs,?_⟩
 refine HT.getItem_tuple_cut ht hs pl pu (by rw [hlen];exact hw) ?_ (by rw [hlen];exact hz)
 rw [hlen]
 refine ⟨.ref s.heap.objs.size,_,I.laid (t':=s.toks) (o:=.tup (cutV xs lo hi)) (fun b ob q=>Heap.get?_push_of_some _ q) (Nat.le_refl _) ?_,rfl,q _ (I.hok.fresh (Nat.le_refl _))⟩
 exact ⟨Nat.le_trans (cutV_length xs lo hi) hz,_,(r.drop (HT.sIx xs.length 0 lo)).take (HT.sIx xs.length xs.length hi-HT.sIx xs.length 0 lo),TupN.new _ _⟩

def rCatT (K:PySem.W.Frag):R2:=fun x y H Q=>∃ a b xs ys,x=.ref a/\y=.ref b/\SqT K H a xs/\SqT K H b ys/\xs≠[]/\xs.length+ys.length<=sizeLine /\
 (ys=[]->Q (.ref a) H)/\(ys≠[]->∀ p,H p=none->Q (.ref p) (upd H p (.tup (xs++ys))))
theorem Vals.nil_iff {xs:List V} {us:List Value} (r:Vals xs us):us=[]↔xs=[]:=by
 cases r with
 | nil=>simp
 | cons _ _=>simp
theorem op_catT:OpR X (binaryOp .Add) (rCatT X.K):=by
 intro pins s σ H x y v u Q I rx ry h
 obtain ⟨a,b,xs,ys,rfl,rfl,ha,hb,hx,hz,q1,q2⟩:=h
 cases rx
 cases ry
 obtain ⟨its,r1,p1,_⟩:=I.tuple ha
 obtain ⟨its2,r2,p2,_⟩:=I.tuple hb
 refine HT.cat_tup p1 p2 (fun z=>hx (r1.nil_iff.mp z)) (fun z=>⟨.ref a,H,I,rfl,q1 (r2.nil_iff.mp z)⟩) (fun z=>?_) (by rw [<- r1.length,<- r2.length];exact hz)
 refine ⟨.ref s.heap.objs.size,_,I.laid (t':=s.toks) (o:=.tup (xs++ys)) (fun b ob q=>Heap.get?_push_of_some _ q) (Nat.le_refl _) ?_,rfl,q2 (fun w=>z (r2.nil_iff.mpr w)) _ (I.hok.fresh (Nat.le_refl _))⟩
 exact ⟨by rw [List.length_append];exact hz,_,r1.append r2,TupN.new _ _⟩
end

def ixN (n:Nat) (i:Int):Option Nat:=if 0<=i then (if i<n then some i.toNat else none) else if -(n:Int)<=i then some (i+n).toNat else none
def atI {α:Type} (xs:List α) (i:Int):Option α:=(ixN xs.length i).bind fun j=>xs[j]?
theorem ixN_seq {n:Nat} {i:Int} {j:Nat} (h:ixN n i=some j):seqIndex? i n=some j/\j<n/\-(n:Int)<=i/\i<n:=by
 unfold ixN at h
 by_cases h0:0<=i
 ·rw [if_pos h0] at h
  by_cases h1:i<n
  ·rw [if_pos h1] at h
   have e:i.toNat=j:=Option.some.inj h
   exact ⟨by rw [seqIndex_of h0 h1,e],by omega,by omega,h1⟩
  ·rw [if_neg h1] at h;cases h
 ·rw [if_neg h0] at h
  by_cases h1:-(n:Int)<=i
  ·rw [if_pos h1] at h
   have e:(i+n).toNat=j:=Option.some.inj h
   exact ⟨by rw [seqIndex_neg (by omega) h1,e],by omega,h1,by omega⟩
  ·rw [if_neg h1] at h;cases h
theorem atI_get {α:Type} {xs:List α} {i:Int} {v:α} (h:atI xs i=some v):∃ j,seqIndex? i xs.length=some j/\xs[j]?=some v/\j<xs.length/\-(xs.length:Int)<=i/\i<xs.length:=by
 unfold atI at h
 cases e:ixN xs.length i with
 | none=>rw [e] at h;cases h
 | some j =>
  rw [e] at h
  obtain ⟨h1,h2,h3,h4⟩:=ixN_seq e
  exact ⟨j,h1,h,h2,h3,h4⟩
theorem atI_nat {α:Type} {xs:List α} {j:Nat} {v:α} (h:xs[j]?=some v):atI xs (j:Int)=some v:=by
 have hj:j<xs.length:=(List.getElem?_eq_some_iff.mp h).1
 have e:ixN xs.length (j:Int)=some j:=by
  unfold ixN
  rw [if_pos (by omega),if_pos (by omega)];simp
 unfold atI;rw [e];exact h
def PlainIx (b:Expr):Prop:=∀ o i,subscripted b false o i=operate [o,i] (getItem o i)
def IxR (X:Cx) (r:R2):Prop :=
 ∀ (value slice:Expr) (pins:List (Addr×Obj)) (s:Shared) (σ:St) (H:Hp) (x y:V) (v u:Value) (Q:VK),Inv X pins σ H s->RelV x v->RelV y u->r x y H Q ->
  subscripted slice false v u=operate [v,u] (getItem v u)->wpAny (model X.prog X.w) X.A (subscriptTail value slice v u) (EP X pins σ Q) X.xe s
def MtR (X:Cx) (id:String) (r:V->List V->Hp->VK->Prop):Prop :=
 ∀ (pins:List (Addr×Obj)) (s:Shared) (σ:St) (H:Hp) (x:V) (xs:List V) (v:Value) (us:List Value) (Q:VK),Inv X pins σ H s->RelV x v->Vals xs us->r x xs H Q ->
  wpAny (model X.prog X.w) X.A (call (.builtin id) (v::us)) (EP X pins σ Q) X.xe s
section
variable {X:Cx} {a b:Expr} {ta tb:TE} {pos:Pos}
theorem IxR.or {r r':R2} (h:IxR X r) (h':IxR X r'):IxR X (fun x y H Q=>r x y H Q\/r' x y H Q):=by
 intro value slice pins s σ H x y v u Q I rx ry q hs
 rcases q with q | q
 ·exact h value slice pins s σ H x y v u Q I rx ry q hs
 ·exact h' value slice pins s σ H x y v u Q I rx ry q hs
theorem MtR.or {id:String} {r r':V->List V->Hp->VK->Prop} (h:MtR X id r) (h':MtR X id r'):MtR X id (fun x xs H Q=>r x xs H Q\/r' x xs H Q):=by
 intro pins s σ H x xs v us Q I rx rs q
 rcases q with q | q
 ·exact h pins s σ H x xs v us Q I rx rs q
 ·exact h' pins s σ H x xs v us Q I rx rs q
theorem pe_ix {r:R2} (hr:IxR X r) (ha:PE X a ta) (hb:PE X b tb) (hs:PlainIx b):PE X (.Subscript a b pos) (tOp r ta tb):=by
 intro pins s σ H Q I h
 exact Subscript_ (binT ha hb I h fun v u s2 x y H2 I2 rx ry q=>hr a b pins s2 σ H2 x y v u Q I2 rx ry q (hs _ _))

def rIxL (K:PySem.W.Frag):R2:=fun x y H Q=>∃ p xs i v,x=.ref p/\y=.int i/\SqL K H p xs/\atI xs i=some v/\Q v H
def rIxT (K:PySem.W.Frag):R2:=fun x y H Q=>∃ p xs i v,x=.ref p/\y=.int i/\SqT K H p xs/\atI xs i=some v/\Q v H
def rIxS:R2:=fun x y H Q=>∃ z i c,x=.str z/\y=.int i/\z.length<=sizeLine/\atI z.cps.toList i=some c/\Q (.str ⟨#[c]⟩) H
theorem ix_list:IxR X (rIxL X.K):=by
 intro value slice pins s σ H x y v u Q I rx ry h hs
 obtain ⟨p,xs,i,z,rfl,rfl,hq,he,q⟩:=h
 cases rx
 obtain ⟨t,rfl⟩:=ry
 obtain ⟨its,r,pl,hz⟩:=I.list hq
 obtain ⟨j,h1,h2,h3,h4,h5⟩:=atI_get he
 obtain ⟨w,ew,rw'⟩:=r.get h2
 have hl:=r.length
 have hn:=line63
 have fin:EP X pins σ Q w s:=⟨z,H,I,rw',q⟩
 by_cases h0:0<=i
 ·have hj:i.toNat=j:=by
   rw [seqIndex_of h0 h5] at h1
   exact Option.some.inj h1
  exact item_listR pl.isList h0 (by omega) (by rw [hj];simpa using ew) fin hs
 ·have hj:(i+(its.toArray.size:Int)).toNat=j:=by
   rw [seqIndex_neg (by omega) h4] at h1
   rw [List.size_toArray,<- hl]
   exact Option.some.inj h1
  exact subscriptTail_builtinR (x:=w) pl.isList.typeIs slot_list_getitem.lookup
   (wpAny_getItem_list_neg (Q:=fun r s'=>r=w/\EP X pins σ Q r s') pl.isList (by omega) (by rw [List.size_toArray]<;>omega) (by omega) (by rw [hj];simpa using ew) ⟨rfl,fin⟩) hs
theorem ix_tup:IxR X (rIxT X.K):=by
 intro value slice pins s σ H x y v u Q I rx ry h hs
 obtain ⟨p,xs,i,z,rfl,rfl,hq,he,q⟩:=h
 cases rx
 obtain ⟨t,rfl⟩:=ry
 obtain ⟨its,r,pl,hz⟩:=I.tuple hq
 obtain ⟨j,h1,h2,h3,h4,h5⟩:=atI_get he
 obtain ⟨w,ew,rw'⟩:=r.get h2
 have hl:=r.length
 have hn:=line63
 have fin:EP X pins σ Q w s:=⟨z,H,I,rw',q⟩
 exact subscriptTail_builtinR (x:=w) pl.typeIs slot_tuple_getitem.lookup
  (getItem_tuple (j:=j) (Q:=fun r s'=>r=w/\EP X pins σ Q r s') pl (by omega) (by omega) (by rw [List.size_toArray,<- hl];exact h1) (by simpa using ew) ⟨rfl,fin⟩) hs
theorem ix_str:IxR X rIxS:=by
 intro value slice pins s σ H x y v u Q I rx ry h hs
 obtain ⟨z,i,c,rfl,rfl,hz,he,q⟩:=h
 obtain ⟨t,rfl⟩:=rx
 obtain ⟨t',rfl⟩:=ry
 obtain ⟨j,h1,h2,h3,h4,h5⟩:=atI_get he
 have hl:z.cps.toList.length=z.length:=by simp [Str.length]
 rw [hl] at h1 h4 h5
 have hn:=line63
 exact tail_any (typeIs_str s z t) slot_str_getitem.lookup (getItem_str (c:=c) (by
  have e1:decide (i < -(2 ^ 63:Int))=false:=decide_eq_false (by omega)
  have e2:decide (i >= 2 ^ 63)=false:=decide_eq_false (by omega)
  rw [e1,e2,Bool.or_false]) (by rw [h1];simpa using h2) ⟨.str ⟨#[c]⟩,H,I.tok _,⟨_,rfl⟩,q⟩) hs
def rIx (K:PySem.W.Frag):R2:=fun x y H Q=>rIxL K x y H Q\/rIxT K x y H Q\/rIxS x y H Q
theorem ix_seq:IxR X (rIx X.K):=ix_list.or (ix_tup.or ix_str)

theorem Inv.lst {pins:List (Addr×Obj)} {σ:St} {H:Hp} {s:Shared} {p:Addr} {xs:List V} (I:Inv X pins σ H s) (h:H p=some (.lst xs)) :
  ∃ (its:List Value) (n:Nat),Vals xs its/\s.heap.get? p=some { cls:=.type "list",data:=.seq its.toArray n }/\xs.length<=sizeLine:=by
 obtain ⟨z,its,n,r,e⟩:=I.hok p _ h
 exact ⟨its,n,r,e,z⟩
theorem slice_bounds (lo hi:Option Int) (n:Nat):(sliceBounds lo hi none n).1=((HT.sIx n 0 lo:Nat):Int)/\(sliceBounds lo hi none n).2.1=((HT.sIx n n hi:Nat):Int)/\(sliceBounds lo hi none n).2.2=1:=by
 refine ⟨?_,?_,rfl⟩
 ·cases lo with
  | none=>simp [sliceBounds,HT.sIx]
  | some i =>
   simp only [sliceBounds,HT.sIx,Option.getD_none,show (1:Int) > 0 by decide,if_true]
   by_cases h:i<0
   ·simp only [h,if_true]<;>omega
   ·simp only [h,if_false]<;>omega
 ·cases hi with
  | none=>simp [sliceBounds,HT.sIx]
  | some i =>
   simp only [sliceBounds,HT.sIx,Option.getD_none,show (1:Int) > 0 by decide,if_true]
   by_cases h:i<0
   ·simp only [h,if_true]<;>omega
   ·simp only [h,if_false]<;>omega
theorem slicePick_cut (its:List Value) (lo hi:Option Int):slicePick its.toArray lo hi none=((its.drop (HT.sIx its.length 0 lo)).take (HT.sIx its.length its.length hi-HT.sIx its.length 0 lo)).toArray:=by
 obtain ⟨h1,h2,h3⟩:=slice_bounds lo hi its.toArray.size
 unfold slicePick
 rw [h1,h2,h3]
 simp only [sliceRange_one,pick_run,List.size_toArray]<;>rfl
def rSlL (K:PySem.W.Frag):V->Option Int->Option Int->Hp->VK->Prop:=fun x lo hi H Q=>∃ a xs,x=.ref a/\SqL K H a xs/\∀ p,H p=none->Q (.ref p) (upd H p (.lst (cutV xs lo hi)))
theorem sl_list:SlR X (rSlL X.K):=by
 intro pins s σ H x v vl vu lo hi sl Q I rx hs pl pu h
 obtain ⟨a,xs,rfl,hx,q⟩:=h
 cases rx
 obtain ⟨its,r,ht,hz⟩:=I.list hx
 have hlen:=r.length
 refine ⟨"list",_,slot_list_getitem.lookup,ht.isList.typeIs,?_⟩
 refine wpAny_getItem_list_slice ht.isList hs pl pu .none (by simp) ?_ (by rw [List.size_toArray]<;>omega)
 rw [slicePick_cut,<- hlen]
 refine ⟨.ref s.heap.objs.size,_,I.laid (t':=s.toks) (o:=.lst (cutV xs lo hi)) (fun b ob q=>Heap.get?_push_of_some _ q) (Nat.le_refl _) ?_,rfl,q _ (I.hok.fresh (Nat.le_refl _))⟩
 exact ⟨Nat.le_trans (cutV_length xs lo hi) hz,_,0,(r.drop (HT.sIx xs.length 0 lo)).take (HT.sIx xs.length xs.length hi-HT.sIx xs.length 0 lo),Heap.get?_push_size _ rfl⟩

theorem call_len_seq:CallR X (.builtin "len") (fun xs H Q=>∃ p ys,xs=[.ref p]/\(SqL X.K H p ys\/SqT X.K H p ys)/\Q (.int ys.length) H):=by
 intro pins s σ H xs us Q I r h
 obtain ⟨p,ys,rfl,hq,q⟩:=h
 obtain ⟨u,rfl,rx⟩:=vals1 r
 cases rx
 have hn:=line63
 rcases hq with hq | hq
 ·obtain ⟨its,r',pl,hz⟩:=I.list hq
  have hlen:=r'.length
  exact Calls.call_len_list pl.isList (by simp only [List.size_toArray]<;>omega) ⟨.int ys.length,H,I.tok _,⟨s.toks+1,by rw [List.size_toArray,hlen]⟩,q⟩
 ·obtain ⟨its,r',pl,hz⟩:=I.tuple hq
  have hlen:=r'.length
  exact len_tuple pl (by simp only [List.size_toArray]<;>omega) ⟨.int ys.length,H,I.tok _,⟨s.toks+1,by rw [List.size_toArray,hlen]⟩,q⟩
theorem call_len_str:CallR X (.builtin "len") (fun xs H Q=>∃ z,xs=[.str z]/\z.length<=sizeLine/\Q (.int z.length) H):=by
 intro pins s σ H xs us Q I r h
 obtain ⟨z,rfl,hz,q⟩:=h
 obtain ⟨u,rfl,t,rfl⟩:=vals1 r
 have hn:=line63
 exact len_str (by omega) ⟨.int z.length,H,I.tok _,⟨_,rfl⟩,q⟩
theorem CallR.or {f:Value} {r r':List V->Hp->VK->Prop} (h:CallR X f r) (h':CallR X f r'):CallR X f (fun xs H Q=>r xs H Q\/r' xs H Q):=by
 intro pins s σ H xs us Q I rs q
 rcases q with q | q
 ·exact h pins s σ H xs us Q I rs q
 ·exact h' pins s σ H xs us Q I rs q
theorem call_list_of:CallR X (.type "list") (fun xs H Q=>∃ p ys,xs=[.ref p]/\(SqL X.K H p ys\/SqT X.K H p ys)/\∀ l,H l=none->Q (.ref l) (upd H l (.lst ys))):=by
 intro pins s σ H xs us Q I r h
 obtain ⟨p,ys,rfl,hq,q⟩:=h
 obtain ⟨u,rfl,rx⟩:=vals1 r
 cases rx
 have fin:∀ (its:List Value),Vals ys its->ys.length<=sizeLine->∀ (h':Heap) (c':Nat),(∀ b o',s.heap.get? b=some o'->h'.get? b=some o') ->
   h'.get? s.heap.objs.size=some { cls:=.type "list",dict:=none,data:=.seq its.toArray c',slots:=#[] }->EP X pins σ Q (.ref s.heap.objs.size) { s with heap:=h' }:=fun its r' hz h' c' kp e =>
  ⟨.ref s.heap.objs.size,_,I.laid (t':=s.toks) kp (Nat.le_refl _) (show ObjOk X.prog X.w _ h' _ (.lst ys) from ⟨hz,its,c',r',e⟩),rfl,q _ (I.hok.fresh (Nat.le_refl _))⟩
 rcases hq with hq | hq
 ·obtain ⟨its,r',pl,hz⟩:=I.list hq
  have hlen:=r'.length
  obtain ⟨o,ho,hc,n,hd⟩:=pl.isList
  exact call_list_seq p (.inl rfl) ho hc hd (fun h' c' kp e=>fin its r' hz h' c' kp e) (by simp only [List.size_toArray]<;>omega)
 ·obtain ⟨its,r',pl,hz⟩:=I.tuple hq
  have hlen:=r'.length
  obtain ⟨o,ho,hc,n,hd⟩:=pl
  exact call_list_seq p (.inr rfl) ho hc hd (fun h' c' kp e=>fin its r' hz h' c' kp e) (by simp only [List.size_toArray]<;>omega)
theorem call_tuple_of:CallR X (.type "tuple") (fun xs H Q=>∃ p ys,xs=[.ref p]/\((SqL X.K H p ys/\∀ l,H l=none->Q (.ref l) (upd H l (.tup ys)))\/(SqT X.K H p ys/\Q (.ref p) H))):=by
 intro pins s σ H xs us Q I r h
 obtain ⟨p,ys,rfl,h⟩:=h
 obtain ⟨u,rfl,rx⟩:=vals1 r
 cases rx
 rcases h with ⟨hq,q⟩ | ⟨hq,q⟩
 ·obtain ⟨its,r',pl,hz⟩:=I.list hq
  have hlen:=r'.length
  refine call_tuple_list pl.isList (fun h' kp=>?_) (by simp only [List.size_toArray]<;>omega)
  have I1:Inv X pins σ H { s with heap:=h' }:=I.kept (t':=s.toks) kp
  have I2:Inv X pins σ (upd H h'.objs.size (.tup ys)) { s with heap:=h'.push { cls:=.type "tuple",data:=.seq its.toArray } } :=
   I1.laid (t':=s.toks) (fun b o e=>Heap.get?_push_of_some _ e) (Nat.le_refl _) (show ObjOk X.prog X.w _ _ _ (.tup ys) from ⟨hz,its,r',TupN.new _ _⟩)
  exact ⟨.ref h'.objs.size,_,I2,rfl,q _ (I1.hok.fresh (Nat.le_refl _))⟩
 ·obtain ⟨its,r',pl,hz⟩:=I.tuple hq
  exact call_tuple_same pl ⟨.ref p,H,I,rfl,q⟩

def tyV (K:PySem.W.Frag) (T:String) (x:V) (H:Hp):Prop:=match x with
 | .str _=>T="str"
 | .int _=>T="int"
 | .ref p=>(T="list"/\∃ xs,SqL K H p xs)\/(T="tuple"/\((∃ o,K.lookup p=some o/\o.cls=.type "tuple"/\o.dict=none)\/∃ xs,SqT K H p xs)) \/
   (T="dict"/\((∃ kvs,H p=some (.dK kvs))\/∃ kvs,H p=some (.dT kvs)))\/(T="set"/\∃ S n,H p=some (.set S n))
 | _=>False
theorem tyV_is {pins:List (Addr×Obj)} {σ:St} {H:Hp} {s:Shared} {T:String} {x:V} {v:Value} (I:Inv X pins σ H s) (r:RelV x v) (ty:tyV X.K T x H) :
  s.TypeIs v T/\∀ a,v=.ref a->∃ ob,s.heap.get? a=some ob/\ob.dict=none:=by
 cases x with
 | str z =>
  obtain ⟨t,rfl⟩:=r
  cases (show T="str" from ty)
  exact ⟨typeIs_str s z t,fun _ e=>nomatch e⟩
 | int i =>
  obtain ⟨t,rfl⟩:=r
  cases (show T="int" from ty)
  exact ⟨typeIs_int s i t,fun _ e=>nomatch e⟩
 | ref p =>
  cases r
  rcases ty with ⟨rfl,xs,hq⟩ | ⟨rfl,⟨o,hk,hc,hd⟩ | ⟨xs,hq⟩⟩ | ⟨rfl,hk⟩ | ⟨rfl,S,n,hk⟩
  ·obtain ⟨its,_,pl,_⟩:=I.list hq
   refine ⟨pl.isList.typeIs,fun a e=>?_⟩
   cases e
   obtain ⟨o,n,e,c,hd,_⟩:=pl
   exact ⟨o,e,hd⟩
  ·refine ⟨⟨o,I.kIn p o hk,hc⟩,fun a e=>?_⟩
   cases e
   exact ⟨o,I.kIn _ o hk,hd⟩
  ·obtain ⟨o,e,hc,hd⟩:=I.tupleN hq
   refine ⟨⟨o,e,hc⟩,fun a e2=>?_⟩
   cases e2
   exact ⟨o,e,hd⟩
  ·have z:∃ o,s.heap.get? p=some o/\o.ExactDict:=by
    rcases hk with ⟨kvs,hk⟩ | ⟨kvs,hk⟩
    ·obtain ⟨_,_,_,_,o,_,_,e,ex,_⟩:=I.hok p _ hk
     exact ⟨o,e,ex⟩
    ·obtain ⟨_,_,_,_,o,_,_,e,ex,_⟩:=I.hok p _ hk
     exact ⟨o,e,ex⟩
   obtain ⟨o,e,ex⟩:=z
   refine ⟨⟨o,e,ex.1⟩,fun a e2=>?_⟩
   cases e2
   exact ⟨o,e,ex.2.1⟩
  ·obtain ⟨o,_,_,_,e,ex,_⟩:=I.hok p _ hk
   refine ⟨⟨o,e,ex.1⟩,fun a e2=>?_⟩
   cases e2
   exact ⟨o,e,ex.2.1⟩
 | _=>exact False.elim ty
def tBM (K:PySem.W.Frag) (T:String) (r:V->List V->Hp->VK->Prop) (to:TE) (t:TA):TE:=fun σ H Q=>to σ H fun x H1=>tyV K T x H1/\t σ H1 fun xs H2=>r x xs H2 Q
variable {o e:Expr} {es:List Expr} {to:TE} {t:TA} {name:Str} {apos cpos:Pos} {T id:String} {r:V->List V->Hp->VK->Prop}
theorem pe_bm (pa:PlainAttrs T) (slot:Slot T name id) (hty:typeOf (.builtin id)=pure (.type "method_descriptor")) (hm:MtR X id r) (ho:PE X o to) (ha:PA X (e::es) t)
  (hbase:attributeBase o name X.env (eval o X.env)=eval o X.env:=by rfl)
  (hfew:((backTo cpos (starEach (e::es) X.env)).all (fun x=>!x.1) && (backToKw cpos (keywordEach [] X.env)).all (fun x=>x.1.isSome)
   && decide ((e::es).length+([]:List Keyword).length+(if ([]:List Keyword).isEmpty then 0 else 1)<30))=true:=by rfl)
  (hline:(apos.endLine == cpos.line)=true:=by rfl) (hs:starEach (e::es) X.env=(false,eval e X.env)::starEach es X.env:=by rfl) (hplain:(backTo cpos (starEach es X.env)).any (·.1)=false:=by rfl) :
  PE X (.Call (.Attribute o name apos) (e::es) [] cpos) (tBM X.K T r to t):=by
 intro pins s σ H Q I h
 refine wpAny_Call_method_late hbase hfew hline rfl (thn (ho pins s σ H _ I h) fun v s1 ⟨x,H1,I1,r1,ty,q1⟩=>?_)
 obtain ⟨h1,h2⟩:=tyV_is I1 r1 ty
 refine ⟨T,id,pa,slot,hty,h1,h2,?_⟩
 have hA:=ha cpos pins s1 σ H1 _ I1 q1
 rw [hs] at hA |-
 refine Calls.callWith_builtin (by show (false || (backTo cpos (starEach es X.env)).any (·.1))=false;rw [hplain]<;>rfl) (Calls.evalArgs_plain ?_)
 exact thn hA fun us s2 ⟨vs,H2,I2,r2,q2⟩=>hm pins s2 σ H2 x vs v us Q I2 r1 r2 q2
end
end L2

namespace L2
open PySem PySem.Spec PyProof.Rows

def MtM (X:Cx) (id:String) (r:V->List V->Hp->VK->Prop):Prop :=
 ∀ (pins:List (Addr×Obj)) (s:Shared) (σ:St) (H:Hp) (x:V) (xs:List V) (v:Value) (us:List Value) (Q:VK),Inv X pins σ H s->RelV x v->Vals xs us->r x xs H Q ->
  wpAny (model X.prog X.w) X.A (call (.builtin id) (v::us)) (EP X pins σ Q) X.xe s

theorem Vals.one:∀ {x:V} {us:List Value},Vals [x] us->∃ u,us=[u]/\RelV x u
 | _,_,.cons r .nil=>⟨_,rfl,r⟩
theorem Vals.eraseIdx:∀ {xs:List V} {us:List Value} (i:Nat),Vals xs us->Vals (xs.eraseIdx i) (us.eraseIdx i)
 | _,_,_,.nil=>.nil
 | _,_,0,.cons _ t=>t
 | _,_,i+1,.cons r t=>.cons r (Vals.eraseIdx i t)
theorem Vals.rep {xs:List V} {us:List Value} (h:Vals xs us):∀ k:Nat,Vals (List.replicate k xs).flatten (List.replicate k us).flatten
 | 0=>.nil
 | k+1=>by
  rw [List.replicate_succ,List.replicate_succ,List.flatten_cons,List.flatten_cons]
  exact Vals.append h (Vals.rep h k)
theorem len_erase {α:Type}:∀ (l:List α) (i:Nat),(l.eraseIdx i).length<=l.length
 | [],_=>Nat.le_refl _
 | _::_,0=>Nat.le_succ _
 | _::r,i+1=>Nat.succ_le_succ (len_erase r i)
section
variable {X:Cx} {pins:List (Addr×Obj)} {σ:St} {H:Hp} {s:Shared} {l b:Addr} {xs ys zs:List V}

theorem Inv.lset {its its':List Value} {n:Nat} {f:Array Value->Array Value} {t':Nat} (I:Inv X pins σ H s) (hH:H l=some (.lst xs))
  (e:s.heap.get? l=some { cls:=.type "list",data:=.seq its.toArray n }) (hf:f its.toArray=its'.toArray) (hv:Vals ys its') (hz:ys.length<=sizeLine) :
  Inv X pins σ (upd H l (.lst ys)) { s with heap:=s.heap.update l (Obj.mapSeq f),toks:=t' }:=by
 have q:=PySem.IsL.update e f
 rw [hf] at q
 refine I.write (x:=l) (e:=l) (by rw [hH];exact trivial) (.inl rfl) (fun b' u hb hu=>(Heap.get?_update_other s.heap (Obj.mapSeq f) (Ne.symm hb)).trans hu) ⟨_,q⟩ ?_
 exact ⟨hz,its',_,hv,q⟩
theorem Inv.lnew {its:List Value} {t':Nat} (I:Inv X pins σ H s) (hv:Vals ys its) (hz:ys.length<=sizeLine) :
  Inv X pins σ (upd H s.heap.objs.size (.lst ys)) { s with heap:=s.heap.push { cls:=.type "list",data:=.seq its.toArray },toks:=t' } :=
 I.laid (fun _ _ q=>Heap.get?_push_of_some _ q) (Nat.le_refl _) ⟨hz,its,0,hv,Heap.get?_push_size _ rfl⟩
theorem Inv.fresh (I:Inv X pins σ H s):H s.heap.objs.size=none:=I.hok.fresh (Nat.le_refl _)
theorem Inv.lstM (I:Inv X pins σ H s) (hH:H l=some (.lst xs)):xs.length<=sizeLine/\∃ (its:List Value) (n:Nat),Vals xs its/\xs.length=its.length/\s.heap.get? l=some { cls:=.type "list",data:=.seq its.toArray n }:=by
 obtain ⟨z,its,n,r,e⟩:=I.hok l _ hH
 exact ⟨z,its,n,r,r.length,e⟩

theorem notLongL {n:Nat} (h:n<=sizeLine):Builtin.List.listTooLong n=false:=by
 unfold Builtin.List.listTooLong
 exact decide_eq_false (by omega)
end

section
variable {X:Cx}

def rAppend:V->List V->Hp->VK->Prop:=fun x vs H Q=>∃ l xs y,x=.ref l/\vs=[y]/\H l=some (.lst xs)/\xs.length<sizeLine/\Q .non (upd H l (.lst (xs++[y])))
theorem mt_append:MtM X "list.append" rAppend:=by
 intro pins s σ H x vs v us Q I rx rv h
 obtain ⟨l,xs,y,rfl,rfl,hH,hz,q⟩:=h
 cases rx
 obtain ⟨u,rfl,ru⟩:=rv.one
 obtain ⟨z,its,n,r,hl,e⟩:=I.lstM hH
 refine call_meets F.slot_list_append ⟨_,e,rfl⟩ F.entry_list_append (F.args_list_append_2 _ _) (PySem.list_append l its.toArray n u (by rw [List.size_toArray];omega)) ⟨e,?_⟩
 refine ⟨.non,_,I.lset (its':=its++[u]) hH e (by simp) (r.append (.cons ru .nil)) ?_,rfl,q⟩
 rw [List.length_append,List.length_singleton]
 omega

def rPopAt:V->List V->Hp->VK->Prop:=fun x vs H Q=>∃ l xs i k y,x=.ref l/\vs=[.int i]/\H l=some (.lst xs)/\-(2 ^ 63)<=i/\i<2 ^ 63/\seqIndex? i xs.length=some k/\xs[k]?=some y/\Q y (upd H l (.lst (xs.eraseIdx k)))
theorem mt_popAt:MtM X "list.pop" rPopAt:=by
 intro pins s σ H x vs v us Q I rx rv h
 obtain ⟨l,xs,i,k,y,rfl,rfl,hH,h1,h2,hk,hy,q⟩:=h
 cases rx
 obtain ⟨u,rfl,ru⟩:=rv.one
 obtain ⟨t,rfl⟩:=ru
 obtain ⟨z,its,n,r,hl,e⟩:=I.lstM hH
 obtain ⟨w,hw,rw'⟩:=r.get hy
 refine call_meets F.slot_list_pop ⟨_,e,rfl⟩ F.entry_list_pop (F.args_list_pop_2 _ _)
  (MeetsSeq.list_pop_at l its.toArray n i t k w (fitsIndex_both h1 h2) (by rw [List.size_toArray,<- hl];exact hk) (by rw [<- Array.getElem?_toList];exact hw) (by rw [List.size_toArray];omega)) ⟨e,?_⟩
 refine ⟨y,_,I.lset (its':=its.eraseIdx k) hH e ?_ (r.eraseIdx k) ?_,rw',q⟩
 ·show its.toArray.eraseIdxIfInBounds k=(its.eraseIdx k).toArray
  rw [List.eraseIdxIfInBounds_toArray]
 ·have:=len_erase xs k
  omega

end

section
variable {prog:Program} {w:World} {A:Around} {E:Value->Shared->Prop} {s:Shared}
end

section
variable {X:Cx}
end
end L2

namespace Att
open PySem PySem.W PySem.Calls PyProof.Rows

theorem ints_of_wellAll {P:Params} {h:Heap}:∀ (ns:List Int) (vs:List Value),WellAll P h vs (ns.map WData.int)->IntsAre vs ns:=by
 intro ns
 induction ns with
 | nil =>
  intro vs w
  rw [List.map_nil] at w
  cases w
  exact .nil
 | cons n ns ih =>
  intro vs w
  rw [List.map_cons] at w
  cases w with
  | cons a b =>
   cases a
   exact .cons _ _ (ih _ b)

theorem script_of {l:OpenLaw} {n:Nat} (hn:l.most=some n) {P:Params} {h:Heap} {args:List WData} {vals:List Value}
  (hpre:l.row.toRowW.claim.pre args=true) (hwl:WellAll P h vals args) :
  ∃ a vs ns,vals=[Value.ref a]/\args=[WData.list (ns.map WData.int)]/\h.get? a=some { cls:=.type "list",data:=.seq vs.toArray }/\IntsAre vs ns/\ns.length<=n:=by
 have hsh:WShape.hasAll [] args [.list .int]=true:=(pre_splitW hpre).1
 have hc:l.pre.holds [] { args:=args }=true:=(pre_splitW hpre).2
 obtain ⟨d,r,rfl,h1,h2⟩:=hasAllW_cons hsh
 obtain rfl:=hasAllW_nil h2
 obtain ⟨xs,rfl,h3⟩:=hasW_list h1
 obtain ⟨ns,rfl⟩:=items_int h3
 have hlen:ns.length<=n:=by
  unfold OpenLaw.pre at hc
  have h4:(WTm.not (.lt (.lit (.int (n:Int))) (.len (.arg 0)))).holds [] { args:=[.list (ns.map .int)] }=true:=by
   have h4:=(holds_andW hc).1
   rw [hn] at h4
   exact h4
  have h5:=condW_of h4 (w_not (w_lt w_lit (w_len_list (w_arg rfl))))
  rw [List.length_map] at h5
  refine Nat.le_of_not_lt fun q=>?_
  have q':(n:Int)<((ns.length:Nat):Int):=by omega
  first
   | (rw [decide_eq_true q'] at h5;exact absurd h5 (by decide))
   | (simp at h5;omega)
 cases hwl with
 | cons w1 w2 =>
  cases w2
  cases w1 with
  | list ho hall=>exact ⟨_,_,ns,rfl,rfl,ho,ints_of_wellAll ns _ hall,hlen⟩

theorem post_true (l:OpenLaw) (args:List WData):l.row.toRowW.claim.post args (.bool true) args=true :=
 postW_of (r:=l.row.toRowW) (X:=(true == true))
  (show WShape.has [] (.bool true) .bool=true by first | rfl | decide | simp [WShape.has,WShape.arms,WShape.armsAll])
  (show (WTm.eq .res (.lit (.bool true))).value [] { args:=args,res:=some (.bool true),after:=args }=some (.bool (true == true)) from w_eq_bool (w_res rfl) w_lit) rfl

theorem attach_call {l:OpenLaw} {n:Nat} {q:Program} {loose:List Str} {XP:(Str->Option Value)->Heap->Prop} {YP:World->Heap->Prop} {d:DefRec}
  (hn:l.most=some n) (hdf:d.params.defaults=[])
  (call:∀ (w:World) (s₀ s₁:Shared) (mg mb:Str->Option Value) (fa:Addr) (o:Obj) (pm cd doc:Value) (a:Addr) (vs:List Value) (ns:List Int),
   Ground q loose [] XP w s₀ mg mb s₁.heap->YP w s₁.heap ->
   s₁.heap.get? fa=some o->o.data=.func (docDef d.name d.params d.body d.scope pm cd doc)->s₁.heap.CodeRec cd d.name->mg d.name=some (.ref fa) ->
   s₁.heap.get? a=some { cls:=.type "list",data:=.seq vs.toArray }->IntsAre vs ns->ns.length<=n->s₁.gens=#[] ->
   codeAny (model l.prog w) callerA (.call (.ref fa) ⟨[.ref a],[]⟩) (fun r s'=>r=.ok (.ret (.bool true))/\OldK s₁.heap s'.heap/\s'.os=s₁.os/\AllBare s'.gens) s₁) :
  WalkO q loose XP YP l.row.toRowW d [] (fun f vs=>PySem.call f vs):=by
 intro w s₀ s₁ mg mb G Y fa o pm cd doc dV kV ho hd hcd hD hmg hg args vals as hpre hlay hrd hwl hlo
 obtain rfl:dV=.none:=Dflts.none hD hdf
 obtain rfl:kV=.none:=Dflts.noKw hD
 obtain ⟨a,vs,ns,rfl,rfl,hobj,hints,hlen⟩:=script_of hn hpre hwl
 refine enter_call (codeAny_mono (call w s₀ s₁ mg mb fa o pm cd doc a vs ns G Y ho (fd_plain hd) hcd hmg hobj hints hlen hg) fun r s' hq=>?_)
 obtain ⟨rfl,h2,h3,h4⟩:=hq
 exact ⟨.inl ⟨.bool true,.bool true,[],rfl,fun _=>rfl,.bool true,post_true l _,fun _=>⟨List.Pairwise.nil,fun _ hm=>(nomatch hm)⟩⟩,h2,h3,h4⟩

section
variable {prog:Program} {w:World} {A:Around} {E:Value->Shared->Prop} {s:Shared} {K:Frag}

end
end Att

namespace L2
open PySem PySem.Spec PyProof.Rows

theorem vals_ints:∀ {vs:List Value} {ns:List Int},IntsAre vs ns->Vals (ns.map V.int) vs
 | _,_,.nil=>.nil
 | _,_,.cons n t h=>.cons ⟨t,rfl⟩ (vals_ints h)

def Only (H:Hp):Prop:=∀ b,H b=none\/(∃ o xs,H b=some (.frz o (.lst xs)))\/(tabA=some b/\∃ ps,H b=some (.tbl ps))

theorem law_call {P:Program} {w:World} {K:PySem.W.Frag} {mg mb:Str->Option Value} {CX:CXT} {k:Nat} {fa a:Addr} {fd:FuncData} {x:Str} {sp:Sp} {s₁:Shared} {vs:List Value} {ns:List Int}
  (KX:K.In s₁.heap) (hns:s₁.heap.Ns mainGlobals mg) (hb:s₁.heap.Ns builtinsNs mb) (hbb:∀ x:Str,x≠"__name__"->mb x=bootBuiltins x) (hlim:s₁.heap.NoLimit) (hg:s₁.gens=#[])
  (ha:s₁.heap.get? a=some { cls:=.type "list",data:=.seq vs.toArray }) (hi:IntsAre vs ns) (hl:ns.length<=sizeLine) (hr:Room k callerA)
  (hbm:∃ bm o,mg "__builtins__"=some (.ref bm)/\bm≠builtinsNs/\s₁.heap.get? bm=some o/\o.cls=.type "module"/\o.dict=some builtinsNs/\o.data=.plain)
  (hT:∀ P,tabA=some P->s₁.heap.get? P=some { cls:=.none,data:=.fields #[] }/\K.lookup P=none/\isCodeTable s₁.heap P)
  (F:∀ base:Heap,K.In base->base.Ns mainGlobals mg->FnOk P w K mg base CX k fa fd [x] sp) (hbind:∀ (s:Shared) (u:Value),BindsTo s fd ⟨[u],[]⟩ [(x,u)])
  (hsp:∀ H:Hp,Only H->SqL K H a (ns.map V.int)->sp [.ref a] H (fun v _=>v=.bl true) fun _ _ _=>False)
  (hCX:∀ H e s',CX [] H s₁ (fun _ _ _=>False) e s'->False) :
  codeAny (model P w) callerA (.call (.ref fa) ⟨[.ref a],[]⟩) (fun r s'=>r=.ok (.ret (.bool true))/\OldK s₁.heap s'.heap/\s'.os=s₁.os/\AllBare s'.gens) s₁:=by
 have rv:=vals_ints hi
 have lenV:=hi.length
 have aT:∀ P,tabA=some P->P≠a:=fun P e z=>by
  have h1:=(hT P e).1
  rw [z,ha] at h1
  cases h1
 have core:∀ H:Hp,Only H->SqL K H a (ns.map V.int)->HOk P w H s₁.heap->(∀ b,H b≠none->b=a\/tabA=some b)->(H a≠none->K.lookup a=none)->Tb H ->
   codeAny (model P w) callerA (.call (.ref fa) ⟨[.ref a],[]⟩) (fun r s'=>r=.ok (.ret (.bool true))/\OldK s₁.heap s'.heap/\s'.os=s₁.os/\AllBare s'.gens) s₁:=by
  intro H hO hS hok hA hK hTb
  have base_of:∀ {b:Addr} {o:Obj},s₁.heap.get? b=some o->H b=none->(hidT s₁.heap H).get? b=some o:=fun e n=>hidT_get e n
  have noA:∀ {b:Addr} {o:Obj} {es:Array DictEntry} {ep:Nat},s₁.heap.get? b=some o->o.data=.dict es ep->H b=none:=fun {b o es ep} e d=>by
   cases q:H b with
   | none=>rfl
   | some u =>
    rcases hA b (by rw [q];simp) with e' | e'
    ·subst e'
     rw [ha] at e;cases e
     have d':Data.seq vs.toArray _=Data.dict es ep:=d
     cases d'
    ·rw [(hT b e').1] at e;cases e
     have d':Data.fields #[]=Data.dict es ep:=d
     cases d'
  have noP:∀ {b:Addr} {o:Obj},s₁.heap.get? b=some o->o.data=.plain->H b=none:=fun {b o} e d=>by
   cases q:H b with
   | none=>rfl
   | some u =>
    rcases hA b (by rw [q];simp) with e' | e'
    ·subst e'
     rw [ha] at e;cases e
     have d':Data.seq vs.toArray _=Data.plain:=d
     cases d'
    ·rw [(hT b e').1] at e;cases e
     have d':Data.fields #[]=Data.plain:=d
     cases d'
  have nsK:∀ {b:Addr} {m:Str->Option Value},s₁.heap.Ns b m->(hidT s₁.heap H).Ns b m:=fun {b m} ⟨o,es,ep,e,d,r⟩=>⟨o,es,ep,base_of e (noA e d),d,r⟩
  have hKb:K.In (hidT s₁.heap H):=fun b o e=>base_of (KX b o e) (by
   cases q:H b with
   | none=>rfl
   | some u =>
    rcases hA b (by rw [q];simp) with e' | e'
    ·subst e'
     rw [hK (by rw [q];simp)] at e;cases e
    ·rw [(hT b e').2.1] at e;cases e)
  have hM:Mod K mg (hidT s₁.heap H):=⟨hKb,nsK hns,⟨mb,nsK hb,hbb⟩,let ⟨mc,h1,h2⟩:=hlim;⟨mc,nsK h1,h2⟩,let ⟨bm,o,b1,b2,b3,b4,b5,b6⟩:=hbm;⟨bm,o,b1,b2,base_of b3 (noP b3 b6),b4,b5,b6⟩⟩
  have e0:Env0 P w K mg (hidT s₁.heap H) callerA [] s₁ H:=⟨rfl,hM,fun b o e=>of_hidT e,Nat.le_of_eq (hidT_size _ _),trivial,fun b hb=>absurd (show b∈([]:List Addr) from hb) (by simp),hok,.of_eq hg,hTb⟩
  refine codeAny_mono ((F _ hKb (nsK hns)).run callerA [] s₁ H ⟨[.ref a],[]⟩ [.ref a] [.ref a] _ _ hr e0 (hbind s₁ (.ref a)) (.cons rfl .nil) (hsp H hO hS)) fun r s' h=>?_
  cases r with
  | error e=>exact (hCX H e s' h).elim
  | ok fl =>
   cases fl with
   | next=>exact False.elim h
   | brk=>exact False.elim h
   | cont=>exact False.elim h
   | ret u =>
    obtain ⟨v,H',os,bare,un,hok',r',q⟩:=h
    have q':v=.bl true:=q
    subst q'
    obtain rfl:u=Value.bool true:=r'
    have old:∀ b o,s₁.heap.get? b=some o->s'.heap.get? b=some o\/(isCodeTable s₁.heap b/\o={ cls:=.none,data:=.fields #[] }/\∃ qs:Array Value,s'.heap.get? b=some { cls:=.none,data:=.fields qs }):=fun b o e=>by
     cases q:H b with
     | none=>exact .inl (un.keep b o e q (by intro z;exact absurd (show b∈([]:List Addr) from z) (by simp)) (by simp))
     | some u =>
      rcases hO b with z | ⟨ob,xs,z⟩ | ⟨t,ps,z⟩
      ·rw [q] at z;cases z
      ·have z2:=un.frzs b ob _ z
       obtain ⟨e1,_⟩:=hok b _ z
       obtain ⟨e2,_⟩:=hok' b _ z2
       rw [e] at e1;cases e1
       exact .inl e2
      ·obtain ⟨h1,h2,h3⟩:=hT b t
       obtain ⟨m,z2⟩:=un.tbls b ps z
       obtain ⟨qs,e2,_⟩:=hok' b _ z2
       rw [e] at h1;cases h1
       exact .inr ⟨h3,rfl,qs,e2⟩
    refine ⟨rfl,⟨fun b o e=>?_,fun b o e=>?_⟩,os,bare⟩
    ·rcases old b o e with h1 | ⟨h1,rfl,qs,h2⟩
     ·exact .inl h1
     ·exact .inr (.inl ⟨h1,rfl,#[],qs,rfl,by rw [h2];simp⟩)
    ·rcases old b o e with h1 | ⟨h1,rfl,qs,h2⟩
     ·exact ⟨_,h1⟩
     ·exact ⟨_,h2⟩
 have dT:∀ b,Decidable (tabA=some b):=fun b=>inferInstance
 cases hk:K.lookup a with
 | some o =>
  have e:=KX a o hk
  rw [ha] at e
  cases e
  refine core (fun b=>if tabA=some b then some (.tbl #[]) else none) (fun b=>?_) (.inr ⟨_,vs.toArray,_,hk,rfl,rfl,rfl,by rw [List.size_toArray,lenV];exact hl,by simpa using rv⟩) (fun b u z=>?_) (fun b z=>?_) (fun z=>?_) fun P e=>⟨#[],if_pos e⟩
  ·by_cases hb:tabA=some b
   ·exact .inr (.inr ⟨hb,#[],if_pos hb⟩)
   ·exact .inl (if_neg hb)
  ·by_cases hb:tabA=some b
   ·have z':=(if_pos hb).symm.trans z
    cases z'
    exact ⟨#[],(hT b hb).1,trivial,fun p c q=>by cases q⟩
   ·have z':=(if_neg hb).symm.trans z
    cases z'
  ·by_cases hb:tabA=some b
   ·exact .inr hb
   ·exact absurd (if_neg hb) z
  ·exact absurd (if_neg fun e=>aT a e rfl) z
 | none =>
  refine core (fun b=>if tabA=some b then some (.tbl #[]) else if b=a then some (.frz { cls:=.type "list",data:=.seq vs.toArray } (.lst (ns.map V.int))) else none) (fun b=>?_) (.inl (.inr ⟨{ cls:=.type "list",data:=.seq vs.toArray },(if_neg fun e=>aT a e rfl).trans (if_pos rfl)⟩)) (fun b u z=>?_) (fun b z=>?_) (fun _=>hk) fun P e=>⟨#[],if_pos e⟩
  ·by_cases hT':tabA=some b
   ·exact .inr (.inr ⟨hT',#[],if_pos hT'⟩)
   ·by_cases hb:b=a
    ·exact .inr (.inl ⟨_,_,(if_neg hT').trans (if_pos hb)⟩)
    ·exact .inl ((if_neg hT').trans (if_neg hb))
  ·by_cases hT':tabA=some b
   ·have z':=(if_pos hT').symm.trans z
    cases z'
    exact ⟨#[],(hT b hT').1,trivial,fun p c q=>by cases q⟩
   ·by_cases hb:b=a
    ·have z':=((if_neg hT').trans (if_pos hb)).symm.trans z
     cases z'
     subst hb
     exact ⟨ha,by rw [List.length_map];exact hl,vs,_,rv,ha⟩
    ·have z':=((if_neg hT').trans (if_neg hb)).symm.trans z
     cases z'
  ·by_cases hT':tabA=some b
   ·exact .inr hT'
   ·by_cases hb:b=a
    ·exact .inl hb
    ·exact absurd ((if_neg hT').trans (if_neg hb)) z

theorem walk_of {l:PySem.W.OpenLaw} {n k:Nat} {q:Program} {loose:List Str} {XP:(Str->Option Value)->Heap->Prop} {YP:World->Heap->Prop} {d:DefRec} {K:Params->PySem.W.Frag} {CX:World->CXT} {sp:World->Sp} {x:Str}
  (hn:l.most=some n) (hn2:n<=sizeLine) (hdf:d.params.defaults=[]) (hr:Room k callerA)
  (hY:∀ (w:World) (h:Heap),YP w h->(K w.params).In h) (hT:∀ (w:World) (h:Heap),YP w h->∀ P,tabA=some P->h.get? P=some { cls:=.none,data:=.fields #[] }/\(K w.params).lookup P=none/\isCodeTable h P)
  (F:∀ (w:World) (mg:Str->Option Value) (fa:Addr) (h:Heap),(K w.params).In h->h.Ns mainGlobals mg->mg d.name=some (.ref fa) ->
   ∃ fd:FuncData,(∀ (s:Shared) (u:Value),BindsTo s fd ⟨[u],[]⟩ [(x,u)]) /\
    ∀ base:Heap,(K w.params).In base->base.Ns mainGlobals mg->FnOk l.prog w (K w.params) mg base (CX w) k fa fd [x] (sp w))
  (hsp:∀ (w:World) (H:Hp) (a:Addr) (ns:List Int),ns.length<=n->Only H->SqL (K w.params) H a (ns.map V.int)->sp w [.ref a] H (fun v _=>v=.bl true) fun _ _ _=>False)
  (hCX:∀ (w:World) (H:Hp) (s:Shared) (e:Value) (s':Shared),CX w [] H s (fun _ _ _=>False) e s'->False) :
  PySem.W.WalkO q loose XP YP l.row.toRowW d [] (fun f vs=>PySem.call f vs):=by
 refine Att.attach_call hn hdf fun w s₀ s₁ mg mb fa o pm cd doc a vs ns G Y ho hd hcd hmg hobj hints hlen hg=>?_
 have KX:=hY w _ Y
 obtain ⟨fd,hb,hF⟩:=F w mg fa _ KX G.T.g hmg
 exact law_call KX G.T.g G.T.b G.T.builtins G.T.nolimit hg hobj hints (Nat.le_trans hlen hn2) hr G.T.bmain (hT w _ Y) hF hb (fun H hO hS=>hsp w H a ns hlen hO hS) fun H e s'=>hCX w H s₁ e s'
end L2


namespace L2
open PySem PySem.Spec PyProof.Rows

def defArgs (s:Stmt):Arguments:=match s with
 | .FunctionDef _ a _ _ _ _ _ _ _ _=>a
 | _=>{ posonlyargs:=[],args:=[],vararg:=none,kwonlyargs:=[],kw_defaults:=[],kwarg:=none,defaults:=[] }
def defBody (s:Stmt):List Stmt:=match s with
 | .FunctionDef _ _ b _ _ _ _ _ _ _=>b
 | _=>[]
def defScope (s:Stmt):Scope:=match s with
 | .FunctionDef _ _ _ _ _ _ sc _ _ _=>sc
 | _=>{ kind:=.function,names:=[],isGenerator:=false,isCoroutine:=false }

abbrev CX0:CXT:=fun _ _ _ _ _ _=>False
abbrev E0:XK:=fun _ _ _=>False
theorem pass0 {X:Cx}:Passes CX0 X E0:=fun _ _ _ _ _ _ _ h=>h.elim

structure Fun (K:PySem.W.Frag) (x qual:Str) (st:Stmt) (f:Addr) (fd:FuncData):Prop where
 ex:∃ (oc:Value) (od:Option Addr) (kV doc pm:Value) (an:Option Addr) (cdv ct:Value) (osl:Array (Option Value)),
  fd=PySem.W.fnOf x qual (defArgs st) (defBody st) (defScope st) .none kV doc pm an cdv ct/\K.lookup f=some ⟨oc,od,.func fd,osl⟩/\PySem.W.codeIn K cdv qual=true
 kp:PySem.W.keepIn K (.ref f)=true
section
variable {P:Program} {w:World} {K:PySem.W.Frag} {mg:Str->Option Value} {base:Heap}
theorem Fun.ok {x qual:Str} {st:Stmt} {f:Addr} {fd:FuncData} {N ps:List Str} {k:Nat} {sp:Sp} (F:Fun K x qual st f fd) (S:FnScope N ps (defScope st)) (len:∀ vs H Q E,sp vs H Q E->vs.length=ps.length)
  (hbody:∀ (cdv:Value) (A:Around) (outer:List Env) (s:Shared) (H:Hp) (vs:List V) (Q:VK) (E:XK),Room k (A.deeper (envOfC qual (defScope st) s.heap.objs.size f cdv))->sp vs H Q E ->
   ∃ t,PSs (cxOf CX0 P w K mg base N qual (defScope st) f cdv A outer s H E).nox (defBody st) t/\t { nx:=fun _ H'=>Q .non H',rt:=Q } (start N vs) H):FnOk P w K mg base CX0 (k+1) f fd ps sp:=by
 obtain ⟨oc,od,kV,doc,pm,an,cdv,ct,osl,rfl,lk,hcd⟩:=F.ex
 refine fn_of lk hcd S len fun A outer s H vs Q E hr hsp=>?_
 obtain ⟨t,h,q⟩:=hbody cdv A outer s H vs Q E hr hsp
 exact ⟨t,h.nox,q⟩
theorem Fun.binds {x qual:Str} {st:Stmt} {f:Addr} {fd:FuncData} {ps:List Str} (F:Fun K x qual st f fd)
  (h:∀ (kV doc pm:Value) (an:Option Addr) (cdv ct:Value) (us:List Value),us.length=ps.length->bindArgs (PySem.W.fnOf x qual (defArgs st) (defBody st) (defScope st) .none kV doc pm an cdv ct) ⟨us,[]⟩=pure (ps.zip us)):Binds K fd ps []:=by
 obtain ⟨oc,od,kV,doc,pm,an,cdv,ct,osl,rfl,lk,hcd⟩:=F.ex
 exact .all (h kV doc pm an cdv ct)
theorem fun_mk {x qual:Str} {st:Stmt} {f:Addr} {oc:Value} {od an:Option Addr} {osl:Array (Option Value)} {kV doc pm cdv ct:Value} (l:K.lookup f=some ⟨oc,od,.func (PySem.W.fnOf x qual (defArgs st) (defBody st) (defScope st) .none kV doc pm an cdv ct),osl⟩)
  (c:PySem.W.codeIn K cdv qual=true) (k:PySem.W.keepIn K (.ref f)=true):Fun K x qual st f (PySem.W.fnOf x qual (defArgs st) (defBody st) (defScope st) .none kV doc pm an cdv ct):=⟨⟨oc,od,kV,doc,pm,an,cdv,ct,osl,rfl,l,c⟩,k⟩
end
theorem small1000 {n:Nat} (h:n<=1000):n<sizeLine:=Nat.lt_of_le_of_lt h (by decide)

section
variable {X:Cx}
theorem pv (i:Nat) {x:Str} {pos:Pos} (hN:X.N[i]?=some x:=by rfl) (hv:Vis X.env.scope x:=by first | exact Or.inl rfl | exact Or.inr (Or.inl rfl) | exact Or.inr (Or.inr rfl)) (hd:(x == ("__debug__":Str))=false:=by decide)
  (hcd:(x == ("__classdict__":Str))=false:=by decide):PE X (.Name x pos) (tVar i):=pe_var hN hv hd hcd
end

def Same (H H':Hp):Prop:=∀ b o,H b=some o->H' b=some o
theorem Same.refl (H:Hp):Same H H:=fun _ _ h=>h
theorem Same.trans {H H1 H2:Hp} (a:Same H H1) (b:Same H1 H2):Same H H2:=fun c o h=>b c o (a c o h)
theorem Same.free {H H':Hp} (e:Same H H') {l:Addr} (h:H' l=Option.none):H l=Option.none:=by
 cases q:H l with
 | none=>rfl
 | some o =>
  rw [e l o q] at h
  cases h
theorem Same.seq {K:PySem.W.Frag} {H H':Hp} {a:Addr} {xs:List V} (e:Same H H') (h:SqL K H a xs):SqL K H' a xs:=by
 rcases h with (h | ⟨o,h⟩) | h
 ·exact .inl (.inl (e _ _ h))
 ·exact .inl (.inr ⟨o,e _ _ h⟩)
 ·exact .inr h


theorem go_sign {M:Model} {A:Around} {E:Value->Shared->Prop} {s:Shared} {tg:Expr} {it:Value} {z:Str} {t:Tok} {Q:Unit->Shared->Prop} (hQ:Q () s) :
  wpAny M A (letOwnedTupleGo tg it (.str z t)) Q E s:=by
 unfold letOwnedTupleGo
 cases tg<;>first
  | exact wpAny_pure hQ
  | (cases it<;>exact wpAny_pure hQ)
def Its (z:Str):It:=⟨fun i _=>i<z.cps.size,fun i H x H'=>H'=H/\∃ c,z.cps[i]?=some c/\x=.str ⟨#[c]⟩,fun i _=>z.cps.size<=i⟩
theorem turn_sign {P:Program} {w:World} {K:PySem.W.Frag} {tg:Expr} {ty:String} (it:Addr) (z:Str) (t:Tok)
  (W:∀ A:Around,A.handled=none->Walks P w A it [it] [it] z.cps.size (SignAt z) (fun i h=>h.IsStrIter it ty z t i))
  (S:∀ (A:Around) (i:Nat) (s:Shared) (Q:Value->Shared->Prop) (E:Value->Shared->Prop),s.heap.IsStrIter it ty z t i->Q (.ref it) s->wpAny (model P w) A (pyIter (.ref it)) Q E s) :
  Turn P w K tg (Its z) [it] it (fun i h=>i<=z.cps.size/\h.IsStrIter it ty z t i) where
 mem:=by simp
 obj:=fun i h st b hb=>by
  obtain rfl:b=it:=by simpa using hb
  obtain ⟨_,o,e,c,d⟩:=st
  exact ⟨o,e,fun v q=>by rw [d] at q;cases q⟩
 keep:=fun i h h' st k=>by
  obtain ⟨l,o,e,r⟩:=st
  exact ⟨l,o,k it (by simp) o e,r⟩
 item:=by
  intro X hP hw hK hc i pins s σ H E I hf st hg
  subst hP hw hK
  obtain ⟨f0,f1,f2,f3,f4,f5⟩:=hf it (by simp)
  refine (W X.A (I.ok.hd hc)).item i s _ _ hg st.2 fun v h' tk hv st' kk=>?_
  obtain ⟨c,u,hx,rfl⟩:=hv
  have I1:Inv X pins σ H { s with heap:=h',toks:=tk }:=I.turned (fun b o hb e=>kk b o (by simpa using hb) e) f0 f1 f3 f4 f5
  exact ⟨_,rfl,go_sign ⟨.str ⟨#[c]⟩,H,I1,⟨u,rfl⟩,⟨rfl,c,hx,rfl⟩,⟨hg,st'⟩,fun b hb=>(hf b hb).1⟩⟩
 done:=by
  intro X hP hw hK hc i pins s σ H E I hf st hg
  subst hP hw hK
  obtain ⟨f0,f1,f2,f3,f4,f5⟩:=hf it (by simp)
  have e:i=z.cps.size:=Nat.le_antisymm st.1 hg
  subst e
  exact (W X.A (I.ok.hd hc)).done s _ _ st.2 fun h' tk kk=>⟨rfl,I.turned (fun b o hb e=>kk b o (by simpa using hb) e) f0 f1 f3 f4 f5⟩
 self:=fun A i s Q E st h=>S A i s Q E st.2 h

def iAny (K:PySem.W.Frag) (tl:TE):TI:=fun σ H R=>tl σ H fun x H1=>(∃ a,x=.ref a/\(∃ xs,SqL K H1 a xs)/\R (Itl K a) H1)\/(∃ a,x=.ref a/\(∃ xs,SqT K H1 a xs)/\R (Itt K a) H1)\/∃ z,x=.str z/\R (Its z) H1
theorem pi_any {X:Cx} {tg l:Expr} {tl:TE} (hl:PE X l tl):PI X tg l (iAny X.K tl):=by
 intro pins s σ H R I h
 refine thn (hl pins s σ H _ I h) fun v s1 ⟨x,H1,I1,r1,q1⟩=>?_
 rcases q1 with ⟨a,rfl,⟨xs,hq⟩,q⟩ | ⟨a,rfl,⟨xs,hq⟩,q⟩ | ⟨z,rfl,q⟩
 ·cases r1
  obtain ⟨its,rv,p,hz⟩:=I1.list hq
  refine wpAny_pyIter_list p.isList ⟨s1.heap.objs.size,[s1.heap.objs.size],_,_,H1,rfl,I1.kept (t':=s1.toks) fun b o e=>Heap.get?_push_of_some _ e,turn_list a _,⟨_,Heap.get?_push_size _ rfl,rfl,rfl⟩,fun b hb=>?_,q⟩
  obtain rfl:b=s1.heap.objs.size:=by simpa using hb
  exact I1.fpOk (Nat.le_refl _) (I1.hok.fresh (Nat.le_refl _))
 ·cases r1
  obtain ⟨its,rv,p,hz⟩:=I1.tuple hq
  refine wpAny_pyIter_tuple (show s1.heap.IsTuple a its.toArray from p) ⟨s1.heap.objs.size,[s1.heap.objs.size],_,_,H1,rfl,I1.kept (t':=s1.toks) fun b o e=>Heap.get?_push_of_some _ e,turn_tuple a _,⟨_,Heap.get?_push_size _ rfl,rfl,rfl⟩,fun b hb=>?_,q⟩
  obtain rfl:b=s1.heap.objs.size:=by simpa using hb
  exact I1.fpOk (Nat.le_refl _) (I1.hok.fresh (Nat.le_refl _))
 ·obtain ⟨t,rfl⟩:=r1
  have fin:∀ (o:Obj) (ty:String),(∀ A:Around,A.handled=none->Walks X.prog X.w A s1.heap.objs.size [s1.heap.objs.size] [s1.heap.objs.size] z.cps.size (SignAt z) (fun i h=>h.IsStrIter s1.heap.objs.size ty z t i)) ->
    (∀ (A:Around) (i:Nat) (s:Shared) (Q:Value->Shared->Prop) (E:Value->Shared->Prop),s.heap.IsStrIter s1.heap.objs.size ty z t i->Q (.ref s1.heap.objs.size) s->wpAny (model X.prog X.w) A (pyIter (.ref s1.heap.objs.size)) Q E s) ->
    (s1.heap.push o).IsStrIter s1.heap.objs.size ty z t 0->PIE X pins σ tg R (.ref s1.heap.objs.size) { s1 with heap:=s1.heap.push o }:=fun o ty W S st=>by
   refine ⟨s1.heap.objs.size,[s1.heap.objs.size],_,Its z,H1,rfl,I1.kept (t':=s1.toks) fun b o e=>Heap.get?_push_of_some _ e,turn_sign _ z t W S,⟨Nat.zero_le _,st⟩,fun b hb=>?_,q⟩
   obtain rfl:b=s1.heap.objs.size:=by simpa using hb
   exact I1.fpOk (Nat.le_refl _) (I1.hok.fresh (Nat.le_refl _))
  cases ha:z.cps.all (·<128)
  ·exact wpAny_pyIter_wide ha (fin _ "str_iterator" (fun A hA=>Walks.strWide hA _ z t) (fun _ _ _ _ _ st h=>wpAny_pyIter_striter_wide st h) ⟨_,Heap.get?_push_size _ rfl,rfl,rfl⟩)
  ·exact wpAny_pyIter_ascii ha (fin _ "str_ascii_iterator" (fun A hA=>Walks.strAscii hA _ z t) (fun _ _ _ _ _ st h=>wpAny_pyIter_striter_ascii st h) ⟨_,Heap.get?_push_size _ rfl,rfl,rfl⟩)

structure BP where
 cl:List (Str×Addr)
 C:Addr
 s3:Shared
 H3:Hp
 ex:List Addr
 pn:List (Addr×Obj)
def blk (X:Cx) (scope:Scope) (N':List Str) (b:BP):Cx where
 prog:=X.prog
 w:=X.w
 K:=X.K
 mg:=X.mg
 base:=X.base
 A:=X.A
 N:=N'
 s₀:=b.s3
 H₀:=b.H3
 env:=compEnvC scope b.cl b.C X.env
 outer:=X.stack
 stack:=X.stack
 ex:=b.ex
 fn:=fun x=>scope.names.lookup x == some .cell
 calm:=X.calm
 pn:=b.pn
 xe:=fun _ _=>False

theorem closure_go {env:Env}:∀ (names:List (Str×NameKind)) (acc:List (Str×Addr)),(∀ x∈names,x.2=.free->∃ c,env.cells.lookup x.1=some c) ->
  (∀ n c,acc.lookup n=some c->env.cells.lookup n=some c) ->
  ∃ cl:List (Str×Addr),(forIn names acc (fun x cs=>match x with | (name,kind)=>if kind == .free then do let a <- cellOf env name;pure (ForInStep.yield ((name,a)::cs)) else pure (ForInStep.yield cs)):Sem (List (Str×Addr)))=pure cl /\
   (∀ n c,cl.lookup n=some c->env.cells.lookup n=some c)/\(∀ n,((∃ c,acc.lookup n=some c)\/(n,NameKind.free)∈names)->∃ c,cl.lookup n=some c)
 | [],acc,_,ha=>⟨acc,rfl,ha,fun n h=>h.elim id fun z=>absurd z (by simp)⟩
 | (n,k)::r,acc,h,ha=>by
  by_cases hk:k=.free
  ·subst hk
   obtain ⟨c,hc⟩:=h (n,.free) (List.mem_cons_self ..) rfl
   obtain ⟨cl,e,h1,h2⟩:=closure_go r ((n,c)::acc) (fun x hx=>h x (List.mem_cons_of_mem _ hx)) (fun m d hm=>by
    rw [List.lookup_cons] at hm
    cases hb:m == n with
    | true =>
     rw [hb] at hm
     obtain rfl:m=n:=by simpa using hb
     cases hm;exact hc
    | false=>rw [hb] at hm;exact ha m d hm)
   refine ⟨cl,?_,h1,fun m hm=>h2 m ?_⟩
   ·rw [List.forIn_cons]
    have ec:cellOf env n=pure c:=by unfold cellOf;rw [hc]
    simp only [beq_self_eq_true,if_true,ec]
    exact e
   ·rcases hm with ⟨d,hd⟩ | hm
    ·left
     rw [List.lookup_cons]
     cases hb:m == n with
     | true=>exact ⟨c,rfl⟩
     | false=>exact ⟨d,hd⟩
    ·rcases List.mem_cons.mp hm with z | z
     ·left
      cases z
      exact ⟨c,by simp [List.lookup_cons]⟩
     ·exact .inr z
  ·obtain ⟨cl,e,h1,h2⟩:=closure_go r acc (fun x hx=>h x (List.mem_cons_of_mem _ hx)) ha
   refine ⟨cl,?_,h1,fun m hm=>h2 m (hm.imp id fun z=>?_)⟩
   ·rw [List.forIn_cons]
    have eb:(k == NameKind.free)=false:=by simpa using hk
    simp only [eb,Bool.false_eq_true,if_false]
    exact e
   ·rcases List.mem_cons.mp z with z | z
    ·cases z;exact absurd rfl hk
    ·exact z
theorem closure_of {env:Env} {scope:Scope} (h:∀ x∈scope.names,x.2=.free->∃ c,env.cells.lookup x.1=some c) :
  ∃ cl,closureFor scope env=pure cl/\(∀ n c,cl.lookup n=some c->env.cells.lookup n=some c)/\∀ n,(n,NameKind.free)∈scope.names->∃ c,cl.lookup n=some c:=by
 obtain ⟨cl,e,h1,h2⟩:=closure_go (env:=env) scope.names [] h (fun n c z=>by simp at z)
 refine ⟨cl,?_,h1,fun n z=>h2 n (.inr z)⟩
 unfold closureFor
 refine Eq.trans ?_ (congrArg (fun m=>m >>= fun r=>(pure r:Sem (List (Str×Addr)))) e)
 rfl

theorem relabel_back {env:Env} {x:Str} {k:NameKind}:∀ {names:List (Str×NameKind)},
  (names.map fun (n,k)=>if (k == NameKind.free && env.scope.kind == .function && env.kindOf n == some .cell) then (n,NameKind.cell) else (n,k)).lookup x=some k ->
  ∃ k0,(x,k0)∈names/\(k0=k\/(k0=.free/\k=.cell))
 | [],h=>by simp at h
 | (n,j)::r,h=>by
  rw [List.map_cons,List.lookup_cons] at h
  dsimp only at h
  by_cases hc:(j == NameKind.free && env.scope.kind == .function && env.kindOf n == some .cell)=true
  ·rw [if_pos hc] at h
   dsimp only at h
   cases hb:x == n with
   | true =>
    rw [hb] at h
    obtain rfl:x=n:=by simpa using hb
    cases h
    have hj:j=.free:=by simp only [Bool.and_eq_true,beq_iff_eq] at hc;exact hc.1.1
    exact ⟨j,List.mem_cons_self ..,.inr ⟨hj,rfl⟩⟩
   | false =>
    rw [hb] at h
    obtain ⟨k0,h1,h2⟩:=relabel_back (names:=r) h
    exact ⟨k0,List.mem_cons_of_mem _ h1,h2⟩
  ·rw [if_neg hc] at h
   dsimp only at h
   cases hb:x == n with
   | true =>
    rw [hb] at h
    obtain rfl:x=n:=by simpa using hb
    cases h
    exact ⟨_,List.mem_cons_self ..,.inl rfl⟩
   | false =>
    rw [hb] at h
    obtain ⟨k0,h1,h2⟩:=relabel_back (names:=r) h
    exact ⟨k0,List.mem_cons_of_mem _ h1,h2⟩
theorem relabel_free {env:Env} {x:Str}:∀ {names:List (Str×NameKind)},names.lookup x=some .free ->
  (names.map fun (n,k)=>if (k == NameKind.free && env.scope.kind == .function && env.kindOf n == some .cell) then (n,NameKind.cell) else (n,k)).lookup x=some .cell \/
  (names.map fun (n,k)=>if (k == NameKind.free && env.scope.kind == .function && env.kindOf n == some .cell) then (n,NameKind.cell) else (n,k)).lookup x=some .free
 | [],h=>by simp at h
 | (n,j)::r,h=>by
  rw [List.lookup_cons] at h
  rw [List.map_cons,List.lookup_cons]
  dsimp only
  cases hb:x == n with
  | true =>
   rw [hb] at h
   cases h
   by_cases hc:(NameKind.free == NameKind.free && env.scope.kind == .function && env.kindOf n == some .cell)=true
   ·rw [if_pos hc];dsimp only;rw [hb];exact .inl rfl
   ·rw [if_neg hc];dsimp only;rw [hb];exact .inr rfl
  | false =>
   rw [hb] at h
   have ih:=relabel_free (env:=env) (names:=r) h
   by_cases hc:(j == NameKind.free && env.scope.kind == .function && env.kindOf n == some .cell)=true
   ·rw [if_pos hc];dsimp only;rw [hb];exact ih
   ·rw [if_neg hc];dsimp only;rw [hb];exact ih

def frChk (names outer:List (Str×NameKind)) (Nx:List Str):List Str->List (Option Nat)->Bool
 | [],[]=>true
 | x::r,none::f=>frChk names outer Nx r f
 | x::r,some j::f=>(names.lookup x == some .free) && (Nx[j]? == some x) && (outer.lookup x == some .cell) && frChk names outer Nx r f
 | _,_=>false
theorem frChk_get {names outer:List (Str×NameKind)} {Nx:List Str}:∀ {N':List Str} {fr:List (Option Nat)},frChk names outer Nx N' fr=true ->
  N'.length=fr.length/\∀ (i:Nat) (x:Str) (j:Nat),N'[i]?=some x->fr[i]?=some (some j)->names.lookup x=some .free/\Nx[j]?=some x/\outer.lookup x=some .cell
 | [],[],_=>⟨rfl,fun i x j h=>by simp at h⟩
 | x::r,none::f,h=>by
  obtain ⟨h1,h2⟩:=frChk_get (N':=r) (fr:=f) h
  refine ⟨by simp [h1],fun i y j e1 e2=>?_⟩
  cases i with
  | zero=>simp at e2
  | succ i=>exact h2 i y j (by simpa using e1) (by simpa using e2)
 | x::r,some k::f,h=>by
  simp only [frChk,Bool.and_eq_true,beq_iff_eq] at h
  obtain ⟨⟨⟨a1,a2⟩,a3⟩,h⟩:=h
  obtain ⟨h1,h2⟩:=frChk_get (N':=r) (fr:=f) h
  refine ⟨by simp [h1],fun i y j e1 e2=>?_⟩
  cases i with
  | zero =>
   simp at e1 e2
   subst e1;subst e2
   exact ⟨a1,a2,a3⟩
  | succ i=>exact h2 i y j (by simpa using e1) (by simpa using e2)
 | [],_::_,h=>by simp [frChk] at h
 | _::_,[],h=>by simp [frChk] at h
def inBlk (fr:List (Option Nat)) (σ:St):St:=fr.map fun o=>o.bind fun j=>(σ[j]?).join

theorem HOk.but {P:Program} {w:World} {H:Hp} {h h':Heap} {a:Addr} (ok:HOk P w H h) (n:H a=none) (sb:Heap.SameBut a h h'):HOk P w H h':=fun b ob e=>by
 refine (ok b ob e).stay (fun c u hc q=>(sb.2 c ?_).trans q) (fun _ q=>q) fun _ _ q=>q
 rintro rfl
 rcases hc with rfl | hc
 ·rw [n] at e;cases e
 ·rw [n] at hc;cases hc

def PIf (X:Cx) (ifs:List Expr) (tt:TT):Prop :=
 ∀ (pins:List (Addr×Obj)) (s:Shared) (σ:St) (H:Hp) (Q:Bool->Hp->Prop),Inv X pins σ H s->tt σ H Q ->
  wpAny (model X.prog X.w) X.A (forIn ifs true fun c r=>if r=true then do let ok <- isTrue c X.env (eval c X.env);pure (ForInStep.yield ok) else pure (ForInStep.yield r)) (TP X pins σ Q) X.xe s
def tAlways:TT:=fun _ H Q=>Q true H
theorem pif_nil {X:Cx}:PIf X [] tAlways:=fun _ _ _ H _ I h=>wpAny_tests_nil ⟨H,I,h⟩
theorem pif_one {X:Cx} {c:Expr} {tt:TT} (h:PT X c tt):PIf X [c] tt:=fun pins s σ H Q I q=>wpAny_tests_one (h pins s σ H Q I q)

def tLc (fr:List (Option Nat)) (wi:TI) (g:BP->TG) (tt:BP->TT) (te:BP->TE):TE:=fun σ H Q=>wi σ H fun J H1=>∀ (bp:BP) (acc:Addr),H1 acc=none->∃ W:Nat->Nat->St->Hp->Prop,
 (∃ m,W 0 m (inBlk fr σ) (upd H1 acc (.lst [])))/\∀ i m σ' H',W i m σ' H' ->
  (J.stop i H'/\Q (.ref acc) H')\/(J.go i H'/\∀ x H2,J.yld i H' x H2->g bp x σ' H2 fun σ2 H3=>tt bp σ2 H3 fun b H4 =>
   if b=true then te bp σ2 H4 fun y H5=>∃ ys,H5 acc=some (.lst ys)/\ys.length<sizeLine/\∃ m',m'<m/\W (i+1) m' σ2 (upd H5 acc (.lst (ys++[y])))
   else ∃ m',m'<m/\W (i+1) m' σ2 H4)

theorem cells_none:∀ {names:List (Str×NameKind)},names.filter (fun y=>y.2 == NameKind.cell)=[]->∀ (n:Nat) (acc:List (Str×Addr)) (h:Heap),cellsFrom n names acc=acc/\pushCells h names=h
 | [],_,_,_,_=>⟨rfl,rfl⟩
 | (x,k)::r,e,n,acc,h=>by
  rw [List.filter_cons] at e
  cases hk:(k == NameKind.cell) with
  | true=>dsimp only at e;rw [hk,if_pos rfl] at e;cases e
  | false =>
   dsimp only at e
   rw [hk,if_neg Bool.false_ne_true] at e
   unfold cellsFrom pushCells
   rw [hk,if_neg Bool.false_ne_true,if_neg Bool.false_ne_true]
   exact cells_none e n acc h
theorem cells_one {z:Str}:∀ {names:List (Str×NameKind)},names.filter (fun y=>y.2 == NameKind.cell)=[(z,.cell)]->∀ (n:Nat) (acc:List (Str×Addr)) (h:Heap),cellsFrom n names acc=(z,n)::acc/\pushCells h names=h.push { cls:=.type "cell",data:=.cell none }
 | [],e,_,_,_=>by cases e
 | (x,k)::r,e,n,acc,h=>by
  rw [List.filter_cons] at e
  cases hk:(k == NameKind.cell) with
  | true =>
   dsimp only at e
   rw [hk,if_pos rfl] at e
   injection e with e1 e2
   injection e1 with e1 _
   subst e1
   unfold cellsFrom pushCells
   rw [hk,if_pos rfl,if_pos rfl]
   exact cells_none e2 (n+1) ((x,n)::acc) _
  | false =>
   dsimp only at e
   rw [hk,if_neg Bool.false_ne_true] at e
   unfold cellsFrom pushCells
   rw [hk,if_neg Bool.false_ne_true,if_neg Bool.false_ne_true]
   exact cells_one e n acc h
def OneCell (names:List (Str×NameKind)):Prop:=names.filter (fun y=>y.2 == NameKind.cell)=[]\/∃ z,names.filter (fun y=>y.2 == NameKind.cell)=[(z,.cell)]/\names.lookup z=some .cell
structure NewC (names:List (Str×NameKind)) (cl cl':List (Str×Addr)) (h:Heap) (C:Addr):Prop where
 get:∀ x c,cl'.lookup x=some c->(C<c/\(x,NameKind.cell)∈names/\h.IsCell c none)\/(cl.lookup x=some c/\(x,NameKind.cell)∉names)
 old:∀ x c,names.lookup x=some .free->cl.lookup x=some c->cl'.lookup x=some c
 has:∀ x,(x,NameKind.cell)∈names->∃ c,cl'.lookup x=some c
 keep:∀ x c,cl.lookup x=some c->∃ c',cl'.lookup x=some c'
 inj:∀ x y c,cl'.lookup x=some c->cl'.lookup y=some c->C<c->x=y
theorem newEnvG {M:Model} {A:Around} {E:Value->Shared->Prop} {s:Shared} {scope:Scope} {globals:Addr} {closure:List (Str×Addr)} {qual:Str} {outer:Env} {Q:Env->Shared->Prop} (hz:OneCell scope.names) (hlt:∀ x c,closure.lookup x=some c->c<s.heap.objs.size)
  (hQ:∀ h' cl',h'.Ns s.heap.objs.size (fun _=>none)->(∀ b o,s.heap.get? b=some o->h'.get? b=some o)->NewC scope.names closure cl' h' s.heap.objs.size->Q (newEnv scope s.heap.objs.size globals cl' qual none .none (some outer) builtinsNs) { s with heap:=h' }) :
  wpAny M A (newFunctionEnv scope globals closure [] qual none .none (some outer)) Q E s:=by
 simp only [newFunctionEnv,Option.isSome_some,if_true]
 refine wpAny_bind (wpAny_alloc ?_)
 refine wpAny_bind (wpAny_layCells _ (fun name kind cells=>by cases hkc:kind == NameKind.cell<;>simp [hkc]) _ _ _ _ ?_)
 have mem:∀ x,(x,NameKind.cell)∈scope.names->(x,NameKind.cell)∈scope.names.filter (fun y=>y.2 == NameKind.cell):=fun x hx=>List.mem_filter.mpr ⟨hx,rfl⟩
 rcases hz with hz | ⟨z,hz,hzl⟩
 ·rw [(cells_none hz _ _ s.heap).1,(cells_none hz 0 [] _).2]
  have no:∀ x,(x,NameKind.cell)∉scope.names:=fun x hx=>by
   have:=mem x hx
   rw [hz] at this;cases this
  exact wpAny_bind (wpAny_pure (wpAny_pure (hQ _ _ (Heap.Ns.new s.heap (.type "dict")) (fun b o e=>Heap.get?_push_of_some _ e) ⟨fun x c h=>.inr ⟨h,no x⟩,fun x c _ h=>h,fun x h=>absurd h (no x),fun x c h=>⟨c,h⟩,fun x y c h _ l=>absurd (hlt x c h) (Nat.lt_asymm l)⟩)))
 ·rw [(cells_one hz _ _ s.heap).1,(cells_one hz 0 [] _).2,show ({ s with heap:=s.heap.push { cls:=.type "dict",data:=.dict #[] } }:Shared).heap.objs.size=s.heap.objs.size+1 from Heap.size_push ..]
  have isz:∀ x,(x,NameKind.cell)∈scope.names->x=z:=fun x hx=>by
   have:=mem x hx
   rw [hz] at this
   exact congrArg Prod.fst (List.mem_singleton.mp this)
  have lk:∀ x c,((z,s.heap.objs.size+1)::closure).lookup x=some c->(x=z/\c=s.heap.objs.size+1)\/(x≠z/\closure.lookup x=some c):=fun x c h=>by
   rw [List.lookup_cons] at h
   cases hb:x == z with
   | true=>rw [hb] at h;cases h;exact .inl ⟨eq_of_beq hb,rfl⟩
   | false=>rw [hb] at h;exact .inr ⟨ne_of_beq_false hb,h⟩
  have lko:∀ x c,x≠z->closure.lookup x=some c->((z,s.heap.objs.size+1)::closure).lookup x=some c:=fun x c hx h=>by
   rw [List.lookup_cons,beq_eq_false_iff_ne.mpr hx];exact h
  have g:((s.heap.push { cls:=.type "dict",data:=.dict #[] }).push { cls:=.type "cell",data:=.cell none }).get? (s.heap.objs.size+1)=some { cls:=.type "cell",data:=.cell none }:=by
   have:=Heap.get?_push_size (s.heap.push { cls:=.type "dict",data:=.dict #[] }) (o:={ cls:=.type "cell",data:=.cell none }) rfl
   rwa [Heap.size_push] at this
  refine wpAny_bind (wpAny_pure (wpAny_pure (hQ _ _ ((Heap.Ns.new s.heap (.type "dict")).keeps fun b o e=>Heap.get?_push_of_some _ e) (fun b o e=>Heap.get?_push_of_some _ (Heap.get?_push_of_some _ e)) ⟨fun x c h=>?_,fun x c hx h=>lko x c (fun e=>by rw [e,hzl] at hx;cases hx) h,fun x hx=>⟨s.heap.objs.size+1,by rw [isz x hx];simp⟩,fun x c h=>?_,fun x y c h1 h2 l=>?_⟩)))
  ·rcases lk x c h with ⟨rfl,rfl⟩ | ⟨n,h⟩
   ·exact .inl ⟨Nat.lt_succ_self _,PySem.mem_of_lookup hzl,_,g,rfl⟩
   ·exact .inr ⟨h,fun hx=>n (isz x hx)⟩
  ·by_cases e:x=z
   ·exact ⟨s.heap.objs.size+1,by rw [e];simp⟩
   ·exact ⟨c,lko x c e h⟩
  ·rcases lk x c h1 with ⟨e1,_⟩ | ⟨_,g1⟩
   ·rcases lk y c h2 with ⟨e2,_⟩ | ⟨_,g2⟩
    ·exact e1.trans e2.symm
    ·exact absurd (hlt y c g2) (Nat.lt_asymm l)
   ·exact absurd (hlt x c g1) (Nat.lt_asymm l)
section
variable {X:Cx}
theorem comp_loop {prog:Program} {w:World} {A:Around} {R:Result->Shared->Prop} {s:Shared} {elt target iter:Expr} {ifs:List Expr} {scope:Scope} {pos:Pos} {it acc:Value} {env:Env} (I:Nat->Shared->Prop)
  (turn:∀ n s,I n s->wpAny (model prog w) A (pyNext it) (fun r s₁=>match r with
   | none=>R (.ok .next) s₁
   | some v=>wpAny (model prog w) A (letOwnedTupleGo target it v) (fun _ s1=>wpAny (model prog w) A (assign target env v) (fun _ s₂ =>
     wpAny (model prog w) A (forIn ifs true fun c r=>if r=true then do let ok <- isTrue c env (eval c env);pure (ForInStep.yield ok) else pure (ForInStep.yield r)) (fun ok s₃ =>
      if ok=true then wpAny (model prog w) A (eval elt env) (fun x s₄=>wpAny (model prog w) A (call (.builtin "list.append") [acc,x]) (fun _ s₅=>∃ m,m<n/\I m s₅) (fun _ _=>False) s₄) (fun _ _=>False) s₃
      else ∃ m,m<n/\I m s₃) (fun _ _=>False) s₂) (fun _ _=>False) s1) (fun _ _=>False) s₁) (fun _ _=>False) s)
  (n:Nat) (h:I n s):codeAny (model prog w) A (.compLoop (.ListComp elt [⟨target,iter,ifs,0⟩] scope pos) 0 it acc env) R s:=by
 refine codeAny_loop rfl I (fun n s hI=>?_) n h
 show wpAny _ A ((compTurn (.ListComp elt [⟨target,iter,ifs,0⟩] scope pos) 0 it acc env).onRaise (fun x=>do noteFrame x env;theTreesLotGoes x)) _ _ s
 refine wpAny_noted ?_
 rw [compTurn_list]
 have no:∀ {E:Value->Shared->Prop} (e:Value) (s:Shared),False->E e s:=fun _ _ z=>z.elim
 refine wpAny_bind (wpAny_standAt (wpAny_bind (wpAny_mono (turn n s hI) (fun r s₁ h₁=>?_) no)))
 cases r with
 | none=>exact wpAny_pure h₁
 | some v =>
  refine wpAny_bind (wpAny_mono h₁ (fun _ s1 h1=>wpAny_bind (wpAny_mono h1 (fun _ s₂ h₂=>wpAny_bind (wpAny_mono h₂ (fun ok s₃ h₃=>?_) no)) no)) no)
  cases ok with
  | false=>exact wpAny_pure ⟨rfl,h₃⟩
  | true=>exact wpAny_bind (wpAny_bind (wpAny_mono h₃ (fun x s₄ h₄=>wpAny_bind (wpAny_mono h₄ (fun _ s₅ h₅=>wpAny_pure (wpAny_pure ⟨rfl,h₅⟩)) no)) no))

variable {elt iter tg:Expr} {ifs:List Expr} {scope:Scope} {pos:Pos} {N':List Str} {fr:List (Option Nat)} {wi:TI} {g:BP->TG} {tt:BP->TT} {te:BP->TE}
theorem lc_block {pins:List (Addr×Obj)} {σ:St} {H2:Hp} {s2:Shared} {it:Addr} {fp:List Addr} {tn:Nat->Heap->Prop} {J:It} {Q:VK} {RR:Value->Addr->Result->Shared->Prop} {cl:List (Str×Addr)} {E:Value->Shared->Prop}
  (hcalm:X.calm=true) (hkind:scope.kind=.function) (hz:OneCell scope.names) (hfr:frChk scope.names X.env.scope.names X.N N' fr=true)
  (hcl1:∀ n c,cl.lookup n=some c->X.env.cells.lookup n=some c) (hcl2:∀ n,(n,NameKind.free)∈scope.names->∃ c,cl.lookup n=some c)
  (hY:∀ b:BP,PG (blk X scope N' b) tg (g b)/\PIf (blk X scope N' b) ifs (tt b)/\PE (blk X scope N' b) elt (te b))
  (I2:Inv X pins σ H2 s2) (T:Turn X.prog X.w X.K tg J fp it tn) (st2:tn 0 s2.heap) (f2:∀ b∈fp,FpOk X pins H2 b)
  (q:∀ (bp:BP) (acc:Addr),H2 acc=none->∃ W:Nat->Nat->St->Hp->Prop,(∃ m,W 0 m (inBlk fr σ) (upd H2 acc (.lst [])))/\∀ i m σ' H',W i m σ' H' ->
   (J.stop i H'/\Q (.ref acc) H')\/(J.go i H'/\∀ x H2,J.yld i H' x H2->g bp x σ' H2 fun σ2 H3=>tt bp σ2 H3 fun b H4 =>
    if b=true then te bp σ2 H4 fun y H5=>∃ ys,H5 acc=some (.lst ys)/\ys.length<sizeLine/\∃ m',m'<m/\W (i+1) m' σ2 (upd H5 acc (.lst (ys++[y])))
    else ∃ m',m'<m/\W (i+1) m' σ2 H4))
  (hRR:∀ acc C s' HY m,Inv X pins σ HY s'->FpOk X pins HY C->s'.heap.Ns C m->Q (.ref acc) HY->RR (.ref acc) C (.ok .next) s') :
  wpAny (model X.prog X.w) X.A (newList []) (fun acc s₃=>wpAny (model X.prog X.w) X.A (newFunctionEnv scope X.env.globals cl [] X.env.qual none .none (some X.env)) (fun cenv s₄ =>
   codeAny (model X.prog X.w) X.A (.compStart (.ListComp elt [⟨tg,iter,ifs,0⟩] scope pos) 0 (.ref it) acc { cenv with scope:=relabel scope X.env }) (RR acc cenv.locals) s₄) E s₃) E s2:=by
 obtain ⟨hfl,hfg⟩:=frChk_get hfr
 have hacc:H2 s2.heap.objs.size=none:=I2.hok.fresh (Nat.le_refl _)
 refine wpAny_newObj_type ?_ (by show 0<=sizeLine;exact Nat.zero_le _)
 generalize hs3:({ s2 with heap:=s2.heap.push { cls:=.type "list",dict:=none,data:=.seq ([]:List Value).toArray } }:Shared)=s3
 have I3:Inv X pins σ (upd H2 s2.heap.objs.size (.lst [])) s3:=by
  rw [<- hs3]
  exact I2.laid (t':=s2.toks) (fun b u e=>Heap.get?_push_of_some _ e) (Nat.le_refl _) ⟨Nat.zero_le _,[],0,.nil,Heap.get?_push_size _ rfl⟩
 have hfp:∀ b∈fp,b<s3.heap.objs.size:=fun b hb=>by
  obtain ⟨o,e,_⟩:=T.obj 0 _ st2 b hb
  rw [<- hs3]
  exact Heap.lt_size (Heap.get?_push_of_some _ e)
 have st3:tn 0 s3.heap:=T.keep 0 _ _ st2 fun b _ o e=>by rw [<- hs3];exact Heap.get?_push_of_some _ e
 have f3:∀ b∈fp,FpOk X pins (upd H2 s2.heap.objs.size (.lst [])) b:=fun b hb=>⟨by
  obtain ⟨o,e,_⟩:=T.obj 0 _ st2 b hb
  rw [upd_ne (Nat.ne_of_lt (Heap.lt_size e))]
  exact (f2 b hb).1,(f2 b hb).2⟩
 refine newEnvG hz (fun x c e=>by obtain ⟨v,o,ho,_⟩:=I3.cell x c (hcl1 x c e);exact Heap.lt_size ho) fun h₁ cl' hns keep hnw=>?_
 generalize hH3:upd H2 s2.heap.objs.size (.lst [])=H3 at *
 generalize hac:s2.heap.objs.size=ac at *
 generalize hC:s3.heap.objs.size=C at *
 obtain ⟨W,⟨m0,w0⟩,turn⟩:=q ⟨cl',C,s3,H3,fp,X.pn++pins⟩ ac hacc
 rw [hH3] at w0
 have cellLt:∀ x c,X.env.cells.lookup x=some c->c<C:=fun x c e=>by
  obtain ⟨v,o,ho,_⟩:=I3.cell x c e
  rw [<- hC];exact Heap.lt_size ho
 have hCfp:∀ b∈fp,b≠C:=fun b hb=>by exact Nat.ne_of_lt (hfp b hb)
 have hCl:X.env.locals<C:=by rw [<- hC];exact I3.lt
 have hstk:∀ b∈frs X.stack,b≠C/\H3 b=none:=fun b hb=>⟨by
  rintro rfl
  rcases List.mem_cons.mp (I3.stkSub b hb) with z | z
  ·rw [z] at hCl;exact absurd hCl (Nat.lt_irrefl _)
  ·exact I3.nofs (by rw [hC];exact Nat.le_refl _) z,I3.stkFree b hb⟩
 have cellNe:∀ x c,X.env.cells.lookup x=some c->c≠C:=fun x c e z=>by
  obtain ⟨v,o,ho,_⟩:=I3.cell x c e
  have:=Heap.lt_size ho
  rw [z,hC] at this
  exact absurd this (Nat.lt_irrefl _)
 -- the block's context
 have okY:(blk X scope N' ⟨cl',C,s3,H3,fp,X.pn++pins⟩).Ok:=by
  refine ⟨I3.ok.mod,hkind,I3.ok.glob,I3.ok.blt,Nat.le_of_eq hC,fun x y c h1 h2=>by
   rcases hnw.get x c h1 with ⟨l1,_⟩ | ⟨g1,_⟩<;>rcases hnw.get y c h2 with ⟨l2,_⟩ | ⟨g2,_⟩
   ·exact hnw.inj x y c h1 h2 l1
   ·exact absurd (cellLt y _ (hcl1 y _ g2)) (Nat.lt_asymm l1)
   ·exact absurd (cellLt x _ (hcl1 x _ g1)) (Nat.lt_asymm l2)
   ·exact I3.ok.inj x y c (hcl1 x c g1) (hcl1 y c g2),fun x hx=>?_,fun x c hf h=>by
   rcases hnw.get x c h with ⟨l,_⟩ | ⟨_,n⟩
   ·exact Nat.le_trans (Nat.le_of_eq hC) (Nat.le_of_lt l)
   ·exact absurd (PySem.mem_of_lookup (beq_iff_eq.mp hf)) n,fun _=>I3.ok.hd hcalm,I3.ok.frames,.inl rfl,
   fun b hb=>⟨hCfp b hb,fun x c h=>by
    rcases hnw.get x c h with ⟨l,_⟩ | ⟨h,_⟩
    ·exact Nat.ne_of_gt (Nat.lt_trans (hfp b hb) l)
    ·exact (f3 b hb).2.2.2.2.1 x c (hcl1 x c h)⟩,fun b o e=>I3.bs b o e,?_,fun b o e hb=>?_,fun b hb hs=>?_,I3.stack,fun b hb=>(hstk b hb).2,I3.env0.tab⟩
  ·have back:∀ k,(relabel scope X.env).names.lookup x=some k->(k=.cell\/k=.free)->∃ c,(cl').lookup x=some c:=fun k h hk=>by
    obtain ⟨k0,h1,h2⟩:=relabel_back h
    rcases (show k0=.cell\/k0=.free from h2.elim (fun e=>by rw [e];exact hk) fun e=>.inr e.1) with rfl | rfl
    ·exact hnw.has x h1
    ·obtain ⟨c,hc⟩:=hcl2 x h1
     exact hnw.keep x c hc
   rcases hx with hx | hx
   ·exact back _ hx (.inl rfl)
   ·exact back _ hx (.inr rfl)
  ·exact Nat.le_trans I3.ok.bsz (Nat.le_trans I3.sz (Nat.le_refl _))
  ·rcases (f3 b hb).2.2.2.1 with z | z
   ·exact I3.ok.noex b o e z
   ·exact absurd (Nat.lt_of_lt_of_le (Heap.lt_size (I3.ok.bs b o e).1) z) (Nat.lt_irrefl _)
  ·rcases List.mem_cons.mp (I3.stkSub b hs) with z | z
   ·exact (f3 b hb).2.1 z
   ·exact (f3 b hb).2.2.1 z
 have hH3C:H3 C=none:=I3.hok.fresh (Nat.le_of_eq hC)
 have IY:Inv (blk X scope N' ⟨cl',C,s3,H3,fp,X.pn++pins⟩) [] (inBlk fr σ) H3 { s3 with heap:=h₁ }:=by
  refine ⟨okY,rfl,I3.bare,Un.kept keep,⟨_,hns,fun i x v h1 h2 _=>?_⟩,fun x c e=>?_,hH3C,fun x c e=>(by
   rcases hnw.get x c e with ⟨l,_⟩ | ⟨e,_⟩
   ·exact I3.hok.fresh (by rw [hC];exact Nat.le_of_lt l)
   ·exact I3.freeC x c (hcl1 x c e)),fun p hp=>?_,I3.hok.kept keep,?_⟩
  ·have e:∃ j,fr[i]?=some (some j)/\σ[j]?=some (some v):=by
    unfold inBlk at h2
    rw [List.getElem?_map] at h2
    cases hf:fr[i]? with
    | none=>rw [hf] at h2;cases h2
    | some o =>
     rw [hf] at h2
     cases o with
     | none=>cases h2
     | some j =>
      refine ⟨j,rfl,?_⟩
      have h2':(σ[j]?).join=some v:=by simpa using h2
      cases hj:σ[j]? with
      | none=>rw [hj] at h2';cases h2'
      | some o=>rw [hj] at h2';rw [show o=some v from h2']
   obtain ⟨j,e1,e2⟩:=e
   obtain ⟨a1,a2,a3⟩:=hfg i x j h1 e1
   obtain ⟨m,hn,hl⟩:=I3.loc
   obtain ⟨u,r,l⟩:=hl j x v a2 e2 (.inr (.inl a3))
   refine ⟨u,r,.inr ⟨relabel_free a1,?_⟩⟩
   rcases l with ⟨k,_⟩ | ⟨_,c,hc,o,ho,hd⟩
   ·have k':X.env.scope.names.lookup x=some .local:=k
    rw [a3] at k';cases k'
   ·obtain ⟨c',hc'⟩:=hcl2 x (PySem.mem_of_lookup a1)
    have z:=hcl1 x c' hc'
    rw [hc] at z;cases z
    exact ⟨c,hnw.old x c a1 hc',o,keep c o ho,hd⟩
  ·rcases hnw.get x c e with ⟨_,_,hnc⟩ | ⟨e,_⟩
   ·exact ⟨none,hnc⟩
   ·obtain ⟨v,o,ho,hd⟩:=I3.cell x c (hcl1 x c e)
    exact ⟨v,o,keep c o ho,hd⟩
  ·obtain ⟨e,n,ne,nf,d⟩:=I3.pin p (by have hp':p∈(X.pn++pins)++[]:=hp;simpa using hp')
   refine ⟨keep _ _ e,n,?_,fun z=>?_,d⟩
   ·have:=Heap.lt_size e
    rw [hC] at this
    exact Nat.ne_of_lt this
   ·rcases List.mem_cons.mp (I3.stkSub p.1 z) with z | z
    ·exact ne z
    ·exact nf z
  ·unfold inBlk
   rw [List.length_map]
   exact hfl.symm
 have stat:∀ {H':Hp},(∀ b∈fp,H' b=none)->∀ b∈fp,FpOk (blk X scope N' ⟨cl',C,s3,H3,fp,X.pn++pins⟩) [] H' b:=fun {H'} hn b hb =>
  ⟨hn b hb,hCfp b hb,fun z=>by
   rcases List.mem_cons.mp (I3.stkSub b z) with z | z
   ·exact (f3 b hb).2.1 z
   ·exact (f3 b hb).2.2.1 z,  .inl hb,fun x c e=>(by
   rcases hnw.get x c e with ⟨l,_⟩ | ⟨e,_⟩
   ·exact Nat.ne_of_gt (Nat.lt_trans (hfp b hb) l)
   ·exact (f3 b hb).2.2.2.2.1 x c (hcl1 x c e)),fun p hp=>(f3 b hb).2.2.2.2.2 p (by have hp':p∈(X.pn++pins)++[]:=hp;simpa using hp')⟩
 obtain ⟨hg,ht,he⟩:=hY ⟨cl',C,s3,H3,fp,X.pn++pins⟩
 have loop:codeAny (model X.prog X.w) X.A (.compLoop (.ListComp elt [⟨tg,iter,ifs,0⟩] scope pos) 0 (.ref it) (.ref ac) (compEnvC scope cl' C X.env)) (RR (.ref ac) C) { s3 with heap:=h₁ }:=by
  refine comp_loop (fun n s'=>∃ i σ' H',Inv (blk X scope N' ⟨cl',C,s3,H3,fp,X.pn++pins⟩) [] σ' H' s'/\tn i s'.heap/\(∀ b∈fp,H' b=none)/\W i n σ' H') ?_ m0
   ⟨0,inBlk fr σ,H3,IY,T.keep 0 _ _ st3 fun b _ o e=>keep b o e,fun b hb=>(f3 b hb).1,w0⟩
  rintro n s4 ⟨i,σ4,H4,I4,st4,fr4,w4⟩
  rcases turn i n σ4 H4 w4 with ⟨stop,qn⟩ | ⟨go,step⟩
  ·refine thn (T.done (blk X scope N' ⟨cl',C,s3,H3,fp,X.pn++pins⟩) rfl rfl rfl hcalm i [] s4 σ4 H4 _ I4 (stat fr4) st4 stop) fun r s5 ⟨hr,I5⟩=>?_
   subst hr
   obtain ⟨m,hn,_⟩:=I5.loc
   have IX:Inv X pins σ H4 s5:=I3.call' I5.os I5.base I5.hok I5.bare fun b hb=>⟨(f3 b hb).2.2.2.1,(f3 b hb).2.1,(f3 b hb).2.2.2.2.1,(f3 b hb).2.2.2.2.2⟩
   exact hRR ac C s5 H4 m IX (I3.fpOk (Nat.le_of_eq hC) I5.free) hn qn
  ·refine thn (T.item (blk X scope N' ⟨cl',C,s3,H3,fp,X.pn++pins⟩) rfl rfl rfl hcalm i [] s4 σ4 H4 (fun _ _=>False) I4 (stat fr4) st4 go) fun r s5 ⟨u,hr,h5⟩=>?_
   subst hr
   refine thn h5 fun _ s6 ⟨x,H6,I6,r6,y6,st6,fr6⟩=>?_
   have I6':=I6.pinned (stat fr6) (T.obj _ _ st6)
   refine thn (hg _ s6 σ4 H6 x u _ I6' r6 (step x H6 y6)) fun _ s7 ⟨σ7,H7,I7,q7⟩=>?_
   refine thn (ht _ s7 σ7 H7 _ I7 q7) fun ok s8 ⟨H8,I8,q8⟩=>?_
   have again:∀ {s9:Shared} {σ9:St} {H9:Hp} {m':Nat},Inv (blk X scope N' ⟨cl',C,s3,H3,fp,X.pn++pins⟩) ([]++pinsAt fp s6.heap) σ9 H9 s9->m'<n->W (i+1) m' σ9 H9 ->
     ∃ m,m<n/\∃ i σ' H',Inv (blk X scope N' ⟨cl',C,s3,H3,fp,X.pn++pins⟩) [] σ' H' s9/\tn i s9.heap/\(∀ b∈fp,H' b=none)/\W i m σ' H':=fun {s9 σ9 H9 m'} I9 hm w9=>by
    refine ⟨m',hm,i+1,σ9,H9,I9.unpinned,T.keep _ _ _ st6 fun b hb o e=>(I9.pin (b,o) (List.mem_append_right _ (List.mem_append_right _ (mem_pinsAt hb e)))).1,fun b hb=>?_,w9⟩
    obtain ⟨o,e,d⟩:=T.obj _ _ st6 b hb
    exact (I9.pin (b,o) (List.mem_append_right _ (List.mem_append_right _ (mem_pinsAt hb e)))).2.1
   cases ok with
   | false =>
    obtain ⟨m',hm,w8⟩:=q8
    exact again I8 hm w8
   | true =>
    refine thn (he _ s8 σ7 H8 _ I8 q8) fun y s9 ⟨yv,H9,I9,r9,ys,hys,hz,m',hm,w9⟩=>?_
    refine thn (mt_append (X:=blk X scope N' ⟨cl',C,s3,H3,fp,X.pn++pins⟩) _ s9 σ7 H9 (.ref ac) [yv] (.ref ac) [y] (fun _ H'=>H'=upd H9 ac (.lst (ys++[yv]))) I9 rfl (.cons r9 .nil) ⟨ac,ys,yv,rfl,rfl,hys,hz,rfl⟩) fun _ s10 ⟨_,H10,I10,_,e10⟩=>?_
    subst e10
    exact again I10 hm w9
 exact codeAny_compStart_list loop (T.self _ 0 _ _ _ (T.keep 0 _ _ st3 fun b _ o e=>keep b o e) loop)

theorem pe_lc (hcalm:X.calm=true) (hkind:scope.kind=.function) (hz:OneCell scope.names) (hfr:frChk scope.names X.env.scope.names X.N N' fr=true)
  (hfree:∀ y∈scope.names,y.2=.free->X.env.scope.names.lookup y.1=some .cell) (hnames:∀ x∈scope.names,x.2=.local->scope.names.lookup x.1=some .local) (hi:PI X tg iter wi)
  (hY:∀ b:BP,PG (blk X scope N' b) tg (g b)/\PIf (blk X scope N' b) ifs (tt b)/\PE (blk X scope N' b) elt (te b))
  (hs:∀ x,foldedSetIterable iter X.env x=pure x:=by intro _;rfl):PE X (.ListComp elt [⟨tg,iter,ifs,0⟩] scope pos) (tLc fr wi g tt te):=by
 intro pins s σ H Q I h
 obtain ⟨cl,hclos,hcl1,hcl2⟩:=closure_of (env:=X.env) (scope:=scope) fun y hy hk=>I.ok.has y.1 (.inl (hfree y hy hk))
 rw [eval_ListComp]
 refine wpAny_comprehension_free (use:=none) rfl hs hclos hkind hnames (thn (hi pins s σ H _ I h) fun v s1 h1=>thn h1 fun itv s2 h2=>?_)
 obtain ⟨it,fp,tn,J,H2,rfl,I2,T,st2,f2,q⟩:=h2
 refine lc_block (RR:=fun acc C=>compPost (model X.prog X.w) X.A X.xe none (EP X pins σ Q) acc C) hcalm hkind hz hfr hcl1 hcl2 hY I2 T st2 f2 q fun acc C s' HY m I' f' hn q'=>?_
 exact ⟨m,hn,fun h' sb=>⟨.ref acc,HY,I'.turned (t':=s'.toks) (fun b o hb e=>(sb.2 b hb).trans e) f'.1 f'.2.1 f'.2.2.2.1 f'.2.2.2.2.1 f'.2.2.2.2.2,rfl,q'⟩⟩
theorem ps_setlc {i:Nat} {x:Str} {px spos:Pos} (hN:X.N.Nodup) (hix:X.N[i]?=some x) (hx:Loc X.env.scope x) (hcalm:X.calm=true) (hkind:scope.kind=.function) (hz:OneCell scope.names) (hfr:frChk scope.names X.env.scope.names X.N N' fr=true)
  (hfree:∀ y∈scope.names,y.2=.free->X.env.scope.names.lookup y.1=some .cell) (hnames:∀ x∈scope.names,x.2=.local->scope.names.lookup x.1=some .local) (hi:PI X tg iter wi)
  (hY:∀ b:BP,PG (blk X scope N' b) tg (g b)/\PIf (blk X scope N' b) ifs (tt b)/\PE (blk X scope N' b) elt (te b))
  (hsw:swapsWith (.ListComp elt [⟨tg,iter,ifs,0⟩] scope pos) (some (.Name x px)) spos.line X.env=pure true)
  (hs:∀ x,foldedSetIterable iter X.env x=pure x:=by intro _;rfl) (hf:X.fn x=true\/X.env.scope.names.lookup x=some .local:=by first | exact .inl rfl | exact .inr rfl | assumption) :
  PS X (.Assign [.Name x px] (.ListComp elt [⟨tg,iter,ifs,0⟩] scope pos) spos) (tAsg (tLc fr wi g tt te) (gName i)):=by
 intro pins s σ H D I h
 obtain ⟨cl,hclos,hcl1,hcl2⟩:=closure_of (env:=X.env) (scope:=scope) fun y hy hk=>I.ok.has y.1 (.inl (hfree y hy hk))
 rw [exec_Assign_Name_used _ _ _ _ hsw]
 refine wpAny_bind (wpAny_standAt (wpAny_bind ?_))
 show wpAny _ _ (do let _ <- comprehension (.ListComp elt [⟨tg,iter,ifs,0⟩] scope pos) scope X.env _ (newList []) false (eval iter X.env) (some (assign (.Name x px) X.env))) _ _ s
 refine wpAny_bind (wpAny_mono (wpAny_comprehension_free (use:=some (assign (.Name x px) X.env)) (Q:=fun _ s'=>SP X pins D .next s') rfl hs hclos hkind hnames
  (thn (hi pins s σ H _ I h) fun v s1 h1=>thn h1 fun itv s2 h2=>?_)) (fun _ s' hq=>wpAny_pure (wpAny_pure hq)) fun _ _ e=>e)
 obtain ⟨it,fp,tn,J,H2,rfl,I2,T,st2,f2,q⟩:=h2
 refine lc_block (RR:=fun acc C=>compPost (model X.prog X.w) X.A X.xe (some (assign (.Name x px) X.env)) (fun _ s'=>SP X pins D .next s') acc C) (Q:=fun x H1=>gName i x σ H1 D.nx) hcalm hkind hz hfr hcl1 hcl2 hY I2 T st2 f2 q fun acc C s' HY m I' f' hn q'=>?_
 show wpAny _ _ (assign (.Name x px) X.env (.ref acc)) _ _ _
 refine wpAny_assign_Name (store_ok2 I' hN hix hx (v:=.ref acc) rfl (fun s2' I2' hch=>?_) hf)
 obtain ⟨a,sb,ha⟩:=hch
 have hCa:C≠a:=by
  rcases ha with z | z
  ·rw [z];exact f'.2.1
  ·exact fun e=>f'.2.2.2.2.1 x a z e.symm
 exact ⟨m,hn.sameBut sb hCa,fun h' sb'=>⟨_,HY,I2'.turned (t':=s2'.toks) (fun b o hb e=>(sb'.2 b hb).trans e) f'.1 f'.2.1 f'.2.2.2.1 f'.2.2.2.2.1 f'.2.2.2.2.2,q'⟩⟩
end
end L2

namespace L2
open PySem PySem.Spec PyProof.Rows
section
variable {prog:Program} {w:World} {A:Around} {E:Value->Shared->Prop} {h:Heap} {g:Array GenState} {d:Drawn} {t:Nat} {os:OsState} {a C:Addr} {ox:Obj} {od:Option Obj} {K:PySem.W.Frag}
structure XCls (K:PySem.W.Frag) (C:Addr):Prop where
 ga:PySem.W.findIn K (.ref C) "__getattribute__"=some (some (.builtin "BaseException.__getattribute__"))
 gt:PySem.W.findIn K (.ref C) "__getattr__"=some none
 cl:PySem.W.findIn K (.ref C) "__class__"=some (some (.builtin "object.__class__"))
 ob:PySem.W.mroIn K C (.type "object")=some true
 be:PySem.W.mroIn K C (.type "BaseException")=some true
def XOk (K:PySem.W.Frag) (C:Addr):Prop:=XCls K C/\∀ T∈["int","str","list","tuple","bool"],PySem.W.kitOne K (.ref C) (.type T)=some false
end
structure RoomH (k:Nat) (A:Around):Prop where
 dp:A.depth+3*k+5<recursionLimit
 un:A.units+16*k+200<cLine
 gd:A.guards=some []
theorem Room.h {k:Nat} {A:Around} (r:Room k A):RoomH k A:=⟨r.dp,r.un,r.gd⟩
theorem RoomH.mono {j k:Nat} {A:Around} (r:RoomH k A) (h:j<=k):RoomH j A:=⟨by have:=r.dp;omega,by have:=r.un;omega,r.gd⟩
theorem RoomH.deeper {k:Nat} {A:Around} (r:RoomH (k+1) A) (env:Env):RoomH k (A.deeper env):=⟨by have:=r.dp;show A.depth+1+3*k+5<_;omega,by have:=r.un;show A.units+3+16*k+200<_;omega,r.gd⟩
theorem RoomH.depth {k:Nat} {A:Around} (r:RoomH k A):A.depth<recursionLimit:=by have:=r.dp;omega
section
variable {X:Cx} {CX:CXT} {k:Nat} {f C:Addr} {fd:FuncData} {ps:List Str} {sp:Sp} {dvs:List V} {ds:List Value} {E:XK} {x m:Str} {p pos apos:Pos} {e o:Expr} {es:List Expr} {ta:TE} {t:TA}
end
section
variable {P:Program} {w:World} {K:PySem.W.Frag} {mg:Str->Option Value} {base:Heap}
end
end L2

namespace TL
open PySem PySem.Spec PyProof.Rows L2
abbrev D:=PySem.PyData
def numsAt (p:Addr) (h:Heap):Prop:=∃ (its:List Value) (n:Nat),h.get? p=some { cls:=.type "list",data:=.seq its.toArray n }/\its.length<=1000/\∀ v∈its,∃ (i:Int) (t:Tok),v=.int i t/\0<=i/\i<4096
def excAt (p C:Addr) (dx:Option Addr) (h:Heap):Prop:=∃ o vs,h.get? p=some o/\o.cls=.ref C/\o.dict=dx/\o.data=.fields vs
def tapeAt (p q:Addr) (h:Heap):Prop:=∃ (a b c:Int) (ta tb tc:Tok) (n:Nat),h.get? p=some { cls:=.type "list",data:=.seq [Value.ref q,.int a ta,.int b tb,.int c tc].toArray n }/\0<=a/\(c=0\/c=1)
def EntR (e:Int×Addr×V) (x:DictEntry):Prop:=x.hash=e.1/\x.key=.ref e.2.1/\RelV e.2.2 x.val
def DicAt (p:Addr) (es:List (Int×Addr×V)) (h:Heap):Prop:=(p == sysModules)=false/\es.length<=sizeLine/\∃ o xs ep,h.get? p=some o/\o.ExactDict/\o.data=.dict xs ep/\Paired EntR es xs.toList
def dicO (p:Addr) (es:List (Int×Addr×V)):HO:=.ext (DicAt p es)
def DicAtE (p:Addr) (es:List (Int×Addr×V)) (ep:Nat) (h:Heap):Prop:=(p == sysModules)=false/\es.length<=sizeLine/\∃ o xs,h.get? p=some o/\o.ExactDict/\o.data=.dict xs ep/\Paired EntR es xs.toList
def dicF (p:Addr) (es:List (Int×Addr×V)) (ep:Nat):HO:=.ext (DicAtE p es ep)
mutual
inductive Rep (K:PySem.W.Frag) (H:Hp):D->V->Prop
 | none:Rep K H .none .non
 | bool (b:Bool):Rep K H (.bool b) (.bl b)
 | int (i:Int):Rep K H (.int i) (.int i)
 | str (x:Str):Rep K H (.str x) (.str x)
 | list {p:Addr} {xs:List V} {ts:List D}:SqL K H p xs->Reps K H ts xs->Rep K H (.list ts) (.ref p)
 | tuple {p:Addr} {xs:List V} {ts:List D}:SqT K H p xs->Reps K H ts xs->Rep K H (.tuple ts) (.ref p)
 | wild {p:Addr}:H p=some (.ext (numsAt p))->Rep K H (.dict []) (.ref p)
 | exc {p C:Addr}:XOk K C->H p=some (.ext (excAt p C Option.none))->Rep K H (.dict [(.int (C:Nat),.none)]) (.ref p)
 | excA {p C dx:Addr} {n:Int}:XOk K C->H p=some (.ext (excAt p C (some dx)))->H dx=some (.xd [("at",.int n)])->Rep K H (.dict [(.int (C:Nat),.int n)]) (.ref p)
 | tape {p q:Addr} {ns:List Int}:H p=some (.ext (tapeAt p q))->SqL K H q (ns.map V.int)->Rep K H (.dict [(.none,.list (ns.map PyData.int))]) (.ref p)
 | dct {p:Addr} {es:List (Int×Addr×V)} {ep:Nat} {kvs:List (D×D)}:H p=some (dicF p es ep)->(kvs.map (·.1)).Nodup->Reps K H (kvs.map (·.1)) (es.map fun e=>.ref e.2.1)->Reps K H (kvs.map (·.2)) (es.map fun e=>e.2.2)->Rep K H (.dict ((.str "{}",.list ((es.map (·.1)).map PyData.int))::kvs)) (.ref p)
 | addr {p:Addr} (z:List D):Rep K H (.dict [(.str "@",.list (.int (p:Nat)::z))]) (.ref p)
 | ins {p C dx:Addr} {fs:List (Str×V)} {ds:List D}:H p=some (.ins C dx fs)->Reps K H ds (fs.map (·.2))->Rep K H (.dict [(.str "obj",.tuple [.int (C:Nat),.list ((fs.map (·.1)).map PyData.str),.list ds])]) (.ref p)
inductive Reps (K:PySem.W.Frag) (H:Hp):List D->List V->Prop
 | nil:Reps K H [] []
 | cons {t:D} {ts:List D} {x:V} {xs:List V}:Rep K H t x->Reps K H ts xs->Reps K H (t::ts) (x::xs)
end
variable {K:PySem.W.Frag} {H H' H1 H2:Hp}
theorem Same.seqT {a:Addr} {xs:List V} (e:Same H H') (h:SqT K H a xs):SqT K H' a xs:=by
 rcases h with (h | ⟨o,h⟩) | h
 ·exact .inl (.inl (e _ _ h))
 ·exact .inl (.inr ⟨o,e _ _ h⟩)
 ·exact .inr h
mutual
theorem Rep.same (e:Same H H'):∀ {d:D} {v:V},Rep K H d v->Rep K H' d v
 | _,_,.none=>.none
 | _,_,.bool b=>.bool b
 | _,_,.int i=>.int i
 | _,_,.str x=>.str x
 | _,_,.list q r=>.list (L2.Same.seq e q) (Reps.same e r)
 | _,_,.tuple q r=>.tuple (Same.seqT e q) (Reps.same e r)
 | _,_,.wild h=>.wild (e _ _ h)
 | _,_,.exc x h=>.exc x (e _ _ h)
 | _,_,.excA x h g=>.excA x (e _ _ h) (e _ _ g)
 | _,_,.tape h g=>.tape (e _ _ h) (L2.Same.seq e g)
 | _,_,.dct h n r t=>.dct (e _ _ h) n (Reps.same e r) (Reps.same e t)
 | _,_,.addr z=>.addr z
 | _,_,.ins h r=>.ins (e _ _ h) (Reps.same e r)
theorem Reps.same (e:Same H H'):∀ {ds:List D} {vs:List V},Reps K H ds vs->Reps K H' ds vs
 | _,_,.nil=>.nil
 | _,_,.cons r s=>.cons (Rep.same e r) (Reps.same e s)
end
theorem Reps.length:∀ {ds:List D} {vs:List V},Reps K H ds vs->ds.length=vs.length
 | _,_,.nil=>rfl
 | _,_,.cons _ s=>by simp [Reps.length s]
theorem Reps.get:∀ {ds:List D} {vs:List V} {i:Nat} {d:D},Reps K H ds vs->ds[i]?=some d->∃ v,vs[i]?=some v/\Rep K H d v
 | _,_,_,_,.nil,e=>by simp at e
 | _,_,0,_,.cons r _,e=>by simp at e;subst e;exact ⟨_,rfl,r⟩
 | _,_,i+1,d,.cons _ s,e=>by
  obtain ⟨v,h1,h2⟩:=Reps.get (i:=i) (d:=d) s (by simpa using e)
  exact ⟨v,by simpa using h1,h2⟩
theorem Reps.get':∀ {ds:List D} {vs:List V} {i:Nat} {v:V},Reps K H ds vs->vs[i]?=some v->∃ d,ds[i]?=some d/\Rep K H d v
 | _,_,_,_,.nil,e=>by simp at e
 | _,_,0,_,.cons r _,e=>by simp at e;subst e;exact ⟨_,rfl,r⟩
 | _,_,i+1,d,.cons _ s,e=>by
  obtain ⟨v,h1,h2⟩:=Reps.get' (i:=i) (v:=d) s (by simpa using e)
  exact ⟨v,by simpa using h1,h2⟩
theorem Reps.append:∀ {ds es:List D} {vs us:List V},Reps K H ds vs->Reps K H es us->Reps K H (ds++es) (vs++us)
 | _,_,_,_,.nil,s=>s
 | _,_,_,_,.cons r t,s=>.cons r (Reps.append t s)
theorem Reps.take:∀ {ds:List D} {vs:List V} (n:Nat),Reps K H ds vs->Reps K H (ds.take n) (vs.take n)
 | _,_,0,_=>.nil
 | _,_,_+1,.nil=>.nil
 | _,_,n+1,.cons r t=>.cons r (Reps.take n t)
theorem Reps.drop:∀ {ds:List D} {vs:List V} (n:Nat),Reps K H ds vs->Reps K H (ds.drop n) (vs.drop n)
 | _,_,0,r=>r
 | _,_,_+1,.nil=>.nil
 | _,_,n+1,.cons _ t=>Reps.drop n t
def mask (H:Hp) (ps:List Addr):Hp:=fun b=>if b∈ps then none else H b
theorem mask_same {ps:List Addr} (e:Same H H'):Same (mask H ps) (mask H' ps):=fun b o h=>by
 unfold mask at h |-
 by_cases hb:b∈ps
 ·rw [if_pos hb] at h;cases h
 ·rw [if_neg hb] at h |-;exact e b o h
theorem mask_sub {ps ps':List Addr} (h:∀ p∈ps',p∈ps):Same (mask H ps) (mask H ps'):=fun b o e=>by
 unfold mask at e |-
 by_cases hb:b∈ps
 ·rw [if_pos hb] at e;cases e
 ·rw [if_neg hb] at e
  rw [if_neg fun z=>hb (h b z)]
  exact e
theorem mask_le {ps:List Addr}:Same (mask H ps) H:=fun b o e=>by
 unfold mask at e
 by_cases hb:b∈ps
 ·rw [if_pos hb] at e;cases e
 ·rw [if_neg hb] at e;exact e
theorem mask_new {ps:List Addr} {p:Addr} {o:HO} (h:H p=none):mask (upd H p o) (p::ps)=mask H ps:=by
 funext b
 unfold mask
 by_cases hb:b=p
 ·subst hb
  rw [if_pos (List.mem_cons_self ..),h]
  by_cases z:b∈ps<;>simp [z]
 ·rw [upd_ne hb]
  by_cases z:b∈ps
  ·rw [if_pos (List.mem_cons_of_mem _ z),if_pos z]
  ·rw [if_neg (fun q=>(List.mem_cons.mp q).elim hb z),if_neg z]
theorem mask_upd {ps:List Addr} {p:Addr} {o:HO} (h:p∈ps):mask (upd H p o) ps=mask H ps:=by
 funext b
 unfold mask
 by_cases hb:b=p
 ·subst hb;rw [if_pos h,if_pos h]
 ·rw [upd_ne hb]
theorem same_new {p:Addr} {o:HO} (h:H p=none):Same H (upd H p o):=fun b u q=>by rw [upd_ne (ne_of_none q h)];exact q
theorem mask_at {ps:List Addr} {p:Addr} {o:HO} (h:p∉ps) (e:H p=some o):mask H ps p=some o:=by
 unfold mask;rw [if_neg h];exact e
theorem fresh_notin {ps:List Addr} {p:Addr} (live:∀ q∈ps,H q≠none) (h:H p=none):p∉ps:=fun z=>live p z h

inductive Sl where
 | un | val (d:D) | own (ts:List D) | dic (hs:List Int) (kvs:List (D×D))
def DicOk (K:PySem.W.Frag) (B:Hp) (p0:List Addr) (H:Hp) (ps:List Addr) (σT:List Sl) (σ:L2.St):Prop:=∀ (i:Nat) (hs:List Int) (kvs:List (D×D)),σT[i]?=some (.dic hs kvs) ->
 (∃ (p:Addr) (es:List (Int×Addr×V)),σ[i]?=some (some (.ref p))/\p∈ps/\B p=none/\p∉p0/\H p=some (dicO p es)/\hs=es.map (·.1)/\(kvs.map (·.1)).Nodup/\Reps K (mask H ps) (kvs.map (·.1)) (es.map fun e=>.ref e.2.1)/\Reps K (mask H ps) (kvs.map (·.2)) (es.map fun e=>e.2.2)) /\
 ∀ (j:Nat) (hs':List Int) (kws:List (D×D)),σT[j]?=some (.dic hs' kws)->i=j
theorem DicOk.to {B B':Hp} {p0 p0' ps ps':List Addr} {σT σT':List Sl} {σ σ':L2.St} (o:DicOk K B p0 H ps σT σ) (hσ:∀ (i:Nat) (hs:List Int) (kvs:List (D×D)),σT'[i]?=some (.dic hs kvs)->σT[i]?=some (.dic hs kvs)/\σ'[i]?=σ[i]?)
  (hp:∀ (p:Addr) (φ:Heap->Prop),p∈ps->H p=some (.ext φ)->p∉p0->p∈ps'/\H' p=H p) (hB:∀ (p:Addr) (φ:Heap->Prop),p∈ps->H p=some (.ext φ)->B p=none->p∉p0->B' p=none/\p∉p0') (hm:Same (mask H ps) (mask H' ps')):DicOk K B' p0' H' ps' σT' σ':=fun i hs kvs h=>by
 obtain ⟨h1,h2⟩:=hσ i hs kvs h
 obtain ⟨⟨p,es,a1,a2,a3,a4,a5,a6,a7,a8,a9⟩,u⟩:=o i hs kvs h1
 obtain ⟨b1,b2⟩:=hp p _ a2 a5 a4
 obtain ⟨c1,c2⟩:=hB p _ a2 a5 a3 a4
 exact ⟨⟨p,es,h2.trans a1,b1,c1,c2,b2.trans a5,a6,a7,a8.same hm,a9.same hm⟩,fun j hs' kws hj=>u j hs' kws (hσ j hs' kws hj).1⟩
theorem dic_set {σT:List Sl} {i j:Nat} {s:Sl} {hs:List Int} {kvs:List (D×D)} (hn:∀ hs kvs,s≠.dic hs kvs) (h:(σT.set i s)[j]?=some (.dic hs kvs)):i≠j/\σT[j]?=some (.dic hs kvs):=by
 by_cases e:i=j
 ·subst e
  have hi:i<σT.length:=by simpa using (List.getElem?_eq_some_iff.mp h).1
  rw [List.getElem?_set_self hi] at h
  exact absurd (Option.some.inj h) (hn hs kvs)
 ·rw [List.getElem?_set_ne e] at h
  exact ⟨e,h⟩
theorem DicOk.setS {B:Hp} {p0 ps:List Addr} {σT:List Sl} {σ:L2.St} (o:DicOk K B p0 H ps σT σ) {i:Nat} {s:Sl} {v:Option V} (hn:∀ hs kvs,s≠.dic hs kvs):DicOk K B p0 H ps (σT.set i s) (σ.set i v) :=
 o.to (fun j hs kvs h=>let ⟨e,h'⟩:=dic_set hn h;⟨h',List.getElem?_set_ne e⟩) (fun p φ a b _=>⟨a,rfl⟩) (fun p φ _ _ a b=>⟨a,b⟩) (L2.Same.refl _)
theorem DicOk.setT {B:Hp} {p0 ps:List Addr} {σT:List Sl} {σ:L2.St} (o:DicOk K B p0 H ps σT σ) {i:Nat} {s:Sl} (hn:∀ hs kvs,s≠.dic hs kvs):DicOk K B p0 H ps (σT.set i s) σ :=
 o.to (fun j hs kvs h=>⟨(dic_set hn h).2,rfl⟩) (fun p φ a b _=>⟨a,rfl⟩) (fun p φ _ _ a b=>⟨a,b⟩) (L2.Same.refl _)
theorem DicOk.grow {B:Hp} {p0 ps:List Addr} {σT:List Sl} {σ:L2.St} (o:DicOk K B p0 H ps σT σ) (e:Same H H'):DicOk K B p0 H' ps σT σ :=
 o.to (fun j hs kvs h=>⟨h,rfl⟩) (fun p φ a b _=>⟨a,(e p _ b).trans b.symm⟩) (fun p φ _ _ a b=>⟨a,b⟩) (mask_same e)
structure Ok (K:PySem.W.Frag) (B:Hp) (p0:List Addr) (H:Hp) (ps:List Addr) (σT:List Sl) (σ:L2.St):Prop where
 base:Same B H
 sub:∀ p∈p0,p∈ps
 live:∀ p∈ps,H p≠none
 len:σT.length=σ.length
 val:∀ (i:Nat) (d:D),σT[i]?=some (.val d)->∃ v,σ[i]?=some (some v)/\Rep K (mask H ps) d v
 own:∀ (i:Nat) (ts:List D),σT[i]?=some (.own ts)->∃ p xs,σ[i]?=some (some (.ref p))/\p∈ps/\B p=none/\p∉p0/\H p=some (.lst xs)/\Reps K (mask H ps) ts xs
 dis:∀ (i j:Nat) (ts us:List D) (p:Addr),σT[i]?=some (.own ts)->σT[j]?=some (.own us)->σ[i]?=some (some (.ref p))->σ[j]?=some (some (.ref p))->i=j
 dc:DicOk K B p0 H ps σT σ
variable {B:Hp} {p0 ps:List Addr} {σT:List Sl} {σ:L2.St}
theorem Ok.grow (o:Ok K B p0 H ps σT σ) (e:Same H H'):Ok K B p0 H' ps σT σ where
 base:=o.base.trans e
 sub:=o.sub
 live:=fun p hp z=>by
  cases q:H p with
  | none=>exact o.live p hp q
  | some u=>rw [e p u q] at z;cases z
 len:=o.len
 val:=fun i d h=>let ⟨v,h1,h2⟩:=o.val i d h;⟨v,h1,h2.same (mask_same e)⟩
 own:=fun i ts h=>let ⟨p,xs,h1,h2,h3,h4,h5,h6⟩:=o.own i ts h;⟨p,xs,h1,h2,h3,h4,e _ _ h5,h6.same (mask_same e)⟩
 dis:=o.dis
 dc:=o.dc.grow e
theorem Ok.set (o:Ok K B p0 H ps σT σ) {i:Nat} {d:D} {v:V} (r:Rep K (mask H ps) d v):Ok K B p0 H ps (σT.set i (.val d)) (σ.set i (some v)) where
 base:=o.base
 sub:=o.sub
 live:=o.live
 len:=by simpa using o.len
 val:=fun j d' h=>by
  by_cases e:i=j
  ·subst e
   have hi:i<σT.length:=by
    have:=(List.getElem?_eq_some_iff.mp h).1
    simpa using this
   rw [List.getElem?_set_self hi] at h
   cases h
   exact ⟨v,by rw [List.getElem?_set_self (by rw [<- o.len];exact hi)],r⟩
  ·rw [List.getElem?_set_ne e] at h |-
   exact o.val j d' h
 own:=fun j ts h=>by
  by_cases e:i=j
  ·subst e
   have hi:i<σT.length:=by
    have:=(List.getElem?_eq_some_iff.mp h).1
    simpa using this
   rw [List.getElem?_set_self hi] at h
   cases h
  ·rw [List.getElem?_set_ne e] at h |-
   exact o.own j ts h
 dis:=fun j k ts us p h1 h2 h3 h4=>by
  have ne:∀ {l:Nat} {ts:List D},(σT.set i (.val d))[l]?=some (.own ts)->i≠l:=fun {l ts} h e=>by
   subst e
   have hi:i<σT.length:=by
    have:=(List.getElem?_eq_some_iff.mp h).1
    simpa using this
   rw [List.getElem?_set_self hi] at h
   cases h
  have e1:=ne h1
  have e2:=ne h2
  rw [List.getElem?_set_ne e1] at h1 h3
  rw [List.getElem?_set_ne e2] at h2 h4
  exact o.dis j k ts us p h1 h2 h3 h4
 dc:=o.dc.setS fun _ _ z=>nomatch z
theorem Ok.setOwn (o:Ok K B p0 H ps σT σ) {i:Nat} {ts:List D} {xs:List V} {p:Addr} (hp:H p=none) (r:Reps K (mask H ps) ts xs):Ok K B p0 (upd H p (.lst xs)) (p::ps) (σT.set i (.own ts)) (σ.set i (some (.ref p))):=by
 have hm:mask (upd H p (.lst xs)) (p::ps)=mask H ps:=mask_new hp
 have hps:p∉ps:=fresh_notin o.live hp
 have hn:∀ {l:Nat} {us:List D},i≠l->σT[l]?=some (.own us)->σ[l]?≠some (some (.ref p)):=fun {l us} _ h z=>by
  obtain ⟨q,_,h1,h2,_⟩:=o.own l us h
  rw [z] at h1
  cases h1
  exact hps h2
 refine ⟨o.base.trans (same_new hp),fun q hq=>List.mem_cons_of_mem _ (o.sub q hq),fun q hq=>?_,by simpa using o.len,fun j d h=>?_,fun j us h=>?_,fun j k us ws q h1 h2 h3 h4=>?_,?_⟩
 ·by_cases e:q=p
  ·subst e;rw [upd_same];simp
  ·rw [upd_ne e]
   rcases List.mem_cons.mp hq with z | z
   ·exact absurd z e
   ·exact o.live q z
 ·rw [hm]
  by_cases e:i=j
  ·subst e
   have hi:i<σT.length:=by simpa using (List.getElem?_eq_some_iff.mp h).1
   rw [List.getElem?_set_self hi] at h
   cases h
  ·rw [List.getElem?_set_ne e] at h |-
   exact o.val j d h
 ·rw [hm]
  by_cases e:i=j
  ·subst e
   have hi:i<σT.length:=by simpa using (List.getElem?_eq_some_iff.mp h).1
   rw [List.getElem?_set_self hi] at h
   cases h
   refine ⟨p,xs,by rw [List.getElem?_set_self (by rw [<- o.len];exact hi)],List.mem_cons_self ..,?_,fun z=>hps (o.sub p z),upd_same,r⟩
   cases q:B p with
   | none=>rfl
   | some u=>rw [o.base p u q] at hp;cases hp
  ·rw [List.getElem?_set_ne e] at h |-
   obtain ⟨q,ys,h1,h2,h3,h4,h5,h6⟩:=o.own j us h
   refine ⟨q,ys,h1,List.mem_cons_of_mem _ h2,h3,h4,?_,h6⟩
   rw [upd_ne (fun z:q=p=>hps (z▸h2))]
   exact h5
 ·by_cases e1:i=j
  ·by_cases e2:i=k
   ·exact e1.symm.trans e2
   ·subst e1
    have hi:i<σT.length:=by simpa using (List.getElem?_eq_some_iff.mp h1).1
    rw [List.getElem?_set_self (by rw [<- o.len];exact hi)] at h3
    cases h3
    rw [List.getElem?_set_ne e2] at h2 h4
    exact absurd h4 (hn e2 h2)
  ·by_cases e2:i=k
   ·subst e2
    have hi:i<σT.length:=by simpa using (List.getElem?_eq_some_iff.mp h2).1
    rw [List.getElem?_set_self (by rw [<- o.len];exact hi)] at h4
    cases h4
    rw [List.getElem?_set_ne e1] at h1 h3
    exact absurd h3 (hn e1 h1)
   ·rw [List.getElem?_set_ne e1] at h1 h3
    rw [List.getElem?_set_ne e2] at h2 h4
    exact o.dis j k us ws q h1 h2 h3 h4
 ·exact (o.dc.setS (i:=i) (s:=.own ts) (v:=some (.ref p)) fun _ _ z=>nomatch z).to (fun j hs kvs h=>⟨h,rfl⟩) (fun q φ a b _=>⟨List.mem_cons_of_mem _ a,upd_ne fun z=>by rw [z,hp] at b;cases b⟩) (fun q φ _ _ a b=>⟨a,b⟩) (by rw [hm];exact L2.Same.refl _)
theorem Ok.write (o:Ok K B p0 H ps σT σ) {i:Nat} {ts us:List D} {ys:List V} {p:Addr} (hi:σT[i]?=some (.own ts)) (hσ:σ[i]?=some (some (.ref p))) (r:Reps K (mask H ps) us ys) :
  Ok K B p0 (upd H p (.lst ys)) ps (σT.set i (.own us)) σ:=by
 obtain ⟨q,zs,h1,h2,h3,h4,h5,h6⟩:=o.own i ts hi
 rw [hσ] at h1
 cases h1
 have hm:mask (upd H p (.lst ys)) ps=mask H ps:=mask_upd h2
 have hil:i<σT.length:=(List.getElem?_eq_some_iff.mp hi).1
 refine ⟨fun b u e=>?_,o.sub,fun q hq=>?_,by simpa using o.len,fun j d h=>?_,fun j ws h=>?_,fun j k vs ws q k1 k2 k3 k4=>?_,?_⟩
 ·have ne:b≠p:=fun z=>by rw [z,h3] at e;cases e
  rw [upd_ne ne];exact o.base b u e
 ·by_cases e:q=p
  ·subst e;rw [upd_same];simp
  ·rw [upd_ne e];exact o.live q hq
 ·rw [hm]
  by_cases e:i=j
  ·subst e
   rw [List.getElem?_set_self hil] at h
   cases h
  ·rw [List.getElem?_set_ne e] at h
   exact o.val j d h
 ·rw [hm]
  by_cases e:i=j
  ·subst e
   rw [List.getElem?_set_self hil] at h
   cases h
   exact ⟨p,ys,hσ,h2,h3,h4,upd_same,r⟩
  ·rw [List.getElem?_set_ne e] at h
   obtain ⟨q,vs,k1,k2,k3,k4,k5,k6⟩:=o.own j ws h
   refine ⟨q,vs,k1,k2,k3,k4,?_,k6⟩
   rw [upd_ne (fun z:q=p=>e (o.dis i j ts ws p hi h hσ (z▸k1)))]
   exact k5
 ·have back:∀ {l:Nat} {vs:List D},(σT.set i (.own us))[l]?=some (.own vs)->∃ vs',σT[l]?=some (.own vs'):=fun {l vs} h=>by
   by_cases e:i=l
   ·subst e;exact ⟨ts,hi⟩
   ·rw [List.getElem?_set_ne e] at h;exact ⟨vs,h⟩
  obtain ⟨vs',k1⟩:=back k1
  obtain ⟨ws',k2⟩:=back k2
  exact o.dis j k vs' ws' q k1 k2 k3 k4
 ·exact (o.dc.setT (i:=i) (s:=.own us) fun _ _ z=>nomatch z).to (fun j hs kvs h=>⟨h,rfl⟩) (fun q φ a b _=>⟨a,upd_ne fun z=>by rw [z,h5] at b;cases b⟩) (fun q φ _ _ a b=>⟨a,b⟩) (by rw [hm];exact L2.Same.refl _)
theorem Ok.share (o:Ok K B p0 H ps σT σ) {i:Nat} {ts:List D} (hi:σT[i]?=some (.own ts)):∃ ps',Ok K B p0 H ps' (σT.set i (.val (.list ts))) σ/\Same (mask H ps) (mask H ps'):=by
 obtain ⟨p,xs,h1,h2,h3,h4,h5,h6⟩:=o.own i ts hi
 have hil:i<σT.length:=(List.getElem?_eq_some_iff.mp hi).1
 have hsub:Same (mask H ps) (mask H (ps.filter fun q=>decide (q≠p))):=mask_sub fun q hq=>(List.mem_filter.mp hq).1
 have hpn:p∉ps.filter fun q=>decide (q≠p):=fun z=>(of_decide_eq_true (List.mem_filter.mp z).2) rfl
 refine ⟨ps.filter fun q=>decide (q≠p),⟨o.base,fun q hq=>List.mem_filter.mpr ⟨o.sub q hq,decide_eq_true fun z=>h4 (z▸hq)⟩,fun q hq=>o.live q (List.mem_filter.mp hq).1,by simpa using o.len,fun j d h=>?_,fun j us h=>?_,fun j k us ws q k1 k2 k3 k4=>?_,?_⟩,hsub⟩
 ·by_cases e:i=j
  ·subst e
   rw [List.getElem?_set_self hil] at h
   cases h
   exact ⟨_,h1,.list (SqL.of (mask_at hpn h5)) (h6.same hsub)⟩
  ·rw [List.getElem?_set_ne e] at h
   obtain ⟨v,k1,k2⟩:=o.val j d h
   exact ⟨v,k1,k2.same hsub⟩
 ·by_cases e:i=j
  ·subst e
   rw [List.getElem?_set_self hil] at h
   cases h
  ·rw [List.getElem?_set_ne e] at h
   obtain ⟨q,ys,k1,k2,k3,k4,k5,k6⟩:=o.own j us h
   exact ⟨q,ys,k1,List.mem_filter.mpr ⟨k2,decide_eq_true fun z=>e (o.dis i j ts us p hi h h1 (z▸k1))⟩,k3,k4,k5,k6.same hsub⟩
 ·have back:∀ {l:Nat} {vs:List D},(σT.set i (.val (.list ts)))[l]?=some (.own vs)->σT[l]?=some (.own vs):=fun {l vs} h=>by
   by_cases e:i=l
   ·subst e;rw [List.getElem?_set_self hil] at h;cases h
   ·rw [List.getElem?_set_ne e] at h;exact h
  exact o.dis j k us ws q (back k1) (back k2) k3 k4
 ·exact (o.dc.setT (i:=i) (s:=.val (.list ts)) fun _ _ z=>nomatch z).to (fun j hs kvs h=>⟨h,rfl⟩) (fun q φ a b _=>⟨List.mem_filter.mpr ⟨a,decide_eq_true fun z=>by rw [z,h5] at b;cases b⟩,rfl⟩) (fun q φ _ _ a b=>⟨a,b⟩) hsub

abbrev ET:=List Sl->(D->Prop)->Prop
abbrev TTt:=List Sl->(Bool->Prop)->Prop
abbrev AT:=List Sl->(List D->Prop)->Prop
def PEt (X:Cx) (e:Expr) (t:ET):Prop:=∃ te:TE,PE X e te/\∀ (B:Hp) (p0:List Addr) (H:Hp) (ps:List Addr) (σT:List Sl) (σ:L2.St) (Q:D->Prop) (QV:VK),Ok X.K B p0 H ps σT σ->t σT Q ->
 (∀ d v H',Same H H'->Rep X.K (mask H' ps) d v->Q d->QV v H')->te σ H QV
def PTt (X:Cx) (e:Expr) (t:TTt):Prop:=∃ tt:TT,PT X e tt/\∀ (B:Hp) (p0:List Addr) (H:Hp) (ps:List Addr) (σT:List Sl) (σ:L2.St) (Q:Bool->Prop) (QV:Bool->Hp->Prop),Ok X.K B p0 H ps σT σ->t σT Q ->
 (∀ b H',Same H H'->Q b->QV b H')->tt σ H QV
def PWt (X:Cx) (e:Expr) (t:TTt):Prop:=∃ tt:TT,PW X e tt/\∀ (B:Hp) (p0:List Addr) (H:Hp) (ps:List Addr) (σT:List Sl) (σ:L2.St) (Q:Bool->Prop) (QV:Bool->Hp->Prop),Ok X.K B p0 H ps σT σ->t σT Q ->
 (∀ b H',Same H H'->Q b->QV b H')->tt σ H QV
def PAt (X:Cx) (es:List Expr) (t:AT):Prop:=∃ ta:TA,PA X es ta/\∀ (B:Hp) (p0:List Addr) (H:Hp) (ps:List Addr) (σT:List Sl) (σ:L2.St) (Q:List D->Prop) (QV:List V->Hp->Prop),Ok X.K B p0 H ps σT σ->t σT Q ->
 (∀ ds vs H',Same H H'->Reps X.K (mask H' ps) ds vs->Q ds->QV vs H')->ta σ H QV
structure EndsT where
 nx:List Sl->Prop
 rt:D->Prop
 bk:List Sl->Prop:=fun _=>False
 ct:List Sl->Prop:=fun _=>False
 ro:List D->Prop:=fun _=>False
 rp:List D->List D->Prop:=fun _ _=>False
 rq:D->List D->Prop:=fun _ _=>False
 xB:Hp->Prop:=fun _=>True
abbrev STt:=EndsT->List Sl->Prop
structure Fits (K:PySem.W.Frag) (B:Hp) (p0:List Addr) (H:Hp) (ps:List Addr) (DT:EndsT) (DV:Ends):Prop where
 nx:∀ H' ps' σT' σ',Ok K B p0 H' ps' σT' σ'->Same (mask H ps) (mask H' ps')->DT.nx σT'->DV.nx σ' H'
 bk:∀ H' ps' σT' σ',Ok K B p0 H' ps' σT' σ'->Same (mask H ps) (mask H' ps')->DT.bk σT'->DV.bk σ' H'
 ct:∀ H' ps' σT' σ',Ok K B p0 H' ps' σT' σ'->Same (mask H ps) (mask H' ps')->DT.ct σT'->DV.ct σ' H'
 rt:∀ d v H',Same B H'->Rep K (mask H' p0) d v->DT.rt d->DV.rt v H'
 ro:∀ ts p xs H',Same B H'->B p=none->p∉p0->H' p=some (.lst xs)->Reps K (mask H' (p::p0)) ts xs->DT.ro ts->DV.rt (.ref p) H'
 rp:∀ as bs r p q xs ys H',Same B H'->B r=none->B p=none->B q=none->p≠q->H' r=some (.tup [.ref p,.ref q])->H' p=some (.lst xs)->H' q=some (.lst ys)->Reps K (mask H' (p::q::p0)) as xs->Reps K (mask H' (p::q::p0)) bs ys->DT.rp as bs->DV.rt (.ref r) H'
 rq:∀ a ts r p x xs H',Same B H'->B r=none->B p=none->H' r=some (.tup [x,.ref p])->H' p=some (.lst xs)->Rep K (mask H' (p::p0)) a x->Reps K (mask H' (p::p0)) ts xs->DT.rq a ts->DV.rt (.ref r) H'
 xb:DT.xB B
theorem Fits.later {DT:EndsT} {DV:Ends} {ps':List Addr} (f:Fits K B p0 H ps DT DV) (e:Same (mask H ps) (mask H' ps')):Fits K B p0 H' ps' DT DV :=
 ⟨fun _ _ _ _ o s q=>f.nx _ _ _ _ o (e.trans s) q,fun _ _ _ _ o s q=>f.bk _ _ _ _ o (e.trans s) q,fun _ _ _ _ o s q=>f.ct _ _ _ _ o (e.trans s) q,f.rt,f.ro,f.rp,f.rq,f.xb⟩
def PSt (X:Cx) (st:Stmt) (t:STt):Prop:=∃ ts:TS,PS X st ts/\∀ (B:Hp) (p0:List Addr) (H:Hp) (ps:List Addr) (σT:List Sl) (σ:L2.St) (DT:EndsT) (DV:Ends),Ok X.K B p0 H ps σT σ->t DT σT->Fits X.K B p0 H ps DT DV->ts DV σ H
def PSst (X:Cx) (st:List Stmt) (t:STt):Prop:=∃ ts:TS,PSs X st ts/\∀ (B:Hp) (p0:List Addr) (H:Hp) (ps:List Addr) (σT:List Sl) (σ:L2.St) (DT:EndsT) (DV:Ends),Ok X.K B p0 H ps σT σ->t DT σT->Fits X.K B p0 H ps DT DV->ts DV σ H
def Op2 (X:Cx) (r:R2) (f:D->D->(D->Prop)->Prop):Prop:=∀ (H:Hp) (ps:List Addr) (d1 d2:D) (x y:V) (Q:D->Prop) (QV:VK),(∀ p∈ps,H p≠none)->Rep X.K (mask H ps) d1 x->Rep X.K (mask H ps) d2 y->f d1 d2 Q ->
 (∀ d v H',Same H H'->Rep X.K (mask H' ps) d v->Q d->QV v H')->r x y H QV
def CallT (X:Cx) (r:List V->Hp->VK->Prop) (f:List D->(D->Prop)->Prop):Prop:=∀ (H:Hp) (ps:List Addr) (ds:List D) (xs:List V) (Q:D->Prop) (QV:VK),(∀ p∈ps,H p≠none)->Reps X.K (mask H ps) ds xs->f ds Q ->
 (∀ d v H',Same H H'->Rep X.K (mask H' ps) d v->Q d->QV v H')->r xs H QV
section
variable {X:Cx} {a b e:Expr} {es:List Expr} {ta tb te:ET} {pos:Pos}

inductive VarAt (σ:List Sl) (i:Nat) (Q:D->Prop):Prop
 | mk (d:D) (h:σ[i]?=some (.val d)) (k:Q d):VarAt σ i Q
def eVar (i:Nat):ET:=fun σ Q=>VarAt σ i Q
def eC (d:D):ET:=fun _ Q=>Q d
theorem et_v (i:Nat) {x:Str} {pos:Pos} (hN:X.N[i]?=some x:=by rfl) (hv:Vis X.env.scope x:=by first | exact Or.inl rfl | exact Or.inr (Or.inl rfl) | exact Or.inr (Or.inr rfl)) (hd:(x == ("__debug__":Str))=false:=by decide)
  (hcd:(x == ("__classdict__":Str))=false:=by decide):PEt X (.Name x pos) (eVar i) :=
 ⟨_,pe_var hN hv hd hcd,fun B p0 H ps σT σ Q QV o h k=>by
  obtain ⟨d,e,q⟩:=h
  obtain ⟨v,e1,r⟩:=o.val i d e
  exact ⟨v,e1,k d v H (L2.Same.refl H) r q⟩⟩
theorem et_int {i j pos}:PEt X (.Constant (.int i) j pos) (eC (.int i)):=⟨_,pe_int,fun _ _ H _ _ _ _ _ _ h k=>k _ _ H (L2.Same.refl H) (.int i) h⟩
theorem et_bl {b j pos}:PEt X (.Constant (.bool b) j pos) (eC (.bool b)):=⟨_,pe_bl,fun _ _ H _ _ _ _ _ _ h k=>k _ _ H (L2.Same.refl H) (.bool b) h⟩
theorem et_non {j pos}:PEt X (.Constant .none j pos) (eC .none):=⟨_,pe_non,fun _ _ H _ _ _ _ _ _ h k=>k _ _ H (L2.Same.refl H) .none h⟩
theorem et_str {x j pos}:PEt X (.Constant (.str x) j pos) (eC (.str x)):=⟨_,pe_str,fun _ _ H _ _ _ _ _ _ h k=>k _ _ H (L2.Same.refl H) (.str x) h⟩
def eOp (f:D->D->(D->Prop)->Prop) (ta tb:ET):ET:=fun σ Q=>ta σ fun x=>tb σ fun y=>f x y Q
theorem op_read {r:R2} {f:D->D->(D->Prop)->Prop} (h2:Op2 X r f) {va vb:TE}
  (ha:∀ (B:Hp) (p0:List Addr) (H:Hp) (ps:List Addr) (σT:List Sl) (σ:L2.St) (Q:D->Prop) (QV:VK),Ok X.K B p0 H ps σT σ->ta σT Q->(∀ d v H',Same H H'->Rep X.K (mask H' ps) d v->Q d->QV v H')->va σ H QV)
  (hb:∀ (B:Hp) (p0:List Addr) (H:Hp) (ps:List Addr) (σT:List Sl) (σ:L2.St) (Q:D->Prop) (QV:VK),Ok X.K B p0 H ps σT σ->tb σT Q->(∀ d v H',Same H H'->Rep X.K (mask H' ps) d v->Q d->QV v H')->vb σ H QV)
  (B:Hp) (p0:List Addr) (H:Hp) (ps:List Addr) (σT:List Sl) (σ:L2.St) (Q:D->Prop) (QV:VK) (o:Ok X.K B p0 H ps σT σ) (h:eOp f ta tb σT Q) (k:∀ d v H',Same H H'->Rep X.K (mask H' ps) d v->Q d->QV v H'):tOp r va vb σ H QV:=by
 refine ha B p0 H ps σT σ _ _ o h fun d1 x H1 s1 r1 q1=>?_
 refine hb B p0 H1 ps σT σ _ _ (o.grow s1) q1 fun d2 y H2 s2 r2 q2=>?_
 exact h2 H2 ps d1 d2 x y Q QV ((o.grow s1).grow s2).live (r1.same (mask_same s2)) r2 q2 fun d v H' s' r' q'=>k d v H' (s1.trans (s2.trans s')) r' q'
theorem et_op {op:Operator} {r:R2} {f:D->D->(D->Prop)->Prop} (ho:OpR X (binaryOp op) r) (h2:Op2 X r f) (ha:PEt X a ta) (hb:PEt X b tb):PEt X (.BinOp a op b pos) (eOp f ta tb):=by
 obtain ⟨va,pa,ra⟩:=ha
 obtain ⟨vb,pb,rb⟩:=hb
 exact ⟨_,pe_op ho pa pb,op_read h2 ra rb⟩
theorem et_cmp {op:CmpOp} {r:R2} {f:D->D->(D->Prop)->Prop} (ho:OpR X (compareOp op) r) (h2:Op2 X r f) (ha:PEt X a ta) (hb:PEt X b tb) (hm:behindInMarks op b=false:=by first | exact nomark _ | rfl):PEt X (.Compare a [op] [b] pos) (eOp f ta tb):=by
 obtain ⟨va,pa,ra⟩:=ha
 obtain ⟨vb,pb,rb⟩:=hb
 exact ⟨_,pe_cmpR ho pa pb hm,op_read h2 ra rb⟩
theorem et_ix {r:R2} {f:D->D->(D->Prop)->Prop} (ho:IxR X r) (h2:Op2 X r f) (ha:PEt X a ta) (hb:PEt X b tb) (hs:PlainIx b:=by intro _ _;rfl):PEt X (.Subscript a b pos) (eOp f ta tb):=by
 obtain ⟨va,pa,ra⟩:=ha
 obtain ⟨vb,pb,rb⟩:=hb
 exact ⟨_,pe_ix ho pa pb hs,op_read h2 ra rb⟩
def eNeg (ta:ET):ET:=fun σ Q=>ta σ fun x=>match x with | .int i=>Q (.int (-i)) | _=>False
theorem et_neg (ha:PEt X a ta):PEt X (.UnaryOp .USub a pos) (eNeg ta):=by
 obtain ⟨va,pa,ra⟩:=ha
 refine ⟨_,pe_un un_neg pa,fun B p0 H ps σT σ Q QV o h k=>ra B p0 H ps σT σ _ _ o h fun d x H1 s1 r1 q1=>?_⟩
 cases r1 with
 | int i=>exact ⟨i,rfl,k _ _ H1 s1 (.int _) q1⟩
 | _=>exact q1.elim
def aNil:AT:=fun _ Q=>Q []
def aCons (t:ET) (r:AT):AT:=fun σ Q=>t σ fun x=>r σ fun xs=>Q (x::xs)
theorem at_nil:PAt X [] aNil:=⟨_,pa_nil,fun _ _ H _ _ _ _ _ _ h k=>k _ _ H (L2.Same.refl H) .nil h⟩
theorem at_cons {tr:AT} (ha:PEt X e te) (hr:PAt X es tr) (hs:starEach (e::es) X.env=(false,eval e X.env)::starEach es X.env:=by rfl):PAt X (e::es) (aCons te tr):=by
 obtain ⟨va,pa,ra⟩:=ha
 obtain ⟨vr,pr,rr⟩:=hr
 refine ⟨_,pa_cons pa pr hs,fun B p0 H ps σT σ Q QV o h k=>ra B p0 H ps σT σ _ _ o h fun d x H1 s1 r1 q1=>?_⟩
 refine rr B p0 H1 ps σT σ _ _ (o.grow s1) q1 fun ds xs H2 s2 r2 q2=>?_
 exact k _ _ H2 (s1.trans s2) (.cons (r1.same (mask_same s2)) r2) q2
def eTup (t:AT):ET:=fun σ Q=>t σ fun ds=>ds.length<=1000/\Q (.tuple ds)
def eLst (t:AT):ET:=fun σ Q=>t σ fun ds=>ds.length<=1000/\Q (.list ds)
theorem rep_tup {ps:List Addr} {p:Addr} {ds:List D} {xs:List V} (live:∀ q∈ps,H q≠none) (hp:H p=none) (r:Reps K (mask H ps) ds xs):Rep K (mask (upd H p (.tup xs)) ps) (.tuple ds) (.ref p) :=
 .tuple (SqT.of (mask_at (fresh_notin live hp) upd_same)) (r.same (mask_same (same_new hp)))
theorem rep_lst {ps:List Addr} {p:Addr} {ds:List D} {xs:List V} (live:∀ q∈ps,H q≠none) (hp:H p=none) (r:Reps K (mask H ps) ds xs):Rep K (mask (upd H p (.lst xs)) ps) (.list ds) (.ref p) :=
 .list (SqL.of (mask_at (fresh_notin live hp) upd_same)) (r.same (mask_same (same_new hp)))
theorem le_line {n:Nat} (h:n<=1000):n<=sizeLine:=Nat.le_of_lt (small1000 h)
theorem et_tup {x1} {t:AT} (h:PAt X es t):PEt X (.Tuple es x1 pos) (eTup t):=by
 obtain ⟨v,p,r⟩:=h
 refine ⟨_,pe_tup p,fun B p0 H ps σT σ Q QV o h k=>r B p0 H ps σT σ _ _ o h fun ds xs H1 s1 r1 q1=>⟨le_line (by rw [<- r1.length];exact q1.1),fun q hq=>?_⟩⟩
 exact k _ _ _ (s1.trans (same_new hq)) (rep_tup (o.grow s1).live hq r1) q1.2
theorem et_lst {t:AT} (h:PAt X es t):PEt X (.List es pos) (eLst t):=by
 obtain ⟨v,p,r⟩:=h
 refine ⟨_,pe_lst p,fun B p0 H ps σT σ Q QV o h k=>r B p0 H ps σT σ _ _ o h fun ds xs H1 s1 r1 q1=>⟨le_line (by rw [<- r1.length];exact q1.1),fun q hq=>?_⟩⟩
 exact k _ _ _ (s1.trans (same_new hq)) (rep_lst (o.grow s1).live hq r1) q1.2
def eCall (f:List D->(D->Prop)->Prop) (t:AT):ET:=fun σ Q=>t σ fun ds=>f ds Q
abbrev SpT:=List D->(D->Prop)->Prop
def liftSp (K:PySem.W.Frag) (sp:SpT):Sp:=fun vs H Q _=>∃ (ps:List Addr) (ds:List D) (QD:D->Prop),(∀ p∈ps,H p≠none)/\Reps K (mask H ps) ds vs/\sp ds QD/\∀ d v H',Same H H'->Rep K (mask H' ps) d v->QD d->Q v H'
theorem et_call {k:Nat} {f:Addr} {fd:FuncData} {pn:List Str} {sp:SpT} {x:Str} {p:Pos} {t:AT} (F:FnOk X.prog X.w X.K X.mg X.base CX0 k f fd pn (liftSp X.K sp)) (hm:X.mg x=some (.ref f)) (hk:PySem.W.keepIn X.K (.ref f)=true) (hb:Binds X.K fd pn [])
  (hr:Room k X.A) (ha:PAt X (e::es) t) (pc:∀ {ta:TA},PA X (e::es) ta->PE X (.Call (.Name x p) (e::es) [] pos) (tCall (liftSp X.K sp) [] E0 ta)):PEt X (.Call (.Name x p) (e::es) [] pos) (eCall sp t):=by
 obtain ⟨v,pa,ra⟩:=ha
 refine ⟨_,pc pa,fun B p0 H ps σT σ Q QV o h k=>ra B p0 H ps σT σ _ _ o h fun ds xs H1 s1 r1 q1=>?_⟩
 show liftSp X.K sp (xs++[]) H1 QV E0
 rw [List.append_nil]
 exact ⟨ps,ds,Q,(o.grow s1).live,r1,q1,fun d v H' s' r' q'=>k d v H' (s1.trans s') r' q'⟩
def cTest (t:ET):TTt:=fun σ Q=>t σ fun x=>match x with | .bool b=>Q b | _=>False
theorem tt_val (h:PEt X e te) (pt:∀ {t:TE},PE X e t->PT X e (tB t)):PTt X e (cTest te):=by
 obtain ⟨v,p,r⟩:=h
 refine ⟨_,pt p,fun B p0 H ps σT σ Q QV o h k=>r B p0 H ps σT σ _ _ o h fun d x H1 s1 r1 q1=>?_⟩
 cases r1 with
 | bool c=>exact ⟨c,rfl,k c H1 s1 q1⟩
 | _=>exact q1.elim
theorem tt_cmp {op:CmpOp} {r:R2} {f:D->D->(D->Prop)->Prop} (ho:OpR X (compareOp op) r) (h2:Op2 X r f) (ha:PEt X a ta) (hb:PEt X b tb) (hm:behindInMarks op b=false:=by first | exact nomark _ | rfl):PTt X (.Compare a [op] [b] pos) (cTest (eOp f ta tb)):=by
 obtain ⟨va,pa,ra⟩:=ha
 obtain ⟨vb,pb,rb⟩:=hb
 refine ⟨_,pt_cmpR ho pa pb hm,fun B p0 H ps σT σ Q QV o h k=>?_⟩
 refine op_read h2 ra rb B p0 H ps σT σ (fun x=>match x with | .bool b=>Q b | _=>False) _ o h fun d v H' s' r' q'=>?_
 cases r' with
 | bool c=>exact ⟨c,rfl,k c H' s' q'⟩
 | _=>exact q'.elim
def cNot (t:TTt):TTt:=fun σ Q=>t σ fun b=>Q (!b)
def cAnd (t u:TTt):TTt:=fun σ Q=>t σ fun b=>if b=true then u σ Q else Q false
def cOr (t u:TTt):TTt:=fun σ Q=>t σ fun b=>if b=true then Q true else u σ Q
variable {tA tB':TTt} {rest:List Expr}
theorem tt_not (h:PTt X a tA):PTt X (.UnaryOp .Not a pos) (cNot tA):=by
 obtain ⟨v,p,r⟩:=h
 exact ⟨_,pt_not p,fun B p0 H ps σT σ Q QV o h k=>r B p0 H ps σT σ _ _ o h fun b H' s' q'=>k _ H' s' q'⟩
theorem tw_pt (h:PWt X e tA):PTt X e tA:=by
 obtain ⟨v,p,r⟩:=h
 exact ⟨_,p.pt,r⟩
theorem tw_and1 (h:PTt X a tA):PWt X (.BoolOp .And [a] pos) tA:=by
 obtain ⟨v,p,r⟩:=h
 exact ⟨_,pw_and1 p,r⟩
theorem tw_or1 (h:PTt X a tA):PWt X (.BoolOp .Or [a] pos) tA:=by
 obtain ⟨v,p,r⟩:=h
 exact ⟨_,pw_or1 p,r⟩
theorem tw_and (ha:PTt X a tA) (hb:PWt X (.BoolOp .And (b::rest) pos) tB'):PWt X (.BoolOp .And (a::b::rest) pos) (cAnd tA tB'):=by
 obtain ⟨va,pa,ra⟩:=ha
 obtain ⟨vb,pb,rb⟩:=hb
 refine ⟨_,pw_and pa pb,fun B p0 H ps σT σ Q QV o h k=>ra B p0 H ps σT σ _ _ o h fun c H1 s1 q1=>?_⟩
 cases c with
 | true=>exact rb B p0 H1 ps σT σ Q _ (o.grow s1) q1 fun b H' s' q'=>k b H' (s1.trans s') q'
 | false=>exact k _ H1 s1 q1
theorem tw_or (ha:PTt X a tA) (hb:PWt X (.BoolOp .Or (b::rest) pos) tB'):PWt X (.BoolOp .Or (a::b::rest) pos) (cOr tA tB'):=by
 obtain ⟨va,pa,ra⟩:=ha
 obtain ⟨vb,pb,rb⟩:=hb
 refine ⟨_,pw_or pa pb,fun B p0 H ps σT σ Q QV o h k=>ra B p0 H ps σT σ _ _ o h fun c H1 s1 q1=>?_⟩
 cases c with
 | true=>exact k _ H1 s1 q1
 | false=>exact rb B p0 H1 ps σT σ Q _ (o.grow s1) q1 fun b H' s' q'=>k b H' (s1.trans s') q'
def eAnd (ta tb:ET):ET:=fun σ Q=>ta σ fun x=>match x with | .bool c=>if c=true then tb σ Q else Q (.bool false) | _=>False
def eOr (ta tb:ET):ET:=fun σ Q=>ta σ fun x=>match x with | .bool c=>if c=true then Q (.bool true) else tb σ Q | _=>False
theorem et_one {op} (h:PEt X a ta):PEt X (.BoolOp op [a] pos) ta:=by
 obtain ⟨v,p,r⟩:=h
 exact ⟨_,pe_one p,r⟩
theorem et_and (ha:PEt X a ta) (hb:PEt X (.BoolOp .And (b::rest) pos) tb):PEt X (.BoolOp .And (a::b::rest) pos) (eAnd ta tb):=by
 obtain ⟨va,pa,ra⟩:=ha
 obtain ⟨vb,pb,rb⟩:=hb
 refine ⟨_,pe_and pa pb,fun B p0 H ps σT σ Q QV o h k=>ra B p0 H ps σT σ _ _ o h fun d x H1 s1 r1 q1=>?_⟩
 cases r1 with
 | bool c =>
  refine ⟨c,rfl,?_⟩
  cases c with
  | true=>exact rb B p0 H1 ps σT σ Q _ (o.grow s1) q1 fun d v H' s' r' q'=>k d v H' (s1.trans s') r' q'
  | false=>exact k _ _ H1 s1 (.bool false) q1
 | _=>exact q1.elim
end
end TL

namespace TL
open PySem PySem.Spec PyProof.Rows L2
variable {K:PySem.W.Frag} {H H' H1 H2:Hp} {B:Hp} {p0 ps:List Addr} {σT:List Sl} {σ:L2.St}
section
variable {X:Cx} {a b c e:Expr} {es:List Expr} {ta tb tc te:ET} {pos:Pos}
abbrev OT:=List Sl->(Option Int->Prop)->Prop
def POt (X:Cx) (e:Option Expr) (t:OT):Prop:=∃ to:TO,PO X e to/\∀ (B:Hp) (p0:List Addr) (H:Hp) (ps:List Addr) (σT:List Sl) (σ:L2.St) (Q:Option Int->Prop) (QV:Option Int->Hp->Prop),Ok X.K B p0 H ps σT σ->t σT Q ->
 (∀ i H',Same H H'->Q i->QV i H')->to σ H QV
def oNone:OT:=fun _ Q=>Q none
def oSome (t:ET):OT:=fun σ Q=>t σ fun x=>match x with | .int i=>Q (some i) | _=>False
theorem ot_none:POt X none oNone:=⟨_,po_none,fun _ _ H _ _ _ _ _ _ h k=>k _ H (L2.Same.refl H) h⟩
theorem ot_some (h:PEt X e te):POt X (some e) (oSome te):=by
 obtain ⟨v,p,r⟩:=h
 refine ⟨_,po_some p,fun B p0 H ps σT σ Q QV o h k=>r B p0 H ps σT σ _ _ o h fun d x H1 s1 r1 q1=>?_⟩
 cases r1 with
 | int i=>exact ⟨i,rfl,k _ H1 s1 q1⟩
 | _=>exact q1.elim
def SlT (X:Cx) (r:V->Option Int->Option Int->Hp->VK->Prop) (f:D->Option Int->Option Int->(D->Prop)->Prop):Prop:=∀ (H:Hp) (ps:List Addr) (d:D) (x:V) (lo hi:Option Int) (Q:D->Prop) (QV:VK),(∀ p∈ps,H p≠none)->Rep X.K (mask H ps) d x->f d lo hi Q ->
 (∀ d v H',Same H H'->Rep X.K (mask H' ps) d v->Q d->QV v H')->r x lo hi H QV
def eSl (f:D->Option Int->Option Int->(D->Prop)->Prop) (t:ET) (tl th:OT):ET:=fun σ Q=>t σ fun x=>tl σ fun l=>th σ fun u=>f x l u Q
theorem et_slice {r:V->Option Int->Option Int->Hp->VK->Prop} {f:D->Option Int->Option Int->(D->Prop)->Prop} {lo hi:Option Expr} {tl th:OT} {p2:Pos} (hr:SlR X r) (h2:SlT X r f) (he:PEt X e te) (hl:POt X lo tl) (hu:POt X hi th) :
  PEt X (.Subscript e (.Slice lo hi none p2) pos) (eSl f te tl th):=by
 obtain ⟨ve,pe,re⟩:=he
 obtain ⟨vl,pl,rl⟩:=hl
 obtain ⟨vu,pu,ru⟩:=hu
 refine ⟨_,pe_slice hr pe pl pu,fun B p0 H ps σT σ Q QV o h k=>re B p0 H ps σT σ _ _ o h fun d x H1 s1 r1 q1=>?_⟩
 refine rl B p0 H1 ps σT σ _ _ (o.grow s1) q1 fun l H2 s2 q2=>?_
 refine ru B p0 H2 ps σT σ _ _ ((o.grow s1).grow s2) q2 fun u H3 s3 q3=>?_
 exact h2 H3 ps d x l u Q QV (((o.grow s1).grow s2).grow s3).live ((r1.same (mask_same s2)).same (mask_same s3)) q3 fun d v H' s' r' q'=>k d v H' (s1.trans (s2.trans (s3.trans s'))) r' q'

variable {st:Stmt} {rest:List Stmt} {t u:STt}
def sNext:STt:=fun DT σ=>DT.nx σ
def sSeq (t u:STt):STt:=fun DT σ=>t { DT with nx:=u DT } σ
theorem st_nil:PSst X [] sNext:=⟨_,pss_nil,fun B p0 H ps σT σ DT DV o h f=>f.nx H ps σT σ o (L2.Same.refl _) h⟩
theorem st_cons (h1:PSt X st t) (h2:PSst X rest u):PSst X (st::rest) (sSeq t u):=by
 obtain ⟨v1,p1,r1⟩:=h1
 obtain ⟨v2,p2,r2⟩:=h2
 refine ⟨_,pss_cons p1 p2,fun B p0 H ps σT σ DT DV o h f=>r1 B p0 H ps σT σ { DT with nx:=u DT } { DV with nx:=v2 DV } o h ⟨fun H' ps' σT' σ' o' s' q'=>?_,f.bk,f.ct,f.rt,f.ro,f.rp,f.rq,f.xb⟩⟩
 exact r2 B p0 H' ps' σT' σ' DT DV o' q' (f.later s')
theorem st_one (h1:PSt X st t):PSst X [st] t:=by
 obtain ⟨v1,p1,r1⟩:=h1
 exact ⟨_,pss_one p1,r1⟩
def sShare (i:Nat) (t:STt):STt:=fun DT σ=>∃ ts,σ[i]?=some (.own ts)/\t DT (σ.set i (.val (.list ts)))
theorem st_share {sts:List Stmt} (i:Nat) (h:PSst X sts t):PSst X sts (sShare i t):=by
 obtain ⟨v,p,r⟩:=h
 refine ⟨_,p,fun B p0 H ps σT σ DT DV o h f=>?_⟩
 obtain ⟨ts,e,h⟩:=h
 obtain ⟨ps',o',s'⟩:=o.share e
 exact r B p0 H ps' _ σ DT DV o' h (f.later s')
def sRet (te:ET):STt:=fun DT σ=>te σ DT.rt
theorem st_ret (h:PEt X e te):PSt X (.Return (some e) pos) (sRet te):=by
 obtain ⟨v,p,r⟩:=h
 refine ⟨_,ps_ret p,fun B p0 H ps σT σ DT DV o h f=>r B p0 H ps σT σ _ _ o h fun d x H' s' r' q'=>?_⟩
 exact f.rt d x H' (o.base.trans s') (r'.same (mask_sub o.sub)) q'
def sIf (c:TTt) (t u:STt):STt:=fun DT σ=>c σ fun b=>if b=true then t DT σ else u DT σ
theorem st_if {c:Expr} {a b:List Stmt} {tc:TTt} (hc:PTt X c tc) (ha:PSst X a t) (hb:PSst X b u):PSt X (.If c a b pos) (sIf tc t u):=by
 obtain ⟨vc,pc,rc⟩:=hc
 obtain ⟨va,pa,ra⟩:=ha
 obtain ⟨vb,pb,rb⟩:=hb
 refine ⟨_,ps_if pc pa pb,fun B p0 H ps σT σ DT DV o h f=>rc B p0 H ps σT σ _ _ o h fun d H1 s1 q1=>?_⟩
 cases d with
 | true=>exact ra B p0 H1 ps σT σ DT DV (o.grow s1) q1 (f.later (mask_same s1))
 | false=>exact rb B p0 H1 ps σT σ DT DV (o.grow s1) q1 (f.later (mask_same s1))
def sSet (i:Nat) (te:ET):STt:=fun DT σ=>te σ fun d=>DT.nx (σ.set i (.val d))
theorem st_set {i:Nat} {x:Str} {pos':Pos} (h:PEt X e te) (ps':∀ {v:TE},PE X e v->PS X (.Assign [.Name x pos'] e pos) (tAsg v (gName i))):PSt X (.Assign [.Name x pos'] e pos) (sSet i te):=by
 obtain ⟨v,p,r⟩:=h
 refine ⟨_,ps' p,fun B p0 H ps σT σ DT DV o h f=>r B p0 H ps σT σ _ _ o h fun d x H' s' r' q'=>?_⟩
 exact f.nx H' ps _ _ ((o.grow s').set r') (mask_same s') q'
def sOwn (i:Nat) (t:AT):STt:=fun DT σ=>t σ fun ds=>ds.length<=1000/\DT.nx (σ.set i (.own ds))
theorem st_own {i:Nat} {x:Str} {pos' p2:Pos} {t:AT} (h:PAt X es t) (ps':∀ {v:TE},PE X (.List es p2) v->PS X (.Assign [.Name x pos'] (.List es p2) pos) (tAsg v (gName i))):PSt X (.Assign [.Name x pos'] (.List es p2) pos) (sOwn i t):=by
 obtain ⟨v,p,r⟩:=h
 refine ⟨_,ps' (pe_lst p),fun B p0 H ps σT σ DT DV o h f=>r B p0 H ps σT σ _ _ o h fun ds xs H1 s1 r1 q1=>⟨le_line (by rw [<- r1.length];exact q1.1),fun q hq=>?_⟩⟩
 exact f.nx _ (q::ps) _ _ ((o.grow s1).setOwn hq r1) ((mask_same s1).trans (by rw [mask_new hq];exact L2.Same.refl _)) q1.2
def sApp (i:Nat) (te:ET):STt:=fun DT σ=>∃ ts,σ[i]?=some (.own ts)/\te σ fun d=>ts.length<=100000/\DT.nx (σ.set i (.own (ts++[d])))
theorem st_app {i:Nat} {n e:Expr} {te:ET} {ap cp:Pos} (hn:PE X n (tVar i)) (he:PEt X e te) (hs:starEach [e] X.env=(false,eval e X.env)::starEach [] X.env:=by rfl)
  (pb:∀ {ta:TA},PA X [e] ta->PS X (.Expr (.Call (.Attribute n "append" ap) [e] [] cp) pos) (tDrop (tBM X.K "list" rAppend (tVar i) ta))):PSt X (.Expr (.Call (.Attribute n "append" ap) [e] [] cp) pos) (sApp i te):=by
 obtain ⟨v,p,r⟩:=he
 refine ⟨_,pb (pa_cons p pa_nil hs),fun B p0 H ps σT σ DT DV o h f=>?_⟩
 obtain ⟨ts,e,h⟩:=h
 obtain ⟨q,xs,h1,h2,h3,h4,h5,h6⟩:=o.own i ts e
 refine ⟨.ref q,h1,.inl ⟨rfl,xs,SqL.of h5⟩,r B p0 H ps σT σ _ _ o h fun d x H1 s1 r1 q1=>?_⟩
 refine ⟨q,xs,x,rfl,rfl,s1 _ _ h5,?_,?_⟩
 ·rw [<- h6.length]
  have:sizeLine=2 ^ 24:=rfl
  omega
 ·have o1:=o.grow s1
  have hr:Reps X.K (mask H1 ps) (ts++[d]) (xs++[x]):=(h6.same (mask_same s1)).append (.cons r1 .nil)
  exact f.nx _ ps _ σ (o1.write (ys:=xs++[x]) e h1 hr) ((mask_same s1).trans (by rw [mask_upd h2];exact L2.Same.refl _)) q1.2

def signs (x:Str):List D:=x.cps.toList.map fun c=>.str ⟨#[c]⟩
def itemsOf:D->Option (List D)
 | .list ts=>some ts
 | .tuple ts=>some ts
 | .str x=>some (signs x)
 | _=>none
def noOwn (σ:List Sl):Prop:=∀ (i:Nat) (s:Sl),(∀ d,s≠.val d)->s≠.un->σ[i]?≠some s
theorem noOwn_set {σ:List Sl} (h:noOwn σ) (i:Nat) (d:D):noOwn (σ.set i (.val d)):=fun j s hv hu e=>by
 by_cases z:i=j
 ·subst z
  have hi:i<σ.length:=by simpa using (List.getElem?_eq_some_iff.mp e).1
  rw [List.getElem?_set_self hi] at e;exact hv d (Option.some.inj e).symm
 ·rw [List.getElem?_set_ne z] at e;exact h j s hv hu e
theorem noOwn.own {σ:List Sl} (h:noOwn σ) (i:Nat) (ts:List D):σ[i]?≠some (.own ts):=h i _ (fun _ z=>nomatch z) fun z=>nomatch z
theorem noOwn.dic {σ:List Sl} (h:noOwn σ) (i:Nat) (hs:List Int) (kvs:List (D×D)):σ[i]?≠some (.dic hs kvs):=h i _ (fun _ z=>nomatch z) fun z=>nomatch z
abbrev GT:=D->List Sl->(List Sl->Prop)->Prop
def PGt (X:Cx) (tg:Expr) (g:GT):Prop:=∃ gv:TG,PG X tg gv/\∀ (B:Hp) (p0:List Addr) (H:Hp) (ps:List Addr) (σT:List Sl) (σ:L2.St) (d:D) (v:V) (Q:List Sl->Prop) (QV:L2.St->Hp->Prop),Ok X.K B p0 H ps σT σ->Rep X.K (mask H ps) d v->g d σT Q ->
 (∀ σT' σ',Ok X.K B p0 H ps σT' σ'->(noOwn σT->noOwn σT')->Q σT'->QV σ' H)->gv v σ H QV
def gN (i:Nat):GT:=fun d σ Q=>Q (σ.set i (.val d))
theorem gt_name {i:Nat} {x:Str} {p:Pos} (h:PG X (.Name x p) (gName i)):PGt X (.Name x p) (gN i) :=
 ⟨_,h,fun B p0 H ps σT σ d v Q QV o r h k=>k _ _ (o.set r) (fun n=>noOwn_set n _ _) h⟩
def gP (i j:Nat):GT:=fun d σ Q=>∃ a b,d=.tuple [a,b]/\Q ((σ.set i (.val a)).set j (.val b))
theorem gt_pair {i j:Nat} {t:Expr} (h:PG X t (gTup X.K 2 (gCons (gName i) (gCons (gName j) gNil)))):PGt X t (gP i j) :=
 ⟨_,h,fun B p0 H ps σT σ d v Q QV o r h k=>by
  obtain ⟨a,b,rfl,h⟩:=h
  cases r with
  | @tuple p xs _ hq r =>
   cases r with
   | cons ra r =>
    cases r with
    | cons rb r =>
     cases r
     exact ⟨_,_,rfl,Same.seqT mask_le hq,rfl,_,_,rfl,_,_,rfl,rfl,k _ _ ((o.set ra).set rb) (fun n=>noOwn_set (noOwn_set n _ _) _ _) h⟩⟩
structure Runs (K:PySem.W.Frag) (Hs:Hp) (ts:List D) (J:It):Prop where
 stop:∀ (i:Nat) (H:Hp),Same Hs H->ts.length<=i->J.stop i H
 go:∀ (i:Nat) (H:Hp),Same Hs H->i<ts.length->J.go i H
 yld:∀ (i:Nat) (H:Hp) (ps:List Addr) (y:V) (H':Hp),(∀ p∈ps,H p≠none)->Same Hs (mask H ps)->i<ts.length->J.yld i H y H'->Same H H'/\∃ dx,ts[i]?=some dx/\Rep K (mask H' ps) dx y
abbrev IT:=List Sl->(List D->Prop)->Prop
def PIt (X:Cx) (tg iter:Expr) (t:IT):Prop:=∃ wi:TI,PI X tg iter wi/\∀ (B:Hp) (p0:List Addr) (H:Hp) (ps:List Addr) (σT:List Sl) (σ:L2.St) (Q:List D->Prop) (R:It->Hp->Prop),Ok X.K B p0 H ps σT σ->t σT Q ->
 (∀ ts J H',Same H H'->Runs X.K (mask H' ps) ts J->Q ts->R J H')->wi σ H R
def iVal (te:ET):IT:=fun σ Q=>te σ fun d=>∃ ts,itemsOf d=some ts/\Q ts
theorem runs_of {x:V} {d:D} {ts:List D} {Hs:Hp} (r:Rep K Hs d x) (hi:itemsOf d=some ts) {R:It->Hp->Prop} (hs:Same Hs H1) (h:∀ J:It,Runs K Hs ts J->R J H1) :
  (∃ a,x=.ref a/\(∃ xs,SqL K H1 a xs)/\R (Itl K a) H1)\/(∃ a,x=.ref a/\(∃ xs,SqT K H1 a xs)/\R (Itt K a) H1)\/∃ z,x=.str z/\R (Its z) H1:=by
 cases r with
 | @list p xs us q rs =>
  obtain rfl:us=ts:=Option.some.inj hi
  refine .inl ⟨p,rfl,⟨xs,L2.Same.seq hs q⟩,h _ ⟨fun i H e hl=>⟨xs,L2.Same.seq e q,by rw [<- rs.length];exact hl⟩,fun i H e hl=>?_,fun i H ps y H' _ e hl hy=>?_⟩⟩
  ·obtain ⟨v,hv,_⟩:=rs.get (List.getElem?_eq_getElem hl)
   exact ⟨xs,v,L2.Same.seq e q,hv⟩
  ·obtain ⟨rfl,hy⟩:=hy
   obtain ⟨dx,h1,h2⟩:=rs.get' (hy xs (L2.Same.seq (e.trans mask_le) q))
   exact ⟨L2.Same.refl _,dx,h1,h2.same e⟩
 | @tuple p xs us q rs =>
  obtain rfl:us=ts:=Option.some.inj hi
  refine .inr (.inl ⟨p,rfl,⟨xs,Same.seqT hs q⟩,h _ ⟨fun i H e hl=>⟨xs,Same.seqT e q,by rw [<- rs.length];exact hl⟩,fun i H e hl=>?_,fun i H ps y H' _ e hl hy=>?_⟩⟩)
  ·obtain ⟨v,hv,_⟩:=rs.get (List.getElem?_eq_getElem hl)
   exact ⟨xs,v,Same.seqT e q,hv⟩
  ·obtain ⟨rfl,hy⟩:=hy
   obtain ⟨dx,h1,h2⟩:=rs.get' (hy xs (Same.seqT (e.trans mask_le) q))
   exact ⟨L2.Same.refl _,dx,h1,h2.same e⟩
 | str z =>
  obtain rfl:signs z=ts:=Option.some.inj hi
  have hl:(signs z).length=z.cps.size:=by unfold signs;simp
  refine .inr (.inr ⟨z,rfl,h _ ⟨fun i H _ e=>by rw [hl] at e;exact e,fun i H _ e=>by rw [hl] at e;exact e,fun i H ps y H' _ _ e hy=>?_⟩⟩)
  obtain ⟨rfl,c,h2,rfl⟩:=hy
  refine ⟨L2.Same.refl _,.str ⟨#[c]⟩,?_,.str _⟩
  unfold signs
  rw [List.getElem?_map]
  have:z.cps.toList[i]?=some c:=by simpa using h2
  rw [this];rfl
 | _=>cases hi
theorem it_val {tg:Expr} (he:PEt X e te):PIt X tg e (iVal te):=by
 obtain ⟨ve,pe,re⟩:=he
 refine ⟨_,pi_any pe,fun B p0 H ps σT σ Q R o h k=>re B p0 H ps σT σ _ _ o h fun d x H1 s1 r1 q1=>?_⟩
 obtain ⟨ts,hi,q⟩:=q1
 exact runs_of r1 hi mask_le fun J rj=>k ts J H1 s1 rj q
def intsTo (n:Nat):List D:=(List.range n).map fun (k:Nat)=>PyData.int (k:Int)
def iRange (t:AT):IT:=fun σ Q=>t σ fun ds=>∃ n:Int,ds=[.int n]/\-(2 ^ 62)<=n/\n<2 ^ 62/\Q (intsTo n.toNat)
theorem it_range {tg e:Expr} {t:AT} {p p':Pos} (ha:PAt X [e] t) (pr:∀ {ta:TA},PA X [e] ta->PI X tg (.Call (.Name "range" p) [e] [] p') (iRng1 ta)):PIt X tg (.Call (.Name "range" p) [e] [] p') (iRange t):=by
 obtain ⟨va,pa,ra⟩:=ha
 refine ⟨_,pr pa,fun B p0 H ps σT σ Q R o h k=>ra B p0 H ps σT σ _ _ o h fun ds xs H1 s1 r1 q1=>?_⟩
 obtain ⟨n,rfl,h1,h2,q⟩:=q1
 cases r1 with
 | cons r1 r2 =>
  cases r2
  cases r1
  refine ⟨n,rfl,h1,h2,k (intsTo n.toNat) _ H1 s1 ?_ q⟩
  have hl:(intsTo n.toNat).length=n.toNat:=by unfold intsTo;simp
  refine ⟨fun i H _ e=>by rw [hl] at e;exact e,fun i H _ e=>by rw [hl] at e;exact e,fun i H ps y H' _ _ e hy=>?_⟩
  obtain ⟨rfl,rfl⟩:=hy
  have ei:(0:Int)+(i:Int)=(i:Int):=by omega
  rw [ei]
  rw [hl] at e
  refine ⟨L2.Same.refl _,.int i,?_,.int _⟩
  unfold intsTo
  rw [List.getElem?_map,List.getElem?_range e];rfl
def sFor (ti:IT) (g:GT) (tb:STt):STt:=fun DT σ=>ti σ fun ts=>∃ P:Nat->List Sl->Prop,P 0 σ /\
 (∀ (k:Nat) (x:D) (σ':List Sl),ts[k]?=some x->P k σ'->g x σ' fun σ2=>tb { DT with nx:=P (k+1),ct:=P (k+1),bk:=DT.nx } σ2)/\∀ σ',P ts.length σ'->DT.nx σ'
theorem st_for {tg iter:Expr} {body:List Stmt} {g:GT} {tb:STt} {ti:IT} (he:PIt X tg iter ti) (hg:PGt X tg g) (hb:PSst X body tb)
  (pf:∀ {wi:TI} {gv:TG} {bv:TS},PI X tg iter wi->PG X tg gv->PSs X body bv->PS X (.For tg iter body [] pos) (tFor wi gv bv)):PSt X (.For tg iter body [] pos) (sFor ti g tb):=by
 obtain ⟨ve,pe,re⟩:=he
 obtain ⟨gv,pg,rg⟩:=hg
 obtain ⟨vb,pb,rb⟩:=hb
 refine ⟨_,pf pe pg pb,fun B p0 H ps σT σ DT DV o h f=>re B p0 H ps σT σ _ _ o h fun ts J H1 s1 rj q1=>?_⟩
 obtain ⟨P,h0,hs,hd⟩:=q1
 refine ⟨fun i m σ' H'=>m=ts.length-i/\i<=ts.length/\∃ ps' σT',Ok X.K B p0 H' ps' σT' σ'/\Same (mask H1 ps) (mask H' ps')/\P i σT',⟨_,rfl,Nat.zero_le _,ps,σT,o.grow s1,L2.Same.refl _,h0⟩,?_⟩
 rintro i m σ' H' ⟨rfl,hle,ps',σT',o',s',p'⟩
 have sH:Same (mask H1 ps) H':=s'.trans mask_le
 have f':Fits X.K B p0 H' ps' DT DV:=f.later ((mask_same s1).trans s')
 by_cases hlt:i<ts.length
 ·refine .inr ⟨rj.go i H' sH hlt,fun σ2 H2=>∃ ps2 σT2,Ok X.K B p0 H2 ps2 σT2 σ2/\Same (mask H1 ps) (mask H2 ps2)/\P (i+1) σT2,fun σ2 H2 z=>⟨ts.length-(i+1),by omega,rfl,hlt,z⟩,fun y H2 hy'=>?_⟩
  obtain ⟨s2,dx,hx,rx⟩:=rj.yld i H' ps' y H2 o'.live s' hlt hy'
  have f2:=f'.later (mask_same (ps:=ps') s2)
  have s'':Same (mask H1 ps) (mask H2 ps'):=s'.trans (mask_same s2)
  refine rg B p0 H2 ps' σT' σ' dx y _ _ (o'.grow s2) rx (hs i dx σT' hx p') fun σT3 σ3 o3 _ q3=>?_
  exact rb B p0 H2 ps' σT3 σ3 _ _ o3 q3 ⟨fun H4 ps4 σT4 σ4 o4 s4 q4=>⟨ps4,σT4,o4,s''.trans s4,q4⟩,fun H4 ps4 σT4 σ4 o4 s4 q4=>f2.nx H4 ps4 σT4 σ4 o4 s4 q4,fun H4 ps4 σT4 σ4 o4 s4 q4=>⟨ps4,σT4,o4,s''.trans s4,q4⟩,f2.rt,f2.ro,f2.rp,f2.rq,f2.xb⟩
 ·obtain rfl:i=ts.length:=by omega
  exact .inl ⟨rj.stop _ H' sH (Nat.le_refl _),f'.nx H' ps' σT' σ' o' (L2.Same.refl _) (hd σT' p')⟩

def blkSl (σ:List Sl):Option Nat->Sl
 | none=>.un
 | some j=>match σ[j]? with | some (.val d)=>.val d | _=>.un
def inBlkT (fr:List (Option Nat)) (σ:List Sl):List Sl:=fr.map (blkSl σ)
theorem blkSl_val {σ:List Sl} {q:Option Nat} {d:D} (h:blkSl σ q=.val d):∃ j,q=some j/\σ[j]?=some (.val d):=by
 cases q with
 | none=>cases h
 | some j =>
  refine ⟨j,rfl,?_⟩
  unfold blkSl at h
  dsimp only at h
  split at h
  ·next e=>cases h;exact e
  ·cases h
theorem blkSl_own {σ:List Sl} {q:Option Nat} {s:Sl} (hv:∀ d,s≠.val d) (hu:s≠.un):blkSl σ q≠s:=fun h=>by
 cases q with
 | none=>exact hu h.symm
 | some j =>
  unfold blkSl at h
  dsimp only at h
  split at h
  ·exact hv _ h.symm
  ·exact hu h.symm
theorem noOwn_blk (fr:List (Option Nat)) (σ:List Sl):noOwn (inBlkT fr σ):=fun i s hv hu h=>by
 unfold inBlkT at h
 rw [List.getElem?_map] at h
 cases hf:fr[i]? with
 | none=>rw [hf] at h;cases h
 | some q =>
  rw [hf] at h
  exact blkSl_own hv hu (Option.some.inj h)
theorem Ok.blk (o:Ok K B p0 H ps σT σ) (fr:List (Option Nat)):Ok K B p0 H ps (inBlkT fr σT) (inBlk fr σ) where
 base:=o.base
 sub:=o.sub
 live:=o.live
 len:=by unfold inBlkT inBlk;simp
 val:=fun i d h=>by
  unfold inBlkT at h
  rw [List.getElem?_map] at h
  cases hf:fr[i]? with
  | none=>rw [hf] at h;cases h
  | some q =>
   rw [hf] at h
   obtain ⟨j,rfl,e⟩:=blkSl_val (Option.some.inj h)
   obtain ⟨v,h1,h2⟩:=o.val j d e
   refine ⟨v,?_,h2⟩
   unfold inBlk
   rw [List.getElem?_map,hf]
   simp [h1]
 own:=fun i ts h=>absurd h ((noOwn_blk fr σT).own i ts)
 dis:=fun i j ts us p h=>absurd h ((noOwn_blk fr σT).own i ts)
 dc:=fun i hs kvs h=>absurd h ((noOwn_blk fr σT).dic i hs kvs)
theorem Ok.adopt (o:Ok K B p0 H ps σT σ) {p:Addr} {u:HO} (hp:H p=none):Ok K B p0 (upd H p u) (p::ps) σT σ:=by
 have hm:mask (upd H p u) (p::ps)=mask H ps:=mask_new hp
 refine ⟨o.base.trans (same_new hp),fun q hq=>List.mem_cons_of_mem _ (o.sub q hq),fun q hq=>?_,o.len,fun i d h=>by rw [hm];exact o.val i d h,fun i ts h=>?_,o.dis,o.dc.to (fun j hs kvs h=>⟨h,rfl⟩) (fun q φ a b _=>⟨List.mem_cons_of_mem _ a,upd_ne fun z=>by rw [z,hp] at b;cases b⟩) (fun q φ _ _ a b=>⟨a,b⟩) (by rw [hm];exact L2.Same.refl _)⟩
 ·by_cases e:q=p
  ·subst e;rw [upd_same];simp
  ·rw [upd_ne e]
   rcases List.mem_cons.mp hq with z | z
   ·exact absurd z e
   ·exact o.live q z
 ·rw [hm]
  obtain ⟨q,xs,h1,h2,h3,h4,h5,h6⟩:=o.own i ts h
  exact ⟨q,xs,h1,List.mem_cons_of_mem _ h2,h3,h4,by rw [upd_ne fun z=>by rw [z,hp] at h5;cases h5];exact h5,h6⟩
theorem Ok.aside (o:Ok K B p0 H ps σT σ) {q:Addr} {u:HO} (hp:q∈ps) (hB:B q=none) (hn:noOwn σT):Ok K B p0 (upd H q u) ps σT σ where
 base:=fun b w e=>by
  rw [upd_ne fun z=>by rw [z,hB] at e;cases e]
  exact o.base b w e
 sub:=o.sub
 live:=fun p hp'=>by
  by_cases e:p=q
  ·subst e;rw [upd_same];simp
  ·rw [upd_ne e];exact o.live p hp'
 len:=o.len
 val:=fun i d h=>by rw [mask_upd hp];exact o.val i d h
 own:=fun i ts h=>absurd h (hn.own i ts)
 dis:=fun i j ts us p h=>absurd h (hn.own i ts)
 dc:=fun i hs kvs h=>absurd h (hn.dic i hs kvs)
def PIft (X:Cx) (ifs:List Expr) (t:TTt):Prop:=∃ tt:TT,PIf X ifs tt/\∀ (B:Hp) (p0:List Addr) (H:Hp) (ps:List Addr) (σT:List Sl) (σ:L2.St) (Q:Bool->Prop) (QV:Bool->Hp->Prop),Ok X.K B p0 H ps σT σ->t σT Q ->
 (∀ b H',Same H H'->Q b->QV b H')->tt σ H QV
def cTrue:TTt:=fun _ Q=>Q true
theorem if_nil:PIft X [] cTrue:=⟨_,pif_nil,fun _ _ H _ _ _ _ _ _ h k=>k _ H (L2.Same.refl H) h⟩
theorem if_one {t:TTt} (h:PTt X e t):PIft X [e] t:=by
 obtain ⟨v,p,r⟩:=h
 exact ⟨_,pif_one p,r⟩
def eLc (fr:List (Option Nat)) (ti:IT) (g:GT) (tt:TTt) (te:ET):ET:=fun σ Q=>ti σ fun ts=>ts.length<=100000/\∃ P:Nat->List Sl->List D->Prop,P 0 (inBlkT fr σ) [] /\
 (∀ (k:Nat) (x:D) (σ':List Sl) (ds:List D),ts[k]?=some x->P k σ' ds->g x σ' fun σ2=>tt σ2 fun b=>if b=true then te σ2 fun y=>P (k+1) σ2 (ds++[y]) else P (k+1) σ2 ds)/\∀ σ' ds,P ts.length σ' ds->Q (.list ds)
theorem lc_read {fr:List (Option Nat)} {ti:IT} {g:GT} {tt:TTt} {te:ET} {wi:TI} {gv:BP->TG} {vt:BP->TT} {ve:BP->TE}
  (ri:∀ (B:Hp) (p0:List Addr) (H:Hp) (ps:List Addr) (σT:List Sl) (σ:L2.St) (Q:List D->Prop) (R:It->Hp->Prop),Ok X.K B p0 H ps σT σ->ti σT Q->(∀ ts J H',Same H H'->Runs X.K (mask H' ps) ts J->Q ts->R J H')->wi σ H R)
  (rg:∀ (bp:BP) (B:Hp) (p0:List Addr) (H:Hp) (ps:List Addr) (σT:List Sl) (σ:L2.St) (d:D) (v:V) (Q:List Sl->Prop) (QV:L2.St->Hp->Prop),Ok X.K B p0 H ps σT σ->Rep X.K (mask H ps) d v->g d σT Q->(∀ σT' σ',Ok X.K B p0 H ps σT' σ'->(noOwn σT->noOwn σT')->Q σT'->QV σ' H)->gv bp v σ H QV)
  (rt:∀ (bp:BP) (B:Hp) (p0:List Addr) (H:Hp) (ps:List Addr) (σT:List Sl) (σ:L2.St) (Q:Bool->Prop) (QV:Bool->Hp->Prop),Ok X.K B p0 H ps σT σ->tt σT Q->(∀ b H',Same H H'->Q b->QV b H')->vt bp σ H QV)
  (re:∀ (bp:BP) (B:Hp) (p0:List Addr) (H:Hp) (ps:List Addr) (σT:List Sl) (σ:L2.St) (Q:D->Prop) (QV:VK),Ok X.K B p0 H ps σT σ->te σT Q->(∀ d v H',Same H H'->Rep X.K (mask H' ps) d v->Q d->QV v H')->ve bp σ H QV)
  (B:Hp) (p0:List Addr) (H:Hp) (ps:List Addr) (σT:List Sl) (σ:L2.St) (Q:D->Prop) (QV:VK) (o:Ok X.K B p0 H ps σT σ) (h:eLc fr ti g tt te σT Q) (k:∀ d v H',Same H H'->Rep X.K (mask H' ps) d v->Q d->QV v H'):tLc fr wi gv vt ve σ H QV:=by
 refine ri B p0 H ps σT σ _ _ o h fun ts J H1 s1 rj q1=>?_
 obtain ⟨hz,P,h0,hs,hd⟩:=q1
 intro bp acc hacc
 have hBacc:B acc=none:=by
  cases q:B acc with
  | none=>rfl
  | some u=>rw [(o.grow s1).base acc u q] at hacc;cases hacc
 have hnps:acc∉ps:=fresh_notin (o.grow s1).live hacc
 refine ⟨fun i m σ' H'=>m=ts.length-i/\i<=ts.length/\∃ σT' ds ys,Ok X.K B p0 H' (acc::ps) σT' σ'/\noOwn σT'/\H' acc=some (.lst ys)/\ds.length<=i/\Reps X.K (mask H' (acc::ps)) ds ys/\Same (mask H1 ps) (mask H' (acc::ps))/\Same H1 H'/\P i σT' ds,
  ⟨_,rfl,Nat.zero_le _,inBlkT fr σT,[],[],((o.grow s1).blk fr).adopt hacc,noOwn_blk fr σT,upd_same,Nat.le_refl _,.nil,by rw [mask_new hacc];exact L2.Same.refl _,same_new hacc,h0⟩,?_⟩
 rintro i m σ' H' ⟨rfl,hle,σT',ds,ys,o',n',ha,hl,hr,s',sF,p'⟩
 have hL:sizeLine=2 ^ 24:=rfl
 by_cases hlt:i<ts.length
 ·refine .inr ⟨rj.go i H' (s'.trans mask_le) hlt,fun y H2 hy=>?_⟩
  obtain ⟨s2,dx,hx,rx⟩:=rj.yld i H' (acc::ps) y H2 o'.live s' hlt hy
  refine rg bp B p0 H2 (acc::ps) σT' σ' dx y _ _ (o'.grow s2) rx (hs i dx σT' ds hx p') fun σT3 σ3 o3 n3 q3=>?_
  refine rt bp B p0 H2 (acc::ps) σT3 σ3 _ _ o3 q3 fun b H4 s4 q4=>?_
  have s24:=s2.trans s4
  cases b with
  | false =>
   exact ⟨ts.length-(i+1),by omega,rfl,hlt,σT3,ds,ys,o3.grow s4,n3 n',s24 _ _ ha,by omega,hr.same (mask_same s24),s'.trans (mask_same s24),sF.trans s24,q4⟩
  | true =>
   refine re bp B p0 H4 (acc::ps) σT3 σ3 _ _ (o3.grow s4) q4 fun d v H5 s5 r5 q5=>?_
   have s25:=s24.trans s5
   have hm:mask (upd H5 acc (.lst (ys++[v]))) (acc::ps)=mask H5 (acc::ps):=mask_upd (List.mem_cons_self ..)
   refine ⟨ys,s25 _ _ ha,by rw [<- hr.length];omega,ts.length-(i+1),by omega,rfl,hlt,σT3,ds++[d],ys++[v],((o3.grow s4).grow s5).aside (List.mem_cons_self ..) hBacc (n3 n'),n3 n',upd_same,by rw [List.length_append,List.length_singleton];omega,?_,?_,?_,q5⟩
   ·rw [hm];exact (hr.same (mask_same s25)).append (.cons r5 .nil)
   ·rw [hm];exact s'.trans (mask_same s25)
   ·intro b u e
    have ne:b≠acc:=fun z=>by rw [z,hacc] at e;cases e
    rw [upd_ne ne];exact (sF.trans s25) b u e
 ·obtain rfl:i=ts.length:=by omega
  refine .inl ⟨rj.stop _ H' (s'.trans mask_le) (Nat.le_refl _),k (.list ds) _ H' (s1.trans sF) (.list (SqL.of (mask_at hnps ha)) (hr.same (mask_sub fun p hp=>List.mem_cons_of_mem _ hp))) (hd σT' ds p')⟩
theorem lc_all {elt iter tg:Expr} {ifs:List Expr} {scope:Scope} {fr:List (Option Nat)} {N':List Str} {ti:IT} {g:GT} {tt:TTt} {te:ET} (hi:PIt X tg iter ti)
  (hY:∀ b:BP,PGt (blk X scope N' b) tg g/\PIft (blk X scope N' b) ifs tt/\PEt (blk X scope N' b) elt te) {M:(TE)->Prop}
  (fin:∀ {wi:TI} {gv:BP->TG} {vt:BP->TT} {ve:BP->TE},PI X tg iter wi->(∀ b:BP,PG (blk X scope N' b) tg (gv b)/\PIf (blk X scope N' b) ifs (vt b)/\PE (blk X scope N' b) elt (ve b))->M (tLc fr wi gv vt ve)) :
  ∃ v:TE,M v/\∀ (B:Hp) (p0:List Addr) (H:Hp) (ps:List Addr) (σT:List Sl) (σ:L2.St) (Q:D->Prop) (QV:VK),Ok X.K B p0 H ps σT σ->eLc fr ti g tt te σT Q ->
   (∀ d v H',Same H H'->Rep X.K (mask H' ps) d v->Q d->QV v H')->v σ H QV:=by
 obtain ⟨wi,pi,ri⟩:=hi
 refine ⟨_,fin (gv:=fun b=>Classical.choose (hY b).1) (vt:=fun b=>Classical.choose (hY b).2.1) (ve:=fun b=>Classical.choose (hY b).2.2) pi fun b=>⟨(Classical.choose_spec (hY b).1).1,(Classical.choose_spec (hY b).2.1).1,(Classical.choose_spec (hY b).2.2).1⟩,?_⟩
 exact lc_read ri (fun b=>(Classical.choose_spec (hY b).1).2) (fun b=>(Classical.choose_spec (hY b).2.1).2) fun b=>(Classical.choose_spec (hY b).2.2).2
theorem et_lc {elt iter tg:Expr} {ifs:List Expr} {scope:Scope} {fr:List (Option Nat)} {N':List Str} {ti:IT} {g:GT} {tt:TTt} {te:ET} (hi:PIt X tg iter ti)
  (hY:∀ b:BP,PGt (blk X scope N' b) tg g/\PIft (blk X scope N' b) ifs tt/\PEt (blk X scope N' b) elt te)
  (pl:∀ {wi:TI} {gv:BP->TG} {vt:BP->TT} {ve:BP->TE},PI X tg iter wi->(∀ b:BP,PG (blk X scope N' b) tg (gv b)/\PIf (blk X scope N' b) ifs (vt b)/\PE (blk X scope N' b) elt (ve b))->PE X (.ListComp elt [⟨tg,iter,ifs,0⟩] scope pos) (tLc fr wi gv vt ve)) :
  PEt X (.ListComp elt [⟨tg,iter,ifs,0⟩] scope pos) (eLc fr ti g tt te):=lc_all hi hY pl
theorem st_setlc {i:Nat} {x:Str} {px spos:Pos} {elt iter tg:Expr} {ifs:List Expr} {scope:Scope} {fr:List (Option Nat)} {N':List Str} {ti:IT} {g:GT} {tt:TTt} {te:ET} (hi:PIt X tg iter ti)
  (hY:∀ b:BP,PGt (blk X scope N' b) tg g/\PIft (blk X scope N' b) ifs tt/\PEt (blk X scope N' b) elt te)
  (pl:∀ {wi:TI} {gv:BP->TG} {vt:BP->TT} {ve:BP->TE},PI X tg iter wi->(∀ b:BP,PG (blk X scope N' b) tg (gv b)/\PIf (blk X scope N' b) ifs (vt b)/\PE (blk X scope N' b) elt (ve b)) ->
   PS X (.Assign [.Name x px] (.ListComp elt [⟨tg,iter,ifs,0⟩] scope pos) spos) (tAsg (tLc fr wi gv vt ve) (gName i))) :
  PSt X (.Assign [.Name x px] (.ListComp elt [⟨tg,iter,ifs,0⟩] scope pos) spos) (sSet i (eLc fr ti g tt te)):=by
 obtain ⟨v,p,r⟩:=lc_all (M:=fun v=>PS X (.Assign [.Name x px] (.ListComp elt [⟨tg,iter,ifs,0⟩] scope pos) spos) (tAsg v (gName i))) (fr:=fr) hi hY pl
 refine ⟨_,p,fun B p0 H ps σT σ DT DV o h f=>r B p0 H ps σT σ _ _ o h fun d x H' s' r' q'=>?_⟩
 exact f.nx H' ps _ _ ((o.grow s').set r') (mask_same s') q'

def startT (N:List Str) (ds:List D):List Sl:=ds.map Sl.val++List.replicate (N.length-ds.length) .un
theorem ok_start {N:List Str} {ds:List D} {vs:List V} (live:∀ p∈ps,H p≠none) (r:Reps K (mask H ps) ds vs):Ok K H ps H ps (startT N ds) (L2.start N vs):=by
 have hl:=r.length
 refine ⟨L2.Same.refl _,fun _ h=>h,live,?_,fun i d h=>?_,fun i ts h=>?_,fun i j ts us p h=>?_,fun i hs kvs h=>?_⟩
 ·unfold startT L2.start;simp [hl]
 ·unfold startT at h
  by_cases hi:i<ds.length
  ·rw [List.getElem?_append_left (by simpa using hi),List.getElem?_map] at h
   cases hd:ds[i]? with
   | none=>rw [hd] at h;cases h
   | some d' =>
    rw [hd] at h
    cases h
    obtain ⟨v,h1,h2⟩:=r.get hd
    refine ⟨v,?_,h2⟩
    unfold L2.start
    rw [List.getElem?_append_left (by rw [List.length_map,<- hl];exact hi),List.getElem?_map,h1];rfl
  ·rw [List.getElem?_append_right (by simpa using hi),List.getElem?_replicate] at h
   split at h<;>cases h
 ·unfold startT at h
  by_cases hi:i<ds.length
  ·rw [List.getElem?_append_left (by simpa using hi),List.getElem?_map] at h
   cases hd:ds[i]? with
   | none=>rw [hd] at h;cases h
   | some d'=>rw [hd] at h;cases h
  ·rw [List.getElem?_append_right (by simpa using hi),List.getElem?_replicate] at h
   split at h<;>cases h
 ·unfold startT at h
  by_cases hi:i<ds.length
  ·rw [List.getElem?_append_left (by simpa using hi),List.getElem?_map] at h
   cases hd:ds[i]? with
   | none=>rw [hd] at h;cases h
   | some d'=>rw [hd] at h;cases h
  ·rw [List.getElem?_append_right (by simpa using hi),List.getElem?_replicate] at h
   split at h<;>cases h
 ·unfold startT at h
  by_cases hi:i<ds.length
  ·rw [List.getElem?_append_left (by simpa using hi),List.getElem?_map] at h
   cases hd:ds[i]? with
   | none=>rw [hd] at h;cases h
   | some d'=>rw [hd] at h;cases h
  ·rw [List.getElem?_append_right (by simpa using hi),List.getElem?_replicate] at h
   split at h<;>cases h
theorem fnT {P:Program} {w:World} {mg:Str->Option Value} {base:Heap} {x qual:Str} {st:Stmt} {f:Addr} {fd:FuncData} {N pn:List Str} {k:Nat} {sp:SpT} (F:Fun K x qual st f fd) (S:FnScope N pn (defScope st)) (len:∀ ds Q,sp ds Q->ds.length=pn.length)
  (hbody:∀ (cdv:Value) (A:Around) (outer:List Env) (s:Shared) (H:Hp) (E:XK),Room k (A.deeper (envOfC qual (defScope st) s.heap.objs.size f cdv))->∀ (ds:List D) (Q:D->Prop),sp ds Q ->
   ∃ t,PSst (cxOf CX0 P w K mg base N qual (defScope st) f cdv A outer s H E).nox (defBody st) t/\t { nx:=fun _=>Q .none,rt:=Q } (startT N ds)):FnOk P w K mg base CX0 (k+1) f fd pn (liftSp K sp):=by
 refine F.ok S (fun vs H Q E h=>?_) fun cdv A outer s H vs Q E hr h=>?_
 ·obtain ⟨ps,ds,QD,_,r,q,_⟩:=h
  rw [<- r.length];exact len ds QD q
 ·obtain ⟨ps,ds,QD,live,r,q,k⟩:=h
  obtain ⟨t,⟨ts,p,rd⟩,h⟩:=hbody cdv A outer s H E hr ds QD q
  refine ⟨ts,p,rd H ps H ps _ _ _ _ (ok_start live r) h ⟨fun H' ps' σT' σ' o' s' q'=>?_,fun _ _ _ _ _ _ q'=>q'.elim,fun _ _ _ _ _ _ q'=>q'.elim,fun d v H' s' r' q'=>k d v H' s' r' q',fun _ _ _ _ _ _ _ _ _ q'=>q'.elim,fun _ _ _ _ _ _ _ _ _ _ _ _ _ _ _ _ _ _ q'=>q'.elim,fun _ _ _ _ _ _ _ _ _ _ _ _ _ _ q'=>q'.elim,True.intro⟩⟩
  exact k _ _ H' o'.base .none q'
end
end TL

namespace HT
open PySem PySem.Spec PyProof.Rows
section
variable {prog:Program} {w:World} {A:Around} {E:Value->Shared->Prop} {s:Shared}
theorem getItem_tuple_all {t sl:Addr} {items:Array Value} {vl vu:Value} {lo hi:Option Int} {Q:Value->Shared->Prop} (ht:IsTup s.heap t items) (hs:s.heap.IsSliceOf sl vl vu .none) (pl:IsPart vl lo) (pu:IsPart vu hi)
  (hw:sIx items.size 0 lo=0/\sIx items.size items.size hi=items.size) (h:Q (.ref t) s):wpAny (model prog w) A (getItem (.ref t) (.ref sl)) Q E s:=by
 obtain ⟨os,hos,hcs,hds⟩:=id hs
 have hTs:s.TypeIs (.ref sl) "slice":=⟨os,hos,hcs⟩
 unfold getItem
 try with_reducible refine wpAny_holding ?_
 first | refine wpAny_bind (wpAny_pure ?_) | skip
 refine wpAny_bind (wpAny_sequenceKey ht.typeIs (by decide) ?_)
 refine wpAny_bind (wpAny_callSpecial?_slot (name:=Str.ofString "__getitem__") ht.typeIs PyProof.Rows.slot_tuple_getitem
  (wpAny_call_entry PyProof.Rows.slot_tuple_getitem ht.typeIs entry_tuple_getitem ?_ (args_tuple_getitem _ _)))
 show wpAny _ _ (Builtin.Tuple.tupleItemsOf (.ref t) >>= _) _ _ s
 refine wpAny_bind (tupleItemsOf_ ht ?_)
 refine wpAny_bind (wpAny_typeOf hTs ?_)
 rw [if_pos (by decide)]
 refine wpAny_bind (sliceApplied_gen hs pl pu ?_)
 have hyes:(((sIx items.size 0 lo:Nat):Int) == 0 && (1:Int) == 1 && (sIx items.size items.size hi-sIx items.size 0 lo) == items.size)=true:=by
  rw [hw.1,hw.2];simp
 show wpAny _ _ (if (((sIx items.size 0 lo:Nat):Int) == 0 && (1:Int) == 1 && (sIx items.size items.size hi-sIx items.size 0 lo) == items.size)=true then _ else _) _ _ s
 rw [if_pos hyes]
 unfold Builtin.Tuple.tupleIsExact
 refine wpAny_bind (wpAny_bind (wpAny_typeOf ht.typeIs (wpAny_pure ?_)))
 rw [if_pos (by decide)]
 first
  | exact wpAny_bind (wpAny_rule (wpAny_bind (wpAny_pure (wpAny_pure ⟨_,rfl,wpAny_pure h⟩))))
  | exact wpAny_bind (wpAny_rule (wpAny_pure ⟨_,rfl,wpAny_pure h⟩))
  | exact wpAny_bind (wpAny_rule (wpAny_bind (wpAny_pure ⟨_,rfl,wpAny_pure h⟩)))
end
end HT

namespace L2
open PySem PySem.Spec PyProof.Rows
section
variable {X:Cx}
def rSlS:V->Option Int->Option Int->Hp->VK->Prop:=fun x lo hi H Q=>∃ z,x=.str z/\z.length<=sizeLine/\Q (.str (Txt.slice z lo hi)) H
theorem sl_str:SlR X rSlS:=by
 intro pins s σ H x v vl vu lo hi sl Q I rx hs pl pu h
 obtain ⟨z,rfl,hz,q⟩:=h
 obtain ⟨t,rfl⟩:=rx
 refine ⟨"str",_,PySem.F.slot_str_getitem.lookup,typeIs_str _ _ _,?_⟩
 have fin:∀ lo hi:Option Int,Q (.str (Txt.slice z lo hi)) H->(Txt.slice z lo hi).length<=sizeLine/\∀ (t':Tok) (k:Nat),EP X pins σ Q (.str (Txt.slice z lo hi) t') { s with toks:=k }:=fun lo hi q =>
  ⟨Nat.le_trans (Txt.slice_le z _ _) hz,fun t' k=>⟨.str _,H,I.tok k,⟨t',rfl⟩,q⟩⟩
 cases pl with
 | none =>
  cases pu with
  | none=>exact wpAny_getItem_str_slice (l:=none) (u:=none) (st:=none) hs rfl (post_val_or_str (fin none none q))
  | int j uj=>exact wpAny_getItem_str_slice (l:=none) (u:=some (j,uj)) (st:=none) hs rfl (post_val_or_str (fin none (some j) q))
 | int i ui =>
  cases pu with
  | none=>exact wpAny_getItem_str_slice (l:=some (i,ui)) (u:=none) (st:=none) hs rfl (post_val_or_str (fin (some i) none q))
  | int j uj=>exact wpAny_getItem_str_slice (l:=some (i,ui)) (u:=some (j,uj)) (st:=none) hs rfl (post_val_or_str (fin (some i) (some j) q))
def rSlT2 (K:PySem.W.Frag):V->Option Int->Option Int->Hp->VK->Prop:=fun x lo hi H Q=>∃ a xs,x=.ref a/\SqT K H a xs /\
 ((HT.sIx xs.length 0 lo=0/\HT.sIx xs.length xs.length hi=xs.length)->Q (.ref a) H)/\(¬ (HT.sIx xs.length 0 lo=0/\HT.sIx xs.length xs.length hi=xs.length)->∀ p,H p=none->Q (.ref p) (upd H p (.tup (cutV xs lo hi))))
theorem sl_tup2:SlR X (rSlT2 X.K):=by
 intro pins s σ H x v vl vu lo hi sl Q I rx hs pl pu h
 obtain ⟨a,xs,rfl,hx,q1,q2⟩:=h
 by_cases hw:HT.sIx xs.length 0 lo=0/\HT.sIx xs.length xs.length hi=xs.length
 ·cases rx
  obtain ⟨its,r,ht,hz⟩:=I.tuple hx
  have hlen:its.toArray.size=xs.length:=by rw [List.size_toArray];exact r.length.symm
  exact ⟨"tuple",_,PyProof.Rows.slot_tuple_getitem.lookup,ht.typeIs,HT.getItem_tuple_all ht hs pl pu (by rw [hlen];exact hw) ⟨.ref a,H,I,rfl,q1 hw⟩⟩
 ·exact sl_tup pins s σ H (.ref a) v vl vu lo hi sl Q I rx hs pl pu ⟨a,xs,rfl,hx,hw,q2 hw⟩
def rSlAny (K:PySem.W.Frag):V->Option Int->Option Int->Hp->VK->Prop:=fun x lo hi H Q=>rSlL K x lo hi H Q\/rSlT2 K x lo hi H Q\/rSlS x lo hi H Q
theorem sl_any:SlR X (rSlAny X.K):=sl_list.or (sl_tup2.or sl_str)
def rCatT2 (K:PySem.W.Frag):R2:=fun x y H Q=>∃ a b xs ys,x=.ref a/\y=.ref b/\SqT K H a xs/\SqT K H b ys/\xs.length+ys.length<=sizeLine /\
 (xs=[]->Q (.ref b) H)/\(xs≠[]->ys=[]->Q (.ref a) H)/\(xs≠[]->ys≠[]->∀ p,H p=none->Q (.ref p) (upd H p (.tup (xs++ys))))
theorem op_catT2:OpR X (binaryOp .Add) (rCatT2 X.K):=by
 intro pins s σ H x y v u Q I rx ry h
 obtain ⟨a,b,xs,ys,rfl,rfl,ha,hb,hz,q0,q1,q2⟩:=h
 by_cases hx:xs=[]
 ·cases rx
  cases ry
  obtain ⟨its,r1,p1,_⟩:=I.tuple ha
  obtain ⟨its2,r2,p2,_⟩:=I.tuple hb
  obtain ⟨⟨cls,dd,data,sl⟩,ho,hc,n,hd⟩:=id p1
  obtain ⟨⟨cls2,dd2,data2,sl2⟩,ho2,hc2,n2,hd2⟩:=id p2
  simp only at hc hd hc2 hd2
  subst hc hd hc2 hd2
  have he:its=[]:=r1.nil_iff.mpr hx
  exact concat_meets ⟨_,ho,rfl⟩ ⟨_,ho2,rfl⟩ noFill_tuple_add seq_tuple_add PySem.F.slot_tuple_add PySem.F.entry_tuple_add (PySem.F.args_tuple_add_2 _ _) (tuple_addW0 a b its.toArray its2.toArray n n2 dd dd2 sl sl2 (by simp [he])) ⟨ho,ho2,⟨.ref b,H,I,rfl,q0 hx⟩⟩
 ·exact op_catT pins s σ H (.ref a) (.ref b) v u Q I rx ry ⟨a,b,xs,ys,rfl,rfl,ha,hb,hx,hz,q1 hx,q2 hx⟩
def rCatL (K:PySem.W.Frag):R2:=fun x y H Q=>∃ l b xs zs,x=.ref l/\y=.ref b/\SqL K H l xs/\SqL K H b zs/\xs.length+zs.length<=sizeLine/\∀ p,H p=none->Q (.ref p) (upd H p (.lst (xs++zs)))
theorem op_catL:OpR X (binaryOp .Add) (rCatL X.K):=by
 intro pins s σ H x y v u Q I rx ry h
 obtain ⟨l,b,xs,zs,rfl,rfl,ha,hb,hz,q⟩:=h
 cases rx
 cases ry
 obtain ⟨its,r1,⟨⟨cls,dd,data,sl⟩,n,ho,hc,hdd,hd⟩,_⟩:=I.list ha
 obtain ⟨its2,r2,⟨⟨cls2,dd2,data2,sl2⟩,n2,ho2,hc2,hdd2,hd2⟩,_⟩:=I.list hb
 simp only at hc hd hc2 hd2
 subst hc hd hc2 hd2
 have hz':its.toArray.size+its2.toArray.size<=sizeLine:=by rw [List.size_toArray,List.size_toArray,<- r1.length,<- r2.length];exact hz
 refine concat_meets ⟨_,ho,rfl⟩ ⟨_,ho2,rfl⟩ noFill_list_add seq_list_add PySem.F.slot_list_add PySem.F.entry_list_add (PySem.F.args_list_add_2 _ _) (list_addW l b its.toArray its2.toArray n n2 dd dd2 sl sl2 hz') ⟨ho,ho2,?_⟩
 have ea:its.toArray++its2.toArray=(its++its2).toArray:=by simp
 rw [ea]
 exact ⟨.ref _,_,I.lnew (t':=s.toks) (r1.append r2) (by rw [List.length_append];exact hz),rfl,q _ I.fresh⟩
def rAddAny (K:PySem.W.Frag):R2:=fun x y H Q=>(rI0 fun i j=>.int (i+j)) x y H Q\/(∃ i j,x=.str i/\y=.str j/\i.length+j.length<=sizeLine/\Q (.str (i++j)) H)\/rCatT2 K x y H Q\/rCatL K x y H Q
theorem op_addAny:OpR X (binaryOp .Add) (rAddAny X.K):=op_add.or (op_add_str.or (op_catT2.or op_catL))
def rMulAny:R2:=fun x y H Q=>(rI CMul fun i j=>.int (i*j)) x y H Q\/∃ z n,x=.str z/\y=.int n/\z.length<=1000/\0<=n/\n<=1000/\Q (.str (Txt.mul z n)) H
theorem op_mul_str:OpR X (binaryOp .Mult) (fun x y H Q=>∃ z n,x=.str z/\y=.int n/\z.length<=1000/\0<=n/\n<=1000/\Q (.str (Txt.mul z n)) H):=by
 intro pins s σ H x y v u Q I rx ry h
 obtain ⟨z,n,rfl,rfl,hz,h0,h1,q⟩:=h
 obtain ⟨t,rfl⟩:=rx
 obtain ⟨t',rfl⟩:=ry
 refine SB.mul ⟨by simp;omega,fun a _=>?_,fun _ _=>?_⟩ fun t'' k=>⟨.str _,H,I.tok k,⟨t'',rfl⟩,q⟩
 ·have hn:1<=n:=by omega
  have:(1000:Int)<=(2 ^ 63-1) / n:=by
   rw [Int.le_ediv_iff_mul_le (by omega)]
   omega
  omega
 ·have:z.length*n.toNat<=1000*1000:=Nat.mul_le_mul hz (by omega)
  unfold Builtin.Str.tooLong
  have hL:sizeLine=2 ^ 24:=rfl
  simp only [decide_eq_false_iff_not]
  omega
theorem op_mulAny:OpR X (binaryOp .Mult) rMulAny:=op_mul.or op_mul_str
def rIsB:R2:=fun x y H Q=>∃ b,y=.bl b/\Q (.bl (decide (x=.bl b))) H
def rIsNotB:R2:=fun x y H Q=>∃ b,y=.bl b/\Q (.bl (!decide (x=.bl b))) H
theorem is_bl {x:V} {v:Value} {b:Bool} (r:RelV x v):plainIs v (.bool b)=true/\(v == Value.bool b)=decide (x=.bl b):=by
 cases x with
 | non=>cases r;exact ⟨rfl,rfl⟩
 | bl c=>cases r;cases b<;>cases c<;>exact ⟨rfl,rfl⟩
 | int _=>obtain ⟨t,rfl⟩:=r;exact ⟨rfl,rfl⟩
 | str _=>obtain ⟨t,rfl⟩:=r;exact ⟨rfl,rfl⟩
 | byt _=>obtain ⟨t,rfl⟩:=r;exact ⟨rfl,rfl⟩
 | flt _=>obtain ⟨t,rfl⟩:=r;exact ⟨rfl,rfl⟩
 | ref _=>cases r;exact ⟨rfl,rfl⟩
 | ty _=>cases r;exact ⟨rfl,rfl⟩
theorem op_isNotB:OpR X (compareOp .IsNot) rIsNotB:=by
 intro pins s σ H x y v u Q I rx ry h
 obtain ⟨b,rfl,q⟩:=h
 cases ry
 obtain ⟨h1,h2⟩:=is_bl (b:=b) rx
 refine wpAny_isNot_plain h1 ?_
 rw [h2]
 exact ⟨.bl _,H,I,rfl,q⟩
theorem op_isB:OpR X (compareOp .Is) rIsB:=by
 intro pins s σ H x y v u Q I rx ry h
 obtain ⟨b,rfl,q⟩:=h
 cases ry
 obtain ⟨h1,h2⟩:=is_bl (b:=b) rx
 refine wpAny_is_plain h1 ?_
 rw [h2]
 exact ⟨.bl _,H,I,rfl,q⟩
theorem strs_of:∀ {ys:List Str} {us:List Value},Vals (ys.map V.str) us->StrsAre us ys
 | [],_,r=>by rw [List.map_nil] at r;cases r;exact .nil
 | y::ys,us,r=>by
  rw [List.map_cons] at r
  cases r with
  | cons r1 r2 =>
   obtain ⟨t,rfl⟩:=r1
   exact .cons y t (strs_of r2)
theorem mt_join:MtR X "str.join" (fun x xs H Q=>∃ z p ys,x=.str z/\xs=[.ref p]/\SqL X.K H p (ys.map V.str)/\(ys.map (·.length)).sum+ys.length*z.length<=16777216/\Q (.str (Txt.join z ys)) H):=by
 intro pins s σ H x xs v us Q I rx r h
 obtain ⟨z,p,ys,rfl,rfl,hq,hz,q⟩:=h
 obtain ⟨t,rfl⟩:=rx
 obtain ⟨u,rfl,ru⟩:=vals1 r
 cases ru
 obtain ⟨its,rv,pl,_⟩:=I.list hq
 exact PyProof.Rows.join_list pl.isList (by simpa using strs_of rv) hz fun t' k=>⟨.str _,H,I.tok k,⟨t',rfl⟩,q⟩
def rRepr (K:PySem.W.Frag) (R:Hp->PySem.PyData->V->Prop):List V->Hp->VK->Prop:=fun xs H Q=>∃ (x:V) (d:PySem.PyData),xs=[x]/\R H d x/\d.showable=true/\d.hasDict=false/\d.depth<=60/\d.shown.length<=sizeLine/\Q (.str d.shown) H
theorem call_repr {k:Nat} {R:Hp->PySem.PyData->V->Prop} (hr:Room k X.A)
  (hR:∀ {pins:List (Addr×Obj)} {σ:L2.St} {H:Hp} {s:Shared} {d:PySem.PyData} {x:V} {u:Value},Inv X pins σ H s->R H d x->RelV x u->∃ as,Reads s.heap u d as):CallR X (.builtin "repr") (rRepr X.K R):=by
 intro pins s σ H xs us Q I r h
 obtain ⟨x,d,rfl,rx,hs,hd,hdep,hz,q⟩:=h
 obtain ⟨u,rfl,ru⟩:=vals1 r
 obtain ⟨as,rd⟩:=hR I rx ru
 have hun:=hr.un
 cases rd with
 | none=>exact PySem.P.repr_of_none ⟨.str _,H,I.tok _,⟨_,rfl⟩,q⟩
 | bool b=>exact PySem.P.repr_of_bool ⟨.str _,H,I.tok _,⟨_,rfl⟩,q⟩
 | int i t=>exact PySem.P.repr_of_int (by simpa [PyData.showable] using hs) ⟨.str _,H,I.tok _,⟨_,rfl⟩,q⟩
 | str z t=>exact PySem.P.repr_of_str ⟨.str _,H,I.tok _,⟨_,rfl⟩,q⟩ hz
 | list h1 h2 h3 h4 =>
  exact repr_of_reads' (.list h1 h2 h3 h4) hs (fun z=>by rw [hd] at z;cases z) hr.gd (by omega) (fun _ _ e=>e) (fun h' u' tk hk=>⟨.str _,H,I.kept hk,⟨u',rfl⟩,q⟩) hz
 | tuple h1 h2 h3 h4 =>
  exact repr_of_reads' (.tuple h1 h2 h3 h4) hs (fun z=>by rw [hd] at z;cases z) hr.gd (by omega) (fun _ _ e=>e) (fun h' u' tk hk=>⟨.str _,H,I.kept hk,⟨u',rfl⟩,q⟩) hz
 | dict=>simp [PyData.hasDict] at hd
end
def dstep (l:List Str) (y:Str):List Str:=if y∈l then l else l++[y]
def dd (ys:List Str):List Str:=ys.foldl dstep []
section
variable {prog:Program} {w:World} {A:Around}
end
section
variable {X:Cx}
end
end L2

namespace TL
open PySem PySem.Spec PyProof.Rows L2
variable {K:PySem.W.Frag} {H H' H1 H2:Hp} {B:Hp} {p0 ps:List Addr} {σT:List Sl} {σ:L2.St}
section
variable {X:Cx} {a b c e:Expr} {es:List Expr} {ta tb tc te:ET} {pos p:Pos}
def fI (C:Int->Int->Prop) (g:Int->Int->Int):D->D->(D->Prop)->Prop
 | .int i,.int j,Q=>C i j/\Q (.int (g i j))
 | _,_,_=>False
def fI0 (g:Int->Int->Int):D->D->(D->Prop)->Prop
 | .int i,.int j,Q=>Q (.int (g i j))
 | _,_,_=>False
def fB0 (g:Int->Int->Bool):D->D->(D->Prop)->Prop
 | .int i,.int j,Q=>Q (.bool (g i j))
 | _,_,_=>False
theorem o_I {C:Int->Int->Prop} {g:Int->Int->Int}:Op2 X (rI C fun i j=>.int (g i j)) (fI C g):=by
 intro H ps d1 d2 x y Q QV live r1 r2 h k
 cases r1 with
 | int i =>
  cases r2 with
  | int j=>exact ⟨i,j,rfl,rfl,h.1,k _ _ H (L2.Same.refl H) (.int _) h.2⟩
  | _=>exact h.elim
 | _=>exact h.elim
theorem o_I0 {g:Int->Int->Int}:Op2 X (rI0 fun i j=>.int (g i j)) (fI0 g):=by
 intro H ps d1 d2 x y Q QV live r1 r2 h k
 cases r1 with
 | int i =>
  cases r2 with
  | int j=>exact ⟨i,j,rfl,rfl,k _ _ H (L2.Same.refl H) (.int _) h⟩
  | _=>exact h.elim
 | _=>exact h.elim
theorem o_B0 {g:Int->Int->Bool}:Op2 X (rI0 fun i j=>.bl (g i j)) (fB0 g):=by
 intro H ps d1 d2 x y Q QV live r1 r2 h k
 cases r1 with
 | int i =>
  cases r2 with
  | int j=>exact ⟨i,j,rfl,rfl,k _ _ H (L2.Same.refl H) (.bool _) h⟩
  | _=>exact h.elim
 | _=>exact h.elim
def fAdd:D->D->(D->Prop)->Prop
 | .int i,.int j,Q=>Q (.int (i+j))
 | .str x,.str y,Q=>x.length+y.length<=100000/\Q (.str (x++y))
 | .tuple x,.tuple y,Q=>x.length+y.length<=100000/\Q (.tuple (x++y))
 | .list x,.list y,Q=>x.length+y.length<=100000/\Q (.list (x++y))
 | _,_,_=>False
theorem line5 {n:Nat} (h:n<=100000):n<=sizeLine:=by have:sizeLine=2 ^ 24:=rfl;omega
theorem o_add:Op2 X (rAddAny X.K) fAdd:=by
 intro H ps d1 d2 x y Q QV live r1 r2 h k
 cases r1 with
 | int i =>
  cases r2 with
  | int j=>exact .inl ⟨i,j,rfl,rfl,k _ _ H (L2.Same.refl H) (.int _) h⟩
  | _=>exact h.elim
 | str i =>
  cases r2 with
  | str j=>exact .inr (.inl ⟨i,j,rfl,rfl,line5 h.1,k _ _ H (L2.Same.refl H) (.str _) h.2⟩)
  | _=>exact h.elim
 | tuple q1 s1 =>
  cases r2 with
  | tuple q2 s2 =>
   refine .inr (.inr (.inl ⟨_,_,_,_,rfl,rfl,Same.seqT mask_le q1,Same.seqT mask_le q2,line5 (by rw [<- s1.length,<- s2.length];exact h.1),fun z=>?_,fun z1 z2=>?_,fun z1 z2 p hp=>?_⟩))
   ·subst z
    cases s1
    exact k _ _ H (L2.Same.refl H) (.tuple q2 s2) h.2
   ·subst z2
    cases s2
    have e:=h.2
    rw [List.append_nil] at e
    exact k _ _ H (L2.Same.refl H) (.tuple q1 s1) e
   ·exact k _ _ _ (same_new hp) (rep_tup live hp (s1.append s2)) h.2
  | _=>exact h.elim
 | list q1 s1 =>
  cases r2 with
  | list q2 s2 =>
   exact .inr (.inr (.inr ⟨_,_,_,_,rfl,rfl,L2.Same.seq mask_le q1,L2.Same.seq mask_le q2,line5 (by rw [<- s1.length,<- s2.length];exact h.1),fun p hp=>k _ _ _ (same_new hp) (rep_lst live hp (s1.append s2)) h.2⟩))
  | _=>exact h.elim
 | _=>exact h.elim
def fMul:D->D->(D->Prop)->Prop
 | .int i,.int j,Q=>CMul i j/\Q (.int (i*j))
 | .str z,.int n,Q=>z.length<=1000/\0<=n/\n<=1000/\Q (.str (Txt.mul z n))
 | _,_,_=>False
theorem o_mul:Op2 X rMulAny fMul:=by
 intro H ps d1 d2 x y Q QV live r1 r2 h k
 cases r1 with
 | int i =>
  cases r2 with
  | int j=>exact .inl ⟨i,j,rfl,rfl,h.1,k _ _ H (L2.Same.refl H) (.int _) h.2⟩
  | _=>exact h.elim
 | str z =>
  cases r2 with
  | int n=>exact .inr ⟨z,n,rfl,rfl,h.1,h.2.1,h.2.2.1,k _ _ H (L2.Same.refl H) (.str _) h.2.2.2⟩
  | _=>exact h.elim
 | _=>exact h.elim
def eqF:D->D->Option Bool
 | .none,.none=>some true
 | .bool x,.bool y=>some (decide (x=y))
 | .int x,.int y=>some (decide (x=y))
 | .str x,.str y=>some (decide (x=y))
 | .str _,.none | .none,.str _=>some false
 | _,_=>none
def fEq (x y:D) (Q:D->Prop):Prop:=match eqF x y with | some c=>Q (.bool c) | none=>False
def fNe (x y:D) (Q:D->Prop):Prop:=match eqF x y with | some c=>Q (.bool (!c)) | none=>False
theorem eqF_scal {x y:D} {u v:V} {c:Bool} (r1:Rep K H x u) (r2:Rep K H y v) (h:eqF x y=some c):scal u v=true/\decide (u=v)=c:=by
 cases r1<;>cases r2<;>simp [eqF] at h<;>subst h<;>exact ⟨rfl,by simp⟩
theorem o_eq:Op2 X rEq fEq:=by
 intro H ps d1 d2 x y Q QV live r1 r2 h k
 unfold fEq at h
 cases e:eqF d1 d2 with
 | none=>rw [e] at h;exact h.elim
 | some c =>
  rw [e] at h
  obtain ⟨h1,h2⟩:=eqF_scal r1 r2 e
  refine ⟨h1,?_⟩
  rw [h2]
  exact k _ _ H (L2.Same.refl H) (.bool c) h
theorem o_ne:Op2 X rNe fNe:=by
 intro H ps d1 d2 x y Q QV live r1 r2 h k
 unfold fNe at h
 cases e:eqF d1 d2 with
 | none=>rw [e] at h;exact h.elim
 | some c =>
  rw [e] at h
  obtain ⟨h1,h2⟩:=eqF_scal r1 r2 e
  refine ⟨h1,?_⟩
  rw [h2]
  exact k _ _ H (L2.Same.refl H) (.bool (!c)) h
def isTrueD (b:Bool):D->Bool
 | .bool c=>decide (c=b)
 | _=>false
theorem Reps.atI {ds:List D} {vs:List V} {i:Int} {d:D} (r:Reps K H ds vs) (h:atI ds i=some d):∃ v,atI vs i=some v/\Rep K H d v:=by
 unfold L2.atI at h |-
 rw [<- r.length]
 cases e:ixN ds.length i with
 | none=>rw [e] at h;cases h
 | some j =>
  rw [e] at h
  exact r.get h
inductive ItemAt (ts:List D) (i:Int) (Q:D->Prop):Prop
 | mk (d:D) (h:atI ts i=some d) (k:Q d):ItemAt ts i Q
def fIx (x y:D) (Q:D->Prop):Prop:=match x,y with
 | .list ts,.int i=>ItemAt ts i Q
 | .tuple ts,.int i=>ItemAt ts i Q
 | .str z,.int i=>z.length<=100000/\∃ c,atI z.cps.toList i=some c/\Q (.str ⟨#[c]⟩)
 | _,_=>False
theorem o_ix:Op2 X (rIx X.K) fIx:=by
 intro H ps d1 d2 x y Q QV live r1 r2 h k
 cases r2 with
 | int i =>
  cases r1 with
  | list q s =>
   obtain ⟨d,e,h⟩:=h
   obtain ⟨v,e',r⟩:=s.atI e
   exact .inl ⟨_,_,i,v,rfl,rfl,L2.Same.seq mask_le q,e',k _ _ H (L2.Same.refl H) r h⟩
  | tuple q s =>
   obtain ⟨d,e,h⟩:=h
   obtain ⟨v,e',r⟩:=s.atI e
   exact .inr (.inl ⟨_,_,i,v,rfl,rfl,Same.seqT mask_le q,e',k _ _ H (L2.Same.refl H) r h⟩)
  | str z =>
   obtain ⟨hz,c,e,h⟩:=h
   exact .inr (.inr ⟨z,i,c,rfl,rfl,line5 hz,e,k _ _ H (L2.Same.refl H) (.str _) h⟩)
  | _=>exact h.elim
 | _=>cases d1<;>exact h.elim
def cutD {α:Type} (xs:List α) (lo hi:Option Int):List α:=(xs.drop (HT.sIx xs.length 0 lo)).take (HT.sIx xs.length xs.length hi-HT.sIx xs.length 0 lo)
def fSl (x:D) (lo hi:Option Int) (Q:D->Prop):Prop:=match x with
 | .list ts=>Q (.list (cutD ts lo hi))
 | .tuple ts=>Q (.tuple (cutD ts lo hi))
 | .str z=>z.length<=100000/\Q (.str (Txt.slice z lo hi))
 | _=>False
theorem Reps.cut {ds:List D} {vs:List V} (r:Reps K H ds vs) (lo hi:Option Int):Reps K H (cutD ds lo hi) (cutV vs lo hi):=by
 unfold cutD cutV
 rw [r.length]
 exact (r.drop _).take _
theorem o_sl:SlT X (rSlAny X.K) fSl:=by
 intro H ps d x lo hi Q QV live r h k
 cases r with
 | list q s=>exact .inl ⟨_,_,rfl,L2.Same.seq mask_le q,fun p hp=>k _ _ _ (same_new hp) (rep_lst live hp (s.cut lo hi)) h⟩
 | @tuple p xs ts q s =>
  refine .inr (.inl ⟨_,_,rfl,Same.seqT mask_le q,fun z=>?_,fun _ p hp=>k _ _ _ (same_new hp) (rep_tup live hp (s.cut lo hi)) h⟩)
  have e:cutD ts lo hi=ts:=by
   unfold cutD
   rw [s.length,z.1,z.2,Nat.sub_zero,List.drop_zero,<- s.length,List.take_length]
  have h':Q (.tuple (cutD ts lo hi)):=h
  rw [e] at h'
  exact k _ _ H (L2.Same.refl H) (.tuple q s) h'
 | str z=>exact .inr (.inr ⟨z,rfl,line5 h.1,k _ _ H (L2.Same.refl H) (.str _) h.2⟩)
 | _=>exact h.elim
theorem reps_strs:∀ {ys:List Str} {vs:List V},Reps K H (ys.map PyData.str) vs->vs=ys.map V.str
 | [],_,r=>by rw [List.map_nil] at r;cases r;rfl
 | y::ys,vs,r=>by
  rw [List.map_cons] at r
  cases r with
  | cons r1 r2 =>
   cases r1
   rw [List.map_cons,reps_strs r2]
def fNotIn (x y:D) (Q:D->Prop):Prop:=match x,y with
 | .str z,.list ts=>∃ ys:List Str,ts=ys.map .str/\Q (.bool (!decide (z∈ys)))
 | .str z,.tuple ts=>∃ ys:List Str,ts=ys.map .str/\Q (.bool (!decide (z∈ys)))
 | _,_=>False
theorem et_cb {r:List V->Hp->VK->Prop} {f:List D->(D->Prop)->Prop} {t:AT} {g:Expr} (hf:CallT X r f) (ha:PAt X (e::es) t) (pc:∀ {ta:TA},PA X (e::es) ta->PE X (.Call g (e::es) [] pos) (tCB r ta)):PEt X (.Call g (e::es) [] pos) (eCall f t):=by
 obtain ⟨v,pa,ra⟩:=ha
 refine ⟨_,pc pa,fun B p0 H ps σT σ Q QV o h k=>ra B p0 H ps σT σ _ _ o h fun ds xs H1 s1 r1 q1=>?_⟩
 exact hf H1 ps ds xs Q QV (o.grow s1).live r1 q1 fun d v H' s' r' q'=>k d v H' (s1.trans s') r' q'
def f1 (f:D->(D->Prop)->Prop):List D->(D->Prop)->Prop
 | [d],Q=>f d Q
 | _,_=>False
theorem c1 {r:List V->Hp->VK->Prop} {f:D->(D->Prop)->Prop} (h:∀ (H:Hp) (ps:List Addr) (d:D) (x:V) (Q:D->Prop) (QV:VK),(∀ p∈ps,H p≠none)->Rep X.K (mask H ps) d x->f d Q ->
  (∀ d v H',Same H H'->Rep X.K (mask H' ps) d v->Q d->QV v H')->r [x] H QV):CallT X r (f1 f):=by
 intro H ps ds xs Q QV live rs hf k
 cases rs with
 | nil=>exact hf.elim
 | cons r1 r2 =>
  cases r2 with
  | nil=>exact h H ps _ _ Q QV live r1 hf k
  | cons _ _=>exact hf.elim
def gLen (d:D) (Q:D->Prop):Prop:=match d with
 | .list ts=>Q (.int ts.length)
 | .tuple ts=>Q (.int ts.length)
 | .str z=>z.length<=100000/\Q (.int z.length)
 | _=>False
theorem call_lenAny:CallR X (.builtin "len") (fun xs H Q=>(∃ p ys,xs=[.ref p]/\(SqL X.K H p ys\/SqT X.K H p ys)/\Q (.int ys.length) H)\/∃ z,xs=[.str z]/\z.length<=sizeLine/\Q (.int z.length) H):=call_len_seq.or call_len_str
theorem c_len:CallT X (fun xs H Q=>(∃ p ys,xs=[.ref p]/\(SqL X.K H p ys\/SqT X.K H p ys)/\Q (.int ys.length) H)\/∃ z,xs=[.str z]/\z.length<=sizeLine/\Q (.int z.length) H) (f1 gLen):=c1 fun H ps d x Q QV live r h k=>by
 cases r with
 | list q s =>
  refine .inl ⟨_,_,rfl,.inl (L2.Same.seq mask_le q),?_⟩
  rw [<- s.length]
  exact k _ _ H (L2.Same.refl H) (.int _) h
 | tuple q s =>
  refine .inl ⟨_,_,rfl,.inr (Same.seqT mask_le q),?_⟩
  rw [<- s.length]
  exact k _ _ H (L2.Same.refl H) (.int _) h
 | str z=>exact .inr ⟨z,rfl,line5 h.1,k _ _ H (L2.Same.refl H) (.int _) h.2⟩
 | _=>exact h.elim
def gTuple (d:D) (Q:D->Prop):Prop:=match d with
 | .list ts=>Q (.tuple ts)
 | .tuple ts=>Q (.tuple ts)
 | _=>False
theorem c_tuple:CallT X (fun xs H Q=>∃ p ys,xs=[.ref p]/\((SqL X.K H p ys/\∀ l,H l=none->Q (.ref l) (upd H l (.tup ys)))\/(SqT X.K H p ys/\Q (.ref p) H))) (f1 gTuple):=c1 fun H ps d x Q QV live r h k=>by
 cases r with
 | list q s=>exact ⟨_,_,rfl,.inl ⟨L2.Same.seq mask_le q,fun l hl=>k _ _ _ (same_new hl) (rep_tup live hl s) h⟩⟩
 | tuple q s=>exact ⟨_,_,rfl,.inr ⟨Same.seqT mask_le q,k _ _ H (L2.Same.refl H) (.tuple q s) h⟩⟩
 | _=>exact h.elim
def gList (d:D) (Q:D->Prop):Prop:=match d with
 | .list ts=>Q (.list ts)
 | .tuple ts=>Q (.list ts)
 | _=>False
theorem c_list:CallT X (fun xs H Q=>∃ p ys,xs=[.ref p]/\(SqL X.K H p ys\/SqT X.K H p ys)/\∀ l,H l=none->Q (.ref l) (upd H l (.lst ys))) (f1 gList):=c1 fun H ps d x Q QV live r h k=>by
 cases r with
 | list q s=>exact ⟨_,_,rfl,.inl (L2.Same.seq mask_le q),fun l hl=>k _ _ _ (same_new hl) (rep_lst live hl s) h⟩
 | tuple q s=>exact ⟨_,_,rfl,.inr (Same.seqT mask_le q),fun l hl=>k _ _ _ (same_new hl) (rep_lst live hl s) h⟩
 | _=>exact h.elim
theorem reps_ints:∀ {ys:List Int} {vs:List V},Reps K H (ys.map PyData.int) vs->vs=ys.map V.int
 | [],_,r=>by rw [List.map_nil] at r;cases r;rfl
 | y::ys,vs,r=>by
  rw [List.map_cons] at r
  cases r with
  | cons r1 r2 =>
   cases r1
   rw [List.map_cons,reps_ints r2]
def f2 (f:D->D->(D->Prop)->Prop):List D->(D->Prop)->Prop
 | [d,d'],Q=>f d d' Q
 | _,_=>False
def gMin2 (x y:D) (Q:D->Prop):Prop:=match x,y with | .int i,.int j=>Q (.int (if j<i then j else i)) | _,_=>False
theorem c_min2:CallT X (fun xs H Q=>∃ i j,xs=[.int i,.int j]/\Q (.int (if j<i then j else i)) H) (f2 gMin2):=by
 intro H ps ds xs Q QV live rs hf k
 cases rs with
 | nil=>exact hf.elim
 | cons r1 r2 =>
  cases r2 with
  | nil=>exact hf.elim
  | cons r3 r4 =>
   cases r4 with
   | cons _ _=>exact hf.elim
   | nil =>
    cases r1 with
    | int i =>
     cases r3 with
     | int j=>exact ⟨i,j,rfl,k _ _ H (L2.Same.refl H) (.int _) hf⟩
     | _=>exact hf.elim
    | _=>exact hf.elim
def tyD:D->String
 | .none=>"NoneType"
 | .bool _=>"bool"
 | .int _=>"int"
 | .str _=>"str"
 | .list _=>"list"
 | .tuple _=>"tuple"
 | .dict []=>"list"
 | .dict [(.none,_)]=>"list"
 | .dict _=>"dict"
def isT (T:String) (d:D):Bool:=(tyD d == T) || (T == "int" && tyD d == "bool")
def isiQ (T:String) (d:D) (Q:D->Prop):Prop:=match d with | .dict ((.str _,_)::_)=>False | d=>Q (.bool (isT T d))
def eIsi (T:String) (te:ET):ET:=fun σ Q=>te σ fun d=>isiQ T d Q
def gJoin (z:Str) (ds:List D) (Q:D->Prop):Prop:=match ds with | [.list ts]=>∃ ys:List Str,ts=ys.map PyData.str/\(ys.map (·.length)).sum+ys.length*z.length<=16777216/\Q (.str (Txt.join z ys)) | _=>False
def sUnp (i j:Nat) (te:ET):STt:=fun DT σ=>te σ fun d=>gP i j d σ DT.nx
theorem st_unp {i j:Nat} {tg:Expr} {g:TG} (he:PEt X e te) (hg:PGt X tg (gP i j)) (pa:∀ {v:TE} {gv:TG},PE X e v->PG X tg gv->PS X (.Assign [tg] e pos) (tAsg v gv)):PSt X (.Assign [tg] e pos) (sUnp i j te):=by
 obtain ⟨v,pe,re⟩:=he
 obtain ⟨gv,pg,rg⟩:=hg
 refine ⟨_,pa pe pg,fun B p0 H ps σT σ DT DV o h f=>re B p0 H ps σT σ _ _ o h fun d x H1 s1 r1 q1=>?_⟩
 exact rg B p0 H1 ps σT σ d x _ _ (o.grow s1) r1 q1 fun σT' σ' o' _ q'=>f.nx H1 ps _ _ o' (mask_same s1) q'
mutual
theorem Rep.reads {pins:List (Addr×Obj)} {s:Shared} {σ:L2.St} (I:Inv X pins σ H s):∀ {d:D} {x:V} {u:Value},d.hasDict=false->Rep X.K H d x->RelV x u->∃ as,Reads s.heap u d as
 | _,_,_,_,.none,r=>by cases r;exact ⟨_,.none⟩
 | _,_,_,_,.bool b,r=>by cases r;exact ⟨_,.bool b⟩
 | _,_,_,_,.int i,r=>by obtain ⟨t,rfl⟩:=r;exact ⟨_,.int i t⟩
 | _,_,_,_,.str z,r=>by obtain ⟨t,rfl⟩:=r;exact ⟨_,.str z t⟩
 | _,_,_,hd,.list q rs,r=>by
  cases r
  obtain ⟨its,rv,⟨o,n,h1,h2,_,h3⟩,_⟩:=I.list q
  obtain ⟨as,h4⟩:=Reps.reads I hd rs rv
  exact ⟨_,.list h1 h2 h3 (by simpa using h4)⟩
 | _,_,_,hd,.tuple q rs,r=>by
  cases r
  obtain ⟨its,rv,⟨o,h1,h2,n,h3⟩,_⟩:=I.tuple q
  obtain ⟨as,h4⟩:=Reps.reads I hd rs rv
  exact ⟨_,.tuple h1 h2 h3 (by simpa using h4)⟩
 | _,_,_,hd,.wild _,_=>by cases hd
 | _,_,_,hd,.exc _ _,_=>by cases hd
 | _,_,_,hd,.excA _ _ _,_=>by cases hd
 | _,_,_,hd,.tape _ _,_=>by cases hd
 | _,_,_,hd,.addr _,_=>by cases hd
theorem Reps.reads {pins:List (Addr×Obj)} {s:Shared} {σ:L2.St} (I:Inv X pins σ H s):∀ {ds:List D} {xs:List V} {us:List Value},PyData.hasDictAll ds=false->Reps X.K H ds xs->Vals xs us->∃ as,ReadsAll s.heap us ds as
 | _,_,_,_,.nil,r=>by cases r;exact ⟨_,.nil⟩
 | d::ds,_,_,hd,.cons r1 r2,r=>by
  have hd':(d.hasDict || PyData.hasDictAll ds)=false:=hd
  rw [Bool.or_eq_false_iff] at hd'
  cases r with
  | cons v1 v2 =>
   obtain ⟨as,h1⟩:=Rep.reads I hd'.1 r1 v1
   obtain ⟨bs,h2⟩:=Reps.reads I hd'.2 r2 v2
   exact ⟨_,.cons h1 h2⟩
end
theorem call_reprT {k:Nat} (hr:Room k X.A):CallR X (.builtin "repr") (rRepr X.K fun H d x=>Rep X.K H d x/\d.hasDict=false):=call_repr hr fun I r rv=>Rep.reads I r.2 r.1 rv
def gRepr (d:D) (Q:D->Prop):Prop:=d.showable=true/\d.hasDict=false/\d.depth<=60/\d.shown.length<=sizeLine/\Q (.str d.shown)
theorem c_repr:CallT X (rRepr X.K fun H d x=>Rep X.K H d x/\d.hasDict=false) (f1 gRepr):=c1 fun H ps d x Q QV live r h k=>by
 obtain ⟨h1,h2,h3,h4,h⟩:=h
 exact ⟨x,d,rfl,⟨r.same mask_le,h2⟩,h1,h2,h3,h4,k _ _ H (L2.Same.refl H) (.str _) h⟩
def eRev (te:ET):ET:=fun σ Q=>te σ fun d=>match d with | .tuple ts=>Q (.tuple ts.reverse) | _=>False
end
end TL

namespace TL
open PySem PySem.Spec PyProof.Rows L2
def oneC (names:List (Str×NameKind)):Bool:=match names.filter (fun y=>y.2 == NameKind.cell) with
 | []=>true
 | [x]=>names.lookup x.1 == some .cell
 | _=>false
theorem oneC_ok {names:List (Str×NameKind)} (h:oneC names=true):OneCell names:=by
 unfold oneC at h
 split at h
 ·rename_i e
  exact .inl e
 ·rename_i x e
  have hx:x∈names.filter (fun y=>y.2 == NameKind.cell):=by rw [e];exact List.mem_singleton.mpr rfl
  have hk:x.2=.cell:=eq_of_beq (List.mem_filter.mp hx).2
  exact .inr ⟨x.1,by rw [e,<- hk],beq_iff_eq.mp h⟩
 ·cases h
def lcChk (sc out:Scope) (Nx N':List Str) (fr:List (Option Nat)):Bool :=
 decide (sc.kind=.function) && oneC sc.names && sc.names.all (fun y=>decide (y.2≠.free) || decide (out.names.lookup y.1=some .cell)) && sc.names.all (fun y=>decide (y.2≠.local) || decide (sc.names.lookup y.1=some .local)) && frChk sc.names out.names Nx N' fr
section
variable {X:Cx} {elt iter tg a:Expr} {ifs:List Expr} {scope:Scope} {pos:Pos} {N':List Str} {fr:List (Option Nat)} {wi:TI} {g:BP->TG} {tt:BP->TT} {te:BP->TE}
theorem lcChk_all {out:Scope} {Nx:List Str} (h:lcChk scope out Nx N' fr=true):scope.kind=.function/\OneCell scope.names/\(∀ y∈scope.names,y.2=.free->out.names.lookup y.1=some .cell)/\(∀ y∈scope.names,y.2=.local->scope.names.lookup y.1=some .local)/\frChk scope.names out.names Nx N' fr=true:=by
 unfold lcChk at h
 simp only [Bool.and_eq_true,List.all_eq_true,Bool.or_eq_true,decide_eq_true_eq] at h
 obtain ⟨⟨⟨⟨h1,h2⟩,h3⟩,h4⟩,h5⟩:=h
 exact ⟨h1,oneC_ok h2,fun y hy e=>(h3 y hy).elim (fun z=>absurd e z) id,fun y hy e=>(h4 y hy).elim (fun z=>absurd e z) id,h5⟩
theorem pe_lcc (h:lcChk scope X.env.scope X.N N' fr=true) (hcalm:X.calm=true) (hi:PI X tg iter wi)
  (hY:∀ b:BP,PG (blk X scope N' b) tg (g b)/\PIf (blk X scope N' b) ifs (tt b)/\PE (blk X scope N' b) elt (te b)) (hs:∀ x,foldedSetIterable iter X.env x=pure x:=by intro _;rfl):PE X (.ListComp elt [⟨tg,iter,ifs,0⟩] scope pos) (tLc fr wi g tt te):=by
 obtain ⟨h1,h2,h3,h4,h5⟩:=lcChk_all h
 exact pe_lc hcalm h1 h2 h5 h3 h4 hi hY hs
theorem ps_setlcc {i:Nat} {x:Str} {px spos:Pos} (h:lcChk scope X.env.scope X.N N' fr=true) (hN:X.N.Nodup) (hix:X.N[i]?=some x) (hx:Loc X.env.scope x) (hcalm:X.calm=true) (hi:PI X tg iter wi)
  (hY:∀ b:BP,PG (blk X scope N' b) tg (g b)/\PIf (blk X scope N' b) ifs (tt b)/\PE (blk X scope N' b) elt (te b))
  (hsw:swapsWith (.ListComp elt [⟨tg,iter,ifs,0⟩] scope pos) (some (.Name x px)) spos.line X.env=pure true) (hs:∀ x,foldedSetIterable iter X.env x=pure x:=by intro _;rfl) (hf:X.fn x=true\/X.env.scope.names.lookup x=some .local:=by first | exact .inl rfl | exact .inr rfl) :
  PS X (.Assign [.Name x px] (.ListComp elt [⟨tg,iter,ifs,0⟩] scope pos) spos) (tAsg (tLc fr wi g tt te) (gName i)):=by
 obtain ⟨h1,h2,h3,h4,h5⟩:=lcChk_all h
 exact ps_setlc hN hix hx hcalm h1 h2 h5 h3 h4 hi hY hsw hs hf
end
theorem bl_min:bootBuiltins "min"=some (.builtin "min"):=by decide +kernel
theorem bl_max:bootBuiltins "max"=some (.builtin "max"):=by decide +kernel
theorem bl_repr:bootBuiltins "repr"=some (.builtin "repr"):=by decide +kernel
theorem bl_len:bootBuiltins "len"=some (.builtin "len"):=by decide +kernel
theorem bl_tuple:bootBuiltins "tuple"=some (.type "tuple"):=by decide +kernel
theorem bl_list:bootBuiltins "list"=some (.type "list"):=by decide +kernel
theorem set_set {α:Type} (l:List α) (i:Nat) (a b:α):(l.set i a).set i b=l.set i b:=by
 apply List.ext_getElem?
 intro j
 by_cases h:i=j
 ·subst h
  by_cases hl:i<l.length
  ·rw [List.getElem?_set_self (by simpa using hl),List.getElem?_set_self hl]
  ·rw [List.getElem?_eq_none (by simpa using hl),List.getElem?_eq_none (by simpa using hl)]
 ·rw [List.getElem?_set_ne h,List.getElem?_set_ne h,List.getElem?_set_ne h]
theorem lc_in {ts:List D} {σb:List Sl} {te:ET} {Q:D->Prop} (R:Nat->D->D->Prop) (hz:ts.length<=100000)
  (ht:∀ (k:Nat) (x:D) (q:D->Prop),ts[k]?=some x->(∀ y,R k x y->q y)->te (σb.set 0 (.val x)) q)
  (hq:∀ ys:List D,ys.length=ts.length->(∀ (k:Nat) (x y:D),ts[k]?=some x->ys[k]?=some y->R k x y)->Q (.list ys)) :
  ts.length<=100000/\∃ P:Nat->List Sl->List D->Prop,P 0 σb [] /\
   (∀ (k:Nat) (x:D) (σ':List Sl) (ds:List D),ts[k]?=some x->P k σ' ds->gN 0 x σ' fun σ2=>cTrue σ2 fun b=>if b=true then te σ2 fun y=>P (k+1) σ2 (ds++[y]) else P (k+1) σ2 ds)/\∀ σ' ds,P ts.length σ' ds->Q (.list ds):=by
 refine ⟨hz,fun k σ' ds=>(∀ x,σ'.set 0 (.val x)=σb.set 0 (.val x))/\ds.length=k/\∀ (j:Nat) (x y:D),ts[j]?=some x->ds[j]?=some y->R j x y,⟨fun _=>rfl,rfl,fun j x y _ h=>by simp at h⟩,fun k x σ' ds hx h=>?_,fun σ' ds h=>hq ds h.2.1 h.2.2⟩
 obtain ⟨h1,h2,h3⟩:=h
 show te (σ'.set 0 (.val x)) _
 rw [h1 x]
 refine ht k x _ hx fun y hy=>⟨fun z=>set_set _ _ _ _,by simp [h2],fun j x' y' e1 e2=>?_⟩
 by_cases hj:j<k
 ·rw [List.getElem?_append_left (by omega)] at e2
  exact h3 j x' y' e1 e2
 ·rw [List.getElem?_append_right (by omega)] at e2
  have:j=k:=by
   by_cases e:j=k
   ·exact e
   ·have:j-ds.length≠0:=by omega
    cases q:j-ds.length with
    | zero=>exact absurd q this
    | succ n=>rw [q] at e2;simp at e2
  subst this
  rw [hx] at e1
  cases e1
  simp [h2] at e2
  subst e2
  exact hy
theorem lc_map {ts:List D} {σb:List Sl} {te:ET} {Q:D->Prop} (f:D->D) (hz:ts.length<=100000) (ht:∀ (x:D) (q:D->Prop),x∈ts->q (f x)->te (σb.set 0 (.val x)) q) (hq:Q (.list (ts.map f))) :
  ts.length<=100000/\∃ P:Nat->List Sl->List D->Prop,P 0 σb [] /\
   (∀ (k:Nat) (x:D) (σ':List Sl) (ds:List D),ts[k]?=some x->P k σ' ds->gN 0 x σ' fun σ2=>cTrue σ2 fun b=>if b=true then te σ2 fun y=>P (k+1) σ2 (ds++[y]) else P (k+1) σ2 ds)/\∀ σ' ds,P ts.length σ' ds->Q (.list ds):=by
 refine lc_in (fun k x y=>y=f x) hz (fun k x q hx h=>ht x q (List.mem_of_getElem? hx) (h _ rfl)) fun ys hl h=>?_
 have e:ys=ts.map f:=by
  apply List.ext_getElem?
  intro i
  rw [List.getElem?_map]
  cases hx:ts[i]? with
  | none =>
   rw [List.getElem?_eq_none (by rw [hl];exact List.getElem?_eq_none_iff.mp hx)];rfl
  | some x =>
   have hi:i<ys.length:=by rw [hl];exact (List.getElem?_eq_some_iff.mp hx).1
   have:=h i x ys[i] hx (List.getElem?_eq_getElem hi)
   rw [List.getElem?_eq_getElem hi,this];rfl
 rw [e];exact hq
section
variable {fr:List (Option Nat)} {ti:IT} {tt:TTt} {te:ET} {σ:List Sl} {Q:D->Prop} {ts:List D}
abbrev Gives' (ti:IT) (σ:List Sl) (ts:List D):Prop:=∀ R:List D->Prop,R ts->ti σ R
theorem lcx_map (hti:Gives' ti σ ts) (f:D->D) (hz:ts.length<=100000) (ht:∀ (x:D) (q:D->Prop),x∈ts->q (f x)->te ((inBlkT fr σ).set 0 (.val x)) q) (hq:Q (.list (ts.map f))):eLc fr ti (gN 0) cTrue te σ Q :=
 hti _ (lc_map (te:=te) (Q:=Q) f hz ht hq)
theorem lcx_in (hti:Gives' ti σ ts) (R:Nat->D->D->Prop) (hz:ts.length<=100000)
  (ht:∀ (k:Nat) (x:D) (q:D->Prop),ts[k]?=some x->(∀ y,R k x y->q y)->te ((inBlkT fr σ).set 0 (.val x)) q)
  (hq:∀ ys:List D,ys.length=ts.length->(∀ (k:Nat) (x y:D),ts[k]?=some x->ys[k]?=some y->R k x y)->Q (.list ys)):eLc fr ti (gN 0) cTrue te σ Q :=
 hti _ (lc_in (te:=te) (Q:=Q) R hz ht hq)
theorem forx {g:GT} {tb:STt} {DT:EndsT} (hti:Gives' ti σ ts) (P:Nat->List Sl->Prop) (h0:P 0 σ)
  (hs:∀ (k:Nat) (x:D) (σ':List Sl),ts[k]?=some x->P k σ'->g x σ' fun σ2=>tb { DT with nx:=P (k+1),ct:=P (k+1),bk:=DT.nx } σ2) (hd:∀ σ',P ts.length σ'->DT.nx σ'):sFor ti g tb DT σ:=hti _ ⟨P,h0,hs,hd⟩
end
theorem app_codes (x y:Str):(x++y).cps.toList=x.cps.toList++y.cps.toList:=by
 show (x.cps++y.cps).toList=_
 simp
theorem pick_codes (xs:Array Nat) (a k:Nat):(List.range k).filterMap (fun m=>xs[a+m]?)=(xs.toList.drop a).take k:=by
 induction k with
 | zero=>simp
 | succ k ih =>
  rw [List.range_succ,List.filterMap_append,ih,List.take_add_one,List.getElem?_drop]
  congr 1
  simp only [List.filterMap_cons,List.filterMap_nil]
  rw [Array.getElem?_toList]
  cases xs[a+k]?<;>rfl
theorem clip_ix (v:Option Int) (n d:Nat) (hd:d<=n):(match v with | none=>(d:Int) | some i=>max 0 (min (if i<0 then i+(n:Int) else i) (n:Int)))=((HT.sIx n d v:Nat):Int):=by
 cases v with
 | none=>rfl
 | some i =>
  have:=HT.clip_eq i n d
  rw [<- this]
  dsimp only
  split<;>omega
theorem clip_ix0 (v:Option Int) (n:Nat):(match v with | none=>(0:Int) | some i=>max 0 (min (if i<0 then i+(n:Int) else i) (n:Int)))=((HT.sIx n 0 v:Nat):Int):=clip_ix v n 0 (Nat.zero_le _)
theorem sr_congr {a a' b b':Int} (h1:a=a') (h2:b=b'):sliceRange a b 1=sliceRange a' b' 1:=by rw [h1,h2]
theorem slice_codes (z:Str) (lo hi:Option Int):(Txt.slice z lo hi).cps.toList=cutD z.cps.toList lo hi:=by
 have hn:z.cps.toList.length=z.length:=by simp [Str.length]
 have ha:=HT.sIx_le z.length 0 (Nat.zero_le _) lo
 have hb:=HT.sIx_le z.length z.length (Nat.le_refl _) hi
 have hI:Builtin.Str.strSliceIndices lo hi 1 z.length=(List.range (HT.sIx z.length z.length hi-HT.sIx z.length 0 lo)).map (fun k=>HT.sIx z.length 0 lo+k):=by
  unfold Builtin.Str.strSliceIndices
  simp only [show (1:Int) > 0 by decide,if_true]
  refine (sr_congr (clip_ix0 lo z.length) (clip_ix hi z.length z.length (Nat.le_refl _))).trans ?_
  unfold sliceRange
  simp only [show (1:Int) > 0 by decide,if_true]
  generalize HT.sIx z.length 0 lo=a
  generalize HT.sIx z.length z.length hi=b
  have ec:(if (a:Int)<(b:Int) then ((b:Int)-a+1-1) / 1 else 0).toNat=b-a:=by split<;>omega
  rw [ec]
  apply List.map_congr_left
  intro k _
  omega
 unfold Txt.slice cutD
 rw [hn,hI]
 generalize HT.sIx z.length 0 lo=a at *
 generalize HT.sIx z.length z.length hi=b at *
 split
 ·next h =>
  simp only [beq_self_eq_true,Bool.true_and,beq_iff_eq,List.length_map,List.length_range] at h
  have h1:a=0:=by omega
  have h2:b-a=z.cps.toList.length:=by rw [hn];exact h
  rw [h2,h1,List.drop_zero,List.take_length]
 ·rw [List.filterMap_map]
  exact pick_codes z.cps a (b-a)
theorem join_codes:∀ ys:List Str,(Txt.join ⟨#[]⟩ ys).cps.toList=(ys.map (·.cps.toList)).flatten:=by
 intro ys
 show (Builtin.Str.glued ⟨#[]⟩ ys).cps.toList=_
 rw [StrLaws.glued_eq_join]
 induction ys with
 | nil=>rfl
 | cons x ys ih =>
  cases ys with
  | nil=>simp [Str.join]
  | cons y r =>
   show (x++⟨#[]⟩++Str.join ⟨#[]⟩ (y::r)).cps.toList=_
   rw [app_codes,app_codes,ih]
   simp
theorem in_one (x:Str) (c:Nat):Txt.contains x ⟨#[c]⟩=decide (c∈x.cps.toList):=StrLaws.found_one x c
section
variable {te:ET} {u t e:STt} {c:TTt} {DT:EndsT} {σ:List Sl} {i:Nat}
theorem seq_set (v:D) (h:∀ q:D->Prop,q v->te σ q) (k:u DT (σ.set i (.val v))):sSeq (sSet i te) u DT σ:=h _ k
theorem seq_setR (R:D->Prop) (h:∀ q:D->Prop,(∀ v,R v->q v)->te σ q) (k:∀ v,R v->u DT (σ.set i (.val v))):sSeq (sSet i te) u DT σ:=h _ k
theorem seq_if (R:Bool->Prop) (h:∀ q:Bool->Prop,(∀ b,R b->q b)->c σ q) (k1:R true->t { DT with nx:=u DT } σ) (k0:R false->e { DT with nx:=u DT } σ):sSeq (sIf c t e) u DT σ:=by
 refine h _ fun b hb=>?_
 cases b with
 | true=>rw [if_pos rfl];exact k1 hb
 | false=>rw [if_neg (by decide)];exact k0 hb
theorem one_if (R:Bool->Prop) (h:∀ q:Bool->Prop,(∀ b,R b->q b)->c σ q) (k1:R true->t DT σ) (k0:R false->e DT σ):sIf c t e DT σ:=by
 refine h _ fun b hb=>?_
 cases b with
 | true=>rw [if_pos rfl];exact k1 hb
 | false=>rw [if_neg (by decide)];exact k0 hb
theorem seq_for {ti:IT} {ts:List D} {g:GT} {tb:STt} (hti:Gives' ti σ ts) (P:Nat->List Sl->Prop) (h0:P 0 σ)
  (hs:∀ (k:Nat) (x:D) (σ':List Sl),ts[k]?=some x->P k σ'->g x σ' fun σ2=>tb { DT with nx:=P (k+1),ct:=P (k+1),bk:=u DT } σ2) (hd:∀ σ',P ts.length σ'->u DT σ'):sSeq (sFor ti g tb) u DT σ :=
 forx (DT:={ DT with nx:=u DT }) hti P h0 hs hd
theorem seq_own {t:AT} (ds:List D) (hz:ds.length<=1000) (h:∀ q:List D->Prop,q ds->t σ q) (k:u DT (σ.set i (.own ds))):sSeq (sOwn i t) u DT σ:=h _ ⟨hz,k⟩
theorem one_app {ts:List D} (v:D) (ho:σ[i]?=some (.own ts)) (hz:ts.length<=100000) (h:∀ q:D->Prop,q v->te σ q) (k:DT.nx (σ.set i (.own (ts++[v])))):sApp i te DT σ:=⟨ts,ho,h _ ⟨hz,k⟩⟩
theorem one_set (v:D) (h:∀ q:D->Prop,q v->te σ q) (k:DT.nx (σ.set i (.val v))):sSet i te DT σ:=h _ k
end
end TL

namespace TL
open PySem PySem.Spec PyProof.Rows L2
mutual
theorem noDict:∀ {d:D},d.canLay0=true->d.hasDict=false
 | .none,_=>rfl
 | .bool _,_=>rfl
 | .int _,_=>rfl
 | .str _,_=>rfl
 | .list _,h=>noDictAll h
 | .tuple _,h=>noDictAll h
 | .dict _,h=>by cases h
theorem noDictAll:∀ {ds:List D},PyData.canLayAll0 ds=true->PyData.hasDictAll ds=false
 | [],_=>rfl
 | d::ds,h=>by
  have h':(d.canLay0 && PyData.canLayAll0 ds)=true:=h
  rw [Bool.and_eq_true] at h'
  show (d.hasDict || PyData.hasDictAll ds)=false
  rw [noDict h'.1,noDictAll h'.2];rfl
end
section
variable {X:Cx} {a b e:Expr} {es:List Expr} {te:ET} {pos:Pos}
def rData (K:PySem.W.Frag) (ok:D->D->Prop) (f:D->D->Bool):R2:=fun x y H Q=>∃ d1 d2,Rep K H d1 x/\Rep K H d2 y/\ok d1 d2/\Q (.bl (f d1 d2)) H
def fData (ok:D->D->Prop) (f:D->D->Bool) (x y:D) (Q:D->Prop):Prop:=ok x y/\Q (.bool (f x y))
theorem o_data {ok:D->D->Prop} {f:D->D->Bool}:Op2 X (rData X.K ok f) (fData ok f):=by
 intro H ps d1 d2 x y Q QV live r1 r2 h k
 exact ⟨d1,d2,r1.same mask_le,r2.same mask_le,h.1,k _ _ H (L2.Same.refl H) (.bool _) h.2⟩
def okEq (d1 d2:D):Prop:=d1.canLay0=true/\d2.canLay0=true/\min d1.depth d2.depth<=60
theorem op_eqD {k:Nat} (hr:Room k X.A):OpR X (compareOp .Eq) (rData X.K okEq PyData.eqv):=by
 intro pins s σ H x y v u Q I rx ry h
 obtain ⟨d1,d2,r1,r2,⟨c1,c2,hm⟩,q⟩:=h
 obtain ⟨as,h1⟩:=Rep.reads I (noDict c1) r1 rx
 obtain ⟨bs,h2⟩:=Rep.reads I (noDict c2) r2 ry
 exact SeqAt.compareEq_reads h1 h2 c1 c2 (by have:=hr.un;omega) ⟨.bl _,H,I,rfl,q⟩
theorem op_neD {k:Nat} (hr:Room k X.A):OpR X (compareOp .NotEq) (rData X.K okEq fun x y=>!PyData.eqv x y):=by
 intro pins s σ H x y v u Q I rx ry h
 obtain ⟨d1,d2,r1,r2,⟨c1,c2,hm⟩,q⟩:=h
 obtain ⟨as,h1⟩:=Rep.reads I (noDict c1) r1 rx
 obtain ⟨bs,h2⟩:=Rep.reads I (noDict c2) r2 ry
 exact SeqAt.compareNe_reads h1 h2 c1 c2 (by have:=hr.un;omega) ⟨.bl _,H,I,rfl,q⟩
def okIn (x y:D):Prop:=match y with
 | .list ts=>PyData.canLayAll0 ts=true/\x.canLay0=true/\min (PyData.depthAll ts) x.depth<=60
 | .tuple ts=>PyData.canLayAll0 ts=true/\x.canLay0=true/\min (PyData.depthAll ts) x.depth<=60
 | _=>False
def inD (x y:D):Bool:=match y with
 | .list ts=>ts.any fun z=>PyData.eqv z x
 | .tuple ts=>ts.any fun z=>PyData.eqv z x
 | _=>false
theorem op_inData {k:Nat} (hr:Room k X.A):OpR X (compareOp .In) (rData X.K okIn inD):=by
 intro pins s σ H x y v u Q I rx ry h
 obtain ⟨d1,d2,r1,r2,ho,q⟩:=h
 have hd:d1.hasDict=false/\d2.hasDict=false:=by
  cases d2 with
  | list ts=>exact ⟨noDict ho.2.1,noDictAll ho.1⟩
  | tuple ts=>exact ⟨noDict ho.2.1,noDictAll ho.1⟩
  | _=>exact ho.elim
 obtain ⟨as,h1⟩:=Rep.reads I hd.1 r1 rx
 obtain ⟨bs,h2⟩:=Rep.reads I hd.2 r2 ry
 cases d2 with
 | list ts=>exact SeqAt.in_list_reads h2 h1 ho.1 ho.2.1 (by have:=hr.un;have:=ho.2.2;omega) ⟨.bl _,H,I,rfl,q⟩
 | tuple ts=>exact SeqAt.in_tuple_reads h2 h1 ho.1 ho.2.1 (by have:=hr.un;have:=ho.2.2;omega) ⟨.bl _,H,I,rfl,q⟩
 | _=>exact ho.elim
def fIn2 (x y:D) (Q:D->Prop):Prop:=match x,y with
 | .str z,.str y=>Q (.bool (Txt.contains y z))
 | x,y=>okIn x y/\Q (.bool (inD x y))
theorem op_in2 {k:Nat} (hr:Room k X.A):OpR X (compareOp .In) (fun x y H Q=>(∃ i j,x=.str i/\y=.str j/\Q (.bl (!(Builtin.Str.occurrences j i 0 j.length 1).isEmpty)) H)\/rData X.K okIn inD x y H Q):=op_in_str.or (op_inData hr)
theorem o_in2:Op2 X (fun x y H Q=>(∃ i j,x=.str i/\y=.str j/\Q (.bl (!(Builtin.Str.occurrences j i 0 j.length 1).isEmpty)) H)\/rData X.K okIn inD x y H Q) fIn2:=by
 intro H ps d1 d2 x y Q QV live r1 r2 h k
 have gen:okIn d1 d2/\Q (.bool (inD d1 d2))->_:=fun h=>(.inr ⟨d1,d2,r1.same mask_le,r2.same mask_le,h.1,k _ _ H (L2.Same.refl H) (.bool _) h.2⟩:(∃ i j,x=.str i/\y=.str j/\QV (.bl (!(Builtin.Str.occurrences j i 0 j.length 1).isEmpty)) H)\/rData X.K okIn inD x y H QV)
 cases r1 with
 | str z =>
  cases r2 with
  | str w=>exact .inl ⟨z,w,rfl,rfl,k _ _ H (L2.Same.refl H) (.bool _) h⟩
  | _=>exact gen h
 | _=>exact gen h
def isNoneD:D->Bool
 | .none=>true
 | _=>false
def fIs (x y:D) (Q:D->Prop):Prop:=match y with | .bool b=>Q (.bool (isTrueD b x)) | .none=>Q (.bool (isNoneD x)) | _=>False
def fIsNot2 (x y:D) (Q:D->Prop):Prop:=match y with | .bool b=>Q (.bool (!isTrueD b x)) | .none=>Q (.bool (!isNoneD x)) | _=>False
theorem op_is2:OpR X (compareOp .Is) (fun x y H Q=>rIsB x y H Q\/(y=.non/\Q (.bl (decide (x=.non))) H)):=op_isB.or op_isN
theorem op_isNot2:OpR X (compareOp .IsNot) (fun x y H Q=>rIsNotB x y H Q\/(y=.non/\Q (.bl (!decide (x=.non))) H)):=op_isNotB.or op_notN
theorem o_is2:Op2 X (fun x y H Q=>rIsB x y H Q\/(y=.non/\Q (.bl (decide (x=.non))) H)) fIs:=by
 intro H ps d1 d2 x y Q QV live r1 r2 h k
 cases r2 with
 | bool b =>
  refine .inl ⟨b,rfl,?_⟩
  have e:(decide (x=V.bl b))=isTrueD b d1:=by cases r1<;>simp [isTrueD]
  rw [e]
  exact k _ _ H (L2.Same.refl H) (.bool _) h
 | none =>
  refine .inr ⟨rfl,?_⟩
  have e:(decide (x=V.non))=isNoneD d1:=by cases r1<;>simp [isNoneD]
  rw [e]
  exact k _ _ H (L2.Same.refl H) (.bool _) h
 | _=>exact h.elim
theorem o_isNot2:Op2 X (fun x y H Q=>rIsNotB x y H Q\/(y=.non/\Q (.bl (!decide (x=.non))) H)) fIsNot2:=by
 intro H ps d1 d2 x y Q QV live r1 r2 h k
 cases r2 with
 | bool b =>
  refine .inl ⟨b,rfl,?_⟩
  have e:(!decide (x=V.bl b))=!isTrueD b d1:=by cases r1<;>simp [isTrueD]
  rw [e]
  exact k _ _ H (L2.Same.refl H) (.bool _) h
 | none =>
  refine .inr ⟨rfl,?_⟩
  have e:(!decide (x=V.non))=!isNoneD d1:=by cases r1<;>simp [isNoneD]
  rw [e]
  exact k _ _ H (L2.Same.refl H) (.bool _) h
 | _=>exact h.elim
end
end TL

namespace L2
open PySem PySem.Spec PyProof.Rows
section
variable {P:Program} {w:World} {A:Around} {E:Value->Shared->Prop} {s:Shared}
end
section
variable {P:Program} {w:World} {A:Around} {E:Value->Shared->Prop} {s:Shared} {z TI TO i1 i2 l1 l2:Addr} {st1 st2:Nat->Heap->Prop} {src1 src2:Array Value->Heap->Prop} {k:Nat} {xs ys:Array Value} {a b:Value}
end
section
variable {X:Cx} {pins:List (Addr×Obj)} {σ:St} {H:Hp} {s:Shared} {h':Heap}
theorem Inv.turnedL {t':Nat} {ch:List Addr} (I:Inv X pins σ H s) (hf:∀ b∈ch,FpOk X pins H b) (k:∀ b o,b∉ch->s.heap.get? b=some o->h'.get? b=some o):Inv X pins σ H { s with heap:=h',toks:=t' }:=by
 have nit:∀ b u,H b=some u->b∉ch:=fun b u e z=>by rw [(hf b z).1] at e;cases e
 have hL:X.env.locals∉ch:=fun z=>(hf _ z).2.1 rfl
 refine I.step (g':=s.gens) (d':=s.drawn) (ch:=ch) (fun b hb=>?_) (fun b o _ _ hc e _=>k b o hc e) (fun b o _ _ hc e _=>⟨o.slots,k b o hc e⟩) (fun _ _ _ _ n=>n)
  (fun b o hc e=>⟨o,k b o hc e⟩) (fun _ _ e=>e) (fun _ _ _ e=>e) (fun b ps e=>⟨#[],by rw [e];simp⟩) (fun m hm=>?_) (fun b u e=>?_) I.bare
 ·obtain ⟨f0,f1,f2,f3,f4,f5⟩:=hf b hb
  exact ⟨f3,f1,f4,f5⟩
 ·obtain ⟨o,es,ep,ho,r⟩:=hm
  exact ⟨o,es,ep,k _ o hL ho,r⟩
 ·refine (I.hok b u e).stay (fun c v hc q=>k c v ?_ q) (fun _ q=>q) fun _ _ q=>q
  rcases hc with z | z
  ·rw [z];exact nit b u e
  ·exact nit c _ z
theorem Inv.turnedNew {t':Nat} {ch:List Addr} {T:Addr} {o:HO} (I:Inv X pins σ H s) (hf:∀ b∈ch,FpOk X pins H b) (k:∀ b u,b∉ch->s.heap.get? b=some u->h'.get? b=some u) (hp:s.heap.objs.size<=T) (new:ObjOk X.prog X.w (upd H T o) h' T o) :
  Inv X pins σ (upd H T o) { s with heap:=h',toks:=t' }:=by
 have nit:∀ b u,H b=some u->b∉ch:=fun b u e z=>by rw [(hf b z).1] at e;cases e
 have hL:X.env.locals∉ch:=fun z=>(hf _ z).2.1 rfl
 have hn:H T=none:=I.hok.fresh hp
 have ne:∀ b u,H b=some u->(upd H T o) b=some u:=fun b u e=>by rw [upd_ne (ne_of_none e hn)];exact e
 have ne2:∀ b u,s.heap.get? b=some u->b≠T:=fun b u e z=>by
  exact absurd (Nat.lt_of_lt_of_le (Heap.lt_size e) hp) (by rw [z];exact Nat.lt_irrefl _)
 refine I.step (g':=s.gens) (d':=s.drawn) (ch:=ch) (fun b hb=>?_) (fun b o _ _ hc e _=>k b o hc e) (fun b o _ _ hc e _=>⟨o.slots,k b o hc e⟩) (fun b u _ e n=>by rw [upd_ne (ne2 b u e)];exact n)
  (fun b o hc e=>⟨o,k b o hc e⟩) (fun b xs e=>ne _ _ e) (fun b u v e=>ne _ _ e) (fun b ps e=>⟨#[],by rw [ne _ _ e];simp⟩) (fun m hm=>?_) (fun b u e=>?_) I.bare
 ·obtain ⟨f0,f1,f2,f3,f4,f5⟩:=hf b hb
  exact ⟨f3,f1,f4,f5⟩
 ·obtain ⟨o,es,ep,ho,r⟩:=hm
  exact ⟨o,es,ep,k _ o hL ho,r⟩
 ·by_cases hb:b=T
  ·subst hb;rw [upd_same] at e;cases e;exact new
  ·rw [upd_ne hb] at e
   refine (I.hok b u e).stay (fun c v hc q=>k c v ?_ q) (fun c q=>ne _ _ q) (fun c xs q=>ne _ _ q) fun c ob v q=>ne _ _ q
   rcases hc with z | z
   ·rw [z];exact nit b u e
   ·exact nit c _ z
end
section
variable {P:Program} {w:World} {A:Around} {E:Value->Shared->Prop} {s:Shared}
end
section
variable {X:Cx}
end
end L2
namespace TL
open PySem PySem.Spec PyProof.Rows L2
variable {K:PySem.W.Frag}
def zipD (as bs:List D):List D:=(as.zip bs).map fun p=>.tuple [p.1,p.2]
theorem zipD_len (as bs:List D):(zipD as bs).length=min as.length bs.length:=by unfold zipD;simp
section
variable {X:Cx} {a b:Expr} {pos:Pos}
end
section
variable {fr:List (Option Nat)} {ti:IT} {tt:TTt} {te:ET} {σ:List Sl} {Q:D->Prop} {ts:List D}
theorem set2_set2 {α:Type} (l:List α) (a b c d:α):(((l.set 0 a).set 1 b).set 0 c).set 1 d=(l.set 0 c).set 1 d:=by
 match l with
 | []=>rfl
 | [_]=>rfl
 | _::_::_=>rfl
end
end TL

namespace L2
open PySem PySem.Spec PyProof.Rows PySem.SeqAt
open AutoSeq1 (wpAny_loadPart')
theorem tuple_indexAt (l:Addr) (items:Array Value) (n:Nat) (dd:Option Addr) (sl:Array (Option Value)) (x:Value) (e:Value->Bool) (j:Nat) (hj:j<items.size) (hit:e items[j]=true) (hno:∀ m (hm:m<items.size),m<j->e items[m]=false) :
  Meets (Builtin.«tuple.index» ⟨[.ref l,x],[]⟩)
   (fun A R s=>s.heap.get? l=some { cls:=.type "tuple",dict:=dd,data:=.seq items n,slots:=sl }/\(∀ y,y∈items->EqAt A.in1 s y x (e y))/\R (.ok (.ret (.int j s.toks))) { s with toks:=s.toks+1 }):=by
 intro prog w A R s h
 obtain ⟨hp,g,d,tk,os⟩:=s;obtain ⟨hl,he,h⟩:=h
 unfold Builtin.«tuple.index»
 simp only [Std.Legacy.Range.forIn_eq_forIn_range']
 wp_walk using wpAny_loadPart' hl
 have hN:([:min items.size items.size]:Std.Legacy.Range).size=items.size:=by simp [Std.Legacy.Range.size]
 rw [hN]
 show wpAny _ _ (forIn (List.range' 0 items.size) (none,()) _) _ _ _
 refine wpAny_forIn_list _ (fun rest b s'=>b=(none,())/\s'=⟨hp,g,d,tk,os⟩/\∃ k,rest=List.range' k (items.size-k)/\k<=j) _ (fun i rest b s' h1=>?_) (fun b s' h1=>?_) _ _ ⟨rfl,rfl,0,by simp,Nat.zero_le _⟩
 ·obtain ⟨rfl,rfl,k,hr,hk⟩:=h1
  have hkN:k<items.size:=by omega
  have e1:items.size-k=(items.size-(k+1))+1:=by omega
  rw [e1,List.range'_succ] at hr
  obtain ⟨rfl,rfl⟩:=List.cons.inj hr
  have hi:items[i]?=some items[i]:=by simp [hkN]
  rw [hi]
  refine wpAny_bind (he _ (Array.getElem_mem hkN) prog w _ _ ?_)
  by_cases hij:i=j
  ·subst hij
   rw [hit,if_pos rfl]
   wp_walk
   exact h
  ·have hlt:i<j:=by omega
   rw [hno i hkN hlt,if_neg (by decide)]
   exact wpAny_pure ⟨rfl,rfl,i+1,rfl,hlt⟩
 ·obtain ⟨_,_,k,hr,hk⟩:=h1
  have:=congrArg List.length hr
  simp at this
  omega
section
variable {X:Cx}
end
end L2
namespace TL
open PySem PySem.Spec PyProof.Rows L2 PySem.SeqAt
section
variable {X:Cx} {a b e:Expr} {es:List Expr} {te ta tb:ET} {pos:Pos}
def okIx (ts:List D) (d:D) (j:Nat):Prop:=PyData.canLayAll0 ts=true/\d.canLay0=true/\min (PyData.depthAll ts) d.depth<=60/\(∃ t,ts[j]?=some t/\PyData.eqv t d=true)/\∀ (m:Nat) t,m<j->ts[m]?=some t->PyData.eqv t d=false
def rIndex (K:PySem.W.Frag):V->List V->Hp->VK->Prop:=fun x xs H Q=>∃ (y:V) (ts:List D) (d:D) (j:Nat),xs=[y]/\Rep K H (.tuple ts) x/\Rep K H d y/\okIx ts d j/\Q (.int j) H
theorem mt_indexU (hu:X.A.units+200<cLine):MtR X "tuple.index" (rIndex X.K):=by
 intro pins s σ H x xs v us Q I rx rv h
 obtain ⟨y,ts,d,j,rfl,r1,r2,⟨c1,c2,hm,⟨t,ht,he⟩,hno⟩,q⟩:=h
 obtain ⟨u,rfl,ru⟩:=rv.one
 obtain ⟨as,h1⟩:=Rep.reads I (show (PyData.tuple ts).hasDict=false from noDictAll c1) r1 rx
 obtain ⟨bs,h2⟩:=Rep.reads I (noDict c2) r2 ru
 cases h1 with
 | @tuple l o items n _ as' h3 h4 h5 h6 =>
  have hmap:=readsAll_map ts items.toList _ c1 h6
  have hlen:items.size=ts.length:=by rw [<- hmap,List.length_map,Array.length_toList]
  have hjl:j<ts.length:=(List.getElem?_eq_some_iff.mp ht).1
  have hj:j<items.size:=by omega
  have rd:∀ (m:Nat) (hm:m<items.size),ts[m]?=some (readOf s.heap items[m]):=fun m hm=>by
   rw [<- hmap,List.getElem?_map]
   simp [hm]
  obtain ⟨oc,od,odt,osl⟩:=o
  cases h4
  cases h5
  refine call_meets F.slot_tuple_index ⟨_,h3,rfl⟩ F.entry_tuple_index (F.args_tuple_index_2 _ _) (tuple_indexAt _ items _ od osl u (fun y=>PyData.eqv (readOf s.heap y) d) j hj ?_ ?_) ⟨h3,items_eqAt h6 h2 c1 c2 (by have:=hu;omega),?_⟩
  ·have:=rd j hj
   rw [ht] at this
   rw [<- Option.some.inj this];exact he
  ·intro m hm' hlt
   exact hno m _ hlt (rd m hm')
  ·exact ⟨.int j,H,I.tok _,⟨_,rfl⟩,q⟩
theorem mt_index {k:Nat} (hr:Room k X.A):MtR X "tuple.index" (rIndex X.K):=mt_indexU (by have:=hr.un;omega)
def eIndex (te:ET) (t:AT):ET:=fun σ Q=>te σ fun d=>∃ ts,d=.tuple ts/\t σ fun ds=>∃ (x:D) (j:Nat),ds=[x]/\okIx ts x j/\Q (.int j)
theorem et_index {n:Expr} {ap:Pos} {t:AT} (hn:PEt X n te) (ha:PAt X (e::es) t)
  (pc:∀ {v:TE} {ta:TA},PE X n v->PA X (e::es) ta->PE X (.Call (.Attribute n "index" ap) (e::es) [] pos) (tBM X.K "tuple" (rIndex X.K) v ta)):PEt X (.Call (.Attribute n "index" ap) (e::es) [] pos) (eIndex te t):=by
 obtain ⟨v,pe,re⟩:=hn
 obtain ⟨va,pa,ra⟩:=ha
 refine ⟨_,pc pe pa,fun B p0 H ps σT σ Q QV o h k=>re B p0 H ps σT σ _ _ o h fun d x H1 s1 r1 q1=>?_⟩
 obtain ⟨ts,rfl,q1⟩:=q1
 cases r1 with
 | @tuple p xs _ hq rs =>
  refine ⟨.inr (.inl ⟨rfl,.inr ⟨_,Same.seqT mask_le hq⟩⟩),ra B p0 H1 ps σT σ _ _ (o.grow s1) q1 fun ds ys H2 s2 r2 q2=>?_⟩
  obtain ⟨d,j,rfl,hok,q⟩:=q2
  cases r2 with
  | cons r3 r4 =>
   cases r4
   exact ⟨_,ts,d,j,rfl,(Rep.tuple hq rs).same ((mask_same s2).trans mask_le),r3.same mask_le,hok,k _ _ H2 (s1.trans s2) (.int _) q⟩
theorem Reps.rep {K:PySem.W.Frag} {H:Hp} {ds:List D} {vs:List V} (r:Reps K H ds vs):∀ n:Nat,Reps K H (List.replicate n ds).flatten (List.replicate n vs).flatten
 | 0=>.nil
 | n+1=>by
  rw [List.replicate_succ,List.replicate_succ,List.flatten_cons,List.flatten_cons]
  exact r.append (Reps.rep r n)
end
end TL

namespace TL
open PySem PySem.Spec PyProof.Rows L2
section
variable {K:PySem.W.Frag} {H H':Hp} {B:Hp} {p0 ps:List Addr} {σT:List Sl} {σ:L2.St}
def flatD:D->Bool
 | .none=>true
 | .bool _=>true
 | .int _=>true
 | .str _=>true
 | _=>false
theorem Rep.flat {d:D} {v:V} (r:Rep K H d v) (h:flatD d=true):Rep K H' d v:=by
 cases r with
 | none=>exact .none
 | bool b=>exact .bool b
 | int i=>exact .int i
 | str x=>exact .str x
 | _=>cases h
theorem Reps.snoc:∀ {ts:List D} {d:D} {xs:List V},Reps K H (ts++[d]) xs->∃ ys y,xs=ys++[y]/\Reps K H ts ys/\Rep K H d y
 | [],d,_,r=>by
  rw [List.nil_append] at r
  cases r with
  | cons r1 r2=>cases r2;exact ⟨[],_,rfl,.nil,r1⟩
 | t::ts,d,_,r=>by
  rw [List.cons_append] at r
  cases r with
  | cons r1 r2 =>
   obtain ⟨ys,y,rfl,h1,h2⟩:=Reps.snoc r2
   exact ⟨_::ys,y,rfl,.cons r1 h1,h2⟩
theorem Reps.put:∀ {ts:List D} {xs:List V} (n:Nat) {d:D} {v:V},Reps K H ts xs->Rep K H d v->Reps K H (ts.set n d) (xs.set n v)
 | _,_,_,_,_,.nil,_=>.nil
 | _,_,0,_,_,.cons _ t,r=>.cons r t
 | _,_,n+1,_,_,.cons s t,r=>.cons s (Reps.put n t r)
def without (H:Hp) (p:Addr):Hp:=fun b=>if b=p then none else H b
theorem without_same {p:Addr} (s:Same H H') (hp:H p=none):Same H (without H' p):=fun b o e=>by
 unfold without
 rw [if_neg fun z=>by rw [z,hp] at e;cases e]
 exact s b o e
theorem without_upd {p:Addr} {u:HO} (hx:H p=some u):upd (without H p) p u=H:=by
 funext b
 by_cases h:b=p
 ·subst h;rw [upd_same,hx]
 ·rw [upd_ne h]
  unfold without
  rw [if_neg h]
theorem Same.free' (s:Same H H') {p:Addr} (h:H' p=none):H p=none:=by
 cases q:H p with
 | none=>rfl
 | some u=>rw [s p u q] at h;cases h
end
section
variable {X:Cx} {a b c e:Expr} {es:List Expr} {ta tb te:ET} {pos:Pos}
def eBorrow (i:Nat) (t:ET):ET:=fun σ Q=>∃ ts,σ[i]?=some (.own ts)/\t (σ.set i (.val (.list ts))) fun d=>flatD d=true/\Q d
theorem et_borrow (i:Nat) (h:PEt X e te):PEt X e (eBorrow i te):=by
 obtain ⟨v,p,r⟩:=h
 refine ⟨_,p,fun B p0 H ps σT σ Q QV o h k=>?_⟩
 obtain ⟨ts,e,h⟩:=h
 obtain ⟨ps',o',s'⟩:=o.share e
 exact r B p0 H ps' _ σ _ _ o' h fun d x H1 s1 r1 q1=>k d x H1 s1 (r1.flat q1.1) q1.2
def cBorrow (i:Nat) (t:TTt):TTt:=fun σ Q=>∃ ts,σ[i]?=some (.own ts)/\t (σ.set i (.val (.list ts))) Q
theorem tt_borrow (i:Nat) {t:TTt} (h:PTt X e t):PTt X e (cBorrow i t):=by
 obtain ⟨v,p,r⟩:=h
 refine ⟨_,p,fun B p0 H ps σT σ Q QV o h k=>?_⟩
 obtain ⟨ts,e,h⟩:=h
 obtain ⟨ps',o',s'⟩:=o.share e
 exact r B p0 H ps' _ σ _ _ o' h k
abbrev FT:=List Sl->(List D->Prop)->Prop
def PFt (X:Cx) (e:Expr) (t:FT):Prop:=∃ te:TE,PE X e te/\∀ (B:Hp) (p0:List Addr) (H:Hp) (ps:List Addr) (σT:List Sl) (σ:L2.St) (Q:List D->Prop) (QV:VK),Ok X.K B p0 H ps σT σ->t σT Q ->
 (∀ ts p xs H',Same H H'->H p=none->H' p=some (.lst xs)->Reps X.K (mask H' (p::ps)) ts xs->Q ts->QV (.ref p) H')->te σ H QV
def eFr (t:FT):ET:=fun σ Q=>t σ fun ts=>Q (.list ts)
theorem et_fr {t:FT} (h:PFt X e t):PEt X e (eFr t):=by
 obtain ⟨v,p,r⟩:=h
 refine ⟨_,p,fun B p0 H ps σT σ Q QV o h k=>r B p0 H ps σT σ _ _ o h fun ts p xs H' s hp hx rs q=>k _ _ H' s ?_ q⟩
 exact .list (SqL.of (mask_at (fresh_notin o.live hp) hx)) (rs.same (mask_sub fun q hq=>List.mem_cons_of_mem _ hq))
def fAddL (ta tb:ET):FT:=fun σ Q=>ta σ fun x=>tb σ fun y=>∃ as bs,x=.list as/\y=.list bs/\as.length+bs.length<=100000/\Q (as++bs)
theorem ft_add (ha:PEt X a ta) (hb:PEt X b tb):PFt X (.BinOp a .Add b pos) (fAddL ta tb):=by
 obtain ⟨va,pa,ra⟩:=ha
 obtain ⟨vb,pb,rb⟩:=hb
 refine ⟨_,pe_op op_catL pa pb,fun B p0 H ps σT σ Q QV o h k=>ra B p0 H ps σT σ _ _ o h fun d1 x H1 s1 r1 q1=>?_⟩
 refine rb B p0 H1 ps σT σ _ _ (o.grow s1) q1 fun d2 y H2 s2 r2 q2=>?_
 obtain ⟨as,bs,rfl,rfl,hz,q⟩:=q2
 cases r1 with
 | list h1 t1 =>
  cases r2 with
  | list h2 t2 =>
   refine ⟨_,_,_,_,rfl,rfl,L2.Same.seq ((mask_same s2).trans mask_le) h1,L2.Same.seq mask_le h2,line5 (by rw [<- t1.length,<- t2.length];exact hz),fun p hp=>?_⟩
   exact k _ p _ _ ((s1.trans s2).trans (same_new hp)) (Same.free' (s1.trans s2) hp) upd_same (by rw [mask_new hp];exact (t1.same (mask_same s2)).append t2) q
def fLc (fr:List (Option Nat)) (ti:IT) (g:GT) (tt:TTt) (te:ET):FT:=fun σ Q=>ti σ fun ts=>ts.length<=100000/\∃ P:Nat->List Sl->List D->Prop,P 0 (inBlkT fr σ) [] /\
 (∀ (k:Nat) (x:D) (σ':List Sl) (ds:List D),ts[k]?=some x->P k σ' ds->g x σ' fun σ2=>tt σ2 fun b=>if b=true then te σ2 fun y=>P (k+1) σ2 (ds++[y]) else P (k+1) σ2 ds)/\∀ σ' ds,P ts.length σ' ds->Q ds
def asL (Q:List D->Prop) (d:D):Prop:=match d with | .list ds=>Q ds | _=>False
theorem fLc_of {fr:List (Option Nat)} {ti:IT} {g:GT} {tt:TTt} {te:ET} {σ:List Sl} {Q:List D->Prop} (h:eLc fr ti g tt te σ (asL Q)):fLc fr ti g tt te σ Q:=h
theorem lc_readF {fr:List (Option Nat)} {ti:IT} {g:GT} {tt:TTt} {te:ET} {wi:TI} {gv:BP->TG} {vt:BP->TT} {ve:BP->TE}
  (ri:∀ (B:Hp) (p0:List Addr) (H:Hp) (ps:List Addr) (σT:List Sl) (σ:L2.St) (Q:List D->Prop) (R:It->Hp->Prop),Ok X.K B p0 H ps σT σ->ti σT Q->(∀ ts J H',Same H H'->Runs X.K (mask H' ps) ts J->Q ts->R J H')->wi σ H R)
  (rg:∀ (bp:BP) (B:Hp) (p0:List Addr) (H:Hp) (ps:List Addr) (σT:List Sl) (σ:L2.St) (d:D) (v:V) (Q:List Sl->Prop) (QV:L2.St->Hp->Prop),Ok X.K B p0 H ps σT σ->Rep X.K (mask H ps) d v->g d σT Q->(∀ σT' σ',Ok X.K B p0 H ps σT' σ'->(noOwn σT->noOwn σT')->Q σT'->QV σ' H)->gv bp v σ H QV)
  (rt:∀ (bp:BP) (B:Hp) (p0:List Addr) (H:Hp) (ps:List Addr) (σT:List Sl) (σ:L2.St) (Q:Bool->Prop) (QV:Bool->Hp->Prop),Ok X.K B p0 H ps σT σ->tt σT Q->(∀ b H',Same H H'->Q b->QV b H')->vt bp σ H QV)
  (re:∀ (bp:BP) (B:Hp) (p0:List Addr) (H:Hp) (ps:List Addr) (σT:List Sl) (σ:L2.St) (Q:D->Prop) (QV:VK),Ok X.K B p0 H ps σT σ->te σT Q->(∀ d v H',Same H H'->Rep X.K (mask H' ps) d v->Q d->QV v H')->ve bp σ H QV)
  (B:Hp) (p0:List Addr) (H:Hp) (ps:List Addr) (σT:List Sl) (σ:L2.St) (Q:List D->Prop) (QV:VK) (o:Ok X.K B p0 H ps σT σ) (h:fLc fr ti g tt te σT Q) (k:∀ ts p xs H',Same H H'->H p=none->H' p=some (.lst xs)->Reps X.K (mask H' (p::ps)) ts xs->Q ts->QV (.ref p) H'):tLc fr wi gv vt ve σ H QV:=by
 refine ri B p0 H ps σT σ _ _ o h fun ts J H1 s1 rj q1=>?_
 obtain ⟨hz,P,h0,hs,hd⟩:=q1
 intro bp acc hacc
 have hBacc:B acc=none:=Same.free' (o.grow s1).base hacc
 refine ⟨fun i m σ' H'=>m=ts.length-i/\i<=ts.length/\∃ σT' ds ys,Ok X.K B p0 H' (acc::ps) σT' σ'/\noOwn σT'/\H' acc=some (.lst ys)/\ds.length<=i/\Reps X.K (mask H' (acc::ps)) ds ys/\Same (mask H1 ps) (mask H' (acc::ps))/\Same H1 H'/\P i σT' ds,
  ⟨_,rfl,Nat.zero_le _,inBlkT fr σT,[],[],((o.grow s1).blk fr).adopt hacc,noOwn_blk fr σT,upd_same,Nat.le_refl _,.nil,by rw [mask_new hacc];exact L2.Same.refl _,same_new hacc,h0⟩,?_⟩
 rintro i m σ' H' ⟨rfl,hle,σT',ds,ys,o',n',ha,hl,hr,s',sF,p'⟩
 have hL:sizeLine=2 ^ 24:=rfl
 by_cases hlt:i<ts.length
 ·refine .inr ⟨rj.go i H' (s'.trans mask_le) hlt,fun y H2 hy=>?_⟩
  obtain ⟨s2,dx,hx,rx⟩:=rj.yld i H' (acc::ps) y H2 o'.live s' hlt hy
  refine rg bp B p0 H2 (acc::ps) σT' σ' dx y _ _ (o'.grow s2) rx (hs i dx σT' ds hx p') fun σT3 σ3 o3 n3 q3=>?_
  refine rt bp B p0 H2 (acc::ps) σT3 σ3 _ _ o3 q3 fun b H4 s4 q4=>?_
  have s24:=s2.trans s4
  cases b with
  | false =>
   exact ⟨ts.length-(i+1),by omega,rfl,hlt,σT3,ds,ys,o3.grow s4,n3 n',s24 _ _ ha,by omega,hr.same (mask_same s24),s'.trans (mask_same s24),sF.trans s24,q4⟩
  | true =>
   refine re bp B p0 H4 (acc::ps) σT3 σ3 _ _ (o3.grow s4) q4 fun d v H5 s5 r5 q5=>?_
   have s25:=s24.trans s5
   have hm:mask (upd H5 acc (.lst (ys++[v]))) (acc::ps)=mask H5 (acc::ps):=mask_upd (List.mem_cons_self ..)
   refine ⟨ys,s25 _ _ ha,by rw [<- hr.length];omega,ts.length-(i+1),by omega,rfl,hlt,σT3,ds++[d],ys++[v],((o3.grow s4).grow s5).aside (List.mem_cons_self ..) hBacc (n3 n'),n3 n',upd_same,by rw [List.length_append,List.length_singleton];omega,?_,?_,?_,q5⟩
   ·rw [hm];exact (hr.same (mask_same s25)).append (.cons r5 .nil)
   ·rw [hm];exact s'.trans (mask_same s25)
   ·intro b u e
    have ne:b≠acc:=fun z=>by rw [z,hacc] at e;cases e
    rw [upd_ne ne];exact (sF.trans s25) b u e
 ·obtain rfl:i=ts.length:=by omega
  exact .inl ⟨rj.stop _ H' (s'.trans mask_le) (Nat.le_refl _),k ds acc ys H' (s1.trans sF) (Same.free' s1 hacc) ha hr (hd σT' ds p')⟩
theorem lc_allF {elt iter tg:Expr} {ifs:List Expr} {scope:Scope} {fr:List (Option Nat)} {N':List Str} {ti:IT} {g:GT} {tt:TTt} {te:ET} (hi:PIt X tg iter ti)
  (hY:∀ b:BP,PGt (blk X scope N' b) tg g/\PIft (blk X scope N' b) ifs tt/\PEt (blk X scope N' b) elt te) {M:(TE)->Prop}
  (fin:∀ {wi:TI} {gv:BP->TG} {vt:BP->TT} {ve:BP->TE},PI X tg iter wi->(∀ b:BP,PG (blk X scope N' b) tg (gv b)/\PIf (blk X scope N' b) ifs (vt b)/\PE (blk X scope N' b) elt (ve b))->M (tLc fr wi gv vt ve)) :
  ∃ v:TE,M v/\∀ (B:Hp) (p0:List Addr) (H:Hp) (ps:List Addr) (σT:List Sl) (σ:L2.St) (Q:List D->Prop) (QV:VK),Ok X.K B p0 H ps σT σ->fLc fr ti g tt te σT Q ->
   (∀ ts p xs H',Same H H'->H p=none->H' p=some (.lst xs)->Reps X.K (mask H' (p::ps)) ts xs->Q ts->QV (.ref p) H')->v σ H QV:=by
 obtain ⟨wi,pi,ri⟩:=hi
 refine ⟨_,fin (gv:=fun b=>Classical.choose (hY b).1) (vt:=fun b=>Classical.choose (hY b).2.1) (ve:=fun b=>Classical.choose (hY b).2.2) pi fun b=>⟨(Classical.choose_spec (hY b).1).1,(Classical.choose_spec (hY b).2.1).1,(Classical.choose_spec (hY b).2.2).1⟩,?_⟩
 exact lc_readF ri (fun b=>(Classical.choose_spec (hY b).1).2) (fun b=>(Classical.choose_spec (hY b).2.1).2) fun b=>(Classical.choose_spec (hY b).2.2).2
theorem ft_lc {elt iter tg:Expr} {ifs:List Expr} {scope:Scope} {fr:List (Option Nat)} {N':List Str} {ti:IT} {g:GT} {tt:TTt} {te:ET} (hi:PIt X tg iter ti)
  (hY:∀ b:BP,PGt (blk X scope N' b) tg g/\PIft (blk X scope N' b) ifs tt/\PEt (blk X scope N' b) elt te)
  (pl:∀ {wi:TI} {gv:BP->TG} {vt:BP->TT} {ve:BP->TE},PI X tg iter wi->(∀ b:BP,PG (blk X scope N' b) tg (gv b)/\PIf (blk X scope N' b) ifs (vt b)/\PE (blk X scope N' b) elt (ve b))->PE X (.ListComp elt [⟨tg,iter,ifs,0⟩] scope pos) (tLc fr wi gv vt ve)) :
  PFt X (.ListComp elt [⟨tg,iter,ifs,0⟩] scope pos) (fLc fr ti g tt te):=lc_allF hi hY pl
abbrev SpF:=List D->(List D->Prop)->Prop
def liftSpF (K:PySem.W.Frag) (sp:SpF):Sp:=fun vs H Q _=>∃ (ps:List Addr) (ds:List D) (QD:List D->Prop),(∀ p∈ps,H p≠none)/\Reps K (mask H ps) ds vs/\sp ds QD /\
 ∀ ts p xs H',Same H H'->H p=none->H' p=some (.lst xs)->Reps K (mask H' (p::ps)) ts xs->QD ts->Q (.ref p) H'
def fCall (sp:SpF) (t:AT):FT:=fun σ Q=>t σ fun ds=>sp ds Q
theorem ft_call {k:Nat} {f:Addr} {fd:FuncData} {pn:List Str} {sp:SpF} {x:Str} {p:Pos} {t:AT} (F:FnOk X.prog X.w X.K X.mg X.base CX0 k f fd pn (liftSpF X.K sp)) (hm:X.mg x=some (.ref f)) (hk:PySem.W.keepIn X.K (.ref f)=true) (hb:Binds X.K fd pn [])
  (hr:Room k X.A) (ha:PAt X (e::es) t) (pc:∀ {ta:TA},PA X (e::es) ta->PE X (.Call (.Name x p) (e::es) [] pos) (tCall (liftSpF X.K sp) [] E0 ta)):PFt X (.Call (.Name x p) (e::es) [] pos) (fCall sp t):=by
 obtain ⟨v,pa,ra⟩:=ha
 refine ⟨_,pc pa,fun B p0 H ps σT σ Q QV o h k=>ra B p0 H ps σT σ _ _ o h fun ds xs H1 s1 r1 q1=>?_⟩
 show liftSpF X.K sp (xs++[]) H1 QV E0
 rw [List.append_nil]
 exact ⟨ps,ds,Q,(o.grow s1).live,r1,q1,fun ts p xs' H' s' hp hx rs q=>k ts p xs' H' (s1.trans s') (Same.free' s1 hp) hx rs q⟩
theorem fnF {P:Program} {w:World} {K:PySem.W.Frag} {mg:Str->Option Value} {base:Heap} {x qual:Str} {st:Stmt} {f:Addr} {fd:FuncData} {N pn:List Str} {k:Nat} {sp:SpF} (F:Fun K x qual st f fd) (S:FnScope N pn (defScope st)) (len:∀ ds Q,sp ds Q->ds.length=pn.length)
  (hbody:∀ (cdv:Value) (A:Around) (outer:List Env) (s:Shared) (H:Hp) (E:XK),Room k (A.deeper (envOfC qual (defScope st) s.heap.objs.size f cdv))->∀ (ds:List D) (Q:List D->Prop),sp ds Q ->
   ∃ t,PSst (cxOf CX0 P w K mg base N qual (defScope st) f cdv A outer s H E).nox (defBody st) t/\t { nx:=fun _=>False,rt:=fun _=>False,ro:=Q } (startT N ds)):FnOk P w K mg base CX0 (k+1) f fd pn (liftSpF K sp):=by
 refine F.ok S (fun vs H Q E h=>?_) fun cdv A outer s H vs Q E hr h=>?_
 ·obtain ⟨ps,ds,QD,_,r,q,_⟩:=h
  rw [<- r.length];exact len ds QD q
 ·obtain ⟨ps,ds,QD,live,r,q,k⟩:=h
  obtain ⟨t,⟨ts,p,rd⟩,h⟩:=hbody cdv A outer s H E hr ds QD q
  exact ⟨ts,p,rd H ps H ps _ _ _ _ (ok_start live r) h ⟨fun _ _ _ _ _ _ q'=>q'.elim,fun _ _ _ _ _ _ q'=>q'.elim,fun _ _ _ _ _ _ q'=>q'.elim,fun _ _ _ _ _ q'=>q'.elim,fun ts p xs H' s' hB hp hx rs q'=>k ts p xs H' s' hB hx rs q',fun _ _ _ _ _ _ _ _ _ _ _ _ _ _ _ _ _ _ q'=>q'.elim,fun _ _ _ _ _ _ _ _ _ _ _ _ _ _ q'=>q'.elim,True.intro⟩⟩
def sRetF (t:FT):STt:=fun DT σ=>t σ DT.ro
theorem st_retF {t:FT} (h:PFt X e t):PSt X (.Return (some e) pos) (sRetF t):=by
 obtain ⟨v,p,r⟩:=h
 refine ⟨_,ps_ret p,fun B p0 H ps σT σ DT DV o h f=>r B p0 H ps σT σ _ _ o h fun ts p xs H' s hp hx rs q=>?_⟩
 refine f.ro ts p xs H' (o.base.trans s) (Same.free' o.base hp) (fun z=>fresh_notin o.live hp (o.sub p z)) hx (rs.same (mask_sub fun q hq=>?_)) q
 rcases List.mem_cons.mp hq with rfl | hq
 ·exact List.mem_cons_self ..
 ·exact List.mem_cons_of_mem _ (o.sub q hq)
def sRetOwn (i:Nat):STt:=fun DT σ=>∃ ts,σ[i]?=some (.own ts)/\DT.ro ts
theorem st_retOwn {i:Nat} {n:Expr} (hn:PE X n (tVar i)):PSt X (.Return (some n) pos) (sRetOwn i):=by
 refine ⟨_,ps_ret hn,fun B p0 H ps σT σ DT DV o h f=>?_⟩
 obtain ⟨ts,e,h⟩:=h
 obtain ⟨q,xs,h1,h2,h3,h4,h5,h6⟩:=o.own i ts e
 refine ⟨.ref q,h1,f.ro ts q xs H o.base h3 h4 h5 (h6.same (mask_sub fun z hz=>?_)) h⟩
 rcases List.mem_cons.mp hz with rfl | hz
 ·exact h2
 ·exact o.sub z hz
def sWhile (c:TTt) (tb:STt):STt:=fun DT σ=>∃ P:Nat->List Sl->Prop,(∃ n,P n σ)/\∀ n σ',P n σ'->c σ' fun b=>if b=true then tb { DT with nx:=fun σ2=>∃ m,m<n/\P m σ2,ct:=fun σ2=>∃ m,m<n/\P m σ2,bk:=DT.nx } σ' else DT.nx σ'
theorem st_while {c:Expr} {body:List Stmt} {tc:TTt} {tb:STt} (hc:PTt X c tc) (hb:PSst X body tb) (pw:∀ {vc:TT} {vb:TS},PT X c vc->PSs X body vb->PS X (.While c body [] pos) (tWhile vc vb)):PSt X (.While c body [] pos) (sWhile tc tb):=by
 obtain ⟨vc,pc,rc⟩:=hc
 obtain ⟨vb,pb,rb⟩:=hb
 refine ⟨_,pw pc pb,fun B p0 H ps σT σ DT DV o h f=>?_⟩
 obtain ⟨P,⟨n0,h0⟩,hs⟩:=h
 refine ⟨fun n σ' H'=>∃ ps' σT',Ok X.K B p0 H' ps' σT' σ'/\Same (mask H ps) (mask H' ps')/\P n σT',⟨n0,ps,σT,o,L2.Same.refl _,h0⟩,?_⟩
 rintro n σ' H' ⟨ps',σT',o',s',p'⟩
 refine rc B p0 H' ps' σT' σ' _ _ o' (hs n σT' p') fun b H1 s1 q1=>?_
 have f':Fits X.K B p0 H1 ps' DT DV:=(f.later s').later (mask_same s1)
 have s'':Same (mask H ps) (mask H1 ps'):=s'.trans (mask_same s1)
 cases b with
 | true =>
  rw [if_pos rfl] at q1 |-
  refine ⟨fun σ2 H2=>∃ m,m<n/\∃ ps2 σT2,Ok X.K B p0 H2 ps2 σT2 σ2/\Same (mask H ps) (mask H2 ps2)/\P m σT2,fun σ2 H2 z=>z,?_⟩
  exact rb B p0 H1 ps' σT' σ' _ _ (o'.grow s1) q1 ⟨fun H4 ps4 σT4 σ4 o4 s4 ⟨m,hm,q4⟩=>⟨m,hm,ps4,σT4,o4,s''.trans s4,q4⟩,fun H4 ps4 σT4 σ4 o4 s4 q4=>f'.nx H4 ps4 σT4 σ4 o4 s4 q4,fun H4 ps4 σT4 σ4 o4 s4 ⟨m,hm,q4⟩=>⟨m,hm,ps4,σT4,o4,s''.trans s4,q4⟩,f'.rt,f'.ro,f'.rp,f'.rq,f'.xb⟩
 | false =>
  rw [if_neg (by decide)] at q1 |-
  exact f'.nx H1 ps' σT' σ' (o'.grow s1) (L2.Same.refl _) q1
def sPar (i j:Nat) (t:AT):STt:=fun DT σ=>t σ fun ds=>∃ x y,ds=[x,y]/\DT.nx ((σ.set i (.val x)).set j (.val y))
theorem st_par {i j:Nat} {t:AT} {tg v:Expr} (ha:PAt X [a,b] t) (pp:∀ {ta:TA},PA X [a,b] ta->PS X (.Assign [tg] v pos) (tPar i j ta)):PSt X (.Assign [tg] v pos) (sPar i j t):=by
 obtain ⟨va,pa,ra⟩:=ha
 refine ⟨_,pp pa,fun B p0 H ps σT σ DT DV o h f=>ra B p0 H ps σT σ _ _ o h fun ds xs H1 s1 r1 q1=>?_⟩
 obtain ⟨x,y,rfl,q⟩:=q1
 cases r1 with
 | cons r1 r2 =>
  cases r2 with
  | cons r3 r4 =>
   cases r4
   exact ⟨_,_,rfl,f.nx H1 ps _ _ (((o.grow s1).set r1).set r3) (mask_same s1) q⟩
def gP3 (i j k:Nat):GT:=fun d σ Q=>∃ a b c,d=.tuple [a,b,c]/\Q (((σ.set i (.val a)).set j (.val b)).set k (.val c))
theorem gt_triple {i j k:Nat} {t:Expr} (h:PG X t (gTup X.K 3 (gCons (gName i) (gCons (gName j) (gCons (gName k) gNil))))):PGt X t (gP3 i j k) :=
 ⟨_,h,fun B p0 H ps σT σ d v Q QV o r h k=>by
  obtain ⟨a,b,c,rfl,h⟩:=h
  cases r with
  | @tuple p xs _ hq r =>
   cases r with
   | cons ra r =>
    cases r with
    | cons rb r =>
     cases r with
     | cons rc r =>
      cases r
      exact ⟨_,_,rfl,Same.seqT mask_le hq,rfl,_,_,rfl,_,_,rfl,_,_,rfl,rfl,k _ _ (((o.set ra).set rb).set rc) (fun n=>noOwn_set (noOwn_set (noOwn_set n _ _) _ _) _ _) h⟩⟩
def sUnpG (te:ET) (g:GT):STt:=fun DT σ=>te σ fun d=>g d σ DT.nx
theorem st_unpG {tg:Expr} {g:GT} (he:PEt X e te) (hg:PGt X tg g) (pa:∀ {v:TE} {gv:TG},PE X e v->PG X tg gv->PS X (.Assign [tg] e pos) (tAsg v gv)):PSt X (.Assign [tg] e pos) (sUnpG te g):=by
 obtain ⟨v,pe,re⟩:=he
 obtain ⟨gv,pg,rg⟩:=hg
 refine ⟨_,pa pe pg,fun B p0 H ps σT σ DT DV o h f=>re B p0 H ps σT σ _ _ o h fun d x H1 s1 r1 q1=>?_⟩
 exact rg B p0 H1 ps σT σ d x _ _ (o.grow s1) r1 q1 fun σT' σ' o' _ q'=>f.nx H1 ps _ _ o' (mask_same s1) q'
def eIf (c:TTt) (ta tb:ET):ET:=fun σ Q=>c σ fun b=>if b=true then ta σ Q else tb σ Q
theorem et_if {tc:TTt} (hc:PTt X c tc) (ha:PEt X a ta) (hb:PEt X b tb):PEt X (.IfExp c a b pos) (eIf tc ta tb):=by
 obtain ⟨vc,pc,rc⟩:=hc
 obtain ⟨va,pa,ra⟩:=ha
 obtain ⟨vb,pb,rb⟩:=hb
 refine ⟨_,pe_ifExp pc pa pb,fun B p0 H ps σT σ Q QV o h k=>rc B p0 H ps σT σ _ _ o h fun d H1 s1 q1=>?_⟩
 cases d with
 | true =>
  rw [if_pos rfl] at q1 |-
  exact ra B p0 H1 ps σT σ Q _ (o.grow s1) q1 fun d v H' s' r' q'=>k d v H' (s1.trans s') r' q'
 | false =>
  rw [if_neg (by decide)] at q1 |-
  exact rb B p0 H1 ps σT σ Q _ (o.grow s1) q1 fun d v H' s' r' q'=>k d v H' (s1.trans s') r' q'
end
end TL

namespace L2
open PySem PySem.Spec PyProof.Rows PySem.SeqAt
open AutoSeq1 (wpAny_loadPart')
section
variable {X:Cx} {pins:List (Addr×Obj)} {σ:St} {H:Hp} {s:Shared} {p:Addr}
end
theorem extend_lst (l:Addr) (items:Array Value) (n:Nat) (b:Addr) (items2:Array Value) (n2:Nat) (dd:Option Addr) (sl:Array (Option Value)) (hc0:¬(!items.isEmpty && Builtin.List.listTooLong (items.size+items2.size))=true) (hc1:items.size<=sizeLine) (hs2:items.size+items2.size<=sizeLine+1) :
  Meets (Builtin.«list.extend» ⟨[.ref l,.ref b],[]⟩) (fun _ R s=>s.heap.get? l=some { cls:=.type "list",dict:=none,data:=.seq items n,slots:=#[] }/\s.heap.get? b=some { cls:=.type "list",dict:=dd,data:=.seq items2 n2,slots:=sl }/\R (.ok (.ret Value.none)) { s with heap:=s.heap.update l (Obj.mapSeq fun x=>x++items2),toks:=s.toks }) :=
 .of_wp fun prog w A R s h=>by
  obtain ⟨hp,g,d,tk,os⟩:=s;obtain ⟨hl,hb,h⟩:=h;have f1:=AutoSeq1.idx_int;have f2:=AutoSeq1.sub_tuple_tuple;have f3:=AutoSeq1.sub_list_list;have f4:=AutoSeq1.sub_tuple_list;have f5:=AutoSeq1.sub_list_tuple
  have hz':(items++items2).size<=sizeLine+1:=by rw [Array.size_append];exact hs2
  wp_walk using (wpAny_updateSeq hl rfl (hz:=hc1) (_hz':=hz')),wpAny_loadPart' hl,wpAny_loadPart' hb
  exact ⟨_,rfl,h⟩
section
variable {X:Cx}
def rExtL (K:PySem.W.Frag):V->List V->Hp->VK->Prop:=fun x vs H Q=>∃ l b xs zs,x=.ref l/\vs=[.ref b]/\H l=some (.lst xs)/\SqL K H b zs/\xs.length+zs.length<=sizeLine/\Q .non (upd H l (.lst (xs++zs)))
theorem mt_extL:MtM X "list.extend" (rExtL X.K):=by
 intro pins s σ H x vs v us Q I rx rv h
 obtain ⟨l,b,xs,zs,rfl,rfl,hH,hB,hz,q⟩:=h
 cases rx
 obtain ⟨u,rfl,ru⟩:=rv.one
 cases ru
 obtain ⟨z,its,n,r,hl,e⟩:=I.lstM hH
 obtain ⟨its2,r2,⟨o,n2,e2,hc,hdn,hd⟩,z2⟩:=I.list hB
 have hl2:=r2.length
 have hsz:its.toArray.size+its2.toArray.size<=sizeLine:=by rw [List.size_toArray,List.size_toArray];omega
 have hlong:¬ (!its.toArray.isEmpty && Builtin.List.listTooLong (its.toArray.size+its2.toArray.size))=true:=by
  rw [notLongL hsz,Bool.and_false]
  exact Bool.false_ne_true
 obtain ⟨oc,od,odt,osl⟩:=o
 cases hc
 cases hd
 refine call_meets F.slot_list_extend ⟨_,e,rfl⟩ F.entry_list_extend (F.args_list_extend_2 _ _) (extend_lst l its.toArray n b its2.toArray n2 od osl hlong (by rw [List.size_toArray];omega) (by omega)) ⟨e,e2,?_⟩
 refine ⟨.non,_,I.lset (its':=its++its2) hH e (by simp) (r.append r2) ?_,rfl,q⟩
 rw [List.length_append]
 omega
end
end L2
namespace TL
open PySem PySem.Spec PyProof.Rows L2
section
variable {X:Cx} {a b c e:Expr} {es:List Expr} {ta tb te:ET} {pos:Pos}
def sExtL (i:Nat) (te:ET):STt:=fun DT σ=>∃ ts,σ[i]?=some (.own ts)/\te σ fun d=>∃ us,d=.list us/\ts.length+us.length<=100000/\DT.nx (σ.set i (.own (ts++us)))
theorem st_extL {i:Nat} {n e:Expr} {te:ET} {ap cp:Pos} (hn:PE X n (tVar i)) (he:PEt X e te) (hs:starEach [e] X.env=(false,eval e X.env)::starEach [] X.env:=by rfl)
  (pb:∀ {ta:TA},PA X [e] ta->PS X (.Expr (.Call (.Attribute n "extend" ap) [e] [] cp) pos) (tDrop (tBM X.K "list" (rExtL X.K) (tVar i) ta))):PSt X (.Expr (.Call (.Attribute n "extend" ap) [e] [] cp) pos) (sExtL i te):=by
 obtain ⟨v,p,r⟩:=he
 refine ⟨_,pb (pa_cons p pa_nil hs),fun B p0 H ps σT σ DT DV o h f=>?_⟩
 obtain ⟨ts,e,h⟩:=h
 obtain ⟨q,xs,h1,h2,h3,h4,h5,h6⟩:=o.own i ts e
 refine ⟨.ref q,h1,.inl ⟨rfl,xs,SqL.of h5⟩,r B p0 H ps σT σ _ _ o h fun d x H1 s1 r1 q1=>?_⟩
 obtain ⟨us,rfl,hz,q1⟩:=q1
 have o1:=o.grow s1
 cases r1 with
 | @list p2 zs _ hq rs =>
  refine ⟨q,p2,xs,zs,rfl,rfl,s1 _ _ h5,L2.Same.seq mask_le hq,line5 (by rw [<- h6.length,<- rs.length];exact hz),?_⟩
  have hr:Reps X.K (mask H1 ps) (ts++us) (xs++zs):=(h6.same (mask_same s1)).append rs
  exact f.nx _ ps _ σ (o1.write (ys:=xs++zs) e h1 hr) ((mask_same s1).trans (by rw [mask_upd h2];exact L2.Same.refl _)) q1
theorem fn_never {P:Program} {w:World} {K:PySem.W.Frag} {mg:Str->Option Value} {base:Heap} {k:Nat} {f:Addr} {fd:FuncData} {pn:List Str}:FnOk P w K mg base CX0 k f fd pn (liftSp K fun _ _=>False) :=
 ⟨fun vs H Q E ⟨_,_,_,_,_,h,_⟩=>h.elim,fun A outer s H args us vs Q E _ _ _ _ ⟨_,_,_,_,_,h,_⟩=>h.elim⟩
theorem fn_imp {P:Program} {w:World} {K:PySem.W.Frag} {mg:Str->Option Value} {base:Heap} {k:Nat} {f:Addr} {fd:FuncData} {pn:List Str} {sp sp':SpT} (F:FnOk P w K mg base CX0 k f fd pn (liftSp K sp)) (h:∀ ds Q,sp' ds Q->sp ds Q):FnOk P w K mg base CX0 k f fd pn (liftSp K sp') :=
 F.imp fun vs H Q E ⟨ps,ds,QD,h1,h2,h3,h4⟩=>⟨ps,ds,QD,h1,h2,h ds QD h3,h4⟩
def gMax (d:D) (Q:D->Prop):Prop:=∃ ns:List Int,d=.list (ns.map PyData.int)/\ns≠[]/\∀ m,m∈ns->(∀ n∈ns,n<=m)->Q (.int m)
end
end TL

namespace L2
open PySem PySem.Spec PyProof.Rows
section
variable {X:Cx}
theorem call_max_ints (hc:X.calm=true):CallR X (.builtin "max") (fun xs H Q=>∃ (p:Addr) (ns:List Int),xs=[.ref p]/\SqL X.K H p (ns.map V.int)/\ns≠[]/\∀ m,m∈ns->(∀ n∈ns,n<=m)->Q (.int m) H):=by
 intro pins s σ H xs us Q I r h
 obtain ⟨p,ns,rfl,hq,hne0,q⟩:=h
 obtain ⟨u,rfl,rx⟩:=vals1 r
 cases rx
 obtain ⟨its,rv,pl,hz⟩:=I.list hq
 have hlen:=rv.length
 rw [List.length_map] at hlen
 have hpos:0<ns.length:=List.length_pos_iff.mpr hne0
 have hne:p≠s.heap.objs.size:=by
  obtain ⟨o,ho,_⟩:=pl.isList
  exact Nat.ne_of_lt (Heap.lt_size ho)
 have hl1:=pl.isList
 have hplt:p<s.heap.objs.size:=by
  obtain ⟨o,ho,_⟩:=hl1
  exact Heap.lt_size ho
 have hval:∀ (i:Nat) (v:Value),its.toArray[i]?=some v->∃ t,v=.int ((ns[i]?).getD 0) t:=fun i v hP=>by
  have hv:its[i]?=some v:=by simpa using hP
  have hi:i<its.length:=(List.getElem?_eq_some_iff.mp hv).1
  have hb:i<ns.length:=by omega
  obtain ⟨w',h1,h2⟩:=rv.get (i:=i) (x:=.int ns[i]) (by rw [List.getElem?_map,List.getElem?_eq_getElem hb];rfl)
  rw [hv] at h1
  cases h1
  rw [List.getElem?_eq_getElem hb]
  exact h2
 refine call_max_walk (wpAny_pyIter_list hl1 ?_)
 refine ⟨_,_,_,_,_,_,_,rfl,Walks.list (A:=X.A.in1) (I.ok.hd hc) _ p hne its.toArray,⟨⟨_,Heap.get?_push_size _ rfl,rfl,rfl⟩,hl1.push _⟩,fun b hb=>?_,by rw [List.size_toArray];omega,CmpOf.ints_gt (fun i=>(ns[i]?).getD 0) hval,fun v h' tk hP hk=>?_⟩
 ·show b<(s.heap.push _).objs.size
  rw [Heap.size_push]
  have:b=s.heap.objs.size\/b=p:=by simpa using hb
  rcases this with rfl | rfl
  ·exact Nat.lt_succ_self _
  ·exact Nat.lt_succ_of_lt hplt
 ·obtain ⟨t,rfl⟩:=hval _ _ hP
  have hb:=argBest_gt (fun i=>(ns[i]?).getD 0) (its.toArray.size-1)
  have hsz:its.toArray.size=ns.length:=by rw [List.size_toArray];omega
  have hi:argBest (fun i j=>decide ((ns[i]?).getD 0 > (ns[j]?).getD 0)) (its.toArray.size-1)<ns.length:=by have:=hb.1;omega
  refine ⟨.int _,H,I.kept fun b o e=>hk b o ?_ (Heap.get?_push_of_some _ e),⟨t,rfl⟩,q _ ?_ fun n hn=>?_⟩
  ·intro z
   have:b=s.heap.objs.size:=by simpa using z
   exact absurd (Heap.lt_size e) (by rw [this];exact Nat.lt_irrefl _)
  ·rw [List.getElem?_eq_getElem hi]
   exact List.getElem_mem hi
  ·obtain ⟨j,hj,rfl⟩:=List.mem_iff_getElem.mp hn
   have:=hb.2 j (by omega)
   rw [List.getElem?_eq_getElem hj] at this
   exact this

def CDivB (_ j:Int):Prop:=0<j/\j<2 ^ 200
theorem op_fdivB:OpR X (binaryOp .FloorDiv) (rI CDivB fun i j=>.int (i / j)):=opI fun i j _ _ _ _ _ hc q=>by
 have h1:(0:Int)<j:=hc.1
 have h2:j<2 ^ 200:=hc.2
 have h3:j.natAbs<2 ^ 200:=by omega
 have h4:j.natAbs.log2<200:=(Nat.log2_lt (by omega)).mpr h3
 exact floordiv_int (by omega) (by rw [Int.fdiv_eq_ediv_of_nonneg i (by omega)];exact q) (.inl (PyProof.noPylong_of_log2 (by omega)))
end
end L2
namespace TL
open PySem PySem.Spec PyProof.Rows L2
section
variable {X:Cx} {a b c e:Expr} {es:List Expr} {ta tb te:ET} {pos:Pos}
theorem c_max:CallT X (fun xs H Q=>∃ (p:Addr) (ns:List Int),xs=[.ref p]/\SqL X.K H p (ns.map V.int)/\ns≠[]/\∀ m,m∈ns->(∀ n∈ns,n<=m)->Q (.int m) H) (f1 gMax):=c1 fun H ps d x Q QV live r h k=>by
 obtain ⟨ns,rfl,hne,h⟩:=h
 cases r with
 | list q s =>
  have e:=reps_ints s
  subst e
  exact ⟨_,ns,rfl,L2.Same.seq mask_le q,hne,fun m hm hn=>k _ _ H (L2.Same.refl H) (.int _) (h m hm hn)⟩
end
section
variable {X:Cx} {a b c e:Expr} {es:List Expr} {ta tb te:ET} {pos:Pos}
abbrev PTm:=List Sl->(List D->List D->Prop)->Prop
def PPt (X:Cx) (e:Expr) (t:PTm):Prop:=∃ te:TE,PE X e te/\∀ (B:Hp) (p0:List Addr) (H:Hp) (ps:List Addr) (σT:List Sl) (σ:L2.St) (Q:List D->List D->Prop) (QV:VK),Ok X.K B p0 H ps σT σ->t σT Q ->
 (∀ as bs r p q xs ys H',Same H H'->H r=none->H p=none->H q=none->p≠q->H' r=some (.tup [.ref p,.ref q])->H' p=some (.lst xs)->H' q=some (.lst ys)->Reps X.K (mask H' (p::q::ps)) as xs->Reps X.K (mask H' (p::q::ps)) bs ys->Q as bs->QV (.ref r) H')->te σ H QV
abbrev SpP:=List D->(List D->List D->Prop)->Prop
def liftSpP (K:PySem.W.Frag) (sp:SpP):Sp:=fun vs H Q _=>∃ (ps:List Addr) (ds:List D) (QD:List D->List D->Prop),(∀ p∈ps,H p≠none)/\Reps K (mask H ps) ds vs/\sp ds QD /\
 ∀ as bs r p q xs ys H',Same H H'->H r=none->H p=none->H q=none->p≠q->H' r=some (.tup [.ref p,.ref q])->H' p=some (.lst xs)->H' q=some (.lst ys)->Reps K (mask H' (p::q::ps)) as xs->Reps K (mask H' (p::q::ps)) bs ys->QD as bs->Q (.ref r) H'
def pCall (sp:SpP) (t:AT):PTm:=fun σ Q=>t σ fun ds=>sp ds Q
theorem ppt_call {k:Nat} {f:Addr} {fd:FuncData} {pn:List Str} {sp:SpP} {x:Str} {p:Pos} {t:AT} (F:FnOk X.prog X.w X.K X.mg X.base CX0 k f fd pn (liftSpP X.K sp)) (hm:X.mg x=some (.ref f)) (hk:PySem.W.keepIn X.K (.ref f)=true) (hb:Binds X.K fd pn [])
  (hr:Room k X.A) (ha:PAt X (e::es) t) (pc:∀ {ta:TA},PA X (e::es) ta->PE X (.Call (.Name x p) (e::es) [] pos) (tCall (liftSpP X.K sp) [] E0 ta)):PPt X (.Call (.Name x p) (e::es) [] pos) (pCall sp t):=by
 obtain ⟨v,pa,ra⟩:=ha
 refine ⟨_,pc pa,fun B p0 H ps σT σ Q QV o h k=>ra B p0 H ps σT σ _ _ o h fun ds xs H1 s1 r1 q1=>?_⟩
 show liftSpP X.K sp (xs++[]) H1 QV E0
 rw [List.append_nil]
 exact ⟨ps,ds,Q,(o.grow s1).live,r1,q1,fun as bs r p q xs ys H' s' h1 h2 h3 h4 h5 h6 h7 ra rb q=>k as bs r p _ xs ys H' (s1.trans s') (Same.free' s1 h1) (Same.free' s1 h2) (Same.free' s1 h3) h4 h5 h6 h7 ra rb q⟩
theorem fnP {P:Program} {w:World} {K:PySem.W.Frag} {mg:Str->Option Value} {base:Heap} {x qual:Str} {st:Stmt} {f:Addr} {fd:FuncData} {N pn:List Str} {k:Nat} {sp:SpP} (F:Fun K x qual st f fd) (S:FnScope N pn (defScope st)) (len:∀ ds Q,sp ds Q->ds.length=pn.length)
  (hbody:∀ (cdv:Value) (A:Around) (outer:List Env) (s:Shared) (H:Hp) (E:XK),Room k (A.deeper (envOfC qual (defScope st) s.heap.objs.size f cdv))->∀ (ds:List D) (Q:List D->List D->Prop),sp ds Q ->
   ∃ t,PSst (cxOf CX0 P w K mg base N qual (defScope st) f cdv A outer s H E).nox (defBody st) t/\t { nx:=fun _=>False,rt:=fun _=>False,rp:=Q } (startT N ds)):FnOk P w K mg base CX0 (k+1) f fd pn (liftSpP K sp):=by
 refine F.ok S (fun vs H Q E h=>?_) fun cdv A outer s H vs Q E hr h=>?_
 ·obtain ⟨ps,ds,QD,_,r,q,_⟩:=h
  rw [<- r.length];exact len ds QD q
 ·obtain ⟨ps,ds,QD,live,r,q,k⟩:=h
  obtain ⟨t,⟨ts,p,rd⟩,h⟩:=hbody cdv A outer s H E hr ds QD q
  exact ⟨ts,p,rd H ps H ps _ _ _ _ (ok_start live r) h ⟨fun _ _ _ _ _ _ q'=>q'.elim,fun _ _ _ _ _ _ q'=>q'.elim,fun _ _ _ _ _ _ q'=>q'.elim,fun _ _ _ _ _ q'=>q'.elim,fun _ _ _ _ _ _ _ _ _ q'=>q'.elim,fun as bs r p q xs ys H' s' h1 h2 h3 h4 h5 h6 h7 ra rb q'=>k as bs r p q xs ys H' s' h1 h2 h3 h4 h5 h6 h7 ra rb q',fun _ _ _ _ _ _ _ _ _ _ _ _ _ _ q'=>q'.elim,True.intro⟩⟩
def ePr (t:PTm):ET:=fun σ Q=>t σ fun as bs=>Q (.tuple [.list as,.list bs])
theorem et_pr {t:PTm} (h:PPt X e t):PEt X e (ePr t):=by
 obtain ⟨v,p,r⟩:=h
 refine ⟨_,p,fun B p0 H ps σT σ Q QV o h k=>r B p0 H ps σT σ _ _ o h fun as bs r p q xs ys H' s1 hr0 hp0 hq0 hpq hr1 hp1 hq1 rA rB q1=>?_⟩
 have fr:∀ {z:Addr},H z=none->z∉ps:=fun hz=>fresh_notin o.live hz
 have sub:∀ z∈ps,z∈p::q::ps:=fun z hz=>List.mem_cons_of_mem _ (List.mem_cons_of_mem _ hz)
 exact k _ _ H' s1 (.tuple (SqT.of (mask_at (fr hr0) hr1)) (.cons (.list (SqL.of (mask_at (fr hp0) hp1)) (rA.same (mask_sub sub))) (.cons (.list (SqL.of (mask_at (fr hq0) hq1)) (rB.same (mask_sub sub))) .nil))) q1
end
end TL

namespace L2
open PySem PySem.Spec PyProof.Rows PySem.SeqAt
section
variable {X:Cx}
theorem preSum_take (ns:List Int):∀ k:Nat,preSum (fun i=>(ns[i]?).getD 0) k=(ns.take k).sum
 | 0=>rfl
 | k+1=>by
  show preSum _ k+(ns[k]?).getD 0=_
  rw [preSum_take ns k,List.take_add_one,List.sum_append]
  cases ns[k]? with
  | none=>simp
  | some x=>simp
theorem sum_small:∀ ns:List Int,(∀ n∈ns,0<=n/\n<2 ^ 40)->0<=ns.sum/\ns.sum<=(ns.length:Int)*2 ^ 40
 | [],_=>by simp
 | n::ns,h=>by
  have h1:=h n (List.mem_cons_self ..)
  have h2:=sum_small ns fun x hx=>h x (List.mem_cons_of_mem _ hx)
  rw [List.sum_cons,List.length_cons]
  constructor
  ·omega
  ·have:((ns.length+1:Nat):Int)*2 ^ 40=(ns.length:Int)*2 ^ 40+2 ^ 40:=by rw [Int.natCast_add,Int.add_mul];rfl
   omega
theorem call_sum_ints (hc:X.calm=true):CallR X (.builtin "sum") (fun xs H Q=>∃ (p:Addr) (ns:List Int),xs=[.ref p]/\SqL X.K H p (ns.map V.int)/\(∀ n∈ns,0<=n/\n<2 ^ 40)/\ns.length<=1000/\Q (.int ns.sum) H):=by
 intro pins s σ H xs us Q I r h
 obtain ⟨p,ns,rfl,hq,hsm,hlen0,q⟩:=h
 obtain ⟨u,rfl,rx⟩:=vals1 r
 cases rx
 obtain ⟨its,rv,pl,hz⟩:=I.list hq
 have hlen:=rv.length
 rw [List.length_map] at hlen
 have hne:p≠s.heap.objs.size:=by
  obtain ⟨o,ho,_⟩:=pl.isList
  exact Nat.ne_of_lt (Heap.lt_size ho)
 have hl1:=pl.isList
 have hplt:p<s.heap.objs.size:=by
  obtain ⟨o,ho,_⟩:=hl1
  exact Heap.lt_size ho
 have hval:∀ (i:Nat) (v:Value),its.toArray[i]?=some v->∃ t,v=.int ((ns[i]?).getD 0) t:=fun i v hP=>by
  have hv:its[i]?=some v:=by simpa using hP
  have hi:i<its.length:=(List.getElem?_eq_some_iff.mp hv).1
  have hb:i<ns.length:=by omega
  obtain ⟨w',h1,h2⟩:=rv.get (i:=i) (x:=.int ns[i]) (by rw [List.getElem?_map,List.getElem?_eq_getElem hb];rfl)
  rw [hv] at h1
  cases h1
  rw [List.getElem?_eq_getElem hb]
  exact h2
 have small:∀ k:Nat,0<=(ns.take k).sum/\(ns.take k).sum<2 ^ 63:=fun k=>by
  have h1:=sum_small (ns.take k) fun n hn=>hsm n (List.mem_of_mem_take hn)
  have h2:(ns.take k).length<=1000:=by rw [List.length_take];omega
  have h3:((ns.take k).length:Int)*2 ^ 40<=1000*2 ^ 40:=Int.mul_le_mul_of_nonneg_right (by omega) (by decide)
  omega
 refine call_sum_walk (wpAny_pyIter_list hl1 ?_)
 refine ⟨_,_,_,_,_,_,fun i=>(ns[i]?).getD 0,rfl,Walks.list (A:=X.A.in1) (I.ok.hd hc) _ p hne its.toArray,⟨⟨_,Heap.get?_push_size _ rfl,rfl,rfl⟩,hl1.push _⟩,fun b hb=>?_,hval,fun j hj=>?_,fun h' tk t' hk=>?_⟩
 ·show b<(s.heap.push _).objs.size
  rw [Heap.size_push]
  have:b=s.heap.objs.size\/b=p:=by simpa using hb
  rcases this with rfl | rfl
  ·exact Nat.lt_succ_self _
  ·exact Nat.lt_succ_of_lt hplt
 ·rw [List.size_toArray] at hj
  have hj':j<ns.length:=by omega
  refine ⟨?_,?_⟩
  ·have:=hsm ns[j] (List.getElem_mem hj')
   show InLong ((ns[j]?).getD 0)
   rw [List.getElem?_eq_getElem hj']
   show -(2 ^ 63)<=ns[j]/\ns[j]<2 ^ 63
   omega
  ·rw [preSum_take]
   have:=small (j+1)
   show -(2 ^ 63)<=_/\_<2 ^ 63
   omega
 ·refine ⟨.int _,H,I.kept fun b o e=>hk b o ?_ (Heap.get?_push_of_some _ e),⟨t',rfl⟩,?_⟩
  ·intro z
   have:b=s.heap.objs.size:=by simpa using z
   exact absurd (Heap.lt_size e) (by rw [this];exact Nat.lt_irrefl _)
  ·rw [preSum_take,List.take_of_length_le (by rw [List.size_toArray];omega)]
   exact q
end
theorem enumerate_new' (l:Addr) (items:Array Value) :
  Meets (Builtin.«enumerate.__new__» ⟨[.type "enumerate",.ref l],[]⟩) (fun _ R s=>s.heap.IsList l items /\
   R (.ok (.ret (.ref (s.heap.push { cls:=.type "list_iterator",data:=.fields #[.ref l,.int 0 0] }).objs.size)))
    { s with heap:=(s.heap.push { cls:=.type "list_iterator",data:=.fields #[.ref l,.int 0 0] }).push { cls:=.type "enumerate",data:=.fields #[.none,.bool false,.ref s.heap.objs.size,rawInt 0,.none,.none] } }) :=
 .of_wp fun prog w A R s h=>by
  obtain ⟨hp,g,d,tk,os⟩:=s;obtain ⟨hl,h⟩:=h
  have hsub:=sub_enumerate
  have hL:Heap.IsList (Shared.heap ⟨hp,g,d,tk,os⟩) l items:=hl
  wp_walk
  refine wpAny_stack_any fun st=>wpAny_pure ?_
  split
  ·rename_i c _ _ _ _ _
   cases (c == Value.type "enumerate")
   ·wp_walk using wpAny_pyIter_list hL
    exact ⟨_,rfl,h⟩
   ·wp_walk using wpAny_pyIter_list hL
    exact ⟨_,rfl,h⟩
  ·wp_walk using wpAny_pyIter_list hL
   exact ⟨_,rfl,h⟩
section
variable {P:Program} {w:World} {A:Around} {E:Value->Shared->Prop} {s:Shared}
theorem call_enumerate' {l:Addr} {items:Array Value} {Q:Value->Shared->Prop} (hl:s.heap.IsList l items)
  (h:∀ h',IsEnum h' (s.heap.objs.size+1) s.heap.objs.size 0 .none->h'.IsListIter s.heap.objs.size l 0->h'.objs.size=s.heap.objs.size+2 ->
   (∀ b o,s.heap.get? b=some o->h'.get? b=some o)->Q (.ref (s.heap.objs.size+1)) { s with heap:=h' }) :
  wpAny (model P w) A (call (.type "enumerate") [.ref l]) Q E s:=by
 refine callType_new F.called_enumerate (by decide) (F.typeCall_enumerate_1 _) (F.newCall_enumerate_1 _) (fun obj=>F.args_object_init_2 obj _) F.entry_enumerate_new
  (enumerate_new' l items) ⟨hl,?_⟩
 have hz:(s.heap.push { cls:=.type "list_iterator",data:=.fields #[.ref l,.int 0 0] }).objs.size=s.heap.objs.size+1:=Heap.size_push ..
 show _/\_
 rw [hz]
 have he:IsEnum ((s.heap.push { cls:=.type "list_iterator",data:=.fields #[.ref l,.int 0 0] }).push
   { cls:=.type "enumerate",data:=.fields #[.none,.bool false,.ref s.heap.objs.size,rawInt 0,.none,.none] }) (s.heap.objs.size+1) s.heap.objs.size 0 .none:=by
  have:=Heap.get?_push_size (s.heap.push { cls:=.type "list_iterator",data:=.fields #[.ref l,.int 0 0] })
   (o:={ cls:=.type "enumerate",data:=.fields #[.none,.bool false,.ref s.heap.objs.size,rawInt 0,.none,.none] }) rfl
  rw [hz] at this;exact this
 exact ⟨⟨_,he,rfl⟩,h _ he ⟨_,Heap.get?_push_of_some _ (Heap.get?_push_size _ rfl),rfl,rfl⟩ (by rw [Heap.size_push,hz]) fun b o x=>Heap.get?_push_of_some _ (Heap.get?_push_of_some _ x)⟩
end
def Ite (K:PySem.W.Frag) (a:Addr):It :=
 ⟨fun i H=>∃ xs x,SqL K H a xs/\xs[i]?=some x,
  fun i H v H'=>∃ p x,H p=none/\v=.ref p/\H'=upd H p (.tup [.int (i:Int),x])/\∀ xs,SqL K H a xs->xs[i]?=some x,
  fun i H=>∃ xs,SqL K H a xs/\xs.length<=i⟩
theorem turn_enum {P:Program} {w:World} {K:PySem.W.Frag} {elts:List Expr} {x1:Nat} {pos:Pos} {e it l:Addr} (hei:e≠it) :
  Turn P w K (.Tuple elts x1 pos) (Ite K l) [e,it] e (fun i h=>(∃ old,IsEnum h e it (i:Int) old)/\h.IsListIter it l i) where
 mem:=by simp
 obj:=fun i h st b hb=>by
  obtain ⟨⟨old,he⟩,hit⟩:=st
  simp only [List.mem_cons,List.not_mem_nil,or_false] at hb
  rcases hb with rfl | rfl
  ·exact ⟨_,he,fun v q=>by cases q⟩
  ·obtain ⟨o,e,c,d⟩:=hit
   exact ⟨o,e,fun v z=>by rw [d] at z;cases z⟩
 keep:=fun i h h' st k=>by
  obtain ⟨⟨old,he⟩,hit⟩:=st
  exact ⟨⟨old,k e (by simp) _ he⟩,hit.at fun o x=>k it (by simp) o x⟩
 item:=by
  intro X hP hw hK hc i pins s σ H E I hf st hg
  subst hP hw hK
  obtain ⟨⟨old,he⟩,hit⟩:=st
  obtain ⟨xs,x,hq,hx⟩:=hg
  obtain ⟨its,rv,p,hz⟩:=I.list hq
  obtain ⟨u,hu,ru⟩:=rv.get hx
  refine wpAny_pyNext_enum_item he hit p.isList (x:=u) (by simpa using hu) hei fun h' a1 a2 a3 a4 a5=>⟨_,rfl,?_⟩
  refine wpAny_letOwnedTupleGo_enum (s:={ s with heap:=h',toks:=s.toks+1 }) a1 fun h2 b1 sb=>?_
  have helt:e<s.heap.objs.size:=Heap.lt_size he
  have kk:∀ c o,c∉[e,it]->s.heap.get? c=some o->h2.get? c=some o:=fun c o hc' x=>by
   simp only [List.mem_cons,List.not_mem_nil,or_false,not_or] at hc'
   exact sb.extBut _ _ hc'.1 (a5 c o hc'.1 hc'.2 x)
  have hT:=sb.extBut _ _ (Nat.ne_of_gt helt) a3
  have I1:Inv X pins σ (upd H s.heap.objs.size (.tup [.int (i:Int),x])) { s with heap:=h2,toks:=s.toks+1 }:=I.turnedNew (t':=s.toks+1) hf kk (Nat.le_refl _) ⟨(by show 2<=sizeLine;decide),[.int i s.toks,u],.cons ⟨_,rfl⟩ (.cons ru .nil),⟨_,hT,rfl,_,rfl,rfl⟩⟩
  refine ⟨.ref s.heap.objs.size,_,I1,rfl,⟨_,x,I.hok.fresh (Nat.le_refl _),rfl,rfl,fun ys hy=>by rw [I.list_inj hy hq];exact hx⟩,?_,fun c hc'=>?_⟩
  ·exact ⟨⟨_,by rw [Int.natCast_add];exact b1⟩,a2.at fun o x=>sb.extBut _ _ (Ne.symm hei) x⟩
  ·have hne:c≠s.heap.objs.size:=by
    simp only [List.mem_cons,List.not_mem_nil,or_false] at hc'
    rcases hc' with rfl | rfl
    ·exact Nat.ne_of_lt helt
    ·obtain ⟨o,z,_⟩:=hit;exact Nat.ne_of_lt (Heap.lt_size z)
   rw [upd_ne hne]
   exact (hf c hc').1
 done:=by
  intro X hP hw hK hc i pins s σ H E I hf st hg
  subst hP hw hK
  obtain ⟨⟨old,he⟩,hit⟩:=st
  obtain ⟨xs,hq,hx⟩:=hg
  obtain ⟨its,rv,p,hz⟩:=I.list hq
  have hl:=rv.length
  refine wpAny_pyNext_enum_end (I.ok.hd hc) he hit p.isList (by simp;omega) fun h' eb=>⟨rfl,I.turnedL (t':=s.toks) hf fun c o hc' x=>?_⟩
  simp only [List.mem_cons,List.not_mem_nil,or_false,not_or] at hc'
  exact eb c o hc'.2 x
 self:=fun A i s Q E st h=>by
  obtain ⟨⟨old,he⟩,_⟩:=st
  exact wpAny_pyIter_enum he h
theorem boot_enumerate:bootBuiltins "enumerate"=some (.type "enumerate"):=by decide +kernel
def iEnum (K:PySem.W.Frag) (ta:TA):TI:=fun σ H R=>ta σ H fun vs H1=>∃ l xs,vs=[.ref l]/\SqL K H1 l xs/\R (Ite K l) H1
section
variable {X:Cx}
theorem pi_enum {a:Expr} {ta:TA} {p pos tpos:Pos} {elts:List Expr} {x1:Nat} (hg:Gl X "enumerate") (hm:X.mg "enumerate"=none) (ha:PA X [a] ta) (hs:starEach [a] X.env=[(false,eval a X.env)]:=by rfl) :
  PI X (.Tuple elts x1 tpos) (.Call (.Name "enumerate" p) [a] [] pos) (iEnum X.K ta):=by
 intro pins s σ H R I h
 refine Call_ (ld_blt I hg hm boot_enumerate (PyProof.Rows.callWith_type1 (thn (ha pos pins s σ H _ I h) fun us s1 ⟨vs,H1,I1,r1,q1⟩=>?_) (by rw [hs];rfl) (by rfl)))
 obtain ⟨l,xs,rfl,hq,q⟩:=q1
 cases r1 with
 | cons r rr =>
  cases rr
  cases r
  obtain ⟨us1,rv1,p1,hz1⟩:=I1.list hq
  refine call_enumerate' p1.isList fun h' he hit hsz hk=>wpAny_pyIter_enum (s:={ s1 with heap:=h' }) he ?_
  refine ⟨_,[s1.heap.objs.size+1,s1.heap.objs.size],_,_,H1,rfl,I1.kept (t':=s1.toks) hk,turn_enum (e:=s1.heap.objs.size+1) (it:=s1.heap.objs.size) (l:=l) (Nat.succ_ne_self _),⟨⟨_,he⟩,hit⟩,fun c hc=>?_,q⟩
  simp only [List.mem_cons,List.not_mem_nil,or_false] at hc
  have le:s1.heap.objs.size<=c:=by rcases hc with rfl | rfl<;>first | exact Nat.le_refl _ | exact Nat.le_add_right _ _
  exact I1.fpOk le (I1.hok.fresh le)
end
end L2
namespace TL
open PySem PySem.Spec PyProof.Rows L2 PySem.SeqAt
variable {K:PySem.W.Frag}
def KTup (K:PySem.W.Frag) (a:Addr) (ys:List Str):Prop:=∃ (o:Obj) (its:Array Value) (n:Nat),K.lookup a=some o/\o.cls=.type "tuple"/\o.dict=none/\o.data=.seq its n/\its.size<=sizeLine/\Vals (ys.map V.str) its.toList
theorem reps_strs' {H:Hp}:∀ ys:List Str,Reps K H (ys.map PyData.str) (ys.map V.str)
 | []=>.nil
 | y::ys=>.cons (.str y) (reps_strs' ys)
def enumD (as:List D):List D:=zipD (intsTo as.length) as
theorem enumD_len (as:List D):(enumD as).length=as.length:=by unfold enumD;rw [zipD_len];unfold intsTo;simp
theorem enumD_get {as:List D} {i:Nat} {a:D} (h:as[i]?=some a):(enumD as)[i]?=some (.tuple [.int (i:Int),a]):=by
 have hi:=(List.getElem?_eq_some_iff.mp h).1
 unfold enumD zipD intsTo
 rw [List.getElem?_map,(List.getElem?_zip_eq_some (z:=(PyData.int (i:Int),a))).mpr ⟨by rw [List.getElem?_map,List.getElem?_range hi];rfl,h⟩];rfl
def iEnumT (t:AT):IT:=fun σ Q=>t σ fun ds=>∃ as,ds=[.list as]/\Q (enumD as)
section
variable {X:Cx} {a b c e:Expr} {es:List Expr} {ta tb te:ET} {pos:Pos}
theorem et_gtup {x:Str} {p:Addr} {ys:List Str} {pos:Pos} (hg:Gl X x) (hm:X.mg x=some (.ref p)) (hk:KTup X.K p ys) (hd:(x == ("__debug__":Str))=false:=by decide):PEt X (.Name x pos) (eC (.tuple (ys.map PyData.str))) :=
 ⟨_,pe_glob (v:=.ref p) hg hm rfl hd,fun _ _ H _ _ _ _ _ _ h k=>k _ _ H (L2.Same.refl H) (.tuple (.inr hk) (reps_strs' ys)) h⟩
theorem it_enum {t:AT} {p p' tpos:Pos} {elts:List Expr} {x1:Nat} (ha:PAt X [a] t) (pz:∀ {ta:TA},PA X [a] ta->PI X (.Tuple elts x1 tpos) (.Call (.Name "enumerate" p) [a] [] p') (iEnum X.K ta)):PIt X (.Tuple elts x1 tpos) (.Call (.Name "enumerate" p) [a] [] p') (iEnumT t):=by
 obtain ⟨va,pa,ra⟩:=ha
 refine ⟨_,pz pa,fun B p0 H ps σT σ Q R o h k=>ra B p0 H ps σT σ _ _ o h fun ds xs H1 s1 r1 q1=>?_⟩
 obtain ⟨as,rfl,q⟩:=q1
 cases r1 with
 | cons r1 r2 =>
  cases r2
  cases r1 with
  | @list p1 us _ hq1 rs1 =>
   have n1:=rs1.length
   refine ⟨p1,us,rfl,L2.Same.seq mask_le hq1,k _ _ H1 s1 ⟨fun i H e hl=>?_,fun i H e hl=>?_,fun i H ps' y H' live e hl hy=>?_⟩ q⟩
   ·rw [enumD_len] at hl
    exact ⟨us,L2.Same.seq e hq1,by omega⟩
   ·rw [enumD_len] at hl
    exact ⟨us,us[i],L2.Same.seq e hq1,List.getElem?_eq_getElem (by omega)⟩
   ·obtain ⟨p,x,hp,rfl,rfl,h1⟩:=hy
    obtain ⟨d1,g1,t1⟩:=rs1.get' (h1 us (L2.Same.seq (e.trans mask_le) hq1))
    exact ⟨same_new hp,.tuple [.int (i:Int),d1],enumD_get g1,rep_tup live hp (.cons (.int _) (.cons (t1.same e) .nil))⟩
def gSum (d:D) (Q:D->Prop):Prop:=∃ ns:List Int,d=.list (ns.map PyData.int)/\(∀ n∈ns,0<=n/\n<2 ^ 40)/\ns.length<=1000/\Q (.int ns.sum)
theorem c_sum:CallT X (fun xs H Q=>∃ (p:Addr) (ns:List Int),xs=[.ref p]/\SqL X.K H p (ns.map V.int)/\(∀ n∈ns,0<=n/\n<2 ^ 40)/\ns.length<=1000/\Q (.int ns.sum) H) (f1 gSum):=c1 fun H ps d x Q QV live r h k=>by
 obtain ⟨ns,rfl,hs,hl,h⟩:=h
 cases r with
 | list q s =>
  have e:=reps_ints s
  subst e
  exact ⟨_,ns,rfl,L2.Same.seq mask_le q,hs,hl,k _ _ H (L2.Same.refl H) (.int _) h⟩
def rLIndex (K:PySem.W.Frag):V->List V->Hp->VK->Prop:=fun x xs H Q=>∃ (y:V) (ts:List D) (d:D) (j:Nat),xs=[y]/\Rep K H (.list ts) x/\Rep K H d y/\okIx ts d j/\j<1000000/\Q (.int j) H
theorem mt_lindexU (hu:X.A.units+200<cLine):MtR X "list.index" (rLIndex X.K):=by
 intro pins s σ H x xs v us Q I rx rv h
 obtain ⟨y,ts,d,j,rfl,r1,r2,⟨c1,c2,hm,⟨t,ht,he⟩,hno⟩,hj0,q⟩:=h
 obtain ⟨u,rfl,ru⟩:=rv.one
 obtain ⟨as,h1⟩:=Rep.reads I (show (PyData.list ts).hasDict=false from noDictAll c1) r1 rx
 obtain ⟨bs,h2⟩:=Rep.reads I (noDict c2) r2 ru
 cases h1 with
 | @list l o items n _ as' h3 h4 h5 h6 =>
  have hmap:=readsAll_map ts items.toList _ c1 h6
  have hlen:items.size=ts.length:=by rw [<- hmap,List.length_map,Array.length_toList]
  have hjl:j<ts.length:=(List.getElem?_eq_some_iff.mp ht).1
  have hj:j<items.size:=by omega
  have rd:∀ (m:Nat) (hm:m<items.size),ts[m]?=some (readOf s.heap items[m]):=fun m hm=>by
   rw [<- hmap,List.getElem?_map]
   simp [hm]
  obtain ⟨oc,od,odt,osl⟩:=o
  cases h4
  cases h5
  refine call_meets F.slot_list_index ⟨_,h3,rfl⟩ F.entry_list_index (F.args_list_index_2 _ _) (list_indexAt _ items _ od osl u (fun y=>PyData.eqv (readOf s.heap y) d) j hj (by omega) ?_ ?_) ⟨h3,items_eqAt h6 h2 c1 c2 (by have:=hu;omega),?_⟩
  ·have:=rd j hj
   rw [ht] at this
   rw [<- Option.some.inj this];exact he
  ·intro m hm' hlt
   exact hno m _ hlt (rd m hm')
  ·exact ⟨.int j,H,I.tok _,⟨_,rfl⟩,q⟩
theorem mt_lindex {k:Nat} (hr:Room k X.A):MtR X "list.index" (rLIndex X.K):=mt_lindexU (by have:=hr.un;omega)
def eLIndex (te:ET) (t:AT):ET:=fun σ Q=>te σ fun d=>∃ ts,d=.list ts/\t σ fun ds=>∃ (x:D) (j:Nat),ds=[x]/\okIx ts x j/\j<1000000/\Q (.int j)
theorem et_lindex {n:Expr} {ap:Pos} {t:AT} (hn:PEt X n te) (ha:PAt X (e::es) t)
  (pc:∀ {v:TE} {ta:TA},PE X n v->PA X (e::es) ta->PE X (.Call (.Attribute n "index" ap) (e::es) [] pos) (tBM X.K "list" (rLIndex X.K) v ta)):PEt X (.Call (.Attribute n "index" ap) (e::es) [] pos) (eLIndex te t):=by
 obtain ⟨v,pe,re⟩:=hn
 obtain ⟨va,pa,ra⟩:=ha
 refine ⟨_,pc pe pa,fun B p0 H ps σT σ Q QV o h k=>re B p0 H ps σT σ _ _ o h fun d x H1 s1 r1 q1=>?_⟩
 obtain ⟨ts,rfl,q1⟩:=q1
 cases r1 with
 | @list p xs _ hq rs =>
  refine ⟨.inl ⟨rfl,_,L2.Same.seq mask_le hq⟩,ra B p0 H1 ps σT σ _ _ (o.grow s1) q1 fun ds ys H2 s2 r2 q2=>?_⟩
  obtain ⟨d,j,rfl,hok,hj,q⟩:=q2
  cases r2 with
  | cons r3 r4 =>
   cases r4
   exact ⟨_,ts,d,j,rfl,(Rep.list hq rs).same ((mask_same s2).trans mask_le),r3.same mask_le,hok,hj,k _ _ H2 (s1.trans s2) (.int _) q⟩
def okCt (ts:List D) (d:D):Prop:=PyData.canLayAll0 ts=true/\d.canLay0=true/\min (PyData.depthAll ts) d.depth<=60
def rLCount (K:PySem.W.Frag):V->List V->Hp->VK->Prop:=fun x xs H Q=>∃ (y:V) (ts:List D) (d:D),xs=[y]/\Rep K H (.list ts) x/\Rep K H d y/\okCt ts d/\Q (.int ((ts.countP fun t=>PyData.eqv t d:Nat):Int)) H
theorem mt_lcountU (hu:X.A.units+200<cLine):MtR X "list.count" (rLCount X.K):=by
 intro pins s σ H x xs v us Q I rx rv h
 obtain ⟨y,ts,d,rfl,r1,r2,⟨c1,c2,hm⟩,q⟩:=h
 obtain ⟨u,rfl,ru⟩:=rv.one
 obtain ⟨as,h1⟩:=Rep.reads I (show (PyData.list ts).hasDict=false from noDictAll c1) r1 rx
 obtain ⟨bs,h2⟩:=Rep.reads I (noDict c2) r2 ru
 cases h1 with
 | @list l o items n _ as' h3 h4 h5 h6 =>
  have hmap:=readsAll_map ts items.toList _ c1 h6
  obtain ⟨oc,od,odt,osl⟩:=o
  cases h4
  cases h5
  refine call_meets F.slot_list_count ⟨_,h3,rfl⟩ F.entry_list_count (F.args_list_count_2 _ _) (list_countAt _ items _ od osl u (fun y=>PyData.eqv (readOf s.heap y) d)) ⟨h3,items_eqAt h6 h2 c1 c2 (by have:=hu;omega),?_⟩
  refine ⟨.int _,H,I.tok _,⟨_,rfl⟩,?_⟩
  have e:(items.toList.countP fun y=>PyData.eqv (readOf s.heap y) d)=ts.countP fun t=>PyData.eqv t d:=by
   rw [<- hmap,List.countP_map];rfl
  rw [e];exact q
theorem mt_lcount {k:Nat} (hr:Room k X.A):MtR X "list.count" (rLCount X.K):=mt_lcountU (by have:=hr.un;omega)
def eLCount (te:ET) (t:AT):ET:=fun σ Q=>te σ fun d=>∃ ts,d=.list ts/\t σ fun ds=>∃ x:D,ds=[x]/\okCt ts x/\Q (.int ((ts.countP fun t=>PyData.eqv t x:Nat):Int))
theorem et_lcount {n:Expr} {ap:Pos} {t:AT} (hn:PEt X n te) (ha:PAt X (e::es) t)
  (pc:∀ {v:TE} {ta:TA},PE X n v->PA X (e::es) ta->PE X (.Call (.Attribute n "count" ap) (e::es) [] pos) (tBM X.K "list" (rLCount X.K) v ta)):PEt X (.Call (.Attribute n "count" ap) (e::es) [] pos) (eLCount te t):=by
 obtain ⟨v,pe,re⟩:=hn
 obtain ⟨va,pa,ra⟩:=ha
 refine ⟨_,pc pe pa,fun B p0 H ps σT σ Q QV o h k=>re B p0 H ps σT σ _ _ o h fun d x H1 s1 r1 q1=>?_⟩
 obtain ⟨ts,rfl,q1⟩:=q1
 cases r1 with
 | @list p xs _ hq rs =>
  refine ⟨.inl ⟨rfl,_,L2.Same.seq mask_le hq⟩,ra B p0 H1 ps σT σ _ _ (o.grow s1) q1 fun ds ys H2 s2 r2 q2=>?_⟩
  obtain ⟨d,rfl,hok,q⟩:=q2
  cases r2 with
  | cons r3 r4 =>
   cases r4
   exact ⟨_,ts,d,rfl,(Rep.list hq rs).same ((mask_same s2).trans mask_le),r3.same mask_le,hok,k _ _ H2 (s1.trans s2) (.int _) q⟩
def cTruthL (te:ET):TTt:=fun σ Q=>te σ fun d=>∃ ts,d=.list ts/\Q (!ts.isEmpty)
theorem tt_truthL (h:PEt X e te) (pt:∀ {t:TE},PE X e t->PT X e (fun σ H Q=>t σ H fun x H'=>∃ k,TruV X.K x H' k/\Q k H')):PTt X e (cTruthL te):=by
 obtain ⟨v,p,r⟩:=h
 refine ⟨_,pt p,fun B p0 H ps σT σ Q QV o h k=>r B p0 H ps σT σ _ _ o h fun d x H1 s1 r1 q1=>?_⟩
 obtain ⟨ts,rfl,q⟩:=q1
 cases r1 with
 | @list p xs _ hq rs =>
  have hl:=rs.length
  refine ⟨!xs.isEmpty,.inl ⟨xs,L2.Same.seq mask_le hq,rfl⟩,?_⟩
  have:(!xs.isEmpty)=(!ts.isEmpty):=by
   cases xs<;>cases ts<;>first | rfl | (simp at hl)
  rw [this]
  exact k _ H1 s1 q
def sRetPairF (ta tb:FT):STt:=fun DT σ=>ta σ fun as=>tb σ fun bs=>DT.rp as bs
theorem st_retPairF {n m:Expr} {x1} {p2:Pos} {ta tb:FT} (hn:PFt X n ta) (hm:PFt X m tb) (hs:starEach [n,m] X.env=(false,eval n X.env)::starEach [m] X.env:=by rfl) (hs2:starEach [m] X.env=(false,eval m X.env)::starEach [] X.env:=by rfl):PSt X (.Return (some (.Tuple [n,m] x1 p2)) pos) (sRetPairF ta tb):=by
 obtain ⟨va,pa,ra⟩:=hn
 obtain ⟨vb,pb,rb⟩:=hm
 refine ⟨_,ps_ret (pe_tup (pa_cons pa (pa_cons pb pa_nil hs2) hs)),fun B p0 H ps σT σ DT DV o h f=>?_⟩
 refine ra B p0 H ps σT σ _ _ o h fun as p xs H1 s1 hp hx rs q1=>?_
 have o1:Ok X.K B p0 H1 (p::ps) σT σ:=by
  have o2:=o.grow (without_same s1 hp)
  have hn:without H1 p p=none:=by unfold without;rw [if_pos rfl]
  have o3:=o2.adopt (u:=.lst xs) hn
  rwa [without_upd hx] at o3
 refine rb B p0 H1 (p::ps) σT σ _ _ o1 q1 fun bs q ys H2 s2 hq hy rs2 q2=>?_
 refine ⟨Nat.le_of_ble_eq_true rfl,fun r hr=>?_⟩
 have hp2:=s2 _ _ hx
 have hpq:p≠q:=fun z=>by rw [z,hq] at hx;cases hx
 have nrp:p≠r:=fun z=>by rw [z,hr] at hp2;cases hp2
 have nrq:q≠r:=fun z=>by rw [z,hr] at hy;cases hy
 have bn:∀ {z:Addr},H z=none->B z=none:=fun hz=>Same.free' o.base hz
 have live:∀ z∈p0,H z≠none:=fun z hz=>o.live z (o.sub z hz)
 have m1:Same (mask H1 (p::ps)) (mask (upd H2 r (.tup [.ref p,.ref q])) (p::q::p0)):=fun b u hb=>by
  unfold mask at hb |-
  by_cases hbp:b∈p::ps
  ·rw [if_pos hbp] at hb;cases hb
  ·rw [if_neg hbp] at hb
   have h2:=s2 _ _ hb
   have hbr:b≠r:=fun z=>by rw [z,hr] at h2;cases h2
   have hbq:b≠q:=fun z=>by rw [z,hq] at hb;cases hb
   rw [if_neg,upd_ne hbr]
   ·exact h2
   ·intro z
    rcases List.mem_cons.mp z with z | z
    ·exact hbp (z▸List.mem_cons_self ..)
    ·rcases List.mem_cons.mp z with z | z
     ·exact hbq z
     ·exact hbp (List.mem_cons_of_mem _ (o.sub b z))
 have m2:Same (mask H2 (q::p::ps)) (mask (upd H2 r (.tup [.ref p,.ref q])) (p::q::p0)):=(mask_same (same_new hr)).trans (mask_sub fun z hz=>by
  rcases List.mem_cons.mp hz with rfl | hz
  ·exact List.mem_cons_of_mem _ (List.mem_cons_self ..)
  ·rcases List.mem_cons.mp hz with rfl | hz
   ·exact List.mem_cons_self ..
   ·exact List.mem_cons_of_mem _ (List.mem_cons_of_mem _ (o.sub z hz)))
 exact f.rp as bs r p q xs ys _ (o.base.trans (s1.trans (s2.trans (same_new hr)))) (Same.free' (o.base.trans (s1.trans s2)) hr) (bn hp) (Same.free' (o.base.trans s1) hq) hpq upd_same (by rw [upd_ne nrp];exact hp2) (by rw [upd_ne nrq];exact hy) (rs.same m1) (rs2.same m2) q2
end
end TL
namespace TL
open PySem
theorem bl_sum:bootBuiltins "sum"=some (.builtin "sum"):=by decide +kernel
end TL
namespace TL
open PySem PySem.Spec PyProof.Rows L2
section
variable {fr:List (Option Nat)} {ti:IT} {tt:TTt} {te:ET} {σ:List Sl} {Q:D->Prop} {ts:List D}
theorem lcp_filt (hti:Gives' ti σ ts) (p:D->Bool) (f:D->D) (hz:ts.length<=100000) (h2:∀ x∈ts,∃ a b,x=.tuple [a,b])
  (hp:∀ (a b:D) (q:Bool->Prop),.tuple [a,b]∈ts->q (p (.tuple [a,b]))->tt (((inBlkT fr σ).set 0 (.val a)).set 1 (.val b)) q)
  (ht:∀ (a b:D) (q:D->Prop),.tuple [a,b]∈ts->q (f (.tuple [a,b]))->te (((inBlkT fr σ).set 0 (.val a)).set 1 (.val b)) q) (hq:Q (.list ((ts.filter p).map f))):eLc fr ti (gP 0 1) tt te σ Q:=by
 refine hti _ ⟨hz,fun k σ' ds=>(∀ x y,(σ'.set 0 (.val x)).set 1 (.val y)=((inBlkT fr σ).set 0 (.val x)).set 1 (.val y))/\ds=((ts.take k).filter p).map f,⟨fun _ _=>rfl,rfl⟩,fun k x σ' ds hx h=>?_,fun σ' ds h=>?_⟩
 ·obtain ⟨h1,rfl⟩:=h
  have hm:x∈ts:=List.mem_of_getElem? hx
  obtain ⟨a,b,rfl⟩:=h2 x hm
  refine ⟨a,b,rfl,?_⟩
  show tt ((σ'.set 0 (.val a)).set 1 (.val b)) _
  rw [h1 a b]
  refine hp a b _ hm ?_
  have e:ts.take (k+1)=ts.take k++[.tuple [a,b]]:=by rw [List.take_add_one,hx];rfl
  cases hb:p (.tuple [a,b]) with
  | true =>
   rw [if_pos rfl]
   refine ht a b _ hm ⟨fun x y=>set2_set2 _ _ _ _ _,?_⟩
   rw [e,List.filter_append,List.map_append]
   simp [hb]
  | false =>
   rw [if_neg (by decide)]
   refine ⟨fun x y=>set2_set2 _ _ _ _ _,?_⟩
   rw [e,List.filter_append,List.map_append]
   simp [hb]
 ·obtain ⟨_,rfl⟩:=h
  rw [List.take_length];exact hq
end
end TL

namespace TL
open PySem PySem.Builtin PySem.Builtin.Str PySem.StrLaws
end TL

namespace L2
open PySem PySem.Spec PyProof.Rows PySem.Builtin.Str
section
variable {X:Cx}
end
end L2
namespace TL
open PySem PySem.Spec PyProof.Rows L2
section
variable {X:Cx} {a b c e:Expr} {es:List Expr} {ta tb te:ET} {pos:Pos}
end
end TL

namespace L2
open PySem PySem.Spec PyProof.Rows PySem.Builtin
section
variable {X:Cx} {e:Expr} {pos:Pos}
end
end L2
namespace TL
open PySem PySem.Spec PyProof.Rows L2
section
variable {X:Cx} {a b c e:Expr} {es:List Expr} {ta tb te:ET} {pos:Pos}
theorem bl_sorted:bootBuiltins "sorted"=some (.builtin "sorted"):=by decide +kernel
end
end TL

namespace L2
open PySem PySem.Spec PyProof.Rows
section
variable {X:Cx} {pins:List (Addr×Obj)} {σ:St} {H:Hp} {s:Shared} {p q:Addr}
end
end L2
namespace TL
open PySem PySem.Spec PyProof.Rows L2
section
variable {X:Cx} {a b c e:Expr} {es:List Expr} {ta tb te:ET} {pos:Pos}
end
section
variable {X:Cx} {a b c e:Expr} {es:List Expr} {ta tb te:ET} {pos:Pos}
def constSs:List Expr->Option (List Str)
 | []=>some []
 | .Constant (.str z) _ _::es=>(constSs es).map (z::·)
 | _=>none
theorem at_consts:∀ {es:List Expr} {zs:List Str},constSs es=some zs->PAt X es (fun _ Q=>Q (zs.map PyData.str))
 | [],zs,h=>by
  cases h
  exact at_nil
 | .Constant (.str z) k p::es,zs,h=>by
  have h':(constSs es).map (z::·)=some zs:=h
  obtain ⟨ys,hy,rfl⟩:=Option.map_eq_some_iff.mp h'
  exact at_cons et_str (at_consts hy)
theorem st_setN {i:Nat} {x:Str} {pos':Pos} (hN:X.N.Nodup) (hi:X.N[i]?=some x) (hx:Loc X.env.scope x) (he:PEt X e te) (hs:swapsWith e (some (.Name x pos')) pos.line X.env=pure false:=by rfl) (hf:X.fn x=true\/X.env.scope.names.lookup x=some .local:=by first | exact .inl rfl | exact .inr rfl | assumption) :
  PSt X (.Assign [.Name x pos'] e pos) (sSet i te):=st_set he fun h=>ps_set hN hi hx h hs hf
end
end TL

namespace L2
open PySem PySem.Spec PyProof.Rows
section
variable {P:Program} {w:World} {A:Around} {E:Value->Shared->Prop} {s:Shared}
end
section
variable {X:Cx}
end
end L2
namespace TL
open PySem PySem.Spec PyProof.Rows L2
section
variable {X:Cx} {a b:Expr} {pos:Pos}
end
end TL

namespace L2
open PySem PySem.Spec PyProof.Rows

section
variable {κ:Type} [DecidableEq κ]
def valV (kvs:List (κ×V)) (k:κ):Option V:=(kvs.find? fun kv=>decide (kv.1=k)).map (·.2)
def putK (kvs:List (κ×V)) (k:κ) (v:V):List (κ×V) :=
 if (kvs.any fun kv=>decide (kv.1=k))=true then kvs.map (fun kv=>if kv.1=k then (kv.1,v) else kv) else kvs++[(k,v)]
def dropK (kvs:List (κ×V)) (k:κ):List (κ×V):=kvs.filter fun kv=>decide (kv.1≠k)

theorem valV_pos {p:κ×V} {r:List (κ×V)} {k:κ} (e:p.1=k):valV (p::r) k=some p.2:=by simp [valV,List.find?_cons,e]
theorem valV_neg {p:κ×V} {r:List (κ×V)} {k:κ} (e:¬ p.1=k):valV (p::r) k=valV r k:=by simp [valV,List.find?_cons,e]
theorem valV_any (k:κ):∀ kvs:List (κ×V),(kvs.any fun kv=>decide (kv.1=k))=(valV kvs k).isSome
 | []=>rfl
 | p::r=>by
  rw [List.any_cons]
  by_cases e:p.1=k
  ·simp only [valV_pos e,decide_eq_true e,Bool.true_or,Option.isSome_some]
  ·rw [valV_neg e,decide_eq_false e,Bool.false_or];exact valV_any k r
theorem length_putK (kvs:List (κ×V)) (k:κ) (v:V):(putK kvs k v).length<=kvs.length+1:=by
 unfold putK
 split
 ·rw [List.length_map];omega
 ·rw [List.length_append,List.length_cons,List.length_nil];omega
theorem RelO.isSome_eq {o:Option V} {u:Option Value} (r:RelO o u):o.isSome=u.isSome:=by
 cases o with
 | none=>cases u with
  | none=>rfl
  | some _=>exact (show False from r).elim
 | some _=>cases u with
  | none=>exact (show False from r).elim
  | some _=>rfl
theorem KV.val {kvs:List (κ×V)} {vs:List (κ×Value)} (r:KV kvs vs) (k:κ):RelO (valV kvs k) (valueAt vs k):=by
 unfold KV at r
 induction r with
 | nil=>exact True.intro
 | @cons p q ps qs h t ih =>
  obtain ⟨h1,h2⟩:=h
  by_cases e:p.1=k
  ·have e':q.1=k:=h1.symm.trans e
   have b:valueAt (q::qs) k=some q.2:=by simp [valueAt,List.find?_cons,e']
   rw [valV_pos e,b];exact h2
  ·have e':¬ q.1=k:=fun z=>e (h1.trans z)
   have b:valueAt (q::qs) k=valueAt qs k:=by simp [valueAt,List.find?_cons,e']
   rw [valV_neg e,b];exact ih
theorem KV.any {kvs:List (κ×V)} {vs:List (κ×Value)} (r:KV kvs vs) (k:κ):(kvs.any fun kv=>decide (kv.1=k))=vs.any fun kv=>decide (kv.1=k):=by
 unfold KV at r
 induction r with
 | nil=>rfl
 | cons h t ih=>rw [List.any_cons,List.any_cons,ih,h.1]
theorem KV.repl {kvs:List (κ×V)} {vs:List (κ×Value)} (r:KV kvs vs) (k:κ) {y:V} {u:Value} (ry:RelV y u) :
  KV (kvs.map fun kv=>if kv.1=k then (kv.1,y) else kv) (vs.map fun kv=>if kv.1=k then (kv.1,u) else kv):=by
 unfold KV at r |-
 induction r with
 | nil=>exact .nil
 | @cons p q ps qs h t ih =>
  rw [List.map_cons,List.map_cons]
  refine .cons ?_ ih
  obtain ⟨h1,h2⟩:=h
  by_cases e:p.1=k
  ·rw [if_pos e,if_pos (h1.symm.trans e)];exact ⟨h1,ry⟩
  ·rw [if_neg e,if_neg (fun z=>e (h1.trans z))];exact ⟨h1,h2⟩
theorem KV.put {kvs:List (κ×V)} {vs:List (κ×Value)} (r:KV kvs vs) (k:κ) {y:V} {u:Value} (ry:RelV y u):KV (putK kvs k y) (stored vs k u):=by
 unfold putK stored
 rw [r.any k]
 by_cases e:(vs.any fun kv=>decide (kv.1=k))=true
 ·rw [if_pos e,if_pos e];exact r.repl k ry
 ·rw [if_neg e,if_neg e];exact Paired.snoc r ⟨rfl,ry⟩
theorem KV.drop {kvs:List (κ×V)} {vs:List (κ×Value)} (r:KV kvs vs) (k:κ):KV (dropK kvs k) (without vs k):=by
 unfold KV at r |-
 unfold dropK without
 induction r with
 | nil=>exact .nil
 | @cons p q ps qs h t ih =>
  obtain ⟨h1,h2⟩:=h
  rw [List.filter_cons,List.filter_cons]
  by_cases e:p.1=k
  ·have a:¬ decide (p.1≠k)=true:=by simp [e]
   have b:¬ decide (q.1≠k)=true:=by simp [h1.symm.trans e]
   rw [if_neg a,if_neg b];exact ih
  ·have e':¬ q.1=k:=fun z=>e (h1.trans z)
   have a:decide (p.1≠k)=true:=by simp [e]
   have b:decide (q.1≠k)=true:=by simp [e']
   rw [if_pos a,if_pos b];exact .cons ⟨h1,h2⟩ ih
theorem KV.keys {kvs:List (κ×V)} {vs:List (κ×Value)} (r:KV kvs vs):kvs.map (·.1)=vs.map (·.1):=by
 unfold KV at r
 induction r with
 | nil=>rfl
 | cons h t ih=>rw [List.map_cons,List.map_cons,ih,h.1]
theorem KV.length {kvs:List (κ×V)} {vs:List (κ×Value)} (r:KV kvs vs):kvs.length=vs.length:=Paired.length r
end


theorem kV_is {P:Program} {w:World} {k:Key} {u:Value} (r:RelV (kV k) u):(mixKind P w).is k u=true:=by
 cases k with
 | inl i=>obtain ⟨t,e⟩:=(show ∃ t,u=Value.int i t from r);subst e;exact mixKind_int P w i t
 | inr x=>obtain ⟨t,e⟩:=(show ∃ t,u=Value.str x t from r);subst e;exact mixKind_str P w x t
theorem items_are {P:Program} {w:World}:∀ {ks:List Key} {us:List Value},Vals (ks.map kV) us->ItemsAre (mixKind P w) ks us
 | [],_,r=>by rw [List.map_nil] at r;cases r;exact .nil
 | k::ks,_,r=>by
  rw [List.map_cons] at r
  cases r with
  | cons h t=>exact .cons (kV_is h) (items_are t)

abbrev KT (H:Hp):List (List Key×V)->List (List Key×Addr×Value)->Prop:=Paired fun p q=>p.1=q.1/\H q.2.1=some (.tup (p.1.map kV))/\RelV p.2 q.2.2
theorem KT.val {H:Hp} {kvs:List (List Key×V)} {xs:List (List Key×Addr×Value)} (r:KT H kvs xs) (k:List Key):RelO (valV kvs k) ((atKey xs k).map (·.2)):=by
 induction r with
 | nil=>exact True.intro
 | @cons p q ps qs h t ih =>
  obtain ⟨h1,_,h2⟩:=h
  by_cases e:p.1=k
  ·have e':q.1=k:=h1.symm.trans e
   have b:atKey (q::qs) k=some q.2:=by simp [atKey,List.find?_cons,e']
   rw [valV_pos e,b];exact h2
  ·have e':¬ q.1=k:=fun z=>e (h1.trans z)
   have b:atKey (q::qs) k=atKey qs k:=by simp [atKey,List.find?_cons,e']
   rw [valV_neg e,b];exact ih
theorem KT.repl {H:Hp} {kvs:List (List Key×V)} {xs:List (List Key×Addr×Value)} (r:KT H kvs xs) (k:List Key) {y:V} {u:Value} (ry:RelV y u) :
  KT H (kvs.map fun kv=>if kv.1=k then (kv.1,y) else kv) (xs.map (putAt k u)):=by
 induction r with
 | nil=>exact .nil
 | @cons p q ps qs h t ih =>
  rw [List.map_cons,List.map_cons]
  refine .cons ?_ ih
  obtain ⟨h1,h2,h3⟩:=h
  unfold putAt
  by_cases e:p.1=k
  ·rw [if_pos e,if_pos (h1.symm.trans e)];exact ⟨h1,h2,ry⟩
  ·rw [if_neg e,if_neg (fun z=>e (h1.trans z))];exact ⟨h1,h2,h3⟩
theorem KT.put {H:Hp} {kvs:List (List Key×V)} {xs:List (List Key×Addr×Value)} (r:KT H kvs xs) (k:List Key) {b:Addr} {y:V} {u:Value} (hb:H b=some (.tup (k.map kV))) (ry:RelV y u) :
  KT H (putK kvs k y) (storedH xs k b u):=by
 have e:(kvs.any fun kv=>decide (kv.1=k))=(atKey xs k).isSome:=by
  rw [valV_any,(r.val k).isSome_eq,Option.isSome_map]
 unfold putK storedH
 rw [e]
 by_cases q:(atKey xs k).isSome=true
 ·rw [if_pos q,if_pos q];exact r.repl k ry
 ·rw [if_neg q,if_neg q];exact Paired.snoc r ⟨rfl,hb,ry⟩
theorem KT.keeps {H H':Hp} {kvs:List (List Key×V)} {xs:List (List Key×Addr×Value)} (r:KT H kvs xs) (ht:∀ b ys,H b=some (.tup ys)->H' b=some (.tup ys)):KT H' kvs xs :=
 Paired.mapP r fun _ _ z=>⟨z.1,ht _ _ z.2.1,z.2.2⟩

section
variable {P:Program} {w:World} {H:Hp} {h:Heap} {a:Addr}
theorem rd_of {u:HO} (ok:HOk P w H h) (e:Rd H a u):ObjOk P w H h a u:=e.ok ok
theorem dk_rd {kvs:List (Key×V)} (ok:HOk P w H h) (e:Rd H a (.dK kvs)):kvs.length<=sizeLine/\(a == sysModules)=false/\∃ vs,KV kvs vs/\h.DictOf (mixKind P w) a vs :=
 show ObjOk P w H h a (.dK kvs) from rd_of ok e
theorem dk_of {kvs:List (Key×V)} (ok:HOk P w H h) (e:H a=some (.dK kvs)):kvs.length<=sizeLine/\(a == sysModules)=false/\∃ vs,KV kvs vs/\h.DictOf (mixKind P w) a vs:=dk_rd ok (.inl e)
theorem key_of {ks:List Key} (ok:HOk P w H h) (e:H a=some (.tup (ks.map kV))):(tupleKind (mixKind P w)).is h ks a:=by
 obtain ⟨_,its,r,o,h1,h2,n,h3,_⟩:=(show ObjOk P w H h a (.tup (ks.map kV)) from ok a _ e)
 exact ⟨o,its.toArray,n,h1,h2,h3,by simpa using items_are r⟩
theorem dt_rd {kvs:List (List Key×V)} (ok:HOk P w H h) (e:Rd H a (.dT kvs)):kvs.length<=sizeLine/\(a == sysModules)=false /\
  ∃ xs,KT H kvs xs/\h.DictOfH (tupleKind (mixKind P w)) a xs:=by
 obtain ⟨z,y,xs,r,o,es,ep,h1,h2,h3,h4,h5⟩:=(show ObjOk P w H h a (.dT kvs) from rd_of ok e)
 refine ⟨z,y,xs,r,o,es,ep,h1,h2,h3,h4,fun x hx=>?_,h5⟩
 have all:∀ {l:List (List Key×V)} {m:List (List Key×Addr×Value)},KT H l m->∀ x∈m,(tupleKind (mixKind P w)).is h x.1 x.2.1:=by
  intro l m q
  induction q with
  | nil=>intro x hx;exact nomatch hx
  | @cons p q ps qs hq t ih =>
   intro x hx
   rcases List.mem_cons.mp hx with e | hx
   ·subst e
    exact key_of ok (by rw [<- hq.1];exact hq.2.1)
   ·exact ih x hx
 exact all r x hx
theorem dt_of {kvs:List (List Key×V)} (ok:HOk P w H h) (e:H a=some (.dT kvs)):kvs.length<=sizeLine/\(a == sysModules)=false /\
  ∃ xs,KT H kvs xs/\h.DictOfH (tupleKind (mixKind P w)) a xs:=dt_rd ok (.inl e)
end

def DGet (H:Hp) (a:Addr) (y:V) (r:Option V):Prop :=
 (∃ kvs k,Rd H a (.dK kvs)/\y=kV k/\r=valV kvs k)\/∃ kvs k b,Rd H a (.dT kvs)/\y=.ref b/\H b=some (.tup (k.map kV))/\r=valV kvs k
def DPut (H:Hp) (a:Addr) (y v:V) (H':Hp):Prop :=
 (∃ kvs k,H a=some (.dK kvs)/\y=kV k/\kvs.length<sizeLine/\H'=upd H a (.dK (putK kvs k v))) \/
 ∃ kvs k b,H a=some (.dT kvs)/\y=.ref b/\H b=some (.tup (k.map kV))/\kvs.length<sizeLine/\H'=upd H a (.dT (putK kvs k v))
theorem DGet.k {H:Hp} {a:Addr} {kvs:List (Key×V)} {k:Key} (e:H a=some (.dK kvs)):DGet H a (kV k) (valV kvs k):=.inl ⟨kvs,k,.inl e,rfl,rfl⟩
theorem DGet.t {H:Hp} {a b:Addr} {kvs:List (List Key×V)} {k:List Key} (e:H a=some (.dT kvs)) (eb:H b=some (.tup (k.map kV))):DGet H a (.ref b) (valV kvs k):=.inr ⟨kvs,k,b,.inl e,rfl,eb,rfl⟩
theorem DPut.k {H:Hp} {a:Addr} {kvs:List (Key×V)} {k:Key} {v:V} (e:H a=some (.dK kvs)) (hl:kvs.length<sizeLine):DPut H a (kV k) v (upd H a (.dK (putK kvs k v))):=.inl ⟨kvs,k,e,rfl,hl,rfl⟩
theorem DPut.t {H:Hp} {a b:Addr} {kvs:List (List Key×V)} {k:List Key} {v:V} (e:H a=some (.dT kvs)) (eb:H b=some (.tup (k.map kV))) (hl:kvs.length<sizeLine) :
  DPut H a (.ref b) v (upd H a (.dT (putK kvs k v))):=.inr ⟨kvs,k,b,e,rfl,eb,hl,rfl⟩


section
variable {X:Cx} {pins:List (Addr×Obj)} {σ:St} {H:Hp} {s:Shared} {a:Addr} {y v:V} {u r:Value} {o:Option V} {A:Around} {E:Value->Shared->Prop}

theorem Inv.big (I:Inv X pins σ H s):sysModules<s.heap.objs.size:=by
 have h:mainGlobals<s.heap.objs.size:=(I.mod.glob.keeps I.bk).lt
 exact Nat.lt_trans (by decide) h

theorem d_getItem {Q:Value->Shared->Prop} (hu:A.units+1<cLine) (I:Inv X pins σ H s) (g:DGet H a y (some v)) (ry:RelV y u) (h:∀ w' s',Inv X pins σ H s'->RelV v w'->Q w' s') :
  wpAny (model X.prog X.w) A (getItem (.ref a) u) Q E s:=by
 rcases g with ⟨kvs,k,e,ey,l⟩ | ⟨kvs,k,b,e,ey,eb,l⟩
 ·subst ey
  obtain ⟨z,hd,vs,rel,dd⟩:=dk_rd I.hok e
  obtain ⟨w',hw,rw'⟩:=RelO.some_of (v:=v) (o:=valueAt vs k) (by rw [l];exact rel.val k)
  exact wpAny_getItem_of (kV_is ry) dd.mapOf hw (h w' _ (I.tok _) rw')
 ·subst ey
  cases (show u=Value.ref b from ry)
  obtain ⟨z,hd,xs,rel,dd⟩:=dt_rd I.hok e
  obtain ⟨w',hw,rw'⟩:=RelO.some_of (v:=v) (o:=(atKey xs k).map (·.2)) (by rw [l];exact rel.val k)
  obtain ⟨p,hp,hp2⟩:=Option.map_eq_some_iff.mp hw
  refine wpAny_getItem_heap (tupleKind_room_in1 hu) (key_of I.hok eb) dd hp ?_
  rw [hp2]
  exact h w' _ (I.tok _) rw'
theorem d_write {h':Heap} {t':Nat} {ob:HO} (I:Inv X pins σ H s) (mu:Mut (H a)) (hs:Heap.SameBut a s.heap h') (he:∃ q,h'.get? a=some q) (new:ObjOk X.prog X.w (upd H a ob) h' a ob) :
  Inv X pins σ (upd H a ob) { s with heap:=h',toks:=t' } :=
 I.write (x:=a) (e:=a) mu (.inl rfl) (fun b q hb z=>(hs.2 b hb).trans z) he new
theorem dk_new {P:Program} {w:World} {H':Hp} {h':Heap} {kvs:List (Key×V)} {vs:List (Key×Value)} (z:kvs.length<=sizeLine) (hd:(a == sysModules)=false) (rel:KV kvs vs) (dd:h'.DictOf (mixKind P w) a vs) :
  ObjOk P w H' h' a (.dK kvs):=⟨z,hd,vs,rel,dd⟩
theorem d_setItem {H':Hp} {Q:Unit->Shared->Prop} (hu:A.units+1<cLine) (I:Inv X pins σ H s) (g:DPut H a y v H') (ry:RelV y u) (rv:RelV v r) (h:∀ s',Inv X pins σ H' s'->Q () s') :
  wpAny (model X.prog X.w) A (setItem (.ref a) u r) Q E s:=by
 rcases g with ⟨kvs,k,e,ey,l,eH⟩ | ⟨kvs,k,b,e,ey,eb,l,eH⟩
 ·subst ey eH
  obtain ⟨z,hd,vs,rel,dd⟩:=dk_of I.hok e
  have hz:vs.length<=sizeLine:=by rw [<- rel.length];exact z
  have hl:(putK kvs k v).length<=sizeLine:=by have:=length_putK kvs k v;omega
  refine wpAny_setItem_pairs (hsz:=hz) (kV_is ry) dd fun h' dd' hs=>h _ ?_
  have he:∃ q,h'.get? a=some q:=let ⟨q,_,_,hq,_⟩:=dd';⟨q,hq⟩
  exact d_write I (by rw [e];exact True.intro) hs he (dk_new hl hd (rel.put k rv) dd')
 ·subst ey eH
  cases (show u=Value.ref b from ry)
  obtain ⟨z,hd,xs,rel,dd⟩:=dt_of I.hok e
  have hz:xs.length<=sizeLine:=by rw [<- Paired.length rel];exact z
  have hl:(putK kvs k v).length<=sizeLine:=by have:=length_putK kvs k v;omega
  refine wpAny_setItem_heap (hsz:=hz) (tupleKind_room_in1 hu) (key_of I.hok eb) dd fun h' dd' hs=>h _ ?_
  obtain ⟨q,es,ep,hq,h2,h3,h4,_,h5⟩:=dd'
  refine d_write I (by rw [e];exact True.intro) hs ⟨q,hq⟩ ⟨hl,hd,_,(rel.put k eb rv).keeps fun c ys ec=>?_,q,es,ep,hq,h2,h3,h4,h5⟩
  rw [upd_ne (ne_of ec e (fun z=>nomatch z))]
  exact ec
end

section
variable {X:Cx} {pins:List (Addr×Obj)} {σ:St} {H:Hp} {s:Shared} {a:Addr} {kvs:List (Key×V)} {k:Key} {u:Value} {A:Around} {E:Value->Shared->Prop}
end


def NoSl (i:Expr):Prop:=∀ ov iv,subscripted i false ov iv=operate [ov,iv] (getItem ov iv)
theorem subD_of {prog:Program} {w:World} {A:Around} {E:Value->Shared->Prop} {s:Shared} {env:Env} {value slice:Expr} {pos:Pos} {T id:String} {Q:Value->Shared->Prop}
  (hl:typeLookup (.type T) "__getitem__"=pure (some (.builtin id))) (hs:NoSl slice)
  (h:wpAny (model prog w) A (eval value env) (fun o s₁=>wpAny (model prog w) A (eval slice env) (fun i s₂=>s₂.TypeIs o T/\wpAny (model prog w) A (getItem o i) Q E s₂) E s₁) E s) :
  wpAny (model prog w) A (eval (.Subscript value slice pos) env) Q E s:=by
 refine Subscript_ (wpAny_mono h (fun o s₁ h₁=>wpAny_mono h₁ (fun i s₂ h₂=>?_) fun _ _ x=>x) fun _ _ x=>x)
 obtain ⟨hT,h₂⟩:=h₂
 unfold subscriptTail
 refine wpAny_bind ?_
 rw [getitemInPython_of_ne hT.not_modules]
 refine wpAny_bind (wpAny_specialOf hT hl ?_)
 have fin:wpAny (model prog w) A (subscripted slice false o i) (fun r s₃=>wpAny (model prog w) A (letTemporaryGo value o r >>= fun _=>pure r) Q E s₃) E s₂:=by
  rw [hs o i]
  exact wpAny_operating (wpAny_mono h₂ (fun r s₃ h₃=>wpAny_bind (wpAny_letTemporaryGo (wpAny_pure h₃))) fun _ _ x=>x)
 first
  | exact wpAny_pure (wpAny_bind fin)
  | exact wpAny_bind (wpAny_pure (wpAny_bind fin))
  | exact wpAny_bind fin

theorem dict_typeIs {X:Cx} {pins:List (Addr×Obj)} {σ:St} {H:Hp} {s:Shared} {a:Addr} {y:V} {o:Option V} (I:Inv X pins σ H s) (g:DGet H a y o):s.TypeIs (.ref a) "dict":=by
 rcases g with ⟨kvs,k,e,_,_⟩ | ⟨kvs,k,b,e,_,_,_⟩
 ·obtain ⟨_,_,vs,_,dd⟩:=dk_rd I.hok e
  exact dd.typeIs
 ·obtain ⟨_,_,xs,_,dd⟩:=dt_rd I.hok e
  exact dd.typeIs
def tDGet (td ty:TE):TE:=fun σ H Q=>td σ H fun x H1=>ty σ H1 fun y H2=>∃ a v,x=.ref a/\DGet H2 a y (some v)/\Q v H2
def sDPut (td ty tv:TE):TS:=fun D σ H=>tv σ H fun v H1=>td σ H1 fun x H2=>ty σ H2 fun y H3=>∃ a H4,x=.ref a/\DPut H3 a y v H4/\D.nx σ H4
section
variable {X:Cx} {o i e value:Expr} {pos pos' tpos:Pos} {td ty tv:TE}
theorem pe_dget (hu:X.A.units+1<cLine) (ho:PE X o td) (hi:PE X i ty) (hs:NoSl i):PE X (.Subscript o i pos) (tDGet td ty):=by
 intro pins s σ H Q I h
 refine subD_of PySem.F.slot_dict_getitem.lookup hs (thn (ho pins s σ H _ I h) fun u s1 ⟨x,H1,I1,rx,q1⟩=>thn (hi pins s1 σ H1 _ I1 q1) fun iv s2 ⟨y,H2,I2,ry,a,v,ex,g,q2⟩=>?_)
 subst ex
 obtain rfl:u=Value.ref a:=rx
 exact ⟨dict_typeIs I2 g,d_getItem hu I2 g ry fun w' s3 I3 rw'=>⟨v,H2,I3,rw',q2⟩⟩
theorem ps_dput (hu:X.A.units+1<cLine) (ho:PE X o td) (hi:PE X i ty) (hv:PE X value tv) (hs:swapsWith value (some (.Subscript o i pos')) pos.line X.env=pure false) :
  PS X (.Assign [.Subscript o i pos'] value pos) (sDPut td ty tv):=by
 intro pins s σ H D I h
 refine wpAny_Assign_Subscript (thn (hv pins s σ H _ I h) fun r s1 ⟨v,H1,I1,rv,q1⟩=>thn (ho pins s1 σ H1 _ I1 q1) fun u s2 ⟨x,H2,I2,rx,q2⟩=>thn (hi pins s2 σ H2 _ I2 q2) fun iv s3 ⟨y,H3,I3,ry,a,H4,ex,g,q3⟩=>?_) hs
 subst ex
 obtain rfl:u=Value.ref a:=rx
 exact d_setItem hu I3 g ry rv fun s4 I4=>⟨σ,H4,I4,q3⟩
end


theorem dk_empty {P:Program} {w:World} {H:Hp} (h:Heap) (hb:sysModules<h.objs.size):ObjOk P w H (h.push { cls:=.type "dict",data:=.dict #[] }) h.objs.size (.dK []) :=
 ⟨Nat.zero_le _,beq_eq_false_iff_ne.mpr (Ne.symm (Nat.ne_of_lt hb)),[],.nil,Heap.DictOf.new h⟩
section
variable {X:Cx} {pos:Pos}
end

def tPairs:List (TE×TE)->St->Hp->(List (V×V)->Hp->Prop)->Prop
 | [],_,H,Q=>Q [] H
 | (tk,tv)::r,σ,H,Q=>tk σ H fun x H1=>tv σ H1 fun y H2=>tPairs r σ H2 fun ps H3=>Q ((x,y)::ps) H3
abbrev VV:List (V×V)->List (Value×Value)->Prop:=Paired fun p q=>RelV p.1 q.1/\RelV p.2 q.2
def PPs (X:Cx) (pos:Pos) (keys:List (Option Expr)) (values:List Expr) (trs:List (TE×TE)):Prop :=
 ∀ (pins:List (Addr×Obj)) (s:Shared) (σ:St) (H:Hp) (Q:List (V×V)->Hp->Prop),Inv X pins σ H s->tPairs trs σ H Q ->
  wpAny (model X.prog X.w) X.A (evalPairs (pairTrees keys values X.env pos)) (fun vs s'=>∃ ps H',Inv X pins σ H' s'/\VV ps vs/\Q ps H') X.xe s
theorem pps_nil {X:Cx} {pos:Pos}:PPs X pos [] [] []:=fun pins s σ H Q I h=>pairTrees_nil_walk ⟨[],H,I,.nil,h⟩
theorem pps_cons {X:Cx} {pos:Pos} {k v:Expr} {ks:List (Option Expr)} {vs:List Expr} {tk tv:TE} {trs:List (TE×TE)} (hk:PE X k tk) (hv:PE X v tv) (hr:PPs X pos ks vs trs) :
  PPs X pos (some k::ks) (v::vs) ((tk,tv)::trs):=fun pins s σ H Q I h =>
 pairTrees_cons_walk (thn (hk pins s σ H _ I h) fun u s1 ⟨x,H1,I1,rx,q1⟩=>thn (hv pins s1 σ H1 _ I1 q1) fun w2 s2 ⟨y,H2,I2,ry,q2⟩ =>
  thn (hr pins s2 σ H2 _ I2 q2) fun ws s3 ⟨ps,H3,I3,rel,q3⟩=>⟨(x,y)::ps,H3,I3,.cons ⟨rx,ry⟩ rel,q3⟩)

def mergeK (kvs more:List (Key×V)):List (Key×V):=more.foldl (fun acc kv=>putK acc kv.1 kv.2) kvs
theorem KV.merge:∀ {more:List (Key×V)} {rs:List (Key×Value)} {kvs:List (Key×V)} {vs:List (Key×Value)},KV more rs->KV kvs vs->KV (mergeK kvs more) (merged vs rs):=by
 intro more rs kvs vs r
 unfold KV at r
 induction r generalizing kvs vs with
 | nil=>intro q;exact q
 | @cons p q ps qs h t ih =>
  intro r0
  have e:KV (putK kvs p.1 p.2) (stored vs q.1 q.2):=by
   have:=r0.put p.1 h.2
   rw [<- h.1];exact this
  exact ih e
theorem length_mergeK:∀ (more kvs:List (Key×V)),(mergeK kvs more).length<=kvs.length+more.length
 | [],kvs=>by show kvs.length<=kvs.length+0;omega
 | p::r,kvs=>by
  have h1:=length_mergeK r (putK kvs p.1 p.2)
  have h2:=length_putK kvs p.1 p.2
  show (mergeK (putK kvs p.1 p.2) r).length<=_
  rw [List.length_cons];omega
theorem carries_of {P:Program} {w:World}:∀ {kvs:List (Key×V)} {ws:List (Value×Value)},VV (kvs.map fun kv=>(kV kv.1,kv.2)) ws->∃ rs,Carries (mixKind P w) ws rs/\KV kvs rs
 | [],_,r=>by rw [List.map_nil] at r;cases r;exact ⟨[],True.intro,.nil⟩
 | p::kvs,_,r=>by
  rw [List.map_cons] at r
  cases r with
  | @cons a b as bs h t =>
   obtain ⟨rs,c,q⟩:=carries_of (P:=P) (w:=w) t
   obtain ⟨b1,b2⟩:=b
   exact ⟨(p.1,b2)::rs,⟨kV_is h.1,rfl,c⟩,.cons ⟨rfl,h.2⟩ q⟩
def tDisp (trs:List (TE×TE)):TE:=fun σ H Q=>∀ p,H p=none->tPairs trs σ (upd H p (.dK [])) fun ps H2=>H2 p=some (.dK [])/\∃ kvs:List (Key×V),ps=kvs.map (fun kv=>(kV kv.1,kv.2))/\kvs.length<=15/\Q (.ref p) (upd H2 p (.dK (mergeK [] kvs)))
theorem pe_disp {X:Cx} {pos:Pos} {keys:List (Option Expr)} {values:List Expr} {trs:List (TE×TE)} (h:PPs X pos keys values trs) (hall:keys.all (·.isSome)=true) (hl:keys.length=values.length) (h0:keys≠[])
  (h15:keys.length<=15):PE X (.Dict keys values pos) (tDisp trs):=by
 intro pins s σ H Q I q
 have hn:=I.hok.fresh (Nat.le_refl s.heap.objs.size)
 have I1:=I.laid (a:=s.heap.objs.size) (o:=.dK []) (h':=s.heap.push { cls:=.type "dict",data:=.dict #[] }) (t':=s.toks) (fun _ _ q=>Heap.get?_push_of_some _ q) (Nat.le_refl _) (dk_empty s.heap I.big)
 refine wpAny_Dict_walk (knd:=mixKind X.prog X.w) hall hl h0 h15 (thn (h pins _ σ _ _ I1 (q _ hn)) fun ws s2 ⟨ps,H2,I2,rel,e,kvs,ep,lk,q2⟩=>?_)
 subst ep
 obtain ⟨rs,c,rk⟩:=carries_of (P:=X.prog) (w:=X.w) rel
 obtain ⟨z,hd,vs0,r0,dd⟩:=dk_of I2.hok e
 cases r0
 refine ⟨rs,c,dd,fun h' dd' hs=>⟨.ref s.heap.objs.size,_,?_,rfl,q2⟩⟩
 have hz:(mergeK [] kvs).length<=sizeLine:=by
  have h1:=length_mergeK kvs []
  rw [List.length_nil] at h1
  rw [sizeLine_eq];omega
 have he:∃ q,h'.get? s.heap.objs.size=some q:=let ⟨q,_,_,hq,_⟩:=dd';⟨q,hq⟩
 exact d_write I2 (by rw [e];exact True.intro) hs he (dk_new hz hd (rk.merge .nil) dd')



end L2

namespace TL
open PySem PySem.Spec PyProof.Rows L2
structure Tape where
 p:Addr
 q:Addr
 ns:List Int
 b:Bool
def tapH (T:Tape) (n:Nat) (l:Int):HO:=.dK [(.inr "script",.ref T.q),(.inr "at",.int n),(.inr "left",.int l),(.inr "digits",.bl T.b)]
def tpD (T:Tape):D:=.dict [(.str "@",.list [.int (T.p:Nat),.int (T.q:Nat),.bool T.b,.list (T.ns.map PyData.int)])]
theorem rep_tp {K:PySem.W.Frag} {H:Hp} (T:Tape):Rep K H (tpD T) (.ref T.p):=.addr _
theorem rep_tp_inv {K:PySem.W.Frag} {H:Hp} {T:Tape} {v:V} (r:Rep K H (tpD T) v):v=.ref T.p:=by
 unfold tpD at r
 generalize hg:(PyData.dict [(.str "@",.list [.int (T.p:Nat),.int (T.q:Nat),.bool T.b,.list (T.ns.map PyData.int)])])=d at r
 cases r with
 | @addr p z =>
  injection hg with hg
  injection hg with hg _
  injection hg with _ hg
  injection hg with hg
  injection hg with hg _
  injection hg with hg
  rw [Int.ofNat.inj hg]
 | dct =>
  injection hg with hg
  injection hg with hg _
  injection hg with hg _
  injection hg with hg
  exact absurd hg (by decide +kernel)
 | _=>cases hg
section
variable {K:PySem.W.Frag} {H H' H1 H2 B:Hp} {p0 ps:List Addr} {σT:List Sl} {σ:L2.St} {T:Tape} {n n':Nat} {p:Addr}
def SameX (p:Addr) (H H':Hp):Prop:=∀ a o,a≠p->H a=some o->H' a=some o
theorem SameX.of (s:Same H H'):SameX p H H':=fun a o _ e=>s a o e
theorem SameX.refl:SameX p H H:=fun _ _ _ e=>e
theorem SameX.trans (s:SameX p H H1) (t:SameX p H1 H2):SameX p H H2:=fun a o n e=>t a o n (s a o n e)
theorem SameX.mask (hp:p∈ps) (s:SameX p H H'):Same (mask H ps) (mask H' ps):=fun a o e=>by
 unfold TL.mask at e |-
 by_cases ha:a∈ps
 ·rw [if_pos ha] at e;cases e
 ·rw [if_neg ha] at e |-
  exact s a o (fun z=>ha (z▸hp)) e
structure TpAt (K:PySem.W.Frag) (H:Hp) (ps:List Addr) (T:Tape) (n:Nat):Prop where
 obj:∃ l,H T.p=some (tapH T n l)
 scr:SqL K (mask H ps) T.q (T.ns.map V.int)
 dig:T.b=true->0<T.ns.length
theorem TpAt.grow (t:TpAt K H ps T n) (s:Same H H'):TpAt K H' ps T n:=⟨let ⟨l,e⟩:=t.obj;⟨l,s _ _ e⟩,L2.Same.seq (mask_same s) t.scr,t.dig⟩
structure OkC (K:PySem.W.Frag) (B:Hp) (p0:List Addr) (H:Hp) (ps:List Addr) (σT:List Sl) (σ:L2.St) (T:Tape) (n:Nat):Prop where
 ok:Ok K B p0 H ps σT σ
 mem:T.p∈p0
 nb:B T.p=none
 tp:TpAt K H ps T n
 bq:SqL K (mask B p0) T.q (T.ns.map V.int)
theorem OkC.mem' (o:OkC K B p0 H ps σT σ T n):T.p∈ps:=o.ok.sub _ o.mem
theorem OkC.grow (o:OkC K B p0 H ps σT σ T n) (s:Same H H'):OkC K B p0 H' ps σT σ T n:=⟨o.ok.grow s,o.mem,o.nb,o.tp.grow s,o.bq⟩
theorem Ok.growX (o:Ok K B p0 H ps σT σ) (hp:p∈p0) (hB:B p=none) (s:SameX p H H') (hl:H' p≠none):Ok K B p0 H' ps σT σ where
 base:=fun a u e=>s a u (fun z=>by rw [z,hB] at e;cases e) (o.base a u e)
 sub:=o.sub
 live:=fun q hq z=>by
  by_cases e:q=p
  ·subst e;exact hl z
  ·cases h:H q with
   | none=>exact o.live q hq h
   | some u=>rw [s q u e h] at z;cases z
 len:=o.len
 val:=fun i d h=>let ⟨v,h1,h2⟩:=o.val i d h;⟨v,h1,h2.same (s.mask (o.sub p hp))⟩
 own:=fun i ts h=>let ⟨q,xs,h1,h2,h3,h4,h5,h6⟩:=o.own i ts h;⟨q,xs,h1,h2,h3,h4,s q _ (fun z=>h4 (z▸hp)) h5,h6.same (s.mask (o.sub p hp))⟩
 dis:=o.dis
 dc:=o.dc.to (fun j hs kvs h=>⟨h,rfl⟩) (fun q φ a b c=>⟨a,(s q _ (fun z=>c (z▸hp)) b).trans b.symm⟩) (fun q φ _ _ a b=>⟨a,b⟩) (s.mask (o.sub p hp))
theorem OkC.growX (o:OkC K B p0 H ps σT σ T n) (s:SameX T.p H H') (t:TpAt K H' ps T n'):OkC K B p0 H' ps σT σ T n' :=
 ⟨o.ok.growX o.mem o.nb s (by obtain ⟨l,e⟩:=t.obj;rw [e];exact fun z=>nomatch z),o.mem,o.nb,t,o.bq⟩
theorem OkC.set (o:OkC K B p0 H ps σT σ T n) {i:Nat} {d:D} {v:V} (r:Rep K (mask H ps) d v):OkC K B p0 H ps (σT.set i (.val d)) (σ.set i (some v)) T n:=⟨o.ok.set r,o.mem,o.nb,o.tp,o.bq⟩
end
abbrev EC:=D->Nat->List Sl->(Nat->D->Prop)->Prop
abbrev AC:=D->Nat->List Sl->(Nat->List D->Prop)->Prop
abbrev TC:=D->Nat->List Sl->(Nat->Bool->Prop)->Prop
def PEc (X:Cx) (e:Expr) (t:EC):Prop:=∃ te:TE,PE X e te/\∀ (B:Hp) (p0:List Addr) (H:Hp) (ps:List Addr) (σT:List Sl) (σ:L2.St) (T:Tape) (n:Nat) (Q:Nat->D->Prop) (QV:VK),OkC X.K B p0 H ps σT σ T n->t (tpD T) n σT Q ->
 (∀ n' d v H',SameX T.p H H'->TpAt X.K H' ps T n'->Rep X.K (mask H' ps) d v->Q n' d->QV v H')->te σ H QV
def PAc (X:Cx) (es:List Expr) (t:AC):Prop:=∃ ta:TA,PA X es ta/\∀ (B:Hp) (p0:List Addr) (H:Hp) (ps:List Addr) (σT:List Sl) (σ:L2.St) (T:Tape) (n:Nat) (Q:Nat->List D->Prop) (QV:List V->Hp->Prop),OkC X.K B p0 H ps σT σ T n->t (tpD T) n σT Q ->
 (∀ n' ds vs H',SameX T.p H H'->TpAt X.K H' ps T n'->Reps X.K (mask H' ps) ds vs->Q n' ds->QV vs H')->ta σ H QV
def PTc (X:Cx) (e:Expr) (t:TC):Prop:=∃ tt:TT,PT X e tt/\∀ (B:Hp) (p0:List Addr) (H:Hp) (ps:List Addr) (σT:List Sl) (σ:L2.St) (T:Tape) (n:Nat) (Q:Nat->Bool->Prop) (QV:Bool->Hp->Prop),OkC X.K B p0 H ps σT σ T n->t (tpD T) n σT Q ->
 (∀ n' b H',SameX T.p H H'->TpAt X.K H' ps T n'->Q n' b->QV b H')->tt σ H QV
def PWc (X:Cx) (e:Expr) (t:TC):Prop:=∃ tt:TT,PW X e tt/\∀ (B:Hp) (p0:List Addr) (H:Hp) (ps:List Addr) (σT:List Sl) (σ:L2.St) (T:Tape) (n:Nat) (Q:Nat->Bool->Prop) (QV:Bool->Hp->Prop),OkC X.K B p0 H ps σT σ T n->t (tpD T) n σT Q ->
 (∀ n' b H',SameX T.p H H'->TpAt X.K H' ps T n'->Q n' b->QV b H')->tt σ H QV
section
variable {X:Cx} {a b e:Expr} {es:List Expr} {ta tb te:EC} {pos:Pos}
def cE (t:ET):EC:=fun _ n σ Q=>t σ (Q n)
theorem ec_p {t:ET} (h:PEt X e t):PEc X e (cE t):=by
 obtain ⟨v,p,r⟩:=h
 exact ⟨v,p,fun B p0 H ps σT σ T n Q QV o h k=>r B p0 H ps σT σ (Q n) QV o.ok h fun d v H' s rr q=>k n d v H' (.of s) (o.tp.grow s) rr q⟩
def cT (t:TTt):TC:=fun _ n σ Q=>t σ (Q n)
theorem tc_p {t:TTt} (h:PTt X e t):PTc X e (cT t):=by
 obtain ⟨v,p,r⟩:=h
 exact ⟨v,p,fun B p0 H ps σT σ T n Q QV o h k=>r B p0 H ps σT σ (Q n) QV o.ok h fun b H' s q=>k n b H' (.of s) (o.tp.grow s) q⟩
def cOp (f:D->D->(D->Prop)->Prop) (ta tb:EC):EC:=fun τ n σ Q=>ta τ n σ fun n1 x=>tb τ n1 σ fun n2 y=>f x y (Q n2)
theorem opc_read {r:R2} {f:D->D->(D->Prop)->Prop} (h2:Op2 X r f) {va vb:TE}
  (ha:∀ (B:Hp) (p0:List Addr) (H:Hp) (ps:List Addr) (σT:List Sl) (σ:L2.St) (T:Tape) (n:Nat) (Q:Nat->D->Prop) (QV:VK),OkC X.K B p0 H ps σT σ T n->ta (tpD T) n σT Q->(∀ n' d v H',SameX T.p H H'->TpAt X.K H' ps T n'->Rep X.K (mask H' ps) d v->Q n' d->QV v H')->va σ H QV)
  (hb:∀ (B:Hp) (p0:List Addr) (H:Hp) (ps:List Addr) (σT:List Sl) (σ:L2.St) (T:Tape) (n:Nat) (Q:Nat->D->Prop) (QV:VK),OkC X.K B p0 H ps σT σ T n->tb (tpD T) n σT Q->(∀ n' d v H',SameX T.p H H'->TpAt X.K H' ps T n'->Rep X.K (mask H' ps) d v->Q n' d->QV v H')->vb σ H QV)
  (B:Hp) (p0:List Addr) (H:Hp) (ps:List Addr) (σT:List Sl) (σ:L2.St) (T:Tape) (n:Nat) (Q:Nat->D->Prop) (QV:VK) (o:OkC X.K B p0 H ps σT σ T n) (h:cOp f ta tb (tpD T) n σT Q) (k:∀ n' d v H',SameX T.p H H'->TpAt X.K H' ps T n'->Rep X.K (mask H' ps) d v->Q n' d->QV v H'):tOp r va vb σ H QV:=by
 refine ha B p0 H ps σT σ T n _ _ o h fun n1 d1 x H1 s1 t1 r1 q1=>?_
 have o1:=o.growX s1 t1
 refine hb B p0 H1 ps σT σ T n1 _ _ o1 q1 fun n2 d2 y H2 s2 t2 r2 q2=>?_
 have o2:=o1.growX s2 t2
 exact h2 H2 ps d1 d2 x y (Q n2) QV o2.ok.live (r1.same (s2.mask o.mem')) r2 q2 fun d v H' s' r' q'=>k n2 d v H' ((s1.trans s2).trans (.of s')) (t2.grow s') r' q'
theorem ec_op {op:Operator} {r:R2} {f:D->D->(D->Prop)->Prop} (ho:OpR X (binaryOp op) r) (h2:Op2 X r f) (ha:PEc X a ta) (hb:PEc X b tb):PEc X (.BinOp a op b pos) (cOp f ta tb):=by
 obtain ⟨va,pa,ra⟩:=ha
 obtain ⟨vb,pb,rb⟩:=hb
 exact ⟨_,pe_op ho pa pb,opc_read h2 ra rb⟩
theorem ec_cmp {op:CmpOp} {r:R2} {f:D->D->(D->Prop)->Prop} (ho:OpR X (compareOp op) r) (h2:Op2 X r f) (ha:PEc X a ta) (hb:PEc X b tb) (hm:behindInMarks op b=false:=by first | exact nomark _ | rfl):PEc X (.Compare a [op] [b] pos) (cOp f ta tb):=by
 obtain ⟨va,pa,ra⟩:=ha
 obtain ⟨vb,pb,rb⟩:=hb
 exact ⟨_,pe_cmpR ho pa pb hm,opc_read h2 ra rb⟩
theorem ec_ix {r:R2} {f:D->D->(D->Prop)->Prop} (ho:IxR X r) (h2:Op2 X r f) (ha:PEc X a ta) (hb:PEc X b tb) (hs:PlainIx b:=by intro _ _;rfl):PEc X (.Subscript a b pos) (cOp f ta tb):=by
 obtain ⟨va,pa,ra⟩:=ha
 obtain ⟨vb,pb,rb⟩:=hb
 exact ⟨_,pe_ix ho pa pb hs,opc_read h2 ra rb⟩
def cIxOwn (i:Nat) (tb:EC):EC:=fun τ n σ Q=>∃ ts,σ[i]?=some (.own ts)/\tb τ n σ fun n1 y=>∃ (j:Int) (d:D),y=.int j/\atI ts j=some d/\Q n1 d
def cNil:AC:=fun _ n _ Q=>Q n []
def cCons (t:EC) (r:AC):AC:=fun τ n σ Q=>t τ n σ fun n1 x=>r τ n1 σ fun n2 xs=>Q n2 (x::xs)
theorem ac_nil:PAc X [] cNil:=⟨_,pa_nil,fun _ _ H _ _ _ _ _ _ _ o h k=>k _ _ _ H .refl o.tp .nil h⟩
theorem ac_cons {tr:AC} (ha:PEc X e te) (hr:PAc X es tr) (hs:starEach (e::es) X.env=(false,eval e X.env)::starEach es X.env:=by rfl):PAc X (e::es) (cCons te tr):=by
 obtain ⟨va,pa,ra⟩:=ha
 obtain ⟨vr,pr,rr⟩:=hr
 refine ⟨_,pa_cons pa pr hs,fun B p0 H ps σT σ T n Q QV o h k=>ra B p0 H ps σT σ T n _ _ o h fun n1 d x H1 s1 t1 r1 q1=>?_⟩
 refine rr B p0 H1 ps σT σ T n1 _ _ (o.growX s1 t1) q1 fun n2 ds xs H2 s2 t2 r2 q2=>?_
 exact k _ _ _ H2 (s1.trans s2) t2 (.cons (r1.same (s2.mask o.mem')) r2) q2
def cTup (t:AC):EC:=fun τ n σ Q=>t τ n σ fun n1 ds=>ds.length<=1000/\Q n1 (.tuple ds)
theorem ec_tup {x1} {t:AC} (h:PAc X es t):PEc X (.Tuple es x1 pos) (cTup t):=by
 obtain ⟨v,p,r⟩:=h
 refine ⟨_,pe_tup p,fun B p0 H ps σT σ T n Q QV o h k=>r B p0 H ps σT σ T n _ _ o h fun n1 ds xs H1 s1 t1 r1 q1=>⟨le_line (by rw [<- r1.length];exact q1.1),fun q hq=>?_⟩⟩
 exact k _ _ _ _ (s1.trans (.of (same_new hq))) (t1.grow (same_new hq)) (rep_tup (o.growX s1 t1).ok.live hq r1) q1.2
def cCall (f:List D->(D->Prop)->Prop) (t:AC):EC:=fun τ n σ Q=>t τ n σ fun n1 ds=>f ds (Q n1)
theorem ec_cb {r:List V->Hp->VK->Prop} {f:List D->(D->Prop)->Prop} {t:AC} {g:Expr} (hf:CallT X r f) (ha:PAc X (e::es) t) (pc:∀ {ta:TA},PA X (e::es) ta->PE X (.Call g (e::es) [] pos) (tCB r ta)):PEc X (.Call g (e::es) [] pos) (cCall f t):=by
 obtain ⟨v,pa,ra⟩:=ha
 refine ⟨_,pc pa,fun B p0 H ps σT σ T n Q QV o h k=>ra B p0 H ps σT σ T n _ _ o h fun n1 ds xs H1 s1 t1 r1 q1=>?_⟩
 exact hf H1 ps ds xs (Q n1) QV (o.growX s1 t1).ok.live r1 q1 fun d v H' s' r' q'=>k n1 d v H' (s1.trans (.of s')) (t1.grow s') r' q'
theorem ec_callP {k:Nat} {f:Addr} {fd:FuncData} {pn:List Str} {sp:SpT} {x:Str} {p:Pos} {t:AC} (F:FnOk X.prog X.w X.K X.mg X.base CX0 k f fd pn (liftSp X.K sp)) (hm:X.mg x=some (.ref f)) (hk:PySem.W.keepIn X.K (.ref f)=true) (hb:Binds X.K fd pn [])
  (hr:Room k X.A) (ha:PAc X (e::es) t) (pc:∀ {ta:TA},PA X (e::es) ta->PE X (.Call (.Name x p) (e::es) [] pos) (tCall (liftSp X.K sp) [] E0 ta)):PEc X (.Call (.Name x p) (e::es) [] pos) (cCall sp t):=by
 obtain ⟨v,pa,ra⟩:=ha
 refine ⟨_,pc pa,fun B p0 H ps σT σ T n Q QV o h k=>ra B p0 H ps σT σ T n _ _ o h fun n1 ds xs H1 s1 t1 r1 q1=>?_⟩
 show liftSp X.K sp (xs++[]) H1 QV E0
 rw [List.append_nil]
 exact ⟨ps,ds,Q n1,(o.growX s1 t1).ok.live,r1,q1,fun d v H' s' r' q'=>k n1 d v H' (s1.trans (.of s')) (t1.grow s') r' q'⟩
abbrev SpC:=D->Nat->List D->(Nat->D->Prop)->Prop
def liftSpC (K:PySem.W.Frag) (sp:SpC):Sp:=fun vs H Q _=>∃ (ps:List Addr) (T:Tape) (n:Nat) (ds:List D) (QD:Nat->D->Prop),(∀ p∈ps,H p≠none)/\T.p∈ps/\TpAt K H ps T n/\Reps K (mask H ps) (tpD T::ds) vs/\sp (tpD T) n ds QD /\
 ∀ n' d v H',SameX T.p H H'->TpAt K H' ps T n'->Rep K (mask H' ps) d v->QD n' d->Q v H'
def cDraw (sp:SpC) (t:AC):EC:=fun τ n σ Q=>t τ n σ fun n1 ds=>∃ es,ds=τ::es/\sp τ n1 es Q
theorem ec_call {k:Nat} {f:Addr} {fd:FuncData} {pn:List Str} {sp:SpC} {x:Str} {p:Pos} {t:AC} (F:FnOk X.prog X.w X.K X.mg X.base CX0 k f fd pn (liftSpC X.K sp)) (hm:X.mg x=some (.ref f)) (hk:PySem.W.keepIn X.K (.ref f)=true) (hb:Binds X.K fd pn [])
  (hr:Room k X.A) (ha:PAc X (e::es) t) (pc:∀ {ta:TA},PA X (e::es) ta->PE X (.Call (.Name x p) (e::es) [] pos) (tCall (liftSpC X.K sp) [] E0 ta)):PEc X (.Call (.Name x p) (e::es) [] pos) (cDraw sp t):=by
 obtain ⟨v,pa,ra⟩:=ha
 refine ⟨_,pc pa,fun B p0 H ps σT σ T n Q QV o h k=>ra B p0 H ps σT σ T n _ _ o h fun n1 ds xs H1 s1 t1 r1 q1=>?_⟩
 obtain ⟨es',rfl,q1⟩:=q1
 show liftSpC X.K sp (xs++[]) H1 QV E0
 rw [List.append_nil]
 exact ⟨ps,T,n1,es',Q,(o.growX s1 t1).ok.live,o.mem',t1,r1,q1,fun n' d v H' s' t' r' q'=>k n' d v H' (s1.trans s') t' r' q'⟩
def cMeth (f:Str->List D->(D->Prop)->Prop) (te:ET) (t:AC):EC:=fun τ n σ Q=>te σ fun d=>∃ z,d=.str z/\t τ n σ fun n1 ds=>f z ds (Q n1)
theorem cmeth_read {f:Str->List D->(D->Prop)->Prop} {r:V->List V->Hp->VK->Prop} {g m:Expr} {te:ET} {t:AC} (hn:PEt X m te) (ha:PAc X (e::es) t)
  (hf:∀ (H:Hp) (ps:List Addr) (z:Str) (ds:List D) (xs:List V) (Q:D->Prop) (QV:VK),Reps X.K (mask H ps) ds xs->f z ds Q->(∀ d v H',Same H H'->Rep X.K (mask H' ps) d v->Q d->QV v H')->r (.str z) xs H QV)
  (pc:∀ {v:TE} {ta:TA},PE X m v->PA X (e::es) ta->PE X (.Call g (e::es) [] pos) (tBM X.K "str" r v ta)):PEc X (.Call g (e::es) [] pos) (cMeth f te t):=by
 obtain ⟨v,pe,re⟩:=hn
 obtain ⟨va,pa,ra⟩:=ha
 refine ⟨_,pc pe pa,fun B p0 H ps σT σ T n Q QV o h k=>re B p0 H ps σT σ _ _ o.ok h fun d x H1 s1 r1 q1=>?_⟩
 obtain ⟨z,rfl,q1⟩:=q1
 cases r1
 refine ⟨rfl,ra B p0 H1 ps σT σ T n _ _ (o.grow s1) q1 fun n1 ds xs H2 s2 t2 r2 q2=>?_⟩
 exact hf H2 ps z ds xs (Q n1) QV r2 q2 fun d v H' s' r' q'=>k n1 d v H' (((SameX.of s1).trans s2).trans (.of s')) (t2.grow s') r' q'
theorem ec_join {n:Expr} {ap:Pos} {te:ET} {t:AC} (hn:PEt X n te) (ha:PAc X (e::es) t)
  (pc:∀ {v:TE} {ta:TA},PE X n v->PA X (e::es) ta->PE X (.Call (.Attribute n "join" ap) (e::es) [] pos) (tBM X.K "str" (fun x xs H Q=>∃ z p ys,x=.str z/\xs=[.ref p]/\SqL X.K H p (ys.map V.str)/\(ys.map (·.length)).sum+ys.length*z.length<=16777216/\Q (.str (Txt.join z ys)) H) v ta)):PEc X (.Call (.Attribute n "join" ap) (e::es) [] pos) (cMeth gJoin te t) :=
 cmeth_read hn ha (fun H ps z ds xs Q QV r h k=>by
  cases r with
  | nil=>exact h.elim
  | cons r1 r2 =>
   cases r2 with
   | cons _ _=>cases r1<;>exact h.elim
   | nil =>
    cases r1 with
    | list q s =>
     obtain ⟨ys,rfl,hz,h⟩:=h
     have e:=reps_strs s
     subst e
     exact ⟨z,_,ys,rfl,rfl,L2.Same.seq mask_le q,hz,k _ _ H (L2.Same.refl H) (.str _) h⟩
    | _=>exact h.elim) pc
def cVal (t:EC):TC:=fun τ n σ Q=>t τ n σ fun n1 x=>match x with | .bool b=>Q n1 b | _=>False
theorem tc_cmp {op:CmpOp} {r:R2} {f:D->D->(D->Prop)->Prop} (ho:OpR X (compareOp op) r) (h2:Op2 X r f) (ha:PEc X a ta) (hb:PEc X b tb) (hm:behindInMarks op b=false:=by first | exact nomark _ | rfl):PTc X (.Compare a [op] [b] pos) (cVal (cOp f ta tb)):=by
 obtain ⟨va,pa,ra⟩:=ha
 obtain ⟨vb,pb,rb⟩:=hb
 refine ⟨_,pt_cmpR ho pa pb hm,fun B p0 H ps σT σ T n Q QV o h k=>?_⟩
 refine opc_read h2 ra rb B p0 H ps σT σ T n (fun n1 x=>match x with | .bool b=>Q n1 b | _=>False) _ o h fun n' d v H' s' t' r' q'=>?_
 cases r' with
 | bool c=>exact ⟨c,rfl,k n' c H' s' t' q'⟩
 | _=>exact q'.elim
variable {tA tB':TC} {rest:List Expr}
def cAndC (t u:TC):TC:=fun τ n σ Q=>t τ n σ fun n1 b=>if b=true then u τ n1 σ Q else Q n1 false
theorem wc_pt (h:PWc X e tA):PTc X e tA:=by
 obtain ⟨v,p,r⟩:=h
 exact ⟨_,p.pt,r⟩
theorem wc_and1 (h:PTc X a tA):PWc X (.BoolOp .And [a] pos) tA:=by
 obtain ⟨v,p,r⟩:=h
 exact ⟨_,pw_and1 p,r⟩
theorem wc_and (ha:PTc X a tA) (hb:PWc X (.BoolOp .And (b::rest) pos) tB'):PWc X (.BoolOp .And (a::b::rest) pos) (cAndC tA tB'):=by
 obtain ⟨va,pa,ra⟩:=ha
 obtain ⟨vb,pb,rb⟩:=hb
 refine ⟨_,pw_and pa pb,fun B p0 H ps σT σ T n Q QV o h k=>ra B p0 H ps σT σ T n _ _ o h fun n1 c H1 s1 t1 q1=>?_⟩
 cases c with
 | true=>exact rb B p0 H1 ps σT σ T n1 Q _ (o.growX s1 t1) q1 fun n' b H' s' t' q'=>k n' b H' (s1.trans s') t' q'
 | false=>exact k _ _ H1 s1 t1 q1
end
section
variable {K:PySem.W.Frag} {H H' H1 H2 B:Hp} {p0 ps:List Addr} {σT:List Sl} {σ:L2.St} {T:Tape} {n n':Nat} {p:Addr}
theorem OkC.ne (o:OkC K B p0 H ps σT σ T n) (hp:H p=none):T.p≠p:=fun z=>by
 obtain ⟨l,e⟩:=o.tp.obj
 rw [z,hp] at e;cases e
theorem OkC.adopt (o:OkC K B p0 H ps σT σ T n) {u:HO} (hp:H p=none):OkC K B p0 (upd H p u) (p::ps) σT σ T n :=
 ⟨o.ok.adopt hp,o.mem,o.nb,⟨let ⟨l,e⟩:=o.tp.obj;⟨l,by rw [upd_ne (o.ne hp)];exact e⟩,by rw [mask_new hp];exact o.tp.scr,o.tp.dig⟩,o.bq⟩
theorem OkC.aside (o:OkC K B p0 H ps σT σ T n) {q:Addr} {u:HO} (hq:q∈ps) (hB:B q=none) (hn:noOwn σT) (ne:T.p≠q):OkC K B p0 (upd H q u) ps σT σ T n :=
 ⟨o.ok.aside hq hB hn,o.mem,o.nb,⟨let ⟨l,e⟩:=o.tp.obj;⟨l,by rw [upd_ne ne];exact e⟩,by rw [mask_upd hq];exact o.tp.scr,o.tp.dig⟩,o.bq⟩
theorem OkC.blk (o:OkC K B p0 H ps σT σ T n) (fr:List (Option Nat)):OkC K B p0 H ps (inBlkT fr σT) (inBlk fr σ) T n:=⟨o.ok.blk fr,o.mem,o.nb,o.tp,o.bq⟩
theorem OkC.with (o:OkC K B p0 H ps σT σ T n) {σT':List Sl} {σ':L2.St} (o':Ok K B p0 H ps σT' σ'):OkC K B p0 H ps σT' σ' T n:=⟨o',o.mem,o.nb,o.tp,o.bq⟩
end
section
variable {X:Cx} {a b e:Expr} {es:List Expr} {ta tb te:EC} {pos:Pos}
def cLc (fr:List (Option Nat)) (ti:IT) (g:GT) (te:EC):EC:=fun τ n σ Q=>ti σ fun ts=>ts.length<=100000/\∃ P:Nat->Nat->List Sl->List D->Prop,P 0 n (inBlkT fr σ) [] /\
 (∀ (k m:Nat) (x:D) (σ':List Sl) (ds:List D),ts[k]?=some x->P k m σ' ds->g x σ' fun σ2=>te τ m σ2 fun m' y=>P (k+1) m' σ2 (ds++[y]))/\∀ m σ' ds,P ts.length m σ' ds->Q m (.list ds)
theorem lcc_read {fr:List (Option Nat)} {ti:IT} {g:GT} {te:EC} {wi:TI} {gv:BP->TG} {vt:BP->TT} {ve:BP->TE}
  (ri:∀ (B:Hp) (p0:List Addr) (H:Hp) (ps:List Addr) (σT:List Sl) (σ:L2.St) (Q:List D->Prop) (R:It->Hp->Prop),Ok X.K B p0 H ps σT σ->ti σT Q->(∀ ts J H',Same H H'->Runs X.K (mask H' ps) ts J->Q ts->R J H')->wi σ H R)
  (rg:∀ (bp:BP) (B:Hp) (p0:List Addr) (H:Hp) (ps:List Addr) (σT:List Sl) (σ:L2.St) (d:D) (v:V) (Q:List Sl->Prop) (QV:L2.St->Hp->Prop),Ok X.K B p0 H ps σT σ->Rep X.K (mask H ps) d v->g d σT Q->(∀ σT' σ',Ok X.K B p0 H ps σT' σ'->(noOwn σT->noOwn σT')->Q σT'->QV σ' H)->gv bp v σ H QV)
  (rt:∀ (bp:BP) (B:Hp) (p0:List Addr) (H:Hp) (ps:List Addr) (σT:List Sl) (σ:L2.St) (Q:Bool->Prop) (QV:Bool->Hp->Prop),Ok X.K B p0 H ps σT σ->cTrue σT Q->(∀ b H',Same H H'->Q b->QV b H')->vt bp σ H QV)
  (re:∀ (bp:BP) (B:Hp) (p0:List Addr) (H:Hp) (ps:List Addr) (σT:List Sl) (σ:L2.St) (T:Tape) (n:Nat) (Q:Nat->D->Prop) (QV:VK),OkC X.K B p0 H ps σT σ T n->te (tpD T) n σT Q->(∀ n' d v H',SameX T.p H H'->TpAt X.K H' ps T n'->Rep X.K (mask H' ps) d v->Q n' d->QV v H')->ve bp σ H QV)
  (B:Hp) (p0:List Addr) (H:Hp) (ps:List Addr) (σT:List Sl) (σ:L2.St) (T:Tape) (n:Nat) (Q:Nat->D->Prop) (QV:VK) (o:OkC X.K B p0 H ps σT σ T n) (h:cLc fr ti g te (tpD T) n σT Q) (k:∀ n' d v H',SameX T.p H H'->TpAt X.K H' ps T n'->Rep X.K (mask H' ps) d v->Q n' d->QV v H'):tLc fr wi gv vt ve σ H QV:=by
 refine ri B p0 H ps σT σ _ _ o.ok h fun ts J H1 s1 rj q1=>?_
 obtain ⟨hz,P,h0,hs,hd⟩:=q1
 intro bp acc hacc
 have o1:=o.grow s1
 have hBacc:B acc=none:=Same.free' o1.ok.base hacc
 have hnps:acc∉ps:=fresh_notin o1.ok.live hacc
 have hne:=o1.ne hacc
 refine ⟨fun i m σ' H'=>m=ts.length-i/\i<=ts.length/\∃ c σT' ds ys,OkC X.K B p0 H' (acc::ps) σT' σ' T c/\noOwn σT'/\H' acc=some (.lst ys)/\ds.length<=i/\Reps X.K (mask H' (acc::ps)) ds ys/\Same (mask H1 ps) (mask H' (acc::ps))/\SameX T.p H1 H'/\P i c σT' ds,
  ⟨_,rfl,Nat.zero_le _,n,inBlkT fr σT,[],[],(o1.blk fr).adopt hacc,noOwn_blk fr σT,upd_same,Nat.le_refl _,.nil,by rw [mask_new hacc];exact L2.Same.refl _,.of (same_new hacc),h0⟩,?_⟩
 rintro i m σ' H' ⟨rfl,hle,c,σT',ds,ys,o',n',ha,hl,hr,s',sF,p'⟩
 have hL:sizeLine=2 ^ 24:=rfl
 by_cases hlt:i<ts.length
 ·refine .inr ⟨rj.go i H' (s'.trans mask_le) hlt,fun y H2 hy=>?_⟩
  obtain ⟨s2,dx,hx,rx⟩:=rj.yld i H' (acc::ps) y H2 o'.ok.live s' hlt hy
  have o2:=o'.grow s2
  refine rg bp B p0 H2 (acc::ps) σT' σ' dx y _ _ o2.ok rx (hs i c dx σT' ds hx p') fun σT3 σ3 o3 n3 q3=>?_
  refine rt bp B p0 H2 (acc::ps) σT3 σ3 (fun b=>b=true) _ o3 rfl fun b H4 s4 q4=>?_
  subst q4
  have o4:=(o2.with o3).grow s4
  have s24:=s2.trans s4
  refine re bp B p0 H4 (acc::ps) σT3 σ3 T c _ _ o4 q3 fun c5 d v H5 s5 t5 r5 q5=>?_
  have o5:=o4.growX s5 t5
  have m5:Same (mask H' (acc::ps)) (mask H5 (acc::ps)):=(mask_same s24).trans (s5.mask o4.mem')
  have hm:mask (upd H5 acc (.lst (ys++[v]))) (acc::ps)=mask H5 (acc::ps):=mask_upd (List.mem_cons_self ..)
  refine ⟨ys,s5 _ _ (fun z=>hne z.symm) (s24 _ _ ha),by rw [<- hr.length];omega,ts.length-(i+1),by omega,rfl,hlt,c5,σT3,ds++[d],ys++[v],o5.aside (List.mem_cons_self ..) hBacc (n3 n') hne,n3 n',upd_same,by rw [List.length_append,List.length_singleton];omega,?_,?_,?_,q5⟩
  ·rw [hm];exact (hr.same m5).append (.cons r5 .nil)
  ·rw [hm];exact s'.trans m5
  ·intro b u nb e
   have ne:b≠acc:=fun z=>by rw [z,hacc] at e;cases e
   rw [upd_ne ne]
   exact s5 b u nb (s24 b u (sF b u nb e))
 ·obtain rfl:i=ts.length:=by omega
  exact .inl ⟨rj.stop _ H' (s'.trans mask_le) (Nat.le_refl _),k c (.list ds) _ H' ((SameX.of s1).trans sF) ⟨o'.tp.obj,L2.Same.seq (mask_sub fun p hp=>List.mem_cons_of_mem _ hp) o'.tp.scr,o'.tp.dig⟩ (.list (SqL.of (mask_at hnps ha)) (hr.same (mask_sub fun p hp=>List.mem_cons_of_mem _ hp))) (hd c σT' ds p')⟩
theorem lcc_all {elt iter tg:Expr} {scope:Scope} {fr:List (Option Nat)} {N':List Str} {ti:IT} {g:GT} {te:EC} (hi:PIt X tg iter ti)
  (hY:∀ b:BP,PGt (blk X scope N' b) tg g/\PIft (blk X scope N' b) [] cTrue/\PEc (blk X scope N' b) elt te) {M:(TE)->Prop}
  (fin:∀ {wi:TI} {gv:BP->TG} {vt:BP->TT} {ve:BP->TE},PI X tg iter wi->(∀ b:BP,PG (blk X scope N' b) tg (gv b)/\PIf (blk X scope N' b) [] (vt b)/\PE (blk X scope N' b) elt (ve b))->M (tLc fr wi gv vt ve)) :
  ∃ v:TE,M v/\∀ (B:Hp) (p0:List Addr) (H:Hp) (ps:List Addr) (σT:List Sl) (σ:L2.St) (T:Tape) (n:Nat) (Q:Nat->D->Prop) (QV:VK),OkC X.K B p0 H ps σT σ T n->cLc fr ti g te (tpD T) n σT Q ->
   (∀ n' d v H',SameX T.p H H'->TpAt X.K H' ps T n'->Rep X.K (mask H' ps) d v->Q n' d->QV v H')->v σ H QV:=by
 obtain ⟨wi,pi,ri⟩:=hi
 refine ⟨_,fin (gv:=fun b=>Classical.choose (hY b).1) (vt:=fun b=>Classical.choose (hY b).2.1) (ve:=fun b=>Classical.choose (hY b).2.2) pi fun b=>⟨(Classical.choose_spec (hY b).1).1,(Classical.choose_spec (hY b).2.1).1,(Classical.choose_spec (hY b).2.2).1⟩,?_⟩
 exact lcc_read ri (fun b=>(Classical.choose_spec (hY b).1).2) (fun b=>(Classical.choose_spec (hY b).2.1).2) fun b=>(Classical.choose_spec (hY b).2.2).2
theorem ec_lc {elt iter tg:Expr} {scope:Scope} {fr:List (Option Nat)} {N':List Str} {ti:IT} {g:GT} {te:EC} (hi:PIt X tg iter ti)
  (hY:∀ b:BP,PGt (blk X scope N' b) tg g/\PIft (blk X scope N' b) [] cTrue/\PEc (blk X scope N' b) elt te)
  (pl:∀ {wi:TI} {gv:BP->TG} {vt:BP->TT} {ve:BP->TE},PI X tg iter wi->(∀ b:BP,PG (blk X scope N' b) tg (gv b)/\PIf (blk X scope N' b) [] (vt b)/\PE (blk X scope N' b) elt (ve b))->PE X (.ListComp elt [⟨tg,iter,[],0⟩] scope pos) (tLc fr wi gv vt ve)) :
  PEc X (.ListComp elt [⟨tg,iter,[],0⟩] scope pos) (cLc fr ti g te):=lcc_all hi hY pl
end
structure EndsC where
 nx:Nat->List Sl->Prop
 rt:Nat->D->Prop
 bk:Nat->List Sl->Prop:=fun _ _=>False
 ct:Nat->List Sl->Prop:=fun _ _=>False
abbrev STC:=D->EndsC->Nat->List Sl->Prop
structure FitsC (K:PySem.W.Frag) (B:Hp) (p0:List Addr) (H:Hp) (ps:List Addr) (T:Tape) (DC:EndsC) (DV:Ends):Prop where
 nx:∀ H' ps' σT' σ' n',OkC K B p0 H' ps' σT' σ' T n'->Same (mask H ps) (mask H' ps')->DC.nx n' σT'->DV.nx σ' H'
 bk:∀ H' ps' σT' σ' n',OkC K B p0 H' ps' σT' σ' T n'->Same (mask H ps) (mask H' ps')->DC.bk n' σT'->DV.bk σ' H'
 ct:∀ H' ps' σT' σ' n',OkC K B p0 H' ps' σT' σ' T n'->Same (mask H ps) (mask H' ps')->DC.ct n' σT'->DV.ct σ' H'
 rt:∀ n' d v H',Same B H'->TpAt K H' p0 T n'->Rep K (mask H' p0) d v->DC.rt n' d->DV.rt v H'
def PSc (X:Cx) (st:Stmt) (t:STC):Prop:=∃ ts:TS,PS X st ts/\∀ (B:Hp) (p0:List Addr) (H:Hp) (ps:List Addr) (σT:List Sl) (σ:L2.St) (T:Tape) (n:Nat) (DC:EndsC) (DV:Ends),OkC X.K B p0 H ps σT σ T n->t (tpD T) DC n σT->FitsC X.K B p0 H ps T DC DV->ts DV σ H
def PSsc (X:Cx) (st:List Stmt) (t:STC):Prop:=∃ ts:TS,PSs X st ts/\∀ (B:Hp) (p0:List Addr) (H:Hp) (ps:List Addr) (σT:List Sl) (σ:L2.St) (T:Tape) (n:Nat) (DC:EndsC) (DV:Ends),OkC X.K B p0 H ps σT σ T n->t (tpD T) DC n σT->FitsC X.K B p0 H ps T DC DV->ts DV σ H
section
variable {K:PySem.W.Frag} {H H' H1 H2 B:Hp} {p0 ps:List Addr} {σT:List Sl} {σ:L2.St} {T:Tape} {n n':Nat}
theorem FitsC.later {DC:EndsC} {DV:Ends} {ps':List Addr} (f:FitsC K B p0 H ps T DC DV) (e:Same (mask H ps) (mask H' ps')):FitsC K B p0 H' ps' T DC DV :=
 ⟨fun _ _ _ _ _ o s q=>f.nx _ _ _ _ _ o (e.trans s) q,fun _ _ _ _ _ o s q=>f.bk _ _ _ _ _ o (e.trans s) q,fun _ _ _ _ _ o s q=>f.ct _ _ _ _ _ o (e.trans s) q,f.rt⟩
theorem OkC.up (o:OkC K B p0 H ps σT σ T n) {l:Int} (hl:H T.p=some (tapH T n l)):Ok K (upd B T.p (tapH T n l)) p0 H ps σT σ where
 base:=fun a u e=>by
  by_cases z:a=T.p
  ·subst z
   rw [upd_same] at e
   cases e
   exact hl
  ·rw [upd_ne z] at e
   exact o.ok.base a u e
 sub:=o.ok.sub
 live:=o.ok.live
 len:=o.ok.len
 val:=o.ok.val
 own:=fun i ts h=>let ⟨q,xs,h1,h2,h3,h4,h5,h6⟩:=o.ok.own i ts h;⟨q,xs,h1,h2,by rw [upd_ne (fun z:q=T.p=>h4 (z▸o.mem))];exact h3,h4,h5,h6⟩
 dis:=o.ok.dis
 dc:=o.ok.dc.to (fun j hs kvs h=>⟨h,rfl⟩) (fun q φ a b _=>⟨a,rfl⟩) (fun q φ _ _ a b=>⟨by rw [upd_ne (fun z:q=T.p=>b (z▸o.mem))];exact a,b⟩) (L2.Same.refl _)
theorem OkC.down (o:OkC K B p0 H ps σT σ T n) {l:Int} {ps':List Addr} {σT':List Sl} {σ':L2.St} (o':Ok K (upd B T.p (tapH T n l)) p0 H' ps' σT' σ') (s:Same (mask H ps) (mask H' ps')):OkC K B p0 H' ps' σT' σ' T n where
 ok:=⟨(same_new o.nb).trans o'.base,o'.sub,o'.live,o'.len,o'.val,fun i ts h=>let ⟨q,xs,h1,h2,h3,h4,h5,h6⟩:=o'.own i ts h;⟨q,xs,h1,h2,Same.free' (same_new o.nb) h3,h4,h5,h6⟩,o'.dis,o'.dc.to (fun j hs kvs h=>⟨h,rfl⟩) (fun q φ a b _=>⟨a,rfl⟩) (fun q φ _ _ a b=>⟨Same.free' (same_new o.nb) a,b⟩) (L2.Same.refl _)⟩
 mem:=o.mem
 nb:=o.nb
 tp:=⟨⟨l,o'.base _ _ upd_same⟩,L2.Same.seq s o.tp.scr,o.tp.dig⟩
 bq:=o.bq
theorem fits_up {DC:EndsC} {DV:Ends} (o:OkC K B p0 H ps σT σ T n) {l:Int} (f:FitsC K B p0 H ps T DC DV):Fits K (upd B T.p (tapH T n l)) p0 H ps { nx:=DC.nx n,rt:=DC.rt n,bk:=DC.bk n,ct:=DC.ct n } DV :=
 ⟨fun H' ps' σT' σ' o' s' q'=>f.nx H' ps' σT' σ' n (o.down o' s') s' q',fun H' ps' σT' σ' o' s' q'=>f.bk H' ps' σT' σ' n (o.down o' s') s' q',fun H' ps' σT' σ' o' s' q'=>f.ct H' ps' σT' σ' n (o.down o' s') s' q',
  fun d v H' s' r' q'=>f.rt n d v H' ((same_new o.nb).trans s') ⟨⟨l,s' _ _ upd_same⟩,L2.Same.seq (mask_same ((same_new o.nb).trans s')) o.bq,o.tp.dig⟩ r' q',
  fun _ _ _ _ _ _ _ _ _ q'=>q'.elim,fun _ _ _ _ _ _ _ _ _ _ _ _ _ _ _ _ _ _ q'=>q'.elim,fun _ _ _ _ _ _ _ _ _ _ _ _ _ _ q'=>q'.elim,True.intro⟩
end
section
variable {X:Cx} {a b c e:Expr} {es:List Expr} {te:EC} {pos:Pos} {st:Stmt} {rest:List Stmt} {t u:STC}
def sP (t:STt):STC:=fun _ DC n σ=>t { nx:=DC.nx n,rt:=DC.rt n,bk:=DC.bk n,ct:=DC.ct n } σ
theorem sc_p {t:STt} (h:PSt X st t):PSc X st (sP t):=by
 obtain ⟨ts,p,r⟩:=h
 refine ⟨ts,p,fun B p0 H ps σT σ T n DC DV o h f=>?_⟩
 obtain ⟨l,hl⟩:=o.tp.obj
 exact r _ p0 H ps σT σ _ DV (o.up hl) h (fits_up o f)
def cNext:STC:=fun _ DC n σ=>DC.nx n σ
def cSeq (t u:STC):STC:=fun τ DC n σ=>t τ { DC with nx:=u τ DC } n σ
theorem sc_nil:PSsc X [] cNext:=⟨_,pss_nil,fun B p0 H ps σT σ T n DC DV o h f=>f.nx H ps σT σ n o (L2.Same.refl _) h⟩
theorem sc_cons (h1:PSc X st t) (h2:PSsc X rest u):PSsc X (st::rest) (cSeq t u):=by
 obtain ⟨v1,p1,r1⟩:=h1
 obtain ⟨v2,p2,r2⟩:=h2
 refine ⟨_,pss_cons p1 p2,fun B p0 H ps σT σ T n DC DV o h f=>r1 B p0 H ps σT σ T n { DC with nx:=u (tpD T) DC } { DV with nx:=v2 DV } o h ⟨fun H' ps' σT' σ' n' o' s' q'=>?_,f.bk,f.ct,f.rt⟩⟩
 exact r2 B p0 H' ps' σT' σ' T n' DC DV o' q' (f.later s')
theorem sc_one (h1:PSc X st t):PSsc X [st] t:=by
 obtain ⟨v1,p1,r1⟩:=h1
 exact ⟨_,pss_one p1,r1⟩
def cShare (i:Nat) (t:STC):STC:=fun τ DC n σ=>∃ ts,σ[i]?=some (.own ts)/\t τ DC n (σ.set i (.val (.list ts)))
theorem sc_share {sts:List Stmt} (i:Nat) (h:PSsc X sts t):PSsc X sts (cShare i t):=by
 obtain ⟨v,p,r⟩:=h
 refine ⟨_,p,fun B p0 H ps σT σ T n DC DV o h f=>?_⟩
 obtain ⟨ts,e,h⟩:=h
 obtain ⟨ps',o',s'⟩:=o.ok.share e
 exact r B p0 H ps' _ σ T n DC DV ⟨o',o.mem,o.nb,⟨o.tp.obj,L2.Same.seq s' o.tp.scr,o.tp.dig⟩,o.bq⟩ h (f.later s')
def cRet (te:EC):STC:=fun τ DC n σ=>te τ n σ DC.rt
theorem sc_ret (h:PEc X e te):PSc X (.Return (some e) pos) (cRet te):=by
 obtain ⟨v,p,r⟩:=h
 refine ⟨_,ps_ret p,fun B p0 H ps σT σ T n DC DV o h f=>r B p0 H ps σT σ T n _ _ o h fun n' d x H' s' t' r' q'=>?_⟩
 have o':=o.growX s' t'
 exact f.rt n' d x H' o'.ok.base ⟨t'.obj,L2.Same.seq (mask_same o'.ok.base) o.bq,t'.dig⟩ (r'.same (mask_sub o.ok.sub)) q'
def cIf (c:TC) (t u:STC):STC:=fun τ DC n σ=>c τ n σ fun n1 b=>if b=true then t τ DC n1 σ else u τ DC n1 σ
theorem sc_if {c:Expr} {a b:List Stmt} {tc:TC} (hc:PTc X c tc) (ha:PSsc X a t) (hb:PSsc X b u):PSc X (.If c a b pos) (cIf tc t u):=by
 obtain ⟨vc,pc,rc⟩:=hc
 obtain ⟨va,pa,ra⟩:=ha
 obtain ⟨vb,pb,rb⟩:=hb
 refine ⟨_,ps_if pc pa pb,fun B p0 H ps σT σ T n DC DV o h f=>rc B p0 H ps σT σ T n _ _ o h fun n1 d H1 s1 t1 q1=>?_⟩
 have o1:=o.growX s1 t1
 have f1:=f.later (s1.mask o.mem')
 cases d with
 | true=>exact ra B p0 H1 ps σT σ T n1 DC DV o1 q1 f1
 | false=>exact rb B p0 H1 ps σT σ T n1 DC DV o1 q1 f1
def cSet (i:Nat) (te:EC):STC:=fun τ DC n σ=>te τ n σ fun n1 d=>DC.nx n1 (σ.set i (.val d))
theorem sc_set {i:Nat} {x:Str} {pos':Pos} (h:PEc X e te) (ps':∀ {v:TE},PE X e v->PS X (.Assign [.Name x pos'] e pos) (tAsg v (gName i))):PSc X (.Assign [.Name x pos'] e pos) (cSet i te):=by
 obtain ⟨v,p,r⟩:=h
 refine ⟨_,ps' p,fun B p0 H ps σT σ T n DC DV o h f=>r B p0 H ps σT σ T n _ _ o h fun n' d x H' s' t' r' q'=>?_⟩
 exact f.nx H' ps _ _ n' ((o.growX s' t').set r') (s'.mask o.mem') q'
def cUnp (te:EC) (g:GT):STC:=fun τ DC n σ=>te τ n σ fun n1 d=>g d σ (DC.nx n1)
theorem sc_unp {tg:Expr} {g:GT} (he:PEc X e te) (hg:PGt X tg g) (pa:∀ {v:TE} {gv:TG},PE X e v->PG X tg gv->PS X (.Assign [tg] e pos) (tAsg v gv)):PSc X (.Assign [tg] e pos) (cUnp te g):=by
 obtain ⟨v,pe,re⟩:=he
 obtain ⟨gv,pg,rg⟩:=hg
 refine ⟨_,pa pe pg,fun B p0 H ps σT σ T n DC DV o h f=>re B p0 H ps σT σ T n _ _ o h fun n1 d x H1 s1 t1 r1 q1=>?_⟩
 have o1:=o.growX s1 t1
 exact rg B p0 H1 ps σT σ d x _ _ o1.ok r1 q1 fun σT' σ' o' _ q'=>f.nx H1 ps _ _ n1 (o1.with o') (s1.mask o.mem') q'
theorem OkC.write {K:PySem.W.Frag} {B:Hp} {p0:List Addr} {H:Hp} {ps:List Addr} {σT:List Sl} {σ:L2.St} {T:Tape} {n:Nat} (o:OkC K B p0 H ps σT σ T n) {i:Nat} {ts us:List D} {ys:List V} {p:Addr} (hi:σT[i]?=some (.own ts)) (hσ:σ[i]?=some (some (.ref p))) (r:Reps K (mask H ps) us ys) :
  OkC K B p0 (upd H p (.lst ys)) ps (σT.set i (.own us)) σ T n:=by
 obtain ⟨q,xs,h1,h2,h3,h4,h5,h6⟩:=o.ok.own i ts hi
 rw [hσ] at h1
 cases h1
 have ne:T.p≠p:=fun z=>h4 (z▸o.mem)
 exact ⟨o.ok.write hi hσ r,o.mem,o.nb,⟨let ⟨l,e⟩:=o.tp.obj;⟨l,by rw [upd_ne ne];exact e⟩,by rw [mask_upd h2];exact o.tp.scr,o.tp.dig⟩,o.bq⟩
def cFor (ti:IT) (g:GT) (tb:STC):STC:=fun τ DC n σ=>ti σ fun ts=>∃ P:Nat->Nat->List Sl->Prop,P 0 n σ /\
 (∀ (k m:Nat) (x:D) (σ':List Sl),ts[k]?=some x->P k m σ'->g x σ' fun σ2=>tb τ { DC with nx:=P (k+1),ct:=P (k+1),bk:=DC.nx } m σ2)/\∀ m σ',P ts.length m σ'->DC.nx m σ'
theorem sc_for {tg iter:Expr} {body:List Stmt} {g:GT} {tb:STC} {ti:IT} (he:PIt X tg iter ti) (hg:PGt X tg g) (hb:PSsc X body tb)
  (pf:∀ {wi:TI} {gv:TG} {bv:TS},PI X tg iter wi->PG X tg gv->PSs X body bv->PS X (.For tg iter body [] pos) (tFor wi gv bv)):PSc X (.For tg iter body [] pos) (cFor ti g tb):=by
 obtain ⟨ve,pe,re⟩:=he
 obtain ⟨gv,pg,rg⟩:=hg
 obtain ⟨vb,pb,rb⟩:=hb
 refine ⟨_,pf pe pg pb,fun B p0 H ps σT σ T n DC DV o h f=>re B p0 H ps σT σ _ _ o.ok h fun ts J H1 s1 rj q1=>?_⟩
 obtain ⟨P,h0,hs,hd⟩:=q1
 refine ⟨fun i m σ' H'=>m=ts.length-i/\i<=ts.length/\∃ c ps' σT',OkC X.K B p0 H' ps' σT' σ' T c/\Same (mask H1 ps) (mask H' ps')/\P i c σT',⟨_,rfl,Nat.zero_le _,n,ps,σT,o.grow s1,L2.Same.refl _,h0⟩,?_⟩
 rintro i m σ' H' ⟨rfl,hle,c,ps',σT',o',s',p'⟩
 have sH:Same (mask H1 ps) H':=s'.trans mask_le
 have f':FitsC X.K B p0 H' ps' T DC DV:=f.later ((mask_same s1).trans s')
 by_cases hlt:i<ts.length
 ·refine .inr ⟨rj.go i H' sH hlt,fun σ2 H2=>∃ c2 ps2 σT2,OkC X.K B p0 H2 ps2 σT2 σ2 T c2/\Same (mask H1 ps) (mask H2 ps2)/\P (i+1) c2 σT2,fun σ2 H2 z=>⟨ts.length-(i+1),by omega,rfl,hlt,z⟩,fun y H2 hy'=>?_⟩
  obtain ⟨s2,dx,hx,rx⟩:=rj.yld i H' ps' y H2 o'.ok.live s' hlt hy'
  have f2:=f'.later (mask_same (ps:=ps') s2)
  have s'':Same (mask H1 ps) (mask H2 ps'):=s'.trans (mask_same s2)
  have o2:=o'.grow s2
  refine rg B p0 H2 ps' σT' σ' dx y _ _ o2.ok rx (hs i c dx σT' hx p') fun σT3 σ3 o3 _ q3=>?_
  exact rb B p0 H2 ps' σT3 σ3 T c _ _ (o2.with o3) q3 ⟨fun H4 ps4 σT4 σ4 c4 o4 s4 q4=>⟨c4,ps4,σT4,o4,s''.trans s4,q4⟩,fun H4 ps4 σT4 σ4 c4 o4 s4 q4=>f2.nx H4 ps4 σT4 σ4 c4 o4 s4 q4,fun H4 ps4 σT4 σ4 c4 o4 s4 q4=>⟨c4,ps4,σT4,o4,s''.trans s4,q4⟩,f2.rt⟩
 ·obtain rfl:i=ts.length:=by omega
  exact .inl ⟨rj.stop _ H' sH (Nat.le_refl _),f'.nx H' ps' σT' σ' c o' (L2.Same.refl _) (hd c σT' p')⟩
theorem ec_ixOwn {i:Nat} {m b:Expr} {tb:EC} (hn:PE X m (tVar i)) (hb:PEc X b tb) (hs:PlainIx b:=by intro _ _;rfl):PEc X (.Subscript m b pos) (cIxOwn i tb):=by
 obtain ⟨vb,pb,rb⟩:=hb
 refine ⟨_,pe_ix ix_seq hn pb hs,fun B p0 H ps σT σ T n Q QV o h k=>?_⟩
 obtain ⟨ts,e,h⟩:=h
 obtain ⟨q,xs,h1,h2,h3,h4,h5,h6⟩:=o.ok.own i ts e
 refine ⟨.ref q,h1,rb B p0 H ps σT σ T n _ _ o h fun n1 d y H1 s1 t1 r1 q1=>?_⟩
 obtain ⟨j,d',rfl,hj,q1⟩:=q1
 have ne:q≠T.p:=fun z=>h4 (z▸o.mem)
 cases r1
 obtain ⟨v,hv,rv⟩:=h6.atI hj
 exact .inl ⟨q,xs,j,v,rfl,rfl,SqL.of (s1 _ _ ne h5),hv,k n1 d' v H1 s1 t1 (rv.same (s1.mask o.mem')) q1⟩
theorem fnC {P:Program} {w:World} {mg:Str->Option Value} {base:Heap} {K:PySem.W.Frag} {x qual:Str} {st:Stmt} {f:Addr} {fd:FuncData} {N pn:List Str} {k:Nat} {sp:SpC} (F:Fun K x qual st f fd) (S:FnScope N pn (defScope st)) (len:∀ τ n ds Q,sp τ n ds Q->ds.length+1=pn.length)
  (hbody:∀ (cdv:Value) (A:Around) (outer:List Env) (s:Shared) (H:Hp) (E:XK),Room k (A.deeper (envOfC qual (defScope st) s.heap.objs.size f cdv))->∀ (Tp:Tape) (n:Nat) (ds:List D) (Q:Nat->D->Prop),(Tp.b=true->0<Tp.ns.length)->sp (tpD Tp) n ds Q ->
   ∃ t,PSsc (cxOf CX0 P w K mg base N qual (defScope st) f cdv A outer s H E).nox (defBody st) t/\t (tpD Tp) { nx:=fun n _=>Q n .none,rt:=Q } n (startT N (tpD Tp::ds))):FnOk P w K mg base CX0 (k+1) f fd pn (liftSpC K sp):=by
 refine F.ok S (fun vs H Q E h=>?_) fun cdv A outer s H vs Q E hr h=>?_
 ·obtain ⟨ps,T,n,ds,QD,_,_,_,r,q,_⟩:=h
  rw [<- r.length];exact len _ _ ds QD q
 ·obtain ⟨ps,T,n,ds,QD,live,hp,tp,r,q,k⟩:=h
  obtain ⟨t,⟨ts,p,rd⟩,h⟩:=hbody cdv A outer s H E hr T n ds QD tp.dig q
  have o:=ok_start (N:=N) live r
  have hno:∀ (i:Nat) (us:List D),(startT N (tpD T::ds))[i]?≠some (.own us):=fun i us e=>by
   obtain ⟨q,_,_,_,hB,_,hH,_⟩:=o.own i us e
   rw [hB] at hH;cases hH
  have sW:Same (without H T.p) H:=fun a u e=>by
   unfold without at e
   split at e
   ·cases e
   ·exact e
  have hx:∀ {H':Hp},Same (without H T.p) H'->SameX T.p H H':=fun s a u ne e=>s a u (by unfold without;rw [if_neg ne];exact e)
  have o2:Ok K (without H T.p) ps H ps (startT N (tpD T::ds)) (L2.start N vs):=⟨sW,o.sub,o.live,o.len,o.val,fun i us e=>absurd e (hno i us),o.dis,fun i hs kvs e=>by
   obtain ⟨⟨q,es,_,_,hB,_,hH,_⟩,_⟩:=o.dc i hs kvs e
   rw [hB] at hH;cases hH⟩
  have hm:mask (without H T.p) ps=mask H ps:=by
   funext a
   unfold mask without
   by_cases z:a∈ps
   ·rw [if_pos z,if_pos z]
   ·rw [if_neg z,if_neg z,if_neg (fun e:a=T.p=>z (e▸hp))]
  have o3:OkC K (without H T.p) ps H ps (startT N (tpD T::ds)) (L2.start N vs) T n:=⟨o2,hp,by unfold without;rw [if_pos rfl],tp,by rw [hm];exact tp.scr⟩
  refine ⟨ts,p,rd _ ps H ps _ _ T n _ _ o3 h ⟨fun H' ps' σT' σ' n' o' s' q'=>?_,fun _ _ _ _ _ _ _ q'=>q'.elim,fun _ _ _ _ _ _ _ q'=>q'.elim,fun n' d v H' s' t' r' q'=>k n' d v H' (hx s') t' r' q'⟩⟩
  exact k n' _ _ H' (hx o'.ok.base) ⟨o'.tp.obj,L2.Same.seq (mask_sub o'.ok.sub) o'.tp.scr,o'.tp.dig⟩ .none q'
end
end TL

namespace TL
open PySem PySem.Spec PyProof.Rows L2
def kS:Key:=.inr "script"
def kA:Key:=.inr "at"
def kL:Key:=.inr "left"
def kD:Key:=.inr "digits"
theorem kSA:¬ kS=kA:=by decide +kernel
theorem kSL:¬ kS=kL:=by decide +kernel
theorem kSD:¬ kS=kD:=by decide +kernel
theorem kAL:¬ kA=kL:=by decide +kernel
theorem kAD:¬ kA=kD:=by decide +kernel
theorem kLD:¬ kL=kD:=by decide +kernel
def tapL (T:Tape) (n:Nat) (l:Int):List (Key×V):=[(kS,.ref T.q),(kA,.int n),(kL,.int l),(kD,.bl T.b)]
section
variable {T:Tape} {n:Nat} {l:Int}
theorem get_S:valV (tapL T n l) kS=some (.ref T.q):=valV_pos rfl
theorem get_A:valV (tapL T n l) kA=some (.int n):=by
 unfold tapL
 rw [valV_neg kSA];exact valV_pos rfl
theorem get_L:valV (tapL T n l) kL=some (.int l):=by
 unfold tapL
 rw [valV_neg kSL,valV_neg kAL];exact valV_pos rfl
theorem get_D:valV (tapL T n l) kD=some (.bl T.b):=by
 unfold tapL
 rw [valV_neg kSD,valV_neg kAD,valV_neg kLD];exact valV_pos rfl
theorem put_A (m:Nat):putK (tapL T n l) kA (.int m)=tapL T m l:=by
 unfold putK tapL
 have h1:=kSA
 have h2:¬ kL=kA:=fun z=>kAL z.symm
 have h3:¬ kD=kA:=fun z=>kAD z.symm
 simp [h1,h2,h3]
theorem put_L (m:Int):putK (tapL T n l) kL (.int m)=tapL T n m:=by
 unfold putK tapL
 have h1:=kSL
 have h2:=kAL
 have h3:¬ kD=kL:=fun z=>kLD z.symm
 simp [h1,h2,h3]
end
theorem reps_of_ints {K:PySem.W.Frag} {H:Hp}:∀ ns:List Int,Reps K H (ns.map PyData.int) (ns.map V.int)
 | []=>.nil
 | i::ns=>.cons (.int i) (reps_of_ints ns)
def scrD (τ:D):D:=match τ with | .dict [(_,.list [_,_,_,l])]=>l | _=>.none
def digD (τ:D):D:=match τ with | .dict [(_,.list [_,_,b,_])]=>b | _=>.none
section
variable {X:Cx} {pos:Pos} {m:Expr} {i:Nat} {kj:Nat}
theorem nosl_str {z:Str} {j:Nat} {p:Pos}:NoSl (.Constant (.str z) j p):=fun _ _=>rfl
def cGet (i:Nat) (Q':D->Nat->(Nat->D->Prop)->Prop):EC:=fun τ n σ Q=>σ[i]?=some (.val τ)/\Q' τ n Q
theorem tape_at {K:PySem.W.Frag} {B:Hp} {p0:List Addr} {H:Hp} {ps:List Addr} {σT:List Sl} {σ:L2.St} {T:Tape} {n:Nat} (o:OkC K B p0 H ps σT σ T n) (h:σT[i]?=some (.val (tpD T))):σ[i]?=some (some (.ref T.p)):=by
 obtain ⟨v,h1,h2⟩:=o.ok.val i _ h
 rw [h1,rep_tp_inv h2]
theorem ec_getS {k:Nat} {p2:Pos} (hr:Room k X.A) (hn:PE X m (tVar i)):PEc X (.Subscript m (.Constant (.str "script") kj p2) pos) (cGet i fun τ n Q=>Q n (scrD τ)):=by
 refine ⟨_,pe_dget (by have:=hr.un;omega) hn pe_str nosl_str,fun B p0 H ps σT σ T n Q QV o h k=>?_⟩
 obtain ⟨l,hl⟩:=o.tp.obj
 exact ⟨_,tape_at o h.1,T.p,_,rfl,by rw [<- get_S];exact DGet.k (k:=kS) hl,k n _ _ H .refl o.tp (.list o.tp.scr (reps_of_ints _)) h.2⟩
theorem ec_getA {k:Nat} {p2:Pos} (hr:Room k X.A) (hn:PE X m (tVar i)):PEc X (.Subscript m (.Constant (.str "at") kj p2) pos) (cGet i fun τ n Q=>Q n (.int n)):=by
 refine ⟨_,pe_dget (by have:=hr.un;omega) hn pe_str nosl_str,fun B p0 H ps σT σ T n Q QV o h k=>?_⟩
 obtain ⟨l,hl⟩:=o.tp.obj
 exact ⟨_,tape_at o h.1,T.p,_,rfl,by rw [<- get_A];exact DGet.k (k:=kA) hl,k n _ _ H .refl o.tp (.int _) h.2⟩
theorem ec_getL {k:Nat} {p2:Pos} (hr:Room k X.A) (hn:PE X m (tVar i)):PEc X (.Subscript m (.Constant (.str "left") kj p2) pos) (cGet i fun τ n Q=>∀ l:Int,Q n (.int l)):=by
 refine ⟨_,pe_dget (by have:=hr.un;omega) hn pe_str nosl_str,fun B p0 H ps σT σ T n Q QV o h k=>?_⟩
 obtain ⟨l,hl⟩:=o.tp.obj
 exact ⟨_,tape_at o h.1,T.p,_,rfl,by rw [<- get_L];exact DGet.k (k:=kL) hl,k n _ _ H .refl o.tp (.int _) (h.2 l)⟩
theorem ec_getD {k:Nat} {p2:Pos} (hr:Room k X.A) (hn:PE X m (tVar i)):PEc X (.Subscript m (.Constant (.str "digits") kj p2) pos) (cGet i fun τ n Q=>Q n (digD τ)):=by
 refine ⟨_,pe_dget (by have:=hr.un;omega) hn pe_str nosl_str,fun B p0 H ps σT σ T n Q QV o h k=>?_⟩
 obtain ⟨l,hl⟩:=o.tp.obj
 exact ⟨_,tape_at o h.1,T.p,_,rfl,by rw [<- get_D];exact DGet.k (k:=kD) hl,k n _ _ H .refl o.tp (.bool _) h.2⟩
theorem tc_val {e:Expr} {te:EC} (h:PEc X e te) (pt:∀ {t:TE},PE X e t->PT X e (tB t)):PTc X e (cVal te):=by
 obtain ⟨v,p,r⟩:=h
 refine ⟨_,pt p,fun B p0 H ps σT σ T n Q QV o h k=>r B p0 H ps σT σ T n _ _ o h fun n1 d x H1 s1 t1 r1 q1=>?_⟩
 cases r1 with
 | bool c=>exact ⟨c,rfl,k n1 c H1 s1 t1 q1⟩
 | _=>exact q1.elim
theorem SameX.put {H:Hp} {p:Addr} {u:HO}:SameX p H (upd H p u):=fun a o ne e=>by rw [upd_ne ne];exact e
def cPutA (i:Nat) (te:EC):STC:=fun τ DC n σ=>te τ n σ fun n1 d=>d=.int ((n1:Int)+1)/\σ[i]?=some (.val τ)/\DC.nx (n1+1) σ
theorem sc_putA {k:Nat} {p2 p3:Pos} {value:Expr} {te:EC} (hr:Room k X.A) (hn:PE X m (tVar i)) (hv:PEc X value te) (hs:swapsWith value (some (.Subscript m (.Constant (.str "at") kj p2) p3)) pos.line X.env=pure false:=by rfl) :
  PSc X (.Assign [.Subscript m (.Constant (.str "at") kj p2) p3] value pos) (cPutA i te):=by
 obtain ⟨v,p,r⟩:=hv
 refine ⟨_,ps_dput (by have:=hr.un;omega) hn pe_str p hs,fun B p0 H ps σT σ T n DC DV o h f=>r B p0 H ps σT σ T n _ _ o h fun n1 d x H1 s1 t1 r1 q1=>?_⟩
 obtain ⟨rfl,hi,q1⟩:=q1
 cases r1
 have o1:=o.growX s1 t1
 obtain ⟨l,hl⟩:=t1.obj
 refine ⟨_,tape_at o1 hi,T.p,_,rfl,DPut.k (k:=kA) (v:=.int (n1+1:Nat)) hl (by show 4<sizeLine;decide),?_⟩
 show DV.nx σ (upd H1 T.p (.dK (putK (tapL T n1 l) kA (.int (n1+1:Nat)))))
 rw [put_A]
 have t2:TpAt X.K (upd H1 T.p (tapH T (n1+1) l)) ps T (n1+1):=⟨⟨l,upd_same⟩,by rw [mask_upd o.mem'];exact t1.scr,t1.dig⟩
 exact f.nx _ ps σT σ (n1+1) (o1.growX .put t2) ((s1.trans .put).mask o.mem') q1
def cPutL (i:Nat) (te:EC):STC:=fun τ DC n σ=>te τ n σ fun n1 d=>(∃ l:Int,d=.int l)/\σ[i]?=some (.val τ)/\DC.nx n1 σ
theorem sc_putL {k:Nat} {p2 p3:Pos} {value:Expr} {te:EC} (hr:Room k X.A) (hn:PE X m (tVar i)) (hv:PEc X value te) (hs:swapsWith value (some (.Subscript m (.Constant (.str "left") kj p2) p3)) pos.line X.env=pure false:=by rfl) :
  PSc X (.Assign [.Subscript m (.Constant (.str "left") kj p2) p3] value pos) (cPutL i te):=by
 obtain ⟨v,p,r⟩:=hv
 refine ⟨_,ps_dput (by have:=hr.un;omega) hn pe_str p hs,fun B p0 H ps σT σ T n DC DV o h f=>r B p0 H ps σT σ T n _ _ o h fun n1 d x H1 s1 t1 r1 q1=>?_⟩
 obtain ⟨⟨l',rfl⟩,hi,q1⟩:=q1
 cases r1
 have o1:=o.growX s1 t1
 obtain ⟨l,hl⟩:=t1.obj
 refine ⟨_,tape_at o1 hi,T.p,_,rfl,DPut.k (k:=kL) (v:=.int l') hl (by show 4<sizeLine;decide),?_⟩
 show DV.nx σ (upd H1 T.p (.dK (putK (tapL T n1 l) kL (.int l'))))
 rw [put_L]
 have t2:TpAt X.K (upd H1 T.p (tapH T n1 l')) ps T n1:=⟨⟨l',upd_same⟩,by rw [mask_upd o.mem'];exact t1.scr,t1.dig⟩
 exact f.nx _ ps σT σ n1 (o1.growX .put t2) ((s1.trans .put).mask o.mem') q1
end
def spNew (K:PySem.W.Frag):Sp:=fun vs H Q _=>∃ (ps:List Addr) (ns:List Int) (v:V),(∀ p∈ps,H p≠none)/\vs=[v]/\Rep K (mask H ps) (.list (ns.map PyData.int)) v /\
 ∀ (T:Tape) H',T.ns=ns->Same H H'->H T.p=none->H' T.p=some (tapH T 0 0)->SqL K (mask H' ps) T.q (T.ns.map V.int)->(T.b=true->0<T.ns.length)->Q (.ref T.p) H'
abbrev liftSpN (K:PySem.W.Frag) (_:SpT):Sp:=spNew K
def sTape (i:Nat) (te:ET) (u:STC):STt:=fun DT σ=>te σ fun d=>∃ ns:List Int,d=.list (ns.map PyData.int)/\∀ T:Tape,T.ns=ns->(T.b=true->0<T.ns.length)->u (tpD T) { nx:=fun _ _=>False,rt:=fun _ d=>DT.rt d } 0 (σ.set i (.val (tpD T)))
theorem sq_notin {K:PySem.W.Frag} {H:Hp} {ps:List Addr} {q:Addr} {xs:List V} (h:SqL K (mask H ps) q xs):(q∉ps/\Rd H q (.lst xs))\/∀ H',SqL K H' q xs:=by
 rcases h with h | h
 ·refine .inl ⟨fun z=>?_,?_⟩
  ·rcases h with h | ⟨u,h⟩
   ·unfold mask at h;rw [if_pos z] at h;cases h
   ·unfold mask at h;rw [if_pos z] at h;cases h
  ·rcases h with h | ⟨u,h⟩
   ·exact .inl (mask_le _ _ h)
   ·exact .inr ⟨u,mask_le _ _ h⟩
 ·exact .inr fun _=>.inr h
theorem st_tape {X:Cx} {i k:Nat} {f:Addr} {fd:FuncData} {pn:List Str} {x y:Str} {p px pos cp:Pos} {e:Expr} {te:ET} {rest:List Stmt} {u:STC} (F:FnOk X.prog X.w X.K X.mg X.base CX0 k f fd pn (spNew X.K))
  (he:PEt X e te) (hs:starEach [e] X.env=(false,eval e X.env)::starEach [] X.env) (pc:∀ {ta:TA},PA X [e] ta->PS X (.Assign [.Name y px] (.Call (.Name x p) [e] [] cp) pos) (tAsg (tCall (spNew X.K) [] E0 ta) (gName i))) (hu:PSsc X rest u) :
  PSst X (.Assign [.Name y px] (.Call (.Name x p) [e] [] cp) pos::rest) (sTape i te u):=by
 obtain ⟨ve,pe,re⟩:=he
 obtain ⟨vu,pu,ru⟩:=hu
 refine ⟨_,pss_cons (pc (pa_cons pe pa_nil hs)) pu,fun B p0 H ps σT σ DT DV o h f=>?_⟩
 refine re B p0 H ps σT σ _ _ o h fun d v H1 s1 r1 q1=>?_
 obtain ⟨ns,rfl,q1⟩:=q1
 have o1:=o.grow s1
 refine ⟨ps,ns,v,o1.live,rfl,r1,fun T H2 hns s2 hp hH hq hd=>?_⟩
 subst hns
 have o2:=o1.grow s2
 have hB:B T.p=none:=Same.free' (o.base.trans s1) hp
 have hnp:T.p∉ps:=fresh_notin o1.live hp
 have hm:Same (mask H1 ps) (mask H2 (T.p::ps)):=fun a u e=>by
  unfold mask at e |-
  by_cases ha:a∈ps
  ·rw [if_pos ha] at e;cases e
  ·rw [if_neg ha] at e
   have ne:a≠T.p:=fun z=>by rw [z,hp] at e;cases e
   rw [if_neg fun z=>(List.mem_cons.mp z).elim ne ha]
   exact s2 a u e
 have hqn:(T.q∉T.p::ps/\Rd H2 T.q (.lst (T.ns.map V.int)))\/∀ H',SqL X.K H' T.q (T.ns.map V.int):=by
  rcases sq_notin hq with ⟨n1,h⟩ | h
  ·refine .inl ⟨fun z=>?_,h⟩
   rcases List.mem_cons.mp z with z | z
   ·rw [z] at h
    rcases h with h | ⟨u,h⟩
    ·rw [hH] at h;cases h
    ·rw [hH] at h;cases h
   ·exact n1 z
  ·exact .inr h
 have sB:Same B (fun a=>if a∈T.p::ps then B a else H2 a):=fun a u e=>by
  by_cases ha:a∈T.p::ps
  ·show (if a∈T.p::ps then B a else H2 a)=_;rw [if_pos ha];exact e
  ·show (if a∈T.p::ps then B a else H2 a)=_;rw [if_neg ha];exact o2.base a u e
 have sB1:Same (fun a=>if a∈T.p::ps then B a else H2 a) H2:=fun a u e=>by
  have e':(if a∈T.p::ps then B a else H2 a)=some u:=e
  by_cases ha:a∈T.p::ps
  ·rw [if_pos ha] at e';exact o2.base a u e'
  ·rw [if_neg ha] at e';exact e'
 generalize hBg:(fun a=>if a∈T.p::ps then B a else H2 a:Hp)=B' at sB sB1
 have hBn:∀ a,a∈T.p::ps->B' a=B a:=fun a ha=>by rw [<- hBg];exact if_pos ha
 have hBo:∀ a,a∉T.p::ps->B' a=H2 a:=fun a ha=>by rw [<- hBg];exact if_neg ha
 have oB:Ok X.K B' (T.p::p0) H2 (T.p::ps) σT σ:=by
  refine ⟨sB1,fun q hq=>?_,fun q hq=>?_,o.len,fun j d h=>?_,fun j ts h=>?_,o.dis,o1.dc.to (fun j hs kvs h=>⟨h,rfl⟩) (fun q φ a b _=>⟨List.mem_cons_of_mem _ a,(s2 _ _ b).trans b.symm⟩) (fun q φ a b c d=>⟨(hBn q (List.mem_cons_of_mem _ a)).trans c,fun z=>by
   rcases List.mem_cons.mp z with z | z
   ·rw [z,hp] at b;cases b
   ·exact d z⟩) hm⟩
  ·rcases List.mem_cons.mp hq with z | z
   ·exact z▸List.mem_cons_self ..
   ·exact List.mem_cons_of_mem _ (o.sub q z)
  ·rcases List.mem_cons.mp hq with z | z
   ·rw [z,hH];exact fun z=>nomatch z
   ·exact o2.live q z
  ·obtain ⟨v,h1,h2⟩:=o1.val j d h
   exact ⟨v,h1,h2.same hm⟩
  ·obtain ⟨q,xs,h1,h2,h3,h4,h5,h6⟩:=o1.own j ts h
   refine ⟨q,xs,h1,List.mem_cons_of_mem _ h2,(hBn q (List.mem_cons_of_mem _ h2)).trans h3,fun z=>?_,s2 _ _ h5,h6.same hm⟩
   rcases List.mem_cons.mp z with z | z
   ·rw [z,hp] at h5;cases h5
   ·exact h4 z
 have sq:∀ {H':Hp} {ps':List Addr},(∀ a,a∈ps'->a∈T.p::ps)->(∀ a,a∉T.p::ps->H' a=H2 a)->SqL X.K (mask H' ps') T.q (T.ns.map V.int):=fun {H' ps'} h1 h2=>by
  rcases hqn with ⟨n1,h⟩ | h
  ·have e:mask H' ps' T.q=H2 T.q:=by
    unfold mask
    rw [if_neg fun z=>n1 (h1 _ z),h2 _ n1]
   rcases h with h | ⟨u,h⟩
   ·exact .inl (.inl (e.trans h))
   ·exact .inl (.inr ⟨u,e.trans h⟩)
  ·exact h _
 have hbq:SqL X.K (mask B' (T.p::p0)) T.q (T.ns.map V.int):=sq (fun a ha=>by
  rcases List.mem_cons.mp ha with z | z
  ·exact z▸List.mem_cons_self ..
  ·exact List.mem_cons_of_mem _ (o.sub a z)) hBo
 have hsc:SqL X.K (mask H2 (T.p::ps)) T.q (T.ns.map V.int):=sq (fun _ z=>z) fun _ _=>rfl
 refine ru B' (T.p::p0) H2 (T.p::ps) _ _ T 0 _ DV ⟨oB.set (rep_tp T),List.mem_cons_self ..,(hBn _ (List.mem_cons_self ..)).trans hB,⟨⟨0,hH⟩,hsc,hd⟩,hbq⟩ (q1 T rfl hd) ⟨fun _ _ _ _ _ _ _ q'=>q'.elim,fun _ _ _ _ _ _ _ q'=>q'.elim,fun _ _ _ _ _ _ _ q'=>q'.elim,fun n' d v H' s' t' r' q'=>?_⟩
 exact f.rt d v H' (sB.trans s') (r'.same (mask_sub fun q hq=>List.mem_cons_of_mem _ hq)) q'
theorem merge_tap (T:Tape):mergeK [] (tapL T 0 0)=tapL T 0 0:=by
 have h1:=kSA
 have h2:=kSL
 have h3:=kSD
 have h4:=kAL
 have h5:=kAD
 have h6:=kLD
 unfold mergeK tapL
 simp [putK,h1,h2,h3,h4,h5,h6]
theorem fnNew {P:Program} {w:World} {mg:Str->Option Value} {base:Heap} {K:PySem.W.Frag} {x qual:Str} {st:Stmt} {f:Addr} {fd:FuncData} {n1 n2:Str} {k:Nat} (F:Fun K x qual st f fd) (S:FnScope [n1,n2] [n1] (defScope st))
  (hbody:∀ (cdv:Value) (A:Around) (outer:List Env) (s:Shared) (H:Hp) (E:XK),Room k (A.deeper (envOfC qual (defScope st) s.heap.objs.size f cdv)) ->
   ∃ (st1:Stmt) (e2:Expr) (pos:Pos) (te:ET),defBody st=[st1,.Return (some e2) pos]/\PSt (cxOf CX0 P w K mg base [n1,n2] qual (defScope st) f cdv A outer s H E).nox st1 (sSet 1 te) /\
    PE (cxOf CX0 P w K mg base [n1,n2] qual (defScope st) f cdv A outer s H E).nox e2 (tDisp [(tC (.str "script"),tVar 0),(tC (.str "at"),tC (.int 0)),(tC (.str "left"),tC (.int 0)),(tC (.str "digits"),tVar 1)]) /\
    ∀ (ns:List Int) (Q:D->Prop),(∀ b:Bool,(b=true->0<ns.length)->Q (.bool b))->te [.val (.list (ns.map PyData.int)),.un] Q):FnOk P w K mg base CX0 (k+1) f fd [n1] (spNew K):=by
 refine F.ok S (fun vs H Q E h=>?_) fun cdv A outer s H vs Q E hr h=>?_
 ·obtain ⟨ps,ns,v,_,rfl,_⟩:=h
  rfl
 ·obtain ⟨ps,ns,v,live,rfl,r,k⟩:=h
  obtain ⟨st1,e2,pos,te,hb,⟨t1,p1,r1⟩,p2,ht⟩:=hbody cdv A outer s H E hr
  rw [hb]
  refine ⟨_,pss_cons p1 (pss_one (ps_ret p2)),?_⟩
  have o:=ok_start (N:=[n1,n2]) (ds:=[.list (ns.map PyData.int)]) live (.cons r .nil)
  refine r1 H ps H ps _ _ { nx:=fun σT'=>∃ b:Bool,(b=true->0<ns.length)/\σT'=[.val (.list (ns.map PyData.int)),.val (.bool b)],rt:=fun _=>False } _ o (ht ns _ fun b hb=>⟨b,hb,rfl⟩) ⟨fun H' ps' σT' σ' o' s' q'=>?_,fun _ _ _ _ _ _ q'=>q'.elim,fun _ _ _ _ _ _ q'=>q'.elim,fun _ _ _ _ _ q'=>q'.elim,fun _ _ _ _ _ _ _ _ _ q'=>q'.elim,fun _ _ _ _ _ _ _ _ _ _ _ _ _ _ _ _ _ _ q'=>q'.elim,fun _ _ _ _ _ _ _ _ _ _ _ _ _ _ q'=>q'.elim,True.intro⟩
  obtain ⟨b,hb,rfl⟩:=q'
  obtain ⟨v0,e0,r0⟩:=o'.val 0 _ rfl
  obtain ⟨v1,e1,r1⟩:=o'.val 1 _ rfl
  cases r1
  intro p hp
  refine ⟨v0,e0,.bl b,e1,upd_same,?_⟩
  cases r0 with
  | @list q xs _ hq rs =>
   have e:=reps_ints rs
   subst e
   refine ⟨tapL ⟨p,q,ns,b⟩ 0 0,rfl,(by show 4<=15;decide),?_⟩
   rw [merge_tap]
   have hpH:H p=none:=Same.free' o'.base hp
   refine k ⟨p,q,ns,b⟩ _ rfl (fun a u e=>?_) hpH upd_same ?_ hb
   ·have ne:a≠p:=fun z=>by rw [z,hpH] at e;cases e
    rw [upd_ne ne,upd_ne ne]
    exact o'.base a u e
   ·refine L2.Same.seq (fun a u e=>?_) hq
    unfold mask at e |-
    by_cases ha:a∈ps'
    ·rw [if_pos ha] at e;cases e
    ·rw [if_neg ha] at e
     have ne:a≠p:=fun z=>by rw [z,hp] at e;cases e
     rw [if_neg fun z=>ha (o'.sub a z),upd_ne ne,upd_ne ne]
     exact e
section
variable {t:STt} {u:STC} {τ:D} {DC:EndsC} {n:Nat} {σ:List Sl} {i:Nat} {te:EC}
theorem cq_pure (h:sSeq t (fun _=>u τ DC n) { nx:=fun _=>True,rt:=DC.rt n,bk:=DC.bk n,ct:=DC.ct n } σ):cSeq (sP t) u τ DC n σ:=h
theorem cq_set1 (v:D) (h:∀ q:Nat->D->Prop,q n v->te τ n σ q) (k:u τ DC n (σ.set i (.val v))):cSeq (cSet i te) u τ DC n σ:=h (fun n1 d=>u τ DC n1 (σ.set i (.val d))) k
theorem cq_setR (R:Nat->D->Prop) (h:∀ q:Nat->D->Prop,(∀ m v,R m v->q m v)->te τ n σ q) (k:∀ m v,R m v->u τ DC m (σ.set i (.val v))):cSeq (cSet i te) u τ DC n σ:=h _ k
theorem co_setR (R:Nat->D->Prop) (h:∀ q:Nat->D->Prop,(∀ m v,R m v->q m v)->te τ n σ q) (k:∀ m v,R m v->DC.nx m (σ.set i (.val v))):cSet i te τ DC n σ:=h _ k
theorem cq_unpR {g:GT} (R:Nat->D->Prop) (h:∀ q:Nat->D->Prop,(∀ m v,R m v->q m v)->te τ n σ q) (k:∀ m v,R m v->g v σ (u τ DC m)):cSeq (cUnp te g) u τ DC n σ:=h _ k
theorem cq_if1 {c:TC} {t e:STC} (b:Bool) (h:∀ q:Nat->Bool->Prop,q n b->c τ n σ q) (k1:b=true->t τ { DC with nx:=u τ DC } n σ) (k0:b=false->e τ { DC with nx:=u τ DC } n σ):cSeq (cIf c t e) u τ DC n σ:=by
 refine h _ ?_
 cases b with
 | true=>rw [if_pos rfl];exact k1 rfl
 | false=>rw [if_neg (by decide)];exact k0 rfl
theorem cq_ifput {c:TC} (hσ:σ[i]?=some (.val τ)) (b:Bool) (h:∀ q:Nat->Bool->Prop,q n b->c τ n σ q) (hp:∀ q:Nat->D->Prop,(∀ l:Int,q n (.int l))->te τ n σ q) (k:u τ DC n σ):cSeq (cIf c (cPutL i te) cNext) u τ DC n σ:=by
 refine cq_if1 b h (fun _=>?_) fun _=>k
 exact hp _ fun l=>⟨⟨l,rfl⟩,hσ,k⟩
theorem cq_ifset {c:TC} (C:Prop) (R:Nat->Prop) (Rv:D->Prop) (h:∀ q:Nat->Bool->Prop,(∀ m b,R m->(b=true->C)->q m b)->c τ n σ q) (d0:D) (h0:σ[i]?=some (.val d0)) (r0:Rv d0) (S:Nat->Prop) (hS:∀ m,R m->S m) (hp:∀ m,R m->C->∀ q:Nat->D->Prop,(∀ m' d,S m'->Rv d->q m' d)->te τ m σ q) (k:∀ m d,S m->Rv d->u τ DC m (σ.set i (.val d))):cSeq (cIf c (cSet i te) cNext) u τ DC n σ:=by
 refine h _ fun m b hb hC=>?_
 cases b with
 | true=>rw [if_pos rfl];exact hp m hb (hC rfl) _ fun m' d hm hd=>k m' d hm hd
 | false =>
  rw [if_neg (by decide)]
  have e:σ.set i (.val d0)=σ:=by
   apply List.ext_getElem?
   intro j
   by_cases hj:i=j
   ·subst hj
    rw [List.getElem?_set_self (List.getElem?_eq_some_iff.mp h0).1,h0]
   ·rw [List.getElem?_set_ne hj]
  have:=k m d0 (hS m hb) r0
  rw [e] at this
  exact this
theorem cq_ifsetP {c:TC} {tp:ET} (C:Prop) (S:Nat->Prop) (Rv:D->Prop) (h:∀ q:Nat->Bool->Prop,(∀ m b,S m->(b=true->C)->q m b)->c τ n σ q) (d0:D) (h0:σ[i]?=some (.val d0)) (r0:Rv d0) (hp:C->∀ q:D->Prop,(∀ d,Rv d->q d)->tp σ q) (k:∀ m d,S m->Rv d->u τ DC m (σ.set i (.val d))):cSeq (cIf c (sP (sSet i tp)) cNext) u τ DC n σ:=by
 refine h _ fun m b hm hb=>?_
 cases b with
 | true=>rw [if_pos rfl];exact hp (hb rfl) _ fun d hd=>k m d hm hd
 | false =>
  rw [if_neg (by decide)]
  have e:σ.set i (.val d0)=σ:=by
   apply List.ext_getElem?
   intro j
   by_cases hj:i=j
   ·subst hj
    rw [List.getElem?_set_self (List.getElem?_eq_some_iff.mp h0).1,h0]
   ·rw [List.getElem?_set_ne hj]
  have:=k m d0 hm r0
  rw [e] at this
  exact this
theorem cforx {ti:IT} {ts:List D} {g:GT} {tb:STC} (hti:Gives' ti σ ts) (P:Nat->Nat->List Sl->Prop) (h0:P 0 n σ)
  (hs:∀ (k m:Nat) (x:D) (σ':List Sl),ts[k]?=some x->P k m σ'->g x σ' fun σ2=>tb τ { DC with nx:=P (k+1),ct:=P (k+1),bk:=DC.nx } m σ2) (hd:∀ m σ',P ts.length m σ'->DC.nx m σ'):cFor ti g tb τ DC n σ:=hti _ ⟨P,h0,hs,hd⟩
theorem cq_for {ti:IT} {ts:List D} {g:GT} {tb:STC} (hti:Gives' ti σ ts) (P:Nat->Nat->List Sl->Prop) (h0:P 0 n σ)
  (hs:∀ (k m:Nat) (x:D) (σ':List Sl),ts[k]?=some x->P k m σ'->g x σ' fun σ2=>tb τ { DC with nx:=P (k+1),ct:=P (k+1),bk:=u τ DC } m σ2) (hd:∀ m σ',P ts.length m σ'->u τ DC m σ'):cSeq (cFor ti g tb) u τ DC n σ :=
 cforx (DC:={ DC with nx:=u τ DC }) hti P h0 hs hd
theorem clc_in {fr:List (Option Nat)} {ti:IT} {ts:List D} {Q:Nat->D->Prop} (hti:Gives' ti σ ts) (R:Nat->D->D->Prop) (C:Nat) (hz:ts.length<=100000)
  (ht:∀ (k m:Nat) (x:D) (q:Nat->D->Prop),ts[k]?=some x->m<=n+C*k->(∀ m' y,m'<=m+C->R k x y->q m' y)->te τ m ((inBlkT fr σ).set 0 (.val x)) q)
  (hq:∀ (m:Nat) (ys:List D),m<=n+C*ts.length->ys.length=ts.length->(∀ (k:Nat) (x y:D),ts[k]?=some x->ys[k]?=some y->R k x y)->Q m (.list ys)):cLc fr ti (gN 0) te τ n σ Q:=by
 refine hti _ ⟨hz,fun k m σ' ds=>(∀ x,σ'.set 0 (.val x)=(inBlkT fr σ).set 0 (.val x))/\m<=n+C*k/\ds.length=k/\∀ (j:Nat) (x y:D),ts[j]?=some x->ds[j]?=some y->R j x y,⟨fun _=>rfl,by omega,rfl,fun j x y _ h=>by simp at h⟩,fun k m x σ' ds hx h=>?_,fun m σ' ds h=>hq m ds h.2.1 h.2.2.1 h.2.2.2⟩
 obtain ⟨h1,h2,h3,h4⟩:=h
 show te τ m (σ'.set 0 (.val x)) _
 rw [h1 x]
 refine ht k m x _ hx h2 fun m' y hm hy=>⟨fun z=>set_set _ _ _ _,?_,by simp [h3],fun j x' y' e1 e2=>?_⟩
 ·rw [Nat.mul_succ];omega
 ·by_cases hj:j<k
  ·rw [List.getElem?_append_left (by omega)] at e2
   exact h4 j x' y' e1 e2
  ·rw [List.getElem?_append_right (by omega)] at e2
   have:j=k:=by
    by_cases e:j=k
    ·exact e
    ·have:j-ds.length≠0:=by omega
     cases q:j-ds.length with
     | zero=>exact absurd q this
     | succ n=>rw [q] at e2;simp at e2
   subst this
   rw [hx] at e1
   cases e1
   simp [h3] at e2
   subst e2
   exact hy
end
end TL

namespace TL
open PySem PySem.Spec PyProof.Rows L2
section
variable {X:Cx} {pos:Pos}
def intsFrom (i:Int) (n:Nat):List D:=(List.range n).map fun k:Nat=>PyData.int (i+(k:Int))
def iRange2 (t:AT):IT:=fun σ Q=>t σ fun ds=>∃ i j:Int,ds=[.int i,.int j]/\(-(2 ^ 62)<=i/\i<2 ^ 62/\-(2 ^ 62)<=j/\j<2 ^ 62)/\Q (intsFrom i (j-i).toNat)
theorem it_range2 {tg a b:Expr} {t:AT} {p p':Pos} (ha:PAt X [a,b] t) (pr:∀ {ta:TA},PA X [a,b] ta->PI X tg (.Call (.Name "range" p) [a,b] [] p') (iRng2 ta)):PIt X tg (.Call (.Name "range" p) [a,b] [] p') (iRange2 t):=by
 obtain ⟨va,pa,ra⟩:=ha
 refine ⟨_,pr pa,fun B p0 H ps σT σ Q R o h k=>ra B p0 H ps σT σ _ _ o h fun ds xs H1 s1 r1 q1=>?_⟩
 obtain ⟨i,j,rfl,hb,q⟩:=q1
 cases r1 with
 | cons r1 r2 =>
  cases r2 with
  | cons r2 r3 =>
   cases r3
   cases r1
   cases r2
   refine ⟨i,j,rfl,hb,k (intsFrom i (j-i).toNat) _ H1 s1 ?_ q⟩
   have hl:(intsFrom i (j-i).toNat).length=(j-i).toNat:=by unfold intsFrom;simp
   refine ⟨fun i H _ e=>by rw [hl] at e;exact e,fun i H _ e=>by rw [hl] at e;exact e,fun m H ps y H' _ _ e hy=>?_⟩
   obtain ⟨rfl,rfl⟩:=hy
   rw [hl] at e
   refine ⟨L2.Same.refl _,.int (i+m),?_,.int _⟩
   unfold intsFrom
   rw [List.getElem?_map,List.getElem?_range e];rfl
end
section
variable {X:Cx} {es:List Expr} {pos:Pos}
theorem OkC.setOwn {K:PySem.W.Frag} {B:Hp} {p0:List Addr} {H:Hp} {ps:List Addr} {σT:List Sl} {σ:L2.St} {T:Tape} {n:Nat} (o:OkC K B p0 H ps σT σ T n) {i:Nat} {ts:List D} {xs:List V} {p:Addr} (hp:H p=none) (r:Reps K (mask H ps) ts xs) :
  OkC K B p0 (upd H p (.lst xs)) (p::ps) (σT.set i (.own ts)) (σ.set i (some (.ref p))) T n :=
 ⟨o.ok.setOwn hp r,o.mem,o.nb,⟨let ⟨l,e⟩:=o.tp.obj;⟨l,by rw [upd_ne (o.ne hp)];exact e⟩,by rw [mask_new hp];exact o.tp.scr,o.tp.dig⟩,o.bq⟩
end
end TL

namespace HT
open PySem PySem.Spec PyProof.Rows
section
open PySem.SeqAt
open PySem.AutoSeq1 (wpAny_loadPart')
open PySem.MeetsSeq PySem.MeetsSeq2 PySem.MeetsSeq3
end
section
variable {prog:Program} {w:World} {A:Around} {E:Value->Shared->Prop} {s:Shared}
end
end HT

namespace L2
open PySem PySem.Spec PyProof.Rows
section
variable {X:Cx}
end
end L2
namespace PySem
section
variable {prog:Program} {w:World} {A:Around} {R:Result->Shared->Prop} {I:Addr} {fp wr:List Addr} {n:Nat} {P:Nat->Value->Prop} {St:Nat->Heap->Prop}
end
section
variable {prog:Program} {w:World} {A:Around} {E:Value->Shared->Prop} {s:Shared}
end
end PySem

namespace L2
open PySem PySem.Spec PyProof.Rows
section
variable {X:Cx}
end
end L2
namespace TL
open PySem PySem.Spec PyProof.Rows L2
section
variable {X:Cx} {e:Expr} {es:List Expr} {te:ET} {pos:Pos} {K:PySem.W.Frag} {H:Hp}
end
section
variable {X:Cx} {e g:Expr} {pos:Pos}
end
end TL

namespace SS
open PySem PyProof.Rows
structure GS (a0:Array Keyed) (g:Nat->Nat) (pd:Array (Nat×Nat×Nat)) (st:SortSt):Prop where
 size:(arrOf st).size=a0.size
 get:∀ p,p<a0.size->(arrOf st)[p]?=a0[g p]?
 rng:∀ p,p<a0.size->g p<a0.size
 kind:kindOf st=oneType'
 fail:failedOf st=none
 pend:pendingOf st=pd
def Lx (a0:Array Keyed) (i j:Nat):Prop:=K a0 i<K a0 j\/(K a0 i=K a0 j/\i<j)
def Sd (a0:Array Keyed) (g:Nat->Nat) (lo hi:Nat):Prop:=∀ p q,lo<=p->p<q->q<hi->Lx a0 (g p) (g q)
def In (g:Nat->Nat) (lo hi:Nat):Prop:=∀ p,lo<=p->p<hi->lo<=g p/\g p<hi
def mir (g:Nat->Nat) (i j:Nat):Nat->Nat:=fun k=>if i<=k/\k<j then g (i+j-1-k) else g k
def bub (g:Nat->Nat) (src dst:Nat):Nat->Nat:=fun k=>if k=dst then g src else if dst<k/\k<=src then g (k-1) else g k
section
variable {prog:Program} {w:World} {A:Around} {E:Value->Shared->Prop} {s:Shared} {a0:Array Keyed} {g:Nat->Nat} {pd:Array (Nat×Nat×Nat)} {st:SortSt}
theorem at_key (h0:IntKeys a0) {i:Nat} (hi:i<a0.size):∃ t q,a0[i]?=some (.int (K a0 i) t,q):=by
 obtain ⟨n,t,hn⟩:=h0 a0[i] (by simp)
 have e:a0[i]?=some a0[i]:=getElem?_pos _ i hi
 refine ⟨t,a0[i].2,?_⟩
 have e2:a0[i]=(.int n t,a0[i].2):=Prod.ext hn rfl
 unfold K
 rw [e,e2]
 rfl
theorem GS.mirr (h:GS a0 g pd st) {i j:Nat} (hj:j<=a0.size):GS a0 (mir g i j) pd (setArr st (mirror (arrOf st) i j ((j-i) / 2))) where
 size:=(mirror_size _ _ _ _).trans h.size
 get:=fun p hp=>by
  refine (getElem?_mirror_all (by rw [h.size];exact hj) p).trans ?_
  unfold mir
  split
  ·exact h.get _ (by omega)
  ·exact h.get _ hp
 rng:=fun p hp=>by
  unfold mir
  split
  ·exact h.rng _ (by omega)
  ·exact h.rng _ hp
 kind:=h.kind
 fail:=h.fail
 pend:=h.pend
theorem GS.bubb (h:GS a0 g pd st) {src dst:Nat} (hs:src<a0.size) (hd:dst<=src):GS a0 (bub g src dst) pd (setArr st (bubble (arrOf st) src (src-dst))) where
 size:=(bubble_size _ _ _).trans h.size
 get:=fun p hp=>by
  refine (getElem?_bubble (by rw [h.size];exact hs) _ (by omega) p).trans ?_
  rw [show src-(src-dst)=dst by omega]
  unfold bub
  split
  ·exact h.get _ hs
  ·split
   ·exact h.get _ (by omega)
   ·exact h.get _ hp
 rng:=fun p hp=>by
  unfold bub
  split
  ·exact h.rng _ hs
  ·split
   ·exact h.rng _ (by omega)
   ·exact h.rng _ hp
 kind:=h.kind
 fail:=h.fail
 pend:=h.pend
theorem wpS_ltG {p q:Nat} {Q:Option Bool->SortSt->Prop} (h:GS a0 g pd st) (h0:IntKeys a0) (hp:p<a0.size) (hq:q<a0.size)
  (k:Q (some (decide (K a0 (g p)<K a0 (g q)))) st):wpS (model prog w) A E s (ltAt' p q) Q st:=by
 obtain ⟨t,x,e1⟩:=at_key h0 (h.rng p hp)
 obtain ⟨u,y,e2⟩:=at_key h0 (h.rng q hq)
 exact wpS_ltAt h.kind ((h.get p hp).trans e1) ((h.get q hq).trans e2) k

def ascG (lo a nr:Nat):StateT SortSt Sem AscSt :=
 forIn [a:nr] ((none,a):AscSt) fun _ z=>do
  let x <- ltAt' (lo+z.snd) (lo+z.snd-1)
  match x with
  | some b=>if b=true then pure (ForInStep.done (none,z.snd)) else pure (ForInStep.yield (none,z.snd+1))
  | _=>pure (ForInStep.done (some none,z.snd))
def tailG (lo n nr:Nat):StateT SortSt Sem (Option Nat):=do
 reverseSlice' lo (lo+n)
 let z <- ascG lo n nr
 match z.fst with
 | some r=>pure r
 | none=>pure (some z.snd)
def descG (lo n nr:Nat):StateT SortSt Sem DescSt :=
 forIn [n:nr] ((none,n,0):DescSt) fun _ z=>do
  let x <- ltAt' (lo+z.snd.fst) (lo+z.snd.fst-1)
  match x with
  | some b =>
   if b=true then
    if z.snd.snd > 0 then do
     reverseSlice' (lo+z.snd.fst-(z.snd.snd+1)) (lo+z.snd.fst)
     pure (ForInStep.yield (none,z.snd.fst+1,0))
    else pure (ForInStep.yield (none,z.snd.fst+1,0))
   else do
    let x <- ltAt' (lo+z.snd.fst-1) (lo+z.snd.fst)
    match x with
    | some c =>
     if c=true then pure (ForInStep.done (none,z.snd.fst,z.snd.snd))
     else pure (ForInStep.yield (none,z.snd.fst+1,z.snd.snd+1))
    | _=>pure (ForInStep.done (some none,z.snd.fst,z.snd.snd))
  | _=>pure (ForInStep.done (some none,z.snd.fst,z.snd.snd))
def partG (lo n nr:Nat):StateT SortSt Sem (Option Nat):=do
 liftM (rule "list.sort.descending-run")
 let z <- descG lo (n+1) nr
 match z.fst with
 | some r=>pure r
 | none =>
  if z.snd.snd > 0 then do
   reverseSlice' (lo+z.snd.fst-(z.snd.snd+1)) (lo+z.snd.fst)
   tailG lo z.snd.fst nr
  else tailG lo z.snd.fst nr
theorem countG_eq (lo nr:Nat):countRun' lo nr=(do
  let z <- ascG lo 1 nr
  match z.fst with
  | some r=>pure r
  | none =>
   if (z.snd == nr)=true then pure (some z.snd)
   else if z.snd > 1 then do
    let x <- ltAt' lo (lo+z.snd-1)
    match x with
    | some b=>if b=true then pure (some z.snd) else do
      reverseSlice' lo (lo+z.snd)
      partG lo z.snd nr
    | _=>pure none
   else partG lo z.snd nr):=by
 have t3:∀ (n:Nat),tailG lo n nr=(do
   reverseSlice' lo (lo+n)
   let z <- ascG lo n nr
   match z with
   | (some r,_)=>pure r
   | (none,m)=>pure (some m)):=fun n=>by
  unfold tailG
  congr 1;funext _;congr 1;funext z
  obtain ⟨r,m⟩:=z
  cases r<;>rfl
 rw [countRun'_eq]
 unfold partG
 simp only [t3]
 unfold ascG descG
 congr 1
 funext z
 obtain ⟨r,n⟩:=z
 cases r with
 | some r=>rfl
 | none =>
  dsimp only
  split
  ·rfl
  ·split
   ·congr 1
    funext x
    cases x with
    | none=>rfl
    | some b =>
     dsimp only
     split
     ·rfl
     ·congr 1
      funext _
      congr 1;funext _;congr 1;congr 1;funext y
      obtain ⟨r2,n2,q2⟩:=y
      cases r2 with
      | some r2=>rfl
      | none =>
       dsimp only
       split
       ·congr 1;funext _;congr 1;funext _;congr 1;funext u
        obtain ⟨r3,n3⟩:=u
        cases r3<;>rfl
       ·congr 1;funext _;congr 1;funext u
        obtain ⟨r3,n3⟩:=u
        cases r3<;>rfl
   ·congr 1;funext _;congr 1;congr 1;funext y
    obtain ⟨r2,n2,q2⟩:=y
    cases r2 with
    | some r2=>rfl
    | none =>
     dsimp only
     split
     ·congr 1;funext _;congr 1;funext _;congr 1;funext u
      obtain ⟨r3,n3⟩:=u
      cases r3<;>rfl
     ·congr 1;funext _;congr 1;funext u
      obtain ⟨r3,n3⟩:=u
      cases r3<;>rfl
end
section
variable {prog:Program} {w:World} {A:Around} {E:Value->Shared->Prop} {s:Shared} {a0:Array Keyed} {g g0:Nat->Nat} {pd:Array (Nat×Nat×Nat)} {st:SortSt} {lo n nr:Nat}
structure Rn (a0:Array Keyed) (g0 g:Nat->Nat) (lo m:Nat):Prop where
 sd:Sd a0 g lo (lo+m)
 inn:In g lo (lo+m)
 bef:∀ p,p<lo->g p=g0 p
 aft:∀ p,lo+m<=p->g p=p
theorem Rn.snoc {m:Nat} (r:Rn a0 g0 g lo m) (h1:1<=m) (h:¬ K a0 (g (lo+m))<K a0 (g (lo+m-1))):Rn a0 g0 g lo (m+1) where
 sd:=fun p q h2 h3 h4=>by
  by_cases hq:q<lo+m
  ·exact r.sd p q h2 h3 hq
  ·have e:q=lo+m:=by omega
   have e2:=r.aft q (by omega)
   have i1:=(r.inn p h2 (by omega)).2
   rw [<- e,e2] at h
   unfold Lx
   rw [e2]
   have:K a0 (g p)<=K a0 (g (q-1)):=by
    by_cases hp:p=q-1
    ·rw [hp];exact Int.le_refl _
    ·rcases r.sd p (q-1) h2 (by omega) (by omega) with z | z
     ·omega
     ·omega
   omega
 inn:=fun p h2 h3=>by
  by_cases hp:p<lo+m
  ·have:=r.inn p h2 hp;omega
  ·have:=r.aft p (by omega);omega
 bef:=r.bef
 aft:=fun p h2=>r.aft p (by omega)
theorem wpS_ascG {a:Nat} {Q:AscSt->SortSt->Prop} (h0:IntKeys a0) (hn:lo+nr<=a0.size) (ha:1<=a) (han:a<=nr) (hB:GS a0 g pd st) (hs:Rn a0 g0 g lo a)
  (h:∀ m,a<=m->m<=nr->Rn a0 g0 g lo m->(m=nr\/K a0 (g (lo+m))<K a0 (g (lo+m-1)))->Q (none,m) st):wpS (model prog w) A E s (ascG lo a nr) Q st:=by
 unfold ascG
 refine wpS_forRange (I:=fun x c z=>z=st/\c=(none,x)/\Rn a0 g0 g lo x) ?step ?fin ⟨rfl,rfl,hs⟩
 case fin =>
  rintro c z ⟨rfl,rfl,hr⟩
  rw [show max a nr=nr by omega] at hr |-
  exact h nr han (Nat.le_refl _) hr (.inl rfl)
 case step =>
  rintro x c z hax hxn ⟨rfl,rfl,hr⟩
  dsimp only
  refine wpS_bind (wpS_ltG hB h0 (by omega) (by omega) ?_)
  by_cases hl:K a0 (g (lo+x))<K a0 (g (lo+x-1))
  ·simp only [hl,decide_true,if_true]
   exact wpS_pure (h x hax (by omega) hr (.inr hl))
  ·simp only [hl,decide_false,Bool.false_eq_true,if_false]
   exact wpS_pure ⟨rfl,rfl,hr.snoc (by omega) hl⟩
structure Dn (a0:Array Keyed) (g0 g:Nat->Nat) (lo x ne:Nat):Prop where
 le:ne+1<=x
 fall:∀ p q,lo<=p->p<q->q<lo+(x-(ne+1))->Lx a0 (g q) (g p)
 inn:In g lo (lo+(x-(ne+1)))
 low:∀ p,lo<=p->p<lo+(x-(ne+1))->K a0 (lo+x-1)<K a0 (g p)
 alike:∀ p,lo+(x-(ne+1))<=p->p<lo+x->K a0 p=K a0 (lo+x-1)
 bef:∀ p,p<lo->g p=g0 p
 aft:∀ p,lo+(x-(ne+1))<=p->g p=p
theorem Dn.turn {x ne:Nat} (d:Dn a0 g0 g lo x ne) :
  (∀ p q,lo<=p->p<q->q<lo+x->Lx a0 (mir g (lo+x-(ne+1)) (lo+x) q) (mir g (lo+x-(ne+1)) (lo+x) p))/\In (mir g (lo+x-(ne+1)) (lo+x)) lo (lo+x) /\
  (∀ p,lo<=p->p<lo+x->K a0 (lo+x-1)<=K a0 (mir g (lo+x-(ne+1)) (lo+x) p))/\(∀ p,p<lo->mir g (lo+x-(ne+1)) (lo+x) p=g0 p)/\∀ p,lo+x<=p->mir g (lo+x-(ne+1)) (lo+x) p=p:=by
 have hl:=d.le
 have eb:lo+x-(ne+1)=lo+(x-(ne+1)):=by omega
 have up:∀ p,lo+(x-(ne+1))<=p->p<lo+x->mir g (lo+x-(ne+1)) (lo+x) p=lo+(x-(ne+1))+(lo+x)-1-p:=fun p h1 h2=>by
  unfold mir
  rw [if_pos (by omega),d.aft _ (by omega)]
  omega
 have dn:∀ p,p<lo+(x-(ne+1))->mir g (lo+x-(ne+1)) (lo+x) p=g p:=fun p h1=>by
  unfold mir
  rw [if_neg (by omega)]
 have ot:∀ p,lo+x<=p->mir g (lo+x-(ne+1)) (lo+x) p=p:=fun p h1=>by
  unfold mir
  rw [if_neg (by omega),d.aft _ (by omega)]
 refine ⟨fun p q h1 h2 h3=>?_,fun p h1 h2=>?_,fun p h1 h2=>?_,fun p h1=>?_,ot⟩
 ·by_cases hq:q<lo+(x-(ne+1))
  ·rw [dn q hq,dn p (by omega)];exact d.fall p q h1 h2 hq
  ·rw [up q (by omega) h3]
   have k1:=d.alike (lo+(x-(ne+1))+(lo+x)-1-q) (by omega) (by omega)
   by_cases hp:p<lo+(x-(ne+1))
   ·rw [dn p hp]
    have:=d.low p h1 hp
    left;omega
   ·rw [up p (by omega) (by omega)]
    have k2:=d.alike (lo+(x-(ne+1))+(lo+x)-1-p) (by omega) (by omega)
    right;omega
 ·by_cases hp:p<lo+(x-(ne+1))
  ·rw [dn p hp];have:=d.inn p h1 hp;omega
  ·rw [up p (by omega) h2];omega
 ·by_cases hp:p<lo+(x-(ne+1))
  ·rw [dn p hp];have:=d.low p h1 hp;omega
  ·rw [up p (by omega) h2]
   have k1:=d.alike (lo+(x-(ne+1))+(lo+x)-1-p) (by omega) (by omega)
   omega
 ·rw [dn p (by omega)];exact d.bef p h1
theorem mir_one {x:Nat} (hx:1<=x):mir g (lo+x-(0+1)) (lo+x)=g:=by
 funext k
 unfold mir
 split
 ·congr 1;omega
 ·rfl
theorem wpS_revG {i j:Nat} {Q:Unit->SortSt->Prop} (h:Q () (setArr st (mirror (arrOf st) i j ((j-i) / 2)))):wpS (model prog w) A E s (reverseSlice' i j) Q st:=by
 rw [reverseSlice'_eq];exact wpS_modify h
theorem wpS_descG {Q:DescSt->SortSt->Prop} (h0:IntKeys a0) (hn:lo+nr<=a0.size) (h1:1<=n) (hnn:n<=nr) (hB:GS a0 g pd st) (hs:Dn a0 g0 g lo n 0)
  (h:∀ m ne g' st',GS a0 g' pd st'->n<=m->m<=nr->Dn a0 g0 g' lo m ne->Q (none,m,ne) st'):wpS (model prog w) A E s (descG lo n nr) Q st:=by
 unfold descG
 refine wpS_forRange (I:=fun x c z=>∃ ne g',c=(none,x,ne)/\GS a0 g' pd z/\Dn a0 g0 g' lo x ne) ?step ?fin ⟨0,g,rfl,hB,hs⟩
 case fin =>
  rintro c z ⟨ne,g',rfl,hB',hd⟩
  rw [show max n nr=nr by omega] at hd |-
  exact h nr ne g' z hB' hnn (Nat.le_refl _) hd
 case step =>
  rintro x c z hax hxn ⟨ne,g',rfl,hB',hd⟩
  dsimp only
  have hle:=hd.le
  have ex:=hd.aft (lo+x) (by omega)
  have ey:=hd.aft (lo+x-1) (by omega)
  refine wpS_bind (wpS_ltG hB' h0 (by omega) (by omega) ?_)
  rw [ex,ey]
  by_cases hl:K a0 (lo+x)<K a0 (lo+x-1)
  ·simp only [hl,decide_true,if_true]
   obtain ⟨t1,t2,t3,t4,t5⟩:=hd.turn
   have nx:Dn a0 g0 (mir g' (lo+x-(ne+1)) (lo+x)) lo (x+1) 0:=by
    have es:x+1-(0+1)=x:=by omega
    refine ⟨by omega,?_,?_,?_,?_,t4,?_⟩
    ·rw [es];exact t1
    ·rw [es];exact t2
    ·rw [es];intro p h2 h3;have:=t3 p h2 h3;rw [show lo+(x+1)-1=lo+x by omega];omega
    ·rw [es];intro p h2 h3;congr 1;omega
    ·rw [es];exact t5
   by_cases hne:ne > 0
   ·rw [if_pos hne]
    exact wpS_bind (wpS_revG (wpS_pure ⟨0,_,rfl,hB'.mirr (by omega),nx⟩))
   ·rw [if_neg hne]
    have e0:ne=0:=by omega
    subst e0
    rw [mir_one (by omega)] at nx
    exact wpS_pure ⟨0,_,rfl,hB',nx⟩
  ·simp only [hl,decide_false,Bool.false_eq_true,if_false]
   refine wpS_bind (wpS_ltG hB' h0 (by omega) (by omega) ?_)
   rw [ex,ey]
   by_cases hg:K a0 (lo+x-1)<K a0 (lo+x)
   ·simp only [hg,decide_true,if_true]
    exact wpS_pure (h x ne g' z hB' hax (by omega) hd)
   ·simp only [hg,decide_false,Bool.false_eq_true,if_false]
    have es:x+1-(ne+1+1)=x-(ne+1):=by omega
    have el:lo+(x+1)-1=lo+x:=by omega
    have eq:K a0 (lo+x)=K a0 (lo+x-1):=by omega
    refine wpS_pure ⟨ne+1,g',rfl,hB',⟨by omega,?_,?_,?_,?_,hd.bef,?_⟩⟩
    ·rw [es];exact hd.fall
    ·rw [es];exact hd.inn
    ·rw [es,el,eq];exact hd.low
    ·rw [es,el]
     intro p h2 h3
     by_cases hp:p=lo+x
     ·rw [hp]
     ·rw [eq];exact hd.alike p h2 (by omega)
    ·rw [es];exact hd.aft
theorem wpS_tailG {Q:Option Nat->SortSt->Prop} (h0:IntKeys a0) (hn:lo+nr<=a0.size) (h1:1<=n) (hnn:n<=nr) (hB:GS a0 g pd st)
  (f1:∀ p q,lo<=p->p<q->q<lo+n->Lx a0 (g q) (g p)) (f2:In g lo (lo+n)) (f4:∀ p,p<lo->g p=g0 p) (f5:∀ p,lo+n<=p->g p=p)
  (h:∀ m g' st',GS a0 g' pd st'->1<=m->m<=nr->Rn a0 g0 g' lo m->Q (some m) st'):wpS (model prog w) A E s (tailG lo n nr) Q st:=by
 unfold tailG
 refine wpS_bind (wpS_revG ?_)
 have hB':=hB.mirr (i:=lo) (j:=lo+n) (by omega)
 have up:∀ p,lo<=p->p<lo+n->mir g lo (lo+n) p=g (lo+(lo+n)-1-p):=fun p a b=>by unfold mir;rw [if_pos ⟨a,b⟩]
 have ot:∀ p,(p<lo\/lo+n<=p)->mir g lo (lo+n) p=g p:=fun p a=>by unfold mir;rw [if_neg (by omega)]
 refine wpS_bind (wpS_ascG h0 hn h1 hnn hB' (g0:=g0) ⟨fun p q a b c=>?_,fun p a b=>?_,fun p a=>?_,fun p a=>?_⟩ fun m m1 m2 r _=>wpS_pure (h m _ _ hB' (by omega) m2 r))
 ·rw [up p a (by omega),up q (by omega) c]
  exact f1 _ _ (by omega) (by omega) (by omega)
 ·rw [up p a b];exact f2 _ (by omega) (by omega)
 ·rw [ot p (.inl a)];exact f4 p a
 ·rw [ot p (.inr a)];exact f5 p a
theorem wpS_partG {Q:Option Nat->SortSt->Prop} (h0:IntKeys a0) (hn:lo+nr<=a0.size) (hnn:n+1<=nr) (hB:GS a0 g pd st) (hs:Dn a0 g0 g lo (n+1) 0)
  (h:∀ m g' st',GS a0 g' pd st'->1<=m->m<=nr->Rn a0 g0 g' lo m->Q (some m) st'):wpS (model prog w) A E s (partG lo n nr) Q st:=by
 unfold partG
 refine wpS_bind (wpS_lift (wpAny_rule ⟨rfl,?_⟩))
 refine wpS_bind (wpS_descG h0 hn (by omega) hnn hB hs fun m ne g' st' hB' m1 m2 hd=>?_)
 dsimp only
 obtain ⟨t1,t2,t3,t4,t5⟩:=hd.turn
 by_cases hne:ne > 0
 ·rw [if_pos hne]
  exact wpS_bind (wpS_revG (wpS_tailG h0 hn (by omega) m2 (hB'.mirr (by omega)) t1 t2 t4 t5 h))
 ·rw [if_neg hne]
  have e0:ne=0:=by omega
  subst e0
  rw [mir_one (by omega)] at t1 t2 t4 t5
  exact wpS_tailG h0 hn (by omega) m2 hB' t1 t2 t4 t5 h
theorem wpS_countG {Q:Option Nat->SortSt->Prop} (h0:IntKeys a0) (hn:lo+nr<=a0.size) (h1:1<=nr) (hB:GS a0 g pd st) (bef:∀ p,p<lo->g p=g0 p) (aft:∀ p,lo<=p->g p=p)
  (h:∀ m g' st',GS a0 g' pd st'->1<=m->m<=nr->Rn a0 g0 g' lo m->Q (some m) st'):wpS (model prog w) A E s (countRun' lo nr) Q st:=by
 rw [countG_eq]
 refine wpS_bind (wpS_ascG h0 hn (Nat.le_refl 1) h1 hB (g0:=g0) ⟨fun p q a b c=>by omega,fun p a b=>by rw [aft p a];omega,bef,fun p a=>aft p (by omega)⟩ fun m m1 m2 r hor=>?_)
 dsimp only
 by_cases hmn:m=nr
 ·rw [if_pos (by simpa using hmn)]
  exact wpS_pure (h m g st hB m1 m2 r)
 ·rw [if_neg (by simpa using hmn)]
  have hlt:=hor.resolve_left hmn
  rw [aft _ (by omega),aft (lo+m-1) (by omega)] at hlt
  by_cases hgt:m > 1
  ·rw [if_pos hgt]
   refine wpS_bind (wpS_ltG hB h0 (by omega) (by omega) ?_)
   rw [aft lo (by omega),aft (lo+m-1) (by omega)]
   by_cases hrose:K a0 lo<K a0 (lo+m-1)
   ·simp only [hrose,decide_true,if_true]
    exact wpS_pure (h m g st hB m1 m2 r)
   ·simp only [hrose,decide_false,Bool.false_eq_true,if_false]
    have le:∀ p q,lo<=p->p<=q->q<lo+m->K a0 p<=K a0 q:=fun p q a b c=>by
     by_cases e:p=q
     ·rw [e];exact Int.le_refl _
     ·have:=r.sd p q a (by omega) c
      rw [aft p a,aft q (by omega)] at this
      rcases this with z | z<;>omega
    have all:∀ p,lo<=p->p<lo+m->K a0 p=K a0 (lo+m-1):=fun p a b=>by
     have k1:=le lo p (by omega) a b
     have k2:=le p (lo+m-1) a (by omega) (by omega)
     omega
    have es:m+1-(0+1)=m:=by omega
    have el:lo+(m+1)-1=lo+m:=by omega
    have up:∀ p,lo<=p->p<lo+m->mir g lo (lo+m) p=lo+(lo+m)-1-p:=fun p a b=>by unfold mir;rw [if_pos ⟨a,b⟩,aft _ (by omega)]
    refine wpS_bind (wpS_revG (wpS_partG h0 hn (by omega) (hB.mirr (by omega)) (g0:=g0) ⟨by omega,?_,?_,?_,?_,?_,?_⟩ h))
    ·rw [es]
     intro p q a b c
     rw [up p a (by omega),up q (by omega) c]
     have k1:=all (lo+(lo+m)-1-p) (by omega) (by omega)
     have k2:=all (lo+(lo+m)-1-q) (by omega) (by omega)
     right;omega
    ·rw [es];intro p a b;rw [up p a b];omega
    ·rw [es,el]
     intro p a b
     rw [up p a b,all (lo+(lo+m)-1-p) (by omega) (by omega)]
     exact hlt
    ·rw [es];intro p a b;congr 1;omega
    ·intro p a;unfold mir;rw [if_neg (by omega)];exact bef p a
    ·rw [es];intro p a;unfold mir;rw [if_neg (by omega)];exact aft p (by omega)
  ·rw [if_neg hgt]
   have e1:m=1:=by omega
   subst e1
   refine wpS_partG h0 hn (by omega) hB (g0:=g0) ⟨by omega,fun p q a b c=>by omega,fun p a b=>by rw [aft p a];omega,fun p a b=>?_,fun p a b=>by congr 1;omega,bef,fun p a=>aft p (by omega)⟩ h
   rw [aft p a]
   have:p=lo:=by omega
   subst this
   exact hlt
theorem wpS_binG {ok:Nat} {Q:Bool->SortSt->Prop} (h0:IntKeys a0) (hn:lo+n<=a0.size) (hok:ok<=n) (h1:1<=ok) (hB:GS a0 g pd st) (hs:Rn a0 g0 g lo ok)
  (h:∀ g' st',GS a0 g' pd st'->Rn a0 g0 g' lo n->Q true st'):wpS (model prog w) A E s (binarySort' lo n ok) Q st:=by
 rw [binarySort'_eq]
 refine wpS_bind (wpS_mono (wpS_forRange (I:=fun k c z=>c=(none,())/\∃ g',GS a0 g' pd z/\Rn a0 g0 g' lo (min k n))
  (Q:=fun c z=>c=(none,())/\∃ g',GS a0 g' pd z/\Rn a0 g0 g' lo n) ?step ?fin ?init) ?post)
 case post =>
  rintro c z ⟨rfl,g',hB',hr⟩
  exact wpS_pure (h g' z hB' hr)
 case init =>
  refine ⟨rfl,g,hB,?_⟩
  rw [show min (max ok 1) n=ok by omega];exact hs
 case fin =>
  rintro c z ⟨hc,g',hB',hr⟩
  rw [show min (max (max ok 1) n) n=n by omega] at hr
  exact ⟨hc,g',hB',hr⟩
 case step =>
  rintro k c z hak hkn ⟨rfl,g',hB',hr⟩
  rw [show min k n=k by omega] at hr
  have ek:=hr.aft (lo+k) (Nat.le_refl _)
  refine wpS_bind (wpS_mono (wpS_forRange (I:=fun x c y=>y=z/\∃ l r,c=(none,l,r)/\l<=r/\r<=k/\r-l<=k-x /\
    (∀ i,i<l->K a0 (g' (lo+i))<=K a0 (lo+k))/\∀ i,r<=i->i<k->K a0 (lo+k)<K a0 (g' (lo+i)))
   (Q:=fun c y=>y=z/\∃ l r,c=(none,l,r)/\l<=k/\(∀ i,i<l->K a0 (g' (lo+i))<=K a0 (lo+k))/\∀ i,l<=i->i<k->K a0 (lo+k)<K a0 (g' (lo+i))) ?istep ?ifin ?iinit) ?ipost)
  case iinit=>exact ⟨rfl,0,k,rfl,by omega,by omega,by omega,fun i hi=>by omega,fun i a b=>by omega⟩
  case ifin =>
   rintro c y ⟨rfl,l,r,rfl,a1,a2,a3,a4,a5⟩
   have:l=r:=by omega
   subst this
   exact ⟨rfl,l,l,rfl,a2,a4,a5⟩
  case istep =>
   rintro x c y _ hxk ⟨rfl,l,r,rfl,a1,a2,a3,a4,a5⟩
   dsimp only
   have le:∀ i j,i<=j->j<k->K a0 (g' (lo+i))<=K a0 (g' (lo+j)):=fun i j a b=>by
    by_cases e:i=j
    ·rw [e];exact Int.le_refl _
    ·rcases hr.sd (lo+i) (lo+j) (by omega) (by omega) (by omega) with q | q<;>omega
   by_cases hge:l >= r
   ·rw [if_pos hge]
    have:l=r:=by omega
    subst this
    exact wpS_pure ⟨rfl,l,l,rfl,a2,a4,a5⟩
   ·rw [if_neg hge]
    refine wpS_bind (wpS_ltG hB' h0 (by omega) (by omega) ?_)
    rw [ek]
    by_cases hl:K a0 (lo+k)<K a0 (g' (lo+(l+r) / 2))
    ·simp only [hl,decide_true,if_true]
     refine wpS_pure ⟨rfl,l,(l+r) / 2,rfl,by omega,by omega,by omega,a4,fun i b1 b2=>?_⟩
     exact Int.lt_of_lt_of_le hl (le _ _ b1 b2)
    ·simp only [hl,decide_false,Bool.false_eq_true,if_false]
     refine wpS_pure ⟨rfl,(l+r) / 2+1,r,rfl,by omega,by omega,by omega,fun i b1=>?_,a5⟩
     have:=le i ((l+r) / 2) (by omega) (by omega)
     omega
  case ipost =>
   rintro c y ⟨rfl,l,r,rfl,a2,a4,a5⟩
   show wpS _ _ _ _ (do moveDown' (lo+k) (lo+l);pure (ForInStep.yield (none,()))) _ _
   rw [moveDown'_eq]
   refine wpS_bind (wpS_modify (wpS_pure ⟨rfl,_,hB'.bubb (by omega) (by omega),?_⟩))
   rw [show min (k+1) n=k+1 by omega]
   have v1:bub g' (lo+k) (lo+l) (lo+l)=lo+k:=by unfold bub;rw [if_pos rfl,ek]
   have v2:∀ p,lo+l<p->p<=lo+k->bub g' (lo+k) (lo+l) p=g' (p-1):=fun p a b=>by unfold bub;rw [if_neg (by omega),if_pos ⟨a,b⟩]
   have v3:∀ p,(p<lo+l\/lo+k<p)->bub g' (lo+k) (lo+l) p=g' p:=fun p a=>by unfold bub;rw [if_neg (by omega),if_neg (by omega)]
   have lw:∀ p,lo<=p->p<lo+l->K a0 (g' p)<=K a0 (lo+k):=fun p a b=>by
    have:=a4 (p-lo) (by omega);rwa [show lo+(p-lo)=p by omega] at this
   have hg:∀ p,lo+l<=p->p<lo+k->K a0 (lo+k)<K a0 (g' p):=fun p a b=>by
    have:=a5 (p-lo) (by omega) (by omega);rwa [show lo+(p-lo)=p by omega] at this
   refine ⟨fun p q b1 b2 b3=>?_,fun p b1 b2=>?_,fun p b1=>?_,fun p b1=>?_⟩
   ·rcases Nat.lt_trichotomy p (lo+l) with c1 | c1 | c1
    ·rw [v3 p (.inl c1)]
     rcases Nat.lt_trichotomy q (lo+l) with c2 | c2 | c2
     ·rw [v3 q (.inl c2)];exact hr.sd p q b1 b2 (by omega)
     ·rw [c2,v1]
      have:=lw p b1 c1
      have:=(hr.inn p b1 (by omega)).2
      unfold Lx;omega
     ·rw [v2 q c2 (by omega)];exact hr.sd p (q-1) b1 (by omega) (by omega)
    ·rw [c1,v1,v2 q (by omega) (by omega)]
     left;exact hg _ (by omega) (by omega)
    ·rw [v2 p c1 (by omega),v2 q (by omega) (by omega)]
     exact hr.sd _ _ (by omega) (by omega) (by omega)
   ·rcases Nat.lt_trichotomy p (lo+l) with c1 | c1 | c1
    ·rw [v3 p (.inl c1)];have:=hr.inn p b1 (by omega);omega
    ·rw [c1,v1];omega
    ·rw [v2 p c1 (by omega)];have:=hr.inn (p-1) (by omega) (by omega);omega
   ·rw [v3 p (.inl (by omega))];exact hr.bef p b1
   ·rw [v3 p (.inr (by omega))];exact hr.aft p (by omega)
end
end SS

namespace SS
open PySem PyProof.Rows
section
variable {α:Type} {le:α->α->Bool}
abbrev mg (le:α->α->Bool) (xs ys:List α):List α:=List.merge xs ys le
theorem mg_nil_r (xs:List α):mg le xs []=xs:=by cases xs<;>simp [mg]
theorem mg_nil_l (ys:List α):mg le [] ys=ys:=by cases ys<;>simp [mg]
theorem mg_cons (x y:α) (xs ys:List α):mg le (x::xs) (y::ys)=if le x y=true then x::mg le xs (y::ys) else y::mg le (x::xs) ys:=by
 show List.merge _ _ _=_
 rw [List.cons_merge_cons]
theorem mg_C {xs ys:List α}:∀ {ps:List α},(∀ p∈ps,∀ y∈ys,le p y=true)->mg le (ps++xs) ys=ps++mg le xs ys
 | [],_=>rfl
 | p::ps,h=>by
  have ih:=mg_C (xs:=xs) (ys:=ys) (ps:=ps) fun q hq=>h q (List.mem_cons_of_mem _ hq)
  cases ys with
  | nil=>simp [mg_nil_r]
  | cons y ys=>rw [List.cons_append,mg_cons,if_pos (h p (List.mem_cons_self ..) y (List.mem_cons_self ..)),ih];rfl
theorem mg_D {xs ys:List α}:∀ {qs:List α},(∀ q∈qs,∀ x∈xs,le x q=false)->mg le xs (qs++ys)=qs++mg le xs ys
 | [],_=>rfl
 | q::qs,h=>by
  have ih:=mg_D (xs:=xs) (ys:=ys) (qs:=qs) fun p hp=>h p (List.mem_cons_of_mem _ hp)
  cases xs with
  | nil=>simp [mg_nil_l]
  | cons x xs=>rw [List.cons_append,mg_cons,if_neg (by rw [h q (List.mem_cons_self ..) x (List.mem_cons_self ..)];simp),ih];rfl
theorem mg_A {zs:List α}:∀ (n:Nat) {xs ys:List α},xs.length+ys.length<=n->(∀ e∈ys,∀ z∈zs,le z e=false)->mg le (xs++zs) ys=mg le xs ys++zs
 | n,[],ys,_,h=>by
  rw [List.nil_append,mg_nil_l]
  have:=mg_D (le:=le) (xs:=zs) (ys:=[]) (qs:=ys) h
  rwa [List.append_nil,mg_nil_r] at this
 | n,x::xs,[],_,h=>by rw [mg_nil_r,mg_nil_r]
 | 0,x::xs,y::ys,hn,h=>by simp at hn
 | n+1,x::xs,y::ys,hn,h=>by
  simp only [List.length_cons] at hn
  rw [List.cons_append,mg_cons,mg_cons]
  split
  ·rw [mg_A n (xs:=xs) (ys:=y::ys) (by simp only [List.length_cons];omega) h];rfl
  ·have:=mg_A n (xs:=x::xs) (ys:=ys) (by simp only [List.length_cons];omega) fun e he=>h e (List.mem_cons_of_mem _ he)
   rw [List.cons_append] at this
   rw [this];rfl
theorem mg_B {ws:List α}:∀ (n:Nat) {xs ys:List α},xs.length+ys.length<=n->(∀ e∈xs,∀ z∈ws,le e z=true)->mg le xs (ys++ws)=mg le xs ys++ws
 | n,xs,[],_,h=>by
  rw [List.nil_append,mg_nil_r]
  have:=mg_C (le:=le) (xs:=[]) (ys:=ws) (ps:=xs) h
  rwa [List.append_nil,mg_nil_l] at this
 | n,[],y::ys,_,h=>by rw [mg_nil_l,mg_nil_l]
 | 0,x::xs,y::ys,hn,h=>by simp at hn
 | n+1,x::xs,y::ys,hn,h=>by
  simp only [List.length_cons] at hn
  rw [List.cons_append,mg_cons,mg_cons]
  split
  ·have:=mg_B n (xs:=xs) (ys:=y::ys) (by simp only [List.length_cons];omega) fun e he=>h e (List.mem_cons_of_mem _ he)
   rw [List.cons_append] at this
   rw [this];rfl
  ·rw [mg_B n (xs:=x::xs) (ys:=ys) (by simp only [List.length_cons];omega) h];rfl
theorem mg_map {β:Type} {le2:β->β->Bool} {f:α->β}:∀ (n:Nat) {xs ys:List α},xs.length+ys.length<=n->(∀ x∈xs,∀ y∈ys,le x y=le2 (f x) (f y))->mg le2 (xs.map f) (ys.map f)=(mg le xs ys).map f
 | n,[],ys,_,_=>by simp [mg_nil_l]
 | n,x::xs,[],_,_=>by simp [mg_nil_r]
 | 0,x::xs,y::ys,hn,_=>by simp at hn
 | n+1,x::xs,y::ys,hn,h=>by
  simp only [List.length_cons] at hn
  rw [List.map_cons,List.map_cons,mg_cons,mg_cons,<- h x (List.mem_cons_self ..) y (List.mem_cons_self ..)]
  split
  ·have:=mg_map n (xs:=xs) (ys:=y::ys) (le2:=le2) (f:=f) (by simp only [List.length_cons];omega) fun a ha b hb=>h a (List.mem_cons_of_mem _ ha) b hb
   rw [List.map_cons] at this
   rw [this];rfl
  ·have:=mg_map n (xs:=x::xs) (ys:=ys) (le2:=le2) (f:=f) (by simp only [List.length_cons];omega) fun a ha b hb=>h a ha b (List.mem_cons_of_mem _ hb)
   rw [List.map_cons] at this
   rw [this];rfl
end
section
variable {prog:Program} {w:World} {A:Around} {E:Value->Shared->Prop} {s:Shared} {st:SortSt}
theorem wpS_ltV {x y:Keyed} {i j:Int} {t u:Tok} {Q:Option Bool->SortSt->Prop} (hk:kindOf st=oneType') (hx:x.1=.int i t) (hy:y.1=.int j u) (h:Q (some (decide (i<j))) st) :
  wpS (model prog w) A E s (lt' x y) Q st:=by
 rw [lt'_eq]
 refine wpS_bind (wpS_get ?_)
 rw [hk,keyLt'_oneType,hx,hy]
 exact wpS_bind (wpS_lift (wpAny_attempt (oneLt_int ⟨rfl,wpS_pure h⟩)))
theorem wpS_elem {a:Array Keyed} {i:Nat} {Q:Keyed->SortSt->Prop} (hi:i<a.size) (h:Q a[i] st):wpS (model prog w) A E s (elem' a i) Q st:=by
 rw [elem'_eq,getElem?_pos a i hi]
 exact wpS_pure h
theorem key_of {a:Array Keyed} (h0:IntKeys a) {i:Nat} (hi:i<a.size):∃ t,a[i].1=.int (K a i) t:=by
 obtain ⟨t,q,e⟩:=at_key h0 hi
 rw [getElem?_pos a i hi] at e
 exact ⟨t,congrArg Prod.fst (Option.some.inj e)⟩
def gallop':Bool->Keyed->Array Keyed->Nat->Nat->Nat->StateT SortSt Sem (Option Nat):=sortPriv% PySem.Builtin.gallop
def bey (lf:Bool) (ke:Keyed) (ar:Array Keyed) (ba i:Nat):StateT SortSt Sem (Option Bool):=do
 let x <- elem' ar (ba+i)
 if lf=true then lt' x ke else do
  let r <- lt' ke x
  pure (r.map fun b=>!b)
def galB (bk:Nat->StateT SortSt Sem (Option Bool)) (n lo hi:Nat):StateT SortSt Sem (Option Nat):=do
 let z <- forIn [0:n] ((none,lo,hi):Option (Option Nat)×Nat×Nat) fun _ z =>
  if z.2.1 >= z.2.2 then pure (ForInStep.done (none,z.2.1,z.2.2)) else do
   let x <- bk (z.2.1+(z.2.2-z.2.1) / 2)
   match x with
   | some b=>if b=true then pure (ForInStep.yield (none,z.2.1+(z.2.2-z.2.1) / 2+1,z.2.2)) else pure (ForInStep.yield (none,z.2.1,z.2.1+(z.2.2-z.2.1) / 2))
   | _=>pure (ForInStep.done (some none,z.2.1,z.2.2))
 match z.1 with
 | some r=>pure r
 | none=>pure (some z.2.2)
def galR (bk:Nat->StateT SortSt Sem (Option Bool)) (n hint:Nat):StateT SortSt Sem (Option (Option Nat)×Nat×Nat) :=
 forIn [0:n] ((none,0,1):Option (Option Nat)×Nat×Nat) fun _ z =>
  if z.2.2 >= n-hint then pure (ForInStep.done (none,z.2.1,z.2.2)) else do
   let x <- bk (hint+z.2.2)
   match x with
   | some b=>if (!b)=true then pure (ForInStep.done (none,z.2.1,z.2.2)) else pure (ForInStep.yield (none,z.2.2,2*z.2.2+1))
   | _=>pure (ForInStep.done (some none,z.2.1,z.2.2))
def galL (bk:Nat->StateT SortSt Sem (Option Bool)) (n hint:Nat):StateT SortSt Sem (Option (Option Nat)×Nat×Nat) :=
 forIn [0:n] ((none,0,1):Option (Option Nat)×Nat×Nat) fun _ z =>
  if z.2.2 >= hint+1 then pure (ForInStep.done (none,z.2.1,z.2.2)) else do
   let x <- bk (hint-z.2.2)
   match x with
   | some b=>if b=true then pure (ForInStep.done (none,z.2.1,z.2.2)) else pure (ForInStep.yield (none,z.2.2,2*z.2.2+1))
   | _=>pure (ForInStep.done (some none,z.2.1,z.2.2))
theorem gallop'_do (lf:Bool) (ke:Keyed) (ar:Array Keyed) (ba n hint:Nat):gallop' lf ke ar ba n hint=(do
  let bk (i:Nat):StateT SortSt Sem (Option Bool):=do
   let x <- elem' ar (ba+i)
   if lf then lt' x ke else return (<- lt' ke x).map (!·)
  let mut la:=0
  let mut ofs:=1
  let mut lo:=0
  let mut hi:=0
  let some rt <- bk hint | return none
  if rt then
   let mx:=n-hint
   for _ in [0:n] do
    if ofs >= mx then break
    let some more <- bk (hint+ofs) | return none
    if !more then break
    la:=ofs
    ofs:=2*ofs+1
   lo:=hint+la+1
   hi:=hint+min ofs mx
  else
   let mx:=hint+1
   for _ in [0:n] do
    if ofs >= mx then break
    let some fo <- bk (hint-ofs) | return none
    if fo then break
    la:=ofs
    ofs:=2*ofs+1
   lo:=hint+1-min ofs mx
   hi:=hint-la
  for _ in [0:n] do
   if lo >= hi then break
   let m:=lo+(hi-lo) / 2
   let some more <- bk m | return none
   if more then lo:=m+1 else hi:=m
  return some hi):=rfl
theorem gallop'_eq (lf:Bool) (ke:Keyed) (ar:Array Keyed) (ba n hint:Nat):gallop' lf ke ar ba n hint=(do
  let x <- bey lf ke ar ba hint
  match x with
  | some b =>
   if b=true then do
    let z <- galR (bey lf ke ar ba) n hint
    match z.1 with
    | some r=>pure r
    | none=>galB (bey lf ke ar ba) n (hint+z.2.1+1) (hint+min z.2.2 (n-hint))
   else do
    let z <- galL (bey lf ke ar ba) n hint
    match z.1 with
    | some r=>pure r
    | none=>galB (bey lf ke ar ba) n (hint+1-min z.2.2 (hint+1)) (hint-z.2.1)
  | _=>pure none):=by
 rw [gallop'_do]
 show (bey lf ke ar ba hint >>= _)=_
 congr 1
 funext x
 unfold galR galL galB
 cases x with
 | none=>rfl
 | some b =>
  cases b with
  | true =>
   simp only [if_true]
   congr 1
   funext z
   obtain ⟨r,l,o⟩:=z
   cases r with
   | some r=>rfl
   | none =>
    dsimp only
    congr 1
    funext z
    obtain ⟨r,l,o⟩:=z
    cases r<;>rfl
  | false =>
   simp only [Bool.false_eq_true,if_false]
   congr 1
   funext z
   obtain ⟨r,l,o⟩:=z
   cases r with
   | some r=>rfl
   | none =>
    dsimp only
    congr 1
    funext z
    obtain ⟨r,l,o⟩:=z
    cases r<;>rfl
def Bd (lf:Bool) (kk:Int) (ar:Array Keyed) (ba i:Nat):Bool:=if lf=true then decide (K ar (ba+i)<kk) else !decide (kk<K ar (ba+i))
theorem wpS_bey {lf:Bool} {ke:Keyed} {kk:Int} {t:Tok} {ar:Array Keyed} {ba i:Nat} {Q:Option Bool->SortSt->Prop} (hk:kindOf st=oneType') (h0:IntKeys ar) (hke:ke.1=.int kk t) (hi:ba+i<ar.size) (h:Q (some (Bd lf kk ar ba i)) st) :
  wpS (model prog w) A E s (bey lf ke ar ba i) Q st:=by
 unfold bey
 refine wpS_bind (wpS_elem hi ?_)
 obtain ⟨u,e⟩:=key_of h0 hi
 unfold Bd at h
 cases lf with
 | true=>exact wpS_ltV hk e hke h
 | false=>exact wpS_bind (wpS_ltV hk hke e (wpS_pure h))
theorem wpS_galB {bk:Nat->StateT SortSt Sem (Option Bool)} {B:Nat->Bool} {n lo hi:Nat} {Q:Option Nat->SortSt->Prop} (hb:∀ i (Q:Option Bool->SortSt->Prop),i<n->Q (some (B i)) st->wpS (model prog w) A E s (bk i) Q st)
  (mono:∀ i j,i<=j->j<n->B j=true->B i=true) (h1:lo<=hi) (h2:hi<=n) (h3:∀ i,i<lo->B i=true) (h4:∀ i,hi<=i->i<n->B i=false)
  (h:∀ k,k<=n->(∀ i,i<k->B i=true)->(∀ i,k<=i->i<n->B i=false)->Q (some k) st):wpS (model prog w) A E s (galB bk n lo hi) Q st:=by
 unfold galB
 refine wpS_bind (wpS_mono (wpS_forRange (I:=fun x c z=>z=st/\∃ l r,c=(none,l,r)/\l<=r/\r<=n/\r-l<=n-x/\(∀ i,i<l->B i=true)/\∀ i,r<=i->i<n->B i=false)
  (Q:=fun c z=>z=st/\∃ l r,c=(none,l,r)/\r<=n/\(∀ i,i<r->B i=true)/\∀ i,r<=i->i<n->B i=false) ?step ?fin ⟨rfl,lo,hi,rfl,h1,h2,by omega,h3,h4⟩) ?post)
 case post =>
  rintro c z ⟨rfl,l,r,rfl,a1,a2,a3⟩
  exact wpS_pure (h r a1 a2 a3)
 case fin =>
  rintro c z ⟨rfl,l,r,rfl,a1,a2,a3,a4,a5⟩
  have:l=r:=by omega
  subst this
  exact ⟨rfl,l,l,rfl,a2,a4,a5⟩
 case step =>
  rintro x c z _ hx ⟨rfl,l,r,rfl,a1,a2,a3,a4,a5⟩
  dsimp only
  by_cases hge:l >= r
  ·rw [if_pos hge]
   have:l=r:=by omega
   subst this
   exact wpS_pure ⟨rfl,l,l,rfl,a2,a4,a5⟩
  ·rw [if_neg hge]
   refine wpS_bind (hb _ _ (by omega) ?_)
   cases hB:B (l+(r-l) / 2) with
   | true =>
    simp only [if_true]
    exact wpS_pure ⟨rfl,_,r,rfl,by omega,a2,by omega,fun i hi=>mono i _ (by omega) (by omega) hB,a5⟩
   | false =>
    simp only [Bool.false_eq_true,if_false]
    refine wpS_pure ⟨rfl,l,_,rfl,by omega,by omega,by omega,a4,fun i b1 b2=>?_⟩
    cases hi:B i with
    | false=>rfl
    | true=>rw [mono _ i b1 b2 hi] at hB;cases hB
theorem wpS_gallop {lf:Bool} {ke:Keyed} {kk:Int} {t:Tok} {ar:Array Keyed} {ba n hint:Nat} {Q:Option Nat->SortSt->Prop} (hk:kindOf st=oneType') (h0:IntKeys ar) (hke:ke.1=.int kk t) (hn:ba+n<=ar.size) (hh:hint<n)
  (mono:∀ i j,ba<=i->i<=j->j<ba+n->K ar i<=K ar j) (h:∀ k,k<=n->(∀ i,i<k->Bd lf kk ar ba i=true)->(∀ i,k<=i->i<n->Bd lf kk ar ba i=false)->Q (some k) st):wpS (model prog w) A E s (gallop' lf ke ar ba n hint) Q st:=by
 have hb:∀ i (Q:Option Bool->SortSt->Prop),i<n->Q (some (Bd lf kk ar ba i)) st->wpS (model prog w) A E s (bey lf ke ar ba i) Q st:=fun i Q hi q=>wpS_bey hk h0 hke (by omega) q
 have mon:∀ i j,i<=j->j<n->Bd lf kk ar ba j=true->Bd lf kk ar ba i=true:=fun i j a b c=>by
  have:=mono (ba+i) (ba+j) (by omega) (by omega) (by omega)
  unfold Bd at c |-
  cases lf with
  | true=>simp only [if_true,decide_eq_true_eq] at c |-;omega
  | false=>simp only [Bool.false_eq_true,if_false,Bool.not_eq_true',decide_eq_false_iff_not] at c |-;omega
 have monF:∀ i j,i<=j->j<n->Bd lf kk ar ba i=false->Bd lf kk ar ba j=false:=fun i j a b c=>by
  cases hj:Bd lf kk ar ba j with
  | false=>rfl
  | true=>rw [mon i j a b hj] at c;cases c
 rw [gallop'_eq]
 refine wpS_bind (hb hint _ hh ?_)
 cases hB:Bd lf kk ar ba hint with
 | true =>
  simp only [if_true]
  unfold galR
  refine wpS_bind (wpS_mono (wpS_forRange (I:=fun x c z=>z=st/\∃ l o,c=(none,l,o)/\l<o/\x<=l/\hint+l<n/\Bd lf kk ar ba (hint+l)=true)
   (Q:=fun c z=>z=st/\∃ l o,c=(none,l,o)/\l<o/\hint+l<n/\Bd lf kk ar ba (hint+l)=true/\(n-hint<=o\/(hint+o<n/\Bd lf kk ar ba (hint+o)=false))) ?step ?fin ⟨rfl,0,1,rfl,by omega,by omega,by omega,hB⟩) ?post)
  case fin =>
   rintro c z ⟨rfl,l,o,rfl,a1,a2,a3,a4⟩
   omega
  case step =>
   rintro x c z _ hx ⟨rfl,l,o,rfl,a1,a2,a3,a4⟩
   dsimp only
   by_cases hge:o >= n-hint
   ·rw [if_pos hge];exact wpS_pure ⟨rfl,l,o,rfl,a1,a3,a4,.inl hge⟩
   ·rw [if_neg hge]
    refine wpS_bind (hb _ _ (by omega) ?_)
    cases hC:Bd lf kk ar ba (hint+o) with
    | false=>simp only [Bool.not_false,if_true];exact wpS_pure ⟨rfl,l,o,rfl,a1,a3,a4,.inr ⟨by omega,hC⟩⟩
    | true=>simp only [Bool.not_true,Bool.false_eq_true,if_false];exact wpS_pure ⟨rfl,o,2*o+1,rfl,by omega,by omega,by omega,hC⟩
  case post =>
   rintro c z ⟨rfl,l,o,rfl,a1,a2,a3,a4⟩
   dsimp only
   refine wpS_galB hb mon (by omega) (by omega) (fun i hi=>mon i (hint+l) (by omega) a2 a3) (fun i b1 b2=>?_) h
   rcases a4 with a4 | ⟨a4,a5⟩
   ·omega
   ·exact monF (hint+o) i (by omega) b2 a5
 | false =>
  simp only [Bool.false_eq_true,if_false]
  unfold galL
  refine wpS_bind (wpS_mono (wpS_forRange (I:=fun x c z=>z=st/\∃ l o,c=(none,l,o)/\l<o/\x<=l/\l<=hint/\Bd lf kk ar ba (hint-l)=false)
   (Q:=fun c z=>z=st/\∃ l o,c=(none,l,o)/\l<o/\l<=hint/\Bd lf kk ar ba (hint-l)=false/\(hint+1<=o\/(o<=hint/\Bd lf kk ar ba (hint-o)=true))) ?step ?fin ⟨rfl,0,1,rfl,by omega,by omega,by omega,hB⟩) ?post)
  case fin =>
   rintro c z ⟨rfl,l,o,rfl,a1,a2,a3,a4⟩
   omega
  case step =>
   rintro x c z _ hx ⟨rfl,l,o,rfl,a1,a2,a3,a4⟩
   dsimp only
   by_cases hge:o >= hint+1
   ·rw [if_pos hge];exact wpS_pure ⟨rfl,l,o,rfl,a1,a3,a4,.inl hge⟩
   ·rw [if_neg hge]
    refine wpS_bind (hb _ _ (by omega) ?_)
    cases hC:Bd lf kk ar ba (hint-o) with
    | true=>simp only [if_true];exact wpS_pure ⟨rfl,l,o,rfl,a1,a3,a4,.inr ⟨by omega,hC⟩⟩
    | false=>simp only [Bool.false_eq_true,if_false];exact wpS_pure ⟨rfl,o,2*o+1,rfl,by omega,by omega,by omega,hC⟩
  case post =>
   rintro c z ⟨rfl,l,o,rfl,a1,a2,a3,a4⟩
   dsimp only
   refine wpS_galB hb mon (by omega) (by omega) (fun i hi=>?_) (fun i b1 b2=>monF (hint-l) i (by omega) b2 a3) h
   rcases a4 with a4 | ⟨a4,a5⟩
   ·omega
   ·exact mon i (hint-o) (by omega) (by omega) a5
end
abbrev SM:=StateT SortSt Sem
def setG':Nat->SM Unit:=sortPriv% PySem.Builtin.setMinGallop
theorem setG'_eq (n:Nat):setG' n=modify fun s=>SortSt.mk' (kindOf s) (arrOf s) (pendingOf s) n (failedOf s):=rfl
def mergeLo':Array Keyed->Array Keyed->SM (Array Keyed):=sortPriv% PySem.Builtin.mergeLo
def mergeHi':Array Keyed->Array Keyed->SM (Array Keyed):=sortPriv% PySem.Builtin.mergeHi
theorem mergeLo'_do (a b:Array Keyed):mergeLo' a b=(do
 rule "list.sort.merge-lo"
 let tot:=a.size+b.size
 let dn (o:Array Keyed) (i j:Nat):=o++a.extract i a.size++b.extract j b.size
 let la (o:Array Keyed) (i j:Nat):=o++b.extract j b.size++a.extract i a.size
 let mut o:Array Keyed:=#[<- elem' b 0]
 let mut i:=0
 let mut j:=1
 if j == b.size then return dn o i j
 if i+1 == a.size then return la o i j
 let mut m:=gallopOf (<- get)
 for _ in [0:tot] do
  let mut ac:=0
  let mut bc:=0
  for _ in [0:tot] do
   let some bw <- lt' (<- elem' b j) (<- elem' a i) | return dn o i j
   if bw then
    o:=o.push (<- elem' b j);j:=j+1;bc:=bc+1;ac:=0
    if j == b.size then return dn o i j
    if bc >= m then break
   else
    o:=o.push (<- elem' a i);i:=i+1;ac:=ac+1;bc:=0
    if i+1 == a.size then return la o i j
    if ac >= m then break
  rule "list.sort.gallop"
  m:=m+1
  for _ in [0:tot] do
   if m > 1 then m:=m-1
   setG' m
   let some k <- gallop' false (<- elem' b j) a i (a.size-i) 0 | return dn o i j
   ac:=k
   if k > 0 then
    o:=o++a.extract i (i+k);i:=i+k
    if i+1 == a.size then return la o i j
    if i == a.size then return dn o i j
   o:=o.push (<- elem' b j);j:=j+1
   if j == b.size then return dn o i j
   let some k <- gallop' true (<- elem' a i) b j (b.size-j) 0 | return dn o i j
   bc:=k
   if k > 0 then
    o:=o++b.extract j (j+k);j:=j+k
    if j == b.size then return dn o i j
   o:=o.push (<- elem' a i);i:=i+1
   if i+1 == a.size then return la o i j
   if ac<7 && bc<7 then break
  m:=m+1
  setG' m
 unsupported "internal:list.sort.merge-bound"):=rfl
theorem mergeHi'_do (a b:Array Keyed):mergeHi' a b=(do
 rule "list.sort.merge-hi"
 let tot:=a.size+b.size
 let dn (o:Array Keyed) (na nb:Nat):=a.extract 0 na++b.extract 0 nb++o.reverse
 let fb (o:Array Keyed) (na nb:Nat):=b.extract 0 nb++a.extract 0 na++o.reverse
 let mut na:=a.size-1
 let mut nb:=b.size
 let mut o:Array Keyed:=#[<- elem' a na]
 if na == 0 then return dn o na nb
 if nb == 1 then return fb o na nb
 let mut m:=gallopOf (<- get)
 for _ in [0:tot] do
  let mut ac:=0
  let mut bc:=0
  for _ in [0:tot] do
   let some aw <- lt' (<- elem' b (nb-1)) (<- elem' a (na-1)) | return dn o na nb
   if aw then
    na:=na-1;o:=o.push (<- elem' a na);ac:=ac+1;bc:=0
    if na == 0 then return dn o na nb
    if ac >= m then break
   else
    nb:=nb-1;o:=o.push (<- elem' b nb);bc:=bc+1;ac:=0
    if nb == 1 then return fb o na nb
    if bc >= m then break
  rule "list.sort.gallop"
  m:=m+1
  for _ in [0:tot] do
   if m > 1 then m:=m-1
   setG' m
   let some p <- gallop' false (<- elem' b (nb-1)) a 0 na (na-1) | return dn o na nb
   let k:=na-p
   ac:=k
   if k > 0 then
    o:=o++(a.extract p na).reverse;na:=p
    if na == 0 then return dn o na nb
   nb:=nb-1;o:=o.push (<- elem' b nb)
   if nb == 1 then return fb o na nb
   let some p <- gallop' true (<- elem' a (na-1)) b 0 nb (nb-1) | return dn o na nb
   let k:=nb-p
   bc:=k
   if k > 0 then
    o:=o++(b.extract p nb).reverse;nb:=p
    if nb == 1 then return fb o na nb
    if nb == 0 then return dn o na nb
   na:=na-1;o:=o.push (<- elem' a na)
   if na == 0 then return dn o na nb
   if ac<7 && bc<7 then break
  m:=m+1
  setG' m
 unsupported "internal:list.sort.merge-bound"):=rfl
abbrev S5:=Option (Array Keyed)×Array Keyed×Nat×Nat×Nat×Nat
abbrev S6:=Option (Array Keyed)×Array Keyed×Nat×Nat×Nat×Nat×Nat
abbrev S4:=Option (Array Keyed)×Array Keyed×Nat×Nat×Nat
section
variable (a b:Array Keyed)
def loDn (o:Array Keyed) (i j:Nat):=o++a.extract i a.size++b.extract j b.size
def loLa (o:Array Keyed) (i j:Nat):=o++b.extract j b.size++a.extract i a.size
def lo1 (m:Nat) (z:S5):SM (ForInStep S5):=do
 let y <- elem' b z.2.2.2.1
 let x <- elem' a z.2.2.1
 let r <- lt' y x
 match r with
 | some w =>
  if w=true then do
   let y <- elem' b z.2.2.2.1
   if (z.2.2.2.1+1 == b.size)=true then pure (.done (some (loDn a b (z.2.1.push y) z.2.2.1 (z.2.2.2.1+1)),z.2.1.push y,z.2.2.1,z.2.2.2.1+1,0,z.2.2.2.2.2+1))
   else if z.2.2.2.2.2+1 >= m then pure (.done (none,z.2.1.push y,z.2.2.1,z.2.2.2.1+1,0,z.2.2.2.2.2+1)) else pure (.yield (none,z.2.1.push y,z.2.2.1,z.2.2.2.1+1,0,z.2.2.2.2.2+1))
  else do
   let x <- elem' a z.2.2.1
   if (z.2.2.1+1+1 == a.size)=true then pure (.done (some (loLa a b (z.2.1.push x) (z.2.2.1+1) z.2.2.2.1),z.2.1.push x,z.2.2.1+1,z.2.2.2.1,z.2.2.2.2.1+1,0))
   else if z.2.2.2.2.1+1 >= m then pure (.done (none,z.2.1.push x,z.2.2.1+1,z.2.2.2.1,z.2.2.2.2.1+1,0)) else pure (.yield (none,z.2.1.push x,z.2.2.1+1,z.2.2.2.1,z.2.2.2.2.1+1,0))
 | _=>pure (.done (some (loDn a b z.2.1 z.2.2.1 z.2.2.2.1),z.2.1,z.2.2.1,z.2.2.2.1,z.2.2.2.2.1,z.2.2.2.2.2))
def loC (m ac bc i:Nat) (o:Array Keyed) (j:Nat):SM (ForInStep S6):=do
 let x <- elem' a i
 if (i+1+1 == a.size)=true then pure (.done (some (loLa a b (o.push x) (i+1) j),o.push x,i+1,j,m,ac,bc))
 else if (decide (ac<7) && decide (bc<7))=true then pure (.done (none,o.push x,i+1,j,m,ac,bc)) else pure (.yield (none,o.push x,i+1,j,m,ac,bc))
def loB (m ac bc j:Nat) (o:Array Keyed) (i:Nat):SM (ForInStep S6):=do
 let y <- elem' b j
 if (j+1 == b.size)=true then pure (.done (some (loDn a b (o.push y) i (j+1)),o.push y,i,j+1,m,ac,bc))
 else do
  let x <- elem' a i
  let r <- gallop' true x b (j+1) (b.size-(j+1)) 0
  match r with
  | some k =>
   if k > 0 then
    if (j+1+k == b.size)=true then pure (.done (some (loDn a b (o.push y++b.extract (j+1) (j+1+k)) i (j+1+k)),o.push y++b.extract (j+1) (j+1+k),i,j+1+k,m,ac,k))
    else loC a b m ac k i (o.push y++b.extract (j+1) (j+1+k)) (j+1+k)
   else loC a b m ac k i (o.push y) (j+1)
  | _=>pure (.done (some (loDn a b (o.push y) i (j+1)),o.push y,i,j+1,m,ac,bc))
def loA (o:Array Keyed) (i j ac bc m:Nat):SM (ForInStep S6):=do
 setG' m
 let y <- elem' b j
 let r <- gallop' false y a i (a.size-i) 0
 match r with
 | some k =>
  if k > 0 then
   if (i+k+1 == a.size)=true then pure (.done (some (loLa a b (o++a.extract i (i+k)) (i+k) j),o++a.extract i (i+k),i+k,j,m,k,bc))
   else if (i+k == a.size)=true then pure (.done (some (loDn a b (o++a.extract i (i+k)) (i+k) j),o++a.extract i (i+k),i+k,j,m,k,bc))
   else loB a b m k bc j (o++a.extract i (i+k)) (i+k)
  else loB a b m k bc j o i
 | _=>pure (.done (some (loDn a b o i j),o,i,j,m,ac,bc))
def lo2 (z:S6):SM (ForInStep S6) :=
 if z.2.2.2.2.1 > 1 then loA a b z.2.1 z.2.2.1 z.2.2.2.1 z.2.2.2.2.2.1 z.2.2.2.2.2.2 (z.2.2.2.2.1-1) else loA a b z.2.1 z.2.2.1 z.2.2.2.1 z.2.2.2.2.2.1 z.2.2.2.2.2.2 z.2.2.2.2.1
def lo3 (z:S4):SM (ForInStep S4):=do
 let y <- forIn [0:a.size+b.size] ((none,z.2.1,z.2.2.1,z.2.2.2.1,0,0):S5) fun _ y=>lo1 a b z.2.2.2.2 y
 match y.1 with
 | some r=>pure (.done (some r,y.2.1,y.2.2.1,y.2.2.2.1,z.2.2.2.2))
 | none=>do
  liftM (rule "list.sort.gallop")
  let u <- forIn [0:a.size+b.size] ((none,y.2.1,y.2.2.1,y.2.2.2.1,z.2.2.2.2+1,y.2.2.2.2.1,y.2.2.2.2.2):S6) fun _ u=>lo2 a b u
  match u.1 with
  | some r=>pure (.done (some r,u.2.1,u.2.2.1,u.2.2.2.1,u.2.2.2.2.1))
  | none=>do
   setG' (u.2.2.2.2.1+1)
   pure (.yield (none,u.2.1,u.2.2.1,u.2.2.2.1,u.2.2.2.2.1+1))
theorem bnd {α β:Type} {m m':SM α} {f f':α->SM β} (h1:m=m') (h2:∀ x,f x=f' x):(m >>= f)=(m' >>= f'):=by
 rw [h1,show f=f' from funext h2]
theorem mergeLo'_eq:mergeLo' a b=(do
  liftM (rule "list.sort.merge-lo")
  let y <- elem' b 0
  if (1 == b.size)=true then pure (loDn a b #[y] 0 1)
  else if (0+1 == a.size)=true then pure (loLa a b #[y] 0 1)
  else do
   let g <- get
   let z <- forIn [0:a.size+b.size] ((none,#[y],0,1,gallopOf g):S4) fun _ z=>lo3 a b z
   match z.1 with
   | some r=>pure r
   | none=>liftM (unsupported "internal:list.sort.merge-bound":Sem (Array Keyed))):=by
 rw [mergeLo'_do]
 refine bnd rfl fun _=>?_
 show (elem' b 0 >>= _)=_
 refine bnd rfl fun y=>?_
 show (if (1 == b.size)=true then _ else _)=_
 split
 ·rfl
 show (if (0+1 == a.size)=true then _ else _)=_
 split
 ·rfl
 show (get >>= _)=_
 refine bnd rfl fun g=>?_
 refine bnd ?_ fun z=>?_
 ·show forIn [0:a.size+b.size] _ _=forIn [0:a.size+b.size] _ _
  congr 1
  funext _ z
  unfold lo3
  refine bnd ?_ fun y=>?_
  ·show forIn [0:a.size+b.size] _ _=forIn [0:a.size+b.size] _ _
   congr 1
  ·obtain ⟨r,y⟩:=y
   cases r with
   | some r=>rfl
   | none =>
    refine bnd rfl fun _=>?_
    refine bnd ?_ fun u=>?_
    ·show forIn [0:a.size+b.size] _ _=forIn [0:a.size+b.size] _ _
     congr 1
    ·obtain ⟨r,u⟩:=u
     cases r<;>rfl
 ·obtain ⟨r,z⟩:=z
  cases r<;>rfl
end
end SS

namespace SS
open PySem PyProof.Rows
abbrev H5:=Option (Array Keyed)×Nat×Nat×Array Keyed×Nat×Nat
abbrev H6:=Option (Array Keyed)×Nat×Nat×Array Keyed×Nat×Nat×Nat
abbrev H4:=Option (Array Keyed)×Nat×Nat×Array Keyed×Nat
section
variable (a b:Array Keyed)
def hiDn (o:Array Keyed) (na nb:Nat):=a.extract 0 na++b.extract 0 nb++o.reverse
def hiFb (o:Array Keyed) (na nb:Nat):=b.extract 0 nb++a.extract 0 na++o.reverse
def hi1 (m:Nat) (z:H5):SM (ForInStep H5):=do
 let y <- elem' b (z.2.2.1-1)
 let x <- elem' a (z.2.1-1)
 let r <- lt' y x
 match r with
 | some w =>
  if w=true then do
   let x <- elem' a (z.2.1-1)
   if (z.2.1-1 == 0)=true then pure (.done (some (hiDn a b (z.2.2.2.1.push x) (z.2.1-1) z.2.2.1),z.2.1-1,z.2.2.1,z.2.2.2.1.push x,z.2.2.2.2.1+1,0))
   else if z.2.2.2.2.1+1 >= m then pure (.done (none,z.2.1-1,z.2.2.1,z.2.2.2.1.push x,z.2.2.2.2.1+1,0)) else pure (.yield (none,z.2.1-1,z.2.2.1,z.2.2.2.1.push x,z.2.2.2.2.1+1,0))
  else do
   let y <- elem' b (z.2.2.1-1)
   if (z.2.2.1-1 == 1)=true then pure (.done (some (hiFb a b (z.2.2.2.1.push y) z.2.1 (z.2.2.1-1)),z.2.1,z.2.2.1-1,z.2.2.2.1.push y,0,z.2.2.2.2.2+1))
   else if z.2.2.2.2.2+1 >= m then pure (.done (none,z.2.1,z.2.2.1-1,z.2.2.2.1.push y,0,z.2.2.2.2.2+1)) else pure (.yield (none,z.2.1,z.2.2.1-1,z.2.2.2.1.push y,0,z.2.2.2.2.2+1))
 | _=>pure (.done (some (hiDn a b z.2.2.2.1 z.2.1 z.2.2.1),z.2.1,z.2.2.1,z.2.2.2.1,z.2.2.2.2.1,z.2.2.2.2.2))
def hiC (m ac bc na:Nat) (o:Array Keyed) (nb:Nat):SM (ForInStep H6):=do
 let x <- elem' a (na-1)
 if (na-1 == 0)=true then pure (.done (some (hiDn a b (o.push x) (na-1) nb),na-1,nb,o.push x,m,ac,bc))
 else if (decide (ac<7) && decide (bc<7))=true then pure (.done (none,na-1,nb,o.push x,m,ac,bc)) else pure (.yield (none,na-1,nb,o.push x,m,ac,bc))
def hiB (m ac bc nb:Nat) (o:Array Keyed) (na:Nat):SM (ForInStep H6):=do
 let y <- elem' b (nb-1)
 if (nb-1 == 1)=true then pure (.done (some (hiFb a b (o.push y) na (nb-1)),na,nb-1,o.push y,m,ac,bc))
 else do
  let x <- elem' a (na-1)
  let r <- gallop' true x b 0 (nb-1) (nb-1-1)
  match r with
  | some p =>
   if nb-1-p > 0 then
    if (p == 1)=true then pure (.done (some (hiFb a b (o.push y++(b.extract p (nb-1)).reverse) na p),na,p,o.push y++(b.extract p (nb-1)).reverse,m,ac,nb-1-p))
    else if (p == 0)=true then pure (.done (some (hiDn a b (o.push y++(b.extract p (nb-1)).reverse) na p),na,p,o.push y++(b.extract p (nb-1)).reverse,m,ac,nb-1-p))
    else hiC a b m ac (nb-1-p) na (o.push y++(b.extract p (nb-1)).reverse) p
   else hiC a b m ac (nb-1-p) na (o.push y) (nb-1)
  | _=>pure (.done (some (hiDn a b (o.push y) na (nb-1)),na,nb-1,o.push y,m,ac,bc))
def hiA (o:Array Keyed) (na nb ac bc m:Nat):SM (ForInStep H6):=do
 setG' m
 let y <- elem' b (nb-1)
 let r <- gallop' false y a 0 na (na-1)
 match r with
 | some p =>
  if na-p > 0 then
   if (p == 0)=true then pure (.done (some (hiDn a b (o++(a.extract p na).reverse) p nb),p,nb,o++(a.extract p na).reverse,m,na-p,bc))
   else hiB a b m (na-p) bc nb (o++(a.extract p na).reverse) p
  else hiB a b m (na-p) bc nb o na
 | _=>pure (.done (some (hiDn a b o na nb),na,nb,o,m,ac,bc))
def hi2 (z:H6):SM (ForInStep H6) :=
 if z.2.2.2.2.1 > 1 then hiA a b z.2.2.2.1 z.2.1 z.2.2.1 z.2.2.2.2.2.1 z.2.2.2.2.2.2 (z.2.2.2.2.1-1) else hiA a b z.2.2.2.1 z.2.1 z.2.2.1 z.2.2.2.2.2.1 z.2.2.2.2.2.2 z.2.2.2.2.1
def hi3 (z:H4):SM (ForInStep H4):=do
 let y <- forIn [0:a.size+b.size] ((none,z.2.1,z.2.2.1,z.2.2.2.1,0,0):H5) fun _ y=>hi1 a b z.2.2.2.2 y
 match y.1 with
 | some r=>pure (.done (some r,y.2.1,y.2.2.1,y.2.2.2.1,z.2.2.2.2))
 | none=>do
  liftM (rule "list.sort.gallop")
  let u <- forIn [0:a.size+b.size] ((none,y.2.1,y.2.2.1,y.2.2.2.1,z.2.2.2.2+1,y.2.2.2.2.1,y.2.2.2.2.2):H6) fun _ u=>hi2 a b u
  match u.1 with
  | some r=>pure (.done (some r,u.2.1,u.2.2.1,u.2.2.2.1,u.2.2.2.2.1))
  | none=>do
   setG' (u.2.2.2.2.1+1)
   pure (.yield (none,u.2.1,u.2.2.1,u.2.2.2.1,u.2.2.2.2.1+1))
theorem mergeHi'_eq:mergeHi' a b=(do
  liftM (rule "list.sort.merge-hi")
  let x <- elem' a (a.size-1)
  if (a.size-1 == 0)=true then pure (hiDn a b #[x] (a.size-1) b.size)
  else if (b.size == 1)=true then pure (hiFb a b #[x] (a.size-1) b.size)
  else do
   let g <- get
   let z <- forIn [0:a.size+b.size] ((none,a.size-1,b.size,#[x],gallopOf g):H4) fun _ z=>hi3 a b z
   match z.1 with
   | some r=>pure r
   | none=>liftM (unsupported "internal:list.sort.merge-bound":Sem (Array Keyed))):=by
 rw [mergeHi'_do]
 refine bnd rfl fun _=>?_
 show (elem' a (a.size-1) >>= _)=_
 refine bnd rfl fun y=>?_
 show (if (a.size-1 == 0)=true then _ else _)=_
 split
 ·rfl
 show (if (b.size == 1)=true then _ else _)=_
 split
 ·rfl
 show (get >>= _)=_
 refine bnd rfl fun g=>?_
 refine bnd ?_ fun z=>?_
 ·show forIn [0:a.size+b.size] _ _=forIn [0:a.size+b.size] _ _
  congr 1
  funext _ z
  unfold hi3
  refine bnd ?_ fun y=>?_
  ·show forIn [0:a.size+b.size] _ _=forIn [0:a.size+b.size] _ _
   congr 1
  ·obtain ⟨r,y⟩:=y
   cases r with
   | some r=>rfl
   | none =>
    refine bnd rfl fun _=>?_
    refine bnd ?_ fun u=>?_
    ·show forIn [0:a.size+b.size] _ _=forIn [0:a.size+b.size] _ _
     congr 1
    ·obtain ⟨r,u⟩:=u
     cases r<;>rfl
 ·obtain ⟨r,z⟩:=z
  cases r<;>rfl
end
def kle (x y:Keyed):Bool:=decide (numOf x.1<=numOf y.1)
theorem kle_at {a b:Array Keyed} {i j:Nat} (hi:i<a.size) (hj:j<b.size):kle a[i] b[j]=decide (K a i<=K b j):=by
 unfold kle;rw [K_eq hi,K_eq hj]
structure Two (a b:Array Keyed):Prop where
 ia:IntKeys a
 ib:IntKeys b
 sa:∀ i j,i<=j->j<a.size->K a i<=K a j
 sb:∀ i j,i<=j->j<b.size->K b i<=K b j
 na:0<a.size
 nb:0<b.size
 last:∀ j,j<b.size->K b j<K a (a.size-1)
 first:∀ i,i<a.size->K b 0<K a i
structure GEq (st z:SortSt):Prop where
 kind:kindOf z=kindOf st
 arr:arrOf z=arrOf st
 pend:pendingOf z=pendingOf st
 fail:failedOf z=failedOf st
section
variable {a b:Array Keyed}
abbrev Mg (a b:Array Keyed):List Keyed:=mg kle a.toList b.toList
theorem dropA {i:Nat} (h:i<a.size):a.toList.drop i=a[i]::a.toList.drop (i+1):=by
 rw [List.drop_eq_getElem_cons (by simpa using h)];simp
theorem mem_drop {x:Keyed} {i:Nat} (h:x∈a.toList.drop i):∃ k,∃ (hk:k<a.size),i<=k/\x=a[k]:=by
 obtain ⟨k,hk,rfl⟩:=List.getElem_of_mem h
 rw [List.length_drop] at hk
 have:i+k<a.size:=by simpa using (by omega:i+k<a.toList.length)
 exact ⟨i+k,this,by omega,by rw [List.getElem_drop];simp⟩
theorem mem_seg {x:Keyed} {i n:Nat} (h:x∈(a.toList.drop i).take n):∃ k,∃ (hk:k<a.size),i<=k/\k<i+n/\x=a[k]:=by
 obtain ⟨k,hk,rfl⟩:=List.getElem_of_mem h
 rw [List.length_take,List.length_drop] at hk
 have:i+k<a.size:=by simpa using (by omega:i+k<a.toList.length)
 exact ⟨i+k,this,by omega,by omega,by rw [List.getElem_take,List.getElem_drop];simp⟩
theorem ext_list {i j:Nat} (h:i<=j):(a.extract i j).toList=(a.toList.drop i).take (j-i):=by
 rw [Array.toList_extract,List.extract_eq_take_drop]
def MI (a b:Array Keyed) (o:Array Keyed) (i j:Nat):Prop:=o.toList++mg kle (a.toList.drop i) (b.toList.drop j)=Mg a b
theorem MI.pb (t:Two a b) {o:Array Keyed} {i j:Nat} (h:MI a b o i j) (hj:j<b.size) (c:∀ k,i<=k->k<a.size->K b j<K a k):MI a b (o.push b[j]) i (j+1):=by
 unfold MI at h |-
 rw [dropA hj] at h
 have:=mg_D (le:=kle) (xs:=a.toList.drop i) (ys:=b.toList.drop (j+1)) (qs:=[b[j]]) fun q hq x hx=>by
  obtain ⟨k,hk,h1,rfl⟩:=mem_drop hx
  rw [List.mem_singleton] at hq
  subst hq
  rw [kle_at hk hj,decide_eq_false_iff_not]
  have:=c k h1 hk
  omega
 rw [List.singleton_append] at this
 rw [this] at h
 rw [Array.toList_push,<- h]
 simp
theorem MI.pa (t:Two a b) {o:Array Keyed} {i j:Nat} (h:MI a b o i j) (hi:i<a.size) (c:∀ k,j<=k->k<b.size->K a i<=K b k):MI a b (o.push a[i]) (i+1) j:=by
 unfold MI at h |-
 rw [dropA hi] at h
 have:=mg_C (le:=kle) (xs:=a.toList.drop (i+1)) (ys:=b.toList.drop j) (ps:=[a[i]]) fun q hq x hx=>by
  obtain ⟨k,hk,h1,rfl⟩:=mem_drop hx
  rw [List.mem_singleton] at hq
  subst hq
  rw [kle_at hi hk,decide_eq_true_eq]
  exact c k h1 hk
 rw [List.singleton_append] at this
 rw [this] at h
 rw [Array.toList_push,<- h]
 simp
theorem MI.as (t:Two a b) {o:Array Keyed} {i j k:Nat} (h:MI a b o i j) (c:∀ p,i<=p->p<i+k->p<a.size->∀ q,j<=q->q<b.size->K a p<=K b q):MI a b (o++a.extract i (i+k)) (i+k) j:=by
 unfold MI at h |-
 have e:a.toList.drop i=(a.toList.drop i).take k++a.toList.drop (i+k):=by rw [<- List.drop_drop,List.take_append_drop]
 rw [e,mg_C (fun p hp' y hy=>?_)] at h
 ·rw [Array.toList_append,ext_list (by omega),show i+k-i=k by omega,<- h]
  simp
 ·obtain ⟨p,hp,h1,h2,rfl⟩:=mem_seg hp'
  obtain ⟨q,hq,h3,rfl⟩:=mem_drop hy
  rw [kle_at hp hq,decide_eq_true_eq]
  exact c p h1 h2 hp q h3 hq
theorem MI.bs (t:Two a b) {o:Array Keyed} {i j k:Nat} (h:MI a b o i j) (c:∀ p,j<=p->p<j+k->p<b.size->∀ q,i<=q->q<a.size->K b p<K a q):MI a b (o++b.extract j (j+k)) i (j+k):=by
 unfold MI at h |-
 have e:b.toList.drop j=(b.toList.drop j).take k++b.toList.drop (j+k):=by rw [<- List.drop_drop,List.take_append_drop]
 rw [e,mg_D (fun p hp' y hy=>?_)] at h
 ·rw [Array.toList_append,ext_list (by omega),show j+k-j=k by omega,<- h]
  simp
 ·obtain ⟨p,hp,h1,h2,rfl⟩:=mem_seg hp'
  obtain ⟨q,hq,h3,rfl⟩:=mem_drop hy
  rw [kle_at hq hp,decide_eq_false_iff_not]
  have:=c p h1 h2 hp q h3 hq
  omega
theorem ext_all {i:Nat}:(a.extract i a.size).toList=a.toList.drop i:=by
 rw [Array.toList_extract,List.extract_eq_take_drop,List.take_of_length_le (by simp)]
theorem MI.dn {o:Array Keyed} {i j:Nat} (h:MI a b o i j) (hj:j=b.size):(loDn a b o i j).toList=Mg a b:=by
 unfold MI at h
 unfold loDn
 rw [Array.toList_append,Array.toList_append,ext_all,ext_all,<- h,show b.toList.drop j=[] from List.drop_eq_nil_of_le (by simp [hj]),mg_nil_r,List.append_nil]
theorem MI.la (t:Two a b) {o:Array Keyed} {i j:Nat} (h:MI a b o i j) (hi:i+1=a.size):(loLa a b o i j).toList=Mg a b:=by
 unfold MI at h
 unfold loLa
 have:=mg_D (le:=kle) (xs:=a.toList.drop i) (ys:=[]) (qs:=b.toList.drop j) fun q hq x hx=>by
  obtain ⟨k,hk,h1,rfl⟩:=mem_drop hx
  obtain ⟨l,hl,h3,rfl⟩:=mem_drop hq
  rw [kle_at hk hl,decide_eq_false_iff_not]
  have:=t.last l hl
  rw [show a.size-1=k by omega] at this
  omega
 rw [List.append_nil,mg_nil_r] at this
 rw [Array.toList_append,Array.toList_append,ext_all,ext_all,<- h,this,List.append_assoc]
end
section
variable {prog:Program} {w:World} {A:Around} {E:Value->Shared->Prop} {s:Shared} {st:SortSt} {a b:Array Keyed}
theorem GEq.refl:GEq st st:=⟨rfl,rfl,rfl,rfl⟩
theorem wpS_setG {n:Nat} {z:SortSt} {Q:Unit->SortSt->Prop} (g:GEq st z) (h:∀ z',GEq st z'->Q () z'):wpS (model prog w) A E s (setG' n) Q z:=by
 rw [setG'_eq]
 exact wpS_modify (h _ ⟨g.kind,g.arr,g.pend,g.fail⟩)
structure Pl (a b o:Array Keyed) (i j:Nat):Prop where
 hi:i+1<a.size
 hj:j<b.size
 mi:MI a b o i j
def O5 (a b:Array Keyed) (st:SortSt) (n:Nat) (c:S5) (z:SortSt):Prop:=GEq st z/\match c.1 with | some r=>r.toList=Mg a b | none=>Pl a b c.2.1 c.2.2.1 c.2.2.2.1/\n<=c.2.2.1+c.2.2.2.1
def O6 (a b:Array Keyed) (st:SortSt) (n:Nat) (c:S6) (z:SortSt):Prop:=GEq st z/\match c.1 with | some r=>r.toList=Mg a b | none=>Pl a b c.2.1 c.2.2.1 c.2.2.2.1/\n<=c.2.2.1+c.2.2.2.1
theorem wpS_lo1 (t:Two a b) (hk:kindOf st=oneType') {m n:Nat} {c:S5} {z:SortSt} (g:GEq st z) (p:Pl a b c.2.1 c.2.2.1 c.2.2.2.1) (hn:n<=c.2.2.1+c.2.2.2.1) :
  wpS (model prog w) A E s (lo1 a b m c) (fun r z'=>match r with | .done c'=>O5 a b st (n+1) c' z' | .yield c'=>GEq st z'/\c'.1=none/\Pl a b c'.2.1 c'.2.2.1 c'.2.2.2.1/\n+1<=c'.2.2.1+c'.2.2.2.1) z:=by
 obtain ⟨r0,o,i,j,ac,bc⟩:=c
 dsimp only at p hn
 have h1:=p.hi
 have h2:=p.hj
 unfold lo1
 dsimp only
 refine wpS_bind (wpS_elem h2 (wpS_bind (wpS_elem (by omega) ?_)))
 obtain ⟨t1,e1⟩:=key_of t.ib h2
 obtain ⟨t2,e2⟩:=key_of t.ia (show i<a.size by omega)
 refine wpS_bind (wpS_ltV (g.kind.trans hk) e1 e2 ?_)
 by_cases hl:K b j<K a i
 ·simp only [hl,decide_true,if_true]
  refine wpS_bind (wpS_elem h2 ?_)
  have mi:=p.mi.pb t h2 fun k k1 k2=>Int.lt_of_lt_of_le hl (t.sa i k k1 k2)
  split
  ·rename_i e
   exact wpS_pure ⟨g,mi.dn (by simpa using e)⟩
  ·rename_i e
   have e':j+1≠b.size:=by simpa using e
   have pl:Pl a b (o.push b[j]) i (j+1):=⟨h1,by omega,mi⟩
   split
   ·exact wpS_pure ⟨g,pl,by dsimp only;omega⟩
   ·exact wpS_pure ⟨g,rfl,pl,by dsimp only;omega⟩
 ·simp only [hl,decide_false,Bool.false_eq_true,if_false]
  refine wpS_bind (wpS_elem (show i<a.size by omega) ?_)
  have mi:=p.mi.pa t (by omega) fun k k1 k2=>Int.le_trans (Int.not_lt.mp hl) (t.sb j k k1 k2)
  split
  ·rename_i e
   exact wpS_pure ⟨g,mi.la t (by simpa using e)⟩
  ·rename_i e
   have e':i+1+1≠a.size:=by simpa using e
   have pl:Pl a b (o.push a[i]) (i+1) j:=⟨by omega,h2,mi⟩
   split
   ·exact wpS_pure ⟨g,pl,by dsimp only;omega⟩
   ·exact wpS_pure ⟨g,rfl,pl,by dsimp only;omega⟩
def R6 (a b:Array Keyed) (st:SortSt) (n:Nat) (r:ForInStep S6) (z':SortSt):Prop:=match r with | .done c'=>O6 a b st n c' z' | .yield c'=>GEq st z'/\c'.1=none/\Pl a b c'.2.1 c'.2.2.1 c'.2.2.2.1/\n<=c'.2.2.1+c'.2.2.2.1
theorem wpS_loC (t:Two a b) {m ac bc n i j:Nat} {o:Array Keyed} {z:SortSt} (g:GEq st z) (p:Pl a b o i j) (hn:n<=i+j) (c:K a i<=K b j):wpS (model prog w) A E s (loC a b m ac bc i o j) (R6 a b st n) z:=by
 have h1:=p.hi
 have h2:=p.hj
 unfold loC
 refine wpS_bind (wpS_elem (show i<a.size by omega) ?_)
 have mi:=p.mi.pa t (by omega) fun k k1 k2=>Int.le_trans c (t.sb j k k1 k2)
 split
 ·rename_i e
  exact wpS_pure ⟨g,mi.la t (by simpa using e)⟩
 ·rename_i e
  have e':i+1+1≠a.size:=by simpa using e
  have pl:Pl a b (o.push a[i]) (i+1) j:=⟨by omega,h2,mi⟩
  split
  ·exact wpS_pure ⟨g,pl,by dsimp only;omega⟩
  ·exact wpS_pure ⟨g,rfl,pl,by dsimp only;omega⟩
theorem wpS_loB (t:Two a b) (hk:kindOf st=oneType') {m ac bc n i j:Nat} {o:Array Keyed} {z:SortSt} (g:GEq st z) (p:Pl a b o i j) (hn:n<=i+j) (c:K b j<K a i):wpS (model prog w) A E s (loB a b m ac bc j o i) (R6 a b st n) z:=by
 have h1:=p.hi
 have h2:=p.hj
 unfold loB
 refine wpS_bind (wpS_elem h2 ?_)
 have mi:=p.mi.pb t h2 fun k k1 k2=>Int.lt_of_lt_of_le c (t.sa i k k1 k2)
 split
 ·rename_i e
  exact wpS_pure ⟨g,mi.dn (by simpa using e)⟩
 ·rename_i e
  have e':j+1≠b.size:=by simpa using e
  have pl:Pl a b (o.push b[j]) i (j+1):=⟨h1,by omega,mi⟩
  refine wpS_bind (wpS_elem (show i<a.size by omega) ?_)
  obtain ⟨t2,e2⟩:=key_of t.ia (show i<a.size by omega)
  refine wpS_bind (wpS_gallop (g.kind.trans hk) t.ib e2 (by omega) (by omega) (fun x y _ y1 y2=>t.sb x y y1 (by omega)) fun k k1 k2 k3=>?_)
  have c2:∀ q,j+1<=q->q<j+1+k->K b q<K a i:=fun q q1 q2=>by
   have:=k2 (q-(j+1)) (by omega)
   unfold Bd at this
   rw [if_pos rfl,decide_eq_true_eq,show j+1+(q-(j+1))=q by omega] at this
   exact this
  have c3:j+1+k<b.size->K a i<=K b (j+1+k):=fun q=>by
   have:=k3 k (Nat.le_refl _) (by omega)
   unfold Bd at this
   rw [if_pos rfl,decide_eq_false_iff_not] at this
   omega
  dsimp only
  split
  ·have mi2:=mi.bs t (k:=k) fun q q1 q2 _ x x1 x2=>Int.lt_of_lt_of_le (c2 q q1 q2) (t.sa i x x1 x2)
   split
   ·rename_i e3
    exact wpS_pure ⟨g,mi2.dn (by simpa using e3)⟩
   ·rename_i e3
    have e4:j+1+k≠b.size:=by simpa using e3
    exact wpS_loC t g ⟨h1,by omega,mi2⟩ (by omega) (c3 (by omega))
  ·rename_i e3
   have e4:k=0:=by omega
   subst e4
   exact wpS_loC t g pl (by omega) (c3 (by omega))
theorem wpS_loA (t:Two a b) (hk:kindOf st=oneType') {m ac bc n i j:Nat} {o:Array Keyed} {z:SortSt} (g:GEq st z) (p:Pl a b o i j) (hn:n<=i+j):wpS (model prog w) A E s (loA a b o i j ac bc m) (R6 a b st n) z:=by
 have h1:=p.hi
 have h2:=p.hj
 unfold loA
 refine wpS_bind (wpS_setG g fun z' g'=>?_)
 refine wpS_bind (wpS_elem h2 ?_)
 obtain ⟨t2,e2⟩:=key_of t.ib h2
 refine wpS_bind (wpS_gallop (g'.kind.trans hk) t.ia e2 (by omega) (by omega) (fun x y _ y1 y2=>t.sa x y y1 (by omega)) fun k k1 k2 k3=>?_)
 have c2:∀ q,i<=q->q<i+k->K a q<=K b j:=fun q q1 q2=>by
  have:=k2 (q-i) (by omega)
  unfold Bd at this
  rw [if_neg (by simp),Bool.not_eq_true',decide_eq_false_iff_not,show i+(q-i)=q by omega] at this
  omega
 have c3:i+k<a.size->K b j<K a (i+k):=fun q=>by
  have:=k3 k (Nat.le_refl _) (by omega)
  unfold Bd at this
  rw [if_neg (by simp),Bool.not_eq_false',decide_eq_true_eq] at this
  exact this
 have c4:i+k<a.size:=by
  by_cases q:i+k<a.size
  ·exact q
  ·have:=c2 (a.size-1) (by omega) (by omega)
   have:=t.last j h2
   omega
 dsimp only
 split
 ·have mi2:=p.mi.as t (k:=k) fun q q1 q2 _ x x1 x2=>Int.le_trans (c2 q q1 q2) (t.sb j x x1 x2)
  split
  ·rename_i e3
   exact wpS_pure ⟨g',mi2.la t (by simpa using e3)⟩
  ·rename_i e3
   have e4:i+k+1≠a.size:=by simpa using e3
   rw [if_neg (by simp;omega)]
   exact wpS_loB t hk g' ⟨by omega,h2,mi2⟩ (by omega) (c3 c4)
 ·rename_i e3
  have e4:k=0:=by omega
  subst e4
  exact wpS_loB t hk g' p hn (c3 c4)
theorem wpS_mergeLo (t:Two a b) (hk:kindOf st=oneType') {Q:Array Keyed->SortSt->Prop} (h:∀ r z,r.toList=Mg a b->GEq st z->Q r z):wpS (model prog w) A E s (mergeLo' a b) Q st:=by
 have na:=t.na
 have nb:=t.nb
 rw [mergeLo'_eq]
 refine wpS_bind (wpS_lift (wpAny_rule ⟨rfl,?_⟩))
 refine wpS_bind (wpS_elem nb ?_)
 have m0:MI a b #[] 0 0:=by unfold MI;simp
 have mi:=m0.pb t nb fun k _ k2=>t.first k k2
 have eo:(#[]:Array Keyed).push b[0]=#[b[0]]:=rfl
 rw [eo] at mi
 split
 ·rename_i e
  exact wpS_pure (h _ _ (mi.dn (by simpa using e)) .refl)
 rename_i e
 have e':1≠b.size:=by simpa using e
 split
 ·rename_i e2
  exact wpS_pure (h _ _ (mi.la t (by simpa using e2)) .refl)
 rename_i e2
 have e2':0+1≠a.size:=by simpa using e2
 refine wpS_bind (wpS_get ?_)
 refine wpS_bind (wpS_mono (wpS_forRange (I:=fun x c z=>GEq st z/\c.1=none/\Pl a b c.2.1 c.2.2.1 c.2.2.2.1/\x<=c.2.2.1+c.2.2.2.1)
  (Q:=fun c z=>GEq st z/\∃ r,c.1=some r/\r.toList=Mg a b) ?step ?fin ⟨.refl,rfl,⟨by dsimp only;omega,by dsimp only;omega,mi⟩,Nat.zero_le _⟩) ?post)
 case post =>
  rintro ⟨c,d⟩ z ⟨g,r,e3,e4⟩
  dsimp only at e3
  subst e3
  exact wpS_pure (h _ _ e4 g)
 case fin =>
  rintro c z ⟨g,_,p,q⟩
  have:=p.hi
  have:=p.hj
  omega
 case step =>
  rintro x ⟨c0,o,i,j,m⟩ z _ hx ⟨g,e3,p,q⟩
  dsimp only at e3 p q
  subst e3
  unfold lo3
  dsimp only
  refine wpS_bind (wpS_mono (wpS_forRange (I:=fun y c z=>GEq st z/\c.1=none/\Pl a b c.2.1 c.2.2.1 c.2.2.2.1/\x+y<=c.2.2.1+c.2.2.2.1)
   (Q:=fun c z=>O5 a b st (x+1) c z) ?_ ?_ ⟨g,rfl,p,q⟩) ?_)
  ·rintro y c z' _ _ ⟨g',e4,p',q'⟩
   refine wpS_mono (wpS_lo1 t hk g' p' q') fun r z2 hr=>?_
   cases r with
   | done c' =>
    obtain ⟨g2,hr⟩:=hr
    refine ⟨g2,?_⟩
    cases e5:c'.1 with
    | some r=>rw [e5] at hr;exact hr
    | none=>rw [e5] at hr;exact ⟨hr.1,by have:=hr.2;omega⟩
   | yield c'=>exact hr
  ·rintro c z' ⟨g',e4,p',q'⟩
   refine ⟨g',?_⟩
   rw [e4]
   exact ⟨p',by omega⟩
  ·rintro ⟨c0,o1,i1,j1,ac,bc⟩ z1 ⟨g1,h1⟩
   cases c0 with
   | some r=>exact wpS_pure ⟨g1,r,rfl,h1⟩
   | none =>
    obtain ⟨p1,q1⟩:=h1
    dsimp only at p1 q1 |-
    refine wpS_bind (wpS_lift (wpAny_rule ⟨rfl,?_⟩))
    refine wpS_bind (wpS_mono (wpS_forRange (I:=fun y c z=>GEq st z/\c.1=none/\Pl a b c.2.1 c.2.2.1 c.2.2.2.1/\x+1<=c.2.2.1+c.2.2.2.1)
     (Q:=fun c z=>O6 a b st (x+1) c z) ?_ ?_ ⟨g1,rfl,p1,q1⟩) ?_)
    ·rintro y ⟨c0,o,i,j,m,ac,bc⟩ z' _ _ ⟨g',e4,p',q'⟩
     unfold lo2
     dsimp only at p' q' |-
     split
     ·exact wpS_mono (wpS_loA t hk g' p' q') fun r z2 hr=>by cases r<;>exact hr
     ·exact wpS_mono (wpS_loA t hk g' p' q') fun r z2 hr=>by cases r<;>exact hr
    ·rintro c z' ⟨g',e4,p',q'⟩
     refine ⟨g',?_⟩
     rw [e4]
     exact ⟨p',q'⟩
    ·rintro ⟨c0,o2,i2,j2,m2,ac2,bc2⟩ z2 ⟨g2,h2⟩
     cases c0 with
     | some r=>exact wpS_pure ⟨g2,r,rfl,h2⟩
     | none=>exact wpS_bind (wpS_setG g2 fun z3 g3=>wpS_pure ⟨g3,rfl,h2.1,h2.2⟩)
end
end SS

namespace SS
open PySem PyProof.Rows
section
variable {a b:Array Keyed}
theorem takeA {n:Nat} (h:n<a.size):a.toList.take (n+1)=a.toList.take n++[a[n]]:=by
 rw [List.take_add_one,List.getElem?_eq_getElem (by simpa using h)];simp
theorem mem_tk {x:Keyed} {n:Nat} (h:x∈a.toList.take n):∃ k,∃ (hk:k<a.size),k<n/\x=a[k]:=by
 obtain ⟨k,hk,rfl⟩:=List.getElem_of_mem h
 rw [List.length_take] at hk
 have:k<a.size:=by simpa using (by omega:k<a.toList.length)
 exact ⟨k,this,by omega,by rw [List.getElem_take];simp⟩
theorem ext0 {n:Nat}:(a.extract 0 n).toList=a.toList.take n:=by
 rw [ext_list (Nat.zero_le _)];simp
def MJ (a b:Array Keyed) (o:Array Keyed) (na nb:Nat):Prop:=mg kle (a.toList.take na) (b.toList.take nb)++o.toList.reverse=Mg a b
theorem MJ.pa {o:Array Keyed} {na nb:Nat} (h:MJ a b o (na+1) nb) (hi:na<a.size) (c:∀ k,k<nb->k<b.size->K b k<K a na):MJ a b (o.push a[na]) na nb:=by
 unfold MJ at h |-
 rw [takeA hi,mg_A _ (Nat.le_refl _) fun e he z hz=>?_] at h
 ·rw [Array.toList_push,<- h];simp
 ·obtain ⟨k,hk,h1,rfl⟩:=mem_tk he
  rw [List.mem_singleton] at hz
  subst hz
  rw [kle_at hi hk,decide_eq_false_iff_not]
  have:=c k h1 hk
  omega
theorem MJ.pb {o:Array Keyed} {na nb:Nat} (h:MJ a b o na (nb+1)) (hj:nb<b.size) (c:∀ k,k<na->k<a.size->K a k<=K b nb):MJ a b (o.push b[nb]) na nb:=by
 unfold MJ at h |-
 rw [takeA hj,mg_B _ (Nat.le_refl _) fun e he z hz=>?_] at h
 ·rw [Array.toList_push,<- h];simp
 ·obtain ⟨k,hk,h1,rfl⟩:=mem_tk he
  rw [List.mem_singleton] at hz
  subst hz
  rw [kle_at hk hj,decide_eq_true_eq]
  exact c k h1 hk
theorem take_cut {p n:Nat} (h:p<=n):a.toList.take n=a.toList.take p++(a.toList.drop p).take (n-p):=by
 have:n=p+(n-p):=by omega
 conv=>lhs;rw [this]
 rw [List.take_add]
theorem MJ.as {o:Array Keyed} {na nb p:Nat} (h:MJ a b o na nb) (hp:p<=na) (c:∀ x,p<=x->x<na->x<a.size->∀ k,k<nb->k<b.size->K b k<K a x):MJ a b (o++(a.extract p na).reverse) p nb:=by
 unfold MJ at h |-
 rw [take_cut hp,mg_A _ (Nat.le_refl _) fun e he z hz=>?_] at h
 ·rw [Array.toList_append,Array.toList_reverse,ext_list hp,<- h];simp
 ·obtain ⟨k,hk,h1,rfl⟩:=mem_tk he
  obtain ⟨x,hx,x1,x2,rfl⟩:=mem_seg hz
  rw [kle_at hx hk,decide_eq_false_iff_not]
  have:=c x x1 (by omega) hx k h1 hk
  omega
theorem MJ.bs {o:Array Keyed} {na nb p:Nat} (h:MJ a b o na nb) (hp:p<=nb) (c:∀ x,p<=x->x<nb->x<b.size->∀ k,k<na->k<a.size->K a k<=K b x):MJ a b (o++(b.extract p nb).reverse) na p:=by
 unfold MJ at h |-
 rw [take_cut hp,mg_B _ (Nat.le_refl _) fun e he z hz=>?_] at h
 ·rw [Array.toList_append,Array.toList_reverse,ext_list hp,<- h];simp
 ·obtain ⟨k,hk,h1,rfl⟩:=mem_tk he
  obtain ⟨x,hx,x1,x2,rfl⟩:=mem_seg hz
  rw [kle_at hk hx,decide_eq_true_eq]
  exact c x x1 (by omega) hx k h1 hk
theorem MJ.dn {o:Array Keyed} {na nb:Nat} (h:MJ a b o na nb) (hn:na=0):(hiDn a b o na nb).toList=Mg a b:=by
 unfold MJ at h
 unfold hiDn
 subst hn
 rw [Array.toList_append,Array.toList_append,Array.toList_reverse,ext0,ext0,<- h]
 simp [mg_nil_l]
theorem MJ.fb (t:Two a b) {o:Array Keyed} {na nb:Nat} (h:MJ a b o na nb) (hn:nb=1):(hiFb a b o na nb).toList=Mg a b:=by
 unfold MJ at h
 unfold hiFb
 have:=mg_D (le:=kle) (xs:=a.toList.take na) (ys:=[]) (qs:=b.toList.take nb) fun q hq x hx=>by
  obtain ⟨k,hk,h1,rfl⟩:=mem_tk hx
  obtain ⟨l,hl,h3,rfl⟩:=mem_tk hq
  rw [kle_at hk hl,decide_eq_false_iff_not]
  have:=t.first k hk
  rw [show l=0 by omega]
  omega
 rw [List.append_nil,mg_nil_r] at this
 rw [Array.toList_append,Array.toList_append,Array.toList_reverse,ext0,ext0,<- h,this]
end
section
variable {prog:Program} {w:World} {A:Around} {E:Value->Shared->Prop} {s:Shared} {st:SortSt} {a b:Array Keyed}
structure Pr (a b o:Array Keyed) (na nb:Nat):Prop where
 h1:1<=na
 h2:na<=a.size
 h3:2<=nb
 h4:nb<=b.size
 mi:MJ a b o na nb
def P5 (a b:Array Keyed) (st:SortSt) (n:Nat) (c:H5) (z:SortSt):Prop:=GEq st z/\match c.1 with | some r=>r.toList=Mg a b | none=>Pr a b c.2.2.2.1 c.2.1 c.2.2.1/\c.2.1+c.2.2.1<=n
def P6 (a b:Array Keyed) (st:SortSt) (n:Nat) (c:H6) (z:SortSt):Prop:=GEq st z/\match c.1 with | some r=>r.toList=Mg a b | none=>Pr a b c.2.2.2.1 c.2.1 c.2.2.1/\c.2.1+c.2.2.1<=n
theorem wpS_hi1 (t:Two a b) (hk:kindOf st=oneType') {m n:Nat} {c:H5} {z:SortSt} (g:GEq st z) (p:Pr a b c.2.2.2.1 c.2.1 c.2.2.1) (hn:c.2.1+c.2.2.1<=n+1) :
  wpS (model prog w) A E s (hi1 a b m c) (fun r z'=>match r with | .done c'=>P5 a b st n c' z' | .yield c'=>GEq st z'/\c'.1=none/\Pr a b c'.2.2.2.1 c'.2.1 c'.2.2.1/\c'.2.1+c'.2.2.1<=n) z:=by
 obtain ⟨r0,na,nb,o,ac,bc⟩:=c
 dsimp only at p hn
 obtain ⟨i,rfl⟩:∃ i,na=i+1:=⟨na-1,by have:=p.h1;omega⟩
 obtain ⟨j,rfl⟩:∃ j,nb=j+1:=⟨nb-1,by have:=p.h3;omega⟩
 have hi:i<a.size:=p.h2
 have hj:j<b.size:=p.h4
 have h3:=p.h3
 unfold hi1
 dsimp only
 simp only [Nat.add_sub_cancel]
 refine wpS_bind (wpS_elem hj (wpS_bind (wpS_elem hi ?_)))
 obtain ⟨t1,e1⟩:=key_of t.ib hj
 obtain ⟨t2,e2⟩:=key_of t.ia hi
 refine wpS_bind (wpS_ltV (g.kind.trans hk) e1 e2 ?_)
 by_cases hl:K b j<K a i
 ·simp only [hl,decide_true,if_true]
  refine wpS_bind (wpS_elem hi ?_)
  have mi:=p.mi.pa hi fun k k1 k2=>Int.lt_of_le_of_lt (t.sb k j (by omega) hj) hl
  split
  ·rename_i e
   exact wpS_pure ⟨g,mi.dn (by simpa using e)⟩
  ·rename_i e
   have e':i≠0:=by simpa using e
   have pl:Pr a b (o.push a[i]) i (j+1):=⟨by omega,by omega,h3,p.h4,mi⟩
   split
   ·exact wpS_pure ⟨g,pl,by dsimp only;omega⟩
   ·exact wpS_pure ⟨g,rfl,pl,by dsimp only;omega⟩
 ·simp only [hl,decide_false,Bool.false_eq_true,if_false]
  refine wpS_bind (wpS_elem hj ?_)
  have mi:=p.mi.pb hj fun k k1 k2=>Int.le_trans (t.sa k i (by omega) hi) (Int.not_lt.mp hl)
  split
  ·rename_i e
   exact wpS_pure ⟨g,mi.fb t (by simpa using e)⟩
  ·rename_i e
   have e':j≠1:=by simpa using e
   have pl:Pr a b (o.push b[j]) (i+1) j:=⟨by omega,by omega,by omega,by omega,mi⟩
   split
   ·exact wpS_pure ⟨g,pl,by dsimp only;omega⟩
   ·exact wpS_pure ⟨g,rfl,pl,by dsimp only;omega⟩
def T6 (a b:Array Keyed) (st:SortSt) (n:Nat) (r:ForInStep H6) (z':SortSt):Prop:=match r with | .done c'=>P6 a b st n c' z' | .yield c'=>GEq st z'/\c'.1=none/\Pr a b c'.2.2.2.1 c'.2.1 c'.2.2.1/\c'.2.1+c'.2.2.1<=n
theorem wpS_hiC (t:Two a b) {m ac bc n na nb:Nat} {o:Array Keyed} {z:SortSt} (g:GEq st z) (p:Pr a b o na nb) (hn:na+nb<=n) (c:K b (nb-1)<K a (na-1)):wpS (model prog w) A E s (hiC a b m ac bc na o nb) (T6 a b st n) z:=by
 obtain ⟨i,rfl⟩:∃ i,na=i+1:=⟨na-1,by have:=p.h1;omega⟩
 have hi:i<a.size:=p.h2
 have h3:=p.h3
 have h4:=p.h4
 unfold hiC
 simp only [Nat.add_sub_cancel] at c |-
 refine wpS_bind (wpS_elem hi ?_)
 have mi:=p.mi.pa hi fun k k1 k2=>Int.lt_of_le_of_lt (t.sb k (nb-1) (by omega) (by omega)) c
 split
 ·rename_i e
  exact wpS_pure ⟨g,mi.dn (by simpa using e)⟩
 ·rename_i e
  have e':i≠0:=by simpa using e
  have pl:Pr a b (o.push a[i]) i nb:=⟨by omega,by omega,h3,h4,mi⟩
  split
  ·exact wpS_pure ⟨g,pl,by dsimp only;omega⟩
  ·exact wpS_pure ⟨g,rfl,pl,by dsimp only;omega⟩
theorem wpS_hiB (t:Two a b) (hk:kindOf st=oneType') {m ac bc n na nb:Nat} {o:Array Keyed} {z:SortSt} (g:GEq st z) (p:Pr a b o na nb) (hn:na+nb<=n) (c:K a (na-1)<=K b (nb-1)):wpS (model prog w) A E s (hiB a b m ac bc nb o na) (T6 a b st n) z:=by
 obtain ⟨j,rfl⟩:∃ j,nb=j+1:=⟨nb-1,by have:=p.h3;omega⟩
 have hj:j<b.size:=p.h4
 have h1:=p.h1
 have h2:=p.h2
 have h3:=p.h3
 unfold hiB
 simp only [Nat.add_sub_cancel] at c |-
 refine wpS_bind (wpS_elem hj ?_)
 have mi:=p.mi.pb hj fun k k1 k2=>Int.le_trans (t.sa k (na-1) (by omega) (by omega)) c
 split
 ·rename_i e
  exact wpS_pure ⟨g,mi.fb t (by simpa using e)⟩
 ·rename_i e
  have e':j≠1:=by simpa using e
  refine wpS_bind (wpS_elem (show na-1<a.size by omega) ?_)
  obtain ⟨t2,e2⟩:=key_of t.ia (show na-1<a.size by omega)
  refine wpS_bind (wpS_gallop (g.kind.trans hk) t.ib e2 (by omega) (by omega) (fun x y _ y1 y2=>t.sb x y y1 (by omega)) fun k k1 k2 k3=>?_)
  have c2:∀ q,q<k->K b q<K a (na-1):=fun q q1=>by
   have:=k2 q q1
   unfold Bd at this
   rw [if_pos rfl,decide_eq_true_eq,Nat.zero_add] at this
   exact this
  have c3:∀ q,k<=q->q<j->K a (na-1)<=K b q:=fun q q1 q2=>by
   have:=k3 q q1 q2
   unfold Bd at this
   rw [if_pos rfl,decide_eq_false_iff_not,Nat.zero_add] at this
   omega
  have c4:1<=k:=by
   by_cases q:1<=k
   ·exact q
   ·have:=c3 0 (by omega) (by omega)
    have:=t.first (na-1) (by omega)
    omega
  dsimp only
  split
  ·have mi2:=mi.bs k1 fun x x1 x2 _ y y1 y2=>Int.le_trans (t.sa y (na-1) (by omega) (by omega)) (c3 x x1 x2)
   split
   ·rename_i e3
    exact wpS_pure ⟨g,mi2.fb t (by simpa using e3)⟩
   ·rename_i e3
    have e4:k≠1:=by simpa using e3
    rw [if_neg (by simp;omega)]
    exact wpS_hiC t g ⟨h1,h2,by omega,by omega,mi2⟩ (by omega) (c2 (k-1) (by omega))
  ·rename_i e3
   have e4:k=j:=by omega
   subst e4
   exact wpS_hiC t g ⟨h1,h2,by omega,by omega,mi⟩ (by omega) (c2 (k-1) (by omega))
theorem wpS_hiA (t:Two a b) (hk:kindOf st=oneType') {m ac bc n na nb:Nat} {o:Array Keyed} {z:SortSt} (g:GEq st z) (p:Pr a b o na nb) (hn:na+nb<=n):wpS (model prog w) A E s (hiA a b o na nb ac bc m) (T6 a b st n) z:=by
 have h1:=p.h1
 have h2:=p.h2
 have h3:=p.h3
 have h4:=p.h4
 unfold hiA
 refine wpS_bind (wpS_setG g fun z' g'=>?_)
 refine wpS_bind (wpS_elem (show nb-1<b.size by omega) ?_)
 obtain ⟨t2,e2⟩:=key_of t.ib (show nb-1<b.size by omega)
 refine wpS_bind (wpS_gallop (g'.kind.trans hk) t.ia e2 (by omega) (by omega) (fun x y _ y1 y2=>t.sa x y y1 (by omega)) fun k k1 k2 k3=>?_)
 have c2:∀ q,q<k->K a q<=K b (nb-1):=fun q q1=>by
  have:=k2 q q1
  unfold Bd at this
  rw [if_neg (by simp),Bool.not_eq_true',decide_eq_false_iff_not,Nat.zero_add] at this
  omega
 have c3:∀ q,k<=q->q<na->K b (nb-1)<K a q:=fun q q1 q2=>by
  have:=k3 q q1 q2
  unfold Bd at this
  rw [if_neg (by simp),Bool.not_eq_false',decide_eq_true_eq,Nat.zero_add] at this
  exact this
 dsimp only
 split
 ·have mi2:=p.mi.as k1 fun x x1 x2 _ y y1 y2=>Int.lt_of_le_of_lt (t.sb y (nb-1) (by omega) (by omega)) (c3 x x1 x2)
  split
  ·rename_i e3
   exact wpS_pure ⟨g',mi2.dn (by simpa using e3)⟩
  ·rename_i e3
   have e4:k≠0:=by simpa using e3
   exact wpS_hiB t hk g' ⟨by omega,by omega,h3,h4,mi2⟩ (by omega) (c2 (k-1) (by omega))
 ·rename_i e3
  have e4:k=na:=by omega
  subst e4
  exact wpS_hiB t hk g' p hn (c2 (k-1) (by omega))
theorem wpS_mergeHi (t:Two a b) (hk:kindOf st=oneType') {Q:Array Keyed->SortSt->Prop} (h:∀ r z,r.toList=Mg a b->GEq st z->Q r z):wpS (model prog w) A E s (mergeHi' a b) Q st:=by
 have na:=t.na
 have nb:=t.nb
 rw [mergeHi'_eq]
 refine wpS_bind (wpS_lift (wpAny_rule ⟨rfl,?_⟩))
 refine wpS_bind (wpS_elem (show a.size-1<a.size by omega) ?_)
 have m0:MJ a b #[] (a.size-1+1) b.size:=by
  unfold MJ
  rw [show a.size-1+1=a.size by omega,List.take_of_length_le (by simp),List.take_of_length_le (by simp)];simp
 have mi:=m0.pa (show a.size-1<a.size by omega) fun k _ k2=>t.last k k2
 have eo:(#[]:Array Keyed).push a[a.size-1]=#[a[a.size-1]]:=rfl
 rw [eo] at mi
 split
 ·rename_i e
  exact wpS_pure (h _ _ (mi.dn (by simpa using e)) .refl)
 rename_i e
 have e':a.size-1≠0:=by simpa using e
 split
 ·rename_i e2
  exact wpS_pure (h _ _ (mi.fb t (by simpa using e2)) .refl)
 rename_i e2
 have e2':b.size≠1:=by simpa using e2
 refine wpS_bind (wpS_get ?_)
 refine wpS_bind (wpS_mono (wpS_forRange (I:=fun x c z=>GEq st z/\c.1=none/\Pr a b c.2.2.2.1 c.2.1 c.2.2.1/\c.2.1+c.2.2.1+x<=a.size+b.size)
  (Q:=fun c z=>GEq st z/\∃ r,c.1=some r/\r.toList=Mg a b) ?step ?fin ⟨.refl,rfl,⟨by dsimp only;omega,by dsimp only;omega,by dsimp only;omega,Nat.le_refl _,mi⟩,by dsimp only;omega⟩) ?post)
 case post =>
  rintro ⟨c,d⟩ z ⟨g,r,e3,e4⟩
  dsimp only at e3
  subst e3
  exact wpS_pure (h _ _ e4 g)
 case fin =>
  rintro c z ⟨g,_,p,q⟩
  have:=p.h1
  have:=p.h3
  omega
 case step =>
  rintro x ⟨c0,i,j,o,m⟩ z _ hx ⟨g,e3,p,q⟩
  dsimp only at e3 p q
  subst e3
  unfold hi3
  dsimp only
  have p1:=p.h1
  have p3:=p.h3
  refine wpS_bind (wpS_mono (wpS_forRange (I:=fun y c z=>GEq st z/\c.1=none/\Pr a b c.2.2.2.1 c.2.1 c.2.2.1/\c.2.1+c.2.2.1+x+y<=a.size+b.size)
   (Q:=fun c z=>P5 a b st (a.size+b.size-(x+1)) c z) ?_ ?_ ⟨g,rfl,p,q⟩) ?_)
  ·rintro y c z' _ _ ⟨g',e4,p',q'⟩
   have p1:=p'.h1
   refine wpS_mono (wpS_hi1 (n:=c.2.1+c.2.2.1-1) t hk g' p' (by omega)) fun r z2 hr=>?_
   cases r with
   | done c' =>
    obtain ⟨g2,hr⟩:=hr
    refine ⟨g2,?_⟩
    cases e5:c'.1 with
    | some r=>rw [e5] at hr;exact hr
    | none=>rw [e5] at hr;exact ⟨hr.1,by have:=hr.2;omega⟩
   | yield c'=>exact ⟨hr.1,hr.2.1,hr.2.2.1,by have:=hr.2.2.2;omega⟩
  ·rintro c z' ⟨g',e4,p',q'⟩
   have:=p'.h1
   have:=p'.h3
   omega
  ·rintro ⟨c0,i1,j1,o1,ac,bc⟩ z1 ⟨g1,h1⟩
   cases c0 with
   | some r=>exact wpS_pure ⟨g1,r,rfl,h1⟩
   | none =>
    obtain ⟨p1,q1⟩:=h1
    dsimp only at p1 q1 |-
    refine wpS_bind (wpS_lift (wpAny_rule ⟨rfl,?_⟩))
    refine wpS_bind (wpS_mono (wpS_forRange (I:=fun y c z=>GEq st z/\c.1=none/\Pr a b c.2.2.2.1 c.2.1 c.2.2.1/\c.2.1+c.2.2.1<=a.size+b.size-(x+1))
     (Q:=fun c z=>P6 a b st (a.size+b.size-(x+1)) c z) ?_ ?_ ⟨g1,rfl,p1,q1⟩) ?_)
    ·rintro y ⟨c0,i,j,o,m,ac,bc⟩ z' _ _ ⟨g',e4,p',q'⟩
     unfold hi2
     dsimp only at p' q' |-
     split
     ·exact wpS_mono (wpS_hiA t hk g' p' q') fun r z2 hr=>by cases r<;>exact hr
     ·exact wpS_mono (wpS_hiA t hk g' p' q') fun r z2 hr=>by cases r<;>exact hr
    ·rintro c z' ⟨g',e4,p',q'⟩
     refine ⟨g',?_⟩
     rw [e4]
     exact ⟨p',q'⟩
    ·rintro ⟨c0,i2,j2,o2,m2,ac2,bc2⟩ z2 ⟨g2,h2⟩
     cases c0 with
     | some r=>exact wpS_pure ⟨g2,r,rfl,h2⟩
     | none =>
      obtain ⟨h2a,h2b⟩:=h2
      dsimp only at h2b
      exact wpS_bind (wpS_setG g2 fun z3 g3=>wpS_pure ⟨g3,rfl,h2a,by dsimp only;omega⟩)
end
theorem mergeAt'_do (i:Nat):mergeAt' i=(do
 let z <- get
 let (some (sa,na,pw),some (sb,nb,_)):=((pendingOf z)[i]?,(pendingOf z)[i+1]?) | unsupported "internal:list.sort.pending"
 set (SortSt.mk' (kindOf z) (arrOf z) (((pendingOf z).setIfInBounds i (sa,na+nb,pw)).eraseIdxIfInBounds (i+1)) (gallopOf z) (failedOf z))
 let some k <- gallop' false (<- elem' (arrOf z) sb) (arrOf z) sa na 0 | return false
 let (sa,na):=(sa+k,na-k)
 if na == 0 then return true
 let some nb <- gallop' true (<- elem' (arrOf z) (sa+na-1)) (arrOf z) sb nb (nb-1) | return false
 if nb == 0 then return true
 let x:=(arrOf z).extract sa sb
 let y:=(arrOf z).extract sb (sb+nb)
 let r <- if na<=nb then mergeLo' x y else mergeHi' x y
 modify fun u=>SortSt.mk' (kindOf u) (r.toList.zipIdx.foldl (fun a (p,j)=>a.setIfInBounds (sa+j) p) (arrOf u)) (pendingOf u) (gallopOf u) (failedOf u)
 return (failedOf (<- get)).isNone):=rfl
theorem sets_get (s:Nat):∀ (l:List Keyed) (k:Nat) (ar:Array Keyed),s+k+l.length<=ar.size ->
  ((l.zipIdx k).foldl (fun a (x:Keyed×Nat)=>match x with | (p,j)=>a.setIfInBounds (s+j) p) ar).size=ar.size /\
  ∀ q:Nat,((l.zipIdx k).foldl (fun a (x:Keyed×Nat)=>match x with | (p,j)=>a.setIfInBounds (s+j) p) ar)[q]?=if s+k<=q/\q<s+k+l.length then l[q-(s+k)]? else ar[q]?
 | [],k,ar,_=>⟨rfl,fun q=>by rw [if_neg (by simp only [List.length_nil];omega)];rfl⟩
 | x::l,k,ar,h=>by
  simp only [List.length_cons] at h |-
  rw [List.zipIdx_cons,List.foldl_cons]
  dsimp only
  obtain ⟨h1,h2⟩:=sets_get s l (k+1) (ar.setIfInBounds (s+k) x) (by rw [Array.size_setIfInBounds];omega)
  refine ⟨h1.trans (Array.size_setIfInBounds ..),fun q=>?_⟩
  refine (h2 q).trans ?_
  by_cases c1:s+(k+1)<=q/\q<s+(k+1)+l.length
  ·rw [if_pos c1,if_pos (by omega),show q-(s+k)=q-(s+(k+1))+1 by omega,List.getElem?_cons_succ]
  ·rw [if_neg c1,Array.getElem?_setIfInBounds]
   by_cases c2:s+k=q
   ·rw [if_pos c2,if_pos (by omega),if_pos (by omega),show q-(s+k)=0 by omega];rfl
   ·rw [if_neg c2,if_neg (by omega)]
theorem sets_list {s:Nat} {l:List Keyed} {ar:Array Keyed} (h:s+l.length<=ar.size) :
  (l.zipIdx.foldl (fun a (x:Keyed×Nat)=>match x with | (p,j)=>a.setIfInBounds (s+j) p) ar).toList=ar.toList.take s++l++ar.toList.drop (s+l.length):=by
 obtain ⟨h1,h2⟩:=sets_get s l 0 ar (by omega)
 apply List.ext_getElem?
 intro q
 rw [Array.getElem?_toList,h2 q]
 have hs:(ar.toList.take s).length=s:=by rw [List.length_take];simp;omega
 by_cases c1:q<s
 ·rw [if_neg (by omega),List.append_assoc,List.getElem?_append_left (by omega),List.getElem?_take_of_lt c1,Array.getElem?_toList]
 ·by_cases c2:q<s+l.length
  ·rw [if_pos (by omega),List.getElem?_append_left (by rw [List.length_append];omega),List.getElem?_append_right (by omega),hs];rfl
  ·rw [if_neg (by omega),List.getElem?_append_right (by rw [List.length_append];omega),List.getElem?_drop,Array.getElem?_toList]
   congr 1
   rw [List.length_append,hs];omega
section
variable {prog:Program} {w:World} {A:Around} {E:Value->Shared->Prop} {s:Shared} {st:SortSt}
theorem K_ext {ar:Array Keyed} {p q i:Nat} (h:p+i<q) (hq:q<=ar.size):K (ar.extract p q) i=K ar (p+i):=by
 apply K_congr
 rw [Array.getElem?_extract,if_pos (by omega)]
theorem int_ext {ar:Array Keyed} {p q:Nat} (h:IntKeys ar):IntKeys (ar.extract p q):=fun x hx=>by
 refine h x ?_
 rw [Array.toList_extract,List.extract_eq_take_drop] at hx
 exact List.mem_of_mem_drop (List.mem_of_mem_take hx)
structure Mgd (st z:SortSt) (n1 n pw:Nat):Prop where
 arr:(arrOf z).toList=mg kle ((arrOf st).toList.take n1) ((arrOf st).toList.drop n1)
 fail:failedOf z=none
 pend:pendingOf z=#[(0,n,pw)]
theorem wpS_mergeAt {n1 n pw:Nat} {Q:Bool->SortSt->Prop} (hk:kindOf st=oneType') (hf:failedOf st=none) (h0:IntKeys (arrOf st)) (hn:(arrOf st).size=n) (h1:1<=n1) (h2:n1<n) (hp:pendingOf st=#[(0,n1,pw),(n1,n-n1,0)])
  (s1:∀ i j,i<=j->j<n1->K (arrOf st) i<=K (arrOf st) j) (s2:∀ i j,n1<=i->i<=j->j<n->K (arrOf st) i<=K (arrOf st) j) (h:∀ z,Mgd st z n1 n pw->Q true z):wpS (model prog w) A E s (mergeAt' 0) Q st:=by
 rw [mergeAt'_do]
 refine wpS_bind (wpS_get ?_)
 rw [hp]
 show wpS _ _ _ _ (set _ >>= _) _ _
 have el:#[(0,n1,pw),(n1,n-n1,0)].setIfInBounds 0 (0,n1+(n-n1),pw)=#[(0,n,pw),(n1,n-n1,0)]:=by
  rw [show n1+(n-n1)=n by omega];rfl
 have el2:((#[(0,n1,pw),(n1,n-n1,0)]:Array (Nat×Nat×Nat)).setIfInBounds 0 (0,n1+(n-n1),pw)).eraseIdxIfInBounds 1=#[(0,n,pw)]:=by
  rw [el];simp [Array.eraseIdxIfInBounds]
 unfold wpS at *
 show wpAny _ _ (StateT.run _ _) _ _ _
 rw [StateT.run_bind,StateT.run_set]
 refine wpAny_bind (wpAny_pure ?_)
 show wpS (model prog w) A E s _ Q _
 dsimp only
 rw [el2]
 have cat:∀ i j,i<n1->n1<=j->j<n->True:=fun _ _ _ _ _=>trivial
 have tk:∀ x∈(arrOf st).toList.take n1,∃ k,∃ (hk:k<(arrOf st).size),k<n1/\x=(arrOf st)[k]:=fun x hx=>mem_tk hx
 have flat:(∀ i j,i<n1->n1<=j->j<n->K (arrOf st) i<=K (arrOf st) j)->(arrOf st).toList=mg kle ((arrOf st).toList.take n1) ((arrOf st).toList.drop n1):=fun c=>by
  have:=mg_C (le:=kle) (xs:=[]) (ys:=(arrOf st).toList.drop n1) (ps:=(arrOf st).toList.take n1) fun p hp y hy=>by
   obtain ⟨i,hi,i1,rfl⟩:=mem_tk hp
   obtain ⟨j,hj,j1,rfl⟩:=mem_drop hy
   rw [kle_at hi hj,decide_eq_true_eq]
   exact c i j i1 j1 (by omega)
  rw [List.append_nil,mg_nil_l,List.take_append_drop] at this
  exact this.symm
 refine wpS_bind (wpS_elem (by omega) ?_)
 obtain ⟨t1,e1⟩:=key_of h0 (show n1<(arrOf st).size by omega)
 refine wpS_bind (wpS_gallop hk h0 e1 (by omega) (by omega) (fun x y _ y1 y2=>s1 x y y1 (by omega)) fun k k1 k2 k3=>?_)
 have c2:∀ i,i<k->K (arrOf st) i<=K (arrOf st) n1:=fun i i1=>by
  have:=k2 i i1
  unfold Bd at this
  rw [if_neg (by simp),Bool.not_eq_true',decide_eq_false_iff_not,Nat.zero_add] at this
  omega
 have c3:∀ i,k<=i->i<n1->K (arrOf st) n1<K (arrOf st) i:=fun i i1 i2=>by
  have:=k3 i i1 i2
  unfold Bd at this
  rw [if_neg (by simp),Bool.not_eq_false',decide_eq_true_eq,Nat.zero_add] at this
  exact this
 dsimp only
 by_cases z1:(n1-k == 0)=true
 ·rw [if_pos z1]
  have z1':n1-k=0:=by simpa using z1
  exact wpS_pure (h _ ⟨flat fun i j i1 j1 j2=>Int.le_trans (c2 i (by omega)) (s2 n1 j (Nat.le_refl _) j1 j2),hf,rfl⟩)
 ·rw [if_neg z1]
  have z1':n1-k≠0:=by simpa using z1
  have ep:0+k+(n1-k)-1=n1-1:=by omega
  rw [ep]
  refine wpS_bind (wpS_elem (show n1-1<(arrOf st).size by omega) ?_)
  obtain ⟨t2,e2⟩:=key_of h0 (show n1-1<(arrOf st).size by omega)
  refine wpS_bind (wpS_gallop hk h0 e2 (by omega) (by omega) (fun x y x1 y1 y2=>s2 x y x1 y1 (by omega)) fun m m1 m2 m3=>?_)
  have d2:∀ j,n1<=j->j<n1+m->K (arrOf st) j<K (arrOf st) (n1-1):=fun j j1 j2=>by
   have:=m2 (j-n1) (by omega)
   unfold Bd at this
   rw [if_pos rfl,decide_eq_true_eq,show n1+(j-n1)=j by omega] at this
   exact this
  have d3:∀ j,n1+m<=j->j<n->K (arrOf st) (n1-1)<=K (arrOf st) j:=fun j j1 j2=>by
   have:=m3 (j-n1) (by omega) (by omega)
   unfold Bd at this
   rw [if_pos rfl,decide_eq_false_iff_not,show n1+(j-n1)=j by omega] at this
   omega
  dsimp only
  by_cases z2:(m == 0)=true
  ·rw [if_pos z2]
   have z2':m=0:=by simpa using z2
   exact wpS_pure (h _ ⟨flat fun i j i1 j1 j2=>Int.le_trans (s1 i (n1-1) (by omega) (by omega)) (d3 j (by omega) j2),hf,rfl⟩)
  ·rw [if_neg z2]
   have z2':m≠0:=by simpa using z2
   have sx:((arrOf st).extract (0+k) n1).size=n1-k:=by rw [Array.size_extract];omega
   have sy:((arrOf st).extract n1 (n1+m)).size=m:=by rw [Array.size_extract];omega
   have kx:∀ i,i<n1-k->K ((arrOf st).extract (0+k) n1) i=K (arrOf st) (k+i):=fun i hi=>by rw [K_ext (by omega) (by omega)];congr 1;omega
   have ky:∀ i,i<m->K ((arrOf st).extract n1 (n1+m)) i=K (arrOf st) (n1+i):=fun i hi=>K_ext (by omega) (by omega)
   have t:Two ((arrOf st).extract (0+k) n1) ((arrOf st).extract n1 (n1+m)):=by
    refine ⟨int_ext h0,int_ext h0,fun i j i1 j1=>?_,fun i j i1 j1=>?_,by omega,by omega,fun j j1=>?_,fun i i1=>?_⟩
    ·rw [sx] at j1;rw [kx i (by omega),kx j (by omega)];exact s1 _ _ (by omega) (by omega)
    ·rw [sy] at j1;rw [ky i (by omega),ky j (by omega)];exact s2 _ _ (by omega) (by omega) (by omega)
    ·rw [sy] at j1;rw [sx,ky j j1,kx _ (by omega),show k+(n1-k-1)=n1-1 by omega];exact d2 _ (by omega) (by omega)
    ·rw [sx] at i1;rw [ky 0 (by omega),kx i i1];exact c3 _ (by omega) (by omega)
   have fin:∀ (r:Array Keyed) (z:SortSt),r.toList=Mg ((arrOf st).extract (0+k) n1) ((arrOf st).extract n1 (n1+m))->GEq (SortSt.mk' (kindOf st) (arrOf st) #[(0,n,pw)] (gallopOf st) (failedOf st)) z ->
     wpS (model prog w) A E s (do
      modify fun u=>SortSt.mk' (kindOf u) (r.toList.zipIdx.foldl (fun a (x:Keyed×Nat)=>match x with | (p,j)=>a.setIfInBounds (0+k+j) p) (arrOf u)) (pendingOf u) (gallopOf u) (failedOf u)
      let u <- get
      pure (failedOf u).isNone) Q z:=fun r z hr g=>by
    refine wpS_bind (wpS_modify (wpS_bind (wpS_get ?_)))
    have gf:failedOf z=none:=g.fail.trans hf
    show wpS _ _ _ _ (pure (failedOf z).isNone) _ _
    rw [gf]
    refine wpS_pure (h _ ⟨?_,(by first | exact gf | rfl),g.pend⟩)
    show (r.toList.zipIdx.foldl _ (arrOf z)).toList=_
    rw [show arrOf z=arrOf st from g.arr]
    have lx:((arrOf st).extract (0+k) n1).toList.length=n1-k:=by simp only [Array.length_toList];exact sx
    have ly:((arrOf st).extract n1 (n1+m)).toList.length=m:=by simp only [Array.length_toList];exact sy
    have lr:r.toList.length=n1-k+m:=by rw [hr];show (List.merge _ _ _).length=_;rw [List.length_merge,lx,ly]
    rw [sets_list (by rw [lr];omega),lr,show 0+k+(n1-k+m)=n1+m by omega,hr,Nat.zero_add]
    have ex:(arrOf st).toList.take n1=(arrOf st).toList.take k++((arrOf st).extract (0+k) n1).toList:=by
     rw [take_cut k1,ext_list (by omega),Nat.zero_add]
    have ey:(arrOf st).toList.drop n1=((arrOf st).extract n1 (n1+m)).toList++(arrOf st).toList.drop (n1+m):=by
     rw [ext_list (by omega),show n1+m-n1=m by omega,<- List.drop_drop,List.take_append_drop]
    rw [ex,mg_C fun p hp y hy=>?_,ey,mg_B _ (Nat.le_refl _) fun p hp y hy=>?_]
    ·simp only [Nat.zero_add,List.append_assoc]
    ·rw [ext_list (by omega)] at hp
     obtain ⟨i,hi,i1,i2,rfl⟩:=mem_seg hp
     obtain ⟨j,hj,j1,rfl⟩:=mem_drop hy
     rw [kle_at hi hj,decide_eq_true_eq]
     exact Int.le_trans (s1 i (n1-1) (by omega) (by omega)) (d3 j j1 (by omega))
    ·obtain ⟨i,hi,i1,rfl⟩:=mem_tk hp
     obtain ⟨j,hj,j1,rfl⟩:=mem_drop hy
     rw [kle_at hi hj,decide_eq_true_eq]
     exact Int.le_trans (c2 i i1) (s2 n1 j (Nat.le_refl _) j1 (by omega))
   by_cases z3:n1-k<=m
   ·rw [if_pos z3]
    exact wpS_bind (wpS_mergeLo (st:=SortSt.mk' (kindOf st) (arrOf st) #[(0,n,pw)] (gallopOf st) (failedOf st)) t hk fun r z hr g=>fin r z hr g)
   ·rw [if_neg z3]
    exact wpS_bind (wpS_mergeHi (st:=SortSt.mk' (kindOf st) (arrOf st) #[(0,n,pw)] (gallopOf st) (failedOf st)) t hk fun r z hr g=>fin r z hr g)
end
end SS

namespace SS
open PySem PyProof.Rows
structure Stb (n:Nat) (ky:Nat->Int) (J:List Nat):Prop where
 ord:J.Pairwise fun i j=>ky i<ky j\/(ky i=ky j/\i<j)
 lt:∀ i∈J,i<n
 len:J.length=n
theorem mg_pw {α:Type} {le:α->α->Bool} {R:α->α->Prop} (tr:∀ a b c,R a b->R b c->R a c):∀ (n:Nat) {xs ys:List α},xs.length+ys.length<=n->xs.Pairwise R->ys.Pairwise R ->
  (∀ x∈xs,∀ y∈ys,(le x y=true->R x y)/\(le x y=false->R y x))->(mg le xs ys).Pairwise R
 | n,[],ys,_,_,h2,_=>by rw [mg_nil_l];exact h2
 | n,x::xs,[],_,h1,_,_=>by rw [mg_nil_r];exact h1
 | 0,x::xs,y::ys,hn,_,_,_=>by simp at hn
 | n+1,x::xs,y::ys,hn,h1,h2,h=>by
  simp only [List.length_cons] at hn
  obtain ⟨a1,a2⟩:=List.pairwise_cons.mp h1
  obtain ⟨b1,b2⟩:=List.pairwise_cons.mp h2
  have hxy:=h x (List.mem_cons_self ..) y (List.mem_cons_self ..)
  rw [mg_cons]
  cases hl:le x y with
  | true =>
   rw [if_pos rfl,List.pairwise_cons]
   refine ⟨fun z hz=>?_,mg_pw tr n (by simp only [List.length_cons];omega) a2 h2 fun u hu v hv=>h u (List.mem_cons_of_mem _ hu) v hv⟩
   rcases List.mem_merge.mp hz with hz | hz
   ·exact a1 z hz
   ·rcases List.mem_cons.mp hz with rfl | hz
    ·exact hxy.1 hl
    ·exact tr _ _ _ (hxy.1 hl) (b1 z hz)
  | false =>
   rw [if_neg (by simp),List.pairwise_cons]
   refine ⟨fun z hz=>?_,mg_pw tr n (by simp only [List.length_cons];omega) h1 b2 fun u hu v hv=>h u hu v (List.mem_cons_of_mem _ hv)⟩
   rcases List.mem_merge.mp hz with hz | hz
   ·rcases List.mem_cons.mp hz with rfl | hz
    ·exact hxy.2 hl
    ·exact tr _ _ _ (hxy.2 hl) (a1 z hz)
   ·exact b1 z hz
def fa (a0:Array Keyed) (i:Nat):Keyed:=(a0[i]?).getD (.none,.none)
theorem K_fa {a0:Array Keyed} {i:Nat} (h:i<a0.size):numOf (fa a0 i).1=K a0 i:=by
 unfold fa
 rw [K_eq h,getElem?_pos a0 i h];rfl
section
variable {prog:Program} {w:World} {A:Around} {E:Value->Shared->Prop} {s:Shared} {a0:Array Keyed} {g:Nat->Nat} {pd:Array (Nat×Nat×Nat)} {st:SortSt}
theorem GS.list (h:GS a0 g pd st):(arrOf st).toList=((List.range a0.size).map g).map (fa a0):=by
 apply List.ext_getElem?
 intro q
 rw [Array.getElem?_toList,List.map_map,List.getElem?_map]
 by_cases hq:q<a0.size
 ·rw [h.get q hq,List.getElem?_range hq]
  show _=some (fa a0 (g q))
  unfold fa
  rw [getElem?_pos a0 _ (h.rng q hq)];rfl
 ·rw [List.getElem?_eq_none (by simp;omega),Array.getElem?_eq_none (by rw [h.size];omega)];rfl
theorem GS.keys (h:GS a0 g pd st) (h0:IntKeys a0):IntKeys (arrOf st):=fun p hp=>by
 rw [h.list,List.map_map] at hp
 obtain ⟨i,hi,rfl⟩:=List.mem_map.mp hp
 rw [List.mem_range] at hi
 refine h0 _ ?_
 show fa a0 (g i)∈_
 unfold fa
 rw [getElem?_pos a0 _ (h.rng i hi)]
 simp
theorem GS.K (h:GS a0 g pd st) {p:Nat} (hp:p<a0.size):K (arrOf st) p=K a0 (g p):=K_congr (h.get p hp)
theorem stb_one (hB:GS a0 g pd st) (hs:Sd a0 g 0 a0.size):Stb a0.size (K a0) ((List.range a0.size).map g) where
 ord:=by
  rw [List.pairwise_iff_getElem]
  intro i j hi hj hij
  simp only [List.length_map,List.length_range] at hi hj
  simp only [List.getElem_map,List.getElem_range]
  exact hs i j (Nat.zero_le _) hij hj
 lt:=fun i hi=>by
  obtain ⟨p,hp,rfl⟩:=List.mem_map.mp hi
  exact hB.rng p (List.mem_range.mp hp)
 len:=by simp
theorem lx_tr {a0:Array Keyed}:∀ a b c,Lx a0 a b->Lx a0 b c->Lx a0 a c:=fun a b c h1 h2=>by
 unfold Lx at *;omega
theorem rg_take {n m:Nat} {g:Nat->Nat} (h:m<=n):((List.range n).map g).take m=(List.range m).map g:=by
 rw [<- List.map_take,List.take_range,Nat.min_eq_left h]
theorem mem_rg_drop {n m x:Nat} {g:Nat->Nat} (h:x∈((List.range n).map g).drop m):∃ p,m<=p/\p<n/\x=g p:=by
 obtain ⟨k,hk,rfl⟩:=List.getElem_of_mem h
 simp only [List.length_drop,List.length_map,List.length_range] at hk
 exact ⟨m+k,by omega,by omega,by simp⟩
theorem stb_two {z:SortSt} {m pw:Nat} (hB:GS a0 g pd st) (hm:m<=a0.size) (s1:Sd a0 g 0 m) (i1:In g 0 m) (s2:Sd a0 g m a0.size) (i2:In g m a0.size) (d:Mgd st z m a0.size pw) :
  ∃ J,(arrOf z).toList=J.map (fa a0)/\Stb a0.size (K a0) J:=by
 refine ⟨mg (fun i j=>kle (fa a0 i) (fa a0 j)) (((List.range a0.size).map g).take m) (((List.range a0.size).map g).drop m),?_,?_,fun i hi=>?_,?_⟩
 ·rw [d.arr,hB.list,<- List.map_take,<- List.map_drop]
  exact mg_map _ (Nat.le_refl _) fun _ _ _ _=>rfl
 ·refine mg_pw (R:=Lx a0) lx_tr _ (Nat.le_refl _) ?_ ?_ fun x hx y hy=>?_
  ·rw [rg_take hm,List.pairwise_iff_getElem]
   intro i j hi hj hij
   simp only [List.length_map,List.length_range] at hi hj
   simp only [List.getElem_map,List.getElem_range]
   exact s1 i j (Nat.zero_le _) hij hj
  ·rw [List.pairwise_iff_getElem]
   intro i j hi hj hij
   simp only [List.length_drop,List.length_map,List.length_range] at hi hj
   simp only [List.getElem_drop,List.getElem_map,List.getElem_range]
   exact s2 _ _ (by omega) (by omega) (by omega)
  ·rw [rg_take hm] at hx
   obtain ⟨p,hp,rfl⟩:=List.mem_map.mp hx
   rw [List.mem_range] at hp
   obtain ⟨q,q1,q2,rfl⟩:=mem_rg_drop hy
   have a1:=(i1 p (Nat.zero_le _) hp).2
   have a2:=i2 q q1 q2
   unfold kle
   rw [K_fa (by omega),K_fa (by omega)]
   unfold Lx
   constructor
   ·intro e;rw [decide_eq_true_eq] at e;omega
   ·intro e;rw [decide_eq_false_iff_not] at e;omega
 ·rcases List.mem_merge.mp hi with hi | hi
  ·obtain ⟨p,hp,rfl⟩:=List.mem_map.mp (List.mem_of_mem_take hi)
   exact hB.rng p (List.mem_range.mp hp)
  ·obtain ⟨p,hp,rfl⟩:=List.mem_map.mp (List.mem_of_mem_drop hi)
   exact hB.rng p (List.mem_range.mp hp)
 ·show (List.merge _ _ _).length=_
  rw [List.length_merge,List.length_take,List.length_drop,List.length_map,List.length_range];omega
theorem minRun_ge {n:Nat} (h:n<128) (h2:2<=n):n<=2*minRun' n n 0/\(n<64->minRun' n n 0=n):=by
 obtain ⟨f,rfl⟩:∃ f,n=f+2:=⟨n-2,by omega⟩
 rw [show f+2=(f+1)+1 by omega,minRun'_succ]
 by_cases c:f+1+1<64
 ·rw [if_pos c];omega
 ·rw [if_neg c,minRun'_succ,if_pos (by omega)];omega
def End (a0:Array Keyed) (st:SortSt):Prop:=(∃ g,GS a0 g #[(0,a0.size,0)] st/\Sd a0 g 0 a0.size) \/
 ∃ g m pw,1<=m/\m<a0.size/\GS a0 g #[(0,m,pw),(m,a0.size-m,0)] st/\Sd a0 g 0 m/\In g 0 m/\Sd a0 g m a0.size/\In g m a0.size
theorem GS.setP (h:GS a0 g pd st) (q:Array (Nat×Nat×Nat)):GS a0 g q (setPending st q):=⟨h.size,h.get,h.rng,h.kind,h.fail,rfl⟩
theorem wpS_runs {Q:Unit->SortSt->Prop} (h0:IntKeys a0) (hB:GS a0 (fun p=>p) #[] st) (h2:2<=a0.size) (h128:a0.size<128)
  (h:∀ st' J,failedOf st'=none->(arrOf st').toList=J.map (fa a0)->Stb a0.size (K a0) J->Q () st'):wpS (model prog w) A E s sortRuns' Q st:=by
 obtain ⟨mr,_⟩:=minRun_ge h128 h2
 rw [sortRuns'_eq]
 refine wpS_bind (wpS_get ?_)
 dsimp only
 simp only [hB.size]
 generalize minRun' a0.size a0.size 0=mn at mr
 refine wpS_bind (wpS_mono (wpS_forRange
  (I:=fun x c z=>(x=0/\c=(none,0)/\GS a0 (fun p=>p) #[] z)\/(1<=x/\∃ m g,c=(none,m)/\mn<=m/\m<a0.size/\1<=m/\GS a0 g #[(0,m,0)] z/\Rn a0 (fun p=>p) g 0 m/\x=1)\/(1<=x/\c=(none,a0.size)/\End a0 z))
  (Q:=fun c z=>c=(none,a0.size)/\End a0 z) ?step ?fin (.inl ⟨rfl,rfl,hB⟩)) ?post)
 case fin =>
  rintro c z (⟨hx,_,_⟩ | ⟨_,m,g,_,_,_,_,_,_,hx⟩ | ⟨_,hc,hD⟩)
  ·omega
  ·omega
  ·exact ⟨hc,hD⟩
 case step =>
  rintro x c z _ hx (⟨rfl,rfl,hB'⟩ | ⟨x1,m,g,rfl,m1,m2,m3,hB',hr,rfl⟩ | ⟨x1,rfl,hD⟩)
  ·dsimp only
   rw [if_neg (by omega)]
   simp only [Nat.sub_zero,Nat.zero_add]
   have next:∀ (m:Nat) (g':Nat->Nat) (z':SortSt),GS a0 g' #[] z'->1<=m->m<=a0.size->mn<=m\/m=a0.size->Rn a0 (fun p=>p) g' 0 m ->
     (1=0/\((none,m):Option Unit×Nat)=(none,0)/\GS a0 (fun p=>p) #[] (setPending z' ((pendingOf z').push (0,m,0)))) \/
     (1<=1/\∃ m' g,((none,m):Option Unit×Nat)=(none,m')/\mn<=m'/\m'<a0.size/\1<=m'/\GS a0 g #[(0,m',0)] (setPending z' ((pendingOf z').push (0,m,0)))/\Rn a0 (fun p=>p) g 0 m'/\True) \/
     (1<=1/\((none,m):Option Unit×Nat)=(none,a0.size)/\End a0 (setPending z' ((pendingOf z').push (0,m,0)))):=fun m g' z' b1 b2 b3 b4 r=>by
    have eb:=b1.setP #[(0,m,0)]
    rw [show (pendingOf z').push (0,m,0)=#[(0,m,0)] by rw [b1.pend];rfl]
    by_cases e:m=a0.size
    ·subst e
     refine .inr (.inr ⟨by omega,rfl,.inl ⟨g',eb,?_⟩⟩)
     have:=r.sd
     rwa [Nat.zero_add] at this
    ·exact .inr (.inl ⟨by omega,m,g',rfl,by omega,by omega,b2,eb,r,trivial⟩)
   refine wpS_bind (wpS_countG h0 (by omega) (by omega) hB' (g0:=fun p=>p) (fun p a=>rfl) (fun p a=>rfl) fun m g' z' b1 b2 b3 r=>?_)
   dsimp only
   by_cases hlt:m<mn
   ·rw [if_pos hlt]
    refine wpS_bind (wpS_lift (wpAny_rule ⟨rfl,?_⟩))
    refine wpS_bind (wpS_binG h0 (by omega) (by omega) b2 b1 r fun g2 z2 c1 r2=>?_)
    simp only [Bool.not_true,Bool.false_eq_true,if_false]
    refine wpS_bind (wpS_get ?_)
    rw [show (pendingOf z2).back?=none by rw [c1.pend];rfl]
    dsimp only
    exact wpS_bind (wpS_modify (wpS_pure (next _ g2 z2 c1 (by omega) (by omega) (by omega) r2)))
   ·rw [if_neg hlt]
    refine wpS_bind (wpS_get ?_)
    rw [show (pendingOf z').back?=none by rw [b1.pend];rfl]
    dsimp only
    exact wpS_bind (wpS_modify (wpS_pure (next _ g' z' b1 b2 b3 (by omega) r)))
  ·dsimp only
   rw [if_neg (by omega)]
   refine wpS_bind (wpS_countG h0 (by omega) (by omega) hB' (g0:=g) (fun p a=>rfl) (fun p a=>hr.aft p (by omega)) fun f g' z' b1 b2 b3 r=>?_)
   dsimp only
   by_cases hlt:f<mn
   ·rw [if_pos hlt]
    refine wpS_bind (wpS_lift (wpAny_rule ⟨rfl,?_⟩))
    refine wpS_bind (wpS_binG h0 (by omega) (by omega) b2 b1 r fun g2 z2 c1 r2=>?_)
    rw [if_neg (by simp)]
    refine wpS_bind (wpS_get ?_)
    rw [show (pendingOf z2).back?=some (0,m,0) by rw [c1.pend];rfl]
    dsimp only
    refine wpS_bind (wpS_mono (wpS_forRange (I:=fun _ c y=>y=z2/\c=(none,())) (Q:=fun c y=>y=z2/\c=(none,())) ?_ (fun _ _ hh=>hh) ⟨rfl,rfl⟩) ?_)
    ·rintro y c y2 _ _ ⟨rfl,rfl⟩
     refine wpS_bind (wpS_get ?_)
     rw [c1.pend]
     exact wpS_pure ⟨rfl,rfl⟩
    ·rintro c y2 ⟨rfl,rfl⟩
     dsimp only
     have hn:(min (a0.size-m) mn)=a0.size-m:=by omega
     refine wpS_bind (wpS_modify (wpS_bind (wpS_modify (wpS_pure (.inr (.inr ⟨by omega,by rw [show m+(min (a0.size-m) mn)=a0.size by omega],.inr ⟨g2,m,power' a0.size (2*0+m) (2*0+m+m+(min (a0.size-m) mn)) a0.size,m3,m2,⟨c1.size,c1.get,c1.rng,c1.kind,c1.fail,?_⟩,?_,?_,?_,?_⟩⟩))))))
     ·show ((pendingOf y2).modify ((pendingOf y2).size-1) _).push _=_
      rw [c1.pend,hn]
      simp [Array.modify,Array.modifyM]
     ·intro p q a b c
      rw [r2.bef p (by omega),r2.bef q (by omega)]
      exact hr.sd p q a b (by omega)
     ·intro p a b
      rw [r2.bef p (by omega)]
      have:=hr.inn p a (by omega)
      omega
     ·have:=r2.sd
      rwa [show m+(min (a0.size-m) mn)=a0.size by omega] at this
     ·have:=r2.inn
      rwa [show m+(min (a0.size-m) mn)=a0.size by omega] at this
   ·rw [if_neg hlt]
    refine wpS_bind (wpS_get ?_)
    rw [show (pendingOf z').back?=some (0,m,0) by rw [b1.pend];rfl]
    dsimp only
    refine wpS_bind (wpS_mono (wpS_forRange (I:=fun _ c y=>y=z'/\c=(none,())) (Q:=fun c y=>y=z'/\c=(none,())) ?_ (fun _ _ hh=>hh) ⟨rfl,rfl⟩) ?_)
    ·rintro y c y2 _ _ ⟨rfl,rfl⟩
     refine wpS_bind (wpS_get ?_)
     rw [b1.pend]
     exact wpS_pure ⟨rfl,rfl⟩
    ·rintro c y2 ⟨rfl,rfl⟩
     dsimp only
     have hn:f=a0.size-m:=by omega
     refine wpS_bind (wpS_modify (wpS_bind (wpS_modify (wpS_pure (.inr (.inr ⟨by omega,by rw [show m+f=a0.size by omega],.inr ⟨g',m,power' a0.size (2*0+m) (2*0+m+m+f) a0.size,m3,m2,⟨b1.size,b1.get,b1.rng,b1.kind,b1.fail,?_⟩,?_,?_,?_,?_⟩⟩))))))
     ·show ((pendingOf y2).modify ((pendingOf y2).size-1) _).push _=_
      rw [b1.pend,hn]
      simp [Array.modify,Array.modifyM]
     ·intro p q a b c
      rw [r.bef p (by omega),r.bef q (by omega)]
      exact hr.sd p q a b (by omega)
     ·intro p a b
      rw [r.bef p (by omega)]
      have:=hr.inn p a (by omega)
      omega
     ·have:=r.sd
      rwa [show m+f=a0.size by omega] at this
     ·have:=r.inn
      rwa [show m+f=a0.size by omega] at this
  ·dsimp only
   rw [if_pos (Nat.le_refl _)]
   exact wpS_pure ⟨rfl,hD⟩
 case post =>
  rintro c z ⟨rfl,hD⟩
  dsimp only
  refine wpS_bind (wpS_mono (wpS_forRange (I:=fun x c y=>c=(none,())/\((x=0/\y=z)\/(1<=x/\(pendingOf y).size=1/\failedOf y=none/\∃ J,(arrOf y).toList=J.map (fa a0)/\Stb a0.size (K a0) J)))
   (Q:=fun c y=>c=(none,())/\failedOf y=none/\∃ J,(arrOf y).toList=J.map (fa a0)/\Stb a0.size (K a0) J) ?_ ?_ ⟨rfl,.inl ⟨rfl,rfl⟩⟩) ?_)
  ·rintro x c y _ _ ⟨rfl,⟨rfl,rfl⟩ | ⟨x1,e1,e2,e3⟩⟩
   ·refine wpS_bind (wpS_get ?_)
    rcases hD with ⟨g,b1,sd⟩ | ⟨g,m,pw,m1,m2,b1,s1,i1,s2,i2⟩
    ·rw [if_pos (by rw [b1.pend];exact Nat.le_refl 1)]
     exact wpS_pure ⟨rfl,b1.fail,_,b1.list,stb_one b1 sd⟩
    ·rw [b1.pend]
     show wpS _ _ _ _ (do
      let r <- mergeAt' 0
      if (!r)=true then pure (ForInStep.done (some (),())) else pure (ForInStep.yield (none,()))) _ _
     have le:∀ i j lo hi,Sd a0 g lo hi->lo<=i->i<=j->j<hi->hi<=a0.size->K (arrOf y) i<=K (arrOf y) j:=fun i j lo hi sd a b c d=>by
      rw [b1.K (by omega),b1.K (by omega)]
      by_cases e:i=j
      ·rw [e];exact Int.le_refl _
      ·rcases sd i j a (by omega) c with q | q<;>omega
     refine wpS_bind (wpS_mergeAt b1.kind b1.fail (b1.keys h0) b1.size m1 m2 b1.pend (fun i j a b=>le i j 0 m s1 (Nat.zero_le _) a b (by omega)) (fun i j a b c=>le i j m a0.size s2 a b c (Nat.le_refl _)) fun z' d=>?_)
     simp only [Bool.not_true,Bool.false_eq_true,if_false]
     exact wpS_pure ⟨rfl,.inr ⟨by omega,by rw [d.pend];rfl,d.fail,stb_two b1 (by omega) s1 i1 s2 i2 d⟩⟩
   ·refine wpS_bind (wpS_get ?_)
    rw [if_pos (by rw [e1];exact Nat.le_refl 1)]
    exact wpS_pure ⟨rfl,e2,e3⟩
  ·rintro c y ⟨rfl,⟨hx,_⟩ | ⟨_,_,e2,e3⟩⟩
   ·omega
   ·exact ⟨rfl,e2,e3⟩
  ·rintro c y ⟨rfl,e2,J,e3,e4⟩
   exact wpS_pure (h y J e2 e3 e4)
end
end SS

set_option maxHeartbeats 4000000
namespace SS
open PySem PyProof.Rows
section
variable {prog:Program} {w:World} {A:Around} {E:Value->Shared->Prop} {s:Shared} {a kS f:Addr} {vs:List Value} {kz:List Int} {P:PySem.Fin->Shared->Prop} {Tp:Shared->Prop} {lo:Nat}
structure TpOk (Tp:Shared->Prop) (lo:Nat):Prop where
 up:∀ (s':Shared) (x:Addr) (h':Heap) (tk:Nat),Tp s'->lo<=x->Heap.SameBut x s'.heap h'->Tp { s' with heap:=h',toks:=tk }
 push:∀ (s':Shared) (o:Obj),Tp s'->Tp { s' with heap:=s'.heap.push o }
def Key (prog:Program) (w:World) (A:Around) (Tp:Shared->Prop) (lo:Nat) (f:Addr) (vs:List Value) (kz:List Int):Prop:=∀ (i:Nat) (v:Value) (k:Int) (s':Shared),vs[i]?=some v->kz[i]?=some k->Tp s' ->
 wpAny (model prog w) A (call (.ref f) [v]) (fun u s2=>∃ t,u=.int k t/\Tp s2/\∀ b o,lo<=b->s'.heap.get? b=some o->s2.heap.get? b=some o) (fun _ _=>False) s'
theorem zip_keys {keys:Array Value} (hk:IntsAre keys.toList kz) (hl:kz.length=vs.length):(keys.zip vs.toArray).size=vs.length/\∀ i,i<vs.length->K (keys.zip vs.toArray) i=kz.getD i 0/\(fa (keys.zip vs.toArray) i).2=vs.getD i .none:=by
 have hs:keys.size=vs.length:=by have:=hk.length;rw [Array.length_toList] at this;omega
 have hz:(keys.zip vs.toArray).size=vs.length:=by rw [Array.size_zip,hs,List.size_toArray,Nat.min_self]
 refine ⟨hz,fun i hi=>?_⟩
 obtain ⟨t,ht⟩:=hk.get i (kz[i]'(by omega)) (List.getElem?_eq_getElem (by omega))
 rw [Array.getElem?_toList] at ht
 have hv:vs.toArray[i]?=some vs[i]:=by simp [hi]
 have e:(keys.zip vs.toArray)[i]?=some (.int (kz[i]'(by omega)) t,vs[i]):=by
  rw [Array.getElem?_zip_eq_some]
  exact ⟨ht,hv⟩
 constructor
 ·unfold K
  rw [e]
  show numOf (Value.int (kz[i]'(by omega)) t)=_
  rw [List.getD_eq_getElem?_getD,List.getElem?_eq_getElem (by omega)];rfl
 ·unfold fa
  rw [e,List.getD_eq_getElem?_getD,List.getElem?_eq_getElem hi];rfl
theorem Stb.congr {n:Nat} {k1 k2:Nat->Int} {J:List Nat} (h:Stb n k1 J) (e:∀ i,i<n->k1 i=k2 i):Stb n k2 J where
 ord:=h.ord.imp_of_mem fun {i j} hi hj q=>by rw [<- e i (h.lt i hi),<- e j (h.lt j hj)];exact q
 lt:=h.lt
 len:=h.len
theorem ss_tail {st:SortSt} {keys:Array Value} {e e1:Nat} {J:List Nat} (T:TpOk Tp lo) (t0:Tp s) (ok:s.heap.get? kS=some (seqObj "list" keys e)) (oa:s.heap.get? a=some (seqObj "list" #[] e1)) (hka:kS≠a) (lk:lo<=kS) (la:lo<=a)
  (hks:keys.size<=sizeLine) (hJ:(arrOf st).toList.map (·.2)=J.map fun i=>vs.getD i .none) (hl:J.length<=sizeLine) (hf:failedOf st=none)
  (h:∀ h' tk out c,Tp { s with heap:=h',toks:=tk }->h'.get? a=some (seqObj "list" out c)->out.toList=(J.map fun i=>vs.getD i .none)->P (.done (.ret .none)) { s with heap:=h',toks:=tk }) :
  wpAny (model prog w) A (ksk_tail a false e1 (.ref kS) st) P E s:=by
 have s1:=Heap.SameBut.update s.heap kS (Obj.mapSeq fun _=>(#[]:Array Value))
 have na1:(s.heap.update kS (Obj.mapSeq fun _=>(#[]:Array Value))).get? a=some (seqObj "list" #[] e1):=(s1.2 a hka.symm).trans oa
 have s2:=Heap.SameBut.update (s.heap.update kS (Obj.mapSeq fun _=>(#[]:Array Value))) a (Obj.mapSeq fun _=>(arrOf st).map (·.2))
 obtain ⟨c2,hc2⟩:∃ c2,((s.heap.update kS (Obj.mapSeq fun _=>(#[]:Array Value))).update a (Obj.mapSeq fun _=>(arrOf st).map (·.2))).get? a=some (seqObj "list" ((arrOf st).map (·.2)) c2):=⟨_,get?_update_seq na1 fun _=>(arrOf st).map (·.2)⟩
 have hz:((arrOf st).map (·.2)).size=J.length:=by
  have:=congrArg List.length hJ
  simpa using this
 unfold ksk_tail
 try dsimp only
 refine wpAny_bind (listUpdate_at ok rfl ?_ hks (Nat.zero_le _))
 refine wpAny_bind (wpAny_letGo ?_)
 refine wpAny_bind (seqEpoch_at na1 rfl ?_)
 refine wpAny_bind (listUpdate_at na1 rfl ?_ (Nat.zero_le _) (by simp only [Bool.false_eq_true,if_false];rw [hz];exact Nat.le_succ_of_le hl))
 rw [hf]
 simp only [bne_self_eq_false,Bool.false_eq_true,if_false]
 exact wpAny_pure (h _ _ _ c2 (T.up { s with heap:=s.heap.update kS (Obj.mapSeq fun _=>(#[]:Array Value)) } a _ s.toks (T.up s kS _ s.toks t0 lk s1) la s2) hc2 (by rw [Array.toList_map];exact hJ))
theorem ss_end {keys:Array Value} {e e1:Nat} (T:TpOk Tp lo) (t0:Tp s) (ok:s.heap.get? kS=some (seqObj "list" keys e)) (oa:s.heap.get? a=some (seqObj "list" #[] e1)) (hka:kS≠a) (lk:lo<=kS) (la:lo<=a)
  (hk:IntsAre keys.toList kz) (hl:kz.length=vs.length) (h128:vs.length<128)
  (h:∀ h' tk out c J,Tp { s with heap:=h',toks:=tk }->h'.get? a=some (seqObj "list" out c)->Stb vs.length (fun i=>kz.getD i 0) J->out.toList=(J.map fun i=>vs.getD i .none)->P (.done (.ret .none)) { s with heap:=h',toks:=tk }) :
  wpAny (model prog w) A (ksk_end a false vs.toArray e1 (.ref kS) keys) P E s:=by
 obtain ⟨hz,hzk⟩:=zip_keys (vs:=vs) hk hl
 have hs:keys.size=vs.length:=by have:=hk.length;rw [Array.length_toList] at this;omega
 have hL:(2:Nat) ^ 24=sizeLine:=rfl
 have snd:∀ J:List Nat,(∀ i∈J,i<vs.length)->(J.map (fa (keys.zip vs.toArray))).map (·.2)=J.map fun i=>vs.getD i .none:=fun J hJ=>by
  rw [List.map_map]
  exact List.map_congr_left fun i hi=>(hzk i (hJ i hi)).2
 unfold ksk_end
 try dsimp only
 simp only [Bool.false_eq_true,if_false]
 by_cases h2:vs.toArray.size<2
 ·rw [if_pos h2,if_pos h2]
  refine wpAny_bind (wpAny_pure ?_)
  rw [StateT.run_pure]
  refine wpAny_bind (wpAny_pure ?_)
  try dsimp only
  rw [List.size_toArray] at h2
  have g0:(keys.zip vs.toArray).toList=(List.range vs.length).map (fa (keys.zip vs.toArray)):=by
   apply List.ext_getElem?
   intro q
   rw [Array.getElem?_toList,List.getElem?_map]
   by_cases hq:q<vs.length
   ·rw [List.getElem?_range hq,getElem?_pos _ q (by rw [hz];exact hq)]
    show _=some (fa _ q)
    unfold fa
    rw [getElem?_pos _ q (by rw [hz];exact hq)];rfl
   ·rw [List.getElem?_eq_none (by simp;omega),Array.getElem?_eq_none (by rw [hz];omega)];rfl
  have sb:Stb vs.length (fun i=>kz.getD i 0) (List.range vs.length):=⟨by
   rw [List.pairwise_iff_getElem]
   intro i j hi hj hij
   simp only [List.length_range] at hi hj
   omega,fun i hi=>List.mem_range.mp hi,by simp⟩
  exact ss_tail (st:=SortSt.mk' general' (keys.zip vs.toArray) #[] 7 none) (J:=List.range vs.length) T t0 ok oa hka lk la (by rw [hs,<- hL];omega) (by
   show (keys.zip vs.toArray).toList.map (·.2)=_
   rw [g0];exact snd _ sb.lt) (by simp only [List.length_range];rw [<- hL];omega) rfl fun h' tk out c t1 t2 t3=>h h' tk out c _ t1 t2 sb t3
 ·rw [if_neg h2,if_neg h2]
  rw [List.size_toArray] at h2
  rw [ksk_kind hk (by rw [hs];omega)]
  refine wpAny_bind (wpAny_pure ?_)
  refine wpAny_bind (wpAny_mono (wpS_runs (a0:=keys.zip vs.toArray) (st:=SortSt.mk' oneType' (keys.zip vs.toArray) #[] 7 none)
   (Q:=fun _ st'=>failedOf st'=none/\∃ J,(arrOf st').toList=J.map (fa (keys.zip vs.toArray))/\Stb (keys.zip vs.toArray).size (K (keys.zip vs.toArray)) J)
   (ksk_intKeys hk) ⟨rfl,fun _ _=>rfl,fun _ hp=>hp,rfl,rfl,rfl⟩ (by rw [hz];omega) (by rw [hz];exact h128) fun st' J a1 a2 a3=>⟨a1,J,a2,a3⟩) ?_ fun _ _ e=>e)
  rintro ⟨⟨⟩,st'⟩ s' ⟨rfl,hf,J,hJ,sb⟩
  try dsimp only
  rw [hz] at sb
  have sb2:=sb.congr fun i hi=>(hzk i hi).1
  exact ss_tail (J:=J) T t0 ok oa hka lk la (by rw [hs,<- hL];omega) (by rw [hJ];exact snd J sb.lt) (by rw [sb.len,<- hL];omega) hf fun h' tk out c t1 t2 t3=>h h' tk out c _ t1 t2 sb2 t3
theorem ss_rest {e1:Nat} (T:TpOk Tp lo) (t0:Tp s) (ok:s.heap.get? kS=some (seqObj "list" #[] 0)) (oa:s.heap.get? a=some (seqObj "list" #[] e1)) (hka:kS≠a) (lk:lo<=kS) (la:lo<=a)
  (hl:kz.length=vs.length) (h128:vs.length<128) (turn:Key prog w A Tp lo f vs kz)
  (h:∀ s' out c J,Tp s'->s'.heap.get? a=some (seqObj "list" out c)->Stb vs.length (fun i=>kz.getD i 0) J->out.toList=(J.map fun i=>vs.getD i .none)->P (.done (.ret .none)) s') :
  wpAny (model prog w) A (ksk_rest a (.ref f) false vs.toArray e1 (.ref kS)) P E s:=by
 have hL:(2:Nat) ^ 24=sizeLine:=rfl
 unfold ksk_rest
 refine wpAny_bind (wpAny_rule ?_)
 first
  | rw [List.forIn_toArray]
  | (rw [<- Array.forIn_toList];simp only [List.toList_toArray])
  | rw [<- Array.forIn_toList]
 refine wpAny_bind (ksk_fold (fun i s'=>Tp s'/\∃ kA e,s'.heap.get? kS=some (seqObj "list" kA e)/\s'.heap.get? a=some (seqObj "list" #[] e1)/\IntsAre kA.toList (kz.take i)) vs 0 s
  ⟨t0,#[],0,ok,oa,by simpa using IntsAre.nil⟩ ?step ?done)
 case step =>
  rintro j x s' hx ⟨t1,kA,e,o1,o2,hk⟩
  simp only [Nat.zero_add] at hk |-
  have hj:j<vs.length:=(List.getElem?_eq_some_iff.mp hx).1
  obtain ⟨k,hkj⟩:∃ k,kz[j]?=some k:=⟨_,List.getElem?_eq_getElem (by omega)⟩
  have hz:kA.size<=vs.length:=by
   have h1:=hk.length
   rw [Array.length_toList,List.length_take] at h1
   omega
  refine wpAny_bind (wpAny_attempt (wpAny_mono (turn j x k s' hx hkj t1) (fun v s'' he=>?_) fun _ _ hF=>hF.elim))
  obtain ⟨t2,rfl,t3,keep⟩:=he
  try dsimp only
  have o1':=keep kS _ lk o1
  have o2':=keep a _ la o2
  have s1:=Heap.SameBut.update s''.heap kS (Obj.mapSeq (·.push (.int k t2)))
  obtain ⟨c2,hc2⟩:∃ c2,(s''.heap.update kS (Obj.mapSeq (·.push (.int k t2)))).get? kS=some (seqObj "list" (kA.push (.int k t2)) c2):=⟨_,get?_update_seq o1' (·.push (.int k t2))⟩
  have ek:kz.take (j+1)=kz.take j++[k]:=by rw [List.take_add_one,hkj];simp
  have ea:(kA.push (Value.int k t2)).toList=kA.toList++[Value.int k t2]:=by simp
  refine wpAny_bind (listUpdate_at o1' rfl ?_ (by rw [<- hL];omega) (Nat.le_trans (Nat.le_of_eq (Array.size_push ..)) (by rw [<- hL];omega)))
  exact wpAny_pure ⟨rfl,T.up _ kS _ _ t3 lk s1,kA.push (.int k t2),c2,hc2,(s1.2 a hka.symm).trans o2',by rw [ea,ek];exact ksk_snoc hk⟩
 case done =>
  rintro s' ⟨t1,kA,e,o1,o2,hk⟩
  have e3:kz.take (0+vs.length)=kz:=List.take_of_length_le (by omega)
  rw [e3] at hk
  try dsimp only
  refine wpAny_bind (listItems_at o1 rfl ?_)
  exact ss_end T t1 o1 o2 hka lk la hk hl h128 fun h' tk out c J t2 o3 sb ho=>h _ out c J t2 o3 sb ho
theorem ss_sort {n:Nat} (T:TpOk Tp lo) (t0:Tp s) (oa:s.heap.get? a=some (seqObj "list" vs.toArray n)) (la:lo<=a) (hl:kz.length=vs.length) (h128:vs.length<128) (turn:Key prog w A Tp lo f vs kz)
  (h:∀ s' out c J,Tp s'->s'.heap.get? a=some (seqObj "list" out c)->Stb vs.length (fun i=>kz.getD i 0) J->out.toList=(J.map fun i=>vs.getD i .none)->P (.done (.ret .none)) s') :
  wpAny (model prog w) A (ksk_tree a (.ref f) false) P E s:=by
 have hL:(2:Nat) ^ 24=sizeLine:=rfl
 have ha:a<s.heap.objs.size:=Heap.lt_size oa
 have s1:=Heap.SameBut.update s.heap a (Obj.mapSeq fun _=>(#[]:Array Value))
 obtain ⟨e1,ho1⟩:∃ e1,(s.heap.update a (Obj.mapSeq fun _=>(#[]:Array Value))).get? a=some (seqObj "list" #[] e1):=⟨_,get?_update_seq oa fun _=>#[]⟩
 have hkS:((s.heap.update a (Obj.mapSeq fun _=>(#[]:Array Value))).push (seqObj "tuple" vs.toArray 0)).objs.size=s.heap.objs.size+1:=by rw [size_push',Heap.size_update]
 unfold ksk_tree
 refine wpAny_bind (listItems_at oa rfl ?_)
 refine wpAny_bind (listUpdate_at oa rfl ?_ (by rw [List.size_toArray,<- hL];omega) (Nat.zero_le _))
 refine wpAny_bind (seqEpoch_at ho1 rfl ?_)
 refine wpAny_bind (wpAny_newTuple ?_ (by show vs.length<=_;rw [<- hL];omega))
 refine wpAny_bind (wpAny_newList ?_ (Nat.zero_le _))
 refine wpAny_holding ?_
 exact ss_rest (s:={ s with heap:=((s.heap.update a (Obj.mapSeq fun _=>(#[]:Array Value))).push (seqObj "tuple" vs.toArray 0)).push (seqObj "list" #[] 0) }) (kS:=((s.heap.update a (Obj.mapSeq fun _=>(#[]:Array Value))).push (seqObj "tuple" vs.toArray 0)).objs.size)
  T (T.push { s with heap:=(s.heap.update a (Obj.mapSeq fun _=>(#[]:Array Value))).push (seqObj "tuple" vs.toArray 0) } _ (T.push { s with heap:=s.heap.update a (Obj.mapSeq fun _=>(#[]:Array Value)) } _ (T.up s a _ s.toks t0 la s1)))
  (Heap.get?_push_size _ rfl) (Heap.get?_push_of_some _ (Heap.get?_push_of_some _ ho1)) (by rw [hkS];exact Nat.ne_of_gt (Nat.lt_succ_of_lt ha)) (by rw [hkS];exact Nat.le_trans la (Nat.le_of_lt (Nat.lt_succ_of_lt ha))) la hl h128 turn h
theorem ss_sorted {l:Addr} {Q:Value->Shared->Prop} (T:TpOk Tp lo) (t0:Tp s) (hl:s.heap.IsList l vs.toArray) (hlo:lo<=s.heap.objs.size) (hlen:kz.length=vs.length) (h128:vs.length<128) (turn:Key prog w A.in1.in1 Tp lo f vs kz)
  (h:∀ s' D out c J,Tp s'->s.heap.objs.size<=D->s'.heap.get? D=some (seqObj "list" out c)->Stb vs.length (fun i=>kz.getD i 0) J->out.toList=(J.map fun i=>vs.getD i .none)->Q (.ref D) s') :
  wpAny (model prog w) A (call (.builtin "sorted") [.ref l] [(Str.ofString "key",.ref f)]) Q E s:=by
 have hL:(2:Nat) ^ 24=sizeLine:=rfl
 refine call_function_entry_kw kind_sorted plain_sorted entry_sorted (ksk_s1 _ _) ?_
 unfold Builtin.«sorted»
 refine wpAny_bind (m:=checkCount "sorted" 1 1 _) (wpAny_pure ?_)
 refine wpAny_bind (collect_list hl ?_ (by rw [<- hL];omega))
 refine wpAny_bind (wpAny_newList ?_ (by rw [<- hL];omega))
 have hsz:((s.heap.push (seqObj "list" #[] 0)).update s.heap.objs.size (Obj.mapSeq (·++vs.toArray))).objs.size=s.heap.objs.size+1:=by
  rw [Heap.size_update,size_push']
 have hoL:(((s.heap.push (seqObj "list" #[] 0)).update s.heap.objs.size (Obj.mapSeq (·++vs.toArray))).push (seqObj "list" vs.toArray 0)).get? (s.heap.objs.size+1)=some (seqObj "list" vs.toArray 0):=by
  rw [<- hsz];exact Heap.get?_push_size _ rfl
 show wpAny _ _ _ _ _ { s with heap:=((s.heap.push (seqObj "list" #[] 0)).update s.heap.objs.size (Obj.mapSeq (·++vs.toArray))).push (seqObj "list" vs.toArray 0) }
 rw [hsz]
 refine wpAny_bind (wpAny_holding (wpAny_call_entry_kw slot_list_sort ⟨_,hoL,rfl⟩ entry_list_sort ?body (ksk_l1 _ _)))
 case body =>
  show wpAny (model prog w) A.in1.in1 (Builtin.«list.sort» ⟨[.ref (s.heap.objs.size+1)],[(Str.ofString "key",.ref f)]⟩) _ _ _
  rw [ksk_t1]
  have t1:=T.push { s with heap:=(s.heap.push (seqObj "list" #[] 0)).update s.heap.objs.size (Obj.mapSeq (·++vs.toArray)) } (seqObj "list" vs.toArray 0) (T.up { s with heap:=s.heap.push (seqObj "list" #[] 0) } s.heap.objs.size _ s.toks (T.push s (seqObj "list" #[] 0) t0) hlo (Heap.SameBut.update _ _ _))
  refine ss_sort (s:={ s with heap:=((s.heap.push (seqObj "list" #[] 0)).update s.heap.objs.size (Obj.mapSeq (·++vs.toArray))).push (seqObj "list" vs.toArray 0) }) T t1 hoL (Nat.le_succ_of_le hlo) hlen h128 turn fun s' out c J t2 o sb ho=>⟨_,rfl,?_⟩
  exact wpAny_pure ⟨_,rfl,h s' _ out c J t2 (Nat.le_succ _) o sb ho⟩
end
end SS

set_option maxHeartbeats 1000000
namespace L2
open PySem PySem.Spec PyProof.Rows
theorem among_snoc {p:Pos} {a b:Int} {x:Value}:∀ (l:List Value),TriplesOk l->∀ y,codeAmong p (l++[rawInt a,rawInt b,x])=some y->codeAmong p l=some y\/y=x:=by
 intro l h
 fun_induction TriplesOk l with
 | case1 =>
  intro y e
  have e':(if (a == p.line && b == p.col)=true then some x else codeAmong p [])=some y:=e
  split at e'
  ·exact .inr (Option.some.inj e').symm
  ·cases e'
 | case2 u t v w z r ih =>
  intro y e
  simp only [List.cons_append,codeAmong] at e |-
  split at e
  ·rename_i hc;rw [if_pos hc];exact .inl e
  ·rename_i hc;rw [if_neg hc];exact ih h y e
 | case3=>exact h.elim
section
variable {X:Cx} {pins:List (Addr×Obj)} {σ:St} {H:Hp} {s:Shared}
structure Lam (X:Cx) (H:Hp) (h:Heap) (f c:Addr) (fd:FuncData):Prop where
 obj:h.get? f=some { cls:=.type "function",data:=.func fd }
 free:H f=none
 code:fd.code=.ref c
 trk:∃ oc P,H c=some (.frz oc (.own P))/\CodeO oc
 nfr:f∉frs X.stack
theorem Inv.builtinsAt (I:Inv X pins σ H s) {P:Addr} {qs:Array Value} (e:s.heap.get? P=some { cls:=.none,data:=.fields qs }):s.heap.BuiltinsAt X.mg P/\mainGlobals≠P:=by
 obtain ⟨bm,o,b1,b2,b3,b4,b5,b6⟩:=I.mod.bmod
 have hg:=I.mod.glob
 obtain ⟨og,es,ep,g1,g2,_⟩:=hg
 refine ⟨⟨bm,o,b1,b2,fun z=>?_,fun z=>?_,I.bk _ _ b3,b4,b5,b6⟩,fun z=>?_⟩
 ·rw [z,g1] at b3;cases b3;rw [g2] at b6;cases b6
 ·have:=I.bk _ _ b3
  rw [z,e] at this;cases this;cases b6
 ·have:=I.bk _ _ g1
  rw [z,e] at this;cases this;cases g2
theorem lam_make {params:Arguments} {body:Expr} {scope:Scope} {pos:Pos} {c P:Addr} {Q:Value->Shared->Prop} {E:Value->Shared->Prop} {name qual:Str} {line:Nat} (I:Inv X pins σ H s) (hT:tabA=some P) (hc:X.env.code=.ref c) (C:PySem.W.CodeHd X.base c P) (hfr:∀ x∈scope.names,x.2=.free->∃ c,X.env.cells.lookup x.1=some c)
  (h:∀ (H':Hp) (s':Shared) (f c':Addr) (cl:List (Str×Addr)) (pm ctv:Value),Inv X pins σ H' s'->(∀ b u,H b=some u->H' b=some u)->Lam X H' s'.heap f c' (PySem.W.kla_fn name qual params body scope cl pm (.ref c') ctv)->(∀ n c,cl.lookup n=some c->X.env.cells.lookup n=some c)->(∀ n,(n,NameKind.free)∈scope.names->∃ c,cl.lookup n=some c)->Q (.ref f) s') :
  wpAny (model X.prog X.w) X.A (makeFunction name qual params (.expr body) scope X.env [] [] [] pos line) Q E s:=by
 obtain ⟨cl,hcl,hc1,hc2⟩:=closure_of hfr
 obtain ⟨ps,hP⟩:=I.env0.tab P hT
 obtain ⟨qs,e1,e2,e3⟩:=I.hok P _ hP
 obtain ⟨hb,hgP⟩:=I.builtinsAt e1
 have hg:=I.mod.glob.keeps I.bk
 have C':=C.keeps I.bk
 have nofr:∀ b,s.heap.objs.size<=b->b∉frs X.stack:=fun b hb z=>by
  rcases List.mem_cons.mp (I.stkSub b z) with y | y
  ·rw [y] at hb;exact absurd I.lt (Nat.not_lt.mpr hb)
  ·exact I.nofs hb y
 cases hm:codeAmong pos qs.toList with
 | none =>
  refine PySem.W.kla_makeFunction (mg:=X.mg) hcl I.ok.glob hg hc C' e1 e2 hm hgP hb fun c' ctv h' tk hx hge hlt hrec htb=>?_
  obtain ⟨c2,oc,vs,t,q1,q2,q3,q4⟩:=hrec
  cases q1
  have hcn:H c'=none:=I.hok.fresh hge
  have hfn:H h'.objs.size=none:=I.hok.fresh (Nat.le_trans hge (Nat.le_of_lt hlt))
  have cP:c'≠P:=fun z=>by rw [z,hP] at hcn;cases hcn
  have kp:∀ b o,b≠P->s.heap.get? b=some o->(h'.push (PySem.W.kla_obj name qual params body scope cl ((X.mg "__name__").getD .none) c' ctv)).get? b=some o:=fun b o z e=>Heap.get?_push_of_some _ (hx b o z e)
  have nP:∀ b,H b=none->b≠P:=fun b e z=>by rw [z,hP] at e;cases e
  have sH:∀ b u,H b=some u->upd H c' (.frz oc (.own P)) b=some u:=fun b u e=>by rw [upd_ne (ne_of_none e hcn)];exact e
  have un:Un X.fs [] H (upd H c' (.frz oc (.own P))) s.heap (h'.push (PySem.W.kla_obj name qual params body scope cl ((X.mg "__name__").getD .none) c' ctv)) :=
   ⟨fun b o e n _ _=>kp b o (nP b n) e,fun b o e n _ _=>⟨o.slots,kp b o (nP b n) e⟩,fun b o e n _=>by rw [upd_ne (Nat.ne_of_lt (Nat.lt_of_lt_of_le (Heap.lt_size e) hge))];exact n,fun b o e _=>by
    by_cases z:b=P
    ·exact ⟨_,by rw [z];exact Heap.get?_push_of_some _ htb⟩
    ·exact ⟨o,kp b o z e⟩,fun b xs e=>sH _ _ e,fun b o u e=>sH _ _ e,fun b ps e=>⟨#[],by rw [sH _ _ e];simp⟩⟩
  have hok:HOk X.prog X.w (upd H c' (.frz oc (.own P))) (h'.push (PySem.W.kla_obj name qual params body scope cl ((X.mg "__name__").getD .none) c' ctv)):=fun b u e=>by
   by_cases z:b=c'
   ·subst z
    rw [upd_same] at e
    cases e
    exact ⟨Heap.get?_push_of_some _ q2,_,Heap.get?_push_of_some _ q2⟩
   ·rw [upd_ne z] at e
    by_cases z2:b=P
    ·subst z2
     rw [hP] at e
     cases e
     refine ⟨_,Heap.get?_push_of_some _ htb,?_,fun p x hp=>?_⟩
     ·rw [Array.toList_append];exact TriplesOk_snoc _ _ _ _ e2
     ·rw [Array.toList_append] at hp
      rcases among_snoc _ e2 _ hp with hp | hp
      ·obtain ⟨c3,o3,r1,r2,r3⟩:=e3 p x hp
       exact ⟨c3,o3,r1,sH _ _ r2,r3⟩
      ·exact ⟨c',oc,hp,upd_same,vs,_,t,q3,q4⟩
    ·refine (I.hok b u e).stay (fun y v hy r=>kp y v ?_ r) (fun y r=>sH _ _ r) (fun y xs r=>sH _ _ r) fun y o v r=>sH _ _ r
     rcases hy with rfl | hy
     ·exact z2
     ·intro z3;rw [z3,hP] at hy;cases hy
  refine h _ _ h'.objs.size c' cl _ ctv (I.un (t':=tk) un hok) sH ⟨Heap.get?_push_size _ rfl,by rw [upd_ne (Nat.ne_of_gt hlt)];exact hfn,rfl,⟨oc,P,upd_same,vs,_,t,q3,q4⟩,nofr _ (Nat.le_trans hge (Nat.le_of_lt hlt))⟩ hc1 hc2
 | some cv =>
  obtain ⟨c',oc,r1,r2,r3⟩:=e3 pos cv hm
  subst r1
  refine PySem.W.kla_makeFunctionHit (mg:=X.mg) hcl I.ok.glob hg hc C' e1 e2 hm hb fun ctv h' tk hx hsz=>?_
  exact h H _ h'.objs.size c' cl _ ctv (I.kept (t':=tk) fun b o e=>Heap.get?_push_of_some _ (hx b o e)) (fun _ _ e=>e) ⟨Heap.get?_push_size _ rfl,I.hok.fresh hsz,rfl,⟨oc,P,r2,r3⟩,nofr _ hsz⟩ hc1 hc2
end
theorem call_expr {prog:Program} {w:World} {A:Around} {R:Result->Shared->Prop} {s:Shared} {f c:Addr} {args:Args} {fd:FuncData} {body:Expr} {oc:Obj} {binds:List (Str×Value)} (hroom:A.depth<recursionLimit) (hlim:s.heap.NoLimit)
  (ho:s.heap.get? f=some { cls:=.type "function",data:=.func fd }) (hco:fd.scope.isCoroutine=false) (hgen:fd.scope.isGenerator=false) (hb:fd.body=.expr body) (hc:fd.code=.ref c) (oco:s.heap.get? c=some oc) (hC:CodeO oc)
  (hbind:bindArgs fd args=pure binds) (hcell:∀ x∈fd.scope.names,x.2≠.cell) (hloc:∀ x∈binds,fd.scope.names.lookup x.1=some .local) (hk:fd.scope.kind=.function) (hgl:fd.globals=mainGlobals) (hbl:fd.builtins=builtinsNs)
  (h:∀ (q:Str) (h1:Heap),h1.Ns s.heap.objs.size (fun y=>binds.reverse.lookup y)->(∀ b o,s.heap.get? b=some o->h1.get? b=some o) ->
   wpAny (model prog w) (A.deeper (PySem.W.envX q fd.scope s.heap.objs.size f fd.code fd.closure)) (eval body (PySem.W.envX q fd.scope s.heap.objs.size f fd.code fd.closure)) (fun v s'=>R (.ok (.ret v)) s') (fun _ _=>False) { s with heap:=h1,toks:=s.toks+binds.length }) :
  codeAny (model prog w) A (.call (.ref f) args) R s:=by
 obtain ⟨vs,q,t,hd,hq⟩:=hC
 refine codeAny_of_tree ?_
 show wpAny _ A.in1 (callAny (.ref f) args) _ _ s
 simp only [callAny]
 refine wpAny_bind (wpAny_load ho ?_)
 simp only [callFunction,hco,hgen,hb,hc]
 refine wpAny_bind (m:=field (.ref c) 1) (wpAny_field oco hd hq (wpAny_bind (wpAny_pure ?_)))
 rw [hbind,hgl,hbl]
 refine wpAny_bind (wpAny_pure (wpAny_bind (wpAny_newFunctionEnv hcell hloc (fun h1 hns hsb=>?_) hk)))
 have kp:∀ b o,s.heap.get? b=some o->h1.get? b=some o:=fun b o e=>hsb.extBut b o (Nat.ne_of_lt (Heap.lt_size e)) (Heap.get?_push_of_some _ e)
 refine wpAny_bind (wpAny_enterFrame (hlim.keeps kp) hroom (wpAny_pure ⟨rfl,?_⟩))
 have:=h q h1 hns kp
 rw [hc] at this
 exact PySem.W.kla_codeExpr (wpAny_mono this (fun _ _ r=>r) fun _ _ r=>r.elim)
abbrev lamSc:Scope:={ kind:=.function,names:=[(Str.ofString "entry",.local),(Str.ofString "bottom",.free)],isGenerator:=false,isCoroutine:=false,more:=[] }
def lamX (X:Cx) (A':Around) (q:Str) (f:Addr) (cd:Value) (cl:List (Str×Addr)) (s:Shared) (H:Hp):Cx where
 prog:=X.prog
 w:=X.w
 K:=X.K
 mg:=X.mg
 base:=X.base
 A:=A'.deeper (PySem.W.envX q lamSc s.heap.objs.size f cd cl)
 N:=["entry","bottom"]
 s₀:=s
 H₀:=H
 env:=PySem.W.envX q lamSc s.heap.objs.size f cd cl
 outer:=X.stack
 stack:=PySem.W.envX q lamSc s.heap.objs.size f cd cl::X.stack
 ex:=[]
 fn:=fun _=>false
 calm:=true
 pn:=[]
 xe:=fun _ _=>False
theorem inv_lam {X:Cx} {pins:List (Addr×Obj)} {σ:St} {A':Around} {q:Str} {f cb:Addr} {cd:Value} {cl:List (Str×Addr)} {s:Shared} {H:Hp} {h1:Heap} {tk:Nat} {u:Value} {x:V} {b:Int} {t:Tok} (I:Inv X pins σ H s) (hF:A'.frames=some X.stack) (hA:A'.handled=none)
  (hcl:∀ n c,cl.lookup n=some c->X.env.cells.lookup n=some c) (hcb:cl.lookup ("bottom":Str)=some cb) (hcell:s.heap.IsCell cb (some (.int b t))) (r:RelV x u)
  (hns:h1.Ns s.heap.objs.size (fun y=>[((Str.ofString "entry":Str),u)].reverse.lookup y)) (kp:∀ b o,s.heap.get? b=some o->h1.get? b=some o) :
  Inv (lamX X A' q f cd cl s H) [] [some x,some (.int b)] H { s with heap:=h1,toks:=tk }:=by
 have e0:=I.env0
 have noA:∀ b:Addr,b∉(lamX X A' q f cd cl s H).ex:=fun b z=>absurd (show b∈([]:List Addr) from z) (by simp)
 have kd:∀ y:Str,lamSc.names.lookup y=some .cell\/lamSc.names.lookup y=some .free->y="bottom":=fun y hy=>by
  have e:lamSc.names.lookup y=if y == (Str.ofString "entry") then some .local else if y == (Str.ofString "bottom") then some .free else none:=by
   show List.lookup y [(Str.ofString "entry",NameKind.local),(Str.ofString "bottom",NameKind.free)]=_
   rw [List.lookup_cons,List.lookup_cons]
   cases (y == Str.ofString "entry")<;>cases (y == Str.ofString "bottom")<;>rfl
  rw [e] at hy
  split at hy
  ·rcases hy with z | z<;>cases z
  ·split at hy
   ·rename_i z;exact eq_of_beq z
   ·rcases hy with z | z<;>cases z
 obtain ⟨oc,ho,hdc⟩:=hcell
 have cell1:h1.IsCell cb (some (.int b t)):=⟨oc,kp _ _ ho,hdc⟩
 refine ⟨⟨e0.mod,rfl,rfl,rfl,Nat.le_refl _,fun y z c a1 a2=>I.ok.inj y z c (hcl y c a1) (hcl z c a2),fun y hy=>?_,fun y c z=>(nomatch (show false=true from z)),fun _=>hA,Around.frames_deeper hF,.inr ⟨rfl,rfl⟩,fun b z=>absurd z (noA b),e0.bs,e0.bsz,fun b _ _=>noA b,fun b z=>absurd z (noA b),e0.funs,e0.frf,e0.tab⟩,
  rfl,e0.bare,Un.kept kp,⟨_,hns,fun i y v a1 a2 a3=>?_⟩,fun y c a1=>?_,e0.hok.fresh (Nat.le_refl _),fun y c a1=>I.freeC y c (hcl y c a1),fun p hp=>absurd (show p∈([]:List (Addr×Obj)) from hp) (by simp),e0.hok.kept kp,rfl⟩
 ·have:=kd y hy
  rw [this];exact ⟨cb,hcb⟩
 ·match i,a1,a2 with
  | 0,a1,a2 =>
   cases a1
   cases a2
   exact ⟨u,r,.inl ⟨rfl,rfl⟩⟩
  | 1,a1,a2 =>
   cases a1
   cases a2
   exact ⟨.int b t,⟨t,rfl⟩,.inr ⟨.inr rfl,cb,hcb,cell1⟩⟩
  | i+2,a1,a2=>cases a1
 ·obtain ⟨v,o,h1,h2⟩:=I.cell y c (hcl y c a1)
  exact ⟨v,o,kp _ _ h1,h2⟩
theorem Un.but {fs ex:List Addr} {H H1:Hp} {h h1 h':Heap} {a:Addr} (u:Un fs ex H H1 h h1) (hs:Heap.SameBut a h1 h') (ha:h.objs.size<=a):Un fs ex H H1 h h':=by
 have ne:∀ b o,h.get? b=some o->b≠a:=fun b o e=>Nat.ne_of_lt (Nat.lt_of_lt_of_le (Heap.lt_size e) ha)
 refine ⟨fun b o e n h1 h2=>(hs.2 b (ne b o e)).trans (u.keep b o e n h1 h2),fun b o e n h1 h2=>?_,u.free,fun b o e h2=>?_,u.tups,u.frzs,u.tbls⟩
 ·obtain ⟨sl,z⟩:=u.slot b o e n h1 h2
  exact ⟨sl,(hs.2 b (ne b o e)).trans z⟩
 ·obtain ⟨o',z⟩:=u.there b o e h2
  exact ⟨o',(hs.2 b (ne b o e)).trans z⟩
theorem Un.new {fs ex:List Addr} {H H1:Hp} {h h1:Heap} {a:Addr} {o:HO} (u:Un fs ex H H1 h h1) (hn:H1 a=none) (ha:h.objs.size<=a):Un fs ex H (upd H1 a o) h h1 where
 keep:=u.keep
 slot:=u.slot
 free:=fun b ob e n hx=>by rw [upd_ne (Nat.ne_of_lt (Nat.lt_of_lt_of_le (Heap.lt_size e) ha))];exact u.free b ob e n hx
 there:=u.there
 tups:=fun b xs e=>by have z:=u.tups b xs e;rw [upd_ne (ne_of_none z hn)];exact z
 frzs:=fun b ob v e=>by have z:=u.frzs b ob v e;rw [upd_ne (ne_of_none z hn)];exact z
 tbls:=fun b ps e=>by
  obtain ⟨m,z⟩:=u.tbls b ps e
  exact ⟨m,by rw [upd_ne (ne_of_none z hn)];exact z⟩
theorem HOk.new {P:Program} {w:World} {H:Hp} {h:Heap} {a:Addr} {o:HO} (x:HOk P w H h) (hn:H a=none) (new:ObjOk P w (upd H a o) h a o):HOk P w (upd H a o) h:=fun b u e=>by
 by_cases hb:b=a
 ·subst hb;rw [upd_same] at e;cases e;exact new
 ·rw [upd_ne hb] at e
  have st:∀ c v,H c=some v->upd H a o c=some v:=fun c v q=>by rw [upd_ne (ne_of_none q hn)];exact q
  exact (x b u e).stay (fun c v _ q=>q) (fun c q=>st _ _ q) (fun c xs q=>st _ _ q) fun c ob v q=>st _ _ q
abbrev lamPs (p:Pos):Arguments:={ posonlyargs:=[],args:=[{ arg:="entry",annotation:=none,pos:=p }],vararg:=none,kwonlyargs:=[],kw_defaults:=[],kwarg:=none,defaults:=[] }
def EntK (K:PySem.W.Frag) (H:Hp) (b:Int) (x:V) (k:Int):Prop:=∃ (q:Addr) (x0 x1:V) (d:Addr) (top bot:Int),x=.ref q/\SqT K H q [x0,x1,.ref d]/\SqT K H d [.int top,.int bot]/\CDiv b bot/\CMul top (b / bot)/\k=top*(b / bot)
theorem EntK.same {K:PySem.W.Frag} {H H':Hp} {b:Int} {x:V} {k:Int} (h:EntK K H b x k) (s:∀ c u,H c=some u->H' c=some u):EntK K H' b x k:=by
 obtain ⟨q,x0,x1,d,top,bot,h1,h2,h3,h4⟩:=h
 exact ⟨q,x0,x1,d,top,bot,h1,TL.Same.seqT s h2,TL.Same.seqT s h3,h4⟩
section
variable {p1 p2 p3 p4 p5 p6 p7 p8 p9 q1 q2 q3 q4:Pos}
theorem pe_lam {X:Cx} {A':Around} {q:Str} {f:Addr} {cd:Value} {cl:List (Str×Addr)} {s:Shared} {H:Hp} {pins:List (Addr×Obj)} {s1:Shared} {x:V} {b k:Int} (I:Inv (lamX X A' q f cd cl s H) [] [some x,some (.int b)] H s1) (h:EntK X.K H b x k) :
  wpAny (model X.prog X.w) (lamX X A' q f cd cl s H).A (eval (.BinOp (.Subscript (.Subscript (.Name "entry" p1) (.Constant (.int 2) 0 p2) p3) (.Constant (.int 0) 0 p4) p5) .Mult (.BinOp (.Name "bottom" p6) .FloorDiv (.Subscript (.Subscript (.Name "entry" p7) (.Constant (.int 2) 0 p8) p9) (.Constant (.int 1) 0 q1) q2) q3) q4) (lamX X A' q f cd cl s H).env)
   (EP (lamX X A' q f cd cl s H) [] [some x,some (.int b)] fun v H'=>v=.int k/\H'=H) (fun _ _=>False) s1:=by
 have pe:PE (lamX X A' q f cd cl s H) (.BinOp (.Subscript (.Subscript (.Name "entry" p1) (.Constant (.int 2) 0 p2) p3) (.Constant (.int 0) 0 p4) p5) .Mult (.BinOp (.Name "bottom" p6) .FloorDiv (.Subscript (.Subscript (.Name "entry" p7) (.Constant (.int 2) 0 p8) p9) (.Constant (.int 1) 0 q1) q2) q3) q4) _ :=
  pe_op op_mul (pe_ix ix_seq (pe_ix ix_seq (pv 0) pe_int (by intro _ _;rfl)) pe_int (by intro _ _;rfl)) (pe_op op_fdiv (pv 1) (pe_ix ix_seq (pe_ix ix_seq (pv 0) pe_int (by intro _ _;rfl)) pe_int (by intro _ _;rfl)))
 obtain ⟨qa,x0,x1,d,top,bot,rfl,h1,h2,h3,h4,rfl⟩:=h
 refine pe [] s1 _ H _ I ?_
 refine ⟨_,rfl,.inr (.inl ⟨qa,_,2,.ref d,rfl,rfl,h1,rfl,.inr (.inl ⟨d,_,0,.int top,rfl,rfl,h2,rfl,?_⟩)⟩)⟩
 refine ⟨_,rfl,_,rfl,.inr (.inl ⟨qa,_,2,.ref d,rfl,rfl,h1,rfl,.inr (.inl ⟨d,_,1,.int bot,rfl,rfl,h2,rfl,?_⟩)⟩)⟩
 exact ⟨b,bot,rfl,rfl,h3,top,b / bot,rfl,rfl,h4,rfl,rfl⟩
def tSortL (K:PySem.W.Frag) (ib:Nat) (ta:TA):TE:=fun σ H Q=>ta σ H fun vs H1=>∃ (p:Addr) (xs:List V) (b:Int) (kz:List Int),vs=[.ref p]/\SqL K H1 p xs/\xs.length<128/\σ[ib]?=some (some (.int b))/\kz.length=xs.length/\(∀ (i:Nat) x k,xs[i]?=some x->kz[i]?=some k->EntK K H1 b x k) /\
 ∀ H2,(∀ c u,H1 c=some u->H2 c=some u)->∀ (J:List Nat) r,SS.Stb xs.length (fun i=>kz.getD i 0) J->H2 r=none->Q (.ref r) (upd H2 r (.lst (J.map fun i=>xs.getD i .non)))
theorem pe_sortL {X:Cx} {ib:Nat} {e:Expr} {ta:TA} {k:Nat} {c P:Addr} {np lp ap kp pos:Pos} (hr:Room (k+3) X.A) (hT:tabA=some P) (hc:X.env.code=.ref c) (C:PySem.W.codeHdIn X.K c P=true) (hib:X.N[ib]?=some "bottom") (hk:X.env.kindOf "bottom"=some .cell)
  (hg:Gl X "sorted") (hm:X.mg "sorted"=none) (hv:bootBuiltins "sorted"=some (.builtin "sorted")) (ha:PA X [e] ta)
  (he:backTo pos (starEach [e] X.env)=(false,eval e X.env)::backTo pos (starEach [] X.env):=by rfl)
  (hpl:(backTo pos (starEach [e] X.env)).any (·.1)=false:=by rfl) :
  PE X (.Call (.Name "sorted" np) [e] [⟨some (Str.ofString "key"),.Lambda (lamPs ap) (.BinOp (.Subscript (.Subscript (.Name "entry" p1) (.Constant (.int 2) 0 p2) p3) (.Constant (.int 0) 0 p4) p5) .Mult (.BinOp (.Name "bottom" p6) .FloorDiv (.Subscript (.Subscript (.Name "entry" p7) (.Constant (.int 2) 0 p8) p9) (.Constant (.int 1) 0 q1) q2) q3) q4) lamSc lp,kp⟩] pos) (tSortL X.K ib ta):=by
 intro pins s σ H Q I h
 refine wpAny_Call_Name_kw (ld_blt I hg hm hv ?_ (by decide) (by decide))
 refine callWith_kw (thn (ha pos pins s σ H _ I h) fun us s1 ⟨vs,H1,I1,r1,q1⟩=>?_) he hpl
 obtain ⟨p,xs,b,kz,rfl,hS,h128,hσ,hkz,hent,q⟩:=q1
 obtain ⟨u,rfl,ru⟩:=vals1 r1
 cases ru
 have hcells:∀ x∈lamSc.names,x.2=.free->∃ c,X.env.cells.lookup x.1=some c:=fun x hx hf=>by
  have hx':x=(Str.ofString "entry",NameKind.local)\/x=(Str.ofString "bottom",NameKind.free):=by simpa using hx
  rcases hx' with rfl | rfl
  ·cases hf
  ·exact I.ok.has "bottom" (.inl hk)
 refine kws_cons (PySem.W.kla_eval rfl (lam_make I1 hT hc (PySem.W.codeHd_of_K I.mod.kin C) hcells fun H2 s2 f c' cl pm ctv I2 sH L hc1 hc2=>kws_nil ?_))
 obtain ⟨cb,hcb⟩:=hc2 "bottom" (List.mem_cons_of_mem _ (List.mem_cons_self ..))
 have hS2:SqL X.K H2 p xs:=L2.Same.seq sH hS
 obtain ⟨its,rv,hpl,hz⟩:=I2.list hS2
 have hlen:=rv.length
 have hA:=I2.ok.frames
 have room2:Room (k+1) X.A.in1.in1:=(Room.in1 (k:=k+2) hr).in1
 have nofr:∀ b,s2.heap.objs.size<=b->b∉frs X.stack:=fun b hb z=>by
  rcases List.mem_cons.mp (I2.stkSub b z) with y | y
  ·rw [y] at hb;exact absurd I2.lt (Nat.not_lt.mpr hb)
  ·exact I2.nofs hb y
 let Tp:Shared->Prop:=fun s'=>s'.os=s2.os/\AllBare s'.gens/\Un (frs X.stack) [] H2 H2 s2.heap s'.heap/\HOk X.prog X.w H2 s'.heap
 have toI:∀ s',Tp s'->Inv X pins σ H2 s':=fun s' t=>I2.call' (ch:=[]) t.1 t.2.2.1 t.2.2.2 t.2.1 (fun b z=>absurd z (by simp))
 have T:SS.TpOk Tp s2.heap.objs.size:=by
  refine ⟨fun s' x h' tk t hx hs=>⟨t.1,t.2.1,t.2.2.1.but hs hx,t.2.2.2.but (I2.hok.fresh hx) hs⟩,fun s' o t=>⟨t.1,t.2.1,t.2.2.1.trans (Un.kept fun b u e=>Heap.get?_push_of_some _ e),t.2.2.2.kept fun b u e=>Heap.get?_push_of_some _ e⟩⟩
 have t0:Tp s2:=⟨rfl,I2.bare,Un.refl,I2.hok⟩
 have nff:f∉frs X.stack:=L.nfr
 have turn:SS.Key X.prog X.w X.A.in1.in1 Tp s2.heap.objs.size f its kz:=fun i v k0 s' hv hk0 t=>by
  have I':=toI s' t
  obtain ⟨x,hx,rx⟩:∃ x,xs[i]?=some x/\RelV x v:=by
   have hi:i<xs.length:=by rw [hlen];exact (List.getElem?_eq_some_iff.mp hv).1
   obtain ⟨u,h1,h2⟩:=rv.get (List.getElem?_eq_getElem hi)
   rw [hv] at h1
   cases h1
   exact ⟨_,List.getElem?_eq_getElem hi,h2⟩
  have ent:=(hent i x k0 hx hk0).same sH
  obtain ⟨m,hn,hl⟩:=I'.loc
  obtain ⟨ub,rub,lb⟩:=hl ib "bottom" (.int b) hib hσ (.inr (.inl hk))
  obtain ⟨tb,rfl⟩:=rub
  have cell:s'.heap.IsCell cb (some (.int b tb)):=by
   rcases lb with ⟨z,_⟩ | ⟨_,c0,z1,z2⟩
   ·rw [hk] at z;cases z
   ·have:=hc1 _ _ hcb
    rw [this] at z1
    cases z1
    exact z2
  obtain ⟨oc,P',w1,w2⟩:=L.trk
  obtain ⟨oc1,_⟩:=I'.hok c' _ w1
  refine wpAny_call (call_expr room2.depth I'.nolimit (t.2.2.1.keep f _ L.obj L.free nff (by simp)) rfl rfl rfl rfl oc1 w2 (binds:=[(Str.ofString "entry",v)]) rfl (fun y hy=>?_) (fun y hy=>?_) rfl rfl rfl fun qn h1 hns kp=>?_)
  ·have hy':y=(Str.ofString "entry",NameKind.local)\/y=(Str.ofString "bottom",NameKind.free):=by simpa using hy
   rcases hy' with rfl | rfl<;>simp
  ·rw [List.mem_singleton.mp hy];rfl
  ·have J:=inv_lam (q:=qn) (f:=f) (cd:=.ref c') (tk:=s'.toks+1) (A':=X.A.in1.in1) I' hA room2.hd hc1 hcb cell rx hns kp
   refine wpAny_mono (pe_lam (pins:=pins) J ent) (fun u s3 hu=>?_) fun _ _ z=>z
   obtain ⟨v3,H3,J3,r3,rfl,rfl⟩:=hu
   obtain ⟨t3,rfl⟩:=r3
   exact ⟨t3,rfl,⟨J3.os.trans t.1,J3.bare,t.2.2.1.trans J3.base,J3.hok⟩,fun b o hb e=>J3.base.keep b o e (I2.hok.fresh hb) (nofr b hb) (by simp [lamX])⟩
 show wpAny (model X.prog X.w) X.A (call (.builtin "sorted") [.ref p] [(Str.ofString "key",.ref f)]) _ _ s2
 refine SS.ss_sorted T t0 hpl.isList (Nat.le_refl _) (by rw [hkz,hlen]) (by rw [<- hlen];exact h128) turn fun s' D out cc J t hD ho sb hout=>?_
 have hDn:H2 D=none:=I2.hok.fresh hD
 rw [<- hlen] at sb
 have hL:(2:Nat) ^ 24=sizeLine:=rfl
 have vals:Vals (J.map fun i=>xs.getD i .non) out.toList:=by
  rw [hout]
  have:∀ J:List Nat,(∀ i∈J,i<xs.length)->Vals (J.map fun i=>xs.getD i .non) (J.map fun i=>its.getD i .none):=by
   intro J hJ
   induction J with
   | nil=>exact .nil
   | cons j J ih =>
    refine .cons ?_ (ih fun i hi=>hJ i (List.mem_cons_of_mem _ hi))
    have hj:=hJ j (List.mem_cons_self ..)
    obtain ⟨u,h1,h2⟩:=rv.get (List.getElem?_eq_getElem hj)
    show RelV (xs.getD j .non) (its.getD j .none)
    rw [List.getD_eq_getElem?_getD,List.getD_eq_getElem?_getD,h1,List.getElem?_eq_getElem hj]
    exact h2
  exact this J sb.lt
 refine ⟨.ref D,_,I2.call' (ch:=[]) (s':=s') (H':=upd H2 D (.lst (J.map fun i=>xs.getD i .non))) t.1 (t.2.2.1.new hDn hD) (t.2.2.2.new hDn ⟨?_,out.toList,cc,vals,?_⟩) t.2.1 (fun b z=>absurd z (by simp)),rfl,q H2 sH J D sb hDn⟩
 ·rw [List.length_map,sb.len,<- hL];omega
 ·simpa [seqObj] using ho
end
end L2

namespace L2
open PySem PySem.Spec PyProof.Rows
def LamAt (K:PySem.W.Frag) (cd:Value):Prop:=∃ c P,cd=.ref c/\tabA=some P/\PySem.W.codeHdIn K c P=true
theorem Fun.okC {P:Program} {w:World} {K:PySem.W.Frag} {mg:Str->Option Value} {base:Heap} {x qual:Str} {st:Stmt} {f:Addr} {fd:FuncData} {N ps:List Str} {k:Nat} {sp:Sp} (F:Fun K x qual st f fd) (S:FnScope N ps (defScope st)) (len:∀ vs H Q E,sp vs H Q E->vs.length=ps.length)
  (hbody:∀ (cdv:Value),fd.code=cdv->∀ (A:Around) (outer:List Env) (s:Shared) (H:Hp) (vs:List V) (Q:VK) (E:XK),Room k (A.deeper (envOfC qual (defScope st) s.heap.objs.size f cdv))->sp vs H Q E ->
   ∃ t,PSs (cxOf CX0 P w K mg base N qual (defScope st) f cdv A outer s H E).nox (defBody st) t/\t { nx:=fun _ H'=>Q .non H',rt:=Q } (start N vs) H):FnOk P w K mg base CX0 (k+1) f fd ps sp:=by
 obtain ⟨oc,od,kV,doc,pm,an,cdv,ct,osl,rfl,lk,hcd⟩:=F.ex
 refine fn_of lk hcd S len fun A outer s H vs Q E hr hsp=>?_
 obtain ⟨t,h,q⟩:=hbody cdv rfl A outer s H vs Q E hr hsp
 exact ⟨t,h.nox,q⟩
end L2
namespace TL
open PySem PySem.Spec PyProof.Rows L2
theorem fnL {P:Program} {w:World} {K:PySem.W.Frag} {mg:Str->Option Value} {base:Heap} {x qual:Str} {st:Stmt} {f:Addr} {fd:FuncData} {N pn:List Str} {k:Nat} {sp:SpF} (L:LamAt K fd.code) (F:Fun K x qual st f fd) (S:FnScope N pn (defScope st)) (len:∀ ds Q,sp ds Q->ds.length=pn.length)
  (hbody:∀ (cdv:Value),LamAt K cdv->∀ (A:Around) (outer:List Env) (s:Shared) (H:Hp) (E:XK),Room k (A.deeper (envOfC qual (defScope st) s.heap.objs.size f cdv))->∀ (ds:List D) (Q:List D->Prop),sp ds Q ->
   ∃ t,PSst (cxOf CX0 P w K mg base N qual (defScope st) f cdv A outer s H E).nox (defBody st) t/\t { nx:=fun _=>False,rt:=fun _=>False,ro:=Q } (startT N ds)):FnOk P w K mg base CX0 (k+1) f fd pn (liftSpF K sp):=by
 refine F.okC S (fun vs H Q E h=>?_) fun cdv hcd A outer s H vs Q E hr h=>?_
 ·obtain ⟨ps,ds,QD,_,r,q,_⟩:=h
  rw [<- r.length];exact len ds QD q
 ·obtain ⟨ps,ds,QD,live,r,q,k⟩:=h
  obtain ⟨t,⟨ts,p,rd⟩,h⟩:=hbody cdv (hcd▸L) A outer s H E hr ds QD q
  exact ⟨ts,p,rd H ps H ps _ _ _ _ (ok_start live r) h ⟨fun _ _ _ _ _ _ q'=>q'.elim,fun _ _ _ _ _ _ q'=>q'.elim,fun _ _ _ _ _ _ q'=>q'.elim,fun _ _ _ _ _ q'=>q'.elim,fun ts p xs H' s' hB hp hx rs q'=>k ts p xs H' s' hB hx rs q',fun _ _ _ _ _ _ _ _ _ _ _ _ _ _ _ _ _ _ q'=>q'.elim,fun _ _ _ _ _ _ _ _ _ _ _ _ _ _ q'=>q'.elim,True.intro⟩⟩
def EntD (b:Int) (e:D) (k:Int):Prop:=∃ (q st:D) (top bot:Int),e=.tuple [q,st,.tuple [.int top,.int bot]]/\CDiv b bot/\CMul top (b / bot)/\k=top*(b / bot)
theorem EntD.rep {K:PySem.W.Frag} {H:Hp} {b k:Int} {e:D} {x:V} (h:EntD b e k) (r:Rep K H e x):EntK K H b x k:=by
 obtain ⟨q,st,top,bot,rfl,h1,h2,h3⟩:=h
 cases r with
 | tuple s1 r1 =>
  cases r1 with
  | cons ra r1 =>
   cases r1 with
   | cons rb r1 =>
    cases r1 with
    | cons rc r1 =>
     cases r1
     cases rc with
     | tuple s2 r2 =>
      cases r2 with
      | cons rd r2 =>
       cases r2 with
       | cons re r2 =>
        cases r2
        cases rd
        cases re
        exact ⟨_,_,_,_,top,bot,rfl,s1,s2,h1,h2,h3⟩
theorem EntK.mask {K:PySem.W.Frag} {H:Hp} {ps:List Addr} {b k:Int} {x:V} (h:EntK K (TL.mask H ps) b x k):EntK K H b x k:=h.same fun _ _ e=>mask_le _ _ e
def fSortL (ib:Nat) (t:AT):FT:=fun σ Q=>t σ fun ds=>∃ (es:List D) (b:Int) (kz:List Int),ds=[.list es]/\es.length<128/\σ[ib]?=some (.val (.int b))/\kz.length=es.length/\(∀ (i:Nat) e k,es[i]?=some e->kz[i]?=some k->EntD b e k) /\
 ∀ J:List Nat,SS.Stb es.length (fun i=>kz.getD i 0) J->Q (J.map fun i=>es.getD i .none)
theorem ft_sortL {X:Cx} {ib:Nat} {e:Expr} {t:AT} {k:Nat} {cdv:Value} {np lp ap kp pos p1 p2 p3 p4 p5 p6 p7 p8 p9 q1 q2 q3 q4:Pos} (hr:Room (k+3) X.A) (L:LamAt X.K cdv) (hc:X.env.code=cdv) (hib:X.N[ib]?=some "bottom") (hk:X.env.kindOf "bottom"=some .cell)
  (hg:Gl X "sorted") (hm:X.mg "sorted"=none) (hv:bootBuiltins "sorted"=some (.builtin "sorted")) (ha:PAt X [e] t)
  (he:backTo pos (starEach [e] X.env)=(false,eval e X.env)::backTo pos (starEach [] X.env):=by rfl)
  (hpl:(backTo pos (starEach [e] X.env)).any (·.1)=false:=by rfl) :
  PFt X (.Call (.Name "sorted" np) [e] [⟨some (Str.ofString "key"),.Lambda (lamPs ap) (.BinOp (.Subscript (.Subscript (.Name "entry" p1) (.Constant (.int 2) 0 p2) p3) (.Constant (.int 0) 0 p4) p5) .Mult (.BinOp (.Name "bottom" p6) .FloorDiv (.Subscript (.Subscript (.Name "entry" p7) (.Constant (.int 2) 0 p8) p9) (.Constant (.int 1) 0 q1) q2) q3) q4) lamSc lp,kp⟩] pos) (fSortL ib t):=by
 obtain ⟨c,P,rfl,hT,hC⟩:=L
 obtain ⟨ta,pa,ra⟩:=ha
 refine ⟨_,pe_sortL hr hT hc hC hib hk hg hm hv pa he hpl,fun B p0 H ps σT σ Q QV o h k=>ra B p0 H ps σT σ _ _ o h fun ds vs H1 s1 r1 q1=>?_⟩
 obtain ⟨es,b,kz,rfl,h128,hb,hkz,hent,q⟩:=q1
 obtain ⟨v,hv1,hv2⟩:=o.val ib _ hb
 cases hv2
 cases r1 with
 | cons r1 r2 =>
  cases r2
  cases r1 with
  | @list pp xv _ hs rs =>
   have hl:=rs.length
   refine ⟨_,_,b,kz,rfl,L2.Same.seq mask_le hs,by rw [<- hl];exact h128,hv1,by rw [hkz,hl],fun i x k0 hx hk0=>?_,fun H2 sH J r sb hr=>?_⟩
   ·obtain ⟨d,hd,rd⟩:=rs.get' hx
    exact EntK.mask ((hent i d k0 hd hk0).rep rd)
   ·rw [<- hl] at sb
    have s2:Same H H2:=s1.trans sH
    refine k _ r _ _ (s2.trans (same_new hr)) (Same.free' s2 hr) upd_same ?_ (q J sb)
    rw [mask_new hr]
    have rs2:Reps X.K (TL.mask H2 ps) es _:=rs.same (mask_same sH)
    have:∀ J:List Nat,(∀ i∈J,i<es.length)->Reps X.K (TL.mask H2 ps) (J.map fun i=>es.getD i .none) (J.map fun i=>xv.getD i .non):=by
     intro J hJ
     induction J with
     | nil=>exact .nil
     | cons j J ih =>
      refine .cons ?_ (ih fun i hi=>hJ i (List.mem_cons_of_mem _ hi))
      have hj:=hJ j (List.mem_cons_self ..)
      obtain ⟨u,h1,h2⟩:=rs2.get (List.getElem?_eq_getElem hj)
      show Rep _ _ (es.getD j .none) (xv.getD j .non)
      rw [List.getD_eq_getElem?_getD,List.getD_eq_getElem?_getD,h1,List.getElem?_eq_getElem hj]
      exact h2
    exact this J sb.lt
end TL
namespace L2
open PySem
def lamIn (K:PySem.W.Frag) (cd:Value) (P:Addr):Bool:=match cd with | .ref c=>PySem.W.codeHdIn K c P | _=>false
theorem lam_of {K:PySem.W.Frag} {cd:Value} {P:Addr} (h:lamIn K cd P=true) (e:tabA=some P):LamAt K cd:=by
 cases cd with
 | ref c=>exact ⟨c,P,rfl,e,h⟩
 | _=>cases h
theorem tab_of {h:Heap} {c P:Addr} (C:PySem.W.CodeHd h c P) (e:h.get? P=some { cls:=.none,data:=.fields #[] }):isCodeTable h P:=(C.tab e).isCodeTable
end L2

namespace TL
open PySem PySem.Spec PyProof.Rows L2
theorem Reps.eraseIdx {K:PySem.W.Frag} {H:Hp}:∀ {ds:List D} {vs:List V} (n:Nat),Reps K H ds vs->Reps K H (ds.eraseIdx n) (vs.eraseIdx n)
 | _,_,_,.nil=>.nil
 | _,_,0,.cons _ t=>t
 | _,_,n+1,.cons r t=>.cons r (Reps.eraseIdx n t)
def sAppPop (i j k:Nat):STt:=fun DT σ=>∃ (ts us:List D) (n:Nat) (d:D),σ[i]?=some (.own ts)/\σ[j]?=some (.own us)/\i≠j/\σ[k]?=some (.val (.int (n:Nat)))/\us[n]?=some d/\ts.length<=100000/\us.length<=100000/\DT.nx ((σ.set j (.own (us.eraseIdx n))).set i (.own (ts++[d])))
theorem st_appPop {X:Cx} {i j k:Nat} {a b n:Expr} {ap cp ap2 cp2 pos:Pos} (ha:PE X a (tVar i)) (hb:PE X b (tVar j)) (hn:PE X n (tVar k))
  (hs:starEach [n] X.env=(false,eval n X.env)::starEach [] X.env:=by rfl)
  (hs2:starEach [Expr.Call (.Attribute b "pop" ap2) [n] [] cp2] X.env=(false,eval (Expr.Call (.Attribute b "pop" ap2) [n] [] cp2) X.env)::starEach [] X.env:=by rfl)
  (pp:∀ {ta:TA},PA X [n] ta->PE X (.Call (.Attribute b "pop" ap2) [n] [] cp2) (tBM X.K "list" rPopAt (tVar j) ta))
  (pb:∀ {ta:TA},PA X [Expr.Call (.Attribute b "pop" ap2) [n] [] cp2] ta->PS X (.Expr (.Call (.Attribute a "append" ap) [Expr.Call (.Attribute b "pop" ap2) [n] [] cp2] [] cp) pos) (tDrop (tBM X.K "list" rAppend (tVar i) ta))) :
  PSt X (.Expr (.Call (.Attribute a "append" ap) [Expr.Call (.Attribute b "pop" ap2) [n] [] cp2] [] cp) pos) (sAppPop i j k):=by
 refine ⟨_,pb (pa_cons (pp (pa_cons hn pa_nil hs)) pa_nil hs2),fun B p0 H ps σT σ DT DV o h f=>?_⟩
 obtain ⟨ts,us,m,d,h1,h2,hij,h3,h4,h5,h6,q⟩:=h
 obtain ⟨p,xs,a1,a2,a3,a4,a5,a6⟩:=o.own i ts h1
 obtain ⟨r,ys,b1,b2,b3,b4,b5,b6⟩:=o.own j us h2
 obtain ⟨v,c1,c2⟩:=o.val k _ h3
 cases c2
 obtain ⟨y,e1,e2⟩:=b6.get h4
 have hm:m<us.length:=(List.getElem?_eq_some_iff.mp h4).1
 have hl:=b6.length
 have pr:p≠r:=fun z=>hij (o.dis i j ts us p h1 h2 a1 (z▸b1))
 have si:seqIndex? (m:Int) ys.length=some m:=by
  unfold seqIndex?
  simp only [if_neg (by omega:¬ (m:Int)<0)]
  simp;omega
 have hmk:mask (upd H r (.lst (ys.eraseIdx m))) ps=mask H ps:=mask_upd b2
 have o1:=o.write (us:=us.eraseIdx m) (ys:=ys.eraseIdx m) h2 b1 (b6.eraseIdx m)
 have h1':(σT.set j (.own (us.eraseIdx m)))[i]?=some (.own ts):=by rw [List.getElem?_set_ne (Ne.symm hij)];exact h1
 have a5':upd H r (.lst (ys.eraseIdx m)) p=some (.lst xs):=by rw [upd_ne pr];exact a5
 refine ⟨.ref p,a1,.inl ⟨rfl,xs,SqL.of a5⟩,.ref r,b1,.inl ⟨rfl,ys,SqL.of b5⟩,_,c1,r,ys,(m:Int),m,y,rfl,rfl,b5,by omega,by have:=h6;omega,si,e1,p,xs,y,rfl,rfl,a5',?_,?_⟩
 ·rw [<- a6.length]
  have:sizeLine=2 ^ 24:=rfl
  omega
 ·have o2:=o1.write (us:=ts++[d]) (ys:=xs++[y]) h1' a1 (by rw [hmk];exact a6.append (.cons e2 .nil))
  exact f.nx _ ps _ σ o2 (by rw [mask_upd a2,hmk];exact L2.Same.refl _) q
section
variable {X:Cx} {e:Expr} {es:List Expr} {te:ET} {x:Str} {pos pos' p:Pos}
theorem ss (i:Nat) (hN:X.N.Nodup) (h:PEt X e te) (hi:X.N[i]?=some x:=by rfl) (hx:Loc X.env.scope x:=by first | exact Or.inl rfl | exact Or.inr rfl) (hs:swapsWith e (some (.Name x pos')) pos.line X.env=pure false:=by rfl)
  (hf:X.fn x=true\/X.env.scope.names.lookup x=some .local:=by first | exact .inl rfl | exact .inr rfl):PSt X (.Assign [.Name x pos'] e pos) (sSet i te):=st_set (i:=i) h fun h=>ps_set hN hi hx h hs hf
theorem pn (i:Nat) (hN:X.N.Nodup) (hi:X.N[i]?=some x:=by rfl) (hx:Loc X.env.scope x:=by first | exact Or.inl rfl | exact Or.inr rfl) (hf:X.fn x=true\/X.env.scope.names.lookup x=some .local:=by first | exact .inl rfl | exact .inr rfl):PG X (.Name x pos) (gName i):=pg_name hN hi hx hf
theorem ca {k:Nat} {f:Addr} {fd:FuncData} {pn:List Str} {sp:SpT} {t:AT} (F:FnOk X.prog X.w X.K X.mg X.base CX0 k f fd pn (liftSp X.K sp)) (hm:X.mg x=some (.ref f)) (hk:PySem.W.keepIn X.K (.ref f)=true) (hb:Binds X.K fd pn []) (hr:Room k X.A) (ha:PAt X (e::es) t)
  (hg:Gl X x:=by rfl) (hdb:(x == ("__debug__":Str))=false:=by decide) (he:starEach (e::es) X.env=(false,eval e X.env)::starEach es X.env:=by rfl) (hpl:(backTo pos (starEach es X.env)).any (·.1)=false:=by rfl):PEt X (.Call (.Name x p) (e::es) [] pos) (eCall sp t) :=
 et_call F hm hk hb hr ha fun h=>pe_call F hr hg hm hk hb .nil pass0 h hdb he hpl
theorem fsc {N P:List Str} {sc:Scope} (h1:sc.kind=.function:=by rfl) (h2:sc.isCoroutine=false:=by rfl) (h3:sc.isGenerator=false:=by rfl) (h4:N.Nodup:=by decide +kernel) (h5:N.take P.length=P:=by rfl) (h6:∀ x∈P,sc.names.lookup x=some .local\/sc.names.lookup x=some .cell:=by decide +kernel) (h7:∀ y∈sc.names,y.2≠.free:=by decide +kernel):FnScope N P sc:=⟨h1,h2,h3,h4,h5,h6,h7⟩
end
end TL

namespace L2
open PySem PySem.Spec PyProof.Rows TL
theorem vals_take:∀ {xs:List V} {us:List Value},Vals xs us->∀ n,Vals (xs.take n) (us.take n)
 | _,_,.nil,n=>by rw [List.take_nil,List.take_nil];exact .nil
 | _,_,.cons _ _,0=>.nil
 | _,_,.cons r t,n+1=>.cons r (vals_take t n)
theorem vals_drop:∀ {xs:List V} {us:List Value},Vals xs us->∀ n,Vals (xs.drop n) (us.drop n)
 | _,_,.nil,n=>by rw [List.drop_nil,List.drop_nil];exact .nil
 | _,_,.cons r t,0=>.cons r t
 | _,_,.cons _ t,n+1=>vals_drop t n
section
variable {X:Cx}
def rInsert:V->List V->Hp->VK->Prop:=fun x vs H Q=>∃ (l:Addr) (xs:List V) (n:Nat) (y:V),x=.ref l/\vs=[.int (n:Int),y]/\H l=some (.lst xs)/\n<=xs.length/\xs.length<100000/\Q .non (upd H l (.lst (xs.take n++y::xs.drop n)))
theorem mt_insert:MtM X "list.insert" rInsert:=by
 intro pins s σ H x vs v us Q I rx rv h
 obtain ⟨l,xs,n,y,rfl,rfl,hH,hn,hz,q⟩:=h
 cases rx
 obtain ⟨z,its,c,r,hl,e⟩:=I.lstM hH
 have hlen:=r.length
 have hL:sizeLine=2 ^ 24:=rfl
 have hsz:its.toArray.size<=sizeLine:=by rw [List.size_toArray,<- hlen,hL];omega
 have hfit:Builtin.List.listFitsIndex (n:Int)=true:=by
  unfold Builtin.List.listFitsIndex
  simp only [Bool.and_eq_true,decide_eq_true_eq]
  omega
 have hnew:∀ u:Value,(its.toArray.extract 0 n).push u++its.toArray.extract n its.toArray.size=(its.take n++u::its.drop n).toArray:=fun u=>by
  apply Array.toList_inj.mp
  simp
  exact List.take_of_length_le (by rw [List.length_drop];exact Nat.le_refl _)
 have hx0:¬ (n:Int)<0:=by omega
 have hmin:min ((n:Int)).toNat its.toArray.size=n:=by rw [Int.toNat_natCast,List.size_toArray,<- hlen];omega
 generalize (n:Int)=x at *
 cases rv with
 | cons r1 rr =>
  cases rr with
  | @cons _ u _ _ r2 rr =>
   cases rr
   obtain ⟨t,rfl⟩:=r1
   refine call_meets PySem.F.slot_list_insert ⟨_,e,rfl⟩ PySem.F.entry_list_insert (PySem.F.args_list_insert_3 _ _ _) (PySem.AutoSeq1.list_insert_list_int_val_1 l its.toArray c x t u (by simp [hfit]) hsz) ⟨e,?_⟩
   refine ⟨.non,_,I.lset (its':=its.take n++u::its.drop n) hH e ?_ ?_ ?_,rfl,q⟩
   ·show (its.toArray.extract 0 (if x<0 then (x+(its.toArray.size:Int)).toNat else min x.toNat its.toArray.size)).push u++its.toArray.extract (if x<0 then (x+(its.toArray.size:Int)).toNat else min x.toNat its.toArray.size)=_
    rw [if_neg hx0,hmin]
    exact hnew u
   ·exact (vals_take r n).append (.cons r2 (vals_drop r n))
   ·rw [List.length_append,List.length_cons,List.length_take,List.length_drop];omega
end
end L2
namespace TL
open PySem PySem.Spec PyProof.Rows L2
section
variable {X:Cx} {n e e1 e2:Expr} {te t1 t2:ET} {pos:Pos}
theorem reps_take {K:PySem.W.Frag} {H:Hp}:∀ {ds:List D} {xs:List V},Reps K H ds xs->∀ n,Reps K H (ds.take n) (xs.take n)
 | _,_,.nil,n=>by rw [List.take_nil,List.take_nil];exact .nil
 | _,_,.cons _ _,0=>.nil
 | _,_,.cons r t,n+1=>.cons r (reps_take t n)
theorem reps_drop {K:PySem.W.Frag} {H:Hp}:∀ {ds:List D} {xs:List V},Reps K H ds xs->∀ n,Reps K H (ds.drop n) (xs.drop n)
 | _,_,.nil,n=>by rw [List.drop_nil,List.drop_nil];exact .nil
 | _,_,.cons r t,0=>.cons r t
 | _,_,.cons _ t,n+1=>reps_drop t n
def cInsO (i:Nat) (te:EC) (t2:ET):STC:=fun τ DC n σ=>∃ ts,σ[i]?=some (.own ts)/\te τ n σ fun n1 x=>t2 σ fun d=>∃ k:Nat,x=.int (k:Int)/\k<=ts.length/\ts.length<100000/\DC.nx n1 (σ.set i (.own (ts.take k++d::ts.drop k)))
theorem sc_insO {i:Nat} {m:Expr} {te:EC} {t2:ET} {ap cp:Pos} (he:PEc X e1 te) (h2':PEt X e2 t2) (hs:starEach [e1,e2] X.env=(false,eval e1 X.env)::starEach [e2] X.env:=by rfl) (hs2:starEach [e2] X.env=(false,eval e2 X.env)::starEach [] X.env:=by rfl)
  (pb:∀ {ta:TA},PA X [e1,e2] ta->PS X (.Expr (.Call (.Attribute m "insert" ap) [e1,e2] [] cp) pos) (tDrop (tBM X.K "list" rInsert (tVar i) ta))):PSc X (.Expr (.Call (.Attribute m "insert" ap) [e1,e2] [] cp) pos) (cInsO i te t2):=by
 obtain ⟨v,p,r⟩:=he
 obtain ⟨v2,p2,r2⟩:=h2'
 refine ⟨_,pb (pa_cons p (pa_cons p2 pa_nil hs2) hs),fun B p0 H ps σT σ T n DC DV o h f=>?_⟩
 obtain ⟨ts,e,h⟩:=h
 obtain ⟨q,xs,h1,h2,h3,h4,h5,h6⟩:=o.ok.own i ts e
 refine ⟨.ref q,h1,.inl ⟨rfl,xs,SqL.of h5⟩,r B p0 H ps σT σ T n _ _ o h fun n1 d x H1 s1 t1 r1 q1=>?_⟩
 have ne:q≠T.p:=fun z=>h4 (z▸o.mem)
 have o1:=o.growX s1 t1
 refine r2 B p0 H1 ps σT σ _ _ o1.ok q1 fun d2 x2 H2 s2 g2 q2=>?_
 obtain ⟨k,rfl,hk,hz,q2⟩:=q2
 cases r1
 have o2:=o1.grow s2
 have hl:=h6.length
 refine ⟨q,xs,k,x2,rfl,rfl,s2 _ _ (s1 _ _ ne h5),by omega,by omega,?_⟩
 have sm:=(s1.mask o.mem').trans (mask_same s2)
 have hr:Reps X.K (mask H2 ps) (ts.take k++d2::ts.drop k) (xs.take k++x2::xs.drop k):=(reps_take (h6.same sm) k).append (.cons g2 (reps_drop (h6.same sm) k))
 exact f.nx _ ps _ σ n1 (o2.write (ys:=xs.take k++x2::xs.drop k) e h1 hr) (sm.trans (by rw [mask_upd h2];exact L2.Same.refl _)) q2
end
end TL

namespace K32
open PySem L2 TL
def top (i:Nat):Stmt:=PySem.Challenge.pw_leafjudge_k32_whole_trees_grown.main.body.getD i (.Pass ⟨0,0,0,0⟩)
set_option genInjectivity false in
set_option genSizeOf false in
structure Adr where
 a_0:Addr
 f_0:FuncData
 a_1:Addr
 f_1:FuncData
 a_2:Addr
 f_2:FuncData
 a_3:Addr
 f_3:FuncData
 a_4:Addr
 f_4:FuncData
 a_5:Addr
 f_5:FuncData
 a_6:Addr
 f_6:FuncData
 a_7:Addr
 f_7:FuncData
 a_8:Addr
 f_8:FuncData
 a_9:Addr
 f_9:FuncData
 a_10:Addr
 f_10:FuncData
 a_11:Addr
 f_11:FuncData
 a_12:Addr
 f_12:FuncData
 a_13:Addr
 f_13:FuncData
 a_14:Addr
 f_14:FuncData
 a_15:Addr
 f_15:FuncData
 a_16:Addr
 f_16:FuncData
 a_17:Addr
 f_17:FuncData
 a_18:Addr
 f_18:FuncData
 a_19:Addr
 f_19:FuncData
 a_20:Addr
 f_20:FuncData
 a_21:Addr
 f_21:FuncData
 a_22:Addr
 f_22:FuncData
 a_23:Addr
 f_23:FuncData
 a_24:Addr
 f_24:FuncData
 a_25:Addr
 f_25:FuncData
 a_26:Addr
 f_26:FuncData
 a_27:Addr
 f_27:FuncData
 a_28:Addr
 f_28:FuncData
 a_29:Addr
 f_29:FuncData
 a_30:Addr
 f_30:FuncData
 a_31:Addr
 f_31:FuncData
 a_32:Addr
 f_32:FuncData
 a_33:Addr
 f_33:FuncData
 a_34:Addr
 f_34:FuncData
 a_35:Addr
 f_35:FuncData
 a_36:Addr
 f_36:FuncData
 a_37:Addr
 f_37:FuncData
 a_38:Addr
 f_38:FuncData
 a_39:Addr
 f_39:FuncData
 a_40:Addr
 f_40:FuncData
 a_law:Addr
 f_law:FuncData
 t_SIDES:Addr
structure Txt (K:PySem.W.Frag) (mg:Str->Option Value) (A:Adr):Prop where
 m_0:mg "counted"=some (.ref A.a_0)
 k_0:PySem.W.keepIn K (.ref A.a_0)=true
 F_0:Fun K "counted" "counted" (top 1) A.a_0 A.f_0
 d_0:Binds K A.f_0 ["form","rows"] []
 m_1:mg "first_answer"=some (.ref A.a_1)
 k_1:PySem.W.keepIn K (.ref A.a_1)=true
 F_1:Fun K "first_answer" "first_answer" (top 2) A.a_1 A.f_1
 d_1:Binds K A.f_1 ["form","rows"] []
 m_2:mg "doubt_of"=some (.ref A.a_2)
 k_2:PySem.W.keepIn K (.ref A.a_2)=true
 F_2:Fun K "doubt_of" "doubt_of" (top 3) A.a_2 A.f_2
 d_2:Binds K A.f_2 ["form","rows"] []
 m_3:mg "fraction"=some (.ref A.a_3)
 k_3:PySem.W.keepIn K (.ref A.a_3)=true
 F_3:Fun K "fraction" "fraction" (top 4) A.a_3 A.f_3
 d_3:Binds K A.f_3 ["top","bottom"] []
 m_4:mg "common_divisor"=some (.ref A.a_4)
 k_4:PySem.W.keepIn K (.ref A.a_4)=true
 F_4:Fun K "common_divisor" "common_divisor" (top 5) A.a_4 A.f_4
 d_4:Binds K A.f_4 ["one","other"] []
 m_5:mg "added"=some (.ref A.a_5)
 k_5:PySem.W.keepIn K (.ref A.a_5)=true
 F_5:Fun K "added" "added" (top 6) A.a_5 A.f_5
 d_5:Binds K A.f_5 ["one","other"] []
 m_6:mg "is_less"=some (.ref A.a_6)
 k_6:PySem.W.keepIn K (.ref A.a_6)=true
 F_6:Fun K "is_less" "is_less" (top 7) A.a_6 A.f_6
 d_6:Binds K A.f_6 ["one","other"] []
 m_7:mg "common_bottom"=some (.ref A.a_7)
 k_7:PySem.W.keepIn K (.ref A.a_7)=true
 F_7:Fun K "common_bottom" "common_bottom" (top 8) A.a_7 A.f_7
 d_7:Binds K A.f_7 ["fractions"] []
 m_8:mg "questions_of"=some (.ref A.a_8)
 k_8:PySem.W.keepIn K (.ref A.a_8)=true
 F_8:Fun K "questions_of" "questions_of" (top 11) A.a_8 A.f_8
 d_8:Binds K A.f_8 ["form"] []
 m_9:mg "questions_on"=some (.ref A.a_9)
 k_9:PySem.W.keepIn K (.ref A.a_9)=true
 F_9:Fun K "questions_on" "questions_on" (top 12) A.a_9 A.f_9
 d_9:Binds K A.f_9 ["field"] []
 m_10:mg "choices_of"=some (.ref A.a_10)
 k_10:PySem.W.keepIn K (.ref A.a_10)=true
 F_10:Fun K "choices_of" "choices_of" (top 13) A.a_10 A.f_10
 d_10:Binds K A.f_10 ["form"] []
 m_11:mg "side_of"=some (.ref A.a_11)
 k_11:PySem.W.keepIn K (.ref A.a_11)=true
 F_11:Fun K "side_of" "side_of" (top 14) A.a_11 A.f_11
 d_11:Binds K A.f_11 ["form","question","stray","case"] []
 m_12:mg "field_asked"=some (.ref A.a_12)
 k_12:PySem.W.keepIn K (.ref A.a_12)=true
 F_12:Fun K "field_asked" "field_asked" (top 15) A.a_12 A.f_12
 d_12:Binds K A.f_12 ["form","question"] []
 m_13:mg "entries_to_yes"=some (.ref A.a_13)
 k_13:PySem.W.keepIn K (.ref A.a_13)=true
 F_13:Fun K "entries_to_yes" "entries_to_yes" (top 16) A.a_13 A.f_13
 d_13:Binds K A.f_13 ["question","stray","field"] []
 m_14:mg "values_held"=some (.ref A.a_14)
 k_14:PySem.W.keepIn K (.ref A.a_14)=true
 F_14:Fun K "values_held" "values_held" (top 17) A.a_14 A.f_14
 d_14:Binds K A.f_14 ["question","field"] []
 m_15:mg "parted"=some (.ref A.a_15)
 k_15:PySem.W.keepIn K (.ref A.a_15)=true
 F_15:Fun K "parted" "parted" (top 18) A.a_15 A.f_15
 d_15:Binds K A.f_15 ["form","question","stray","rows"] []
 m_16:mg "numbers_on"=some (.ref A.a_16)
 k_16:PySem.W.keepIn K (.ref A.a_16)=true
 F_16:Fun K "numbers_on" "numbers_on" (top 19) A.a_16 A.f_16
 d_16:Binds K A.f_16 ["side","sides"] []
 m_17:mg "is_proper"=some (.ref A.a_17)
 k_17:PySem.W.keepIn K (.ref A.a_17)=true
 F_17:Fun K "is_proper" "is_proper" (top 20) A.a_17 A.f_17
 d_17:Binds K A.f_17 ["sides","fewest"] []
 m_18:mg "ranked"=some (.ref A.a_18)
 k_18:PySem.W.keepIn K (.ref A.a_18)=true
 F_18:Fun K "ranked" "ranked" (top 22) A.a_18 A.f_18
 d_18:Binds K A.f_18 ["form","rows","least"] []
 m_19:mg "rows_at"=some (.ref A.a_19)
 k_19:PySem.W.keepIn K (.ref A.a_19)=true
 F_19:Fun K "rows_at" "rows_at" (top 23) A.a_19 A.f_19
 d_19:Binds K A.f_19 ["rows","numbers"] []
 m_20:mg "best"=some (.ref A.a_20)
 k_20:PySem.W.keepIn K (.ref A.a_20)=true
 F_20:Fun K "best" "best" (top 24) A.a_20 A.f_20
 d_20:Binds K A.f_20 ["form","rows","least"] []
 m_21:mg "grown"=some (.ref A.a_21)
 k_21:PySem.W.keepIn K (.ref A.a_21)=true
 F_21:Fun K "grown" "grown" (top 25) A.a_21 A.f_21
 d_21:Binds K A.f_21 ["form","rows","deep","least"] []
 m_22:mg "_law_tape"=some (.ref A.a_22)
 k_22:PySem.W.keepIn K (.ref A.a_22)=true
 F_22:Fun K "_law_tape" "_law_tape" (top 27) A.a_22 A.f_22
 d_22:Binds K A.f_22 ["_law_script"] []
 m_23:mg "_law_draw"=some (.ref A.a_23)
 k_23:PySem.W.keepIn K (.ref A.a_23)=true
 F_23:Fun K "_law_draw" "_law_draw" (top 28) A.a_23 A.f_23
 d_23:Binds K A.f_23 ["_law_tape_here","_law_many"] []
 m_24:mg "_law_names"=some (.ref A.a_24)
 k_24:PySem.W.keepIn K (.ref A.a_24)=true
 F_24:Fun K "_law_names" "_law_names" (top 29) A.a_24 A.f_24
 d_24:Binds K A.f_24 ["_law_tape_here","_law_many"] []
 m_25:mg "_law_form"=some (.ref A.a_25)
 k_25:PySem.W.keepIn K (.ref A.a_25)=true
 F_25:Fun K "_law_form" "_law_form" (top 30) A.a_25 A.f_25
 d_25:Binds K A.f_25 ["_law_tape_here","_law_fields","_law_values"] []
 m_26:mg "_law_case"=some (.ref A.a_26)
 k_26:PySem.W.keepIn K (.ref A.a_26)=true
 F_26:Fun K "_law_case" "_law_case" (top 31) A.a_26 A.f_26
 d_26:Binds K A.f_26 ["_law_tape_here","_law_form_here"] []
 m_27:mg "_law_rows"=some (.ref A.a_27)
 k_27:PySem.W.keepIn K (.ref A.a_27)=true
 F_27:Fun K "_law_rows" "_law_rows" (top 32) A.a_27 A.f_27
 d_27:Binds K A.f_27 ["_law_tape_here","_law_form_here","_law_many"] []
 m_28:mg "_law_questions"=some (.ref A.a_28)
 k_28:PySem.W.keepIn K (.ref A.a_28)=true
 F_28:Fun K "_law_questions" "_law_questions" (top 33) A.a_28 A.f_28
 d_28:Binds K A.f_28 ["_law_form_here"] []
 m_29:mg "_law_side"=some (.ref A.a_29)
 k_29:PySem.W.keepIn K (.ref A.a_29)=true
 F_29:Fun K "_law_side" "_law_side" (top 34) A.a_29 A.f_29
 d_29:Binds K A.f_29 ["_law_form_here","_law_question","_law_stray","_law_case_here"] []
 m_30:mg "_law_parts"=some (.ref A.a_30)
 k_30:PySem.W.keepIn K (.ref A.a_30)=true
 F_30:Fun K "_law_parts" "_law_parts" (top 35) A.a_30 A.f_30
 d_30:Binds K A.f_30 ["_law_form_here","_law_question","_law_stray","_law_rows_here"] []
 m_31:mg "_law_counts"=some (.ref A.a_31)
 k_31:PySem.W.keepIn K (.ref A.a_31)=true
 F_31:Fun K "_law_counts" "_law_counts" (top 36) A.a_31 A.f_31
 d_31:Binds K A.f_31 ["_law_form_here","_law_rows_here"] []
 m_32:mg "_law_first"=some (.ref A.a_32)
 k_32:PySem.W.keepIn K (.ref A.a_32)=true
 F_32:Fun K "_law_first" "_law_first" (top 37) A.a_32 A.f_32
 d_32:Binds K A.f_32 ["_law_form_here","_law_rows_here"] []
 m_33:mg "_law_lowest"=some (.ref A.a_33)
 k_33:PySem.W.keepIn K (.ref A.a_33)=true
 F_33:Fun K "_law_lowest" "_law_lowest" (top 38) A.a_33 A.f_33
 d_33:Binds K A.f_33 ["_law_top","_law_bottom"] []
 m_34:mg "_law_doubt"=some (.ref A.a_34)
 k_34:PySem.W.keepIn K (.ref A.a_34)=true
 F_34:Fun K "_law_doubt" "_law_doubt" (top 39) A.a_34 A.f_34
 d_34:Binds K A.f_34 ["_law_form_here","_law_rows_here"] []
 m_35:mg "_law_less"=some (.ref A.a_35)
 k_35:PySem.W.keepIn K (.ref A.a_35)=true
 F_35:Fun K "_law_less" "_law_less" (top 40) A.a_35 A.f_35
 d_35:Binds K A.f_35 ["_law_one","_law_other"] []
 m_36:mg "_law_ranked"=some (.ref A.a_36)
 k_36:PySem.W.keepIn K (.ref A.a_36)=true
 F_36:Fun K "_law_ranked" "_law_ranked" (top 41) A.a_36 A.f_36
 d_36:Binds K A.f_36 ["_law_form_here","_law_rows_here","_law_few"] []
 m_37:mg "_law_best"=some (.ref A.a_37)
 k_37:PySem.W.keepIn K (.ref A.a_37)=true
 F_37:Fun K "_law_best" "_law_best" (top 42) A.a_37 A.f_37
 d_37:Binds K A.f_37 ["_law_form_here","_law_rows_here","_law_few"] []
 m_38:mg "_law_sized"=some (.ref A.a_38)
 k_38:PySem.W.keepIn K (.ref A.a_38)=true
 F_38:Fun K "_law_sized" "_law_sized" (top 43) A.a_38 A.f_38
 d_38:Binds K A.f_38 ["_law_tape_here","_law_most"] []
 m_39:mg "_law_grown"=some (.ref A.a_39)
 k_39:PySem.W.keepIn K (.ref A.a_39)=true
 F_39:Fun K "_law_grown" "_law_grown" (top 44) A.a_39 A.f_39
 d_39:Binds K A.f_39 ["_law_form_here","_law_rows_here","_law_deep","_law_few"] []
 m_40:mg "_law_turned"=some (.ref A.a_40)
 k_40:PySem.W.keepIn K (.ref A.a_40)=true
 F_40:Fun K "_law_turned" "_law_turned" (top 45) A.a_40 A.f_40
 d_40:Binds K A.f_40 ["_law_tape_here","_law_rows_here"] []
 m_law:mg "law"=some (.ref A.a_law)
 k_law:PySem.W.keepIn K (.ref A.a_law)=true
 F_law:Fun K "law" "law" (top 46) A.a_law A.f_law
 d_law:Binds K A.f_law ["_law_script"] []
 c_SIDES:mg "SIDES"=some (.ref A.t_SIDES)
 t_SIDES:KTup K A.t_SIDES ["yes","no"]
 L_18:LamAt K A.f_18.code
 b_enumerate:mg "enumerate"=none
 b_len:mg "len"=none
 b_list:mg "list"=none
 b_max:mg "max"=none
 b_min:mg "min"=none
 b_range:mg "range"=none
 b_repr:mg "repr"=none
 b_sorted:mg "sorted"=none
 b_sum:mg "sum"=none
 b_tuple:mg "tuple"=none
def letters:Str:="abcdefghijklmnopqrstuvwxyz"
def sgn (c:Nat):Bool:=Txt.contains letters ⟨#[c]⟩
def nmS (z:Str):Bool:=decide (1<=z.length) && decide (z.length<=8) && z.cps.toList.all sgn
def nm:D->Bool
 | .str z=>nmS z
 | _=>false
def txt:D->Str
 | .str z=>z
 | _=>""
def nms (d:D) (lo hi:Int):Bool:=match d with | .tuple ts=>decide (lo<=ts.length) && decide ((ts.length:Int)<=hi) && ts.all nm && decide ((ts.map txt).Nodup) | _=>false
def fld:D->Bool
 | .tuple [n,vs]=>nm n && nms vs 2 5
 | _=>false
def fst:D->D
 | .tuple (n::_)=>n
 | _=>.none
def Bits (n:Nat) (bs:List Int):Prop:=bs.length=n/\∀ b∈bs,0<=b/\b<4096
def Nms (n:Nat) (ys:List Str):Prop:=ys.length=n/\(∀ y∈ys,nmS y=true)/\ys.Nodup
def fldD (f:Str×List Str):D:=.tuple [.str f.1,.tuple (f.2.map PyData.str)]
def frmD (fs:List (Str×List Str)) (an:List Str):D:=.tuple [.tuple (fs.map fldD),.tuple (an.map PyData.str)]
structure Form (fs:List (Str×List Str)) (an:List Str):Prop where
 n1:1<=fs.length
 n5:fs.length<=5
 nd:Nms fs.length (fs.map (·.1))
 vs:∀ f∈fs,2<=f.2.length/\f.2.length<=5/\Nms f.2.length f.2
 a2:2<=an.length
 a4:an.length<=4
 an:Nms an.length an
def sp_22:SpT:=fun _ _=>False
def sp_23:SpC:=fun _ n ds Q=>∃ m:Int,ds=[.int m]/\0<m/\m<=100000/\n<1099511627776/\∀ r:Int,0<=r->r<m->Q (n+1) (.int r)
def sp_24:SpC:=fun _ n ds Q=>∃ m:Nat,ds=[.int m]/\1<=m/\m<=5/\n<1000000000000/\∀ n' ys,n'<=n+12->Nms m ys->Q n' (.tuple (ys.map PyData.str))
def sp_25:SpC:=fun _ n ds Q=>∃ f v:Nat,ds=[.int f,.int v]/\1<=f/\f<=5/\2<=v/\v<=5/\n<900000000000/\∀ n' fs an,n'<=n+100->Form fs an->fs.length=f->(∀ x∈fs,x.2.length<=v)->Q n' (frmD fs an)
theorem atI_in {α:Type} {xs:List α} {i:Int} (h0:0<=i) (h1:i<xs.length):∃ a,a∈xs/\L2.atI xs i=some a/\xs[i.toNat]?=some a:=by
 have hi:i.toNat<xs.length:=by omega
 refine ⟨xs[i.toNat],List.getElem_mem hi,?_,List.getElem?_eq_getElem hi⟩
 have:=L2.atI_nat (xs:=xs) (j:=i.toNat) (v:=xs[i.toNat]) (List.getElem?_eq_getElem hi)
 rwa [show ((i.toNat:Nat):Int)=i by omega] at this
theorem intsTo_len (n:Nat):(intsTo n).length=n:=by unfold intsTo;simp
theorem intsTo_get {n k:Nat} {x:D} (h:(intsTo n)[k]?=some x):k<n/\x=.int k:=by
 unfold intsTo at h
 rw [List.getElem?_map] at h
 by_cases hk:k<n
 ·rw [List.getElem?_range hk] at h
  cases h
  exact ⟨hk,rfl⟩
 ·rw [List.getElem?_eq_none (by simpa using hk)] at h
  cases h
theorem cut_ns {α:Type} (xs:List α) (j:Nat):cutD xs none (some (j:Int))=xs.take j:=by
 unfold cutD
 rw [HT.sIx_none,HT.sIx_nat,List.drop_zero,Nat.sub_zero]
 by_cases h:j<=xs.length
 ·rw [Nat.min_eq_left h]
 ·rw [Nat.min_eq_right (by omega),List.take_length,List.take_of_length_le (by omega)]
theorem cut_sn {α:Type} (xs:List α) (i:Nat):cutD xs (some (i:Int)) none=xs.drop i:=by
 unfold cutD
 rw [HT.sIx_none,HT.sIx_nat]
 by_cases h:i<=xs.length
 ·rw [Nat.min_eq_left h,List.take_of_length_le (by rw [List.length_drop];omega)]
 ·rw [Nat.min_eq_right (by omega),List.drop_eq_nil_of_le (Nat.le_refl _),List.drop_eq_nil_of_le (by omega)]
  simp
theorem cut_map {α β:Type} (f:α->β) (xs:List α) (lo hi:Option Int):cutD (xs.map f) lo hi=(cutD xs lo hi).map f:=by
 unfold cutD
 rw [List.length_map,List.map_take,List.map_drop]
theorem nmS_of {z:Str} (h1:1<=z.cps.toList.length) (h2:z.cps.toList.length<=8) (h3:∀ c∈z.cps.toList,c∈letters.cps.toList):nmS z=true:=by
 have e:z.length=z.cps.toList.length:=by simp [Str.length]
 unfold nmS
 rw [e,decide_eq_true h1,decide_eq_true h2]
 simp only [Bool.true_and,List.all_eq_true]
 intro c hc
 unfold sgn
 rw [in_one]
 exact decide_eq_true (h3 c hc)
theorem nmS_iff {z:Str} (h:nmS z=true):1<=z.length/\z.length<=8/\∀ c∈z.cps.toList,c∈letters.cps.toList:=by
 unfold nmS at h
 simp only [Bool.and_eq_true,decide_eq_true_eq,List.all_eq_true] at h
 refine ⟨h.1.1,h.1.2,fun c hc=>?_⟩
 have:=h.2 c hc
 unfold sgn at this
 rw [in_one] at this
 exact of_decide_eq_true this
theorem nodup_range {α:Type} {n:Nat} (F:Nat->α) (inj:∀ i j,i<n->j<n->F i=F j->i=j):((List.range n).map F).Nodup:=by
 rw [List.Nodup,List.pairwise_map]
 have:(List.range n).Nodup:=List.nodup_range
 refine List.Pairwise.imp_of_mem (fun {a b} ha hb hab e=>?_) this
 exact hab (inj a b (by simpa using ha) (by simpa using hb) e)
theorem letters_nd:letters.cps.toList.Nodup:=by decide +kernel
theorem letters_len:letters.cps.toList.length=26:=by decide +kernel
theorem nth_inj {xs:List Nat} (nd:xs.Nodup) {i j:Nat} {c:Nat} (h1:xs[i]?=some c) (h2:xs[j]?=some c):i=j:=by
 obtain ⟨a1,a2⟩:=List.getElem?_eq_some_iff.mp h1
 obtain ⟨b1,b2⟩:=List.getElem?_eq_some_iff.mp h2
 exact (List.getElem_inj nd).mp (a2.trans b2.symm)
theorem signs_of:∀ {ys:List D},(∀ y∈ys,∃ c,c∈letters.cps.toList/\y=.str ⟨#[c]⟩)->∃ cs:List Nat,ys=cs.map (fun c=>PyData.str ⟨#[c]⟩)/\∀ c∈cs,c∈letters.cps.toList
 | [],_=>⟨[],rfl,fun c h=>by simp at h⟩
 | y::ys,h=>by
  obtain ⟨c,hc,rfl⟩:=h y (List.mem_cons_self ..)
  obtain ⟨cs,rfl,h2⟩:=signs_of (ys:=ys) fun y hy=>h y (List.mem_cons_of_mem _ hy)
  refine ⟨c::cs,rfl,fun d hd=>?_⟩
  rcases List.mem_cons.mp hd with rfl | hd
  ·exact hc
  ·exact h2 d hd
theorem join_signs (cs:List Nat):(Txt.join ⟨#[]⟩ (cs.map fun c=>⟨#[c]⟩)).cps.toList=cs:=by
 rw [join_codes,List.map_map]
 induction cs with
 | nil=>rfl
 | cons c cs ih=>rw [List.map_cons,List.flatten_cons,ih];rfl
theorem atI_strs {ys:List Str} {k:Nat} (h:k<ys.length):L2.atI (ys.map PyData.str) (k:Int)=some (.str ys[k]):=L2.atI_nat (by rw [List.getElem?_map,List.getElem?_eq_getElem h];rfl)
theorem seq_ifsetC {c:TTt} {te:ET} {u:STt} {DT:EndsT} {σ:List Sl} {i:Nat} (C:Prop) (R:D->Prop) (h:∀ q:Bool->Prop,(∀ b,(b=true->C)->q b)->c σ q) (h1:C->∀ q:D->Prop,(∀ d,R d->q d)->te σ q) (d0:D) (h0:σ[i]?=some (.val d0)) (r0:R d0) (k:∀ d,R d->u DT (σ.set i (.val d))):sSeq (sIf c (sSet i te) sNext) u DT σ:=by
 refine h _ fun b hb=>?_
 cases b with
 | true =>
  rw [if_pos rfl]
  exact h1 (hb rfl) _ k
 | false =>
  rw [if_neg (by decide)]
  have e:σ.set i (.val d0)=σ:=by
   apply List.ext_getElem?
   intro j
   by_cases hj:i=j
   ·subst hj
    rw [List.getElem?_set_self (List.getElem?_eq_some_iff.mp h0).1,h0]
   ·rw [List.getElem?_set_ne hj]
  have:=k d0 r0
  rw [e] at this
  exact this
theorem nms_rangeN {n:Nat} (F:Nat->Str) (h:∀ i,i<n->nmS (F i)=true) (inj:∀ i j,i<n->j<n->F i=F j->i=j):Nms n ((List.range n).map F) :=
 ⟨by simp,fun y hy=>by
  obtain ⟨i,hi,rfl⟩:=List.mem_map.mp hy
  exact h i (by simpa using hi),nodup_range F inj⟩
theorem nms_turnN {n:Nat} {ys:List Str} (h:Nms n ys) (t:Nat) {m:Nat} (hm:m<=n):Nms m ((ys.drop t++ys.take t).take m):=by
 have hp:(ys.drop t++ys.take t).Perm ys:=by
  have:(ys.take t++ys.drop t).Perm ys:=by rw [List.take_append_drop]
  exact List.perm_append_comm.trans this
 refine ⟨?_,fun y hy=>h.2.1 y (hp.mem_iff.mp (List.mem_of_mem_take hy)),(hp.nodup_iff.mpr h.2.2).sublist (List.take_sublist _ _)⟩
 rw [List.length_take,hp.length_eq,h.1]
 omega
theorem nms_turnW {n:Nat} {ys:List Str} (h:Nms n ys) (t:Nat):Nms n (ys.drop t++ys.take t):=by
 have e:=nms_turnN h t (Nat.le_refl n)
 rwa [List.take_of_length_le] at e
 rw [List.length_append,List.length_drop,List.length_take,h.1]
 omega
theorem atI_modI {ns:List Int} (h:0<ns.length) (i:Int):∃ x:Int,L2.atI (ns.map PyData.int) (i % ((ns.map PyData.int).length:Nat))=some (.int x):=by
 rw [List.length_map]
 obtain ⟨a,hm,ha,_⟩:=atI_in (xs:=ns.map PyData.int) (i:=i % (ns.length:Nat)) (Int.emod_nonneg _ (by omega)) (by rw [List.length_map];exact Int.emod_lt_of_pos _ (by omega))
 obtain ⟨b,hb,rfl⟩:=List.mem_map.mp hm
 exact ⟨b,ha⟩
@[irreducible] def cAt (i:Nat):Nat:=letters.cps.toList.getD i 0
theorem cAt_get {i:Nat} (h:i<26):letters.cps.toList[i]?=some (cAt i):=by
 have hl:i<letters.cps.toList.length:=by rw [letters_len];exact h
 unfold cAt
 rw [List.getD_eq_getElem?_getD,List.getElem?_eq_getElem hl];rfl

theorem cAt_mem {i:Nat} (h:i<26):cAt i∈letters.cps.toList:=List.mem_of_getElem? (cAt_get h)
theorem nth_injA {α:Type} {xs:List α} (nd:xs.Nodup) {i j:Nat} {c:α} (h1:xs[i]?=some c) (h2:xs[j]?=some c):i=j:=by
 obtain ⟨a1,a2⟩:=List.getElem?_eq_some_iff.mp h1
 obtain ⟨b1,b2⟩:=List.getElem?_eq_some_iff.mp h2
 exact (List.getElem_inj nd).mp (a2.trans b2.symm)
def words10:List Str:=["say","ask","is","upto","yes","no","all","in","none","a"]
theorem words10_nd:words10.Nodup:=by decide +kernel
theorem words10_nm:∀ y∈words10,nmS y=true:=by decide +kernel
@[irreducible] def wAt (i:Nat):Str:=words10.getD i ""
theorem wAt_get {i:Nat} (h:i<10):words10[i]?=some (wAt i):=by
 have hl:i<words10.length:=h
 unfold wAt
 rw [List.getD_eq_getElem?_getD,List.getElem?_eq_getElem hl];rfl
theorem nms_words10 {s m:Nat} (hm:m<=10):Nms m ((List.range m).map fun j:Nat=>wAt ((s+3*j) % 10)):=by
 refine nms_rangeN _ (fun i hi=>words10_nm _ (List.mem_of_getElem? (wAt_get (Nat.mod_lt _ (by decide))))) fun i j hi hj h=>?_
 have l1:=wAt_get (i:=(s+3*i) % 10) (Nat.mod_lt _ (by decide))
 have l2:=wAt_get (i:=(s+3*j) % 10) (Nat.mod_lt _ (by decide))
 have h':wAt ((s+3*i) % 10)=wAt ((s+3*j) % 10):=h
 rw [<- h'] at l2
 have:=nth_injA words10_nd l1 l2
 omega
theorem nms_pref {z:Str} (hz7:z.cps.toList.length=7) (hzl:∀ c∈z.cps.toList,c∈letters.cps.toList) {m:Nat} (hm:m<=7):Nms m ((List.range m).map fun j:Nat=>Txt.slice z none (some ((j:Int)+1))):=by
 have e:∀ j:Nat,(Txt.slice z none (some ((j:Int)+1))).cps.toList=z.cps.toList.take (j+1):=fun j=>by
  rw [slice_codes];exact cut_ns _ (j+1)
 refine nms_rangeN _ (fun i hi=>?_) fun i j hi hj h=>?_
 ·refine nmS_of ?_ ?_ fun c hc=>?_
  ·rw [e,List.length_take];omega
  ·rw [e,List.length_take];omega
  ·rw [e] at hc;exact hzl c (List.mem_of_mem_take hc)
 ·have e1:=e i
  rw [h,e j] at e1
  have:=congrArg List.length e1
  rw [List.length_take,List.length_take] at this
  omega
def insAt (z:Str) (t c:Nat):Str:=Txt.slice z none (some (t:Int))++⟨#[c]⟩++Txt.slice z (some (t:Int)) none
theorem insAt_codes (z:Str) (t c:Nat):(insAt z t c).cps.toList=z.cps.toList.take t++(c::z.cps.toList.drop t):=by
 unfold insAt
 rw [app_codes,app_codes,slice_codes,slice_codes,cut_sn,cut_ns]
 simp
theorem nms_ins {z:Str} (hz7:z.cps.toList.length=7) (hzl:∀ c∈z.cps.toList,c∈letters.cps.toList) {t s m:Nat} (hm:m<=26):Nms m ((List.range m).map fun j:Nat=>insAt z t (cAt ((s+7*j) % 26))):=by
 refine nms_rangeN _ (fun i hi=>?_) fun i j hi hj h=>?_
 ·have e:=insAt_codes z t (cAt ((s+7*i) % 26))
  refine nmS_of ?_ ?_ fun c hc=>?_
  ·rw [e,List.length_append,List.length_cons];omega
  ·rw [e,List.length_append,List.length_cons,List.length_take,List.length_drop];omega
  ·rw [e] at hc
   rcases List.mem_append.mp hc with hc | hc
   ·exact hzl c (List.mem_of_mem_take hc)
   ·rcases List.mem_cons.mp hc with rfl | hc
    ·exact cAt_mem (Nat.mod_lt _ (by decide))
    ·exact hzl c (List.mem_of_mem_drop hc)
 ·have e1:=insAt_codes z t (cAt ((s+7*i) % 26))
  have h':insAt z t (cAt ((s+7*i) % 26))=insAt z t (cAt ((s+7*j) % 26)):=h
  rw [h',insAt_codes] at e1
  have e2:=List.append_cancel_left e1
  have e3:cAt ((s+7*j) % 26)=cAt ((s+7*i) % 26):=(List.cons.inj e2).1
  have l1:=cAt_get (i:=(s+7*i) % 26) (Nat.mod_lt _ (by decide))
  have l2:=cAt_get (i:=(s+7*j) % 26) (Nat.mod_lt _ (by decide))
  rw [e3] at l2
  have:=nth_inj letters_nd l1 l2
  omega
theorem insAt_len (z:Str) (hz7:z.cps.toList.length=7) (t c:Nat):(Txt.slice z none (some (t:Int))).length+1<=100000/\(Txt.slice z none (some (t:Int))++(⟨#[c]⟩:Str)).length+(Txt.slice z (some (t:Int)) none).length<=100000:=by
 have a1:=Txt.slice_le z none (some (t:Int))
 have a2:=Txt.slice_le z (some (t:Int)) none
 have a3:z.length=z.cps.toList.length:=by simp [Str.length]
 have a4:(Txt.slice z none (some (t:Int))++(⟨#[c]⟩:Str)).length=(Txt.slice z none (some (t:Int))).length+1:=by
  show ((Txt.slice z none (some (t:Int))).cps++#[_]).size=_
  rw [Array.size_append];rfl
 rw [a4]
 omega
theorem natOf {r:Int} (h:0<=r):∃ t:Nat,r=(t:Int):=⟨r.toNat,(Int.toNat_of_nonneg h).symm⟩
theorem flds_of {Pv:List Str->Prop}:∀ (ns:List Str) (ys:List D),ys.length=ns.length->(∀ (k:Nat) (x y:D),(ns.map PyData.str)[k]?=some x->ys[k]?=some y->∃ nm vs,x=.str nm/\y=fldD (nm,vs)/\Pv vs)->∃ fs:List (Str×List Str),ys=fs.map fldD/\fs.map (·.1)=ns/\∀ f∈fs,Pv f.2
 | [],ys,hl,_=>⟨[],List.length_eq_zero_iff.mp hl,rfl,fun f hf=>by simp at hf⟩
 | n::ns,[],hl,_=>by simp at hl
 | n::ns,y::ys,hl,h=>by
  obtain ⟨nm,vs,e1,e2,hp⟩:=h 0 (.str n) y rfl rfl
  cases e1
  obtain ⟨fs,h1,h2,h3⟩:=flds_of ns ys (by simpa using hl) fun k x y hx hy=>h (k+1) x y (by simpa using hx) (by simpa using hy)
  refine ⟨(n,vs)::fs,by rw [e2,h1];rfl,by rw [List.map_cons,h2],fun f hf=>?_⟩
  rcases List.mem_cons.mp hf with rfl | hf
  ·exact hp
  ·exact h3 f hf
def okV (f:Str×List Str) (d:D):Bool:=match d with | .none=>true | .str z=>decide (z∈f.2) | _=>false
def isAns (an:List Str) (d:D):Bool:=match d with | .str z=>decide (z∈an) | _=>false
structure Cd (d:D):Prop where
 lay:d.canLay0=true
 dep:d.depth<=60
structure Th (n m:Nat) (d:D):Prop where
 bulk:d.bulk<=n
 fit:d.leavesShort 110=true
 shw:d.showable=true
 nodict:d.hasDict=false
 depth:d.depth<=m
 lay:d.canLay0=true
abbrev Thing (d:D):Prop:=Th 100000 40 d
theorem Th.mono {n n' m m':Nat} {d:D} (h:Th n m d) (hn:n<=n') (hm:m<=m'):Th n' m' d:=⟨Nat.le_trans h.bulk hn,h.fit,h.shw,h.nodict,Nat.le_trans h.depth hm,h.lay⟩
theorem th_all {n m:Nat}:∀ {ts:List D},(∀ t∈ts,Th n m t)->PyData.bulkAll ts<=ts.length*(n+1)/\PyData.leavesShortAll 110 ts=true/\PyData.showableAll ts=true/\PyData.hasDictAll ts=false/\PyData.depthAll ts<=m/\PyData.canLayAll0 ts=true
 | [],_=>⟨Nat.zero_le _,rfl,rfl,rfl,Nat.zero_le _,rfl⟩
 | t::ts,h=>by
  have a:=h t (List.mem_cons_self ..)
  obtain ⟨b1,b2,b3,b4,b5,b6⟩:=th_all (ts:=ts) fun x hx=>h x (List.mem_cons_of_mem _ hx)
  refine ⟨?_,?_,?_,?_,?_,?_⟩
  ·show t.bulk+1+PyData.bulkAll ts<=(ts.length+1)*(n+1)
   have:=a.bulk
   rw [Nat.add_mul,Nat.one_mul]
   omega
  ·show (t.leavesShort 110 && PyData.leavesShortAll 110 ts)=true
   rw [a.fit,b2];rfl
  ·show (t.showable && PyData.showableAll ts)=true
   rw [a.shw,b3];rfl
  ·show (t.hasDict || PyData.hasDictAll ts)=false
   rw [a.nodict,b4];rfl
  ·show max t.depth (PyData.depthAll ts)<=m
   exact Nat.max_le.mpr ⟨a.depth,b5⟩
  ·show (t.canLay0 && PyData.canLayAll0 ts)=true
   rw [a.lay,b6];rfl
theorem th_tup (n m k:Nat) {N M:Nat} {ts:List D} (h:∀ t∈ts,Th n m t) (hl:ts.length<=k) (hN:k*(n+1)<=N) (hM:m+1<=M):Th N M (.tuple ts):=by
 obtain ⟨b1,b2,b3,b4,b5,b6⟩:=th_all h
 have:ts.length*(n+1)<=k*(n+1):=Nat.mul_le_mul_right _ hl
 exact ⟨by show PyData.bulkAll ts<=N;omega,b2,b3,b4,by show PyData.depthAll ts+1<=M;omega,b6⟩
theorem th_lst (n m k:Nat) {N M:Nat} {ts:List D} (h:∀ t∈ts,Th n m t) (hl:ts.length<=k) (hN:k*(n+1)<=N) (hM:m+1<=M):Th N M (.list ts):=by
 obtain ⟨b1,b2,b3,b4,b5,b6⟩:=th_all h
 have:ts.length*(n+1)<=k*(n+1):=Nat.mul_le_mul_right _ hl
 exact ⟨by show PyData.bulkAll ts<=N;omega,b2,b3,b4,by show PyData.depthAll ts+1<=M;omega,b6⟩
theorem th_none {n m:Nat}:Th n m .none:=⟨Nat.zero_le _,rfl,rfl,rfl,Nat.zero_le _,rfl⟩
theorem strOk_small {z:Str} (hc:∀ c∈z.cps.toList,c<1000):PyData.strOk z=true:=by
 unfold PyData.strOk
 rw [<- Array.all_toList,List.all_eq_true]
 intro c h1
 have:=hc c h1
 exact decide_eq_true (by omega)
theorem th_str {n m:Nat} {z:Str} (h:z.length<=n) (hc:∀ c∈z.cps.toList,c<1000):Th n m (.str z):=by
 refine ⟨h,?_,rfl,rfl,Nat.zero_le _,strOk_small hc⟩
 show (z.cps.toList.all fun c=>decide (c<16 ^ 8))=true
 rw [List.all_eq_true]
 intro c h1
 have:=hc c h1
 exact decide_eq_true (by omega)
theorem th_lit {n m:Nat} {z:Str} (h:(decide (z.length<=n) && z.cps.toList.all fun c=>decide (c<1000))=true):Th n m (.str z):=by
 rw [Bool.and_eq_true] at h
 exact th_str (of_decide_eq_true h.1) fun c hc=>of_decide_eq_true (List.all_eq_true.mp h.2 c hc)
theorem let_small {c:Nat} (h:c∈letters.cps.toList):c<128:=by
 have:∀ c∈letters.cps.toList,c<128:=by decide +kernel
 exact this c h
theorem nm_small {y:Str} (h:nmS y=true):y.length<=8/\∀ c∈y.cps.toList,c<128:=⟨(nmS_iff h).2.1,fun c hc=>let_small ((nmS_iff h).2.2 c hc)⟩
theorem th_name {y:Str} (h:nmS y=true) {n m:Nat} (hn:8<=n):Th n m (.str y):=th_str (Nat.le_trans (nm_small h).1 hn) fun c hc=>by have:=(nm_small h).2 c hc;omega
theorem th_strs {ys:List Str} (h:∀ y∈ys,nmS y=true) {n m:Nat} (hn:8<=n):∀ t∈ys.map PyData.str,Th n m t:=fun t ht=>by
 obtain ⟨y,hy,rfl⟩:=List.mem_map.mp ht
 exact th_name (h y hy) hn
theorem th_names {ys:List Str} (h:∀ y∈ys,nmS y=true) (hl:ys.length<=8):Th 72 1 (.tuple (ys.map PyData.str)):=th_tup 8 0 8 (th_strs h (Nat.le_refl _)) (by rw [List.length_map];exact hl) (by decide) (by decide)
theorem all_nil {n m:Nat}:∀ t∈([]:List D),Th n m t:=fun t h=>by simp at h
theorem all_cons {n m:Nat} {a:D} {ts:List D} (h:Th n m a) (hs:∀ t∈ts,Th n m t):∀ t∈a::ts,Th n m t:=fun t ht=>by
 rcases List.mem_cons.mp ht with rfl | ht
 ·exact h
 ·exact hs t ht
theorem all_app {n m:Nat} {as bs:List D} (h:∀ t∈as,Th n m t) (hs:∀ t∈bs,Th n m t):∀ t∈as++bs,Th n m t:=fun t ht=>(List.mem_append.mp ht).elim (h t) (hs t)
theorem thing_shown {d:D} (h:Thing d):d.shown.length<=sizeLine:=by
 have h1:=PyData.shown_le_bulk 110 (by decide) d h.fit
 have h2:=h.bulk
 have hL:sizeLine=2 ^ 24:=rfl
 have h3:(110+2)*d.bulk<=(110+2)*100000:=Nat.mul_le_mul_left _ h2
 omega
theorem Th.cd {n m:Nat} {d:D} (h:Th n m d) (hm:m<=60):Cd d:=⟨h.lay,Nat.le_trans h.depth hm⟩
theorem lay_mem:∀ {ts:List D} {t:D},PyData.canLayAll0 ts=true->t∈ts->t.canLay0=true
 | a::r,t,h,hm=>by
  have h':(a.canLay0 && PyData.canLayAll0 r)=true:=h
  rw [Bool.and_eq_true] at h'
  rcases List.mem_cons.mp hm with rfl | hm
  ·exact h'.1
  ·exact lay_mem h'.2 hm
theorem depth_mem:∀ {ts:List D} {t:D},t∈ts->t.depth<=PyData.depthAll ts
 | a::r,t,hm=>by
  show t.depth<=max a.depth (PyData.depthAll r)
  rcases List.mem_cons.mp hm with rfl | hm
  ·exact Nat.le_max_left _ _
  ·exact Nat.le_trans (depth_mem hm) (Nat.le_max_right _ _)
theorem Cd.item {ts:List D} {t:D} (h:Cd (.tuple ts)) (ht:t∈ts):Cd t:=⟨lay_mem h.lay ht,by
 have h1:PyData.depthAll ts+1<=60:=h.dep
 have:=depth_mem ht
 omega⟩
section
variable {fs:List (Str×List Str)} {an:List Str}
theorem Form.name (F:Form fs an) {f:Str×List Str} (h:f∈fs):nmS f.1=true:=F.nd.2.1 _ (List.mem_map.mpr ⟨f,h,rfl⟩)
theorem Form.vals (F:Form fs an) {f:Str×List Str} (h:f∈fs):∀ y∈f.2,nmS y=true:=(F.vs f h).2.2.2.1
theorem Form.fld (F:Form fs an) {f:Str×List Str} (h:f∈fs):Th 146 2 (fldD f):=th_tup 72 1 2 (all_cons (th_name (F.name h) (by decide)) (all_cons (th_names (F.vals h) (by have:=(F.vs f h).2.1;omega)) all_nil)) (Nat.le_of_ble_eq_true rfl) (by decide) (by decide)
end
theorem fIn2_tup {x:D} {ts:List D} {Q:D->Prop} (h1:okIn x (.tuple ts)) (h2:Q (.bool (inD x (.tuple ts)))):fIn2 x (.tuple ts) Q:=by
 cases x<;>exact ⟨h1,h2⟩
theorem any_strs (d:D) (ys:List Str):((ys.map PyData.str).any fun z=>PyData.eqv z d)=isAns ys d:=by
 induction ys with
 | nil=>cases d<;>rfl
 | cons y ys ih =>
  rw [List.map_cons,List.any_cons,ih]
  cases d with
  | str z =>
   show ((y == z) || decide (z∈ys))=decide (z∈y::ys)
   rw [Bool.eq_iff_iff]
   simp only [Bool.or_eq_true,beq_iff_eq,decide_eq_true_eq,List.mem_cons]
   exact ⟨fun h=>h.imp Eq.symm id,fun h=>h.imp Eq.symm id⟩
  | _=>rfl
theorem ok_strs {ys:List Str} (h:∀ y∈ys,nmS y=true) {d:D} (hd:Cd d):okIn d (.tuple (ys.map PyData.str)):=by
 obtain ⟨_,_,_,_,b5,b6⟩:=th_all (th_strs h (Nat.le_refl 8) (m:=0))
 exact ⟨b6,hd.lay,by have:=hd.dep;omega⟩
theorem ok_entries {ys:List Str} (h:∀ y∈ys,nmS y=true) {d:D} (hd:Cd d):okIn d (.tuple (ys.map PyData.str++[.none])):=by
 obtain ⟨_,_,_,_,b5,b6⟩:=th_all (all_app (th_strs h (Nat.le_refl 8) (m:=0)) (all_cons th_none all_nil))
 exact ⟨b6,hd.lay,by have:=hd.dep;omega⟩
theorem idx_min:∀ {ys:List Str} {z:Str} {m:Nat},m<ys.idxOf z->ys[m]?≠some z
 | [],z,m,h=>by simp at h
 | y::ys,z,m,h=>by
  rw [List.idxOf_cons] at h
  by_cases e:y=z
  ·subst e
   simp at h
  ·have e':(y == z)=false:=by simpa using e
   rw [e'] at h
   simp only [cond_false] at h
   cases m with
   | zero=>simpa using e
   | succ m =>
    rw [List.getElem?_cons_succ]
    exact idx_min (by omega)
theorem Bits.drop {n:Nat} {bs:List Int} (h:Bits n bs) (k:Nat):Bits (n-k) (bs.drop k):=⟨by rw [List.length_drop,h.1],fun b hb=>h.2 b (List.mem_of_mem_drop hb)⟩
theorem seq_unp {te:ET} {u:STt} {DT:EndsT} {σ:List Sl} {i j:Nat} {a b:D} (h:∀ q:D->Prop,q (.tuple [a,b])->te σ q) (k:u DT ((σ.set i (.val a)).set j (.val b))):sSeq (sUnp i j te) u DT σ:=h _ ⟨a,b,rfl,k⟩
def isCase (fs:List (Str×List Str)) (d:D):Bool:=match d with | .tuple ts=>decide (ts.length=fs.length) && (fs.zip ts).all (fun p=>okV p.1 p.2) | _=>false
section
variable {fs:List (Str×List Str)} {an:List Str}
theorem case_get {cs:List D} (h:isCase fs (.tuple cs)=true):cs.length=fs.length/\∀ (k:Nat) f c,fs[k]?=some f->cs[k]?=some c->okV f c=true:=by
 unfold isCase at h
 simp only [Bool.and_eq_true,decide_eq_true_eq,List.all_eq_true] at h
 refine ⟨h.1,fun k f c h1 h2=>?_⟩
 exact h.2 (f,c) (List.mem_of_getElem? ((List.getElem?_zip_eq_some (z:=(f,c))).mpr ⟨h1,h2⟩))
theorem case_of {cs:List D} (hl:cs.length=fs.length) (h:∀ (k:Nat) f c,fs[k]?=some f->cs[k]?=some c->okV f c=true):isCase fs (.tuple cs)=true:=by
 unfold isCase
 simp only [Bool.and_eq_true,decide_eq_true_eq,List.all_eq_true]
 refine ⟨hl,fun p hp=>?_⟩
 obtain ⟨k,hk⟩:=List.getElem?_of_mem hp
 obtain ⟨h1,h2⟩:=List.getElem?_zip_eq_some.mp hk
 exact h k p.1 p.2 h1 h2
theorem case_items (F:Form fs an) {cs:List D} (h:isCase fs (.tuple cs)=true) {n m:Nat} (hn:8<=n):∀ c∈cs,Th n m c:=fun c hc=>by
 obtain ⟨hl,hv⟩:=case_get h
 obtain ⟨k,hk⟩:=List.getElem?_of_mem hc
 have hk':k<fs.length:=by rw [<- hl];exact (List.getElem?_eq_some_iff.mp hk).1
 have:=hv k fs[k] c (List.getElem?_eq_getElem hk') hk
 cases c with
 | none=>exact th_none
 | str z=>exact th_name (F.vals (List.getElem_mem hk') z (of_decide_eq_true this)) hn
 | _=>cases this
end
def rowD (r:List D×Str):D:=.tuple [.tuple r.1,.str r.2]
def RowOk (fs:List (Str×List Str)) (an:List Str) (r:List D×Str):Prop:=isCase fs (.tuple r.1)=true/\r.2∈an
def RowsOk (fs:List (Str×List Str)) (an:List Str) (rs:List (List D×Str)):Prop:=∀ r∈rs,RowOk fs an r
theorem th_row {fs:List (Str×List Str)} {an:List Str} (F:Form fs an) {r:List D×Str} (h:RowOk fs an r):Th 92 2 (rowD r):=by
 have n5:=F.n5
 exact th_tup 45 1 2 (all_cons (th_tup 8 0 5 (case_items F h.1 (Nat.le_refl 8)) (by rw [(case_get h.1).1];exact n5) (by decide) (by decide)) (all_cons (th_name (F.an.2.1 _ h.2) (by decide)) all_nil)) (Nat.le_of_ble_eq_true rfl) (by decide) (by decide)
theorem th_rows {fs:List (Str×List Str)} {an:List Str} (F:Form fs an) {rs:List (List D×Str)} (h:RowsOk fs an rs) (hl:rs.length<=60):Th 6000 3 (.list (rs.map rowD)) :=
 th_lst 92 2 60 (fun t ht=>by
  obtain ⟨r,hr,rfl⟩:=List.mem_map.mp ht
  exact th_row F (h r hr)) (by rw [List.length_map];exact hl) (by decide) (by decide)
def qOk (f:Str×List Str) (k v:D):Bool:=match k,v with
 | .str kk,.str z=>decide (z∈f.2) && (decide (kk="is") || (decide (kk="upto") && decide (f.2.idxOf z+1<f.2.length)))
 | _,_=>false
def isN (n:D) (f:Str×List Str):Bool:=match n with | .str z=>decide (f.1=z) | _=>false
def isQ (fs:List (Str×List Str)) (d:D):Bool:=match d with
 | .tuple [k,n,v]=>fs.any fun f=>isN n f && qOk f k v
 | _=>false
def mkQ (k:Str) (f:Str×List Str) (z:Str):D:=.tuple [.str k,.str f.1,.str z]
def qSel (f:Str×List Str):List Str:=if f.2.length=2 then f.2.take 1 else f.2
def qMid (f:Str×List Str):List Str:=(f.2.drop 1).take (f.2.length-3)
def qOf (f:Str×List Str):List D:=(qSel f).map (mkQ "is" f)++(qMid f).map (mkQ "upto" f)
def toChoose (fs:List (Str×List Str)):List D:=(fs.map qOf).flatten
def sp_8:SpF:=fun ds Q=>∃ (fs:List (Str×List Str)) (an:List Str),ds=[frmD fs an]/\Form fs an/\Q (toChoose fs)
theorem idx_le {ys:List Str} {z:Str} {j:Nat} (h:ys[j]?=some z):ys.idxOf z<=j:=by
 by_cases q:ys.idxOf z<=j
 ·exact q
 ·exact absurd h (idx_min (by omega))
theorem mid_ix {f:Str×List Str} {z:Str} (h:z∈qMid f):z∈f.2/\f.2.idxOf z+1<f.2.length:=by
 unfold qMid at h
 have h1:z∈f.2:=List.mem_of_mem_drop (List.mem_of_mem_take h)
 refine ⟨h1,?_⟩
 obtain ⟨i,hi⟩:=List.getElem?_of_mem h
 have hl:=(List.getElem?_eq_some_iff.mp hi).1
 rw [List.length_take,List.length_drop] at hl
 rw [List.getElem?_take,if_pos (by omega),List.getElem?_drop] at hi
 have:=idx_le hi
 omega
theorem isQ_mk {fs:List (Str×List Str)} {f:Str×List Str} {k:Str} {z:Str} (hf:f∈fs) (h:qOk f (.str k) (.str z)=true):isQ fs (mkQ k f z)=true:=by
 show (fs.any fun g=>isN (.str f.1) g && qOk g (.str k) (.str z))=true
 rw [List.any_eq_true]
 refine ⟨f,hf,?_⟩
 show (decide (f.1=f.1) && qOk f (.str k) (.str z))=true
 rw [h,decide_eq_true rfl];rfl
theorem choose_mem {fs:List (Str×List Str)} {d:D} (h:d∈toChoose fs):∃ f∈fs,(∃ z∈f.2,d=mkQ "is" f z)\/(∃ z,z∈f.2/\f.2.idxOf z+1<f.2.length/\d=mkQ "upto" f z):=by
 unfold toChoose at h
 obtain ⟨l,hl,hd⟩:=List.mem_flatten.mp h
 obtain ⟨f,hf,rfl⟩:=List.mem_map.mp hl
 refine ⟨f,hf,?_⟩
 unfold qOf at hd
 rcases List.mem_append.mp hd with q | q
 ·obtain ⟨z,hz,rfl⟩:=List.mem_map.mp q
  refine .inl ⟨z,?_,rfl⟩
  unfold qSel at hz
  split at hz
  ·exact List.mem_of_mem_take hz
  ·exact hz
 ·obtain ⟨z,hz,rfl⟩:=List.mem_map.mp q
  exact .inr ⟨z,(mid_ix hz).1,(mid_ix hz).2,rfl⟩
theorem choose_isQ {fs:List (Str×List Str)} {d:D} (h:d∈toChoose fs):isQ fs d=true:=by
 obtain ⟨f,hf,⟨z,hz,rfl⟩ | ⟨z,hz,hi,rfl⟩⟩:=choose_mem h
 ·refine isQ_mk hf ?_
  show (decide (z∈f.2) && (decide (("is":Str)="is") || _))=true
  rw [decide_eq_true hz];rfl
 ·refine isQ_mk hf ?_
  show (decide (z∈f.2) && (decide (("upto":Str)="is") || (decide (("upto":Str)="upto") && decide (f.2.idxOf z+1<f.2.length))))=true
  rw [decide_eq_true hz,decide_eq_true hi,decide_eq_true (rfl:("upto":Str)="upto")];simp
theorem nm_is:nmS "is"=true:=by decide +kernel
theorem nm_upto:nmS "upto"=true:=by decide +kernel
theorem th_mkQ {fs:List (Str×List Str)} {an:List Str} (F:Form fs an) {k:Str} (hk:nmS k=true) {f:Str×List Str} (hf:f∈fs) {z:Str} (hz:z∈f.2):Th 27 1 (mkQ k f z) :=
 th_tup 8 0 3 (all_cons (th_name hk (Nat.le_refl _)) (all_cons (th_name (F.name hf) (Nat.le_refl _)) (all_cons (th_name (F.vals hf z hz) (Nat.le_refl _)) all_nil))) (Nat.le_of_ble_eq_true rfl) (by decide) (by decide)
theorem choose_len {fs:List (Str×List Str)} {an:List Str} (F:Form fs an):∀ gs:List (Str×List Str),(∀ g∈gs,g∈fs)->(toChoose gs).length<=10*gs.length
 | [],_=>Nat.le_refl _
 | g::gs,h=>by
  have ih:=choose_len F gs fun x hx=>h x (List.mem_cons_of_mem _ hx)
  obtain ⟨_,v5,_⟩:=F.vs g (h g (List.mem_cons_self ..))
  show ((qOf g::gs.map qOf).flatten).length<=_
  rw [List.flatten_cons,List.length_append]
  have h1:(qOf g).length<=10:=by
   unfold qOf qSel qMid
   rw [List.length_append,List.length_map,List.length_map,List.length_take,List.length_drop]
   split
   ·rw [List.length_take];omega
   ·omega
  have:(toChoose gs).length=((gs.map qOf).flatten).length:=rfl
  rw [List.length_cons]
  omega
theorem okIx_strs {ys:List Str} (hy:∀ y∈ys,nmS y=true) {z:Str} (hz:z∈ys):okIx (ys.map PyData.str) (.str z) (ys.idxOf z):=by
 have hzi:ys.idxOf z<ys.length:=List.idxOf_lt_length_iff.mpr hz
 obtain ⟨_,_,_,_,d5,d6⟩:=th_all (th_strs hy (Nat.le_refl 8) (m:=0))
 refine ⟨d6,(th_name (hy z hz) (Nat.le_refl 8) (m:=0)).lay,by omega,⟨.str z,?_,?_⟩,fun m t hm ht=>?_⟩
 ·rw [List.getElem?_map,List.getElem?_eq_getElem hzi,List.getElem_idxOf hzi];rfl
 ·show (z == z)=true
  simp
 ·rw [List.getElem?_map] at ht
  cases e2:ys[m]? with
  | none=>rw [e2] at ht;cases ht
  | some y =>
   rw [e2] at ht
   cases ht
   show (y == z)=false
   have:y≠z:=fun q=>by
    subst q
    exact idx_min hm e2
   simpa using this
inductive Tr | say (a:Str) | ask (k n v s:Str) (y m:Tr)
def trD:Tr->D
 | .say a=>.tuple [.str "say",.str a]
 | .ask k n v s y m=>.tuple [.str "ask",.tuple [.str k,.str n,.str v],.str s,trD y,trD m]
def Tr.dep:Tr->Nat
 | .say _=>0
 | .ask _ _ _ _ y m=>max y.dep m.dep+1
def Tr.kn:Tr->Nat
 | .say _=>0
 | .ask _ _ _ _ y m=>y.kn+m.kn+1
def TrOk (fs:List (Str×List Str)) (an:List Str):Tr->Prop
 | .say a=>a∈an
 | .ask k n v s y m=>isQ fs (.tuple [.str k,.str n,.str v])=true/\(s="yes"\/s="no")/\TrOk fs an y/\TrOk fs an m
theorem isQ_str {fs:List (Str×List Str)} {k n v:Str} (h:isQ fs (.tuple [.str k,.str n,.str v])=true):∃ f∈fs,f.1=n/\v∈f.2/\(k="is"\/(k="upto"/\f.2.idxOf v+1<f.2.length)):=by
 obtain ⟨f,hf,hq⟩:=List.any_eq_true.mp (h:(fs.any fun f=>isN (.str n) f && qOk f (.str k) (.str v))=true)
 rw [Bool.and_eq_true] at hq
 have h2:(decide (v∈f.2) && (decide (k="is") || (decide (k="upto") && decide (f.2.idxOf v+1<f.2.length))))=true:=hq.2
 simp only [Bool.and_eq_true,Bool.or_eq_true,decide_eq_true_eq] at h2
 exact ⟨f,hf,of_decide_eq_true hq.1,h2.1,h2.2⟩
theorem nm_yes:nmS "yes"=true:=by decide +kernel
theorem nm_no:nmS "no"=true:=by decide +kernel
theorem nm_say:nmS "say"=true:=by decide +kernel
theorem nm_ask:nmS "ask"=true:=by decide +kernel
theorem th_q {fs:List (Str×List Str)} {an:List Str} (F:Form fs an) {k n v:Str} (h:isQ fs (.tuple [.str k,.str n,.str v])=true):Th 27 1 (.tuple [.str k,.str n,.str v]):=by
 obtain ⟨f,hf,rfl,hv,hk⟩:=isQ_str h
 refine th_mkQ F ?_ hf hv
 rcases hk with rfl | ⟨rfl,_⟩
 ·exact nm_is
 ·exact nm_upto
theorem th_tree {fs:List (Str×List Str)} {an:List Str} (F:Form fs an):∀ t:Tr,TrOk fs an t->Th (68*t.kn+18) (t.dep+1) (trD t)
 | .say a,h=>th_tup 8 0 2 (all_cons (th_name nm_say (Nat.le_refl _)) (all_cons (th_name (F.an.2.1 a h) (Nat.le_refl _)) all_nil)) (Nat.le_of_ble_eq_true rfl) (by show 2*(8+1)<=68*0+18;decide) (Nat.le_refl _)
 | .ask k n v s y m,h=>by
  obtain ⟨hq,hs,hy,hm⟩:=h
  have iy:=th_tree F y hy
  have im:=th_tree F m hm
  have q:=th_q F hq
  have sn:nmS s=true:=by
   rcases hs with rfl | rfl
   ·exact nm_yes
   ·exact nm_no
  have sl:=th_name sn (n:=8) (m:=0) (Nat.le_refl _)
  have al:=th_name nm_ask (n:=8) (m:=0) (Nat.le_refl _)
  have e1:PyData.bulk (trD (.ask k n v s y m))=(PyData.str "ask").bulk+1+((PyData.tuple [.str k,.str n,.str v]).bulk+1+((PyData.str s).bulk+1+((trD y).bulk+1+((trD m).bulk+1+0)))):=rfl
  have e2:PyData.depth (trD (.ask k n v s y m))=max (PyData.str "ask").depth (max (PyData.tuple [.str k,.str n,.str v]).depth (max (PyData.str s).depth (max (trD y).depth (max (trD m).depth 0))))+1:=rfl
  refine ⟨?_,?_,?_,?_,?_,?_⟩
  ·rw [e1]
   have a1:=iy.bulk
   have a2:=im.bulk
   have a3:=q.bulk
   have a4:=sl.bulk
   have a5:=al.bulk
   show _<=68*(y.kn+m.kn+1)+18
   omega
  ·show ((PyData.str "ask").leavesShort 110 && ((PyData.tuple [.str k,.str n,.str v]).leavesShort 110 && ((PyData.str s).leavesShort 110 && ((trD y).leavesShort 110 && ((trD m).leavesShort 110 && true)))))=true
   rw [al.fit,q.fit,sl.fit,iy.fit,im.fit];rfl
  ·show ((PyData.str "ask").showable && ((PyData.tuple [.str k,.str n,.str v]).showable && ((PyData.str s).showable && ((trD y).showable && ((trD m).showable && true)))))=true
   rw [al.shw,q.shw,sl.shw,iy.shw,im.shw];rfl
  ·show ((PyData.str "ask").hasDict || ((PyData.tuple [.str k,.str n,.str v]).hasDict || ((PyData.str s).hasDict || ((trD y).hasDict || ((trD m).hasDict || false)))))=false
   rw [al.nodict,q.nodict,sl.nodict,iy.nodict,im.nodict];rfl
  ·rw [e2]
   have a1:=iy.depth
   have a2:=im.depth
   have a3:=q.depth
   have a4:=sl.depth
   have a5:=al.depth
   show _<=max y.dep m.dep+1+1
   omega
  ·show ((PyData.str "ask").canLay0 && ((PyData.tuple [.str k,.str n,.str v]).canLay0 && ((PyData.str s).canLay0 && ((trD y).canLay0 && ((trD m).canLay0 && true)))))=true
   rw [al.lay,q.lay,sl.lay,iy.lay,im.lay];rfl
theorem Tr.kn_dep:∀ t:Tr,t.kn<2 ^ t.dep
 | .say _=>by show 0<2 ^ 0;decide
 | .ask _ _ _ _ y m=>by
  have:=kn_dep y
  have:=kn_dep m
  show y.kn+m.kn+1<2 ^ (max y.dep m.dep+1)
  have h1:2 ^ y.dep<=2 ^ (max y.dep m.dep):=Nat.pow_le_pow_right (by decide) (Nat.le_max_left ..)
  have h2:2 ^ m.dep<=2 ^ (max y.dep m.dep):=Nat.pow_le_pow_right (by decide) (Nat.le_max_right ..)
  rw [Nat.pow_succ]
  omega
theorem seq_while {c:TTt} {tb u:STt} {DT:EndsT} {σ:List Sl} (P:Nat->List Sl->Prop) (n0:Nat) (h0:P n0 σ)
  (hs:∀ n σ',P n σ'->∃ b:Bool,(∀ q:Bool->Prop,q b->c σ' q)/\(if b=true then tb { DT with nx:=fun σ2=>∃ m,m<n/\P m σ2,ct:=fun σ2=>∃ m,m<n/\P m σ2,bk:=u DT } σ' else u DT σ')):sSeq (sWhile c tb) u DT σ :=
 ⟨P,⟨n0,h0⟩,fun n σ' hp=>let ⟨_,h1,h2⟩:=hs n σ' hp;h1 _ h2⟩
theorem cut_mid (ys:List Str) (h:2<=ys.length):cutD ys (some 1) (some (-2))=(ys.drop 1).take (ys.length-3):=by
 unfold cutD
 have e1:HT.sIx ys.length 0 (some 1)=1:=by
  show (if (1:Int)<0 then ((1:Int)+(ys.length:Int)).toNat else min (1:Int).toNat ys.length)=_
  rw [if_neg (by decide)]
  show min 1 ys.length=1
  omega
 have e2:HT.sIx ys.length ys.length (some (-2))=ys.length-2:=by
  show (if (-2:Int)<0 then ((-2:Int)+(ys.length:Int)).toNat else min (-2:Int).toNat ys.length)=_
  rw [if_pos (by decide)]
  omega
 rw [e1,e2]
 congr 1
theorem cut_one (ys:List Str) (h:2<=ys.length):cutD ys none (some 1)=ys.take 1:=cut_ns ys 1
def sp_9:SpF:=fun ds Q=>∃ f:Str×List Str,ds=[fldD f]/\2<=f.2.length/\f.2.length<=5/\Q (qOf f)
abbrev Rw:=List D×Str
def cnt (rs:List Rw) (a:Str):Nat:=rs.countP fun r=>decide (r.2=a)
def cnts (an:List Str) (rs:List Rw):List Int:=an.map fun a=>(cnt rs a:Int)
def prs (ss rs:List Rw):Nat:=(ss.map fun r=>rs.countP fun o=>decide (o.2≠r.2)).sum
def lowD (a b:Nat):D:=.tuple [.int ((a / a.gcd b:Nat):Int),.int ((b / a.gcd b:Nat):Int)]
def First (an:List Str) (rs:List Rw) (a:Str):Prop:=∃ k,an[k]?=some a/\(∀ (j:Nat) b,an[j]?=some b->cnt rs b<=cnt rs a)/\∀ (j:Nat) b,j<k->an[j]?=some b->cnt rs b<cnt rs a
def sp_3:SpT:=fun ds Q=>∃ a b:Nat,ds=[.int a,.int b]/\0<b/\a<2 ^ 190/\b<2 ^ 190/\Q (lowD a b)
def sp_33:SpT:=sp_3
def sp_0:SpF:=fun ds Q=>∃ (fs:List (Str×List Str)) (an:List Str) (rs:List Rw),ds=[frmD fs an,.list (rs.map rowD)]/\Form fs an/\RowsOk fs an rs/\rs.length<=60/\Q ((cnts an rs).map PyData.int)
def sp_1:SpT:=fun ds Q=>∃ (fs:List (Str×List Str)) (an:List Str) (rs:List Rw),ds=[frmD fs an,.list (rs.map rowD)]/\Form fs an/\RowsOk fs an rs/\rs.length<=60/\∀ a,First an rs a->Q (.str a)
def sp_2:SpT:=fun ds Q=>∃ (fs:List (Str×List Str)) (an:List Str) (rs:List Rw),ds=[frmD fs an,.list (rs.map rowD)]/\Form fs an/\RowsOk fs an rs/\rs.length<=60/\Q (lowD (prs rs rs) (max 1 rs.length))
theorem prs_le:∀ (ss rs:List Rw),prs ss rs<=ss.length*rs.length
 | [],rs=>by show 0<=_;omega
 | s::ss,rs=>by
  have:=prs_le ss rs
  have h1:rs.countP (fun o=>decide (o.2≠s.2))<=rs.length:=List.countP_le_length
  show rs.countP (fun o=>decide (o.2≠s.2))+prs ss rs<=(ss.length+1)*rs.length
  rw [Nat.add_mul,Nat.one_mul]
  omega
theorem cnt_le (rs:List Rw) (a:Str):cnt rs a<=rs.length:=List.countP_le_length
theorem first_of {α:Type} [DecidableEq α]:∀ (l:List α) (x:α),x∈l->∃ k:Nat,l[k]?=some x/\∀ j:Nat,j<k->l[j]?≠some x
 | y::l,x,h=>by
  by_cases e:y=x
  ·exact ⟨0,by rw [e];rfl,fun j hj=>by omega⟩
  ·obtain ⟨k,h1,h2⟩:=first_of l x ((List.mem_cons.mp h).resolve_left fun z=>e z.symm)
   refine ⟨k+1,h1,fun j hj=>?_⟩
   cases j with
   | zero=>exact fun z=>e (Option.some.inj z)
   | succ j=>exact h2 j (by omega)
def unlike (a:Str) (x:D):Bool:=match x with | .tuple [_,.str b]=>!decide (b=a) | _=>false
def sideOf (f:Str×List Str) (k v st:Str) (c:D):Str:=match c with
 | .none=>st
 | .str z=>if k="is" then (if z=v then "yes" else "no") else if f.2.idxOf z<=f.2.idxOf v then "yes" else "no"
 | _=>""
def sideS (fs:List (Str×List Str)) (k n v st:Str) (cs:List D):Str:=match fs[(fs.map (·.1)).idxOf n]?,cs[(fs.map (·.1)).idxOf n]? with
 | some f,some c=>sideOf f k v st c
 | _,_=>""
def sp_11:SpT:=fun ds Q=>∃ (fs:List (Str×List Str)) (an:List Str) (k n v st:Str) (cs:List D),ds=[frmD fs an,.tuple [.str k,.str n,.str v],.str st,.tuple cs]/\Form fs an/\isQ fs (.tuple [.str k,.str n,.str v])=true/\(st="yes"\/st="no")/\isCase fs (.tuple cs)=true/\Q (.str (sideS fs k n v st cs))
def sp_29:SpT:=sp_11
def onSide (fs:List (Str×List Str)) (k n v st:Str) (rs:List (List D×Str)) (w:Str) (x:D):Bool:=match x with
 | .int i=>match L2.atI rs i with | some r=>decide (sideS fs k n v st r.1=w) | none=>false
 | _=>false
def sideIx (fs:List (Str×List Str)) (k n v st:Str) (rs:List (List D×Str)) (w:Str):List D:=(intsTo rs.length).filter (onSide fs k n v st rs w)
def sp_15:SpP:=fun ds Q=>∃ (fs:List (Str×List Str)) (an:List Str) (k n v st:Str) (rs:List (List D×Str)),ds=[frmD fs an,.tuple [.str k,.str n,.str v],.str st,.list (rs.map rowD)]/\Form fs an/\isQ fs (.tuple [.str k,.str n,.str v])=true/\(st="yes"\/st="no")/\RowsOk fs an rs/\rs.length<=60/\Q (sideIx fs k n v st rs "yes") (sideIx fs k n v st rs "no")
theorem name_at {fs:List (Str×List Str)} {an:List Str} (F:Form fs an) {j:Nat} {f:Str×List Str} (h:fs[j]?=some f):(fs.map (·.1)).idxOf f.1=j:=by
 have hm:f.1∈fs.map (·.1):=List.mem_map.mpr ⟨f,List.mem_of_getElem? h,rfl⟩
 have hi:(fs.map (·.1)).idxOf f.1<(fs.map (·.1)).length:=List.idxOf_lt_length_iff.mpr hm
 have h1:(fs.map (·.1))[(fs.map (·.1)).idxOf f.1]?=some f.1:=by rw [List.getElem?_eq_getElem hi,List.getElem_idxOf hi]
 have h2:(fs.map (·.1))[j]?=some f.1:=by rw [List.getElem?_map,h];rfl
 exact (List.getElem?_inj hi F.nd.2.2).mp (h1.trans h2.symm)
theorem sideS_at {fs:List (Str×List Str)} {an:List Str} (F:Form fs an) {k n v st:Str} {cs:List D} {j:Nat} {f:Str×List Str} {c:D} (h1:fs[j]?=some f) (h2:cs[j]?=some c) (hn:f.1=n):sideS fs k n v st cs=sideOf f k v st c:=by
 subst hn
 unfold sideS
 rw [name_at F h1,h1,h2]
def sdD (fs:List (Str×List Str)) (k n v st:Str) (x:D):D:=match x with | .tuple [.tuple cs,_]=>.str (sideS fs k n v st cs) | _=>.none
theorem one_extL {te:ET} {DT:EndsT} {σ:List Sl} {i:Nat} {ts us:List D} (ho:σ[i]?=some (.own ts)) (hz:ts.length+us.length<=100000) (h:∀ q:D->Prop,q (.list us)->te σ q) (k:DT.nx (σ.set i (.own (ts++us)))):sExtL i te DT σ:=⟨ts,ho,h _ ⟨us,rfl,hz,k⟩⟩
theorem onSide_at {fs:List (Str×List Str)} {k n v st:Str} {rs:List (List D×Str)} {w:Str} {j:Nat} {r:List D×Str} (h:rs[j]?=some r):onSide fs k n v st rs w (.int (j:Int))=decide (sideS fs k n v st r.1=w):=by
 show (match L2.atI rs (j:Int) with | some r=>decide (sideS fs k n v st r.1=w) | none=>false)=_
 rw [L2.atI_nat h]
def held (k v:Str) (f:Str×List Str):List Str:=if k="is" then [v] else f.2.take (f.2.idxOf v+1)
def sp_14:SpT:=fun ds Q=>∃ (k n v:Str) (f:Str×List Str),ds=[.tuple [.str k,.str n,.str v],fldD f]/\(∀ y∈f.2,nmS y=true)/\v∈f.2/\f.2.length<=5/\Q (.tuple ((held k v f).map PyData.str))
theorem held_side {f:Str×List Str} {k v st z:Str} (hz:z∈f.2):(if isAns (held k v f) (.str z)=true then ("yes":Str) else "no")=sideOf f k v st (.str z):=by
 show (if decide (z∈held k v f)=true then ("yes":Str) else "no")=if k="is" then (if z=v then ("yes":Str) else "no") else if f.2.idxOf z<=f.2.idxOf v then ("yes":Str) else "no"
 unfold held
 by_cases hk:k="is"
 ·rw [if_pos hk,if_pos hk]
  by_cases e:z=v
  ·rw [if_pos e,if_pos (decide_eq_true (List.mem_singleton.mpr e))]
  ·rw [if_neg e,if_neg (fun q=>e (List.mem_singleton.mp (of_decide_eq_true q)))]
 ·rw [if_neg hk,if_neg hk]
  have hi:f.2.idxOf z<f.2.length:=List.idxOf_lt_length_iff.mpr hz
  by_cases e:f.2.idxOf z<=f.2.idxOf v
  ·rw [if_pos e,if_pos]
   refine decide_eq_true (List.mem_of_getElem? (i:=f.2.idxOf z) ?_)
   rw [List.getElem?_take,if_pos (by omega),List.getElem?_eq_getElem hi,List.getElem_idxOf hi]
  ·rw [if_neg e,if_neg]
   intro q
   obtain ⟨i,hi'⟩:=List.getElem?_of_mem (of_decide_eq_true q)
   have hl:=(List.getElem?_eq_some_iff.mp hi').1
   rw [List.length_take] at hl
   rw [List.getElem?_take,if_pos (by omega)] at hi'
   have:=idx_le hi'
   omega
theorem held_mem {f:Str×List Str} {k v y:Str} (hv:v∈f.2) (h:y∈held k v f):y∈f.2:=by
 unfold held at h
 split at h
 ·rw [List.mem_singleton.mp h];exact hv
 ·exact List.mem_of_mem_take h
def toYes (k v st:Str) (f:Str×List Str):List D:=(held k v f).map PyData.str++(if st="yes" then [PyData.none] else [])
def sp_13:SpT:=fun ds Q=>∃ (k n v st:Str) (f:Str×List Str),ds=[.tuple [.str k,.str n,.str v],.str st,fldD f]/\(∀ y∈f.2,nmS y=true)/\v∈f.2/\f.2.length<=5/\Q (.tuple (toYes k v st f))
def sp_12:SpT:=fun ds Q=>∃ (fs:List (Str×List Str)) (an:List Str) (k n v:Str) (f:Str×List Str) (j:Nat),ds=[frmD fs an,.tuple [.str k,.str n,.str v]]/\Form fs an/\fs[j]?=some f/\f.1=n/\Q (.int (j:Int))
theorem held_len {k v:Str} {f:Str×List Str} (h:f.2.length<=5):(held k v f).length<=5:=by
 unfold held
 split
 ·show 1<=5;decide
 ·rw [List.length_take];omega
theorem in_toYes {k v st:Str} {f:Str×List Str} (hst:st="yes"\/st="no") {c:D} (hc:okV f c=true):(if inD c (.tuple (toYes k v st f))=true then ("yes":Str) else "no")=sideOf f k v st c:=by
 have e:inD c (.tuple (toYes k v st f))=(isAns (held k v f) c || ((if st="yes" then [PyData.none] else []).any fun z=>PyData.eqv z c)):=by
  show ((toYes k v st f).any fun z=>PyData.eqv z c)=_
  unfold toYes
  rw [List.any_append,any_strs]
 cases c with
 | none =>
  rw [e]
  rcases hst with rfl | rfl<;>rfl
 | str z =>
  have hz:z∈f.2:=of_decide_eq_true hc
  have e2:((if st="yes" then [PyData.none] else []).any fun x=>PyData.eqv x (.str z))=false:=by
   rcases hst with rfl | rfl<;>rfl
  rw [e,e2,Bool.or_false]
  exact held_side hz
 | _=>cases hc
theorem ok_toYes {k v st:Str} {f:Str×List Str} (hf:∀ y∈f.2,nmS y=true) (hv:v∈f.2) {d:D} (hd:Cd d):okIn d (.tuple (toYes k v st f)):=by
 unfold toYes
 split
 ·exact ok_entries (fun y hy=>hf y (held_mem hv hy)) hd
 ·rw [List.append_nil];exact ok_strs (fun y hy=>hf y (held_mem hv hy)) hd
def onW (w:Str) (x:D):Bool:=match x with | .tuple [_,.str s]=>decide (s=w) | _=>false
def isAt (ss:List Str) (w:Str) (x:D):Bool:=match x with | .int i=>(match L2.atI ss i with | some s=>decide (s=w) | none=>false) | _=>false
def atS (ss:List Str) (x:D):D:=match x with | .int i=>(match L2.atI ss i with | some s=>.str s | none=>.none) | _=>.none
def fstT (x:D):D:=match x with | .tuple [a,_]=>a | _=>x
theorem enum_strs (ss:List Str):enumD (ss.map PyData.str)=(intsTo ss.length).map fun x=>.tuple [x,atS ss x]:=by
 apply List.ext_getElem?
 intro i
 cases h:ss[i]? with
 | none =>
  have hl:=List.getElem?_eq_none_iff.mp h
  rw [List.getElem?_eq_none (by rw [enumD_len,List.length_map];exact hl),List.getElem?_eq_none (by rw [List.length_map,intsTo_len];exact hl)]
 | some s =>
  have hl:=(List.getElem?_eq_some_iff.mp h).1
  rw [enumD_get (a:=.str s) (by rw [List.getElem?_map,h];rfl),List.getElem?_map]
  unfold intsTo
  rw [List.getElem?_map,List.getElem?_range hl]
  show _=some (PyData.tuple [.int (i:Int),match L2.atI ss (i:Int) with | some s=>.str s | none=>.none])
  rw [L2.atI_nat h]
theorem enum_filter (ss:List Str) (w:Str):((enumD (ss.map PyData.str)).filter (onW w)).map fstT=(intsTo ss.length).filter (isAt ss w):=by
 rw [enum_strs,List.filter_map,List.map_map]
 have e1:(fstT ∘ fun x=>PyData.tuple [x,atS ss x])=id:=by funext x;rfl
 have e2:(onW w ∘ fun x=>PyData.tuple [x,atS ss x])=isAt ss w:=by
  funext x
  cases x with
  | int i =>
   show onW w (.tuple [.int i,(match L2.atI ss i with | some s=>PyData.str s | none=>.none)])=(match L2.atI ss i with | some s=>decide (s=w) | none=>false)
   cases L2.atI ss i<;>rfl
  | _=>rfl
 rw [e1,e2,List.map_id]
def sp_16:SpF:=fun ds Q=>∃ (w:Str) (ss:List Str),ds=[.str w,.list (ss.map PyData.str)]/\ss.length<=60/\Q ((intsTo ss.length).filter (isAt ss w))
theorem side_ix {fs:List (Str×List Str)} {k n v st:Str} {rs:List (List D×Str)} (w:Str):(intsTo (rs.map fun r=>sideS fs k n v st r.1).length).filter (isAt (rs.map fun r=>sideS fs k n v st r.1) w)=sideIx fs k n v st rs w:=by
 unfold sideIx
 rw [List.length_map]
 apply List.filter_congr
 intro x hx
 obtain ⟨j,hj⟩:=List.getElem?_of_mem hx
 obtain ⟨hjl,rfl⟩:=intsTo_get hj
 have hr:rs[j]?=some rs[j]:=List.getElem?_eq_getElem hjl
 rw [onSide_at hr]
 show (match L2.atI (rs.map fun r=>sideS fs k n v st r.1) (j:Int) with | some s=>decide (s=w) | none=>false)=_
 rw [L2.atI_nat (v:=sideS fs k n v st rs[j].1) (by rw [List.getElem?_map,hr];rfl)]
def cntD (rs:List Rw) (x:D):D:=match x with | .str a=>.int ((cnt rs a:Nat):Int) | _=>.none
theorem told_count (rs:List Rw) (a:Str):((rs.map fun r=>PyData.str r.2).countP fun t=>PyData.eqv t (.str a))=cnt rs a:=by
 rw [List.countP_map]
 unfold cnt
 congr 1
theorem lay_strs:∀ {ys:List Str},(∀ y∈ys,nmS y=true)->PyData.canLayAll0 (ys.map PyData.str)=true/\PyData.depthAll (ys.map PyData.str)<=0:=fun h=>by
 obtain ⟨_,_,_,_,b5,b6⟩:=th_all (th_strs h (Nat.le_refl 8) (m:=0))
 exact ⟨b6,b5⟩
theorem lay_ints:∀ ns:List Int,PyData.canLayAll0 (ns.map PyData.int)=true/\PyData.depthAll (ns.map PyData.int)=0
 | []=>⟨rfl,rfl⟩
 | n::ns=>by
  have:=lay_ints ns
  refine ⟨?_,?_⟩
  ·show (true && PyData.canLayAll0 (ns.map PyData.int))=true
   rw [this.1];rfl
  ·show max 0 (PyData.depthAll (ns.map PyData.int))=0
   rw [this.2];rfl
theorem okIx_ints {ns:List Int} {m:Int} {j:Nat} (h:ns[j]?=some m) (hno:∀ i:Nat,i<j->ns[i]?≠some m):okIx (ns.map PyData.int) (.int m) j:=by
 obtain ⟨h1,h2⟩:=lay_ints ns
 refine ⟨h1,rfl,by rw [h2];omega,⟨.int m,by rw [List.getElem?_map,h];rfl,?_⟩,fun i t hi ht=>?_⟩
 ·show (m == m)=true
  simp
 ·rw [List.getElem?_map] at ht
  cases e:ns[i]? with
  | none=>rw [e] at ht;cases ht
  | some n =>
   rw [e] at ht
   cases ht
   show (n == m)=false
   have:n≠m:=fun z=>hno i hi (by rw [e,z])
   simpa using this
def sp_4:SpT:=fun ds Q=>∃ a b:Nat,ds=[.int a,.int b]/\Q (.int ((a.gcd b:Nat):Int))
theorem sum_one {an:List Str} (hn:an.Nodup) (g:Str->Int) {b:Str} (h:b∈an):(an.map fun a=>if b=a then g a else 0).sum=g b:=by
 induction an with
 | nil=>simp at h
 | cons a an ih =>
  rw [List.map_cons,List.sum_cons]
  obtain ⟨hna,hn'⟩:=List.nodup_cons.mp hn
  by_cases e:b=a
  ·subst e
   have z:(an.map fun a=>if b=a then g a else 0).sum=0:=by
    have:∀ l:List Str,b∉l->(l.map fun a=>if b=a then g a else 0).sum=0:=fun l=>by
     induction l with
     | nil=>intro _;rfl
     | cons c l ihl =>
      intro hb
      rw [List.map_cons,List.sum_cons,ihl fun q=>hb (List.mem_cons_of_mem _ q),if_neg fun (q:b=c)=>hb (by rw [q];exact List.mem_cons_self ..)];rfl
    exact this an hna
   rw [z,if_pos rfl];omega
  ·rw [if_neg e,ih hn' ((List.mem_cons.mp h).resolve_left e)];omega
theorem sum_add (an:List Str) (f g:Str->Int):(an.map fun a=>f a+g a).sum=(an.map f).sum+(an.map g).sum:=by
 induction an with
 | nil=>rfl
 | cons a an ih=>rw [List.map_cons,List.map_cons,List.map_cons,List.sum_cons,List.sum_cons,List.sum_cons,ih];omega
theorem sum_cnts {an:List Str} (hn:an.Nodup) (g:Str->Int):∀ ss:List Rw,(∀ r∈ss,r.2∈an)->(an.map fun a=>(cnt ss a:Int)*g a).sum=(ss.map fun r=>g r.2).sum
 | [],_=>by
  have:∀ l:List Str,(l.map fun a=>((cnt [] a:Nat):Int)*g a).sum=0:=fun l=>by
   induction l with
   | nil=>rfl
   | cons c l ihl =>
    rw [List.map_cons,List.sum_cons,ihl]
    show ((0:Nat):Int)*g c+0=0
    simp
  exact this an
 | r::ss,h=>by
  have ih:=sum_cnts hn g ss fun x hx=>h x (List.mem_cons_of_mem _ hx)
  have e:(fun a=>((cnt (r::ss) a:Nat):Int)*g a)=fun a=>(if r.2=a then g a else 0)+(cnt ss a:Int)*g a:=by
   funext a
   unfold cnt
   rw [List.countP_cons]
   by_cases q:r.2=a
   ·rw [if_pos q,if_pos (decide_eq_true q),Int.natCast_add,Int.add_mul]
    show _+1*g a=_
    rw [Int.one_mul,Int.add_comm]
   ·rw [if_neg q,if_neg (by simpa using q),Nat.add_zero,Int.zero_add]
  rw [e,sum_add,sum_one hn g (h r (List.mem_cons_self ..)),ih,List.map_cons,List.sum_cons]
theorem other_cnt (rs:List Rw) (a:Str):((rs.countP fun o=>decide (o.2≠a):Nat):Int)=(rs.length:Int)-(cnt rs a:Int):=by
 unfold cnt
 have:rs.length=(rs.countP fun o=>decide (o.2=a))+(rs.countP fun o=>decide (o.2≠a)):=by
  rw [List.length_eq_countP_add_countP (fun o:Rw=>decide (o.2=a))]
  congr 2
  funext o
  by_cases q:o.2=a<;>simp [q]
 omega
theorem natsum:∀ l:List Nat,((l.sum:Nat):Int)=(l.map fun (n:Nat)=>(n:Int)).sum
 | []=>rfl
 | n::l=>by rw [List.sum_cons,List.map_cons,List.sum_cons,Int.natCast_add,natsum l]
theorem prs_sum {an:List Str} (hn:an.Nodup) {rs:List Rw} (h:∀ r∈rs,r.2∈an):((cnts an rs).map fun c=>c*((rs.length:Int)-c)).sum=((prs rs rs:Nat):Int):=by
 have h1:=sum_cnts hn (fun a=>(rs.length:Int)-(cnt rs a:Int)) rs h
 unfold cnts prs
 rw [List.map_map,natsum,List.map_map]
 refine h1.trans ?_
 congr 1
 apply List.map_congr_left
 intro r _
 exact (other_cnt rs r.2).symm
def partD (n:Int) (x:D):D:=match x with | .int c=>.int (c*(n-c)) | _=>.none
def sndT (x:D):D:=match x with | .tuple [_,b]=>b | _=>x
def sidesT (fs:List (Str×List Str)):Tr->List D->List Str
 | .say _,_=>[]
 | .ask k n v s y m,cs=>sideS fs k n v s cs::(if sideS fs k n v s cs="yes" then sidesT fs y cs else sidesT fs m cs)
section
variable {fs:List (Str×List Str)} {an:List Str}
theorem side_yn (F:Form fs an) {k n v st:Str} {cs:List D} (hq:isQ fs (.tuple [.str k,.str n,.str v])=true) (hst:st="yes"\/st="no") (hc:isCase fs (.tuple cs)=true):sideS fs k n v st cs="yes"\/sideS fs k n v st cs="no":=by
 obtain ⟨f,hf,hfn,hv,hk⟩:=isQ_str hq
 obtain ⟨j,hj⟩:=List.getElem?_of_mem hf
 obtain ⟨hcl,hcv⟩:=case_get hc
 have hjl:=(List.getElem?_eq_some_iff.mp hj).1
 have hcj:cs[j]?=some cs[j]:=List.getElem?_eq_getElem (by omega)
 generalize cs[j]=c at hcj
 rw [sideS_at F hj hcj hfn]
 have hok:=hcv j f c hj hcj
 cases c with
 | none=>exact hst
 | str z =>
  show (if k="is" then (if z=v then ("yes":Str) else "no") else if f.2.idxOf z<=f.2.idxOf v then ("yes":Str) else "no")="yes"\/_
  by_cases h1:k="is"
  ·by_cases h2:z=v
   ·exact .inl (by rw [if_pos h1,if_pos h2])
   ·exact .inr (by show (if k="is" then (if z=v then ("yes":Str) else "no") else if f.2.idxOf z<=f.2.idxOf v then ("yes":Str) else "no")="no";rw [if_pos h1,if_neg h2])
  ·by_cases h2:f.2.idxOf z<=f.2.idxOf v
   ·exact .inl (by rw [if_neg h1,if_pos h2])
   ·exact .inr (by show (if k="is" then (if z=v then ("yes":Str) else "no") else if f.2.idxOf z<=f.2.idxOf v then ("yes":Str) else "no")="no";rw [if_neg h1,if_neg h2])
 | _=>cases hok
end
def there (fs:List (Str×List Str)) (t:Tr) (rs:List (List D×Str)) (pl:List Str) (x:D):Bool:=match x with
 | .int i=>(match L2.atI rs i with | some r=>decide ((sidesT fs t r.1).take pl.length=pl) | none=>false)
 | _=>false
def sp_law:SpT:=fun ds Q=>∃ ns:List Int,ds=[.list (ns.map PyData.int)]/\ns.length<=63/\Q (.bool true)
section
variable {fs:List (Str×List Str)} {an:List Str} {t:Tr} {rs:List (List D×Str)} {pl:List Str}
end
def sp_26:SpC:=fun _ n ds Q=>∃ (fs:List (Str×List Str)) (an:List Str),ds=[frmD fs an]/\Form fs an/\n<800000000000/\∀ n' cs,n'<=n+5->isCase fs (.tuple cs)=true->Q n' (.tuple cs)
def sp_27:SpC:=fun _ n ds Q=>∃ (fs:List (Str×List Str)) (an:List Str) (m:Nat),ds=[frmD fs an,.int m]/\Form fs an/\m<=60/\n<700000000000/\∀ n' rs,n'<=n+10*m->RowsOk fs an rs->rs.length=m->Q n' (.list (rs.map rowD))
def sp_38:SpC:=fun _ n ds Q=>∃ m:Nat,ds=[.int m]/\3<=m/\m<=60/\n<600000000000/\∀ n' fs an rs,n'<=n+1000->Form fs an->RowsOk fs an rs->rs.length<=60->Q n' (.tuple [frmD fs an,.list (rs.map rowD)])
def onY (fs:List (Str×List Str)) (k n v st:Str) (r:List D×Str):Bool:=decide (sideS fs k n v st r.1="yes")
theorem RowsOk.filt {fs:List (Str×List Str)} {an:List Str} {rs:List (List D×Str)} (h:RowsOk fs an rs) (p:List D×Str->Bool):RowsOk fs an (rs.filter p):=fun r hr=>h r (List.mem_filter.mp hr).1
def sp_30:SpT:=fun ds Q=>∃ (fs:List (Str×List Str)) (an:List Str) (k n v st:Str) (rs:List (List D×Str)),ds=[frmD fs an,.tuple [.str k,.str n,.str v],.str st,.list (rs.map rowD)]/\Form fs an/\isQ fs (.tuple [.str k,.str n,.str v])=true/\(st="yes"\/st="no")/\RowsOk fs an rs/\rs.length<=60/\Q (.tuple [.list ((rs.filter (onY fs k n v st)).map rowD),.list ((rs.filter fun r=>!onY fs k n v st r).map rowD)])
def rowNo (rs:List (List D×Str)) (x:D):D:=match x with | .int i=>(match L2.atI rs i with | some r=>rowD r | none=>.none) | _=>.none
theorem atI_app {rs:List (List D×Str)} {r:List D×Str} {i:Nat} (h:i<rs.length):L2.atI (rs++[r]) (i:Int)=L2.atI rs (i:Int):=by
 rw [L2.atI_nat (List.getElem?_eq_getElem h),L2.atI_nat (xs:=rs++[r]) (v:=rs[i]) (by rw [List.getElem?_append_left h];exact List.getElem?_eq_getElem h)]
theorem ix_rows (fs:List (Str×List Str)) (k n v st w:Str):∀ (m:Nat) (rs:List (List D×Str)),rs.length=m->(sideIx fs k n v st rs w).map (rowNo rs)=(rs.filter fun r=>decide (sideS fs k n v st r.1=w)).map rowD
 | 0,rs,h=>by rw [List.length_eq_zero_iff.mp h];rfl
 | m+1,rs,h=>by
  obtain ⟨xs,r,rfl⟩:∃ xs r,rs=xs++[r]:=⟨rs.dropLast,rs.getLast (fun e=>by rw [e] at h;cases h),(List.dropLast_concat_getLast _).symm⟩
  have hl:xs.length=m:=by rw [List.length_append] at h;simpa using h
  have ih:=ix_rows fs k n v st w m xs hl
  unfold sideIx at ih |-
  have e1:intsTo (xs++[r]).length=intsTo xs.length++[.int (xs.length:Int)]:=by
   unfold intsTo
   rw [List.length_append,List.length_singleton,List.range_succ,List.map_append];rfl
  have hat:L2.atI (xs++[r]) (xs.length:Int)=some r:=L2.atI_nat (by rw [List.getElem?_append_right (Nat.le_refl _),Nat.sub_self];rfl)
  have e2:(intsTo xs.length).filter (onSide fs k n v st (xs++[r]) w)=(intsTo xs.length).filter (onSide fs k n v st xs w):=List.filter_congr fun x hx=>by
   obtain ⟨j,hj,rfl⟩:=List.mem_map.mp hx
   show (match L2.atI (xs++[r]) (j:Int) with | some r=>decide (sideS fs k n v st r.1=w) | none=>false)=match L2.atI xs (j:Int) with | some r=>decide (sideS fs k n v st r.1=w) | none=>false
   rw [atI_app (by simpa using hj)]
  have e3:((intsTo xs.length).filter (onSide fs k n v st xs w)).map (rowNo (xs++[r]))=((intsTo xs.length).filter (onSide fs k n v st xs w)).map (rowNo xs):=List.map_congr_left fun x hx=>by
   obtain ⟨j,hj,rfl⟩:=List.mem_map.mp (List.mem_filter.mp hx).1
   show (match L2.atI (xs++[r]) (j:Int) with | some r=>rowD r | none=>.none)=match L2.atI xs (j:Int) with | some r=>rowD r | none=>.none
   rw [atI_app (by simpa using hj)]
  have ho:onSide fs k n v st (xs++[r]) w (.int (xs.length:Int))=decide (sideS fs k n v st r.1=w):=by
   show (match L2.atI (xs++[r]) (xs.length:Int) with | some r=>decide (sideS fs k n v st r.1=w) | none=>false)=_
   rw [hat]
  have hr:rowNo (xs++[r]) (.int (xs.length:Int))=rowD r:=by
   show (match L2.atI (xs++[r]) (xs.length:Int) with | some r=>rowD r | none=>.none)=_
   rw [hat]
  rw [e1,List.filter_append,List.map_append,e2,e3,ih,List.filter_append,List.map_append]
  congr 1
  by_cases hs:sideS fs k n v st r.1=w
  ·rw [List.filter_cons,if_pos (by rw [ho];exact decide_eq_true hs),List.filter_cons,if_pos (decide_eq_true hs)]
   show [rowNo (xs++[r]) (.int (xs.length:Int))]=[rowD r]
   rw [hr]
  ·rw [List.filter_cons,if_neg (by rw [ho,decide_eq_false hs];decide),List.filter_cons,if_neg (by rw [decide_eq_false hs];decide)]
   rfl
def sp_19:SpT:=fun ds Q=>∃ (fs:List (Str×List Str)) (k n v st w:Str) (rs:List (List D×Str)),ds=[.list (rs.map rowD),.list (sideIx fs k n v st rs w)]/\rs.length<=60/\Q (.list ((rs.filter fun r=>decide (sideS fs k n v st r.1=w)).map rowD))
theorem no_side {fs:List (Str×List Str)} {an:List Str} (F:Form fs an) {k n v st:Str} (hq:isQ fs (.tuple [.str k,.str n,.str v])=true) (hst:st="yes"\/st="no") {rs:List (List D×Str)} (hrs:RowsOk fs an rs):(rs.filter fun r=>decide (sideS fs k n v st r.1="no"))=rs.filter fun r=>!onY fs k n v st r:=List.filter_congr fun r hr=>by
 unfold onY
 rcases side_yn F hq hst (hrs r hr).1 with e | e
 ·rw [e];decide +kernel
 ·rw [e];decide +kernel
def sp_31:SpT:=fun ds Q=>∃ (fs:List (Str×List Str)) (an:List Str) (rs:List (List D×Str)),ds=[frmD fs an,.list (rs.map rowD)]/\Form fs an/\RowsOk fs an rs/\rs.length<=60/\Q (.list ((cnts an rs).map PyData.int))
def sp_32:SpT:=sp_1
abbrev Fs:=List (Str×List Str)
abbrev Qn:=Str×Str×Str
abbrev Ch:=Qn×Str
def qD (q:Qn):D:=.tuple [.str q.1,.str q.2.1,.str q.2.2]
def tq (d:D):Qn:=match d with | .tuple [.str k,.str n,.str v]=>(k,n,v) | _=>("","","")
def qs (fs:Fs):List Qn:=(toChoose fs).map tq
theorem qs_data (fs:Fs):(qs fs).map qD=toChoose fs:=by
 unfold qs
 rw [List.map_map]
 have:∀ d∈toChoose fs,(qD ∘ tq) d=id d:=fun d hd=>by
  obtain ⟨f,hf,⟨z,hz,rfl⟩ | ⟨z,hz,hi,rfl⟩⟩:=choose_mem hd<;>rfl
 rw [List.map_congr_left this,List.map_id]
theorem qs_isQ {fs:Fs} {q:Qn} (h:q∈qs fs):isQ fs (.tuple [.str q.1,.str q.2.1,.str q.2.2])=true:=by
 have:qD q∈(qs fs).map qD:=List.mem_map.mpr ⟨q,h,rfl⟩
 rw [qs_data] at this
 exact choose_isQ this
def twoC (q:Qn):List Ch:=[(q,"yes"),(q,"no")]
def chs (fs:Fs):List Ch:=(qs fs).flatMap twoC
theorem chs_ok {fs:Fs} {c:Ch} (h:c∈chs fs):c.1∈qs fs/\(c.2="yes"\/c.2="no"):=by
 obtain ⟨q,hq,hc⟩:=List.mem_flatMap.mp h
 simp only [twoC,List.mem_cons,List.not_mem_nil,or_false] at hc
 rcases hc with rfl | rfl
 ·exact ⟨hq,.inl rfl⟩
 ·exact ⟨hq,.inr rfl⟩
theorem chs_len (fs:Fs):(chs fs).length=2*(toChoose fs).length:=by
 unfold chs qs
 generalize (toChoose fs)=l
 induction l with
 | nil=>rfl
 | cons x l ih =>
  rw [List.map_cons,List.flatMap_cons,List.length_append,ih]
  show 2+_=2*(l.length+1)
  omega
def onC (fs:Fs) (c:Ch) (r:Rw):Bool:=onY fs c.1.1 c.1.2.1 c.1.2.2 c.2 r
abbrev yR (fs:Fs) (c:Ch) (R:List Rw):List Rw:=R.filter (onC fs c)
abbrev nR (fs:Fs) (c:Ch) (R:List Rw):List Rw:=R.filter fun r=>!onC fs c r
def chQ (c:Ch):D:=.tuple [qD c.1,.str c.2]
def sp_10:SpT:=fun ds Q=>∃ (fs:Fs) (an:List Str),ds=[frmD fs an]/\Form fs an/\Q (.list ((chs fs).map chQ))
def sp_28:SpT:=fun ds Q=>∃ (fs:Fs) (an:List Str),ds=[frmD fs an]/\Form fs an/\Q (.list ((qs fs).map qD))
theorem th_int {i:Int} (h0:-999999999999<=i) (h1:i<=999999999999) {m:Nat}:Th 0 m (.int i):=by
 have hz:i.natAbs<10 ^ 12:=by omega
 refine ⟨Nat.le_refl _,?_,?_,rfl,Nat.zero_le _,rfl⟩
 ·have:=PyData.shown_int_le hz
  show decide ((PyData.shown (.int i)).length<=110)=true
  exact decide_eq_true (by omega)
 ·show decide (i.natAbs.log2<1920)=true
  refine decide_eq_true ?_
  by_cases e:i.natAbs=0
  ·rw [e];decide
  ·refine (Nat.log2_lt e).mpr (Nat.lt_of_lt_of_le hz ?_)
   exact Nat.le_trans (show 10 ^ 12<=2 ^ 40 by decide) (Nat.pow_le_pow_right (Nat.le_of_ble_eq_true rfl) (Nat.le_of_ble_eq_true rfl))
theorem th_nat {n:Nat} (h:n<=999999999999) {m:Nat}:Th 0 m (.int (n:Nat)):=th_int (by omega) (by omega)
def midF (f:Str×List Str) (x:D):D:=match x with | .int i=>(match L2.atI (f.2.map PyData.str) i with | some d=>PyData.tuple [.str "upto",.str f.1,d] | none=>.none) | _=>.none
theorem mid_ints {f:Str×List Str} (h:2<=f.2.length):(TL.intsFrom 1 (((f.2.map PyData.str).length:Int)-2-1).toNat).map (midF f)=(qMid f).map (mkQ "upto" f):=by
 have hn:(((f.2.map PyData.str).length:Int)-2-1).toNat=f.2.length-3:=by rw [List.length_map];omega
 rw [hn]
 unfold TL.intsFrom qMid
 apply List.ext_getElem?
 intro m
 rw [List.getElem?_map,List.getElem?_map,List.getElem?_map]
 by_cases hm:m<f.2.length-3
 ·rw [List.getElem?_range hm,List.getElem?_take,if_pos hm,List.getElem?_drop,List.getElem?_eq_getElem (show 1+m<f.2.length by omega)]
  have e:(1:Int)+(m:Int)=((1+m:Nat):Int):=by omega
  unfold midF
  show some (match L2.atI (f.2.map PyData.str) ((1:Int)+(m:Int)) with | some d=>PyData.tuple [.str "upto",.str f.1,d] | none=>.none)=some (mkQ "upto" f (f.2[1+m]'(by omega)))
  rw [e,atI_strs (by omega)];rfl
 ·rw [List.getElem?_eq_none (by rw [List.length_range];omega),List.getElem?_eq_none (by rw [List.length_take,List.length_drop];omega)];rfl
def low (a b:Nat):Nat×Nat:=(a / a.gcd b,b / a.gcd b)
def frL (x:Nat×Nat):D:=.tuple [.int (x.1:Nat),.int (x.2:Nat)]
def dbt (R:List Rw):Nat×Nat:=low (prs R R) (max 1 R.length)
def sumF (x y:Nat×Nat):Nat×Nat:=low (x.1*y.2+y.1*x.2) (x.2*y.2)
def dC (fs:Fs) (R:List Rw) (c:Ch):Nat×Nat:=sumF (dbt (yR fs c R)) (dbt (nR fs c R))
def okC (fs:Fs) (R:List Rw) (m:Int) (c:Ch):Bool:=decide (m<=((yR fs c R).length:Int)) && decide (m<=((nR fs c R).length:Int))
def cand (fs:Fs) (R:List Rw) (m:Int):List Ch:=(chs fs).filter (okC fs R m)
def entC (fs:Fs) (R:List Rw) (c:Ch):D:=.tuple [qD c.1,.str c.2,frL (dC fs R c)]
def botm (l:List (Nat×Nat)):Nat:=l.foldl (fun c x=>c.lcm x.2) 1
def keyN (B:Nat) (x:Nat×Nat):Int:=(x.1:Int)*((B:Int) / (x.2:Int))
def dsL (fs:Fs) (R:List Rw) (m:Int):List (Nat×Nat):=(cand fs R m).map (dC fs R)
def keyL (fs:Fs) (R:List Rw) (m:Int):List Int:=(dsL fs R m).map (keyN (botm (dsL fs R m)))
def entL (fs:Fs) (R:List Rw) (m:Int):List D:=(cand fs R m).map (entC fs R)
def Rkd (fs:Fs) (R:List Rw) (m:Int) (J:List Nat):Prop:=SS.Stb (cand fs R m).length (fun i=>(keyL fs R m).getD i 0) J
def outL (fs:Fs) (R:List Rw) (m:Int) (J:List Nat):List D:=J.map fun i=>(entL fs R m).getD i .none
theorem low_pos {a b:Nat} (h:0<b):0<(low a b).2:=Nat.div_pos (Nat.le_of_dvd h (Nat.gcd_dvd_right a b)) (Nat.gcd_pos_of_pos_right a h)
theorem low_le (a b:Nat):(low a b).1<=a/\(low a b).2<=b:=⟨Nat.div_le_self _ _,Nat.div_le_self _ _⟩
structure Sml (x:Nat×Nat) (a b:Nat):Prop where
 top:x.1<=a
 pos:0<x.2
 bot:x.2<=b
theorem dbt_sml {R:List Rw} (h:R.length<=60):Sml (dbt R) 3600 60:=by
 have h1:=low_le (prs R R) (max 1 R.length)
 have h2:=prs_le R R
 have h3:R.length*R.length<=60*60:=Nat.mul_le_mul h h
 exact ⟨by show (low _ _).1<=_;omega,low_pos (by omega),by show (low _ _).2<=_;omega⟩
theorem sumF_in {x y:Nat×Nat} (hx:Sml x 3600 60) (hy:Sml y 3600 60):x.1*y.2+y.1*x.2<=432000/\x.2*y.2<=3600/\0<x.2*y.2:=by
 have h1:x.1*y.2<=3600*60:=Nat.mul_le_mul hx.top hy.bot
 have h2:y.1*x.2<=3600*60:=Nat.mul_le_mul hy.top hx.bot
 have h3:x.2*y.2<=60*60:=Nat.mul_le_mul hx.bot hy.bot
 exact ⟨by omega,by omega,Nat.mul_pos hx.pos hy.pos⟩
theorem sumF_sml {x y:Nat×Nat} (hx:Sml x 3600 60) (hy:Sml y 3600 60):Sml (sumF x y) 432000 3600:=by
 obtain ⟨h1,h2,h3⟩:=sumF_in hx hy
 have h4:=low_le (x.1*y.2+y.1*x.2) (x.2*y.2)
 exact ⟨Nat.le_trans h4.1 h1,low_pos h3,Nat.le_trans h4.2 h2⟩
theorem dC_sml {fs:Fs} {R:List Rw} (h:R.length<=60) (c:Ch):Sml (dC fs R c) 432000 3600 :=
 sumF_sml (dbt_sml (Nat.le_trans (List.length_filter_le _ _) h)) (dbt_sml (Nat.le_trans (List.length_filter_le _ _) h))
theorem botm_dvd:∀ (l:List (Nat×Nat)) (c:Nat),c ∣ l.foldl (fun c x=>c.lcm x.2) c/\∀ x∈l,x.2 ∣ l.foldl (fun c x=>c.lcm x.2) c
 | [],c=>⟨Nat.dvd_refl _,fun x hx=>by cases hx⟩
 | y::l,c=>by
  obtain ⟨h1,h2⟩:=botm_dvd l (c.lcm y.2)
  refine ⟨Nat.dvd_trans (Nat.dvd_lcm_left _ _) h1,fun x hx=>?_⟩
  rcases List.mem_cons.mp hx with rfl | hx
  ·exact Nat.dvd_trans (Nat.dvd_lcm_right _ _) h1
  ·exact h2 x hx
theorem botm_pos:∀ (l:List (Nat×Nat)) (c:Nat),0<c->(∀ x∈l,0<x.2)->0<l.foldl (fun c x=>c.lcm x.2) c
 | [],c,h,_=>h
 | y::l,c,h,g=>botm_pos l _ (Nat.lcm_pos h (g y (List.mem_cons_self ..))) fun x hx=>g x (List.mem_cons_of_mem _ hx)
theorem keyN_nat {B:Nat} {x:Nat×Nat}:keyN B x=((x.1*(B / x.2):Nat):Int):=by
 unfold keyN
 rw [Int.natCast_mul,Int.natCast_ediv]
theorem keyN_lt {B:Nat} {x y:Nat×Nat} (hB:0<B) (hx:x.2 ∣ B) (hy:y.2 ∣ B) (px:0<x.2) (py:0<y.2):keyN B x<keyN B y↔x.1*y.2<y.1*x.2:=by
 rw [keyN_nat,keyN_nat,Int.ofNat_lt]
 obtain ⟨a,ha⟩:=hx
 obtain ⟨b,hb⟩:=hy
 have ea:B / x.2=a:=by rw [ha];exact Nat.mul_div_cancel_left a px
 have eb:B / y.2=b:=by rw [hb];exact Nat.mul_div_cancel_left b py
 rw [ea,eb]
 have h1:x.1*a*(x.2*y.2)=B*(x.1*y.2):=by rw [ha];simp only [Nat.mul_assoc,Nat.mul_comm,Nat.mul_left_comm]
 have h2:y.1*b*(x.2*y.2)=B*(y.1*x.2):=by rw [hb];simp only [Nat.mul_assoc,Nat.mul_comm,Nat.mul_left_comm]
 have h3:0<x.2*y.2:=Nat.mul_pos px py
 constructor
 ·intro h
  have:=Nat.mul_lt_mul_of_pos_right h h3
  rw [h1,h2] at this
  exact Nat.lt_of_mul_lt_mul_left this
 ·intro h
  have:=Nat.mul_lt_mul_of_pos_left h hB
  rw [<- h1,<- h2] at this
  exact Nat.lt_of_mul_lt_mul_right this
theorem cand_len {fs:Fs} {an:List Str} (F:Form fs an) (R:List Rw) (m:Int):(cand fs R m).length<=100:=by
 have h1:=choose_len F fs fun g hg=>hg
 have h2:=List.length_filter_le (okC fs R m) (chs fs)
 rw [chs_len] at h2
 have n5:=F.n5
 show ((chs fs).filter _).length<=_
 omega
theorem keyL_len (fs:Fs) (R:List Rw) (m:Int):(keyL fs R m).length=(cand fs R m).length:=by unfold keyL dsL;rw [List.length_map,List.length_map]
theorem entL_len (fs:Fs) (R:List Rw) (m:Int):(entL fs R m).length=(cand fs R m).length:=by unfold entL;rw [List.length_map]
theorem keyL_at {fs:Fs} {R:List Rw} {m:Int} {i:Nat} (h:i<(cand fs R m).length):(keyL fs R m).getD i 0=keyN (botm (dsL fs R m)) (dC fs R (cand fs R m)[i]):=by
 unfold keyL
 rw [List.getD_eq_getElem?_getD,List.getElem?_map]
 unfold dsL
 rw [List.getElem?_map,List.getElem?_eq_getElem h];rfl
theorem entL_at {fs:Fs} {R:List Rw} {m:Int} {i:Nat} (h:i<(cand fs R m).length):(entL fs R m).getD i .none=entC fs R (cand fs R m)[i]:=by
 unfold entL
 rw [List.getD_eq_getElem?_getD,List.getElem?_map,List.getElem?_eq_getElem h];rfl
theorem key_lt {fs:Fs} {R:List Rw} {m:Int} (hR:R.length<=60) {i j:Nat} (hi:i<(cand fs R m).length) (hj:j<(cand fs R m).length) :
  (keyL fs R m).getD i 0<(keyL fs R m).getD j 0↔(dC fs R (cand fs R m)[i]).1*(dC fs R (cand fs R m)[j]).2<(dC fs R (cand fs R m)[j]).1*(dC fs R (cand fs R m)[i]).2:=by
 rw [keyL_at hi,keyL_at hj]
 have hp:∀ x∈dsL fs R m,0<x.2:=fun x hx=>by
  obtain ⟨c,_,rfl⟩:=List.mem_map.mp hx
  exact (dC_sml hR c).pos
 have hd:=(botm_dvd (dsL fs R m) 1).2
 exact keyN_lt (botm_pos _ _ (by decide) hp) (hd _ (List.mem_map_of_mem (List.getElem_mem hi))) (hd _ (List.mem_map_of_mem (List.getElem_mem hj))) (dC_sml hR _).pos (dC_sml hR _).pos
theorem len_le_of:∀ (n:Nat) (J:List Nat),J.Nodup->(∀ i∈J,i<n)->J.length<=n
 | 0,J,_,h=>by
  cases J with
  | nil=>exact Nat.le_refl _
  | cons j J=>exact absurd (h j (List.mem_cons_self ..)) (Nat.not_lt_zero _)
 | n+1,J,nd,h=>by
  have h1:=len_le_of n (J.filter (· != n)) (nd.filter _) fun i hi=>by
   obtain ⟨a,b⟩:=List.mem_filter.mp hi
   have:=h i a
   have b':i≠n:=by simpa using b
   omega
  have h2:J.length=(J.filter (· != n)).length+J.count n:=by
   rw [List.count,<- List.countP_eq_length_filter,List.length_eq_countP_add_countP (p:=fun x=>x != n)]
   congr 1
   apply List.countP_congr
   intro x _
   simp
  have h3:=List.nodup_iff_count.mp nd n
  omega
theorem stb_nodup {n:Nat} {k:Nat->Int} {J:List Nat} (h:SS.Stb n k J):J.Nodup:=h.ord.imp fun {a b} q z=>by
 subst z
 omega
theorem stb_all {n:Nat} {k:Nat->Int} {J:List Nat} (h:SS.Stb n k J) {i:Nat} (hi:i<n):i∈J:=by
 by_cases e:i∈J
 ·exact e
 ·have:=len_le_of n (i::J) (List.nodup_cons.mpr ⟨e,stb_nodup h⟩) fun x hx=>by
   rcases List.mem_cons.mp hx with rfl | hx
   ·exact hi
   ·exact h.lt x hx
  rw [List.length_cons,h.len] at this
  omega
def sp_17:SpT:=fun ds Q=>∃ (as bs:List D) (m:Int),ds=[.tuple [.list as,.list bs],.int m]/\Q (.bool (decide (m<=(as.length:Int)) && decide (m<=(bs.length:Int))))
def sp_5:SpT:=fun ds Q=>∃ x y:Nat×Nat,ds=[frL x,frL y]/\Sml x 3600 60/\Sml y 3600 60/\Q (frL (sumF x y))
def sp_7:SpT:=fun ds Q=>∃ l:List (Nat×Nat),ds=[.list (l.map frL)]/\(∀ x∈l,0<x.2/\x.2<=1000000)/\Q (.int (botm l:Nat))
def sp_18:SpF:=fun ds Q=>∃ (fs:Fs) (an:List Str) (rs:List Rw) (m:Int),ds=[frmD fs an,.list (rs.map rowD),.int m]/\Form fs an/\RowsOk fs an rs/\rs.length<=60/\∀ J,Rkd fs rs m J->Q (outL fs rs m J)
def sp_34:SpT:=fun ds Q=>∃ (fs:Fs) (an:List Str) (rs:List Rw),ds=[frmD fs an,.list (rs.map rowD)]/\Form fs an/\RowsOk fs an rs/\rs.length<=60/\Q (frL (dbt rs))
def sp_35:SpT:=fun ds Q=>∃ x y:Nat×Nat,ds=[frL x,frL y]/\x.1<=1000000/\y.1<=1000000/\Q (.bool (decide (x.1*y.2<y.1*x.2)))
def sp_36:SpT:=fun ds Q=>∃ (fs:Fs) (an:List Str) (rs:List Rw) (m:Int),ds=[frmD fs an,.list (rs.map rowD),.int m]/\Form fs an/\RowsOk fs an rs/\rs.length<=60/\∀ J,Rkd fs rs m J->Q (.list (outL fs rs m J))
abbrev LxK (k:Nat->Int) (i j:Nat):Prop:=k i<k j\/(k i=k j/\i<j)
structure Sel (N:Nat) (k:Nat->Int) (ts js:List Nat):Prop where
 lt1:∀ i∈ts,i<N
 lt2:∀ i∈js,i<N
 len:ts.length+js.length=N
 asc:js.Pairwise (·<·)
 ord:ts.Pairwise (LxK k)
 cross:∀ t∈ts,∀ j∈js,LxK k t j
theorem Sel.start (N:Nat) (k:Nat->Int):Sel N k [] (List.range N) where
 lt1:=fun i h=>(List.not_mem_nil h).elim
 lt2:=fun i h=>List.mem_range.mp h
 len:=by simp
 asc:=List.pairwise_lt_range
 ord:=.nil
 cross:=fun t h=>(List.not_mem_nil h).elim
theorem Sel.done {N:Nat} {k:Nat->Int} {ts:List Nat} (h:Sel N k ts []):SS.Stb N k ts:=⟨h.ord,h.lt1,by have:=h.len;simpa using this⟩
structure Fst (k:Nat->Int) (js:List Nat) (n p:Nat):Prop where
 lt:p<js.length
 le:∀ q (hq:q<js.length),q<n->k js[p]<=k js[q]
 st:∀ q (hq:q<js.length),q<p->k js[p]<k js[q]
theorem Sel.next {N:Nat} {k:Nat->Int} {ts js:List Nat} {p:Nat} (h:Sel N k ts js) (f:Fst k js js.length p):Sel N k (ts++[js[p]'f.lt]) (js.eraseIdx p):=by
 have hp:=f.lt
 have mem:∀ x∈js.eraseIdx p,∃ q,∃ hq:q<js.length,q≠p/\x=js[q]:=fun x hx=>by
  obtain ⟨q,hq,h1,h2⟩:=List.mem_eraseIdx_iff_getElem.mp hx
  exact ⟨q,hq,h1,h2.symm⟩
 refine ⟨fun i hi=>?_,fun i hi=>h.lt2 i (List.mem_of_mem_eraseIdx hi),?_,h.asc.sublist (List.eraseIdx_sublist js p),?_,fun t ht j hj=>?_⟩
 ·rcases List.mem_append.mp hi with hi | hi
  ·exact h.lt1 i hi
  ·rw [List.mem_singleton.mp hi];exact h.lt2 _ (List.getElem_mem hp)
 ·rw [List.length_append,List.length_eraseIdx,if_pos hp,List.length_singleton]
  have:=h.len
  omega
 ·rw [List.pairwise_append]
  exact ⟨h.ord,List.pairwise_singleton ..,fun a ha b hb=>by rw [List.mem_singleton.mp hb];exact h.cross a ha _ (List.getElem_mem hp)⟩
 ·rcases List.mem_append.mp ht with ht | ht
  ·exact h.cross t ht j (List.mem_of_mem_eraseIdx hj)
  ·rw [List.mem_singleton.mp ht]
   obtain ⟨q,hq,hne,rfl⟩:=mem j hj
   by_cases c:q<p
   ·exact .inl (f.st q hq c)
   ·have h1:=f.le q hq hq
    have h2:=List.pairwise_iff_getElem.mp h.asc p q hp hq (by omega)
    show k js[p]<k js[q]\/(k js[p]=k js[q]/\js[p]<js[q])
    omega
theorem ent_rg (fs:Fs) (R:List Rw) (m:Int):(List.range (cand fs R m).length).map (fun i=>(entL fs R m).getD i .none)=entL fs R m:=by
 apply List.ext_getElem?
 intro i
 rw [List.getElem?_map]
 by_cases h:i<(cand fs R m).length
 ·rw [List.getElem?_range h]
  show some ((entL fs R m).getD i .none)=_
  rw [List.getD_eq_getElem?_getD,List.getElem?_eq_getElem (by rw [entL_len];exact h)];rfl
 ·rw [List.getElem?_eq_none (by simpa using h),List.getElem?_eq_none (by rw [entL_len];omega)];rfl

theorem th_ent {fs:Fs} {an:List Str} (F:Form fs an) {R:List Rw} (hR:R.length<=60) {c:Ch} (hc:c∈chs fs):Th 90 2 (entC fs R c):=by
 obtain ⟨hq,hs⟩:=chs_ok hc
 have s1:=dC_sml (fs:=fs) hR c
 have a1:=s1.top
 have a2:=s1.bot
 have t1:Th 27 1 (qD c.1):=th_q F (qs_isQ hq)
 have t2:Th 27 1 (.str c.2):=by
  rcases hs with z | z<;>rw [z]<;>exact th_lit (by decide +kernel)
 have t3:Th 27 1 (frL (dC fs R c)):=th_tup 0 0 2 (all_cons (th_nat (by omega)) (all_cons (th_nat (by omega)) all_nil)) (Nat.le_refl _) (by decide) (by decide)
 exact th_tup 27 1 3 (all_cons t1 (all_cons t2 (all_cons t3 all_nil))) (Nat.le_refl _) (by decide) (by decide)
theorem th_ents {fs:Fs} {an:List Str} (F:Form fs an) {R:List Rw} (hR:R.length<=60) (m:Int) (J:List Nat) (hJ:∀ i∈J,i<(cand fs R m).length) (hl:J.length<=100):Th 10000 3 (.list (J.map fun i=>(entL fs R m).getD i .none)):=by
 refine th_lst 90 2 100 (fun t ht=>?_) (by rw [List.length_map];exact hl) (by decide) (by decide)
 obtain ⟨i,hi,rfl⟩:=List.mem_map.mp ht
 show Th 90 2 ((entL fs R m).getD i .none)
 rw [entL_at (hJ i hi)]
 exact th_ent F hR (List.mem_filter.mp (List.getElem_mem (hJ i hi))).1
theorem ints_from_len (i:Int) (n:Nat):(TL.intsFrom i n).length=n:=by unfold TL.intsFrom;simp
theorem ints_from_get {n k:Nat} (h:k<n):(TL.intsFrom 1 n)[k]?=some (.int ((k+1:Nat):Int)):=by
 unfold TL.intsFrom
 rw [List.getElem?_map,List.getElem?_range h]
 show some (PyData.int (1+(k:Int)))=_
 rw [show (1:Int)+(k:Int)=((k+1:Nat):Int) by omega]
theorem map_erase {α β:Type} (f:α->β):∀ (n:Nat) (l:List α),(l.map f).eraseIdx n=(l.eraseIdx n).map f
 | _,[]=>rfl
 | 0,_::_=>rfl
 | n+1,x::l=>by
  show f x::(l.map f).eraseIdx n=_
  rw [map_erase f n l];rfl

theorem set3_set3:∀ (l:List Sl) (a b c x y z:Sl),((((((l.set 0 a).set 1 b).set 2 c).set 0 x).set 1 y).set 2 z)=((l.set 0 x).set 1 y).set 2 z
 | [],_,_,_,_,_,_=>rfl
 | [_],_,_,_,_,_,_=>rfl
 | [_,_],_,_,_,_,_,_=>rfl
 | _::_::_::_,_,_,_,_,_,_=>rfl
theorem lct_map {fr:List (Option Nat)} {ti:IT} {te:ET} {σ:List Sl} {Q:D->Prop} {ts:List D} (hti:Gives' ti σ ts) (f:D->D) (hz:ts.length<=100000) (hp:∀ x∈ts,∃ a b c,x=.tuple [a,b,c]) (ht:∀ (a b c:D) (q:D->Prop),.tuple [a,b,c]∈ts->q (f (.tuple [a,b,c]))->te ((((inBlkT fr σ).set 0 (.val a)).set 1 (.val b)).set 2 (.val c)) q) (hq:Q (.list (ts.map f))):eLc fr ti (gP3 0 1 2) cTrue te σ Q:=by
 refine hti _ ⟨hz,fun k σ' ds=>(∀ x y z,((σ'.set 0 (.val x)).set 1 (.val y)).set 2 (.val z)=(((inBlkT fr σ).set 0 (.val x)).set 1 (.val y)).set 2 (.val z))/\ds=(ts.take k).map f,⟨fun _ _ _=>rfl,rfl⟩,fun k x σ' ds hx h=>?_,fun σ' ds h=>?_⟩
 ·obtain ⟨h1,rfl⟩:=h
  have hm:x∈ts:=List.mem_of_getElem? hx
  obtain ⟨a,b,c,rfl⟩:=hp x hm
  refine ⟨a,b,c,rfl,?_⟩
  show te (((σ'.set 0 (.val a)).set 1 (.val b)).set 2 (.val c)) _
  rw [h1 a b c]
  refine ht a b c _ hm ⟨fun x y z=>set3_set3 _ _ _ _ _ _ _,?_⟩
  rw [List.take_add_one,hx,List.map_append];rfl
 ·obtain ⟨_,rfl⟩:=h
  rw [List.take_length];exact hq
def lessF (x y:Nat×Nat):Bool:=decide (x.1*y.2<y.1*x.2)
def pick1 (fs:Fs) (R:List Rw) (b x:Ch):Ch:=if lessF (dC fs R x) (dC fs R b)=true then x else b
def bst (fs:Fs) (R:List Rw):List Ch->Option Ch
 | []=>none
 | c::l=>some (l.foldl (pick1 fs R) c)
def bestO (fs:Fs) (R:List Rw) (m:Int):Option Ch:=(bst fs R (cand fs R m)).filter fun c=>lessF (dC fs R c) (dbt R)
def optD (fs:Fs) (R:List Rw):Option Ch->D
 | some c=>entC fs R c
 | none=>.none
def IsF (k:Nat->Int) (n p:Nat):Prop:=p<n/\(∀ q,q<n->k p<=k q)/\∀ q,q<p->k p<k q
theorem isF_uniq {k:Nat->Int} {n p q:Nat} (h1:IsF k n p) (h2:IsF k n q):p=q:=by
 rcases Nat.lt_trichotomy p q with z | z | z
 ·have a:=h2.2.2 p z
  have b:=h1.2.1 q h2.1
  omega
 ·exact z
 ·have a:=h1.2.2 q z
  have b:=h2.2.1 p h1.1
  omega
theorem stb_head {n:Nat} {k:Nat->Int} {i:Nat} {J:List Nat} (h:SS.Stb n k (i::J)):IsF k n i:=by
 obtain ⟨a1,a2⟩:=List.pairwise_cons.mp h.ord
 have lo:∀ q,q<n->q≠i->k i<k q\/(k i=k q/\i<q):=fun q hq hne=>by
  rcases List.mem_cons.mp (stb_all h hq) with z | z
  ·exact absurd z hne
  ·exact a1 q z
 refine ⟨h.lt i (List.mem_cons_self ..),fun q hq=>?_,fun q hq=>?_⟩
 ·by_cases e:q=i
  ·rw [e];exact Int.le_refl _
  ·have:=lo q hq e;omega
 ·have hi:=h.lt i (List.mem_cons_self ..)
  have:=lo q (by omega) (by omega)
  omega
theorem bst_is {fs:Fs} {R:List Rw} (hR:R.length<=60) (m:Int):∀ (n:Nat) (hn:n<(cand fs R m).length),∃ p,∃ hp:p<(cand fs R m).length,IsF (fun i=>(keyL fs R m).getD i 0) (n+1) p/\(((cand fs R m).drop 1).take n).foldl (pick1 fs R) ((cand fs R m)[0]'(by omega))=(cand fs R m)[p]
 | 0,hn=>⟨0,by omega,⟨by omega,fun q hq=>by rw [show q=0 by omega];exact Int.le_refl _,fun q hq=>by omega⟩,by rw [List.take_zero];rfl⟩
 | n+1,hn=>by
  obtain ⟨p,hp,⟨h1,h2,h3⟩,he⟩:=bst_is hR m n (Nat.lt_of_succ_lt hn)
  have et:((cand fs R m).drop 1).take (n+1)=((cand fs R m).drop 1).take n++[(cand fs R m)[n+1]]:=by
   rw [List.take_add_one,List.getElem?_drop,Nat.add_comm 1 n,List.getElem?_eq_getElem hn];rfl
  have kl:=key_lt (fs:=fs) (m:=m) hR hn hp
  have key:(((cand fs R m).drop 1).take (n+1)).foldl (pick1 fs R) ((cand fs R m)[0]'(by omega))=pick1 fs R (cand fs R m)[p] (cand fs R m)[n+1]:=by
   rw [et,List.foldl_append,he];rfl
  unfold pick1 lessF at key
  by_cases c:(dC fs R (cand fs R m)[n+1]).1*(dC fs R (cand fs R m)[p]).2<(dC fs R (cand fs R m)[p]).1*(dC fs R (cand fs R m)[n+1]).2
  ·rw [if_pos (decide_eq_true c)] at key
   have kc:=kl.mpr c
   refine ⟨n+1,hn,⟨by omega,fun q hq=>?_,fun q hq=>?_⟩,key⟩
   ·by_cases e:q=n+1
    ·rw [e];exact Int.le_refl _
    ·have:=h2 q (by omega)
     dsimp only at this |-
     omega
   ·have:=h2 q (by omega)
    dsimp only at this |-
    omega
  ·rw [if_neg (by rw [decide_eq_false c];decide)] at key
   have kc:¬ (keyL fs R m).getD (n+1) 0<(keyL fs R m).getD p 0:=fun z=>c (kl.mp z)
   refine ⟨p,hp,⟨by omega,fun q hq=>?_,h3⟩,key⟩
   by_cases e:q=n+1
   ·rw [e];dsimp only;omega
   ·exact h2 q (by omega)
theorem bst_head {fs:Fs} {R:List Rw} (hR:R.length<=60) {m:Int} {i:Nat} {J:List Nat} (h:Rkd fs R m (i::J)):bst fs R (cand fs R m)=some ((cand fs R m)[i]'(h.lt i (List.mem_cons_self ..))):=by
 have hi:=h.lt i (List.mem_cons_self ..)
 have hl:0<(cand fs R m).length:=by omega
 obtain ⟨p,hp,hF,he⟩:=bst_is hR m ((cand fs R m).length-1) (Nat.sub_lt hl Nat.one_pos)
 rw [Nat.sub_add_cancel hl] at hF
 have e:=isF_uniq hF (stb_head h)
 subst e
 have et:((cand fs R m).drop 1).take ((cand fs R m).length-1)=(cand fs R m).drop 1:=List.take_of_length_le (by rw [List.length_drop];exact Nat.le_refl _)
 rw [et] at he
 obtain ⟨a,l,hc⟩:∃ a l,cand fs R m=a::l:=by
  cases hc:cand fs R m with
  | nil=>rw [hc] at hl;cases hl
  | cons a l=>exact ⟨a,l,rfl⟩
 have h0:(cand fs R m)[0]=a:=by simp [hc]
 have h1:(cand fs R m).drop 1=l:=by rw [hc];rfl
 rw [h0,h1] at he
 have hb:bst fs R (cand fs R m)=some (l.foldl (pick1 fs R) a):=by rw [hc];rfl
 rw [hb,he]
theorem bst_nil {fs:Fs} {R:List Rw} {m:Int} (h:Rkd fs R m []):bst fs R (cand fs R m)=none:=by
 have:(cand fs R m).length=0:=by have:=h.len;simpa using this.symm
 rw [List.length_eq_zero_iff.mp this];rfl
theorem bestO_mem {fs:Fs} {R:List Rw} {m:Int} {c:Ch} (h:bestO fs R m=some c):c∈cand fs R m:=by
 unfold bestO at h
 have h1:=Option.filter_eq_some_iff.mp h
 have h2:=h1.1
 cases hc:cand fs R m with
 | nil=>rw [hc] at h2;cases h2
 | cons a l =>
  rw [hc] at h2
  have e:l.foldl (pick1 fs R) a=c:=Option.some.inj h2
  have:∀ (l:List Ch) (a:Ch),l.foldl (pick1 fs R) a∈a::l:=by
   intro l
   induction l with
   | nil=>intro a;exact List.mem_cons_self ..
   | cons x l ih =>
    intro a
    rw [List.foldl_cons]
    rcases List.mem_cons.mp (ih (pick1 fs R a x)) with z | z
    ·rw [z]
     unfold pick1
     split
     ·exact List.mem_cons_of_mem _ (List.mem_cons_self ..)
     ·exact List.mem_cons_self ..
    ·exact List.mem_cons_of_mem _ (List.mem_cons_of_mem _ z)
  rw [<- e];exact this l a
def sp_6:SpT:=fun ds Q=>∃ x y:Nat×Nat,ds=[frL x,frL y]/\x.1<=1000000/\y.1<=1000000/\Q (.bool (lessF x y))
def sp_20:SpT:=fun ds Q=>∃ (fs:Fs) (an:List Str) (rs:List Rw) (m:Int),ds=[frmD fs an,.list (rs.map rowD),.int m]/\Form fs an/\RowsOk fs an rs/\rs.length<=60/\Q (optD fs rs (bestO fs rs m))
def sp_37:SpT:=sp_20
def Gr (fs:Fs) (an:List Str) (m:Int):Nat->List Rw->Tr->Prop
 | 0,R,t=>∃ a,First an R a/\t=.say a
 | d+1,R,t=>match bestO fs R m with
  | none=>∃ a,First an R a/\t=.say a
  | some c=>∃ y n,Gr fs an m d (yR fs c R) y/\Gr fs an m d (nR fs c R) n/\t=.ask c.1.1 c.1.2.1 c.1.2.2 c.2 y n
theorem cnt_perm {R S:List Rw} (h:R.Perm S) (z:Str):cnt R z=cnt S z:=h.countP_eq _
theorem prs_perm {R S:List Rw} (h:R.Perm S):prs R R=prs S S:=by
 unfold prs
 have e:(fun r:Rw=>R.countP fun o=>decide (o.2≠r.2))=fun r:Rw=>S.countP fun o=>decide (o.2≠r.2):=funext fun r=>h.countP_eq _
 rw [e]
 exact (h.map _).sum_nat
theorem dbt_perm {R S:List Rw} (h:R.Perm S):dbt R=dbt S:=by unfold dbt;rw [prs_perm h,h.length_eq]
theorem best_perm {fs:Fs} {R S:List Rw} (h:R.Perm S) (m:Int):bestO fs R m=bestO fs S m:=by
 have e1:dC fs R=dC fs S:=funext fun c=>by unfold dC;rw [dbt_perm (h.filter _),dbt_perm (h.filter (fun r=>!onC fs c r))]
 have e2:okC fs R m=okC fs S m:=funext fun c=>by unfold okC;rw [(h.filter (onC fs c)).length_eq,(h.filter (fun r=>!onC fs c r)).length_eq]
 have e3:pick1 fs R=pick1 fs S:=funext fun b=>funext fun x=>by unfold pick1;rw [e1]
 have e4:∀ l,bst fs R l=bst fs S l:=fun l=>by cases l<;>simp only [bst,e3]
 unfold bestO cand
 rw [e2,e4,e1,dbt_perm h]
theorem first_uniq {an:List Str} {R S:List Rw} (h:R.Perm S) {a b:Str} (h1:First an R a) (h2:First an S b):a=b:=by
 obtain ⟨k,e1,m1,l1⟩:=h1
 obtain ⟨j,e2,m2,l2⟩:=h2
 have ca:=cnt_perm h a
 have cb:=cnt_perm h b
 rcases Nat.lt_trichotomy k j with q | rfl | q
 ·have x:=l2 k a q e1
  have y:=m1 j b e2
  omega
 ·rw [e1] at e2;cases e2;rfl
 ·have x:=l1 j b q e2
  have y:=m2 k a e1
  omega
theorem gr_uniq {fs:Fs} {an:List Str} {m:Int}:∀ (d:Nat) {R S:List Rw} {t u:Tr},R.Perm S->Gr fs an m d R t->Gr fs an m d S u->t=u
 | 0,R,S,t,u,h,⟨a,h1,e1⟩,⟨b,h2,e2⟩=>by rw [e1,e2,first_uniq h h1 h2]
 | d+1,R,S,t,u,h,h1,h2=>by
  unfold Gr at h1 h2
  rw [best_perm h] at h1
  cases e:bestO fs S m with
  | none =>
   rw [e] at h1 h2
   obtain ⟨a,h1,e1⟩:=h1
   obtain ⟨b,h2,e2⟩:=h2
   rw [e1,e2,first_uniq h h1 h2]
  | some c =>
   rw [e] at h1 h2
   obtain ⟨y1,n1,a1,b1,rfl⟩:=h1
   obtain ⟨y2,n2,a2,b2,rfl⟩:=h2
   rw [gr_uniq d (h.filter _) a1 a2,gr_uniq d (h.filter _) b1 b2]
theorem gr_ok {fs:Fs} {an:List Str} {m:Int}:∀ (d:Nat) {R:List Rw} {t:Tr},Gr fs an m d R t->TrOk fs an t/\t.dep<=d
 | 0,R,t,h=>by
  obtain ⟨a,⟨k,e,_⟩,rfl⟩:=h
  exact ⟨List.mem_of_getElem? e,Nat.le_refl _⟩
 | d+1,R,t,h=>by
  unfold Gr at h
  cases e:bestO fs R m with
  | none =>
   rw [e] at h
   obtain ⟨a,⟨k,e,_⟩,rfl⟩:=h
   exact ⟨List.mem_of_getElem? e,Nat.zero_le _⟩
  | some c =>
   rw [e] at h
   obtain ⟨y,n,h1,h2,rfl⟩:=h
   obtain ⟨a1,a2⟩:=gr_ok d h1
   obtain ⟨b1,b2⟩:=gr_ok d h2
   obtain ⟨hq,hs⟩:=chs_ok (List.mem_filter.mp (bestO_mem e)).1
   exact ⟨⟨qs_isQ hq,hs,a1,b1⟩,by show max y.dep n.dep+1<=d+1;omega⟩
def sp_21_lt (dd:Nat):SpT:=fun ds Q=>∃ (fs:Fs) (an:List Str) (rs:List Rw) (d:Nat) (m:Int),ds=[frmD fs an,.list (rs.map rowD),.int d,.int m]/\Form fs an/\RowsOk fs an rs/\rs.length<=60/\d<dd/\∀ t,Gr fs an m d rs t->Q (trD t)
def sp_21:SpT:=sp_21_lt 7
def sp_39_lt (dd:Nat):SpT:=sp_21_lt dd
def sp_39:SpT:=sp_39_lt 7
theorem never_21 {ds:List D} {Q:D->Prop} (h:sp_21_lt 0 ds Q):False:=by
 obtain ⟨fs,an,rs,d,m,e,F,h1,h2,h3,h⟩:=h
 omega
theorem never_39 {ds:List D} {Q:D->Prop} (h:sp_39_lt 0 ds Q):False:=never_21 h
def sp_40:SpC:=fun _ n ds Q=>∃ rs:List Rw,ds=[.list (rs.map rowD)]/\rs.length<=60/\n<600000000000/\∀ (n':Nat) (ss:List Rw),ss.Perm rs->Q n' (.list (ss.map rowD))

end K32

namespace K32
set_option maxHeartbeats 4000000
open PySem L2 TL
section
variable {P:Program} {w:World} {K:PySem.W.Frag} {mg:Str->Option Value} {base:Heap} {A:Adr}
theorem sc_4:FnScope ["one","other","rest"] ["one","other"] (defScope (top 5)):=fsc
theorem ok_4 (T:Txt K mg A):FnOk P w K mg base CX0 1 A.a_4 A.f_4 ["one","other"] (liftSp K sp_4):=by
 refine fnT T.F_4 sc_4 (fun ds Q h=>by obtain ⟨a,b,rfl,h⟩:=h;rfl) fun cdv Ar outer s H E hr ds Q h=>?_
 obtain ⟨a,b,rfl,h⟩:=h
 have nd:=sc_4.nd
 refine ⟨_,(st_cons (st_while (tt_cmp op_gt o_B0 (et_v 1) et_int)
 (st_cons (ss 2 nd (et_op op_mod o_I (et_v 0) (et_v 1)))
 (st_cons (ss 0 nd (et_v 1))
 (st_one (ss 1 nd (et_v 2))))) (fun hc hb=>ps_while PassesOwn.never hc hb))
 (st_one (st_ret (et_v 0)))),?_⟩
 show sSeq _ _ _ [.val (.int a),.val (.int b),.un]
 refine seq_while (fun y σ=>∃ (x:Nat) (s2:Sl),σ=[.val (.int x),.val (.int y),s2]/\x.gcd y=a.gcd b) b ⟨a,_,rfl,rfl⟩ fun y σ' hP=>?_
 obtain ⟨x,s2,rfl,hg⟩:=hP
 refine ⟨decide (0<y),fun q hq=>⟨_,rfl,?_⟩,?_⟩
 ·show q (decide ((y:Int) > 0))
  have:decide ((y:Int) > 0)=decide (0<y):=by rw [decide_eq_decide];omega
  rw [this];exact hq
 by_cases hy:0<y
 ·rw [if_pos (decide_eq_true hy)]
  refine seq_set (.int ((x % y:Nat):Int)) (fun q hq=>⟨_,rfl,_,rfl,(show (0:Int)<(y:Int) by omega),?_⟩) ?_
  ·rw [<- Int.natCast_emod];exact hq
  refine seq_set (.int y) (fun q hq=>⟨_,rfl,hq⟩) ?_
  refine one_set (.int ((x % y:Nat):Int)) (fun q hq=>⟨_,rfl,hq⟩) ⟨x % y,Nat.mod_lt _ hy,y,_,rfl,?_⟩
  rw [<- hg,Nat.gcd_comm x y,Nat.gcd_rec y x,Nat.gcd_comm]
 ·rw [if_neg (by simpa using hy)]
  have hy0:y=0:=by omega
  subst hy0
  rw [Nat.gcd_zero_right] at hg
  subst hg
  exact ⟨_,rfl,h⟩

theorem sc_3:FnScope ["top","bottom","shared"] ["top","bottom"] (defScope (top 4)):=fsc
theorem ok_3 (T:Txt K mg A)
  (F_4:FnOk P w K mg base CX0 1 A.a_4 A.f_4 ["one","other"] (liftSp K sp_4)):FnOk P w K mg base CX0 2 A.a_3 A.f_3 ["top","bottom"] (liftSp K sp_3):=by
 refine fnT T.F_3 sc_3 (fun ds Q h=>by obtain ⟨a,b,rfl,hb,ha2,hb2,h⟩:=h;rfl) fun cdv Ar outer s H E hr ds Q h=>?_
 obtain ⟨a,b,rfl,hb,ha2,hb2,h⟩:=h
 have nd:=sc_3.nd
 refine ⟨_,(st_cons (ss 2 nd (ca F_4 T.m_4 T.k_4 T.d_4 (hr.mono (by decide)) (at_cons (et_v 0) (at_cons (et_v 1) at_nil))))
 (st_one (st_ret (et_tup (at_cons (et_op op_fdivB o_I (et_v 0) (et_v 2)) (at_cons (et_op op_fdivB o_I (et_v 1) (et_v 2)) at_nil)))))),?_⟩
 show sSeq _ _ _ [.val (.int a),.val (.int b),.un]
 refine seq_set (.int ((a.gcd b:Nat):Int)) (fun q hq=>⟨_,rfl,_,rfl,a,b,rfl,hq⟩) ?_
 have hgp:0<a.gcd b:=Nat.gcd_pos_of_pos_right _ hb
 have hgl:a.gcd b<=b:=Nat.gcd_le_right _ hb
 have hd:(0:Int)<((a.gcd b:Nat):Int)/\((a.gcd b:Nat):Int)<2 ^ 200:=⟨by omega,by
  have:(a.gcd b)<2 ^ 190:=Nat.lt_of_le_of_lt hgl hb2
  have h2:(2 ^ 190:Nat)<=2 ^ 200:=Nat.pow_le_pow_right (by decide) (by decide)
  exact_mod_cast Nat.lt_of_lt_of_le this h2⟩
 refine ⟨_,rfl,_,rfl,hd,_,rfl,_,rfl,hd,Nat.le_of_ble_eq_true rfl,?_⟩
 show Q (.tuple [.int ((a:Int) / ((a.gcd b:Nat):Int)),.int ((b:Int) / ((a.gcd b:Nat):Int))])
 rw [<- Int.natCast_ediv,<- Int.natCast_ediv]
 exact h

theorem sc_0:FnScope ["form","rows","told"] ["form","rows"] (defScope (top 1)):=fsc
theorem ok_0 (T:Txt K mg A):FnOk P w K mg base CX0 1 A.a_0 A.f_0 ["form","rows"] (liftSpF K sp_0):=by
 refine fnF T.F_0 sc_0 (fun ds Q h=>by obtain ⟨fs,an,rs,rfl,F,hok,hrl,h⟩:=h;rfl) fun cdv Ar outer s H E hr ds Q h=>?_
 obtain ⟨fs,an,rs,rfl,F,hok,hrl,h⟩:=h
 have nd:=sc_0.nd
 refine ⟨_,(st_cons (ss 2 nd (et_lc (fr:=[none]) (N':=["row"]) (it_val (et_v 1)) (fun b=>⟨(gt_name (pn 0 (show List.Nodup (["row"]:List Str) from by decide +kernel))),if_nil,(et_ix ix_seq o_ix (et_v 0) et_int)⟩) (fun hi hY=>pe_lcc (show lcChk _ (defScope (top 1)) ["form","rows","told"] ["row"] [none]=true from by decide +kernel) rfl hi hY)))
 (st_one (st_retF (ft_lc (fr:=[none,some 2]) (N':=["answer","told"]) (it_val (et_ix ix_seq o_ix (et_v 0) et_int)) (fun b=>⟨(gt_name (pn 0 (show List.Nodup (["answer","told"]:List Str) from by decide +kernel))),if_nil,(et_lcount (et_v 1) (at_cons (et_v 0) at_nil) (fun h ha=>pe_bm PySem.F.plainAttrs_list PySem.F.slot_list_count PySem.F.type_list_count (mt_lcount hr) h ha))⟩) (fun hi hY=>pe_lcc (show lcChk _ (defScope (top 1)) ["form","rows","told"] ["answer","told"] [none,some 2]=true from by decide +kernel) rfl hi hY))))),?_⟩
 show sSeq _ _ _ [.val (frmD fs an),.val (.list (rs.map rowD)),.un]
 have a4:=F.a4
 refine seq_set (.list (rs.map fun r=>PyData.str r.2)) (fun q hq=>?_) ?_
 ·refine lcx_map (ts:=rs.map rowD) (fun R h=>⟨_,rfl,_,rfl,h⟩) sndT (by rw [List.length_map];omega) (fun x q hx hq=>?_) ?_
  ·obtain ⟨r,hr,rfl⟩:=List.mem_map.mp hx
   exact ⟨_,rfl,_,rfl,hq⟩
  ·rw [List.map_map];exact hq
 have ll:=lay_strs (ys:=rs.map fun r=>r.2) fun y hy=>by
  obtain ⟨r,hr,rfl⟩:=List.mem_map.mp hy
  exact F.an.2.1 _ (hok r hr).2
 rw [List.map_map] at ll
 refine fLc_of (lcx_map (ts:=an.map PyData.str) (fun R h=>⟨_,rfl,_,rfl,_,rfl,h⟩) (cntD rs) (by rw [List.length_map];omega) (fun x q hx hq=>?_) ?_)
 ·obtain ⟨a,ha,rfl⟩:=List.mem_map.mp hx
  have hA:=th_name (F.an.2.1 a ha) (n:=8) (m:=0) (Nat.le_refl _)
  refine ⟨_,rfl,_,rfl,_,rfl,_,rfl,⟨ll.1,hA.lay,by have:=hA.depth;omega⟩,?_⟩
  rw [told_count];exact hq
 ·show Q _
  have e:(an.map PyData.str).map (cntD rs)=(cnts an rs).map PyData.int:=by
   unfold cnts
   rw [List.map_map,List.map_map];rfl
  rw [e];exact h

theorem sc_2:FnScope ["form","rows","many"] ["form","rows"] (defScope (top 3)):=fsc
theorem ok_2 (T:Txt K mg A)
  (F_0:FnOk P w K mg base CX0 1 A.a_0 A.f_0 ["form","rows"] (liftSpF K sp_0))
  (F_3:FnOk P w K mg base CX0 2 A.a_3 A.f_3 ["top","bottom"] (liftSp K sp_3)):FnOk P w K mg base CX0 3 A.a_2 A.f_2 ["form","rows"] (liftSp K sp_2):=by
 refine fnT T.F_2 sc_2 (fun ds Q h=>by obtain ⟨fs,an,rs,rfl,F,hok,hrl,h⟩:=h;rfl) fun cdv Ar outer s H E hr ds Q h=>?_
 obtain ⟨fs,an,rs,rfl,F,hok,hrl,h⟩:=h
 have nd:=sc_2.nd
 refine ⟨_,(st_cons (ss 2 nd (et_cb c_len (at_cons (et_v 1) at_nil) (fun h=>pe_callB call_lenAny rfl T.b_len bl_len h)))
 (st_cons (st_if (tt_cmp op_eq o_eq (et_v 2) et_int)
 (st_one (st_ret (et_tup (at_cons et_int (at_cons et_int at_nil)))))
 st_nil)
 (st_one (st_ret (ca F_3 T.m_3 T.k_3 T.d_3 (hr.mono (by decide)) (at_cons (et_cb c_sum (at_cons (et_lc (fr:=[none,some 2]) (N':=["count","many"]) (it_val (et_fr (ft_call F_0 T.m_0 T.k_0 T.d_0 (hr.mono (by decide)) (at_cons (et_v 0) (at_cons (et_v 1) at_nil)) (fun h=>pe_call F_0 (hr.mono (by decide)) rfl T.m_0 T.k_0 T.d_0 .nil pass0 h)))) (fun b=>⟨(gt_name (pn 0 (show List.Nodup (["count","many"]:List Str) from by decide +kernel))),if_nil,(et_op op_mulAny o_mul (et_v 0) (et_op op_sub o_I0 (et_v 1) (et_v 0)))⟩) (fun hi hY=>pe_lcc (show lcChk _ (defScope (top 3)) ["form","rows","many"] ["count","many"] [none,some 2]=true from by decide +kernel) rfl hi hY)) at_nil) (fun h=>pe_callB (call_sum_ints rfl) rfl T.b_sum bl_sum h)) (at_cons (et_v 2) at_nil))))))),?_⟩
 show sSeq _ _ _ [.val (frmD fs an),.val (.list (rs.map rowD)),.un]
 have a4:=F.a4
 refine seq_set (.int (rs.length:Int)) (fun q hq=>⟨_,rfl,?_⟩) ?_
 ·show q (.int ((rs.map rowD).length:Int))
  rw [List.length_map];exact hq
 refine seq_if (fun b=>b=decide ((rs.length:Int)=0)) (fun q hq=>⟨_,rfl,hq _ rfl⟩) (fun hT=>?_) fun hF=>?_
 ·have h0:rs.length=0:=by have:=of_decide_eq_true hT.symm;omega
  have:rs=[]:=List.length_eq_zero_iff.mp h0
  subst this
  have e01:lowD (prs [] []) (max 1 ([]:List Rw).length)=.tuple [.int 0,.int 1]:=by
   show lowD 0 1=_
   unfold lowD
   rw [Nat.gcd_zero_left];rfl
  rw [e01] at h
  exact ⟨Nat.le_of_ble_eq_true rfl,h⟩
 ·try unfold sNext
  dsimp only
  have h0:¬ rs.length=0:=fun z=>by have:=of_decide_eq_false hF.symm;omega
  have em:max 1 rs.length=rs.length:=by omega
  rw [em] at h
  have hpl:=prs_le rs rs
  have hp2:rs.length*rs.length<=60*60:=Nat.mul_le_mul hrl hrl
  have hal:(cnts an rs).length=an.length:=by unfold cnts;rw [List.length_map]
  have hcn:∀ c∈cnts an rs,0<=c/\c<=(rs.length:Int):=fun c hc=>by
   unfold cnts at hc
   obtain ⟨a,_,rfl⟩:=List.mem_map.mp hc
   have:=cnt_le rs a
   omega
  show eCall sp_3 _ _ Q
  dsimp only [eCall,aCons,aNil]
  refine lcx_map (ts:=(cnts an rs).map PyData.int) (fun R h=>⟨_,rfl,_,rfl,fs,an,rs,rfl,F,hok,hrl,_,rfl,h⟩) (partD rs.length) (by rw [List.length_map,hal];omega) (fun x q hx hq=>?_) ?_
  ·obtain ⟨c,hc,rfl⟩:=List.mem_map.mp hx
   have:=hcn c hc
   exact ⟨_,rfl,_,rfl,_,rfl,.inl ⟨by omega,by omega⟩,hq⟩
  ·have e:((cnts an rs).map PyData.int).map (partD rs.length)=((cnts an rs).map fun c=>c*((rs.length:Int)-c)).map PyData.int:=by
    rw [List.map_map,List.map_map];rfl
   rw [e]
   refine ⟨_,rfl,fun n hn=>?_,by rw [List.length_map,hal];omega,?_⟩
   ·obtain ⟨c,hc,rfl⟩:=List.mem_map.mp hn
    have:=hcn c hc
    have h1:0<=c*((rs.length:Int)-c):=Int.mul_nonneg (by omega) (by omega)
    have h2:c*((rs.length:Int)-c)<=60*60:=Int.mul_le_mul (by omega) (by omega) (by omega) (by decide)
    omega
   ·rw [prs_sum F.an.2.2 fun r hr=>(hok r hr).2]
    exact ⟨_,rfl,_,_,rfl,by omega,Nat.lt_of_le_of_lt (show prs rs rs<=3600 by omega) (by decide),Nat.lt_of_le_of_lt (show rs.length<=60 from hrl) (by decide),h⟩

theorem sc_5:FnScope ["one","other"] ["one","other"] (defScope (top 6)):=fsc
theorem ok_5 (T:Txt K mg A)
  (F_3:FnOk P w K mg base CX0 2 A.a_3 A.f_3 ["top","bottom"] (liftSp K sp_3)):FnOk P w K mg base CX0 3 A.a_5 A.f_5 ["one","other"] (liftSp K sp_5):=by
 refine fnT T.F_5 sc_5 (fun ds Q h=>by obtain ⟨x,y,rfl,hx,hy,h⟩:=h;rfl) fun cdv Ar outer s H E hr ds Q h=>?_
 obtain ⟨x,y,rfl,hx,hy,h⟩:=h
 have nd:=sc_5.nd
 refine ⟨_,(st_one (st_ret (ca F_3 T.m_3 T.k_3 T.d_3 (hr.mono (by decide)) (at_cons (et_op op_addAny o_add (et_op op_mulAny o_mul (et_ix ix_seq o_ix (et_v 0) et_int) (et_ix ix_seq o_ix (et_v 1) et_int)) (et_op op_mulAny o_mul (et_ix ix_seq o_ix (et_v 1) et_int) (et_ix ix_seq o_ix (et_v 0) et_int))) (at_cons (et_op op_mulAny o_mul (et_ix ix_seq o_ix (et_v 0) et_int) (et_ix ix_seq o_ix (et_v 1) et_int)) at_nil))))),?_⟩
 show sRet _ _ [.val (frL x),.val (frL y)]
 have x1:=hx.top
 have x2:=hx.bot
 have y1:=hy.top
 have y2:=hy.bot
 obtain ⟨h1,h2,h3⟩:=sumF_in hx hy
 have big:(1000000000000:Nat)<2 ^ 190:=by decide +kernel
 have e:[PyData.int ((x.1:Int)*(y.2:Int)+(y.1:Int)*(x.2:Int)),.int ((x.2:Int)*(y.2:Int))]=[.int ((x.1*y.2+y.1*x.2:Nat):Int),.int ((x.2*y.2:Nat):Int)]:=by
  rw [Int.natCast_add,Int.natCast_mul,Int.natCast_mul,Int.natCast_mul]
 refine ⟨_,rfl,_,rfl,_,rfl,_,rfl,.inl ⟨by omega,by omega⟩,_,rfl,_,rfl,_,rfl,_,rfl,.inl ⟨by omega,by omega⟩,_,rfl,_,rfl,_,rfl,_,rfl,.inl ⟨by omega,by omega⟩,_,_,e,h3,by omega,by omega,h⟩

theorem sc_7:FnScope ["fractions","common","found"] ["fractions"] (defScope (top 8)):=fsc
theorem ok_7 (T:Txt K mg A)
  (F_4:FnOk P w K mg base CX0 1 A.a_4 A.f_4 ["one","other"] (liftSp K sp_4)):FnOk P w K mg base CX0 2 A.a_7 A.f_7 ["fractions"] (liftSp K sp_7):=by
 refine fnT T.F_7 sc_7 (fun ds Q h=>by obtain ⟨l,rfl,hl,h⟩:=h;rfl) fun cdv Ar outer s H E hr ds Q h=>?_
 obtain ⟨l,rfl,hl,h⟩:=h
 have nd:=sc_7.nd
 refine ⟨_,(st_cons (ss 1 nd et_int)
 (st_cons (st_for (it_val (et_v 0)) (gt_name (pn 2 nd))
 (st_one (ss 1 nd (et_op op_fdiv o_I (et_op op_mulAny o_mul (et_v 1) (et_ix ix_seq o_ix (et_v 2) et_int)) (ca F_4 T.m_4 T.k_4 T.d_4 (hr.mono (by decide)) (at_cons (et_v 1) (at_cons (et_ix ix_seq o_ix (et_v 2) et_int) at_nil)))))) (fun hi hg hb=>ps_for PassesOwn.never rfl hi hg hb))
 (st_one (st_ret (et_v 1))))),?_⟩
 show sSeq _ _ _ [.val (.list (l.map frL)),.un,.un]
 refine seq_set (.int 1) (fun q hq=>hq) ?_
 refine seq_for (ts:=l.map frL) (fun R h=>⟨_,rfl,_,rfl,h⟩)
  (fun k σ=>∃ s2:Sl,σ=[.val (.list (l.map frL)),.val (.int ((botm (l.take k):Nat):Int)),s2]) ⟨_,rfl⟩ (fun k x σ' hx hP=>?_) fun σ' hP=>?_
 ·obtain ⟨s2,rfl⟩:=hP
  rw [List.getElem?_map] at hx
  obtain ⟨y,hy,rfl⟩:=Option.map_eq_some_iff.mp hx
  obtain ⟨y1,y2⟩:=hl y (List.mem_of_getElem? hy)
  have hg:(botm (l.take k)).gcd y.2<=y.2:=Nat.le_of_dvd y1 (Nat.gcd_dvd_right _ _)
  have hg0:0<(botm (l.take k)).gcd y.2:=Nat.gcd_pos_of_pos_right _ y1
  have eb:botm (l.take (k+1))=(botm (l.take k)).lcm y.2:=by
   unfold botm
   rw [List.take_add_one,hy,List.foldl_append];rfl
  refine one_set (.int ((botm (l.take (k+1)):Nat):Int)) (fun q hq=>⟨_,rfl,_,rfl,_,rfl,.inr ⟨by omega,by omega⟩,_,rfl,_,rfl,_,rfl,_,_,rfl,⟨by omega,by omega⟩,?_⟩) ⟨_,rfl⟩
  rw [eb] at hq
  have e2:((botm (l.take k):Nat):Int)*(y.2:Int) / (((botm (l.take k)).gcd y.2:Nat):Int)=(((botm (l.take k)).lcm y.2:Nat):Int):=by
   rw [<- Int.natCast_mul,<- Int.natCast_ediv];rfl
  rw [e2];exact hq
 ·obtain ⟨s2,rfl⟩:=hP
  rw [List.length_map,List.take_length]
  exact ⟨_,rfl,h⟩

theorem sc_9:FnScope ["field","name","values","told_by_is","told_by_upto"] ["field"] (defScope (top 12)):=fsc
theorem ok_9 (T:Txt K mg A):FnOk P w K mg base CX0 1 A.a_9 A.f_9 ["field"] (liftSpF K sp_9):=by
 refine fnF T.F_9 sc_9 (fun ds Q h=>by obtain ⟨f,rfl,h2,h5,h⟩:=h;rfl) fun cdv Ar outer s H E hr ds Q h=>?_
 obtain ⟨f,rfl,h2,h5,h⟩:=h
 have nd:=sc_9.nd
 refine ⟨_,(st_cons (ss 1 nd (et_ix ix_seq o_ix (et_v 0) et_int))
 (st_cons (ss 2 nd (et_ix ix_seq o_ix (et_v 0) et_int))
 (st_cons (ss 3 nd (et_if (tt_cmp op_eq o_eq (et_cb c_len (at_cons (et_v 2) at_nil) (fun h=>pe_callB call_lenAny rfl T.b_len bl_len h)) et_int) (et_slice sl_any o_sl (et_v 2) ot_none (ot_some et_int)) (et_v 2)))
 (st_cons (ss 4 nd (et_slice sl_any o_sl (et_v 2) (ot_some et_int) (ot_some (et_neg et_int))))
 (st_one (st_retF (ft_add (et_lc (fr:=[none,some 1]) (N':=["value","name"]) (it_val (et_v 3)) (fun b=>⟨(gt_name (pn 0 (show List.Nodup (["value","name"]:List Str) from by decide +kernel))),if_nil,(et_tup (at_cons et_str (at_cons (et_v 1) (at_cons (et_v 0) at_nil))))⟩) (fun hi hY=>pe_lcc (show lcChk _ (defScope (top 12)) ["field","name","values","told_by_is","told_by_upto"] ["value","name"] [none,some 1]=true from by decide +kernel) rfl hi hY)) (et_lc (fr:=[none,some 1]) (N':=["value","name"]) (it_val (et_v 4)) (fun b=>⟨(gt_name (pn 0 (show List.Nodup (["value","name"]:List Str) from by decide +kernel))),if_nil,(et_tup (at_cons et_str (at_cons (et_v 1) (at_cons (et_v 0) at_nil))))⟩) (fun hi hY=>pe_lcc (show lcChk _ (defScope (top 12)) ["field","name","values","told_by_is","told_by_upto"] ["value","name"] [none,some 1]=true from by decide +kernel) rfl hi hY))))))))),?_⟩
 show sSeq _ _ _ [.val (fldD f),.un,.un,.un,.un]
 refine seq_set (.str f.1) (fun q hq=>⟨_,rfl,_,rfl,hq⟩) ?_
 refine seq_set (.tuple (f.2.map PyData.str)) (fun q hq=>⟨_,rfl,_,rfl,hq⟩) ?_
 refine seq_set (.tuple ((qSel f).map PyData.str)) (fun q hq=>⟨_,rfl,?_⟩) ?_
 ·show (if decide (((f.2.map PyData.str).length:Int)=2)=true then _ else _)
  unfold qSel at hq
  rw [List.length_map]
  by_cases e:f.2.length=2
  ·rw [if_pos (decide_eq_true (by omega))]
   rw [if_pos e] at hq
   refine ⟨_,rfl,?_⟩
   show q (.tuple (cutD (f.2.map PyData.str) none (some 1)))
   rw [cut_map,cut_one _ h2];exact hq
  ·rw [if_neg (by simpa using (by omega:¬ (f.2.length:Int)=2))]
   rw [if_neg e] at hq
   exact ⟨_,rfl,hq⟩
 refine seq_set (.tuple ((qMid f).map PyData.str)) (fun q hq=>⟨_,rfl,?_⟩) ?_
 ·show q (.tuple (cutD (f.2.map PyData.str) (some 1) (some (-2))))
  rw [cut_map,cut_mid _ h2];exact hq
 have s5:(qSel f).length<=5:=by
  unfold qSel
  split
  ·rw [List.length_take];omega
  ·omega
 have m5:(qMid f).length<=5:=by
  unfold qMid
  rw [List.length_take,List.length_drop];omega
 dsimp only [sRetF,fAddL]
 refine lcx_map (ts:=(qSel f).map PyData.str) (fun R h=>⟨_,rfl,_,rfl,h⟩) (fun x=>.tuple [.str "is",.str f.1,x]) (by rw [List.length_map];omega) (fun x q hx hq=>⟨_,rfl,_,rfl,Nat.le_of_ble_eq_true rfl,hq⟩) ?_
 refine lcx_map (ts:=(qMid f).map PyData.str) (fun R h=>⟨_,rfl,_,rfl,h⟩) (fun x=>.tuple [.str "upto",.str f.1,x]) (by rw [List.length_map];omega) (fun x q hx hq=>⟨_,rfl,_,rfl,Nat.le_of_ble_eq_true rfl,hq⟩) ?_
 refine ⟨_,_,rfl,rfl,by simp only [List.length_map];omega,?_⟩
 rw [List.map_map,List.map_map]
 exact h

theorem sc_8:FnScope ["form","questions","field"] ["form"] (defScope (top 11)):=fsc
theorem ok_8 (T:Txt K mg A)
  (F_9:FnOk P w K mg base CX0 1 A.a_9 A.f_9 ["field"] (liftSpF K sp_9)):FnOk P w K mg base CX0 2 A.a_8 A.f_8 ["form"] (liftSpF K sp_8):=by
 refine fnF T.F_8 sc_8 (fun ds Q h=>by obtain ⟨fs,an,rfl,F,h⟩:=h;rfl) fun cdv Ar outer s H E hr ds Q h=>?_
 obtain ⟨fs,an,rfl,F,h⟩:=h
 have nd:=sc_8.nd
 refine ⟨_,(st_cons (st_own (i:=1) at_nil (fun h=>ps_set (i:=1) nd rfl (by first | exact Or.inl rfl | exact Or.inr rfl) h))
 (st_cons (st_for (it_val (et_ix ix_seq o_ix (et_v 0) et_int)) (gt_name (pn 2 nd))
 (st_one (st_extL (i:=1) (pv 1) (et_fr (ft_call F_9 T.m_9 T.k_9 T.d_9 (hr.mono (by decide)) (at_cons (et_v 2) at_nil) (fun h=>pe_call F_9 (hr.mono (by decide)) rfl T.m_9 T.k_9 T.d_9 .nil pass0 h))) (pb:=fun h=>ps_expr (pe_bm PySem.F.plainAttrs_list PySem.F.slot_list_extend PySem.F.type_list_extend mt_extL (pv 1) h)))) (fun hi hg hb=>ps_for PassesOwn.never rfl hi hg hb))
 (st_one (st_retOwn (pv 1))))),?_⟩
 show sSeq _ _ _ [.val (frmD fs an),.un,.un]
 have n5:=F.n5
 refine seq_own [] (by decide) (fun q hq=>hq) ?_
 refine seq_for (ts:=fs.map fldD) (fun R h=>⟨_,rfl,_,rfl,_,rfl,h⟩)
  (fun k σ=>∃ s2:Sl,σ=[.val (frmD fs an),.own (toChoose (fs.take k)),s2]) ⟨_,rfl⟩ (fun k x σ' hx hP=>?_) fun σ' hP=>?_
 ·obtain ⟨s2,rfl⟩:=hP
  rw [List.getElem?_map] at hx
  obtain ⟨f,hfk,rfl⟩:=Option.map_eq_some_iff.mp hx
  have hf:f∈fs:=List.mem_of_getElem? hfk
  obtain ⟨v2,v5,hvv⟩:=F.vs f hf
  have hcl:=choose_len F (fs.take k) fun g hg=>List.mem_of_mem_take hg
  have hkl:(fs.take k).length<=5:=by rw [List.length_take];omega
  have hql:(qOf f).length<=10:=by
   unfold qOf qSel qMid
   rw [List.length_append,List.length_map,List.length_map,List.length_take,List.length_drop]
   split
   ·rw [List.length_take];omega
   ·omega
  refine one_extL (ts:=toChoose (fs.take k)) (us:=qOf f) rfl (by omega) (fun q hq=>⟨_,rfl,f,rfl,v2,v5,hq⟩) ⟨.val (fldD f),?_⟩
  have e:toChoose (fs.take (k+1))=toChoose (fs.take k)++qOf f:=by
   unfold toChoose
   rw [List.take_add_one,hfk,List.map_append,List.flatten_append]
   show _++[qOf f].flatten=_
   rw [List.flatten_singleton]
  rw [e];rfl
 ·obtain ⟨s2,rfl⟩:=hP
  rw [List.length_map,List.take_length]
  exact ⟨_,rfl,h⟩

theorem sc_10:FnScope ["form","choices","question"] ["form"] (defScope (top 13)):=fsc
theorem ok_10 (T:Txt K mg A)
  (F_8:FnOk P w K mg base CX0 2 A.a_8 A.f_8 ["form"] (liftSpF K sp_8)):FnOk P w K mg base CX0 3 A.a_10 A.f_10 ["form"] (liftSp K sp_10):=by
 refine fnT T.F_10 sc_10 (fun ds Q h=>by obtain ⟨fs,an,rfl,F,h⟩:=h;rfl) fun cdv Ar outer s H E hr ds Q h=>?_
 obtain ⟨fs,an,rfl,F,h⟩:=h
 have nd:=sc_10.nd
 refine ⟨_,(st_cons (st_own (i:=1) at_nil (fun h=>ps_set (i:=1) nd rfl (by first | exact Or.inl rfl | exact Or.inr rfl) h))
 (st_cons (st_for (it_val (et_fr (ft_call F_8 T.m_8 T.k_8 T.d_8 (hr.mono (by decide)) (at_cons (et_v 0) at_nil) (fun h=>pe_call F_8 (hr.mono (by decide)) rfl T.m_8 T.k_8 T.d_8 .nil pass0 h)))) (gt_name (pn 2 nd))
 (st_one (st_extL (i:=1) (pv 1) (et_lc (fr:=[none,some 2]) (N':=["stray","question"]) (it_val (et_gtup rfl T.c_SIDES T.t_SIDES)) (fun b=>⟨(gt_name (pn 0 (show List.Nodup (["stray","question"]:List Str) from by decide +kernel))),if_nil,(et_tup (at_cons (et_v 1) (at_cons (et_v 0) at_nil)))⟩) (fun hi hY=>pe_lcc (show lcChk _ (defScope (top 13)) ["form","choices","question"] ["stray","question"] [none,some 2]=true from by decide +kernel) rfl hi hY)) (pb:=fun h=>ps_expr (pe_bm PySem.F.plainAttrs_list PySem.F.slot_list_extend PySem.F.type_list_extend mt_extL (pv 1) h)))) (fun hi hg hb=>ps_for PassesOwn.never rfl hi hg hb))
 (st_share 1 (st_one (st_ret (et_v 1)))))),?_⟩
 show sSeq _ _ _ [.val (frmD fs an),.un,.un]
 have n5:=F.n5
 have hcl:=choose_len F fs fun g hg=>hg
 have hql:(qs fs).length=(toChoose fs).length:=by rw [<- qs_data,List.length_map]
 refine seq_own [] (by decide) (fun q hq=>hq) ?_
 refine seq_for (ts:=(qs fs).map qD) (fun R h=>⟨_,rfl,fs,an,rfl,F,_,rfl,by rw [<- qs_data];exact h⟩)
  (fun k σ=>∃ s2:Sl,σ=[.val (frmD fs an),.own ((((qs fs).take k).flatMap twoC).map chQ),s2]) ⟨_,rfl⟩ (fun k x σ' hx hP=>?_) fun σ' hP=>?_
 ·obtain ⟨s2,rfl⟩:=hP
  rw [List.getElem?_map] at hx
  obtain ⟨q,hqk,rfl⟩:=Option.map_eq_some_iff.mp hx
  have hlen:((((qs fs).take k).flatMap twoC).map chQ).length=2*((qs fs).take k).length:=by
   rw [List.length_map]
   generalize (qs fs).take k=l
   induction l with
   | nil=>rfl
   | cons x l ih=>rw [List.flatMap_cons,List.length_append,ih,List.length_cons];show 2+_=_;omega
  have hk2:((qs fs).take k).length<=50:=by rw [List.length_take];omega
  refine one_extL (us:=[chQ (q,"yes"),chQ (q,"no")]) rfl (by rw [hlen];show _+2<=_;omega) (fun r hr=>?_) ⟨.val (qD q),?_⟩
  ·refine lcx_map (ts:=[.str "yes",.str "no"]) (fun R h=>⟨_,rfl,h⟩) (fun x=>.tuple [qD q,x]) (by decide) (fun x r' hx hr'=>⟨_,rfl,_,rfl,(Nat.le_of_ble_eq_true rfl),hr'⟩) hr
  ·rw [List.take_add_one,hqk]
   show _=[_,Sl.own (((((qs fs).take k)++[q]).flatMap twoC).map chQ),_]
   rw [List.flatMap_append,List.map_append];rfl
 ·obtain ⟨s2,rfl⟩:=hP
  rw [List.length_map,List.take_length]
  exact ⟨_,rfl,_,rfl,h⟩

theorem sc_14:FnScope ["question","field"] ["question","field"] (defScope (top 17)):=fsc
theorem ok_14 (T:Txt K mg A):FnOk P w K mg base CX0 1 A.a_14 A.f_14 ["question","field"] (liftSp K sp_14):=by
 refine fnT T.F_14 sc_14 (fun ds Q h=>by obtain ⟨k,n,v,f,rfl,hn,hv,hl,h⟩:=h;rfl) fun cdv Ar outer s H E hr ds Q h=>?_
 obtain ⟨k,n,v,f,rfl,hn,hv,hl,h⟩:=h
 have nd:=sc_14.nd
 refine ⟨_,(st_cons (st_if (tt_cmp op_eq o_eq (et_ix ix_seq o_ix (et_v 0) et_int) et_str)
 (st_one (st_ret (et_tup (at_cons (et_ix ix_seq o_ix (et_v 0) et_int) at_nil))))
 st_nil)
 (st_one (st_ret (et_slice sl_any o_sl (et_ix ix_seq o_ix (et_v 1) et_int) ot_none (ot_some (et_op op_addAny o_add (et_index (et_ix ix_seq o_ix (et_v 1) et_int) (at_cons (et_ix ix_seq o_ix (et_v 0) et_int) at_nil) (fun h ha=>pe_bm PySem.F.plainAttrs_tuple PySem.F.slot_tuple_index PySem.F.type_tuple_index (mt_index hr) h ha)) et_int)))))),?_⟩
 show sSeq _ _ _ [.val (.tuple [.str k,.str n,.str v]),.val (fldD f)]
 unfold held at h
 refine seq_if (fun b=>b=decide (k="is")) (fun q hq=>⟨_,rfl,_,rfl,hq _ rfl⟩) (fun hT=>?_) fun hF=>?_
 ·rw [if_pos (of_decide_eq_true hT.symm)] at h
  exact ⟨_,rfl,_,rfl,Nat.le_of_ble_eq_true rfl,h⟩
 ·try unfold sNext
  dsimp only
  rw [if_neg (of_decide_eq_false hF.symm)] at h
  refine ⟨_,rfl,_,rfl,_,rfl,_,rfl,_,rfl,_,rfl,_,rfl,_,_,rfl,okIx_strs hn hv,?_⟩
  show Q (.tuple (cutD (f.2.map PyData.str) none (some ((f.2.idxOf v:Int)+1))))
  have e:((f.2.idxOf v:Nat):Int)+1=((f.2.idxOf v+1:Nat):Int):=rfl
  rw [e,cut_map,cut_ns];exact h

theorem sc_12:FnScope ["form","question"] ["form","question"] (defScope (top 15)):=fsc
theorem ok_12 (T:Txt K mg A):FnOk P w K mg base CX0 1 A.a_12 A.f_12 ["form","question"] (liftSp K sp_12):=by
 refine fnT T.F_12 sc_12 (fun ds Q h=>by obtain ⟨fs,an,k,n,v,f0,j,rfl,F,hj,hfn,h⟩:=h;rfl) fun cdv Ar outer s H E hr ds Q h=>?_
 obtain ⟨fs,an,k,n,v,f0,j,rfl,F,hj,hfn,h⟩:=h
 have nd:=sc_12.nd
 refine ⟨_,(st_one (st_ret (et_lindex (et_lc (fr:=[none]) (N':=["field"]) (it_val (et_ix ix_seq o_ix (et_v 0) et_int)) (fun b=>⟨(gt_name (pn 0 (show List.Nodup (["field"]:List Str) from by decide +kernel))),if_nil,(et_ix ix_seq o_ix (et_v 0) et_int)⟩) (fun hi hY=>pe_lcc (show lcChk _ (defScope (top 15)) ["form","question"] ["field"] [none]=true from by decide +kernel) rfl hi hY)) (at_cons (et_ix ix_seq o_ix (et_v 1) et_int) at_nil) (fun h ha=>pe_bm PySem.F.plainAttrs_list PySem.F.slot_list_index PySem.F.type_list_index (mt_lindex hr) h ha)))),?_⟩
 have n5:=F.n5
 have hjl:=(List.getElem?_eq_some_iff.mp hj).1
 have ej:(fs.map (·.1)).idxOf n=j:=by rw [<- hfn];exact name_at F hj
 have hnm:n∈fs.map (·.1):=List.mem_map.mpr ⟨f0,List.mem_of_getElem? hj,hfn⟩
 show eLIndex _ _ _ Q
 dsimp only [eLIndex]
 refine lcx_map (ts:=fs.map fldD) (fun R h=>⟨_,rfl,_,rfl,_,rfl,h⟩) fst (by rw [List.length_map];omega) (fun x q hx hq=>?_) ?_
 ·obtain ⟨f,hf,rfl⟩:=List.mem_map.mp hx
  exact ⟨_,rfl,_,rfl,hq⟩
 ·have e:(fs.map fldD).map fst=(fs.map (·.1)).map PyData.str:=by rw [List.map_map,List.map_map];rfl
  rw [e]
  have:=okIx_strs F.nd.2.1 hnm
  rw [ej] at this
  exact ⟨_,rfl,_,rfl,_,rfl,_,j,rfl,this,by omega,h⟩

theorem sc_13:FnScope ["question","stray","field"] ["question","stray","field"] (defScope (top 16)):=fsc
theorem ok_13 (T:Txt K mg A)
  (F_14:FnOk P w K mg base CX0 1 A.a_14 A.f_14 ["question","field"] (liftSp K sp_14)):FnOk P w K mg base CX0 2 A.a_13 A.f_13 ["question","stray","field"] (liftSp K sp_13):=by
 refine fnT T.F_13 sc_13 (fun ds Q h=>by obtain ⟨k,n,v,st,f,rfl,hn,hv,hl,h⟩:=h;rfl) fun cdv Ar outer s H E hr ds Q h=>?_
 obtain ⟨k,n,v,st,f,rfl,hn,hv,hl,h⟩:=h
 have nd:=sc_13.nd
 refine ⟨_,(st_one (st_ret (et_op op_addAny o_add (ca F_14 T.m_14 T.k_14 T.d_14 (hr.mono (by decide)) (at_cons (et_v 0) (at_cons (et_v 2) at_nil))) (et_if (tt_cmp op_eq o_eq (et_v 1) et_str) (et_tup (at_cons et_non at_nil)) (et_tup at_nil))))),?_⟩
 have hhl:=held_len (k:=k) (v:=v) hl
 refine ⟨_,rfl,_,rfl,k,n,v,f,rfl,hn,hv,hl,_,rfl,?_⟩
 unfold toYes at h
 show (if decide (st="yes")=true then _ else _)
 by_cases e:st="yes"
 ·rw [if_pos (decide_eq_true e)]
  rw [if_pos e] at h
  exact ⟨Nat.le_of_ble_eq_true rfl,by rw [List.length_map];show _+1<=_;omega,h⟩
 ·rw [if_neg (by simpa using e)]
  rw [if_neg e] at h
  exact ⟨Nat.le_of_ble_eq_true rfl,by rw [List.length_map];show _+0<=_;omega,h⟩

theorem sc_11:FnScope ["form","question","stray","case","number"] ["form","question","stray","case"] (defScope (top 14)):=fsc
theorem ok_11 (T:Txt K mg A)
  (F_13:FnOk P w K mg base CX0 2 A.a_13 A.f_13 ["question","stray","field"] (liftSp K sp_13))
  (F_12:FnOk P w K mg base CX0 1 A.a_12 A.f_12 ["form","question"] (liftSp K sp_12)):FnOk P w K mg base CX0 3 A.a_11 A.f_11 ["form","question","stray","case"] (liftSp K sp_11):=by
 refine fnT T.F_11 sc_11 (fun ds Q h=>by obtain ⟨fs,an,k,n,v,st,cs,rfl,F,hq,hst,hc,h⟩:=h;rfl) fun cdv Ar outer s H E hr ds Q h=>?_
 obtain ⟨fs,an,k,n,v,st,cs,rfl,F,hq,hst,hc,h⟩:=h
 have nd:=sc_11.nd
 refine ⟨_,(st_cons (ss 4 nd (ca F_12 T.m_12 T.k_12 T.d_12 (hr.mono (by decide)) (at_cons (et_v 0) (at_cons (et_v 1) at_nil))))
 (st_one (st_ret (et_if (tt_cmp (op_in2 hr) o_in2 (et_ix ix_seq o_ix (et_v 3) (et_v 4)) (ca F_13 T.m_13 T.k_13 T.d_13 (hr.mono (by decide)) (at_cons (et_v 1) (at_cons (et_v 2) (at_cons (et_ix ix_seq o_ix (et_ix ix_seq o_ix (et_v 0) et_int) (et_v 4)) at_nil))))) et_str et_str)))),?_⟩
 show sSeq _ _ _ [.val (frmD fs an),.val (.tuple [.str k,.str n,.str v]),.val (.str st),.val (.tuple cs),.un]
 obtain ⟨hcl,hcv⟩:=case_get hc
 obtain ⟨f0,hf0,hfn,hv0,hk0⟩:=isQ_str hq
 obtain ⟨j,hj⟩:=List.getElem?_of_mem hf0
 have hjl:=(List.getElem?_eq_some_iff.mp hj).1
 have hcj:cs[j]?=some cs[j]:=List.getElem?_eq_getElem (by omega)
 generalize hcc:cs[j]=c at hcj
 have hca:L2.atI cs (j:Int)=some c:=L2.atI_nat hcj
 have hfa:L2.atI (fs.map fldD) (j:Int)=some (fldD f0):=L2.atI_nat (by rw [List.getElem?_map,hj];rfl)
 have hok:=hcv j f0 c hj hcj
 rw [sideS_at F hj hcj hfn] at h
 have hcd:Cd c:=by
  cases c with
  | none=>exact (th_none (n:=8) (m:=0)).cd (by decide)
  | str z=>exact (th_name (F.vals hf0 z (of_decide_eq_true hok)) (n:=8) (m:=0) (Nat.le_refl _)).cd (by decide)
  | _=>cases hok
 refine seq_set (.int (j:Int)) (fun q hq=>⟨_,rfl,_,rfl,fs,an,k,n,v,f0,j,rfl,F,hj,hfn,hq⟩) ?_
 refine ⟨_,rfl,_,rfl,_,hca,_,rfl,_,rfl,_,rfl,_,rfl,_,rfl,_,hfa,k,n,v,st,f0,rfl,F.vals hf0,hv0,(F.vs f0 hf0).2.1,fIn2_tup (ok_toYes (F.vals hf0) hv0 hcd) ?_⟩
 rw [<- in_toYes hst hok] at h
 show (if inD c (.tuple (toYes k v st f0))=true then _ else _)
 cases hb:inD c (.tuple (toYes k v st f0)) with
 | true=>rw [if_pos rfl];rw [hb,if_pos rfl] at h;exact h
 | false=>rw [if_neg (by decide)];rw [hb,if_neg (by decide)] at h;exact h

theorem sc_16:FnScope ["side","sides"] ["side","sides"] (defScope (top 19)):=fsc
theorem ok_16 (T:Txt K mg A):FnOk P w K mg base CX0 1 A.a_16 A.f_16 ["side","sides"] (liftSpF K sp_16):=by
 refine fnF T.F_16 sc_16 (fun ds Q h=>by obtain ⟨w,ss,rfl,hl,h⟩:=h;rfl) fun cdv Ar outer s H E hr ds Q h=>?_
 obtain ⟨w,ss,rfl,hl,h⟩:=h
 have nd:=sc_16.nd
 refine ⟨_,(st_one (st_retF (ft_lc (fr:=[none,none,some 0]) (N':=["number","found","side"]) (it_enum (at_cons (et_v 1) at_nil) (fun h=>pi_enum rfl T.b_enumerate h)) (fun b=>⟨(gt_pair (pg_tup rfl (pgs_cons (pn 0 (show List.Nodup (["number","found","side"]:List Str) from by decide +kernel)) (pgs_cons (pn 1 (show List.Nodup (["number","found","side"]:List Str) from by decide +kernel)) pgs_nil)))),(if_one (tt_cmp op_eq o_eq (et_v 1) (et_v 2))),(et_v 0)⟩) (fun hi hY=>pe_lcc (show lcChk _ (defScope (top 19)) ["side","sides"] ["number","found","side"] [none,none,some 0]=true from by decide +kernel) rfl hi hY)))),?_⟩
 rw [<- enum_filter] at h
 refine fLc_of (lcp_filt (ts:=enumD (ss.map PyData.str)) (fun R h=>⟨_,rfl,_,rfl,h⟩) (onW w) fstT (by rw [enumD_len,List.length_map];omega) (fun x hx=>?_) (fun a b q hm hq=>?_) (fun a b q hm hq=>?_) h)
 ·rw [enum_strs] at hx
  obtain ⟨y,_,rfl⟩:=List.mem_map.mp hx
  exact ⟨_,_,rfl⟩
 ·obtain ⟨i,hi⟩:=List.getElem?_of_mem hm
  have hil:=(List.getElem?_eq_some_iff.mp hi).1
  rw [enumD_len,List.length_map] at hil
  rw [enumD_get (a:=.str ss[i]) (by rw [List.getElem?_map,List.getElem?_eq_getElem hil];rfl)] at hi
  cases hi
  exact ⟨_,rfl,_,rfl,hq⟩
 ·exact ⟨_,rfl,hq⟩

theorem sc_15:FnScope ["form","question","stray","rows","sides"] ["form","question","stray","rows"] (defScope (top 18)):=fsc
theorem ok_15 (T:Txt K mg A)
  (F_16:FnOk P w K mg base CX0 1 A.a_16 A.f_16 ["side","sides"] (liftSpF K sp_16))
  (F_11:FnOk P w K mg base CX0 3 A.a_11 A.f_11 ["form","question","stray","case"] (liftSp K sp_11)):FnOk P w K mg base CX0 4 A.a_15 A.f_15 ["form","question","stray","rows"] (liftSpP K sp_15):=by
 refine fnP T.F_15 sc_15 (fun ds Q h=>by obtain ⟨fs,an,k,n,v,st,rs,rfl,F,hq,hst,hok,hrl,h⟩:=h;rfl) fun cdv Ar outer s H E hr ds Q h=>?_
 obtain ⟨fs,an,k,n,v,st,rs,rfl,F,hq,hst,hok,hrl,h⟩:=h
 have nd:=sc_15.nd
 refine ⟨_,(st_cons (st_setlc (i:=4) (fr:=[none,some 0,some 1,some 2]) (N':=["row","form","question","stray"]) (it_val (et_v 3)) (fun b=>⟨(gt_name (pn 0 (show List.Nodup (["row","form","question","stray"]:List Str) from by decide +kernel))),if_nil,(ca F_11 T.m_11 T.k_11 T.d_11 (hr.mono (by decide)) (at_cons (et_v 1) (at_cons (et_v 2) (at_cons (et_v 3) (at_cons (et_ix ix_seq o_ix (et_v 0) et_int) at_nil)))))⟩) (fun hi hY=>ps_setlcc (show lcChk _ (defScope (top 18)) ["form","question","stray","rows","sides"] ["row","form","question","stray"] [none,some 0,some 1,some 2]=true from by decide +kernel) nd rfl (by first | exact Or.inl rfl | exact Or.inr rfl) rfl hi hY rfl))
 (st_one (st_retPairF (ft_call F_16 T.m_16 T.k_16 T.d_16 (hr.mono (by decide)) (at_cons et_str (at_cons (et_v 4) at_nil)) (fun h=>pe_call F_16 (hr.mono (by decide)) rfl T.m_16 T.k_16 T.d_16 .nil pass0 h)) (ft_call F_16 T.m_16 T.k_16 T.d_16 (hr.mono (by decide)) (at_cons et_str (at_cons (et_v 4) at_nil)) (fun h=>pe_call F_16 (hr.mono (by decide)) rfl T.m_16 T.k_16 T.d_16 .nil pass0 h))))),?_⟩
 show sSeq _ _ _ [.val (frmD fs an),.val (.tuple [.str k,.str n,.str v]),.val (.str st),.val (.list (rs.map rowD)),.un]
 have e:(rs.map rowD).map (sdD fs k n v st)=(rs.map fun r=>sideS fs k n v st r.1).map PyData.str:=by rw [List.map_map,List.map_map];rfl
 refine seq_set (.list ((rs.map fun r=>sideS fs k n v st r.1).map PyData.str)) (fun q hq'=>?_) ?_
 ·refine lcx_map (ts:=rs.map rowD) (fun R h=>⟨_,rfl,_,rfl,h⟩) (sdD fs k n v st) (by rw [List.length_map];omega) (fun x q hx hq'=>?_) ?_
  ·obtain ⟨r,hr,rfl⟩:=List.mem_map.mp hx
   exact ⟨_,rfl,_,rfl,_,rfl,_,rfl,_,rfl,fs,an,k,n,v,st,r.1,rfl,F,hq,hst,(hok r hr).1,hq'⟩
  ·rw [e];exact hq'
 rw [<- side_ix,<- side_ix] at h
 exact ⟨_,rfl,"yes",_,rfl,by rw [List.length_map];exact hrl,_,rfl,"no",_,rfl,by rw [List.length_map];exact hrl,h⟩

theorem sc_17:FnScope ["sides","fewest"] ["sides","fewest"] (defScope (top 20)):=fsc
theorem ok_17 (T:Txt K mg A):FnOk P w K mg base CX0 1 A.a_17 A.f_17 ["sides","fewest"] (liftSp K sp_17):=by
 refine fnT T.F_17 sc_17 (fun ds Q h=>by obtain ⟨as,bs,m,rfl,h⟩:=h;rfl) fun cdv Ar outer s H E hr ds Q h=>?_
 obtain ⟨as,bs,m,rfl,h⟩:=h
 have nd:=sc_17.nd
 refine ⟨_,(st_one (st_ret (et_and (et_cmp op_ge o_B0 (et_cb c_len (at_cons (et_ix ix_seq o_ix (et_v 0) et_int) at_nil) (fun h=>pe_callB call_lenAny rfl T.b_len bl_len h)) (et_v 1)) (et_one (et_cmp op_ge o_B0 (et_cb c_len (at_cons (et_ix ix_seq o_ix (et_v 0) et_int) at_nil) (fun h=>pe_callB call_lenAny rfl T.b_len bl_len h)) (et_v 1)))))),?_⟩
 show sRet _ _ [.val (.tuple [.list as,.list bs]),.val (.int m)]
 refine ⟨_,rfl,_,rfl,_,rfl,?_⟩
 show (if decide (m<=(as.length:Int))=true then _ else _)
 cases e:decide (m<=(as.length:Int)) with
 | false =>
  rw [if_neg (by decide)]
  rw [e] at h;exact h
 | true =>
  rw [if_pos rfl]
  rw [e] at h
  exact ⟨_,rfl,_,rfl,_,rfl,h⟩

theorem sc_19:FnScope ["rows","numbers"] ["rows","numbers"] (defScope (top 23)):=fsc
theorem ok_19 (T:Txt K mg A):FnOk P w K mg base CX0 1 A.a_19 A.f_19 ["rows","numbers"] (liftSp K sp_19):=by
 refine fnT T.F_19 sc_19 (fun ds Q h=>by obtain ⟨fs,k,n,v,st,w,rs,rfl,hl,h⟩:=h;rfl) fun cdv Ar outer s H E hr ds Q h=>?_
 obtain ⟨fs,k,n,v,st,w,rs,rfl,hl,h⟩:=h
 have nd:=sc_19.nd
 refine ⟨_,(st_one (st_ret (et_lc (fr:=[none,some 0]) (N':=["number","rows"]) (it_val (et_v 1)) (fun b=>⟨(gt_name (pn 0 (show List.Nodup (["number","rows"]:List Str) from by decide +kernel))),if_nil,(et_ix ix_seq o_ix (et_v 1) (et_v 0))⟩) (fun hi hY=>pe_lcc (show lcChk _ (defScope (top 23)) ["rows","numbers"] ["number","rows"] [none,some 0]=true from by decide +kernel) rfl hi hY)))),?_⟩
 show sRet _ _ [.val (.list (rs.map rowD)),.val (.list (sideIx fs k n v st rs w))]
 have hz:(sideIx fs k n v st rs w).length<=60:=by
  unfold sideIx
  have:=List.length_filter_le (onSide fs k n v st rs w) (intsTo rs.length)
  rw [intsTo_len] at this
  omega
 refine lcx_map (ts:=sideIx fs k n v st rs w) (fun R h=>⟨_,rfl,_,rfl,h⟩) (rowNo rs) (by omega) (fun x q hx hq=>?_) ?_
 ·obtain ⟨j,hj,rfl⟩:=List.mem_map.mp (List.mem_filter.mp hx).1
  have hj':j<rs.length:=by simpa using hj
  have hat:L2.atI (rs.map rowD) (j:Int)=some (rowD rs[j]):=L2.atI_nat (by rw [List.getElem?_map,List.getElem?_eq_getElem hj'];rfl)
  have hr:rowNo rs (.int (j:Int))=rowD rs[j]:=by
   show (match L2.atI rs (j:Int) with | some r=>rowD r | none=>.none)=_
   rw [L2.atI_nat (List.getElem?_eq_getElem hj')]
  rw [hr] at hq
  exact ⟨_,rfl,_,rfl,_,hat,hq⟩
 ·rw [ix_rows fs k n v st w rs.length rs rfl]
  exact h

theorem sc_18:FnScope ["form","rows","least","told","question","stray","sides","doubts","bottom"] ["form","rows","least"] (defScope (top 22)):=fsc
theorem ok_18 (T:Txt K mg A)
  (F_5:FnOk P w K mg base CX0 3 A.a_5 A.f_5 ["one","other"] (liftSp K sp_5))
  (F_10:FnOk P w K mg base CX0 3 A.a_10 A.f_10 ["form"] (liftSp K sp_10))
  (F_7:FnOk P w K mg base CX0 2 A.a_7 A.f_7 ["fractions"] (liftSp K sp_7))
  (F_2:FnOk P w K mg base CX0 3 A.a_2 A.f_2 ["form","rows"] (liftSp K sp_2))
  (F_17:FnOk P w K mg base CX0 1 A.a_17 A.f_17 ["sides","fewest"] (liftSp K sp_17))
  (F_15:FnOk P w K mg base CX0 4 A.a_15 A.f_15 ["form","question","stray","rows"] (liftSpP K sp_15))
  (F_19:FnOk P w K mg base CX0 1 A.a_19 A.f_19 ["rows","numbers"] (liftSp K sp_19)):FnOk P w K mg base CX0 6 A.a_18 A.f_18 ["form","rows","least"] (liftSpF K sp_18):=by
 refine fnL T.L_18 T.F_18 sc_18 (fun ds Q h=>by obtain ⟨fs,an,rs,m,rfl,F,hrs,hl,h⟩:=h;rfl) fun cdv lc Ar outer s H E hr ds Q h=>?_
 obtain ⟨fs,an,rs,m,rfl,F,hrs,hl,h⟩:=h
 have nd:=sc_18.nd
 refine ⟨_,(st_cons (st_own (i:=3) at_nil (fun h=>ps_set (i:=3) nd rfl (by first | exact Or.inl rfl | exact Or.inr rfl) h))
 (st_cons (st_for (it_val (ca F_10 T.m_10 T.k_10 T.d_10 (hr.mono (by decide)) (at_cons (et_v 0) at_nil))) (gt_pair (pg_tup rfl (pgs_cons (pn 4 nd) (pgs_cons (pn 5 nd) pgs_nil))))
 (st_cons (ss 6 nd (et_pr (ppt_call F_15 T.m_15 T.k_15 T.d_15 (hr.mono (by decide)) (at_cons (et_v 0) (at_cons (et_v 4) (at_cons (et_v 5) (at_cons (et_v 1) at_nil)))) (fun h=>pe_call F_15 (hr.mono (by decide)) rfl T.m_15 T.k_15 T.d_15 .nil pass0 h))))
 (st_one (st_if (tt_val (ca F_17 T.m_17 T.k_17 T.d_17 (hr.mono (by decide)) (at_cons (et_v 6) (at_cons (et_v 2) at_nil))) (fun h=>pt_val h))
 (st_cons (st_setlc (i:=7) (fr:=[none,some 0,some 1]) (N':=["numbers","form","rows"]) (it_val (et_v 6)) (fun b=>⟨(gt_name (pn 0 (show List.Nodup (["numbers","form","rows"]:List Str) from by decide +kernel))),if_nil,(ca F_2 T.m_2 T.k_2 T.d_2 (hr.mono (by decide)) (at_cons (et_v 1) (at_cons (ca F_19 T.m_19 T.k_19 T.d_19 (hr.mono (by decide)) (at_cons (et_v 2) (at_cons (et_v 0) at_nil))) at_nil)))⟩) (fun hi hY=>ps_setlcc (show lcChk _ (defScope (top 22)) ["form","rows","least","told","question","stray","sides","doubts","bottom"] ["numbers","form","rows"] [none,some 0,some 1]=true from by decide +kernel) nd rfl (by first | exact Or.inl rfl | exact Or.inr rfl) rfl hi hY rfl))
 (st_one (st_app (i:=3) (pv 3) (et_tup (at_cons (et_v 4) (at_cons (et_v 5) (at_cons (ca F_5 T.m_5 T.k_5 T.d_5 (hr.mono (by decide)) (at_cons (et_ix ix_seq o_ix (et_v 7) et_int) (at_cons (et_ix ix_seq o_ix (et_v 7) et_int) at_nil))) at_nil)))) (pb:=fun h=>ps_expr (pe_bm PySem.F.plainAttrs_list PySem.F.slot_list_append PySem.F.type_list_append mt_append (pv 3) h)))))
 st_nil))) (fun hi hg hb=>ps_for PassesOwn.never rfl hi hg hb))
 (st_share 3 (st_cons (ss 8 nd (ca F_7 T.m_7 T.k_7 T.d_7 (hr.mono (by decide)) (at_cons (et_lc (fr:=[none,none,none]) (N':=["question","stray","doubt"]) (it_val (et_v 3)) (fun b=>⟨(gt_triple (pg_tup rfl (pgs_cons (pn 0 (show List.Nodup (["question","stray","doubt"]:List Str) from by decide +kernel)) (pgs_cons (pn 1 (show List.Nodup (["question","stray","doubt"]:List Str) from by decide +kernel)) (pgs_cons (pn 2 (show List.Nodup (["question","stray","doubt"]:List Str) from by decide +kernel)) pgs_nil))))),if_nil,(et_v 2)⟩) (fun hi hY=>pe_lcc (show lcChk _ (defScope (top 22)) ["form","rows","least","told","question","stray","sides","doubts","bottom"] ["question","stray","doubt"] [none,none,none]=true from by decide +kernel) rfl hi hY)) at_nil)))
 (st_one (st_retF (ft_sortL (k:=0) (ib:=8) (hr.mono (by omega)) lc rfl rfl rfl rfl T.b_sorted bl_sorted (at_cons (et_v 3) at_nil)))))))),?_⟩
 show sSeq _ _ _ [.val (frmD fs an),.val (.list (rs.map rowD)),.val (.int m),.un,.un,.un,.un,.un,.un]
 have hcl:=cand_len F rs m
 have hchs:(chs fs).length<=100:=by
  have h1:=choose_len F fs fun g hg=>hg
  have n5:=F.n5
  rw [chs_len];omega
 refine seq_own [] (by decide) (fun q hq=>hq) ?_
 refine seq_for (ts:=(chs fs).map chQ) (fun R h=>⟨_,rfl,fs,an,rfl,F,_,rfl,h⟩)
  (fun k σ=>∃ s4 s5 s6 s7:Sl,σ=[.val (frmD fs an),.val (.list (rs.map rowD)),.val (.int m),.own ((((chs fs).take k).filter (okC fs rs m)).map (entC fs rs)),s4,s5,s6,s7,.un]) ⟨_,_,_,_,rfl⟩ (fun k x σ' hx hP=>?_) fun σ' hP=>?_
 ·obtain ⟨s4,s5,s6,s7,rfl⟩:=hP
  rw [List.getElem?_map] at hx
  obtain ⟨c,hck,rfl⟩:=Option.map_eq_some_iff.mp hx
  have hc:=List.mem_of_getElem? hck
  obtain ⟨hq,hs⟩:=chs_ok hc
  have hq':=qs_isQ hq
  have lenY:(sideIx fs c.1.1 c.1.2.1 c.1.2.2 c.2 rs "yes").length=(yR fs c rs).length:=by
   have:=congrArg List.length (ix_rows fs c.1.1 c.1.2.1 c.1.2.2 c.2 "yes" rs.length rs rfl)
   rw [List.length_map,List.length_map] at this
   exact this
  have lenN:(sideIx fs c.1.1 c.1.2.1 c.1.2.2 c.2 rs "no").length=(nR fs c rs).length:=by
   have:=congrArg List.length (ix_rows fs c.1.1 c.1.2.1 c.1.2.2 c.2 "no" rs.length rs rfl)
   rw [List.length_map,List.length_map,no_side F hq' hs hrs] at this
   exact this
  have et:((chs fs).take (k+1)).filter (okC fs rs m)=((chs fs).take k).filter (okC fs rs m)++(if okC fs rs m c=true then [c] else []):=by
   rw [List.take_add_one,hck,List.filter_append]
   congr 1
   show List.filter _ [c]=_
   rw [List.filter_cons];rfl
  have hlk:((((chs fs).take k).filter (okC fs rs m)).map (entC fs rs)).length<=100:=by
   rw [List.length_map]
   exact Nat.le_trans (List.length_filter_le _ _) (by rw [List.length_take];omega)
  refine ⟨qD c.1,.str c.2,rfl,?_⟩
  dsimp only
  refine seq_set (.tuple [.list (sideIx fs c.1.1 c.1.2.1 c.1.2.2 c.2 rs "yes"),.list (sideIx fs c.1.1 c.1.2.1 c.1.2.2 c.2 rs "no")]) (fun q hq2=>⟨_,rfl,_,rfl,_,rfl,_,rfl,fs,an,c.1.1,c.1.2.1,c.1.2.2,c.2,rs,rfl,F,hq',hs,hrs,hl,hq2⟩) ?_
  refine one_if (fun b=>b=okC fs rs m c) (fun q hq2=>⟨_,rfl,_,rfl,_,_,m,rfl,?_⟩) (fun hT=>?_) fun hF=>?_
  ·refine hq2 _ ?_
   rw [lenY,lenN];rfl
  ·refine seq_set (.list [frL (dbt (yR fs c rs)),frL (dbt (nR fs c rs))]) (fun q hq2=>?_) ?_
   ·refine lcx_in (ts:=[.list (sideIx fs c.1.1 c.1.2.1 c.1.2.2 c.2 rs "yes"),.list (sideIx fs c.1.1 c.1.2.1 c.1.2.2 c.2 rs "no")]) (fun R h=>⟨_,rfl,_,rfl,h⟩) (fun i _ y=>(i=0->y=frL (dbt (yR fs c rs)))/\(i=1->y=frL (dbt (nR fs c rs)))) (Nat.le_of_ble_eq_true rfl) (fun i x q hx hq3=>?_) fun ys hyl hy=>?_
    ·have hi:i<2:=(List.getElem?_eq_some_iff.mp hx).1
     rcases (show i=0\/i=1 by omega) with rfl | rfl
     ·cases hx
      exact ⟨_,rfl,_,rfl,_,rfl,fs,c.1.1,c.1.2.1,c.1.2.2,c.2,"yes",rs,rfl,hl,fs,an,_,rfl,F,hrs.filt _,Nat.le_trans (List.length_filter_le _ _) hl,hq3 _ ⟨fun _=>rfl,fun z=>by cases z⟩⟩
     ·cases hx
      refine ⟨_,rfl,_,rfl,_,rfl,fs,c.1.1,c.1.2.1,c.1.2.2,c.2,"no",rs,rfl,hl,?_⟩
      rw [no_side F hq' hs hrs]
      exact ⟨fs,an,_,rfl,F,hrs.filt _,Nat.le_trans (List.length_filter_le _ _) hl,hq3 _ ⟨(fun z=>by cases z),fun _=>rfl⟩⟩
    ·match ys,hyl,hy with
     | [a,b],_,hy =>
      have h0:=(hy 0 _ a rfl rfl).1 rfl
      have h1:=(hy 1 _ b rfl rfl).2 rfl
      rw [h0,h1]
      exact hq2
   ·have hy60:(yR fs c rs).length<=60:=Nat.le_trans (List.length_filter_le _ _) hl
    have hn60:(nR fs c rs).length<=60:=Nat.le_trans (List.length_filter_le _ _) hl
    refine one_app (entC fs rs c) rfl (by omega) (fun q hq2=>⟨_,rfl,_,rfl,_,rfl,_,rfl,_,rfl,_,rfl,_,_,rfl,dbt_sml hy60,dbt_sml hn60,(Nat.le_of_ble_eq_true rfl),hq2⟩) ⟨.val (qD c.1),.val (.str c.2),.val (.tuple [.list (sideIx fs c.1.1 c.1.2.1 c.1.2.2 c.2 rs "yes"),.list (sideIx fs c.1.1 c.1.2.1 c.1.2.2 c.2 rs "no")]),.val (.list [frL (dbt (yR fs c rs)),frL (dbt (nR fs c rs))]),?_⟩
    rw [et,if_pos hT.symm,List.map_append];rfl
  ·try unfold sNext
   dsimp only
   refine ⟨.val (qD c.1),.val (.str c.2),.val (.tuple [.list (sideIx fs c.1.1 c.1.2.1 c.1.2.2 c.2 rs "yes"),.list (sideIx fs c.1.1 c.1.2.1 c.1.2.2 c.2 rs "no")]),s7,?_⟩
   rw [et,if_neg (by rw [<- hF];decide),List.append_nil];rfl
 ·obtain ⟨s4,s5,s6,s7,rfl⟩:=hP
  rw [List.length_map,List.take_length]
  refine ⟨_,rfl,?_⟩
  show sSeq _ _ _ [.val (frmD fs an),.val (.list (rs.map rowD)),.val (.int m),.val (.list (entL fs rs m)),s4,s5,s6,s7,.un]
  have hds:∀ x∈dsL fs rs m,0<x.2/\x.2<=1000000:=fun x hx=>by
   obtain ⟨c,_,rfl⟩:=List.mem_map.mp hx
   have:=dC_sml (fs:=fs) hl c
   exact ⟨this.pos,Nat.le_trans this.bot (by decide)⟩
  refine seq_set (.int (botm (dsL fs rs m):Nat)) (fun q hq=>?_) ?_
  ·dsimp only [eCall,aCons,aNil]
   refine lct_map (ts:=entL fs rs m) (fun R h=>⟨_,rfl,_,rfl,h⟩) (fun x=>match x with | .tuple [_,_,d]=>d | _=>.none) (by rw [entL_len];omega) (fun x hx=>?_) (fun a b c q' hm hq'=>⟨_,rfl,hq'⟩) ?_
   ·obtain ⟨c,_,rfl⟩:=List.mem_map.mp hx
    exact ⟨_,_,_,rfl⟩
   ·have e:(entL fs rs m).map (fun x=>match x with | .tuple [_,_,d]=>d | _=>.none)=(dsL fs rs m).map frL:=by
     unfold entL dsL
     rw [List.map_map,List.map_map];rfl
    rw [e]
    exact ⟨_,rfl,hds,hq⟩
  ·refine ⟨_,rfl,entL fs rs m,(botm (dsL fs rs m):Nat),keyL fs rs m,rfl,by rw [entL_len];omega,rfl,by rw [entL_len,keyL_len],fun i e k he hk=>?_,fun J hJ=>?_⟩
   ·have hi:i<(cand fs rs m).length:=by rw [<- entL_len];exact (List.getElem?_eq_some_iff.mp he).1
    have e1:=entL_at (fs:=fs) (R:=rs) (m:=m) hi
    rw [List.getD_eq_getElem?_getD,he] at e1
    have e2:=keyL_at (fs:=fs) (R:=rs) (m:=m) hi
    rw [List.getD_eq_getElem?_getD,hk] at e2
    have sm:=dC_sml (fs:=fs) hl (cand fs rs m)[i]
    have s1:=sm.top
    have s2:=sm.pos
    have s3:=sm.bot
    exact ⟨_,_,_,_,e1,⟨by omega,by omega⟩,.inl ⟨by omega,by omega⟩,e2⟩
   ·rw [entL_len] at hJ
    exact h J hJ

theorem sc_6:FnScope ["one","other"] ["one","other"] (defScope (top 7)):=fsc
theorem ok_6 (T:Txt K mg A):FnOk P w K mg base CX0 1 A.a_6 A.f_6 ["one","other"] (liftSp K sp_6):=by
 refine fnT T.F_6 sc_6 (fun ds Q h=>by obtain ⟨x,y,rfl,hx,hy,h⟩:=h;rfl) fun cdv Ar outer s H E hr ds Q h=>?_
 obtain ⟨x,y,rfl,hx,hy,h⟩:=h
 have nd:=sc_6.nd
 refine ⟨_,(st_one (st_ret (et_cmp op_lt o_B0 (et_op op_mulAny o_mul (et_ix ix_seq o_ix (et_v 0) et_int) (et_ix ix_seq o_ix (et_v 1) et_int)) (et_op op_mulAny o_mul (et_ix ix_seq o_ix (et_v 1) et_int) (et_ix ix_seq o_ix (et_v 0) et_int))))),?_⟩
 show sRet _ _ [.val (frL x),.val (frL y)]
 refine ⟨_,rfl,_,rfl,_,rfl,_,rfl,.inl ⟨by omega,by omega⟩,_,rfl,_,rfl,_,rfl,_,rfl,.inl ⟨by omega,by omega⟩,?_⟩
 show Q (.bool (decide ((x.1:Int)*(y.2:Int)<(y.1:Int)*(x.2:Int))))
 have e:decide ((x.1:Int)*(y.2:Int)<(y.1:Int)*(x.2:Int))=decide (x.1*y.2<y.1*x.2):=by
  rw [decide_eq_decide,<- Int.natCast_mul,<- Int.natCast_mul];omega
 rw [e];exact h

theorem sc_20:FnScope ["form","rows","least","told"] ["form","rows","least"] (defScope (top 24)):=fsc
theorem ok_20 (T:Txt K mg A)
  (F_2:FnOk P w K mg base CX0 3 A.a_2 A.f_2 ["form","rows"] (liftSp K sp_2))
  (F_6:FnOk P w K mg base CX0 1 A.a_6 A.f_6 ["one","other"] (liftSp K sp_6))
  (F_18:FnOk P w K mg base CX0 6 A.a_18 A.f_18 ["form","rows","least"] (liftSpF K sp_18)):FnOk P w K mg base CX0 7 A.a_20 A.f_20 ["form","rows","least"] (liftSp K sp_20):=by
 refine fnT T.F_20 sc_20 (fun ds Q h=>by obtain ⟨fs,an,rs,m,rfl,F,hrs,hl,h⟩:=h;rfl) fun cdv Ar outer s H E hr ds Q h=>?_
 obtain ⟨fs,an,rs,m,rfl,F,hrs,hl,h⟩:=h
 have nd:=sc_20.nd
 refine ⟨_,(st_cons (ss 3 nd (et_fr (ft_call F_18 T.m_18 T.k_18 T.d_18 (hr.mono (by decide)) (at_cons (et_v 0) (at_cons (et_v 1) (at_cons (et_v 2) at_nil))) (fun h=>pe_call F_18 (hr.mono (by decide)) rfl T.m_18 T.k_18 T.d_18 .nil pass0 h))))
 (st_cons (st_if (tw_pt (tw_and (tt_truthL (et_v 3) (fun h=>pt_truth h (fun _=>rfl))) (tw_and1 (tt_val (ca F_6 T.m_6 T.k_6 T.d_6 (hr.mono (by decide)) (at_cons (et_ix ix_seq o_ix (et_ix ix_seq o_ix (et_v 3) et_int) et_int) (at_cons (ca F_2 T.m_2 T.k_2 T.d_2 (hr.mono (by decide)) (at_cons (et_v 0) (at_cons (et_v 1) at_nil))) at_nil))) (fun h=>pt_val h)))))
 (st_one (st_ret (et_ix ix_seq o_ix (et_v 3) et_int)))
 st_nil)
 (st_one (st_ret et_non)))),?_⟩
 show sSeq _ _ _ [.val (frmD fs an),.val (.list (rs.map rowD)),.val (.int m),.un]
 have hcl:=cand_len F rs m
 have dsm:∀ c:Ch,(dC fs rs c).1<=1000000:=fun c=>Nat.le_trans (dC_sml (fs:=fs) hl c).top (by decide)
 have dbm:(dbt rs).1<=1000000:=Nat.le_trans (dbt_sml hl).top (by decide)
 have at0:∀ {i:Nat} {J:List Nat},Rkd fs rs m (i::J)->∃ c,bst fs rs (cand fs rs m)=some c/\L2.atI (outL fs rs m (i::J)) 0=some (entC fs rs c):=fun {i J} hJ=>by
  refine ⟨_,bst_head hl hJ,?_⟩
  refine L2.atI_nat (j:=0) ?_
  show some ((entL fs rs m).getD i .none)=_
  rw [entL_at (hJ.lt i (List.mem_cons_self ..))]
 have opt:∀ c,bst fs rs (cand fs rs m)=some c->bestO fs rs m=if lessF (dC fs rs c) (dbt rs)=true then some c else none:=fun c hc=>by
  unfold bestO;rw [hc];rfl
 refine seq_setR (fun v=>∃ J,Rkd fs rs m J/\v=.list (outL fs rs m J)) (fun q hq=>⟨_,rfl,_,rfl,_,rfl,fs,an,rs,m,rfl,F,hrs,hl,fun J hJ=>hq _ ⟨J,hJ,rfl⟩⟩) ?_
 rintro _ ⟨J,hJ,rfl⟩
 cases J with
 | nil =>
  have e:bestO fs rs m=none:=by unfold bestO;rw [bst_nil hJ];rfl
  rw [e] at h
  refine seq_if (fun b=>b=false) (fun q hq=>?_) (fun hT=>by cases hT) fun _=>?_
  ·refine ⟨_,rfl,[],rfl,?_⟩
   show (if (false:Bool)=true then _ else q false)
   rw [if_neg (by decide)];exact hq _ rfl
  ·try unfold sNext
   dsimp only
   exact h
 | cons i J =>
  obtain ⟨c,hc,h0⟩:=at0 hJ
  rw [opt c hc] at h
  refine seq_if (fun b=>b=lessF (dC fs rs c) (dbt rs)) (fun q hq=>?_) (fun hT=>?_) fun hF=>?_
  ·refine ⟨_,rfl,_,rfl,?_⟩
   show (if (true:Bool)=true then _ else q false)
   rw [if_pos rfl]
   exact ⟨_,rfl,_,h0,_,rfl,_,rfl,_,rfl,fs,an,rs,rfl,F,hrs,hl,_,_,rfl,dsm c,dbm,hq _ rfl⟩
  ·rw [if_pos hT.symm] at h
   exact ⟨_,rfl,_,h0,h⟩
  ·rw [if_neg (by rw [<- hF];decide)] at h
   try unfold sNext
   dsimp only
   exact h

theorem sc_1:FnScope ["form","rows","counts"] ["form","rows"] (defScope (top 2)):=fsc
theorem ok_1 (T:Txt K mg A)
  (F_0:FnOk P w K mg base CX0 1 A.a_0 A.f_0 ["form","rows"] (liftSpF K sp_0)):FnOk P w K mg base CX0 2 A.a_1 A.f_1 ["form","rows"] (liftSp K sp_1):=by
 refine fnT T.F_1 sc_1 (fun ds Q h=>by obtain ⟨fs,an,rs,rfl,F,hok,hrl,h⟩:=h;rfl) fun cdv Ar outer s H E hr ds Q h=>?_
 obtain ⟨fs,an,rs,rfl,F,hok,hrl,h⟩:=h
 have nd:=sc_1.nd
 refine ⟨_,(st_cons (ss 2 nd (et_fr (ft_call F_0 T.m_0 T.k_0 T.d_0 (hr.mono (by decide)) (at_cons (et_v 0) (at_cons (et_v 1) at_nil)) (fun h=>pe_call F_0 (hr.mono (by decide)) rfl T.m_0 T.k_0 T.d_0 .nil pass0 h))))
 (st_one (st_ret (et_ix ix_seq o_ix (et_ix ix_seq o_ix (et_v 0) et_int) (et_lindex (et_v 2) (at_cons (et_cb c_max (at_cons (et_v 2) at_nil) (fun h=>pe_callB (call_max_ints rfl) rfl T.b_max bl_max h)) at_nil) (fun h ha=>pe_bm PySem.F.plainAttrs_list PySem.F.slot_list_index PySem.F.type_list_index (mt_lindex hr) h ha)))))),?_⟩
 show sSeq _ _ _ [.val (frmD fs an),.val (.list (rs.map rowD)),.un]
 have a2:=F.a2
 refine seq_set (.list ((cnts an rs).map PyData.int)) (fun q hq=>⟨_,rfl,_,rfl,fs,an,rs,rfl,F,hok,hrl,hq⟩) ?_
 have hne:cnts an rs≠[]:=fun z=>by
  have:=congrArg List.length z
  unfold cnts at this
  rw [List.length_map] at this
  simp at this
  rw [this] at a2
  simp at a2
 refine ⟨_,rfl,_,rfl,_,rfl,_,rfl,_,rfl,_,rfl,hne,fun m hm hmax=>?_⟩
 obtain ⟨j,hj,hno⟩:=first_of (cnts an rs) m hm
 have hjl:=(List.getElem?_eq_some_iff.mp hj).1
 have hal:(cnts an rs).length=an.length:=by unfold cnts;rw [List.length_map]
 have a4:=F.a4
 have haj:an[j]?=some an[j]:=List.getElem?_eq_getElem (by omega)
 have hcj:(cnts an rs)[j]?=some ((cnt rs an[j]:Nat):Int):=by unfold cnts;rw [List.getElem?_map,haj];rfl
 rw [hj] at hcj
 have em:m=((cnt rs an[j]:Nat):Int):=Option.some.inj hcj
 refine ⟨_,j,rfl,okIx_ints hj hno,by omega,_,L2.atI_nat (by rw [List.getElem?_map,haj];rfl),h _ ⟨j,haj,fun i b hb=>?_,fun i b hi hb=>?_⟩⟩
 ·have:=hmax ((cnt rs b:Nat):Int) (List.mem_of_getElem? (i:=i) (by unfold cnts;rw [List.getElem?_map,hb];rfl))
  omega
 ·have hcb:(cnts an rs)[i]?=some ((cnt rs b:Nat):Int):=by unfold cnts;rw [List.getElem?_map,hb];rfl
  have h1:=hmax _ (List.mem_of_getElem? hcb)
  have h2:((cnt rs b:Nat):Int)≠m:=fun z=>hno i hi (by rw [hcb,z])
  omega

theorem sc_21:FnScope ["form","rows","deep","least","found","sides","parts"] ["form","rows","deep","least"] (defScope (top 25)):=fsc
theorem step_21 (dd:Nat) (T:Txt K mg A)
  (F_20:FnOk P w K mg base CX0 7 A.a_20 A.f_20 ["form","rows","least"] (liftSp K sp_20))
  (F_1:FnOk P w K mg base CX0 2 A.a_1 A.f_1 ["form","rows"] (liftSp K sp_1))
  (F_15:FnOk P w K mg base CX0 4 A.a_15 A.f_15 ["form","question","stray","rows"] (liftSpP K sp_15))
  (F_19:FnOk P w K mg base CX0 1 A.a_19 A.f_19 ["rows","numbers"] (liftSp K sp_19))
  (F_21:FnOk P w K mg base CX0 (8+dd) A.a_21 A.f_21 ["form","rows","deep","least"] (liftSp K (sp_21_lt dd))):FnOk P w K mg base CX0 (8+dd+1) A.a_21 A.f_21 ["form","rows","deep","least"] (liftSp K (sp_21_lt (dd+1))):=by
 refine fnT T.F_21 sc_21 (fun ds Q h=>by obtain ⟨fs,an,rs,d,m,rfl,F,hrs,hl,hd,h⟩:=h;rfl) fun cdv Ar outer s H E hr ds Q h=>?_
 obtain ⟨fs,an,rs,d,m,rfl,F,hrs,hl,hd,h⟩:=h
 have nd:=sc_21.nd
 refine ⟨_,(st_cons (ss 4 nd (et_if (tt_cmp op_gt o_B0 (et_v 2) et_int) (ca F_20 T.m_20 T.k_20 T.d_20 (hr.mono (by omega)) (at_cons (et_v 0) (at_cons (et_v 1) (at_cons (et_v 3) at_nil)))) et_non))
 (st_cons (st_if (tt_cmp op_is2 o_is2 (et_v 4) et_non)
 (st_one (st_ret (et_tup (at_cons et_str (at_cons (ca F_1 T.m_1 T.k_1 T.d_1 (hr.mono (by omega)) (at_cons (et_v 0) (at_cons (et_v 1) at_nil))) at_nil)))))
 st_nil)
 (st_cons (ss 5 nd (et_pr (ppt_call F_15 T.m_15 T.k_15 T.d_15 (hr.mono (by omega)) (at_cons (et_v 0) (at_cons (et_ix ix_seq o_ix (et_v 4) et_int) (at_cons (et_ix ix_seq o_ix (et_v 4) et_int) (at_cons (et_v 1) at_nil)))) (fun h=>pe_call F_15 (hr.mono (by omega)) rfl T.m_15 T.k_15 T.d_15 .nil pass0 h))))
 (st_cons (st_setlc (i:=6) (fr:=[none,some 0,some 3,some 1,some 2]) (N':=["numbers","form","least","rows","deep"]) (it_val (et_v 5)) (fun b=>⟨(gt_name (pn 0 (show List.Nodup (["numbers","form","least","rows","deep"]:List Str) from by decide +kernel))),if_nil,(ca F_21 T.m_21 T.k_21 T.d_21 (hr.mono (by omega)) (at_cons (et_v 1) (at_cons (ca F_19 T.m_19 T.k_19 T.d_19 (hr.mono (by omega)) (at_cons (et_v 3) (at_cons (et_v 0) at_nil))) (at_cons (et_op op_sub o_I0 (et_v 4) et_int) (at_cons (et_v 2) at_nil)))))⟩) (fun hi hY=>ps_setlcc (show lcChk _ (defScope (top 25)) ["form","rows","deep","least","found","sides","parts"] ["numbers","form","least","rows","deep"] [none,some 0,some 3,some 1,some 2]=true from by decide +kernel) nd rfl (by first | exact Or.inl rfl | exact Or.inr rfl) rfl hi hY rfl))
 (st_one (st_ret (et_tup (at_cons et_str (at_cons (et_ix ix_seq o_ix (et_v 4) et_int) (at_cons (et_ix ix_seq o_ix (et_v 4) et_int) (at_cons (et_ix ix_seq o_ix (et_v 6) et_int) (at_cons (et_ix ix_seq o_ix (et_v 6) et_int) at_nil)))))))))))),?_⟩
 show sSeq _ _ _ [.val (frmD fs an),.val (.list (rs.map rowD)),.val (.int d),.val (.int m),.un,.un,.un]
 cases d with
 | zero =>
  refine seq_set .none (fun q hq=>⟨_,rfl,hq⟩) ?_
  refine seq_if (fun b=>b=true) (fun q hq=>⟨_,rfl,hq _ rfl⟩) (fun _=>?_) fun hF=>by cases hF
  exact ⟨_,rfl,_,rfl,fs,an,rs,rfl,F,hrs,hl,fun a ha=>⟨(Nat.le_of_ble_eq_true rfl),h (.say a) ⟨a,ha,rfl⟩⟩⟩
 | succ e =>
  refine seq_set (optD fs rs (bestO fs rs m)) (fun q hq=>⟨_,rfl,?_⟩) ?_
  ·show (if decide ((0:Int)<((e+1:Nat):Int))=true then _ else q .none)
   rw [if_pos (decide_eq_true (by omega))]
   exact ⟨_,rfl,_,rfl,_,rfl,fs,an,rs,m,rfl,F,hrs,hl,hq⟩
  cases eb:bestO fs rs m with
  | none =>
   refine seq_if (fun b=>b=true) (fun q hq=>⟨_,rfl,hq _ rfl⟩) (fun _=>?_) fun hF=>by cases hF
   refine ⟨_,rfl,_,rfl,fs,an,rs,rfl,F,hrs,hl,fun a ha=>⟨(Nat.le_of_ble_eq_true rfl),h (.say a) ?_⟩⟩
   unfold Gr;rw [eb];exact ⟨a,ha,rfl⟩
  | some c =>
   have hc:=(List.mem_filter.mp (bestO_mem eb)).1
   obtain ⟨hq,hs⟩:=chs_ok hc
   have hq':=qs_isQ hq
   refine seq_if (fun b=>b=false) (fun q hq=>⟨_,rfl,hq _ rfl⟩) (fun hT=>by cases hT) fun _=>?_
   try unfold sNext
   dsimp only
   refine seq_set (.tuple [.list (sideIx fs c.1.1 c.1.2.1 c.1.2.2 c.2 rs "yes"),.list (sideIx fs c.1.1 c.1.2.1 c.1.2.2 c.2 rs "no")]) (fun q hq2=>⟨_,rfl,_,rfl,_,rfl,_,rfl,_,rfl,_,rfl,fs,an,c.1.1,c.1.2.1,c.1.2.2,c.2,rs,rfl,F,hq',hs,hrs,hl,hq2⟩) ?_
   refine seq_setR (fun v=>∃ y n,Gr fs an m e (yR fs c rs) y/\Gr fs an m e (nR fs c rs) n/\v=.list [trD y,trD n]) (fun q hq2=>?_) ?_
   ·have es:((e+1:Nat):Int)-1=((e:Nat):Int):=by omega
    refine lcx_in (ts:=[.list (sideIx fs c.1.1 c.1.2.1 c.1.2.2 c.2 rs "yes"),.list (sideIx fs c.1.1 c.1.2.1 c.1.2.2 c.2 rs "no")]) (fun R h=>⟨_,rfl,_,rfl,h⟩) (fun i _ y=>(i=0->∃ t,Gr fs an m e (yR fs c rs) t/\y=trD t)/\(i=1->∃ t,Gr fs an m e (nR fs c rs) t/\y=trD t)) (Nat.le_of_ble_eq_true rfl) (fun i x q hx hq3=>?_) fun ys hyl hy=>?_
    ·have hi:i<2:=(List.getElem?_eq_some_iff.mp hx).1
     rcases (show i=0\/i=1 by omega) with rfl | rfl
     ·cases hx
      exact ⟨_,rfl,_,rfl,_,rfl,fs,c.1.1,c.1.2.1,c.1.2.2,c.2,"yes",rs,rfl,hl,_,rfl,_,rfl,fs,an,_,e,m,by rw [<- es]<;>rfl,F,hrs.filt _,Nat.le_trans (List.length_filter_le _ _) hl,by omega,fun t ht=>hq3 _ ⟨fun _=>⟨t,ht,rfl⟩,fun z=>by cases z⟩⟩
     ·cases hx
      refine ⟨_,rfl,_,rfl,_,rfl,fs,c.1.1,c.1.2.1,c.1.2.2,c.2,"no",rs,rfl,hl,?_⟩
      rw [no_side F hq' hs hrs]
      exact ⟨_,rfl,_,rfl,fs,an,_,e,m,by rw [<- es]<;>rfl,F,hrs.filt _,Nat.le_trans (List.length_filter_le _ _) hl,by omega,fun t ht=>hq3 _ ⟨(fun z=>by cases z),fun _=>⟨t,ht,rfl⟩⟩⟩
    ·match ys,hyl,hy with
     | [a,b],_,hy =>
      obtain ⟨y,h0,rfl⟩:=(hy 0 _ a rfl rfl).1 rfl
      obtain ⟨n,h1,rfl⟩:=(hy 1 _ b rfl rfl).2 rfl
      exact hq2 _ ⟨y,n,h0,h1,rfl⟩
   ·rintro _ ⟨y,n,h0,h1,rfl⟩
    refine ⟨_,rfl,_,rfl,_,rfl,_,rfl,_,rfl,_,rfl,_,rfl,_,rfl,(Nat.le_of_ble_eq_true rfl),h (.ask c.1.1 c.1.2.1 c.1.2.2 c.2 y n) ?_⟩
    unfold Gr;rw [eb];exact ⟨y,n,h0,h1,rfl⟩

theorem ok_21 (T:Txt K mg A)
  (F_20:FnOk P w K mg base CX0 7 A.a_20 A.f_20 ["form","rows","least"] (liftSp K sp_20))
  (F_1:FnOk P w K mg base CX0 2 A.a_1 A.f_1 ["form","rows"] (liftSp K sp_1))
  (F_15:FnOk P w K mg base CX0 4 A.a_15 A.f_15 ["form","question","stray","rows"] (liftSpP K sp_15))
  (F_19:FnOk P w K mg base CX0 1 A.a_19 A.f_19 ["rows","numbers"] (liftSp K sp_19)):FnOk P w K mg base CX0 15 A.a_21 A.f_21 ["form","rows","deep","least"] (liftSp K sp_21):=by
 have h:∀ dd:Nat,FnOk P w K mg base CX0 (8+dd) A.a_21 A.f_21 ["form","rows","deep","least"] (liftSp K (sp_21_lt dd)):=fun dd=>by
  induction dd with
  | zero=>exact fn_imp fn_never fun ds Q h=>never_21 h
  | succ dd ih=>exact step_21 dd T F_20 F_1 F_15 F_19 ih
 exact h 7
theorem sc_22:FnScope ["_law_script","_law_digits"] ["_law_script"] (defScope (top 27)):=fsc
theorem ok_22 (T:Txt K mg A):FnOk P w K mg base CX0 1 A.a_22 A.f_22 ["_law_script"] (liftSpN K sp_22):=by
 refine fnNew T.F_22 sc_22 fun cdv Ar outer s H E hr=>?_
 have nd:=sc_22.nd
 refine ⟨_,_,_,_,rfl,(ss 1 nd (et_and (et_cmp op_gt o_B0 (et_cb c_len (at_cons (et_v 0) at_nil) (fun h=>pe_callB call_lenAny rfl T.b_len bl_len h)) et_int) (et_one (et_cmp op_eq o_eq (et_op op_mod o_I (et_ix ix_seq o_ix (et_v 0) et_int) et_int) et_int)))),(pe_disp (pps_cons pe_str (pv 0) (pps_cons pe_str pe_int (pps_cons pe_str pe_int (pps_cons pe_str (pv 1) pps_nil)))) rfl rfl (fun z=>nomatch z) (by decide)),fun ns Q h=>?_⟩
 refine ⟨_,rfl,?_⟩
 show (if decide (((ns.map PyData.int).length:Int) > 0)=true then _ else Q (.bool false))
 split
 ·next hb =>
  have hb':((ns.map PyData.int).length:Int) > 0:=of_decide_eq_true hb
  rw [List.length_map] at hb'
  have hn:0<ns.length:=by omega
  have e:L2.atI (ns.map PyData.int) 0=some (.int ns[0]):=L2.atI_nat (j:=0) (by rw [List.getElem?_map,List.getElem?_eq_getElem hn];rfl)
  exact ⟨_,rfl,_,e,(show (0:Int)<2 by decide),h _ fun _=>hn⟩
 ·exact h false fun z=>by cases z

theorem sc_23:FnScope ["_law_tape_here","_law_many","_law_script","_law_at","_law_left","_law_number"] ["_law_tape_here","_law_many"] (defScope (top 28)):=fsc
theorem ok_23 (T:Txt K mg A):FnOk P w K mg base CX0 1 A.a_23 A.f_23 ["_law_tape_here","_law_many"] (liftSpC K sp_23):=by
 refine fnC T.F_23 sc_23 (fun τ n ds Q h=>by obtain ⟨m,rfl,hm0,hm1,hc,h⟩:=h;rfl) fun cdv Ar outer s H E hr Tp c ds Q hdig h=>?_
 obtain ⟨m,rfl,hm0,hm1,hc,h⟩:=h
 have nd:=sc_23.nd
 refine ⟨_,(sc_cons (sc_set (i:=2) (ec_getS hr (pv 0)) (fun h=>ps_set (i:=2) nd rfl (by first | exact Or.inl rfl | exact Or.inr rfl) h))
 (sc_cons (sc_set (i:=3) (ec_getA hr (pv 0)) (fun h=>ps_set (i:=3) nd rfl (by first | exact Or.inl rfl | exact Or.inr rfl) h))
 (sc_cons (sc_putA hr (pv 0) (ec_p (et_op op_addAny o_add (et_v 3) et_int)))
 (sc_cons (sc_if (tc_val (ec_getD hr (pv 0)) (fun h=>pt_val h))
 (sc_cons (sc_if (tc_p (tt_cmp op_eq o_eq (et_op op_mod o_I (et_v 3) et_int) et_int))
 (sc_one (sc_putL hr (pv 0) (ec_p (et_op op_fdiv o_I (et_ix ix_seq o_ix (et_v 2) (et_op op_mod o_I (et_op op_fdiv o_I (et_v 3) et_int) (et_cb c_len (at_cons (et_v 2) at_nil) (fun h=>pe_callB call_lenAny rfl T.b_len bl_len h)))) et_int))))
 sc_nil)
 (sc_cons (sc_set (i:=4) (ec_getL hr (pv 0)) (fun h=>ps_set (i:=4) nd rfl (by first | exact Or.inl rfl | exact Or.inr rfl) h))
 (sc_cons (sc_putL hr (pv 0) (ec_p (et_op op_fdiv o_I (et_v 4) (et_v 1))))
 (sc_one (sc_p (st_ret (et_op op_mod o_I (et_v 4) (et_v 1))))))))
 sc_nil)
 (sc_cons (sc_p (ss 5 nd (et_op op_addAny o_add (et_op op_addAny o_add (et_op op_mulAny o_mul (et_v 3) (et_v 3)) (et_op op_mulAny o_mul et_int (et_v 3))) et_int)))
 (sc_cons (sc_p (st_if (tt_cmp op_gt o_B0 (et_cb c_len (at_cons (et_v 2) at_nil) (fun h=>pe_callB call_lenAny rfl T.b_len bl_len h)) et_int)
 (st_one (ss 5 nd (et_op op_addAny o_add (et_v 5) (et_op op_mod o_I (et_ix ix_seq o_ix (et_v 2) (et_op op_mod o_I (et_v 3) (et_cb c_len (at_cons (et_v 2) at_nil) (fun h=>pe_callB call_lenAny rfl T.b_len bl_len h)))) et_int))))
 st_nil))
 (sc_cons (sc_p (ss 5 nd (et_op op_mod o_I (et_op op_mulAny o_mul (et_op op_addAny o_add (et_op op_mod o_I (et_op op_mulAny o_mul (et_v 5) et_int) et_int) (et_v 3)) et_int) et_int)))
 (sc_one (sc_p (st_ret (et_op op_mod o_I (et_op op_mod o_I (et_op op_mulAny o_mul (et_op op_addAny o_add (et_op op_mulAny o_mul (et_v 5) (et_v 5)) (et_v 3)) et_int) et_int) (et_v 1)))))))))))),?_⟩
 show cSeq _ _ _ _ _ [.val (tpD Tp),.val (.int m),.un,.un,.un,.un]
 have p50:(0:Int)<50:=by decide
 refine cq_set1 (.list (Tp.ns.map PyData.int)) (fun q hq=>⟨rfl,hq⟩) ?_
 refine cq_set1 (.int (c:Int)) (fun q hq=>⟨rfl,hq⟩) ?_
 refine (show cSeq (cPutA _ _) _ _ _ _ _ from ⟨_,rfl,rfl,rfl,?_⟩)
 dsimp only
 refine cq_if1 Tp.b (fun q hq=>⟨rfl,hq⟩) (fun hb=>?_) fun _=>?_
 ·have hn:=hdig hb
  have hp:(0:Int)<((Tp.ns.map PyData.int).length:Nat):=by rw [List.length_map];omega
  obtain ⟨x,hx⟩:=atI_modI hn ((c:Int) / 50)
  refine cq_ifput rfl (decide ((c:Int) % 50=0)) (fun q hq=>⟨_,rfl,p50,hq⟩) (fun q hq=>⟨_,rfl,_,rfl,⟨by decide,by decide⟩,_,rfl,hp,_,hx,⟨by decide,by decide⟩,hq _⟩) ?_
  refine (show cSeq (cSet _ _) _ _ _ _ _ from ⟨rfl,fun l=>?_⟩)
  dsimp only
  refine (show cSeq (cPutL _ _) _ _ _ _ _ from ⟨_,rfl,_,rfl,⟨hm0,by omega⟩,⟨_,rfl⟩,rfl,?_⟩)
  exact ⟨_,rfl,_,rfl,hm0,h _ (Int.emod_nonneg _ (by omega)) (Int.emod_lt_of_pos _ hm0)⟩
 ·try unfold cNext
  dsimp only
  have cm:CMul (c:Int) (c:Int):=.inl ⟨by omega,by omega⟩
  refine cq_pure (seq_setR (fun d=>∃ x:Int,d=.int x) (fun q hq=>⟨_,rfl,_,rfl,cm,_,rfl,.inl ⟨by decide,by decide⟩,hq _ ⟨_,rfl⟩⟩) ?_)
  rintro _ ⟨x,rfl⟩
  refine cq_pure (seq_ifsetC (0<Tp.ns.length) (fun d=>∃ x:Int,d=.int x) (fun q hq=>⟨_,rfl,hq _ fun hb=>?_⟩) (fun hn q hq=>?_) (.int x) rfl ⟨x,rfl⟩ ?_)
  ·have hb':((Tp.ns.map PyData.int).length:Int) > 0:=of_decide_eq_true hb
   rw [List.length_map] at hb'
   omega
  ·have hp:(0:Int)<((Tp.ns.map PyData.int).length:Nat):=by rw [List.length_map];omega
   obtain ⟨y,hy⟩:=atI_modI hn (c:Int)
   exact ⟨_,rfl,_,rfl,_,rfl,_,rfl,hp,_,hy,(show (0:Int)<1000003 by decide),hq _ ⟨_,rfl⟩⟩
  rintro _ ⟨y,rfl⟩
  refine cq_pure (seq_setR (fun d=>∃ x:Int,d=.int x/\0<=x/\x<65519) (fun q hq=>⟨_,rfl,.inr ⟨by decide,by decide⟩,(show (0:Int)<999983 by decide),_,rfl,.inr ⟨by decide,by decide⟩,(show (0:Int)<65519 by decide),hq _ ⟨_,rfl,Int.emod_nonneg _ (by decide),Int.emod_lt_of_pos _ (by decide)⟩⟩) ?_)
  rintro _ ⟨z,rfl,z0,z1⟩
  exact ⟨_,rfl,_,rfl,.inl ⟨by omega,by omega⟩,_,rfl,.inr ⟨by decide,by decide⟩,(show (0:Int)<65521 by decide),_,rfl,hm0,h _ (Int.emod_nonneg _ (by omega)) (Int.emod_lt_of_pos _ hm0)⟩

theorem sc_24:FnScope ["_law_tape_here","_law_many","_law_way","_law_first_here","_law_letters","_law_words","_law_base","_law_names_here","_law_at"] ["_law_tape_here","_law_many"] (defScope (top 29)):=fsc
theorem ok_24 (T:Txt K mg A)
  (F_23:FnOk P w K mg base CX0 1 A.a_23 A.f_23 ["_law_tape_here","_law_many"] (liftSpC K sp_23)):FnOk P w K mg base CX0 2 A.a_24 A.f_24 ["_law_tape_here","_law_many"] (liftSpC K sp_24):=by
 refine fnC T.F_24 sc_24 (fun τ n ds Q h=>by obtain ⟨m,rfl,hm1,hm5,hc,h⟩:=h;rfl) fun cdv Ar outer s H E hr Tp c ds Q hdig h=>?_
 obtain ⟨m,rfl,hm1,hm5,hc,h⟩:=h
 have nd:=sc_24.nd
 refine ⟨_,(sc_cons (sc_set (i:=2) (ec_call F_23 T.m_23 T.k_23 T.d_23 (hr.mono (by decide)) (ac_cons (ec_p (et_v 0)) (ac_cons (ec_p et_int) ac_nil)) (fun h=>pe_call F_23 (hr.mono (by decide)) rfl T.m_23 T.k_23 T.d_23 .nil pass0 h)) (fun h=>ps_set (i:=2) nd rfl (by first | exact Or.inl rfl | exact Or.inr rfl) h))
 (sc_cons (sc_set (i:=3) (ec_call F_23 T.m_23 T.k_23 T.d_23 (hr.mono (by decide)) (ac_cons (ec_p (et_v 0)) (ac_cons (ec_p et_int) ac_nil)) (fun h=>pe_call F_23 (hr.mono (by decide)) rfl T.m_23 T.k_23 T.d_23 .nil pass0 h)) (fun h=>ps_set (i:=3) nd rfl (by first | exact Or.inl rfl | exact Or.inr rfl) h))
 (sc_cons (sc_p (ss 4 nd et_str))
 (sc_cons (sc_p (st_setN (i:=5) nd rfl (by first | exact Or.inl rfl | exact Or.inr rfl) (et_lst (at_consts rfl))))
 (sc_cons (sc_p (st_if (tt_cmp op_eq o_eq (et_v 2) et_int)
 (st_one (st_ret (et_cb c_tuple (at_cons (et_lc (fr:=[none,some 5,some 3]) (N':=["_law_k","_law_words","_law_first_here"]) (it_range (at_cons (et_v 1) at_nil) (fun h=>pi_range1 rfl T.b_range h)) (fun b=>⟨(gt_name (pn 0 (show List.Nodup (["_law_k","_law_words","_law_first_here"]:List Str) from by decide +kernel))),if_nil,(et_ix ix_seq o_ix (et_v 1) (et_op op_mod o_I (et_op op_addAny o_add (et_v 2) (et_op op_mulAny o_mul et_int (et_v 0))) et_int))⟩) (fun hi hY=>pe_lcc (show lcChk _ (defScope (top 29)) ["_law_tape_here","_law_many","_law_way","_law_first_here","_law_letters","_law_words","_law_base","_law_names_here","_law_at"] ["_law_k","_law_words","_law_first_here"] [none,some 5,some 3]=true from by decide +kernel) rfl hi hY)) at_nil) (fun h=>pe_callTy call_tuple_of rfl T.b_tuple bl_tuple h))))
 st_nil))
 (sc_cons (sc_set (i:=6) (ec_join et_str (ac_cons (ec_lc (fr:=[none,some 4,some 0]) (N':=["_law_k","_law_letters","_law_tape_here"]) (it_range (at_cons et_int at_nil) (fun h=>pi_range1 rfl T.b_range h)) (fun b=>⟨(gt_name (pn 0 (show List.Nodup (["_law_k","_law_letters","_law_tape_here"]:List Str) from by decide +kernel))),if_nil,(ec_ix ix_seq o_ix (ec_p (et_v 1)) (ec_call F_23 T.m_23 T.k_23 T.d_23 (hr.mono (by decide)) (ac_cons (ec_p (et_v 2)) (ac_cons (ec_p et_int) ac_nil)) (fun h=>pe_call F_23 (hr.mono (by decide)) rfl T.m_23 T.k_23 T.d_23 .nil pass0 h)))⟩) (fun hi hY=>pe_lcc (show lcChk _ (defScope (top 29)) ["_law_tape_here","_law_many","_law_way","_law_first_here","_law_letters","_law_words","_law_base","_law_names_here","_law_at"] ["_law_k","_law_letters","_law_tape_here"] [none,some 4,some 0]=true from by decide +kernel) rfl hi hY)) ac_nil) (fun h ha=>pe_bm PySem.F.plainAttrs_str PySem.F.slot_str_join PySem.F.type_str_join mt_join h ha)) (fun h=>ps_set (i:=6) nd rfl (by first | exact Or.inl rfl | exact Or.inr rfl) h))
 (sc_cons (sc_p (st_if (tt_cmp op_eq o_eq (et_v 2) et_int)
 (st_cons (st_setlc (i:=7) (fr:=[none,some 6]) (N':=["_law_k","_law_base"]) (it_range (at_cons (et_v 1) at_nil) (fun h=>pi_range1 rfl T.b_range h)) (fun b=>⟨(gt_name (pn 0 (show List.Nodup (["_law_k","_law_base"]:List Str) from by decide +kernel))),if_nil,(et_slice sl_any o_sl (et_v 1) ot_none (ot_some (et_op op_addAny o_add (et_v 0) et_int)))⟩) (fun hi hY=>ps_setlcc (show lcChk _ (defScope (top 29)) ["_law_tape_here","_law_many","_law_way","_law_first_here","_law_letters","_law_words","_law_base","_law_names_here","_law_at"] ["_law_k","_law_base"] [none,some 6]=true from by decide +kernel) nd rfl (by first | exact Or.inl rfl | exact Or.inr rfl) rfl hi hY rfl))
 (st_one (st_ret (et_cb c_tuple (at_cons (et_op op_addAny o_add (et_slice sl_any o_sl (et_v 7) (ot_some (et_op op_mod o_I (et_v 3) (et_v 1))) ot_none) (et_slice sl_any o_sl (et_v 7) ot_none (ot_some (et_op op_mod o_I (et_v 3) (et_v 1))))) at_nil) (fun h=>pe_callTy call_tuple_of rfl T.b_tuple bl_tuple h)))))
 st_nil))
 (sc_cons (sc_set (i:=8) (ec_call F_23 T.m_23 T.k_23 T.d_23 (hr.mono (by decide)) (ac_cons (ec_p (et_v 0)) (ac_cons (ec_p et_int) ac_nil)) (fun h=>pe_call F_23 (hr.mono (by decide)) rfl T.m_23 T.k_23 T.d_23 .nil pass0 h)) (fun h=>ps_set (i:=8) nd rfl (by first | exact Or.inl rfl | exact Or.inr rfl) h))
 (sc_one (sc_p (st_ret (et_cb c_tuple (at_cons (et_lc (fr:=[none,some 6,some 4,some 8,some 3]) (N':=["_law_k","_law_base","_law_letters","_law_at","_law_first_here"]) (it_range (at_cons (et_v 1) at_nil) (fun h=>pi_range1 rfl T.b_range h)) (fun b=>⟨(gt_name (pn 0 (show List.Nodup (["_law_k","_law_base","_law_letters","_law_at","_law_first_here"]:List Str) from by decide +kernel))),if_nil,(et_op op_addAny o_add (et_op op_addAny o_add (et_slice sl_any o_sl (et_v 1) ot_none (ot_some (et_v 3))) (et_ix ix_seq o_ix (et_v 2) (et_op op_mod o_I (et_op op_addAny o_add (et_v 4) (et_op op_mulAny o_mul et_int (et_v 0))) et_int))) (et_slice sl_any o_sl (et_v 1) (ot_some (et_v 3)) ot_none))⟩) (fun hi hY=>pe_lcc (show lcChk _ (defScope (top 29)) ["_law_tape_here","_law_many","_law_way","_law_first_here","_law_letters","_law_words","_law_base","_law_names_here","_law_at"] ["_law_k","_law_base","_law_letters","_law_at","_law_first_here"] [none,some 6,some 4,some 8,some 3]=true from by decide +kernel) rfl hi hY)) at_nil) (fun h=>pe_callTy call_tuple_of rfl T.b_tuple bl_tuple h))))))))))))),?_⟩
 show cSeq _ _ _ _ _ [.val (tpD Tp),.val (.int m),.un,.un,.un,.un,.un,.un,.un]
 refine cq_setR (fun n1 d=>n1=c+1/\∃ w:Int,d=.int w) (fun q hq=>⟨_,rfl,_,rfl,3,rfl,by decide,by decide,by omega,fun r _ _=>hq _ _ ⟨rfl,r,rfl⟩⟩) ?_
 rintro c1 _ ⟨hc1,w,rfl⟩
 refine cq_setR (fun n1 d=>n1=c+2/\∃ s:Nat,d=.int (s:Int)) (fun q hq=>⟨_,rfl,_,rfl,26,rfl,by decide,by decide,by omega,fun r h0 _=>hq _ _ ⟨by omega,(natOf h0).imp fun _ e=>by rw [e]⟩⟩) ?_
 rintro c2 _ ⟨hc2,s,rfl⟩
 refine cq_pure (seq_set (.str letters) (fun q hq=>hq) ?_)
 refine cq_pure (seq_set (.list (words10.map PyData.str)) (fun q hq=>⟨by decide,hq⟩) ?_)
 refine cq_pure (seq_if (fun _=>True) (fun q hq=>⟨_,rfl,hq _ trivial⟩) (fun _=>?_) fun _=>?_)
 ·show eCall (f1 gTuple) _ _ _
  dsimp only [eCall,aCons,aNil]
  refine lcx_map (ts:=intsTo m) (fun R h=>⟨_,rfl,(m:Int),rfl,by omega,by omega,by simpa using h⟩) (fun x=>match x with | .int j=>.str (wAt ((s+3*j.toNat) % 10)) | _=>.none) (by rw [intsTo_len];omega) (fun x q hx hq=>?_) ?_
  ·obtain ⟨j,hj,rfl⟩:=List.mem_map.mp hx
   have hj':j<m:=by simpa using hj
   have e:((s:Int)+3*(j:Int)) % 10=(((s+3*j) % 10:Nat):Int):=by omega
   have hat:L2.atI (words10.map PyData.str) (((s:Int)+3*(j:Int)) % 10)=some (.str (wAt ((s+3*j) % 10))):=by
    rw [e];exact L2.atI_nat (by rw [List.getElem?_map,wAt_get (Nat.mod_lt _ (by decide))];rfl)
   exact ⟨_,rfl,_,rfl,_,rfl,.inl ⟨by decide,by decide⟩,(show (0:Int)<10 by decide),_,hat,hq⟩
  ·unfold intsTo
   rw [List.map_map]
   have:=h c2 _ (by omega) (nms_words10 (s:=s) (m:=m) (by omega))
   rw [List.map_map] at this
   exact this
 ·try unfold sNext
  dsimp only
  refine cq_setR (fun n1 d=>n1<=c+9/\∃ z:Str,d=.str z/\z.cps.toList.length=7/\∀ c∈z.cps.toList,c∈letters.cps.toList) (fun q hq=>?_) ?_
  ·refine ⟨_,rfl,?_⟩
   refine clc_in (ts:=intsTo 7) (fun R h=>⟨7,rfl,by decide,by decide,h⟩) (fun _ _ y=>∃ c,c∈letters.cps.toList/\y=.str ⟨#[c]⟩) 1 (by decide) (fun j k x q hx hk hq=>?_) fun k ys hk hl' hy=>?_
   ·rw [Nat.one_mul] at hk
    have hj:=(intsTo_get hx).1
    refine ⟨_,rfl,_,rfl,_,rfl,26,rfl,by decide,by decide,by omega,fun r h0 h1=>?_⟩
    obtain ⟨c,hc,hcc,_⟩:=atI_in (xs:=letters.cps.toList) (i:=r) h0 (by rw [letters_len];exact h1)
    exact ⟨by decide,c,hcc,hq _ _ (Nat.le_refl _) ⟨c,hc,rfl⟩⟩
   ·obtain ⟨cs,rfl,hcl⟩:=signs_of (ys:=ys) fun y hy'=>by
     obtain ⟨j,hj,rfl⟩:=List.mem_iff_getElem.mp hy'
     have hjt:j<(intsTo 7).length:=by rw [<- hl'];exact hj
     exact hy j (intsTo 7)[j] _ (List.getElem?_eq_getElem hjt) (List.getElem?_eq_getElem hj)
    have hl7:cs.length=7:=by rw [List.length_map,intsTo_len] at hl';exact hl'
    rw [intsTo_len] at hk
    refine ⟨cs.map fun c=>⟨#[c]⟩,by rw [List.map_map];rfl,?_,hq _ _ ⟨by omega,_,rfl,?_,?_⟩⟩
    ·rw [List.length_map,List.map_map,hl7]
     have:(List.map ((fun x:Str=>x.length) ∘ fun c=>(⟨#[c]⟩:Str)) cs).sum=cs.length:=by
      clear hl7 hl' hy hcl
      induction cs with
      | nil=>rfl
      | cons a l ih=>rw [List.map_cons,List.sum_cons,ih,List.length_cons];show 1+_=_;omega
     rw [this,hl7]
     decide
    ·rw [show (Txt.join (Str.ofString "") (cs.map fun c=>⟨#[c]⟩)).cps.toList=cs from join_signs cs];exact hl7
    ·rw [show (Txt.join (Str.ofString "") (cs.map fun c=>⟨#[c]⟩)).cps.toList=cs from join_signs cs];exact hcl
  rintro c3 _ ⟨hc3,z,rfl,hz7,hzl⟩
  have hz:z.length<=100000:=by
   have:z.length=z.cps.toList.length:=by simp [Str.length]
   omega
  refine cq_pure (seq_if (fun _=>True) (fun q hq=>⟨_,rfl,hq _ trivial⟩) (fun _=>?_) fun _=>?_)
  ·refine seq_set (.list (((List.range m).map fun j:Nat=>Txt.slice z none (some ((j:Int)+1))).map PyData.str)) (fun q hq=>?_) ?_
   ·refine lcx_map (ts:=intsTo m) (fun R h=>⟨_,rfl,(m:Int),rfl,by omega,by omega,by simpa using h⟩) (fun x=>match x with | .int j=>.str (Txt.slice z none (some (j+1))) | _=>.none) (by rw [intsTo_len];omega) (fun x q hx hq=>?_) ?_
    ·obtain ⟨j,hj,rfl⟩:=List.mem_map.mp hx
     exact ⟨_,rfl,_,rfl,hz,hq⟩
    ·unfold intsTo
     rw [List.map_map]
     rw [List.map_map] at hq
     exact hq
   have hnb:=nms_pref hz7 hzl (m:=m) (by omega)
   have e:(s:Int) % (m:Int)=((s % m:Nat):Int):=by omega
   have fin:∀ ys:List Str,Nms m ys->(cutD (ys.map PyData.str) (some ((s:Int) % (m:Int))) none).length+(cutD (ys.map PyData.str) none (some ((s:Int) % (m:Int)))).length<=100000/\Q c3 (.tuple (cutD (ys.map PyData.str) (some ((s:Int) % (m:Int))) none++cutD (ys.map PyData.str) none (some ((s:Int) % (m:Int))))):=fun ys hy=>by
    have h1:=hy.1
    rw [e,cut_map,cut_map,<- List.map_append,List.length_map,List.length_map,cut_sn,cut_ns,List.length_drop,List.length_take]
    exact ⟨by omega,h _ _ (by omega) (nms_turnW hy (s % m))⟩
   have hm0:(0:Int)<(m:Int):=by omega
   exact ⟨_,rfl,_,rfl,_,rfl,hm0,_,rfl,_,rfl,_,rfl,hm0,fin _ hnb⟩
  ·try unfold sNext
   dsimp only
   refine cq_setR (fun n1 d=>n1<=c+10/\∃ t:Nat,d=.int (t:Int)) (fun q hq=>⟨_,rfl,_,rfl,8,rfl,by decide,by decide,by omega,fun r h0 _=>hq _ _ ⟨by omega,(natOf h0).imp fun _ e=>by rw [e]⟩⟩) ?_
   rintro c4 _ ⟨hc4,t,rfl⟩
   show eCall (f1 gTuple) _ _ _
   dsimp only [eCall,aCons,aNil]
   refine lcx_map (ts:=intsTo m) (fun R h=>⟨_,rfl,(m:Int),rfl,by omega,by omega,by simpa using h⟩) (fun x=>match x with | .int j=>.str (insAt z t (cAt ((s+7*j.toNat) % 26))) | _=>.none) (by rw [intsTo_len];omega) (fun x q hx hq=>?_) ?_
   ·obtain ⟨j,hj,rfl⟩:=List.mem_map.mp hx
    have e:((s:Int)+7*(j:Int)) % 26=(((s+7*j) % 26:Nat):Int):=by omega
    have hc:=cAt_get (i:=(s+7*j) % 26) (Nat.mod_lt _ (by decide))
    have hca:L2.atI letters.cps.toList (((s:Int)+7*(j:Int)) % 26)=some (cAt ((s+7*j) % 26)):=by rw [e];exact L2.atI_nat hc
    obtain ⟨w1,w2⟩:=insAt_len z hz7 t (cAt ((s+7*j) % 26))
    exact ⟨_,rfl,_,rfl,hz,_,rfl,_,rfl,_,rfl,.inl ⟨by decide,by decide⟩,(show (0:Int)<26 by decide),by decide,_,hca,w1,_,rfl,_,rfl,hz,w2,hq⟩
   ·unfold intsTo
    rw [List.map_map]
    have:=h c4 _ (by omega) (nms_ins hz7 hzl (t:=t) (s:=s) (m:=m) (by omega))
    rw [List.map_map] at this
    exact this

theorem sc_25:FnScope ["_law_tape_here","_law_fields","_law_values","_law_answers","_law_names_here"] ["_law_tape_here","_law_fields","_law_values"] (defScope (top 30)):=fsc
theorem ok_25 (T:Txt K mg A)
  (F_23:FnOk P w K mg base CX0 1 A.a_23 A.f_23 ["_law_tape_here","_law_many"] (liftSpC K sp_23))
  (F_24:FnOk P w K mg base CX0 2 A.a_24 A.f_24 ["_law_tape_here","_law_many"] (liftSpC K sp_24)):FnOk P w K mg base CX0 3 A.a_25 A.f_25 ["_law_tape_here","_law_fields","_law_values"] (liftSpC K sp_25):=by
 refine fnC T.F_25 sc_25 (fun τ n ds Q h=>by obtain ⟨f,v,rfl,hf1,hf5,hv2,hv5,hc,h⟩:=h;rfl) fun cdv Ar outer s H E hr Tp c ds Q hdig h=>?_
 obtain ⟨f,v,rfl,hf1,hf5,hv2,hv5,hc,h⟩:=h
 have nd:=sc_25.nd
 refine ⟨_,(sc_cons (sc_set (i:=3) (ec_call F_24 T.m_24 T.k_24 T.d_24 (hr.mono (by decide)) (ac_cons (ec_p (et_v 0)) (ac_cons (ec_ix ix_seq o_ix (ec_p (et_lst (at_cons et_int (at_cons et_int (at_cons et_int (at_cons et_int at_nil)))))) (ec_call F_23 T.m_23 T.k_23 T.d_23 (hr.mono (by decide)) (ac_cons (ec_p (et_v 0)) (ac_cons (ec_p et_int) ac_nil)) (fun h=>pe_call F_23 (hr.mono (by decide)) rfl T.m_23 T.k_23 T.d_23 .nil pass0 h))) ac_nil)) (fun h=>pe_call F_24 (hr.mono (by decide)) rfl T.m_24 T.k_24 T.d_24 .nil pass0 h)) (fun h=>ps_set (i:=3) nd rfl (by first | exact Or.inl rfl | exact Or.inr rfl) h))
 (sc_cons (sc_set (i:=4) (ec_call F_24 T.m_24 T.k_24 T.d_24 (hr.mono (by decide)) (ac_cons (ec_p (et_v 0)) (ac_cons (ec_p (et_v 1)) ac_nil)) (fun h=>pe_call F_24 (hr.mono (by decide)) rfl T.m_24 T.k_24 T.d_24 .nil pass0 h)) (fun h=>ps_set (i:=4) nd rfl (by first | exact Or.inl rfl | exact Or.inr rfl) h))
 (sc_one (sc_ret (ec_tup (ac_cons (ec_cb c_tuple (ac_cons (ec_lc (fr:=[none,some 0,some 2]) (N':=["_law_name","_law_tape_here","_law_values"]) (it_val (et_v 4)) (fun b=>⟨(gt_name (pn 0 (show List.Nodup (["_law_name","_law_tape_here","_law_values"]:List Str) from by decide +kernel))),if_nil,(ec_tup (ac_cons (ec_p (et_v 0)) (ac_cons (ec_call F_24 T.m_24 T.k_24 T.d_24 (hr.mono (by decide)) (ac_cons (ec_p (et_v 1)) (ac_cons (ec_op op_addAny o_add (ec_p et_int) (ec_call F_23 T.m_23 T.k_23 T.d_23 (hr.mono (by decide)) (ac_cons (ec_p (et_v 1)) (ac_cons (ec_p (et_op op_sub o_I0 (et_v 2) et_int)) ac_nil)) (fun h=>pe_call F_23 (hr.mono (by decide)) rfl T.m_23 T.k_23 T.d_23 .nil pass0 h))) ac_nil)) (fun h=>pe_call F_24 (hr.mono (by decide)) rfl T.m_24 T.k_24 T.d_24 .nil pass0 h)) ac_nil)))⟩) (fun hi hY=>pe_lcc (show lcChk _ (defScope (top 30)) ["_law_tape_here","_law_fields","_law_values","_law_answers","_law_names_here"] ["_law_name","_law_tape_here","_law_values"] [none,some 0,some 2]=true from by decide +kernel) rfl hi hY)) ac_nil) (fun h=>pe_callTy call_tuple_of rfl T.b_tuple bl_tuple h)) (ac_cons (ec_p (et_v 3)) ac_nil))))))),?_⟩
 show cSeq _ _ _ _ _ [.val (tpD Tp),.val (.int f),.val (.int v),.un,.un]
 refine cq_setR (fun n1 d=>n1<=c+13/\∃ (m:Nat) (ys:List Str),2<=m/\m<=4/\Nms m ys/\d=.tuple (ys.map PyData.str)) (fun q hq=>⟨_,rfl,by decide,_,rfl,_,rfl,4,rfl,by decide,by decide,by omega,fun r h0 h1=>?_⟩) ?_
 ·obtain ⟨d,hm,hat,_⟩:=atI_in (xs:=[PyData.int 2,.int 3,.int 2,.int 4]) (i:=r) h0 h1
  have:∃ m:Nat,d=.int (m:Int)/\2<=m/\m<=4:=by
   simp only [List.mem_cons,List.not_mem_nil,or_false] at hm
   rcases hm with rfl | rfl | rfl | rfl
   ·exact ⟨2,rfl,by decide,by decide⟩
   ·exact ⟨3,rfl,by decide,by decide⟩
   ·exact ⟨2,rfl,by decide,by decide⟩
   ·exact ⟨4,rfl,by decide,by decide⟩
  obtain ⟨m,rfl,hm2,hm4⟩:=this
  exact ⟨_,hat,_,rfl,m,rfl,by omega,by omega,by omega,fun n' ys hn hy=>hq _ _ ⟨by omega,m,ys,hm2,hm4,hy,rfl⟩⟩
 rintro c1 _ ⟨hc1,ma,an,hma2,hma4,han,rfl⟩
 refine cq_setR (fun n1 d=>n1<=c+25/\∃ ys:List Str,Nms f ys/\d=.tuple (ys.map PyData.str)) (fun q hq=>⟨_,rfl,_,rfl,_,rfl,f,rfl,hf1,hf5,by omega,fun n' ys hn hy=>hq _ _ ⟨by omega,ys,hy,rfl⟩⟩) ?_
 rintro c2 _ ⟨hc2,ns,hns,rfl⟩
 have hnl:=hns.1
 dsimp only [cRet,cTup,cCons,cCall]
 refine clc_in (ts:=ns.map PyData.str) (fun R h=>⟨_,rfl,_,rfl,h⟩) (fun _ x y=>∃ nm vs,x=.str nm/\y=fldD (nm,vs)/\(2<=vs.length/\vs.length<=v/\Nms vs.length vs)) 13 (by rw [List.length_map];omega) (fun j k x q hx hk hq=>?_) fun k ys hk hl' hy=>?_
 ·have hj:j<ns.length:=by have:=(List.getElem?_eq_some_iff.mp hx).1;rw [List.length_map] at this;exact this
  obtain ⟨nm,_,rfl⟩:=List.mem_map.mp (List.mem_of_getElem? hx)
  refine ⟨_,rfl,_,rfl,_,rfl,_,rfl,_,rfl,(v:Int)-1,rfl,by omega,by omega,by omega,fun r h0 h1=>?_⟩
  obtain ⟨t,rfl⟩:=natOf h0
  have e:[PyData.int (2+(t:Int))]=[.int ((2+t:Nat):Int)]:=by
   have:(2:Int)+(t:Int)=((2+t:Nat):Int):=by omega
   rw [this]
  exact ⟨_,rfl,2+t,e,by omega,by omega,by omega,fun n' vs hn hv=>⟨(Nat.le_of_ble_eq_true rfl),hq _ _ (by omega) ⟨nm,vs,rfl,rfl,by rw [hv.1];omega,by rw [hv.1];omega,by rw [hv.1];exact hv⟩⟩⟩
 ·rw [List.length_map] at hl' hk
  obtain ⟨fs,rfl,h1,h2⟩:=flds_of ns ys hl' hy
  have hfl:fs.length=f:=by rw [<- hnl,<- h1,List.length_map]
  have hal:=han.1
  refine ⟨_,rfl,(Nat.le_of_ble_eq_true rfl),h k fs an (by omega) ⟨by omega,by omega,by rw [h1,hfl];exact hns,fun x hx=>⟨(h2 x hx).1,by have:=(h2 x hx).2.1;omega,(h2 x hx).2.2⟩,by omega,by omega,by rw [hal];exact han⟩ hfl fun x hx=>(h2 x hx).2.1⟩

theorem sc_26:FnScope ["_law_tape_here","_law_form_here","_law_case_here","_law_name","_law_values","_law_at"] ["_law_tape_here","_law_form_here"] (defScope (top 31)):=fsc
theorem ok_26 (T:Txt K mg A)
  (F_23:FnOk P w K mg base CX0 1 A.a_23 A.f_23 ["_law_tape_here","_law_many"] (liftSpC K sp_23)):FnOk P w K mg base CX0 2 A.a_26 A.f_26 ["_law_tape_here","_law_form_here"] (liftSpC K sp_26):=by
 refine fnC T.F_26 sc_26 (fun τ n ds Q h=>by obtain ⟨fs,an,rfl,F,hc,h⟩:=h;rfl) fun cdv Ar outer s H E hr Tp c ds Q hdig h=>?_
 obtain ⟨fs,an,rfl,F,hc,h⟩:=h
 have nd:=sc_26.nd
 refine ⟨_,(sc_cons (sc_p (ss 2 nd (et_tup at_nil)))
 (sc_cons (sc_for (it_val (et_ix ix_seq o_ix (et_v 1) et_int)) (gt_pair (pg_tup rfl (pgs_cons (pn 3 nd) (pgs_cons (pn 4 nd) pgs_nil))))
 (sc_cons (sc_set (i:=5) (ec_call F_23 T.m_23 T.k_23 T.d_23 (hr.mono (by decide)) (ac_cons (ec_p (et_v 0)) (ac_cons (ec_p (et_op op_mulAny o_mul et_int (et_cb c_len (at_cons (et_v 4) at_nil) (fun h=>pe_callB call_lenAny rfl T.b_len bl_len h)))) ac_nil)) (fun h=>pe_call F_23 (hr.mono (by decide)) rfl T.m_23 T.k_23 T.d_23 .nil pass0 h)) (fun h=>ps_set (i:=5) nd rfl (by first | exact Or.inl rfl | exact Or.inr rfl) h))
 (sc_one (sc_p (ss 2 nd (et_op op_addAny o_add (et_v 2) (et_tup (at_cons (et_if (tt_cmp op_eq o_eq (et_op op_mod o_I (et_v 5) et_int) et_int) et_non (et_ix ix_seq o_ix (et_v 4) (et_op op_fdiv o_I (et_v 5) et_int))) at_nil))))))) (fun hi hg hb=>ps_for PassesOwn.never rfl hi hg hb))
 (sc_one (sc_p (st_ret (et_v 2)))))),?_⟩
 show cSeq _ _ _ _ _ [.val (tpD Tp),.val (frmD fs an),.un,.un,.un,.un]
 have n5:=F.n5
 refine cq_pure (seq_set (.tuple []) (fun q hq=>⟨(Nat.le_of_ble_eq_true rfl),hq⟩) ?_)
 refine cq_for (ts:=fs.map fldD) (fun R h=>⟨_,rfl,_,rfl,_,rfl,h⟩)
  (fun k m σ=>∃ (cs:List D) (s3 s4 s5:Sl),σ=[.val (tpD Tp),.val (frmD fs an),.val (.tuple cs),s3,s4,s5]/\m<=c+k/\cs.length=k/\∀ (j:Nat) f d,fs[j]?=some f->cs[j]?=some d->okV f d=true) ⟨[],_,_,_,rfl,Nat.le_refl _,rfl,fun j f d _ h=>by simp at h⟩ (fun k m x σ' hx hP=>?_) fun m σ' hP=>?_
 ·obtain ⟨cs,s3,s4,s5,rfl,hm,hcl,hcv⟩:=hP
  have hk:k<fs.length:=by have:=(List.getElem?_eq_some_iff.mp hx).1;rw [List.length_map] at this;exact this
  have ex:x=fldD fs[k]:=by rw [List.getElem?_map,List.getElem?_eq_getElem hk] at hx;exact (Option.some.inj hx).symm
  subst ex
  have hfk:fs[k]?=some fs[k]:=List.getElem?_eq_getElem hk
  obtain ⟨v2,v5,hvv⟩:=F.vs _ (List.getElem_mem hk)
  generalize fs[k]=f at *
  refine ⟨.str f.1,.tuple (f.2.map PyData.str),rfl,?_⟩
  refine cq_setR (fun n1 d=>n1=m+1/\∃ t:Nat,d=.int (t:Int)/\t<5*f.2.length) (fun q hq=>⟨_,rfl,_,rfl,.inl ⟨by decide,by decide⟩,_,rfl,5*((f.2.map PyData.str).length:Int),rfl,by rw [List.length_map];omega,by rw [List.length_map];omega,by omega,fun r h0 h1=>hq _ _ ⟨rfl,?_⟩⟩) ?_
  ·obtain ⟨t,rfl⟩:=natOf h0
   rw [List.length_map] at h1
   exact ⟨t,rfl,by omega⟩
  rintro m1 _ ⟨hm1,t,rfl,ht⟩
  have e5:((t:Int) / 5)=((t / 5:Nat):Int):=by omega
  have hat:L2.atI (f.2.map PyData.str) ((t:Int) / 5)=some (.str f.2[t / 5]):=by rw [e5];exact atI_strs (by omega)
  have fin:∀ d,okV f d=true->∃ (cs':List D) (s3 s4 s5:Sl),[Sl.val (tpD Tp),.val (frmD fs an),.val (.tuple (cs++[d])),.val (.str f.1),.val (.tuple (f.2.map PyData.str)),.val (.int (t:Int))]=[.val (tpD Tp),.val (frmD fs an),.val (.tuple cs'),s3,s4,s5]/\m1<=c+(k+1)/\cs'.length=k+1/\∀ (j:Nat) f d,fs[j]?=some f->cs'[j]?=some d->okV f d=true:=fun d hd=>by
   refine ⟨cs++[d],_,_,_,rfl,by omega,by simp [hcl],fun j g e hg he=>?_⟩
   by_cases hj:j<k
   ·rw [List.getElem?_append_left (by omega)] at he
    exact hcv j g e hg he
   ·rw [List.getElem?_append_right (by omega)] at he
    have:j=k:=by
     by_cases z:j=k
     ·exact z
     ·have:j-cs.length≠0:=by omega
      cases q:j-cs.length with
      | zero=>exact absurd q this
      | succ n=>rw [q] at he;simp at he
    subst this
    rw [hfk] at hg
    cases hg
    simp [hcl] at he
    subst he
    exact hd
  by_cases hz:(t:Int) % 5=4
  ·refine one_set (.tuple (cs++[.none])) (fun q hq=>⟨_,rfl,_,rfl,(show (0:Int)<5 by decide),by
    show (if decide ((t:Int) % 5=4)=true then _ else _)
    rw [if_pos (decide_eq_true hz)]
    exact ⟨(Nat.le_of_ble_eq_true rfl),by show cs.length+1<=_;omega,hq⟩⟩) ?_
   dsimp only
   exact fin .none rfl
  ·refine one_set (.tuple (cs++[.str f.2[t / 5]])) (fun q hq=>⟨_,rfl,_,rfl,(show (0:Int)<5 by decide),by
    show (if decide ((t:Int) % 5=4)=true then _ else _)
    rw [if_neg (by simpa using hz)]
    exact ⟨_,rfl,_,rfl,⟨by decide,by decide⟩,_,hat,(Nat.le_of_ble_eq_true rfl),by show cs.length+1<=_;omega,hq⟩⟩) ?_
   dsimp only
   have hmem:f.2[t / 5]∈f.2:=List.getElem_mem _
   exact fin (.str f.2[t / 5]) (decide_eq_true hmem)
 ·obtain ⟨cs,s3,s4,s5,rfl,hm,hcl,hcv⟩:=hP
  rw [List.length_map] at hm hcl
  exact ⟨_,rfl,h m cs (by omega) (case_of hcl hcv)⟩

theorem sc_27:FnScope ["_law_tape_here","_law_form_here","_law_many","_law_rows_here","_law_k","_law_case_here","_law_at","_law_row"] ["_law_tape_here","_law_form_here","_law_many"] (defScope (top 32)):=fsc
theorem ok_27 (T:Txt K mg A)
  (F_26:FnOk P w K mg base CX0 2 A.a_26 A.f_26 ["_law_tape_here","_law_form_here"] (liftSpC K sp_26))
  (F_23:FnOk P w K mg base CX0 1 A.a_23 A.f_23 ["_law_tape_here","_law_many"] (liftSpC K sp_23)):FnOk P w K mg base CX0 3 A.a_27 A.f_27 ["_law_tape_here","_law_form_here","_law_many"] (liftSpC K sp_27):=by
 refine fnC T.F_27 sc_27 (fun τ n ds Q h=>by obtain ⟨fs,an,m,rfl,F,hm60,hc,h⟩:=h;rfl) fun cdv Ar outer s H E hr Tp c ds Q hdig h=>?_
 obtain ⟨fs,an,m,rfl,F,hm60,hc,h⟩:=h
 have nd:=sc_27.nd
 refine ⟨_,(sc_cons (sc_p (st_own (i:=3) at_nil (fun h=>ps_set (i:=3) nd rfl (by first | exact Or.inl rfl | exact Or.inr rfl) h)))
 (sc_cons (sc_for (it_range (at_cons (et_v 2) at_nil) (fun h=>pi_range1 rfl T.b_range h)) (gt_name (pn 4 nd))
 (sc_cons (sc_set (i:=5) (ec_call F_26 T.m_26 T.k_26 T.d_26 (hr.mono (by decide)) (ac_cons (ec_p (et_v 0)) (ac_cons (ec_p (et_v 1)) ac_nil)) (fun h=>pe_call F_26 (hr.mono (by decide)) rfl T.m_26 T.k_26 T.d_26 .nil pass0 h)) (fun h=>ps_set (i:=5) nd rfl (by first | exact Or.inl rfl | exact Or.inr rfl) h))
 (sc_cons (sc_set (i:=6) (ec_call F_23 T.m_23 T.k_23 T.d_23 (hr.mono (by decide)) (ac_cons (ec_p (et_v 0)) (ac_cons (ec_p (et_cb c_len (at_cons (et_ix ix_seq o_ix (et_v 1) et_int) at_nil) (fun h=>pe_callB call_lenAny rfl T.b_len bl_len h))) ac_nil)) (fun h=>pe_call F_23 (hr.mono (by decide)) rfl T.m_23 T.k_23 T.d_23 .nil pass0 h)) (fun h=>ps_set (i:=6) nd rfl (by first | exact Or.inl rfl | exact Or.inr rfl) h))
 (sc_cons (sc_if (wc_pt (wc_and (tc_p (tt_cmp op_isNot2 o_isNot2 (et_ix ix_seq o_ix (et_v 5) et_int) et_non)) (wc_and1 (tc_cmp op_eq o_eq (ec_call F_23 T.m_23 T.k_23 T.d_23 (hr.mono (by decide)) (ac_cons (ec_p (et_v 0)) (ac_cons (ec_p et_int) ac_nil)) (fun h=>pe_call F_23 (hr.mono (by decide)) rfl T.m_23 T.k_23 T.d_23 .nil pass0 h)) (ec_p et_int)))))
 (sc_one (sc_p (ss 6 nd (et_op op_mod o_I (et_index (et_ix ix_seq o_ix (et_ix ix_seq o_ix (et_ix ix_seq o_ix (et_v 1) et_int) et_int) et_int) (at_cons (et_ix ix_seq o_ix (et_v 5) et_int) at_nil) (fun h ha=>pe_bm PySem.F.plainAttrs_tuple PySem.F.slot_tuple_index PySem.F.type_tuple_index (mt_index hr) h ha)) (et_cb c_len (at_cons (et_ix ix_seq o_ix (et_v 1) et_int) at_nil) (fun h=>pe_callB call_lenAny rfl T.b_len bl_len h))))))
 sc_nil)
 (sc_cons (sc_p (ss 7 nd (et_tup (at_cons (et_v 5) (at_cons (et_ix ix_seq o_ix (et_ix ix_seq o_ix (et_v 1) et_int) (et_v 6)) at_nil)))))
 (sc_cons (sc_if (wc_pt (wc_and (tc_p (tt_cmp op_gt o_B0 (et_v 4) et_int)) (wc_and1 (tc_cmp op_eq o_eq (ec_call F_23 T.m_23 T.k_23 T.d_23 (hr.mono (by decide)) (ac_cons (ec_p (et_v 0)) (ac_cons (ec_p et_int) ac_nil)) (fun h=>pe_call F_23 (hr.mono (by decide)) rfl T.m_23 T.k_23 T.d_23 .nil pass0 h)) (ec_p et_int)))))
 (sc_one (sc_set (i:=7) (ec_ixOwn (i:=3) (pv 3) (ec_call F_23 T.m_23 T.k_23 T.d_23 (hr.mono (by decide)) (ac_cons (ec_p (et_v 0)) (ac_cons (ec_p (et_v 4)) ac_nil)) (fun h=>pe_call F_23 (hr.mono (by decide)) rfl T.m_23 T.k_23 T.d_23 .nil pass0 h))) (fun h=>ps_set (i:=7) nd rfl (by first | exact Or.inl rfl | exact Or.inr rfl) h)))
 sc_nil)
 (sc_one (sc_p (st_app (i:=3) (pv 3) (et_v 7) (pb:=fun h=>ps_expr (pe_bm PySem.F.plainAttrs_list PySem.F.slot_list_append PySem.F.type_list_append mt_append (pv 3) h)))))))))) (fun hi hg hb=>ps_for PassesOwn.never rfl hi hg hb))
 (sc_share 3 (sc_one (sc_p (st_ret (et_v 3))))))),?_⟩
 show cSeq _ _ _ _ _ [.val (tpD Tp),.val (frmD fs an),.val (.int m),.un,.un,.un,.un,.un]
 have n1:=F.n1
 have a2:=F.a2
 have a4:=F.a4
 refine cq_pure (seq_own [] (by decide) (fun q hq=>hq) ?_)
 refine cq_for (ts:=intsTo m) (fun R h=>⟨_,rfl,(m:Int),rfl,by omega,by omega,by simpa using h⟩)
  (fun k c1 σ=>∃ (rs:List (List D×Str)) (s4 s5 s6 s7:Sl),σ=[.val (tpD Tp),.val (frmD fs an),.val (.int m),.own (rs.map rowD),s4,s5,s6,s7]/\c1<=c+10*k/\rs.length=k/\RowsOk fs an rs) ⟨[],_,_,_,_,rfl,by omega,rfl,fun r hr=>by simp at hr⟩ (fun k c1 x σ' hx hP=>?_) fun c1 σ' hP=>?_
 ·obtain ⟨hk,rfl⟩:=intsTo_get hx
  obtain ⟨rs,s4,s5,s6,s7,rfl,hc1,hrl,hrs⟩:=hP
  refine cq_setR (fun n1 d=>n1<=c1+5/\∃ cs,isCase fs (.tuple cs)=true/\d=.tuple cs) (fun q hq=>⟨_,rfl,_,rfl,_,rfl,fs,an,rfl,F,by omega,fun n' cs hn hcs=>hq _ _ ⟨hn,cs,hcs,rfl⟩⟩) ?_
  rintro c2 _ ⟨hc2,cs,hcs,rfl⟩
  have hal:((an.map PyData.str).length:Int)=(an.length:Int):=by rw [List.length_map]
  refine cq_setR (fun n1 d=>n1=c2+1/\∃ t:Nat,d=.int (t:Int)/\t<an.length) (fun q hq=>⟨_,rfl,_,rfl,_,rfl,_,rfl,((an.map PyData.str).length:Int),rfl,by omega,by omega,by omega,fun r h0 h1=>hq _ _ ⟨rfl,?_⟩⟩) ?_
  ·obtain ⟨t,rfl⟩:=natOf h0
   exact ⟨t,rfl,by omega⟩
  rintro c3 _ ⟨hc3,t,rfl,ht⟩
  obtain ⟨hcl,hcv⟩:=case_get hcs
  obtain ⟨f0,hf0⟩:∃ f,fs[0]?=some f:=⟨_,List.getElem?_eq_getElem (by omega)⟩
  obtain ⟨d0,hd0⟩:∃ d,cs[0]?=some d:=⟨_,List.getElem?_eq_getElem (by omega)⟩
  have hok:=hcv 0 f0 d0 hf0 hd0
  have hca:L2.atI cs 0=some d0:=L2.atI_nat (j:=0) hd0
  have hfa:L2.atI (fs.map fldD) 0=some (fldD f0):=L2.atI_nat (j:=0) (by rw [List.getElem?_map,hf0];rfl)
  have hfm:=List.mem_of_getElem? hf0
  refine cq_ifsetP (∃ z:Str,d0=.str z/\z∈f0.2) (fun c4=>c4<=c3+1) (fun d=>∃ t:Nat,d=.int (t:Int)/\t<an.length) (fun q hq=>⟨_,rfl,_,hca,?_⟩) (.int (t:Int)) rfl ⟨t,rfl,ht⟩ (fun hC q hq=>?_) ?_
  ·show (if (!isNoneD d0)=true then _ else q c3 false)
   cases hn:isNoneD d0 with
   | true=>rw [if_neg (by decide)];exact hq _ _ (by omega) fun z=>by cases z
   | false =>
    rw [if_pos (by decide)]
    have hstr:∃ z:Str,d0=.str z/\z∈f0.2:=by
     cases d0 with
     | none=>cases hn
     | str z=>exact ⟨z,rfl,of_decide_eq_true hok⟩
     | _=>cases hok
    exact ⟨_,rfl,_,rfl,2,rfl,by decide,by decide,by omega,fun r h0 h1=>hq _ _ (Nat.le_refl _) fun _=>hstr⟩
  ·obtain ⟨z,rfl,hz⟩:=hC
   have hx:=okIx_strs (F.vals hfm) hz
   have hp:(0:Int)<((an.map PyData.str).length:Int):=by omega
   refine ⟨_,rfl,_,rfl,_,hfa,_,rfl,_,rfl,_,rfl,_,hca,_,_,rfl,hx,_,rfl,_,rfl,hp,hq _ ⟨(f0.2.idxOf z) % an.length,?_,Nat.mod_lt _ (by omega)⟩⟩
   show PyData.int (((f0.2.idxOf z:Nat):Int) % ((an.map PyData.str).length:Int))=_
   rw [hal]
   rfl
  rintro c4 _ hc4 ⟨t2,rfl,ht2⟩
  have haa:L2.atI (an.map PyData.str) (t2:Int)=some (.str an[t2]):=atI_strs ht2
  refine cq_pure (seq_set (rowD (cs,an[t2])) (fun q hq=>⟨_,rfl,_,rfl,_,rfl,_,rfl,_,haa,(Nat.le_of_ble_eq_true rfl),hq⟩) ?_)
  have hrow:RowOk fs an (cs,an[t2]):=⟨hcs,List.getElem_mem _⟩
  refine cq_ifset (0<k) (fun c5=>c5<=c4+1) (fun d=>∃ r,RowOk fs an r/\d=rowD r) (fun q hq=>⟨_,rfl,?_⟩) (rowD (cs,an[t2])) rfl ⟨_,hrow,rfl⟩ (fun c6=>c6<=c4+2) (fun _ z=>by omega) (fun c5 hc5 hk0 q hq=>⟨rs.map rowD,rfl,_,rfl,_,rfl,_,rfl,(k:Int),rfl,by omega,by omega,by omega,fun r h0 h1=>?_⟩) ?_
  ·show (if decide ((k:Int) > 0)=true then _ else q c4 false)
   by_cases hk0:(k:Int) > 0
   ·rw [if_pos (decide_eq_true hk0)]
    exact ⟨_,rfl,_,rfl,8,rfl,by decide,by decide,by omega,fun r h0 h1=>hq _ _ (Nat.le_refl _) fun _=>by omega⟩
   ·rw [if_neg (by simpa using hk0)]
    exact hq _ _ (by omega) fun z=>by cases z
  ·obtain ⟨d,hdm,hda,_⟩:=atI_in (xs:=rs.map rowD) (i:=r) h0 (by rw [List.length_map,hrl];exact h1)
   obtain ⟨r',hr',rfl⟩:=List.mem_map.mp hdm
   exact ⟨r,_,rfl,hda,hq _ _ (by omega) ⟨r',hrs r' hr',rfl⟩⟩
  rintro c6 _ hc6 ⟨r,hr,rfl⟩
  refine one_app (ts:=rs.map rowD) (rowD r) rfl (by rw [List.length_map];omega) (fun q hq=>⟨_,rfl,hq⟩) ?_
  refine ⟨rs++[r],_,_,_,_,by rw [List.map_append];rfl,by omega,by simp [hrl],fun r' hr'=>?_⟩
  rcases List.mem_append.mp hr' with z | z
  ·exact hrs r' z
  ·rw [List.mem_singleton.mp z];exact hr
 ·obtain ⟨rs,s4,s5,s6,s7,rfl,hc1,hrl,hrs⟩:=hP
  rw [intsTo_len] at hc1 hrl
  exact ⟨_,rfl,_,rfl,h c1 rs hc1 hrs hrl⟩

theorem sc_38:FnScope ["_law_tape_here","_law_most","_law_way","_law_fields","_law_values","_law_many","_law_form_here"] ["_law_tape_here","_law_most"] (defScope (top 43)):=fsc
theorem ok_38 (T:Txt K mg A)
  (F_23:FnOk P w K mg base CX0 1 A.a_23 A.f_23 ["_law_tape_here","_law_many"] (liftSpC K sp_23))
  (F_25:FnOk P w K mg base CX0 3 A.a_25 A.f_25 ["_law_tape_here","_law_fields","_law_values"] (liftSpC K sp_25))
  (F_27:FnOk P w K mg base CX0 3 A.a_27 A.f_27 ["_law_tape_here","_law_form_here","_law_many"] (liftSpC K sp_27)):FnOk P w K mg base CX0 4 A.a_38 A.f_38 ["_law_tape_here","_law_most"] (liftSpC K sp_38):=by
 refine fnC T.F_38 sc_38 (fun τ n ds Q h=>by obtain ⟨m,rfl,hm3,hm60,hc,h⟩:=h;rfl) fun cdv Ar outer s H E hr Tp c ds Q hdig h=>?_
 obtain ⟨m,rfl,hm3,hm60,hc,h⟩:=h
 have nd:=sc_38.nd
 refine ⟨_,(sc_cons (sc_set (i:=2) (ec_call F_23 T.m_23 T.k_23 T.d_23 (hr.mono (by decide)) (ac_cons (ec_p (et_v 0)) (ac_cons (ec_p et_int) ac_nil)) (fun h=>pe_call F_23 (hr.mono (by decide)) rfl T.m_23 T.k_23 T.d_23 .nil pass0 h)) (fun h=>ps_set (i:=2) nd rfl (by first | exact Or.inl rfl | exact Or.inr rfl) h))
 (sc_cons (sc_set (i:=3) (ec_op op_addAny o_add (ec_p et_int) (ec_call F_23 T.m_23 T.k_23 T.d_23 (hr.mono (by decide)) (ac_cons (ec_p (et_v 0)) (ac_cons (ec_p et_int) ac_nil)) (fun h=>pe_call F_23 (hr.mono (by decide)) rfl T.m_23 T.k_23 T.d_23 .nil pass0 h))) (fun h=>ps_set (i:=3) nd rfl (by first | exact Or.inl rfl | exact Or.inr rfl) h))
 (sc_cons (sc_set (i:=4) (ec_op op_addAny o_add (ec_p et_int) (ec_call F_23 T.m_23 T.k_23 T.d_23 (hr.mono (by decide)) (ac_cons (ec_p (et_v 0)) (ac_cons (ec_p et_int) ac_nil)) (fun h=>pe_call F_23 (hr.mono (by decide)) rfl T.m_23 T.k_23 T.d_23 .nil pass0 h))) (fun h=>ps_set (i:=4) nd rfl (by first | exact Or.inl rfl | exact Or.inr rfl) h))
 (sc_cons (sc_set (i:=5) (ec_call F_23 T.m_23 T.k_23 T.d_23 (hr.mono (by decide)) (ac_cons (ec_p (et_v 0)) (ac_cons (ec_p et_int) ac_nil)) (fun h=>pe_call F_23 (hr.mono (by decide)) rfl T.m_23 T.k_23 T.d_23 .nil pass0 h)) (fun h=>ps_set (i:=5) nd rfl (by first | exact Or.inl rfl | exact Or.inr rfl) h))
 (sc_cons (sc_if (tc_p (tt_cmp op_eq o_eq (et_v 2) et_int))
 (sc_cons (sc_p (ss 3 nd et_int))
 (sc_cons (sc_p (ss 4 nd et_int))
 (sc_one (sc_set (i:=5) (ec_op op_sub o_I0 (ec_p (et_v 1)) (ec_call F_23 T.m_23 T.k_23 T.d_23 (hr.mono (by decide)) (ac_cons (ec_p (et_v 0)) (ac_cons (ec_p et_int) ac_nil)) (fun h=>pe_call F_23 (hr.mono (by decide)) rfl T.m_23 T.k_23 T.d_23 .nil pass0 h))) (fun h=>ps_set (i:=5) nd rfl (by first | exact Or.inl rfl | exact Or.inr rfl) h)))))
 sc_nil)
 (sc_cons (sc_set (i:=6) (ec_call F_25 T.m_25 T.k_25 T.d_25 (hr.mono (by decide)) (ac_cons (ec_p (et_v 0)) (ac_cons (ec_p (et_v 3)) (ac_cons (ec_p (et_v 4)) ac_nil))) (fun h=>pe_call F_25 (hr.mono (by decide)) rfl T.m_25 T.k_25 T.d_25 .nil pass0 h)) (fun h=>ps_set (i:=6) nd rfl (by first | exact Or.inl rfl | exact Or.inr rfl) h))
 (sc_one (sc_ret (ec_tup (ac_cons (ec_p (et_v 6)) (ac_cons (ec_call F_27 T.m_27 T.k_27 T.d_27 (hr.mono (by decide)) (ac_cons (ec_p (et_v 0)) (ac_cons (ec_p (et_v 6)) (ac_cons (ec_p (et_v 5)) ac_nil))) (fun h=>pe_call F_27 (hr.mono (by decide)) rfl T.m_27 T.k_27 T.d_27 .nil pass0 h)) ac_nil))))))))))),?_⟩
 show cSeq _ _ _ _ _ [.val (tpD Tp),.val (.int m),.un,.un,.un,.un,.un]
 refine cq_setR (fun n1 d=>n1=c+1/\∃ w:Int,d=.int w) (fun q hq=>⟨_,rfl,_,rfl,16,rfl,by decide,by decide,by omega,fun r _ _=>hq _ _ ⟨rfl,r,rfl⟩⟩) ?_
 rintro c1 _ ⟨hc1,w,rfl⟩
 refine cq_setR (fun n1 d=>n1=c+2/\∃ f:Nat,d=.int (f:Int)/\1<=f/\f<=5) (fun q hq=>⟨_,rfl,_,rfl,3,rfl,by decide,by decide,by omega,fun r h0 h1=>hq _ _ ⟨by omega,(1+r).toNat,by rw [Int.toNat_of_nonneg (by omega)],by omega,by omega⟩⟩) ?_
 rintro c2 _ ⟨hc2,f,rfl,hf1,hf5⟩
 refine cq_setR (fun n1 d=>n1=c+3/\∃ v:Nat,d=.int (v:Int)/\2<=v/\v<=5) (fun q hq=>⟨_,rfl,_,rfl,3,rfl,by decide,by decide,by omega,fun r h0 h1=>hq _ _ ⟨by omega,(2+r).toNat,by rw [Int.toNat_of_nonneg (by omega)],by omega,by omega⟩⟩) ?_
 rintro c3 _ ⟨hc3,v,rfl,hv2,hv5⟩
 refine cq_setR (fun n1 d=>n1=c+4/\∃ k:Nat,d=.int (k:Int)/\k<=60) (fun q hq=>⟨_,rfl,_,rfl,13,rfl,by decide,by decide,by omega,fun r h0 h1=>hq _ _ ⟨by omega,r.toNat,by rw [Int.toNat_of_nonneg h0],by omega⟩⟩) ?_
 rintro c4 _ ⟨hc4,k,rfl,hk⟩
 refine cq_if1 (decide (w=11)) (fun q hq=>⟨_,rfl,hq⟩) (fun _=>?_) fun _=>?_
 ·refine cq_pure (seq_set (.int 5) (fun q hq=>hq) ?_)
  refine cq_pure (seq_set (.int 5) (fun q hq=>hq) ?_)
  refine co_setR (fun n1 d=>n1=c+5/\∃ k:Nat,d=.int (k:Int)/\k<=60) (fun q hq=>⟨_,rfl,_,rfl,_,rfl,3,rfl,by decide,by decide,by omega,fun r h0 h1=>hq _ _ ⟨by omega,((m:Int)-r).toNat,by rw [Int.toNat_of_nonneg (by omega)],by omega⟩⟩) ?_
  rintro c5 _ ⟨hc5,k2,rfl,hk2⟩
  dsimp only
  refine cq_setR (fun n1 d=>n1<=c+200/\∃ fs an,Form fs an/\d=frmD fs an) (fun q hq=>⟨_,rfl,_,rfl,_,rfl,_,rfl,5,5,rfl,by decide,by decide,by decide,by decide,by omega,fun n' fs an hn F _ _=>hq _ _ ⟨by omega,fs,an,F,rfl⟩⟩) ?_
  rintro c6 _ ⟨hc6,fs,an,F,rfl⟩
  exact ⟨_,rfl,_,rfl,_,rfl,_,rfl,_,rfl,fs,an,k2,rfl,F,hk2,by omega,fun n' rs hn hrs hrl=>⟨(Nat.le_of_ble_eq_true rfl),h n' fs an rs (by omega) F hrs (by omega)⟩⟩
 ·try unfold cNext
  dsimp only
  refine cq_setR (fun n1 d=>n1<=c+200/\∃ fs an,Form fs an/\d=frmD fs an) (fun q hq=>⟨_,rfl,_,rfl,_,rfl,_,rfl,f,v,rfl,hf1,hf5,hv2,hv5,by omega,fun n' fs an hn F _ _=>hq _ _ ⟨by omega,fs,an,F,rfl⟩⟩) ?_
  rintro c6 _ ⟨hc6,fs,an,F,rfl⟩
  exact ⟨_,rfl,_,rfl,_,rfl,_,rfl,_,rfl,fs,an,k,rfl,F,hk,by omega,fun n' rs hn hrs hrl=>⟨(Nat.le_of_ble_eq_true rfl),h n' fs an rs (by omega) F hrs (by omega)⟩⟩

theorem sc_28:FnScope ["_law_form_here","_law_found","_law_name","_law_values","_law_some"] ["_law_form_here"] (defScope (top 33)):=fsc
theorem ok_28 (T:Txt K mg A):FnOk P w K mg base CX0 1 A.a_28 A.f_28 ["_law_form_here"] (liftSp K sp_28):=by
 refine fnT T.F_28 sc_28 (fun ds Q h=>by obtain ⟨fs,an,rfl,F,h⟩:=h;rfl) fun cdv Ar outer s H E hr ds Q h=>?_
 obtain ⟨fs,an,rfl,F,h⟩:=h
 have nd:=sc_28.nd
 refine ⟨_,(st_cons (ss 1 nd (et_lst at_nil))
 (st_cons (st_for (it_val (et_ix ix_seq o_ix (et_v 0) et_int)) (gt_pair (pg_tup rfl (pgs_cons (pn 2 nd) (pgs_cons (pn 3 nd) pgs_nil))))
 (st_cons (ss 4 nd (et_if (tt_cmp op_eq o_eq (et_cb c_len (at_cons (et_v 3) at_nil) (fun h=>pe_callB call_lenAny rfl T.b_len bl_len h)) et_int) (et_slice sl_any o_sl (et_v 3) ot_none (ot_some et_int)) (et_v 3)))
 (st_cons (ss 1 nd (et_op op_addAny o_add (et_v 1) (et_lc (fr:=[none,some 2]) (N':=["_law_value","_law_name"]) (it_val (et_v 4)) (fun b=>⟨(gt_name (pn 0 (show List.Nodup (["_law_value","_law_name"]:List Str) from by decide +kernel))),if_nil,(et_tup (at_cons et_str (at_cons (et_v 1) (at_cons (et_v 0) at_nil))))⟩) (fun hi hY=>pe_lcc (show lcChk _ (defScope (top 33)) ["_law_form_here","_law_found","_law_name","_law_values","_law_some"] ["_law_value","_law_name"] [none,some 2]=true from by decide +kernel) rfl hi hY))))
 (st_one (ss 1 nd (et_op op_addAny o_add (et_v 1) (et_lc (fr:=[none,some 2,some 3]) (N':=["_law_k","_law_name","_law_values"]) (it_range2 (at_cons et_int (at_cons (et_op op_sub o_I0 (et_cb c_len (at_cons (et_v 3) at_nil) (fun h=>pe_callB call_lenAny rfl T.b_len bl_len h)) et_int) at_nil)) (fun h=>pi_range2 rfl T.b_range h)) (fun b=>⟨(gt_name (pn 0 (show List.Nodup (["_law_k","_law_name","_law_values"]:List Str) from by decide +kernel))),if_nil,(et_tup (at_cons et_str (at_cons (et_v 1) (at_cons (et_ix ix_seq o_ix (et_v 2) (et_v 0)) at_nil))))⟩) (fun hi hY=>pe_lcc (show lcChk _ (defScope (top 33)) ["_law_form_here","_law_found","_law_name","_law_values","_law_some"] ["_law_k","_law_name","_law_values"] [none,some 2,some 3]=true from by decide +kernel) rfl hi hY))))))) (fun hi hg hb=>ps_for PassesOwn.never rfl hi hg hb))
 (st_one (st_ret (et_v 1))))),?_⟩
 show sSeq _ _ _ [.val (frmD fs an),.un,.un,.un,.un]
 have n5:=F.n5
 refine seq_set (.list []) (fun q hq=>⟨(Nat.le_of_ble_eq_true rfl),hq⟩) ?_
 refine seq_for (ts:=fs.map fldD) (fun R h=>⟨_,rfl,_,rfl,_,rfl,h⟩)
  (fun i σ=>∃ s2 s3 s4:Sl,σ=[.val (frmD fs an),.val (.list (toChoose (fs.take i))),s2,s3,s4]) ⟨_,_,_,rfl⟩ (fun i x σ' hx hP=>?_) fun σ' hP=>?_
 ·obtain ⟨s2,s3,s4,rfl⟩:=hP
  rw [List.getElem?_map] at hx
  obtain ⟨f,hfk,rfl⟩:=Option.map_eq_some_iff.mp hx
  have hf:=List.mem_of_getElem? hfk
  obtain ⟨v2,v5,hvv⟩:=F.vs f hf
  have hcl:=choose_len F (fs.take i) fun g hg=>List.mem_of_mem_take hg
  have hkl:(fs.take i).length<=5:=by rw [List.length_take];omega
  refine ⟨.str f.1,.tuple (f.2.map PyData.str),rfl,?_⟩
  dsimp only
  refine seq_set (.tuple ((qSel f).map PyData.str)) (fun q hq=>⟨_,rfl,?_⟩) ?_
  ·show (if decide (((f.2.map PyData.str).length:Int)=2)=true then _ else _)
   unfold qSel at hq
   rw [List.length_map]
   by_cases e:f.2.length=2
   ·rw [if_pos (decide_eq_true (by omega))]
    rw [if_pos e] at hq
    refine ⟨_,rfl,?_⟩
    show q (.tuple (cutD (f.2.map PyData.str) none (some 1)))
    rw [cut_map,cut_one _ v2];exact hq
   ·rw [if_neg (by simpa using (by omega:¬ (f.2.length:Int)=2))]
    rw [if_neg e] at hq
    exact ⟨_,rfl,hq⟩
  have s5:(qSel f).length<=5:=by
   unfold qSel
   split
   ·rw [List.length_take];omega
   ·omega
  refine seq_set (.list (toChoose (fs.take i)++(qSel f).map (mkQ "is" f))) (fun q hq=>⟨_,rfl,?_⟩) ?_
  ·refine lcx_map (ts:=(qSel f).map PyData.str) (fun R h=>⟨_,rfl,_,rfl,h⟩) (fun x=>.tuple [.str "is",.str f.1,x]) (by rw [List.length_map];omega) (fun x q hx hq=>⟨_,rfl,_,rfl,(Nat.le_of_ble_eq_true rfl),hq⟩) ?_
   rw [List.map_map]
   exact ⟨by rw [List.length_map];omega,hq⟩
  have hlF:(TL.intsFrom 1 (((f.2.map PyData.str).length:Int)-2-1).toNat).length<=5:=by
   unfold TL.intsFrom
   rw [List.length_map,List.length_range,List.length_map]
   omega
  refine (show sSet _ _ _ _ from ⟨_,rfl,?_⟩)
  refine lcx_map (ts:=TL.intsFrom 1 (((f.2.map PyData.str).length:Int)-2-1).toNat) (fun R h=>⟨_,rfl,1,((f.2.map PyData.str).length:Int)-2,rfl,⟨by decide,by decide,by rw [List.length_map];omega,by rw [List.length_map];omega⟩,h⟩) (midF f) (by omega) (fun x q hx hq=>?_) ?_
  ·obtain ⟨m,hm,rfl⟩:=List.mem_map.mp hx
   have hm':m<(((f.2.map PyData.str).length:Int)-2-1).toNat:=by simpa using hm
   rw [List.length_map] at hm'
   have e:(1:Int)+(m:Int)=((m+1:Nat):Int):=by omega
   have hat:L2.atI (f.2.map PyData.str) (1+(m:Int))=some (.str (f.2[m+1]'(by omega))):=by rw [e];exact atI_strs (by omega)
   have hq2:q (.tuple [.str "upto",.str f.1,.str (f.2[m+1]'(by omega))]):=by
    have e2:midF f (.int (1+(m:Int)))=.tuple [.str "upto",.str f.1,.str (f.2[m+1]'(by omega))]:=by unfold midF;dsimp only;rw [hat]
    rw [<- e2];exact hq
   exact ⟨_,rfl,_,rfl,_,rfl,_,hat,(Nat.le_of_ble_eq_true rfl),hq2⟩
  ·rw [mid_ints v2]
   have ql:(qMid f).length<=5:=by unfold qMid;rw [List.length_take,List.length_drop];omega
   refine ⟨by rw [List.length_append,List.length_map,List.length_map];omega,.val (.str f.1),.val (.tuple (f.2.map PyData.str)),.val (.tuple ((qSel f).map PyData.str)),?_⟩
   rw [List.append_assoc]
   have e:toChoose (fs.take (i+1))=toChoose (fs.take i)++qOf f:=by
    unfold toChoose
    rw [List.take_add_one,hfk,List.map_append,List.flatten_append]
    show _++[qOf f].flatten=_
    rw [List.flatten_singleton]
   rw [e];rfl
 ·obtain ⟨s2,s3,s4,rfl⟩:=hP
  rw [List.length_map,List.take_length]
  exact ⟨_,rfl,by rw [<- qs_data];exact h⟩

theorem sc_29:FnScope ["_law_form_here","_law_question","_law_stray","_law_case_here","_law_kind","_law_name","_law_value","_law_values","_law_mine","_law_k","_law_far"] ["_law_form_here","_law_question","_law_stray","_law_case_here"] (defScope (top 34)):=fsc
theorem ok_29 (T:Txt K mg A):FnOk P w K mg base CX0 1 A.a_29 A.f_29 ["_law_form_here","_law_question","_law_stray","_law_case_here"] (liftSp K sp_29):=by
 refine fnT T.F_29 sc_29 (fun ds Q h=>by obtain ⟨fs,an,k,n,v,st,cs,rfl,F,hq,hst,hcs,h⟩:=h;rfl) fun cdv Ar outer s H E hr ds Q h=>?_
 obtain ⟨fs,an,k,n,v,st,cs,rfl,F,hq,hst,hcs,h⟩:=h
 have nd:=sc_29.nd
 refine ⟨_,(st_cons (st_unpG (et_v 1) (gt_triple (pg_tup rfl (pgs_cons (pn 4 nd) (pgs_cons (pn 5 nd) (pgs_cons (pn 6 nd) pgs_nil))))) (fun he hg=>ps_asg he hg))
 (st_cons (ss 7 nd (et_tup at_nil))
 (st_cons (ss 8 nd et_non)
 (st_cons (st_for (it_range (at_cons (et_cb c_len (at_cons (et_ix ix_seq o_ix (et_v 0) et_int) at_nil) (fun h=>pe_callB call_lenAny rfl T.b_len bl_len h)) at_nil) (fun h=>pi_range1 rfl T.b_range h)) (gt_name (pn 9 nd))
 (st_one (st_if (tt_cmp op_eq o_eq (et_ix ix_seq o_ix (et_ix ix_seq o_ix (et_ix ix_seq o_ix (et_v 0) et_int) (et_v 9)) et_int) (et_v 5))
 (st_cons (ss 7 nd (et_ix ix_seq o_ix (et_ix ix_seq o_ix (et_ix ix_seq o_ix (et_v 0) et_int) (et_v 9)) et_int))
 (st_one (ss 8 nd (et_ix ix_seq o_ix (et_v 3) (et_v 9)))))
 st_nil)) (fun hi hg hb=>ps_for PassesOwn.never rfl hi hg hb))
 (st_cons (st_if (tt_cmp op_is2 o_is2 (et_v 8) et_non)
 (st_one (st_ret (et_v 2)))
 st_nil)
 (st_cons (ss 10 nd (et_op op_sub o_I0 (et_index (et_v 7) (at_cons (et_v 8) at_nil) (fun h ha=>pe_bm PySem.F.plainAttrs_tuple PySem.F.slot_tuple_index PySem.F.type_tuple_index (mt_index hr) h ha)) (et_index (et_v 7) (at_cons (et_v 6) at_nil) (fun h ha=>pe_bm PySem.F.plainAttrs_tuple PySem.F.slot_tuple_index PySem.F.type_tuple_index (mt_index hr) h ha))))
 (st_one (st_ret (et_if (tw_pt (tw_or (tt_cmp op_eq o_eq (et_v 10) et_int) (tw_or1 (tw_pt (tw_and (tt_cmp op_eq o_eq (et_v 4) et_str) (tw_and1 (tt_cmp op_lt o_B0 (et_v 10) et_int))))))) et_str et_str))))))))),?_⟩
 show sSeq _ _ _ [.val (frmD fs an),.val (.tuple [.str k,.str n,.str v]),.val (.str st),.val (.tuple cs),.un,.un,.un,.un,.un,.un,.un]
 have n5:=F.n5
 obtain ⟨f,hf,hfn,hv,hk⟩:=isQ_str hq
 obtain ⟨j,hj⟩:=List.getElem?_of_mem hf
 have hjl:=(List.getElem?_eq_some_iff.mp hj).1
 obtain ⟨hcl,hcv⟩:=case_get hcs
 obtain ⟨c0,hc0⟩:∃ d,cs[j]?=some d:=⟨_,List.getElem?_eq_getElem (by omega)⟩
 have hok:=hcv j f c0 hj hc0
 have hfl:((fs.map fldD).length:Int)=(fs.length:Int):=by rw [List.length_map]
 refine (show sSeq (sUnpG _ _) _ _ _ from ⟨_,rfl,_,_,_,rfl,?_⟩)
 dsimp only
 refine seq_set (.tuple []) (fun q hq=>⟨(Nat.le_of_ble_eq_true rfl),hq⟩) ?_
 refine seq_set .none (fun q hq=>hq) ?_
 refine seq_for (ts:=intsTo fs.length) (fun R h=>⟨_,rfl,_,rfl,((fs.map fldD).length:Int),rfl,by omega,by omega,by rw [hfl];simpa using h⟩)
  (fun i σ=>∃ s9:Sl,σ=[.val (frmD fs an),.val (.tuple [.str k,.str n,.str v]),.val (.str st),.val (.tuple cs),.val (.str k),.val (.str n),.val (.str v),.val (if j<i then .tuple (f.2.map PyData.str) else .tuple []),.val (if j<i then c0 else .none),s9,.un]) ⟨_,by rw [if_neg (by omega),if_neg (by omega)];rfl⟩ (fun i x σ' hx hP=>?_) fun σ' hP=>?_
 ·obtain ⟨hi,rfl⟩:=intsTo_get hx
  obtain ⟨s9,rfl⟩:=hP
  have hfi:L2.atI (fs.map fldD) (i:Int)=some (fldD fs[i]):=L2.atI_nat (by rw [List.getElem?_map,List.getElem?_eq_getElem hi];rfl)
  have hci:L2.atI cs (i:Int)=some cs[i]:=L2.atI_nat (List.getElem?_eq_getElem (by omega))
  by_cases hij:i=j
  ·subst hij
   have e1:fs[i]=f:=by rw [List.getElem?_eq_getElem hi] at hj;exact Option.some.inj hj
   have e2:cs[i]=c0:=by rw [List.getElem?_eq_getElem (by omega)] at hc0;exact Option.some.inj hc0
   rw [e1] at hfi
   rw [e2] at hci
   refine one_if (fun b=>b=true) (fun q hq=>⟨_,rfl,_,rfl,_,rfl,_,hfi,_,rfl,_,rfl,hq _ (decide_eq_true hfn)⟩) (fun _=>?_) fun hF=>by cases hF
   refine seq_set (.tuple (f.2.map PyData.str)) (fun q hq=>⟨_,rfl,_,rfl,_,rfl,_,hfi,_,rfl,hq⟩) ?_
   refine one_set c0 (fun q hq=>⟨_,rfl,_,rfl,_,hci,hq⟩) ?_
   refine ⟨.val (.int (i:Int)),?_⟩
   rw [if_pos (Nat.lt_succ_self i),if_pos (Nat.lt_succ_self i)];rfl
  ·have hne:¬ fs[i].1=n:=fun e=>hij (by
    have h1:=name_at F (List.getElem?_eq_getElem hi)
    have h2:=name_at F hj
    rw [e] at h1
    rw [hfn] at h2
    omega)
   refine one_if (fun b=>b=false) (fun q hq=>⟨_,rfl,_,rfl,_,rfl,_,hfi,_,rfl,_,rfl,hq _ (decide_eq_false hne)⟩) (fun hT=>by cases hT) fun _=>?_
   try unfold sNext
   dsimp only
   refine ⟨.val (.int (i:Int)),?_⟩
   by_cases hl:j<i
   ·rw [if_pos hl,if_pos hl,if_pos (Nat.lt_succ_of_lt hl),if_pos (Nat.lt_succ_of_lt hl)];rfl
   ·rw [if_neg hl,if_neg hl,if_neg (show ¬ j<i+1 by omega),if_neg (show ¬ j<i+1 by omega)];rfl
 ·obtain ⟨s9,rfl⟩:=hP
  rw [intsTo_len,if_pos hjl,if_pos hjl]
  rw [sideS_at F hj hc0 hfn] at h
  cases c0 with
  | none =>
   refine seq_if (fun b=>b=true) (fun q hq=>⟨_,rfl,hq _ rfl⟩) (fun _=>⟨_,rfl,h⟩) fun hF=>by cases hF
  | str z =>
   have hz:z∈f.2:=of_decide_eq_true hok
   refine seq_if (fun b=>b=false) (fun q hq=>⟨_,rfl,hq _ rfl⟩) (fun hT=>by cases hT) fun _=>?_
   try unfold sNext
   dsimp only
   have x1:=okIx_strs (F.vals hf) hz
   have x2:=okIx_strs (F.vals hf) hv
   refine seq_set (.int ((f.2.idxOf z:Nat)-(f.2.idxOf v:Nat):Int)) (fun q hq=>⟨_,rfl,_,rfl,_,rfl,_,_,rfl,x1,_,rfl,_,rfl,_,rfl,_,_,rfl,x2,hq⟩) ?_
   have hinj:f.2.idxOf z=f.2.idxOf v->z=v:=fun e=>by
    have a1:=List.getElem_idxOf (List.idxOf_lt_length_iff.mpr hz)
    have a2:=List.getElem_idxOf (List.idxOf_lt_length_iff.mpr hv)
    rw [<- a1,<- a2]
    congr 1
   refine ⟨_,rfl,?_⟩
   show (if decide (((f.2.idxOf z:Nat)-(f.2.idxOf v:Nat):Int)=0)=true then _ else _)
   by_cases e0:f.2.idxOf z=f.2.idxOf v
   ·rw [if_pos (decide_eq_true (by omega))]
    have hs:sideOf f k v st (.str z)="yes":=by
     show (if k="is" then (if z=v then ("yes":Str) else "no") else if f.2.idxOf z<=f.2.idxOf v then ("yes":Str) else "no")=_
     rw [if_pos (hinj e0),if_pos (show f.2.idxOf z<=f.2.idxOf v by omega)]
     exact ite_self _
    rw [hs] at h
    exact h
   ·rw [if_neg (by rw [decide_eq_false (by omega)];decide)]
    refine ⟨_,rfl,?_⟩
    show (if decide (k="upto")=true then _ else _)
    have hzv:¬ z=v:=fun e=>e0 (by rw [e])
    rcases hk with rfl | ⟨rfl,_⟩
    ·have hs:sideOf f "is" v st (.str z)="no":=by
      show (if ("is":Str)="is" then (if z=v then ("yes":Str) else "no") else if f.2.idxOf z<=f.2.idxOf v then ("yes":Str) else "no")=_
      rw [if_pos rfl,if_neg hzv]
     rw [hs] at h
     rw [if_neg (by decide +kernel)]
     exact h
    ·rw [if_pos (by decide +kernel)]
     refine ⟨_,rfl,?_⟩
     have hs:sideOf f "upto" v st (.str z)=if f.2.idxOf z<=f.2.idxOf v then ("yes":Str) else "no":=by
      show (if ("upto":Str)="is" then (if z=v then ("yes":Str) else "no") else if f.2.idxOf z<=f.2.idxOf v then ("yes":Str) else "no")=_
      rw [if_neg (by decide +kernel)]
     rw [hs] at h
     show (if decide (((f.2.idxOf z:Nat)-(f.2.idxOf v:Nat):Int)<0)=true then _ else _)
     by_cases hl:f.2.idxOf z<f.2.idxOf v
     ·rw [if_pos (decide_eq_true (by omega))]
      rw [if_pos (by omega)] at h
      exact h
     ·rw [if_neg (by rw [decide_eq_false (by omega)];decide)]
      rw [if_neg (by omega)] at h
      exact h
  | _=>cases hok

theorem sc_30:FnScope ["_law_form_here","_law_question","_law_stray","_law_rows_here","_law_ones","_law_others","_law_row"] ["_law_form_here","_law_question","_law_stray","_law_rows_here"] (defScope (top 35)):=fsc
theorem ok_30 (T:Txt K mg A)
  (F_29:FnOk P w K mg base CX0 1 A.a_29 A.f_29 ["_law_form_here","_law_question","_law_stray","_law_case_here"] (liftSp K sp_29)):FnOk P w K mg base CX0 2 A.a_30 A.f_30 ["_law_form_here","_law_question","_law_stray","_law_rows_here"] (liftSp K sp_30):=by
 refine fnT T.F_30 sc_30 (fun ds Q h=>by obtain ⟨fs,an,k,n,v,st,rs,rfl,F,hq,hst,hrs,hl,h⟩:=h;rfl) fun cdv Ar outer s H E hr ds Q h=>?_
 obtain ⟨fs,an,k,n,v,st,rs,rfl,F,hq,hst,hrs,hl,h⟩:=h
 have nd:=sc_30.nd
 refine ⟨_,(st_cons (st_own (i:=4) at_nil (fun h=>ps_set (i:=4) nd rfl (by first | exact Or.inl rfl | exact Or.inr rfl) h))
 (st_cons (st_own (i:=5) at_nil (fun h=>ps_set (i:=5) nd rfl (by first | exact Or.inl rfl | exact Or.inr rfl) h))
 (st_cons (st_for (it_val (et_v 3)) (gt_name (pn 6 nd))
 (st_one (st_if (tt_cmp op_eq o_eq (ca F_29 T.m_29 T.k_29 T.d_29 (hr.mono (by decide)) (at_cons (et_v 0) (at_cons (et_v 1) (at_cons (et_v 2) (at_cons (et_ix ix_seq o_ix (et_v 6) et_int) at_nil))))) et_str)
 (st_one (st_app (i:=4) (pv 4) (et_v 6) (pb:=fun h=>ps_expr (pe_bm PySem.F.plainAttrs_list PySem.F.slot_list_append PySem.F.type_list_append mt_append (pv 4) h))))
 (st_one (st_app (i:=5) (pv 5) (et_v 6) (pb:=fun h=>ps_expr (pe_bm PySem.F.plainAttrs_list PySem.F.slot_list_append PySem.F.type_list_append mt_append (pv 5) h)))))) (fun hi hg hb=>ps_for PassesOwn.never rfl hi hg hb))
 (st_share 5 (st_share 4 (st_one (st_ret (et_tup (at_cons (et_v 4) (at_cons (et_v 5) at_nil)))))))))),?_⟩
 show sSeq _ _ _ [.val (frmD fs an),.val (.tuple [.str k,.str n,.str v]),.val (.str st),.val (.list (rs.map rowD)),.un,.un,.un]
 refine seq_own [] (by decide) (fun q hq=>hq) ?_
 refine seq_own [] (by decide) (fun q hq=>hq) ?_
 refine seq_for (ts:=rs.map rowD) (fun R h=>⟨_,rfl,_,rfl,h⟩)
  (fun i σ=>∃ s6:Sl,σ=[.val (frmD fs an),.val (.tuple [.str k,.str n,.str v]),.val (.str st),.val (.list (rs.map rowD)),.own (((rs.take i).filter (onY fs k n v st)).map rowD),.own (((rs.take i).filter fun r=>!onY fs k n v st r).map rowD),s6]) ⟨_,rfl⟩ (fun i x σ' hx hP=>?_) fun σ' hP=>?_
 ·obtain ⟨s6,rfl⟩:=hP
  have hi:i<rs.length:=by have:=(List.getElem?_eq_some_iff.mp hx).1;rw [List.length_map] at this;exact this
  have ex:x=rowD rs[i]:=by rw [List.getElem?_map,List.getElem?_eq_getElem hi] at hx;exact (Option.some.inj hx).symm
  subst ex
  have et:rs.take (i+1)=rs.take i++[rs[i]]:=by rw [List.take_add_one,List.getElem?_eq_getElem hi];rfl
  have hr:=hrs rs[i] (List.getElem_mem hi)
  have l1:(((rs.take i).filter (onY fs k n v st)).map rowD).length<=60:=by
   rw [List.length_map]
   have:=List.length_filter_le (onY fs k n v st) (rs.take i)
   rw [List.length_take] at this
   omega
  have l2:(((rs.take i).filter fun r=>!onY fs k n v st r).map rowD).length<=60:=by
   rw [List.length_map]
   have:=List.length_filter_le (fun r=>!onY fs k n v st r) (rs.take i)
   rw [List.length_take] at this
   omega
  generalize rs[i]=r at *
  by_cases hy:sideS fs k n v st r.1="yes"
  ·have hb:onY fs k n v st r=true:=decide_eq_true hy
   refine one_if (fun b=>b=true) (fun q hq'=>⟨_,rfl,_,rfl,_,rfl,_,rfl,_,rfl,fs,an,k,n,v,st,r.1,rfl,F,hq,hst,hr.1,hq' _ (decide_eq_true hy)⟩) (fun _=>?_) fun hF=>by cases hF
   refine one_app (ts:=((rs.take i).filter (onY fs k n v st)).map rowD) (rowD r) rfl (by omega) (fun q hq=>⟨_,rfl,hq⟩) ?_
   refine ⟨.val (rowD r),?_⟩
   rw [et,List.filter_append,List.filter_append,List.map_append,List.map_append,List.filter_cons (p:=onY fs k n v st),if_pos hb,List.filter_cons (p:=fun r=>!onY fs k n v st r),if_neg (by rw [hb];decide),List.filter_nil,List.filter_nil,List.map_nil,List.append_nil]
   rfl
  ·have hb:onY fs k n v st r=false:=decide_eq_false hy
   refine one_if (fun b=>b=false) (fun q hq'=>⟨_,rfl,_,rfl,_,rfl,_,rfl,_,rfl,fs,an,k,n,v,st,r.1,rfl,F,hq,hst,hr.1,hq' _ (decide_eq_false hy)⟩) (fun hT=>by cases hT) fun _=>?_
   refine one_app (ts:=((rs.take i).filter fun r=>!onY fs k n v st r).map rowD) (rowD r) rfl (by omega) (fun q hq=>⟨_,rfl,hq⟩) ?_
   refine ⟨.val (rowD r),?_⟩
   rw [et,List.filter_append,List.filter_append,List.map_append,List.map_append,List.filter_cons (p:=onY fs k n v st),if_neg (by rw [hb];decide),List.filter_cons (p:=fun r=>!onY fs k n v st r),if_pos (by rw [hb];rfl),List.filter_nil,List.filter_nil,List.map_nil,List.append_nil]
   rfl
 ·obtain ⟨s6,rfl⟩:=hP
  rw [List.length_map,List.take_length]
  exact ⟨_,rfl,_,rfl,_,rfl,_,rfl,(Nat.le_of_ble_eq_true rfl),h⟩

theorem sc_31:FnScope ["_law_form_here","_law_rows_here","_law_told"] ["_law_form_here","_law_rows_here"] (defScope (top 36)):=fsc
theorem ok_31 (T:Txt K mg A):FnOk P w K mg base CX0 1 A.a_31 A.f_31 ["_law_form_here","_law_rows_here"] (liftSp K sp_31):=by
 refine fnT T.F_31 sc_31 (fun ds Q h=>by obtain ⟨fs,an,rs,rfl,F,hok,hrl,h⟩:=h;rfl) fun cdv Ar outer s H E hr ds Q h=>?_
 obtain ⟨fs,an,rs,rfl,F,hok,hrl,h⟩:=h
 have nd:=sc_31.nd
 refine ⟨_,(st_cons (ss 2 nd (et_lc (fr:=[none]) (N':=["_law_row"]) (it_val (et_v 1)) (fun b=>⟨(gt_name (pn 0 (show List.Nodup (["_law_row"]:List Str) from by decide +kernel))),if_nil,(et_ix ix_seq o_ix (et_v 0) et_int)⟩) (fun hi hY=>pe_lcc (show lcChk _ (defScope (top 36)) ["_law_form_here","_law_rows_here","_law_told"] ["_law_row"] [none]=true from by decide +kernel) rfl hi hY)))
 (st_one (st_ret (et_lc (fr:=[none,some 2]) (N':=["_law_answer","_law_told"]) (it_val (et_ix ix_seq o_ix (et_v 0) et_int)) (fun b=>⟨(gt_name (pn 0 (show List.Nodup (["_law_answer","_law_told"]:List Str) from by decide +kernel))),if_nil,(et_lcount (et_v 1) (at_cons (et_v 0) at_nil) (fun h ha=>pe_bm PySem.F.plainAttrs_list PySem.F.slot_list_count PySem.F.type_list_count (mt_lcount hr) h ha))⟩) (fun hi hY=>pe_lcc (show lcChk _ (defScope (top 36)) ["_law_form_here","_law_rows_here","_law_told"] ["_law_answer","_law_told"] [none,some 2]=true from by decide +kernel) rfl hi hY))))),?_⟩
 show sSeq _ _ _ [.val (frmD fs an),.val (.list (rs.map rowD)),.un]
 have a4:=F.a4
 refine seq_set (.list (rs.map fun r=>PyData.str r.2)) (fun q hq=>?_) ?_
 ·refine lcx_map (ts:=rs.map rowD) (fun R h=>⟨_,rfl,_,rfl,h⟩) sndT (by rw [List.length_map];omega) (fun x q hx hq=>?_) ?_
  ·obtain ⟨r,hr,rfl⟩:=List.mem_map.mp hx
   exact ⟨_,rfl,_,rfl,hq⟩
  ·rw [List.map_map];exact hq
 have ll:=lay_strs (ys:=rs.map fun r=>r.2) fun y hy=>by
  obtain ⟨r,hr,rfl⟩:=List.mem_map.mp hy
  exact F.an.2.1 _ (hok r hr).2
 rw [List.map_map] at ll
 refine (lcx_map (ts:=an.map PyData.str) (fun R h=>⟨_,rfl,_,rfl,_,rfl,h⟩) (cntD rs) (by rw [List.length_map];omega) (fun x q hx hq=>?_) ?_)
 ·obtain ⟨a,ha,rfl⟩:=List.mem_map.mp hx
  have hA:=th_name (F.an.2.1 a ha) (n:=8) (m:=0) (Nat.le_refl _)
  refine ⟨_,rfl,_,rfl,_,rfl,_,rfl,⟨ll.1,hA.lay,by have:=hA.depth;omega⟩,?_⟩
  rw [told_count];exact hq
 ·show Q _
  have e:(an.map PyData.str).map (cntD rs)=(cnts an rs).map PyData.int:=by
   unfold cnts
   rw [List.map_map,List.map_map];rfl
  rw [e];exact h

theorem sc_33:FnScope ["_law_top","_law_bottom","_law_one","_law_other"] ["_law_top","_law_bottom"] (defScope (top 38)):=fsc
theorem ok_33 (T:Txt K mg A):FnOk P w K mg base CX0 1 A.a_33 A.f_33 ["_law_top","_law_bottom"] (liftSp K sp_33):=by
 refine fnT T.F_33 sc_33 (fun ds Q h=>by obtain ⟨a,b,rfl,hb,ha2,hb2,h⟩:=h;rfl) fun cdv Ar outer s H E hr ds Q h=>?_
 obtain ⟨a,b,rfl,hb,ha2,hb2,h⟩:=h
 have nd:=sc_33.nd
 refine ⟨_,(st_cons (ss 2 nd (et_v 0))
 (st_cons (ss 3 nd (et_v 1))
 (st_cons (st_while (tt_cmp op_gt o_B0 (et_v 3) et_int)
 (st_one (st_par (i:=2) (j:=3) (at_cons (et_v 3) (at_cons (et_op op_mod o_I (et_v 2) (et_v 3)) at_nil)) (fun h=>ps_par rfl nd rfl rfl (by decide) rfl rfl h rfl))) (fun hc hb=>ps_while PassesOwn.never hc hb))
 (st_one (st_ret (et_tup (at_cons (et_op op_fdivB o_I (et_v 0) (et_v 2)) (at_cons (et_op op_fdivB o_I (et_v 1) (et_v 2)) at_nil)))))))),?_⟩
 show sSeq _ _ _ [.val (.int a),.val (.int b),.un,.un]
 refine seq_set (.int a) (fun q hq=>⟨_,rfl,hq⟩) ?_
 refine seq_set (.int b) (fun q hq=>⟨_,rfl,hq⟩) ?_
 refine seq_while (fun y σ=>∃ x:Nat,σ=[.val (.int a),.val (.int b),.val (.int x),.val (.int y)]/\x.gcd y=a.gcd b) b ⟨a,rfl,rfl⟩ fun y σ' hP=>?_
 obtain ⟨x,rfl,hg⟩:=hP
 refine ⟨decide (0<y),fun q hq=>⟨_,rfl,?_⟩,?_⟩
 ·show q (decide ((y:Int) > 0))
  have:decide ((y:Int) > 0)=decide (0<y):=by rw [decide_eq_decide];omega
  rw [this];exact hq
 by_cases hy:0<y
 ·rw [if_pos (decide_eq_true hy)]
  refine ⟨_,rfl,_,rfl,_,rfl,(show (0:Int)<(y:Int) by omega),_,_,rfl,x % y,Nat.mod_lt _ hy,y,?_,?_⟩
  ·show [_,_,_,Sl.val (.int ((x:Int) % (y:Int)))]=_
   rw [<- Int.natCast_emod]
  ·rw [<- hg,Nat.gcd_comm x y,Nat.gcd_rec y x,Nat.gcd_comm]
 ·rw [if_neg (by simpa using hy)]
  have hy0:y=0:=by omega
  subst hy0
  rw [Nat.gcd_zero_right] at hg
  subst hg
  have hgp:0<a.gcd b:=Nat.gcd_pos_of_pos_right _ hb
  have hgl:a.gcd b<=b:=Nat.gcd_le_right _ hb
  have hd:(0:Int)<((a.gcd b:Nat):Int)/\((a.gcd b:Nat):Int)<2 ^ 200:=⟨by omega,by
   have:(a.gcd b)<2 ^ 190:=Nat.lt_of_le_of_lt hgl hb2
   have h2:(2 ^ 190:Nat)<=2 ^ 200:=Nat.pow_le_pow_right (by decide) (by decide)
   exact_mod_cast Nat.lt_of_lt_of_le this h2⟩
  refine ⟨_,rfl,_,rfl,hd,_,rfl,_,rfl,hd,Nat.le_of_ble_eq_true rfl,?_⟩
  show Q (.tuple [.int ((a:Int) / ((a.gcd b:Nat):Int)),.int ((b:Int) / ((a.gcd b:Nat):Int))])
  rw [<- Int.natCast_ediv,<- Int.natCast_ediv]
  exact h

theorem sc_34:FnScope ["_law_form_here","_law_rows_here","_law_unlike"] ["_law_form_here","_law_rows_here"] (defScope (top 39)):=fsc
theorem ok_34 (T:Txt K mg A)
  (F_31:FnOk P w K mg base CX0 1 A.a_31 A.f_31 ["_law_form_here","_law_rows_here"] (liftSp K sp_31))
  (F_33:FnOk P w K mg base CX0 1 A.a_33 A.f_33 ["_law_top","_law_bottom"] (liftSp K sp_33)):FnOk P w K mg base CX0 2 A.a_34 A.f_34 ["_law_form_here","_law_rows_here"] (liftSp K sp_34):=by
 refine fnT T.F_34 sc_34 (fun ds Q h=>by obtain ⟨fs,an,rs,rfl,F,hok,hrl,h⟩:=h;rfl) fun cdv Ar outer s H E hr ds Q h=>?_
 obtain ⟨fs,an,rs,rfl,F,hok,hrl,h⟩:=h
 have nd:=sc_34.nd
 refine ⟨_,(st_cons (st_if (tt_cmp (op_eqD hr) o_data (et_v 1) (et_lst at_nil))
 (st_one (st_ret (et_tup (at_cons et_int (at_cons et_int at_nil)))))
 st_nil)
 (st_cons (ss 2 nd (et_cb c_sum (at_cons (et_lc (fr:=[none,some 1]) (N':=["_law_count","_law_rows_here"]) (it_val (ca F_31 T.m_31 T.k_31 T.d_31 (hr.mono (by decide)) (at_cons (et_v 0) (at_cons (et_v 1) at_nil)))) (fun b=>⟨(gt_name (pn 0 (show List.Nodup (["_law_count","_law_rows_here"]:List Str) from by decide +kernel))),if_nil,(et_op op_mulAny o_mul (et_v 0) (et_op op_sub o_I0 (et_cb c_len (at_cons (et_v 1) at_nil) (fun h=>pe_callB call_lenAny rfl T.b_len bl_len h)) (et_v 0)))⟩) (fun hi hY=>pe_lcc (show lcChk _ (defScope (top 39)) ["_law_form_here","_law_rows_here","_law_unlike"] ["_law_count","_law_rows_here"] [none,some 1]=true from by decide +kernel) rfl hi hY)) at_nil) (fun h=>pe_callB (call_sum_ints rfl) rfl T.b_sum bl_sum h)))
 (st_one (st_ret (ca F_33 T.m_33 T.k_33 T.d_33 (hr.mono (by decide)) (at_cons (et_v 2) (at_cons (et_cb c_len (at_cons (et_v 1) at_nil) (fun h=>pe_callB call_lenAny rfl T.b_len bl_len h)) at_nil))))))),?_⟩
 show sSeq _ _ _ [.val (frmD fs an),.val (.list (rs.map rowD)),.un]
 have a4:=F.a4
 have hT:=th_rows F hok hrl
 have hTd:=hT.depth
 have ee:PyData.eqv (.list (rs.map rowD)) (.list [])=rs.isEmpty:=by cases rs<;>rfl
 refine seq_if (fun b=>b=rs.isEmpty) (fun q hq=>⟨_,rfl,(Nat.le_of_ble_eq_true rfl),⟨hT.lay,rfl,?_⟩,?_⟩) (fun hT'=>?_) fun hF=>?_
 ·first | omega | exact Nat.le_trans hTd (by decide)
 ·rw [ee];exact hq _ rfl
 ·have:rs=[]:=List.isEmpty_iff.mp hT'.symm
  subst this
  have e01:frL (dbt [])=.tuple [.int 0,.int 1]:=by
   show frL (low 0 1)=_
   unfold low
   rw [Nat.gcd_zero_left];rfl
  rw [e01] at h
  exact ⟨(Nat.le_of_ble_eq_true rfl),h⟩
 ·try unfold sNext
  dsimp only
  have h0:¬ rs.length=0:=fun z=>by
   rw [List.length_eq_zero_iff.mp z] at hF
   cases hF
  have em:max 1 rs.length=rs.length:=by omega
  unfold dbt at h
  rw [em] at h
  have hpl:=prs_le rs rs
  have hp2:rs.length*rs.length<=60*60:=Nat.mul_le_mul hrl hrl
  have hal:(cnts an rs).length=an.length:=by unfold cnts;rw [List.length_map]
  have hcn:∀ c∈cnts an rs,0<=c/\c<=(rs.length:Int):=fun c hc=>by
   unfold cnts at hc
   obtain ⟨a,_,rfl⟩:=List.mem_map.mp hc
   have:=cnt_le rs a
   omega
  refine seq_set (.int (prs rs rs:Nat)) (fun q' hq'=>?_) ?_
  ·dsimp only [eCall,aCons,aNil]
   refine lcx_map (ts:=(cnts an rs).map PyData.int) (fun R h=>⟨_,rfl,_,rfl,fs,an,rs,rfl,F,hok,hrl,_,rfl,h⟩) (partD rs.length) (by rw [List.length_map,hal];omega) (fun x q hx hq=>?_) ?_
   ·obtain ⟨c,hc,rfl⟩:=List.mem_map.mp hx
    have:=hcn c hc
    refine ⟨_,rfl,_,rfl,_,rfl,?_⟩
    show CMul c (((rs.map rowD).length:Int)-c)/\q (.int (c*(((rs.map rowD).length:Int)-c)))
    rw [List.length_map]
    exact ⟨.inl ⟨by omega,by omega⟩,hq⟩
   ·have e:((cnts an rs).map PyData.int).map (partD rs.length)=((cnts an rs).map fun c=>c*((rs.length:Int)-c)).map PyData.int:=by
     rw [List.map_map,List.map_map];rfl
    rw [e]
    refine ⟨_,rfl,fun n hn=>?_,by rw [List.length_map,hal];omega,?_⟩
    ·obtain ⟨c,hc,rfl⟩:=List.mem_map.mp hn
     have:=hcn c hc
     have h1:0<=c*((rs.length:Int)-c):=Int.mul_nonneg (by omega) (by omega)
     have h2:c*((rs.length:Int)-c)<=60*60:=Int.mul_le_mul (by omega) (by omega) (by omega) (by decide)
     omega
    ·rw [prs_sum F.an.2.2 fun r hr=>(hok r hr).2]
     exact hq'
  ·refine ⟨_,rfl,_,rfl,prs rs rs,rs.length,?_,by omega,Nat.lt_of_le_of_lt (show prs rs rs<=3600 by omega) (by decide),Nat.lt_of_le_of_lt (show rs.length<=60 from hrl) (by decide),h⟩
   show [PyData.int (prs rs rs:Nat),.int ((rs.map rowD).length:Int)]=_
   rw [List.length_map]

theorem sc_35:FnScope ["_law_one","_law_other"] ["_law_one","_law_other"] (defScope (top 40)):=fsc
theorem ok_35 (T:Txt K mg A):FnOk P w K mg base CX0 1 A.a_35 A.f_35 ["_law_one","_law_other"] (liftSp K sp_35):=by
 refine fnT T.F_35 sc_35 (fun ds Q h=>by obtain ⟨x,y,rfl,hx,hy,h⟩:=h;rfl) fun cdv Ar outer s H E hr ds Q h=>?_
 obtain ⟨x,y,rfl,hx,hy,h⟩:=h
 have nd:=sc_35.nd
 refine ⟨_,(st_one (st_ret (et_cmp op_lt o_B0 (et_op op_mulAny o_mul (et_ix ix_seq o_ix (et_v 0) et_int) (et_ix ix_seq o_ix (et_v 1) et_int)) (et_op op_mulAny o_mul (et_ix ix_seq o_ix (et_v 1) et_int) (et_ix ix_seq o_ix (et_v 0) et_int))))),?_⟩
 show sRet _ _ [.val (frL x),.val (frL y)]
 refine ⟨_,rfl,_,rfl,_,rfl,_,rfl,.inl ⟨by omega,by omega⟩,_,rfl,_,rfl,_,rfl,_,rfl,.inl ⟨by omega,by omega⟩,?_⟩
 show Q (.bool (decide ((x.1:Int)*(y.2:Int)<(y.1:Int)*(x.2:Int))))
 have e:decide ((x.1:Int)*(y.2:Int)<(y.1:Int)*(x.2:Int))=decide (x.1*y.2<y.1*x.2):=by
  rw [decide_eq_decide,<- Int.natCast_mul,<- Int.natCast_mul];omega
 rw [e];exact h

theorem sc_36:FnScope ["_law_form_here","_law_rows_here","_law_few","_law_found","_law_question","_law_stray","_law_ones","_law_others","_law_one","_law_other","_law_doubt_here","_law_told","_law_k","_law_j"] ["_law_form_here","_law_rows_here","_law_few"] (defScope (top 41)):=fsc
theorem ok_36 (T:Txt K mg A)
  (F_34:FnOk P w K mg base CX0 2 A.a_34 A.f_34 ["_law_form_here","_law_rows_here"] (liftSp K sp_34))
  (F_35:FnOk P w K mg base CX0 1 A.a_35 A.f_35 ["_law_one","_law_other"] (liftSp K sp_35))
  (F_33:FnOk P w K mg base CX0 1 A.a_33 A.f_33 ["_law_top","_law_bottom"] (liftSp K sp_33))
  (F_30:FnOk P w K mg base CX0 2 A.a_30 A.f_30 ["_law_form_here","_law_question","_law_stray","_law_rows_here"] (liftSp K sp_30))
  (F_28:FnOk P w K mg base CX0 1 A.a_28 A.f_28 ["_law_form_here"] (liftSp K sp_28)):FnOk P w K mg base CX0 4 A.a_36 A.f_36 ["_law_form_here","_law_rows_here","_law_few"] (liftSp K sp_36):=by
 refine fnT T.F_36 sc_36 (fun ds Q h=>by obtain ⟨fs,an,rs,m,rfl,F,hrs,hl,h⟩:=h;rfl) fun cdv Ar outer s H E hr ds Q h=>?_
 obtain ⟨fs,an,rs,m,rfl,F,hrs,hl,h⟩:=h
 have nd:=sc_36.nd
 refine ⟨_,(st_cons (st_own (i:=3) at_nil (fun h=>ps_set (i:=3) nd rfl (by first | exact Or.inl rfl | exact Or.inr rfl) h))
 (st_cons (st_for (it_val (ca F_28 T.m_28 T.k_28 T.d_28 (hr.mono (by decide)) (at_cons (et_v 0) at_nil))) (gt_name (pn 4 nd))
 (st_one (st_for (it_val (et_tup (at_cons et_str (at_cons et_str at_nil)))) (gt_name (pn 5 nd))
 (st_cons (st_unp (g:=fun _ _ _ _=>True) (ca F_30 T.m_30 T.k_30 T.d_30 (hr.mono (by decide)) (at_cons (et_v 0) (at_cons (et_v 4) (at_cons (et_v 5) (at_cons (et_v 1) at_nil))))) (gt_pair (pg_tup rfl (pgs_cons (pn 6 nd) (pgs_cons (pn 7 nd) pgs_nil)))) (fun he hg=>ps_asg he hg))
 (st_one (st_if (tt_cmp op_ge o_B0 (et_cb c_min2 (at_cons (et_cb c_len (at_cons (et_v 6) at_nil) (fun h=>pe_callB call_lenAny rfl T.b_len bl_len h)) (at_cons (et_cb c_len (at_cons (et_v 7) at_nil) (fun h=>pe_callB call_lenAny rfl T.b_len bl_len h)) at_nil)) (fun h=>pe_callB (call_min2 rfl) rfl T.b_min bl_min h)) (et_v 2))
 (st_cons (ss 8 nd (ca F_34 T.m_34 T.k_34 T.d_34 (hr.mono (by decide)) (at_cons (et_v 0) (at_cons (et_v 6) at_nil))))
 (st_cons (ss 9 nd (ca F_34 T.m_34 T.k_34 T.d_34 (hr.mono (by decide)) (at_cons (et_v 0) (at_cons (et_v 7) at_nil))))
 (st_cons (ss 10 nd (ca F_33 T.m_33 T.k_33 T.d_33 (hr.mono (by decide)) (at_cons (et_op op_addAny o_add (et_op op_mulAny o_mul (et_ix ix_seq o_ix (et_v 8) et_int) (et_ix ix_seq o_ix (et_v 9) et_int)) (et_op op_mulAny o_mul (et_ix ix_seq o_ix (et_v 9) et_int) (et_ix ix_seq o_ix (et_v 8) et_int))) (at_cons (et_op op_mulAny o_mul (et_ix ix_seq o_ix (et_v 8) et_int) (et_ix ix_seq o_ix (et_v 9) et_int)) at_nil))))
 (st_one (st_app (i:=3) (pv 3) (et_tup (at_cons (et_v 4) (at_cons (et_v 5) (at_cons (et_v 10) at_nil)))) (pb:=fun h=>ps_expr (pe_bm PySem.F.plainAttrs_list PySem.F.slot_list_append PySem.F.type_list_append mt_append (pv 3) h)))))))
 st_nil))) (fun hi hg hb=>ps_for PassesOwn.never rfl hi hg hb))) (fun hi hg hb=>ps_for PassesOwn.never rfl hi hg hb))
 (st_cons (st_own (i:=11) at_nil (fun h=>ps_set (i:=11) nd rfl (by first | exact Or.inl rfl | exact Or.inr rfl) h))
 (st_cons (st_while (tt_borrow 3 (tt_cmp (op_neD hr) o_data (et_v 3) (et_lst at_nil)))
 (st_cons (ss 12 nd et_int)
 (st_cons (st_for (it_range2 (at_cons et_int (at_cons (et_borrow 3 (et_cb c_len (at_cons (et_v 3) at_nil) (fun h=>pe_callB call_lenAny rfl T.b_len bl_len h))) at_nil)) (fun h=>pi_range2 rfl T.b_range h)) (gt_name (pn 13 nd))
 (st_one (st_if (tt_borrow 3 (tt_val (ca F_35 T.m_35 T.k_35 T.d_35 (hr.mono (by decide)) (at_cons (et_ix ix_seq o_ix (et_ix ix_seq o_ix (et_v 3) (et_v 13)) et_int) (at_cons (et_ix ix_seq o_ix (et_ix ix_seq o_ix (et_v 3) (et_v 12)) et_int) at_nil))) (fun h=>pt_val h)))
 (st_one (ss 12 nd (et_v 13)))
 st_nil)) (fun hi hg hb=>ps_for PassesOwn.never rfl hi hg hb))
 (st_one (st_appPop (i:=11) (j:=3) (k:=12) (pv 11) (pv 3) (pv 12) (pp:=fun h=>pe_bm PySem.F.plainAttrs_list PySem.F.slot_list_pop PySem.F.type_list_pop mt_popAt (pv 3) h) (pb:=fun h=>ps_expr (pe_bm PySem.F.plainAttrs_list PySem.F.slot_list_append PySem.F.type_list_append mt_append (pv 11) h)))))) (fun hc hb=>ps_while PassesOwn.never hc hb))
 (st_share 11 (st_one (st_ret (et_v 11)))))))),?_⟩
 show sSeq _ _ _ [.val (frmD fs an),.val (.list (rs.map rowD)),.val (.int m),.un,.un,.un,.un,.un,.un,.un,.un,.un,.un,.un]
 have hcl:=cand_len F rs m
 have hql:(qs fs).length<=50:=by
  have h1:=choose_len F fs fun g hg=>hg
  have n5:=F.n5
  rw [<- List.length_map (f:=qD),qs_data];omega
 have fl:∀ l:List Qn,(l.flatMap twoC).length=2*l.length:=fun l=>by
  induction l with
  | nil=>rfl
  | cons x l ih=>rw [List.flatMap_cons,List.length_append,ih,List.length_cons];show 2+_=_;omega
 refine seq_own [] (by decide) (fun q hq=>hq) ?_
 refine seq_for (ts:=(qs fs).map qD) (fun R h=>⟨_,rfl,fs,an,rfl,F,_,rfl,h⟩)
  (fun k σ=>∃ s4 s5 s6 s7 s8 s9 s10:Sl,σ=[.val (frmD fs an),.val (.list (rs.map rowD)),.val (.int m),.own (((((qs fs).take k).flatMap twoC).filter (okC fs rs m)).map (entC fs rs)),s4,s5,s6,s7,s8,s9,s10,.un,.un,.un]) ⟨_,_,_,_,_,_,_,rfl⟩ (fun k x σ' hx hP=>?_) fun σ' hP=>?_
 ·obtain ⟨s4,s5,s6,s7,s8,s9,s10,rfl⟩:=hP
  rw [List.getElem?_map] at hx
  obtain ⟨w,hwk,rfl⟩:=Option.map_eq_some_iff.mp hx
  have hw:=List.mem_of_getElem? hwk
  have hq':=qs_isQ hw
  have hlk:((qs fs).take k).length<=50:=by rw [List.length_take];omega
  refine (forx (ts:=[.str "yes",.str "no"]) (fun R h=>⟨(Nat.le_of_ble_eq_true rfl),_,rfl,h⟩)
   (fun j σ=>∃ s5 s6 s7 s8 s9 s10:Sl,σ=[.val (frmD fs an),.val (.list (rs.map rowD)),.val (.int m),.own (((((qs fs).take k).flatMap twoC++(twoC w).take j).filter (okC fs rs m)).map (entC fs rs)),.val (qD w),s5,s6,s7,s8,s9,s10,.un,.un,.un]) ⟨s5,s6,s7,s8,s9,s10,by rw [List.take_zero,List.append_nil];rfl⟩ (fun j y σ2 hy hP=>?_) fun σ2 hP=>?_)
  ·obtain ⟨s5,s6,s7,s8,s9,s10,rfl⟩:=hP
   have hj:j<2:=(List.getElem?_eq_some_iff.mp hy).1
   obtain ⟨st,hst,rfl,hcj⟩:∃ st:Str,(st="yes"\/st="no")/\y=.str st/\(twoC w)[j]?=some (w,st):=by
    rcases (show j=0\/j=1 by omega) with rfl | rfl
    ·cases hy;exact ⟨_,.inl rfl,rfl,rfl⟩
    ·cases hy;exact ⟨_,.inr rfl,rfl,rfl⟩
   have et:(((qs fs).take k).flatMap twoC++(twoC w).take (j+1)).filter (okC fs rs m)=(((qs fs).take k).flatMap twoC++(twoC w).take j).filter (okC fs rs m)++(if okC fs rs m (w,st)=true then [(w,st)] else []):=by
    rw [List.take_add_one,hcj,<- List.append_assoc,List.filter_append]
    congr 1
    show List.filter _ [(w,st)]=_
    rw [List.filter_cons];rfl
   have hlj:((((((qs fs).take k).flatMap twoC++(twoC w).take j).filter (okC fs rs m))).map (entC fs rs)).length<=200:=by
    rw [List.length_map]
    refine Nat.le_trans (List.length_filter_le _ _) ?_
    have h2:((twoC w).take j).length<=2:=by rw [List.length_take];exact Nat.min_le_right _ 2
    rw [List.length_append,fl]
    omega
   refine (show sSeq (sUnp _ _ _) _ _ _ from ⟨_,rfl,_,rfl,_,rfl,_,rfl,fs,an,w.1,w.2.1,w.2.2,st,rs,rfl,F,hq',hst,hrs,hl,_,_,rfl,?_⟩)
   dsimp only
   have hy60:(yR fs (w,st) rs).length<=60:=Nat.le_trans (List.length_filter_le _ _) hl
   have hn60:(nR fs (w,st) rs).length<=60:=Nat.le_trans (List.length_filter_le _ _) hl
   refine one_if (fun b=>b=okC fs rs m (w,st)) (fun q hq2=>⟨_,rfl,_,rfl,_,rfl,?_⟩) (fun hT=>?_) fun hF=>?_
   ·refine hq2 _ ?_
    show decide (m<=(if ((List.map rowD (nR fs (w,st) rs)).length:Int)<((List.map rowD (yR fs (w,st) rs)).length:Int) then ((List.map rowD (nR fs (w,st) rs)).length:Int) else ((List.map rowD (yR fs (w,st) rs)).length:Int)))=_
    rw [List.length_map,List.length_map]
    unfold okC
    rw [Bool.eq_iff_iff,Bool.and_eq_true,decide_eq_true_iff,decide_eq_true_iff,decide_eq_true_iff]
    split<;>omega
   ·have hy1:=dbt_sml hy60
    have hn1:=dbt_sml hn60
    have y1:=hy1.top
    have y2:=hy1.bot
    have n1:=hn1.top
    have n2:=hn1.bot
    obtain ⟨g1,g2,g3⟩:=sumF_in hy1 hn1
    have big:(1000000000000:Nat)<2 ^ 190:=by decide +kernel
    refine seq_set (frL (dbt (yR fs (w,st) rs))) (fun q hq2=>⟨_,rfl,_,rfl,fs,an,_,rfl,F,hrs.filt _,hy60,hq2⟩) ?_
    refine seq_set (frL (dbt (nR fs (w,st) rs))) (fun q hq2=>⟨_,rfl,_,rfl,fs,an,_,rfl,F,hrs.filt _,hn60,hq2⟩) ?_
    refine seq_set (frL (dC fs rs (w,st))) (fun q hq2=>?_) ?_
    ·have e:[PyData.int (((dbt (yR fs (w,st) rs)).1:Int)*((dbt (nR fs (w,st) rs)).2:Int)+((dbt (nR fs (w,st) rs)).1:Int)*((dbt (yR fs (w,st) rs)).2:Int)),.int (((dbt (yR fs (w,st) rs)).2:Int)*((dbt (nR fs (w,st) rs)).2:Int))]=[.int (((dbt (yR fs (w,st) rs)).1*(dbt (nR fs (w,st) rs)).2+(dbt (nR fs (w,st) rs)).1*(dbt (yR fs (w,st) rs)).2:Nat):Int),.int (((dbt (yR fs (w,st) rs)).2*(dbt (nR fs (w,st) rs)).2:Nat):Int)]:=by
      rw [Int.natCast_add,Int.natCast_mul,Int.natCast_mul,Int.natCast_mul]
     exact ⟨_,rfl,_,rfl,_,rfl,_,rfl,.inl ⟨by omega,by omega⟩,_,rfl,_,rfl,_,rfl,_,rfl,.inl ⟨by omega,by omega⟩,_,rfl,_,rfl,_,rfl,_,rfl,.inl ⟨by omega,by omega⟩,_,_,e,g3,by omega,by omega,hq2⟩
    ·refine one_app (entC fs rs (w,st)) rfl (by omega) (fun q hq2=>⟨_,rfl,_,rfl,_,rfl,(Nat.le_of_ble_eq_true rfl),hq2⟩) ⟨.val (.str st),.val (.list ((yR fs (w,st) rs).map rowD)),.val (.list ((nR fs (w,st) rs).map rowD)),.val (frL (dbt (yR fs (w,st) rs))),.val (frL (dbt (nR fs (w,st) rs))),.val (frL (dC fs rs (w,st))),?_⟩
     rw [et,if_pos hT.symm,List.map_append]
     exact rfl
   ·try unfold sNext
    dsimp only
    refine ⟨.val (.str st),.val (.list ((yR fs (w,st) rs).map rowD)),.val (.list ((nR fs (w,st) rs).map rowD)),s8,s9,s10,?_⟩
    rw [et,if_neg (by rw [<- hF];decide),List.append_nil]
    exact rfl
  ·obtain ⟨s5,s6,s7,s8,s9,s10,rfl⟩:=hP
   refine ⟨.val (qD w),s5,s6,s7,s8,s9,s10,?_⟩
   rw [List.take_add_one,hwk]
   show [_,_,_,Sl.own (((((qs fs).take k).flatMap twoC++(twoC w).take 2).filter (okC fs rs m)).map (entC fs rs)),_,_,_,_,_,_,_,_,_,_]=_
   rw [List.flatMap_append]
   exact rfl
 ·obtain ⟨s4,s5,s6,s7,s8,s9,s10,rfl⟩:=hP
  rw [List.length_map,List.take_length]
  refine seq_own [] (by decide) (fun q hq=>hq) ?_
  have kl:=fun i j (hi:i<(cand fs rs m).length) (hj:j<(cand fs rs m).length)=>key_lt (fs:=fs) (m:=m) hl hi hj
  refine seq_while (fun n σ=>∃ (ts js:List Nat) (s12 s13:Sl),σ=[.val (frmD fs an),.val (.list (rs.map rowD)),.val (.int m),.own (js.map fun i=>(entL fs rs m).getD i .none),s4,s5,s6,s7,s8,s9,s10,.own (ts.map fun i=>(entL fs rs m).getD i .none),s12,s13]/\n=js.length/\Sel (cand fs rs m).length (fun i=>(keyL fs rs m).getD i 0) ts js) (List.range (cand fs rs m).length).length
   ⟨[],List.range (cand fs rs m).length,_,_,by rw [ent_rg];rfl,rfl,Sel.start _ _⟩ fun n σ' hP=>?_
  obtain ⟨ts,js,s12,s13,rfl,rfl,sel⟩:=hP
  have hlen:=sel.len
  have hTh:=th_ents F hl m js sel.lt2 (by omega)
  have hdp:=hTh.depth
  have ee:PyData.eqv (.list (js.map fun i=>(entL fs rs m).getD i .none)) (.list [])=js.isEmpty:=by cases js<;>rfl
  refine ⟨!js.isEmpty,fun q hq=>⟨_,rfl,_,rfl,(Nat.le_of_ble_eq_true rfl),⟨hTh.lay,rfl,by omega⟩,by show q (!PyData.eqv _ _);rw [ee];exact hq⟩,?_⟩
  cases js with
  | nil =>
   rw [if_neg (by decide)]
   refine ⟨_,rfl,_,rfl,?_⟩
   have:=h ts sel.done
   exact this
  | cons j0 js0 =>
   rw [if_pos (by rfl)]
   generalize hjs:j0::js0=js at *
   have h0:0<js.length:=by rw [<- hjs];exact Nat.succ_pos _
   have at_:∀ p (hp:p<js.length),L2.atI (js.map fun i=>(entL fs rs m).getD i .none) (p:Int)=some (entC fs rs ((cand fs rs m)[js[p]]'(sel.lt2 _ (List.getElem_mem hp)))):=fun p hp=>by
    refine L2.atI_nat ?_
    rw [List.getElem?_map,List.getElem?_eq_getElem hp]
    show some ((entL fs rs m).getD js[p] .none)=_
    rw [entL_at (sel.lt2 _ (List.getElem_mem hp))]
   refine seq_set (.int 0) (fun q hq=>hq) ?_
   refine seq_for (ts:=TL.intsFrom 1 ((js.length:Int)-1).toNat) (fun R hR=>?_)
    (fun i σ=>∃ (p:Nat) (s13:Sl),σ=[.val (frmD fs an),.val (.list (rs.map rowD)),.val (.int m),.own (js.map fun i=>(entL fs rs m).getD i .none),s4,s5,s6,s7,s8,s9,s10,.own (ts.map fun i=>(entL fs rs m).getD i .none),.val (.int (p:Nat)),s13]/\Fst (fun i=>(keyL fs rs m).getD i 0) js (i+1) p) ⟨0,_,rfl,h0,fun q hq h1=>?_,fun q _ h1=>by omega⟩ (fun i x σ2 hx hP=>?_) fun σ2 hP=>?_
   ·refine ⟨_,rfl,_,rfl,rfl,1,_,rfl,⟨by decide,by decide,?_,?_⟩,?_⟩
    ·rw [List.length_map];omega
    ·rw [List.length_map];omega
    ·rw [List.length_map];exact hR
   ·have:q=0:=by omega
    subst this;exact Int.le_refl _
   ·obtain ⟨p,s13,rfl,fst⟩:=hP
    have hin:i<((js.length:Int)-1).toNat:=by have:=(List.getElem?_eq_some_iff.mp hx).1;rw [ints_from_len] at this;exact this
    have hi1:i+1<js.length:=by omega
    obtain rfl:x=.int (((i+1:Nat)):Int):=by rw [ints_from_get hin] at hx;exact (Option.some.inj hx).symm
    have a1:=at_ (i+1) hi1
    have a2:=at_ p fst.lt
    have t1:=(dC_sml (fs:=fs) hl ((cand fs rs m)[js[i+1]]'(sel.lt2 _ (List.getElem_mem hi1)))).top
    have t2:=(dC_sml (fs:=fs) hl ((cand fs rs m)[js[p]'fst.lt]'(sel.lt2 _ (List.getElem_mem fst.lt)))).top
    have kk:=kl js[i+1] (js[p]'fst.lt) (sel.lt2 _ (List.getElem_mem hi1)) (sel.lt2 _ (List.getElem_mem fst.lt))
    refine one_if (fun b=>b=decide ((keyL fs rs m).getD js[i+1] 0<(keyL fs rs m).getD (js[p]'fst.lt) 0)) (fun q hq=>⟨_,rfl,_,rfl,_,rfl,_,a1,_,rfl,_,rfl,_,rfl,_,a2,_,rfl,_,_,rfl,by omega,by omega,?_⟩) (fun hT=>?_) fun hF=>?_
    ·refine hq _ ?_
     rw [decide_eq_decide];exact kk.symm
    ·have hT':=of_decide_eq_true hT.symm
     refine one_set (.int ((i+1:Nat):Int)) (fun q hq=>⟨_,rfl,hq⟩) ⟨i+1,_,rfl,hi1,fun q hq h1=>?_,fun q hq h1=>?_⟩
     ·by_cases c:q=i+1
      ·subst c;exact Int.le_refl _
      ·have:=fst.le q hq (by omega)
       try dsimp only at this |-
       omega
     ·have:=fst.le q hq (by omega)
      try dsimp only at this |-
      omega
    ·have hF':=of_decide_eq_false hF.symm
     try unfold sNext
     dsimp only
     refine ⟨p,_,rfl,fst.lt,fun q hq h1=>?_,fst.st⟩
     by_cases c:q=i+1
     ·subst c;try dsimp only
      omega
     ·exact fst.le q hq (by omega)
   ·obtain ⟨p,s13,rfl,fst⟩:=hP
    have fst':Fst (fun i=>(keyL fs rs m).getD i 0) js js.length p:=⟨fst.lt,fun q hq _=>fst.le q hq (by rw [ints_from_len];omega),fst.st⟩
    refine ⟨_,_,p,(entL fs rs m).getD (js[p]'fst.lt) .none,rfl,rfl,by decide,rfl,?_,?_,?_,?_⟩
    ·rw [List.getElem?_map,List.getElem?_eq_getElem fst.lt];rfl
    ·rw [List.length_map];omega
    ·rw [List.length_map];omega
    ·refine ⟨(js.eraseIdx p).length,?_,ts++[js[p]'fst.lt],js.eraseIdx p,.val (.int (p:Nat)),s13,?_,rfl,sel.next fst'⟩
     ·rw [List.length_eraseIdx,if_pos fst.lt];omega
     ·have em:(js.map fun i=>(entL fs rs m).getD i .none).eraseIdx p=(js.eraseIdx p).map fun i=>(entL fs rs m).getD i .none:=map_erase _ p js
      rw [List.map_append,<- em]
      exact rfl

theorem sc_37:FnScope ["_law_form_here","_law_rows_here","_law_few","_law_told"] ["_law_form_here","_law_rows_here","_law_few"] (defScope (top 42)):=fsc
theorem ok_37 (T:Txt K mg A)
  (F_34:FnOk P w K mg base CX0 2 A.a_34 A.f_34 ["_law_form_here","_law_rows_here"] (liftSp K sp_34))
  (F_35:FnOk P w K mg base CX0 1 A.a_35 A.f_35 ["_law_one","_law_other"] (liftSp K sp_35))
  (F_36:FnOk P w K mg base CX0 4 A.a_36 A.f_36 ["_law_form_here","_law_rows_here","_law_few"] (liftSp K sp_36)):FnOk P w K mg base CX0 5 A.a_37 A.f_37 ["_law_form_here","_law_rows_here","_law_few"] (liftSp K sp_37):=by
 refine fnT T.F_37 sc_37 (fun ds Q h=>by obtain ⟨fs,an,rs,m,rfl,F,hrs,hl,h⟩:=h;rfl) fun cdv Ar outer s H E hr ds Q h=>?_
 obtain ⟨fs,an,rs,m,rfl,F,hrs,hl,h⟩:=h
 have nd:=sc_37.nd
 refine ⟨_,(st_cons (ss 3 nd (ca F_36 T.m_36 T.k_36 T.d_36 (hr.mono (by decide)) (at_cons (et_v 0) (at_cons (et_v 1) (at_cons (et_v 2) at_nil)))))
 (st_cons (st_if (tw_pt (tw_or (tt_cmp (op_eqD hr) o_data (et_v 3) (et_lst at_nil)) (tw_or1 (tt_not (tt_val (ca F_35 T.m_35 T.k_35 T.d_35 (hr.mono (by decide)) (at_cons (et_ix ix_seq o_ix (et_ix ix_seq o_ix (et_v 3) et_int) et_int) (at_cons (ca F_34 T.m_34 T.k_34 T.d_34 (hr.mono (by decide)) (at_cons (et_v 0) (at_cons (et_v 1) at_nil))) at_nil))) (fun h=>pt_val h))))))
 (st_one (st_ret et_non))
 st_nil)
 (st_one (st_ret (et_ix ix_seq o_ix (et_v 3) et_int))))),?_⟩
 show sSeq _ _ _ [.val (frmD fs an),.val (.list (rs.map rowD)),.val (.int m),.un]
 have hcl:=cand_len F rs m
 have dsm:∀ c:Ch,(dC fs rs c).1<=1000000:=fun c=>Nat.le_trans (dC_sml (fs:=fs) hl c).top (by decide)
 have dbm:(dbt rs).1<=1000000:=Nat.le_trans (dbt_sml hl).top (by decide)
 have at0:∀ {i:Nat} {J:List Nat},Rkd fs rs m (i::J)->∃ c,bst fs rs (cand fs rs m)=some c/\L2.atI (outL fs rs m (i::J)) 0=some (entC fs rs c):=fun {i J} hJ=>by
  refine ⟨_,bst_head hl hJ,?_⟩
  refine L2.atI_nat (j:=0) ?_
  show some ((entL fs rs m).getD i .none)=_
  rw [entL_at (hJ.lt i (List.mem_cons_self ..))]
 have opt:∀ c,bst fs rs (cand fs rs m)=some c->bestO fs rs m=if lessF (dC fs rs c) (dbt rs)=true then some c else none:=fun c hc=>by
  unfold bestO;rw [hc];rfl
 refine seq_setR (fun v=>∃ J,Rkd fs rs m J/\v=.list (outL fs rs m J)) (fun q hq=>⟨_,rfl,_,rfl,_,rfl,fs,an,rs,m,rfl,F,hrs,hl,fun J hJ=>hq _ ⟨J,hJ,rfl⟩⟩) ?_
 rintro _ ⟨J,hJ,rfl⟩
 have hTh:Th 10000 3 (.list (outL fs rs m J)):=th_ents F hl m J hJ.lt (by rw [hJ.len];exact hcl)
 have hdp:=hTh.depth
 cases J with
 | nil =>
  have e:bestO fs rs m=none:=by unfold bestO;rw [bst_nil hJ];rfl
  rw [e] at h
  refine seq_if (fun b=>b=true) (fun q hq=>⟨_,rfl,(Nat.le_of_ble_eq_true rfl),⟨hTh.lay,rfl,by omega⟩,?_⟩) (fun _=>h) fun hF=>by cases hF
  exact hq _ rfl
 | cons i J =>
  obtain ⟨c,hc,h0⟩:=at0 hJ
  rw [opt c hc] at h
  have ee:PyData.eqv (.list (outL fs rs m (i::J))) (.list [])=false:=rfl
  refine seq_if (fun b=>b=!lessF (dC fs rs c) (dbt rs)) (fun q hq=>⟨_,rfl,(Nat.le_of_ble_eq_true rfl),⟨hTh.lay,rfl,by omega⟩,?_⟩) (fun hT=>?_) fun hF=>?_
  ·show (if PyData.eqv (.list (outL fs rs m (i::J))) (.list [])=true then q true else _)
   rw [ee,if_neg (by decide)]
   exact ⟨_,rfl,_,h0,_,rfl,_,rfl,_,rfl,fs,an,rs,rfl,F,hrs,hl,_,_,rfl,dsm c,dbm,hq _ rfl⟩
  ·have:¬ lessF (dC fs rs c) (dbt rs)=true:=fun z=>by rw [z] at hT;cases hT
   rw [if_neg this] at h
   exact h
  ·have:lessF (dC fs rs c) (dbt rs)=true:=by
    cases z:lessF (dC fs rs c) (dbt rs) with
    | true=>rfl
    | false=>rw [z] at hF;cases hF
   rw [if_pos this] at h
   try unfold sNext
   dsimp only
   exact ⟨_,rfl,_,h0,h⟩

theorem sc_32:FnScope ["_law_form_here","_law_rows_here","_law_counts_here"] ["_law_form_here","_law_rows_here"] (defScope (top 37)):=fsc
theorem ok_32 (T:Txt K mg A)
  (F_31:FnOk P w K mg base CX0 1 A.a_31 A.f_31 ["_law_form_here","_law_rows_here"] (liftSp K sp_31)):FnOk P w K mg base CX0 2 A.a_32 A.f_32 ["_law_form_here","_law_rows_here"] (liftSp K sp_32):=by
 refine fnT T.F_32 sc_32 (fun ds Q h=>by obtain ⟨fs,an,rs,rfl,F,hok,hrl,h⟩:=h;rfl) fun cdv Ar outer s H E hr ds Q h=>?_
 obtain ⟨fs,an,rs,rfl,F,hok,hrl,h⟩:=h
 have nd:=sc_32.nd
 refine ⟨_,(st_cons (ss 2 nd (ca F_31 T.m_31 T.k_31 T.d_31 (hr.mono (by decide)) (at_cons (et_v 0) (at_cons (et_v 1) at_nil))))
 (st_one (st_ret (et_ix ix_seq o_ix (et_ix ix_seq o_ix (et_v 0) et_int) (et_lindex (et_v 2) (at_cons (et_cb c_max (at_cons (et_v 2) at_nil) (fun h=>pe_callB (call_max_ints rfl) rfl T.b_max bl_max h)) at_nil) (fun h ha=>pe_bm PySem.F.plainAttrs_list PySem.F.slot_list_index PySem.F.type_list_index (mt_lindex hr) h ha)))))),?_⟩
 show sSeq _ _ _ [.val (frmD fs an),.val (.list (rs.map rowD)),.un]
 have a2:=F.a2
 refine seq_set (.list ((cnts an rs).map PyData.int)) (fun q hq=>⟨_,rfl,_,rfl,fs,an,rs,rfl,F,hok,hrl,hq⟩) ?_
 have hne:cnts an rs≠[]:=fun z=>by
  have:=congrArg List.length z
  unfold cnts at this
  rw [List.length_map] at this
  simp at this
  rw [this] at a2
  simp at a2
 refine ⟨_,rfl,_,rfl,_,rfl,_,rfl,_,rfl,_,rfl,hne,fun m hm hmax=>?_⟩
 obtain ⟨j,hj,hno⟩:=first_of (cnts an rs) m hm
 have hjl:=(List.getElem?_eq_some_iff.mp hj).1
 have hal:(cnts an rs).length=an.length:=by unfold cnts;rw [List.length_map]
 have a4:=F.a4
 have haj:an[j]?=some an[j]:=List.getElem?_eq_getElem (by omega)
 have hcj:(cnts an rs)[j]?=some ((cnt rs an[j]:Nat):Int):=by unfold cnts;rw [List.getElem?_map,haj];rfl
 rw [hj] at hcj
 have em:m=((cnt rs an[j]:Nat):Int):=Option.some.inj hcj
 refine ⟨_,j,rfl,okIx_ints hj hno,by omega,_,L2.atI_nat (by rw [List.getElem?_map,haj];rfl),h _ ⟨j,haj,fun i b hb=>?_,fun i b hi hb=>?_⟩⟩
 ·have:=hmax ((cnt rs b:Nat):Int) (List.mem_of_getElem? (i:=i) (by unfold cnts;rw [List.getElem?_map,hb];rfl))
  omega
 ·have hcb:(cnts an rs)[i]?=some ((cnt rs b:Nat):Int):=by unfold cnts;rw [List.getElem?_map,hb];rfl
  have h1:=hmax _ (List.mem_of_getElem? hcb)
  have h2:((cnt rs b:Nat):Int)≠m:=fun z=>hno i hi (by rw [hcb,z])
  omega

theorem sc_39:FnScope ["_law_form_here","_law_rows_here","_law_deep","_law_few","_law_found","_law_ones","_law_others","_law_yes"] ["_law_form_here","_law_rows_here","_law_deep","_law_few"] (defScope (top 44)):=fsc
theorem step_39 (dd:Nat) (T:Txt K mg A)
  (F_37:FnOk P w K mg base CX0 5 A.a_37 A.f_37 ["_law_form_here","_law_rows_here","_law_few"] (liftSp K sp_37))
  (F_32:FnOk P w K mg base CX0 2 A.a_32 A.f_32 ["_law_form_here","_law_rows_here"] (liftSp K sp_32))
  (F_30:FnOk P w K mg base CX0 2 A.a_30 A.f_30 ["_law_form_here","_law_question","_law_stray","_law_rows_here"] (liftSp K sp_30))
  (F_39:FnOk P w K mg base CX0 (6+dd) A.a_39 A.f_39 ["_law_form_here","_law_rows_here","_law_deep","_law_few"] (liftSp K (sp_39_lt dd))):FnOk P w K mg base CX0 (6+dd+1) A.a_39 A.f_39 ["_law_form_here","_law_rows_here","_law_deep","_law_few"] (liftSp K (sp_39_lt (dd+1))):=by
 refine fnT T.F_39 sc_39 (fun ds Q h=>by obtain ⟨fs,an,rs,d,m,rfl,F,hrs,hl,hd,h⟩:=h;rfl) fun cdv Ar outer s H E hr ds Q h=>?_
 obtain ⟨fs,an,rs,d,m,rfl,F,hrs,hl,hd,h⟩:=h
 have nd:=sc_39.nd
 refine ⟨_,(st_cons (ss 4 nd et_non)
 (st_cons (st_if (tt_cmp op_gt o_B0 (et_v 2) et_int)
 (st_one (ss 4 nd (ca F_37 T.m_37 T.k_37 T.d_37 (hr.mono (by omega)) (at_cons (et_v 0) (at_cons (et_v 1) (at_cons (et_v 3) at_nil))))))
 st_nil)
 (st_cons (st_if (tt_cmp op_is2 o_is2 (et_v 4) et_non)
 (st_one (st_ret (et_tup (at_cons et_str (at_cons (ca F_32 T.m_32 T.k_32 T.d_32 (hr.mono (by omega)) (at_cons (et_v 0) (at_cons (et_v 1) at_nil))) at_nil)))))
 st_nil)
 (st_cons (st_unp (g:=fun _ _ _ _=>True) (ca F_30 T.m_30 T.k_30 T.d_30 (hr.mono (by omega)) (at_cons (et_v 0) (at_cons (et_ix ix_seq o_ix (et_v 4) et_int) (at_cons (et_ix ix_seq o_ix (et_v 4) et_int) (at_cons (et_v 1) at_nil))))) (gt_pair (pg_tup rfl (pgs_cons (pn 5 nd) (pgs_cons (pn 6 nd) pgs_nil)))) (fun he hg=>ps_asg he hg))
 (st_cons (ss 7 nd (ca F_39 T.m_39 T.k_39 T.d_39 (hr.mono (by omega)) (at_cons (et_v 0) (at_cons (et_v 5) (at_cons (et_op op_sub o_I0 (et_v 2) et_int) (at_cons (et_v 3) at_nil))))))
 (st_one (st_ret (et_tup (at_cons et_str (at_cons (et_ix ix_seq o_ix (et_v 4) et_int) (at_cons (et_ix ix_seq o_ix (et_v 4) et_int) (at_cons (et_v 7) (at_cons (ca F_39 T.m_39 T.k_39 T.d_39 (hr.mono (by omega)) (at_cons (et_v 0) (at_cons (et_v 6) (at_cons (et_op op_sub o_I0 (et_v 2) et_int) (at_cons (et_v 3) at_nil))))) at_nil))))))))))))),?_⟩
 show sSeq _ _ _ [.val (frmD fs an),.val (.list (rs.map rowD)),.val (.int d),.val (.int m),.un,.un,.un,.un]
 refine seq_set .none (fun q hq=>hq) ?_
 cases d with
 | zero =>
  refine seq_if (fun b=>b=false) (fun q hq=>⟨_,rfl,hq _ rfl⟩) (fun hT=>by cases hT) fun _=>?_
  try unfold sNext
  dsimp only
  refine seq_if (fun b=>b=true) (fun q hq=>⟨_,rfl,hq _ rfl⟩) (fun _=>?_) fun hF=>by cases hF
  exact ⟨_,rfl,_,rfl,fs,an,rs,rfl,F,hrs,hl,fun a ha=>⟨(Nat.le_of_ble_eq_true rfl),h (.say a) ⟨a,ha,rfl⟩⟩⟩
 | succ e =>
  refine seq_if (fun b=>b=true) (fun q hq=>⟨_,rfl,hq _ (decide_eq_true (by omega))⟩) (fun _=>?_) fun hF=>by cases hF
  refine one_set (optD fs rs (bestO fs rs m)) (fun q hq=>⟨_,rfl,_,rfl,_,rfl,fs,an,rs,m,rfl,F,hrs,hl,hq⟩) ?_
  dsimp only
  cases eb:bestO fs rs m with
  | none =>
   refine seq_if (fun b=>b=true) (fun q hq=>⟨_,rfl,hq _ rfl⟩) (fun _=>?_) fun hF=>by cases hF
   refine ⟨_,rfl,_,rfl,fs,an,rs,rfl,F,hrs,hl,fun a ha=>⟨(Nat.le_of_ble_eq_true rfl),h (.say a) ?_⟩⟩
   unfold Gr;rw [eb];exact ⟨a,ha,rfl⟩
  | some c =>
   have hc:=(List.mem_filter.mp (bestO_mem eb)).1
   obtain ⟨hq,hs⟩:=chs_ok hc
   have hq':=qs_isQ hq
   have es:((e+1:Nat):Int)-1=((e:Nat):Int):=by omega
   refine seq_if (fun b=>b=false) (fun q hq=>⟨_,rfl,hq _ rfl⟩) (fun hT=>by cases hT) fun _=>?_
   try unfold sNext
   dsimp only
   refine seq_unp (a:=.list ((yR fs c rs).map rowD)) (b:=.list ((nR fs c rs).map rowD)) (fun q hq2=>⟨_,rfl,_,rfl,_,rfl,_,rfl,_,rfl,_,rfl,fs,an,c.1.1,c.1.2.1,c.1.2.2,c.2,rs,rfl,F,hq',hs,hrs,hl,hq2⟩) ?_
   refine seq_setR (fun v=>∃ y,Gr fs an m e (yR fs c rs) y/\v=trD y) (fun q hq2=>⟨_,rfl,_,rfl,_,rfl,_,rfl,fs,an,_,e,m,by rw [<- es]<;>rfl,F,hrs.filt _,Nat.le_trans (List.length_filter_le _ _) hl,by omega,fun t ht=>hq2 _ ⟨t,ht,rfl⟩⟩) ?_
   rintro _ ⟨y,h0,rfl⟩
   refine ⟨_,rfl,_,rfl,_,rfl,_,rfl,_,rfl,_,rfl,_,rfl,_,rfl,_,rfl,fs,an,_,e,m,by rw [<- es]<;>rfl,F,hrs.filt _,Nat.le_trans (List.length_filter_le _ _) hl,by omega,fun n h1=>⟨(Nat.le_of_ble_eq_true rfl),h (.ask c.1.1 c.1.2.1 c.1.2.2 c.2 y n) ?_⟩⟩
   unfold Gr;rw [eb];exact ⟨y,n,h0,h1,rfl⟩

theorem ok_39 (T:Txt K mg A)
  (F_37:FnOk P w K mg base CX0 5 A.a_37 A.f_37 ["_law_form_here","_law_rows_here","_law_few"] (liftSp K sp_37))
  (F_32:FnOk P w K mg base CX0 2 A.a_32 A.f_32 ["_law_form_here","_law_rows_here"] (liftSp K sp_32))
  (F_30:FnOk P w K mg base CX0 2 A.a_30 A.f_30 ["_law_form_here","_law_question","_law_stray","_law_rows_here"] (liftSp K sp_30)):FnOk P w K mg base CX0 13 A.a_39 A.f_39 ["_law_form_here","_law_rows_here","_law_deep","_law_few"] (liftSp K sp_39):=by
 have h:∀ dd:Nat,FnOk P w K mg base CX0 (6+dd) A.a_39 A.f_39 ["_law_form_here","_law_rows_here","_law_deep","_law_few"] (liftSp K (sp_39_lt dd)):=fun dd=>by
  induction dd with
  | zero=>exact fn_imp fn_never fun ds Q h=>never_39 h
  | succ dd ih=>exact step_39 dd T F_37 F_32 F_30 ih
 exact h 7
theorem sc_40:FnScope ["_law_tape_here","_law_rows_here","_law_told","_law_row"] ["_law_tape_here","_law_rows_here"] (defScope (top 45)):=fsc
theorem ok_40 (T:Txt K mg A)
  (F_23:FnOk P w K mg base CX0 1 A.a_23 A.f_23 ["_law_tape_here","_law_many"] (liftSpC K sp_23)):FnOk P w K mg base CX0 2 A.a_40 A.f_40 ["_law_tape_here","_law_rows_here"] (liftSpC K sp_40):=by
 refine fnC T.F_40 sc_40 (fun τ n ds Q h=>by obtain ⟨rs,rfl,hl,hc,h⟩:=h;rfl) fun cdv Ar outer s H E hr Tp c ds Q hdig h=>?_
 obtain ⟨rs,rfl,hl,hc,h⟩:=h
 have nd:=sc_40.nd
 refine ⟨_,(sc_cons (sc_p (st_own (i:=2) at_nil (fun h=>ps_set (i:=2) nd rfl (by first | exact Or.inl rfl | exact Or.inr rfl) h)))
 (sc_cons (sc_for (it_val (et_v 1)) (gt_name (pn 3 nd))
 (sc_one (sc_insO (i:=2) (ec_call F_23 T.m_23 T.k_23 T.d_23 (hr.mono (by decide)) (ac_cons (ec_p (et_v 0)) (ac_cons (ec_p (et_op op_addAny o_add (et_borrow 2 (et_cb c_len (at_cons (et_v 2) at_nil) (fun h=>pe_callB call_lenAny rfl T.b_len bl_len h))) et_int)) ac_nil)) (fun h=>pe_call F_23 (hr.mono (by decide)) rfl T.m_23 T.k_23 T.d_23 .nil pass0 h)) (et_v 3) (pb:=fun h=>ps_expr (pe_bm PySem.F.plainAttrs_list PySem.F.slot_list_insert PySem.F.type_list_insert mt_insert (pv 2) h)))) (fun hi hg hb=>ps_for PassesOwn.never rfl hi hg hb))
 (sc_share 2 (sc_one (sc_p (st_ret (et_v 2))))))),?_⟩
 show cSeq _ _ _ _ _ [.val (tpD Tp),.val (.list (rs.map rowD)),.un,.un]
 refine cq_pure (seq_own [] (by decide) (fun q hq=>hq) ?_)
 refine cq_for (ts:=rs.map rowD) (fun R h=>⟨_,rfl,_,rfl,h⟩)
  (fun k c1 σ=>c1<=c+k/\∃ (ss:List Rw) (s3:Sl),σ=[.val (tpD Tp),.val (.list (rs.map rowD)),.own (ss.map rowD),s3]/\ss.Perm (rs.take k)) ⟨by omega,[],_,rfl,.nil⟩ (fun k c1 x σ' hx hP=>?_) fun c1 σ' hP=>?_
 ·obtain ⟨hc1,ss,s3,rfl,hp⟩:=hP
  have hk:k<rs.length:=by
   have:=(List.getElem?_eq_some_iff.mp hx).1
   rwa [List.length_map] at this
  have hsl:ss.length=k:=by rw [hp.length_eq,List.length_take];omega
  rw [List.getElem?_map] at hx
  obtain ⟨r,hr,rfl⟩:=Option.map_eq_some_iff.mp hx
  have hml:(ss.map rowD).length=k:=by rw [List.length_map];exact hsl
  refine ⟨_,rfl,_,rfl,_,rfl,_,rfl,rfl,_,rfl,(((ss.map rowD).length:Nat):Int)+1,rfl,by omega,by omega,by omega,fun x h0 h1=>?_⟩
  refine ⟨_,rfl,x.toNat,by rw [Int.toNat_of_nonneg h0],by omega,by omega,by omega,ss.take x.toNat++r::ss.drop x.toNat,.val (rowD r),?_,?_⟩
  ·rw [List.map_append,List.map_cons,List.map_take,List.map_drop];rfl
  ·rw [List.take_add_one,hr]
   refine List.perm_middle.trans ?_
   rw [List.take_append_drop]
   exact (hp.cons r).trans (List.perm_append_comm (l₁:=[r]))
 ·obtain ⟨hc1,ss,s3,rfl,hp⟩:=hP
  rw [List.length_map,List.take_length] at hp
  exact ⟨_,rfl,_,rfl,h _ ss hp⟩

theorem sc_law:FnScope ["_law_script","_law_tape_here","_law_form_here","_law_rows_here","_law_deep","_law_few","_law_due","_law_handed","_law_found"] ["_law_script"] (defScope (top 46)):=fsc
theorem ok_law (T:Txt K mg A)
  (F_23:FnOk P w K mg base CX0 1 A.a_23 A.f_23 ["_law_tape_here","_law_many"] (liftSpC K sp_23))
  (F_39:FnOk P w K mg base CX0 13 A.a_39 A.f_39 ["_law_form_here","_law_rows_here","_law_deep","_law_few"] (liftSp K sp_39))
  (F_38:FnOk P w K mg base CX0 4 A.a_38 A.f_38 ["_law_tape_here","_law_most"] (liftSpC K sp_38))
  (F_22:FnOk P w K mg base CX0 1 A.a_22 A.f_22 ["_law_script"] (liftSpN K sp_22))
  (F_40:FnOk P w K mg base CX0 2 A.a_40 A.f_40 ["_law_tape_here","_law_rows_here"] (liftSpC K sp_40))
  (F_21:FnOk P w K mg base CX0 15 A.a_21 A.f_21 ["form","rows","deep","least"] (liftSp K sp_21)):FnOk P w K mg base CX0 16 A.a_law A.f_law ["_law_script"] (liftSp K sp_law):=by
 refine fnT T.F_law sc_law (fun ds Q h=>by obtain ⟨ns,rfl,hl63,h⟩:=h;rfl) fun cdv Ar outer s H E hr ds Q h=>?_
 obtain ⟨ns,rfl,hl63,h⟩:=h
 have nd:=sc_law.nd
 refine ⟨_,(st_tape (i:=1) F_22 (et_v 0) rfl (fun h=>ps_set (i:=1) nd rfl (by first | exact Or.inl rfl | exact Or.inr rfl) (pe_call F_22 (hr.mono (by decide)) rfl T.m_22 T.k_22 T.d_22 .nil pass0 h)) (sc_cons (sc_unp (ec_call F_38 T.m_38 T.k_38 T.d_38 (hr.mono (by decide)) (ac_cons (ec_p (et_v 1)) (ac_cons (ec_p et_int) ac_nil)) (fun h=>pe_call F_38 (hr.mono (by decide)) rfl T.m_38 T.k_38 T.d_38 .nil pass0 h)) (gt_pair (pg_tup rfl (pgs_cons (pn 2 nd) (pgs_cons (pn 3 nd) pgs_nil)))) (fun he hg=>ps_asg he hg))
 (sc_cons (sc_set (i:=4) (ec_call F_23 T.m_23 T.k_23 T.d_23 (hr.mono (by decide)) (ac_cons (ec_p (et_v 1)) (ac_cons (ec_p et_int) ac_nil)) (fun h=>pe_call F_23 (hr.mono (by decide)) rfl T.m_23 T.k_23 T.d_23 .nil pass0 h)) (fun h=>ps_set (i:=4) nd rfl (by first | exact Or.inl rfl | exact Or.inr rfl) h))
 (sc_cons (sc_p (st_if (tt_cmp op_gt o_B0 (et_cb c_len (at_cons (et_v 3) at_nil) (fun h=>pe_callB call_lenAny rfl T.b_len bl_len h)) et_int)
 (st_one (ss 4 nd (et_cb c_min2 (at_cons (et_v 4) (at_cons et_int at_nil)) (fun h=>pe_callB (call_min2 rfl) rfl T.b_min bl_min h))))
 st_nil))
 (sc_cons (sc_set (i:=5) (ec_op op_addAny o_add (ec_p et_int) (ec_op op_fdiv o_I (ec_call F_23 T.m_23 T.k_23 T.d_23 (hr.mono (by decide)) (ac_cons (ec_p (et_v 1)) (ac_cons (ec_p et_int) ac_nil)) (fun h=>pe_call F_23 (hr.mono (by decide)) rfl T.m_23 T.k_23 T.d_23 .nil pass0 h)) (ec_p et_int))) (fun h=>ps_set (i:=5) nd rfl (by first | exact Or.inl rfl | exact Or.inr rfl) h))
 (sc_cons (sc_p (ss 6 nd (ca F_39 T.m_39 T.k_39 T.d_39 (hr.mono (by decide)) (at_cons (et_v 2) (at_cons (et_v 3) (at_cons (et_v 4) (at_cons (et_v 5) at_nil)))))))
 (sc_cons (sc_p (ss 7 nd (et_cb c_list (at_cons (et_v 3) at_nil) (fun h=>pe_callTy call_list_of rfl T.b_list bl_list h))))
 (sc_cons (sc_p (ss 8 nd (ca F_21 T.m_21 T.k_21 T.d_21 (hr.mono (by decide)) (at_cons (et_v 2) (at_cons (et_v 7) (at_cons (et_v 4) (at_cons (et_v 5) at_nil)))))))
 (sc_cons (sc_p (st_if (tw_pt (tw_or (tt_cmp op_ne o_ne (et_cb c_repr (at_cons (et_v 8) at_nil) (fun h=>pe_callB (call_reprT hr) rfl T.b_repr bl_repr h)) (et_cb c_repr (at_cons (et_v 6) at_nil) (fun h=>pe_callB (call_reprT hr) rfl T.b_repr bl_repr h))) (tw_or1 (tt_cmp (op_neD hr) o_data (et_v 7) (et_v 3)))))
 (st_one (st_ret et_bl))
 st_nil))
 (sc_one (sc_ret (ec_cmp op_eq o_eq (ec_cb c_repr (ac_cons (ec_callP F_21 T.m_21 T.k_21 T.d_21 (hr.mono (by decide)) (ac_cons (ec_p (et_v 2)) (ac_cons (ec_call F_40 T.m_40 T.k_40 T.d_40 (hr.mono (by decide)) (ac_cons (ec_p (et_v 1)) (ac_cons (ec_p (et_v 3)) ac_nil)) (fun h=>pe_call F_40 (hr.mono (by decide)) rfl T.m_40 T.k_40 T.d_40 .nil pass0 h)) (ac_cons (ec_p (et_v 4)) (ac_cons (ec_p (et_v 5)) ac_nil)))) (fun h=>pe_call F_21 (hr.mono (by decide)) rfl T.m_21 T.k_21 T.d_21 .nil pass0 h)) ac_nil) (fun h=>pe_callB (call_reprT hr) rfl T.b_repr bl_repr h)) (ec_p (et_cb c_repr (at_cons (et_v 6) at_nil) (fun h=>pe_callB (call_reprT hr) rfl T.b_repr bl_repr h))))))))))))))),?_⟩
 show sTape _ _ _ _ [.val (.list (ns.map PyData.int)),.un,.un,.un,.un,.un,.un,.un,.un]
 refine ⟨_,rfl,ns,rfl,fun Tp _ _=>?_⟩
 show cSeq _ _ _ _ _ [.val (.list (ns.map PyData.int)),.val (tpD Tp),.un,.un,.un,.un,.un,.un,.un]
 refine cq_unpR (fun m d=>m<=1000/\∃ fs an rs,Form fs an/\RowsOk fs an rs/\rs.length<=60/\d=.tuple [frmD fs an,.list (rs.map rowD)]) (fun q hq=>⟨_,rfl,_,rfl,60,rfl,by decide,by decide,by decide,fun n' fs an rs hn F hrs hl=>hq _ _ ⟨by omega,fs,an,rs,F,hrs,hl,rfl⟩⟩) ?_
 rintro c1 _ ⟨hc1,fs,an,rs,F,hrs,hl,rfl⟩
 refine ⟨_,_,rfl,?_⟩
 refine cq_setR (fun m' d=>m'<=1001/\∃ d':Nat,d'<7/\d=.int (d':Nat)) (fun q hq=>⟨_,rfl,_,rfl,7,rfl,by decide,by decide,by omega,fun r h0 h1=>hq _ _ ⟨by omega,r.toNat,by omega,by rw [Int.toNat_of_nonneg h0]⟩⟩) ?_
 rintro c2 _ ⟨hc2,d0,hd0,rfl⟩
 refine cq_pure (seq_ifsetC True (fun d=>∃ d':Nat,d'<7/\d=.int (d':Nat)) (fun q hq=>⟨_,rfl,hq _ fun _=>trivial⟩) (fun _ q hq=>⟨_,rfl,hq _ ⟨min d0 2,by omega,?_⟩⟩) (.int (d0:Nat)) rfl ⟨d0,hd0,rfl⟩ ?_)
 ·congr 1
  first | rfl | omega
 clear hd0
 rintro _ ⟨d0,hd0,rfl⟩
 refine cq_setR (fun m' v=>m'<=1002/\∃ f:Int,v=.int f) (fun q hq=>⟨_,rfl,_,rfl,6,rfl,by decide,by decide,by omega,fun r h0 h1=>⟨⟨by decide,by decide⟩,hq _ _ ⟨by omega,_,rfl⟩⟩⟩) ?_
 rintro c3 _ ⟨hc3,f,rfl⟩
 refine cq_pure (seq_setR (fun v=>∃ t,Gr fs an f d0 rs t/\v=trD t) (fun q hq=>⟨_,rfl,_,rfl,_,rfl,_,rfl,fs,an,rs,d0,f,rfl,F,hrs,hl,hd0,fun t ht=>hq _ ⟨t,ht,rfl⟩⟩) ?_)
 rintro _ ⟨t,ht,rfl⟩
 obtain ⟨tok,tdp⟩:=gr_ok d0 ht
 have htk:t.kn<=100:=by
  have:=t.kn_dep
  have:2 ^ t.dep<=2 ^ 6:=Nat.pow_le_pow_right (by decide) (by omega)
  omega
 have hT':Thing (trD t):=(th_tree F t tok).mono (by omega) (by omega)
 have hTs:=thing_shown hT'
 have hdp:=hT'.depth
 have hTr:=th_rows F hrs hl
 have hTd:=hTr.depth
 have e2:PyData.eqv (.list (rs.map rowD)) (.list (rs.map rowD))=true:=PySem.SeqAt.eqv_refl _ hTr.lay
 refine cq_pure (seq_set (.list (rs.map rowD)) (fun q hq=>⟨_,rfl,hq⟩) ?_)
 refine cq_pure (seq_set (trD t) (fun q hq=>⟨_,rfl,_,rfl,_,rfl,_,rfl,fs,an,rs,d0,f,rfl,F,hrs,hl,hd0,fun u hu=>?_⟩) ?_)
 ·rw [gr_uniq d0 (.refl _) hu ht];exact hq
 refine cq_pure (seq_if (fun z=>z=false) (fun q hq=>?_) (fun hT=>by cases hT) fun _=>?_)
 ·refine ⟨_,rfl,hT'.shw,hT'.nodict,by omega,hTs,_,rfl,hT'.shw,hT'.nodict,by omega,hTs,?_⟩
  show (if (!decide ((trD t).shown=(trD t).shown))=true then q true else _)
  rw [decide_eq_true rfl,if_neg (by decide)]
  refine ⟨_,rfl,_,rfl,⟨hTr.lay,hTr.lay,by omega⟩,?_⟩
  show q (!PyData.eqv _ _)
  rw [e2];exact hq _ rfl
 try unfold sNext
 dsimp only
 refine ⟨_,rfl,_,rfl,_,rfl,_,rfl,rs,rfl,hl,by omega,fun c4 ss hp=>?_⟩
 refine ⟨_,rfl,_,rfl,fs,an,ss,d0,f,rfl,F,fun r hr=>hrs r (hp.mem_iff.mp hr),by rw [hp.length_eq];exact hl,hd0,fun u hu=>?_⟩
 rw [gr_uniq d0 hp hu ht]
 refine ⟨hT'.shw,hT'.nodict,by omega,hTs,_,rfl,hT'.shw,hT'.nodict,by omega,hTs,?_⟩
 show Q (.bool (decide ((trD t).shown=(trD t).shown)))
 rw [decide_eq_true rfl];exact h

theorem len1 {α:Type} {P:List α->Prop} (h:∀ a0,P [a0]):∀ us:List α,us.length=1->P us
 | [a0],_=>h a0
theorem len2 {α:Type} {P:List α->Prop} (h:∀ a0 a1,P [a0,a1]):∀ us:List α,us.length=2->P us
 | [a0,a1],_=>h a0 a1
theorem len3 {α:Type} {P:List α->Prop} (h:∀ a0 a1 a2,P [a0,a1,a2]):∀ us:List α,us.length=3->P us
 | [a0,a1,a2],_=>h a0 a1 a2
theorem len4 {α:Type} {P:List α->Prop} (h:∀ a0 a1 a2 a3,P [a0,a1,a2,a3]):∀ us:List α,us.length=4->P us
 | [a0,a1,a2,a3],_=>h a0 a1 a2 a3
abbrev fO (x q:Str) (st:Stmt) (kV dc pm:Value) (an:Option Addr) (cd ct:Value):FuncData:=PySem.W.fnOf x q (defArgs st) (defBody st) (defScope st) .none kV dc pm an cd ct
set_option autoImplicit true in
set_option relaxedAutoImplicit true in
open PySem.W in
theorem all_mk {l:PySem.W.OpenLaw} {w:World} {K:PySem.W.Frag} {h:Heap} {mg:Str->Option Value} {fa:Addr} (X:K.In h) (G:h.Ns mainGlobals mg) (hfa:mg "law"=some (.ref fa))
  (a_0:nsIn K mainGlobals "counted"=some (some (.ref f_0))) (l_0:K.lookup f_0=some ⟨oc_0,od_0,.func (fO "counted" "counted" (top 1) kV_0 dc_0 pm_0 an_0 cd_0 ct_0),sl_0⟩) (c_0:codeIn K cd_0 "counted"=true) (k_0:keepIn K (.ref f_0)=true)
  (a_1:nsIn K mainGlobals "first_answer"=some (some (.ref f_1))) (l_1:K.lookup f_1=some ⟨oc_1,od_1,.func (fO "first_answer" "first_answer" (top 2) kV_1 dc_1 pm_1 an_1 cd_1 ct_1),sl_1⟩) (c_1:codeIn K cd_1 "first_answer"=true) (k_1:keepIn K (.ref f_1)=true)
  (a_2:nsIn K mainGlobals "doubt_of"=some (some (.ref f_2))) (l_2:K.lookup f_2=some ⟨oc_2,od_2,.func (fO "doubt_of" "doubt_of" (top 3) kV_2 dc_2 pm_2 an_2 cd_2 ct_2),sl_2⟩) (c_2:codeIn K cd_2 "doubt_of"=true) (k_2:keepIn K (.ref f_2)=true)
  (a_3:nsIn K mainGlobals "fraction"=some (some (.ref f_3))) (l_3:K.lookup f_3=some ⟨oc_3,od_3,.func (fO "fraction" "fraction" (top 4) kV_3 dc_3 pm_3 an_3 cd_3 ct_3),sl_3⟩) (c_3:codeIn K cd_3 "fraction"=true) (k_3:keepIn K (.ref f_3)=true)
  (a_4:nsIn K mainGlobals "common_divisor"=some (some (.ref f_4))) (l_4:K.lookup f_4=some ⟨oc_4,od_4,.func (fO "common_divisor" "common_divisor" (top 5) kV_4 dc_4 pm_4 an_4 cd_4 ct_4),sl_4⟩) (c_4:codeIn K cd_4 "common_divisor"=true) (k_4:keepIn K (.ref f_4)=true)
  (a_5:nsIn K mainGlobals "added"=some (some (.ref f_5))) (l_5:K.lookup f_5=some ⟨oc_5,od_5,.func (fO "added" "added" (top 6) kV_5 dc_5 pm_5 an_5 cd_5 ct_5),sl_5⟩) (c_5:codeIn K cd_5 "added"=true) (k_5:keepIn K (.ref f_5)=true)
  (a_6:nsIn K mainGlobals "is_less"=some (some (.ref f_6))) (l_6:K.lookup f_6=some ⟨oc_6,od_6,.func (fO "is_less" "is_less" (top 7) kV_6 dc_6 pm_6 an_6 cd_6 ct_6),sl_6⟩) (c_6:codeIn K cd_6 "is_less"=true) (k_6:keepIn K (.ref f_6)=true)
  (a_7:nsIn K mainGlobals "common_bottom"=some (some (.ref f_7))) (l_7:K.lookup f_7=some ⟨oc_7,od_7,.func (fO "common_bottom" "common_bottom" (top 8) kV_7 dc_7 pm_7 an_7 cd_7 ct_7),sl_7⟩) (c_7:codeIn K cd_7 "common_bottom"=true) (k_7:keepIn K (.ref f_7)=true)
  (a_8:nsIn K mainGlobals "questions_of"=some (some (.ref f_8))) (l_8:K.lookup f_8=some ⟨oc_8,od_8,.func (fO "questions_of" "questions_of" (top 11) kV_8 dc_8 pm_8 an_8 cd_8 ct_8),sl_8⟩) (c_8:codeIn K cd_8 "questions_of"=true) (k_8:keepIn K (.ref f_8)=true)
  (a_9:nsIn K mainGlobals "questions_on"=some (some (.ref f_9))) (l_9:K.lookup f_9=some ⟨oc_9,od_9,.func (fO "questions_on" "questions_on" (top 12) kV_9 dc_9 pm_9 an_9 cd_9 ct_9),sl_9⟩) (c_9:codeIn K cd_9 "questions_on"=true) (k_9:keepIn K (.ref f_9)=true)
  (a_10:nsIn K mainGlobals "choices_of"=some (some (.ref f_10))) (l_10:K.lookup f_10=some ⟨oc_10,od_10,.func (fO "choices_of" "choices_of" (top 13) kV_10 dc_10 pm_10 an_10 cd_10 ct_10),sl_10⟩) (c_10:codeIn K cd_10 "choices_of"=true) (k_10:keepIn K (.ref f_10)=true)
  (a_11:nsIn K mainGlobals "side_of"=some (some (.ref f_11))) (l_11:K.lookup f_11=some ⟨oc_11,od_11,.func (fO "side_of" "side_of" (top 14) kV_11 dc_11 pm_11 an_11 cd_11 ct_11),sl_11⟩) (c_11:codeIn K cd_11 "side_of"=true) (k_11:keepIn K (.ref f_11)=true)
  (a_12:nsIn K mainGlobals "field_asked"=some (some (.ref f_12))) (l_12:K.lookup f_12=some ⟨oc_12,od_12,.func (fO "field_asked" "field_asked" (top 15) kV_12 dc_12 pm_12 an_12 cd_12 ct_12),sl_12⟩) (c_12:codeIn K cd_12 "field_asked"=true) (k_12:keepIn K (.ref f_12)=true)
  (a_13:nsIn K mainGlobals "entries_to_yes"=some (some (.ref f_13))) (l_13:K.lookup f_13=some ⟨oc_13,od_13,.func (fO "entries_to_yes" "entries_to_yes" (top 16) kV_13 dc_13 pm_13 an_13 cd_13 ct_13),sl_13⟩) (c_13:codeIn K cd_13 "entries_to_yes"=true) (k_13:keepIn K (.ref f_13)=true)
  (a_14:nsIn K mainGlobals "values_held"=some (some (.ref f_14))) (l_14:K.lookup f_14=some ⟨oc_14,od_14,.func (fO "values_held" "values_held" (top 17) kV_14 dc_14 pm_14 an_14 cd_14 ct_14),sl_14⟩) (c_14:codeIn K cd_14 "values_held"=true) (k_14:keepIn K (.ref f_14)=true)
  (a_15:nsIn K mainGlobals "parted"=some (some (.ref f_15))) (l_15:K.lookup f_15=some ⟨oc_15,od_15,.func (fO "parted" "parted" (top 18) kV_15 dc_15 pm_15 an_15 cd_15 ct_15),sl_15⟩) (c_15:codeIn K cd_15 "parted"=true) (k_15:keepIn K (.ref f_15)=true)
  (a_16:nsIn K mainGlobals "numbers_on"=some (some (.ref f_16))) (l_16:K.lookup f_16=some ⟨oc_16,od_16,.func (fO "numbers_on" "numbers_on" (top 19) kV_16 dc_16 pm_16 an_16 cd_16 ct_16),sl_16⟩) (c_16:codeIn K cd_16 "numbers_on"=true) (k_16:keepIn K (.ref f_16)=true)
  (a_17:nsIn K mainGlobals "is_proper"=some (some (.ref f_17))) (l_17:K.lookup f_17=some ⟨oc_17,od_17,.func (fO "is_proper" "is_proper" (top 20) kV_17 dc_17 pm_17 an_17 cd_17 ct_17),sl_17⟩) (c_17:codeIn K cd_17 "is_proper"=true) (k_17:keepIn K (.ref f_17)=true)
  (a_18:nsIn K mainGlobals "ranked"=some (some (.ref f_18))) (l_18:K.lookup f_18=some ⟨oc_18,od_18,.func (fO "ranked" "ranked" (top 22) kV_18 dc_18 pm_18 an_18 cd_18 ct_18),sl_18⟩) (c_18:codeIn K cd_18 "ranked"=true) (k_18:keepIn K (.ref f_18)=true)
  (a_19:nsIn K mainGlobals "rows_at"=some (some (.ref f_19))) (l_19:K.lookup f_19=some ⟨oc_19,od_19,.func (fO "rows_at" "rows_at" (top 23) kV_19 dc_19 pm_19 an_19 cd_19 ct_19),sl_19⟩) (c_19:codeIn K cd_19 "rows_at"=true) (k_19:keepIn K (.ref f_19)=true)
  (a_20:nsIn K mainGlobals "best"=some (some (.ref f_20))) (l_20:K.lookup f_20=some ⟨oc_20,od_20,.func (fO "best" "best" (top 24) kV_20 dc_20 pm_20 an_20 cd_20 ct_20),sl_20⟩) (c_20:codeIn K cd_20 "best"=true) (k_20:keepIn K (.ref f_20)=true)
  (a_21:nsIn K mainGlobals "grown"=some (some (.ref f_21))) (l_21:K.lookup f_21=some ⟨oc_21,od_21,.func (fO "grown" "grown" (top 25) kV_21 dc_21 pm_21 an_21 cd_21 ct_21),sl_21⟩) (c_21:codeIn K cd_21 "grown"=true) (k_21:keepIn K (.ref f_21)=true)
  (a_22:nsIn K mainGlobals "_law_tape"=some (some (.ref f_22))) (l_22:K.lookup f_22=some ⟨oc_22,od_22,.func (fO "_law_tape" "_law_tape" (top 27) kV_22 dc_22 pm_22 an_22 cd_22 ct_22),sl_22⟩) (c_22:codeIn K cd_22 "_law_tape"=true) (k_22:keepIn K (.ref f_22)=true)
  (a_23:nsIn K mainGlobals "_law_draw"=some (some (.ref f_23))) (l_23:K.lookup f_23=some ⟨oc_23,od_23,.func (fO "_law_draw" "_law_draw" (top 28) kV_23 dc_23 pm_23 an_23 cd_23 ct_23),sl_23⟩) (c_23:codeIn K cd_23 "_law_draw"=true) (k_23:keepIn K (.ref f_23)=true)
  (a_24:nsIn K mainGlobals "_law_names"=some (some (.ref f_24))) (l_24:K.lookup f_24=some ⟨oc_24,od_24,.func (fO "_law_names" "_law_names" (top 29) kV_24 dc_24 pm_24 an_24 cd_24 ct_24),sl_24⟩) (c_24:codeIn K cd_24 "_law_names"=true) (k_24:keepIn K (.ref f_24)=true)
  (a_25:nsIn K mainGlobals "_law_form"=some (some (.ref f_25))) (l_25:K.lookup f_25=some ⟨oc_25,od_25,.func (fO "_law_form" "_law_form" (top 30) kV_25 dc_25 pm_25 an_25 cd_25 ct_25),sl_25⟩) (c_25:codeIn K cd_25 "_law_form"=true) (k_25:keepIn K (.ref f_25)=true)
  (a_26:nsIn K mainGlobals "_law_case"=some (some (.ref f_26))) (l_26:K.lookup f_26=some ⟨oc_26,od_26,.func (fO "_law_case" "_law_case" (top 31) kV_26 dc_26 pm_26 an_26 cd_26 ct_26),sl_26⟩) (c_26:codeIn K cd_26 "_law_case"=true) (k_26:keepIn K (.ref f_26)=true)
  (a_27:nsIn K mainGlobals "_law_rows"=some (some (.ref f_27))) (l_27:K.lookup f_27=some ⟨oc_27,od_27,.func (fO "_law_rows" "_law_rows" (top 32) kV_27 dc_27 pm_27 an_27 cd_27 ct_27),sl_27⟩) (c_27:codeIn K cd_27 "_law_rows"=true) (k_27:keepIn K (.ref f_27)=true)
  (a_28:nsIn K mainGlobals "_law_questions"=some (some (.ref f_28))) (l_28:K.lookup f_28=some ⟨oc_28,od_28,.func (fO "_law_questions" "_law_questions" (top 33) kV_28 dc_28 pm_28 an_28 cd_28 ct_28),sl_28⟩) (c_28:codeIn K cd_28 "_law_questions"=true) (k_28:keepIn K (.ref f_28)=true)
  (a_29:nsIn K mainGlobals "_law_side"=some (some (.ref f_29))) (l_29:K.lookup f_29=some ⟨oc_29,od_29,.func (fO "_law_side" "_law_side" (top 34) kV_29 dc_29 pm_29 an_29 cd_29 ct_29),sl_29⟩) (c_29:codeIn K cd_29 "_law_side"=true) (k_29:keepIn K (.ref f_29)=true)
  (a_30:nsIn K mainGlobals "_law_parts"=some (some (.ref f_30))) (l_30:K.lookup f_30=some ⟨oc_30,od_30,.func (fO "_law_parts" "_law_parts" (top 35) kV_30 dc_30 pm_30 an_30 cd_30 ct_30),sl_30⟩) (c_30:codeIn K cd_30 "_law_parts"=true) (k_30:keepIn K (.ref f_30)=true)
  (a_31:nsIn K mainGlobals "_law_counts"=some (some (.ref f_31))) (l_31:K.lookup f_31=some ⟨oc_31,od_31,.func (fO "_law_counts" "_law_counts" (top 36) kV_31 dc_31 pm_31 an_31 cd_31 ct_31),sl_31⟩) (c_31:codeIn K cd_31 "_law_counts"=true) (k_31:keepIn K (.ref f_31)=true)
  (a_32:nsIn K mainGlobals "_law_first"=some (some (.ref f_32))) (l_32:K.lookup f_32=some ⟨oc_32,od_32,.func (fO "_law_first" "_law_first" (top 37) kV_32 dc_32 pm_32 an_32 cd_32 ct_32),sl_32⟩) (c_32:codeIn K cd_32 "_law_first"=true) (k_32:keepIn K (.ref f_32)=true)
  (a_33:nsIn K mainGlobals "_law_lowest"=some (some (.ref f_33))) (l_33:K.lookup f_33=some ⟨oc_33,od_33,.func (fO "_law_lowest" "_law_lowest" (top 38) kV_33 dc_33 pm_33 an_33 cd_33 ct_33),sl_33⟩) (c_33:codeIn K cd_33 "_law_lowest"=true) (k_33:keepIn K (.ref f_33)=true)
  (a_34:nsIn K mainGlobals "_law_doubt"=some (some (.ref f_34))) (l_34:K.lookup f_34=some ⟨oc_34,od_34,.func (fO "_law_doubt" "_law_doubt" (top 39) kV_34 dc_34 pm_34 an_34 cd_34 ct_34),sl_34⟩) (c_34:codeIn K cd_34 "_law_doubt"=true) (k_34:keepIn K (.ref f_34)=true)
  (a_35:nsIn K mainGlobals "_law_less"=some (some (.ref f_35))) (l_35:K.lookup f_35=some ⟨oc_35,od_35,.func (fO "_law_less" "_law_less" (top 40) kV_35 dc_35 pm_35 an_35 cd_35 ct_35),sl_35⟩) (c_35:codeIn K cd_35 "_law_less"=true) (k_35:keepIn K (.ref f_35)=true)
  (a_36:nsIn K mainGlobals "_law_ranked"=some (some (.ref f_36))) (l_36:K.lookup f_36=some ⟨oc_36,od_36,.func (fO "_law_ranked" "_law_ranked" (top 41) kV_36 dc_36 pm_36 an_36 cd_36 ct_36),sl_36⟩) (c_36:codeIn K cd_36 "_law_ranked"=true) (k_36:keepIn K (.ref f_36)=true)
  (a_37:nsIn K mainGlobals "_law_best"=some (some (.ref f_37))) (l_37:K.lookup f_37=some ⟨oc_37,od_37,.func (fO "_law_best" "_law_best" (top 42) kV_37 dc_37 pm_37 an_37 cd_37 ct_37),sl_37⟩) (c_37:codeIn K cd_37 "_law_best"=true) (k_37:keepIn K (.ref f_37)=true)
  (a_38:nsIn K mainGlobals "_law_sized"=some (some (.ref f_38))) (l_38:K.lookup f_38=some ⟨oc_38,od_38,.func (fO "_law_sized" "_law_sized" (top 43) kV_38 dc_38 pm_38 an_38 cd_38 ct_38),sl_38⟩) (c_38:codeIn K cd_38 "_law_sized"=true) (k_38:keepIn K (.ref f_38)=true)
  (a_39:nsIn K mainGlobals "_law_grown"=some (some (.ref f_39))) (l_39:K.lookup f_39=some ⟨oc_39,od_39,.func (fO "_law_grown" "_law_grown" (top 44) kV_39 dc_39 pm_39 an_39 cd_39 ct_39),sl_39⟩) (c_39:codeIn K cd_39 "_law_grown"=true) (k_39:keepIn K (.ref f_39)=true)
  (a_40:nsIn K mainGlobals "_law_turned"=some (some (.ref f_40))) (l_40:K.lookup f_40=some ⟨oc_40,od_40,.func (fO "_law_turned" "_law_turned" (top 45) kV_40 dc_40 pm_40 an_40 cd_40 ct_40),sl_40⟩) (c_40:codeIn K cd_40 "_law_turned"=true) (k_40:keepIn K (.ref f_40)=true)
  (a_law:nsIn K mainGlobals "law"=some (some (.ref f_law))) (l_law:K.lookup f_law=some ⟨oc_law,od_law,.func (fO "law" "law" (top 46) kV_law dc_law pm_law an_law cd_law ct_law),sl_law⟩) (c_law:codeIn K cd_law "law"=true) (k_law:keepIn K (.ref f_law)=true)
  {t_SIDES:Addr} {n_SIDES:Nat} {s_SIDES:Array (Option Value)} {k_SIDES_0 k_SIDES_1:Tok} (e_SIDES:PySem.W.nsIn K mainGlobals "SIDES"=some (some (.ref t_SIDES))) (l_SIDES:K.lookup t_SIDES=some ⟨.type "tuple",none,.seq #[.str "yes" k_SIDES_0,.str "no" k_SIDES_1] n_SIDES,s_SIDES⟩)
  (y_18:lamIn K cd_18 129=true)
  (z_enumerate:PySem.W.nsIn K mainGlobals "enumerate"=some none)
  (z_len:PySem.W.nsIn K mainGlobals "len"=some none)
  (z_list:PySem.W.nsIn K mainGlobals "list"=some none)
  (z_max:PySem.W.nsIn K mainGlobals "max"=some none)
  (z_min:PySem.W.nsIn K mainGlobals "min"=some none)
  (z_range:PySem.W.nsIn K mainGlobals "range"=some none)
  (z_repr:PySem.W.nsIn K mainGlobals "repr"=some none)
  (z_sorted:PySem.W.nsIn K mainGlobals "sorted"=some none)
  (z_sum:PySem.W.nsIn K mainGlobals "sum"=some none)
  (z_tuple:PySem.W.nsIn K mainGlobals "tuple"=some none) :
  ∃ fd:FuncData,(∀ (s:Shared) (v:Value),BindsTo s fd ⟨[v],[]⟩ [("_law_script",v)])/\∀ base:Heap,K.In base->base.Ns mainGlobals mg->FnOk l.prog w K mg base CX0 16 fa fd ["_law_script"] (liftSp K sp_law):=by
 have e:=hfa.symm.trans (PySem.W.mg_of X G a_law)
 cases e
 have F_0:=fun_mk (st:=(top 1)) l_0 c_0 k_0
 have F_1:=fun_mk (st:=(top 2)) l_1 c_1 k_1
 have F_2:=fun_mk (st:=(top 3)) l_2 c_2 k_2
 have F_3:=fun_mk (st:=(top 4)) l_3 c_3 k_3
 have F_4:=fun_mk (st:=(top 5)) l_4 c_4 k_4
 have F_5:=fun_mk (st:=(top 6)) l_5 c_5 k_5
 have F_6:=fun_mk (st:=(top 7)) l_6 c_6 k_6
 have F_7:=fun_mk (st:=(top 8)) l_7 c_7 k_7
 have F_8:=fun_mk (st:=(top 11)) l_8 c_8 k_8
 have F_9:=fun_mk (st:=(top 12)) l_9 c_9 k_9
 have F_10:=fun_mk (st:=(top 13)) l_10 c_10 k_10
 have F_11:=fun_mk (st:=(top 14)) l_11 c_11 k_11
 have F_12:=fun_mk (st:=(top 15)) l_12 c_12 k_12
 have F_13:=fun_mk (st:=(top 16)) l_13 c_13 k_13
 have F_14:=fun_mk (st:=(top 17)) l_14 c_14 k_14
 have F_15:=fun_mk (st:=(top 18)) l_15 c_15 k_15
 have F_16:=fun_mk (st:=(top 19)) l_16 c_16 k_16
 have F_17:=fun_mk (st:=(top 20)) l_17 c_17 k_17
 have F_18:=fun_mk (st:=(top 22)) l_18 c_18 k_18
 have F_19:=fun_mk (st:=(top 23)) l_19 c_19 k_19
 have F_20:=fun_mk (st:=(top 24)) l_20 c_20 k_20
 have F_21:=fun_mk (st:=(top 25)) l_21 c_21 k_21
 have F_22:=fun_mk (st:=(top 27)) l_22 c_22 k_22
 have F_23:=fun_mk (st:=(top 28)) l_23 c_23 k_23
 have F_24:=fun_mk (st:=(top 29)) l_24 c_24 k_24
 have F_25:=fun_mk (st:=(top 30)) l_25 c_25 k_25
 have F_26:=fun_mk (st:=(top 31)) l_26 c_26 k_26
 have F_27:=fun_mk (st:=(top 32)) l_27 c_27 k_27
 have F_28:=fun_mk (st:=(top 33)) l_28 c_28 k_28
 have F_29:=fun_mk (st:=(top 34)) l_29 c_29 k_29
 have F_30:=fun_mk (st:=(top 35)) l_30 c_30 k_30
 have F_31:=fun_mk (st:=(top 36)) l_31 c_31 k_31
 have F_32:=fun_mk (st:=(top 37)) l_32 c_32 k_32
 have F_33:=fun_mk (st:=(top 38)) l_33 c_33 k_33
 have F_34:=fun_mk (st:=(top 39)) l_34 c_34 k_34
 have F_35:=fun_mk (st:=(top 40)) l_35 c_35 k_35
 have F_36:=fun_mk (st:=(top 41)) l_36 c_36 k_36
 have F_37:=fun_mk (st:=(top 42)) l_37 c_37 k_37
 have F_38:=fun_mk (st:=(top 43)) l_38 c_38 k_38
 have F_39:=fun_mk (st:=(top 44)) l_39 c_39 k_39
 have F_40:=fun_mk (st:=(top 45)) l_40 c_40 k_40
 have F_law:=fun_mk (st:=(top 46)) l_law c_law k_law
 have T:Txt K mg { a_0:=f_0,f_0:=fO "counted" "counted" (top 1) kV_0 dc_0 pm_0 an_0 cd_0 ct_0,a_1:=f_1,f_1:=fO "first_answer" "first_answer" (top 2) kV_1 dc_1 pm_1 an_1 cd_1 ct_1,a_2:=f_2,f_2:=fO "doubt_of" "doubt_of" (top 3) kV_2 dc_2 pm_2 an_2 cd_2 ct_2,a_3:=f_3,f_3:=fO "fraction" "fraction" (top 4) kV_3 dc_3 pm_3 an_3 cd_3 ct_3,a_4:=f_4,f_4:=fO "common_divisor" "common_divisor" (top 5) kV_4 dc_4 pm_4 an_4 cd_4 ct_4,a_5:=f_5,f_5:=fO "added" "added" (top 6) kV_5 dc_5 pm_5 an_5 cd_5 ct_5,a_6:=f_6,f_6:=fO "is_less" "is_less" (top 7) kV_6 dc_6 pm_6 an_6 cd_6 ct_6,a_7:=f_7,f_7:=fO "common_bottom" "common_bottom" (top 8) kV_7 dc_7 pm_7 an_7 cd_7 ct_7,a_8:=f_8,f_8:=fO "questions_of" "questions_of" (top 11) kV_8 dc_8 pm_8 an_8 cd_8 ct_8,a_9:=f_9,f_9:=fO "questions_on" "questions_on" (top 12) kV_9 dc_9 pm_9 an_9 cd_9 ct_9,a_10:=f_10,f_10:=fO "choices_of" "choices_of" (top 13) kV_10 dc_10 pm_10 an_10 cd_10 ct_10,a_11:=f_11,f_11:=fO "side_of" "side_of" (top 14) kV_11 dc_11 pm_11 an_11 cd_11 ct_11,a_12:=f_12,f_12:=fO "field_asked" "field_asked" (top 15) kV_12 dc_12 pm_12 an_12 cd_12 ct_12,a_13:=f_13,f_13:=fO "entries_to_yes" "entries_to_yes" (top 16) kV_13 dc_13 pm_13 an_13 cd_13 ct_13,a_14:=f_14,f_14:=fO "values_held" "values_held" (top 17) kV_14 dc_14 pm_14 an_14 cd_14 ct_14,a_15:=f_15,f_15:=fO "parted" "parted" (top 18) kV_15 dc_15 pm_15 an_15 cd_15 ct_15,a_16:=f_16,f_16:=fO "numbers_on" "numbers_on" (top 19) kV_16 dc_16 pm_16 an_16 cd_16 ct_16,a_17:=f_17,f_17:=fO "is_proper" "is_proper" (top 20) kV_17 dc_17 pm_17 an_17 cd_17 ct_17,a_18:=f_18,f_18:=fO "ranked" "ranked" (top 22) kV_18 dc_18 pm_18 an_18 cd_18 ct_18,a_19:=f_19,f_19:=fO "rows_at" "rows_at" (top 23) kV_19 dc_19 pm_19 an_19 cd_19 ct_19,a_20:=f_20,f_20:=fO "best" "best" (top 24) kV_20 dc_20 pm_20 an_20 cd_20 ct_20,a_21:=f_21,f_21:=fO "grown" "grown" (top 25) kV_21 dc_21 pm_21 an_21 cd_21 ct_21,a_22:=f_22,f_22:=fO "_law_tape" "_law_tape" (top 27) kV_22 dc_22 pm_22 an_22 cd_22 ct_22,a_23:=f_23,f_23:=fO "_law_draw" "_law_draw" (top 28) kV_23 dc_23 pm_23 an_23 cd_23 ct_23,a_24:=f_24,f_24:=fO "_law_names" "_law_names" (top 29) kV_24 dc_24 pm_24 an_24 cd_24 ct_24,a_25:=f_25,f_25:=fO "_law_form" "_law_form" (top 30) kV_25 dc_25 pm_25 an_25 cd_25 ct_25,a_26:=f_26,f_26:=fO "_law_case" "_law_case" (top 31) kV_26 dc_26 pm_26 an_26 cd_26 ct_26,a_27:=f_27,f_27:=fO "_law_rows" "_law_rows" (top 32) kV_27 dc_27 pm_27 an_27 cd_27 ct_27,a_28:=f_28,f_28:=fO "_law_questions" "_law_questions" (top 33) kV_28 dc_28 pm_28 an_28 cd_28 ct_28,a_29:=f_29,f_29:=fO "_law_side" "_law_side" (top 34) kV_29 dc_29 pm_29 an_29 cd_29 ct_29,a_30:=f_30,f_30:=fO "_law_parts" "_law_parts" (top 35) kV_30 dc_30 pm_30 an_30 cd_30 ct_30,a_31:=f_31,f_31:=fO "_law_counts" "_law_counts" (top 36) kV_31 dc_31 pm_31 an_31 cd_31 ct_31,a_32:=f_32,f_32:=fO "_law_first" "_law_first" (top 37) kV_32 dc_32 pm_32 an_32 cd_32 ct_32,a_33:=f_33,f_33:=fO "_law_lowest" "_law_lowest" (top 38) kV_33 dc_33 pm_33 an_33 cd_33 ct_33,a_34:=f_34,f_34:=fO "_law_doubt" "_law_doubt" (top 39) kV_34 dc_34 pm_34 an_34 cd_34 ct_34,a_35:=f_35,f_35:=fO "_law_less" "_law_less" (top 40) kV_35 dc_35 pm_35 an_35 cd_35 ct_35,a_36:=f_36,f_36:=fO "_law_ranked" "_law_ranked" (top 41) kV_36 dc_36 pm_36 an_36 cd_36 ct_36,a_37:=f_37,f_37:=fO "_law_best" "_law_best" (top 42) kV_37 dc_37 pm_37 an_37 cd_37 ct_37,a_38:=f_38,f_38:=fO "_law_sized" "_law_sized" (top 43) kV_38 dc_38 pm_38 an_38 cd_38 ct_38,a_39:=f_39,f_39:=fO "_law_grown" "_law_grown" (top 44) kV_39 dc_39 pm_39 an_39 cd_39 ct_39,a_40:=f_40,f_40:=fO "_law_turned" "_law_turned" (top 45) kV_40 dc_40 pm_40 an_40 cd_40 ct_40,a_law:=f_law,f_law:=fO "law" "law" (top 46) kV_law dc_law pm_law an_law cd_law ct_law,t_SIDES:=t_SIDES }:={ m_0:=PySem.W.mg_of X G a_0,k_0:=k_0,F_0:=F_0,d_0:=F_0.binds fun _ _ _ _ _ _=>len2 fun _ _=>rfl,m_1:=PySem.W.mg_of X G a_1,k_1:=k_1,F_1:=F_1,d_1:=F_1.binds fun _ _ _ _ _ _=>len2 fun _ _=>rfl,m_2:=PySem.W.mg_of X G a_2,k_2:=k_2,F_2:=F_2,d_2:=F_2.binds fun _ _ _ _ _ _=>len2 fun _ _=>rfl,m_3:=PySem.W.mg_of X G a_3,k_3:=k_3,F_3:=F_3,d_3:=F_3.binds fun _ _ _ _ _ _=>len2 fun _ _=>rfl,m_4:=PySem.W.mg_of X G a_4,k_4:=k_4,F_4:=F_4,d_4:=F_4.binds fun _ _ _ _ _ _=>len2 fun _ _=>rfl,m_5:=PySem.W.mg_of X G a_5,k_5:=k_5,F_5:=F_5,d_5:=F_5.binds fun _ _ _ _ _ _=>len2 fun _ _=>rfl,m_6:=PySem.W.mg_of X G a_6,k_6:=k_6,F_6:=F_6,d_6:=F_6.binds fun _ _ _ _ _ _=>len2 fun _ _=>rfl,m_7:=PySem.W.mg_of X G a_7,k_7:=k_7,F_7:=F_7,d_7:=F_7.binds fun _ _ _ _ _ _=>len1 fun _=>rfl,m_8:=PySem.W.mg_of X G a_8,k_8:=k_8,F_8:=F_8,d_8:=F_8.binds fun _ _ _ _ _ _=>len1 fun _=>rfl,m_9:=PySem.W.mg_of X G a_9,k_9:=k_9,F_9:=F_9,d_9:=F_9.binds fun _ _ _ _ _ _=>len1 fun _=>rfl,m_10:=PySem.W.mg_of X G a_10,k_10:=k_10,F_10:=F_10,d_10:=F_10.binds fun _ _ _ _ _ _=>len1 fun _=>rfl,m_11:=PySem.W.mg_of X G a_11,k_11:=k_11,F_11:=F_11,d_11:=F_11.binds fun _ _ _ _ _ _=>len4 fun _ _ _ _=>rfl,m_12:=PySem.W.mg_of X G a_12,k_12:=k_12,F_12:=F_12,d_12:=F_12.binds fun _ _ _ _ _ _=>len2 fun _ _=>rfl,m_13:=PySem.W.mg_of X G a_13,k_13:=k_13,F_13:=F_13,d_13:=F_13.binds fun _ _ _ _ _ _=>len3 fun _ _ _=>rfl,m_14:=PySem.W.mg_of X G a_14,k_14:=k_14,F_14:=F_14,d_14:=F_14.binds fun _ _ _ _ _ _=>len2 fun _ _=>rfl,m_15:=PySem.W.mg_of X G a_15,k_15:=k_15,F_15:=F_15,d_15:=F_15.binds fun _ _ _ _ _ _=>len4 fun _ _ _ _=>rfl,m_16:=PySem.W.mg_of X G a_16,k_16:=k_16,F_16:=F_16,d_16:=F_16.binds fun _ _ _ _ _ _=>len2 fun _ _=>rfl,m_17:=PySem.W.mg_of X G a_17,k_17:=k_17,F_17:=F_17,d_17:=F_17.binds fun _ _ _ _ _ _=>len2 fun _ _=>rfl,m_18:=PySem.W.mg_of X G a_18,k_18:=k_18,F_18:=F_18,d_18:=F_18.binds fun _ _ _ _ _ _=>len3 fun _ _ _=>rfl,m_19:=PySem.W.mg_of X G a_19,k_19:=k_19,F_19:=F_19,d_19:=F_19.binds fun _ _ _ _ _ _=>len2 fun _ _=>rfl,m_20:=PySem.W.mg_of X G a_20,k_20:=k_20,F_20:=F_20,d_20:=F_20.binds fun _ _ _ _ _ _=>len3 fun _ _ _=>rfl,m_21:=PySem.W.mg_of X G a_21,k_21:=k_21,F_21:=F_21,d_21:=F_21.binds fun _ _ _ _ _ _=>len4 fun _ _ _ _=>rfl,m_22:=PySem.W.mg_of X G a_22,k_22:=k_22,F_22:=F_22,d_22:=F_22.binds fun _ _ _ _ _ _=>len1 fun _=>rfl,m_23:=PySem.W.mg_of X G a_23,k_23:=k_23,F_23:=F_23,d_23:=F_23.binds fun _ _ _ _ _ _=>len2 fun _ _=>rfl,m_24:=PySem.W.mg_of X G a_24,k_24:=k_24,F_24:=F_24,d_24:=F_24.binds fun _ _ _ _ _ _=>len2 fun _ _=>rfl,m_25:=PySem.W.mg_of X G a_25,k_25:=k_25,F_25:=F_25,d_25:=F_25.binds fun _ _ _ _ _ _=>len3 fun _ _ _=>rfl,m_26:=PySem.W.mg_of X G a_26,k_26:=k_26,F_26:=F_26,d_26:=F_26.binds fun _ _ _ _ _ _=>len2 fun _ _=>rfl,m_27:=PySem.W.mg_of X G a_27,k_27:=k_27,F_27:=F_27,d_27:=F_27.binds fun _ _ _ _ _ _=>len3 fun _ _ _=>rfl,m_28:=PySem.W.mg_of X G a_28,k_28:=k_28,F_28:=F_28,d_28:=F_28.binds fun _ _ _ _ _ _=>len1 fun _=>rfl,m_29:=PySem.W.mg_of X G a_29,k_29:=k_29,F_29:=F_29,d_29:=F_29.binds fun _ _ _ _ _ _=>len4 fun _ _ _ _=>rfl,m_30:=PySem.W.mg_of X G a_30,k_30:=k_30,F_30:=F_30,d_30:=F_30.binds fun _ _ _ _ _ _=>len4 fun _ _ _ _=>rfl,m_31:=PySem.W.mg_of X G a_31,k_31:=k_31,F_31:=F_31,d_31:=F_31.binds fun _ _ _ _ _ _=>len2 fun _ _=>rfl,m_32:=PySem.W.mg_of X G a_32,k_32:=k_32,F_32:=F_32,d_32:=F_32.binds fun _ _ _ _ _ _=>len2 fun _ _=>rfl,m_33:=PySem.W.mg_of X G a_33,k_33:=k_33,F_33:=F_33,d_33:=F_33.binds fun _ _ _ _ _ _=>len2 fun _ _=>rfl,m_34:=PySem.W.mg_of X G a_34,k_34:=k_34,F_34:=F_34,d_34:=F_34.binds fun _ _ _ _ _ _=>len2 fun _ _=>rfl,m_35:=PySem.W.mg_of X G a_35,k_35:=k_35,F_35:=F_35,d_35:=F_35.binds fun _ _ _ _ _ _=>len2 fun _ _=>rfl,m_36:=PySem.W.mg_of X G a_36,k_36:=k_36,F_36:=F_36,d_36:=F_36.binds fun _ _ _ _ _ _=>len3 fun _ _ _=>rfl,m_37:=PySem.W.mg_of X G a_37,k_37:=k_37,F_37:=F_37,d_37:=F_37.binds fun _ _ _ _ _ _=>len3 fun _ _ _=>rfl,m_38:=PySem.W.mg_of X G a_38,k_38:=k_38,F_38:=F_38,d_38:=F_38.binds fun _ _ _ _ _ _=>len2 fun _ _=>rfl,m_39:=PySem.W.mg_of X G a_39,k_39:=k_39,F_39:=F_39,d_39:=F_39.binds fun _ _ _ _ _ _=>len4 fun _ _ _ _=>rfl,m_40:=PySem.W.mg_of X G a_40,k_40:=k_40,F_40:=F_40,d_40:=F_40.binds fun _ _ _ _ _ _=>len2 fun _ _=>rfl,m_law:=PySem.W.mg_of X G a_law,k_law:=k_law,F_law:=F_law,d_law:=F_law.binds fun _ _ _ _ _ _=>len1 fun _=>rfl,c_SIDES:=PySem.W.mg_of X G e_SIDES,t_SIDES:=⟨_,_,_,l_SIDES,rfl,rfl,rfl,(by show 2<=sizeLine;decide),.cons ⟨_,rfl⟩ (.cons ⟨_,rfl⟩ (.nil))⟩,L_18:=lam_of y_18 rfl,b_enumerate:=PySem.W.mg_none_of X G z_enumerate,b_len:=PySem.W.mg_none_of X G z_len,b_list:=PySem.W.mg_none_of X G z_list,b_max:=PySem.W.mg_none_of X G z_max,b_min:=PySem.W.mg_none_of X G z_min,b_range:=PySem.W.mg_none_of X G z_range,b_repr:=PySem.W.mg_none_of X G z_repr,b_sorted:=PySem.W.mg_none_of X G z_sorted,b_sum:=PySem.W.mg_none_of X G z_sum,b_tuple:=PySem.W.mg_none_of X G z_tuple }
 refine ⟨fO "law" "law" (top 46) kV_law dc_law pm_law an_law cd_law ct_law,fun s v=>.of_eq rfl,fun base _ _=>?_⟩
 have O_23:=ok_23 (P:=l.prog) (w:=w) (base:=base) T
 have O_31:=ok_31 (P:=l.prog) (w:=w) (base:=base) T
 have O_33:=ok_33 (P:=l.prog) (w:=w) (base:=base) T
 have O_34:=ok_34 (P:=l.prog) (w:=w) (base:=base) T O_31 O_33
 have O_35:=ok_35 (P:=l.prog) (w:=w) (base:=base) T
 have O_29:=ok_29 (P:=l.prog) (w:=w) (base:=base) T
 have O_30:=ok_30 (P:=l.prog) (w:=w) (base:=base) T O_29
 have O_28:=ok_28 (P:=l.prog) (w:=w) (base:=base) T
 have O_36:=ok_36 (P:=l.prog) (w:=w) (base:=base) T O_34 O_35 O_33 O_30 O_28
 have O_37:=ok_37 (P:=l.prog) (w:=w) (base:=base) T O_34 O_35 O_36
 have O_32:=ok_32 (P:=l.prog) (w:=w) (base:=base) T O_31
 have O_39:=ok_39 (P:=l.prog) (w:=w) (base:=base) T O_37 O_32 O_30
 have O_24:=ok_24 (P:=l.prog) (w:=w) (base:=base) T O_23
 have O_25:=ok_25 (P:=l.prog) (w:=w) (base:=base) T O_23 O_24
 have O_26:=ok_26 (P:=l.prog) (w:=w) (base:=base) T O_23
 have O_27:=ok_27 (P:=l.prog) (w:=w) (base:=base) T O_26 O_23
 have O_38:=ok_38 (P:=l.prog) (w:=w) (base:=base) T O_23 O_25 O_27
 have O_22:=ok_22 (P:=l.prog) (w:=w) (base:=base) T
 have O_40:=ok_40 (P:=l.prog) (w:=w) (base:=base) T O_23
 have O_0:=ok_0 (P:=l.prog) (w:=w) (base:=base) T
 have O_4:=ok_4 (P:=l.prog) (w:=w) (base:=base) T
 have O_3:=ok_3 (P:=l.prog) (w:=w) (base:=base) T O_4
 have O_2:=ok_2 (P:=l.prog) (w:=w) (base:=base) T O_0 O_3
 have O_6:=ok_6 (P:=l.prog) (w:=w) (base:=base) T
 have O_5:=ok_5 (P:=l.prog) (w:=w) (base:=base) T O_3
 have O_9:=ok_9 (P:=l.prog) (w:=w) (base:=base) T
 have O_8:=ok_8 (P:=l.prog) (w:=w) (base:=base) T O_9
 have O_10:=ok_10 (P:=l.prog) (w:=w) (base:=base) T O_8
 have O_7:=ok_7 (P:=l.prog) (w:=w) (base:=base) T O_4
 have O_17:=ok_17 (P:=l.prog) (w:=w) (base:=base) T
 have O_16:=ok_16 (P:=l.prog) (w:=w) (base:=base) T
 have O_14:=ok_14 (P:=l.prog) (w:=w) (base:=base) T
 have O_13:=ok_13 (P:=l.prog) (w:=w) (base:=base) T O_14
 have O_12:=ok_12 (P:=l.prog) (w:=w) (base:=base) T
 have O_11:=ok_11 (P:=l.prog) (w:=w) (base:=base) T O_13 O_12
 have O_15:=ok_15 (P:=l.prog) (w:=w) (base:=base) T O_16 O_11
 have O_19:=ok_19 (P:=l.prog) (w:=w) (base:=base) T
 have O_18:=ok_18 (P:=l.prog) (w:=w) (base:=base) T O_5 O_10 O_7 O_2 O_17 O_15 O_19
 have O_20:=ok_20 (P:=l.prog) (w:=w) (base:=base) T O_2 O_6 O_18
 have O_1:=ok_1 (P:=l.prog) (w:=w) (base:=base) T O_0
 have O_21:=ok_21 (P:=l.prog) (w:=w) (base:=base) T O_20 O_1 O_15 O_19
 have O_law:=ok_law (P:=l.prog) (w:=w) (base:=base) T O_23 O_39 O_38 O_22 O_40 O_21
 exact O_law
theorem mask_nil {H:Hp}:Same H (mask H []):=fun b o e=>by
 unfold mask
 rw [if_neg (by simp)]
 exact e
theorem ints_reps {K:PySem.W.Frag} {H:Hp}:∀ ns:List Int,Reps K H (ns.map PyData.int) (ns.map V.int)
 | []=>.nil
 | n::ns=>.cons (.int n) (ints_reps ns)
theorem walk {l:PySem.W.OpenLaw} {q:Program} {loose:List Str} {XP:(Str->Option Value)->Heap->Prop} {YP:World->Heap->Prop} {d:DefRec} {K:Params->PySem.W.Frag} (hn:l.most=some 63) (hdf:d.params.defaults=[])
  (hY:∀ (w:World) (h:Heap),YP w h->(K w.params).In h) (hT:∀ (w:World) (h:Heap),YP w h->∀ P,tabA=some P->h.get? P=some { cls:=.none,data:=.fields #[] }/\(K w.params).lookup P=none/\isCodeTable h P)
  (F:∀ (w:World) (mg:Str->Option Value) (fa:Addr) (h:Heap),(K w.params).In h->h.Ns mainGlobals mg->mg d.name=some (.ref fa) ->
   ∃ fd:FuncData,(∀ (s:Shared) (u:Value),BindsTo s fd ⟨[u],[]⟩ [("_law_script",u)])/\∀ base:Heap,(K w.params).In base->base.Ns mainGlobals mg->FnOk l.prog w (K w.params) mg base CX0 16 fa fd ["_law_script"] (liftSp (K w.params) sp_law)) :
  PySem.W.WalkO q loose XP YP l.row.toRowW d [] (fun f vs=>PySem.call f vs) :=
 L2.walk_of (n:=63) (k:=16) (x:="_law_script") (CX:=fun _=>CX0) (sp:=fun w=>liftSp (K w.params) sp_law) hn (by decide) hdf ⟨rfl,by decide,by decide,rfl⟩ hY hT F
  (fun w H a ns hl _ hS=>⟨[],[.list (ns.map PyData.int)],fun d=>d=.bool true,fun p hp=>by simp at hp,.cons (.list (L2.Same.seq mask_nil hS) (ints_reps ns)) .nil,⟨ns,rfl,hl,rfl⟩,fun d v H' _ r q=>by subst q;cases r;rfl⟩) fun _ _ _ _ _ z=>z
end
end K32
def PySem.W.Fast.tw2508091310764694609:Nat:=0
def PySem.W.Fast.tw481751570570068221:Nat:=0
def PySem.W.Fast.tw7247240033669198252:Nat:=0
def PySem.W.Fast.tw2529207036818615633:Nat:=0
def PySem.W.Fast.tw2204225057161922548:Nat:=0
def PySem.W.Fast.tw4289580242368650995:Nat:=0
def PySem.W.Fast.tw8424642422467464822:Nat:=0
open PySem PySem.W PyProof.Rows
set_option maxRecDepth 100000 in
set_option maxHeartbeats 0 in
theorem PySem.Challenge.cw_leafjudge_k32_whole_trees_grown_holds : PySem.Challenge.rw_leafjudge_k32_whole_trees_grown.Holds := by
  w_on; o_law; k_head; (case hw => w_witness2)
  k_fill
  refine K32.walk (l := PySem.Challenge.rw_leafjudge_k32_whole_trees_grown) rfl rfl (fun w h Y => PySem.W.km_in_of Y) (fun w h Y P e => ?T) ?F
  case T =>
    cases e
    exact ⟨km_tabs_of Y 129 (List.mem_cons_self ..), by kernel_rfl, L2.tab_of (codeHd_of_K (c := 131) (P := 129) (km_in_of Y) (by kernel_rfl)) (km_tabs_of Y 129 (List.mem_cons_self ..))⟩
  case F =>
    intro w mg fa h KX G hmg
    refine' K32.all_mk KX G hmg ?a_0 ?l_0 ?c_0 ?k_0 ?a_1 ?l_1 ?c_1 ?k_1 ?a_2 ?l_2 ?c_2 ?k_2 ?a_3 ?l_3 ?c_3 ?k_3 ?a_4 ?l_4 ?c_4 ?k_4 ?a_5 ?l_5 ?c_5 ?k_5 ?a_6 ?l_6 ?c_6 ?k_6 ?a_7 ?l_7 ?c_7 ?k_7 ?a_8 ?l_8 ?c_8 ?k_8 ?a_9 ?l_9 ?c_9 ?k_9 ?a_10 ?l_10 ?c_10 ?k_10 ?a_11 ?l_11 ?c_11 ?k_11 ?a_12 ?l_12 ?c_12 ?k_12 ?a_13 ?l_13 ?c_13 ?k_13 ?a_14 ?l_14 ?c_14 ?k_14 ?a_15 ?l_15 ?c_15 ?k_15 ?a_16 ?l_16 ?c_16 ?k_16 ?a_17 ?l_17 ?c_17 ?k_17 ?a_18 ?l_18 ?c_18 ?k_18 ?a_19 ?l_19 ?c_19 ?k_19 ?a_20 ?l_20 ?c_20 ?k_20 ?a_21 ?l_21 ?c_21 ?k_21 ?a_22 ?l_22 ?c_22 ?k_22 ?a_23 ?l_23 ?c_23 ?k_23 ?a_24 ?l_24 ?c_24 ?k_24 ?a_25 ?l_25 ?c_25 ?k_25 ?a_26 ?l_26 ?c_26 ?k_26 ?a_27 ?l_27 ?c_27 ?k_27 ?a_28 ?l_28 ?c_28 ?k_28 ?a_29 ?l_29 ?c_29 ?k_29 ?a_30 ?l_30 ?c_30 ?k_30 ?a_31 ?l_31 ?c_31 ?k_31 ?a_32 ?l_32 ?c_32 ?k_32 ?a_33 ?l_33 ?c_33 ?k_33 ?a_34 ?l_34 ?c_34 ?k_34 ?a_35 ?l_35 ?c_35 ?k_35 ?a_36 ?l_36 ?c_36 ?k_36 ?a_37 ?l_37 ?c_37 ?k_37 ?a_38 ?l_38 ?c_38 ?k_38 ?a_39 ?l_39 ?c_39 ?k_39 ?a_40 ?l_40 ?c_40 ?k_40 ?a_law ?l_law ?c_law ?k_law ?e_SIDES ?l_SIDES ?y_18 ?z_enumerate ?z_len ?z_list ?z_max ?z_min ?z_range ?z_repr ?z_sorted ?z_sum ?z_tuple
    (case a_0 | l_0 | c_0 | k_0 | a_1 | l_1 | c_1 | k_1 | a_2 | l_2 | c_2 | k_2 | a_3 | l_3 | c_3 | k_3 | a_4 | l_4 | c_4 | k_4 | a_5 | l_5 | c_5 | k_5 | a_6 | l_6 | c_6 | k_6 | a_7 | l_7 | c_7 | k_7 | a_8 | l_8 | c_8 | k_8 | a_9 | l_9 | c_9 | k_9 | a_10 | l_10 | c_10 | k_10 | a_11 | l_11 | c_11 | k_11 | a_12 | l_12 | c_12 | k_12 | a_13 | l_13 | c_13 | k_13 | a_14 | l_14 | c_14 | k_14 | a_15 | l_15 | c_15 | k_15 | a_16 | l_16 | c_16 | k_16 | a_17 | l_17 | c_17 | k_17 | a_18 | l_18 | c_18 | k_18 | a_19 | l_19 | c_19 | k_19 | a_20 | l_20 | c_20 | k_20 | a_21 | l_21 | c_21 | k_21 | a_22 | l_22 | c_22 | k_22 | a_23 | l_23 | c_23 | k_23 | a_24 | l_24 | c_24 | k_24 | a_25 | l_25 | c_25 | k_25 | a_26 | l_26 | c_26 | k_26 | a_27 | l_27 | c_27 | k_27 | a_28 | l_28 | c_28 | k_28 | a_29 | l_29 | c_29 | k_29 | a_30 | l_30 | c_30 | k_30 | a_31 | l_31 | c_31 | k_31 | a_32 | l_32 | c_32 | k_32 | a_33 | l_33 | c_33 | k_33 | a_34 | l_34 | c_34 | k_34 | a_35 | l_35 | c_35 | k_35 | a_36 | l_36 | c_36 | k_36 | a_37 | l_37 | c_37 | k_37 | a_38 | l_38 | c_38 | k_38 | a_39 | l_39 | c_39 | k_39 | a_40 | l_40 | c_40 | k_40 | a_law | l_law | c_law | k_law | e_SIDES | l_SIDES | z_enumerate | z_len | z_list | z_max | z_min | z_range | z_repr | z_sorted | z_sum | z_tuple => k_is)
    (case y_18 => kernel_rfl)
