import PyProof.Rows.All
import Wide.All
import OpenK.AllK
import Wide.FinOn
import Lean
import PyProof.EqAt
import PyProof.EqKinds
import PyProof.TupleCall
import PyProof.P3In
import PyProof.NeData
import PyProof.TupleKey
import PyProof.DictRoadsH
import KE.KItemsList
import PyProof.DictWalks
import KE.KDictList
import PyProof.Rows.Range3
import KE.KListMore
import PyProof.ListMulRoad
import PyProof.NsDelKeeps
import KE.KTryMore
import PySem.Challenge.RW_leafjudge_k66_too_many_pairs
set_option Elab.async false
set_option linter.all false
set_option maxRecDepth 100000
namespace L2
open PySem PySem.Spec PyProof.Rows

abbrev Key:=Sum Int Str
def keyIs:Key→Value→Bool
  | .inl k,v=>Value.isInt k v
  | .inr x,v=>Value.isStrOf x v
def keyH (w:World):Key→Int
  | .inl k=>hashInt k
  | .inr x=>hashStr w x
theorem keyIs_shape:∀ {k:Key} {v:Value},keyIs k v=true→(∃ i t,k=Sum.inl i∧v=Value.int i t) ∨ (∃ x t,k=Sum.inr x∧v=Value.str x t)
  | .inl i,v,h=>by
    obtain ⟨t,e⟩:=Value.isInt_shape (k:=i) (v:=v) h
    exact .inl ⟨i,t,rfl,e⟩
  | .inr x,v,h=>by
    obtain ⟨t,e⟩:=Value.isStrOf_shape (x:=x) (v:=v) h
    exact .inr ⟨x,t,rfl,e⟩
theorem keyIs_str (x:Str) (t:Tok):keyIs (.inr x) (.str x t)=true:=by simp [keyIs,Value.isStrOf]
theorem key_ll (a b:Int):decide ((Sum.inl a:Key)=Sum.inl b)=(a == b):=by
  by_cases e:a=b
  · subst e; simp
  · have h:¬ (Sum.inl a:Key)=Sum.inl b:=fun q=>e (Sum.inl.inj q)
    rw [decide_eq_false h]
    exact (beq_eq_false_iff_ne.mpr e).symm
theorem key_rr (a b:Str):decide ((Sum.inr a:Key)=Sum.inr b)=decide (a=b):=by
  by_cases e:a=b
  · subst e; simp
  · have h:¬ (Sum.inr a:Key)=Sum.inr b:=fun q=>e (Sum.inr.inj q)
    rw [decide_eq_false h,decide_eq_false e]
theorem key_lr (a:Int) (b:Str):decide ((Sum.inl a:Key)=Sum.inr b)=false:=decide_eq_false (fun q=>nomatch q)
theorem key_rl (a:Str) (b:Int):decide ((Sum.inr a:Key)=Sum.inl b)=false:=decide_eq_false (fun q=>nomatch q)

def mixKind (prog:Program) (w:World):PySem.KeyKind prog w Key where
  is:=keyIs
  hash:=keyH w
  inj:=fun v a b ha hb=>by
    rcases keyIs_shape ha with ⟨i,t,rfl,rfl⟩ | ⟨x,t,rfl,rfl⟩
    · rcases keyIs_shape hb with ⟨j,u,rfl,e⟩ | ⟨y,u,rfl,e⟩
      · injection e with e1 _; rw [e1]
      · exact nomatch e
    · rcases keyIs_shape hb with ⟨j,u,rfl,e⟩ | ⟨y,u,rfl,e⟩
      · exact nomatch e
      · injection e with e1 _; rw [e1]
  byValue:=fun k v h=>by
    rcases keyIs_shape h with ⟨i,t,rfl,rfl⟩ | ⟨x,t,rfl,rfl⟩ <;> rfl
  pyHash:=fun hv h=>by
    rcases keyIs_shape hv with ⟨i,t,rfl,rfl⟩ | ⟨x,t,rfl,rfl⟩
    · exact wpAny_pyHash_int h
    · exact wpAny_pyHash_str h
  eqBool:=fun hu hv h=>by
    rcases keyIs_shape hu with ⟨i,t,rfl,rfl⟩ | ⟨x,t,rfl,rfl⟩
    · rcases keyIs_shape hv with ⟨j,u,rfl,rfl⟩ | ⟨y,u,rfl,rfl⟩
      · rw [key_ll] at h; exact wpAny_eqBool_int h
      · rw [key_lr] at h; exact SeqAt.EqAt.int_str i t y u _ _ _ _ h
    · rcases keyIs_shape hv with ⟨j,u,rfl,rfl⟩ | ⟨y,u,rfl,rfl⟩
      · rw [key_rl] at h; exact SeqAt.EqAt.str_int x t j u _ _ _ _ h
      · rw [key_rr] at h; exact wpAny_eqBool_str h
  «strs»:=fun k x t v h=>by
    rcases keyIs_shape h with ⟨i,u,rfl,e⟩ | ⟨y,u,rfl,e⟩
    · exact nomatch e
    · injection e with e1 _
      subst e1
      cases v <;> rfl

theorem mixKind_str (prog:Program) (w:World) (x:Str) (t:Tok):(mixKind prog w).is (.inr x) (.str x t)=true:=keyIs_str x t
end L2

namespace L2
open PySem PySem.Spec PyProof.Rows

inductive V where
  | non | bl (b:Bool) | int (i:Int) | str (x:Str) | byt (b:Array UInt8) | flt (b:UInt64) | ref (a:Addr) | ty (n:String)
  deriving DecidableEq

def RelV:V→Value→Prop
  | .non,u=>u=Value.none
  | .bl b,u=>u=Value.bool b
  | .int i,u=>∃ t,u=Value.int i t
  | .str x,u=>∃ t,u=Value.str x t
  | .byt b,u=>∃ t,u=Value.bytes b t
  | .flt b,u=>∃ t,u=Value.float b t
  | .ref a,u=>u=Value.ref a
  | .ty n,u=>u=Value.type n

abbrev Vals:List V→List Value→Prop:=Paired RelV
theorem Vals.length {xs:List V} {us:List Value} (r:Vals xs us):xs.length=us.length:=Paired.length r
theorem Vals.get:∀ {xs:List V} {us:List Value} {i:Nat} {x:V},Vals xs us→xs[i]?=some x→∃ u,us[i]?=some u∧RelV x u
  | _,_,_,_,.nil,e=>by simp at e
  | _,_,0,_,.cons r _,e=>by simp at e; subst e; exact ⟨_,rfl,r⟩
  | _,_,i + 1,x,.cons _ t,e=>by
    obtain ⟨u,h1,h2⟩:=Vals.get (i:=i) (x:=x) t (by simpa using e)
    exact ⟨u,by simpa using h1,h2⟩
theorem Vals.set {x:V} {u:Value} (r:RelV x u):∀ {xs:List V} {us:List Value} (i:Nat),Vals xs us→Vals (xs.set i x) (us.set i u)
  | _,_,_,.nil=>.nil
  | _,_,0,.cons _ t=>.cons r t
  | _,_,i + 1,.cons q t=>.cons q (Vals.set r i t)
theorem Vals.append:∀ {xs ys:List V} {us ws:List Value},Vals xs us→Vals ys ws→Vals (xs++ys) (us++ws)
  | _,_,_,_,.nil,s=>s
  | _,_,_,_,.cons r t,s=>.cons r (Vals.append t s)
theorem Vals.take:∀ {xs:List V} {us:List Value} (n:Nat),Vals xs us→Vals (xs.take n) (us.take n)
  | _,_,0,_=>.nil
  | _,_,_ + 1,.nil=>.nil
  | _,_,n + 1,.cons r t=>.cons r (Vals.take n t)
theorem Vals.drop:∀ {xs:List V} {us:List Value} (n:Nat),Vals xs us→Vals (xs.drop n) (us.drop n)
  | _,_,0,r=>r
  | _,_,_ + 1,.nil=>.nil
  | _,_,n + 1,.cons _ t=>Vals.drop n t
theorem Vals.none_of:∀ {xs:List V} {us:List Value} {i:Nat},Vals xs us→xs[i]?=none→us[i]?=none:=fun {xs us i} r e=>by
  have h1:=r.length
  have h2:xs.length≤i:=List.getElem?_eq_none_iff.mp e
  exact List.getElem?_eq_none_iff.mpr (by omega)

def RelO:Option V→Option Value→Prop
  | some v,some u=>RelV v u
  | none,none=>True
  | _,_=>False
def KV {κ:Type}:List (κ × V)→List (κ × Value)→Prop:=Paired fun (p:κ × V) (q:κ × Value)=>p.1=q.1∧RelV p.2 q.2

def kV:Key→V
  | .inl i=>.int i
  | .inr x=>.str x

inductive HO where
  /-- a list -/
  | lst (xs:List V)
  /-- a tuple (never changes) -/
  | tup (xs:List V)
  /-- a dict whose keys are ints and texts; one whose keys are tuples of ints and texts (the empty one is both) -/
  | dK (kvs:List (Key × V)) | dT (kvs:List (List Key × V))
  /-- a set of ints: its members,its size -/
  | set (S:Int→Bool) (n:Nat)
  /-- an instance of the class at C,its dict at dx,its attributes -/
  | ins (C dx:Addr) (fs:List (Str × V))
  /-- the dict of the instance at x -/
  | own (x:Addr)
  /-- the dict of an exception -/
  | xd (fs:List (Str × V))
  /-- a bound method,f of x -/
  | met (f x:Addr)
  /-- a range object lo,lo + 1,.. below hi -/
  | rng (lo hi:Int)
  /-- a thing that is known to the object (the script; a dict while a loop walks it): read,never written while it is so -/
  | frz (o:Obj) (u:HO)
  /-- a code object's table -/
  | tbl (ps:Array Value)
  /-- any other thing,by what is true of its one object (a def of one's own: SetO a S n:=HO.ext fun h=>..) -/
  | ext (φ:Heap→Prop)

abbrev Hp:=Addr→Option HO
def upd (H:Hp) (a:Addr) (o:HO):Hp:=fun b=>if b=a then some o else H b
theorem upd_same {H:Hp} {a:Addr} {o:HO}:upd H a o a=some o:=by unfold upd; rw [if_pos rfl]
theorem upd_ne {H:Hp} {a b:Addr} {o:HO} (h:b ≠ a):upd H a o b=H b:=by unfold upd; rw [if_neg h]
theorem upd_upd {H:Hp} {a:Addr} {o u:HO}:upd (upd H a o) a u=upd H a u:=by
  funext b; unfold upd; split <;> rfl
theorem ne_of_none {H:Hp} {a b:Addr} {o:HO} (h:H a=some o) (h':H b=none):a ≠ b:=by
  intro e; subst e; rw [h] at h'; cases h'

section
variable (P:Program) (w:World)
def TupN (h:Heap) (a:Addr) (items:Array Value):Prop:=∃ o,h.get? a=some o∧o.cls=.type "tuple"∧∃ n,o.data=.seq items n∧o.dict=none
theorem TupN.tup {h:Heap} {a:Addr} {items:Array Value} (x:TupN h a items):IsTup h a items:=let ⟨o,e,c,n,d,_⟩:=x; ⟨o,e,c,n,d⟩
theorem TupN.lt {h:Heap} {a:Addr} {items:Array Value} (x:TupN h a items):a < h.objs.size:=x.tup.lt
theorem TupN.new (h:Heap) (items:Array Value):TupN (h.push { cls:=.type "tuple",data:=.seq items }) h.objs.size items:=⟨_,Heap.get?_push_size _ rfl,rfl,_,rfl,rfl⟩
def ObjOk (H:Hp) (h:Heap) (a:Addr):HO→Prop
  | .lst xs=>xs.length≤sizeLine∧∃ (its:List Value) (n:Nat),Vals xs its∧h.get? a=some { cls:=.type "list",data:=.seq its.toArray n }
  | .tup xs=>xs.length≤sizeLine∧∃ its:List Value,Vals xs its∧TupN h a its.toArray
  | .dK kvs=>kvs.length≤sizeLine∧(a == sysModules)=false∧∃ vs,KV kvs vs∧h.DictOf (mixKind P w) a vs
  | .dT kvs=>kvs.length≤sizeLine∧(a == sysModules)=false∧∃ xs:List (List Key × Addr × Value),
      Paired (fun (p:List Key × V) (q:List Key × Addr × Value)=>p.1=q.1∧H q.2.1=some (.tup (p.1.map kV))∧RelV p.2 q.2.2) kvs xs ∧
      ∃ o es ep,h.get? a=some o∧o.ExactDict∧o.data=.dict es ep∧es.toList=xs.map (entryOfKey (tupleKind (mixKind P w)))∧(xs.map (·.1)).Nodup
  | .set S n=>h.SetOf (intKind P w) a S n
  | .ins C dx fs=>H dx=some (.own a)∧fs.length≤1000∧dx ≠ a∧h.get? a=some (PySem.W.instObj C dx) ∧
      ∃ mA,h.Ns1 dx mA∧(∀ f,RelO (fs.lookup f) (mA f))∧PySem.Within mA (fs.map (·.1))
  | .own _=>∃ o,h.get? a=some o
  | .xd fs=>∃ mA,h.Ns1 a mA∧∀ f,RelO (fs.lookup f) (mA f)
  | .rng lo hi=>∃ t u v,h.get? a=some { cls:=.type "range",data:=.fields #[.int lo t,.int hi u,.int 1 v] }
  | .frz o u=>h.get? a=some o∧ObjOk H h a u
  | .tbl ps=>h.get? a=some { cls:=.none,data:=.fields ps }
  | .met f x=>h.get? a=some (PySem.W.methodObj (.ref f) (.ref x))
  | .ext φ=>φ h∧(∃ o,h.get? a=some o)∧∀ h1 h2:Heap,φ h1→(∀ o,h1.get? a=some o→h2.get? a=some o)→φ h2
def HOk (H:Hp) (h:Heap):Prop:=∀ a o,H a=some o→ObjOk P w H h a o
end

section
variable {P:Program} {w:World} {H H':Hp} {h h':Heap} {a:Addr} {o:HO}
theorem ObjOk.lt (x:ObjOk P w H h a o):a < h.objs.size:=by
  cases o with
  | lst xs=>obtain ⟨_,_,_,_,e⟩:=x; exact Heap.lt_size e
  | tup xs=>obtain ⟨_,_,_,p⟩:=x; exact p.lt
  | dK kvs=>obtain ⟨_,_,_,_,o,_,_,e,_⟩:=x; exact Heap.lt_size e
  | dT kvs=>obtain ⟨_,_,_,_,o,_,_,e,_⟩:=x; exact Heap.lt_size e
  | set S n=>obtain ⟨o,_,_,_,e,_⟩:=x; exact Heap.lt_size e
  | ins C dx fs=>obtain ⟨_,_,_,e,_⟩:=x; exact Heap.lt_size e
  | own y=>obtain ⟨_,e⟩:=x; exact Heap.lt_size e
  | xd fs=>obtain ⟨_,⟨_,_,_,e,_⟩,_⟩:=x; exact Heap.lt_size e
  | rng lo hi=>obtain ⟨_,_,_,e⟩:=x; exact Heap.lt_size e
  | frz ob u=>obtain ⟨e,_⟩:=x; exact Heap.lt_size e
  | tbl ps=>exact Heap.lt_size (show h.get? a=some _ from x)
  | met f y=>exact Heap.lt_size (show h.get? a=some _ from x)
  | ext φ=>obtain ⟨_,⟨_,e⟩,_⟩:=x; exact Heap.lt_size e
theorem Paired.mapP {α β:Type} {F G:α→β→Prop}:∀ {l₁:List α} {l₂:List β},Paired F l₁ l₂→(∀ a b,F a b→G a b)→Paired G l₁ l₂
  | _,_,.nil,_=>.nil
  | _,_,.cons r t,f=>.cons (f _ _ r) (Paired.mapP t f)
theorem ObjOk.stay (x:ObjOk P w H h a o) (k:∀ b u,(b=a ∨ H b=some (.own a))→h.get? b=some u→h'.get? b=some u)
    (ho:∀ b,H b=some (.own a)→H' b=some (.own a)) (ht:∀ b xs,H b=some (.tup xs)→H' b=some (.tup xs)):ObjOk P w H' h' a o:=by
  induction o with
  | lst xs=>obtain ⟨z,its,n,r,e⟩:=x; exact ⟨z,its,n,r,k _ _ (.inl rfl) e⟩
  | tup xs=>obtain ⟨z,its,r,ob,e,c⟩:=x; exact ⟨z,its,r,ob,k _ _ (.inl rfl) e,c⟩
  | dK kvs=>obtain ⟨z,y,vs,r,ob,es,ep,e,c⟩:=x; exact ⟨z,y,vs,r,ob,es,ep,k _ _ (.inl rfl) e,c⟩
  | dT kvs =>
    obtain ⟨z,y,xs,r,ob,es,ep,e,c⟩:=x
    exact ⟨z,y,xs,Paired.mapP r fun p q z=>⟨z.1,ht _ _ z.2.1,z.2.2⟩,ob,es,ep,k _ _ (.inl rfl) e,c⟩
  | set S n=>obtain ⟨ob,es,ep,t,e,c⟩:=x; exact ⟨ob,es,ep,t,k _ _ (.inl rfl) e,c⟩
  | ins C dx fs =>
    obtain ⟨d,z,ne,e,mA,⟨od,es,ep,e2,c⟩,r⟩:=x
    exact ⟨ho _ d,z,ne,k _ _ (.inl rfl) e,mA,⟨od,es,ep,k _ _ (.inr d) e2,c⟩,r⟩
  | own y=>obtain ⟨ob,e⟩:=x; exact ⟨ob,k _ _ (.inl rfl) e⟩
  | xd fs=>obtain ⟨mA,⟨od,es,ep,e,c⟩,r⟩:=x; exact ⟨mA,⟨od,es,ep,k _ _ (.inl rfl) e,c⟩,r⟩
  | rng lo hi=>obtain ⟨t,u,v,e⟩:=x; exact ⟨t,u,v,k _ _ (.inl rfl) e⟩
  | frz ob u ih=>obtain ⟨e,q⟩:=x; exact ⟨k _ _ (.inl rfl) e,ih q⟩
  | tbl ps =>
    have e:h.get? a=some { cls:=.none,data:=.fields ps }:=x
    show h'.get? a=some { cls:=.none,data:=.fields ps }
    exact k a _ (.inl rfl) e
  | met f y =>
    have e:h.get? a=some (PySem.W.methodObj (.ref f) (.ref y)):=x
    show h'.get? a=some (PySem.W.methodObj (.ref f) (.ref y))
    exact k a _ (.inl rfl) e
  | ext φ=>obtain ⟨p,⟨o,e⟩,st⟩:=x; exact ⟨st _ _ p fun o q=>k _ _ (.inl rfl) q,⟨o,k _ _ (.inl rfl) e⟩,st⟩
theorem HOk.lt (x:HOk P w H h) (e:H a=some o):a < h.objs.size:=(x a o e).lt
theorem HOk.fresh (x:HOk P w H h) (e:h.objs.size≤a):H a=none:=by
  cases q:H a with
  | none=>rfl
  | some u=>exact absurd (Nat.lt_of_lt_of_le (x.lt q) e) (Nat.lt_irrefl _)
theorem HOk.kept (x:HOk P w H h) (k:∀ b u,h.get? b=some u→h'.get? b=some u):HOk P w H h':=fun a o e =>
  (x a o e).stay (fun b u _ q=>k b u q) (fun _ q=>q) fun _ _ q=>q
theorem HOk.laid (x:HOk P w H h) (k:∀ b u,h.get? b=some u→h'.get? b=some u) (hp:h.objs.size≤a) (new:ObjOk P w (upd H a o) h' a o):HOk P w (upd H a o) h':=fun b u e=>by
  have hn:=x.fresh hp
  by_cases hb:b=a
  · subst hb; rw [upd_same] at e; cases e; exact new
  · rw [upd_ne hb] at e
    exact (x b u e).stay (fun c v _ q=>k c v q) (fun c q=>by rw [upd_ne (ne_of_none q hn)]; exact q) fun c xs q=>by rw [upd_ne (ne_of_none q hn)]; exact q
end

def Rd (H:Hp) (a:Addr) (u:HO):Prop:=H a=some u ∨ ∃ o,H a=some (.frz o u)
theorem Rd.of {H:Hp} {a:Addr} {u:HO} (h:H a=some u):Rd H a u:=.inl h
theorem Rd.ok {P:Program} {w:World} {H:Hp} {h:Heap} {a:Addr} {u:HO} (r:Rd H a u) (x:HOk P w H h):ObjOk P w H h a u:=by
  rcases r with r | ⟨o,r⟩
  · exact x a u r
  · obtain ⟨_,q⟩:=x a _ r
    exact q
def Mut:Option HO→Prop
  | some (.lst _)=>True
  | some (.dK _)=>True
  | some (.dT _)=>True
  | some (.set _ _)=>True
  | some (.ins _ _ _)=>True
  | some (.ext _)=>True
  | _=>False
section
variable {P:Program} {w:World} {H:Hp} {h h':Heap} {x e:Addr} {o':HO}
theorem HOk.write (ok:HOk P w H h) (mu:Mut (H x)) (he:e=x ∨ H e=some (.own x)) (k:∀ b u,b ≠ e→h.get? b=some u→h'.get? b=some u) (heo:∃ u,h'.get? e=some u)
    (new:ObjOk P w (upd H x o') h' x o'):HOk P w (upd H x o') h':=fun b u q=>by
  have nown:∀ c y,H c=some (.own y)→c ≠ x:=fun c y r z=>by subst z; rw [r] at mu; exact mu
  have ntup:∀ c xs,H c=some (.tup xs)→c ≠ x:=fun c xs r z=>by subst z; rw [r] at mu; exact mu
  by_cases hb:b=x
  · subst hb; rw [upd_same] at q; cases q; exact new
  · rw [upd_ne hb] at q
    by_cases hbe:b=e
    · have q':H b=some (.own x):=by
        rcases he with z | z
        · exact absurd (hbe.trans z) hb
        · rw [hbe]; exact z
      rw [q] at q'; cases q'
      obtain ⟨v,hv⟩:=heo
      exact ⟨v,by rw [hbe]; exact hv⟩
    · refine (ok b u q).stay (fun c v hc r=>k c v ?_ r) (fun c r=>by rw [upd_ne (nown c b r)]; exact r) fun c xs r=>by rw [upd_ne (ntup c xs r)]; exact r
      rcases hc with rfl | hc
      · exact hbe
      · rintro rfl
        rcases he with z | z
        · exact nown c b hc z
        · rw [hc] at z; cases z; exact hb rfl
end

structure Un (fs ex:List Addr) (H H':Hp) (h h':Heap):Prop where
  keep:∀ b o,h.get? b=some o→H b=none→b ∉ fs→b ∉ ex→h'.get? b=some o
  slot:∀ b o,h.get? b=some o→H b=none→b ∈ fs→b ∉ ex→∃ sl,h'.get? b=some { o with slots:=sl }
  free:∀ b o,h.get? b=some o→H b=none→b ∉ ex→H' b=none
  there:∀ b o,h.get? b=some o→b ∉ ex→∃ o',h'.get? b=some o'
  tups:∀ b xs,H b=some (.tup xs)→H' b=some (.tup xs)
  frzs:∀ b o u,H b=some (.frz o u)→H' b=some (.frz o u)
  tbls:∀ b ps,H b=some (.tbl ps)→∃ more,H' b=some (.tbl (ps++more))
section
variable {fs fs' ex ex':List Addr} {H H1 H2:Hp} {h h1 h2 h':Heap} {a x e:Addr} {o:HO}
theorem Un.any (u:Un fs ex H H1 h h1) {b:Addr} {ob:Obj} (q:h.get? b=some ob) (n:H b=none) (hx:b ∉ ex):∃ sl,h1.get? b=some { ob with slots:=sl }:=by
  by_cases hb:b ∈ fs
  · exact u.slot b ob q n hb hx
  · exact ⟨ob.slots,u.keep b ob q n hb hx⟩
theorem Un.trans (a:Un fs ex H H1 h h1) (b:Un fs ex H1 H2 h1 h2):Un fs ex H H2 h h2 where
  keep:=fun c ob q n hc hx=>b.keep c ob (a.keep c ob q n hc hx) (a.free c ob q n hx) hc hx
  slot:=fun c ob q n hc hx=>by
    obtain ⟨sl,e1⟩:=a.slot c ob q n hc hx
    obtain ⟨sl',e2⟩:=b.slot c _ e1 (a.free c ob q n hx) hc hx
    exact ⟨sl',e2⟩
  free:=fun c ob q n hx=>by
    obtain ⟨o',e1⟩:=a.there c ob q hx
    exact b.free c o' e1 (a.free c ob q n hx) hx
  there:=fun c ob q hx=>by
    obtain ⟨o',e1⟩:=a.there c ob q hx
    exact b.there c o' e1 hx
  tups:=fun c xs q=>b.tups c xs (a.tups c xs q)
  frzs:=fun c ob xs q=>b.frzs c ob xs (a.frzs c ob xs q)
  tbls:=fun c ps q=>by
    obtain ⟨m1,e1⟩:=a.tbls c ps q
    obtain ⟨m2,e2⟩:=b.tbls c _ e1
    exact ⟨m1++m2,by rw [e2,Array.append_assoc]⟩
theorem Un.kept (k:∀ b u,h.get? b=some u→h'.get? b=some u):Un fs ex H H h h' :=
  ⟨fun b ob q _ _ _=>k b ob q,fun b ob q _ _ _=>⟨ob.slots,k b ob q⟩,fun _ _ _ n _=>n,fun b ob q _=>⟨ob,k b ob q⟩,fun _ _ q=>q,fun _ _ _ q=>q,fun _ ps q=>⟨#[],by rw [q]; simp⟩⟩
theorem Un.refl:Un fs ex H H h h:=Un.kept fun _ _ q=>q
theorem Un.laid (k:∀ b u,h.get? b=some u→h'.get? b=some u) (hp:h.objs.size≤a) (hn:H a=none):Un fs ex H (upd H a o) h h' where
  keep:=fun b u q _ _ _=>k b u q
  slot:=fun b u q _ _ _=>⟨u.slots,k b u q⟩
  free:=fun b u q n _=>by rw [upd_ne (Nat.ne_of_lt (Nat.lt_of_lt_of_le (Heap.lt_size q) hp))]; exact n
  there:=fun b u q _=>⟨u,k b u q⟩
  tups:=fun b xs q=>by rw [upd_ne (ne_of_none q hn)]; exact q
  frzs:=fun b u xs q=>by rw [upd_ne (ne_of_none q hn)]; exact q
  tbls:=fun b ps q=>⟨#[],by rw [upd_ne (ne_of_none q hn),q]; simp⟩
theorem Un.write (mu:Mut (H x)) (he:e=x ∨ H e=some (.own x)) (k:∀ b u,b ≠ e→h.get? b=some u→h'.get? b=some u) (heo:∃ u,h'.get? e=some u):Un fs ex H (upd H x o) h h':=by
  have hx:∀ b,H b=none→b ≠ x:=fun b n z=>by subst z; rw [n] at mu; exact mu
  have hb:∀ b,H b=none→b ≠ e:=fun b n z=>by
    subst z
    rcases he with r | r
    · exact hx b n r
    · rw [n] at r; cases r
  have hm:∀ b u,H b=some u→¬ Mut (some u)→b ≠ x:=fun b u q nm z=>by subst z; rw [q] at mu; exact nm mu
  refine ⟨fun b u q n _ _=>k b u (hb b n) q,fun b u q n _ _=>⟨u.slots,k b u (hb b n) q⟩,fun b u q n _=>by rw [upd_ne (hx b n)]; exact n,fun b u q _=>?_,
    fun b xs q=>by rw [upd_ne (hm b _ q fun z=>z)]; exact q,fun b u xs q=>by rw [upd_ne (hm b _ q fun z=>z)]; exact q,fun b ps q=>⟨#[],by rw [upd_ne (hm b _ q fun z=>z),q]; simp⟩⟩
  by_cases hbe:b=e
  · subst hbe; exact heo
  · exact ⟨u,k b u hbe q⟩
theorem Un.mono (u:Un fs ex H H1 h h1) (hs:∀ b ∈ fs,b ∈ fs') (hx:∀ b ∈ ex,b ∈ ex'):Un fs' ex' H H1 h h1 :=
  ⟨fun b ob q n hb he=>u.keep b ob q n (fun z=>hb (hs b z)) fun z=>he (hx b z),fun _ _ q n _ he=>u.any q n fun z=>he (hx _ z),fun b ob q n he=>u.free b ob q n fun z=>he (hx b z),fun b ob q he=>u.there b ob q fun z=>he (hx b z),u.tups,u.frzs,u.tbls⟩
end

def trk (h:Heap) (H:Hp):List Addr:=(List.range h.objs.size).filter fun a=>(H a).isSome
def hidT (h:Heap) (H:Hp):Heap:=PySem.W.hideAll h (trk h H)
theorem hidT_size (h:Heap) (H:Hp):(hidT h H).objs.size=h.objs.size:=PySem.W.hideAll_size _ _
theorem hidT_get {h:Heap} {H:Hp} {b:Addr} {o:Obj} (e:h.get? b=some o) (n:H b=none):(hidT h H).get? b=some o :=
  PySem.W.hideAll_get _ e fun hm=>by
    have q:(H b).isSome=true:=(List.mem_filter.mp hm).2
    rw [n] at q; simp at q
theorem of_hidT {h:Heap} {H:Hp} {b:Addr} {o:Obj} (e:(hidT h H).get? b=some o):h.get? b=some o∧H b=none:=by
  have e':h.get? b=some o:=PySem.W.of_hideAll (trk h H) e
  refine ⟨e',?_⟩
  cases q:H b with
  | none=>rfl
  | some x =>
    have hm:b ∈ trk h H:=List.mem_filter.mpr ⟨List.mem_range.mpr (Heap.lt_size e'),by simp [q]⟩
    have z:(hidT h H).get? b=none:=PySem.W.hideAll_none (trk h H) hm
    rw [z] at e; cases e

def allNews (g h:Heap) (L:Addr):List (Addr × Obj):=(List.range h.objs.size).filterMap fun a=>if a=L ∨ (g.get? a).isSome=true then none else (h.get? a).map fun o=>(a,o)
def rest (g h:Heap) (L d:Addr):List (Addr × Obj):=(allNews g h L).filter fun p=>decide (p.1 ≠ d)
end L2

namespace L2
open PySem PySem.Spec PyProof.Rows

structure Mod (K:PySem.W.Frag) (mg:Str→Option Value) (base:Heap):Prop where
  kin:K.In base
  glob:base.Ns mainGlobals mg
  blt:∃ mb,base.Ns builtinsNs mb∧∀ x:Str,x ≠ "__name__"→mb x=bootBuiltins x
  nolimit:base.NoLimit

structure Cx where
  prog:Program
  w:World
  K:PySem.W.Frag
  mg:Str→Option Value
  base:Heap
  A:Around
  N:List Str
  s₀:Shared
  H₀:Hp
  env:Env
  outer:List Env
  stack:List Env
  ex:List Addr
  fn:Str→Bool
  calm:Bool
  pn:List (Addr × Obj)
  xe:Value→Shared→Prop
def frs (l:List Env):List Addr:=l.filterMap (·.frame)
abbrev Cx.fs (X:Cx):List Addr:=frs X.outer

def Vis (sc:Scope) (x:Str):Prop:=sc.names.lookup x=some .local ∨ sc.names.lookup x=some .cell ∨ sc.names.lookup x=some .free
def Loc (sc:Scope) (x:Str):Prop:=sc.names.lookup x=some .local ∨ sc.names.lookup x=some .cell
def Look (env:Env) (h:Heap) (m:Str→Option Value) (x:Str) (u:Value):Prop :=
  (env.kindOf x=some .local∧m x=some u) ∨ ((env.kindOf x=some .cell ∨ env.kindOf x=some .free)∧∃ c,env.cells.lookup x=some c∧h.IsCell c (some u))

structure Cx.Ok (X:Cx):Prop where
  mod:Mod X.K X.mg X.base
  kind:X.env.scope.kind=.function
  glob:X.env.globals=mainGlobals
  blt:X.env.builtins=builtinsNs
  above:X.s₀.heap.objs.size≤X.env.locals
  inj:∀ x y c,X.env.cells.lookup x=some c→X.env.cells.lookup y=some c→x=y
  has:∀ x,(X.env.kindOf x=some .cell ∨ X.env.kindOf x=some .free)→∃ c,X.env.cells.lookup x=some c
  cab:∀ x c,X.fn x=true→X.env.cells.lookup x=some c→X.s₀.heap.objs.size≤c
  hd:X.calm=true→X.A.handled=none
  frames:X.A.frames=some X.stack
  stk:X.stack=X.outer ∨ (X.stack=X.env::X.outer∧X.env.frame=some X.env.locals)
  exf:∀ b ∈ X.ex,b ≠ X.env.locals∧∀ x c,X.env.cells.lookup x=some c→c ≠ b
  bs:∀ b o,X.base.get? b=some o→X.s₀.heap.get? b=some o∧X.H₀ b=none
  bsz:X.base.objs.size≤X.s₀.heap.objs.size
  noex:∀ b o,X.base.get? b=some o→b ∉ X.ex
  exfs:∀ b ∈ X.ex,b ∉ X.fs
  funs:X.s₀.heap.FunFrames X.base X.outer
  frf:∀ b ∈ X.fs,X.H₀ b=none

structure Inv (X:Cx) (pins:List (Addr × Obj)) (σ:List (Option V)) (H:Hp) (s:Shared):Prop where
  ok:X.Ok
  os:s.os=X.s₀.os
  bare:AllBare s.gens
  base:Un X.fs X.ex X.H₀ H X.s₀.heap s.heap
  loc:∃ m,s.heap.Ns X.env.locals m∧∀ (i:Nat) (x:Str) (v:V),X.N[i]?=some x→σ[i]?=some (some v)→Vis X.env.scope x→∃ u,RelV v u∧Look X.env s.heap m x u
  cell:∀ x c,X.env.cells.lookup x=some c→∃ v,s.heap.IsCell c v
  free:H X.env.locals=none
  freeC:∀ x c,X.env.cells.lookup x=some c→H c=none
  pin:∀ p ∈ X.pn++pins,s.heap.get? p.1=some p.2∧H p.1=none∧p.1 ≠ X.env.locals∧p.1 ∉ X.fs∧∀ v,p.2.data ≠ .cell v
  hok:HOk X.prog X.w H s.heap
  len:σ.length=X.N.length

section
variable {X:Cx} {pins:List (Addr × Obj)} {σ:List (Option V)} {H H':Hp} {s:Shared} {h':Heap}

theorem Cx.Ok.nofr (ok:X.Ok) {b:Addr} {o:Obj} (e:X.base.get? b=some o):b ∉ X.fs:=fun hb=>by
  have:=(ok.funs.mem hb).1
  rw [e] at this; cases this
theorem Inv.bs (I:Inv X pins σ H s):∀ b o,X.base.get? b=some o→s.heap.get? b=some o∧H b=none:=fun b o e =>
  ⟨I.base.keep b o (I.ok.bs b o e).1 (I.ok.bs b o e).2 (I.ok.nofr e) (I.ok.noex b o e),I.base.free b o (I.ok.bs b o e).1 (I.ok.bs b o e).2 (I.ok.noex b o e)⟩
theorem Inv.bk (I:Inv X pins σ H s):∀ b o,X.base.get? b=some o→s.heap.get? b=some o:=fun b o e=>(I.bs b o e).1
theorem Inv.mod (I:Inv X pins σ H s):Mod X.K X.mg X.base:=I.ok.mod
theorem Inv.kIn (I:Inv X pins σ H s):X.K.In s.heap:=I.ok.mod.kin.keeps I.bk
theorem Inv.nolimit (I:Inv X pins σ H s):s.heap.NoLimit:=I.ok.mod.nolimit.keeps I.bk
theorem Inv.fr (I:Inv X pins σ H s):∃ m,Fr X.base X.env.locals s.heap m :=
  let ⟨m,hn,_⟩:=I.loc
  ⟨m,hn,I.bk,Nat.le_trans I.ok.bsz I.ok.above⟩
theorem Inv.lt (I:Inv X pins σ H s):X.env.locals < s.heap.objs.size:=let ⟨_,hn,_⟩:=I.loc; hn.lt
theorem Inv.sz (I:Inv X pins σ H s):X.s₀.heap.objs.size≤s.heap.objs.size:=Nat.le_trans I.ok.above (Nat.le_of_lt I.lt)
theorem Inv.nofs (I:Inv X pins σ H s) {a:Addr} (h:s.heap.objs.size≤a):a ∉ X.fs:=fun hb=>by
  obtain ⟨_,o,ho,_⟩:=I.ok.funs.mem hb
  exact absurd (Nat.lt_of_lt_of_le (Heap.lt_size ho) (Nat.le_trans I.sz h)) (Nat.lt_irrefl _)
theorem Inv.cne (I:Inv X pins σ H s):∀ x c,X.env.cells.lookup x=some c→c ≠ X.env.locals:=fun x c e z=>by
  obtain ⟨v,o,ho,hd⟩:=I.cell x c e
  obtain ⟨m,⟨o',es,ep,ho',hd',_⟩,_⟩:=I.loc
  rw [z,ho'] at ho; cases ho; rw [hd'] at hd; cases hd
theorem Inv.funs (I:Inv X pins σ H s):s.heap.FunFrames X.base X.outer:=by
  have all:∀ (l:List Env),(∀ b ∈ frs l,b ∈ X.fs)→X.s₀.heap.FunFrames X.base l→s.heap.FunFrames X.base l:=by
    intro l
    induction l with
    | nil=>intro _ _; trivial
    | cons env r ih =>
      intro hs hl
      obtain ⟨hk,⟨L,o,hf,hn,ho,hd⟩,hr⟩:=hl
      have hL:L ∈ X.fs:=hs L (by unfold frs; rw [List.filterMap_cons,hf]; exact List.mem_cons_self)
      obtain ⟨sl,e⟩:=I.base.slot L o ho (I.ok.frf L hL) hL fun z=>I.ok.exfs L z hL
      exact ⟨hk,⟨L,_,hf,hn,e,hd⟩,ih (fun b hb=>hs b (by unfold frs; rw [List.filterMap_cons,hf]; exact List.mem_cons_of_mem _ hb)) hr⟩
  exact all X.outer (fun _ hb=>hb) I.ok.funs

theorem Inv.stack (I:Inv X pins σ H s):s.heap.FunFrames X.base X.stack:=by
  rcases I.ok.stk with e | ⟨e,hf⟩
  · rw [e]; exact I.funs
  · rw [e]
    obtain ⟨m,hn,_⟩:=I.loc
    refine .cons (by rw [I.ok.kind]; decide) hf hn ?_ I.funs
    exact Heap.get?_none_of_le (Nat.le_trans I.ok.bsz I.ok.above)
theorem Inv.stkSub (I:Inv X pins σ H s):∀ b ∈ frs X.stack,b ∈ X.env.locals::X.fs:=fun b hb=>by
  rcases I.ok.stk with e | ⟨e,hf⟩
  · rw [e] at hb; exact List.mem_cons_of_mem _ hb
  · rw [e] at hb
    unfold frs at hb
    rw [List.filterMap_cons,hf] at hb
    exact hb
theorem Inv.stkFree (I:Inv X pins σ H s):∀ b ∈ frs X.stack,H b=none:=fun b hb=>by
  rcases List.mem_cons.mp (I.stkSub b hb) with e | hb
  · rw [e]; exact I.free
  · obtain ⟨_,o,ho,_⟩:=I.ok.funs.mem hb
    exact I.base.free b o ho (I.ok.frf b hb) fun z=>I.ok.exfs b z hb

theorem Inv.step {g':Array GenState} {t':Nat} {d':Drawn} {ch:List Addr} (I:Inv X pins σ H s)
    (hch:∀ b ∈ ch,(b ∈ X.ex ∨ X.s₀.heap.objs.size≤b)∧b ≠ X.env.locals∧(∀ x c,X.env.cells.lookup x=some c→c ≠ b)∧∀ p ∈ X.pn++pins,p.1 ≠ b)
    (keep:∀ b o,b ≠ X.env.locals→b ∉ X.fs→b ∉ ch→s.heap.get? b=some o→H b=none→h'.get? b=some o)
    (slot:∀ b o,b ≠ X.env.locals→b ∈ X.fs→b ∉ ch→s.heap.get? b=some o→H b=none→∃ sl,h'.get? b=some { o with slots:=sl }) (free:∀ b o,b ∉ ch→s.heap.get? b=some o→H b=none→H' b=none)
    (there:∀ b o,b ∉ ch→s.heap.get? b=some o→∃ o',h'.get? b=some o')
    (tups:∀ b xs,H b=some (.tup xs)→H' b=some (.tup xs)) (frzs:∀ b o u,H b=some (.frz o u)→H' b=some (.frz o u)) (tbls:∀ b ps,H b=some (.tbl ps)→∃ more,H' b=some (.tbl (ps++more)))
    (ns:∀ m,s.heap.Ns X.env.locals m→h'.Ns X.env.locals m) (hok:HOk X.prog X.w H' h') (hg:AllBare g') :
    Inv X pins σ H' { s with heap:=h',gens:=g',drawn:=d',toks:=t' }:=by
  have neL:∀ b o,X.s₀.heap.get? b=some o→b ≠ X.env.locals:=fun b o e=>Nat.ne_of_lt (Nat.lt_of_lt_of_le (Heap.lt_size e) I.ok.above)
  have neC:∀ b o,X.s₀.heap.get? b=some o→b ∉ X.ex→b ∉ ch:=fun b o e hx hb=>by
    rcases (hch b hb).1 with z | z
    · exact hx z
    · exact absurd (Nat.lt_of_lt_of_le (Heap.lt_size e) z) (Nat.lt_irrefl _)
  have cellK:∀ x c,X.env.cells.lookup x=some c→∀ v,s.heap.IsCell c v→h'.IsCell c v:=fun x c e v ⟨o,ho,hd⟩=>by
    have nch:c ∉ ch:=fun z=>(hch c z).2.2.1 x c e rfl
    by_cases hc:c ∈ X.fs
    · obtain ⟨sl,q⟩:=slot c o (I.cne x c e) hc nch ho (I.freeC x c e)
      exact ⟨_,q,hd⟩
    · exact ⟨o,keep c o (I.cne x c e) hc nch ho (I.freeC x c e),hd⟩
  refine ⟨I.ok,I.os,hg,⟨fun b o e n hb hx=>?_,fun b o e n hb hx=>?_,fun b o e n hx=>?_,fun b o e hx=>?_,fun b xs e=>tups b xs (I.base.tups b xs e),fun b o xs e=>frzs b o xs (I.base.frzs b o xs e),fun b ps e=>?_⟩,?_,fun x c e=>?_,?_,fun x c e=>?_,fun p hp=>?_,hok,I.len⟩
  · exact keep b o (neL b o e) hb (neC b o e hx) (I.base.keep b o e n hb hx) (I.base.free b o e n hx)
  · obtain ⟨sl,e1⟩:=I.base.slot b o e n hb hx
    obtain ⟨sl',e2⟩:=slot b _ (neL b o e) hb (neC b o e hx) e1 (I.base.free b o e n hx)
    exact ⟨sl',e2⟩
  · obtain ⟨o',e1⟩:=I.base.there b o e hx
    exact free b o' (neC b o e hx) e1 (I.base.free b o e n hx)
  · obtain ⟨o',e1⟩:=I.base.there b o e hx
    exact there b o' (neC b o e hx) e1
  · obtain ⟨m1,e1⟩:=I.base.tbls b ps e
    obtain ⟨m2,e2⟩:=tbls b _ e1
    exact ⟨m1++m2,by rw [e2,Array.append_assoc]⟩
  · obtain ⟨m,hn,hl⟩:=I.loc
    refine ⟨m,ns m hn,fun i x v e1 e2 e3=>?_⟩
    obtain ⟨u,r,l⟩:=hl i x v e1 e2 e3
    refine ⟨u,r,?_⟩
    rcases l with l | ⟨k,c,e,z⟩
    · exact .inl l
    · exact .inr ⟨k,c,e,cellK x c e _ z⟩
  · obtain ⟨v,z⟩:=I.cell x c e
    exact ⟨v,cellK x c e v z⟩
  · obtain ⟨m,⟨o,_,_,ho,_⟩,_⟩:=I.loc
    exact free _ o (fun z=>(hch _ z).2.1 rfl) ho I.free
  · obtain ⟨v,o,ho,hd⟩:=I.cell x c e
    exact free c o (fun z=>(hch c z).2.2.1 x c e rfl) ho (I.freeC x c e)
  · obtain ⟨e,n,ne,nf,d⟩:=I.pin p hp
    have nch:p.1 ∉ ch:=fun z=>(hch p.1 z).2.2.2 p hp rfl
    exact ⟨keep p.1 p.2 ne nf nch e n,free p.1 p.2 nch e n,ne,nf,d⟩
theorem Inv.un {t':Nat} (I:Inv X pins σ H s) (u:Un X.fs [] H H' s.heap h') (hok:HOk X.prog X.w H' h'):Inv X pins σ H' { s with heap:=h',toks:=t' }:=by
  obtain ⟨m,⟨o,es,ep,ho,r⟩,_⟩:=id I.loc
  obtain ⟨sl,hL⟩:=u.any ho I.free (by simp)
  exact I.step (g':=s.gens) (d':=s.drawn) (ch:=[]) (fun _ z=>nomatch z) (fun b o _ hb _ e n=>u.keep b o e n hb (by simp)) (fun b o _ hb _ e n=>u.slot b o e n hb (by simp)) (fun b o _ e n=>u.free b o e n (by simp)) (fun b o _ e=>u.there b o e (by simp)) u.tups u.frzs u.tbls (fun m' hm=>by
    obtain ⟨o',es',ep',ho',r'⟩:=hm
    rw [ho] at ho'; cases ho'
    exact ⟨_,es',ep',hL,r'⟩) hok I.bare
theorem Inv.call {g':Array GenState} {t':Nat} {d':Drawn} {ch:List Addr} (I:Inv X pins σ H s) (u:Un (frs X.stack) ch H H' s.heap h') (hok:HOk X.prog X.w H' h') (hg:AllBare g')
    (hch:∀ b ∈ ch,(b ∈ X.ex ∨ X.s₀.heap.objs.size≤b)∧b ≠ X.env.locals∧(∀ x c,X.env.cells.lookup x=some c→c ≠ b)∧∀ p ∈ X.pn++pins,p.1 ≠ b) :
    Inv X pins σ H' { s with heap:=h',gens:=g',drawn:=d',toks:=t' }:=by
  obtain ⟨m,⟨o,es,ep,ho,r⟩,_⟩:=id I.loc
  obtain ⟨sl,hL⟩:=u.any ho I.free fun z=>(hch _ z).2.1 rfl
  exact I.step (ch:=ch) hch (fun b o hL hb hc e n=>u.keep b o e n (fun z=>(List.mem_cons.mp (I.stkSub b z)).elim hL hb) hc) (fun b o _ _ hc e n=>u.any e n hc) (fun b o hc e n=>u.free b o e n hc) (fun b o hc e=>u.there b o e hc) u.tups u.frzs u.tbls (fun m' hm=>by
    obtain ⟨o',es',ep',ho',r'⟩:=hm
    rw [ho] at ho'; cases ho'
    exact ⟨_,es',ep',hL,r'⟩) hok hg
theorem Inv.turned {t':Nat} {it:Addr} (I:Inv X pins σ H s) (k:∀ b o,b ≠ it→s.heap.get? b=some o→h'.get? b=some o) (hn:H it=none) (hL:it ≠ X.env.locals)
    (h1:it ∈ X.ex ∨ X.s₀.heap.objs.size≤it) (h2:∀ x c,X.env.cells.lookup x=some c→c ≠ it) (h3:∀ p ∈ X.pn++pins,p.1 ≠ it):Inv X pins σ H { s with heap:=h',toks:=t' }:=by
  have nit:∀ b u,H b=some u→b ≠ it:=fun b u e z=>by rw [z,hn] at e; cases e
  refine I.step (g':=s.gens) (d':=s.drawn) (ch:=[it]) (fun b hb=>?_) (fun b o _ _ hc e _=>k b o (fun z=>hc (by simp [z])) e) (fun b o _ _ hc e _=>⟨o.slots,k b o (fun z=>hc (by simp [z])) e⟩) (fun _ _ _ _ n=>n)
    (fun b o hc e=>⟨o,k b o (fun z=>hc (by simp [z])) e⟩) (fun _ _ e=>e) (fun _ _ _ e=>e) (fun b ps e=>⟨#[],by rw [e]; simp⟩) (fun m hm=>?_) (fun b u e=>?_) I.bare
  · have e:b=it:=by simpa using hb
    subst e
    exact ⟨h1,hL,h2,h3⟩
  · obtain ⟨o,es,ep,ho,r⟩:=hm
    exact ⟨o,es,ep,k _ o (Ne.symm hL) ho,r⟩
  · refine (I.hok b u e).stay (fun c v hc q=>k c v ?_ q) (fun _ q=>q) fun _ _ q=>q
    rcases hc with z | z
    · rw [z]; exact nit b u e
    · exact nit c _ z
theorem Inv.tok (I:Inv X pins σ H s) (t:Nat):Inv X pins σ H { s with toks:=t }:=I.un (h':=s.heap) (t':=t) Un.refl I.hok
theorem Inv.kept {t':Nat} (I:Inv X pins σ H s) (k:∀ b u,s.heap.get? b=some u→h'.get? b=some u):Inv X pins σ H { s with heap:=h',toks:=t' }:=I.un (Un.kept k) (I.hok.kept k)
theorem Inv.laid {a:Addr} {o:HO} {t':Nat} (I:Inv X pins σ H s) (k:∀ b u,s.heap.get? b=some u→h'.get? b=some u) (hp:s.heap.objs.size≤a) (new:ObjOk X.prog X.w (upd H a o) h' a o) :
    Inv X pins σ (upd H a o) { s with heap:=h',toks:=t' }:=I.un (Un.laid k hp (I.hok.fresh hp)) (I.hok.laid k hp new)
theorem Inv.write {x e:Addr} {o:HO} {t':Nat} (I:Inv X pins σ H s) (mu:Mut (H x)) (he:e=x ∨ H e=some (.own x)) (k:∀ b u,b ≠ e→s.heap.get? b=some u→h'.get? b=some u) (heo:∃ u,h'.get? e=some u)
    (new:ObjOk X.prog X.w (upd H x o) h' x o):Inv X pins σ (upd H x o) { s with heap:=h',toks:=t' }:=I.un (Un.write mu he k heo) (I.hok.write mu he k heo new)
theorem Inv.pins_of {pins':List (Addr × Obj)} (I:Inv X pins σ H s) (h:∀ p ∈ pins',s.heap.get? p.1=some p.2∧H p.1=none∧p.1 ≠ X.env.locals∧p.1 ∉ X.fs∧∀ v,p.2.data ≠ .cell v):Inv X pins' σ H s :=
  ⟨I.ok,I.os,I.bare,I.base,I.loc,I.cell,I.free,I.freeC,fun p hp=>(List.mem_append.mp hp).elim (fun z=>I.pin p (List.mem_append_left _ z)) (h p),I.hok,I.len⟩

theorem nodup_ix {N:List Str} (hN:N.Nodup) {i j:Nat} {x:Str} (a:N[i]?=some x) (b:N[j]?=some x):i=j:=by
  obtain ⟨h1,e1⟩:=List.getElem?_eq_some_iff.mp a
  obtain ⟨h2,e2⟩:=List.getElem?_eq_some_iff.mp b
  exact (List.getElem_inj hN).mp (e1.trans e2.symm)

theorem store_ok2 {M:Model} {A:Around} {E:Value→Shared→Prop} {i:Nat} {x:Str} {v:V} {u:Value} {Q:Unit→Shared→Prop} (I:Inv X pins σ H s) (hN:X.N.Nodup) (hi:X.N[i]?=some x) (hx:Loc X.env.scope x) (r:RelV v u)
    (h:∀ s',Inv X pins (σ.set i (some v)) H s'→(∃ a,Heap.SameBut a s.heap s'.heap∧(a=X.env.locals ∨ X.env.cells.lookup x=some a))→Q () s') (hf:X.fn x=true ∨ X.env.scope.names.lookup x=some .local:=by first | exact .inl rfl | exact .inr rfl | assumption):wpAny M A (storeName X.env x u) Q E s:=by
  obtain ⟨m,hn,hl⟩:=id I.loc
  have hcls:(X.env.scope.kind == .class || (X.env.scope.kind == .module && X.env.locals != X.env.globals))=false:=by rw [I.ok.kind]; rfl
  have hiσ:i < σ.length:=by rw [I.len]; exact (List.getElem?_eq_some_iff.mp hi).1
  have cne:=I.cne
  have tracked:∀ {a:Addr} {h':Heap},(∃ o,s.heap.get? a=some o∧H a=none)→Heap.SameBut a s.heap h'→HOk X.prog X.w H h':=fun {a h'} ha hs b ob e=>by
    obtain ⟨_,_,hfree⟩:=ha
    refine (I.hok b ob e).stay (fun c w' hc q=>(hs.2 c ?_).trans q) (fun _ q=>q) fun _ _ q=>q
    rintro rfl
    rcases hc with rfl | hc
    · rw [hfree] at e; cases e
    · rw [hfree] at hc; cases hc
  rcases hx with hk | hk
  · refine wpAny_storeName_local hk hn (fun h' hn' hs=>?_) hcls
    obtain ⟨oL,_,_,hoL,_⟩:=id hn
    refine h _ ⟨I.ok,I.os,I.bare,⟨fun b o e n hb hx=>?_,fun b o e n hb hx=>?_,I.base.free,fun b o e hx=>?_,I.base.tups,I.base.frzs,I.base.tbls⟩,⟨_,hn',fun j y v' e1 e2 e3=>?_⟩,fun y c e=>?_,I.free,I.freeC,fun p hp=>?_,tracked ⟨oL,hoL,I.free⟩ hs,by simpa using I.len⟩ ⟨_,hs,.inl rfl⟩
    · exact (hs.2 b (Nat.ne_of_lt (Nat.lt_of_lt_of_le (Heap.lt_size e) I.ok.above))).trans (I.base.keep b o e n hb hx)
    · obtain ⟨sl,e1⟩:=I.base.slot b o e n hb hx
      exact ⟨sl,(hs.2 b (Nat.ne_of_lt (Nat.lt_of_lt_of_le (Heap.lt_size e) I.ok.above))).trans e1⟩
    · obtain ⟨o',e1⟩:=I.base.there b o e hx
      exact ⟨o',(hs.2 b (Nat.ne_of_lt (Nat.lt_of_lt_of_le (Heap.lt_size e) I.ok.above))).trans e1⟩
    · by_cases hj:j=i
      · subst hj
        rw [hi] at e1; cases e1
        rw [List.getElem?_set_self hiσ] at e2
        cases e2
        exact ⟨u,r,.inl ⟨hk,by simp⟩⟩
      · rw [List.getElem?_set_ne (Ne.symm hj)] at e2
        obtain ⟨u',r',q⟩:=hl j y v' e1 e2 e3
        refine ⟨u',r',?_⟩
        rcases q with ⟨k,e⟩ | ⟨k,c,e,z⟩
        · refine .inl ⟨k,?_⟩
          have:y ≠ x:=fun e=>hj (nodup_ix hN e1 (e ▸ hi))
          simp [this,e]
        · exact .inr ⟨k,c,e,z.sameBut hs (cne y c e)⟩
    · obtain ⟨w',z⟩:=I.cell y c e
      exact ⟨w',z.sameBut hs (cne y c e)⟩
    · obtain ⟨e,n,ne,nf,d⟩:=I.pin p hp
      exact ⟨(hs.2 p.1 ne).trans e,n,ne,nf,d⟩
  · have hfn:X.fn x=true:=by
      rcases hf with z | z
      · exact z
      · rw [z] at hk; cases hk
    obtain ⟨c,hc⟩:=I.ok.has x (.inl hk)
    obtain ⟨w',z⟩:=I.cell x c hc
    refine wpAny_storeName_cell I.ok.kind hk hc z (fun h' hc' hs=>?_)
    obtain ⟨oc,hoc,hocd⟩:=id z
    refine h { s with heap:=h' } ⟨I.ok,I.os,I.bare,⟨fun b o e n hb hx=>?_,fun b o e n hb hx=>?_,I.base.free,fun b o e hx=>?_,I.base.tups,I.base.frzs,I.base.tbls⟩,⟨m,hn.sameBut hs (Ne.symm (cne x c hc)),fun j y v' e1 e2 e3=>?_⟩,fun y c' e=>?_,I.free,I.freeC,fun p hp=>?_,tracked ⟨oc,hoc,I.freeC x c hc⟩ hs,by simpa using I.len⟩ ⟨c,hs,.inr hc⟩
    · exact (hs.2 b (Nat.ne_of_lt (Nat.lt_of_lt_of_le (Heap.lt_size e) (I.ok.cab x c hfn hc)))).trans (I.base.keep b o e n hb hx)
    · obtain ⟨sl,e1⟩:=I.base.slot b o e n hb hx
      exact ⟨sl,(hs.2 b (Nat.ne_of_lt (Nat.lt_of_lt_of_le (Heap.lt_size e) (I.ok.cab x c hfn hc)))).trans e1⟩
    · obtain ⟨o',e1⟩:=I.base.there b o e hx
      exact ⟨o',(hs.2 b (Nat.ne_of_lt (Nat.lt_of_lt_of_le (Heap.lt_size e) (I.ok.cab x c hfn hc)))).trans e1⟩
    · by_cases hj:j=i
      · subst hj
        rw [hi] at e1; cases e1
        rw [List.getElem?_set_self hiσ] at e2
        cases e2
        exact ⟨u,r,.inr ⟨.inl hk,c,hc,hc'⟩⟩
      · rw [List.getElem?_set_ne (Ne.symm hj)] at e2
        obtain ⟨u',r',q⟩:=hl j y v' e1 e2 e3
        refine ⟨u',r',?_⟩
        rcases q with q | ⟨k,c',e,z'⟩
        · exact .inl q
        · refine .inr ⟨k,c',e,z'.sameBut hs ?_⟩
          rintro rfl
          exact hj (nodup_ix hN e1 (I.ok.inj _ _ _ e hc ▸ hi))
    · by_cases hcc:c'=c
      · subst hcc; exact ⟨_,hc'⟩
      · obtain ⟨w2,z2⟩:=I.cell y c' e
        exact ⟨w2,z2.sameBut hs hcc⟩
    · obtain ⟨e,n,ne,nf,d⟩:=I.pin p hp
      refine ⟨(hs.2 p.1 ?_).trans e,n,ne,nf,d⟩
      intro q
      rw [q,hoc] at e
      have q':oc=p.2:=Option.some.inj e
      exact d w' (by rw [← q']; exact hocd)
theorem store_ok {M:Model} {A:Around} {E:Value→Shared→Prop} {i:Nat} {x:Str} {v:V} {u:Value} {Q:Unit→Shared→Prop} (I:Inv X pins σ H s) (hN:X.N.Nodup) (hi:X.N[i]?=some x) (hx:Loc X.env.scope x) (r:RelV v u)
    (h:∀ s',Inv X pins (σ.set i (some v)) H s'→Q () s') (hf:X.fn x=true ∨ X.env.scope.names.lookup x=some .local:=by first | exact .inl rfl | exact .inr rfl | assumption):wpAny M A (storeName X.env x u) Q E s :=
  store_ok2 I hN hi hx r (fun s' I' _=>h s' I') hf
theorem Inv.call' {s':Shared} {ch:List Addr} (I:Inv X pins σ H s) (ho:s'.os=s.os) (u:Un (frs X.stack) ch H H' s.heap s'.heap) (hok:HOk X.prog X.w H' s'.heap) (hg:AllBare s'.gens)
    (hch:∀ b ∈ ch,(b ∈ X.ex ∨ X.s₀.heap.objs.size≤b)∧b ≠ X.env.locals∧(∀ x c,X.env.cells.lookup x=some c→c ≠ b)∧∀ p ∈ X.pn++pins,p.1 ≠ b):Inv X pins σ H' s':=by
  obtain ⟨h',g',d',t',o'⟩:=s'
  have e:o'=s.os:=ho
  subst e
  exact I.call (g':=g') (t':=t') (d':=d') u hok hg hch
end

abbrev XK:=Value→Option Addr→Hp→Prop
abbrev St:=List (Option V)
abbrev VK:=V→Hp→Prop
abbrev TE:=St→Hp→VK→Prop
abbrev TT:=St→Hp→(Bool→Hp→Prop)→Prop
abbrev TA:=St→Hp→(List V→Hp→Prop)→Prop
structure Ends where
  nx:St→Hp→Prop
  rt:VK
  bk:St→Hp→Prop:=fun _ _=>False
  ct:St→Hp→Prop:=fun _ _=>False
abbrev TS:=Ends→St→Hp→Prop

def EP (X:Cx) (pins:List (Addr × Obj)) (σ:St) (Q:VK) (u:Value) (s':Shared):Prop:=∃ v H',Inv X pins σ H' s'∧RelV v u∧Q v H'
def TP (X:Cx) (pins:List (Addr × Obj)) (σ:St) (Q:Bool→Hp→Prop) (b:Bool) (s':Shared):Prop:=∃ H',Inv X pins σ H' s'∧Q b H'
def AP (X:Cx) (pins:List (Addr × Obj)) (σ:St) (Q:List V→Hp→Prop) (us:List Value) (s':Shared):Prop:=∃ vs H',Inv X pins σ H' s'∧Vals vs us∧Q vs H'
def SP (X:Cx) (pins:List (Addr × Obj)) (D:Ends) (f:Flow) (s':Shared):Prop :=
  match f with
  | .next=>∃ σ' H',Inv X pins σ' H' s'∧D.nx σ' H'
  | .brk=>∃ σ' H',Inv X pins σ' H' s'∧D.bk σ' H'
  | .cont=>∃ σ' H',Inv X pins σ' H' s'∧D.ct σ' H'
  | .ret u=>∃ v σ' H',Inv X pins σ' H' s'∧RelV v u∧D.rt v H'

def PE (X:Cx) (e:Expr) (t:TE):Prop :=
  ∀ (pins:List (Addr × Obj)) (s:Shared) (σ:St) (H:Hp) (Q:VK),Inv X pins σ H s→t σ H Q→wpAny (model X.prog X.w) X.A (eval e X.env) (EP X pins σ Q) X.xe s
def PT (X:Cx) (e:Expr) (t:TT):Prop :=
  ∀ (pins:List (Addr × Obj)) (s:Shared) (σ:St) (H:Hp) (Q:Bool→Hp→Prop),Inv X pins σ H s→t σ H Q→wpAny (model X.prog X.w) X.A (isTrue e X.env (eval e X.env)) (TP X pins σ Q) X.xe s
def PW (X:Cx) (e:Expr) (t:TT):Prop :=
  ∀ (whole:Sem Value) (pins:List (Addr × Obj)) (s:Shared) (σ:St) (H:Hp) (Q:Bool→Hp→Prop),Inv X pins σ H s→t σ H Q→wpAny (model X.prog X.w) X.A (isTrue e X.env whole) (TP X pins σ Q) X.xe s
theorem PW.pt {X:Cx} {e:Expr} {t:TT} (h:PW X e t):PT X e t:=h _
def PA (X:Cx) (es:List Expr) (t:TA):Prop :=
  ∀ (pos:Pos) (pins:List (Addr × Obj)) (s:Shared) (σ:St) (H:Hp) (Q:List V→Hp→Prop),Inv X pins σ H s→t σ H Q→wpAny (model X.prog X.w) X.A (spliced (backTo pos (starEach es X.env))) (AP X pins σ Q) X.xe s
def PS (X:Cx) (st:Stmt) (t:TS):Prop :=
  ∀ (pins:List (Addr × Obj)) (s:Shared) (σ:St) (H:Hp) (D:Ends),Inv X pins σ H s→t D σ H→wpAny (model X.prog X.w) X.A (exec st X.env) (SP X pins D) X.xe s
def PSs (X:Cx) (st:List Stmt) (t:TS):Prop :=
  ∀ (pins:List (Addr × Obj)) (s:Shared) (σ:St) (H:Hp) (D:Ends),Inv X pins σ H s→t D σ H→wpAny (model X.prog X.w) X.A (execs st X.env) (SP X pins D) X.xe s
theorem thn {α:Type} {t:Sem α} {Q Q':α→Shared→Prop} {M:Model} {A:Around} {E:Value→Shared→Prop} {s:Shared} (h:wpAny M A t Q E s) (hQ:∀ a s,Q a s→Q' a s):wpAny M A t Q' E s:=wpAny_mono h hQ fun _ _ x=>x
end L2

namespace L2
open PySem PySem.Spec PyProof.Rows
section
variable {X:Cx}

def tVar (i:Nat):TE:=fun σ H Q=>∃ v,σ[i]?=some (some v)∧Q v H
def tC (v:V):TE:=fun _ H Q=>Q v H
theorem pe_var {i:Nat} {x:Str} {pos:Pos} (hN:X.N[i]?=some x) (hv:Vis X.env.scope x) (hd:(x == ("__debug__":Str))=false:=by decide) (hcd:(x == ("__classdict__":Str))=false:=by decide):PE X (.Name x pos) (tVar i):=by
  intro pins s σ H Q I h
  obtain ⟨v,e,h⟩:=h
  obtain ⟨m,hn,hl⟩:=I.loc
  obtain ⟨u,r,l⟩:=hl i x v hN e hv
  have fin:EP X pins σ Q u s:=⟨v,H,I,r,h⟩
  rcases l with ⟨hk,hm⟩ | ⟨hk,c,hc,hcell⟩
  · exact wpAny_Name (wpAny_loadName_local I.ok.kind hk hn hm fin) hd
  · rcases hk with hk | hk
    · exact wpAny_Name (wpAny_loadName_cell I.ok.kind hk hc hcell fin) hd
    · exact wpAny_Name (wpAny_loadName_free I.ok.kind hk hc hcell fin hcd) hd
theorem pe_int {i j pos}:PE X (.Constant (.int i) j pos) (tC (.int i)):=fun _ _ _ H _ I h=>wpAny_Constant_int ⟨.int i,H,I.tok _,⟨_,rfl⟩,h⟩
theorem pe_bl {b j pos}:PE X (.Constant (.bool b) j pos) (tC (.bl b)):=fun _ _ _ H _ I h=>Constant_bool ⟨.bl b,H,I,rfl,h⟩
theorem pe_non {j pos}:PE X (.Constant .none j pos) (tC .non):=fun _ _ _ H _ I h=>Constant_none ⟨.non,H,I,rfl,h⟩
theorem pe_str {x j pos}:PE X (.Constant (.str x) j pos) (tC (.str x)):=fun _ _ _ H _ I h=>Calls.Constant_str ⟨.str x,H,I.tok _,⟨_,rfl⟩,h⟩

def Gl (X:Cx) (x:Str):Prop:=X.env.kindOf x=some .globalImplicit
theorem ld_glob {E:Value→Shared→Prop} {pins:List (Addr × Obj)} {s:Shared} {σ:St} {H:Hp} {x:Str} {u:Value} {pos:Pos} {Q:Value→Shared→Prop} (I:Inv X pins σ H s) (hg:Gl X x) (hm:X.mg x=some u) (h:Q u s)
    (hd:(x == ("__debug__":Str))=false:=by decide):wpAny (model X.prog X.w) X.A (eval (.Name x pos) X.env) Q E s :=
  Calls.Name_function_global I.ok.kind hg (Calls.loadGlobal_global (by rw [I.ok.glob]; exact I.mod.glob.keeps I.bk) hm h) hd
theorem ld_blt {E:Value→Shared→Prop} {pins:List (Addr × Obj)} {s:Shared} {σ:St} {H:Hp} {x:Str} {u:Value} {pos:Pos} {Q:Value→Shared→Prop} (I:Inv X pins σ H s) (hg:Gl X x) (hm:X.mg x=none) (hv:bootBuiltins x=some u) (h:Q u s)
    (hn:x ≠ "__name__":=by decide) (hd:(x == ("__debug__":Str))=false:=by decide):wpAny (model X.prog X.w) X.A (eval (.Name x pos) X.env) Q E s:=by
  obtain ⟨mb,h1,h2⟩:=I.mod.blt
  exact Calls.Name_function_global I.ok.kind hg (Calls.loadGlobal_builtin (by rw [I.ok.glob]; exact I.mod.glob.keeps I.bk) hm (by rw [I.ok.blt]; exact h1.keeps I.bk) ((h2 x hn).trans hv) h) hd
theorem pe_glob {x:Str} {v:V} {u:Value} {pos:Pos} (hg:Gl X x) (hm:X.mg x=some u) (r:RelV v u) (hd:(x == ("__debug__":Str))=false:=by decide):PE X (.Name x pos) (tC v) :=
  fun _ _ _ H _ I h=>ld_glob I hg hm ⟨v,H,I,r,h⟩ hd
theorem pe_bltn {x:Str} {v:V} {u:Value} {pos:Pos} (hg:Gl X x) (hm:X.mg x=none) (hv:bootBuiltins x=some u) (r:RelV v u) (hn:x ≠ "__name__":=by decide) (hd:(x == ("__debug__":Str))=false:=by decide):PE X (.Name x pos) (tC v) :=
  fun _ _ _ H _ I h=>ld_blt I hg hm hv ⟨v,H,I,r,h⟩ hn hd

variable {a b:Expr} {ta tb:TE} {pos:Pos}
def tB (t:TE):TT:=fun σ H Q=>t σ H fun x H1=>∃ c,x=.bl c∧Q c H1
theorem pt_val {e:Expr} {t:TE} (h:PE X e t) (he:∀ whole,isTrue e X.env whole=(do let v ← whole; standAt e.pos; holding [v] (truthy v)):=by intro _; rfl):PT X e (tB t):=by
  intro pins s σ H Q I hw
  refine isTrue_plain (thn (h pins s σ H _ I hw) fun v s1 ⟨x,H1,I1,r1,q1⟩=>?_) (he _)
  obtain ⟨d,rfl,q⟩:=q1
  cases r1
  exact wpAny_truthy_bool ⟨H1,I1,q⟩

variable {tA tB':TT} {rest:List Expr}
def tAnd (t u:TT):TT:=fun σ H Q=>t σ H fun c H1=>if c=true then u σ H1 Q else Q false H1
def tOr (t u:TT):TT:=fun σ H Q=>t σ H fun c H1=>if c=true then Q true H1 else u σ H1 Q
def tNot (t:TT):TT:=fun σ H Q=>t σ H fun c H1=>Q (!c) H1
theorem pw_and1 (ha:PT X a tA):PW X (.BoolOp .And [a] pos) tA:=by
  intro wh pins s σ H Q I h
  refine isTrue_and (thn (ha pins s σ H Q I h) fun c s1 e=>?_)
  cases c with
  | true=>exact isTrue_and_nil e
  | false=>exact e
theorem pw_or1 (ha:PT X a tA):PW X (.BoolOp .Or [a] pos) tA:=by
  intro wh pins s σ H Q I h
  refine isTrue_or (thn (ha pins s σ H Q I h) fun c s1 e=>?_)
  cases c with
  | false=>exact isTrue_or_nil e
  | true=>exact e
theorem pw_and (ha:PT X a tA) (hb:PW X (.BoolOp .And (b::rest) pos) tB'):PW X (.BoolOp .And (a::b::rest) pos) (tAnd tA tB'):=by
  intro wh pins s σ H Q I h
  refine isTrue_and (thn (ha pins s σ H _ I h) fun c s1 ⟨H1,I1,q1⟩=>?_)
  cases c with
  | true=>exact hb wh pins s1 σ H1 Q I1 q1
  | false=>exact ⟨H1,I1,q1⟩
theorem pw_or (ha:PT X a tA) (hb:PW X (.BoolOp .Or (b::rest) pos) tB'):PW X (.BoolOp .Or (a::b::rest) pos) (tOr tA tB'):=by
  intro wh pins s σ H Q I h
  refine isTrue_or (thn (ha pins s σ H _ I h) fun c s1 ⟨H1,I1,q1⟩=>?_)
  cases c with
  | true=>exact ⟨H1,I1,q1⟩
  | false=>exact hb wh pins s1 σ H1 Q I1 q1
theorem pt_not (ha:PT X a tA):PT X (.UnaryOp .Not a pos) (tNot tA):=by
  intro pins s σ H Q I h
  exact isTrue_not (ha pins s σ H (fun c H1=>Q (!c) H1) I h)
def tAndV (ta tb:TE):TE:=fun σ H Q=>ta σ H fun x H1=>∃ c,x=.bl c∧if c=true then tb σ H1 Q else Q (.bl false) H1
theorem pe_one {op} {t:TE} (h:PE X a t):PE X (.BoolOp op [a] pos) t:=fun pins s σ H Q I hw=>BoolOp_one (h pins s σ H Q I hw)
theorem pe_and (ha:PE X a ta) (hb:PE X (.BoolOp .And (b::rest) pos) tb):PE X (.BoolOp .And (a::b::rest) pos) (tAndV ta tb):=by
  intro pins s σ H Q I h
  refine BoolOp_and (thn (ha pins s σ H _ I h) fun v s1 ⟨x,H1,I1,r1,q1⟩=>?_)
  obtain ⟨c,rfl,q1⟩:=q1
  cases r1
  refine wpAny_truthy_bool ?_
  cases c with
  | true=>exact hb pins s1 σ H1 Q I1 q1
  | false=>exact ⟨.bl false,H1,I1,rfl,q1⟩
def tIf (t:TT) (ta tb:TE):TE:=fun σ H Q=>t σ H fun c H1=>if c=true then ta σ H1 Q else tb σ H1 Q
theorem pe_ifExp {c:Expr} (hc:PT X c tA) (ha:PE X a ta) (hb:PE X b tb):PE X (.IfExp c a b pos) (tIf tA ta tb):=by
  intro pins s σ H Q I h
  refine wpAny_IfExp (thn (hc pins s σ H _ I h) fun d s1 ⟨H1,I1,q1⟩=>?_)
  cases d with
  | true=>exact ha pins s1 σ H1 Q I1 q1
  | false=>exact hb pins s1 σ H1 Q I1 q1
end
end L2

namespace L2
open PySem PySem.Spec PyProof.Rows

def SqL (K:PySem.W.Frag) (H:Hp) (a:Addr) (xs:List V):Prop :=
  Rd H a (.lst xs) ∨
    ∃ (o:Obj) (its:Array Value) (n:Nat),K.lookup a=some o∧o.cls=.type "list"∧o.dict=none∧o.data=.seq its n∧its.size≤sizeLine∧Vals xs its.toList
def SqT (K:PySem.W.Frag) (H:Hp) (a:Addr) (xs:List V):Prop :=
  Rd H a (.tup xs) ∨
    ∃ (o:Obj) (its:Array Value) (n:Nat),K.lookup a=some o∧o.cls=.type "tuple"∧o.dict=none∧o.data=.seq its n∧its.size≤sizeLine∧Vals xs its.toList
def absV:Value→Option V
  | .none=>some .non
  | .bool b=>some (.bl b)
  | .int i _=>some (.int i)
  | .str x _=>some (.str x)
  | .bytes b _=>some (.byt b)
  | .float b _=>some (.flt b)
  | .ref a=>some (.ref a)
  | .type n=>some (.ty n)
  | _=>none
theorem RelV.abs {x:V} {u:Value} (r:RelV x u):absV u=some x:=by
  cases x with
  | non=>cases r; rfl
  | bl _=>cases r; rfl
  | int _=>obtain ⟨t,rfl⟩:=r; rfl
  | str _=>obtain ⟨t,rfl⟩:=r; rfl
  | byt _=>obtain ⟨t,rfl⟩:=r; rfl
  | flt _=>obtain ⟨t,rfl⟩:=r; rfl
  | ref _=>cases r; rfl
  | ty _=>cases r; rfl
theorem RelV.inj {x y:V} {u:Value} (r:RelV x u) (q:RelV y u):x=y:=Option.some.inj (r.abs.symm.trans q.abs)
theorem Vals.inj:∀ {xs ys:List V} {us:List Value},Vals xs us→Vals ys us→xs=ys
  | _,_,_,.nil,.nil=>rfl
  | _,_,_,.cons r t,.cons r' t'=>by rw [r.inj r',Vals.inj t t']
section
variable {X:Cx} {pins:List (Addr × Obj)} {σ:St} {H:Hp} {s:Shared} {a:Addr} {xs ys:List V}
theorem SqL.of {K:PySem.W.Frag} (h:H a=some (.lst xs)):SqL K H a xs:=.inl (.inl h)
theorem SqT.of {K:PySem.W.Frag} (h:H a=some (.tup xs)):SqT K H a xs:=.inl (.inl h)
theorem Inv.list (I:Inv X pins σ H s) (h:SqL X.K H a xs):∃ its:List Value,Vals xs its∧PlainL s.heap a its.toArray∧xs.length≤sizeLine:=by
  rcases h with h | ⟨o,its,n,hk,hc,hd,hs,hz,r⟩
  · obtain ⟨z,its,n,r,e⟩:=h.ok I.hok
    exact ⟨its,r,⟨_,n,e,rfl,rfl,rfl⟩,z⟩
  · refine ⟨its.toList,r,⟨o,n,I.kIn a o hk,hc,hd,by simpa using hs⟩,?_⟩
    have e:=r.length
    simp only [Array.length_toList] at e
    omega
theorem Inv.tuple (I:Inv X pins σ H s) (h:SqT X.K H a xs):∃ its:List Value,Vals xs its∧IsTup s.heap a its.toArray∧xs.length≤sizeLine:=by
  rcases h with h | ⟨o,its,n,hk,hc,_,hs,hz,r⟩
  · obtain ⟨z,its,r,p⟩:=h.ok I.hok
    exact ⟨its,r,p.tup,z⟩
  · refine ⟨its.toList,r,⟨o,I.kIn a o hk,hc,n,by simpa using hs⟩,?_⟩
    have e:=r.length
    simp only [Array.length_toList] at e
    omega
theorem Inv.tupleN (I:Inv X pins σ H s) (h:SqT X.K H a xs):∃ o,s.heap.get? a=some o∧o.cls=.type "tuple"∧o.dict=none:=by
  rcases h with h | ⟨o,its,n,hk,hc,hd,_⟩
  · obtain ⟨z,its,r,⟨o,e,c,n,_,d⟩⟩:=h.ok I.hok
    exact ⟨o,e,c,d⟩
  · exact ⟨o,I.kIn a o hk,hc,hd⟩
theorem Inv.list_inj (I:Inv X pins σ H s) (h:SqL X.K H a xs) (h':SqL X.K H a ys):xs=ys:=by
  obtain ⟨its,r,⟨o,n,e,_,_,d⟩,_⟩:=I.list h
  obtain ⟨its',r',⟨o',n',e',_,_,d'⟩,_⟩:=I.list h'
  rw [e] at e'; cases e'
  rw [d] at d'
  injection d' with d1 _
  have:its=its':=by simpa using congrArg Array.toList d1
  subst this
  exact r.inj r'
theorem Inv.tuple_inj (I:Inv X pins σ H s) (h:SqT X.K H a xs) (h':SqT X.K H a ys):xs=ys:=by
  obtain ⟨its,r,⟨o,e,_,n,d⟩,_⟩:=I.tuple h
  obtain ⟨its',r',⟨o',e',_,n',d'⟩,_⟩:=I.tuple h'
  rw [e] at e'; cases e'
  rw [d] at d'
  injection d' with d1 _
  have:its=its':=by simpa using congrArg Array.toList d1
  subst this
  exact r.inj r'
end

abbrev Cx.wish (X:Cx) (E:Value→Shared→Prop):Cx:={ X with xe:=E }
abbrev Cx.nox (X:Cx):Cx:=X.wish fun _ _=>False
theorem Cx.Ok.wish {X:Cx} (ok:X.Ok) (E:Value→Shared→Prop):(X.wish E).Ok :=
  ⟨ok.mod,ok.kind,ok.glob,ok.blt,ok.above,ok.inj,ok.has,ok.cab,ok.hd,ok.frames,ok.stk,ok.exf,ok.bs,ok.bsz,ok.noex,ok.exfs,ok.funs,ok.frf⟩
theorem Cx.Ok.unwish {X:Cx} {E:Value→Shared→Prop} (ok:(X.wish E).Ok):X.Ok :=
  ⟨ok.mod,ok.kind,ok.glob,ok.blt,ok.above,ok.inj,ok.has,ok.cab,ok.hd,ok.frames,ok.stk,ok.exf,ok.bs,ok.bsz,ok.noex,ok.exfs,ok.funs,ok.frf⟩
section
variable {X:Cx} {pins:List (Addr × Obj)} {σ:St} {H:Hp} {s:Shared} {E:Value→Shared→Prop}
theorem Inv.wish (I:Inv X pins σ H s) (E:Value→Shared→Prop):Inv (X.wish E) pins σ H s:=⟨I.ok.wish E,I.os,I.bare,I.base,I.loc,I.cell,I.free,I.freeC,I.pin,I.hok,I.len⟩
theorem Inv.unwish (I:Inv (X.wish E) pins σ H s):Inv X pins σ H s:=⟨I.ok.unwish,I.os,I.bare,I.base,I.loc,I.cell,I.free,I.freeC,I.pin,I.hok,I.len⟩
theorem SP.unwish {D:Ends} {f:Flow} {s':Shared} (h:SP (X.wish E) pins D f s'):SP X pins D f s':=by
  cases f with
  | next=>obtain ⟨σ',H',I,q⟩:=h; exact ⟨σ',H',I.unwish,q⟩
  | brk=>obtain ⟨σ',H',I,q⟩:=h; exact ⟨σ',H',I.unwish,q⟩
  | cont=>obtain ⟨σ',H',I,q⟩:=h; exact ⟨σ',H',I.unwish,q⟩
  | ret u=>obtain ⟨v,σ',H',I,r,q⟩:=h; exact ⟨v,σ',H',I.unwish,r,q⟩
theorem PE.nox {e:Expr} {t:TE} (h:PE X.nox e t):PE X e t:=fun pins s σ H Q I hw =>
  wpAny_mono (h pins s σ H Q (I.wish _) hw) (fun _ _ ⟨v,H',I',r,q⟩=>⟨v,H',I'.unwish,r,q⟩) fun _ _ z=>False.elim z
theorem PT.nox {e:Expr} {t:TT} (h:PT X.nox e t):PT X e t:=fun pins s σ H Q I hw =>
  wpAny_mono (h pins s σ H Q (I.wish _) hw) (fun _ _ ⟨H',I',q⟩=>⟨H',I'.unwish,q⟩) fun _ _ z=>False.elim z
theorem PSs.nox {st:List Stmt} {t:TS} (h:PSs X.nox st t):PSs X st t:=fun pins s σ H D I hw =>
  wpAny_mono (h pins s σ H D (I.wish _) hw) (fun _ _ q=>q.unwish) fun _ _ z=>False.elim z
end

section
variable {X:Cx} {st:Stmt} {rest:List Stmt} {t u:TS} {e:Expr} {te:TE} {pos:Pos}
def tNext:TS:=fun D σ H=>D.nx σ H
def tSeq (t u:TS):TS:=fun D σ H=>t { D with nx:=u D } σ H
theorem pss_nil:PSs X [] tNext:=fun _ _ σ H _ I h=>wpAny_execs_nil ⟨σ,H,I,h⟩
theorem pss_cons (h1:PS X st t) (h2:PSs X rest u):PSs X (st::rest) (tSeq t u):=by
  intro pins s σ H D I h
  refine wpAny_execs_cons (thn (h1 pins s σ H { D with nx:=u D } I h) fun f s1 q=>?_)
  cases f with
  | next =>
    obtain ⟨σ',H',I',q⟩:=q
    exact h2 pins s1 σ' H' D I' q
  | ret v=>exact q
  | brk=>exact q
  | cont=>exact q
theorem pss_one (h1:PS X st t):PSs X [st] t:=by
  intro pins s σ H D I h
  refine wpAny_execs_cons (thn (h1 pins s σ H D I h) fun f s1 q=>?_)
  cases f with
  | next=>exact wpAny_execs_nil q
  | ret v=>exact q
  | brk=>exact q
  | cont=>exact q
theorem Inv.quiet {pins:List (Addr × Obj)} {σ:St} {H:Hp} {s:Shared} (I:Inv X pins σ H s):interactive X.env=false:=by simp [interactive,I.ok.kind]
def tDrop (te:TE):TS:=fun D σ H=>te σ H fun _ H1=>D.nx σ H1
theorem ps_expr (he:PE X e te) (hs:swapsWith e none pos.line X.env=pure false:=by rfl):PS X (.Expr e pos) (tDrop te):=by
  intro pins s σ H D I h
  exact wpAny_Expr_any (thn (he pins s σ H _ I h) fun v s1 ⟨x,H1,I1,r1,q1⟩=>⟨σ,H1,I1,q1⟩) I.quiet hs
def tRet (te:TE):TS:=fun D σ H=>te σ H D.rt
theorem ps_ret (he:PE X e te):PS X (.Return (some e) pos) (tRet te):=by
  intro pins s σ H D I h
  exact wpAny_Return_some (thn (he pins s σ H _ I h) fun v s1 ⟨x,H1,I1,r1,q1⟩=>⟨x,σ,H1,I1,r1,q1⟩)
def tIfS (c:TT) (t u:TS):TS:=fun D σ H=>c σ H fun b H1=>if b=true then t D σ H1 else u D σ H1
theorem ps_if {c:Expr} {a b:List Stmt} {tc:TT} (hc:PT X c tc) (ha:PSs X a t) (hb:PSs X b u):PS X (.If c a b pos) (tIfS tc t u):=by
  intro pins s σ H D I h
  refine wpAny_If (thn (hc pins s σ H _ I h) fun d s1 ⟨H1,I1,q1⟩=>?_)
  cases d with
  | true=>exact ha pins s1 σ H1 D I1 q1
  | false=>exact hb pins s1 σ H1 D I1 q1
end

abbrev TG:=V→St→Hp→(St→Hp→Prop)→Prop
abbrev TGs:=List V→St→Hp→(St→Hp→Prop)→Prop
def PG (X:Cx) (target:Expr) (t:TG):Prop :=
  ∀ (pins:List (Addr × Obj)) (s:Shared) (σ:St) (H:Hp) (v:V) (u:Value) (Q:St→Hp→Prop),Inv X pins σ H s→RelV v u→t v σ H Q →
    wpAny (model X.prog X.w) X.A (assign target X.env u) (fun _ s'=>∃ σ' H',Inv X pins σ' H' s'∧Q σ' H') X.xe s
def PGs (X:Cx) (ts:List Expr) (t:TGs):Prop :=
  ∀ (pins:List (Addr × Obj)) (s:Shared) (σ:St) (H:Hp) (vs:List V) (us:List Value) (Q:St→Hp→Prop),Inv X pins σ H s→Vals vs us→t vs σ H Q →
    wpAny (model X.prog X.w) X.A (assignInOrder ((assignEach ts X.env).map (·.2)) us) (fun _ s'=>∃ σ' H',Inv X pins σ' H' s'∧Q σ' H') X.xe s
abbrev TSet:=V→V→V→Hp→(Hp→Prop)→Prop
def PSet (X:Cx) (t:TSet):Prop :=
  ∀ (pins:List (Addr × Obj)) (s:Shared) (σ:St) (H:Hp) (o i v:V) (ov iv u:Value) (Q:Hp→Prop),Inv X pins σ H s→RelV o ov→RelV i iv→RelV v u→t o i v H Q →
    wpAny (model X.prog X.w) X.A (setItem ov iv u) (fun _ s'=>∃ H',Inv X pins σ H' s'∧Q H') X.xe s
section
variable {X:Cx} {pos:Pos}
def gName (i:Nat):TG:=fun v σ H Q=>Q (σ.set i (some v)) H
theorem pg_name {i:Nat} {x:Str} (hN:X.N.Nodup) (hi:X.N[i]?=some x) (hx:Loc X.env.scope x) (hf:X.fn x=true ∨ X.env.scope.names.lookup x=some .local:=by first | exact .inl rfl | exact .inr rfl | assumption):PG X (.Name x pos) (gName i):=by
  intro pins s σ H v u Q I r h
  exact wpAny_assign_Name (store_ok I hN hi hx r (fun s' I'=>⟨_,H,I',h⟩) hf)
def gNil:TGs:=fun vs σ H Q=>vs=[]∧Q σ H
def gCons (t:TG) (u:TGs):TGs:=fun vs σ H Q=>∃ v r,vs=v::r∧t v σ H fun σ' H'=>u r σ' H' Q
theorem pgs_nil:PGs X [] gNil:=by
  intro pins s σ H vs us Q I r h
  obtain ⟨e,h⟩:=h
  subst e
  cases r
  exact assignInOrder_nil ⟨σ,H,I,h⟩
theorem pgs_cons {e:Expr} {es:List Expr} {t:TG} {u:TGs} (h1:PG X e t) (h2:PGs X es u)
    (hs:(assignEach (e::es) X.env).map (·.2)=assign e X.env::(assignEach es X.env).map (·.2):=by rfl):PGs X (e::es) (gCons t u):=by
  intro pins s σ H vs us Q I r h
  obtain ⟨v,vr,e1,h⟩:=h
  subst e1
  cases r with
  | cons r rr =>
    rw [hs]
    refine assignInOrder_cons (thn (h1 pins s σ H _ _ _ I r h) fun _ s1 ⟨σ1,H1,I1,q1⟩=>?_)
    exact h2 pins s1 σ1 H1 _ _ Q I1 rr q1
def gTup (K:PySem.W.Frag) (n:Nat) (t:TGs):TG:=fun v σ H Q=>∃ a xs,v=.ref a∧SqT K H a xs∧xs.length=n∧t xs σ H Q
theorem pg_tup {es:List Expr} {k:Nat} {t:TGs} {n:Nat} (hc:X.calm=true) (h:PGs X es t)
    (hn:(assignEach es X.env).length=n:=by rfl) (hst:(assignEach es X.env).findIdx? (·.1)=none:=by rfl):PG X (.Tuple es k pos) (gTup X.K n t):=by
  intro pins s σ H v u Q I r hw
  obtain ⟨a,xs,e1,hq,hl,hw⟩:=hw
  subst e1
  cases r
  obtain ⟨its,rv,ht,hz⟩:=I.tuple hq
  refine assign_Tuple_tuple (I.ok.hd hc) ht (by simp [hn,← hl,rv.length]) hst fun h' hx=>?_
  have I1:Inv X pins σ H { s with heap:=h' }:=I.kept (t':=s.toks) fun b o e=>hx b o (Nat.ne_of_lt (Heap.lt_size e)) e
  exact h pins _ σ H xs _ Q I1 (by simpa using rv) hw
def gSub (to ti:TE) (t:TSet):TG:=fun v σ H Q=>to σ H fun o H1=>ti σ H1 fun i H2=>t o i v H2 fun H3=>Q σ H3
theorem pg_sub {o i:Expr} {to ti:TE} {t:TSet} (ho:PE X o to) (hi:PE X i ti) (hs:PSet X t)
    (ha:∀ v,assign (.Subscript o i pos) X.env v=(do
      let ov ← holding [v] (eval o X.env)
      let iv ← holding [v,ov] (eval i X.env)
      standAt pos
      holding [v,ov,iv] (setItem ov iv v)
      release [v,ov,iv] []):=by intro _; rfl):PG X (.Subscript o i pos) (gSub to ti t):=by
  intro pins s σ H v u Q I r h
  rw [ha]
  refine wpAny_bind (wpAny_holding (thn (ho pins s σ H _ I h) fun ov s1 ⟨x,H1,I1,r1,q1⟩=>?_))
  refine wpAny_bind (wpAny_holding (thn (hi pins s1 σ H1 _ I1 q1) fun iv s2 ⟨y,H2,I2,r2,q2⟩=>?_))
  refine wpAny_bind (wpAny_standAt (wpAny_bind (wpAny_holding (thn (hs pins s2 σ H2 x y v ov iv u _ I2 r1 r2 r q2) fun _ s3 ⟨H3,I3,q3⟩=>?_))))
  exact wpAny_release ⟨σ,H3,I3,q3⟩
def tAsg (te:TE) (g:TG):TS:=fun D σ H=>te σ H fun x H1=>g x σ H1 D.nx
theorem ps_asg {tg e:Expr} {te:TE} {g:TG} (he:PE X e te) (hg:PG X tg g) (hs:swapsWithSole [tg] e pos.line X.env=pure false:=by rfl) (hw:swappedStores [tg] e X.env=pure none:=by rfl)
    (h1:(assignEach [tg] X.env).map (·.2)=[assign tg X.env]:=by rfl):PS X (.Assign [tg] e pos) (tAsg te g):=by
  intro pins s σ H D I h
  refine wpAny_Assign_stores (thn (he pins s σ H _ I h) fun v s1 ⟨x,H1,I1,r1,q1⟩=>?_) hs hw
  rw [h1]
  exact thn (hg pins s1 σ H1 x v _ I1 r1 q1) fun _ s2 q=>q
theorem ps_set {i:Nat} {x:Str} {e:Expr} {te:TE} {pos':Pos} (hN:X.N.Nodup) (hi:X.N[i]?=some x) (hx:Loc X.env.scope x) (he:PE X e te) (hs:swapsWith e (some (.Name x pos')) pos.line X.env=pure false:=by rfl) (hf:X.fn x=true ∨ X.env.scope.names.lookup x=some .local:=by first | exact .inl rfl | exact .inr rfl | assumption) :
    PS X (.Assign [.Name x pos'] e pos) (tAsg te (gName i)):=by
  intro pins s σ H D I h
  refine wpAny_Assign_Name (thn (he pins s σ H _ I h) fun v s1 ⟨y,H1,I1,r1,q1⟩=>?_) hs
  exact store_ok I1 hN hi hx r1 (fun s2 I2=>⟨_,H1,I2,q1⟩) hf
end

section
variable {X:Cx} {pos:Pos}
def tWhile (c:TT) (tb:TS):TS:=fun D σ H=>∃ W:Nat→St→Hp→Prop,(∃ m,W m σ H)∧∀ m σ H,W m σ H →
  c σ H fun b H1=>if b=true then ∃ N:St→Hp→Prop,(∀ σ' H',N σ' H'→∃ m',m' < m∧W m' σ' H')∧tb { D with nx:=N,ct:=N,bk:=D.nx } σ H1 else D.nx σ H1
theorem ps_while {c:Expr} {body:List Stmt} {tc:TT} {tb:TS} (hp:PassesOwn (model X.prog X.w) X.A X.env X.xe) (hc:PT X c tc) (hb:PSs X body tb):PS X (.While c body [] pos) (tWhile tc tb):=by
  intro pins s σ H D I h
  obtain ⟨W,⟨m0,w0⟩,turn⟩:=h
  refine wpAny_While (codeAny_whileLoop (fun n s'=>∃ σ' H',Inv X pins σ' H' s'∧W n σ' H') ?_ m0 ⟨σ,H,I,w0⟩)
  rintro n s1 ⟨σ1,H1,I1,w1⟩
  refine wpAny_passesOwn hp (thn (hc pins s1 σ1 H1 _ I1 (turn n σ1 H1 w1)) fun b s2 ⟨H2,I2,q2⟩=>?_)
  cases b with
  | true =>
    obtain ⟨N,hN,q2⟩:=q2
    rw [if_pos rfl]
    refine wpAny_passesOwn hp (thn (hb pins s2 σ1 H2 _ I2 q2) fun f s3 q3=>?_)
    cases f with
    | next =>
      obtain ⟨σ3,H3,I3,n3⟩:=q3
      obtain ⟨m',hm,w3⟩:=hN σ3 H3 n3
      exact ⟨m',hm,σ3,H3,I3,w3⟩
    | cont =>
      obtain ⟨σ3,H3,I3,n3⟩:=q3
      obtain ⟨m',hm,w3⟩:=hN σ3 H3 n3
      exact ⟨m',hm,σ3,H3,I3,w3⟩
    | brk=>exact q3
    | ret v=>exact q3
  | false =>
    rw [if_neg Bool.false_ne_true]
    exact wpAny_execs_nil ⟨σ1,H2,I2,q2⟩
end

structure It where
  go:Nat→Hp→Prop
  yld:Nat→Hp→V→Hp→Prop
  stop:Nat→Hp→Prop
def FpOk (X:Cx) (pins:List (Addr × Obj)) (H:Hp) (b:Addr):Prop :=
  H b=none∧b ≠ X.env.locals∧b ∉ X.fs∧(b ∈ X.ex ∨ X.s₀.heap.objs.size≤b)∧(∀ x c,X.env.cells.lookup x=some c→c ≠ b)∧∀ p ∈ X.pn++pins,p.1 ≠ b
theorem Inv.fpOk {X:Cx} {pins:List (Addr × Obj)} {σ:St} {H H':Hp} {s:Shared} {b:Addr} (I:Inv X pins σ H s) (hb:s.heap.objs.size≤b) (hn:H' b=none):FpOk X pins H' b:=by
  refine ⟨hn,Nat.ne_of_gt (Nat.lt_of_lt_of_le I.lt hb),I.nofs hb,.inr (Nat.le_trans I.sz hb),fun x c e z=>?_,fun p hp z=>?_⟩
  · obtain ⟨v,q⟩:=I.cell x c e
    exact absurd (Nat.lt_of_lt_of_le q.lt (by rw [z]; exact hb)) (Nat.lt_irrefl _)
  · exact absurd (Nat.lt_of_lt_of_le (Heap.lt_size (I.pin p hp).1) (by rw [z]; exact hb)) (Nat.lt_irrefl _)
structure Turn (P:Program) (w:World) (K:PySem.W.Frag) (tg:Expr) (J:It) (fp:List Addr) (it:Addr) (tn:Nat→Heap→Prop):Prop where
  mem:it ∈ fp
  obj:∀ i h,tn i h→∀ b ∈ fp,∃ o,h.get? b=some o∧∀ v,o.data ≠ .cell v
  keep:∀ i h h',tn i h→(∀ b ∈ fp,∀ o,h.get? b=some o→h'.get? b=some o)→tn i h'
  item:∀ (X:Cx),X.prog=P→X.w=w→X.K=K→X.calm=true→∀ (i:Nat) (pins:List (Addr × Obj)) (s:Shared) (σ:St) (H:Hp) (E:Value→Shared→Prop),Inv X pins σ H s→(∀ b ∈ fp,FpOk X pins H b)→tn i s.heap→J.go i H →
    wpAny (model P w) X.A (pyNext (.ref it)) (fun r s1=>∃ u,r=some u ∧
      wpAny (model P w) X.A (letOwnedTupleGo tg (.ref it) u) (fun _ s2=>∃ x H',Inv X pins σ H' s2∧RelV x u∧J.yld i H x H'∧tn (i + 1) s2.heap∧∀ b ∈ fp,H' b=none) E s1) E s
  done:∀ (X:Cx),X.prog=P→X.w=w→X.K=K→X.calm=true→∀ (i:Nat) (pins:List (Addr × Obj)) (s:Shared) (σ:St) (H:Hp) (E:Value→Shared→Prop),Inv X pins σ H s→(∀ b ∈ fp,FpOk X pins H b)→tn i s.heap→J.stop i H →
    wpAny (model P w) X.A (pyNext (.ref it)) (fun r s1=>r=none∧Inv X pins σ H s1) E s
  self:∀ (A:Around) (i:Nat) (s:Shared) (Q:Value→Shared→Prop) (E:Value→Shared→Prop),tn i s.heap→Q (.ref it) s→wpAny (model P w) A (pyIter (.ref it)) Q E s
abbrev TI:=St→Hp→(It→Hp→Prop)→Prop
def PIE (X:Cx) (pins:List (Addr × Obj)) (σ:St) (tg:Expr) (R:It→Hp→Prop) (itv:Value) (s2:Shared):Prop :=
  ∃ (it:Addr) (fp:List Addr) (tn:Nat→Heap→Prop) (J:It) (H':Hp),itv=.ref it∧Inv X pins σ H' s2∧Turn X.prog X.w X.K tg J fp it tn∧tn 0 s2.heap∧(∀ b ∈ fp,FpOk X pins H' b)∧R J H'
def PI (X:Cx) (tg iter:Expr) (wi:TI):Prop :=
  ∀ (pins:List (Addr × Obj)) (s:Shared) (σ:St) (H:Hp) (R:It→Hp→Prop),Inv X pins σ H s→wi σ H R →
    wpAny (model X.prog X.w) X.A (eval iter X.env) (fun v s1=>wpAny (model X.prog X.w) X.A (pyIter v) (PIE X pins σ tg R) X.xe s1) X.xe s

theorem go_of {M:Model} {A:Around} {E:Value→Shared→Prop} {s:Shared} {tg:Expr} {it:Addr} {u:Value} {o:Obj} {n:String} {vs:Array Value} {Q:Unit→Shared→Prop} (ho:s.heap.get? it=some o) (hc:o.cls=.type n) (hd:o.data=.fields vs)
    (hn:["enumerate","zip","dict_itemiterator","dict_reverseitemiterator","odict_iterator","itertools.zip_longest","itertools.pairwise"].contains n=false) (hQ:Q () s):wpAny M A (letOwnedTupleGo tg (.ref it) u) Q E s:=by
  unfold letOwnedTupleGo
  cases tg <;> first
    | exact wpAny_pure hQ
    | (cases u <;> first
        | exact wpAny_pure hQ
        | (refine wpAny_bind (wpAny_load ho ?_)
           rw [hc,hd]
           show wpAny M A (if (["enumerate","zip","dict_itemiterator","dict_reverseitemiterator","odict_iterator","itertools.zip_longest","itertools.pairwise"].contains n && vs[0]? == some (rawInt _))=true then _ else _) Q E s
           rw [if_neg (by intro h; rw [hn,Bool.false_and] at h; cases h)]
           exact wpAny_pure hQ))

def Itl (K:PySem.W.Frag) (a:Addr):It :=
  ⟨fun i H=>∃ xs x,SqL K H a xs∧xs[i]?=some x,fun i H x H'=>H'=H∧∀ xs,SqL K H a xs→xs[i]?=some x,fun i H=>∃ xs,SqL K H a xs∧xs.length≤i⟩
def Itt (K:PySem.W.Frag) (a:Addr):It :=
  ⟨fun i H=>∃ xs x,SqT K H a xs∧xs[i]?=some x,fun i H x H'=>H'=H∧∀ xs,SqT K H a xs→xs[i]?=some x,fun i H=>∃ xs,SqT K H a xs∧xs.length≤i⟩
def Itr (lo:Int) (n:Nat):It:=⟨fun i _=>i < n,fun i H x H'=>H'=H∧x=.int (lo + i),fun i _=>n≤i⟩
theorem turn_list {P:Program} {w:World} {K:PySem.W.Frag} {tg:Expr} (a it:Addr):Turn P w K tg (Itl K a) [it] it (fun i h=>h.IsListIter it a i) where
  mem:=by simp
  obj:=fun i h st b hb=>by
    have e:b=it:=by simpa using hb
    subst e
    obtain ⟨o,e,c,d⟩:=st
    exact ⟨o,e,fun v z=>by rw [d] at z; cases z⟩
  keep:=fun i h h' st k=>st.at fun o e=>k it (by simp) o e
  item:=by
    intro X hP hw hK hc i pins s σ H E I hf st hg
    subst hP hw hK
    obtain ⟨xs,x,hq,hx⟩:=hg
    obtain ⟨its,rv,p,hz⟩:=I.list hq
    obtain ⟨u,hu,ru⟩:=rv.get hx
    obtain ⟨f0,f1,f2,f3,f4,f5⟩:=hf it (by simp)
    refine wpAny_pyNext_list_item st p.isList (x:=u) (by simpa using hu) fun h' st' sb=>?_
    have I1:Inv X pins σ H { s with heap:=h' }:=I.turned (t':=s.toks) (fun b o hb e=>(sb.2 b hb).trans e) f0 f1 f3 f4 f5
    obtain ⟨o,e,c,d⟩:=id st'
    exact ⟨u,rfl,go_of (s:={ s with heap:=h' }) e c d (by decide) ⟨x,H,I1,ru,⟨rfl,fun ys hy=>by rw [I.list_inj hy hq]; exact hx⟩,st',fun b hb=>(hf b hb).1⟩⟩
  done:=by
    intro X hP hw hK hc i pins s σ H E I hf st hg
    subst hP hw hK
    obtain ⟨xs,hq,hx⟩:=hg
    obtain ⟨its,rv,p,hz⟩:=I.list hq
    obtain ⟨f0,f1,f2,f3,f4,f5⟩:=hf it (by simp)
    have hl:=rv.length
    exact wpAny_pyNext_list_end (I.ok.hd hc) st p.isList (by simp; omega) fun h' eb=>⟨rfl,I.turned (t':=s.toks) (fun b o hb e=>eb b o hb e) f0 f1 f3 f4 f5⟩
  self:=fun _ _ _ _ _ st h=>wpAny_pyIter_listiter st h
theorem turn_tuple {P:Program} {w:World} {K:PySem.W.Frag} {tg:Expr} (a it:Addr):Turn P w K tg (Itt K a) [it] it (fun i h=>h.IsTupleIter it a i) where
  mem:=by simp
  obj:=fun i h st b hb=>by
    have e:b=it:=by simpa using hb
    subst e
    obtain ⟨o,e,c,d⟩:=st
    exact ⟨o,e,fun v z=>by rw [d] at z; cases z⟩
  keep:=fun i h h' st k=>st.at fun o e=>k it (by simp) o e
  item:=by
    intro X hP hw hK hc i pins s σ H E I hf st hg
    subst hP hw hK
    obtain ⟨xs,x,hq,hx⟩:=hg
    obtain ⟨its,rv,p,hz⟩:=I.tuple hq
    obtain ⟨u,hu,ru⟩:=rv.get hx
    obtain ⟨f0,f1,f2,f3,f4,f5⟩:=hf it (by simp)
    refine wpAny_pyNext_tuple_item st (show s.heap.IsTuple a its.toArray from p) (x:=u) (by simpa using hu) fun h' st' sb=>?_
    have I1:Inv X pins σ H { s with heap:=h' }:=I.turned (t':=s.toks) (fun b o hb e=>(sb.2 b hb).trans e) f0 f1 f3 f4 f5
    obtain ⟨o,e,c,d⟩:=id st'
    exact ⟨u,rfl,go_of (s:={ s with heap:=h' }) e c d (by decide) ⟨x,H,I1,ru,⟨rfl,fun ys hy=>by rw [I.tuple_inj hy hq]; exact hx⟩,st',fun b hb=>(hf b hb).1⟩⟩
  done:=by
    intro X hP hw hK hc i pins s σ H E I hf st hg
    subst hP hw hK
    obtain ⟨xs,hq,hx⟩:=hg
    obtain ⟨its,rv,p,hz⟩:=I.tuple hq
    obtain ⟨f0,f1,f2,f3,f4,f5⟩:=hf it (by simp)
    have hl:=rv.length
    exact wpAny_pyNext_tuple_end (I.ok.hd hc) st (show s.heap.IsTuple a its.toArray from p) (by simp; omega) fun h' eb=>⟨rfl,I.turned (t':=s.toks) (fun b o hb e=>eb b o hb e) f0 f1 f3 f4 f5⟩
  self:=fun _ _ _ _ _ st h=>wpAny_pyIter_tupleiter st h
theorem turn_range {P:Program} {w:World} {K:PySem.W.Frag} {tg:Expr} (it:Addr) (lo:Int) (n:Nat):Turn P w K tg (Itr lo n) [it] it (fun i h=>IsRangeIter h it (lo + (i:Nat) * 1) ((n:Int) - (i:Nat)) 1) where
  mem:=by simp
  obj:=fun i h st b hb=>by
    have e:b=it:=by simpa using hb
    subst e
    exact ⟨_,st,fun v z=>by
      have z':Data.fields _=Data.cell v:=z
      cases z'⟩
  keep:=fun i h h' st k=>k it (by simp) _ st
  item:=by
    intro X hP hw hK hc i pins s σ H E I hf st hg
    subst hP hw hK
    obtain ⟨f0,f1,f2,f3,f4,f5⟩:=hf it (by simp)
    have W:=Walks.range (prog:=X.prog) (w:=X.w) (I.ok.hd hc) it lo 1 n
    refine W.item i s _ _ hg st fun v h' tk hv st' kk=>?_
    obtain ⟨t,rfl⟩:=hv
    have I1:Inv X pins σ H { s with heap:=h',toks:=tk }:=I.turned (fun b o hb e=>kk b o (by simpa using hb) e) f0 f1 f3 f4 f5
    refine ⟨_,rfl,go_of (s:={ s with heap:=h',toks:=tk }) (n:="range_iterator") st' rfl rfl (by decide) ⟨.int (lo + i),H,I1,⟨t,?_⟩,⟨rfl,rfl⟩,st',fun b hb=>(hf b hb).1⟩⟩
    rw [Int.mul_one]
  done:=by
    intro X hP hw hK hc i pins s σ H E I hf st hg
    subst hP hw hK
    obtain ⟨f0,f1,f2,f3,f4,f5⟩:=hf it (by simp)
    exact wpAny_pyNext_range_end (I.ok.hd hc) st (by have:n≤i:=hg; omega) fun h' eb=>⟨rfl,I.turned (t':=s.toks) (fun b o hb e=>eb b o hb e) f0 f1 f3 f4 f5⟩
  self:=fun _ _ _ _ _ st h=>wpAny_pyIter_rangeiter st h
end L2

namespace L2
open PySem PySem.Spec PyProof.Rows
section
variable {X:Cx} {tg:Expr}
theorem range_it {pins:List (Addr × Obj)} {σ:St} {H:Hp} {s:Shared} {R:It→Hp→Prop} {E:Value→Shared→Prop} {lo hi:Int} {t u v:Tok} {tk:Nat} (I:Inv X pins σ H s) (h1:-(2 ^ 62)≤lo) (h2:lo < 2 ^ 62) (h3:-(2 ^ 62)≤hi) (h4:hi < 2 ^ 62)
    (q:R (Itr lo (hi - lo).toNat) H):wpAny (model X.prog X.w) X.A (pyIter (.ref s.heap.objs.size)) (PIE X pins σ tg R) E { s with heap:=s.heap.push { cls:=.type "range",data:=.fields #[.int lo t,.int hi u,.int 1 v] },toks:=tk }:=by
  refine wpAny_pyIter_range (IsRange.new ..) (small_one h1 h2 h3 h4) ?_
  have I1:Inv X pins σ H { s with heap:=s.heap.push { cls:=.type "range",data:=.fields #[.int lo t,.int hi u,.int 1 v] },toks:=tk }:=I.kept fun b o e=>Heap.get?_push_of_some _ e
  refine ⟨(s.heap.push { cls:=.type "range",data:=.fields #[.int lo t,.int hi u,.int 1 v] }).objs.size,[(s.heap.push { cls:=.type "range",data:=.fields #[.int lo t,.int hi u,.int 1 v] }).objs.size],_,_,H,rfl,
    I1.kept (t':=tk) fun b o e=>Heap.get?_push_of_some _ e,turn_range _ lo (hi - lo).toNat,?_,fun b hb=>?_,q⟩
  · have e1:lo + ((0:Nat):Int) * 1=lo:=by simp
    have e2:(((hi - lo).toNat:Nat):Int) - ((0:Nat):Int)=Builtin.Range.rangeSize lo hi 1:=by rw [rangeSize_one]; split <;> omega
    show IsRangeIter _ _ (lo + ((0:Nat):Int) * 1) ((((hi - lo).toNat:Nat):Int) - ((0:Nat):Int)) 1
    rw [e1,e2]
    exact Heap.get?_push_size _ rfl
  · have e:b=(s.heap.push { cls:=.type "range",data:=.fields #[.int lo t,.int hi u,.int 1 v] }).objs.size:=by simpa using hb
    subst e
    exact I1.fpOk (Nat.le_refl _) (I1.hok.fresh (Nat.le_refl _))
def iRng1 (ta:TA):TI:=fun σ H R=>ta σ H fun vs H1=>∃ j:Int,vs=[.int j]∧-(2 ^ 62)≤j∧j < 2 ^ 62∧R (Itr 0 j.toNat) H1
theorem pi_range1 {a:Expr} {ta:TA} {p pos:Pos} (hg:Gl X "range") (hm:X.mg "range"=none) (ha:PA X [a] ta) (hs:starEach [a] X.env=[(false,eval a X.env)]:=by rfl):PI X tg (.Call (.Name "range" p) [a] [] pos) (iRng1 ta):=by
  intro pins s σ H R I h
  refine Call_ (ld_blt I hg hm boot_range (PyProof.Rows.callWith_type1 (thn (ha pos pins s σ H _ I h) fun us s1 ⟨vs,H1,I1,r1,q1⟩=>?_) hs rfl))
  obtain ⟨j,e,q1,q2,q⟩:=q1
  subst e
  cases r1 with
  | cons r rr =>
    cases rr
    obtain ⟨t,rfl⟩:=r
    exact call_range_1 (range_it I1 (by omega) (by omega) q1 q2 (by simpa using q))
def tFor (wi:TI) (g:TG) (tb:TS):TS:=fun D σ H=>wi σ H fun J H1=>∃ W:Nat→Nat→St→Hp→Prop,(∃ m,W 0 m σ H1)∧∀ i m σ H,W i m σ H →
  (J.stop i H∧D.nx σ H) ∨ (J.go i H∧∃ N:St→Hp→Prop,(∀ σ' H',N σ' H'→∃ m',m' < m∧W (i + 1) m' σ' H')∧∀ x H',J.yld i H x H'→g x σ H' fun σ2 H2=>tb { D with nx:=N,ct:=N,bk:=D.nx } σ2 H2)
def pinsAt (fp:List Addr) (h:Heap):List (Addr × Obj):=fp.filterMap fun b=>(h.get? b).map fun o=>(b,o)
theorem mem_pinsAt {fp:List Addr} {h:Heap} {b:Addr} {o:Obj} (hb:b ∈ fp) (e:h.get? b=some o):(b,o) ∈ pinsAt fp h:=List.mem_filterMap.mpr ⟨b,hb,by rw [e]; rfl⟩
theorem of_pinsAt {fp:List Addr} {h:Heap} {p:Addr × Obj} (hp:p ∈ pinsAt fp h):p.1 ∈ fp∧h.get? p.1=some p.2:=by
  obtain ⟨b,hb,e⟩:=List.mem_filterMap.mp hp
  cases q:h.get? b with
  | none=>rw [q] at e; cases e
  | some o =>
    rw [q] at e
    have e':(b,o)=p:=Option.some.inj e
    subst e'
    exact ⟨hb,q⟩
theorem Inv.pinned {pins:List (Addr × Obj)} {σ:St} {H:Hp} {s:Shared} {fp:List Addr} (I:Inv X pins σ H s) (hf:∀ b ∈ fp,FpOk X pins H b) (ho:∀ b ∈ fp,∃ o,s.heap.get? b=some o∧∀ v,o.data ≠ .cell v):Inv X (pins++pinsAt fp s.heap) σ H s :=
  I.pins_of fun p hp=>(List.mem_append.mp hp).elim (fun z=>I.pin p (List.mem_append_right _ z)) fun z=>by
    obtain ⟨hb,e⟩:=of_pinsAt z
    obtain ⟨f0,f1,f2,_⟩:=hf p.1 hb
    obtain ⟨o,e',d⟩:=ho p.1 hb
    rw [e] at e'; cases e'
    exact ⟨e,f0,f1,f2,d⟩
theorem Inv.unpinned {pins pl:List (Addr × Obj)} {σ:St} {H:Hp} {s:Shared} (I:Inv X (pins++pl) σ H s):Inv X pins σ H s:=I.pins_of fun p hp=>I.pin p (List.mem_append_right _ (List.mem_append_left _ hp))
theorem ps_for {iter:Expr} {body:List Stmt} {wi:TI} {g:TG} {tb:TS} {pos:Pos} (hp:PassesOwn (model X.prog X.w) X.A X.env X.xe) (hc:X.calm=true) (hi:PI X tg iter wi) (hg:PG X tg g) (hb:PSs X body tb)
    (hs:∀ x,foldedSetIterable iter X.env x=pure x:=by intro _; rfl):PS X (.For tg iter body [] pos) (tFor wi g tb):=by
  intro pins s σ H D I h
  refine wpAny_For (thn (hi pins s σ H _ I h) fun v s1 h1=>thn h1 fun itv s2 h2=>?_) hs
  obtain ⟨it,fp,tn,J,H2,e,I2,T,st2,f2,W,⟨m0,w0⟩,turn⟩:=h2
  subst e
  -- what stays true of the iterator's objects through the loop
  have stat:∀ {H':Hp},(∀ b ∈ fp,H' b=none)→∀ b ∈ fp,FpOk X pins H' b:=fun hn b hb=>⟨hn b hb,(f2 b hb).2⟩
  refine codeAny_forLoop_any (fun n s'=>∃ i σ' H',Inv X pins σ' H' s'∧tn i s'.heap∧(∀ b ∈ fp,H' b=none)∧W i n σ' H') ?_ m0 ⟨0,σ,H2,I2,st2,fun b hb=>(f2 b hb).1,w0⟩
  rintro n s3 ⟨i,σ3,H3,I3,st3,fr3,w3⟩
  rcases turn i n σ3 H3 w3 with ⟨stop,qn⟩ | ⟨go,N,hN,step⟩
  · refine wpAny_passesOwn hp (thn (T.done X rfl rfl rfl hc i pins s3 σ3 H3 X.xe I3 (stat fr3) st3 stop) fun r s4 ⟨hr,I4⟩=>?_)
    subst hr
    exact wpAny_execs_nil ⟨σ3,H3,I4,qn⟩
  · refine wpAny_passesOwn hp (thn (T.item X rfl rfl rfl hc i pins s3 σ3 H3 X.xe I3 (stat fr3) st3 go) fun r s4 ⟨u,hr,h4⟩=>?_)
    subst hr
    refine wpAny_passesOwn hp (thn h4 fun _ s5 ⟨x,H5,I5,r5,y5,st5,fr5⟩=>?_)
    have I5':=I5.pinned (stat fr5) (T.obj _ _ st5)
    refine wpAny_passesOwn hp (thn (hg _ s5 σ3 H5 x u _ I5' r5 (step x H5 y5)) fun _ s6 ⟨σ6,H6,I6,q6⟩=>?_)
    refine wpAny_passesOwn hp (thn (hb _ s6 σ6 H6 _ I6 q6) fun f s7 q7=>?_)
    have again:∀ {σ7:St} {H7:Hp},Inv X (pins++pinsAt fp s5.heap) σ7 H7 s7→N σ7 H7→∃ m,m < n∧∃ i σ' H',Inv X pins σ' H' s7∧tn i s7.heap∧(∀ b ∈ fp,H' b=none)∧W i m σ' H':=fun {σ7 H7} I7 n7=>by
      obtain ⟨m',hm,w7⟩:=hN σ7 H7 n7
      refine ⟨m',hm,i + 1,σ7,H7,I7.unpinned,T.keep _ _ _ st5 fun b hb o e=>(I7.pin (b,o) (List.mem_append_right _ (List.mem_append_right _ (mem_pinsAt hb e)))).1,fun b hb=>?_,w7⟩
      obtain ⟨o,e,d⟩:=T.obj _ _ st5 b hb
      exact (I7.pin (b,o) (List.mem_append_right _ (List.mem_append_right _ (mem_pinsAt hb e)))).2.1
    cases f with
    | next=>obtain ⟨σ7,H7,I7,n7⟩:=q7; exact again I7 n7
    | cont=>obtain ⟨σ7,H7,I7,n7⟩:=q7; exact again I7 n7
    | brk=>obtain ⟨σ7,H7,I7,q7⟩:=q7; exact ⟨σ7,H7,I7.unpinned,q7⟩
    | ret v=>obtain ⟨x7,σ7,H7,I7,r7,q7⟩:=q7; exact ⟨x7,σ7,H7,I7.unpinned,r7,q7⟩
end

end L2

namespace L2
open PySem PySem.Spec PyProof.Rows

abbrev R2:=V→V→Hp→VK→Prop
def OpR (X:Cx) (f:Value→Value→Sem Value) (r:R2):Prop :=
  ∀ (pins:List (Addr × Obj)) (s:Shared) (σ:St) (H:Hp) (x y:V) (v u:Value) (Q:VK),Inv X pins σ H s→RelV x v→RelV y u→r x y H Q →
    wpAny (model X.prog X.w) X.A (f v u) (EP X pins σ Q) X.xe s
def UnR (X:Cx) (f:Value→Sem Value) (r:V→Hp→VK→Prop):Prop :=
  ∀ (pins:List (Addr × Obj)) (s:Shared) (σ:St) (H:Hp) (x:V) (v:Value) (Q:VK),Inv X pins σ H s→RelV x v→r x H Q →
    wpAny (model X.prog X.w) X.A (f v) (EP X pins σ Q) X.xe s
def CallR (X:Cx) (f:Value) (r:List V→Hp→VK→Prop):Prop :=
  ∀ (pins:List (Addr × Obj)) (s:Shared) (σ:St) (H:Hp) (xs:List V) (us:List Value) (Q:VK),Inv X pins σ H s→Vals xs us→r xs H Q →
    wpAny (model X.prog X.w) X.A (call f us) (EP X pins σ Q) X.xe s
def tOp (r:R2) (ta tb:TE):TE:=fun σ H Q=>ta σ H fun x H1=>tb σ H1 fun y H2=>r x y H2 Q
def tUn (r:V→Hp→VK→Prop) (ta:TE):TE:=fun σ H Q=>ta σ H fun x H1=>r x H1 Q
def rI (C:Int→Int→Prop) (g:Int→Int→V):R2:=fun x y H Q=>∃ i j,x=.int i∧y=.int j∧C i j∧Q (g i j) H
def rI0 (g:Int→Int→V):R2:=fun x y H Q=>∃ i j,x=.int i∧y=.int j∧Q (g i j) H
def rU (g:Int→V):V→Hp→VK→Prop:=fun x H Q=>∃ i,x=.int i∧Q (g i) H

section
variable {X:Cx} {a b c:Expr} {ta tb tc:TE} {pos:Pos}

theorem binT (ha:PE X a ta) (hb:PE X b tb) {pins:List (Addr × Obj)} {s:Shared} {σ:St} {H:Hp} {R:V→V→Hp→Prop} (I:Inv X pins σ H s)
    (h:ta σ H fun x H1=>tb σ H1 fun y H2=>R x y H2) {Q:Value→Shared→Prop} {f:Value→Value→Sem Value}
    (hf:∀ v u s2 x y H2,Inv X pins σ H2 s2→RelV x v→RelV y u→R x y H2→wpAny (model X.prog X.w) X.A (f v u) Q X.xe s2) :
    wpAny (model X.prog X.w) X.A (eval a X.env) (fun v s₁=>wpAny (model X.prog X.w) X.A (eval b X.env) (fun u s₂=>wpAny (model X.prog X.w) X.A (f v u) Q X.xe s₂) X.xe s₁) X.xe s:=by
  refine thn (ha pins s σ H _ I h) fun v s1 ⟨x,H1,I1,r1,q1⟩=>?_
  refine thn (hb pins s1 σ H1 _ I1 q1) fun u s2 ⟨y,H2,I2,r2,q2⟩=>?_
  exact hf v u s2 x y H2 I2 r1 r2 q2

theorem pe_op {op:Operator} {r:R2} (ho:OpR X (binaryOp op) r) (ha:PE X a ta) (hb:PE X b tb):PE X (.BinOp a op b pos) (tOp r ta tb):=by
  intro pins s σ H Q I h
  exact wpAny_BinOp (binT ha hb I h fun v u s2 x y H2 I2 rx ry q=>ho pins s2 σ H2 x y v u Q I2 rx ry q)
theorem pe_un {op:UnaryOp} {r:V→Hp→VK→Prop} (ho:UnR X (unaryOp op) r) (ha:PE X a ta):PE X (.UnaryOp op a pos) (tUn r ta):=by
  intro pins s σ H Q I h
  exact UnaryOp_ (thn (ha pins s σ H _ I h) fun v s1 ⟨x,H1,I1,r1,q1⟩=>ho pins s1 σ H1 x v Q I1 r1 q1)
theorem opI {f:Value→Value→Sem Value} {C:Int→Int→Prop} {g:Int→Int→Int}
    (rule:∀ (i j:Int) (t u:Tok) (s:Shared) (Q:Value→Shared→Prop) (E:Value→Shared→Prop),C i j→Q (.int (g i j) s.toks) { s with toks:=s.toks + 1 }→wpAny (model X.prog X.w) X.A (f (.int i t) (.int j u)) Q E s) :
    OpR X f (rI C fun i j=>.int (g i j)):=by
  intro pins s σ H x y v u Q I rx ry h
  obtain ⟨i,j,rfl,rfl,hc,q⟩:=h
  obtain ⟨t,rfl⟩:=rx
  obtain ⟨t',rfl⟩:=ry
  exact rule i j t t' s _ _ hc ⟨.int (g i j),H,I.tok _,⟨_,rfl⟩,q⟩
theorem opI0 {f:Value→Value→Sem Value} {g:Int→Int→Int}
    (rule:∀ (i j:Int) (t u:Tok) (s:Shared) (Q:Value→Shared→Prop) (E:Value→Shared→Prop),Q (.int (g i j) s.toks) { s with toks:=s.toks + 1 }→wpAny (model X.prog X.w) X.A (f (.int i t) (.int j u)) Q E s) :
    OpR X f (rI0 fun i j=>.int (g i j)):=by
  intro pins s σ H x y v u Q I rx ry h
  obtain ⟨i,j,rfl,rfl,q⟩:=h
  obtain ⟨t,rfl⟩:=rx
  obtain ⟨t',rfl⟩:=ry
  exact rule i j t t' s _ _ ⟨.int (g i j),H,I.tok _,⟨_,rfl⟩,q⟩
theorem opB0 {f:Value→Value→Sem Value} {g:Int→Int→Bool}
    (rule:∀ (i j:Int) (t u:Tok) (s:Shared) (Q:Value→Shared→Prop) (E:Value→Shared→Prop),Q (.bool (g i j)) s→wpAny (model X.prog X.w) X.A (f (.int i t) (.int j u)) Q E s) :
    OpR X f (rI0 fun i j=>.bl (g i j)):=by
  intro pins s σ H x y v u Q I rx ry h
  obtain ⟨i,j,rfl,rfl,q⟩:=h
  obtain ⟨t,rfl⟩:=rx
  obtain ⟨t',rfl⟩:=ry
  exact rule i j t t' s _ _ ⟨.bl (g i j),H,I,rfl,q⟩

def CDiv (i j:Int):Prop:=0 < j∧j < 1073741824
def CPow (i j:Int):Prop:=0≤j∧j≤1000000∧i.natAbs < 2 ^ 64
def CMul (i j:Int):Prop:=(-(2 ^ 64) < i∧i < 2 ^ 64) ∨ (-(2 ^ 64) < j∧j < 2 ^ 64)
theorem CMul.ok {i j:Int} (h:CMul i j):IntMulOk i j:=by
  rcases h with ⟨h1,h2⟩ | ⟨h1,h2⟩
  · exact .of_left (intBits_le_64 h1 h2)
  · exact .of_right (intBits_le_64 h1 h2)
theorem op_add:OpR X (binaryOp .Add) (rI0 fun i j=>.int (i + j)):=opI0 fun _ _ _ _ _ _ _ q=>add_int q
theorem op_sub:OpR X (binaryOp .Sub) (rI0 fun i j=>.int (i - j)):=opI0 fun _ _ _ _ _ _ _ q=>sub_int q
theorem op_mul:OpR X (binaryOp .Mult) (rI CMul fun i j=>.int (i * j)):=opI fun _ _ _ _ _ _ _ hc q=>mul_int q hc.ok
theorem op_fdiv:OpR X (binaryOp .FloorDiv) (rI CDiv fun i j=>.int (i / j)):=opI fun i j _ _ _ _ _ hc q=>by
  have h1:(0:Int) < j:=hc.1
  have h2:j < 1073741824:=hc.2
  exact floordiv_int (by omega) (by rw [Int.fdiv_eq_ediv_of_nonneg i (by omega)]; exact q) (.inl (PyProof.noPylong_small (by omega)))
theorem op_mod:OpR X (binaryOp .Mod) (rI (fun _ j=>0 < j) fun i j=>.int (i % j)):=opI fun i j _ _ _ _ _ hc q=>by
  have h1:(0:Int) < j:=hc
  exact mod_int' (by omega) (by rw [Int.fmod_eq_emod_of_nonneg i (by omega)]; exact q)
theorem op_pow:OpR X (binaryOp .Pow) (rI CPow fun i j=>.int (i ^ j.toNat)):=opI fun _ _ _ _ _ _ _ hc q=>pow_int_small hc.1 hc.2.1 hc.2.2 q
theorem unI {f:Value→Sem Value} {g:Int→Int}
    (rule:∀ (i:Int) (t:Tok) (s:Shared) (Q:Value→Shared→Prop) (E:Value→Shared→Prop),Q (.int (g i) s.toks) { s with toks:=s.toks + 1 }→wpAny (model X.prog X.w) X.A (f (.int i t)) Q E s) :
    UnR X f (rU fun i=>.int (g i)):=by
  intro pins s σ H x v Q I rx h
  obtain ⟨i,rfl,q⟩:=h
  obtain ⟨t,rfl⟩:=rx
  exact rule i t s _ _ ⟨.int (g i),H,I.tok _,⟨_,rfl⟩,q⟩
theorem un_neg:UnR X (unaryOp .USub) (rU fun i=>.int (-i)):=unI fun _ _ _ _ _ q=>neg_int q
end

def scal:V→V→Bool
  | .non,.non=>true | .non,.int _=>true | .int _,.non=>true | .non,.bl _=>true | .bl _,.non=>true | .non,.str _=>true | .str _,.non=>true
  | .int _,.int _=>true | .bl _,.bl _=>true | .str _,.str _=>true | .byt _,.byt _=>true
  | .int _,.str _=>true | .str _,.int _=>true | .bl _,.str _=>true | .str _,.bl _=>true
  | _,_=>false
def rEq:R2:=fun x y H Q=>scal x y=true∧Q (.bl (decide (x=y))) H
def rNe:R2:=fun x y H Q=>scal x y=true∧Q (.bl (!decide (x=y))) H

theorem dec_int {i j:Int}:decide (V.int i=V.int j)=(i == j):=by
  rw [Bool.eq_iff_iff]
  simp
theorem dec_bl {i j:Bool}:decide (V.bl i=V.bl j)=(i == j):=by
  rw [Bool.eq_iff_iff]
  simp
theorem dec_str {i j:Str}:decide (V.str i=V.str j)=(i == j):=by
  rw [Bool.eq_iff_iff]
  simp
theorem dec_byt {i j:Array UInt8}:decide (V.byt i=V.byt j)=(i.toList == j.toList):=by
  rw [Bool.eq_iff_iff]
  cases i
  cases j
  simp

section
variable {X:Cx} {a b c:Expr} {ta tb tc:TE} {pos:Pos}
theorem fin_bl {pins:List (Addr × Obj)} {σ:St} {H:Hp} {s:Shared} {Q:VK} {k k':Bool} (I:Inv X pins σ H s) (q:Q (.bl k) H) (e:k=k'):EP X pins σ Q (.bool k') s:=by
  subst e
  exact ⟨.bl k,H,I,rfl,q⟩
theorem op_eq:OpR X (compareOp .Eq) rEq:=by
  intro pins s σ H x y v u Q I rx ry h
  obtain ⟨hs,q⟩:=h
  cases x with
  | non =>
    cases rx
    cases y with
    | non=>cases ry; exact PySem.EqNone.eq_none_none (fin_bl I q (by simp))
    | bl j=>cases ry; exact PySem.EqNone.eq_none_bool (fin_bl I q (by simp))
    | int j=>obtain ⟨t',rfl⟩:=ry; exact PySem.EqNone.eq_none_int (fin_bl I q (by simp))
    | str j=>obtain ⟨t',rfl⟩:=ry; exact PySem.EqNone.eq_none_str (fin_bl I q (by simp))
    | _=>exact absurd (show false=true from hs) Bool.false_ne_true
  | bl i =>
    cases rx
    cases y with
    | non=>cases ry; exact PySem.EqNone.eq_bool_none (fin_bl I q (by simp))
    | bl j=>cases ry; exact eq_bool (fin_bl I q dec_bl)
    | str j=>obtain ⟨t',rfl⟩:=ry; exact PySem.EqMixed.eq_bool_str (fin_bl I q (by simp))
    | _=>exact absurd (show false=true from hs) Bool.false_ne_true
  | int i =>
    obtain ⟨t,rfl⟩:=rx
    cases y with
    | non=>cases ry; exact PySem.EqNone.eq_int_none (fin_bl I q (by simp))
    | int j=>obtain ⟨t',rfl⟩:=ry; exact eq_int (fin_bl I q dec_int)
    | str j=>obtain ⟨t',rfl⟩:=ry; exact PySem.EqMixed.eq_int_str (fin_bl I q (by simp))
    | _=>exact absurd (show false=true from hs) Bool.false_ne_true
  | str i =>
    obtain ⟨t,rfl⟩:=rx
    cases y with
    | non=>cases ry; exact PySem.EqNone.eq_str_none (fin_bl I q (by simp))
    | bl j=>cases ry; exact PySem.EqMixed.eq_str_bool (fin_bl I q (by simp))
    | int j=>obtain ⟨t',rfl⟩:=ry; exact PySem.EqMixed.eq_str_int (fin_bl I q (by simp))
    | str j=>obtain ⟨t',rfl⟩:=ry; exact eq_str (fin_bl I q dec_str)
    | _=>exact absurd (show false=true from hs) Bool.false_ne_true
  | byt i =>
    obtain ⟨t,rfl⟩:=rx
    cases y with
    | byt j=>obtain ⟨t',rfl⟩:=ry; exact PySem.W.eq_bytes (fin_bl I q dec_byt)
    | _=>exact absurd (show false=true from hs) Bool.false_ne_true
  | _=>cases y <;> exact absurd (show false=true from hs) Bool.false_ne_true
theorem op_ne:OpR X (compareOp .NotEq) rNe:=by
  intro pins s σ H x y v u Q I rx ry h
  obtain ⟨hs,q⟩:=h
  cases x with
  | non =>
    cases rx
    cases y with
    | non=>cases ry; exact PySem.EqNone.ne_none_none (fin_bl I q (by simp))
    | bl j=>cases ry; exact PySem.EqNone.ne_none_bool (fin_bl I q (by simp))
    | int j=>obtain ⟨t',rfl⟩:=ry; exact PySem.EqNone.ne_none_int (fin_bl I q (by simp))
    | str j=>obtain ⟨t',rfl⟩:=ry; exact PySem.EqNone.ne_none_str (fin_bl I q (by simp))
    | _=>exact absurd (show false=true from hs) Bool.false_ne_true
  | bl i =>
    cases rx
    cases y with
    | non=>cases ry; exact PySem.EqNone.ne_bool_none (fin_bl I q (by simp))
    | bl j=>cases ry; exact ne_bool (fin_bl I q (congrArg not dec_bl))
    | str j=>obtain ⟨t',rfl⟩:=ry; exact PySem.EqMixed.ne_bool_str (fin_bl I q (by simp))
    | _=>exact absurd (show false=true from hs) Bool.false_ne_true
  | int i =>
    obtain ⟨t,rfl⟩:=rx
    cases y with
    | non=>cases ry; exact PySem.EqNone.ne_int_none (fin_bl I q (by simp))
    | int j=>obtain ⟨t',rfl⟩:=ry; exact ne_int (fin_bl I q (congrArg not dec_int))
    | str j=>obtain ⟨t',rfl⟩:=ry; exact PySem.EqMixed.ne_int_str (fin_bl I q (by simp))
    | _=>exact absurd (show false=true from hs) Bool.false_ne_true
  | str i =>
    obtain ⟨t,rfl⟩:=rx
    cases y with
    | non=>cases ry; exact PySem.EqNone.ne_str_none (fin_bl I q (by simp))
    | bl j=>cases ry; exact PySem.EqMixed.ne_str_bool (fin_bl I q (by simp))
    | int j=>obtain ⟨t',rfl⟩:=ry; exact PySem.EqMixed.ne_str_int (fin_bl I q (by simp))
    | str j=>obtain ⟨t',rfl⟩:=ry; exact ne_str (fin_bl I q (congrArg not dec_str))
    | _=>exact absurd (show false=true from hs) Bool.false_ne_true
  | byt i =>
    obtain ⟨t,rfl⟩:=rx
    cases y with
    | byt j=>obtain ⟨t',rfl⟩:=ry; exact PySem.W.ne_bytes (fin_bl I q (congrArg not dec_byt))
    | _=>exact absurd (show false=true from hs) Bool.false_ne_true
  | _=>cases y <;> exact absurd (show false=true from hs) Bool.false_ne_true

theorem op_lt:OpR X (compareOp .Lt) (rI0 fun i j=>.bl (decide (i < j))):=opB0 fun _ _ _ _ _ _ _ q=>lt_int q
theorem op_gt:OpR X (compareOp .Gt) (rI0 fun i j=>.bl (decide (j < i))):=opB0 fun _ _ _ _ _ _ _ q=>gt_int q
theorem op_in_str:OpR X (compareOp .In) (fun x y H Q=>∃ i j,x=.str i∧y=.str j∧Q (.bl (!(Builtin.Str.occurrences j i 0 j.length 1).isEmpty)) H):=by
  intro pins s σ H x y v u Q I rx ry h
  obtain ⟨i,j,rfl,rfl,q⟩:=h
  obtain ⟨t,rfl⟩:=rx
  obtain ⟨t',rfl⟩:=ry
  exact in_str (fin_bl I q rfl)

theorem op_isN:OpR X (compareOp .Is) (fun x y H Q=>y=.non∧Q (.bl (decide (x=.non))) H):=by
  intro pins s σ H x y v u Q I rx ry h
  obtain ⟨rfl,q⟩:=h
  cases ry
  refine is_none_gen (fin_bl I q ?_)
  cases x <;> first
    | (cases rx; rfl)
    | (obtain ⟨t,rfl⟩:=rx; rfl)
theorem op_notN:OpR X (compareOp .IsNot) (fun x y H Q=>y=.non∧Q (.bl (!decide (x=.non))) H):=by
  intro pins s σ H x y v u Q I rx ry h
  obtain ⟨rfl,q⟩:=h
  cases ry
  refine isnot_none_gen (fin_bl I q ?_)
  cases x <;> first
    | (cases rx; rfl)
    | (obtain ⟨t,rfl⟩:=rx; rfl)

theorem OpR.or {f:Value→Value→Sem Value} {r r':R2} (h:OpR X f r) (h':OpR X f r'):OpR X f (fun x y H Q=>r x y H Q ∨ r' x y H Q):=by
  intro pins s σ H x y v u Q I rx ry q
  rcases q with q | q
  · exact h pins s σ H x y v u Q I rx ry q
  · exact h' pins s σ H x y v u Q I rx ry q

theorem nomark (b:Expr) {op:CmpOp} (h:op ≠ .In:=by decide) (h2:op ≠ .NotIn:=by decide):behindInMarks op b=false:=by
  have e1:(op == CmpOp.In)=false:=by cases op <;> first | rfl | exact absurd rfl h
  have e2:(op == CmpOp.NotIn)=false:=by cases op <;> first | rfl | exact absurd rfl h2
  cases b <;> simp [behindInMarks,e1,e2]
theorem pe_cmpR {op:CmpOp} {r:R2} (ho:OpR X (compareOp op) r) (ha:PE X a ta) (hb:PE X b tb) (hm:behindInMarks op b=false):PE X (.Compare a [op] [b] pos) (tOp r ta tb):=by
  intro pins s σ H Q I h
  exact wpAny_Compare1 (binT ha hb I h fun v u s2 x y H2 I2 rx ry q=>ho pins s2 σ H2 x y v u Q I2 rx ry q) hm
def tTest (t:TE):TT:=fun σ H Q=>t σ H fun x H'=>∃ k,x=.bl k∧Q k H'
theorem pt_cmpR {op:CmpOp} {r:R2} (ho:OpR X (compareOp op) r) (ha:PE X a ta) (hb:PE X b tb) (hm:behindInMarks op b=false):PT X (.Compare a [op] [b] pos) (tTest (tOp r ta tb)):=by
  intro pins s σ H Q I h
  refine wpAny_isTrue_Compare1 (thn (ha pins s σ H _ I h) fun v s1 ⟨x,H1,I1,r1,q1⟩=>thn (hb pins s1 σ H1 _ I1 q1) fun u s2 ⟨y,H2,I2,r2,q2⟩ =>
    thn (ho pins s2 σ H2 x y v u _ I2 r1 r2 q2) fun c s3 ⟨z,H3,I3,r3,k,e,q3⟩=>?_) hm
  subst e
  cases r3
  exact wpAny_truthy_bool ⟨H3,I3,q3⟩
theorem line63:(sizeLine:Nat) < 2 ^ 63:=by rw [sizeLine_eq]; decide
theorem op_add_str:OpR X (binaryOp .Add) (fun x y H Q=>∃ i j,x=.str i∧y=.str j∧i.length + j.length≤sizeLine∧Q (.str (i++j)) H):=by
  intro pins s σ H x y v u Q I rx ry h
  obtain ⟨i,j,rfl,rfl,hz,q⟩:=h
  obtain ⟨t,rfl⟩:=rx
  obtain ⟨t',rfl⟩:=ry
  exact add_str (fun t' tk=>⟨.str (i++j),H,I.tok _,⟨_,rfl⟩,q⟩) hz
theorem vals1 {x:V} {us:List Value} (r:Vals [x] us):∃ u,us=[u]∧RelV x u:=by
  cases r with
  | cons r1 r2=>cases r2; exact ⟨_,rfl,r1⟩
theorem vals2 {x y:V} {us:List Value} (r:Vals [x,y] us):∃ u w',us=[u,w']∧RelV x u∧RelV y w':=by
  cases r with
  | cons r1 r2 =>
    cases r2 with
    | cons r3 r4=>cases r4; exact ⟨_,_,rfl,r1,r3⟩
theorem call_max2 (hc:X.calm=true):CallR X (.builtin "max") (fun xs H Q=>∃ i j,xs=[.int i,.int j]∧Q (.int (if j > i then j else i)) H):=by
  intro pins s σ H xs us Q I r h
  obtain ⟨i,j,rfl,q⟩:=h
  obtain ⟨u,w',rfl,⟨t,rfl⟩,⟨t',rfl⟩⟩:=vals2 r
  refine max_two_ints (I.ok.hd hc) fun h' tk k=>⟨_,H,I.kept k,?_,q⟩
  by_cases hj:j > i
  · rw [if_pos hj,if_pos hj]; exact ⟨_,rfl⟩
  · rw [if_neg hj,if_neg hj]; exact ⟨_,rfl⟩
theorem call_min2 (hc:X.calm=true):CallR X (.builtin "min") (fun xs H Q=>∃ i j,xs=[.int i,.int j]∧Q (.int (if j < i then j else i)) H):=by
  intro pins s σ H xs us Q I r h
  obtain ⟨i,j,rfl,q⟩:=h
  obtain ⟨u,w',rfl,⟨t,rfl⟩,⟨t',rfl⟩⟩:=vals2 r
  refine min_two_ints (I.ok.hd hc) fun h' tk k=>⟨_,H,I.kept k,?_,q⟩
  by_cases hj:j < i
  · rw [if_pos hj,if_pos hj]; exact ⟨_,rfl⟩
  · rw [if_neg hj,if_neg hj]; exact ⟨_,rfl⟩
theorem call_int1:CallR X (.type "int") (fun xs H Q=>(∃ i,xs=[.int i]∧Q (.int i) H) ∨ ∃ k,xs=[.bl k]∧Q (.int (if k then 1 else 0)) H):=by
  intro pins s σ H xs us Q I r h
  rcases h with ⟨i,rfl,q⟩ | ⟨k,rfl,q⟩
  · obtain ⟨u,rfl,t,rfl⟩:=vals1 r
    exact call_int_int ⟨.int i,H,I,⟨_,rfl⟩,q⟩
  · obtain ⟨u,rfl,r1⟩:=vals1 r
    cases r1
    exact call_int_bool ⟨.int (if k then 1 else 0),H,I.tok _,⟨_,rfl⟩,q⟩
end
end L2

namespace L2
open PySem PySem.Spec PyProof.Rows

structure ObjM (h:Heap) (x dx C:Addr) (mA:Str→Option Value):Prop where
  obj:h.get? x=some (PySem.W.instObj C dx)
  ns:h.Ns1 dx mA
  ne:dx ≠ x

theorem lookIn_ns {h:Heap} {dx:Addr} {mA:Str→Option Value} (n:h.Ns1 dx mA):∃ od,h.get? dx=some od∧∀ name,PySem.W.lookIn name od=some (mA name):=by
  obtain ⟨o,es,ep,ho,hd,hk,_,hm⟩:=n
  refine ⟨o,ho,fun name=>?_⟩
  have e:=hm name
  unfold nsFind findBy at e
  rw [← Array.find?_toList] at e
  unfold PySem.W.lookIn
  rw [hd]
  dsimp only
  split
  · rename_i y q
    rw [q] at e
    exact congrArg some e
  · rename_i q
    rw [q] at e
    have a:es.toList.any (·.refKey)=false:=by
      rw [List.any_eq_false]
      intro y hy
      obtain ⟨z,t,hkey⟩:=hk y (Array.mem_toList_iff.mp hy)
      simp [DictEntry.refKey,hkey]
    have a':¬ es.toList.any (·.refKey)=true:=by rw [a]; exact Bool.false_ne_true
    rw [if_neg a']
    exact congrArg some e

theorem ObjM.look {h:Heap} {x dx C:Addr} {mA:Str→Option Value} (I:ObjM h x dx C mA):∃ od,PySem.W.InstAt h x (PySem.W.instObj C dx) C (some od)∧∀ name,PySem.W.lookIn name od=some (mA name) :=
  let ⟨od,ho,hl⟩:=lookIn_ns I.ns
  ⟨od,⟨I.obj,rfl,rfl,ho⟩,hl⟩

section
variable {prog:Program} {w:World} {A:Around} {E:Value→Shared→Prop} {s:Shared} {K:PySem.W.Frag} {x dx C f:Addr} {mA:Str→Option Value} {name:Str} {v:Value}

end

theorem RelO.none_of {o:Option Value} (r:RelO none o):o=none:=by
  cases o with
  | none=>rfl
  | some u=>exact (show False from r).elim
section
variable {P:Program} {w:World} {H H':Hp} {h h':Heap} {a C dx:Addr} {fs fs':List (Str × V)}
theorem ins_get (hok:HOk P w H h) (e:H a=some (.ins C dx fs)):∃ mA,ObjM h a dx C mA∧(∀ f,RelO (fs.lookup f) (mA f))∧PySem.Within mA (fs.map (·.1))∧fs.length≤1000∧H dx=some (.own a):=by
  obtain ⟨d,z,ne,ob,mA,n,r,q⟩:=(show ObjOk P w H h a (.ins C dx fs) from hok a _ e)
  exact ⟨mA,⟨ob,n,ne⟩,r,q,z,d⟩
end

structure Cls (K:PySem.W.Frag) (C:Addr):Prop where
  pg:PySem.W.plainGet K C Str.empty=true
  hd:PySem.W.hasDictIn K C=true
  po:PySem.W.plainOver K C=true
  sa:PySem.W.findIn K (.ref C) "__setattr__"=some (some (.builtin "object.__setattr__"))
theorem Cls.get {K:PySem.W.Frag} {C:Addr} (c:Cls K C) (f:Str):PySem.W.plainGet K C f=true:=c.pg
section
variable {X:Cx} {pins:List (Addr × Obj)} {σ:St} {H:Hp} {s:Shared} {a C dx:Addr} {fs:List (Str × V)} {f:Str} {v:V} {A:Around} {E:Value→Shared→Prop}

theorem Inv.made (I:Inv X pins σ H s):Inv X pins σ (upd (upd H s.heap.objs.size (.own (s.heap.objs.size + 1))) (s.heap.objs.size + 1) (.ins C s.heap.objs.size []))
    { s with heap:=(s.heap.push PySem.W.emptyDict).push (PySem.W.instObj C s.heap.objs.size) }:=by
  have e1:(s.heap.push PySem.W.emptyDict).get? s.heap.objs.size=some PySem.W.emptyDict:=Heap.get?_push_size s.heap rfl
  have e2:((s.heap.push PySem.W.emptyDict).push (PySem.W.instObj C s.heap.objs.size)).get? (s.heap.objs.size + 1)=some (PySem.W.instObj C s.heap.objs.size):=by
    have:=Heap.get?_push_size (s.heap.push PySem.W.emptyDict) (o:=PySem.W.instObj C s.heap.objs.size) rfl
    rwa [Heap.size_push] at this
  have e3:(s.heap.push PySem.W.emptyDict).Ns s.heap.objs.size (fun _=>none):=⟨PySem.W.emptyDict,#[],_,e1,rfl,(fun e he=>absurd he (by simp)),fun _=>rfl⟩
  have I1:=I.laid (a:=s.heap.objs.size) (o:=.own (s.heap.objs.size + 1)) (h':=s.heap.push PySem.W.emptyDict) (t':=s.toks) (fun b u q=>Heap.get?_push_of_some _ q) (Nat.le_refl _) ⟨_,e1⟩
  refine I1.laid (a:=s.heap.objs.size + 1) (o:=.ins C s.heap.objs.size []) (t':=s.toks) (fun b u q=>Heap.get?_push_of_some _ q) (Nat.le_of_eq (Heap.size_push _ _)) ?_
  have ne:s.heap.objs.size ≠ s.heap.objs.size + 1:=Nat.ne_of_lt (Nat.lt_succ_self _)
  refine ⟨by rw [upd_ne ne,upd_same],Nat.zero_le _,ne,e2,fun _=>none,(Heap.Ns1.of_empty e3).at fun o q=>Heap.get?_push_of_some _ q,fun _=>True.intro,fun y hy=>absurd rfl hy⟩

end

section
variable {X:Cx} {o e value:Expr} {f:Str} {pos pos' tpos:Pos} {ta tv:TE}
end

section
variable {X:Cx} {pins:List (Addr × Obj)} {σ:St} {H:Hp} {s:Shared} {A:Around} {E:Value→Shared→Prop} {Q:Value→Shared→Prop} {c:Value} {b:Bool}
inductive TyOf (K:PySem.W.Frag) (H:Hp):V→Value→Prop where
  | non:TyOf K H .non (.type "NoneType")
  | bl (x:Bool):TyOf K H (.bl x) (.type "bool")
  | int (i:Int):TyOf K H (.int i) (.type "int")
  | str (x:Str):TyOf K H (.str x) (.type "str")
  | flt (x:UInt64):TyOf K H (.flt x) (.type "float")
  | lst {a:Addr} {xs:List V} (e:H a=some (.lst xs)):TyOf K H (.ref a) (.type "list")
  | frz {a:Addr} {o:Obj} {xs:List V} (e:H a=some (.frz o (.lst xs))):TyOf K H (.ref a) (.type "list")
  | tup {a:Addr} {xs:List V} (e:H a=some (.tup xs)):TyOf K H (.ref a) (.type "tuple")
  | dK {a:Addr} {kvs:List (Key × V)} (e:H a=some (.dK kvs)):TyOf K H (.ref a) (.type "dict")
  | dT {a:Addr} {kvs:List (List Key × V)} (e:H a=some (.dT kvs)):TyOf K H (.ref a) (.type "dict")
  | ins {a C dx:Addr} {fs:List (Str × V)} (e:H a=some (.ins C dx fs)) (cl:Cls K C) (ha:PySem.W.findIn K (.ref C) "__class__"=some (some (.builtin "object.__class__")))
      (hn:PySem.W.specialIn K (.builtin "object.__class__") "__get__"=some (some (.builtin "getset_descriptor.__get__"))) (htk:PySem.W.takesIn K (.builtin "object.__class__")=some true)
      (hm:PySem.W.mroIn K C (.type "object")=some true):TyOf K H (.ref a) (.ref C)
theorem isinst_ok {x:V} {u t:Value} (I:Inv X pins σ H s) (rx:RelV x u) (ty:TyOf X.K H x t) (e:PySem.W.kitOne X.K t c=some b) (h:∀ tk,Q (.bool b) { s with toks:=tk }) :
    wpAny (model X.prog X.w) A (call (.builtin "isinstance") [u,c]) Q E s:=by
  cases ty with
  | non=>cases (show u=Value.none from rx); exact PySem.W.kia_one PySem.W.kitx_none I.kIn True.intro e (fun z=>nomatch z) h
  | bl y=>cases (show u=Value.bool y from rx); exact PySem.W.kia_one PySem.W.kitx_bool I.kIn True.intro e (fun z=>nomatch z) h
  | int i=>obtain ⟨t,q⟩:=(show ∃ t,u=Value.int i t from rx); cases q; exact PySem.W.kia_one PySem.W.kitx_int I.kIn True.intro e (fun z=>nomatch z) h
  | str y=>obtain ⟨t,q⟩:=(show ∃ t,u=Value.str y t from rx); cases q; exact PySem.W.kia_one PySem.W.kitx_str I.kIn True.intro e (fun z=>nomatch z) h
  | flt y=>obtain ⟨t,q⟩:=(show ∃ t,u=Value.float y t from rx); cases q; exact PySem.W.kia_one PySem.W.kitx_float I.kIn True.intro e (fun z=>nomatch z) h
  | @lst a xs ea =>
    cases (show u=Value.ref a from rx)
    obtain ⟨_,_,n,_,h1⟩:=(show ObjOk X.prog X.w H s.heap a (.lst xs) from I.hok a _ ea)
    exact PySem.W.kia_one PySem.W.kitx_list I.kIn ⟨_,h1,rfl⟩ e (fun z=>nomatch z) h
  | @frz a ob xs ea =>
    cases (show u=Value.ref a from rx)
    obtain ⟨_,_,_,n,_,h1⟩:=(show ObjOk X.prog X.w H s.heap a (.frz ob (.lst xs)) from I.hok a _ ea)
    exact PySem.W.kia_one PySem.W.kitx_list I.kIn ⟨_,h1,rfl⟩ e (fun z=>nomatch z) h
  | @tup a xs ea =>
    cases (show u=Value.ref a from rx)
    obtain ⟨_,_,_,p⟩:=(show ObjOk X.prog X.w H s.heap a (.tup xs) from I.hok a _ ea)
    obtain ⟨o,h1,h2,_⟩:=p
    exact PySem.W.kia_one PySem.W.kitx_tuple I.kIn ⟨o,h1,h2⟩ e (fun z=>nomatch z) h
  | @dK a kvs ea =>
    cases (show u=Value.ref a from rx)
    obtain ⟨_,_,vs,_,p⟩:=(show ObjOk X.prog X.w H s.heap a (.dK kvs) from I.hok a _ ea)
    obtain ⟨o,es,ep,h1,h2,_⟩:=p
    exact PySem.W.kia_one PySem.W.kitx_dict I.kIn ⟨o,h1,h2.1⟩ e (fun z=>nomatch z) h
  | @dT a kvs ea =>
    cases (show u=Value.ref a from rx)
    obtain ⟨_,_,xs,_,o,es,ep,h1,h2,_⟩:=(show ObjOk X.prog X.w H s.heap a (.dT kvs) from I.hok a _ ea)
    exact PySem.W.kia_one PySem.W.kitx_dict I.kIn ⟨o,h1,h2.1⟩ e (fun z=>nomatch z) h
  | @ins a C dx fs ea cl ha hn htk hm =>
    cases (show u=Value.ref a from rx)
    obtain ⟨mA,O,_⟩:=ins_get I.hok ea
    obtain ⟨od,J,_⟩:=O.look
    exact PySem.W.kia_one (PySem.W.kitx_own (cl.get _) cl.hd ha hn htk hm) I.kIn J e (fun z=>nomatch z) h
end
end L2

namespace L2
open PySem PySem.Spec PyProof.Rows

structure Room (k:Nat) (A:Around):Prop where
  hd:A.handled=none
  dp:A.depth + 3 * k + 5 < recursionLimit
  un:A.units + 16 * k + 200 < cLine
  gd:A.guards=some []
theorem Room.mono {j k:Nat} {A:Around} (r:Room k A) (h:j≤k):Room j A:=⟨r.hd,by have:=r.dp; omega,by have:=r.un; omega,r.gd⟩
theorem Room.deeper {k:Nat} {A:Around} (r:Room (k + 1) A) (env:Env):Room k (A.deeper env) :=
  ⟨r.hd,by have:=r.dp; show A.depth + 1 + 3 * k + 5 < _; omega,by have:=r.un; show A.units + 3 + 16 * k + 200 < _; omega,r.gd⟩
theorem Room.in1 {k:Nat} {A:Around} (r:Room (k + 1) A):Room k A.in1 :=
  ⟨r.hd,by have:=r.dp; show A.depth + 3 * k + 5 < _; omega,by have:=r.un; show A.units + 1 + 16 * k + 200 < _; omega,r.gd⟩
theorem make_depth {A:Around} {C:Addr} {us:List Value} {kw:List (Str × Value)}:(A.under (.builtin "type.__call__" ⟨.ref C::us,kw⟩)).depth=A.depth + 1:=by
  first | rfl | simp [Around.under,Code.weight,Code.isCreation,Code.isGuard,Code.isCaller,Code.frames,Code.isFrame,guardIds]
theorem make_units {A:Around} {C:Addr} {us:List Value} {kw:List (Str × Value)}:(A.under (.builtin "type.__call__" ⟨.ref C::us,kw⟩)).units=A.units + 1:=by
  first | rfl | simp [Around.under,Code.cUnits,Code.frames,Code.isFrame]
theorem Room.make {k:Nat} {A:Around} (r:Room (k + 1) A) (C:Addr) (us:List Value) (kw:List (Str × Value)):Room k (A.under (.builtin "type.__call__" ⟨.ref C::us,kw⟩)) :=
  ⟨r.hd,by have:=r.dp; rw [make_depth]; omega,by have:=r.un; rw [make_units]; omega,by first | exact r.gd | (simp [Around.under,Code.isGuard,guardIds]; exact r.gd)⟩
theorem Room.depth {k:Nat} {A:Around} (r:Room k A):A.depth < recursionLimit:=by have:=r.dp; omega
theorem Room.units {k:Nat} {A:Around} (r:Room k A):A.units + 64 < cLine:=by have:=r.un; omega
def tNil:TA:=fun _ H Q=>Q [] H
def tCons (ta:TE) (tr:TA):TA:=fun σ H Q=>ta σ H fun x H1=>tr σ H1 fun xs H2=>Q (x::xs) H2
section
variable {X:Cx} {e:Expr} {es:List Expr} {te:TE} {t:TA} {pos:Pos}
theorem pa_nil:PA X [] tNil:=fun _ _ _ _ H Q I h=>Calls.spliced_nil ⟨[],H,I,.nil,h⟩
theorem pa_cons (ha:PE X e te) (hr:PA X es t) (hs:starEach (e::es) X.env=(false,eval e X.env)::starEach es X.env:=by rfl):PA X (e::es) (tCons te t):=by
  intro pos pins s σ H Q I h
  rw [hs]
  show wpAny _ _ (spliced ((false,eval e X.env)::backTo pos (starEach es X.env))) _ _ s
  refine Calls.spliced_cons (thn (ha pins s σ H _ I h) fun u s1 ⟨x,H1,I1,r1,q1⟩=>?_)
  exact thn (hr pos pins s1 σ H1 _ I1 q1) fun us s2 ⟨xs,H2,I2,r2,q2⟩=>⟨x::xs,H2,I2,.cons r1 r2,q2⟩

def tTup (t:TA):TE:=fun σ H Q=>t σ H fun xs H1=>xs.length≤sizeLine∧∀ p,H1 p=none→Q (.ref p) (upd H1 p (.tup xs))
def tLst (t:TA):TE:=fun σ H Q=>t σ H fun xs H1=>xs.length≤sizeLine∧∀ p,H1 p=none→Q (.ref p) (upd H1 p (.lst xs))
theorem pe_tup {x1} (h:PA X es t):PE X (.Tuple es x1 pos) (tTup t):=by
  intro pins s σ H Q I hq
  refine wpAny_Tuple_spliced (thn (h pos pins s σ H _ I hq) fun us s1 ⟨xs,H1,I1,r,z,q⟩=>⟨by rw [← r.length]; exact z,?_⟩)
  have hf:H1 s1.heap.objs.size=none:=I1.hok.fresh (Nat.le_refl _)
  refine ⟨.ref s1.heap.objs.size,upd H1 s1.heap.objs.size (.tup xs),I1.laid (t':=s1.toks) (fun b u e=>Heap.get?_push_of_some _ e) (Nat.le_refl _) ?_,rfl,q _ hf⟩
  exact ⟨z,us,r,⟨_,Heap.get?_push_size _ rfl,rfl,_,rfl,rfl⟩⟩
theorem pe_lst (h:PA X es t):PE X (.List es pos) (tLst t):=by
  intro pins s σ H Q I hq
  refine wpAny_List_spliced (thn (h pos pins s σ H _ I hq) fun us s1 ⟨xs,H1,I1,r,z,q⟩=>⟨by rw [← r.length]; exact z,?_⟩)
  have hf:H1 s1.heap.objs.size=none:=I1.hok.fresh (Nat.le_refl _)
  refine ⟨.ref s1.heap.objs.size,upd H1 s1.heap.objs.size (.lst xs),I1.laid (t':=s1.toks) (fun b u e=>Heap.get?_push_of_some _ e) (Nat.le_refl _) ?_,rfl,q _ hf⟩
  exact ⟨z,us,0,r,Heap.get?_push_size _ rfl⟩
end

abbrev Sp:=List V→Hp→VK→XK→Prop
abbrev CXT:=List Env→Hp→Shared→XK→Value→Shared→Prop

structure Env0 (P:Program) (w:World) (K:PySem.W.Frag) (mg:Str→Option Value) (base:Heap) (A:Around) (outer:List Env) (s:Shared) (H:Hp):Prop where
  frames:A.frames=some outer
  mod:Mod K mg base
  bs:∀ b o,base.get? b=some o→s.heap.get? b=some o∧H b=none
  bsz:base.objs.size≤s.heap.objs.size
  funs:s.heap.FunFrames base outer
  frf:∀ b ∈ frs outer,H b=none
  hok:HOk P w H s.heap
  bare:AllBare s.gens
def CE (outer:List Env) (P:Program) (w:World) (H:Hp) (s:Shared) (Q:VK) (u:Value) (s':Shared):Prop :=
  ∃ v H',s'.os=s.os∧AllBare s'.gens∧Un (frs outer) [] H H' s.heap s'.heap∧HOk P w H' s'.heap∧RelV v u∧Q v H'
def CR (CX:CXT) (outer:List Env) (P:Program) (w:World) (H:Hp) (s:Shared) (Q:VK) (E:XK) (r:Result) (s':Shared):Prop :=
  match r with
  | .ok (.ret u)=>CE outer P w H s Q u s'
  | .ok _=>False
  | .error e=>CX outer H s E e s'
structure FnOk (P:Program) (w:World) (K:PySem.W.Frag) (mg:Str→Option Value) (base:Heap) (CX:CXT) (k:Nat) (f:Addr) (fd:FuncData) (ps:List Str) (sp:Sp):Prop where
  len:∀ vs H Q E,sp vs H Q E→vs.length=ps.length
  run:∀ (A:Around) (outer:List Env) (s:Shared) (H:Hp) (args:Args) (us:List Value) (vs:List V) (Q:VK) (E:XK),Room k A→Env0 P w K mg base A outer s H→BindsTo s fd args (ps.zip us)→Vals vs us→sp vs H Q E →
    codeAny (model P w) A (.call (.ref f) args) (CR CX outer P w H s Q E) s
theorem FnOk.mono {P:Program} {w:World} {K:PySem.W.Frag} {mg:Str→Option Value} {base:Heap} {CX:CXT} {j k:Nat} {f:Addr} {fd:FuncData} {ps:List Str} {sp:Sp} (F:FnOk P w K mg base CX j f fd ps sp) (h:j≤k) :
    FnOk P w K mg base CX k f fd ps sp:=⟨F.len,fun A outer s H args us vs Q E hr=>F.run A outer s H args us vs Q E (hr.mono h)⟩
theorem FnOk.imp {P:Program} {w:World} {K:PySem.W.Frag} {mg:Str→Option Value} {base:Heap} {CX:CXT} {k:Nat} {f:Addr} {fd:FuncData} {ps:List Str} {sp sp':Sp} (F:FnOk P w K mg base CX k f fd ps sp)
    (h:∀ vs H Q E,sp' vs H Q E→sp vs H Q E):FnOk P w K mg base CX k f fd ps sp' :=
  ⟨fun vs H Q E q=>F.len vs H Q E (h _ _ _ _ q),fun A outer s H args us vs Q E hr he hb hv hs=>F.run A outer s H args us vs Q E hr he hb hv (h _ _ _ _ hs)⟩

theorem Env0.make {P:Program} {w:World} {K:PySem.W.Frag} {mg:Str→Option Value} {base:Heap} {A:Around} {outer:List Env} {s:Shared} {H:Hp} (e:Env0 P w K mg base A outer s H) (C:Addr) (us:List Value) (kw:List (Str × Value)) :
    Env0 P w K mg base (A.under (.builtin "type.__call__" ⟨.ref C::us,kw⟩)) outer s H:=⟨by first | exact e.frames | (simpa [Around.under,Code.envs,Code.isFrame,pushEnvs] using e.frames),e.mod,e.bs,e.bsz,e.funs,e.frf,e.hok,e.bare⟩
theorem Env0.in1 {P:Program} {w:World} {K:PySem.W.Frag} {mg:Str→Option Value} {base:Heap} {A:Around} {outer:List Env} {s:Shared} {H:Hp} (e:Env0 P w K mg base A outer s H) :
    Env0 P w K mg base A.in1 outer s H:=⟨e.frames,e.mod,e.bs,e.bsz,e.funs,e.frf,e.hok,e.bare⟩

section
variable {X:Cx} {pins:List (Addr × Obj)} {σ:St} {H:Hp} {s s':Shared}
theorem Inv.env0 (I:Inv X pins σ H s):Env0 X.prog X.w X.K X.mg X.base X.A X.stack s H :=
  ⟨I.ok.frames,I.ok.mod,I.bs,Nat.le_trans I.ok.bsz I.sz,I.stack,I.stkFree,I.hok,I.bare⟩
theorem Inv.after {Q:VK} {u:Value} (I:Inv X pins σ H s) (h:CE X.stack X.prog X.w H s Q u s'):EP X pins σ Q u s':=by
  obtain ⟨v,H',os,bare,un,hok,r,q⟩:=h
  obtain ⟨hh,g,d,t,os'⟩:=s'
  obtain rfl:os'=s.os:=os
  exact ⟨v,H',I.call (h':=hh) (g':=g) (d':=d) (t':=t) (ch:=[]) un hok bare (fun b z=>absurd z (by simp)),r,q⟩
end

def tCall (sp:Sp) (dvs:List V) (E:XK) (t:TA):TE:=fun σ H Q=>t σ H fun vs H1=>sp (vs++dvs) H1 Q E
def Binds (K:PySem.W.Frag) (fd:FuncData) (ps:List Str) (ds:List Value):Prop :=
  ∀ (s:Shared) (us:List Value),K.In s.heap→(us++ds).length=ps.length→BindsTo s fd ⟨us,[]⟩ (ps.zip (us++ds))
theorem Binds.all {K:PySem.W.Frag} {fd:FuncData} {ps:List Str} (h:∀ us:List Value,us.length=ps.length→bindArgs fd ⟨us,[]⟩=pure (ps.zip us)):Binds K fd ps []:=fun s us _ hl=>by
  rw [List.append_nil] at hl ⊢
  exact .of_eq (h us hl)

def Passes (CX:CXT) (X:Cx) (E:XK):Prop:=∀ (pins:List (Addr × Obj)) (σ:St) (H:Hp) (s:Shared) (e:Value) (s':Shared),Inv X pins σ H s→CX X.stack H s E e s'→X.xe e s'

section
variable {X:Cx} {CX:CXT} {k:Nat} {f C:Addr} {fd:FuncData} {ps:List Str} {sp:Sp} {dvs:List V} {ds:List Value} {E:XK} {x m:Str} {p pos apos:Pos} {e o:Expr} {es:List Expr} {ta:TE} {t:TA}

theorem run_fn {pins:List (Addr × Obj)} {σ:St} {H:Hp} {s:Shared} {Q:VK} {us:List Value} {vs:List V} (F:FnOk X.prog X.w X.K X.mg X.base CX k f fd ps sp) (hr:Room k X.A) (hb:Binds X.K fd ps ds) (hd:Vals dvs ds) (hx:Passes CX X E)
    (I:Inv X pins σ H s) (r:Vals vs us) (h:sp (vs++dvs) H Q E):wpAny (model X.prog X.w) X.A (call (.ref f) us) (EP X pins σ Q) X.xe s:=by
  have r2:Vals (vs++dvs) (us++ds):=r.append hd
  have hl:(us++ds).length=ps.length:=by rw [← r2.length]; exact F.len _ _ _ _ h
  refine wpAny_call (codeAny_mono (F.run X.A X.stack s H ⟨us,[]⟩ (us++ds) (vs++dvs) Q E hr I.env0 (hb s us I.kIn hl) r2 h) fun r s' hq=>?_)
  cases r with
  | error e=>exact hx pins σ H s e s' I hq
  | ok fl =>
    cases fl with
    | ret u=>exact I.after hq
    | next=>exact False.elim hq
    | brk=>exact False.elim hq
    | cont=>exact False.elim hq

theorem pe_call (F:FnOk X.prog X.w X.K X.mg X.base CX k f fd ps sp) (hr:Room k X.A) (hg:Gl X x) (hm:X.mg x=some (.ref f)) (hk:PySem.W.keepIn X.K (.ref f)=true) (hb:Binds X.K fd ps ds) (hd:Vals dvs ds) (hx:Passes CX X E)
    (ha:PA X (e::es) t) (hdb:(x == ("__debug__":Str))=false:=by decide) (he:starEach (e::es) X.env=(false,eval e X.env)::starEach es X.env:=by rfl) (hpl:(backTo pos (starEach es X.env)).any (·.1)=false:=by rfl) :
    PE X (.Call (.Name x p) (e::es) [] pos) (tCall sp dvs E t):=by
  intro pins s σ H Q I h
  refine wpAny_Call_Name_kw (ld_glob I hg hm ?_ hdb)
  refine PySem.W.callWith_K (h₀:=X.base) I.ok.mod.kin hk (thn (ha pos pins s σ H _ I h) fun us s1 ⟨vs,H1,I1,r,q⟩=>⟨I1.kIn,?_⟩) he hpl
  exact run_fn F hr hb hd hx I1 r q
end

section
variable {X:Cx} {CX:CXT} {k:Nat} {f C:Addr} {fd:FuncData} {ps ks:List Str} {sp:Sp} {E:XK} {x m:Str} {p pos apos kpos:Pos} {e o:Expr} {es:List Expr} {kws:List Keyword} {te ta:TE} {t tk:TA} {nm:Option Str}
variable {g:List Value→List Value→List Value} {gV:List V→List V→List V}
end

structure FnScope (N P:List Str) (sc:Scope):Prop where
  kind:sc.kind=.function
  co:sc.isCoroutine=false
  gen:sc.isGenerator=false
  nd:N.Nodup
  pre:N.take P.length=P
  par:∀ x ∈ P,sc.names.lookup x=some .local ∨ sc.names.lookup x=some .cell
  nofree:∀ y ∈ sc.names,y.2 ≠ .free

theorem bindL_out {kindOf:Str→Option NameKind} {x:Str}:∀ {binds:List (Str × Value)} {m:Str→Option Value},(∀ v,(x,v) ∉ binds)→bindL kindOf binds m x=m x
  | [],_,_=>rfl
  | (n,v)::r,m,h=>by
    unfold bindL
    rw [bindL_out fun w hw=>h w (List.mem_cons_of_mem _ hw)]
    split
    · have:x ≠ n:=by rintro rfl; exact h v List.mem_cons_self
      simp [this]
    · rfl
theorem bindC_out {kindOf:Str→Option NameKind} {x:Str}:∀ {binds:List (Str × Value)} {m:Str→Option Value},(∀ v,(x,v) ∉ binds)→bindC kindOf binds m x=m x
  | [],_,_=>rfl
  | (n,v)::r,m,h=>by
    unfold bindC
    rw [bindC_out fun w hw=>h w (List.mem_cons_of_mem _ hw)]
    split
    · rfl
    · have:x ≠ n:=by rintro rfl; exact h v List.mem_cons_self
      simp [this]
theorem bindL_get {kindOf:Str→Option NameKind} {x:Str} {v:Value}:∀ {P:List Str} {vs:List Value} {i:Nat} {m:Str→Option Value},P.Nodup→P[i]?=some x→vs[i]?=some v→kindOf x=some .local →
    bindL kindOf (P.zip vs) m x=some v
  | [],_,_,_,_,h,_,_=>by simp at h
  | _::_,[],_,_,_,_,h,_=>by simp at h
  | p::P,w::vs,0,m,nd,h1,h2,hk=>by
    simp at h1 h2; subst h1; subst h2
    show bindL kindOf ((p,w)::P.zip vs) m p=_
    unfold bindL
    rw [bindL_out fun v hv=>(List.nodup_cons.mp nd).1 (List.of_mem_zip hv).1,if_pos hk]
    simp
  | p::P,w::vs,i + 1,m,nd,h1,h2,hk=>by
    show bindL kindOf ((p,w)::P.zip vs) m x=_
    unfold bindL
    exact bindL_get (i:=i) (List.nodup_cons.mp nd).2 (by simpa using h1) (by simpa using h2) hk
theorem bindC_get {kindOf:Str→Option NameKind} {x:Str} {v:Value}:∀ {P:List Str} {vs:List Value} {i:Nat} {m:Str→Option Value},P.Nodup→P[i]?=some x→vs[i]?=some v→kindOf x ≠ some .local →
    bindC kindOf (P.zip vs) m x=some v
  | [],_,_,_,_,h,_,_=>by simp at h
  | _::_,[],_,_,_,_,h,_=>by simp at h
  | p::P,w::vs,0,m,nd,h1,h2,hk=>by
    simp at h1 h2; subst h1; subst h2
    show bindC kindOf ((p,w)::P.zip vs) m p=_
    unfold bindC
    rw [bindC_out fun v hv=>(List.nodup_cons.mp nd).1 (List.of_mem_zip hv).1,if_neg hk]
    simp
  | p::P,w::vs,i + 1,m,nd,h1,h2,hk=>by
    show bindC kindOf ((p,w)::P.zip vs) m x=_
    unfold bindC
    exact bindC_get (i:=i) (List.nodup_cons.mp nd).2 (by simpa using h1) (by simpa using h2) hk

def start (N:List Str) (vs:List V):St:=vs.map some++List.replicate (N.length - vs.length) none

def cxOf (CX:CXT) (P:Program) (w:World) (K:PySem.W.Frag) (mg:Str→Option Value) (base:Heap) (N:List Str) (qual:Str) (scope:Scope) (f:Addr) (cd:Value) (A:Around) (outer:List Env) (s:Shared) (H:Hp) (E:XK):Cx where
  prog:=P
  w:=w
  K:=K
  mg:=mg
  base:=base
  A:=A.deeper (envOfC qual scope s.heap.objs.size f cd)
  N:=N
  s₀:=s
  H₀:=H
  env:=envOfC qual scope s.heap.objs.size f cd
  outer:=outer
  stack:=envOfC qual scope s.heap.objs.size f cd::outer
  ex:=[]
  calm:=true
  fn:=fun _=>true
  pn:=[]
  xe:=fun e s'=>wpAny (model P w) (A.deeper (envOfC qual scope s.heap.objs.size f cd)) (leaving (envOfC qual scope s.heap.objs.size f cd) e) (fun _ s''=>CX outer H s E e s'') (fun e' s''=>CX outer H s E e' s'') s'

theorem cell_has {sc:Scope} {n:Nat} {x:Str} (h:sc.names.lookup x=some .cell):∃ c,(cellsFrom n sc.names []).lookup x=some c:=by
  have q:=PySem.W.cellsFrom_some sc.names n [] (.inl h)
  exact Option.isSome_iff_exists.mp q

theorem inv_start {CX:CXT} {P:Program} {w:World} {K:PySem.W.Frag} {mg:Str→Option Value} {base:Heap} {N ps:List Str} {qual:Str} {scope:Scope} {f:Addr} {cd:Value} {A:Around} {outer:List Env} {s s1:Shared} {H:Hp} {E:XK} {us:List Value} {vs:List V}
    (S:FnScope N ps scope) (hd:A.handled=none) (e0:Env0 P w K mg base A outer s H) (hl:vs.length=ps.length) (r:Vals vs us)
    (x:InCallC s s.heap.objs.size (bindL (envOfC qual scope s.heap.objs.size f cd).kindOf (ps.zip us) fun _=>none) (cellsFrom (s.heap.objs.size + 1) scope.names []) (bindC (envOfC qual scope s.heap.objs.size f cd).kindOf (ps.zip us) fun _=>none) s1) :
    Inv (cxOf CX P w K mg base N qual scope f cd A outer s H E) [] (start N vs) H s1:=by
  have hpl:ps.length≤N.length:=by have:=congrArg List.length S.pre; rw [List.length_take] at this; omega
  obtain ⟨h1,tk,rfl,hk⟩:=x.done
  have noA:∀ b:Addr,b ∉ (cxOf CX P w K mg base N qual scope f cd A outer s H E).ex:=fun b z=>absurd (show b ∈ ([]:List Addr) from z) (by simp)
  refine ⟨⟨e0.mod,S.kind,rfl,rfl,Nat.le_refl _,fun y z c h1 h2=>?_,fun y hy=>?_,fun y c _ h=>?_,fun _=>hd,Around.frames_deeper e0.frames,.inr ⟨rfl,rfl⟩,fun b z=>absurd z (noA b),e0.bs,e0.bsz,fun b _ _=>noA b,fun b z=>absurd z (noA b),e0.funs,e0.frf⟩,
    rfl,e0.bare,Un.kept hk,⟨_,x.toInCall.ns,fun i y v h1 h2 h3=>?_⟩,fun y c h=>⟨_,x.cell y c h⟩,e0.hok.fresh (Nat.le_refl _),fun y c h=>?_,fun p hp=>absurd (show p ∈ ([]:List (Addr × Obj)) from hp) (by simp),e0.hok.kept hk,?_⟩
  · exact name_of_addr x.apart (PySem.mem_of_lookup h1) (PySem.mem_of_lookup h2)
  · have hy:scope.names.lookup y=some .cell ∨ scope.names.lookup y=some .free:=hy
    rcases hy with hy | hy
    · exact cell_has hy
    · exact absurd rfl (S.nofree _ (PySem.mem_of_lookup hy))
  · exact Nat.le_of_lt (x.above y c (PySem.mem_of_lookup h))
  · have hi:i < vs.length:=by
      unfold start at h2
      by_cases hi:i < vs.length
      · exact hi
      · rw [List.getElem?_append_right (by simpa using hi)] at h2
        rw [List.getElem?_replicate] at h2
        split at h2 <;> cases h2
    have ha:vs[i]?=some v:=by
      unfold start at h2
      rw [List.getElem?_append_left (by simpa using hi),List.getElem?_map] at h2
      cases e:vs[i]? with
      | none=>rw [e] at h2; cases h2
      | some a=>rw [e] at h2; cases h2; rfl
    obtain ⟨u,hu,rv⟩:=r.get ha
    have hp:ps[i]?=some y:=by
      rw [← S.pre,List.getElem?_take_of_lt (by omega)]; exact h1
    have ndP:ps.Nodup:=by rw [← S.pre]; exact S.nd.sublist (List.take_sublist _ _)
    refine ⟨u,rv,?_⟩
    rcases S.par y (List.mem_of_getElem? hp) with k | k
    · exact .inl ⟨k,bindL_get ndP hp hu k⟩
    · obtain ⟨c,e⟩:=cell_has (n:=s.heap.objs.size + 1) k
      refine .inr ⟨.inl k,c,e,?_⟩
      have q:=x.cell y c e
      rw [bindC_get ndP hp hu (by show scope.names.lookup y ≠ _; rw [k]; decide)] at q
      exact q
  · exact e0.hok.fresh (Nat.le_of_lt (x.above y c (PySem.mem_of_lookup h)))
  · unfold start
    show _=N.length
    rw [List.length_append,List.length_map,List.length_replicate]
    omega

theorem fn_of {CX:CXT} {P:Program} {w:World} {K:PySem.W.Frag} {mg:Str→Option Value} {base:Heap} {k:Nat} {f:Addr} {name qual:Str} {params:Arguments} {body:List Stmt} {scope:Scope} {dV kV doc pm cdv ct oc:Value} {an od:Option Addr}
    {osl:Array (Option Value)} {N ps:List Str} {sp:Sp} (lk:K.lookup f=some ⟨oc,od,.func (PySem.W.fnOf name qual params body scope dV kV doc pm an cdv ct),osl⟩) (hcd:PySem.W.codeIn K cdv qual=true) (S:FnScope N ps scope)
    (len:∀ vs H Q E,sp vs H Q E→vs.length=ps.length)
    (hbody:∀ (A:Around) (outer:List Env) (s:Shared) (H:Hp) (vs:List V) (Q:VK) (E:XK),Room k (A.deeper (envOfC qual scope s.heap.objs.size f cdv))→sp vs H Q E →
      ∃ t,PSs (cxOf CX P w K mg base N qual scope f cdv A outer s H E) body t∧t { nx:=fun _ H'=>Q .non H',rt:=Q } (start N vs) H) :
    FnOk P w K mg base CX (k + 1) f (PySem.W.fnOf name qual params body scope dV kV doc pm an cdv ct) ps sp:=by
  refine ⟨len,fun A outer s H args us vs Q E hr e0 hb r hsp=>?_⟩
  have hl:=len _ _ _ _ hsp
  have KX:K.In s.heap:=e0.mod.kin.keeps fun b o e=>(e0.bs b o e).1
  have lim:s.heap.NoLimit:=e0.mod.nolimit.keeps fun b o e=>(e0.bs b o e).1
  have hkind:∀ y ∈ ps.zip us,scope.names.lookup y.1=some .local ∨ (scope.names.lookup y.1=some .cell∧((cellsFrom (s.heap.objs.size + 1) scope.names []).lookup y.1).isSome=true):=fun ⟨n,v⟩ hy=>by
    rcases S.par n (List.of_mem_zip hy).1 with q | q
    · exact .inl q
    · exact .inr ⟨q,PySem.W.cellsFrom_some _ _ _ (.inl q)⟩
  refine codeAny_call_function hr.depth (KX _ _ lk) rfl S.co S.gen rfl (PySem.W.codeRec_of KX hcd) (hb _ _ _ _ ?_)
  refine wpAny_newFunctionEnv_cells S.kind hkind fun env he s1 x=>?_
  subst he
  refine ⟨lim.keeps x.toInCall.keep,codeAny_func ?_⟩
  obtain ⟨t,ht,hq⟩:=hbody A outer s H vs Q E (hr.deeper _) hsp
  have I:Inv (cxOf CX P w K mg base N qual scope f cdv A outer s H E) [] (start N vs) H s1:=inv_start S hr.hd e0 hl r x
  refine wpAny_mono (ht [] s1 (start N vs) H _ I hq) (fun fl s' hs=>?_) fun e s' hs=>hs
  have fin:∀ {σ':St} {H':Hp} {v:V} {u:Value},Inv (cxOf CX P w K mg base N qual scope f cdv A outer s H E) [] σ' H' s'→RelV v u→Q v H'→CE outer P w H s Q u s' :=
    fun {σ' H' v u} J rv q=>⟨v,H',J.os,J.bare,J.base,J.hok,rv,q⟩
  cases fl with
  | ret u =>
    obtain ⟨v,σ',H',J,rv,q⟩:=hs
    exact fin J rv q
  | next =>
    obtain ⟨σ',H',J,q⟩:=hs
    exact fin (v:=V.non) (u:=Value.none) J rfl q
  | brk =>
    obtain ⟨_,_,_,q⟩:=hs
    exact False.elim q
  | cont =>
    obtain ⟨_,_,_,q⟩:=hs
    exact False.elim q
end L2

namespace L2
open PySem PySem.Spec PyProof.Rows
section
variable {X:Cx} {x:Str} {p pos:Pos} {e:Expr} {es:List Expr} {t:TA} {id T:String} {r:List V→Hp→VK→Prop}

def tCB (r:List V→Hp→VK→Prop) (t:TA):TE:=fun σ H Q=>t σ H fun vs H1=>r vs H1 Q
theorem pe_callB (hc:CallR X (.builtin id) r) (hg:Gl X x) (hm:X.mg x=none) (hv:bootBuiltins x=some (.builtin id)) (ha:PA X (e::es) t) (hn:x ≠ "__name__":=by decide) (hdb:(x == ("__debug__":Str))=false:=by decide)
    (he:starEach (e::es) X.env=(false,eval e X.env)::starEach es X.env:=by rfl) (hpl:(backTo pos (starEach es X.env)).any (·.1)=false:=by rfl):PE X (.Call (.Name x p) (e::es) [] pos) (tCB r t):=by
  intro pins s σ H Q I h
  refine wpAny_Call_Name_kw (ld_blt I hg hm hv ?_ hn hdb)
  exact PyProof.Rows.callWith_builtin1 (thn (ha pos pins s σ H _ I h) fun us s1 ⟨vs,H1,I1,r1,q1⟩=>hc pins s1 σ H1 vs us Q I1 r1 q1) he hpl
theorem pe_callTy (hc:CallR X (.type T) r) (hg:Gl X x) (hm:X.mg x=none) (hv:bootBuiltins x=some (.type T)) (ha:PA X (e::es) t) (hn:x ≠ "__name__":=by decide) (hdb:(x == ("__debug__":Str))=false:=by decide)
    (he:starEach (e::es) X.env=(false,eval e X.env)::starEach es X.env:=by rfl) (hpl:(backTo pos (starEach es X.env)).any (·.1)=false:=by rfl):PE X (.Call (.Name x p) (e::es) [] pos) (tCB r t):=by
  intro pins s σ H Q I h
  refine wpAny_Call_Name_kw (ld_blt I hg hm hv ?_ hn hdb)
  exact PyProof.Rows.callWith_type1 (thn (ha pos pins s σ H _ I h) fun us s1 ⟨vs,H1,I1,r1,q1⟩=>hc pins s1 σ H1 vs us Q I1 r1 q1) he hpl
end
end L2

namespace HT
open PySem PyProof.Rows

section
open PySem.SeqAt
open PySem.AutoSeq1 (wpAny_loadPart')
open PySem.MeetsSeq PySem.MeetsSeq2 PySem.MeetsSeq3

end

section
variable {prog:Program} {w:World} {A:Around} {E:Value→Shared→Prop} {s:Shared}

theorem cat_tup {t b:Addr} {vs ws:List Value} {Q:Value→Shared→Prop} (ht:IsTup s.heap t vs.toArray) (hb:IsTup s.heap b ws.toArray) (hv:vs ≠ [])
    (h1:ws=[]→Q (.ref t) s) (h2:ws ≠ []→Q (.ref s.heap.objs.size) { s with heap:=s.heap.push { cls:=.type "tuple",data:=.seq (vs++ws).toArray } })
    (hsz:vs.length + ws.length≤sizeLine):wpAny (model prog w) A (binaryOp .Add (.ref t) (.ref b)) Q E s:=by
  obtain ⟨⟨cls,dd,data,sl⟩,ho,hc,n,hd⟩:=id ht
  obtain ⟨⟨cls2,dd2,data2,sl2⟩,ho2,hc2,n2,hd2⟩:=id hb
  simp only at hc hd hc2 hd2
  subst hc hd hc2 hd2
  have e:vs.toArray++ws.toArray=(vs++ws).toArray:=by simp
  by_cases hw:ws=[]
  · exact concat_meets ⟨_,ho,rfl⟩ ⟨_,ho2,rfl⟩ noFill_tuple_add seq_tuple_add PySem.F.slot_tuple_add PySem.F.entry_tuple_add (PySem.F.args_tuple_add_2 _ _)
      (tuple_addW1 t b vs.toArray ws.toArray n n2 dd dd2 sl sl2 (by simpa using hv) (by simp [hw])) ⟨ho,ho2,h1 hw⟩
  · refine concat_meets ⟨_,ho,rfl⟩ ⟨_,ho2,rfl⟩ noFill_tuple_add seq_tuple_add PySem.F.slot_tuple_add PySem.F.entry_tuple_add (PySem.F.args_tuple_add_2 _ _)
      (tuple_addW2 t b vs.toArray ws.toArray n n2 dd dd2 sl sl2 (by simpa using hv) (by simpa using hw) (by rw [List.size_toArray,List.size_toArray]; exact hsz)) ⟨ho,ho2,?_⟩
    rw [e]
    exact h2 hw

def sIx (n d:Nat):Option Int→Nat
  | none=>d
  | some v=>if v < 0 then (v + (n:Int)).toNat else min v.toNat n
theorem sIx_none (n d:Nat):sIx n d none=d:=rfl
theorem sIx_nat (n d k:Nat):sIx n d (some (k:Int))=min k n:=by
  show (if (k:Int) < 0 then ((k:Int) + (n:Int)).toNat else min (k:Int).toNat n)=min k n
  rw [if_neg (by omega),Int.toNat_natCast]
theorem sIx_le (n d:Nat) (hd:d≤n) (o:Option Int):sIx n d o≤n:=by
  cases o with
  | none=>exact hd
  | some v =>
    show (if v < 0 then (v + (n:Int)).toNat else min v.toNat n)≤n
    by_cases hv:v < 0
    · rw [if_pos hv]; omega
    · rw [if_neg hv]; exact Nat.min_le_right _ _
theorem clip_eq (v:Int) (n d:Nat):(if v < 0 then max (v + (n:Int)) 0 else min v (n:Int))=((sIx n d (some v):Nat):Int):=by
  show (if v < 0 then max (v + (n:Int)) 0 else min v (n:Int))=(((if v < 0 then (v + (n:Int)).toNat else min v.toNat n):Nat):Int)
  by_cases hv:v < 0
  · simp only [if_pos hv]; omega
  · simp only [if_neg hv]; omega
theorem adjust_gen (lo hi:Option Int) (n:Nat):Builtin.Slice.sliceAdjust lo hi 1 (n:Int)=(((sIx n 0 lo:Nat):Int),((sIx n n hi:Nat):Int)):=by
  have h1:¬ ((1:Int) < 0):=by omega
  unfold Builtin.Slice.sliceAdjust
  simp only [h1,if_false]
  refine Prod.ext ?_ ?_
  · cases lo with
    | none=>rfl
    | some v=>exact clip_eq v n 0
  · cases hi with
    | none=>rfl
    | some v=>exact clip_eq v n n
theorem places_gen (i j:Nat):Builtin.Slice.slicePlaces (i:Int) (j:Int) 1=j - i:=by
  unfold Builtin.Slice.slicePlaces
  have h1:(1:Int) > 0:=by omega
  simp only [h1,if_true,Int.ediv_one]
  split <;> omega
theorem slicePart_ {v:Value} {o:Option Int} {Q:Option Int→Shared→Prop} (p:IsPart v o) (h:Q o s):wpAny (model prog w) A (Builtin.Slice.slicePartIndex v) Q E s:=by
  cases p with
  | none=>exact slicePart_none h
  | int i t=>exact slicePart_int h
theorem sliceApplied_gen {sl:Addr} {vl vu:Value} {lo hi:Option Int} {n:Nat} {Q:Int × Int × Nat→Shared→Prop} (hs:s.heap.IsSliceOf sl vl vu .none) (pl:IsPart vl lo) (pu:IsPart vu hi)
    (h:Q (((sIx n 0 lo:Nat):Int),1,sIx n n hi - sIx n 0 lo) s):wpAny (model prog w) A (Builtin.Slice.sliceApplied (.ref sl) (pure (n:Int))) Q E s:=by
  obtain ⟨os,hos,hcs,hds⟩:=id hs
  unfold Builtin.Slice.sliceApplied Builtin.Slice.sliceFields
  refine wpAny_bind (wpAny_bind (wpAny_field hos hds (x:=vl) rfl (wpAny_bind (wpAny_field hos hds (x:=vu) rfl (wpAny_bind (wpAny_field hos hds (x:=.none) rfl (wpAny_pure ?_)))))))
  refine wpAny_bind (slicePart_none ?_)
  show wpAny _ _ (if ((1:Int) == 0)=true then _ else _) _ _ s
  rw [if_neg (by decide)]
  refine wpAny_bind (slicePart_ pl (wpAny_bind (slicePart_ pu (wpAny_bind (wpAny_pure ?_)))))
  show wpAny _ _ (match Builtin.Slice.sliceAdjust lo hi 1 (n:Int) with | (lo,hi)=>pure (lo,(1:Int),Builtin.Slice.slicePlaces lo hi 1)) _ _ s
  rw [adjust_gen lo hi n]
  show wpAny _ _ (pure (((sIx n 0 lo:Nat):Int),(1:Int),Builtin.Slice.slicePlaces ((sIx n 0 lo:Nat):Int) ((sIx n n hi:Nat):Int) 1)) _ _ s
  rw [places_gen]
  exact wpAny_pure h
theorem pick_gen (xs:Array Value) (i k:Nat):((List.range k).filterMap fun (m:Nat)=>xs[((i:Int) + (m:Int) * 1).toNat]?).toArray=((xs.toList.drop i).take k).toArray:=by
  have e:(fun (m:Nat)=>xs[((i:Int) + (m:Int) * 1).toNat]?)=fun m=>xs[i + m]?:=by
    funext m
    have:((i:Int) + (m:Int) * 1).toNat=i + m:=by omega
    rw [this]
  rw [e]
  have:=pick_run xs i k
  rw [List.filterMap_map] at this
  have e2:((fun x=>xs[x]?) ∘ fun x=>i + x)=fun m=>xs[i + m]?:=rfl
  rw [e2] at this
  rw [this]

theorem getItem_tuple_cut {t sl:Addr} {items:Array Value} {vl vu:Value} {lo hi:Option Int} {Q:Value→Shared→Prop} (ht:IsTup s.heap t items) (hs:s.heap.IsSliceOf sl vl vu .none) (pl:IsPart vl lo) (pu:IsPart vu hi)
    (hw:¬ (sIx items.size 0 lo=0∧sIx items.size items.size hi=items.size))
    (h:Q (.ref s.heap.objs.size) { s with heap:=s.heap.push { cls:=.type "tuple",data:=.seq ((items.toList.drop (sIx items.size 0 lo)).take (sIx items.size items.size hi - sIx items.size 0 lo)).toArray } })
    (hsz:items.size≤sizeLine):wpAny (model prog w) A (getItem (.ref t) (.ref sl)) Q E s:=by
  have htake:sizeOk (.seq ((items.toList.drop (sIx items.size 0 lo)).take (sIx items.size items.size hi - sIx items.size 0 lo)).toArray):=by
    show ((items.toList.drop (sIx items.size 0 lo)).take (sIx items.size items.size hi - sIx items.size 0 lo)).toArray.size≤sizeLine
    rw [List.size_toArray,List.length_take,List.length_drop,Array.length_toList]
    omega
  have hj:sIx items.size items.size hi≤items.size:=sIx_le _ _ (Nat.le_refl _) hi
  obtain ⟨os,hos,hcs,hds⟩:=id hs
  have hTs:s.TypeIs (.ref sl) "slice":=⟨os,hos,hcs⟩
  unfold getItem
  try with_reducible refine wpAny_holding ?_
  first | refine wpAny_bind (wpAny_pure ?_) | skip
  refine wpAny_bind (wpAny_sequenceKey ht.typeIs (by decide) ?_)
  refine wpAny_bind (wpAny_callSpecial?_slot (name:=Str.ofString "__getitem__") ht.typeIs PyProof.Rows.slot_tuple_getitem
    (wpAny_call_entry PyProof.Rows.slot_tuple_getitem ht.typeIs entry_tuple_getitem ?_ (args_tuple_getitem _ _)))
  show wpAny _ _ (Builtin.Tuple.tupleItemsOf (.ref t) >>= _) _ _ s
  refine wpAny_bind (tupleItemsOf_ ht ?_)
  refine wpAny_bind (wpAny_typeOf hTs ?_)
  rw [if_pos (by decide)]
  refine wpAny_bind (sliceApplied_gen hs pl pu ?_)
  have hno:¬ ((((sIx items.size 0 lo:Nat):Int) == 0 && (1:Int) == 1 && (sIx items.size items.size hi - sIx items.size 0 lo) == items.size)=true):=by
    intro q
    rw [Bool.and_eq_true,Bool.and_eq_true] at q
    have q1:((sIx items.size 0 lo:Nat):Int)=0:=eq_of_beq q.1.1
    have q2:sIx items.size items.size hi - sIx items.size 0 lo=items.size:=eq_of_beq q.2
    exact hw ⟨by omega,by omega⟩
  show wpAny _ _ (if (((sIx items.size 0 lo:Nat):Int) == 0 && (1:Int) == 1 && (sIx items.size items.size hi - sIx items.size 0 lo) == items.size)=true then _ else _) _ _ s
  rw [if_neg hno,pick_gen]
  first
    | exact wpAny_bind (m:=Builtin.Tuple.tupleExact _) (wpAny_newObj_type (wpAny_pure ⟨_,rfl,wpAny_pure h⟩) htake)
    | exact wpAny_bind (m:=Builtin.Tuple.tupleExact _) (wpAny_newObj_type (wpAny_bind (wpAny_pure (wpAny_pure ⟨_,rfl,wpAny_pure h⟩))) htake)
    | exact wpAny_bind (wpAny_bind (m:=Builtin.Tuple.tupleExact _) (wpAny_newObj_type (wpAny_pure (wpAny_pure ⟨_,rfl,wpAny_pure h⟩)) htake))
    | exact wpAny_bind (wpAny_bind (m:=Builtin.Tuple.tupleExact _) (wpAny_newObj_type (wpAny_pure ⟨_,rfl,wpAny_pure h⟩) htake))
end
end HT

namespace L2
open PySem PySem.Spec PyProof.Rows

abbrev TO:=St→Hp→(Option Int→Hp→Prop)→Prop
def PO (X:Cx) (e:Option Expr) (t:TO):Prop :=
  ∀ (pins:List (Addr × Obj)) (s:Shared) (σ:St) (H:Hp) (Q:Option Int→Hp→Prop),Inv X pins σ H s→t σ H Q →
    wpAny (model X.prog X.w) X.A (evalPart e X.env) (fun u s'=>∃ o H',Inv X pins σ H' s'∧IsPart u o∧Q o H') X.xe s
def tNoPart:TO:=fun _ H Q=>Q none H
def tPart (t:TE):TO:=fun σ H Q=>t σ H fun x H1=>∃ i,x=.int i∧Q (some i) H1

section
variable {X:Cx} {e:Expr} {te:TE} {lo hi:Option Expr} {tl th:TO} {pos p2:Pos}

theorem po_none:PO X none tNoPart:=by
  intro pins s σ H Q I h
  rw [evalPart_none]
  exact wpAny_pure ⟨none,H,I,.none,h⟩
theorem po_some (h:PE X e te):PO X (some e) (tPart te):=by
  intro pins s σ H Q I hw
  rw [evalPart_some]
  refine thn (h pins s σ H _ I hw) fun u s1 ⟨x,H1,I1,r1,q1⟩=>?_
  obtain ⟨i,rfl,q⟩:=q1
  obtain ⟨t,rfl⟩:=r1
  exact ⟨some i,H1,I1,.int i t,q⟩

def SlR (X:Cx) (r:V→Option Int→Option Int→Hp→VK→Prop):Prop :=
  ∀ (pins:List (Addr × Obj)) (s:Shared) (σ:St) (H:Hp) (x:V) (v vl vu:Value) (lo hi:Option Int) (sl:Addr) (Q:VK),Inv X pins σ H s→RelV x v→s.heap.IsSliceOf sl vl vu .none→IsPart vl lo→IsPart vu hi→r x lo hi H Q →
    ∃ T id,typeLookup (.type T) "__getitem__"=pure (some (.builtin id))∧s.TypeIs v T∧wpAny (model X.prog X.w) X.A (getItem v (.ref sl)) (EP X pins σ Q) X.xe s
theorem SlR.or {r r':V→Option Int→Option Int→Hp→VK→Prop} (h:SlR X r) (h':SlR X r'):SlR X (fun x lo hi H Q=>r x lo hi H Q ∨ r' x lo hi H Q):=by
  intro pins s σ H x v vl vu lo hi sl Q I rx hs pl pu q
  rcases q with q | q
  · exact h pins s σ H x v vl vu lo hi sl Q I rx hs pl pu q
  · exact h' pins s σ H x v vl vu lo hi sl Q I rx hs pl pu q
def tSl (r:V→Option Int→Option Int→Hp→VK→Prop) (te:TE) (tl th:TO):TE:=fun σ H Q=>te σ H fun x H1=>tl σ H1 fun l H2=>th σ H2 fun u H3=>r x l u H3 Q
theorem pe_slice {r:V→Option Int→Option Int→Hp→VK→Prop} (hr:SlR X r) (he:PE X e te) (hl:PO X lo tl) (hu:PO X hi th):PE X (.Subscript e (.Slice lo hi none p2) pos) (tSl r te tl th):=by
  intro pins s σ H Q I h
  refine Subscript_ (thn (he pins s σ H _ I h) fun v s1 ⟨x,H1,I1,r1,q1⟩=>?_)
  refine wpAny_Slice (thn (hl pins s1 σ H1 _ I1 q1) fun vl s2 ⟨l,H2,I2,pl,q2⟩=>thn (hu pins s2 σ H2 _ I2 q2) fun vu s3 ⟨u,H3,I3,pu,q3⟩=>?_)
  rw [evalPart_none]
  refine wpAny_pure ?_
  have I4:Inv X pins σ H3 { s3 with heap:=s3.heap.push { cls:=.type "slice",data:=.fields #[vl,vu,.none] } }:=I3.kept (t':=s3.toks) fun b ob q=>Heap.get?_push_of_some _ q
  obtain ⟨T,id,hT,ht,hg⟩:=hr pins { s3 with heap:=s3.heap.push { cls:=.type "slice",data:=.fields #[vl,vu,.none] } } σ H3 x v vl vu l u s3.heap.objs.size Q I4 r1 (Heap.IsSliceOf.new ..) pl pu q3
  show wpAny (model X.prog X.w) X.A (subscriptTail e (.Slice lo hi none p2) v (.ref s3.heap.objs.size)) (EP X pins σ Q) X.xe { s3 with heap:=s3.heap.push { cls:=.type "slice",data:=.fields #[vl,vu,.none] } }
  exact tail_any (ops:=[.ref s3.heap.objs.size,v]) ht hT hg (by with_unfolding_all rfl)

def cutV (xs:List V) (lo hi:Option Int):List V:=(xs.drop (HT.sIx xs.length 0 lo)).take (HT.sIx xs.length xs.length hi - HT.sIx xs.length 0 lo)
theorem cutV_length (xs:List V) (lo hi:Option Int):(cutV xs lo hi).length≤xs.length:=by
  unfold cutV
  rw [List.length_take,List.length_drop]
  omega
def rSlT (K:PySem.W.Frag):V→Option Int→Option Int→Hp→VK→Prop:=fun x lo hi H Q=>∃ a xs,x=.ref a∧SqT K H a xs ∧
  ¬ (HT.sIx xs.length 0 lo=0∧HT.sIx xs.length xs.length hi=xs.length)∧∀ p,H p=none→Q (.ref p) (upd H p (.tup (cutV xs lo hi)))
theorem sl_tup:SlR X (rSlT X.K):=by
  intro pins s σ H x v vl vu lo hi sl Q I rx hs pl pu h
  obtain ⟨a,xs,rfl,hx,hw,q⟩:=h
  cases rx
  obtain ⟨its,r,ht,hz⟩:=I.tuple hx
  have hlen:its.toArray.size=xs.length:=by rw [List.size_toArray]; exact r.length.symm
  refine ⟨"tuple",_,PyProof.Rows.slot_tuple_getitem.lookup,ht.typeIs,?_⟩
  refine HT.getItem_tuple_cut ht hs pl pu (by rw [hlen]; exact hw) ?_ (by rw [hlen]; exact hz)
  rw [hlen]
  refine ⟨.ref s.heap.objs.size,_,I.laid (t':=s.toks) (o:=.tup (cutV xs lo hi)) (fun b ob q=>Heap.get?_push_of_some _ q) (Nat.le_refl _) ?_,rfl,q _ (I.hok.fresh (Nat.le_refl _))⟩
  exact ⟨Nat.le_trans (cutV_length xs lo hi) hz,_,(r.drop (HT.sIx xs.length 0 lo)).take (HT.sIx xs.length xs.length hi - HT.sIx xs.length 0 lo),TupN.new _ _⟩

def rCatT (K:PySem.W.Frag):R2:=fun x y H Q=>∃ a b xs ys,x=.ref a∧y=.ref b∧SqT K H a xs∧SqT K H b ys∧xs ≠ []∧xs.length + ys.length≤sizeLine ∧
  (ys=[]→Q (.ref a) H)∧(ys ≠ []→∀ p,H p=none→Q (.ref p) (upd H p (.tup (xs++ys))))
theorem Vals.nil_iff {xs:List V} {us:List Value} (r:Vals xs us):us=[] ↔ xs=[]:=by
  cases r with
  | nil=>simp
  | cons _ _=>simp
theorem op_catT:OpR X (binaryOp .Add) (rCatT X.K):=by
  intro pins s σ H x y v u Q I rx ry h
  obtain ⟨a,b,xs,ys,rfl,rfl,ha,hb,hx,hz,q1,q2⟩:=h
  cases rx
  cases ry
  obtain ⟨its,r1,p1,_⟩:=I.tuple ha
  obtain ⟨its2,r2,p2,_⟩:=I.tuple hb
  refine HT.cat_tup p1 p2 (fun z=>hx (r1.nil_iff.mp z)) (fun z=>⟨.ref a,H,I,rfl,q1 (r2.nil_iff.mp z)⟩) (fun z=>?_) (by rw [← r1.length,← r2.length]; exact hz)
  refine ⟨.ref s.heap.objs.size,_,I.laid (t':=s.toks) (o:=.tup (xs++ys)) (fun b ob q=>Heap.get?_push_of_some _ q) (Nat.le_refl _) ?_,rfl,q2 (fun w=>z (r2.nil_iff.mpr w)) _ (I.hok.fresh (Nat.le_refl _))⟩
  exact ⟨by rw [List.length_append]; exact hz,_,r1.append r2,TupN.new _ _⟩
end
end L2

namespace L2
open PySem PySem.Spec PyProof.Rows

def ixN (n:Nat) (i:Int):Option Nat:=if 0≤i then (if i < n then some i.toNat else none) else if -(n:Int)≤i then some (i + n).toNat else none
def atI {α:Type} (xs:List α) (i:Int):Option α:=(ixN xs.length i).bind fun j=>xs[j]?
theorem ixN_seq {n:Nat} {i:Int} {j:Nat} (h:ixN n i=some j):seqIndex? i n=some j∧j < n∧-(n:Int)≤i∧i < n:=by
  unfold ixN at h
  by_cases h0:0≤i
  · rw [if_pos h0] at h
    by_cases h1:i < n
    · rw [if_pos h1] at h
      have e:i.toNat=j:=Option.some.inj h
      exact ⟨by rw [seqIndex_of h0 h1,e],by omega,by omega,h1⟩
    · rw [if_neg h1] at h; cases h
  · rw [if_neg h0] at h
    by_cases h1:-(n:Int)≤i
    · rw [if_pos h1] at h
      have e:(i + n).toNat=j:=Option.some.inj h
      exact ⟨by rw [seqIndex_neg (by omega) h1,e],by omega,h1,by omega⟩
    · rw [if_neg h1] at h; cases h
theorem atI_get {α:Type} {xs:List α} {i:Int} {v:α} (h:atI xs i=some v):∃ j,seqIndex? i xs.length=some j∧xs[j]?=some v∧j < xs.length∧-(xs.length:Int)≤i∧i < xs.length:=by
  unfold atI at h
  cases e:ixN xs.length i with
  | none=>rw [e] at h; cases h
  | some j =>
    rw [e] at h
    obtain ⟨h1,h2,h3,h4⟩:=ixN_seq e
    exact ⟨j,h1,h,h2,h3,h4⟩
theorem atI_nat {α:Type} {xs:List α} {j:Nat} {v:α} (h:xs[j]?=some v):atI xs (j:Int)=some v:=by
  have hj:j < xs.length:=(List.getElem?_eq_some_iff.mp h).1
  have e:ixN xs.length (j:Int)=some j:=by
    unfold ixN
    rw [if_pos (by omega),if_pos (by omega)]; simp
  unfold atI; rw [e]; exact h
def PlainIx (b:Expr):Prop:=∀ o i,subscripted b false o i=operate [o,i] (getItem o i)
def IxR (X:Cx) (r:R2):Prop :=
  ∀ (value slice:Expr) (pins:List (Addr × Obj)) (s:Shared) (σ:St) (H:Hp) (x y:V) (v u:Value) (Q:VK),Inv X pins σ H s→RelV x v→RelV y u→r x y H Q →
    subscripted slice false v u=operate [v,u] (getItem v u)→wpAny (model X.prog X.w) X.A (subscriptTail value slice v u) (EP X pins σ Q) X.xe s
def MtR (X:Cx) (id:String) (r:V→List V→Hp→VK→Prop):Prop :=
  ∀ (pins:List (Addr × Obj)) (s:Shared) (σ:St) (H:Hp) (x:V) (xs:List V) (v:Value) (us:List Value) (Q:VK),Inv X pins σ H s→RelV x v→Vals xs us→r x xs H Q →
    wpAny (model X.prog X.w) X.A (call (.builtin id) (v::us)) (EP X pins σ Q) X.xe s
section
variable {X:Cx} {a b:Expr} {ta tb:TE} {pos:Pos}
theorem IxR.or {r r':R2} (h:IxR X r) (h':IxR X r'):IxR X (fun x y H Q=>r x y H Q ∨ r' x y H Q):=by
  intro value slice pins s σ H x y v u Q I rx ry q hs
  rcases q with q | q
  · exact h value slice pins s σ H x y v u Q I rx ry q hs
  · exact h' value slice pins s σ H x y v u Q I rx ry q hs
theorem MtR.or {id:String} {r r':V→List V→Hp→VK→Prop} (h:MtR X id r) (h':MtR X id r'):MtR X id (fun x xs H Q=>r x xs H Q ∨ r' x xs H Q):=by
  intro pins s σ H x xs v us Q I rx rs q
  rcases q with q | q
  · exact h pins s σ H x xs v us Q I rx rs q
  · exact h' pins s σ H x xs v us Q I rx rs q
theorem pe_ix {r:R2} (hr:IxR X r) (ha:PE X a ta) (hb:PE X b tb) (hs:PlainIx b):PE X (.Subscript a b pos) (tOp r ta tb):=by
  intro pins s σ H Q I h
  exact Subscript_ (binT ha hb I h fun v u s2 x y H2 I2 rx ry q=>hr a b pins s2 σ H2 x y v u Q I2 rx ry q (hs _ _))

def rIxL (K:PySem.W.Frag):R2:=fun x y H Q=>∃ p xs i v,x=.ref p∧y=.int i∧SqL K H p xs∧atI xs i=some v∧Q v H
def rIxT (K:PySem.W.Frag):R2:=fun x y H Q=>∃ p xs i v,x=.ref p∧y=.int i∧SqT K H p xs∧atI xs i=some v∧Q v H
def rIxS:R2:=fun x y H Q=>∃ z i c,x=.str z∧y=.int i∧z.length≤sizeLine∧atI z.cps.toList i=some c∧Q (.str ⟨#[c]⟩) H
theorem ix_list:IxR X (rIxL X.K):=by
  intro value slice pins s σ H x y v u Q I rx ry h hs
  obtain ⟨p,xs,i,z,rfl,rfl,hq,he,q⟩:=h
  cases rx
  obtain ⟨t,rfl⟩:=ry
  obtain ⟨its,r,pl,hz⟩:=I.list hq
  obtain ⟨j,h1,h2,h3,h4,h5⟩:=atI_get he
  obtain ⟨w,ew,rw'⟩:=r.get h2
  have hl:=r.length
  have hn:=line63
  have fin:EP X pins σ Q w s:=⟨z,H,I,rw',q⟩
  by_cases h0:0≤i
  · have hj:i.toNat=j:=by
      rw [seqIndex_of h0 h5] at h1
      exact Option.some.inj h1
    exact item_listR pl.isList h0 (by omega) (by rw [hj]; simpa using ew) fin hs
  · have hj:(i + (its.toArray.size:Int)).toNat=j:=by
      rw [seqIndex_neg (by omega) h4] at h1
      rw [List.size_toArray,← hl]
      exact Option.some.inj h1
    exact subscriptTail_builtinR (x:=w) pl.isList.typeIs slot_list_getitem.lookup
      (wpAny_getItem_list_neg (Q:=fun r s'=>r=w∧EP X pins σ Q r s') pl.isList (by omega) (by rw [List.size_toArray] <;> omega) (by omega) (by rw [hj]; simpa using ew) ⟨rfl,fin⟩) hs
theorem ix_tup:IxR X (rIxT X.K):=by
  intro value slice pins s σ H x y v u Q I rx ry h hs
  obtain ⟨p,xs,i,z,rfl,rfl,hq,he,q⟩:=h
  cases rx
  obtain ⟨t,rfl⟩:=ry
  obtain ⟨its,r,pl,hz⟩:=I.tuple hq
  obtain ⟨j,h1,h2,h3,h4,h5⟩:=atI_get he
  obtain ⟨w,ew,rw'⟩:=r.get h2
  have hl:=r.length
  have hn:=line63
  have fin:EP X pins σ Q w s:=⟨z,H,I,rw',q⟩
  exact subscriptTail_builtinR (x:=w) pl.typeIs slot_tuple_getitem.lookup
    (getItem_tuple (j:=j) (Q:=fun r s'=>r=w∧EP X pins σ Q r s') pl (by omega) (by omega) (by rw [List.size_toArray,← hl]; exact h1) (by simpa using ew) ⟨rfl,fin⟩) hs
theorem ix_str:IxR X rIxS:=by
  intro value slice pins s σ H x y v u Q I rx ry h hs
  obtain ⟨z,i,c,rfl,rfl,hz,he,q⟩:=h
  obtain ⟨t,rfl⟩:=rx
  obtain ⟨t',rfl⟩:=ry
  obtain ⟨j,h1,h2,h3,h4,h5⟩:=atI_get he
  have hl:z.cps.toList.length=z.length:=by simp [Str.length]
  rw [hl] at h1 h4 h5
  have hn:=line63
  exact tail_any (typeIs_str s z t) slot_str_getitem.lookup (getItem_str (c:=c) (by
    have e1:decide (i < -(2 ^ 63:Int))=false:=decide_eq_false (by omega)
    have e2:decide (i ≥ 2 ^ 63)=false:=decide_eq_false (by omega)
    rw [e1,e2,Bool.or_false]) (by rw [h1]; simpa using h2) ⟨.str ⟨#[c]⟩,H,I.tok _,⟨_,rfl⟩,q⟩) hs
def rIx (K:PySem.W.Frag):R2:=fun x y H Q=>rIxL K x y H Q ∨ rIxT K x y H Q ∨ rIxS x y H Q
theorem ix_seq:IxR X (rIx X.K):=ix_list.or (ix_tup.or ix_str)

theorem mapSeq_set (its:List Value) (n j:Nat) (u:Value):Obj.mapSeq (·.setIfInBounds j u) { cls:=.type "list",data:=.seq its.toArray n }={ cls:=.type "list",data:=.seq (its.set j u).toArray n }:=by
  simp [Obj.mapSeq]
theorem Inv.lst {pins:List (Addr × Obj)} {σ:St} {H:Hp} {s:Shared} {p:Addr} {xs:List V} (I:Inv X pins σ H s) (h:H p=some (.lst xs)) :
    ∃ (its:List Value) (n:Nat),Vals xs its∧s.heap.get? p=some { cls:=.type "list",data:=.seq its.toArray n }∧xs.length≤sizeLine:=by
  obtain ⟨z,its,n,r,e⟩:=I.hok p _ h
  exact ⟨its,n,r,e,z⟩
theorem Inv.lstUpd {pins:List (Addr × Obj)} {σ:St} {H:Hp} {s:Shared} {p:Addr} {xs ys:List V} {its its':List Value} {n n':Nat} {f:Obj→Obj} (I:Inv X pins σ H s) (h:H p=some (.lst xs))
    (ho:s.heap.get? p=some { cls:=.type "list",data:=.seq its.toArray n }) (hf:f { cls:=.type "list",data:=.seq its.toArray n }={ cls:=.type "list",data:=.seq its'.toArray n' }) (r:Vals ys its') (hz:ys.length≤sizeLine) (t:Nat) :
    Inv X pins σ (upd H p (.lst ys)) { s with heap:=s.heap.update p f,toks:=t }:=by
  have e:(s.heap.update p f).get? p=some { cls:=.type "list",data:=.seq its'.toArray n' }:=by
    rw [Heap.get?_update_self f ho (by rw [hf] <;> rfl),hf]
  refine I.write (x:=p) (e:=p) (by rw [h]; trivial) (.inl rfl) (fun b u hb q=>(Heap.get?_update_other _ _ (Ne.symm hb)).trans q) ⟨_,e⟩ ?_
  exact ⟨hz,its',n',r,e⟩
def rSetL:V→V→V→Hp→(Hp→Prop)→Prop:=fun o i v H Q=>∃ p xs k j,o=.ref p∧i=.int k∧H p=some (.lst xs)∧ixN xs.length k=some j∧Q (upd H p (.lst (xs.set j v)))
theorem set_list:PSet X rSetL:=by
  intro pins s σ H o i v ov iv u Q I ro ri rv h
  obtain ⟨p,xs,k,j,rfl,rfl,hp,hj,q⟩:=h
  cases ro
  obtain ⟨t,rfl⟩:=ri
  obtain ⟨its,n,r,ho,hz⟩:=I.lst hp
  obtain ⟨h1,h2,h3,h4⟩:=ixN_seq hj
  have hl:=r.length
  have hn:=line63
  have I':Inv X pins σ (upd H p (.lst (xs.set j v))) { s with heap:=s.heap.update p (Obj.mapSeq (·.setIfInBounds j u)) } :=
    I.lstUpd hp ho (mapSeq_set its n j u) (r.set rv j) (by rw [List.length_set]; exact hz) s.toks
  by_cases h0:0≤k
  · have hk:k.toNat=j:=by
      rw [seqIndex_of h0 h4] at h1
      exact Option.some.inj h1
    exact PySem.W.ki_setAt ho h0 (by omega) (by rw [List.size_toArray,← hl]; exact h4) (by rw [hk]; exact ⟨_,I',q⟩)
  · have hk:(k + (its.toArray.size:Int)).toNat=j:=by
      rw [seqIndex_neg (by omega) h3] at h1
      rw [List.size_toArray,← hl]
      exact Option.some.inj h1
    exact PySem.W.ki_setBack ho (by omega) (by rw [List.size_toArray,← hl]; exact h3) (by omega) (by rw [hk]; exact ⟨_,I',q⟩)

theorem slice_bounds (lo hi:Option Int) (n:Nat):(sliceBounds lo hi none n).1=((HT.sIx n 0 lo:Nat):Int)∧(sliceBounds lo hi none n).2.1=((HT.sIx n n hi:Nat):Int)∧(sliceBounds lo hi none n).2.2=1:=by
  refine ⟨?_,?_,rfl⟩
  · cases lo with
    | none=>simp [sliceBounds,HT.sIx]
    | some i =>
      simp only [sliceBounds,HT.sIx,Option.getD_none,show (1:Int) > 0 by decide,if_true]
      by_cases h:i < 0
      · simp only [h,if_true] <;> omega
      · simp only [h,if_false] <;> omega
  · cases hi with
    | none=>simp [sliceBounds,HT.sIx]
    | some i =>
      simp only [sliceBounds,HT.sIx,Option.getD_none,show (1:Int) > 0 by decide,if_true]
      by_cases h:i < 0
      · simp only [h,if_true] <;> omega
      · simp only [h,if_false] <;> omega
theorem slicePick_cut (its:List Value) (lo hi:Option Int):slicePick its.toArray lo hi none=((its.drop (HT.sIx its.length 0 lo)).take (HT.sIx its.length its.length hi - HT.sIx its.length 0 lo)).toArray:=by
  obtain ⟨h1,h2,h3⟩:=slice_bounds lo hi its.toArray.size
  unfold slicePick
  rw [h1,h2,h3]
  simp only [sliceRange_one,pick_run,List.size_toArray] <;> rfl
def rSlL (K:PySem.W.Frag):V→Option Int→Option Int→Hp→VK→Prop:=fun x lo hi H Q=>∃ a xs,x=.ref a∧SqL K H a xs∧∀ p,H p=none→Q (.ref p) (upd H p (.lst (cutV xs lo hi)))
theorem sl_list:SlR X (rSlL X.K):=by
  intro pins s σ H x v vl vu lo hi sl Q I rx hs pl pu h
  obtain ⟨a,xs,rfl,hx,q⟩:=h
  cases rx
  obtain ⟨its,r,ht,hz⟩:=I.list hx
  have hlen:=r.length
  refine ⟨"list",_,slot_list_getitem.lookup,ht.isList.typeIs,?_⟩
  refine wpAny_getItem_list_slice ht.isList hs pl pu .none (by simp) ?_ (by rw [List.size_toArray] <;> omega)
  rw [slicePick_cut,← hlen]
  refine ⟨.ref s.heap.objs.size,_,I.laid (t':=s.toks) (o:=.lst (cutV xs lo hi)) (fun b ob q=>Heap.get?_push_of_some _ q) (Nat.le_refl _) ?_,rfl,q _ (I.hok.fresh (Nat.le_refl _))⟩
  exact ⟨Nat.le_trans (cutV_length xs lo hi) hz,_,0,(r.drop (HT.sIx xs.length 0 lo)).take (HT.sIx xs.length xs.length hi - HT.sIx xs.length 0 lo),Heap.get?_push_size _ rfl⟩

theorem call_len_seq:CallR X (.builtin "len") (fun xs H Q=>∃ p ys,xs=[.ref p]∧(SqL X.K H p ys ∨ SqT X.K H p ys)∧Q (.int ys.length) H):=by
  intro pins s σ H xs us Q I r h
  obtain ⟨p,ys,rfl,hq,q⟩:=h
  obtain ⟨u,rfl,rx⟩:=vals1 r
  cases rx
  have hn:=line63
  rcases hq with hq | hq
  · obtain ⟨its,r',pl,hz⟩:=I.list hq
    have hlen:=r'.length
    exact Calls.call_len_list pl.isList (by simp only [List.size_toArray] <;> omega) ⟨.int ys.length,H,I.tok _,⟨s.toks + 1,by rw [List.size_toArray,hlen]⟩,q⟩
  · obtain ⟨its,r',pl,hz⟩:=I.tuple hq
    have hlen:=r'.length
    exact len_tuple pl (by simp only [List.size_toArray] <;> omega) ⟨.int ys.length,H,I.tok _,⟨s.toks + 1,by rw [List.size_toArray,hlen]⟩,q⟩
theorem call_len_str:CallR X (.builtin "len") (fun xs H Q=>∃ z,xs=[.str z]∧z.length≤sizeLine∧Q (.int z.length) H):=by
  intro pins s σ H xs us Q I r h
  obtain ⟨z,rfl,hz,q⟩:=h
  obtain ⟨u,rfl,t,rfl⟩:=vals1 r
  have hn:=line63
  exact len_str (by omega) ⟨.int z.length,H,I.tok _,⟨_,rfl⟩,q⟩
theorem CallR.or {f:Value} {r r':List V→Hp→VK→Prop} (h:CallR X f r) (h':CallR X f r'):CallR X f (fun xs H Q=>r xs H Q ∨ r' xs H Q):=by
  intro pins s σ H xs us Q I rs q
  rcases q with q | q
  · exact h pins s σ H xs us Q I rs q
  · exact h' pins s σ H xs us Q I rs q
theorem call_tuple_of:CallR X (.type "tuple") (fun xs H Q=>∃ p ys,xs=[.ref p]∧((SqL X.K H p ys∧∀ l,H l=none→Q (.ref l) (upd H l (.tup ys))) ∨ (SqT X.K H p ys∧Q (.ref p) H))):=by
  intro pins s σ H xs us Q I r h
  obtain ⟨p,ys,rfl,h⟩:=h
  obtain ⟨u,rfl,rx⟩:=vals1 r
  cases rx
  rcases h with ⟨hq,q⟩ | ⟨hq,q⟩
  · obtain ⟨its,r',pl,hz⟩:=I.list hq
    have hlen:=r'.length
    refine call_tuple_list pl.isList (fun h' kp=>?_) (by simp only [List.size_toArray] <;> omega)
    have I1:Inv X pins σ H { s with heap:=h' }:=I.kept (t':=s.toks) kp
    have I2:Inv X pins σ (upd H h'.objs.size (.tup ys)) { s with heap:=h'.push { cls:=.type "tuple",data:=.seq its.toArray } } :=
      I1.laid (t':=s.toks) (fun b o e=>Heap.get?_push_of_some _ e) (Nat.le_refl _) (show ObjOk X.prog X.w _ _ _ (.tup ys) from ⟨hz,its,r',TupN.new _ _⟩)
    exact ⟨.ref h'.objs.size,_,I2,rfl,q _ (I1.hok.fresh (Nat.le_refl _))⟩
  · obtain ⟨its,r',pl,hz⟩:=I.tuple hq
    exact call_tuple_same pl ⟨.ref p,H,I,rfl,q⟩

def tyV (K:PySem.W.Frag) (T:String) (x:V) (H:Hp):Prop:=match x with
  | .str _=>T="str"
  | .int _=>T="int"
  | .ref p=>(T="list"∧∃ xs,SqL K H p xs) ∨ (T="tuple"∧((∃ o,K.lookup p=some o∧o.cls=.type "tuple"∧o.dict=none) ∨ ∃ xs,SqT K H p xs)) ∨
      (T="dict"∧((∃ kvs,H p=some (.dK kvs)) ∨ ∃ kvs,H p=some (.dT kvs))) ∨ (T="set"∧∃ S n,H p=some (.set S n))
  | _=>False
theorem tyV_is {pins:List (Addr × Obj)} {σ:St} {H:Hp} {s:Shared} {T:String} {x:V} {v:Value} (I:Inv X pins σ H s) (r:RelV x v) (ty:tyV X.K T x H) :
    s.TypeIs v T∧∀ a,v=.ref a→∃ ob,s.heap.get? a=some ob∧ob.dict=none:=by
  cases x with
  | str z =>
    obtain ⟨t,rfl⟩:=r
    cases (show T="str" from ty)
    exact ⟨typeIs_str s z t,fun _ e=>nomatch e⟩
  | int i =>
    obtain ⟨t,rfl⟩:=r
    cases (show T="int" from ty)
    exact ⟨typeIs_int s i t,fun _ e=>nomatch e⟩
  | ref p =>
    cases r
    rcases ty with ⟨rfl,xs,hq⟩ | ⟨rfl,⟨o,hk,hc,hd⟩ | ⟨xs,hq⟩⟩ | ⟨rfl,hk⟩ | ⟨rfl,S,n,hk⟩
    · obtain ⟨its,_,pl,_⟩:=I.list hq
      refine ⟨pl.isList.typeIs,fun a e=>?_⟩
      cases e
      obtain ⟨o,n,e,c,hd,_⟩:=pl
      exact ⟨o,e,hd⟩
    · refine ⟨⟨o,I.kIn p o hk,hc⟩,fun a e=>?_⟩
      cases e
      exact ⟨o,I.kIn _ o hk,hd⟩
    · obtain ⟨o,e,hc,hd⟩:=I.tupleN hq
      refine ⟨⟨o,e,hc⟩,fun a e2=>?_⟩
      cases e2
      exact ⟨o,e,hd⟩
    · have z:∃ o,s.heap.get? p=some o∧o.ExactDict:=by
        rcases hk with ⟨kvs,hk⟩ | ⟨kvs,hk⟩
        · obtain ⟨_,_,_,_,o,_,_,e,ex,_⟩:=I.hok p _ hk
          exact ⟨o,e,ex⟩
        · obtain ⟨_,_,_,_,o,_,_,e,ex,_⟩:=I.hok p _ hk
          exact ⟨o,e,ex⟩
      obtain ⟨o,e,ex⟩:=z
      refine ⟨⟨o,e,ex.1⟩,fun a e2=>?_⟩
      cases e2
      exact ⟨o,e,ex.2.1⟩
    · obtain ⟨o,_,_,_,e,ex,_⟩:=I.hok p _ hk
      refine ⟨⟨o,e,ex.1⟩,fun a e2=>?_⟩
      cases e2
      exact ⟨o,e,ex.2.1⟩
  | _=>exact False.elim ty
def tBM (K:PySem.W.Frag) (T:String) (r:V→List V→Hp→VK→Prop) (to:TE) (t:TA):TE:=fun σ H Q=>to σ H fun x H1=>tyV K T x H1∧t σ H1 fun xs H2=>r x xs H2 Q
variable {o e:Expr} {es:List Expr} {to:TE} {t:TA} {name:Str} {apos cpos:Pos} {T id:String} {r:V→List V→Hp→VK→Prop}
theorem pe_bm (pa:PlainAttrs T) (slot:Slot T name id) (hty:typeOf (.builtin id)=pure (.type "method_descriptor")) (hm:MtR X id r) (ho:PE X o to) (ha:PA X (e::es) t)
    (hbase:attributeBase o name X.env (eval o X.env)=eval o X.env:=by rfl)
    (hfew:((backTo cpos (starEach (e::es) X.env)).all (fun x=>!x.1) && (backToKw cpos (keywordEach [] X.env)).all (fun x=>x.1.isSome)
      && decide ((e::es).length + ([]:List Keyword).length + (if ([]:List Keyword).isEmpty then 0 else 1) < 30))=true:=by rfl)
    (hline:(apos.endLine == cpos.line)=true:=by rfl) (hs:starEach (e::es) X.env=(false,eval e X.env)::starEach es X.env:=by rfl) (hplain:(backTo cpos (starEach es X.env)).any (·.1)=false:=by rfl) :
    PE X (.Call (.Attribute o name apos) (e::es) [] cpos) (tBM X.K T r to t):=by
  intro pins s σ H Q I h
  refine wpAny_Call_method_late hbase hfew hline rfl (thn (ho pins s σ H _ I h) fun v s1 ⟨x,H1,I1,r1,ty,q1⟩=>?_)
  obtain ⟨h1,h2⟩:=tyV_is I1 r1 ty
  refine ⟨T,id,pa,slot,hty,h1,h2,?_⟩
  have hA:=ha cpos pins s1 σ H1 _ I1 q1
  rw [hs] at hA ⊢
  refine Calls.callWith_builtin (by show (false || (backTo cpos (starEach es X.env)).any (·.1))=false; rw [hplain] <;> rfl) (Calls.evalArgs_plain ?_)
  exact thn hA fun us s2 ⟨vs,H2,I2,r2,q2⟩=>hm pins s2 σ H2 x vs v us Q I2 r1 r2 q2
/- xs.append(e),list.index on a module's tuple .. are MtR facts of 06m -/
end
end L2

namespace L2
open PySem PySem.Spec PyProof.Rows

def MtM (X:Cx) (id:String) (r:V→List V→Hp→VK→Prop):Prop :=
  ∀ (pins:List (Addr × Obj)) (s:Shared) (σ:St) (H:Hp) (x:V) (xs:List V) (v:Value) (us:List Value) (Q:VK),Inv X pins σ H s→RelV x v→Vals xs us→r x xs H Q →
    wpAny (model X.prog X.w) X.A (call (.builtin id) (v::us)) (EP X pins σ Q) X.xe s

theorem Vals.one:∀ {x:V} {us:List Value},Vals [x] us→∃ u,us=[u]∧RelV x u
  | _,_,.cons r .nil=>⟨_,rfl,r⟩
theorem Vals.two:∀ {x y:V} {us:List Value},Vals [x,y] us→∃ u v,us=[u,v]∧RelV x u∧RelV y v
  | _,_,_,.cons r (.cons q .nil)=>⟨_,_,rfl,r,q⟩
theorem Vals.zero:∀ {us:List Value},Vals [] us→us=[]
  | _,.nil=>rfl
theorem Vals.rep {xs:List V} {us:List Value} (h:Vals xs us):∀ k:Nat,Vals (List.replicate k xs).flatten (List.replicate k us).flatten
  | 0=>.nil
  | k + 1=>by
    rw [List.replicate_succ,List.replicate_succ,List.flatten_cons,List.flatten_cons]
    exact Vals.append h (Vals.rep h k)
section
variable {X:Cx} {pins:List (Addr × Obj)} {σ:St} {H:Hp} {s:Shared} {l b:Addr} {xs ys zs:List V}

theorem Inv.lset {its its':List Value} {n:Nat} {f:Array Value→Array Value} {t':Nat} (I:Inv X pins σ H s) (hH:H l=some (.lst xs))
    (e:s.heap.get? l=some { cls:=.type "list",data:=.seq its.toArray n }) (hf:f its.toArray=its'.toArray) (hv:Vals ys its') (hz:ys.length≤sizeLine) :
    Inv X pins σ (upd H l (.lst ys)) { s with heap:=s.heap.update l (Obj.mapSeq f),toks:=t' }:=by
  have q:=PySem.IsL.update e f
  rw [hf] at q
  refine I.write (x:=l) (e:=l) (by rw [hH]; exact trivial) (.inl rfl) (fun b' u hb hu=>(Heap.get?_update_other s.heap (Obj.mapSeq f) (Ne.symm hb)).trans hu) ⟨_,q⟩ ?_
  exact ⟨hz,its',_,hv,q⟩
theorem Inv.lnew {its:List Value} {t':Nat} (I:Inv X pins σ H s) (hv:Vals ys its) (hz:ys.length≤sizeLine) :
    Inv X pins σ (upd H s.heap.objs.size (.lst ys)) { s with heap:=s.heap.push { cls:=.type "list",data:=.seq its.toArray },toks:=t' } :=
  I.laid (fun _ _ q=>Heap.get?_push_of_some _ q) (Nat.le_refl _) ⟨hz,its,0,hv,Heap.get?_push_size _ rfl⟩
theorem Inv.fresh (I:Inv X pins σ H s):H s.heap.objs.size=none:=I.hok.fresh (Nat.le_refl _)
theorem Inv.lstM (I:Inv X pins σ H s) (hH:H l=some (.lst xs)):xs.length≤sizeLine∧∃ (its:List Value) (n:Nat),Vals xs its∧xs.length=its.length∧s.heap.get? l=some { cls:=.type "list",data:=.seq its.toArray n }:=by
  obtain ⟨z,its,n,r,e⟩:=I.hok l _ hH
  exact ⟨z,its,n,r,r.length,e⟩

theorem notLongL {n:Nat} (h:n≤sizeLine):Builtin.List.listTooLong n=false:=by
  unfold Builtin.List.listTooLong
  exact decide_eq_false (by omega)
end

section
variable {X:Cx}

def rAppend:V→List V→Hp→VK→Prop:=fun x vs H Q=>∃ l xs y,x=.ref l∧vs=[y]∧H l=some (.lst xs)∧xs.length < sizeLine∧Q .non (upd H l (.lst (xs++[y])))
theorem mt_append:MtM X "list.append" rAppend:=by
  intro pins s σ H x vs v us Q I rx rv h
  obtain ⟨l,xs,y,rfl,rfl,hH,hz,q⟩:=h
  cases rx
  obtain ⟨u,rfl,ru⟩:=rv.one
  obtain ⟨z,its,n,r,hl,e⟩:=I.lstM hH
  refine call_meets F.slot_list_append ⟨_,e,rfl⟩ F.entry_list_append (F.args_list_append_2 _ _) (PySem.list_append l its.toArray n u (by rw [List.size_toArray]; omega)) ⟨e,?_⟩
  refine ⟨.non,_,I.lset (its':=its++[u]) hH e (by simp) (r.append (.cons ru .nil)) ?_,rfl,q⟩
  rw [List.length_append,List.length_singleton]
  omega

end

section
variable {prog:Program} {w:World} {A:Around} {E:Value→Shared→Prop} {s:Shared}
end

section
variable {X:Cx}
end
end L2

namespace Att
open PySem PySem.W PySem.Calls PyProof.Rows

theorem ints_of_wellAll {P:Params} {h:Heap}:∀ (ns:List Int) (vs:List Value),WellAll P h vs (ns.map WData.int)→IntsAre vs ns:=by
  intro ns
  induction ns with
  | nil =>
    intro vs w
    rw [List.map_nil] at w
    cases w
    exact .nil
  | cons n ns ih =>
    intro vs w
    rw [List.map_cons] at w
    cases w with
    | cons a b =>
      cases a
      exact .cons _ _ (ih _ b)

theorem script_of {l:OpenLaw} {n:Nat} (hn:l.most=some n) {P:Params} {h:Heap} {args:List WData} {vals:List Value}
    (hpre:l.row.toRowW.claim.pre args=true) (hwl:WellAll P h vals args) :
    ∃ a vs ns,vals=[Value.ref a]∧args=[WData.list (ns.map WData.int)]∧h.get? a=some { cls:=.type "list",data:=.seq vs.toArray }∧IntsAre vs ns∧ns.length≤n:=by
  have hsh:WShape.hasAll [] args [.list .int]=true:=(pre_splitW hpre).1
  have hc:l.pre.holds [] { args:=args }=true:=(pre_splitW hpre).2
  obtain ⟨d,r,rfl,h1,h2⟩:=hasAllW_cons hsh
  obtain rfl:=hasAllW_nil h2
  obtain ⟨xs,rfl,h3⟩:=hasW_list h1
  obtain ⟨ns,rfl⟩:=items_int h3
  have hlen:ns.length≤n:=by
    unfold OpenLaw.pre at hc
    have h4:(WTm.not (.lt (.lit (.int (n:Int))) (.len (.arg 0)))).holds [] { args:=[.list (ns.map .int)] }=true:=by
      have h4:=(holds_andW hc).1
      rw [hn] at h4
      exact h4
    have h5:=condW_of h4 (w_not (w_lt w_lit (w_len_list (w_arg rfl))))
    rw [List.length_map] at h5
    refine Nat.le_of_not_lt fun q=>?_
    have q':(n:Int) < ((ns.length:Nat):Int):=by omega
    first
      | (rw [decide_eq_true q'] at h5; exact absurd h5 (by decide))
      | (simp at h5; omega)
  cases hwl with
  | cons w1 w2 =>
    cases w2
    cases w1 with
    | list ho hall=>exact ⟨_,_,ns,rfl,rfl,ho,ints_of_wellAll ns _ hall,hlen⟩

theorem post_true (l:OpenLaw) (args:List WData):l.row.toRowW.claim.post args (.bool true) args=true :=
  postW_of (r:=l.row.toRowW) (X:=(true == true))
    (show WShape.has [] (.bool true) .bool=true by first | rfl | decide | simp [WShape.has,WShape.arms,WShape.armsAll])
    (show (WTm.eq .res (.lit (.bool true))).value [] { args:=args,res:=some (.bool true),after:=args }=some (.bool (true == true)) from w_eq_bool (w_res rfl) w_lit) rfl

theorem attach_call {l:OpenLaw} {n:Nat} {q:Program} {loose:List Str} {XP:(Str→Option Value)→Heap→Prop} {YP:World→Heap→Prop} {d:DefRec}
    (hn:l.most=some n) (hdf:d.params.defaults=[])
    (call:∀ (w:World) (s₀ s₁:Shared) (mg mb:Str→Option Value) (fa:Addr) (o:Obj) (pm cd doc:Value) (a:Addr) (vs:List Value) (ns:List Int),
      Ground q loose [] XP w s₀ mg mb s₁.heap→YP w s₁.heap →
      s₁.heap.get? fa=some o→o.data=.func (docDef d.name d.params d.body d.scope pm cd doc)→s₁.heap.CodeRec cd d.name→mg d.name=some (.ref fa) →
      s₁.heap.get? a=some { cls:=.type "list",data:=.seq vs.toArray }→IntsAre vs ns→ns.length≤n→s₁.gens=#[] →
      codeAny (model l.prog w) callerA (.call (.ref fa) ⟨[.ref a],[]⟩) (fun r s'=>r=.ok (.ret (.bool true))∧OldK s₁.heap s'.heap∧s'.os=s₁.os∧AllBare s'.gens) s₁) :
    WalkO q loose XP YP l.row.toRowW d [] (fun f vs=>PySem.call f vs):=by
  intro w s₀ s₁ mg mb G Y fa o pm cd doc dV kV ho hd hcd hD hmg hg args vals as hpre hlay hrd hwl hlo
  obtain rfl:dV=.none:=Dflts.none hD hdf
  obtain rfl:kV=.none:=Dflts.noKw hD
  obtain ⟨a,vs,ns,rfl,rfl,hobj,hints,hlen⟩:=script_of hn hpre hwl
  refine enter_call (codeAny_mono (call w s₀ s₁ mg mb fa o pm cd doc a vs ns G Y ho (fd_plain hd) hcd hmg hobj hints hlen hg) fun r s' hq=>?_)
  obtain ⟨rfl,h2,h3,h4⟩:=hq
  exact ⟨.inl ⟨.bool true,.bool true,[],rfl,fun _=>rfl,.bool true,post_true l _,fun _=>⟨List.Pairwise.nil,fun _ hm=>(nomatch hm)⟩⟩,h2,h3,h4⟩

section
variable {prog:Program} {w:World} {A:Around} {E:Value→Shared→Prop} {s:Shared} {K:Frag}

def ledger (h:Heap) (L d:Addr):List (Addr × Obj):=(List.range h.objs.size).filterMap fun a=>if a=L ∨ a=d then none else (h.get? a).map fun o=>(a,o)
end
end Att

namespace L2
open PySem PySem.Spec PyProof.Rows

theorem vals_ints:∀ {vs:List Value} {ns:List Int},IntsAre vs ns→Vals (ns.map V.int) vs
  | _,_,.nil=>.nil
  | _,_,.cons n t h=>.cons ⟨t,rfl⟩ (vals_ints h)

def Only (H:Hp):Prop:=∀ b,H b=none ∨ ∃ o xs,H b=some (.frz o (.lst xs))

theorem law_call {P:Program} {w:World} {K:PySem.W.Frag} {mg mb:Str→Option Value} {CX:CXT} {k:Nat} {fa a:Addr} {fd:FuncData} {x:Str} {sp:Sp} {s₁:Shared} {vs:List Value} {ns:List Int}
    (KX:K.In s₁.heap) (hns:s₁.heap.Ns mainGlobals mg) (hb:s₁.heap.Ns builtinsNs mb) (hbb:∀ x:Str,x ≠ "__name__"→mb x=bootBuiltins x) (hlim:s₁.heap.NoLimit) (hg:s₁.gens=#[])
    (ha:s₁.heap.get? a=some { cls:=.type "list",data:=.seq vs.toArray }) (hi:IntsAre vs ns) (hl:ns.length≤sizeLine) (hr:Room k callerA)
    (F:∀ base:Heap,K.In base→base.Ns mainGlobals mg→FnOk P w K mg base CX k fa fd [x] sp) (hbind:∀ (s:Shared) (u:Value),BindsTo s fd ⟨[u],[]⟩ [(x,u)])
    (hsp:∀ H:Hp,Only H→SqL K H a (ns.map V.int)→sp [.ref a] H (fun v _=>v=.bl true) fun _ _ _=>False)
    (hCX:∀ H e s',CX [] H s₁ (fun _ _ _=>False) e s'→False) :
    codeAny (model P w) callerA (.call (.ref fa) ⟨[.ref a],[]⟩) (fun r s'=>r=.ok (.ret (.bool true))∧OldK s₁.heap s'.heap∧s'.os=s₁.os∧AllBare s'.gens) s₁:=by
  have rv:=vals_ints hi
  have lenV:=hi.length
  -- from an abstract heap in which nothing but the script may be tracked
  have core:∀ H:Hp,Only H→SqL K H a (ns.map V.int)→HOk P w H s₁.heap→(∀ b,H b ≠ none→b=a)→(H a ≠ none→K.lookup a=none) →
      codeAny (model P w) callerA (.call (.ref fa) ⟨[.ref a],[]⟩) (fun r s'=>r=.ok (.ret (.bool true))∧OldK s₁.heap s'.heap∧s'.os=s₁.os∧AllBare s'.gens) s₁:=by
    intro H hO hS hok hA hK
    have base_of:∀ {b:Addr} {o:Obj},s₁.heap.get? b=some o→H b=none→(hidT s₁.heap H).get? b=some o:=fun e n=>hidT_get e n
    have noA:∀ {b:Addr} {o:Obj} {es:Array DictEntry} {ep:Nat},s₁.heap.get? b=some o→o.data=.dict es ep→H b=none:=fun {b o es ep} e d=>by
      cases q:H b with
      | none=>rfl
      | some u =>
        have e':b=a:=hA b (by rw [q]; simp)
        subst e'
        rw [ha] at e; cases e
        have d':Data.seq vs.toArray _=Data.dict es ep:=d
        cases d'
    have nsK:∀ {b:Addr} {m:Str→Option Value},s₁.heap.Ns b m→(hidT s₁.heap H).Ns b m:=fun {b m} ⟨o,es,ep,e,d,r⟩=>⟨o,es,ep,base_of e (noA e d),d,r⟩
    have hKb:K.In (hidT s₁.heap H):=fun b o e=>base_of (KX b o e) (by
      cases q:H b with
      | none=>rfl
      | some u =>
        have e':b=a:=hA b (by rw [q]; simp)
        subst e'
        rw [hK (by rw [q]; simp)] at e; cases e)
    have hM:Mod K mg (hidT s₁.heap H):=⟨hKb,nsK hns,⟨mb,nsK hb,hbb⟩,let ⟨mc,h1,h2⟩:=hlim; ⟨mc,nsK h1,h2⟩⟩
    have e0:Env0 P w K mg (hidT s₁.heap H) callerA [] s₁ H:=⟨rfl,hM,fun b o e=>of_hidT e,Nat.le_of_eq (hidT_size _ _),trivial,fun b hb=>absurd (show b ∈ ([]:List Addr) from hb) (by simp),hok,.of_eq hg⟩
    refine codeAny_mono ((F _ hKb (nsK hns)).run callerA [] s₁ H ⟨[.ref a],[]⟩ [.ref a] [.ref a] _ _ hr e0 (hbind s₁ (.ref a)) (.cons rfl .nil) (hsp H hO hS)) fun r s' h=>?_
    cases r with
    | error e=>exact (hCX H e s' h).elim
    | ok fl =>
      cases fl with
      | next=>exact False.elim h
      | brk=>exact False.elim h
      | cont=>exact False.elim h
      | ret u =>
        obtain ⟨v,H',os,bare,un,hok',r',q⟩:=h
        have q':v=.bl true:=q
        subst q'
        obtain rfl:u=Value.bool true:=r'
        refine ⟨rfl,OldK.of_keep fun b o e=>?_,os,bare⟩
        cases q:H b with
        | none=>exact un.keep b o e q (by intro z; exact absurd (show b ∈ ([]:List Addr) from z) (by simp)) (by simp)
        | some u =>
          rcases hO b with z | ⟨ob,xs,z⟩
          · rw [q] at z; cases z
          · have z2:=un.frzs b ob _ z
            obtain ⟨e1,_⟩:=hok b _ z
            obtain ⟨e2,_⟩:=hok' b _ z2
            rw [e] at e1; cases e1
            exact e2
  cases hk:K.lookup a with
  | some o =>
    -- the script is one of the module's own objects
    have e:=KX a o hk
    rw [ha] at e
    cases e
    refine core (fun _=>none) (fun _=>.inl rfl) (.inr ⟨_,vs.toArray,_,hk,rfl,rfl,rfl,by rw [List.size_toArray,lenV]; exact hl,by simpa using rv⟩) (fun b u z=>by have z':(none:Option HO)=some u:=z; cases z') (fun b z=>absurd rfl z) fun z=>absurd rfl z
  | none =>
    refine core (fun b=>if b=a then some (.frz { cls:=.type "list",data:=.seq vs.toArray } (.lst (ns.map V.int))) else none) (fun b=>?_) (.inl (.inr ⟨{ cls:=.type "list",data:=.seq vs.toArray },if_pos rfl⟩)) (fun b u z=>?_) (fun b z=>?_) fun _=>hk
    · by_cases hb:b=a
      · exact .inr ⟨_,_,if_pos hb⟩
      · exact .inl (if_neg hb)
    · by_cases hb:b=a
      · have z':=(if_pos hb).symm.trans z
        cases z'
        subst hb
        exact ⟨ha,by rw [List.length_map]; exact hl,vs,_,rv,ha⟩
      · have z':=(if_neg hb).symm.trans z
        cases z'
    · by_cases hb:b=a
      · exact hb
      · exact absurd (if_neg hb) z
end L2

namespace L2
open PySem PySem.Spec PyProof.Rows

abbrev KOf {K:PySem.W.Frag} {h:Heap} (_:K.In h):PySem.W.Frag:=K

theorem walk_of {l:PySem.W.OpenLaw} {n k:Nat} {q:Program} {loose:List Str} {XP:(Str→Option Value)→Heap→Prop} {YP:World→Heap→Prop} {d:DefRec} {K:Params→PySem.W.Frag} {CX:World→CXT} {sp:World→Sp} {x:Str}
    (hn:l.most=some n) (hn2:n≤sizeLine) (hdf:d.params.defaults=[]) (hr:Room k callerA)
    (hY:∀ (w:World) (h:Heap),YP w h→(K w.params).In h)
    (F:∀ (w:World) (mg:Str→Option Value) (fa:Addr) (h:Heap),(K w.params).In h→h.Ns mainGlobals mg→mg d.name=some (.ref fa) →
      ∃ fd:FuncData,(∀ (s:Shared) (u:Value),BindsTo s fd ⟨[u],[]⟩ [(x,u)]) ∧
        ∀ base:Heap,(K w.params).In base→base.Ns mainGlobals mg→FnOk l.prog w (K w.params) mg base (CX w) k fa fd [x] (sp w))
    (hsp:∀ (w:World) (H:Hp) (a:Addr) (ns:List Int),ns.length≤n→Only H→SqL (K w.params) H a (ns.map V.int)→sp w [.ref a] H (fun v _=>v=.bl true) fun _ _ _=>False)
    (hCX:∀ (w:World) (H:Hp) (s:Shared) (e:Value) (s':Shared),CX w [] H s (fun _ _ _=>False) e s'→False) :
    PySem.W.WalkO q loose XP YP l.row.toRowW d [] (fun f vs=>PySem.call f vs):=by
  refine Att.attach_call hn hdf fun w s₀ s₁ mg mb fa o pm cd doc a vs ns G Y ho hd hcd hmg hobj hints hlen hg=>?_
  have KX:=hY w _ Y
  obtain ⟨fd,hb,hF⟩:=F w mg fa _ KX G.T.g hmg
  exact law_call KX G.T.g G.T.b G.T.builtins G.T.nolimit hg hobj hints (Nat.le_trans hlen hn2) hr hF hb (fun H hO hS=>hsp w H a ns hlen hO hS) fun H e s'=>hCX w H s₁ e s'
end L2

/- THE LAST THEOREM (shape; LID,My.* are yours):
   My.Adr: a structure of the addresses that your layer names (classes,functions); My.Txt K t: a structure (Prop) of the equations over K;
   My.txt_mk:{K} {implicit addresses ..} (e1:nsIn K mainGlobals "law"=some (some (.ref f))) (e2:K.lookup f=some ⟨oc,od,.func (fnOf "law" "law" params body scope dV kV doc pm an cdv ct),sl⟩) (e3:codeIn K cdv "law"=true) ..:∃ t,My.Txt K t

set_option maxRecDepth 100000 in
set_option maxHeartbeats 0 in
theorem PySem.Challenge.cw_LID_holds:PySem.Challenge.rw_LID.Holds:=by
  w_on; o_law; k_head; (case hw=>w_witness2)
  k_fill
  refine L2.walk_of (l:=PySem.Challenge.rw_LID) (n:=63) (k:=40) (x:="script") (CX:=fun w=>..) (sp:=fun _=>My.sp_law) rfl (by decide) rfl ⟨rfl,by decide,by decide⟩ (fun w h Y=>PySem.W.kIn_of Y) ?F ?S ?C
  case F =>
    intro w mg fa h KX G hmg
    have T:∃ t,My.Txt (L2.KOf KX) t:=by
      dsimp only [L2.KOf]                          -- K must stand as «<heap const> w.params» for k_is
      refine' My.txt_mk ?e1 ?e2 ?e3 ..
      (case e1=>PySem.W.k_is)                    -- in the order: a name -> its address -> its object -> its parts
      (case e2=>PySem.W.k_is)
      ..
    obtain ⟨t,T⟩:=T
    have e0:=hmg.symm.trans (PySem.W.mg_of KX G T.law)
    cases e0                                       -- fa is the law's own address
    exact ⟨_,fun s u=>.of_eq rfl,fun base kb nb=>My.law_fn T kb nb⟩     -- if «.of_eq rfl» comes too early: refine' ⟨_,?b,fun base kb nb=>My.law_fn T kb nb⟩; exact fun s u=>.of_eq rfl
  case S=>exact fun w H a ns hl hO hS=>..
  case C=>exact ..
(the tactic k_is has no namespace: write k_is) -/

namespace L2
open PySem PySem.Spec PyProof.Rows

def defArgs (s:Stmt):Arguments:=match s with
  | .FunctionDef _ a _ _ _ _ _ _ _ _=>a
  | _=>{ posonlyargs:=[],args:=[],vararg:=none,kwonlyargs:=[],kw_defaults:=[],kwarg:=none,defaults:=[] }
def defBody (s:Stmt):List Stmt:=match s with
  | .FunctionDef _ _ b _ _ _ _ _ _ _=>b
  | _=>[]
def defScope (s:Stmt):Scope:=match s with
  | .FunctionDef _ _ _ _ _ _ sc _ _ _=>sc
  | _=>{ kind:=.function,names:=[],isGenerator:=false,isCoroutine:=false }

abbrev CX0:CXT:=fun _ _ _ _ _ _=>False
abbrev E0:XK:=fun _ _ _=>False
theorem pass0 {X:Cx}:Passes CX0 X E0:=fun _ _ _ _ _ _ _ h=>h.elim

structure Fun (K:PySem.W.Frag) (x qual:Str) (st:Stmt) (f:Addr) (fd:FuncData):Prop where
  ex:∃ (oc:Value) (od:Option Addr) (kV doc pm:Value) (an:Option Addr) (cdv ct:Value) (osl:Array (Option Value)),
    fd=PySem.W.fnOf x qual (defArgs st) (defBody st) (defScope st) .none kV doc pm an cdv ct∧K.lookup f=some ⟨oc,od,.func fd,osl⟩∧PySem.W.codeIn K cdv qual=true
  kp:PySem.W.keepIn K (.ref f)=true
section
variable {P:Program} {w:World} {K:PySem.W.Frag} {mg:Str→Option Value} {base:Heap}
theorem Fun.ok {x qual:Str} {st:Stmt} {f:Addr} {fd:FuncData} {N ps:List Str} {k:Nat} {sp:Sp} (F:Fun K x qual st f fd) (S:FnScope N ps (defScope st)) (len:∀ vs H Q E,sp vs H Q E→vs.length=ps.length)
    (hbody:∀ (cdv:Value) (A:Around) (outer:List Env) (s:Shared) (H:Hp) (vs:List V) (Q:VK) (E:XK),Room k (A.deeper (envOfC qual (defScope st) s.heap.objs.size f cdv))→sp vs H Q E →
      ∃ t,PSs (cxOf CX0 P w K mg base N qual (defScope st) f cdv A outer s H E).nox (defBody st) t∧t { nx:=fun _ H'=>Q .non H',rt:=Q } (start N vs) H):FnOk P w K mg base CX0 (k + 1) f fd ps sp:=by
  obtain ⟨oc,od,kV,doc,pm,an,cdv,ct,osl,rfl,lk,hcd⟩:=F.ex
  refine fn_of lk hcd S len fun A outer s H vs Q E hr hsp=>?_
  obtain ⟨t,h,q⟩:=hbody cdv A outer s H vs Q E hr hsp
  exact ⟨t,h.nox,q⟩
theorem Fun.binds {x qual:Str} {st:Stmt} {f:Addr} {fd:FuncData} {ps:List Str} (F:Fun K x qual st f fd)
    (h:∀ (kV doc pm:Value) (an:Option Addr) (cdv ct:Value) (us:List Value),us.length=ps.length→bindArgs (PySem.W.fnOf x qual (defArgs st) (defBody st) (defScope st) .none kV doc pm an cdv ct) ⟨us,[]⟩=pure (ps.zip us)):Binds K fd ps []:=by
  obtain ⟨oc,od,kV,doc,pm,an,cdv,ct,osl,rfl,lk,hcd⟩:=F.ex
  exact .all (h kV doc pm an cdv ct)
theorem fun_mk {x qual:Str} {st:Stmt} {f:Addr} {oc:Value} {od an:Option Addr} {osl:Array (Option Value)} {kV doc pm cdv ct:Value} (l:K.lookup f=some ⟨oc,od,.func (PySem.W.fnOf x qual (defArgs st) (defBody st) (defScope st) .none kV doc pm an cdv ct),osl⟩)
    (c:PySem.W.codeIn K cdv qual=true) (k:PySem.W.keepIn K (.ref f)=true):Fun K x qual st f (PySem.W.fnOf x qual (defArgs st) (defBody st) (defScope st) .none kV doc pm an cdv ct):=⟨⟨oc,od,kV,doc,pm,an,cdv,ct,osl,rfl,l,c⟩,k⟩
end
theorem small1000 {n:Nat} (h:n≤1000):n < sizeLine:=Nat.lt_of_le_of_lt h (by decide)

section
variable {X:Cx}
theorem pv (i:Nat) {x:Str} {pos:Pos} (hN:X.N[i]?=some x:=by rfl) (hv:Vis X.env.scope x:=by first | exact Or.inl rfl | exact Or.inr (Or.inl rfl) | exact Or.inr (Or.inr rfl)) (hd:(x == ("__debug__":Str))=false:=by decide)
    (hcd:(x == ("__classdict__":Str))=false:=by decide):PE X (.Name x pos) (tVar i):=pe_var hN hv hd hcd
end

def Same (H H':Hp):Prop:=∀ b o,H b=some o→H' b=some o
theorem Same.refl (H:Hp):Same H H:=fun _ _ h=>h
theorem Same.trans {H H1 H2:Hp} (a:Same H H1) (b:Same H1 H2):Same H H2:=fun c o h=>b c o (a c o h)
theorem Same.free {H H':Hp} (e:Same H H') {l:Addr} (h:H' l=Option.none):H l=Option.none:=by
  cases q:H l with
  | none=>rfl
  | some o =>
    rw [e l o q] at h
    cases h
theorem Same.seq {K:PySem.W.Frag} {H H':Hp} {a:Addr} {xs:List V} (e:Same H H') (h:SqL K H a xs):SqL K H' a xs:=by
  rcases h with (h | ⟨o,h⟩) | h
  · exact .inl (.inl (e _ _ h))
  · exact .inl (.inr ⟨o,e _ _ h⟩)
  · exact .inr h

end L2

set_option Elab.async false
set_option linter.all false
set_option maxRecDepth 100000
namespace L2
open PySem PySem.Spec PyProof.Rows

theorem go_sign {M:Model} {A:Around} {E:Value→Shared→Prop} {s:Shared} {tg:Expr} {it:Value} {z:Str} {t:Tok} {Q:Unit→Shared→Prop} (hQ:Q () s) :
    wpAny M A (letOwnedTupleGo tg it (.str z t)) Q E s:=by
  unfold letOwnedTupleGo
  cases tg <;> first
    | exact wpAny_pure hQ
    | (cases it <;> exact wpAny_pure hQ)
def Its (z:Str):It:=⟨fun i _=>i < z.cps.size,fun i H x H'=>H'=H∧∃ c,z.cps[i]?=some c∧x=.str ⟨#[c]⟩,fun i _=>z.cps.size≤i⟩
theorem turn_sign {P:Program} {w:World} {K:PySem.W.Frag} {tg:Expr} {ty:String} (it:Addr) (z:Str) (t:Tok)
    (W:∀ A:Around,A.handled=none→Walks P w A it [it] [it] z.cps.size (SignAt z) (fun i h=>h.IsStrIter it ty z t i))
    (S:∀ (A:Around) (i:Nat) (s:Shared) (Q:Value→Shared→Prop) (E:Value→Shared→Prop),s.heap.IsStrIter it ty z t i→Q (.ref it) s→wpAny (model P w) A (pyIter (.ref it)) Q E s) :
    Turn P w K tg (Its z) [it] it (fun i h=>i≤z.cps.size∧h.IsStrIter it ty z t i) where
  mem:=by simp
  obj:=fun i h st b hb=>by
    obtain rfl:b=it:=by simpa using hb
    obtain ⟨_,o,e,c,d⟩:=st
    exact ⟨o,e,fun v q=>by rw [d] at q; cases q⟩
  keep:=fun i h h' st k=>by
    obtain ⟨l,o,e,r⟩:=st
    exact ⟨l,o,k it (by simp) o e,r⟩
  item:=by
    intro X hP hw hK hc i pins s σ H E I hf st hg
    subst hP hw hK
    obtain ⟨f0,f1,f2,f3,f4,f5⟩:=hf it (by simp)
    refine (W X.A (I.ok.hd hc)).item i s _ _ hg st.2 fun v h' tk hv st' kk=>?_
    obtain ⟨c,u,hx,rfl⟩:=hv
    have I1:Inv X pins σ H { s with heap:=h',toks:=tk }:=I.turned (fun b o hb e=>kk b o (by simpa using hb) e) f0 f1 f3 f4 f5
    exact ⟨_,rfl,go_sign ⟨.str ⟨#[c]⟩,H,I1,⟨u,rfl⟩,⟨rfl,c,hx,rfl⟩,⟨hg,st'⟩,fun b hb=>(hf b hb).1⟩⟩
  done:=by
    intro X hP hw hK hc i pins s σ H E I hf st hg
    subst hP hw hK
    obtain ⟨f0,f1,f2,f3,f4,f5⟩:=hf it (by simp)
    have e:i=z.cps.size:=Nat.le_antisymm st.1 hg
    subst e
    exact (W X.A (I.ok.hd hc)).done s _ _ st.2 fun h' tk kk=>⟨rfl,I.turned (fun b o hb e=>kk b o (by simpa using hb) e) f0 f1 f3 f4 f5⟩
  self:=fun A i s Q E st h=>S A i s Q E st.2 h

def iAny (K:PySem.W.Frag) (tl:TE):TI:=fun σ H R=>tl σ H fun x H1=>(∃ a,x=.ref a∧(∃ xs,SqL K H1 a xs)∧R (Itl K a) H1) ∨ (∃ a,x=.ref a∧(∃ xs,SqT K H1 a xs)∧R (Itt K a) H1) ∨ ∃ z,x=.str z∧R (Its z) H1
theorem pi_any {X:Cx} {tg l:Expr} {tl:TE} (hl:PE X l tl):PI X tg l (iAny X.K tl):=by
  intro pins s σ H R I h
  refine thn (hl pins s σ H _ I h) fun v s1 ⟨x,H1,I1,r1,q1⟩=>?_
  rcases q1 with ⟨a,rfl,⟨xs,hq⟩,q⟩ | ⟨a,rfl,⟨xs,hq⟩,q⟩ | ⟨z,rfl,q⟩
  · cases r1
    obtain ⟨its,rv,p,hz⟩:=I1.list hq
    refine wpAny_pyIter_list p.isList ⟨s1.heap.objs.size,[s1.heap.objs.size],_,_,H1,rfl,I1.kept (t':=s1.toks) fun b o e=>Heap.get?_push_of_some _ e,turn_list a _,⟨_,Heap.get?_push_size _ rfl,rfl,rfl⟩,fun b hb=>?_,q⟩
    obtain rfl:b=s1.heap.objs.size:=by simpa using hb
    exact I1.fpOk (Nat.le_refl _) (I1.hok.fresh (Nat.le_refl _))
  · cases r1
    obtain ⟨its,rv,p,hz⟩:=I1.tuple hq
    refine wpAny_pyIter_tuple (show s1.heap.IsTuple a its.toArray from p) ⟨s1.heap.objs.size,[s1.heap.objs.size],_,_,H1,rfl,I1.kept (t':=s1.toks) fun b o e=>Heap.get?_push_of_some _ e,turn_tuple a _,⟨_,Heap.get?_push_size _ rfl,rfl,rfl⟩,fun b hb=>?_,q⟩
    obtain rfl:b=s1.heap.objs.size:=by simpa using hb
    exact I1.fpOk (Nat.le_refl _) (I1.hok.fresh (Nat.le_refl _))
  · obtain ⟨t,rfl⟩:=r1
    have fin:∀ (o:Obj) (ty:String),(∀ A:Around,A.handled=none→Walks X.prog X.w A s1.heap.objs.size [s1.heap.objs.size] [s1.heap.objs.size] z.cps.size (SignAt z) (fun i h=>h.IsStrIter s1.heap.objs.size ty z t i)) →
        (∀ (A:Around) (i:Nat) (s:Shared) (Q:Value→Shared→Prop) (E:Value→Shared→Prop),s.heap.IsStrIter s1.heap.objs.size ty z t i→Q (.ref s1.heap.objs.size) s→wpAny (model X.prog X.w) A (pyIter (.ref s1.heap.objs.size)) Q E s) →
        (s1.heap.push o).IsStrIter s1.heap.objs.size ty z t 0→PIE X pins σ tg R (.ref s1.heap.objs.size) { s1 with heap:=s1.heap.push o }:=fun o ty W S st=>by
      refine ⟨s1.heap.objs.size,[s1.heap.objs.size],_,Its z,H1,rfl,I1.kept (t':=s1.toks) fun b o e=>Heap.get?_push_of_some _ e,turn_sign _ z t W S,⟨Nat.zero_le _,st⟩,fun b hb=>?_,q⟩
      obtain rfl:b=s1.heap.objs.size:=by simpa using hb
      exact I1.fpOk (Nat.le_refl _) (I1.hok.fresh (Nat.le_refl _))
    cases ha:z.cps.all (· < 128)
    · exact wpAny_pyIter_wide ha (fin _ "str_iterator" (fun A hA=>Walks.strWide hA _ z t) (fun _ _ _ _ _ st h=>wpAny_pyIter_striter_wide st h) ⟨_,Heap.get?_push_size _ rfl,rfl,rfl⟩)
    · exact wpAny_pyIter_ascii ha (fin _ "str_ascii_iterator" (fun A hA=>Walks.strAscii hA _ z t) (fun _ _ _ _ _ st h=>wpAny_pyIter_striter_ascii st h) ⟨_,Heap.get?_push_size _ rfl,rfl,rfl⟩)

structure BP where
  cl:List (Str × Addr)
  C:Addr
  s3:Shared
  H3:Hp
  ex:List Addr
  pn:List (Addr × Obj)
def blk (X:Cx) (scope:Scope) (N':List Str) (b:BP):Cx where
  prog:=X.prog
  w:=X.w
  K:=X.K
  mg:=X.mg
  base:=X.base
  A:=X.A
  N:=N'
  s₀:=b.s3
  H₀:=b.H3
  env:=compEnvC scope b.cl b.C X.env
  outer:=X.stack
  stack:=X.stack
  ex:=b.ex
  fn:=fun _=>false
  calm:=X.calm
  pn:=b.pn
  xe:=fun _ _=>False

theorem closure_go {env:Env}:∀ (names:List (Str × NameKind)) (acc:List (Str × Addr)),(∀ x ∈ names,x.2=.free→∃ c,env.cells.lookup x.1=some c) →
    (∀ n c,acc.lookup n=some c→env.cells.lookup n=some c) →
    ∃ cl:List (Str × Addr),(forIn names acc (fun x cs=>match x with | (name,kind)=>if kind == .free then do let a ← cellOf env name; pure (ForInStep.yield ((name,a)::cs)) else pure (ForInStep.yield cs)):Sem (List (Str × Addr)))=pure cl ∧
      (∀ n c,cl.lookup n=some c→env.cells.lookup n=some c)∧(∀ n,((∃ c,acc.lookup n=some c) ∨ (n,NameKind.free) ∈ names)→∃ c,cl.lookup n=some c)
  | [],acc,_,ha=>⟨acc,rfl,ha,fun n h=>h.elim id fun z=>absurd z (by simp)⟩
  | (n,k)::r,acc,h,ha=>by
    by_cases hk:k=.free
    · subst hk
      obtain ⟨c,hc⟩:=h (n,.free) (List.mem_cons_self ..) rfl
      obtain ⟨cl,e,h1,h2⟩:=closure_go r ((n,c)::acc) (fun x hx=>h x (List.mem_cons_of_mem _ hx)) (fun m d hm=>by
        rw [List.lookup_cons] at hm
        cases hb:m == n with
        | true =>
          rw [hb] at hm
          obtain rfl:m=n:=by simpa using hb
          cases hm; exact hc
        | false=>rw [hb] at hm; exact ha m d hm)
      refine ⟨cl,?_,h1,fun m hm=>h2 m ?_⟩
      · rw [List.forIn_cons]
        have ec:cellOf env n=pure c:=by unfold cellOf; rw [hc]
        simp only [beq_self_eq_true,if_true,ec]
        exact e
      · rcases hm with ⟨d,hd⟩ | hm
        · left
          rw [List.lookup_cons]
          cases hb:m == n with
          | true=>exact ⟨c,rfl⟩
          | false=>exact ⟨d,hd⟩
        · rcases List.mem_cons.mp hm with z | z
          · left
            cases z
            exact ⟨c,by simp [List.lookup_cons]⟩
          · exact .inr z
    · obtain ⟨cl,e,h1,h2⟩:=closure_go r acc (fun x hx=>h x (List.mem_cons_of_mem _ hx)) ha
      refine ⟨cl,?_,h1,fun m hm=>h2 m (hm.imp id fun z=>?_)⟩
      · rw [List.forIn_cons]
        have eb:(k == NameKind.free)=false:=by simpa using hk
        simp only [eb,Bool.false_eq_true,if_false]
        exact e
      · rcases List.mem_cons.mp z with z | z
        · cases z; exact absurd rfl hk
        · exact z
theorem closure_of {env:Env} {scope:Scope} (h:∀ x ∈ scope.names,x.2=.free→∃ c,env.cells.lookup x.1=some c) :
    ∃ cl,closureFor scope env=pure cl∧(∀ n c,cl.lookup n=some c→env.cells.lookup n=some c)∧∀ n,(n,NameKind.free) ∈ scope.names→∃ c,cl.lookup n=some c:=by
  obtain ⟨cl,e,h1,h2⟩:=closure_go (env:=env) scope.names [] h (fun n c z=>by simp at z)
  refine ⟨cl,?_,h1,fun n z=>h2 n (.inr z)⟩
  unfold closureFor
  refine Eq.trans ?_ (congrArg (fun m=>m >>= fun r=>(pure r:Sem (List (Str × Addr)))) e)
  rfl

theorem relabel_back {env:Env} {x:Str} {k:NameKind}:∀ {names:List (Str × NameKind)},
    (names.map fun (n,k)=>if (k == NameKind.free && env.scope.kind == .function && env.kindOf n == some .cell) then (n,NameKind.cell) else (n,k)).lookup x=some k →
    ∃ k0,(x,k0) ∈ names∧(k0=k ∨ (k0=.free∧k=.cell))
  | [],h=>by simp at h
  | (n,j)::r,h=>by
    rw [List.map_cons,List.lookup_cons] at h
    dsimp only at h
    by_cases hc:(j == NameKind.free && env.scope.kind == .function && env.kindOf n == some .cell)=true
    · rw [if_pos hc] at h
      dsimp only at h
      cases hb:x == n with
      | true =>
        rw [hb] at h
        obtain rfl:x=n:=by simpa using hb
        cases h
        have hj:j=.free:=by simp only [Bool.and_eq_true,beq_iff_eq] at hc; exact hc.1.1
        exact ⟨j,List.mem_cons_self ..,.inr ⟨hj,rfl⟩⟩
      | false =>
        rw [hb] at h
        obtain ⟨k0,h1,h2⟩:=relabel_back (names:=r) h
        exact ⟨k0,List.mem_cons_of_mem _ h1,h2⟩
    · rw [if_neg hc] at h
      dsimp only at h
      cases hb:x == n with
      | true =>
        rw [hb] at h
        obtain rfl:x=n:=by simpa using hb
        cases h
        exact ⟨_,List.mem_cons_self ..,.inl rfl⟩
      | false =>
        rw [hb] at h
        obtain ⟨k0,h1,h2⟩:=relabel_back (names:=r) h
        exact ⟨k0,List.mem_cons_of_mem _ h1,h2⟩
theorem relabel_free {env:Env} {x:Str}:∀ {names:List (Str × NameKind)},names.lookup x=some .free →
    (names.map fun (n,k)=>if (k == NameKind.free && env.scope.kind == .function && env.kindOf n == some .cell) then (n,NameKind.cell) else (n,k)).lookup x=some .cell ∨
    (names.map fun (n,k)=>if (k == NameKind.free && env.scope.kind == .function && env.kindOf n == some .cell) then (n,NameKind.cell) else (n,k)).lookup x=some .free
  | [],h=>by simp at h
  | (n,j)::r,h=>by
    rw [List.lookup_cons] at h
    rw [List.map_cons,List.lookup_cons]
    dsimp only
    cases hb:x == n with
    | true =>
      rw [hb] at h
      cases h
      by_cases hc:(NameKind.free == NameKind.free && env.scope.kind == .function && env.kindOf n == some .cell)=true
      · rw [if_pos hc]; dsimp only; rw [hb]; exact .inl rfl
      · rw [if_neg hc]; dsimp only; rw [hb]; exact .inr rfl
    | false =>
      rw [hb] at h
      have ih:=relabel_free (env:=env) (names:=r) h
      by_cases hc:(j == NameKind.free && env.scope.kind == .function && env.kindOf n == some .cell)=true
      · rw [if_pos hc]; dsimp only; rw [hb]; exact ih
      · rw [if_neg hc]; dsimp only; rw [hb]; exact ih

def frChk (names outer:List (Str × NameKind)) (Nx:List Str):List Str→List (Option Nat)→Bool
  | [],[]=>true
  | x::r,none::f=>frChk names outer Nx r f
  | x::r,some j::f=>(names.lookup x == some .free) && (Nx[j]? == some x) && (outer.lookup x == some .cell) && frChk names outer Nx r f
  | _,_=>false
theorem frChk_get {names outer:List (Str × NameKind)} {Nx:List Str}:∀ {N':List Str} {fr:List (Option Nat)},frChk names outer Nx N' fr=true →
    N'.length=fr.length∧∀ (i:Nat) (x:Str) (j:Nat),N'[i]?=some x→fr[i]?=some (some j)→names.lookup x=some .free∧Nx[j]?=some x∧outer.lookup x=some .cell
  | [],[],_=>⟨rfl,fun i x j h=>by simp at h⟩
  | x::r,none::f,h=>by
    obtain ⟨h1,h2⟩:=frChk_get (N':=r) (fr:=f) h
    refine ⟨by simp [h1],fun i y j e1 e2=>?_⟩
    cases i with
    | zero=>simp at e2
    | succ i=>exact h2 i y j (by simpa using e1) (by simpa using e2)
  | x::r,some k::f,h=>by
    simp only [frChk,Bool.and_eq_true,beq_iff_eq] at h
    obtain ⟨⟨⟨a1,a2⟩,a3⟩,h⟩:=h
    obtain ⟨h1,h2⟩:=frChk_get (N':=r) (fr:=f) h
    refine ⟨by simp [h1],fun i y j e1 e2=>?_⟩
    cases i with
    | zero =>
      simp at e1 e2
      subst e1; subst e2
      exact ⟨a1,a2,a3⟩
    | succ i=>exact h2 i y j (by simpa using e1) (by simpa using e2)
  | [],_::_,h=>by simp [frChk] at h
  | _::_,[],h=>by simp [frChk] at h
def inBlk (fr:List (Option Nat)) (σ:St):St:=fr.map fun o=>o.bind fun j=>(σ[j]?).join

theorem HOk.but {P:Program} {w:World} {H:Hp} {h h':Heap} {a:Addr} (ok:HOk P w H h) (n:H a=none) (sb:Heap.SameBut a h h'):HOk P w H h':=fun b ob e=>by
  refine (ok b ob e).stay (fun c u hc q=>(sb.2 c ?_).trans q) (fun _ q=>q) fun _ _ q=>q
  rintro rfl
  rcases hc with rfl | hc
  · rw [n] at e; cases e
  · rw [n] at hc; cases hc

def PIf (X:Cx) (ifs:List Expr) (tt:TT):Prop :=
  ∀ (pins:List (Addr × Obj)) (s:Shared) (σ:St) (H:Hp) (Q:Bool→Hp→Prop),Inv X pins σ H s→tt σ H Q →
    wpAny (model X.prog X.w) X.A (forIn ifs true fun c r=>if r=true then do let ok ← isTrue c X.env (eval c X.env); pure (ForInStep.yield ok) else pure (ForInStep.yield r)) (TP X pins σ Q) X.xe s
def tAlways:TT:=fun _ H Q=>Q true H
theorem pif_nil {X:Cx}:PIf X [] tAlways:=fun _ _ _ H _ I h=>wpAny_tests_nil ⟨H,I,h⟩
theorem pif_one {X:Cx} {c:Expr} {tt:TT} (h:PT X c tt):PIf X [c] tt:=fun pins s σ H Q I q=>wpAny_tests_one (h pins s σ H Q I q)

def tLc (fr:List (Option Nat)) (wi:TI) (g:BP→TG) (tt:BP→TT) (te:BP→TE):TE:=fun σ H Q=>wi σ H fun J H1=>∀ (bp:BP) (acc:Addr),H1 acc=none→∃ W:Nat→Nat→St→Hp→Prop,
  (∃ m,W 0 m (inBlk fr σ) (upd H1 acc (.lst [])))∧∀ i m σ' H',W i m σ' H' →
    (J.stop i H'∧Q (.ref acc) H') ∨ (J.go i H'∧∀ x H2,J.yld i H' x H2→g bp x σ' H2 fun σ2 H3=>tt bp σ2 H3 fun b H4 =>
      if b=true then te bp σ2 H4 fun y H5=>∃ ys,H5 acc=some (.lst ys)∧ys.length < sizeLine∧∃ m',m' < m∧W (i + 1) m' σ2 (upd H5 acc (.lst (ys++[y])))
      else ∃ m',m' < m∧W (i + 1) m' σ2 H4)

section
variable {X:Cx}
theorem comp_loop {prog:Program} {w:World} {A:Around} {R:Result→Shared→Prop} {s:Shared} {elt target iter:Expr} {ifs:List Expr} {scope:Scope} {pos:Pos} {it acc:Value} {env:Env} (I:Nat→Shared→Prop)
    (turn:∀ n s,I n s→wpAny (model prog w) A (pyNext it) (fun r s₁=>match r with
      | none=>R (.ok .next) s₁
      | some v=>wpAny (model prog w) A (letOwnedTupleGo target it v) (fun _ s1=>wpAny (model prog w) A (assign target env v) (fun _ s₂ =>
          wpAny (model prog w) A (forIn ifs true fun c r=>if r=true then do let ok ← isTrue c env (eval c env); pure (ForInStep.yield ok) else pure (ForInStep.yield r)) (fun ok s₃ =>
            if ok=true then wpAny (model prog w) A (eval elt env) (fun x s₄=>wpAny (model prog w) A (call (.builtin "list.append") [acc,x]) (fun _ s₅=>∃ m,m < n∧I m s₅) (fun _ _=>False) s₄) (fun _ _=>False) s₃
            else ∃ m,m < n∧I m s₃) (fun _ _=>False) s₂) (fun _ _=>False) s1) (fun _ _=>False) s₁) (fun _ _=>False) s)
    (n:Nat) (h:I n s):codeAny (model prog w) A (.compLoop (.ListComp elt [⟨target,iter,ifs,0⟩] scope pos) 0 it acc env) R s:=by
  refine codeAny_loop rfl I (fun n s hI=>?_) n h
  show wpAny _ A ((compTurn (.ListComp elt [⟨target,iter,ifs,0⟩] scope pos) 0 it acc env).onRaise (fun x=>do noteFrame x env; theTreesLotGoes x)) _ _ s
  refine wpAny_noted ?_
  rw [compTurn_list]
  have no:∀ {E:Value→Shared→Prop} (e:Value) (s:Shared),False→E e s:=fun _ _ z=>z.elim
  refine wpAny_bind (wpAny_standAt (wpAny_bind (wpAny_mono (turn n s hI) (fun r s₁ h₁=>?_) no)))
  cases r with
  | none=>exact wpAny_pure h₁
  | some v =>
    refine wpAny_bind (wpAny_mono h₁ (fun _ s1 h1=>wpAny_bind (wpAny_mono h1 (fun _ s₂ h₂=>wpAny_bind (wpAny_mono h₂ (fun ok s₃ h₃=>?_) no)) no)) no)
    cases ok with
    | false=>exact wpAny_pure ⟨rfl,h₃⟩
    | true=>exact wpAny_bind (wpAny_bind (wpAny_mono h₃ (fun x s₄ h₄=>wpAny_bind (wpAny_mono h₄ (fun _ s₅ h₅=>wpAny_pure (wpAny_pure ⟨rfl,h₅⟩)) no)) no))

variable {elt iter tg:Expr} {ifs:List Expr} {scope:Scope} {pos:Pos} {N':List Str} {fr:List (Option Nat)} {wi:TI} {g:BP→TG} {tt:BP→TT} {te:BP→TE}
theorem lc_block {pins:List (Addr × Obj)} {σ:St} {H2:Hp} {s2:Shared} {it:Addr} {fp:List Addr} {tn:Nat→Heap→Prop} {J:It} {Q:VK} {RR:Value→Addr→Result→Shared→Prop} {cl:List (Str × Addr)} {E:Value→Shared→Prop}
    (hcalm:X.calm=true) (hkind:scope.kind=.function) (hcell:∀ y ∈ scope.names,y.2 ≠ .cell) (hfr:frChk scope.names X.env.scope.names X.N N' fr=true)
    (hcl1:∀ n c,cl.lookup n=some c→X.env.cells.lookup n=some c) (hcl2:∀ n,(n,NameKind.free) ∈ scope.names→∃ c,cl.lookup n=some c)
    (hY:∀ b:BP,PG (blk X scope N' b) tg (g b)∧PIf (blk X scope N' b) ifs (tt b)∧PE (blk X scope N' b) elt (te b))
    (I2:Inv X pins σ H2 s2) (T:Turn X.prog X.w X.K tg J fp it tn) (st2:tn 0 s2.heap) (f2:∀ b ∈ fp,FpOk X pins H2 b)
    (q:∀ (bp:BP) (acc:Addr),H2 acc=none→∃ W:Nat→Nat→St→Hp→Prop,(∃ m,W 0 m (inBlk fr σ) (upd H2 acc (.lst [])))∧∀ i m σ' H',W i m σ' H' →
      (J.stop i H'∧Q (.ref acc) H') ∨ (J.go i H'∧∀ x H2,J.yld i H' x H2→g bp x σ' H2 fun σ2 H3=>tt bp σ2 H3 fun b H4 =>
        if b=true then te bp σ2 H4 fun y H5=>∃ ys,H5 acc=some (.lst ys)∧ys.length < sizeLine∧∃ m',m' < m∧W (i + 1) m' σ2 (upd H5 acc (.lst (ys++[y])))
        else ∃ m',m' < m∧W (i + 1) m' σ2 H4))
    (hRR:∀ acc C s' HY m,Inv X pins σ HY s'→FpOk X pins HY C→s'.heap.Ns C m→Q (.ref acc) HY→RR (.ref acc) C (.ok .next) s') :
    wpAny (model X.prog X.w) X.A (newList []) (fun acc s₃=>wpAny (model X.prog X.w) X.A (newFunctionEnv scope X.env.globals cl [] X.env.qual none .none (some X.env)) (fun cenv s₄ =>
      codeAny (model X.prog X.w) X.A (.compStart (.ListComp elt [⟨tg,iter,ifs,0⟩] scope pos) 0 (.ref it) acc { cenv with scope:=relabel scope X.env }) (RR acc cenv.locals) s₄) E s₃) E s2:=by
  obtain ⟨hfl,hfg⟩:=frChk_get hfr
  have hacc:H2 s2.heap.objs.size=none:=I2.hok.fresh (Nat.le_refl _)
  refine wpAny_newObj_type ?_ (by show 0≤sizeLine; exact Nat.zero_le _)
  generalize hs3:({ s2 with heap:=s2.heap.push { cls:=.type "list",dict:=none,data:=.seq ([]:List Value).toArray } }:Shared)=s3
  have I3:Inv X pins σ (upd H2 s2.heap.objs.size (.lst [])) s3:=by
    rw [← hs3]
    exact I2.laid (t':=s2.toks) (fun b u e=>Heap.get?_push_of_some _ e) (Nat.le_refl _) ⟨Nat.zero_le _,[],0,.nil,Heap.get?_push_size _ rfl⟩
  have hfp:∀ b ∈ fp,b < s3.heap.objs.size:=fun b hb=>by
    obtain ⟨o,e,_⟩:=T.obj 0 _ st2 b hb
    rw [← hs3]
    exact Heap.lt_size (Heap.get?_push_of_some _ e)
  have st3:tn 0 s3.heap:=T.keep 0 _ _ st2 fun b _ o e=>by rw [← hs3]; exact Heap.get?_push_of_some _ e
  have f3:∀ b ∈ fp,FpOk X pins (upd H2 s2.heap.objs.size (.lst [])) b:=fun b hb=>⟨by
    obtain ⟨o,e,_⟩:=T.obj 0 _ st2 b hb
    rw [upd_ne (Nat.ne_of_lt (Heap.lt_size e))]
    exact (f2 b hb).1,(f2 b hb).2⟩
  refine wpAny_newFunctionEnv hcell (fun y hy=>by simp at hy) (fun h₁ hns hsb=>?_) hkind
  generalize hH3:upd H2 s2.heap.objs.size (.lst [])=H3 at *
  generalize hac:s2.heap.objs.size=ac at *
  generalize hC:s3.heap.objs.size=C at *
  obtain ⟨W,⟨m0,w0⟩,turn⟩:=q ⟨cl,C,s3,H3,fp,X.pn++pins⟩ ac hacc
  rw [hH3] at w0
  have keep:∀ b o,s3.heap.get? b=some o→h₁.get? b=some o:=fun b o e=>hsb.extBut b o (by rw [← hC]; exact Nat.ne_of_lt (Heap.lt_size e)) (Heap.get?_push_of_some _ e)
  have hCfp:∀ b ∈ fp,b ≠ C:=fun b hb=>by exact Nat.ne_of_lt (hfp b hb)
  have hCl:X.env.locals < C:=by rw [← hC]; exact I3.lt
  have hstk:∀ b ∈ frs X.stack,b ≠ C∧H3 b=none:=fun b hb=>⟨by
    rintro rfl
    rcases List.mem_cons.mp (I3.stkSub b hb) with z | z
    · rw [z] at hCl; exact absurd hCl (Nat.lt_irrefl _)
    · exact I3.nofs (by rw [hC]; exact Nat.le_refl _) z,I3.stkFree b hb⟩
  have cellNe:∀ x c,X.env.cells.lookup x=some c→c ≠ C:=fun x c e z=>by
    obtain ⟨v,o,ho,_⟩:=I3.cell x c e
    have:=Heap.lt_size ho
    rw [z,hC] at this
    exact absurd this (Nat.lt_irrefl _)
  -- the block's context
  have okY:(blk X scope N' ⟨cl,C,s3,H3,fp,X.pn++pins⟩).Ok:=by
    refine ⟨I3.ok.mod,hkind,I3.ok.glob,I3.ok.blt,Nat.le_of_eq hC,fun x y c h1 h2=>I3.ok.inj x y c (hcl1 x c h1) (hcl1 y c h2),fun x hx=>?_,fun x c z=>absurd z (by intro z; cases z),fun _=>I3.ok.hd hcalm,I3.ok.frames,.inl rfl,
      fun b hb=>⟨hCfp b hb,fun x c h=>(f3 b hb).2.2.2.2.1 x c (hcl1 x c h)⟩,fun b o e=>I3.bs b o e,?_,fun b o e hb=>?_,fun b hb hs=>?_,I3.stack,fun b hb=>(hstk b hb).2⟩
    · have back:∀ k,(relabel scope X.env).names.lookup x=some k→(k=.cell ∨ k=.free)→∃ c,cl.lookup x=some c:=fun k h hk=>by
        obtain ⟨k0,h1,h2⟩:=relabel_back h
        have hk0:k0=.free:=by
          rcases h2 with rfl | ⟨rfl,_⟩
          · rcases hk with rfl | rfl
            · exact absurd rfl (hcell _ h1)
            · rfl
          · rfl
        subst hk0
        exact hcl2 x h1
      rcases hx with hx | hx
      · exact back _ hx (.inl rfl)
      · exact back _ hx (.inr rfl)
    · exact Nat.le_trans I3.ok.bsz (Nat.le_trans I3.sz (Nat.le_refl _))
    · rcases (f3 b hb).2.2.2.1 with z | z
      · exact I3.ok.noex b o e z
      · exact absurd (Nat.lt_of_lt_of_le (Heap.lt_size (I3.ok.bs b o e).1) z) (Nat.lt_irrefl _)
    · rcases List.mem_cons.mp (I3.stkSub b hs) with z | z
      · exact (f3 b hb).2.1 z
      · exact (f3 b hb).2.2.1 z
  have hH3C:H3 C=none:=I3.hok.fresh (Nat.le_of_eq hC)
  have IY:Inv (blk X scope N' ⟨cl,C,s3,H3,fp,X.pn++pins⟩) [] (inBlk fr σ) H3 { s3 with heap:=h₁,toks:=s3.toks + ([]:List (Str × Value)).length }:=by
    refine ⟨okY,rfl,I3.bare,Un.kept keep,⟨_,hns,fun i x v h1 h2 _=>?_⟩,fun x c e=>?_,hH3C,fun x c e=>I3.freeC x c (hcl1 x c e),fun p hp=>?_,I3.hok.kept keep,?_⟩
    · have e:∃ j,fr[i]?=some (some j)∧σ[j]?=some (some v):=by
        unfold inBlk at h2
        rw [List.getElem?_map] at h2
        cases hf:fr[i]? with
        | none=>rw [hf] at h2; cases h2
        | some o =>
          rw [hf] at h2
          cases o with
          | none=>cases h2
          | some j =>
            refine ⟨j,rfl,?_⟩
            have h2':(σ[j]?).join=some v:=by simpa using h2
            cases hj:σ[j]? with
            | none=>rw [hj] at h2'; cases h2'
            | some o=>rw [hj] at h2'; rw [show o=some v from h2']
      obtain ⟨j,e1,e2⟩:=e
      obtain ⟨a1,a2,a3⟩:=hfg i x j h1 e1
      obtain ⟨m,hn,hl⟩:=I3.loc
      obtain ⟨u,r,l⟩:=hl j x v a2 e2 (.inr (.inl a3))
      refine ⟨u,r,.inr ⟨relabel_free a1,?_⟩⟩
      rcases l with ⟨k,_⟩ | ⟨_,c,hc,o,ho,hd⟩
      · have k':X.env.scope.names.lookup x=some .local:=k
        rw [a3] at k'; cases k'
      · obtain ⟨c',hc'⟩:=hcl2 x (PySem.mem_of_lookup a1)
        have z:=hcl1 x c' hc'
        rw [hc] at z; cases z
        exact ⟨c,hc',o,keep c o ho,hd⟩
    · obtain ⟨v,o,ho,hd⟩:=I3.cell x c (hcl1 x c e)
      exact ⟨v,o,keep c o ho,hd⟩
    · obtain ⟨e,n,ne,nf,d⟩:=I3.pin p (by have hp':p ∈ (X.pn++pins)++[]:=hp; simpa using hp')
      refine ⟨keep _ _ e,n,?_,fun z=>?_,d⟩
      · have:=Heap.lt_size e
        rw [hC] at this
        exact Nat.ne_of_lt this
      · rcases List.mem_cons.mp (I3.stkSub p.1 z) with z | z
        · exact ne z
        · exact nf z
    · unfold inBlk
      rw [List.length_map]
      exact hfl.symm
  have stat:∀ {H':Hp},(∀ b ∈ fp,H' b=none)→∀ b ∈ fp,FpOk (blk X scope N' ⟨cl,C,s3,H3,fp,X.pn++pins⟩) [] H' b:=fun {H'} hn b hb =>
    ⟨hn b hb,hCfp b hb,fun z=>by
      rcases List.mem_cons.mp (I3.stkSub b z) with z | z
      · exact (f3 b hb).2.1 z
      · exact (f3 b hb).2.2.1 z,.inl hb,fun x c e=>(f3 b hb).2.2.2.2.1 x c (hcl1 x c e),fun p hp=>(f3 b hb).2.2.2.2.2 p (by have hp':p ∈ (X.pn++pins)++[]:=hp; simpa using hp')⟩
  obtain ⟨hg,ht,he⟩:=hY ⟨cl,C,s3,H3,fp,X.pn++pins⟩
  have loop:codeAny (model X.prog X.w) X.A (.compLoop (.ListComp elt [⟨tg,iter,ifs,0⟩] scope pos) 0 (.ref it) (.ref ac) (compEnvC scope cl C X.env)) (RR (.ref ac) C) { s3 with heap:=h₁,toks:=s3.toks + ([]:List (Str × Value)).length }:=by
    refine comp_loop (fun n s'=>∃ i σ' H',Inv (blk X scope N' ⟨cl,C,s3,H3,fp,X.pn++pins⟩) [] σ' H' s'∧tn i s'.heap∧(∀ b ∈ fp,H' b=none)∧W i n σ' H') ?_ m0
      ⟨0,inBlk fr σ,H3,IY,T.keep 0 _ _ st3 fun b _ o e=>keep b o e,fun b hb=>(f3 b hb).1,w0⟩
    rintro n s4 ⟨i,σ4,H4,I4,st4,fr4,w4⟩
    rcases turn i n σ4 H4 w4 with ⟨stop,qn⟩ | ⟨go,step⟩
    · refine thn (T.done (blk X scope N' ⟨cl,C,s3,H3,fp,X.pn++pins⟩) rfl rfl rfl hcalm i [] s4 σ4 H4 _ I4 (stat fr4) st4 stop) fun r s5 ⟨hr,I5⟩=>?_
      subst hr
      obtain ⟨m,hn,_⟩:=I5.loc
      have IX:Inv X pins σ H4 s5:=I3.call' I5.os I5.base I5.hok I5.bare fun b hb=>⟨(f3 b hb).2.2.2.1,(f3 b hb).2.1,(f3 b hb).2.2.2.2.1,(f3 b hb).2.2.2.2.2⟩
      exact hRR ac C s5 H4 m IX (I3.fpOk (Nat.le_of_eq hC) I5.free) hn qn
    · refine thn (T.item (blk X scope N' ⟨cl,C,s3,H3,fp,X.pn++pins⟩) rfl rfl rfl hcalm i [] s4 σ4 H4 (fun _ _=>False) I4 (stat fr4) st4 go) fun r s5 ⟨u,hr,h5⟩=>?_
      subst hr
      refine thn h5 fun _ s6 ⟨x,H6,I6,r6,y6,st6,fr6⟩=>?_
      have I6':=I6.pinned (stat fr6) (T.obj _ _ st6)
      refine thn (hg _ s6 σ4 H6 x u _ I6' r6 (step x H6 y6)) fun _ s7 ⟨σ7,H7,I7,q7⟩=>?_
      refine thn (ht _ s7 σ7 H7 _ I7 q7) fun ok s8 ⟨H8,I8,q8⟩=>?_
      have again:∀ {s9:Shared} {σ9:St} {H9:Hp} {m':Nat},Inv (blk X scope N' ⟨cl,C,s3,H3,fp,X.pn++pins⟩) ([]++pinsAt fp s6.heap) σ9 H9 s9→m' < n→W (i + 1) m' σ9 H9 →
          ∃ m,m < n∧∃ i σ' H',Inv (blk X scope N' ⟨cl,C,s3,H3,fp,X.pn++pins⟩) [] σ' H' s9∧tn i s9.heap∧(∀ b ∈ fp,H' b=none)∧W i m σ' H':=fun {s9 σ9 H9 m'} I9 hm w9=>by
        refine ⟨m',hm,i + 1,σ9,H9,I9.unpinned,T.keep _ _ _ st6 fun b hb o e=>(I9.pin (b,o) (List.mem_append_right _ (List.mem_append_right _ (mem_pinsAt hb e)))).1,fun b hb=>?_,w9⟩
        obtain ⟨o,e,d⟩:=T.obj _ _ st6 b hb
        exact (I9.pin (b,o) (List.mem_append_right _ (List.mem_append_right _ (mem_pinsAt hb e)))).2.1
      cases ok with
      | false =>
        obtain ⟨m',hm,w8⟩:=q8
        exact again I8 hm w8
      | true =>
        refine thn (he _ s8 σ7 H8 _ I8 q8) fun y s9 ⟨yv,H9,I9,r9,ys,hys,hz,m',hm,w9⟩=>?_
        refine thn (mt_append (X:=blk X scope N' ⟨cl,C,s3,H3,fp,X.pn++pins⟩) _ s9 σ7 H9 (.ref ac) [yv] (.ref ac) [y] (fun _ H'=>H'=upd H9 ac (.lst (ys++[yv]))) I9 rfl (.cons r9 .nil) ⟨ac,ys,yv,rfl,rfl,hys,hz,rfl⟩) fun _ s10 ⟨_,H10,I10,_,e10⟩=>?_
        subst e10
        exact again I10 hm w9
  exact codeAny_compStart_list loop (T.self _ 0 _ _ _ (T.keep 0 _ _ st3 fun b _ o e=>keep b o e) loop)

theorem pe_lc (hcalm:X.calm=true) (hkind:scope.kind=.function) (hcell:∀ y ∈ scope.names,y.2 ≠ .cell) (hfr:frChk scope.names X.env.scope.names X.N N' fr=true)
    (hfree:∀ y ∈ scope.names,y.2=.free→X.env.scope.names.lookup y.1=some .cell) (hnames:∀ x ∈ scope.names,x.2=.local→scope.names.lookup x.1=some .local) (hi:PI X tg iter wi)
    (hY:∀ b:BP,PG (blk X scope N' b) tg (g b)∧PIf (blk X scope N' b) ifs (tt b)∧PE (blk X scope N' b) elt (te b))
    (hs:∀ x,foldedSetIterable iter X.env x=pure x:=by intro _; rfl):PE X (.ListComp elt [⟨tg,iter,ifs,0⟩] scope pos) (tLc fr wi g tt te):=by
  intro pins s σ H Q I h
  obtain ⟨cl,hclos,hcl1,hcl2⟩:=closure_of (env:=X.env) (scope:=scope) fun y hy hk=>I.ok.has y.1 (.inl (hfree y hy hk))
  rw [eval_ListComp]
  refine wpAny_comprehension_free (use:=none) rfl hs hclos hkind hnames (thn (hi pins s σ H _ I h) fun v s1 h1=>thn h1 fun itv s2 h2=>?_)
  obtain ⟨it,fp,tn,J,H2,rfl,I2,T,st2,f2,q⟩:=h2
  refine lc_block (RR:=fun acc C=>compPost (model X.prog X.w) X.A X.xe none (EP X pins σ Q) acc C) hcalm hkind hcell hfr hcl1 hcl2 hY I2 T st2 f2 q fun acc C s' HY m I' f' hn q'=>?_
  exact ⟨m,hn,fun h' sb=>⟨.ref acc,HY,I'.turned (t':=s'.toks) (fun b o hb e=>(sb.2 b hb).trans e) f'.1 f'.2.1 f'.2.2.2.1 f'.2.2.2.2.1 f'.2.2.2.2.2,rfl,q'⟩⟩
theorem ps_setlc {i:Nat} {x:Str} {px spos:Pos} (hN:X.N.Nodup) (hix:X.N[i]?=some x) (hx:Loc X.env.scope x) (hcalm:X.calm=true) (hkind:scope.kind=.function) (hcell:∀ y ∈ scope.names,y.2 ≠ .cell) (hfr:frChk scope.names X.env.scope.names X.N N' fr=true)
    (hfree:∀ y ∈ scope.names,y.2=.free→X.env.scope.names.lookup y.1=some .cell) (hnames:∀ x ∈ scope.names,x.2=.local→scope.names.lookup x.1=some .local) (hi:PI X tg iter wi)
    (hY:∀ b:BP,PG (blk X scope N' b) tg (g b)∧PIf (blk X scope N' b) ifs (tt b)∧PE (blk X scope N' b) elt (te b))
    (hsw:swapsWith (.ListComp elt [⟨tg,iter,ifs,0⟩] scope pos) (some (.Name x px)) spos.line X.env=pure true)
    (hs:∀ x,foldedSetIterable iter X.env x=pure x:=by intro _; rfl) (hf:X.fn x=true ∨ X.env.scope.names.lookup x=some .local:=by first | exact .inl rfl | exact .inr rfl | assumption) :
    PS X (.Assign [.Name x px] (.ListComp elt [⟨tg,iter,ifs,0⟩] scope pos) spos) (tAsg (tLc fr wi g tt te) (gName i)):=by
  intro pins s σ H D I h
  obtain ⟨cl,hclos,hcl1,hcl2⟩:=closure_of (env:=X.env) (scope:=scope) fun y hy hk=>I.ok.has y.1 (.inl (hfree y hy hk))
  rw [exec_Assign_Name_used _ _ _ _ hsw]
  refine wpAny_bind (wpAny_standAt (wpAny_bind ?_))
  show wpAny _ _ (do let _ ← comprehension (.ListComp elt [⟨tg,iter,ifs,0⟩] scope pos) scope X.env _ (newList []) false (eval iter X.env) (some (assign (.Name x px) X.env))) _ _ s
  refine wpAny_bind (wpAny_mono (wpAny_comprehension_free (use:=some (assign (.Name x px) X.env)) (Q:=fun _ s'=>SP X pins D .next s') rfl hs hclos hkind hnames
    (thn (hi pins s σ H _ I h) fun v s1 h1=>thn h1 fun itv s2 h2=>?_)) (fun _ s' hq=>wpAny_pure (wpAny_pure hq)) fun _ _ e=>e)
  obtain ⟨it,fp,tn,J,H2,rfl,I2,T,st2,f2,q⟩:=h2
  refine lc_block (RR:=fun acc C=>compPost (model X.prog X.w) X.A X.xe (some (assign (.Name x px) X.env)) (fun _ s'=>SP X pins D .next s') acc C) (Q:=fun x H1=>gName i x σ H1 D.nx) hcalm hkind hcell hfr hcl1 hcl2 hY I2 T st2 f2 q fun acc C s' HY m I' f' hn q'=>?_
  show wpAny _ _ (assign (.Name x px) X.env (.ref acc)) _ _ _
  refine wpAny_assign_Name (store_ok2 I' hN hix hx (v:=.ref acc) rfl (fun s2' I2' hch=>?_) hf)
  obtain ⟨a,sb,ha⟩:=hch
  have hCa:C ≠ a:=by
    rcases ha with z | z
    · rw [z]; exact f'.2.1
    · exact fun e=>f'.2.2.2.2.1 x a z e.symm
  exact ⟨m,hn.sameBut sb hCa,fun h' sb'=>⟨_,HY,I2'.turned (t':=s2'.toks) (fun b o hb e=>(sb'.2 b hb).trans e) f'.1 f'.2.1 f'.2.2.2.1 f'.2.2.2.2.1 f'.2.2.2.2.2,q'⟩⟩
end
end L2

set_option Elab.async false
set_option linter.all false
set_option maxRecDepth 100000
namespace L2
open PySem PySem.Spec PyProof.Rows
section
variable {prog:Program} {w:World} {A:Around} {E:Value→Shared→Prop} {h:Heap} {g:Array GenState} {d:Drawn} {t:Nat} {os:OsState} {a C:Addr} {ox:Obj} {od:Option Obj} {K:PySem.W.Frag}
structure XCls (K:PySem.W.Frag) (C:Addr):Prop where
  ga:PySem.W.findIn K (.ref C) "__getattribute__"=some (some (.builtin "BaseException.__getattribute__"))
  gt:PySem.W.findIn K (.ref C) "__getattr__"=some none
  cl:PySem.W.findIn K (.ref C) "__class__"=some (some (.builtin "object.__class__"))
  ob:PySem.W.mroIn K C (.type "object")=some true
  be:PySem.W.mroIn K C (.type "BaseException")=some true
def XOk (K:PySem.W.Frag) (C:Addr):Prop:=XCls K C∧∀ T ∈ ["int","str","list","tuple","bool"],PySem.W.kitOne K (.ref C) (.type T)=some false
theorem check_gaK {M:Model} {nameV:Value} {Q:Unit→Shared→Prop} (X:K.In h) (c:XCls K C) (I:PySem.W.InstAt h a ox C od) (hq:Q () ⟨h,g,d,t,os⟩):wpAny M A (checkBuiltinCall "BaseException.__getattribute__" ⟨[.ref a,nameV],[]⟩) Q E ⟨h,g,d,t,os⟩:=by
  have hk:builtinKind "BaseException.__getattribute__"=some .slot:=by decide +kernel
  have hsplit:splitId "BaseException.__getattribute__"=some ("BaseException","__getattribute__"):=by decide +kernel
  have ha:=F.args_bexc_ga (.ref a) nameV
  have L0:=I.type (M:=M)
  have L1:=PySem.W.looks_mroIn (M:=M) X c.be
  simp only [checkBuiltinCall,hk,hsplit]
  refine wpAny_bind ?_
  unfold isInstance
  refine wpAny_bind (L0.at (L1.at ?_))
  repeat (first | exact hq | wp_step)
theorem class_entryK {tk:Tok} {Q:Fin→Shared→Prop} (X:K.In h) (c:XCls K C) (I:PySem.W.InstAt h a ox C od) (hq:Q (.done (.ret (.ref C))) ⟨h,g,d,t,os⟩) :
    wpAny (model prog w) A (Builtin.«object.__getattribute__» ⟨[.ref a,.str "__class__" tk],[]⟩) Q E ⟨h,g,d,t,os⟩:=by
  have hT5:(⟨h,g,d,t,os⟩:Shared).TypeIs (.builtin "object.__class__") "getset_descriptor":=F.typeOf_object_class
  have f5:=F.typeOf_object_class
  have f6:=F.slot_gs_get.lookup
  have f7:=F.slot_gs_set.lookup
  have L0:=I.type (M:=model prog w)
  have L1:=PySem.W.looks_findIn (M:=model prog w) X c.cl
  repeat (any_goals (first | assumption | with_reducible refine L0.at ?_ | with_reducible refine L1.at ?_ | wp_step))
  refine PySem.W.class_get (s:=⟨h,g,d,t,os⟩) X I c.ob ?_
  repeat (any_goals (first | assumption | wp_step))
theorem class_callK {tk:Tok} {R:Result→Shared→Prop} (X:K.In h) (c:XCls K C) (I:PySem.W.InstAt h a ox C od) (hq:R (.ok (.ret (.ref C))) ⟨h,g,d,t,os⟩) :
    codeAny (model prog w) A (.call (.builtin "BaseException.__getattribute__") ⟨[.ref a,.str "__class__" tk],[]⟩) R ⟨h,g,d,t,os⟩ :=
  codeAny_call_builtin F.excAttr_ValueError.ga.plain F.entry_bexc_ga (check_gaK X c I (class_entryK X c I hq))
theorem class_byK {tk:Tok} {Q:Value→Shared→Prop} (X:K.In h) (c:XCls K C) (I:PySem.W.InstAt h a ox C od) (hq:Q (.ref C) ⟨h,g,d,t,os⟩):wpAny (model prog w) A (getAttrBy (.ref a) (.str "__class__" tk) false) Q E ⟨h,g,d,t,os⟩:=by
  have f3:=F.excAttr_ValueError.ga.bind (.ref a)
  have hx2:(Value.builtin "BaseException.__getattribute__" == Value.builtin "object.__getattribute__")=false:=by decide +kernel
  have hx1:(onTheHeap (Value.ref C) && Value.builtin "BaseException.__getattribute__" == Value.builtin "object.__getattribute__")=false:=by rw [hx2]; rfl
  have L0:=I.type (M:=model prog w)
  have L1:=PySem.W.looks_findIn (M:=model prog w) X c.ga
  have L2':=PySem.W.looks_findIn (M:=model prog w) X c.gt
  repeat (any_goals (first | assumption | with_reducible refine L0.at ?_ | with_reducible refine L1.at ?_ | with_reducible refine L2'.at ?_ | wp_step))
  refine class_callK X c I ?_
  repeat (any_goals (first | assumption | wp_step))
theorem class_attrK {Q:Option Value→Shared→Prop} (X:K.In h) (c:XCls K C) (I:PySem.W.InstAt h a ox C od) (hq:Q (some (.ref C)) ⟨h,g,d,t + 1,os⟩):wpAny (model prog w) A (getAttr? (.ref a) "__class__") Q E ⟨h,g,d,t,os⟩:=by
  unfold getAttr? getAttrBy?
  repeat (any_goals (first | assumption | with_reducible apply class_byK X c I | wp_step))
theorem kitx_exc (c:XCls K C):PySem.W.KitX K (.ref a) (.ref C) (fun h=>∃ ox od,PySem.W.InstAt h a ox C od) where
  ty:=fun _ _ _ ⟨_,_,I⟩=>I.type
  it:=fun _ _ X _=>by
    obtain ⟨cd,hc,_⟩:=Option.bind_eq_some_iff.mp c.ob
    unfold PySem.W.clsIn at hc
    split at hc
    · rename_i c' d' cd' sl' ho
      intro A' Q' E' s' k q
      unfold isType loadHead
      exact wpAny_bind (wpAny_loadPart (k _ _ (X _ _ ho)) (wpAny_pure q))
    · cases hc
  ne:=fun h tp dd its n sl X htp=>by
    obtain ⟨cd,hc,_⟩:=Option.bind_eq_some_iff.mp c.ob
    refine Bool.eq_false_iff.mpr fun q=>?_
    have e:C=tp:=Value.ref.inj (beq_iff_eq.mp q)
    subst e
    unfold PySem.W.clsIn at hc
    split at hc
    · rename_i c' d' cd' sl' ho
      have z:=(X _ _ ho).symm.trans htp
      cases z
    · cases hc
  ca:=fun {_ _ _ _ _ s} X ⟨_,_,I⟩ k=>by
    obtain ⟨hh,g,d,t,os⟩:=s
    exact class_attrK X c I k
end
end L2

set_option Elab.async false
set_option linter.all false
set_option maxRecDepth 100000
namespace L2
open PySem PySem.Spec PyProof.Rows
structure RoomH (k:Nat) (A:Around):Prop where
  dp:A.depth + 3 * k + 5 < recursionLimit
  un:A.units + 16 * k + 200 < cLine
  gd:A.guards=some []
theorem Room.h {k:Nat} {A:Around} (r:Room k A):RoomH k A:=⟨r.dp,r.un,r.gd⟩
theorem RoomH.mono {j k:Nat} {A:Around} (r:RoomH k A) (h:j≤k):RoomH j A:=⟨by have:=r.dp; omega,by have:=r.un; omega,r.gd⟩
theorem RoomH.deeper {k:Nat} {A:Around} (r:RoomH (k + 1) A) (env:Env):RoomH k (A.deeper env):=⟨by have:=r.dp; show A.depth + 1 + 3 * k + 5 < _; omega,by have:=r.un; show A.units + 3 + 16 * k + 200 < _; omega,r.gd⟩
theorem RoomH.depth {k:Nat} {A:Around} (r:RoomH k A):A.depth < recursionLimit:=by have:=r.dp; omega
section
variable {X:Cx} {CX:CXT} {k:Nat} {f C:Addr} {fd:FuncData} {ps:List Str} {sp:Sp} {dvs:List V} {ds:List Value} {E:XK} {x m:Str} {p pos apos:Pos} {e o:Expr} {es:List Expr} {ta:TE} {t:TA}
end
section
variable {P:Program} {w:World} {K:PySem.W.Frag} {mg:Str→Option Value} {base:Heap}
end
end L2

set_option Elab.async false
set_option linter.all false
set_option maxRecDepth 100000
namespace TL
open PySem PySem.Spec PyProof.Rows L2
abbrev D:=PySem.PyData
def numsAt (p:Addr) (h:Heap):Prop:=∃ (its:List Value) (n:Nat),h.get? p=some { cls:=.type "list",data:=.seq its.toArray n }∧its.length≤1000∧∀ v ∈ its,∃ (i:Int) (t:Tok),v=.int i t∧0≤i∧i < 4096
def excAt (p C:Addr) (dx:Option Addr) (h:Heap):Prop:=∃ o vs,h.get? p=some o∧o.cls=.ref C∧o.dict=dx∧o.data=.fields vs
def tapeAt (p q:Addr) (h:Heap):Prop:=∃ (a b c:Int) (ta tb tc:Tok) (n:Nat),h.get? p=some { cls:=.type "list",data:=.seq [Value.ref q,.int a ta,.int b tb,.int c tc].toArray n }∧0≤a∧(c=0 ∨ c=1)
def EntR (e:Int × Addr × V) (x:DictEntry):Prop:=x.hash=e.1∧x.key=.ref e.2.1∧RelV e.2.2 x.val
def DicAt (p:Addr) (es:List (Int × Addr × V)) (h:Heap):Prop:=(p == sysModules)=false∧es.length≤sizeLine∧∃ o xs ep,h.get? p=some o∧o.ExactDict∧o.data=.dict xs ep∧Paired EntR es xs.toList
def dicO (p:Addr) (es:List (Int × Addr × V)):HO:=.ext (DicAt p es)
def DicAtE (p:Addr) (es:List (Int × Addr × V)) (ep:Nat) (h:Heap):Prop:=(p == sysModules)=false∧es.length≤sizeLine∧∃ o xs,h.get? p=some o∧o.ExactDict∧o.data=.dict xs ep∧Paired EntR es xs.toList
def dicF (p:Addr) (es:List (Int × Addr × V)) (ep:Nat):HO:=.ext (DicAtE p es ep)
mutual
inductive Rep (K:PySem.W.Frag) (H:Hp):D→V→Prop
  | none:Rep K H .none .non
  | bool (b:Bool):Rep K H (.bool b) (.bl b)
  | int (i:Int):Rep K H (.int i) (.int i)
  | str (x:Str):Rep K H (.str x) (.str x)
  | list {p:Addr} {xs:List V} {ts:List D}:SqL K H p xs→Reps K H ts xs→Rep K H (.list ts) (.ref p)
  | tuple {p:Addr} {xs:List V} {ts:List D}:SqT K H p xs→Reps K H ts xs→Rep K H (.tuple ts) (.ref p)
  | wild {p:Addr}:H p=some (.ext (numsAt p))→Rep K H (.dict []) (.ref p)
  | exc {p C:Addr}:XOk K C→H p=some (.ext (excAt p C Option.none))→Rep K H (.dict [(.int (C:Nat),.none)]) (.ref p)
  | excA {p C dx:Addr} {n:Int}:XOk K C→H p=some (.ext (excAt p C (some dx)))→H dx=some (.xd [("at",.int n)])→Rep K H (.dict [(.int (C:Nat),.int n)]) (.ref p)
  | tape {p q:Addr} {ns:List Int}:H p=some (.ext (tapeAt p q))→SqL K H q (ns.map V.int)→Rep K H (.dict [(.none,.list (ns.map PyData.int))]) (.ref p)
  | dct {p:Addr} {es:List (Int × Addr × V)} {ep:Nat} {kvs:List (D × D)}:H p=some (dicF p es ep)→(kvs.map (·.1)).Nodup→Reps K H (kvs.map (·.1)) (es.map fun e=>.ref e.2.1)→Reps K H (kvs.map (·.2)) (es.map fun e=>e.2.2)→Rep K H (.dict ((.str "{}",.list ((es.map (·.1)).map PyData.int))::kvs)) (.ref p)
  | addr {p:Addr} (z:List D):Rep K H (.dict [(.str "@",.list (.int (p:Nat)::z))]) (.ref p)
inductive Reps (K:PySem.W.Frag) (H:Hp):List D→List V→Prop
  | nil:Reps K H [] []
  | cons {t:D} {ts:List D} {x:V} {xs:List V}:Rep K H t x→Reps K H ts xs→Reps K H (t::ts) (x::xs)
end
variable {K:PySem.W.Frag} {H H' H1 H2:Hp}
theorem Same.seqT {a:Addr} {xs:List V} (e:Same H H') (h:SqT K H a xs):SqT K H' a xs:=by
  rcases h with (h | ⟨o,h⟩) | h
  · exact .inl (.inl (e _ _ h))
  · exact .inl (.inr ⟨o,e _ _ h⟩)
  · exact .inr h
mutual
theorem Rep.same (e:Same H H'):∀ {d:D} {v:V},Rep K H d v→Rep K H' d v
  | _,_,.none=>.none
  | _,_,.bool b=>.bool b
  | _,_,.int i=>.int i
  | _,_,.str x=>.str x
  | _,_,.list q r=>.list (L2.Same.seq e q) (Reps.same e r)
  | _,_,.tuple q r=>.tuple (Same.seqT e q) (Reps.same e r)
  | _,_,.wild h=>.wild (e _ _ h)
  | _,_,.exc x h=>.exc x (e _ _ h)
  | _,_,.excA x h g=>.excA x (e _ _ h) (e _ _ g)
  | _,_,.tape h g=>.tape (e _ _ h) (L2.Same.seq e g)
  | _,_,.dct h n r t=>.dct (e _ _ h) n (Reps.same e r) (Reps.same e t)
  | _,_,.addr z=>.addr z
theorem Reps.same (e:Same H H'):∀ {ds:List D} {vs:List V},Reps K H ds vs→Reps K H' ds vs
  | _,_,.nil=>.nil
  | _,_,.cons r s=>.cons (Rep.same e r) (Reps.same e s)
end
theorem Reps.length:∀ {ds:List D} {vs:List V},Reps K H ds vs→ds.length=vs.length
  | _,_,.nil=>rfl
  | _,_,.cons _ s=>by simp [Reps.length s]
theorem Reps.get:∀ {ds:List D} {vs:List V} {i:Nat} {d:D},Reps K H ds vs→ds[i]?=some d→∃ v,vs[i]?=some v∧Rep K H d v
  | _,_,_,_,.nil,e=>by simp at e
  | _,_,0,_,.cons r _,e=>by simp at e; subst e; exact ⟨_,rfl,r⟩
  | _,_,i + 1,d,.cons _ s,e=>by
    obtain ⟨v,h1,h2⟩:=Reps.get (i:=i) (d:=d) s (by simpa using e)
    exact ⟨v,by simpa using h1,h2⟩
theorem Reps.get':∀ {ds:List D} {vs:List V} {i:Nat} {v:V},Reps K H ds vs→vs[i]?=some v→∃ d,ds[i]?=some d∧Rep K H d v
  | _,_,_,_,.nil,e=>by simp at e
  | _,_,0,_,.cons r _,e=>by simp at e; subst e; exact ⟨_,rfl,r⟩
  | _,_,i + 1,d,.cons _ s,e=>by
    obtain ⟨v,h1,h2⟩:=Reps.get' (i:=i) (v:=d) s (by simpa using e)
    exact ⟨v,by simpa using h1,h2⟩
theorem Reps.append:∀ {ds es:List D} {vs us:List V},Reps K H ds vs→Reps K H es us→Reps K H (ds++es) (vs++us)
  | _,_,_,_,.nil,s=>s
  | _,_,_,_,.cons r t,s=>.cons r (Reps.append t s)
theorem Reps.take:∀ {ds:List D} {vs:List V} (n:Nat),Reps K H ds vs→Reps K H (ds.take n) (vs.take n)
  | _,_,0,_=>.nil
  | _,_,_ + 1,.nil=>.nil
  | _,_,n + 1,.cons r t=>.cons r (Reps.take n t)
theorem Reps.drop:∀ {ds:List D} {vs:List V} (n:Nat),Reps K H ds vs→Reps K H (ds.drop n) (vs.drop n)
  | _,_,0,r=>r
  | _,_,_ + 1,.nil=>.nil
  | _,_,n + 1,.cons _ t=>Reps.drop n t
def mask (H:Hp) (ps:List Addr):Hp:=fun b=>if b ∈ ps then none else H b
theorem mask_same {ps:List Addr} (e:Same H H'):Same (mask H ps) (mask H' ps):=fun b o h=>by
  unfold mask at h ⊢
  by_cases hb:b ∈ ps
  · rw [if_pos hb] at h; cases h
  · rw [if_neg hb] at h ⊢; exact e b o h
theorem mask_sub {ps ps':List Addr} (h:∀ p ∈ ps',p ∈ ps):Same (mask H ps) (mask H ps'):=fun b o e=>by
  unfold mask at e ⊢
  by_cases hb:b ∈ ps
  · rw [if_pos hb] at e; cases e
  · rw [if_neg hb] at e
    rw [if_neg fun z=>hb (h b z)]
    exact e
theorem mask_le {ps:List Addr}:Same (mask H ps) H:=fun b o e=>by
  unfold mask at e
  by_cases hb:b ∈ ps
  · rw [if_pos hb] at e; cases e
  · rw [if_neg hb] at e; exact e
theorem mask_new {ps:List Addr} {p:Addr} {o:HO} (h:H p=none):mask (upd H p o) (p::ps)=mask H ps:=by
  funext b
  unfold mask
  by_cases hb:b=p
  · subst hb
    rw [if_pos (List.mem_cons_self ..),h]
    by_cases z:b ∈ ps <;> simp [z]
  · rw [upd_ne hb]
    by_cases z:b ∈ ps
    · rw [if_pos (List.mem_cons_of_mem _ z),if_pos z]
    · rw [if_neg (fun q=>(List.mem_cons.mp q).elim hb z),if_neg z]
theorem mask_upd {ps:List Addr} {p:Addr} {o:HO} (h:p ∈ ps):mask (upd H p o) ps=mask H ps:=by
  funext b
  unfold mask
  by_cases hb:b=p
  · subst hb; rw [if_pos h,if_pos h]
  · rw [upd_ne hb]
theorem same_new {p:Addr} {o:HO} (h:H p=none):Same H (upd H p o):=fun b u q=>by rw [upd_ne (ne_of_none q h)]; exact q
theorem mask_at {ps:List Addr} {p:Addr} {o:HO} (h:p ∉ ps) (e:H p=some o):mask H ps p=some o:=by
  unfold mask; rw [if_neg h]; exact e
theorem fresh_notin {ps:List Addr} {p:Addr} (live:∀ q ∈ ps,H q ≠ none) (h:H p=none):p ∉ ps:=fun z=>live p z h

inductive Sl where
  | un | val (d:D) | own (ts:List D) | dic (hs:List Int) (kvs:List (D × D))
def DicOk (K:PySem.W.Frag) (B:Hp) (p0:List Addr) (H:Hp) (ps:List Addr) (σT:List Sl) (σ:L2.St):Prop:=∀ (i:Nat) (hs:List Int) (kvs:List (D × D)),σT[i]?=some (.dic hs kvs) →
  (∃ (p:Addr) (es:List (Int × Addr × V)),σ[i]?=some (some (.ref p))∧p ∈ ps∧B p=none∧p ∉ p0∧H p=some (dicO p es)∧hs=es.map (·.1)∧(kvs.map (·.1)).Nodup∧Reps K (mask H ps) (kvs.map (·.1)) (es.map fun e=>.ref e.2.1)∧Reps K (mask H ps) (kvs.map (·.2)) (es.map fun e=>e.2.2)) ∧
  ∀ (j:Nat) (hs':List Int) (kws:List (D × D)),σT[j]?=some (.dic hs' kws)→i=j
theorem DicOk.to {B B':Hp} {p0 p0' ps ps':List Addr} {σT σT':List Sl} {σ σ':L2.St} (o:DicOk K B p0 H ps σT σ) (hσ:∀ (i:Nat) (hs:List Int) (kvs:List (D × D)),σT'[i]?=some (.dic hs kvs)→σT[i]?=some (.dic hs kvs)∧σ'[i]?=σ[i]?)
    (hp:∀ (p:Addr) (φ:Heap→Prop),p ∈ ps→H p=some (.ext φ)→p ∉ p0→p ∈ ps'∧H' p=H p) (hB:∀ (p:Addr) (φ:Heap→Prop),p ∈ ps→H p=some (.ext φ)→B p=none→p ∉ p0→B' p=none∧p ∉ p0') (hm:Same (mask H ps) (mask H' ps')):DicOk K B' p0' H' ps' σT' σ':=fun i hs kvs h=>by
  obtain ⟨h1,h2⟩:=hσ i hs kvs h
  obtain ⟨⟨p,es,a1,a2,a3,a4,a5,a6,a7,a8,a9⟩,u⟩:=o i hs kvs h1
  obtain ⟨b1,b2⟩:=hp p _ a2 a5 a4
  obtain ⟨c1,c2⟩:=hB p _ a2 a5 a3 a4
  exact ⟨⟨p,es,h2.trans a1,b1,c1,c2,b2.trans a5,a6,a7,a8.same hm,a9.same hm⟩,fun j hs' kws hj=>u j hs' kws (hσ j hs' kws hj).1⟩
theorem dic_set {σT:List Sl} {i j:Nat} {s:Sl} {hs:List Int} {kvs:List (D × D)} (hn:∀ hs kvs,s ≠ .dic hs kvs) (h:(σT.set i s)[j]?=some (.dic hs kvs)):i ≠ j∧σT[j]?=some (.dic hs kvs):=by
  by_cases e:i=j
  · subst e
    have hi:i < σT.length:=by simpa using (List.getElem?_eq_some_iff.mp h).1
    rw [List.getElem?_set_self hi] at h
    exact absurd (Option.some.inj h) (hn hs kvs)
  · rw [List.getElem?_set_ne e] at h
    exact ⟨e,h⟩
theorem DicOk.setS {B:Hp} {p0 ps:List Addr} {σT:List Sl} {σ:L2.St} (o:DicOk K B p0 H ps σT σ) {i:Nat} {s:Sl} {v:Option V} (hn:∀ hs kvs,s ≠ .dic hs kvs):DicOk K B p0 H ps (σT.set i s) (σ.set i v) :=
  o.to (fun j hs kvs h=>let ⟨e,h'⟩:=dic_set hn h; ⟨h',List.getElem?_set_ne e⟩) (fun p φ a b _=>⟨a,rfl⟩) (fun p φ _ _ a b=>⟨a,b⟩) (L2.Same.refl _)
theorem DicOk.setT {B:Hp} {p0 ps:List Addr} {σT:List Sl} {σ:L2.St} (o:DicOk K B p0 H ps σT σ) {i:Nat} {s:Sl} (hn:∀ hs kvs,s ≠ .dic hs kvs):DicOk K B p0 H ps (σT.set i s) σ :=
  o.to (fun j hs kvs h=>⟨(dic_set hn h).2,rfl⟩) (fun p φ a b _=>⟨a,rfl⟩) (fun p φ _ _ a b=>⟨a,b⟩) (L2.Same.refl _)
theorem DicOk.grow {B:Hp} {p0 ps:List Addr} {σT:List Sl} {σ:L2.St} (o:DicOk K B p0 H ps σT σ) (e:Same H H'):DicOk K B p0 H' ps σT σ :=
  o.to (fun j hs kvs h=>⟨h,rfl⟩) (fun p φ a b _=>⟨a,(e p _ b).trans b.symm⟩) (fun p φ _ _ a b=>⟨a,b⟩) (mask_same e)
structure Ok (K:PySem.W.Frag) (B:Hp) (p0:List Addr) (H:Hp) (ps:List Addr) (σT:List Sl) (σ:L2.St):Prop where
  base:Same B H
  sub:∀ p ∈ p0,p ∈ ps
  live:∀ p ∈ ps,H p ≠ none
  len:σT.length=σ.length
  val:∀ (i:Nat) (d:D),σT[i]?=some (.val d)→∃ v,σ[i]?=some (some v)∧Rep K (mask H ps) d v
  own:∀ (i:Nat) (ts:List D),σT[i]?=some (.own ts)→∃ p xs,σ[i]?=some (some (.ref p))∧p ∈ ps∧B p=none∧p ∉ p0∧H p=some (.lst xs)∧Reps K (mask H ps) ts xs
  dis:∀ (i j:Nat) (ts us:List D) (p:Addr),σT[i]?=some (.own ts)→σT[j]?=some (.own us)→σ[i]?=some (some (.ref p))→σ[j]?=some (some (.ref p))→i=j
  dc:DicOk K B p0 H ps σT σ
variable {B:Hp} {p0 ps:List Addr} {σT:List Sl} {σ:L2.St}
theorem Ok.grow (o:Ok K B p0 H ps σT σ) (e:Same H H'):Ok K B p0 H' ps σT σ where
  base:=o.base.trans e
  sub:=o.sub
  live:=fun p hp z=>by
    cases q:H p with
    | none=>exact o.live p hp q
    | some u=>rw [e p u q] at z; cases z
  len:=o.len
  val:=fun i d h=>let ⟨v,h1,h2⟩:=o.val i d h; ⟨v,h1,h2.same (mask_same e)⟩
  own:=fun i ts h=>let ⟨p,xs,h1,h2,h3,h4,h5,h6⟩:=o.own i ts h; ⟨p,xs,h1,h2,h3,h4,e _ _ h5,h6.same (mask_same e)⟩
  dis:=o.dis
  dc:=o.dc.grow e
theorem Ok.set (o:Ok K B p0 H ps σT σ) {i:Nat} {d:D} {v:V} (r:Rep K (mask H ps) d v):Ok K B p0 H ps (σT.set i (.val d)) (σ.set i (some v)) where
  base:=o.base
  sub:=o.sub
  live:=o.live
  len:=by simpa using o.len
  val:=fun j d' h=>by
    by_cases e:i=j
    · subst e
      have hi:i < σT.length:=by
        have:=(List.getElem?_eq_some_iff.mp h).1
        simpa using this
      rw [List.getElem?_set_self hi] at h
      cases h
      exact ⟨v,by rw [List.getElem?_set_self (by rw [← o.len]; exact hi)],r⟩
    · rw [List.getElem?_set_ne e] at h ⊢
      exact o.val j d' h
  own:=fun j ts h=>by
    by_cases e:i=j
    · subst e
      have hi:i < σT.length:=by
        have:=(List.getElem?_eq_some_iff.mp h).1
        simpa using this
      rw [List.getElem?_set_self hi] at h
      cases h
    · rw [List.getElem?_set_ne e] at h ⊢
      exact o.own j ts h
  dis:=fun j k ts us p h1 h2 h3 h4=>by
    have ne:∀ {l:Nat} {ts:List D},(σT.set i (.val d))[l]?=some (.own ts)→i ≠ l:=fun {l ts} h e=>by
      subst e
      have hi:i < σT.length:=by
        have:=(List.getElem?_eq_some_iff.mp h).1
        simpa using this
      rw [List.getElem?_set_self hi] at h
      cases h
    have e1:=ne h1
    have e2:=ne h2
    rw [List.getElem?_set_ne e1] at h1 h3
    rw [List.getElem?_set_ne e2] at h2 h4
    exact o.dis j k ts us p h1 h2 h3 h4
  dc:=o.dc.setS fun _ _ z=>nomatch z
theorem Ok.setOwn (o:Ok K B p0 H ps σT σ) {i:Nat} {ts:List D} {xs:List V} {p:Addr} (hp:H p=none) (r:Reps K (mask H ps) ts xs):Ok K B p0 (upd H p (.lst xs)) (p::ps) (σT.set i (.own ts)) (σ.set i (some (.ref p))):=by
  have hm:mask (upd H p (.lst xs)) (p::ps)=mask H ps:=mask_new hp
  have hps:p ∉ ps:=fresh_notin o.live hp
  have hn:∀ {l:Nat} {us:List D},i ≠ l→σT[l]?=some (.own us)→σ[l]? ≠ some (some (.ref p)):=fun {l us} _ h z=>by
    obtain ⟨q,_,h1,h2,_⟩:=o.own l us h
    rw [z] at h1
    cases h1
    exact hps h2
  refine ⟨o.base.trans (same_new hp),fun q hq=>List.mem_cons_of_mem _ (o.sub q hq),fun q hq=>?_,by simpa using o.len,fun j d h=>?_,fun j us h=>?_,fun j k us ws q h1 h2 h3 h4=>?_,?_⟩
  · by_cases e:q=p
    · subst e; rw [upd_same]; simp
    · rw [upd_ne e]
      rcases List.mem_cons.mp hq with z | z
      · exact absurd z e
      · exact o.live q z
  · rw [hm]
    by_cases e:i=j
    · subst e
      have hi:i < σT.length:=by simpa using (List.getElem?_eq_some_iff.mp h).1
      rw [List.getElem?_set_self hi] at h
      cases h
    · rw [List.getElem?_set_ne e] at h ⊢
      exact o.val j d h
  · rw [hm]
    by_cases e:i=j
    · subst e
      have hi:i < σT.length:=by simpa using (List.getElem?_eq_some_iff.mp h).1
      rw [List.getElem?_set_self hi] at h
      cases h
      refine ⟨p,xs,by rw [List.getElem?_set_self (by rw [← o.len]; exact hi)],List.mem_cons_self ..,?_,fun z=>hps (o.sub p z),upd_same,r⟩
      cases q:B p with
      | none=>rfl
      | some u=>rw [o.base p u q] at hp; cases hp
    · rw [List.getElem?_set_ne e] at h ⊢
      obtain ⟨q,ys,h1,h2,h3,h4,h5,h6⟩:=o.own j us h
      refine ⟨q,ys,h1,List.mem_cons_of_mem _ h2,h3,h4,?_,h6⟩
      rw [upd_ne (fun z:q=p=>hps (z ▸ h2))]
      exact h5
  · by_cases e1:i=j
    · by_cases e2:i=k
      · exact e1.symm.trans e2
      · subst e1
        have hi:i < σT.length:=by simpa using (List.getElem?_eq_some_iff.mp h1).1
        rw [List.getElem?_set_self (by rw [← o.len]; exact hi)] at h3
        cases h3
        rw [List.getElem?_set_ne e2] at h2 h4
        exact absurd h4 (hn e2 h2)
    · by_cases e2:i=k
      · subst e2
        have hi:i < σT.length:=by simpa using (List.getElem?_eq_some_iff.mp h2).1
        rw [List.getElem?_set_self (by rw [← o.len]; exact hi)] at h4
        cases h4
        rw [List.getElem?_set_ne e1] at h1 h3
        exact absurd h3 (hn e1 h1)
      · rw [List.getElem?_set_ne e1] at h1 h3
        rw [List.getElem?_set_ne e2] at h2 h4
        exact o.dis j k us ws q h1 h2 h3 h4
  · exact (o.dc.setS (i:=i) (s:=.own ts) (v:=some (.ref p)) fun _ _ z=>nomatch z).to (fun j hs kvs h=>⟨h,rfl⟩) (fun q φ a b _=>⟨List.mem_cons_of_mem _ a,upd_ne fun z=>by rw [z,hp] at b; cases b⟩) (fun q φ _ _ a b=>⟨a,b⟩) (by rw [hm]; exact L2.Same.refl _)
theorem Ok.write (o:Ok K B p0 H ps σT σ) {i:Nat} {ts us:List D} {ys:List V} {p:Addr} (hi:σT[i]?=some (.own ts)) (hσ:σ[i]?=some (some (.ref p))) (r:Reps K (mask H ps) us ys) :
    Ok K B p0 (upd H p (.lst ys)) ps (σT.set i (.own us)) σ:=by
  obtain ⟨q,zs,h1,h2,h3,h4,h5,h6⟩:=o.own i ts hi
  rw [hσ] at h1
  cases h1
  have hm:mask (upd H p (.lst ys)) ps=mask H ps:=mask_upd h2
  have hil:i < σT.length:=(List.getElem?_eq_some_iff.mp hi).1
  refine ⟨fun b u e=>?_,o.sub,fun q hq=>?_,by simpa using o.len,fun j d h=>?_,fun j ws h=>?_,fun j k vs ws q k1 k2 k3 k4=>?_,?_⟩
  · have ne:b ≠ p:=fun z=>by rw [z,h3] at e; cases e
    rw [upd_ne ne]; exact o.base b u e
  · by_cases e:q=p
    · subst e; rw [upd_same]; simp
    · rw [upd_ne e]; exact o.live q hq
  · rw [hm]
    by_cases e:i=j
    · subst e
      rw [List.getElem?_set_self hil] at h
      cases h
    · rw [List.getElem?_set_ne e] at h
      exact o.val j d h
  · rw [hm]
    by_cases e:i=j
    · subst e
      rw [List.getElem?_set_self hil] at h
      cases h
      exact ⟨p,ys,hσ,h2,h3,h4,upd_same,r⟩
    · rw [List.getElem?_set_ne e] at h
      obtain ⟨q,vs,k1,k2,k3,k4,k5,k6⟩:=o.own j ws h
      refine ⟨q,vs,k1,k2,k3,k4,?_,k6⟩
      rw [upd_ne (fun z:q=p=>e (o.dis i j ts ws p hi h hσ (z ▸ k1)))]
      exact k5
  · have back:∀ {l:Nat} {vs:List D},(σT.set i (.own us))[l]?=some (.own vs)→∃ vs',σT[l]?=some (.own vs'):=fun {l vs} h=>by
      by_cases e:i=l
      · subst e; exact ⟨ts,hi⟩
      · rw [List.getElem?_set_ne e] at h; exact ⟨vs,h⟩
    obtain ⟨vs',k1⟩:=back k1
    obtain ⟨ws',k2⟩:=back k2
    exact o.dis j k vs' ws' q k1 k2 k3 k4
  · exact (o.dc.setT (i:=i) (s:=.own us) fun _ _ z=>nomatch z).to (fun j hs kvs h=>⟨h,rfl⟩) (fun q φ a b _=>⟨a,upd_ne fun z=>by rw [z,h5] at b; cases b⟩) (fun q φ _ _ a b=>⟨a,b⟩) (by rw [hm]; exact L2.Same.refl _)
theorem Ok.share (o:Ok K B p0 H ps σT σ) {i:Nat} {ts:List D} (hi:σT[i]?=some (.own ts)):∃ ps',Ok K B p0 H ps' (σT.set i (.val (.list ts))) σ∧Same (mask H ps) (mask H ps'):=by
  obtain ⟨p,xs,h1,h2,h3,h4,h5,h6⟩:=o.own i ts hi
  have hil:i < σT.length:=(List.getElem?_eq_some_iff.mp hi).1
  have hsub:Same (mask H ps) (mask H (ps.filter fun q=>decide (q ≠ p))):=mask_sub fun q hq=>(List.mem_filter.mp hq).1
  have hpn:p ∉ ps.filter fun q=>decide (q ≠ p):=fun z=>(of_decide_eq_true (List.mem_filter.mp z).2) rfl
  refine ⟨ps.filter fun q=>decide (q ≠ p),⟨o.base,fun q hq=>List.mem_filter.mpr ⟨o.sub q hq,decide_eq_true fun z=>h4 (z ▸ hq)⟩,fun q hq=>o.live q (List.mem_filter.mp hq).1,by simpa using o.len,fun j d h=>?_,fun j us h=>?_,fun j k us ws q k1 k2 k3 k4=>?_,?_⟩,hsub⟩
  · by_cases e:i=j
    · subst e
      rw [List.getElem?_set_self hil] at h
      cases h
      exact ⟨_,h1,.list (SqL.of (mask_at hpn h5)) (h6.same hsub)⟩
    · rw [List.getElem?_set_ne e] at h
      obtain ⟨v,k1,k2⟩:=o.val j d h
      exact ⟨v,k1,k2.same hsub⟩
  · by_cases e:i=j
    · subst e
      rw [List.getElem?_set_self hil] at h
      cases h
    · rw [List.getElem?_set_ne e] at h
      obtain ⟨q,ys,k1,k2,k3,k4,k5,k6⟩:=o.own j us h
      exact ⟨q,ys,k1,List.mem_filter.mpr ⟨k2,decide_eq_true fun z=>e (o.dis i j ts us p hi h h1 (z ▸ k1))⟩,k3,k4,k5,k6.same hsub⟩
  · have back:∀ {l:Nat} {vs:List D},(σT.set i (.val (.list ts)))[l]?=some (.own vs)→σT[l]?=some (.own vs):=fun {l vs} h=>by
      by_cases e:i=l
      · subst e; rw [List.getElem?_set_self hil] at h; cases h
      · rw [List.getElem?_set_ne e] at h; exact h
    exact o.dis j k us ws q (back k1) (back k2) k3 k4
  · exact (o.dc.setT (i:=i) (s:=.val (.list ts)) fun _ _ z=>nomatch z).to (fun j hs kvs h=>⟨h,rfl⟩) (fun q φ a b _=>⟨List.mem_filter.mpr ⟨a,decide_eq_true fun z=>by rw [z,h5] at b; cases b⟩,rfl⟩) (fun q φ _ _ a b=>⟨a,b⟩) hsub

abbrev ET:=List Sl→(D→Prop)→Prop
abbrev TTt:=List Sl→(Bool→Prop)→Prop
abbrev AT:=List Sl→(List D→Prop)→Prop
def PEt (X:Cx) (e:Expr) (t:ET):Prop:=∃ te:TE,PE X e te∧∀ (B:Hp) (p0:List Addr) (H:Hp) (ps:List Addr) (σT:List Sl) (σ:L2.St) (Q:D→Prop) (QV:VK),Ok X.K B p0 H ps σT σ→t σT Q →
  (∀ d v H',Same H H'→Rep X.K (mask H' ps) d v→Q d→QV v H')→te σ H QV
def PTt (X:Cx) (e:Expr) (t:TTt):Prop:=∃ tt:TT,PT X e tt∧∀ (B:Hp) (p0:List Addr) (H:Hp) (ps:List Addr) (σT:List Sl) (σ:L2.St) (Q:Bool→Prop) (QV:Bool→Hp→Prop),Ok X.K B p0 H ps σT σ→t σT Q →
  (∀ b H',Same H H'→Q b→QV b H')→tt σ H QV
def PWt (X:Cx) (e:Expr) (t:TTt):Prop:=∃ tt:TT,PW X e tt∧∀ (B:Hp) (p0:List Addr) (H:Hp) (ps:List Addr) (σT:List Sl) (σ:L2.St) (Q:Bool→Prop) (QV:Bool→Hp→Prop),Ok X.K B p0 H ps σT σ→t σT Q →
  (∀ b H',Same H H'→Q b→QV b H')→tt σ H QV
def PAt (X:Cx) (es:List Expr) (t:AT):Prop:=∃ ta:TA,PA X es ta∧∀ (B:Hp) (p0:List Addr) (H:Hp) (ps:List Addr) (σT:List Sl) (σ:L2.St) (Q:List D→Prop) (QV:List V→Hp→Prop),Ok X.K B p0 H ps σT σ→t σT Q →
  (∀ ds vs H',Same H H'→Reps X.K (mask H' ps) ds vs→Q ds→QV vs H')→ta σ H QV
structure EndsT where
  nx:List Sl→Prop
  rt:D→Prop
  bk:List Sl→Prop:=fun _=>False
  ct:List Sl→Prop:=fun _=>False
  ro:List D→Prop:=fun _=>False
  rp:List D→List D→Prop:=fun _ _=>False
  rq:D→List D→Prop:=fun _ _=>False
  xB:Hp→Prop:=fun _=>True
abbrev STt:=EndsT→List Sl→Prop
structure Fits (K:PySem.W.Frag) (B:Hp) (p0:List Addr) (H:Hp) (ps:List Addr) (DT:EndsT) (DV:Ends):Prop where
  nx:∀ H' ps' σT' σ',Ok K B p0 H' ps' σT' σ'→Same (mask H ps) (mask H' ps')→DT.nx σT'→DV.nx σ' H'
  bk:∀ H' ps' σT' σ',Ok K B p0 H' ps' σT' σ'→Same (mask H ps) (mask H' ps')→DT.bk σT'→DV.bk σ' H'
  ct:∀ H' ps' σT' σ',Ok K B p0 H' ps' σT' σ'→Same (mask H ps) (mask H' ps')→DT.ct σT'→DV.ct σ' H'
  rt:∀ d v H',Same B H'→Rep K (mask H' p0) d v→DT.rt d→DV.rt v H'
  ro:∀ ts p xs H',Same B H'→B p=none→p ∉ p0→H' p=some (.lst xs)→Reps K (mask H' (p::p0)) ts xs→DT.ro ts→DV.rt (.ref p) H'
  rp:∀ as bs r p q xs ys H',Same B H'→B r=none→B p=none→B q=none→p ≠ q→H' r=some (.tup [.ref p,.ref q])→H' p=some (.lst xs)→H' q=some (.lst ys)→Reps K (mask H' (p::q::p0)) as xs→Reps K (mask H' (p::q::p0)) bs ys→DT.rp as bs→DV.rt (.ref r) H'
  rq:∀ a ts r p x xs H',Same B H'→B r=none→B p=none→H' r=some (.tup [x,.ref p])→H' p=some (.lst xs)→Rep K (mask H' (p::p0)) a x→Reps K (mask H' (p::p0)) ts xs→DT.rq a ts→DV.rt (.ref r) H'
  xb:DT.xB B
theorem Fits.later {DT:EndsT} {DV:Ends} {ps':List Addr} (f:Fits K B p0 H ps DT DV) (e:Same (mask H ps) (mask H' ps')):Fits K B p0 H' ps' DT DV :=
  ⟨fun _ _ _ _ o s q=>f.nx _ _ _ _ o (e.trans s) q,fun _ _ _ _ o s q=>f.bk _ _ _ _ o (e.trans s) q,fun _ _ _ _ o s q=>f.ct _ _ _ _ o (e.trans s) q,f.rt,f.ro,f.rp,f.rq,f.xb⟩
def PSt (X:Cx) (st:Stmt) (t:STt):Prop:=∃ ts:TS,PS X st ts∧∀ (B:Hp) (p0:List Addr) (H:Hp) (ps:List Addr) (σT:List Sl) (σ:L2.St) (DT:EndsT) (DV:Ends),Ok X.K B p0 H ps σT σ→t DT σT→Fits X.K B p0 H ps DT DV→ts DV σ H
def PSst (X:Cx) (st:List Stmt) (t:STt):Prop:=∃ ts:TS,PSs X st ts∧∀ (B:Hp) (p0:List Addr) (H:Hp) (ps:List Addr) (σT:List Sl) (σ:L2.St) (DT:EndsT) (DV:Ends),Ok X.K B p0 H ps σT σ→t DT σT→Fits X.K B p0 H ps DT DV→ts DV σ H
def Op2 (X:Cx) (r:R2) (f:D→D→(D→Prop)→Prop):Prop:=∀ (H:Hp) (ps:List Addr) (d1 d2:D) (x y:V) (Q:D→Prop) (QV:VK),(∀ p ∈ ps,H p ≠ none)→Rep X.K (mask H ps) d1 x→Rep X.K (mask H ps) d2 y→f d1 d2 Q →
  (∀ d v H',Same H H'→Rep X.K (mask H' ps) d v→Q d→QV v H')→r x y H QV
def CallT (X:Cx) (r:List V→Hp→VK→Prop) (f:List D→(D→Prop)→Prop):Prop:=∀ (H:Hp) (ps:List Addr) (ds:List D) (xs:List V) (Q:D→Prop) (QV:VK),(∀ p ∈ ps,H p ≠ none)→Reps X.K (mask H ps) ds xs→f ds Q →
  (∀ d v H',Same H H'→Rep X.K (mask H' ps) d v→Q d→QV v H')→r xs H QV
section
variable {X:Cx} {a b e:Expr} {es:List Expr} {ta tb te:ET} {pos:Pos}

inductive VarAt (σ:List Sl) (i:Nat) (Q:D→Prop):Prop
  | mk (d:D) (h:σ[i]?=some (.val d)) (k:Q d):VarAt σ i Q
def eVar (i:Nat):ET:=fun σ Q=>VarAt σ i Q
def eC (d:D):ET:=fun _ Q=>Q d
theorem et_v (i:Nat) {x:Str} {pos:Pos} (hN:X.N[i]?=some x:=by rfl) (hv:Vis X.env.scope x:=by first | exact Or.inl rfl | exact Or.inr (Or.inl rfl) | exact Or.inr (Or.inr rfl)) (hd:(x == ("__debug__":Str))=false:=by decide)
    (hcd:(x == ("__classdict__":Str))=false:=by decide):PEt X (.Name x pos) (eVar i) :=
  ⟨_,pe_var hN hv hd hcd,fun B p0 H ps σT σ Q QV o h k=>by
    obtain ⟨d,e,q⟩:=h
    obtain ⟨v,e1,r⟩:=o.val i d e
    exact ⟨v,e1,k d v H (L2.Same.refl H) r q⟩⟩
theorem et_int {i j pos}:PEt X (.Constant (.int i) j pos) (eC (.int i)):=⟨_,pe_int,fun _ _ H _ _ _ _ _ _ h k=>k _ _ H (L2.Same.refl H) (.int i) h⟩
theorem et_bl {b j pos}:PEt X (.Constant (.bool b) j pos) (eC (.bool b)):=⟨_,pe_bl,fun _ _ H _ _ _ _ _ _ h k=>k _ _ H (L2.Same.refl H) (.bool b) h⟩
theorem et_non {j pos}:PEt X (.Constant .none j pos) (eC .none):=⟨_,pe_non,fun _ _ H _ _ _ _ _ _ h k=>k _ _ H (L2.Same.refl H) .none h⟩
theorem et_str {x j pos}:PEt X (.Constant (.str x) j pos) (eC (.str x)):=⟨_,pe_str,fun _ _ H _ _ _ _ _ _ h k=>k _ _ H (L2.Same.refl H) (.str x) h⟩
theorem et_gint {x:Str} {i:Int} {t:Tok} {pos:Pos} (hg:Gl X x) (hm:X.mg x=some (.int i t)) (hd:(x == ("__debug__":Str))=false:=by decide):PEt X (.Name x pos) (eC (.int i)):=⟨_,pe_glob (v:=.int i) hg hm ⟨t,rfl⟩ hd,fun _ _ H _ _ _ _ _ _ h k=>k _ _ H (L2.Same.refl H) (.int i) h⟩
def eOp (f:D→D→(D→Prop)→Prop) (ta tb:ET):ET:=fun σ Q=>ta σ fun x=>tb σ fun y=>f x y Q
theorem op_read {r:R2} {f:D→D→(D→Prop)→Prop} (h2:Op2 X r f) {va vb:TE}
    (ha:∀ (B:Hp) (p0:List Addr) (H:Hp) (ps:List Addr) (σT:List Sl) (σ:L2.St) (Q:D→Prop) (QV:VK),Ok X.K B p0 H ps σT σ→ta σT Q→(∀ d v H',Same H H'→Rep X.K (mask H' ps) d v→Q d→QV v H')→va σ H QV)
    (hb:∀ (B:Hp) (p0:List Addr) (H:Hp) (ps:List Addr) (σT:List Sl) (σ:L2.St) (Q:D→Prop) (QV:VK),Ok X.K B p0 H ps σT σ→tb σT Q→(∀ d v H',Same H H'→Rep X.K (mask H' ps) d v→Q d→QV v H')→vb σ H QV)
    (B:Hp) (p0:List Addr) (H:Hp) (ps:List Addr) (σT:List Sl) (σ:L2.St) (Q:D→Prop) (QV:VK) (o:Ok X.K B p0 H ps σT σ) (h:eOp f ta tb σT Q) (k:∀ d v H',Same H H'→Rep X.K (mask H' ps) d v→Q d→QV v H'):tOp r va vb σ H QV:=by
  refine ha B p0 H ps σT σ _ _ o h fun d1 x H1 s1 r1 q1=>?_
  refine hb B p0 H1 ps σT σ _ _ (o.grow s1) q1 fun d2 y H2 s2 r2 q2=>?_
  exact h2 H2 ps d1 d2 x y Q QV ((o.grow s1).grow s2).live (r1.same (mask_same s2)) r2 q2 fun d v H' s' r' q'=>k d v H' (s1.trans (s2.trans s')) r' q'
theorem et_op {op:Operator} {r:R2} {f:D→D→(D→Prop)→Prop} (ho:OpR X (binaryOp op) r) (h2:Op2 X r f) (ha:PEt X a ta) (hb:PEt X b tb):PEt X (.BinOp a op b pos) (eOp f ta tb):=by
  obtain ⟨va,pa,ra⟩:=ha
  obtain ⟨vb,pb,rb⟩:=hb
  exact ⟨_,pe_op ho pa pb,op_read h2 ra rb⟩
theorem et_cmp {op:CmpOp} {r:R2} {f:D→D→(D→Prop)→Prop} (ho:OpR X (compareOp op) r) (h2:Op2 X r f) (ha:PEt X a ta) (hb:PEt X b tb) (hm:behindInMarks op b=false:=by first | exact nomark _ | rfl):PEt X (.Compare a [op] [b] pos) (eOp f ta tb):=by
  obtain ⟨va,pa,ra⟩:=ha
  obtain ⟨vb,pb,rb⟩:=hb
  exact ⟨_,pe_cmpR ho pa pb hm,op_read h2 ra rb⟩
theorem et_ix {r:R2} {f:D→D→(D→Prop)→Prop} (ho:IxR X r) (h2:Op2 X r f) (ha:PEt X a ta) (hb:PEt X b tb) (hs:PlainIx b:=by intro _ _; rfl):PEt X (.Subscript a b pos) (eOp f ta tb):=by
  obtain ⟨va,pa,ra⟩:=ha
  obtain ⟨vb,pb,rb⟩:=hb
  exact ⟨_,pe_ix ho pa pb hs,op_read h2 ra rb⟩
def eNeg (ta:ET):ET:=fun σ Q=>ta σ fun x=>match x with | .int i=>Q (.int (-i)) | _=>False
theorem et_neg (ha:PEt X a ta):PEt X (.UnaryOp .USub a pos) (eNeg ta):=by
  obtain ⟨va,pa,ra⟩:=ha
  refine ⟨_,pe_un un_neg pa,fun B p0 H ps σT σ Q QV o h k=>ra B p0 H ps σT σ _ _ o h fun d x H1 s1 r1 q1=>?_⟩
  cases r1 with
  | int i=>exact ⟨i,rfl,k _ _ H1 s1 (.int _) q1⟩
  | _=>exact q1.elim
def aNil:AT:=fun _ Q=>Q []
def aCons (t:ET) (r:AT):AT:=fun σ Q=>t σ fun x=>r σ fun xs=>Q (x::xs)
theorem at_nil:PAt X [] aNil:=⟨_,pa_nil,fun _ _ H _ _ _ _ _ _ h k=>k _ _ H (L2.Same.refl H) .nil h⟩
theorem at_cons {tr:AT} (ha:PEt X e te) (hr:PAt X es tr) (hs:starEach (e::es) X.env=(false,eval e X.env)::starEach es X.env:=by rfl):PAt X (e::es) (aCons te tr):=by
  obtain ⟨va,pa,ra⟩:=ha
  obtain ⟨vr,pr,rr⟩:=hr
  refine ⟨_,pa_cons pa pr hs,fun B p0 H ps σT σ Q QV o h k=>ra B p0 H ps σT σ _ _ o h fun d x H1 s1 r1 q1=>?_⟩
  refine rr B p0 H1 ps σT σ _ _ (o.grow s1) q1 fun ds xs H2 s2 r2 q2=>?_
  exact k _ _ H2 (s1.trans s2) (.cons (r1.same (mask_same s2)) r2) q2
def eTup (t:AT):ET:=fun σ Q=>t σ fun ds=>ds.length≤1000∧Q (.tuple ds)
def eLst (t:AT):ET:=fun σ Q=>t σ fun ds=>ds.length≤1000∧Q (.list ds)
theorem rep_tup {ps:List Addr} {p:Addr} {ds:List D} {xs:List V} (live:∀ q ∈ ps,H q ≠ none) (hp:H p=none) (r:Reps K (mask H ps) ds xs):Rep K (mask (upd H p (.tup xs)) ps) (.tuple ds) (.ref p) :=
  .tuple (SqT.of (mask_at (fresh_notin live hp) upd_same)) (r.same (mask_same (same_new hp)))
theorem rep_lst {ps:List Addr} {p:Addr} {ds:List D} {xs:List V} (live:∀ q ∈ ps,H q ≠ none) (hp:H p=none) (r:Reps K (mask H ps) ds xs):Rep K (mask (upd H p (.lst xs)) ps) (.list ds) (.ref p) :=
  .list (SqL.of (mask_at (fresh_notin live hp) upd_same)) (r.same (mask_same (same_new hp)))
theorem le_line {n:Nat} (h:n≤1000):n≤sizeLine:=Nat.le_of_lt (small1000 h)
theorem et_tup {x1} {t:AT} (h:PAt X es t):PEt X (.Tuple es x1 pos) (eTup t):=by
  obtain ⟨v,p,r⟩:=h
  refine ⟨_,pe_tup p,fun B p0 H ps σT σ Q QV o h k=>r B p0 H ps σT σ _ _ o h fun ds xs H1 s1 r1 q1=>⟨le_line (by rw [← r1.length]; exact q1.1),fun q hq=>?_⟩⟩
  exact k _ _ _ (s1.trans (same_new hq)) (rep_tup (o.grow s1).live hq r1) q1.2
theorem et_lst {t:AT} (h:PAt X es t):PEt X (.List es pos) (eLst t):=by
  obtain ⟨v,p,r⟩:=h
  refine ⟨_,pe_lst p,fun B p0 H ps σT σ Q QV o h k=>r B p0 H ps σT σ _ _ o h fun ds xs H1 s1 r1 q1=>⟨le_line (by rw [← r1.length]; exact q1.1),fun q hq=>?_⟩⟩
  exact k _ _ _ (s1.trans (same_new hq)) (rep_lst (o.grow s1).live hq r1) q1.2
def eCall (f:List D→(D→Prop)→Prop) (t:AT):ET:=fun σ Q=>t σ fun ds=>f ds Q
abbrev SpT:=List D→(D→Prop)→Prop
def liftSp (K:PySem.W.Frag) (sp:SpT):Sp:=fun vs H Q _=>∃ (ps:List Addr) (ds:List D) (QD:D→Prop),(∀ p ∈ ps,H p ≠ none)∧Reps K (mask H ps) ds vs∧sp ds QD∧∀ d v H',Same H H'→Rep K (mask H' ps) d v→QD d→Q v H'
theorem et_call {k:Nat} {f:Addr} {fd:FuncData} {pn:List Str} {sp:SpT} {x:Str} {p:Pos} {t:AT} (F:FnOk X.prog X.w X.K X.mg X.base CX0 k f fd pn (liftSp X.K sp)) (hm:X.mg x=some (.ref f)) (hk:PySem.W.keepIn X.K (.ref f)=true) (hb:Binds X.K fd pn [])
    (hr:Room k X.A) (ha:PAt X (e::es) t) (pc:∀ {ta:TA},PA X (e::es) ta→PE X (.Call (.Name x p) (e::es) [] pos) (tCall (liftSp X.K sp) [] E0 ta)):PEt X (.Call (.Name x p) (e::es) [] pos) (eCall sp t):=by
  obtain ⟨v,pa,ra⟩:=ha
  refine ⟨_,pc pa,fun B p0 H ps σT σ Q QV o h k=>ra B p0 H ps σT σ _ _ o h fun ds xs H1 s1 r1 q1=>?_⟩
  show liftSp X.K sp (xs++[]) H1 QV E0
  rw [List.append_nil]
  exact ⟨ps,ds,Q,(o.grow s1).live,r1,q1,fun d v H' s' r' q'=>k d v H' (s1.trans s') r' q'⟩
def cTest (t:ET):TTt:=fun σ Q=>t σ fun x=>match x with | .bool b=>Q b | _=>False
theorem tt_val (h:PEt X e te) (pt:∀ {t:TE},PE X e t→PT X e (tB t)):PTt X e (cTest te):=by
  obtain ⟨v,p,r⟩:=h
  refine ⟨_,pt p,fun B p0 H ps σT σ Q QV o h k=>r B p0 H ps σT σ _ _ o h fun d x H1 s1 r1 q1=>?_⟩
  cases r1 with
  | bool c=>exact ⟨c,rfl,k c H1 s1 q1⟩
  | _=>exact q1.elim
theorem tt_cmp {op:CmpOp} {r:R2} {f:D→D→(D→Prop)→Prop} (ho:OpR X (compareOp op) r) (h2:Op2 X r f) (ha:PEt X a ta) (hb:PEt X b tb) (hm:behindInMarks op b=false:=by first | exact nomark _ | rfl):PTt X (.Compare a [op] [b] pos) (cTest (eOp f ta tb)):=by
  obtain ⟨va,pa,ra⟩:=ha
  obtain ⟨vb,pb,rb⟩:=hb
  refine ⟨_,pt_cmpR ho pa pb hm,fun B p0 H ps σT σ Q QV o h k=>?_⟩
  refine op_read h2 ra rb B p0 H ps σT σ (fun x=>match x with | .bool b=>Q b | _=>False) _ o h fun d v H' s' r' q'=>?_
  cases r' with
  | bool c=>exact ⟨c,rfl,k c H' s' q'⟩
  | _=>exact q'.elim
def cNot (t:TTt):TTt:=fun σ Q=>t σ fun b=>Q (!b)
def cAnd (t u:TTt):TTt:=fun σ Q=>t σ fun b=>if b=true then u σ Q else Q false
def cOr (t u:TTt):TTt:=fun σ Q=>t σ fun b=>if b=true then Q true else u σ Q
variable {tA tB':TTt} {rest:List Expr}
theorem tt_not (h:PTt X a tA):PTt X (.UnaryOp .Not a pos) (cNot tA):=by
  obtain ⟨v,p,r⟩:=h
  exact ⟨_,pt_not p,fun B p0 H ps σT σ Q QV o h k=>r B p0 H ps σT σ _ _ o h fun b H' s' q'=>k _ H' s' q'⟩
theorem tw_pt (h:PWt X e tA):PTt X e tA:=by
  obtain ⟨v,p,r⟩:=h
  exact ⟨_,p.pt,r⟩
theorem tw_and1 (h:PTt X a tA):PWt X (.BoolOp .And [a] pos) tA:=by
  obtain ⟨v,p,r⟩:=h
  exact ⟨_,pw_and1 p,r⟩
theorem tw_or1 (h:PTt X a tA):PWt X (.BoolOp .Or [a] pos) tA:=by
  obtain ⟨v,p,r⟩:=h
  exact ⟨_,pw_or1 p,r⟩
theorem tw_and (ha:PTt X a tA) (hb:PWt X (.BoolOp .And (b::rest) pos) tB'):PWt X (.BoolOp .And (a::b::rest) pos) (cAnd tA tB'):=by
  obtain ⟨va,pa,ra⟩:=ha
  obtain ⟨vb,pb,rb⟩:=hb
  refine ⟨_,pw_and pa pb,fun B p0 H ps σT σ Q QV o h k=>ra B p0 H ps σT σ _ _ o h fun c H1 s1 q1=>?_⟩
  cases c with
  | true=>exact rb B p0 H1 ps σT σ Q _ (o.grow s1) q1 fun b H' s' q'=>k b H' (s1.trans s') q'
  | false=>exact k _ H1 s1 q1
theorem tw_or (ha:PTt X a tA) (hb:PWt X (.BoolOp .Or (b::rest) pos) tB'):PWt X (.BoolOp .Or (a::b::rest) pos) (cOr tA tB'):=by
  obtain ⟨va,pa,ra⟩:=ha
  obtain ⟨vb,pb,rb⟩:=hb
  refine ⟨_,pw_or pa pb,fun B p0 H ps σT σ Q QV o h k=>ra B p0 H ps σT σ _ _ o h fun c H1 s1 q1=>?_⟩
  cases c with
  | true=>exact k _ H1 s1 q1
  | false=>exact rb B p0 H1 ps σT σ Q _ (o.grow s1) q1 fun b H' s' q'=>k b H' (s1.trans s') q'
def eAnd (ta tb:ET):ET:=fun σ Q=>ta σ fun x=>match x with | .bool c=>if c=true then tb σ Q else Q (.bool false) | _=>False
theorem et_one {op} (h:PEt X a ta):PEt X (.BoolOp op [a] pos) ta:=by
  obtain ⟨v,p,r⟩:=h
  exact ⟨_,pe_one p,r⟩
theorem et_and (ha:PEt X a ta) (hb:PEt X (.BoolOp .And (b::rest) pos) tb):PEt X (.BoolOp .And (a::b::rest) pos) (eAnd ta tb):=by
  obtain ⟨va,pa,ra⟩:=ha
  obtain ⟨vb,pb,rb⟩:=hb
  refine ⟨_,pe_and pa pb,fun B p0 H ps σT σ Q QV o h k=>ra B p0 H ps σT σ _ _ o h fun d x H1 s1 r1 q1=>?_⟩
  cases r1 with
  | bool c =>
    refine ⟨c,rfl,?_⟩
    cases c with
    | true=>exact rb B p0 H1 ps σT σ Q _ (o.grow s1) q1 fun d v H' s' r' q'=>k d v H' (s1.trans s') r' q'
    | false=>exact k _ _ H1 s1 (.bool false) q1
  | _=>exact q1.elim
end
end TL

set_option Elab.async false
set_option linter.all false
set_option maxRecDepth 100000
namespace TL
open PySem PySem.Spec PyProof.Rows L2
variable {K:PySem.W.Frag} {H H' H1 H2:Hp} {B:Hp} {p0 ps:List Addr} {σT:List Sl} {σ:L2.St}
section
variable {X:Cx} {a b c e:Expr} {es:List Expr} {ta tb tc te:ET} {pos:Pos}
abbrev OT:=List Sl→(Option Int→Prop)→Prop
def POt (X:Cx) (e:Option Expr) (t:OT):Prop:=∃ to:TO,PO X e to∧∀ (B:Hp) (p0:List Addr) (H:Hp) (ps:List Addr) (σT:List Sl) (σ:L2.St) (Q:Option Int→Prop) (QV:Option Int→Hp→Prop),Ok X.K B p0 H ps σT σ→t σT Q →
  (∀ i H',Same H H'→Q i→QV i H')→to σ H QV
def oNone:OT:=fun _ Q=>Q none
def oSome (t:ET):OT:=fun σ Q=>t σ fun x=>match x with | .int i=>Q (some i) | _=>False
theorem ot_none:POt X none oNone:=⟨_,po_none,fun _ _ H _ _ _ _ _ _ h k=>k _ H (L2.Same.refl H) h⟩
theorem ot_some (h:PEt X e te):POt X (some e) (oSome te):=by
  obtain ⟨v,p,r⟩:=h
  refine ⟨_,po_some p,fun B p0 H ps σT σ Q QV o h k=>r B p0 H ps σT σ _ _ o h fun d x H1 s1 r1 q1=>?_⟩
  cases r1 with
  | int i=>exact ⟨i,rfl,k _ H1 s1 q1⟩
  | _=>exact q1.elim
def SlT (X:Cx) (r:V→Option Int→Option Int→Hp→VK→Prop) (f:D→Option Int→Option Int→(D→Prop)→Prop):Prop:=∀ (H:Hp) (ps:List Addr) (d:D) (x:V) (lo hi:Option Int) (Q:D→Prop) (QV:VK),(∀ p ∈ ps,H p ≠ none)→Rep X.K (mask H ps) d x→f d lo hi Q →
  (∀ d v H',Same H H'→Rep X.K (mask H' ps) d v→Q d→QV v H')→r x lo hi H QV
def eSl (f:D→Option Int→Option Int→(D→Prop)→Prop) (t:ET) (tl th:OT):ET:=fun σ Q=>t σ fun x=>tl σ fun l=>th σ fun u=>f x l u Q
theorem et_slice {r:V→Option Int→Option Int→Hp→VK→Prop} {f:D→Option Int→Option Int→(D→Prop)→Prop} {lo hi:Option Expr} {tl th:OT} {p2:Pos} (hr:SlR X r) (h2:SlT X r f) (he:PEt X e te) (hl:POt X lo tl) (hu:POt X hi th) :
    PEt X (.Subscript e (.Slice lo hi none p2) pos) (eSl f te tl th):=by
  obtain ⟨ve,pe,re⟩:=he
  obtain ⟨vl,pl,rl⟩:=hl
  obtain ⟨vu,pu,ru⟩:=hu
  refine ⟨_,pe_slice hr pe pl pu,fun B p0 H ps σT σ Q QV o h k=>re B p0 H ps σT σ _ _ o h fun d x H1 s1 r1 q1=>?_⟩
  refine rl B p0 H1 ps σT σ _ _ (o.grow s1) q1 fun l H2 s2 q2=>?_
  refine ru B p0 H2 ps σT σ _ _ ((o.grow s1).grow s2) q2 fun u H3 s3 q3=>?_
  exact h2 H3 ps d x l u Q QV (((o.grow s1).grow s2).grow s3).live ((r1.same (mask_same s2)).same (mask_same s3)) q3 fun d v H' s' r' q'=>k d v H' (s1.trans (s2.trans (s3.trans s'))) r' q'

variable {st:Stmt} {rest:List Stmt} {t u:STt}
def sNext:STt:=fun DT σ=>DT.nx σ
def sSeq (t u:STt):STt:=fun DT σ=>t { DT with nx:=u DT } σ
theorem st_nil:PSst X [] sNext:=⟨_,pss_nil,fun B p0 H ps σT σ DT DV o h f=>f.nx H ps σT σ o (L2.Same.refl _) h⟩
theorem st_cons (h1:PSt X st t) (h2:PSst X rest u):PSst X (st::rest) (sSeq t u):=by
  obtain ⟨v1,p1,r1⟩:=h1
  obtain ⟨v2,p2,r2⟩:=h2
  refine ⟨_,pss_cons p1 p2,fun B p0 H ps σT σ DT DV o h f=>r1 B p0 H ps σT σ { DT with nx:=u DT } { DV with nx:=v2 DV } o h ⟨fun H' ps' σT' σ' o' s' q'=>?_,f.bk,f.ct,f.rt,f.ro,f.rp,f.rq,f.xb⟩⟩
  exact r2 B p0 H' ps' σT' σ' DT DV o' q' (f.later s')
theorem st_one (h1:PSt X st t):PSst X [st] t:=by
  obtain ⟨v1,p1,r1⟩:=h1
  exact ⟨_,pss_one p1,r1⟩
def sShare (i:Nat) (t:STt):STt:=fun DT σ=>∃ ts,σ[i]?=some (.own ts)∧t DT (σ.set i (.val (.list ts)))
theorem st_share {sts:List Stmt} (i:Nat) (h:PSst X sts t):PSst X sts (sShare i t):=by
  obtain ⟨v,p,r⟩:=h
  refine ⟨_,p,fun B p0 H ps σT σ DT DV o h f=>?_⟩
  obtain ⟨ts,e,h⟩:=h
  obtain ⟨ps',o',s'⟩:=o.share e
  exact r B p0 H ps' _ σ DT DV o' h (f.later s')
def sRet (te:ET):STt:=fun DT σ=>te σ DT.rt
theorem st_ret (h:PEt X e te):PSt X (.Return (some e) pos) (sRet te):=by
  obtain ⟨v,p,r⟩:=h
  refine ⟨_,ps_ret p,fun B p0 H ps σT σ DT DV o h f=>r B p0 H ps σT σ _ _ o h fun d x H' s' r' q'=>?_⟩
  exact f.rt d x H' (o.base.trans s') (r'.same (mask_sub o.sub)) q'
def sIf (c:TTt) (t u:STt):STt:=fun DT σ=>c σ fun b=>if b=true then t DT σ else u DT σ
theorem st_if {c:Expr} {a b:List Stmt} {tc:TTt} (hc:PTt X c tc) (ha:PSst X a t) (hb:PSst X b u):PSt X (.If c a b pos) (sIf tc t u):=by
  obtain ⟨vc,pc,rc⟩:=hc
  obtain ⟨va,pa,ra⟩:=ha
  obtain ⟨vb,pb,rb⟩:=hb
  refine ⟨_,ps_if pc pa pb,fun B p0 H ps σT σ DT DV o h f=>rc B p0 H ps σT σ _ _ o h fun d H1 s1 q1=>?_⟩
  cases d with
  | true=>exact ra B p0 H1 ps σT σ DT DV (o.grow s1) q1 (f.later (mask_same s1))
  | false=>exact rb B p0 H1 ps σT σ DT DV (o.grow s1) q1 (f.later (mask_same s1))
def sSet (i:Nat) (te:ET):STt:=fun DT σ=>te σ fun d=>DT.nx (σ.set i (.val d))
theorem st_set {i:Nat} {x:Str} {pos':Pos} (h:PEt X e te) (ps':∀ {v:TE},PE X e v→PS X (.Assign [.Name x pos'] e pos) (tAsg v (gName i))):PSt X (.Assign [.Name x pos'] e pos) (sSet i te):=by
  obtain ⟨v,p,r⟩:=h
  refine ⟨_,ps' p,fun B p0 H ps σT σ DT DV o h f=>r B p0 H ps σT σ _ _ o h fun d x H' s' r' q'=>?_⟩
  exact f.nx H' ps _ _ ((o.grow s').set r') (mask_same s') q'
def sOwn (i:Nat) (t:AT):STt:=fun DT σ=>t σ fun ds=>ds.length≤1000∧DT.nx (σ.set i (.own ds))
theorem st_own {i:Nat} {x:Str} {pos' p2:Pos} {t:AT} (h:PAt X es t) (ps':∀ {v:TE},PE X (.List es p2) v→PS X (.Assign [.Name x pos'] (.List es p2) pos) (tAsg v (gName i))):PSt X (.Assign [.Name x pos'] (.List es p2) pos) (sOwn i t):=by
  obtain ⟨v,p,r⟩:=h
  refine ⟨_,ps' (pe_lst p),fun B p0 H ps σT σ DT DV o h f=>r B p0 H ps σT σ _ _ o h fun ds xs H1 s1 r1 q1=>⟨le_line (by rw [← r1.length]; exact q1.1),fun q hq=>?_⟩⟩
  exact f.nx _ (q::ps) _ _ ((o.grow s1).setOwn hq r1) ((mask_same s1).trans (by rw [mask_new hq]; exact L2.Same.refl _)) q1.2
def sApp (i:Nat) (te:ET):STt:=fun DT σ=>∃ ts,σ[i]?=some (.own ts)∧te σ fun d=>ts.length≤100000∧DT.nx (σ.set i (.own (ts++[d])))
theorem st_app {i:Nat} {n e:Expr} {te:ET} {ap cp:Pos} (hn:PE X n (tVar i)) (he:PEt X e te) (hs:starEach [e] X.env=(false,eval e X.env)::starEach [] X.env:=by rfl)
    (pb:∀ {ta:TA},PA X [e] ta→PS X (.Expr (.Call (.Attribute n "append" ap) [e] [] cp) pos) (tDrop (tBM X.K "list" rAppend (tVar i) ta))):PSt X (.Expr (.Call (.Attribute n "append" ap) [e] [] cp) pos) (sApp i te):=by
  obtain ⟨v,p,r⟩:=he
  refine ⟨_,pb (pa_cons p pa_nil hs),fun B p0 H ps σT σ DT DV o h f=>?_⟩
  obtain ⟨ts,e,h⟩:=h
  obtain ⟨q,xs,h1,h2,h3,h4,h5,h6⟩:=o.own i ts e
  refine ⟨.ref q,h1,.inl ⟨rfl,xs,SqL.of h5⟩,r B p0 H ps σT σ _ _ o h fun d x H1 s1 r1 q1=>?_⟩
  refine ⟨q,xs,x,rfl,rfl,s1 _ _ h5,?_,?_⟩
  · rw [← h6.length]
    have:sizeLine=2 ^ 24:=rfl
    omega
  · have o1:=o.grow s1
    have hr:Reps X.K (mask H1 ps) (ts++[d]) (xs++[x]):=(h6.same (mask_same s1)).append (.cons r1 .nil)
    exact f.nx _ ps _ σ (o1.write (ys:=xs++[x]) e h1 hr) ((mask_same s1).trans (by rw [mask_upd h2]; exact L2.Same.refl _)) q1.2

def signs (x:Str):List D:=x.cps.toList.map fun c=>.str ⟨#[c]⟩
def itemsOf:D→Option (List D)
  | .list ts=>some ts
  | .tuple ts=>some ts
  | .str x=>some (signs x)
  | _=>none
def noOwn (σ:List Sl):Prop:=∀ (i:Nat) (s:Sl),(∀ d,s ≠ .val d)→s ≠ .un→σ[i]? ≠ some s
theorem noOwn_set {σ:List Sl} (h:noOwn σ) (i:Nat) (d:D):noOwn (σ.set i (.val d)):=fun j s hv hu e=>by
  by_cases z:i=j
  · subst z
    have hi:i < σ.length:=by simpa using (List.getElem?_eq_some_iff.mp e).1
    rw [List.getElem?_set_self hi] at e; exact hv d (Option.some.inj e).symm
  · rw [List.getElem?_set_ne z] at e; exact h j s hv hu e
theorem noOwn.own {σ:List Sl} (h:noOwn σ) (i:Nat) (ts:List D):σ[i]? ≠ some (.own ts):=h i _ (fun _ z=>nomatch z) fun z=>nomatch z
theorem noOwn.dic {σ:List Sl} (h:noOwn σ) (i:Nat) (hs:List Int) (kvs:List (D × D)):σ[i]? ≠ some (.dic hs kvs):=h i _ (fun _ z=>nomatch z) fun z=>nomatch z
abbrev GT:=D→List Sl→(List Sl→Prop)→Prop
def PGt (X:Cx) (tg:Expr) (g:GT):Prop:=∃ gv:TG,PG X tg gv∧∀ (B:Hp) (p0:List Addr) (H:Hp) (ps:List Addr) (σT:List Sl) (σ:L2.St) (d:D) (v:V) (Q:List Sl→Prop) (QV:L2.St→Hp→Prop),Ok X.K B p0 H ps σT σ→Rep X.K (mask H ps) d v→g d σT Q →
  (∀ σT' σ',Ok X.K B p0 H ps σT' σ'→(noOwn σT→noOwn σT')→Q σT'→QV σ' H)→gv v σ H QV
def gN (i:Nat):GT:=fun d σ Q=>Q (σ.set i (.val d))
theorem gt_name {i:Nat} {x:Str} {p:Pos} (h:PG X (.Name x p) (gName i)):PGt X (.Name x p) (gN i) :=
  ⟨_,h,fun B p0 H ps σT σ d v Q QV o r h k=>k _ _ (o.set r) (fun n=>noOwn_set n _ _) h⟩
def gP (i j:Nat):GT:=fun d σ Q=>∃ a b,d=.tuple [a,b]∧Q ((σ.set i (.val a)).set j (.val b))
theorem gt_pair {i j:Nat} {t:Expr} (h:PG X t (gTup X.K 2 (gCons (gName i) (gCons (gName j) gNil)))):PGt X t (gP i j) :=
  ⟨_,h,fun B p0 H ps σT σ d v Q QV o r h k=>by
    obtain ⟨a,b,rfl,h⟩:=h
    cases r with
    | @tuple p xs _ hq r =>
      cases r with
      | cons ra r =>
        cases r with
        | cons rb r =>
          cases r
          exact ⟨_,_,rfl,Same.seqT mask_le hq,rfl,_,_,rfl,_,_,rfl,rfl,k _ _ ((o.set ra).set rb) (fun n=>noOwn_set (noOwn_set n _ _) _ _) h⟩⟩
structure Runs (K:PySem.W.Frag) (Hs:Hp) (ts:List D) (J:It):Prop where
  stop:∀ (i:Nat) (H:Hp),Same Hs H→ts.length≤i→J.stop i H
  go:∀ (i:Nat) (H:Hp),Same Hs H→i < ts.length→J.go i H
  yld:∀ (i:Nat) (H:Hp) (ps:List Addr) (y:V) (H':Hp),(∀ p ∈ ps,H p ≠ none)→Same Hs (mask H ps)→i < ts.length→J.yld i H y H'→Same H H'∧∃ dx,ts[i]?=some dx∧Rep K (mask H' ps) dx y
abbrev IT:=List Sl→(List D→Prop)→Prop
def PIt (X:Cx) (tg iter:Expr) (t:IT):Prop:=∃ wi:TI,PI X tg iter wi∧∀ (B:Hp) (p0:List Addr) (H:Hp) (ps:List Addr) (σT:List Sl) (σ:L2.St) (Q:List D→Prop) (R:It→Hp→Prop),Ok X.K B p0 H ps σT σ→t σT Q →
  (∀ ts J H',Same H H'→Runs X.K (mask H' ps) ts J→Q ts→R J H')→wi σ H R
def iVal (te:ET):IT:=fun σ Q=>te σ fun d=>∃ ts,itemsOf d=some ts∧Q ts
theorem runs_of {x:V} {d:D} {ts:List D} {Hs:Hp} (r:Rep K Hs d x) (hi:itemsOf d=some ts) {R:It→Hp→Prop} (hs:Same Hs H1) (h:∀ J:It,Runs K Hs ts J→R J H1) :
    (∃ a,x=.ref a∧(∃ xs,SqL K H1 a xs)∧R (Itl K a) H1) ∨ (∃ a,x=.ref a∧(∃ xs,SqT K H1 a xs)∧R (Itt K a) H1) ∨ ∃ z,x=.str z∧R (Its z) H1:=by
  cases r with
  | @list p xs us q rs =>
    obtain rfl:us=ts:=Option.some.inj hi
    refine .inl ⟨p,rfl,⟨xs,L2.Same.seq hs q⟩,h _ ⟨fun i H e hl=>⟨xs,L2.Same.seq e q,by rw [← rs.length]; exact hl⟩,fun i H e hl=>?_,fun i H ps y H' _ e hl hy=>?_⟩⟩
    · obtain ⟨v,hv,_⟩:=rs.get (List.getElem?_eq_getElem hl)
      exact ⟨xs,v,L2.Same.seq e q,hv⟩
    · obtain ⟨rfl,hy⟩:=hy
      obtain ⟨dx,h1,h2⟩:=rs.get' (hy xs (L2.Same.seq (e.trans mask_le) q))
      exact ⟨L2.Same.refl _,dx,h1,h2.same e⟩
  | @tuple p xs us q rs =>
    obtain rfl:us=ts:=Option.some.inj hi
    refine .inr (.inl ⟨p,rfl,⟨xs,Same.seqT hs q⟩,h _ ⟨fun i H e hl=>⟨xs,Same.seqT e q,by rw [← rs.length]; exact hl⟩,fun i H e hl=>?_,fun i H ps y H' _ e hl hy=>?_⟩⟩)
    · obtain ⟨v,hv,_⟩:=rs.get (List.getElem?_eq_getElem hl)
      exact ⟨xs,v,Same.seqT e q,hv⟩
    · obtain ⟨rfl,hy⟩:=hy
      obtain ⟨dx,h1,h2⟩:=rs.get' (hy xs (Same.seqT (e.trans mask_le) q))
      exact ⟨L2.Same.refl _,dx,h1,h2.same e⟩
  | str z =>
    obtain rfl:signs z=ts:=Option.some.inj hi
    have hl:(signs z).length=z.cps.size:=by unfold signs; simp
    refine .inr (.inr ⟨z,rfl,h _ ⟨fun i H _ e=>by rw [hl] at e; exact e,fun i H _ e=>by rw [hl] at e; exact e,fun i H ps y H' _ _ e hy=>?_⟩⟩)
    obtain ⟨rfl,c,h2,rfl⟩:=hy
    refine ⟨L2.Same.refl _,.str ⟨#[c]⟩,?_,.str _⟩
    unfold signs
    rw [List.getElem?_map]
    have:z.cps.toList[i]?=some c:=by simpa using h2
    rw [this]; rfl
  | _=>cases hi
theorem it_val {tg:Expr} (he:PEt X e te):PIt X tg e (iVal te):=by
  obtain ⟨ve,pe,re⟩:=he
  refine ⟨_,pi_any pe,fun B p0 H ps σT σ Q R o h k=>re B p0 H ps σT σ _ _ o h fun d x H1 s1 r1 q1=>?_⟩
  obtain ⟨ts,hi,q⟩:=q1
  exact runs_of r1 hi mask_le fun J rj=>k ts J H1 s1 rj q
def intsTo (n:Nat):List D:=(List.range n).map fun (k:Nat)=>PyData.int (k:Int)
def iRange (t:AT):IT:=fun σ Q=>t σ fun ds=>∃ n:Int,ds=[.int n]∧-(2 ^ 62)≤n∧n < 2 ^ 62∧Q (intsTo n.toNat)
theorem it_range {tg e:Expr} {t:AT} {p p':Pos} (ha:PAt X [e] t) (pr:∀ {ta:TA},PA X [e] ta→PI X tg (.Call (.Name "range" p) [e] [] p') (iRng1 ta)):PIt X tg (.Call (.Name "range" p) [e] [] p') (iRange t):=by
  obtain ⟨va,pa,ra⟩:=ha
  refine ⟨_,pr pa,fun B p0 H ps σT σ Q R o h k=>ra B p0 H ps σT σ _ _ o h fun ds xs H1 s1 r1 q1=>?_⟩
  obtain ⟨n,rfl,h1,h2,q⟩:=q1
  cases r1 with
  | cons r1 r2 =>
    cases r2
    cases r1
    refine ⟨n,rfl,h1,h2,k (intsTo n.toNat) _ H1 s1 ?_ q⟩
    have hl:(intsTo n.toNat).length=n.toNat:=by unfold intsTo; simp
    refine ⟨fun i H _ e=>by rw [hl] at e; exact e,fun i H _ e=>by rw [hl] at e; exact e,fun i H ps y H' _ _ e hy=>?_⟩
    obtain ⟨rfl,rfl⟩:=hy
    have ei:(0:Int) + (i:Int)=(i:Int):=by omega
    rw [ei]
    rw [hl] at e
    refine ⟨L2.Same.refl _,.int i,?_,.int _⟩
    unfold intsTo
    rw [List.getElem?_map,List.getElem?_range e]; rfl
def sFor (ti:IT) (g:GT) (tb:STt):STt:=fun DT σ=>ti σ fun ts=>∃ P:Nat→List Sl→Prop,P 0 σ ∧
  (∀ (k:Nat) (x:D) (σ':List Sl),ts[k]?=some x→P k σ'→g x σ' fun σ2=>tb { DT with nx:=P (k + 1),ct:=P (k + 1),bk:=DT.nx } σ2)∧∀ σ',P ts.length σ'→DT.nx σ'
theorem st_for {tg iter:Expr} {body:List Stmt} {g:GT} {tb:STt} {ti:IT} (he:PIt X tg iter ti) (hg:PGt X tg g) (hb:PSst X body tb)
    (pf:∀ {wi:TI} {gv:TG} {bv:TS},PI X tg iter wi→PG X tg gv→PSs X body bv→PS X (.For tg iter body [] pos) (tFor wi gv bv)):PSt X (.For tg iter body [] pos) (sFor ti g tb):=by
  obtain ⟨ve,pe,re⟩:=he
  obtain ⟨gv,pg,rg⟩:=hg
  obtain ⟨vb,pb,rb⟩:=hb
  refine ⟨_,pf pe pg pb,fun B p0 H ps σT σ DT DV o h f=>re B p0 H ps σT σ _ _ o h fun ts J H1 s1 rj q1=>?_⟩
  obtain ⟨P,h0,hs,hd⟩:=q1
  refine ⟨fun i m σ' H'=>m=ts.length - i∧i≤ts.length∧∃ ps' σT',Ok X.K B p0 H' ps' σT' σ'∧Same (mask H1 ps) (mask H' ps')∧P i σT',⟨_,rfl,Nat.zero_le _,ps,σT,o.grow s1,L2.Same.refl _,h0⟩,?_⟩
  rintro i m σ' H' ⟨rfl,hle,ps',σT',o',s',p'⟩
  have sH:Same (mask H1 ps) H':=s'.trans mask_le
  have f':Fits X.K B p0 H' ps' DT DV:=f.later ((mask_same s1).trans s')
  by_cases hlt:i < ts.length
  · refine .inr ⟨rj.go i H' sH hlt,fun σ2 H2=>∃ ps2 σT2,Ok X.K B p0 H2 ps2 σT2 σ2∧Same (mask H1 ps) (mask H2 ps2)∧P (i + 1) σT2,fun σ2 H2 z=>⟨ts.length - (i + 1),by omega,rfl,hlt,z⟩,fun y H2 hy'=>?_⟩
    obtain ⟨s2,dx,hx,rx⟩:=rj.yld i H' ps' y H2 o'.live s' hlt hy'
    have f2:=f'.later (mask_same (ps:=ps') s2)
    have s'':Same (mask H1 ps) (mask H2 ps'):=s'.trans (mask_same s2)
    refine rg B p0 H2 ps' σT' σ' dx y _ _ (o'.grow s2) rx (hs i dx σT' hx p') fun σT3 σ3 o3 _ q3=>?_
    exact rb B p0 H2 ps' σT3 σ3 _ _ o3 q3 ⟨fun H4 ps4 σT4 σ4 o4 s4 q4=>⟨ps4,σT4,o4,s''.trans s4,q4⟩,fun H4 ps4 σT4 σ4 o4 s4 q4=>f2.nx H4 ps4 σT4 σ4 o4 s4 q4,fun H4 ps4 σT4 σ4 o4 s4 q4=>⟨ps4,σT4,o4,s''.trans s4,q4⟩,f2.rt,f2.ro,f2.rp,f2.rq,f2.xb⟩
  · obtain rfl:i=ts.length:=by omega
    exact .inl ⟨rj.stop _ H' sH (Nat.le_refl _),f'.nx H' ps' σT' σ' o' (L2.Same.refl _) (hd σT' p')⟩

def blkSl (σ:List Sl):Option Nat→Sl
  | none=>.un
  | some j=>match σ[j]? with | some (.val d)=>.val d | _=>.un
def inBlkT (fr:List (Option Nat)) (σ:List Sl):List Sl:=fr.map (blkSl σ)
theorem blkSl_val {σ:List Sl} {q:Option Nat} {d:D} (h:blkSl σ q=.val d):∃ j,q=some j∧σ[j]?=some (.val d):=by
  cases q with
  | none=>cases h
  | some j =>
    refine ⟨j,rfl,?_⟩
    unfold blkSl at h
    dsimp only at h
    split at h
    · next e=>cases h; exact e
    · cases h
theorem blkSl_own {σ:List Sl} {q:Option Nat} {s:Sl} (hv:∀ d,s ≠ .val d) (hu:s ≠ .un):blkSl σ q ≠ s:=fun h=>by
  cases q with
  | none=>exact hu h.symm
  | some j =>
    unfold blkSl at h
    dsimp only at h
    split at h
    · exact hv _ h.symm
    · exact hu h.symm
theorem noOwn_blk (fr:List (Option Nat)) (σ:List Sl):noOwn (inBlkT fr σ):=fun i s hv hu h=>by
  unfold inBlkT at h
  rw [List.getElem?_map] at h
  cases hf:fr[i]? with
  | none=>rw [hf] at h; cases h
  | some q =>
    rw [hf] at h
    exact blkSl_own hv hu (Option.some.inj h)
theorem Ok.blk (o:Ok K B p0 H ps σT σ) (fr:List (Option Nat)):Ok K B p0 H ps (inBlkT fr σT) (inBlk fr σ) where
  base:=o.base
  sub:=o.sub
  live:=o.live
  len:=by unfold inBlkT inBlk; simp
  val:=fun i d h=>by
    unfold inBlkT at h
    rw [List.getElem?_map] at h
    cases hf:fr[i]? with
    | none=>rw [hf] at h; cases h
    | some q =>
      rw [hf] at h
      obtain ⟨j,rfl,e⟩:=blkSl_val (Option.some.inj h)
      obtain ⟨v,h1,h2⟩:=o.val j d e
      refine ⟨v,?_,h2⟩
      unfold inBlk
      rw [List.getElem?_map,hf]
      simp [h1]
  own:=fun i ts h=>absurd h ((noOwn_blk fr σT).own i ts)
  dis:=fun i j ts us p h=>absurd h ((noOwn_blk fr σT).own i ts)
  dc:=fun i hs kvs h=>absurd h ((noOwn_blk fr σT).dic i hs kvs)
theorem Ok.adopt (o:Ok K B p0 H ps σT σ) {p:Addr} {u:HO} (hp:H p=none):Ok K B p0 (upd H p u) (p::ps) σT σ:=by
  have hm:mask (upd H p u) (p::ps)=mask H ps:=mask_new hp
  refine ⟨o.base.trans (same_new hp),fun q hq=>List.mem_cons_of_mem _ (o.sub q hq),fun q hq=>?_,o.len,fun i d h=>by rw [hm]; exact o.val i d h,fun i ts h=>?_,o.dis,o.dc.to (fun j hs kvs h=>⟨h,rfl⟩) (fun q φ a b _=>⟨List.mem_cons_of_mem _ a,upd_ne fun z=>by rw [z,hp] at b; cases b⟩) (fun q φ _ _ a b=>⟨a,b⟩) (by rw [hm]; exact L2.Same.refl _)⟩
  · by_cases e:q=p
    · subst e; rw [upd_same]; simp
    · rw [upd_ne e]
      rcases List.mem_cons.mp hq with z | z
      · exact absurd z e
      · exact o.live q z
  · rw [hm]
    obtain ⟨q,xs,h1,h2,h3,h4,h5,h6⟩:=o.own i ts h
    exact ⟨q,xs,h1,List.mem_cons_of_mem _ h2,h3,h4,by rw [upd_ne fun z=>by rw [z,hp] at h5; cases h5]; exact h5,h6⟩
theorem Ok.aside (o:Ok K B p0 H ps σT σ) {q:Addr} {u:HO} (hp:q ∈ ps) (hB:B q=none) (hn:noOwn σT):Ok K B p0 (upd H q u) ps σT σ where
  base:=fun b w e=>by
    rw [upd_ne fun z=>by rw [z,hB] at e; cases e]
    exact o.base b w e
  sub:=o.sub
  live:=fun p hp'=>by
    by_cases e:p=q
    · subst e; rw [upd_same]; simp
    · rw [upd_ne e]; exact o.live p hp'
  len:=o.len
  val:=fun i d h=>by rw [mask_upd hp]; exact o.val i d h
  own:=fun i ts h=>absurd h (hn.own i ts)
  dis:=fun i j ts us p h=>absurd h (hn.own i ts)
  dc:=fun i hs kvs h=>absurd h (hn.dic i hs kvs)
def PIft (X:Cx) (ifs:List Expr) (t:TTt):Prop:=∃ tt:TT,PIf X ifs tt∧∀ (B:Hp) (p0:List Addr) (H:Hp) (ps:List Addr) (σT:List Sl) (σ:L2.St) (Q:Bool→Prop) (QV:Bool→Hp→Prop),Ok X.K B p0 H ps σT σ→t σT Q →
  (∀ b H',Same H H'→Q b→QV b H')→tt σ H QV
def cTrue:TTt:=fun _ Q=>Q true
theorem if_nil:PIft X [] cTrue:=⟨_,pif_nil,fun _ _ H _ _ _ _ _ _ h k=>k _ H (L2.Same.refl H) h⟩
theorem if_one {t:TTt} (h:PTt X e t):PIft X [e] t:=by
  obtain ⟨v,p,r⟩:=h
  exact ⟨_,pif_one p,r⟩
def eLc (fr:List (Option Nat)) (ti:IT) (g:GT) (tt:TTt) (te:ET):ET:=fun σ Q=>ti σ fun ts=>ts.length≤100000∧∃ P:Nat→List Sl→List D→Prop,P 0 (inBlkT fr σ) [] ∧
  (∀ (k:Nat) (x:D) (σ':List Sl) (ds:List D),ts[k]?=some x→P k σ' ds→g x σ' fun σ2=>tt σ2 fun b=>if b=true then te σ2 fun y=>P (k + 1) σ2 (ds++[y]) else P (k + 1) σ2 ds)∧∀ σ' ds,P ts.length σ' ds→Q (.list ds)
theorem lc_read {fr:List (Option Nat)} {ti:IT} {g:GT} {tt:TTt} {te:ET} {wi:TI} {gv:BP→TG} {vt:BP→TT} {ve:BP→TE}
    (ri:∀ (B:Hp) (p0:List Addr) (H:Hp) (ps:List Addr) (σT:List Sl) (σ:L2.St) (Q:List D→Prop) (R:It→Hp→Prop),Ok X.K B p0 H ps σT σ→ti σT Q→(∀ ts J H',Same H H'→Runs X.K (mask H' ps) ts J→Q ts→R J H')→wi σ H R)
    (rg:∀ (bp:BP) (B:Hp) (p0:List Addr) (H:Hp) (ps:List Addr) (σT:List Sl) (σ:L2.St) (d:D) (v:V) (Q:List Sl→Prop) (QV:L2.St→Hp→Prop),Ok X.K B p0 H ps σT σ→Rep X.K (mask H ps) d v→g d σT Q→(∀ σT' σ',Ok X.K B p0 H ps σT' σ'→(noOwn σT→noOwn σT')→Q σT'→QV σ' H)→gv bp v σ H QV)
    (rt:∀ (bp:BP) (B:Hp) (p0:List Addr) (H:Hp) (ps:List Addr) (σT:List Sl) (σ:L2.St) (Q:Bool→Prop) (QV:Bool→Hp→Prop),Ok X.K B p0 H ps σT σ→tt σT Q→(∀ b H',Same H H'→Q b→QV b H')→vt bp σ H QV)
    (re:∀ (bp:BP) (B:Hp) (p0:List Addr) (H:Hp) (ps:List Addr) (σT:List Sl) (σ:L2.St) (Q:D→Prop) (QV:VK),Ok X.K B p0 H ps σT σ→te σT Q→(∀ d v H',Same H H'→Rep X.K (mask H' ps) d v→Q d→QV v H')→ve bp σ H QV)
    (B:Hp) (p0:List Addr) (H:Hp) (ps:List Addr) (σT:List Sl) (σ:L2.St) (Q:D→Prop) (QV:VK) (o:Ok X.K B p0 H ps σT σ) (h:eLc fr ti g tt te σT Q) (k:∀ d v H',Same H H'→Rep X.K (mask H' ps) d v→Q d→QV v H'):tLc fr wi gv vt ve σ H QV:=by
  refine ri B p0 H ps σT σ _ _ o h fun ts J H1 s1 rj q1=>?_
  obtain ⟨hz,P,h0,hs,hd⟩:=q1
  intro bp acc hacc
  have hBacc:B acc=none:=by
    cases q:B acc with
    | none=>rfl
    | some u=>rw [(o.grow s1).base acc u q] at hacc; cases hacc
  have hnps:acc ∉ ps:=fresh_notin (o.grow s1).live hacc
  refine ⟨fun i m σ' H'=>m=ts.length - i∧i≤ts.length∧∃ σT' ds ys,Ok X.K B p0 H' (acc::ps) σT' σ'∧noOwn σT'∧H' acc=some (.lst ys)∧ds.length≤i∧Reps X.K (mask H' (acc::ps)) ds ys∧Same (mask H1 ps) (mask H' (acc::ps))∧Same H1 H'∧P i σT' ds,
    ⟨_,rfl,Nat.zero_le _,inBlkT fr σT,[],[],((o.grow s1).blk fr).adopt hacc,noOwn_blk fr σT,upd_same,Nat.le_refl _,.nil,by rw [mask_new hacc]; exact L2.Same.refl _,same_new hacc,h0⟩,?_⟩
  rintro i m σ' H' ⟨rfl,hle,σT',ds,ys,o',n',ha,hl,hr,s',sF,p'⟩
  have hL:sizeLine=2 ^ 24:=rfl
  by_cases hlt:i < ts.length
  · refine .inr ⟨rj.go i H' (s'.trans mask_le) hlt,fun y H2 hy=>?_⟩
    obtain ⟨s2,dx,hx,rx⟩:=rj.yld i H' (acc::ps) y H2 o'.live s' hlt hy
    refine rg bp B p0 H2 (acc::ps) σT' σ' dx y _ _ (o'.grow s2) rx (hs i dx σT' ds hx p') fun σT3 σ3 o3 n3 q3=>?_
    refine rt bp B p0 H2 (acc::ps) σT3 σ3 _ _ o3 q3 fun b H4 s4 q4=>?_
    have s24:=s2.trans s4
    cases b with
    | false =>
      exact ⟨ts.length - (i + 1),by omega,rfl,hlt,σT3,ds,ys,o3.grow s4,n3 n',s24 _ _ ha,by omega,hr.same (mask_same s24),s'.trans (mask_same s24),sF.trans s24,q4⟩
    | true =>
      refine re bp B p0 H4 (acc::ps) σT3 σ3 _ _ (o3.grow s4) q4 fun d v H5 s5 r5 q5=>?_
      have s25:=s24.trans s5
      have hm:mask (upd H5 acc (.lst (ys++[v]))) (acc::ps)=mask H5 (acc::ps):=mask_upd (List.mem_cons_self ..)
      refine ⟨ys,s25 _ _ ha,by rw [← hr.length]; omega,ts.length - (i + 1),by omega,rfl,hlt,σT3,ds++[d],ys++[v],((o3.grow s4).grow s5).aside (List.mem_cons_self ..) hBacc (n3 n'),n3 n',upd_same,by rw [List.length_append,List.length_singleton]; omega,?_,?_,?_,q5⟩
      · rw [hm]; exact (hr.same (mask_same s25)).append (.cons r5 .nil)
      · rw [hm]; exact s'.trans (mask_same s25)
      · intro b u e
        have ne:b ≠ acc:=fun z=>by rw [z,hacc] at e; cases e
        rw [upd_ne ne]; exact (sF.trans s25) b u e
  · obtain rfl:i=ts.length:=by omega
    refine .inl ⟨rj.stop _ H' (s'.trans mask_le) (Nat.le_refl _),k (.list ds) _ H' (s1.trans sF) (.list (SqL.of (mask_at hnps ha)) (hr.same (mask_sub fun p hp=>List.mem_cons_of_mem _ hp))) (hd σT' ds p')⟩
theorem lc_all {elt iter tg:Expr} {ifs:List Expr} {scope:Scope} {fr:List (Option Nat)} {N':List Str} {ti:IT} {g:GT} {tt:TTt} {te:ET} (hi:PIt X tg iter ti)
    (hY:∀ b:BP,PGt (blk X scope N' b) tg g∧PIft (blk X scope N' b) ifs tt∧PEt (blk X scope N' b) elt te) {M:(TE)→Prop}
    (fin:∀ {wi:TI} {gv:BP→TG} {vt:BP→TT} {ve:BP→TE},PI X tg iter wi→(∀ b:BP,PG (blk X scope N' b) tg (gv b)∧PIf (blk X scope N' b) ifs (vt b)∧PE (blk X scope N' b) elt (ve b))→M (tLc fr wi gv vt ve)) :
    ∃ v:TE,M v∧∀ (B:Hp) (p0:List Addr) (H:Hp) (ps:List Addr) (σT:List Sl) (σ:L2.St) (Q:D→Prop) (QV:VK),Ok X.K B p0 H ps σT σ→eLc fr ti g tt te σT Q →
      (∀ d v H',Same H H'→Rep X.K (mask H' ps) d v→Q d→QV v H')→v σ H QV:=by
  obtain ⟨wi,pi,ri⟩:=hi
  refine ⟨_,fin (gv:=fun b=>Classical.choose (hY b).1) (vt:=fun b=>Classical.choose (hY b).2.1) (ve:=fun b=>Classical.choose (hY b).2.2) pi fun b=>⟨(Classical.choose_spec (hY b).1).1,(Classical.choose_spec (hY b).2.1).1,(Classical.choose_spec (hY b).2.2).1⟩,?_⟩
  exact lc_read ri (fun b=>(Classical.choose_spec (hY b).1).2) (fun b=>(Classical.choose_spec (hY b).2.1).2) fun b=>(Classical.choose_spec (hY b).2.2).2
theorem et_lc {elt iter tg:Expr} {ifs:List Expr} {scope:Scope} {fr:List (Option Nat)} {N':List Str} {ti:IT} {g:GT} {tt:TTt} {te:ET} (hi:PIt X tg iter ti)
    (hY:∀ b:BP,PGt (blk X scope N' b) tg g∧PIft (blk X scope N' b) ifs tt∧PEt (blk X scope N' b) elt te)
    (pl:∀ {wi:TI} {gv:BP→TG} {vt:BP→TT} {ve:BP→TE},PI X tg iter wi→(∀ b:BP,PG (blk X scope N' b) tg (gv b)∧PIf (blk X scope N' b) ifs (vt b)∧PE (blk X scope N' b) elt (ve b))→PE X (.ListComp elt [⟨tg,iter,ifs,0⟩] scope pos) (tLc fr wi gv vt ve)) :
    PEt X (.ListComp elt [⟨tg,iter,ifs,0⟩] scope pos) (eLc fr ti g tt te):=lc_all hi hY pl
theorem st_setlc {i:Nat} {x:Str} {px spos:Pos} {elt iter tg:Expr} {ifs:List Expr} {scope:Scope} {fr:List (Option Nat)} {N':List Str} {ti:IT} {g:GT} {tt:TTt} {te:ET} (hi:PIt X tg iter ti)
    (hY:∀ b:BP,PGt (blk X scope N' b) tg g∧PIft (blk X scope N' b) ifs tt∧PEt (blk X scope N' b) elt te)
    (pl:∀ {wi:TI} {gv:BP→TG} {vt:BP→TT} {ve:BP→TE},PI X tg iter wi→(∀ b:BP,PG (blk X scope N' b) tg (gv b)∧PIf (blk X scope N' b) ifs (vt b)∧PE (blk X scope N' b) elt (ve b)) →
      PS X (.Assign [.Name x px] (.ListComp elt [⟨tg,iter,ifs,0⟩] scope pos) spos) (tAsg (tLc fr wi gv vt ve) (gName i))) :
    PSt X (.Assign [.Name x px] (.ListComp elt [⟨tg,iter,ifs,0⟩] scope pos) spos) (sSet i (eLc fr ti g tt te)):=by
  obtain ⟨v,p,r⟩:=lc_all (M:=fun v=>PS X (.Assign [.Name x px] (.ListComp elt [⟨tg,iter,ifs,0⟩] scope pos) spos) (tAsg v (gName i))) (fr:=fr) hi hY pl
  refine ⟨_,p,fun B p0 H ps σT σ DT DV o h f=>r B p0 H ps σT σ _ _ o h fun d x H' s' r' q'=>?_⟩
  exact f.nx H' ps _ _ ((o.grow s').set r') (mask_same s') q'

def startT (N:List Str) (ds:List D):List Sl:=ds.map Sl.val++List.replicate (N.length - ds.length) .un
theorem ok_start {N:List Str} {ds:List D} {vs:List V} (live:∀ p ∈ ps,H p ≠ none) (r:Reps K (mask H ps) ds vs):Ok K H ps H ps (startT N ds) (L2.start N vs):=by
  have hl:=r.length
  refine ⟨L2.Same.refl _,fun _ h=>h,live,?_,fun i d h=>?_,fun i ts h=>?_,fun i j ts us p h=>?_,fun i hs kvs h=>?_⟩
  · unfold startT L2.start; simp [hl]
  · unfold startT at h
    by_cases hi:i < ds.length
    · rw [List.getElem?_append_left (by simpa using hi),List.getElem?_map] at h
      cases hd:ds[i]? with
      | none=>rw [hd] at h; cases h
      | some d' =>
        rw [hd] at h
        cases h
        obtain ⟨v,h1,h2⟩:=r.get hd
        refine ⟨v,?_,h2⟩
        unfold L2.start
        rw [List.getElem?_append_left (by rw [List.length_map,← hl]; exact hi),List.getElem?_map,h1]; rfl
    · rw [List.getElem?_append_right (by simpa using hi),List.getElem?_replicate] at h
      split at h <;> cases h
  · unfold startT at h
    by_cases hi:i < ds.length
    · rw [List.getElem?_append_left (by simpa using hi),List.getElem?_map] at h
      cases hd:ds[i]? with
      | none=>rw [hd] at h; cases h
      | some d'=>rw [hd] at h; cases h
    · rw [List.getElem?_append_right (by simpa using hi),List.getElem?_replicate] at h
      split at h <;> cases h
  · unfold startT at h
    by_cases hi:i < ds.length
    · rw [List.getElem?_append_left (by simpa using hi),List.getElem?_map] at h
      cases hd:ds[i]? with
      | none=>rw [hd] at h; cases h
      | some d'=>rw [hd] at h; cases h
    · rw [List.getElem?_append_right (by simpa using hi),List.getElem?_replicate] at h
      split at h <;> cases h
  · unfold startT at h
    by_cases hi:i < ds.length
    · rw [List.getElem?_append_left (by simpa using hi),List.getElem?_map] at h
      cases hd:ds[i]? with
      | none=>rw [hd] at h; cases h
      | some d'=>rw [hd] at h; cases h
    · rw [List.getElem?_append_right (by simpa using hi),List.getElem?_replicate] at h
      split at h <;> cases h
theorem fnT {P:Program} {w:World} {mg:Str→Option Value} {base:Heap} {x qual:Str} {st:Stmt} {f:Addr} {fd:FuncData} {N pn:List Str} {k:Nat} {sp:SpT} (F:Fun K x qual st f fd) (S:FnScope N pn (defScope st)) (len:∀ ds Q,sp ds Q→ds.length=pn.length)
    (hbody:∀ (cdv:Value) (A:Around) (outer:List Env) (s:Shared) (H:Hp) (E:XK),Room k (A.deeper (envOfC qual (defScope st) s.heap.objs.size f cdv))→∀ (ds:List D) (Q:D→Prop),sp ds Q →
      ∃ t,PSst (cxOf CX0 P w K mg base N qual (defScope st) f cdv A outer s H E).nox (defBody st) t∧t { nx:=fun _=>Q .none,rt:=Q } (startT N ds)):FnOk P w K mg base CX0 (k + 1) f fd pn (liftSp K sp):=by
  refine F.ok S (fun vs H Q E h=>?_) fun cdv A outer s H vs Q E hr h=>?_
  · obtain ⟨ps,ds,QD,_,r,q,_⟩:=h
    rw [← r.length]; exact len ds QD q
  · obtain ⟨ps,ds,QD,live,r,q,k⟩:=h
    obtain ⟨t,⟨ts,p,rd⟩,h⟩:=hbody cdv A outer s H E hr ds QD q
    refine ⟨ts,p,rd H ps H ps _ _ _ _ (ok_start live r) h ⟨fun H' ps' σT' σ' o' s' q'=>?_,fun _ _ _ _ _ _ q'=>q'.elim,fun _ _ _ _ _ _ q'=>q'.elim,fun d v H' s' r' q'=>k d v H' s' r' q',fun _ _ _ _ _ _ _ _ _ q'=>q'.elim,fun _ _ _ _ _ _ _ _ _ _ _ _ _ _ _ _ _ _ q'=>q'.elim,fun _ _ _ _ _ _ _ _ _ _ _ _ _ _ q'=>q'.elim,True.intro⟩⟩
    exact k _ _ H' o'.base .none q'
end
end TL

set_option Elab.async false
set_option linter.all false
set_option maxRecDepth 100000
namespace HT
open PySem PySem.Spec PyProof.Rows
section
variable {prog:Program} {w:World} {A:Around} {E:Value→Shared→Prop} {s:Shared}
theorem getItem_tuple_all {t sl:Addr} {items:Array Value} {vl vu:Value} {lo hi:Option Int} {Q:Value→Shared→Prop} (ht:IsTup s.heap t items) (hs:s.heap.IsSliceOf sl vl vu .none) (pl:IsPart vl lo) (pu:IsPart vu hi)
    (hw:sIx items.size 0 lo=0∧sIx items.size items.size hi=items.size) (h:Q (.ref t) s):wpAny (model prog w) A (getItem (.ref t) (.ref sl)) Q E s:=by
  obtain ⟨os,hos,hcs,hds⟩:=id hs
  have hTs:s.TypeIs (.ref sl) "slice":=⟨os,hos,hcs⟩
  unfold getItem
  try with_reducible refine wpAny_holding ?_
  first | refine wpAny_bind (wpAny_pure ?_) | skip
  refine wpAny_bind (wpAny_sequenceKey ht.typeIs (by decide) ?_)
  refine wpAny_bind (wpAny_callSpecial?_slot (name:=Str.ofString "__getitem__") ht.typeIs PyProof.Rows.slot_tuple_getitem
    (wpAny_call_entry PyProof.Rows.slot_tuple_getitem ht.typeIs entry_tuple_getitem ?_ (args_tuple_getitem _ _)))
  show wpAny _ _ (Builtin.Tuple.tupleItemsOf (.ref t) >>= _) _ _ s
  refine wpAny_bind (tupleItemsOf_ ht ?_)
  refine wpAny_bind (wpAny_typeOf hTs ?_)
  rw [if_pos (by decide)]
  refine wpAny_bind (sliceApplied_gen hs pl pu ?_)
  have hyes:(((sIx items.size 0 lo:Nat):Int) == 0 && (1:Int) == 1 && (sIx items.size items.size hi - sIx items.size 0 lo) == items.size)=true:=by
    rw [hw.1,hw.2]; simp
  show wpAny _ _ (if (((sIx items.size 0 lo:Nat):Int) == 0 && (1:Int) == 1 && (sIx items.size items.size hi - sIx items.size 0 lo) == items.size)=true then _ else _) _ _ s
  rw [if_pos hyes]
  unfold Builtin.Tuple.tupleIsExact
  refine wpAny_bind (wpAny_bind (wpAny_typeOf ht.typeIs (wpAny_pure ?_)))
  rw [if_pos (by decide)]
  first
    | exact wpAny_bind (wpAny_rule (wpAny_bind (wpAny_pure (wpAny_pure ⟨_,rfl,wpAny_pure h⟩))))
    | exact wpAny_bind (wpAny_rule (wpAny_pure ⟨_,rfl,wpAny_pure h⟩))
    | exact wpAny_bind (wpAny_rule (wpAny_bind (wpAny_pure ⟨_,rfl,wpAny_pure h⟩)))
end
end HT

namespace L2
open PySem PySem.Spec PyProof.Rows
section
variable {X:Cx}
def rSlS:V→Option Int→Option Int→Hp→VK→Prop:=fun x lo hi H Q=>∃ z,x=.str z∧z.length≤sizeLine∧Q (.str (Txt.slice z lo hi)) H
theorem sl_str:SlR X rSlS:=by
  intro pins s σ H x v vl vu lo hi sl Q I rx hs pl pu h
  obtain ⟨z,rfl,hz,q⟩:=h
  obtain ⟨t,rfl⟩:=rx
  refine ⟨"str",_,PySem.F.slot_str_getitem.lookup,typeIs_str _ _ _,?_⟩
  have fin:∀ lo hi:Option Int,Q (.str (Txt.slice z lo hi)) H→(Txt.slice z lo hi).length≤sizeLine∧∀ (t':Tok) (k:Nat),EP X pins σ Q (.str (Txt.slice z lo hi) t') { s with toks:=k }:=fun lo hi q =>
    ⟨Nat.le_trans (Txt.slice_le z _ _) hz,fun t' k=>⟨.str _,H,I.tok k,⟨t',rfl⟩,q⟩⟩
  cases pl with
  | none =>
    cases pu with
    | none=>exact wpAny_getItem_str_slice (l:=none) (u:=none) (st:=none) hs rfl (post_val_or_str (fin none none q))
    | int j uj=>exact wpAny_getItem_str_slice (l:=none) (u:=some (j,uj)) (st:=none) hs rfl (post_val_or_str (fin none (some j) q))
  | int i ui =>
    cases pu with
    | none=>exact wpAny_getItem_str_slice (l:=some (i,ui)) (u:=none) (st:=none) hs rfl (post_val_or_str (fin (some i) none q))
    | int j uj=>exact wpAny_getItem_str_slice (l:=some (i,ui)) (u:=some (j,uj)) (st:=none) hs rfl (post_val_or_str (fin (some i) (some j) q))
def rSlT2 (K:PySem.W.Frag):V→Option Int→Option Int→Hp→VK→Prop:=fun x lo hi H Q=>∃ a xs,x=.ref a∧SqT K H a xs ∧
  ((HT.sIx xs.length 0 lo=0∧HT.sIx xs.length xs.length hi=xs.length)→Q (.ref a) H)∧(¬ (HT.sIx xs.length 0 lo=0∧HT.sIx xs.length xs.length hi=xs.length)→∀ p,H p=none→Q (.ref p) (upd H p (.tup (cutV xs lo hi))))
theorem sl_tup2:SlR X (rSlT2 X.K):=by
  intro pins s σ H x v vl vu lo hi sl Q I rx hs pl pu h
  obtain ⟨a,xs,rfl,hx,q1,q2⟩:=h
  by_cases hw:HT.sIx xs.length 0 lo=0∧HT.sIx xs.length xs.length hi=xs.length
  · cases rx
    obtain ⟨its,r,ht,hz⟩:=I.tuple hx
    have hlen:its.toArray.size=xs.length:=by rw [List.size_toArray]; exact r.length.symm
    exact ⟨"tuple",_,PyProof.Rows.slot_tuple_getitem.lookup,ht.typeIs,HT.getItem_tuple_all ht hs pl pu (by rw [hlen]; exact hw) ⟨.ref a,H,I,rfl,q1 hw⟩⟩
  · exact sl_tup pins s σ H (.ref a) v vl vu lo hi sl Q I rx hs pl pu ⟨a,xs,rfl,hx,hw,q2 hw⟩
def rSlAny (K:PySem.W.Frag):V→Option Int→Option Int→Hp→VK→Prop:=fun x lo hi H Q=>rSlL K x lo hi H Q ∨ rSlT2 K x lo hi H Q ∨ rSlS x lo hi H Q
theorem sl_any:SlR X (rSlAny X.K):=sl_list.or (sl_tup2.or sl_str)
def rCatT2 (K:PySem.W.Frag):R2:=fun x y H Q=>∃ a b xs ys,x=.ref a∧y=.ref b∧SqT K H a xs∧SqT K H b ys∧xs.length + ys.length≤sizeLine ∧
  (xs=[]→Q (.ref b) H)∧(xs ≠ []→ys=[]→Q (.ref a) H)∧(xs ≠ []→ys ≠ []→∀ p,H p=none→Q (.ref p) (upd H p (.tup (xs++ys))))
theorem op_catT2:OpR X (binaryOp .Add) (rCatT2 X.K):=by
  intro pins s σ H x y v u Q I rx ry h
  obtain ⟨a,b,xs,ys,rfl,rfl,ha,hb,hz,q0,q1,q2⟩:=h
  by_cases hx:xs=[]
  · cases rx
    cases ry
    obtain ⟨its,r1,p1,_⟩:=I.tuple ha
    obtain ⟨its2,r2,p2,_⟩:=I.tuple hb
    obtain ⟨⟨cls,dd,data,sl⟩,ho,hc,n,hd⟩:=id p1
    obtain ⟨⟨cls2,dd2,data2,sl2⟩,ho2,hc2,n2,hd2⟩:=id p2
    simp only at hc hd hc2 hd2
    subst hc hd hc2 hd2
    have he:its=[]:=r1.nil_iff.mpr hx
    exact concat_meets ⟨_,ho,rfl⟩ ⟨_,ho2,rfl⟩ noFill_tuple_add seq_tuple_add PySem.F.slot_tuple_add PySem.F.entry_tuple_add (PySem.F.args_tuple_add_2 _ _) (tuple_addW0 a b its.toArray its2.toArray n n2 dd dd2 sl sl2 (by simp [he])) ⟨ho,ho2,⟨.ref b,H,I,rfl,q0 hx⟩⟩
  · exact op_catT pins s σ H (.ref a) (.ref b) v u Q I rx ry ⟨a,b,xs,ys,rfl,rfl,ha,hb,hx,hz,q1 hx,q2 hx⟩
def rCatL (K:PySem.W.Frag):R2:=fun x y H Q=>∃ l b xs zs,x=.ref l∧y=.ref b∧SqL K H l xs∧SqL K H b zs∧xs.length + zs.length≤sizeLine∧∀ p,H p=none→Q (.ref p) (upd H p (.lst (xs++zs)))
theorem op_catL:OpR X (binaryOp .Add) (rCatL X.K):=by
  intro pins s σ H x y v u Q I rx ry h
  obtain ⟨l,b,xs,zs,rfl,rfl,ha,hb,hz,q⟩:=h
  cases rx
  cases ry
  obtain ⟨its,r1,⟨⟨cls,dd,data,sl⟩,n,ho,hc,hdd,hd⟩,_⟩:=I.list ha
  obtain ⟨its2,r2,⟨⟨cls2,dd2,data2,sl2⟩,n2,ho2,hc2,hdd2,hd2⟩,_⟩:=I.list hb
  simp only at hc hd hc2 hd2
  subst hc hd hc2 hd2
  have hz':its.toArray.size + its2.toArray.size≤sizeLine:=by rw [List.size_toArray,List.size_toArray,← r1.length,← r2.length]; exact hz
  refine concat_meets ⟨_,ho,rfl⟩ ⟨_,ho2,rfl⟩ noFill_list_add seq_list_add PySem.F.slot_list_add PySem.F.entry_list_add (PySem.F.args_list_add_2 _ _) (list_addW l b its.toArray its2.toArray n n2 dd dd2 sl sl2 hz') ⟨ho,ho2,?_⟩
  have ea:its.toArray++its2.toArray=(its++its2).toArray:=by simp
  rw [ea]
  exact ⟨.ref _,_,I.lnew (t':=s.toks) (r1.append r2) (by rw [List.length_append]; exact hz),rfl,q _ I.fresh⟩
def rAddAny (K:PySem.W.Frag):R2:=fun x y H Q=>(rI0 fun i j=>.int (i + j)) x y H Q ∨ (∃ i j,x=.str i∧y=.str j∧i.length + j.length≤sizeLine∧Q (.str (i++j)) H) ∨ rCatT2 K x y H Q ∨ rCatL K x y H Q
theorem op_addAny:OpR X (binaryOp .Add) (rAddAny X.K):=op_add.or (op_add_str.or (op_catT2.or op_catL))
def rMulAny:R2:=fun x y H Q=>(rI CMul fun i j=>.int (i * j)) x y H Q ∨ ∃ z n,x=.str z∧y=.int n∧z.length≤1000∧0≤n∧n≤1000∧Q (.str (Txt.mul z n)) H
theorem op_mul_str:OpR X (binaryOp .Mult) (fun x y H Q=>∃ z n,x=.str z∧y=.int n∧z.length≤1000∧0≤n∧n≤1000∧Q (.str (Txt.mul z n)) H):=by
  intro pins s σ H x y v u Q I rx ry h
  obtain ⟨z,n,rfl,rfl,hz,h0,h1,q⟩:=h
  obtain ⟨t,rfl⟩:=rx
  obtain ⟨t',rfl⟩:=ry
  refine SB.mul ⟨by simp; omega,fun a _=>?_,fun _ _=>?_⟩ fun t'' k=>⟨.str _,H,I.tok k,⟨t'',rfl⟩,q⟩
  · have hn:1≤n:=by omega
    have:(1000:Int)≤(2 ^ 63 - 1) / n:=by
      rw [Int.le_ediv_iff_mul_le (by omega)]
      omega
    omega
  · have:z.length * n.toNat≤1000 * 1000:=Nat.mul_le_mul hz (by omega)
    unfold Builtin.Str.tooLong
    have hL:sizeLine=2 ^ 24:=rfl
    simp only [decide_eq_false_iff_not]
    omega
theorem op_mulAny:OpR X (binaryOp .Mult) rMulAny:=op_mul.or op_mul_str
theorem call_all_bls (hc:X.calm=true):CallR X (.builtin "all") (fun xs H Q=>∃ (p:Addr) (bs:List Bool),xs=[.ref p]∧SqL X.K H p (bs.map V.bl)∧Q (.bl (bs.all id)) H):=by
  intro pins s σ H xs us Q I r h
  obtain ⟨p,bs,rfl,hq,q⟩:=h
  obtain ⟨u,rfl,rx⟩:=vals1 r
  cases rx
  obtain ⟨its,rv,pl,hz⟩:=I.list hq
  have hne:p ≠ s.heap.objs.size:=by
    obtain ⟨o,ho,_⟩:=pl.isList
    exact Nat.ne_of_lt (Heap.lt_size ho)
  have hl1:=pl.isList
  refine call_all_walk (wpAny_pyIter_list hl1 ?_)
  refine ⟨_,_,_,_,_,_,fun i=>(bs[i]?).getD true,rfl,Walks.list (A:=X.A.in1) (I.ok.hd hc) _ p hne its.toArray,⟨⟨_,Heap.get?_push_size _ rfl,rfl,rfl⟩,hl1.push _⟩,fun i v s' Q' E' hP hq'=>?_,fun h' tk hk=>?_⟩
  · have hv:its[i]?=some v:=by simpa using hP
    have hlen:=rv.length
    have hi:i < its.length:=(List.getElem?_eq_some_iff.mp hv).1
    have hb:i < bs.length:=by rw [List.length_map] at hlen; omega
    obtain ⟨w',h1,h2⟩:=rv.get (i:=i) (x:=.bl bs[i]) (by rw [List.getElem?_map,List.getElem?_eq_getElem hb]; rfl)
    rw [hv] at h1
    cases h1
    cases h2
    refine wpAny_truthy_bool ?_
    dsimp only at hq'
    rw [List.getElem?_eq_getElem hb] at hq'
    exact hq'
  · have e:(List.range its.toArray.size).all (fun i=>(bs[i]?).getD true)=bs.all id:=by
      have hlen:=rv.length
      rw [List.length_map] at hlen
      rw [List.size_toArray,← hlen]
      rw [Bool.eq_iff_iff,List.all_eq_true,List.all_eq_true]
      constructor
      · intro h b hb
        obtain ⟨i,hi,rfl⟩:=List.mem_iff_getElem.mp hb
        have:=h i (List.mem_range.mpr hi)
        rw [List.getElem?_eq_getElem hi] at this
        exact this
      · intro h i hi
        have hi':=List.mem_range.mp hi
        rw [List.getElem?_eq_getElem hi']
        exact h _ (List.getElem_mem hi')
    rw [e]
    have I1:Inv X pins σ H { s with heap:=s.heap.push { cls:=.type "list_iterator",data:=.fields #[.ref p,.int 0 0] } }:=I.kept (t':=s.toks) fun b o e=>Heap.get?_push_of_some _ e
    refine ⟨.bl _,H,I.kept fun b o e=>hk b o ?_ (Heap.get?_push_of_some _ e),rfl,q⟩
    intro z
    have:b=s.heap.objs.size:=by simpa using z
    exact absurd (Heap.lt_size e) (by rw [this]; exact Nat.lt_irrefl _)
def rIsB:R2:=fun x y H Q=>∃ b,y=.bl b∧Q (.bl (decide (x=.bl b))) H
def rIsNotB:R2:=fun x y H Q=>∃ b,y=.bl b∧Q (.bl (!decide (x=.bl b))) H
theorem is_bl {x:V} {v:Value} {b:Bool} (r:RelV x v):plainIs v (.bool b)=true∧(v == Value.bool b)=decide (x=.bl b):=by
  cases x with
  | non=>cases r; exact ⟨rfl,rfl⟩
  | bl c=>cases r; cases b <;> cases c <;> exact ⟨rfl,rfl⟩
  | int _=>obtain ⟨t,rfl⟩:=r; exact ⟨rfl,rfl⟩
  | str _=>obtain ⟨t,rfl⟩:=r; exact ⟨rfl,rfl⟩
  | byt _=>obtain ⟨t,rfl⟩:=r; exact ⟨rfl,rfl⟩
  | flt _=>obtain ⟨t,rfl⟩:=r; exact ⟨rfl,rfl⟩
  | ref _=>cases r; exact ⟨rfl,rfl⟩
  | ty _=>cases r; exact ⟨rfl,rfl⟩
theorem op_isNotB:OpR X (compareOp .IsNot) rIsNotB:=by
  intro pins s σ H x y v u Q I rx ry h
  obtain ⟨b,rfl,q⟩:=h
  cases ry
  obtain ⟨h1,h2⟩:=is_bl (b:=b) rx
  refine wpAny_isNot_plain h1 ?_
  rw [h2]
  exact ⟨.bl _,H,I,rfl,q⟩
theorem op_isB:OpR X (compareOp .Is) rIsB:=by
  intro pins s σ H x y v u Q I rx ry h
  obtain ⟨b,rfl,q⟩:=h
  cases ry
  obtain ⟨h1,h2⟩:=is_bl (b:=b) rx
  refine wpAny_is_plain h1 ?_
  rw [h2]
  exact ⟨.bl _,H,I,rfl,q⟩
theorem strs_of:∀ {ys:List Str} {us:List Value},Vals (ys.map V.str) us→StrsAre us ys
  | [],_,r=>by rw [List.map_nil] at r; cases r; exact .nil
  | y::ys,us,r=>by
    rw [List.map_cons] at r
    cases r with
    | cons r1 r2 =>
      obtain ⟨t,rfl⟩:=r1
      exact .cons y t (strs_of r2)
theorem mt_join:MtR X "str.join" (fun x xs H Q=>∃ z p ys,x=.str z∧xs=[.ref p]∧SqL X.K H p (ys.map V.str)∧(ys.map (·.length)).sum + ys.length * z.length≤16777216∧Q (.str (Txt.join z ys)) H):=by
  intro pins s σ H x xs v us Q I rx r h
  obtain ⟨z,p,ys,rfl,rfl,hq,hz,q⟩:=h
  obtain ⟨t,rfl⟩:=rx
  obtain ⟨u,rfl,ru⟩:=vals1 r
  cases ru
  obtain ⟨its,rv,pl,_⟩:=I.list hq
  exact PyProof.Rows.join_list pl.isList (by simpa using strs_of rv) hz fun t' k=>⟨.str _,H,I.tok k,⟨t',rfl⟩,q⟩
def tyName (K:PySem.W.Frag) (H:Hp):V→String→Prop
  | .non,T=>T="NoneType"
  | .bl _,T=>T="bool"
  | .int _,T=>T="int"
  | .str _,T=>T="str"
  | .ref p,T=>(T="list"∧∃ xs,SqL K H p xs) ∨ (T="tuple"∧∃ xs,SqT K H p xs) ∨ (T="list"∧∃ P,H p=some (.ext P)∧∀ h:Heap,P h→∃ o,h.get? p=some o∧o.cls=.type "list")
  | _,_=>False
theorem isinst2 {pins:List (Addr × Obj)} {σ:L2.St} {H:Hp} {s:Shared} {A:Around} {E:Value→Shared→Prop} {Q:Value→Shared→Prop} {x:V} {u c:Value} {T:String} {b:Bool} (I:Inv X pins σ H s) (rx:RelV x u) (ty:tyName X.K H x T)
    (e:PySem.W.kitOne X.K (.type T) c=some b) (h:∀ tk,Q (.bool b) { s with toks:=tk }):wpAny (model X.prog X.w) A (call (.builtin "isinstance") [u,c]) Q E s:=by
  cases x with
  | non=>cases (show T="NoneType" from ty); exact isinst_ok I rx .non e h
  | bl y=>cases (show T="bool" from ty); exact isinst_ok I rx (.bl y) e h
  | int i=>cases (show T="int" from ty); exact isinst_ok I rx (.int i) e h
  | str y=>cases (show T="str" from ty); exact isinst_ok I rx (.str y) e h
  | ref p =>
    cases rx
    rcases ty with ⟨rfl,xs,hq⟩ | ⟨rfl,xs,hq⟩ | ⟨rfl,P,hq,hP⟩
    · obtain ⟨its,_,pl,_⟩:=I.list hq
      obtain ⟨o,n,ho,hc,_⟩:=pl
      exact PySem.W.kia_one PySem.W.kitx_list I.kIn ⟨o,ho,hc⟩ e (fun z=>nomatch z) h
    · obtain ⟨its,_,pl,_⟩:=I.tuple hq
      obtain ⟨o,ho,hc,_⟩:=pl
      exact PySem.W.kia_one PySem.W.kitx_tuple I.kIn ⟨o,ho,hc⟩ e (fun z=>nomatch z) h
    · obtain ⟨o,ho,hc⟩:=hP _ (I.hok p _ hq).1
      exact PySem.W.kia_one PySem.W.kitx_list I.kIn ⟨o,ho,hc⟩ e (fun z=>nomatch z) h
  | _=>exact False.elim ty
end
end L2

set_option Elab.async false
set_option linter.all false
set_option maxRecDepth 100000
namespace L2
open PySem PySem.Spec PyProof.Rows
def dstep (l:List Str) (y:Str):List Str:=if y ∈ l then l else l++[y]
def dd (ys:List Str):List Str:=ys.foldl dstep []
theorem dstep_mem (l:List Str) (y z:Str):z ∈ dstep l y ↔ z ∈ l ∨ z=y:=by
  unfold dstep
  by_cases h:y ∈ l
  · rw [if_pos h]; exact ⟨.inl,fun q=>q.elim id fun e=>e ▸ h⟩
  · rw [if_neg h]; simp
theorem dfold_len:∀ (ys l:List Str),(ys.foldl dstep l).length≤l.length + ys.length
  | [],l=>by simp
  | y::ys,l=>by
    have ih:=dfold_len ys (dstep l y)
    have h1:(dstep l y).length≤l.length + 1:=by
      unfold dstep; split <;> simp
    rw [List.foldl_cons,List.length_cons]
    omega
theorem dd_len (ys:List Str):(dd ys).length≤ys.length:=by
  unfold dd
  have:=dfold_len ys []
  simpa using this
theorem dd_take_succ (ys:List Str) (i:Nat) (y:Str) (h:ys[i]?=some y):dd (ys.take (i + 1))=dstep (dd (ys.take i)) y:=by
  unfold dd
  rw [List.take_add_one,h,List.foldl_append]
  rfl

theorem strsAre_get:∀ {its:List Value} {ys:List Str},StrsAre its ys→∀ (i:Nat) (v:Value),its[i]?=some v→∃ y t,ys[i]?=some y∧v=.str y t
  | _,_,.nil,i,v,h=>by simp at h
  | _,_,.cons y t _,0,v,h=>by simp at h; exact ⟨y,t,rfl,h.symm⟩
  | _,_,.cons y t r,i + 1,v,h=>by
    obtain ⟨z,u,h1,h2⟩:=strsAre_get r i v (by simpa using h)
    exact ⟨z,u,by simpa using h1,h2⟩
theorem setOf_cg {P:Program} {w:World} {h:Heap} {a:Addr} {S S':Key→Bool} {n n':Nat} (hS:h.SetOf (mixKind P w) a S n) (e:∀ k,S k=S' k) (en:n=n'):h.SetOf (mixKind P w) a S' n':=by
  have z:S=S':=funext e
  subst z; subst en; exact hS
section
variable {prog:Program} {w:World} {A:Around}
def DdSet (prog:Program) (w:World) (h:Heap) (S:Addr) (l:List Str):Prop:=h.SetOf (mixKind prog w) S (fun k=>match k with | .inr z=>decide (z ∈ l) | .inl _=>false) l.length
end
def SetN (P:Program) (w:World) (q:Addr) (n:Nat):HO:=.ext fun h=>∃ S,h.SetOf (mixKind P w) q S n
section
variable {X:Cx}
theorem call_len_setN:CallR X (.builtin "len") (fun xs H Q=>∃ (q:Addr) (n:Nat),xs=[.ref q]∧H q=some (SetN X.prog X.w q n)∧Q (.int n) H):=by
  intro pins s σ H xs us Q I r h
  obtain ⟨q,n,rfl,hq,hQ⟩:=h
  obtain ⟨u,rfl,rx⟩:=vals1 r
  cases rx
  obtain ⟨⟨S,o,es,ep,t,ho,hex,hd,_,_,hbd,hf,hn⟩,_⟩:=I.hok q _ hq
  subst hn
  refine call_len_set ho hex hd hf ?_ ⟨.int _,H,I.tok _,⟨_,rfl⟩,hQ⟩
  unfold scanBound at hbd
  omega
end
end L2

set_option Elab.async false
set_option linter.all false
set_option maxRecDepth 100000
namespace TL
open PySem PySem.Spec PyProof.Rows L2
variable {K:PySem.W.Frag} {H H' H1 H2:Hp} {B:Hp} {p0 ps:List Addr} {σT:List Sl} {σ:L2.St}
section
variable {X:Cx} {a b c e:Expr} {es:List Expr} {ta tb tc te:ET} {pos p:Pos}
def fI (C:Int→Int→Prop) (g:Int→Int→Int):D→D→(D→Prop)→Prop
  | .int i,.int j,Q=>C i j∧Q (.int (g i j))
  | _,_,_=>False
def fI0 (g:Int→Int→Int):D→D→(D→Prop)→Prop
  | .int i,.int j,Q=>Q (.int (g i j))
  | _,_,_=>False
def fB0 (g:Int→Int→Bool):D→D→(D→Prop)→Prop
  | .int i,.int j,Q=>Q (.bool (g i j))
  | _,_,_=>False
theorem o_I {C:Int→Int→Prop} {g:Int→Int→Int}:Op2 X (rI C fun i j=>.int (g i j)) (fI C g):=by
  intro H ps d1 d2 x y Q QV live r1 r2 h k
  cases r1 with
  | int i =>
    cases r2 with
    | int j=>exact ⟨i,j,rfl,rfl,h.1,k _ _ H (L2.Same.refl H) (.int _) h.2⟩
    | _=>exact h.elim
  | _=>exact h.elim
theorem o_I0 {g:Int→Int→Int}:Op2 X (rI0 fun i j=>.int (g i j)) (fI0 g):=by
  intro H ps d1 d2 x y Q QV live r1 r2 h k
  cases r1 with
  | int i =>
    cases r2 with
    | int j=>exact ⟨i,j,rfl,rfl,k _ _ H (L2.Same.refl H) (.int _) h⟩
    | _=>exact h.elim
  | _=>exact h.elim
theorem o_B0 {g:Int→Int→Bool}:Op2 X (rI0 fun i j=>.bl (g i j)) (fB0 g):=by
  intro H ps d1 d2 x y Q QV live r1 r2 h k
  cases r1 with
  | int i =>
    cases r2 with
    | int j=>exact ⟨i,j,rfl,rfl,k _ _ H (L2.Same.refl H) (.bool _) h⟩
    | _=>exact h.elim
  | _=>exact h.elim
def fAdd:D→D→(D→Prop)→Prop
  | .int i,.int j,Q=>Q (.int (i + j))
  | .str x,.str y,Q=>x.length + y.length≤100000∧Q (.str (x++y))
  | .tuple x,.tuple y,Q=>x.length + y.length≤100000∧Q (.tuple (x++y))
  | .list x,.list y,Q=>x.length + y.length≤100000∧Q (.list (x++y))
  | _,_,_=>False
theorem line5 {n:Nat} (h:n≤100000):n≤sizeLine:=by have:sizeLine=2 ^ 24:=rfl; omega
theorem o_add:Op2 X (rAddAny X.K) fAdd:=by
  intro H ps d1 d2 x y Q QV live r1 r2 h k
  cases r1 with
  | int i =>
    cases r2 with
    | int j=>exact .inl ⟨i,j,rfl,rfl,k _ _ H (L2.Same.refl H) (.int _) h⟩
    | _=>exact h.elim
  | str i =>
    cases r2 with
    | str j=>exact .inr (.inl ⟨i,j,rfl,rfl,line5 h.1,k _ _ H (L2.Same.refl H) (.str _) h.2⟩)
    | _=>exact h.elim
  | tuple q1 s1 =>
    cases r2 with
    | tuple q2 s2 =>
      refine .inr (.inr (.inl ⟨_,_,_,_,rfl,rfl,Same.seqT mask_le q1,Same.seqT mask_le q2,line5 (by rw [← s1.length,← s2.length]; exact h.1),fun z=>?_,fun z1 z2=>?_,fun z1 z2 p hp=>?_⟩))
      · subst z
        cases s1
        exact k _ _ H (L2.Same.refl H) (.tuple q2 s2) h.2
      · subst z2
        cases s2
        have e:=h.2
        rw [List.append_nil] at e
        exact k _ _ H (L2.Same.refl H) (.tuple q1 s1) e
      · exact k _ _ _ (same_new hp) (rep_tup live hp (s1.append s2)) h.2
    | _=>exact h.elim
  | list q1 s1 =>
    cases r2 with
    | list q2 s2 =>
      exact .inr (.inr (.inr ⟨_,_,_,_,rfl,rfl,L2.Same.seq mask_le q1,L2.Same.seq mask_le q2,line5 (by rw [← s1.length,← s2.length]; exact h.1),fun p hp=>k _ _ _ (same_new hp) (rep_lst live hp (s1.append s2)) h.2⟩))
    | _=>exact h.elim
  | _=>exact h.elim
def fMul:D→D→(D→Prop)→Prop
  | .int i,.int j,Q=>CMul i j∧Q (.int (i * j))
  | .str z,.int n,Q=>z.length≤1000∧0≤n∧n≤1000∧Q (.str (Txt.mul z n))
  | _,_,_=>False
theorem o_mul:Op2 X rMulAny fMul:=by
  intro H ps d1 d2 x y Q QV live r1 r2 h k
  cases r1 with
  | int i =>
    cases r2 with
    | int j=>exact .inl ⟨i,j,rfl,rfl,h.1,k _ _ H (L2.Same.refl H) (.int _) h.2⟩
    | _=>exact h.elim
  | str z =>
    cases r2 with
    | int n=>exact .inr ⟨z,n,rfl,rfl,h.1,h.2.1,h.2.2.1,k _ _ H (L2.Same.refl H) (.str _) h.2.2.2⟩
    | _=>exact h.elim
  | _=>exact h.elim
def eqF:D→D→Option Bool
  | .none,.none=>some true
  | .bool x,.bool y=>some (decide (x=y))
  | .int x,.int y=>some (decide (x=y))
  | .str x,.str y=>some (decide (x=y))
  | .str _,.none | .none,.str _=>some false
  | _,_=>none
def fEq (x y:D) (Q:D→Prop):Prop:=match eqF x y with | some c=>Q (.bool c) | none=>False
def fNe (x y:D) (Q:D→Prop):Prop:=match eqF x y with | some c=>Q (.bool (!c)) | none=>False
theorem eqF_scal {x y:D} {u v:V} {c:Bool} (r1:Rep K H x u) (r2:Rep K H y v) (h:eqF x y=some c):scal u v=true∧decide (u=v)=c:=by
  cases r1 <;> cases r2 <;> simp [eqF] at h <;> subst h <;> exact ⟨rfl,by simp⟩
theorem o_eq:Op2 X rEq fEq:=by
  intro H ps d1 d2 x y Q QV live r1 r2 h k
  unfold fEq at h
  cases e:eqF d1 d2 with
  | none=>rw [e] at h; exact h.elim
  | some c =>
    rw [e] at h
    obtain ⟨h1,h2⟩:=eqF_scal r1 r2 e
    refine ⟨h1,?_⟩
    rw [h2]
    exact k _ _ H (L2.Same.refl H) (.bool c) h
theorem o_ne:Op2 X rNe fNe:=by
  intro H ps d1 d2 x y Q QV live r1 r2 h k
  unfold fNe at h
  cases e:eqF d1 d2 with
  | none=>rw [e] at h; exact h.elim
  | some c =>
    rw [e] at h
    obtain ⟨h1,h2⟩:=eqF_scal r1 r2 e
    refine ⟨h1,?_⟩
    rw [h2]
    exact k _ _ H (L2.Same.refl H) (.bool (!c)) h
def isTrueD (b:Bool):D→Bool
  | .bool c=>decide (c=b)
  | _=>false
theorem Reps.atI {ds:List D} {vs:List V} {i:Int} {d:D} (r:Reps K H ds vs) (h:atI ds i=some d):∃ v,atI vs i=some v∧Rep K H d v:=by
  unfold L2.atI at h ⊢
  rw [← r.length]
  cases e:ixN ds.length i with
  | none=>rw [e] at h; cases h
  | some j =>
    rw [e] at h
    exact r.get h
inductive ItemAt (ts:List D) (i:Int) (Q:D→Prop):Prop
  | mk (d:D) (h:atI ts i=some d) (k:Q d):ItemAt ts i Q
def fIx (x y:D) (Q:D→Prop):Prop:=match x,y with
  | .list ts,.int i=>ItemAt ts i Q
  | .tuple ts,.int i=>ItemAt ts i Q
  | .str z,.int i=>z.length≤100000∧∃ c,atI z.cps.toList i=some c∧Q (.str ⟨#[c]⟩)
  | _,_=>False
theorem o_ix:Op2 X (rIx X.K) fIx:=by
  intro H ps d1 d2 x y Q QV live r1 r2 h k
  cases r2 with
  | int i =>
    cases r1 with
    | list q s =>
      obtain ⟨d,e,h⟩:=h
      obtain ⟨v,e',r⟩:=s.atI e
      exact .inl ⟨_,_,i,v,rfl,rfl,L2.Same.seq mask_le q,e',k _ _ H (L2.Same.refl H) r h⟩
    | tuple q s =>
      obtain ⟨d,e,h⟩:=h
      obtain ⟨v,e',r⟩:=s.atI e
      exact .inr (.inl ⟨_,_,i,v,rfl,rfl,Same.seqT mask_le q,e',k _ _ H (L2.Same.refl H) r h⟩)
    | str z =>
      obtain ⟨hz,c,e,h⟩:=h
      exact .inr (.inr ⟨z,i,c,rfl,rfl,line5 hz,e,k _ _ H (L2.Same.refl H) (.str _) h⟩)
    | _=>exact h.elim
  | _=>cases d1 <;> exact h.elim
def cutD {α:Type} (xs:List α) (lo hi:Option Int):List α:=(xs.drop (HT.sIx xs.length 0 lo)).take (HT.sIx xs.length xs.length hi - HT.sIx xs.length 0 lo)
def fSl (x:D) (lo hi:Option Int) (Q:D→Prop):Prop:=match x with
  | .list ts=>Q (.list (cutD ts lo hi))
  | .tuple ts=>Q (.tuple (cutD ts lo hi))
  | .str z=>z.length≤100000∧Q (.str (Txt.slice z lo hi))
  | _=>False
theorem Reps.cut {ds:List D} {vs:List V} (r:Reps K H ds vs) (lo hi:Option Int):Reps K H (cutD ds lo hi) (cutV vs lo hi):=by
  unfold cutD cutV
  rw [r.length]
  exact (r.drop _).take _
theorem o_sl:SlT X (rSlAny X.K) fSl:=by
  intro H ps d x lo hi Q QV live r h k
  cases r with
  | list q s=>exact .inl ⟨_,_,rfl,L2.Same.seq mask_le q,fun p hp=>k _ _ _ (same_new hp) (rep_lst live hp (s.cut lo hi)) h⟩
  | @tuple p xs ts q s =>
    refine .inr (.inl ⟨_,_,rfl,Same.seqT mask_le q,fun z=>?_,fun _ p hp=>k _ _ _ (same_new hp) (rep_tup live hp (s.cut lo hi)) h⟩)
    have e:cutD ts lo hi=ts:=by
      unfold cutD
      rw [s.length,z.1,z.2,Nat.sub_zero,List.drop_zero,← s.length,List.take_length]
    have h':Q (.tuple (cutD ts lo hi)):=h
    rw [e] at h'
    exact k _ _ H (L2.Same.refl H) (.tuple q s) h'
  | str z=>exact .inr (.inr ⟨z,rfl,line5 h.1,k _ _ H (L2.Same.refl H) (.str _) h.2⟩)
  | _=>exact h.elim
theorem reps_strs:∀ {ys:List Str} {vs:List V},Reps K H (ys.map PyData.str) vs→vs=ys.map V.str
  | [],_,r=>by rw [List.map_nil] at r; cases r; rfl
  | y::ys,vs,r=>by
    rw [List.map_cons] at r
    cases r with
    | cons r1 r2 =>
      cases r1
      rw [List.map_cons,reps_strs r2]
theorem et_cb {r:List V→Hp→VK→Prop} {f:List D→(D→Prop)→Prop} {t:AT} {g:Expr} (hf:CallT X r f) (ha:PAt X (e::es) t) (pc:∀ {ta:TA},PA X (e::es) ta→PE X (.Call g (e::es) [] pos) (tCB r ta)):PEt X (.Call g (e::es) [] pos) (eCall f t):=by
  obtain ⟨v,pa,ra⟩:=ha
  refine ⟨_,pc pa,fun B p0 H ps σT σ Q QV o h k=>ra B p0 H ps σT σ _ _ o h fun ds xs H1 s1 r1 q1=>?_⟩
  exact hf H1 ps ds xs Q QV (o.grow s1).live r1 q1 fun d v H' s' r' q'=>k d v H' (s1.trans s') r' q'
def f1 (f:D→(D→Prop)→Prop):List D→(D→Prop)→Prop
  | [d],Q=>f d Q
  | _,_=>False
theorem c1 {r:List V→Hp→VK→Prop} {f:D→(D→Prop)→Prop} (h:∀ (H:Hp) (ps:List Addr) (d:D) (x:V) (Q:D→Prop) (QV:VK),(∀ p ∈ ps,H p ≠ none)→Rep X.K (mask H ps) d x→f d Q →
    (∀ d v H',Same H H'→Rep X.K (mask H' ps) d v→Q d→QV v H')→r [x] H QV):CallT X r (f1 f):=by
  intro H ps ds xs Q QV live rs hf k
  cases rs with
  | nil=>exact hf.elim
  | cons r1 r2 =>
    cases r2 with
    | nil=>exact h H ps _ _ Q QV live r1 hf k
    | cons _ _=>exact hf.elim
def gLen (d:D) (Q:D→Prop):Prop:=match d with
  | .list ts=>Q (.int ts.length)
  | .tuple ts=>Q (.int ts.length)
  | .str z=>z.length≤100000∧Q (.int z.length)
  | _=>False
theorem call_lenAny:CallR X (.builtin "len") (fun xs H Q=>(∃ p ys,xs=[.ref p]∧(SqL X.K H p ys ∨ SqT X.K H p ys)∧Q (.int ys.length) H) ∨ ∃ z,xs=[.str z]∧z.length≤sizeLine∧Q (.int z.length) H):=call_len_seq.or call_len_str
theorem c_len:CallT X (fun xs H Q=>(∃ p ys,xs=[.ref p]∧(SqL X.K H p ys ∨ SqT X.K H p ys)∧Q (.int ys.length) H) ∨ ∃ z,xs=[.str z]∧z.length≤sizeLine∧Q (.int z.length) H) (f1 gLen):=c1 fun H ps d x Q QV live r h k=>by
  cases r with
  | list q s =>
    refine .inl ⟨_,_,rfl,.inl (L2.Same.seq mask_le q),?_⟩
    rw [← s.length]
    exact k _ _ H (L2.Same.refl H) (.int _) h
  | tuple q s =>
    refine .inl ⟨_,_,rfl,.inr (Same.seqT mask_le q),?_⟩
    rw [← s.length]
    exact k _ _ H (L2.Same.refl H) (.int _) h
  | str z=>exact .inr ⟨z,rfl,line5 h.1,k _ _ H (L2.Same.refl H) (.int _) h.2⟩
  | _=>exact h.elim
def gTuple (d:D) (Q:D→Prop):Prop:=match d with
  | .list ts=>Q (.tuple ts)
  | .tuple ts=>Q (.tuple ts)
  | _=>False
theorem c_tuple:CallT X (fun xs H Q=>∃ p ys,xs=[.ref p]∧((SqL X.K H p ys∧∀ l,H l=none→Q (.ref l) (upd H l (.tup ys))) ∨ (SqT X.K H p ys∧Q (.ref p) H))) (f1 gTuple):=c1 fun H ps d x Q QV live r h k=>by
  cases r with
  | list q s=>exact ⟨_,_,rfl,.inl ⟨L2.Same.seq mask_le q,fun l hl=>k _ _ _ (same_new hl) (rep_tup live hl s) h⟩⟩
  | tuple q s=>exact ⟨_,_,rfl,.inr ⟨Same.seqT mask_le q,k _ _ H (L2.Same.refl H) (.tuple q s) h⟩⟩
  | _=>exact h.elim
theorem reps_bls:∀ {ys:List Bool} {vs:List V},Reps K H (ys.map PyData.bool) vs→vs=ys.map V.bl
  | [],_,r=>by rw [List.map_nil] at r; cases r; rfl
  | y::ys,vs,r=>by
    rw [List.map_cons] at r
    cases r with
    | cons r1 r2 =>
      cases r1
      rw [List.map_cons,reps_bls r2]
theorem reps_ints:∀ {ys:List Int} {vs:List V},Reps K H (ys.map PyData.int) vs→vs=ys.map V.int
  | [],_,r=>by rw [List.map_nil] at r; cases r; rfl
  | y::ys,vs,r=>by
    rw [List.map_cons] at r
    cases r with
    | cons r1 r2 =>
      cases r1
      rw [List.map_cons,reps_ints r2]
def gAll (d:D) (Q:D→Prop):Prop:=∃ bs:List Bool,d=.list (bs.map PyData.bool)∧Q (.bool (bs.all id))
theorem c_all:CallT X (fun xs H Q=>∃ (p:Addr) (bs:List Bool),xs=[.ref p]∧SqL X.K H p (bs.map V.bl)∧Q (.bl (bs.all id)) H) (f1 gAll):=c1 fun H ps d x Q QV live r h k=>by
  obtain ⟨bs,rfl,h⟩:=h
  cases r with
  | list q s =>
    have e:=reps_bls s
    subst e
    exact ⟨_,bs,rfl,L2.Same.seq mask_le q,k _ _ H (L2.Same.refl H) (.bool _) h⟩
def f2 (f:D→D→(D→Prop)→Prop):List D→(D→Prop)→Prop
  | [d,d'],Q=>f d d' Q
  | _,_=>False
def gMin2 (x y:D) (Q:D→Prop):Prop:=match x,y with | .int i,.int j=>Q (.int (if j < i then j else i)) | _,_=>False
theorem c_min2:CallT X (fun xs H Q=>∃ i j,xs=[.int i,.int j]∧Q (.int (if j < i then j else i)) H) (f2 gMin2):=by
  intro H ps ds xs Q QV live rs hf k
  cases rs with
  | nil=>exact hf.elim
  | cons r1 r2 =>
    cases r2 with
    | nil=>exact hf.elim
    | cons r3 r4 =>
      cases r4 with
      | cons _ _=>exact hf.elim
      | nil =>
        cases r1 with
        | int i =>
          cases r3 with
          | int j=>exact ⟨i,j,rfl,k _ _ H (L2.Same.refl H) (.int _) hf⟩
          | _=>exact hf.elim
        | _=>exact hf.elim
def tyD:D→String
  | .none=>"NoneType"
  | .bool _=>"bool"
  | .int _=>"int"
  | .str _=>"str"
  | .list _=>"list"
  | .tuple _=>"tuple"
  | .dict []=>"list"
  | .dict [(.none,_)]=>"list"
  | .dict _=>"dict"
def isT (T:String) (d:D):Bool:=(tyD d == T) || (T == "int" && tyD d == "bool")
theorem isT_exc {T:String} {i:Int} {x:D} (h:T ∈ ["int","str","list","tuple","bool"]):isT T (.dict [(.int i,x)])=false:=by
  simp only [List.mem_cons,List.not_mem_nil,or_false] at h
  rcases h with rfl | rfl | rfl | rfl | rfl <;> rfl
def isiQ (T:String) (d:D) (Q:D→Prop):Prop:=match d with | .dict ((.str _,_)::_)=>False | d=>Q (.bool (isT T d))
theorem isiQ_of {T:String} {d:D} {Q:D→Prop} (h:∀ x y r,d ≠ .dict ((.str x,y)::r)) (q:isiQ T d Q):Q (.bool (isT T d)):=by
  unfold isiQ at q
  split at q
  · exact q.elim
  · exact q
def eIsi (T:String) (te:ET):ET:=fun σ Q=>te σ fun d=>isiQ T d Q
def KitOk (K:PySem.W.Frag) (T:String):Prop:=∀ tn ∈ ["NoneType","bool","int","str","list","tuple"],PySem.W.kitOne K (.type tn) (.type T)=some ((tn == T) || (T == "int" && tn == "bool"))
def rIsi (K:PySem.W.Frag) (T:String):List V→Hp→VK→Prop:=fun xs H Q=>∃ x b,xs=[x,.ty T]∧((∃ Tn,tyName K H x Tn∧PySem.W.kitOne K (.type Tn) (.type T)=some b) ∨ (∃ p C dx,x=.ref p∧H p=some (.ext (excAt p C dx))∧(∀ d,dx=some d→∃ fs,H d=some (.xd fs))∧XCls K C∧PySem.W.kitOne K (.ref C) (.type T)=some b))∧Q (.bl b) H
theorem isinst_exc {pins:List (Addr × Obj)} {s:Shared} {σ:L2.St} {H:Hp} {A:Around} {E:Value→Shared→Prop} {Q:Value→Shared→Prop} {p C:Addr} {dx:Option Addr} {c:Value} {b:Bool} (I:Inv X pins σ H s) (hp:H p=some (.ext (excAt p C dx))) (hd:∀ d,dx=some d→∃ fs,H d=some (.xd fs)) (x:XCls X.K C)
    (e:PySem.W.kitOne X.K (.ref C) c=some b) (h:∀ tk,Q (.bool b) { s with toks:=tk }):wpAny (model X.prog X.w) A (call (.builtin "isinstance") [.ref p,c]) Q E s:=by
  refine PySem.W.kia_one (kitx_exc x) I.kIn ?_ e (fun z=>nomatch z) h
  obtain ⟨⟨o,vs,h1,h2,h3,h4⟩,_⟩:=I.hok p _ hp
  have hn:PySem.W.notCls o=true:=by unfold PySem.W.notCls; rw [h4]
  cases dx with
  | none=>exact ⟨o,none,h1,h2,hn,by rw [h3]; trivial⟩
  | some d =>
    obtain ⟨fs,hf⟩:=hd d rfl
    obtain ⟨mA,⟨od,es,ep,he,_⟩,_⟩:=I.hok d _ hf
    exact ⟨o,some od,h1,h2,hn,by rw [h3]; exact he⟩
theorem call_isi {T:String}:CallR X (.builtin "isinstance") (rIsi X.K T):=by
  intro pins s σ H xs us Q I r h
  obtain ⟨x,b,rfl,⟨Tn,ht,hk⟩ | ⟨p,C,dx,rfl,hp,hd,hx,hk⟩,q⟩:=h
  · obtain ⟨u,w,rfl,ru,rw'⟩:=vals2 r
    cases rw'
    exact isinst2 I ru ht hk fun tk=>⟨.bl b,H,I.tok tk,rfl,q⟩
  · obtain ⟨u,w,rfl,ru,rw'⟩:=vals2 r
    cases rw'
    cases ru
    exact isinst_exc I hp hd hx hk fun tk=>⟨.bl b,H,I.tok tk,rfl,q⟩
theorem et_isi {T:String} {g1 g2:Expr} (hk:KitOk X.K T) (he:PEt X e te)
    (pc:∀ {v:TE},PE X e v→PE X (.Call g1 [e,g2] [] pos) (tCB (rIsi X.K T) (tCons v (tCons (tC (.ty T)) tNil))))
    (hT:T ∈ ["int","str","list","tuple","bool"]:=by decide):PEt X (.Call g1 [e,g2] [] pos) (eIsi T te):=by
  obtain ⟨v,pe,re⟩:=he
  refine ⟨_,pc pe,fun B p0 H ps σT σ Q QV o h k=>re B p0 H ps σT σ _ _ o h fun d x H1 s1 r1 q1=>?_⟩
  have fin:∀ tn,tn ∈ ["NoneType","bool","int","str","list","tuple"]→tyD d=tn→tyName X.K H1 x tn→rIsi X.K T [x,V.ty T] H1 QV:=fun tn hm ht hn=>by
    refine ⟨x,_,rfl,.inl ⟨tn,hn,hk tn hm⟩,?_⟩
    have q:Q (.bool (isT T d)):=isiQ_of (fun x y r z=>by subst z; have z2:("dict":String)=tn:=ht; subst z2; exact absurd hm (by decide)) q1
    unfold isT at q
    rw [ht] at q
    exact k _ _ H1 s1 (.bool _) q
  cases r1 with
  | none=>exact fin "NoneType" (by simp) rfl rfl
  | bool b=>exact fin "bool" (by simp) rfl rfl
  | int i=>exact fin "int" (by simp) rfl rfl
  | str z=>exact fin "str" (by simp) rfl rfl
  | list q s=>exact fin "list" (by simp) rfl (.inl ⟨rfl,_,L2.Same.seq mask_le q⟩)
  | tuple q s=>exact fin "tuple" (by simp) rfl (.inr (.inl ⟨rfl,_,Same.seqT mask_le q⟩))
  | wild h=>exact fin "list" (by simp) rfl (.inr (.inr ⟨rfl,_,mask_le _ _ h,fun _ ⟨_,_,e,_⟩=>⟨_,e,rfl⟩⟩))
  | tape h _=>exact fin "list" (by simp) rfl (.inr (.inr ⟨rfl,_,mask_le _ _ h,fun _ ⟨_,_,_,_,_,_,_,e,_⟩=>⟨_,e,rfl⟩⟩))
  | exc x h =>
    refine ⟨_,false,rfl,.inr ⟨_,_,_,rfl,mask_le _ _ h,(fun _ z=>nomatch z),x.1,x.2 T hT⟩,?_⟩
    have q2:Q (.bool (isT T (.dict _))):=q1
    rw [isT_exc hT] at q2
    exact k _ _ H1 s1 (.bool _) q2
  | excA x h g =>
    refine ⟨_,false,rfl,.inr ⟨_,_,_,rfl,mask_le _ _ h,fun _ z=>by cases z; exact ⟨_,mask_le _ _ g⟩,x.1,x.2 T hT⟩,?_⟩
    have q2:Q (.bool (isT T (.dict _))):=q1
    rw [isT_exc hT] at q2
    exact k _ _ H1 s1 (.bool _) q2
  | dct _ _ _ _=>exact (show False from q1).elim
  | addr z=>exact (show False from q1).elim
def eMeth (f:Str→List D→(D→Prop)→Prop) (te:ET) (t:AT):ET:=fun σ Q=>te σ fun d=>∃ z,d=.str z∧t σ fun ds=>f z ds Q
def gJoin (z:Str) (ds:List D) (Q:D→Prop):Prop:=match ds with | [.list ts]=>∃ ys:List Str,ts=ys.map PyData.str∧(ys.map (·.length)).sum + ys.length * z.length≤16777216∧Q (.str (Txt.join z ys)) | _=>False
theorem meth_read {f:Str→List D→(D→Prop)→Prop} {r:V→List V→Hp→VK→Prop} {n g:Expr} {t:AT} (hn:PEt X n te) (ha:PAt X (e::es) t)
    (hf:∀ (H:Hp) (ps:List Addr) (z:Str) (ds:List D) (xs:List V) (Q:D→Prop) (QV:VK),Reps X.K (mask H ps) ds xs→f z ds Q→(∀ d v H',Same H H'→Rep X.K (mask H' ps) d v→Q d→QV v H')→r (.str z) xs H QV)
    (pc:∀ {v:TE} {ta:TA},PE X n v→PA X (e::es) ta→PE X (.Call g (e::es) [] pos) (tBM X.K "str" r v ta)):PEt X (.Call g (e::es) [] pos) (eMeth f te t):=by
  obtain ⟨v,pe,re⟩:=hn
  obtain ⟨va,pa,ra⟩:=ha
  refine ⟨_,pc pe pa,fun B p0 H ps σT σ Q QV o h k=>re B p0 H ps σT σ _ _ o h fun d x H1 s1 r1 q1=>?_⟩
  obtain ⟨z,rfl,q1⟩:=q1
  cases r1
  refine ⟨rfl,ra B p0 H1 ps σT σ _ _ (o.grow s1) q1 fun ds xs H2 s2 r2 q2=>?_⟩
  exact hf H2 ps z ds xs Q QV r2 q2 fun d v H' s' r' q'=>k d v H' (s1.trans (s2.trans s')) r' q'
theorem et_join {n:Expr} {ap:Pos} {t:AT} (hn:PEt X n te) (ha:PAt X (e::es) t)
    (pc:∀ {v:TE} {ta:TA},PE X n v→PA X (e::es) ta→PE X (.Call (.Attribute n "join" ap) (e::es) [] pos) (tBM X.K "str" (fun x xs H Q=>∃ z p ys,x=.str z∧xs=[.ref p]∧SqL X.K H p (ys.map V.str)∧(ys.map (·.length)).sum + ys.length * z.length≤16777216∧Q (.str (Txt.join z ys)) H) v ta)):PEt X (.Call (.Attribute n "join" ap) (e::es) [] pos) (eMeth gJoin te t) :=
  meth_read hn ha (fun H ps z ds xs Q QV r h k=>by
    cases r with
    | nil=>exact h.elim
    | cons r1 r2 =>
      cases r2 with
      | cons _ _=>cases r1 <;> exact h.elim
      | nil =>
        cases r1 with
        | list q s =>
          obtain ⟨ys,rfl,hz,h⟩:=h
          have e:=reps_strs s
          subst e
          exact ⟨z,_,ys,rfl,rfl,L2.Same.seq mask_le q,hz,k _ _ H (L2.Same.refl H) (.str _) h⟩
        | _=>exact h.elim) pc
def sUnp (i j:Nat) (te:ET):STt:=fun DT σ=>te σ fun d=>gP i j d σ DT.nx
theorem st_unp {i j:Nat} {tg:Expr} {g:TG} (he:PEt X e te) (hg:PGt X tg (gP i j)) (pa:∀ {v:TE} {gv:TG},PE X e v→PG X tg gv→PS X (.Assign [tg] e pos) (tAsg v gv)):PSt X (.Assign [tg] e pos) (sUnp i j te):=by
  obtain ⟨v,pe,re⟩:=he
  obtain ⟨gv,pg,rg⟩:=hg
  refine ⟨_,pa pe pg,fun B p0 H ps σT σ DT DV o h f=>re B p0 H ps σT σ _ _ o h fun d x H1 s1 r1 q1=>?_⟩
  exact rg B p0 H1 ps σT σ d x _ _ (o.grow s1) r1 q1 fun σT' σ' o' _ q'=>f.nx H1 ps _ _ o' (mask_same s1) q'
mutual
theorem Rep.reads {pins:List (Addr × Obj)} {s:Shared} {σ:L2.St} (I:Inv X pins σ H s):∀ {d:D} {x:V} {u:Value},d.hasDict=false→Rep X.K H d x→RelV x u→∃ as,Reads s.heap u d as
  | _,_,_,_,.none,r=>by cases r; exact ⟨_,.none⟩
  | _,_,_,_,.bool b,r=>by cases r; exact ⟨_,.bool b⟩
  | _,_,_,_,.int i,r=>by obtain ⟨t,rfl⟩:=r; exact ⟨_,.int i t⟩
  | _,_,_,_,.str z,r=>by obtain ⟨t,rfl⟩:=r; exact ⟨_,.str z t⟩
  | _,_,_,hd,.list q rs,r=>by
    cases r
    obtain ⟨its,rv,⟨o,n,h1,h2,_,h3⟩,_⟩:=I.list q
    obtain ⟨as,h4⟩:=Reps.reads I hd rs rv
    exact ⟨_,.list h1 h2 h3 (by simpa using h4)⟩
  | _,_,_,hd,.tuple q rs,r=>by
    cases r
    obtain ⟨its,rv,⟨o,h1,h2,n,h3⟩,_⟩:=I.tuple q
    obtain ⟨as,h4⟩:=Reps.reads I hd rs rv
    exact ⟨_,.tuple h1 h2 h3 (by simpa using h4)⟩
  | _,_,_,hd,.wild _,_=>by cases hd
  | _,_,_,hd,.exc _ _,_=>by cases hd
  | _,_,_,hd,.excA _ _ _,_=>by cases hd
  | _,_,_,hd,.tape _ _,_=>by cases hd
  | _,_,_,hd,.addr _,_=>by cases hd
theorem Reps.reads {pins:List (Addr × Obj)} {s:Shared} {σ:L2.St} (I:Inv X pins σ H s):∀ {ds:List D} {xs:List V} {us:List Value},PyData.hasDictAll ds=false→Reps X.K H ds xs→Vals xs us→∃ as,ReadsAll s.heap us ds as
  | _,_,_,_,.nil,r=>by cases r; exact ⟨_,.nil⟩
  | d::ds,_,_,hd,.cons r1 r2,r=>by
    have hd':(d.hasDict || PyData.hasDictAll ds)=false:=hd
    rw [Bool.or_eq_false_iff] at hd'
    cases r with
    | cons v1 v2 =>
      obtain ⟨as,h1⟩:=Rep.reads I hd'.1 r1 v1
      obtain ⟨bs,h2⟩:=Reps.reads I hd'.2 r2 v2
      exact ⟨_,.cons h1 h2⟩
end
end
end TL

set_option Elab.async false
set_option linter.all false
set_option maxRecDepth 100000
namespace TL
open PySem PySem.Spec PyProof.Rows L2
def lcChk (sc out:Scope) (Nx N':List Str) (fr:List (Option Nat)):Bool :=
  decide (sc.kind=.function) && sc.names.all (fun y=>decide (y.2 ≠ .cell)) && sc.names.all (fun y=>decide (y.2 ≠ .free) || decide (out.names.lookup y.1=some .cell)) && sc.names.all (fun y=>decide (y.2 ≠ .local) || decide (sc.names.lookup y.1=some .local)) && frChk sc.names out.names Nx N' fr
section
variable {X:Cx} {elt iter tg a:Expr} {ifs:List Expr} {scope:Scope} {pos:Pos} {N':List Str} {fr:List (Option Nat)} {wi:TI} {g:BP→TG} {tt:BP→TT} {te:BP→TE}
theorem lcChk_all {out:Scope} {Nx:List Str} (h:lcChk scope out Nx N' fr=true):scope.kind=.function∧(∀ y ∈ scope.names,y.2 ≠ .cell)∧(∀ y ∈ scope.names,y.2=.free→out.names.lookup y.1=some .cell)∧(∀ y ∈ scope.names,y.2=.local→scope.names.lookup y.1=some .local)∧frChk scope.names out.names Nx N' fr=true:=by
  unfold lcChk at h
  simp only [Bool.and_eq_true,List.all_eq_true,Bool.or_eq_true,decide_eq_true_eq] at h
  obtain ⟨⟨⟨⟨h1,h2⟩,h3⟩,h4⟩,h5⟩:=h
  exact ⟨h1,h2,fun y hy e=>(h3 y hy).elim (fun z=>absurd e z) id,fun y hy e=>(h4 y hy).elim (fun z=>absurd e z) id,h5⟩
theorem pe_lcc (h:lcChk scope X.env.scope X.N N' fr=true) (hcalm:X.calm=true) (hi:PI X tg iter wi)
    (hY:∀ b:BP,PG (blk X scope N' b) tg (g b)∧PIf (blk X scope N' b) ifs (tt b)∧PE (blk X scope N' b) elt (te b)) (hs:∀ x,foldedSetIterable iter X.env x=pure x:=by intro _; rfl):PE X (.ListComp elt [⟨tg,iter,ifs,0⟩] scope pos) (tLc fr wi g tt te):=by
  obtain ⟨h1,h2,h3,h4,h5⟩:=lcChk_all h
  exact pe_lc hcalm h1 h2 h5 h3 h4 hi hY hs
theorem ps_setlcc {i:Nat} {x:Str} {px spos:Pos} (h:lcChk scope X.env.scope X.N N' fr=true) (hN:X.N.Nodup) (hix:X.N[i]?=some x) (hx:Loc X.env.scope x) (hcalm:X.calm=true) (hi:PI X tg iter wi)
    (hY:∀ b:BP,PG (blk X scope N' b) tg (g b)∧PIf (blk X scope N' b) ifs (tt b)∧PE (blk X scope N' b) elt (te b))
    (hsw:swapsWith (.ListComp elt [⟨tg,iter,ifs,0⟩] scope pos) (some (.Name x px)) spos.line X.env=pure true) (hs:∀ x,foldedSetIterable iter X.env x=pure x:=by intro _; rfl) (hf:X.fn x=true ∨ X.env.scope.names.lookup x=some .local:=by first | exact .inl rfl | exact .inr rfl) :
    PS X (.Assign [.Name x px] (.ListComp elt [⟨tg,iter,ifs,0⟩] scope pos) spos) (tAsg (tLc fr wi g tt te) (gName i)):=by
  obtain ⟨h1,h2,h3,h4,h5⟩:=lcChk_all h
  exact ps_setlc hN hix hx hcalm h1 h2 h5 h3 h4 hi hY hsw hs hf
end
theorem bl_all:bootBuiltins "all"=some (.builtin "all"):=by decide +kernel
theorem bl_min:bootBuiltins "min"=some (.builtin "min"):=by decide +kernel
theorem bl_max:bootBuiltins "max"=some (.builtin "max"):=by decide +kernel
theorem bl_isinstance:bootBuiltins "isinstance"=some (.builtin "isinstance"):=by decide +kernel
theorem bl_len:bootBuiltins "len"=some (.builtin "len"):=by decide +kernel
theorem bl_set:bootBuiltins "set"=some (.type "set"):=by decide +kernel
theorem bl_tuple:bootBuiltins "tuple"=some (.type "tuple"):=by decide +kernel
theorem bl_list:bootBuiltins "list"=some (.type "list"):=by decide +kernel
theorem bl_int:bootBuiltins "int"=some (.type "int"):=by decide +kernel
theorem kit_tuple (K:PySem.W.Frag):KitOk K "tuple":=by
  intro tn h
  simp only [List.mem_cons,List.not_mem_nil,or_false] at h
  rcases h with rfl | rfl | rfl | rfl | rfl | rfl <;> first | rfl | (with_unfolding_all rfl) | decide +kernel
theorem kit_list (K:PySem.W.Frag):KitOk K "list":=by
  intro tn h
  simp only [List.mem_cons,List.not_mem_nil,or_false] at h
  rcases h with rfl | rfl | rfl | rfl | rfl | rfl <;> first | rfl | (with_unfolding_all rfl) | decide +kernel

theorem set_set {α:Type} (l:List α) (i:Nat) (a b:α):(l.set i a).set i b=l.set i b:=by
  apply List.ext_getElem?
  intro j
  by_cases h:i=j
  · subst h
    by_cases hl:i < l.length
    · rw [List.getElem?_set_self (by simpa using hl),List.getElem?_set_self hl]
    · rw [List.getElem?_eq_none (by simpa using hl),List.getElem?_eq_none (by simpa using hl)]
  · rw [List.getElem?_set_ne h,List.getElem?_set_ne h,List.getElem?_set_ne h]
theorem lc_in {ts:List D} {σb:List Sl} {te:ET} {Q:D→Prop} (R:Nat→D→D→Prop) (hz:ts.length≤100000)
    (ht:∀ (k:Nat) (x:D) (q:D→Prop),ts[k]?=some x→(∀ y,R k x y→q y)→te (σb.set 0 (.val x)) q)
    (hq:∀ ys:List D,ys.length=ts.length→(∀ (k:Nat) (x y:D),ts[k]?=some x→ys[k]?=some y→R k x y)→Q (.list ys)) :
    ts.length≤100000∧∃ P:Nat→List Sl→List D→Prop,P 0 σb [] ∧
      (∀ (k:Nat) (x:D) (σ':List Sl) (ds:List D),ts[k]?=some x→P k σ' ds→gN 0 x σ' fun σ2=>cTrue σ2 fun b=>if b=true then te σ2 fun y=>P (k + 1) σ2 (ds++[y]) else P (k + 1) σ2 ds)∧∀ σ' ds,P ts.length σ' ds→Q (.list ds):=by
  refine ⟨hz,fun k σ' ds=>(∀ x,σ'.set 0 (.val x)=σb.set 0 (.val x))∧ds.length=k∧∀ (j:Nat) (x y:D),ts[j]?=some x→ds[j]?=some y→R j x y,⟨fun _=>rfl,rfl,fun j x y _ h=>by simp at h⟩,fun k x σ' ds hx h=>?_,fun σ' ds h=>hq ds h.2.1 h.2.2⟩
  obtain ⟨h1,h2,h3⟩:=h
  show te (σ'.set 0 (.val x)) _
  rw [h1 x]
  refine ht k x _ hx fun y hy=>⟨fun z=>set_set _ _ _ _,by simp [h2],fun j x' y' e1 e2=>?_⟩
  by_cases hj:j < k
  · rw [List.getElem?_append_left (by omega)] at e2
    exact h3 j x' y' e1 e2
  · rw [List.getElem?_append_right (by omega)] at e2
    have:j=k:=by
      by_cases e:j=k
      · exact e
      · have:j - ds.length ≠ 0:=by omega
        cases q:j - ds.length with
        | zero=>exact absurd q this
        | succ n=>rw [q] at e2; simp at e2
    subst this
    rw [hx] at e1
    cases e1
    simp [h2] at e2
    subst e2
    exact hy
theorem lc_map {ts:List D} {σb:List Sl} {te:ET} {Q:D→Prop} (f:D→D) (hz:ts.length≤100000) (ht:∀ (x:D) (q:D→Prop),x ∈ ts→q (f x)→te (σb.set 0 (.val x)) q) (hq:Q (.list (ts.map f))) :
    ts.length≤100000∧∃ P:Nat→List Sl→List D→Prop,P 0 σb [] ∧
      (∀ (k:Nat) (x:D) (σ':List Sl) (ds:List D),ts[k]?=some x→P k σ' ds→gN 0 x σ' fun σ2=>cTrue σ2 fun b=>if b=true then te σ2 fun y=>P (k + 1) σ2 (ds++[y]) else P (k + 1) σ2 ds)∧∀ σ' ds,P ts.length σ' ds→Q (.list ds):=by
  refine lc_in (fun k x y=>y=f x) hz (fun k x q hx h=>ht x q (List.mem_of_getElem? hx) (h _ rfl)) fun ys hl h=>?_
  have e:ys=ts.map f:=by
    apply List.ext_getElem?
    intro i
    rw [List.getElem?_map]
    cases hx:ts[i]? with
    | none =>
      rw [List.getElem?_eq_none (by rw [hl]; exact List.getElem?_eq_none_iff.mp hx)]; rfl
    | some x =>
      have hi:i < ys.length:=by rw [hl]; exact (List.getElem?_eq_some_iff.mp hx).1
      have:=h i x ys[i] hx (List.getElem?_eq_getElem hi)
      rw [List.getElem?_eq_getElem hi,this]; rfl
  rw [e]; exact hq
theorem lc_filt {ts:List D} {σb:List Sl} {tt:TTt} {te:ET} {Q:D→Prop} (p:D→Bool) (f:D→D) (hz:ts.length≤100000) (hp:∀ (x:D) (q:Bool→Prop),x ∈ ts→q (p x)→tt (σb.set 0 (.val x)) q)
    (ht:∀ (x:D) (q:D→Prop),x ∈ ts→q (f x)→te (σb.set 0 (.val x)) q) (hq:Q (.list ((ts.filter p).map f))) :
    ts.length≤100000∧∃ P:Nat→List Sl→List D→Prop,P 0 σb [] ∧
      (∀ (k:Nat) (x:D) (σ':List Sl) (ds:List D),ts[k]?=some x→P k σ' ds→gN 0 x σ' fun σ2=>tt σ2 fun b=>if b=true then te σ2 fun y=>P (k + 1) σ2 (ds++[y]) else P (k + 1) σ2 ds)∧∀ σ' ds,P ts.length σ' ds→Q (.list ds):=by
  refine ⟨hz,fun k σ' ds=>(∀ x,σ'.set 0 (.val x)=σb.set 0 (.val x))∧ds=((ts.take k).filter p).map f,⟨fun _=>rfl,rfl⟩,fun k x σ' ds hx h=>?_,fun σ' ds h=>?_⟩
  · obtain ⟨h1,rfl⟩:=h
    have hm:x ∈ ts:=List.mem_of_getElem? hx
    show tt (σ'.set 0 (.val x)) _
    rw [h1 x]
    refine hp x _ hm ?_
    have e:ts.take (k + 1)=ts.take k++[x]:=by rw [List.take_add_one,hx]; rfl
    cases hb:p x with
    | true =>
      rw [if_pos rfl]
      refine ht x _ hm ⟨fun z=>set_set _ _ _ _,?_⟩
      rw [e,List.filter_append,List.map_append]
      simp [hb]
    | false =>
      rw [if_neg (by decide)]
      refine ⟨fun z=>set_set _ _ _ _,?_⟩
      rw [e,List.filter_append,List.map_append]
      simp [hb]
  · obtain ⟨_,rfl⟩:=h
    rw [List.take_length]
    exact hq

section
variable {fr:List (Option Nat)} {ti:IT} {tt:TTt} {te:ET} {σ:List Sl} {Q:D→Prop} {ts:List D}
abbrev Gives' (ti:IT) (σ:List Sl) (ts:List D):Prop:=∀ R:List D→Prop,R ts→ti σ R
theorem lcx_map (hti:Gives' ti σ ts) (f:D→D) (hz:ts.length≤100000) (ht:∀ (x:D) (q:D→Prop),x ∈ ts→q (f x)→te ((inBlkT fr σ).set 0 (.val x)) q) (hq:Q (.list (ts.map f))):eLc fr ti (gN 0) cTrue te σ Q :=
  hti _ (lc_map (te:=te) (Q:=Q) f hz ht hq)
theorem lcx_in (hti:Gives' ti σ ts) (R:Nat→D→D→Prop) (hz:ts.length≤100000)
    (ht:∀ (k:Nat) (x:D) (q:D→Prop),ts[k]?=some x→(∀ y,R k x y→q y)→te ((inBlkT fr σ).set 0 (.val x)) q)
    (hq:∀ ys:List D,ys.length=ts.length→(∀ (k:Nat) (x y:D),ts[k]?=some x→ys[k]?=some y→R k x y)→Q (.list ys)):eLc fr ti (gN 0) cTrue te σ Q :=
  hti _ (lc_in (te:=te) (Q:=Q) R hz ht hq)
theorem lcx_filt (hti:Gives' ti σ ts) (p:D→Bool) (f:D→D) (hz:ts.length≤100000) (hp:∀ (x:D) (q:Bool→Prop),x ∈ ts→q (p x)→tt ((inBlkT fr σ).set 0 (.val x)) q)
    (ht:∀ (x:D) (q:D→Prop),x ∈ ts→q (f x)→te ((inBlkT fr σ).set 0 (.val x)) q) (hq:Q (.list ((ts.filter p).map f))):eLc fr ti (gN 0) tt te σ Q :=
  hti _ (lc_filt (tt:=tt) (te:=te) (Q:=Q) p f hz hp ht hq)
theorem forx {g:GT} {tb:STt} {DT:EndsT} (hti:Gives' ti σ ts) (P:Nat→List Sl→Prop) (h0:P 0 σ)
    (hs:∀ (k:Nat) (x:D) (σ':List Sl),ts[k]?=some x→P k σ'→g x σ' fun σ2=>tb { DT with nx:=P (k + 1),ct:=P (k + 1),bk:=DT.nx } σ2) (hd:∀ σ',P ts.length σ'→DT.nx σ'):sFor ti g tb DT σ:=hti _ ⟨P,h0,hs,hd⟩
end
end TL

set_option Elab.async false
set_option linter.all false
set_option maxRecDepth 100000
namespace TL
open PySem PySem.Spec PyProof.Rows L2
theorem app_codes (x y:Str):(x++y).cps.toList=x.cps.toList++y.cps.toList:=by
  show (x.cps++y.cps).toList=_
  simp
theorem pick_codes (xs:Array Nat) (a k:Nat):(List.range k).filterMap (fun m=>xs[a + m]?)=(xs.toList.drop a).take k:=by
  induction k with
  | zero=>simp
  | succ k ih =>
    rw [List.range_succ,List.filterMap_append,ih,List.take_add_one,List.getElem?_drop]
    congr 1
    simp only [List.filterMap_cons,List.filterMap_nil]
    rw [Array.getElem?_toList]
    cases xs[a + k]? <;> rfl
theorem clip_ix (v:Option Int) (n d:Nat) (hd:d≤n):(match v with | none=>(d:Int) | some i=>max 0 (min (if i < 0 then i + (n:Int) else i) (n:Int)))=((HT.sIx n d v:Nat):Int):=by
  cases v with
  | none=>rfl
  | some i =>
    have:=HT.clip_eq i n d
    rw [← this]
    dsimp only
    split <;> omega
theorem clip_ix0 (v:Option Int) (n:Nat):(match v with | none=>(0:Int) | some i=>max 0 (min (if i < 0 then i + (n:Int) else i) (n:Int)))=((HT.sIx n 0 v:Nat):Int):=clip_ix v n 0 (Nat.zero_le _)
theorem sr_congr {a a' b b':Int} (h1:a=a') (h2:b=b'):sliceRange a b 1=sliceRange a' b' 1:=by rw [h1,h2]
theorem slice_codes (z:Str) (lo hi:Option Int):(Txt.slice z lo hi).cps.toList=cutD z.cps.toList lo hi:=by
  have hn:z.cps.toList.length=z.length:=by simp [Str.length]
  have ha:=HT.sIx_le z.length 0 (Nat.zero_le _) lo
  have hb:=HT.sIx_le z.length z.length (Nat.le_refl _) hi
  have hI:Builtin.Str.strSliceIndices lo hi 1 z.length=(List.range (HT.sIx z.length z.length hi - HT.sIx z.length 0 lo)).map (fun k=>HT.sIx z.length 0 lo + k):=by
    unfold Builtin.Str.strSliceIndices
    simp only [show (1:Int) > 0 by decide,if_true]
    refine (sr_congr (clip_ix0 lo z.length) (clip_ix hi z.length z.length (Nat.le_refl _))).trans ?_
    unfold sliceRange
    simp only [show (1:Int) > 0 by decide,if_true]
    generalize HT.sIx z.length 0 lo=a
    generalize HT.sIx z.length z.length hi=b
    have ec:(if (a:Int) < (b:Int) then ((b:Int) - a + 1 - 1) / 1 else 0).toNat=b - a:=by split <;> omega
    rw [ec]
    apply List.map_congr_left
    intro k _
    omega
  unfold Txt.slice cutD
  rw [hn,hI]
  generalize HT.sIx z.length 0 lo=a at *
  generalize HT.sIx z.length z.length hi=b at *
  split
  · next h =>
    simp only [beq_self_eq_true,Bool.true_and,beq_iff_eq,List.length_map,List.length_range] at h
    have h1:a=0:=by omega
    have h2:b - a=z.cps.toList.length:=by rw [hn]; exact h
    rw [h2,h1,List.drop_zero,List.take_length]
  · rw [List.filterMap_map]
    exact pick_codes z.cps a (b - a)
theorem join_codes:∀ ys:List Str,(Txt.join ⟨#[]⟩ ys).cps.toList=(ys.map (·.cps.toList)).flatten:=by
  intro ys
  show (Builtin.Str.glued ⟨#[]⟩ ys).cps.toList=_
  rw [StrLaws.glued_eq_join]
  induction ys with
  | nil=>rfl
  | cons x ys ih =>
    cases ys with
    | nil=>simp [Str.join]
    | cons y r =>
      show (x++⟨#[]⟩++Str.join ⟨#[]⟩ (y::r)).cps.toList=_
      rw [app_codes,app_codes,ih]
      simp
theorem in_one (x:Str) (c:Nat):Txt.contains x ⟨#[c]⟩=decide (c ∈ x.cps.toList):=StrLaws.found_one x c
section
variable {te:ET} {u t e:STt} {c:TTt} {DT:EndsT} {σ:List Sl} {i:Nat}
theorem seq_set (v:D) (h:∀ q:D→Prop,q v→te σ q) (k:u DT (σ.set i (.val v))):sSeq (sSet i te) u DT σ:=h _ k
theorem seq_setR (R:D→Prop) (h:∀ q:D→Prop,(∀ v,R v→q v)→te σ q) (k:∀ v,R v→u DT (σ.set i (.val v))):sSeq (sSet i te) u DT σ:=h _ k
theorem seq_if (R:Bool→Prop) (h:∀ q:Bool→Prop,(∀ b,R b→q b)→c σ q) (k1:R true→t { DT with nx:=u DT } σ) (k0:R false→e { DT with nx:=u DT } σ):sSeq (sIf c t e) u DT σ:=by
  refine h _ fun b hb=>?_
  cases b with
  | true=>rw [if_pos rfl]; exact k1 hb
  | false=>rw [if_neg (by decide)]; exact k0 hb
theorem one_if (R:Bool→Prop) (h:∀ q:Bool→Prop,(∀ b,R b→q b)→c σ q) (k1:R true→t DT σ) (k0:R false→e DT σ):sIf c t e DT σ:=by
  refine h _ fun b hb=>?_
  cases b with
  | true=>rw [if_pos rfl]; exact k1 hb
  | false=>rw [if_neg (by decide)]; exact k0 hb
theorem seq_for {ti:IT} {ts:List D} {g:GT} {tb:STt} (hti:Gives' ti σ ts) (P:Nat→List Sl→Prop) (h0:P 0 σ)
    (hs:∀ (k:Nat) (x:D) (σ':List Sl),ts[k]?=some x→P k σ'→g x σ' fun σ2=>tb { DT with nx:=P (k + 1),ct:=P (k + 1),bk:=u DT } σ2) (hd:∀ σ',P ts.length σ'→u DT σ'):sSeq (sFor ti g tb) u DT σ :=
  forx (DT:={ DT with nx:=u DT }) hti P h0 hs hd
theorem seq_own {t:AT} (ds:List D) (hz:ds.length≤1000) (h:∀ q:List D→Prop,q ds→t σ q) (k:u DT (σ.set i (.own ds))):sSeq (sOwn i t) u DT σ:=h _ ⟨hz,k⟩
theorem seq_app {ts:List D} (v:D) (ho:σ[i]?=some (.own ts)) (hz:ts.length≤100000) (h:∀ q:D→Prop,q v→te σ q) (k:u DT (σ.set i (.own (ts++[v])))):sSeq (sApp i te) u DT σ:=⟨ts,ho,h _ ⟨hz,k⟩⟩
theorem one_set (v:D) (h:∀ q:D→Prop,q v→te σ q) (k:DT.nx (σ.set i (.val v))):sSet i te DT σ:=h _ k
end
end TL

set_option Elab.async false
set_option linter.all false
set_option maxRecDepth 100000
namespace TL
open PySem PySem.Spec PyProof.Rows L2
mutual
theorem noDict:∀ {d:D},d.canLay0=true→d.hasDict=false
  | .none,_=>rfl
  | .bool _,_=>rfl
  | .int _,_=>rfl
  | .str _,_=>rfl
  | .list _,h=>noDictAll h
  | .tuple _,h=>noDictAll h
  | .dict _,h=>by cases h
theorem noDictAll:∀ {ds:List D},PyData.canLayAll0 ds=true→PyData.hasDictAll ds=false
  | [],_=>rfl
  | d::ds,h=>by
    have h':(d.canLay0 && PyData.canLayAll0 ds)=true:=h
    rw [Bool.and_eq_true] at h'
    show (d.hasDict || PyData.hasDictAll ds)=false
    rw [noDict h'.1,noDictAll h'.2]; rfl
end
section
variable {X:Cx} {a b e:Expr} {es:List Expr} {te:ET} {pos:Pos}
def rData (K:PySem.W.Frag) (ok:D→D→Prop) (f:D→D→Bool):R2:=fun x y H Q=>∃ d1 d2,Rep K H d1 x∧Rep K H d2 y∧ok d1 d2∧Q (.bl (f d1 d2)) H
def fData (ok:D→D→Prop) (f:D→D→Bool) (x y:D) (Q:D→Prop):Prop:=ok x y∧Q (.bool (f x y))
theorem o_data {ok:D→D→Prop} {f:D→D→Bool}:Op2 X (rData X.K ok f) (fData ok f):=by
  intro H ps d1 d2 x y Q QV live r1 r2 h k
  exact ⟨d1,d2,r1.same mask_le,r2.same mask_le,h.1,k _ _ H (L2.Same.refl H) (.bool _) h.2⟩
def okEq (d1 d2:D):Prop:=d1.canLay0=true∧d2.canLay0=true∧min d1.depth d2.depth≤60
theorem op_eqD {k:Nat} (hr:Room k X.A):OpR X (compareOp .Eq) (rData X.K okEq PyData.eqv):=by
  intro pins s σ H x y v u Q I rx ry h
  obtain ⟨d1,d2,r1,r2,⟨c1,c2,hm⟩,q⟩:=h
  obtain ⟨as,h1⟩:=Rep.reads I (noDict c1) r1 rx
  obtain ⟨bs,h2⟩:=Rep.reads I (noDict c2) r2 ry
  exact SeqAt.compareEq_reads h1 h2 c1 c2 (by have:=hr.un; omega) ⟨.bl _,H,I,rfl,q⟩
theorem op_neD {k:Nat} (hr:Room k X.A):OpR X (compareOp .NotEq) (rData X.K okEq fun x y=>!PyData.eqv x y):=by
  intro pins s σ H x y v u Q I rx ry h
  obtain ⟨d1,d2,r1,r2,⟨c1,c2,hm⟩,q⟩:=h
  obtain ⟨as,h1⟩:=Rep.reads I (noDict c1) r1 rx
  obtain ⟨bs,h2⟩:=Rep.reads I (noDict c2) r2 ry
  exact SeqAt.compareNe_reads h1 h2 c1 c2 (by have:=hr.un; omega) ⟨.bl _,H,I,rfl,q⟩
def okIn (x y:D):Prop:=match y with
  | .list ts=>PyData.canLayAll0 ts=true∧x.canLay0=true∧min (PyData.depthAll ts) x.depth≤60
  | .tuple ts=>PyData.canLayAll0 ts=true∧x.canLay0=true∧min (PyData.depthAll ts) x.depth≤60
  | _=>False
def inD (x y:D):Bool:=match y with
  | .list ts=>ts.any fun z=>PyData.eqv z x
  | .tuple ts=>ts.any fun z=>PyData.eqv z x
  | _=>false
theorem op_inData {k:Nat} (hr:Room k X.A):OpR X (compareOp .In) (rData X.K okIn inD):=by
  intro pins s σ H x y v u Q I rx ry h
  obtain ⟨d1,d2,r1,r2,ho,q⟩:=h
  have hd:d1.hasDict=false∧d2.hasDict=false:=by
    cases d2 with
    | list ts=>exact ⟨noDict ho.2.1,noDictAll ho.1⟩
    | tuple ts=>exact ⟨noDict ho.2.1,noDictAll ho.1⟩
    | _=>exact ho.elim
  obtain ⟨as,h1⟩:=Rep.reads I hd.1 r1 rx
  obtain ⟨bs,h2⟩:=Rep.reads I hd.2 r2 ry
  cases d2 with
  | list ts=>exact SeqAt.in_list_reads h2 h1 ho.1 ho.2.1 (by have:=hr.un; have:=ho.2.2; omega) ⟨.bl _,H,I,rfl,q⟩
  | tuple ts=>exact SeqAt.in_tuple_reads h2 h1 ho.1 ho.2.1 (by have:=hr.un; have:=ho.2.2; omega) ⟨.bl _,H,I,rfl,q⟩
  | _=>exact ho.elim
theorem op_notInData {k:Nat} (hr:Room k X.A):OpR X (compareOp .NotIn) (rData X.K okIn fun x y=>!inD x y):=by
  intro pins s σ H x y v u Q I rx ry h
  obtain ⟨d1,d2,r1,r2,ho,q⟩:=h
  have hd:d1.hasDict=false∧d2.hasDict=false:=by
    cases d2 with
    | list ts=>exact ⟨noDict ho.2.1,noDictAll ho.1⟩
    | tuple ts=>exact ⟨noDict ho.2.1,noDictAll ho.1⟩
    | _=>exact ho.elim
  obtain ⟨as,h1⟩:=Rep.reads I hd.1 r1 rx
  obtain ⟨bs,h2⟩:=Rep.reads I hd.2 r2 ry
  cases d2 with
  | list ts=>exact SeqAt.notIn_list_reads h2 h1 ho.1 ho.2.1 (by have:=hr.un; have:=ho.2.2; omega) ⟨.bl _,H,I,rfl,q⟩
  | tuple ts=>exact SeqAt.notIn_tuple_reads h2 h1 ho.1 ho.2.1 (by have:=hr.un; have:=ho.2.2; omega) ⟨.bl _,H,I,rfl,q⟩
  | _=>exact ho.elim
def fIn2 (x y:D) (Q:D→Prop):Prop:=match x,y with
  | .str z,.str y=>Q (.bool (Txt.contains y z))
  | x,y=>okIn x y∧Q (.bool (inD x y))
theorem op_in2 {k:Nat} (hr:Room k X.A):OpR X (compareOp .In) (fun x y H Q=>(∃ i j,x=.str i∧y=.str j∧Q (.bl (!(Builtin.Str.occurrences j i 0 j.length 1).isEmpty)) H) ∨ rData X.K okIn inD x y H Q):=op_in_str.or (op_inData hr)
theorem o_in2:Op2 X (fun x y H Q=>(∃ i j,x=.str i∧y=.str j∧Q (.bl (!(Builtin.Str.occurrences j i 0 j.length 1).isEmpty)) H) ∨ rData X.K okIn inD x y H Q) fIn2:=by
  intro H ps d1 d2 x y Q QV live r1 r2 h k
  have gen:okIn d1 d2∧Q (.bool (inD d1 d2))→_:=fun h=>(.inr ⟨d1,d2,r1.same mask_le,r2.same mask_le,h.1,k _ _ H (L2.Same.refl H) (.bool _) h.2⟩:(∃ i j,x=.str i∧y=.str j∧QV (.bl (!(Builtin.Str.occurrences j i 0 j.length 1).isEmpty)) H) ∨ rData X.K okIn inD x y H QV)
  cases r1 with
  | str z =>
    cases r2 with
    | str w=>exact .inl ⟨z,w,rfl,rfl,k _ _ H (L2.Same.refl H) (.bool _) h⟩
    | _=>exact gen h
  | _=>exact gen h
def isNoneD:D→Bool
  | .none=>true
  | _=>false
def fIs (x y:D) (Q:D→Prop):Prop:=match y with | .bool b=>Q (.bool (isTrueD b x)) | .none=>Q (.bool (isNoneD x)) | _=>False
def fIsNot2 (x y:D) (Q:D→Prop):Prop:=match y with | .bool b=>Q (.bool (!isTrueD b x)) | .none=>Q (.bool (!isNoneD x)) | _=>False
theorem op_is2:OpR X (compareOp .Is) (fun x y H Q=>rIsB x y H Q ∨ (y=.non∧Q (.bl (decide (x=.non))) H)):=op_isB.or op_isN
theorem op_isNot2:OpR X (compareOp .IsNot) (fun x y H Q=>rIsNotB x y H Q ∨ (y=.non∧Q (.bl (!decide (x=.non))) H)):=op_isNotB.or op_notN
theorem o_is2:Op2 X (fun x y H Q=>rIsB x y H Q ∨ (y=.non∧Q (.bl (decide (x=.non))) H)) fIs:=by
  intro H ps d1 d2 x y Q QV live r1 r2 h k
  cases r2 with
  | bool b =>
    refine .inl ⟨b,rfl,?_⟩
    have e:(decide (x=V.bl b))=isTrueD b d1:=by cases r1 <;> simp [isTrueD]
    rw [e]
    exact k _ _ H (L2.Same.refl H) (.bool _) h
  | none =>
    refine .inr ⟨rfl,?_⟩
    have e:(decide (x=V.non))=isNoneD d1:=by cases r1 <;> simp [isNoneD]
    rw [e]
    exact k _ _ H (L2.Same.refl H) (.bool _) h
  | _=>exact h.elim
theorem o_isNot2:Op2 X (fun x y H Q=>rIsNotB x y H Q ∨ (y=.non∧Q (.bl (!decide (x=.non))) H)) fIsNot2:=by
  intro H ps d1 d2 x y Q QV live r1 r2 h k
  cases r2 with
  | bool b =>
    refine .inl ⟨b,rfl,?_⟩
    have e:(!decide (x=V.bl b))=!isTrueD b d1:=by cases r1 <;> simp [isTrueD]
    rw [e]
    exact k _ _ H (L2.Same.refl H) (.bool _) h
  | none =>
    refine .inr ⟨rfl,?_⟩
    have e:(!decide (x=V.non))=!isNoneD d1:=by cases r1 <;> simp [isNoneD]
    rw [e]
    exact k _ _ H (L2.Same.refl H) (.bool _) h
  | _=>exact h.elim
def gMax2 (x y:D) (Q:D→Prop):Prop:=match x,y with | .int i,.int j=>Q (.int (if j > i then j else i)) | _,_=>False
theorem c_max2:CallT X (fun xs H Q=>∃ i j,xs=[.int i,.int j]∧Q (.int (if j > i then j else i)) H) (f2 gMax2):=by
  intro H ps ds xs Q QV live rs hf k
  cases rs with
  | nil=>exact hf.elim
  | cons r1 r2 =>
    cases r2 with
    | nil=>exact hf.elim
    | cons r3 r4 =>
      cases r4 with
      | cons _ _=>exact hf.elim
      | nil =>
        cases r1 with
        | int i =>
          cases r3 with
          | int j=>exact ⟨i,j,rfl,k _ _ H (L2.Same.refl H) (.int _) hf⟩
          | _=>exact hf.elim
        | _=>exact hf.elim
end
end TL

set_option Elab.async false
set_option linter.all false
set_option maxRecDepth 100000
namespace L2
open PySem PySem.Spec PyProof.Rows
section
variable {P:Program} {w:World} {A:Around} {E:Value→Shared→Prop} {s:Shared}
theorem nextOf_tup {i t:Addr} {k:Nat} {xs:Array Value} {x:Value} {Q:Value→Shared→Prop} (hit:s.heap.IsTupleIter i t k) (ht:s.heap.IsTuple t xs) (hx:xs[k]?=some x)
    (hQ:∀ h',h'.IsTupleIter i t (k + 1)→Heap.SameBut i s.heap h'→Q x { s with heap:=h' }):wpAny (model P w) A (Builtin.SmallTypes.nextOf (.ref i)) Q E s:=by
  obtain ⟨o,ho,hc,hd⟩:=id hit
  obtain ⟨ol,hol,_,nl,hdl⟩:=ht
  unfold Builtin.SmallTypes.nextOf
  refine wpAny_bind (wpAny_callSpecial?_slot (name:=Str.ofString "__next__") hit.typeIs F.slot_tuple_iterator_next (wpAny_call_entry F.slot_tuple_iterator_next hit.typeIs F.entry_tuple_iterator_next ?_ (F.args_tuple_iterator_next_1 _)))
  show wpAny _ _ (field (.ref i) 0 >>= _) _ _ s
  refine wpAny_bind (wpAny_field ho hd (x:=.ref t) rfl ?_)
  show wpAny _ _ (if (Value.ref t == Value.none)=true then _ else _) _ _ s
  rw [if_neg (show ¬ ((Value.ref t == Value.none)=true) from Bool.false_ne_true)]
  show wpAny _ _ (field (.ref i) 1 >>= _) _ _ s
  refine wpAny_bind (wpAny_field ho hd (x:=.int k 0) rfl ?_)
  show wpAny _ _ (seqItems? (.ref t) >>= _) _ _ s
  refine wpAny_bind (wpAny_seqItems hol hdl ?_)
  simp only [Int.toNat_natCast,hx]
  refine wpAny_bind (wpAny_setField ho hd (by simp) (wpAny_pure ⟨x,rfl,wpAny_pure (hQ _ ?_ (Heap.SameBut.update ..))⟩))
  exact ⟨_,Heap.get?_update_self _ ho (Obj.isFreed_of_fields (Obj.data_mapFields hd _)),(Obj.cls_mapFields ..).trans hc,by rw [Obj.data_mapFields hd]; simp [rawInt]⟩
theorem nextOf_tup_end {i t:Addr} {k:Nat} {xs:Array Value} {Q:Value→Shared→Prop} (hh:A.handled=none) (hit:s.heap.IsTupleIter i t k) (ht:s.heap.IsTuple t xs) (hx:xs[k]?=none)
    (hE:∀ h' e,Heap.ExtBut i s.heap h'→(∃ o,h'.get? e=some o∧o.cls=.type "StopIteration")→E (.ref e) { s with heap:=h' }):wpAny (model P w) A (Builtin.SmallTypes.nextOf (.ref i)) Q E s:=by
  obtain ⟨o,ho,hc,hd⟩:=id hit
  obtain ⟨ol,hol,_,nl,hdl⟩:=ht
  unfold Builtin.SmallTypes.nextOf
  refine wpAny_bind (wpAny_callSpecial?_slot (name:=Str.ofString "__next__") hit.typeIs F.slot_tuple_iterator_next (wpAny_call_entry F.slot_tuple_iterator_next hit.typeIs F.entry_tuple_iterator_next ?_ (F.args_tuple_iterator_next_1 _)))
  show wpAny _ _ (field (.ref i) 0 >>= _) _ _ s
  refine wpAny_bind (wpAny_field ho hd (x:=.ref t) rfl ?_)
  show wpAny _ _ (if (Value.ref t == Value.none)=true then _ else _) _ _ s
  rw [if_neg (show ¬ ((Value.ref t == Value.none)=true) from Bool.false_ne_true)]
  show wpAny _ _ (field (.ref i) 1 >>= _) _ _ s
  refine wpAny_bind (wpAny_field ho hd (x:=.int k 0) rfl ?_)
  show wpAny _ _ (seqItems? (.ref t) >>= _) _ _ s
  refine wpAny_bind (wpAny_seqItems hol hdl ?_)
  simp only [Int.toNat_natCast,hx]
  refine wpAny_bind (wpAny_rule (wpAny_bind (wpAny_setField ho hd (by simp) ?_)))
  show wpAny _ _ (newExc (.type "StopIteration") [] >>= _) _ _ _
  refine wpAny_bind ?_
  simp only [newExc,newTuple]
  refine wpAny_bind (wpAny_newObj_type ?_ (by size_fits))
  refine wpAny_bind (m:=firstArgMember _ _) (wpAny_of_eq (a:=Value.none) (by first | rfl | (simp only [firstArgMember]; rfl)) ?_)
  refine wpAny_newObj_type ?_ (by size_fits)
  simp only [raiseNew]
  refine wpAny_bind (wpAny_handled ?_)
  first | rw [show A.in1.handled=none from hh] | rw [hh]
  refine wpAny_bind (wpAny_pure (wpAny_throw ?_))
  exact hE _ _ (((Heap.SameBut.update ..).extBut.push _).push _) ⟨_,Heap.get?_push_size _ rfl,rfl⟩
end
structure Drawn2 (P:Program) (w:World) (i l:Addr) (st:Nat→Heap→Prop) (src:Array Value→Heap→Prop):Prop where
  stAt:∀ k h h',st k h→(∀ o,h.get? i=some o→h'.get? i=some o)→st k h'
  srcAt:∀ xs h h',src xs h→(∀ o,h.get? l=some o→h'.get? l=some o)→src xs h'
  has:∀ k h,st k h→∃ o,h.get? i=some o∧∀ v,o.data ≠ .cell v
  item:∀ (A:Around) (E:Value→Shared→Prop) (s:Shared) (k:Nat) (xs:Array Value) (x:Value) (Q:Value→Shared→Prop),st k s.heap→src xs s.heap→xs[k]?=some x →
    (∀ h',st (k + 1) h'→Heap.SameBut i s.heap h'→Q x { s with heap:=h' })→wpAny (model P w) A (Builtin.SmallTypes.nextOf (.ref i)) Q E s
  fin:∀ (A:Around) (E:Value→Shared→Prop) (s:Shared) (k:Nat) (xs:Array Value) (Q:Value→Shared→Prop),A.handled=none→st k s.heap→src xs s.heap→xs[k]?=none →
    (∀ h' e,Heap.ExtBut i s.heap h'→(∃ o,h'.get? e=some o∧o.cls=.type "StopIteration")→E (.ref e) { s with heap:=h' })→wpAny (model P w) A (Builtin.SmallTypes.nextOf (.ref i)) Q E s
theorem drawn_tup {P:Program} {w:World} (i l:Addr):Drawn2 P w i l (fun k h=>h.IsTupleIter i l k) (fun xs h=>h.IsTuple l xs) where
  stAt:=fun _ _ _ x e=>x.at e
  srcAt:=fun _ _ _ x e=>x.at e
  has:=fun k h x=>by obtain ⟨o,e,c,d⟩:=x; exact ⟨o,e,fun v q=>by rw [d] at q; cases q⟩
  item:=fun _ _ _ _ _ _ _ h1 h2 hx hQ=>nextOf_tup h1 h2 hx hQ
  fin:=fun _ _ _ _ _ _ hh h1 h2 hx hE=>nextOf_tup_end hh h1 h2 hx hE
section
variable {P:Program} {w:World} {A:Around} {E:Value→Shared→Prop} {s:Shared} {z TI TO i1 i2 l1 l2:Addr} {st1 st2:Nat→Heap→Prop} {src1 src2:Array Value→Heap→Prop} {k:Nat} {xs ys:Array Value} {a b:Value}
theorem zip_draw {x y:Value} {Q:Value→Shared→Prop} (d1:Drawn2 P w i1 l1 st1 src1) (d2:Drawn2 P w i2 l2 st2 src2) (D:ZipApart z TI TO i1 i2 l1 l2) (hz:IsZip s.heap z TI TO .none) (hTI:IsPair s.heap TI (.ref i1) (.ref i2)) (hTO:IsPair s.heap TO a b)
    (h1:st1 k s.heap) (h2:st2 k s.heap) (hl1:src1 xs s.heap) (hl2:src2 ys s.heap) (hx:xs[k]?=some x) (hy:ys[k]?=some y)
    (hQ:∀ h',IsZip h' z TI TO (rawInt s.heap.objs.size)→IsPair h' TO x y→st1 (k + 1) h'→st2 (k + 1) h'→IsPair h' s.heap.objs.size x y→h'.objs.size=s.heap.objs.size + 1 →
      (∀ c o,c ≠ z→c ≠ TO→c ≠ i1→c ≠ i2→s.heap.get? c=some o→h'.get? c=some o)→Q (.ref s.heap.objs.size) { s with heap:=h' }) :
    wpAny (model P w) A (Builtin.«zip.__next__» ⟨[.ref z],[]⟩) (fun fin s'=>∃ v,fin=.done (.ret v)∧Q v s') E s:=by
  show wpAny _ _ (field (.ref z) 2 >>= _) _ _ _
  refine wpAny_bind (wpAny_field hz rfl (x:=.bool false) rfl ?_)
  show wpAny _ _ (field (.ref z) 3 >>= _) _ _ _
  refine wpAny_bind (wpAny_field hz rfl (x:=.ref TI) rfl ?_)
  refine wpAny_bind (wpAny_seqItems hTI rfl ?_)
  show wpAny _ _ (Builtin.SmallTypes.ownedTupleIsFree (.ref z) >>= _) _ _ _
  refine wpAny_bind ?_
  unfold Builtin.SmallTypes.ownedTupleIsFree
  refine wpAny_bind (wpAny_field hz rfl (x:=.none) rfl (wpAny_pure ?_))
  simp only [if_true]
  refine wpAny_bind (wpAny_rule ?_)
  refine wpAny_bind (wpAny_field hz rfl (x:=.ref TO) rfl ?_)
  refine wpAny_bind (wpAny_setField_rec hz (by simp) fun ha hza sa=>?_)
  replace hza:IsZip ha z TI TO .ellipsis:=hza
  refine wpAny_bind ?_
  simp only [List.zipIdx_cons,List.zipIdx_nil,List.forIn_cons,List.forIn_nil]
  refine wpAny_bind (wpAny_bind (wpAny_onRaise ?_))
  show wpAny _ _ (Builtin.SmallTypes.nextOf (.ref i1) >>= _) _ _ _
  refine wpAny_bind (d1.item _ _ _ k xs x _ (d1.stAt _ _ _ h1 fun o e=>sa.extBut _ _ D.i1z e) (d1.srcAt _ _ _ hl1 fun o e=>sa.extBut _ _ D.l1z e) hx fun hb h1b sb=>wpAny_pure ?_)
  have tob:IsPair hb TO a b:=sb.extBut _ _ D.TOi1 (sa.extBut _ _ D.TOz hTO)
  refine wpAny_bind (wpAny_seqItems tob rfl ?_)
  refine wpAny_bind (wpAny_updateSeq_pair tob fun hc toc sc=>?_)
  replace toc:IsPair hc TO x b:=toc
  refine wpAny_bind (wpAny_letGo (wpAny_pure ?_))
  refine wpAny_bind (wpAny_bind (wpAny_onRaise ?_))
  show wpAny _ _ (Builtin.SmallTypes.nextOf (.ref i2) >>= _) _ _ _
  refine wpAny_bind (d2.item _ _ _ k ys y _ (d2.stAt _ _ _ h2 fun o e=>sc.extBut _ _ D.TOi2.symm (sb.extBut _ _ D.i12.symm (sa.extBut _ _ D.i2z e)))
    (d2.srcAt _ _ _ hl2 fun o e=>sc.extBut _ _ D.l2TO (sb.extBut _ _ D.l2i1 (sa.extBut _ _ D.l2z e))) hy fun hd h2d sd=>wpAny_pure ?_)
  have tod:IsPair hd TO x b:=sd.extBut _ _ D.TOi2 toc
  refine wpAny_bind (wpAny_seqItems tod rfl ?_)
  refine wpAny_bind (wpAny_updateSeq_pair tod fun he toe se=>?_)
  replace toe:IsPair he TO x y:=toe
  refine wpAny_bind (wpAny_letGo (wpAny_pure (wpAny_pure ?_)))
  refine wpAny_bind (wpAny_seqItems toe rfl ?_)
  refine wpAny_bind (wpAny_newTuple ?_)
  have hsz:he.objs.size=s.heap.objs.size:=by rw [se.1,sd.1,sc.1,sb.1,sa.1]
  have hze:IsZip he z TI TO .ellipsis:=se.extBut _ _ D.TOz.symm (sd.extBut _ _ D.i2z.symm (sc.extBut _ _ D.TOz.symm (sb.extBut _ _ D.i1z.symm hza)))
  have ke:∀ c o,c ≠ z→c ≠ TO→c ≠ i1→c ≠ i2→s.heap.get? c=some o→he.get? c=some o:=fun c o c1 c2 c3 c4 e =>
    se.extBut _ _ c2 (sd.extBut _ _ c4 (sc.extBut _ _ c2 (sb.extBut _ _ c3 (sa.extBut _ _ c1 e))))
  have h1e:st1 (k + 1) he:=d1.stAt _ _ _ h1b fun o e=>se.extBut _ _ D.TOi1.symm (sd.extBut _ _ D.i12 (sc.extBut _ _ D.TOi1.symm e))
  have h2e:st2 (k + 1) he:=d2.stAt _ _ _ h2d fun o e=>se.extBut _ _ D.TOi2.symm e
  have hzlt:z < he.objs.size:=Heap.lt_size hze
  show wpAny _ _ (Builtin.SmallTypes.ownedTupleHandOut (.ref z) (.ref he.objs.size) >>= _) _ _ _
  refine wpAny_bind ?_
  unfold Builtin.SmallTypes.ownedTupleHandOut
  have hzf:IsZip (he.push { cls:=.type "tuple",data:=.seq #[x,y] }) z TI TO .ellipsis:=Heap.get?_push_of_some _ hze
  refine wpAny_bind (wpAny_setField_rec hzf (by simp) fun hg hzg sg=>?_)
  replace hzg:IsZip hg z TI TO (rawInt he.objs.size):=hzg
  refine wpAny_setField_rec hzg (by simp) fun hi hzi si=>?_
  replace hzi:IsZip hi z TI TO (rawInt he.objs.size):=hzi
  have up:∀ c o,c ≠ z→he.get? c=some o→hi.get? c=some o:=fun c o c1 e=>si.extBut _ _ c1 (sg.extBut _ _ c1 (Heap.get?_push_of_some _ e))
  have hT:IsPair hi he.objs.size x y:=si.extBut _ _ (Nat.ne_of_gt hzlt) (sg.extBut _ _ (Nat.ne_of_gt hzlt) (Heap.get?_push_size _ rfl))
  have hz8:hi.objs.size=he.objs.size + 1:=by rw [si.1,sg.1,Heap.size_push]
  rw [hsz] at hzi hT hz8
  refine wpAny_pure ⟨_,rfl,?_⟩
  show Q (.ref he.objs.size) _
  rw [hsz]
  exact hQ hi hzi (up _ _ D.TOz toe) (d1.stAt _ _ _ h1e fun o e=>up _ o D.i1z e) (d2.stAt _ _ _ h2e fun o e=>up _ o D.i2z e) hT hz8 fun c o c1 c2 c3 c4 e=>up c o c1 (ke c o c1 c2 c3 c4 e)
theorem zip_over {Q:Fin→Shared→Prop} (hh:A.handled=none) (d1:Drawn2 P w i1 l1 st1 src1) (d2:Drawn2 P w i2 l2 st2 src2) (D:ZipApart z TI TO i1 i2 l1 l2) (hz:IsZip s.heap z TI TO .none) (hTI:IsPair s.heap TI (.ref i1) (.ref i2)) (hTO:IsPair s.heap TO a b)
    (h1:st1 k s.heap) (h2:st2 k s.heap) (hl1:src1 xs s.heap) (hl2:src2 ys s.heap) (hend:xs[k]?=none ∨ ys[k]?=none)
    (hE:∀ h' e,(∀ c o,c ≠ z→c ≠ TO→c ≠ i1→c ≠ i2→s.heap.get? c=some o→h'.get? c=some o)→(∃ o,h'.get? e=some o∧o.cls=.type "StopIteration")→E (.ref e) { s with heap:=h' }) :
    wpAny (model P w) A (Builtin.«zip.__next__» ⟨[.ref z],[]⟩) Q E s:=by
  show wpAny _ _ (field (.ref z) 2 >>= _) _ _ _
  refine wpAny_bind (wpAny_field hz rfl (x:=.bool false) rfl ?_)
  show wpAny _ _ (field (.ref z) 3 >>= _) _ _ _
  refine wpAny_bind (wpAny_field hz rfl (x:=.ref TI) rfl ?_)
  refine wpAny_bind (wpAny_seqItems hTI rfl ?_)
  show wpAny _ _ (Builtin.SmallTypes.ownedTupleIsFree (.ref z) >>= _) _ _ _
  refine wpAny_bind ?_
  unfold Builtin.SmallTypes.ownedTupleIsFree
  refine wpAny_bind (wpAny_field hz rfl (x:=.none) rfl (wpAny_pure ?_))
  simp only [if_true]
  refine wpAny_bind (wpAny_rule ?_)
  refine wpAny_bind (wpAny_field hz rfl (x:=.ref TO) rfl ?_)
  refine wpAny_bind (wpAny_setField_rec hz (by simp) fun ha hza sa=>?_)
  replace hza:IsZip ha z TI TO .ellipsis:=hza
  refine wpAny_bind ?_
  simp only [List.zipIdx_cons,List.zipIdx_nil,List.forIn_cons,List.forIn_nil]
  refine wpAny_bind (wpAny_bind (wpAny_onRaise ?_))
  show wpAny _ _ (Builtin.SmallTypes.nextOf (.ref i1) >>= _) _ _ _
  have g1:st1 k ha:=d1.stAt _ _ _ h1 fun o e=>sa.extBut _ _ D.i1z e
  have q1:src1 xs ha:=d1.srcAt _ _ _ hl1 fun o e=>sa.extBut _ _ D.l1z e
  cases hx:xs[k]? with
  | none =>
    refine wpAny_bind (d1.fin _ _ _ k xs _ hh g1 q1 hx fun hb e sb he=>?_)
    obtain ⟨oe,hoe,hce⟩:=he
    have hzb:IsZip hb z TI TO .ellipsis:=sb _ _ D.i1z.symm hza
    have hez:e ≠ z:=fun x=>by subst x; rw [hzb] at hoe; cases hoe; simp at hce
    refine wpAny_setField_rec hzb (by simp) fun hc _ sc=>hE hc e (fun c o c1 _ c3 _ x=>sc.extBut _ _ c1 (sb _ _ c3 (sa.extBut _ _ c1 x))) ⟨oe,sc.extBut _ _ hez hoe,hce⟩
  | some x =>
    have hy:ys[k]?=none:=by rcases hend with h | h; rw [hx] at h; cases h; exact h
    refine wpAny_bind (d1.item _ _ _ k xs x _ g1 q1 hx fun hb h1b sb=>wpAny_pure ?_)
    have tob:IsPair hb TO a b:=sb.extBut _ _ D.TOi1 (sa.extBut _ _ D.TOz hTO)
    refine wpAny_bind (wpAny_seqItems tob rfl ?_)
    refine wpAny_bind (wpAny_updateSeq_pair tob fun hc toc sc=>?_)
    refine wpAny_bind (wpAny_letGo (wpAny_pure ?_))
    refine wpAny_bind (wpAny_bind (wpAny_onRaise ?_))
    show wpAny _ _ (Builtin.SmallTypes.nextOf (.ref i2) >>= _) _ _ _
    refine wpAny_bind (d2.fin _ _ _ k ys _ hh (d2.stAt _ _ _ h2 fun o e=>sc.extBut _ _ D.TOi2.symm (sb.extBut _ _ D.i12.symm (sa.extBut _ _ D.i2z e)))
      (d2.srcAt _ _ _ hl2 fun o e=>sc.extBut _ _ D.l2TO (sb.extBut _ _ D.l2i1 (sa.extBut _ _ D.l2z e))) hy fun hd e sd he=>?_)
    obtain ⟨oe,hoe,hce⟩:=he
    have hzd:IsZip hd z TI TO .ellipsis:=sd _ _ D.i2z.symm (sc.extBut _ _ D.TOz.symm (sb.extBut _ _ D.i1z.symm hza))
    have hez:e ≠ z:=fun x=>by subst x; rw [hzd] at hoe; cases hoe; simp at hce
    refine wpAny_setField_rec hzd (by simp) fun hf _ sf=>hE hf e (fun c o c1 c2 c3 c4 x=>sf.extBut _ _ c1 (sd _ _ c4 (sc.extBut _ _ c2 (sb.extBut _ _ c3 (sa.extBut _ _ c1 x))))) ⟨oe,sf.extBut _ _ hez hoe,hce⟩
theorem zip_item {x y:Value} {Q:Option Value→Shared→Prop} (d1:Drawn2 P w i1 l1 st1 src1) (d2:Drawn2 P w i2 l2 st2 src2) (D:ZipApart z TI TO i1 i2 l1 l2) (hz:IsZip s.heap z TI TO .none) (hTI:IsPair s.heap TI (.ref i1) (.ref i2)) (hTO:IsPair s.heap TO a b)
    (h1:st1 k s.heap) (h2:st2 k s.heap) (hl1:src1 xs s.heap) (hl2:src2 ys s.heap) (hx:xs[k]?=some x) (hy:ys[k]?=some y)
    (hQ:∀ h',IsZip h' z TI TO (rawInt s.heap.objs.size)→IsPair h' TO x y→st1 (k + 1) h'→st2 (k + 1) h'→IsPair h' s.heap.objs.size x y→h'.objs.size=s.heap.objs.size + 1 →
      (∀ c o,c ≠ z→c ≠ TO→c ≠ i1→c ≠ i2→s.heap.get? c=some o→h'.get? c=some o)→Q (some (.ref s.heap.objs.size)) { s with heap:=h' }):wpAny (model P w) A (pyNext (.ref z)) Q E s:=by
  have hT:s.TypeIs (.ref z) "zip":=⟨_,hz,rfl⟩
  unfold pyNext
  exact wpAny_bind (wpAny_attempt (wpAny_callSpecial?_slot (name:=Str.ofString "__next__") hT F.slot_zip_next (wpAny_call_entry F.slot_zip_next hT F.entry_zip_next
    (zip_draw d1 d2 D hz hTI hTO h1 h2 hl1 hl2 hx hy fun h' a1 a2 a3 a4 a5 a6 a7=>wpAny_pure (hQ h' a1 a2 a3 a4 a5 a6 a7)) (F.args_zip_next_1 _))))
theorem zip_end {Q:Option Value→Shared→Prop} (hh:A.handled=none) (d1:Drawn2 P w i1 l1 st1 src1) (d2:Drawn2 P w i2 l2 st2 src2) (D:ZipApart z TI TO i1 i2 l1 l2) (hz:IsZip s.heap z TI TO .none) (hTI:IsPair s.heap TI (.ref i1) (.ref i2)) (hTO:IsPair s.heap TO a b)
    (h1:st1 k s.heap) (h2:st2 k s.heap) (hl1:src1 xs s.heap) (hl2:src2 ys s.heap) (hend:xs[k]?=none ∨ ys[k]?=none)
    (hQ:∀ h',(∀ c o,c ≠ z→c ≠ TO→c ≠ i1→c ≠ i2→s.heap.get? c=some o→h'.get? c=some o)→Q none { s with heap:=h' }):wpAny (model P w) A (pyNext (.ref z)) Q E s:=by
  have hT:s.TypeIs (.ref z) "zip":=⟨_,hz,rfl⟩
  unfold pyNext
  refine wpAny_bind (wpAny_attempt (wpAny_callSpecial?_slot (name:=Str.ofString "__next__") hT F.slot_zip_next (wpAny_call_entry F.slot_zip_next hT F.entry_zip_next (zip_over hh d1 d2 D hz hTI hTO h1 h2 hl1 hl2 hend fun h' e hk he=>?_) (F.args_zip_next_1 _))))
  obtain ⟨o,ho,hc⟩:=he
  refine wpAny_bind (wpAny_isInstance (T:="StopIteration") (b:=true) ⟨o,ho,hc⟩ isSubtype_stop ?_)
  exact wpAny_pure (hQ _ hk)
end
section
variable {X:Cx} {pins:List (Addr × Obj)} {σ:St} {H:Hp} {s:Shared} {h':Heap}
theorem Inv.turnedL {t':Nat} {ch:List Addr} (I:Inv X pins σ H s) (hf:∀ b ∈ ch,FpOk X pins H b) (k:∀ b o,b ∉ ch→s.heap.get? b=some o→h'.get? b=some o):Inv X pins σ H { s with heap:=h',toks:=t' }:=by
  have nit:∀ b u,H b=some u→b ∉ ch:=fun b u e z=>by rw [(hf b z).1] at e; cases e
  have hL:X.env.locals ∉ ch:=fun z=>(hf _ z).2.1 rfl
  refine I.step (g':=s.gens) (d':=s.drawn) (ch:=ch) (fun b hb=>?_) (fun b o _ _ hc e _=>k b o hc e) (fun b o _ _ hc e _=>⟨o.slots,k b o hc e⟩) (fun _ _ _ _ n=>n)
    (fun b o hc e=>⟨o,k b o hc e⟩) (fun _ _ e=>e) (fun _ _ _ e=>e) (fun b ps e=>⟨#[],by rw [e]; simp⟩) (fun m hm=>?_) (fun b u e=>?_) I.bare
  · obtain ⟨f0,f1,f2,f3,f4,f5⟩:=hf b hb
    exact ⟨f3,f1,f4,f5⟩
  · obtain ⟨o,es,ep,ho,r⟩:=hm
    exact ⟨o,es,ep,k _ o hL ho,r⟩
  · refine (I.hok b u e).stay (fun c v hc q=>k c v ?_ q) (fun _ q=>q) fun _ _ q=>q
    rcases hc with z | z
    · rw [z]; exact nit b u e
    · exact nit c _ z
theorem Inv.turnedNew {t':Nat} {ch:List Addr} {T:Addr} {o:HO} (I:Inv X pins σ H s) (hf:∀ b ∈ ch,FpOk X pins H b) (k:∀ b u,b ∉ ch→s.heap.get? b=some u→h'.get? b=some u) (hp:s.heap.objs.size≤T) (new:ObjOk X.prog X.w (upd H T o) h' T o) :
    Inv X pins σ (upd H T o) { s with heap:=h',toks:=t' }:=by
  have nit:∀ b u,H b=some u→b ∉ ch:=fun b u e z=>by rw [(hf b z).1] at e; cases e
  have hL:X.env.locals ∉ ch:=fun z=>(hf _ z).2.1 rfl
  have hn:H T=none:=I.hok.fresh hp
  have ne:∀ b u,H b=some u→(upd H T o) b=some u:=fun b u e=>by rw [upd_ne (ne_of_none e hn)]; exact e
  have ne2:∀ b u,s.heap.get? b=some u→b ≠ T:=fun b u e z=>by
    exact absurd (Nat.lt_of_lt_of_le (Heap.lt_size e) hp) (by rw [z]; exact Nat.lt_irrefl _)
  refine I.step (g':=s.gens) (d':=s.drawn) (ch:=ch) (fun b hb=>?_) (fun b o _ _ hc e _=>k b o hc e) (fun b o _ _ hc e _=>⟨o.slots,k b o hc e⟩) (fun b u _ e n=>by rw [upd_ne (ne2 b u e)]; exact n)
    (fun b o hc e=>⟨o,k b o hc e⟩) (fun b xs e=>ne _ _ e) (fun b u v e=>ne _ _ e) (fun b ps e=>⟨#[],by rw [ne _ _ e]; simp⟩) (fun m hm=>?_) (fun b u e=>?_) I.bare
  · obtain ⟨f0,f1,f2,f3,f4,f5⟩:=hf b hb
    exact ⟨f3,f1,f4,f5⟩
  · obtain ⟨o,es,ep,ho,r⟩:=hm
    exact ⟨o,es,ep,k _ o hL ho,r⟩
  · by_cases hb:b=T
    · subst hb; rw [upd_same] at e; cases e; exact new
    · rw [upd_ne hb] at e
      refine (I.hok b u e).stay (fun c v hc q=>k c v ?_ q) (fun c q=>ne _ _ q) fun c xs q=>ne _ _ q
      rcases hc with z | z
      · rw [z]; exact nit b u e
      · exact nit c _ z
end
def Itz (S1 S2:Hp→List V→Prop):It :=
  ⟨fun i H=>∃ xs ys x y,S1 H xs∧S2 H ys∧xs[i]?=some x∧ys[i]?=some y,
   fun i H v H'=>∃ p x y,H p=none∧v=.ref p∧H'=upd H p (.tup [x,y])∧(∀ xs,S1 H xs→xs[i]?=some x)∧∀ ys,S2 H ys→ys[i]?=some y,
   fun i H=>∃ xs ys,S1 H xs∧S2 H ys∧(xs.length≤i ∨ ys.length≤i)⟩
structure Src (P:Program) (w:World) (K:PySem.W.Frag) (S:Hp→List V→Prop) (src:Array Value→Heap→Prop):Prop where
  vals:∀ (X:Cx),X.prog=P→X.w=w→X.K=K→∀ {pins:List (Addr × Obj)} {σ:St} {H:Hp} {s:Shared} {xs:List V},Inv X pins σ H s→S H xs→∃ its:List Value,Vals xs its∧src its.toArray s.heap
  inj:∀ (X:Cx),X.prog=P→X.w=w→X.K=K→∀ {pins:List (Addr × Obj)} {σ:St} {H:Hp} {s:Shared} {xs ys:List V},Inv X pins σ H s→S H xs→S H ys→xs=ys
theorem src_tup {P:Program} {w:World} {K:PySem.W.Frag} (a:Addr):Src P w K (fun H xs=>SqT K H a xs) (fun its h=>h.IsTuple a its) where
  vals:=fun X hP hw hK _ _ _ _ _ I h=>by subst hK; obtain ⟨its,r,p,_⟩:=I.tuple h; exact ⟨its,r,p⟩
  inj:=fun X hP hw hK _ _ _ _ _ _ I h h'=>by subst hK; exact I.tuple_inj h h'
theorem turn_zip {P:Program} {w:World} {K:PySem.W.Frag} {elts:List Expr} {x1:Nat} {pos:Pos} {z TI TO i1 i2 l1 l2:Addr} {st1 st2:Nat→Heap→Prop} {src1 src2:Array Value→Heap→Prop} {S1 S2:Hp→List V→Prop}
    (d1:Drawn2 P w i1 l1 st1 src1) (d2:Drawn2 P w i2 l2 st2 src2) (e1:Src P w K S1 src1) (e2:Src P w K S2 src2) (D:ZipApart z TI TO i1 i2 l1 l2) :
    Turn P w K (.Tuple elts x1 pos) (Itz S1 S2) [z,TI,TO,i1,i2] z (fun i h=>IsZip h z TI TO .none∧IsPair h TI (.ref i1) (.ref i2)∧(∃ a b,IsPair h TO a b)∧st1 i h∧st2 i h) where
  mem:=by simp
  obj:=fun i h st b hb=>by
    obtain ⟨hz,hTI,⟨a,c,hTO⟩,h1,h2⟩:=st
    simp only [List.mem_cons,List.not_mem_nil,or_false] at hb
    rcases hb with rfl | rfl | rfl | rfl | rfl
    · exact ⟨_,hz,fun v q=>by cases q⟩
    · exact ⟨_,hTI,fun v q=>by cases q⟩
    · exact ⟨_,hTO,fun v q=>by cases q⟩
    · exact d1.has i h h1
    · exact d2.has i h h2
  keep:=fun i h h' st k=>by
    obtain ⟨hz,hTI,⟨a,b,hTO⟩,h1,h2⟩:=st
    exact ⟨k z (by simp) _ hz,k TI (by simp) _ hTI,⟨a,b,k TO (by simp) _ hTO⟩,d1.stAt _ _ _ h1 fun o e=>k i1 (by simp) o e,d2.stAt _ _ _ h2 fun o e=>k i2 (by simp) o e⟩
  item:=by
    intro X hP hw hK hc i pins s σ H E I hf st hg
    obtain ⟨hz,hTI,⟨a,b,hTO⟩,h1,h2⟩:=st
    obtain ⟨xs,ys,x,y,s1,s2,hx,hy⟩:=hg
    obtain ⟨us,r1,q1⟩:=e1.vals X hP hw hK I s1
    obtain ⟨vs,r2,q2⟩:=e2.vals X hP hw hK I s2
    obtain ⟨u,hu,ru⟩:=r1.get hx
    obtain ⟨v,hv,rv⟩:=r2.get hy
    refine zip_item d1 d2 D hz hTI hTO h1 h2 q1 q2 (x:=u) (y:=v) (by simpa using hu) (by simpa using hv) fun h' a1 a2 a3 a4 a5 a6 a7=>⟨_,rfl,?_⟩
    refine wpAny_letOwnedTupleGo_zip (s:={ s with heap:=h' }) a1 fun h2' hz2 sb=>?_
    have hzlt:=Heap.lt_size hz
    have neT:∀ c o,s.heap.get? c=some o→c ≠ s.heap.objs.size:=fun c o e=>Nat.ne_of_lt (Heap.lt_size e)
    have kk:∀ c o,c ∉ [z,TI,TO,i1,i2]→s.heap.get? c=some o→h2'.get? c=some o:=fun c o hc' e=>by
      simp only [List.mem_cons,List.not_mem_nil,or_false,not_or] at hc'
      exact sb.extBut _ _ hc'.1 (a7 c o hc'.1 hc'.2.2.1 hc'.2.2.2.1 hc'.2.2.2.2 e)
    have hT:IsPair h2' s.heap.objs.size u v:=sb.extBut _ _ (Nat.ne_of_gt hzlt) a5
    have I1:Inv X pins σ (upd H s.heap.objs.size (.tup [x,y])) { s with heap:=h2' }:=I.turnedNew (t':=s.toks) hf kk (Nat.le_refl _) ⟨(by show 2≤sizeLine; decide),[u,v],.cons ru (.cons rv .nil),⟨_,hT,rfl,_,rfl,rfl⟩⟩
    refine ⟨.ref s.heap.objs.size,_,I1,rfl,⟨_,x,y,I.hok.fresh (Nat.le_refl _),rfl,rfl,fun xs' h'=>by rw [e1.inj X hP hw hK I h' s1]; exact hx,fun ys' h'=>by rw [e2.inj X hP hw hK I h' s2]; exact hy⟩,?_,fun c hc'=>?_⟩
    · exact ⟨hz2,sb.extBut _ _ D.TIz (a7 _ _ D.TIz D.TITO D.TIi1 D.TIi2 hTI),⟨_,_,sb.extBut _ _ D.TOz a2⟩,d1.stAt _ _ _ a3 fun o e=>sb.extBut _ _ D.i1z e,d2.stAt _ _ _ a4 fun o e=>sb.extBut _ _ D.i2z e⟩
    · have hne:c ≠ s.heap.objs.size:=by
        simp only [List.mem_cons,List.not_mem_nil,or_false] at hc'
        rcases hc' with rfl | rfl | rfl | rfl | rfl
        · exact neT _ _ hz
        · exact neT _ _ hTI
        · exact neT _ _ hTO
        · obtain ⟨o,e,_⟩:=d1.has _ _ h1; exact neT _ _ e
        · obtain ⟨o,e,_⟩:=d2.has _ _ h2; exact neT _ _ e
      rw [upd_ne hne]
      exact (hf c hc').1
  done:=by
    intro X hP hw hK hc i pins s σ H E I hf st hg
    obtain ⟨hz,hTI,⟨a,b,hTO⟩,h1,h2⟩:=st
    obtain ⟨xs,ys,s1,s2,hle⟩:=hg
    obtain ⟨us,r1,q1⟩:=e1.vals X hP hw hK I s1
    obtain ⟨vs,r2,q2⟩:=e2.vals X hP hw hK I s2
    have n1:=r1.length
    have n2:=r2.length
    refine zip_end (I.ok.hd hc) d1 d2 D hz hTI hTO h1 h2 q1 q2 ?_ fun h' a7=>⟨rfl,I.turnedL (t':=s.toks) hf fun c o hc' e=>?_⟩
    · rcases hle with q | q
      · exact .inl (Array.getElem?_eq_none (by rw [List.size_toArray]; omega))
      · exact .inr (Array.getElem?_eq_none (by rw [List.size_toArray]; omega))
    · simp only [List.mem_cons,List.not_mem_nil,or_false,not_or] at hc'
      exact a7 c o hc'.1 hc'.2.2.1 hc'.2.2.2.1 hc'.2.2.2.2 e
  self:=fun A i s Q E st h=>wpAny_pyIter_zip st.1 h
end L2
namespace L2
open PySem PySem.Spec PyProof.Rows
abbrev zH1 (c1:String) (h:Heap) (l1:Addr):Heap:=h.push { cls:=.type c1,data:=.fields #[.ref l1,.int 0 0] }
abbrev zH2 (c1 c2:String) (h:Heap) (l1 l2:Addr):Heap:=(zH1 c1 h l1).push { cls:=.type c2,data:=.fields #[.ref l2,.int 0 0] }
abbrev zH3 (c1 c2:String) (h:Heap) (l1 l2:Addr):Heap:=(zH2 c1 c2 h l1 l2).push { cls:=.type "tuple",data:=.seq #[.ref h.objs.size,.ref (zH1 c1 h l1).objs.size] }
abbrev zH4 (c1 c2:String) (h:Heap) (l1 l2:Addr):Heap:=(zH3 c1 c2 h l1 l2).push { cls:=.type "tuple",data:=.seq #[.none,.none] }
abbrev zH5 (c1 c2:String) (h:Heap) (l1 l2:Addr):Heap:=(zH4 c1 c2 h l1 l2).push { cls:=.type "zip",data:=.fields #[.none,.bool false,.bool false,.ref (zH2 c1 c2 h l1 l2).objs.size,.ref (zH3 c1 c2 h l1 l2).objs.size] }
theorem zip_new_tt (l1 l2:Addr) (xs ys:Array Value) :
    Meets (Builtin.«zip.__new__» ⟨[.type "zip",.ref l1,.ref l2],[]⟩) (fun _ R s=>s.heap.IsTuple l1 xs∧s.heap.IsTuple l2 ys ∧
      R (.ok (.ret (.ref (zH4 "tuple_iterator" "tuple_iterator" s.heap l1 l2).objs.size))) { s with heap:=zH5 "tuple_iterator" "tuple_iterator" s.heap l1 l2 }) :=
  .of_wp fun prog w A R s h=>by
    obtain ⟨hp,g,d,tk,os⟩:=s; obtain ⟨hl1,hl2,h⟩:=h
    have hsub:=sub_zip
    have hL1:Heap.IsTuple (Shared.heap ⟨hp,g,d,tk,os⟩) l1 xs:=hl1
    have hL2:Heap.IsTuple (Shared.heap ⟨hp.push { cls:=.type "tuple_iterator",data:=.fields #[.ref l1,.int 0 0] },g,d,tk,os⟩) l2 ys:=Heap.IsTuple.push hl2 _
    wp_walk using wpAny_pyIter_tuple hL1,wpAny_pyIter_tuple hL2
    exact ⟨_,rfl,h⟩
section
variable {P:Program} {w:World} {A:Around} {E:Value→Shared→Prop} {s:Shared}
theorem call_zip_tt {l1 l2:Addr} {xs ys:Array Value} {Q:Value→Shared→Prop} (hl1:s.heap.IsTuple l1 xs) (hl2:s.heap.IsTuple l2 ys)
    (h:∀ h',IsZip h' (s.heap.objs.size + 4) (s.heap.objs.size + 2) (s.heap.objs.size + 3) .none→IsPair h' (s.heap.objs.size + 2) (.ref s.heap.objs.size) (.ref (s.heap.objs.size + 1)) →
      IsPair h' (s.heap.objs.size + 3) .none .none→h'.IsTupleIter s.heap.objs.size l1 0→h'.IsTupleIter (s.heap.objs.size + 1) l2 0 →
      (∀ c o,s.heap.get? c=some o→h'.get? c=some o)→Q (.ref (s.heap.objs.size + 4)) { s with heap:=h' }) :
    wpAny (model P w) A (call (.type "zip") [.ref l1,.ref l2]) Q E s:=by
  refine callType_new F.called_zip (by decide) (F.typeCall_zip_2 _ _) (F.newCall_zip_2 _ _) (fun obj=>F.args_object_init_3 obj _ _) F.entry_zip_new (zip_new_tt l1 l2 xs ys) ⟨hl1,hl2,?_⟩
  have n1:(zH1 "tuple_iterator" s.heap l1).objs.size=s.heap.objs.size + 1:=Heap.size_push ..
  have n2:(zH2 "tuple_iterator" "tuple_iterator" s.heap l1 l2).objs.size=s.heap.objs.size + 2:=by rw [Heap.size_push,n1]
  have n3:(zH3 "tuple_iterator" "tuple_iterator" s.heap l1 l2).objs.size=s.heap.objs.size + 3:=by rw [Heap.size_push,n2]
  have n4:(zH4 "tuple_iterator" "tuple_iterator" s.heap l1 l2).objs.size=s.heap.objs.size + 4:=by rw [Heap.size_push,n3]
  have g5:(zH5 "tuple_iterator" "tuple_iterator" s.heap l1 l2).get? (zH4 "tuple_iterator" "tuple_iterator" s.heap l1 l2).objs.size=some _:=Heap.get?_push_size _ rfl
  have g4:(zH5 "tuple_iterator" "tuple_iterator" s.heap l1 l2).get? (zH3 "tuple_iterator" "tuple_iterator" s.heap l1 l2).objs.size=some _:=Heap.get?_push_of_some _ (Heap.get?_push_size _ rfl)
  have g3:(zH5 "tuple_iterator" "tuple_iterator" s.heap l1 l2).get? (zH2 "tuple_iterator" "tuple_iterator" s.heap l1 l2).objs.size=some _:=Heap.get?_push_of_some _ (Heap.get?_push_of_some _ (Heap.get?_push_size _ rfl))
  have g2:(zH5 "tuple_iterator" "tuple_iterator" s.heap l1 l2).get? (zH1 "tuple_iterator" s.heap l1).objs.size=some _:=Heap.get?_push_of_some _ (Heap.get?_push_of_some _ (Heap.get?_push_of_some _ (Heap.get?_push_size _ rfl)))
  have g1:(zH5 "tuple_iterator" "tuple_iterator" s.heap l1 l2).get? s.heap.objs.size=some _:=Heap.get?_push_of_some _ (Heap.get?_push_of_some _ (Heap.get?_push_of_some _ (Heap.get?_push_of_some _ (Heap.get?_push_size _ rfl))))
  show _∧_
  rw [n2,n3,n4] at g5
  rw [n1,n2] at g3
  rw [n3] at g4
  rw [n1] at g2
  rw [n4]
  exact ⟨⟨_,g5,rfl⟩,h _ g5 g3 g4 ⟨_,g1,rfl,rfl⟩ ⟨_,g2,rfl,rfl⟩ fun c o x=>Heap.get?_push_of_some _ (Heap.get?_push_of_some _ (Heap.get?_push_of_some _ (Heap.get?_push_of_some _ (Heap.get?_push_of_some _ x))))⟩
end
theorem boot_zip:bootBuiltins "zip"=some (.type "zip"):=by decide +kernel
def iZip (K:PySem.W.Frag) (ta:TA):TI:=fun σ H R=>ta σ H fun vs H1=>∃ l1 l2 xs ys,vs=[.ref l1,.ref l2]∧SqT K H1 l1 xs∧SqT K H1 l2 ys∧R (Itz (fun H xs=>SqT K H l1 xs) fun H xs=>SqT K H l2 xs) H1
section
variable {X:Cx}
theorem pi_zip {a b:Expr} {ta:TA} {p pos tpos:Pos} {elts:List Expr} {x1:Nat} (hg:Gl X "zip") (hm:X.mg "zip"=none) (ha:PA X [a,b] ta) (hs:starEach [a,b] X.env=[(false,eval a X.env),(false,eval b X.env)]:=by rfl) (hs2:starEach [b] X.env=[(false,eval b X.env)]:=by rfl) :
    PI X (.Tuple elts x1 tpos) (.Call (.Name "zip" p) [a,b] [] pos) (iZip X.K ta):=by
  intro pins s σ H R I h
  refine Call_ (ld_blt I hg hm boot_zip (PyProof.Rows.callWith_type1 (thn (ha pos pins s σ H _ I h) fun us s1 ⟨vs,H1,I1,r1,q1⟩=>?_) (by rw [hs,hs2]) (by rw [hs2]; rfl)))
  obtain ⟨l1,l2,xs,ys,rfl,hq1,hq2,q⟩:=q1
  cases r1 with
  | cons r rr =>
    cases rr with
    | cons r' rr =>
      cases rr
      cases r
      cases r'
      obtain ⟨us1,rv1,p1,hz1⟩:=I1.tuple hq1
      obtain ⟨us2,rv2,p2,hz2⟩:=I1.tuple hq2
      have lt1:l1 < s1.heap.objs.size:=p1.lt
      have lt2:l2 < s1.heap.objs.size:=p2.lt
      refine call_zip_tt (show s1.heap.IsTuple l1 us1.toArray from p1) (show s1.heap.IsTuple l2 us2.toArray from p2) fun h' hz hTI hTO hi1 hi2 hk=>wpAny_pyIter_zip (s:={ s1 with heap:=h' }) hz ?_
      refine ⟨_,[s1.heap.objs.size + 4,s1.heap.objs.size + 2,s1.heap.objs.size + 3,s1.heap.objs.size,s1.heap.objs.size + 1],_,_,H1,rfl,I1.kept (t':=s1.toks) hk,turn_zip (drawn_tup _ l1) (drawn_tup _ l2) (src_tup l1) (src_tup l2) (zipApart_new lt1 lt2),⟨hz,hTI,⟨_,_,hTO⟩,hi1,hi2⟩,fun c hc=>?_,q⟩
      simp only [List.mem_cons,List.not_mem_nil,or_false] at hc
      have le:s1.heap.objs.size≤c:=by rcases hc with rfl | rfl | rfl | rfl | rfl <;> first | exact Nat.le_refl _ | exact Nat.le_add_right _ _
      exact I1.fpOk le (I1.hok.fresh le)
end
end L2
namespace TL
open PySem PySem.Spec PyProof.Rows L2
variable {K:PySem.W.Frag}
def zipD (as bs:List D):List D:=(as.zip bs).map fun p=>.tuple [p.1,p.2]
theorem zipD_len (as bs:List D):(zipD as bs).length=min as.length bs.length:=by unfold zipD; simp
theorem zipD_get {as bs:List D} {i:Nat} {x:D} (h:(zipD as bs)[i]?=some x):∃ a b,as[i]?=some a∧bs[i]?=some b∧x=.tuple [a,b]:=by
  unfold zipD at h
  rw [List.getElem?_map] at h
  cases e:(as.zip bs)[i]? with
  | none=>rw [e] at h; cases h
  | some p =>
    rw [e] at h
    obtain ⟨h1,h2⟩:=List.getElem?_zip_eq_some.mp e
    exact ⟨p.1,p.2,h1,h2,(Option.some.inj h).symm⟩
def iZipT (t:AT):IT:=fun σ Q=>t σ fun ds=>∃ as bs,ds=[.tuple as,.tuple bs]∧Q (zipD as bs)
section
variable {X:Cx} {a b:Expr} {pos:Pos}
theorem it_zip {t:AT} {p p' tpos:Pos} {elts:List Expr} {x1:Nat} (ha:PAt X [a,b] t) (pz:∀ {ta:TA},PA X [a,b] ta→PI X (.Tuple elts x1 tpos) (.Call (.Name "zip" p) [a,b] [] p') (iZip X.K ta)):PIt X (.Tuple elts x1 tpos) (.Call (.Name "zip" p) [a,b] [] p') (iZipT t):=by
  obtain ⟨va,pa,ra⟩:=ha
  refine ⟨_,pz pa,fun B p0 H ps σT σ Q R o h k=>ra B p0 H ps σT σ _ _ o h fun ds xs H1 s1 r1 q1=>?_⟩
  obtain ⟨as,bs,rfl,q⟩:=q1
  cases r1 with
  | cons r1 r2 =>
    cases r2 with
    | cons r3 r4 =>
      cases r4
      cases r1 with
      | @tuple p1 us _ hq1 rs1 =>
        cases r3 with
        | @tuple p2 vs _ hq2 rs2 =>
          have n1:=rs1.length
          have n2:=rs2.length
          refine ⟨p1,p2,us,vs,rfl,Same.seqT mask_le hq1,Same.seqT mask_le hq2,k _ _ H1 s1 ⟨fun i H e hl=>?_,fun i H e hl=>?_,fun i H ps' y H' live e hl hy=>?_⟩ q⟩
          · rw [zipD_len] at hl
            exact ⟨us,vs,Same.seqT e hq1,Same.seqT e hq2,by omega⟩
          · rw [zipD_len] at hl
            exact ⟨us,vs,us[i],vs[i],Same.seqT e hq1,Same.seqT e hq2,List.getElem?_eq_getElem (by omega),List.getElem?_eq_getElem (by omega)⟩
          · obtain ⟨p,x,y',hp,rfl,rfl,h1,h2⟩:=hy
            obtain ⟨d1,g1,t1⟩:=rs1.get' (h1 us (Same.seqT (e.trans mask_le) hq1))
            obtain ⟨d2,g2,t2⟩:=rs2.get' (h2 vs (Same.seqT (e.trans mask_le) hq2))
            refine ⟨same_new hp,.tuple [d1,d2],?_,rep_tup live hp (.cons (t1.same e) (.cons (t2.same e) .nil))⟩
            unfold zipD
            rw [List.getElem?_map,(List.getElem?_zip_eq_some (z:=(d1,d2))).mpr ⟨g1,g2⟩]; rfl
end
section
variable {fr:List (Option Nat)} {ti:IT} {tt:TTt} {te:ET} {σ:List Sl} {Q:D→Prop} {ts:List D}
theorem set2_set2 {α:Type} (l:List α) (a b c d:α):(((l.set 0 a).set 1 b).set 0 c).set 1 d=(l.set 0 c).set 1 d:=by
  match l with
  | []=>rfl
  | [_]=>rfl
  | _::_::_=>rfl
theorem lcp_map (hti:Gives' ti σ ts) (f:D→D) (hz:ts.length≤100000) (hp:∀ x ∈ ts,∃ a b,x=.tuple [a,b]) (ht:∀ (a b:D) (q:D→Prop),.tuple [a,b] ∈ ts→q (f (.tuple [a,b]))→te (((inBlkT fr σ).set 0 (.val a)).set 1 (.val b)) q) (hq:Q (.list (ts.map f))):eLc fr ti (gP 0 1) cTrue te σ Q:=by
  refine hti _ ⟨hz,fun k σ' ds=>(∀ x y,(σ'.set 0 (.val x)).set 1 (.val y)=((inBlkT fr σ).set 0 (.val x)).set 1 (.val y))∧ds=(ts.take k).map f,⟨fun _ _=>rfl,rfl⟩,fun k x σ' ds hx h=>?_,fun σ' ds h=>?_⟩
  · obtain ⟨h1,rfl⟩:=h
    have hm:x ∈ ts:=List.mem_of_getElem? hx
    obtain ⟨a,b,rfl⟩:=hp x hm
    refine ⟨a,b,rfl,?_⟩
    show te ((σ'.set 0 (.val a)).set 1 (.val b)) _
    rw [h1 a b]
    refine ht a b _ hm ⟨fun x y=>set2_set2 _ _ _ _ _,?_⟩
    rw [List.take_add_one,hx,List.map_append]; rfl
  · obtain ⟨_,rfl⟩:=h
    rw [List.take_length]; exact hq
end
end TL

set_option Elab.async false
set_option linter.all false
set_option maxRecDepth 100000
namespace L2
open PySem PySem.Spec PyProof.Rows PySem.SeqAt
open AutoSeq1 (wpAny_loadPart')
theorem tuple_indexAt (l:Addr) (items:Array Value) (n:Nat) (dd:Option Addr) (sl:Array (Option Value)) (x:Value) (e:Value→Bool) (j:Nat) (hj:j < items.size) (hit:e items[j]=true) (hno:∀ m (hm:m < items.size),m < j→e items[m]=false) :
    Meets (Builtin.«tuple.index» ⟨[.ref l,x],[]⟩)
      (fun A R s=>s.heap.get? l=some { cls:=.type "tuple",dict:=dd,data:=.seq items n,slots:=sl }∧(∀ y,y ∈ items→EqAt A.in1 s y x (e y))∧R (.ok (.ret (.int j s.toks))) { s with toks:=s.toks + 1 }):=by
  intro prog w A R s h
  obtain ⟨hp,g,d,tk,os⟩:=s; obtain ⟨hl,he,h⟩:=h
  unfold Builtin.«tuple.index»
  simp only [Std.Legacy.Range.forIn_eq_forIn_range']
  wp_walk using wpAny_loadPart' hl
  have hN:([:min items.size items.size]:Std.Legacy.Range).size=items.size:=by simp [Std.Legacy.Range.size]
  rw [hN]
  show wpAny _ _ (forIn (List.range' 0 items.size) (none,()) _) _ _ _
  refine wpAny_forIn_list _ (fun rest b s'=>b=(none,())∧s'=⟨hp,g,d,tk,os⟩∧∃ k,rest=List.range' k (items.size - k)∧k≤j) _ (fun i rest b s' h1=>?_) (fun b s' h1=>?_) _ _ ⟨rfl,rfl,0,by simp,Nat.zero_le _⟩
  · obtain ⟨rfl,rfl,k,hr,hk⟩:=h1
    have hkN:k < items.size:=by omega
    have e1:items.size - k=(items.size - (k + 1)) + 1:=by omega
    rw [e1,List.range'_succ] at hr
    obtain ⟨rfl,rfl⟩:=List.cons.inj hr
    have hi:items[i]?=some items[i]:=by simp [hkN]
    rw [hi]
    refine wpAny_bind (he _ (Array.getElem_mem hkN) prog w _ _ ?_)
    by_cases hij:i=j
    · subst hij
      rw [hit,if_pos rfl]
      wp_walk
      exact h
    · have hlt:i < j:=by omega
      rw [hno i hkN hlt,if_neg (by decide)]
      exact wpAny_pure ⟨rfl,rfl,i + 1,rfl,hlt⟩
  · obtain ⟨_,_,k,hr,hk⟩:=h1
    have:=congrArg List.length hr
    simp at this
    omega
section
variable {X:Cx}
end
end L2
namespace TL
open PySem PySem.Spec PyProof.Rows L2 PySem.SeqAt
section
variable {X:Cx} {a b e:Expr} {es:List Expr} {te ta tb:ET} {pos:Pos}
def okIx (ts:List D) (d:D) (j:Nat):Prop:=PyData.canLayAll0 ts=true∧d.canLay0=true∧min (PyData.depthAll ts) d.depth≤60∧(∃ t,ts[j]?=some t∧PyData.eqv t d=true)∧∀ (m:Nat) t,m < j→ts[m]?=some t→PyData.eqv t d=false
def rIndex (K:PySem.W.Frag):V→List V→Hp→VK→Prop:=fun x xs H Q=>∃ (y:V) (ts:List D) (d:D) (j:Nat),xs=[y]∧Rep K H (.tuple ts) x∧Rep K H d y∧okIx ts d j∧Q (.int j) H
theorem mt_indexU (hu:X.A.units + 200 < cLine):MtR X "tuple.index" (rIndex X.K):=by
  intro pins s σ H x xs v us Q I rx rv h
  obtain ⟨y,ts,d,j,rfl,r1,r2,⟨c1,c2,hm,⟨t,ht,he⟩,hno⟩,q⟩:=h
  obtain ⟨u,rfl,ru⟩:=rv.one
  obtain ⟨as,h1⟩:=Rep.reads I (show (PyData.tuple ts).hasDict=false from noDictAll c1) r1 rx
  obtain ⟨bs,h2⟩:=Rep.reads I (noDict c2) r2 ru
  cases h1 with
  | @tuple l o items n _ as' h3 h4 h5 h6 =>
    have hmap:=readsAll_map ts items.toList _ c1 h6
    have hlen:items.size=ts.length:=by rw [← hmap,List.length_map,Array.length_toList]
    have hjl:j < ts.length:=(List.getElem?_eq_some_iff.mp ht).1
    have hj:j < items.size:=by omega
    have rd:∀ (m:Nat) (hm:m < items.size),ts[m]?=some (readOf s.heap items[m]):=fun m hm=>by
      rw [← hmap,List.getElem?_map]
      simp [hm]
    obtain ⟨oc,od,odt,osl⟩:=o
    cases h4
    cases h5
    refine call_meets F.slot_tuple_index ⟨_,h3,rfl⟩ F.entry_tuple_index (F.args_tuple_index_2 _ _) (tuple_indexAt _ items _ od osl u (fun y=>PyData.eqv (readOf s.heap y) d) j hj ?_ ?_) ⟨h3,items_eqAt h6 h2 c1 c2 (by have:=hu; omega),?_⟩
    · have:=rd j hj
      rw [ht] at this
      rw [← Option.some.inj this]; exact he
    · intro m hm' hlt
      exact hno m _ hlt (rd m hm')
    · exact ⟨.int j,H,I.tok _,⟨_,rfl⟩,q⟩
theorem mt_index {k:Nat} (hr:Room k X.A):MtR X "tuple.index" (rIndex X.K):=mt_indexU (by have:=hr.un; omega)
def eIndex (te:ET) (t:AT):ET:=fun σ Q=>te σ fun d=>∃ ts,d=.tuple ts∧t σ fun ds=>∃ (x:D) (j:Nat),ds=[x]∧okIx ts x j∧Q (.int j)
theorem et_index {n:Expr} {ap:Pos} {t:AT} (hn:PEt X n te) (ha:PAt X (e::es) t)
    (pc:∀ {v:TE} {ta:TA},PE X n v→PA X (e::es) ta→PE X (.Call (.Attribute n "index" ap) (e::es) [] pos) (tBM X.K "tuple" (rIndex X.K) v ta)):PEt X (.Call (.Attribute n "index" ap) (e::es) [] pos) (eIndex te t):=by
  obtain ⟨v,pe,re⟩:=hn
  obtain ⟨va,pa,ra⟩:=ha
  refine ⟨_,pc pe pa,fun B p0 H ps σT σ Q QV o h k=>re B p0 H ps σT σ _ _ o h fun d x H1 s1 r1 q1=>?_⟩
  obtain ⟨ts,rfl,q1⟩:=q1
  cases r1 with
  | @tuple p xs _ hq rs =>
    refine ⟨.inr (.inl ⟨rfl,.inr ⟨_,Same.seqT mask_le hq⟩⟩),ra B p0 H1 ps σT σ _ _ (o.grow s1) q1 fun ds ys H2 s2 r2 q2=>?_⟩
    obtain ⟨d,j,rfl,hok,q⟩:=q2
    cases r2 with
    | cons r3 r4 =>
      cases r4
      exact ⟨_,ts,d,j,rfl,(Rep.tuple hq rs).same ((mask_same s2).trans mask_le),r3.same mask_le,hok,k _ _ H2 (s1.trans s2) (.int _) q⟩
theorem Reps.rep {K:PySem.W.Frag} {H:Hp} {ds:List D} {vs:List V} (r:Reps K H ds vs):∀ n:Nat,Reps K H (List.replicate n ds).flatten (List.replicate n vs).flatten
  | 0=>.nil
  | n + 1=>by
    rw [List.replicate_succ,List.replicate_succ,List.flatten_cons,List.flatten_cons]
    exact r.append (Reps.rep r n)
end
end TL

set_option Elab.async false
set_option linter.all false
set_option maxRecDepth 100000
namespace TL
open PySem PySem.Spec PyProof.Rows L2
section
variable {K:PySem.W.Frag} {H H':Hp} {B:Hp} {p0 ps:List Addr} {σT:List Sl} {σ:L2.St}
def flatD:D→Bool
  | .none=>true
  | .bool _=>true
  | .int _=>true
  | .str _=>true
  | _=>false
theorem Rep.flat {d:D} {v:V} (r:Rep K H d v) (h:flatD d=true):Rep K H' d v:=by
  cases r with
  | none=>exact .none
  | bool b=>exact .bool b
  | int i=>exact .int i
  | str x=>exact .str x
  | _=>cases h
theorem Reps.snoc:∀ {ts:List D} {d:D} {xs:List V},Reps K H (ts++[d]) xs→∃ ys y,xs=ys++[y]∧Reps K H ts ys∧Rep K H d y
  | [],d,_,r=>by
    rw [List.nil_append] at r
    cases r with
    | cons r1 r2=>cases r2; exact ⟨[],_,rfl,.nil,r1⟩
  | t::ts,d,_,r=>by
    rw [List.cons_append] at r
    cases r with
    | cons r1 r2 =>
      obtain ⟨ys,y,rfl,h1,h2⟩:=Reps.snoc r2
      exact ⟨_::ys,y,rfl,.cons r1 h1,h2⟩
theorem Reps.put:∀ {ts:List D} {xs:List V} (n:Nat) {d:D} {v:V},Reps K H ts xs→Rep K H d v→Reps K H (ts.set n d) (xs.set n v)
  | _,_,_,_,_,.nil,_=>.nil
  | _,_,0,_,_,.cons _ t,r=>.cons r t
  | _,_,n + 1,_,_,.cons s t,r=>.cons s (Reps.put n t r)
theorem ixN_nat {n j:Nat} (h:j < n):ixN n (j:Int)=some j:=by
  unfold ixN
  rw [if_pos (by omega),if_pos (by omega)]; simp
def without (H:Hp) (p:Addr):Hp:=fun b=>if b=p then none else H b
theorem without_mask {p:Addr}:mask (without H p) ps=mask H (p::ps):=by
  funext b
  unfold mask without
  by_cases h1:b=p
  · simp [h1]
  · by_cases h2:b ∈ ps <;> simp [h1,h2]
theorem without_same {p:Addr} (s:Same H H') (hp:H p=none):Same H (without H' p):=fun b o e=>by
  unfold without
  rw [if_neg fun z=>by rw [z,hp] at e; cases e]
  exact s b o e
theorem without_upd {p:Addr} {u:HO} (hx:H p=some u):upd (without H p) p u=H:=by
  funext b
  by_cases h:b=p
  · subst h; rw [upd_same,hx]
  · rw [upd_ne h]
    unfold without
    rw [if_neg h]
theorem Same.free' (s:Same H H') {p:Addr} (h:H' p=none):H p=none:=by
  cases q:H p with
  | none=>rfl
  | some u=>rw [s p u q] at h; cases h
theorem Ok.takeOwn (o:Ok K B p0 H ps σT σ) {i:Nat} {ts:List D} {xs:List V} {p:Addr} (s:Same H H') (hp:H p=none) (hx:H' p=some (.lst xs)) (r:Reps K (mask H' (p::ps)) ts xs) :
    Ok K B p0 H' (p::ps) (σT.set i (.own ts)) (σ.set i (some (.ref p))):=by
  have o1:=o.grow (without_same s hp)
  have hn:without H' p p=none:=by unfold without; rw [if_pos rfl]
  have:=o1.setOwn (i:=i) (ts:=ts) (xs:=xs) hn (by rw [without_mask]; exact r)
  rwa [without_upd hx] at this
end
section
variable {X:Cx} {a b c e:Expr} {es:List Expr} {ta tb te:ET} {pos:Pos}
def cBorrow (i:Nat) (t:TTt):TTt:=fun σ Q=>∃ ts,σ[i]?=some (.own ts)∧t (σ.set i (.val (.list ts))) Q
theorem tt_borrow (i:Nat) {t:TTt} (h:PTt X e t):PTt X e (cBorrow i t):=by
  obtain ⟨v,p,r⟩:=h
  refine ⟨_,p,fun B p0 H ps σT σ Q QV o h k=>?_⟩
  obtain ⟨ts,e,h⟩:=h
  obtain ⟨ps',o',s'⟩:=o.share e
  exact r B p0 H ps' _ σ _ _ o' h k
abbrev FT:=List Sl→(List D→Prop)→Prop
def PFt (X:Cx) (e:Expr) (t:FT):Prop:=∃ te:TE,PE X e te∧∀ (B:Hp) (p0:List Addr) (H:Hp) (ps:List Addr) (σT:List Sl) (σ:L2.St) (Q:List D→Prop) (QV:VK),Ok X.K B p0 H ps σT σ→t σT Q →
  (∀ ts p xs H',Same H H'→H p=none→H' p=some (.lst xs)→Reps X.K (mask H' (p::ps)) ts xs→Q ts→QV (.ref p) H')→te σ H QV
def eFr (t:FT):ET:=fun σ Q=>t σ fun ts=>Q (.list ts)
theorem et_fr {t:FT} (h:PFt X e t):PEt X e (eFr t):=by
  obtain ⟨v,p,r⟩:=h
  refine ⟨_,p,fun B p0 H ps σT σ Q QV o h k=>r B p0 H ps σT σ _ _ o h fun ts p xs H' s hp hx rs q=>k _ _ H' s ?_ q⟩
  exact .list (SqL.of (mask_at (fresh_notin o.live hp) hx)) (rs.same (mask_sub fun q hq=>List.mem_cons_of_mem _ hq))
def fLst (t:AT):FT:=fun σ Q=>t σ fun ds=>ds.length≤1000∧Q ds
theorem ft_lst {t:AT} (h:PAt X es t):PFt X (.List es pos) (fLst t):=by
  obtain ⟨v,p,r⟩:=h
  refine ⟨_,pe_lst p,fun B p0 H ps σT σ Q QV o h k=>r B p0 H ps σT σ _ _ o h fun ds xs H1 s1 r1 q1=>⟨le_line (by rw [← r1.length]; exact q1.1),fun q hq=>?_⟩⟩
  exact k ds q xs _ (s1.trans (same_new hq)) (Same.free' s1 hq) upd_same (by rw [mask_new hq]; exact r1) q1.2
abbrev SpF:=List D→(List D→Prop)→Prop
def liftSpF (K:PySem.W.Frag) (sp:SpF):Sp:=fun vs H Q _=>∃ (ps:List Addr) (ds:List D) (QD:List D→Prop),(∀ p ∈ ps,H p ≠ none)∧Reps K (mask H ps) ds vs∧sp ds QD ∧
  ∀ ts p xs H',Same H H'→H p=none→H' p=some (.lst xs)→Reps K (mask H' (p::ps)) ts xs→QD ts→Q (.ref p) H'
def fCall (sp:SpF) (t:AT):FT:=fun σ Q=>t σ fun ds=>sp ds Q
theorem ft_call {k:Nat} {f:Addr} {fd:FuncData} {pn:List Str} {sp:SpF} {x:Str} {p:Pos} {t:AT} (F:FnOk X.prog X.w X.K X.mg X.base CX0 k f fd pn (liftSpF X.K sp)) (hm:X.mg x=some (.ref f)) (hk:PySem.W.keepIn X.K (.ref f)=true) (hb:Binds X.K fd pn [])
    (hr:Room k X.A) (ha:PAt X (e::es) t) (pc:∀ {ta:TA},PA X (e::es) ta→PE X (.Call (.Name x p) (e::es) [] pos) (tCall (liftSpF X.K sp) [] E0 ta)):PFt X (.Call (.Name x p) (e::es) [] pos) (fCall sp t):=by
  obtain ⟨v,pa,ra⟩:=ha
  refine ⟨_,pc pa,fun B p0 H ps σT σ Q QV o h k=>ra B p0 H ps σT σ _ _ o h fun ds xs H1 s1 r1 q1=>?_⟩
  show liftSpF X.K sp (xs++[]) H1 QV E0
  rw [List.append_nil]
  exact ⟨ps,ds,Q,(o.grow s1).live,r1,q1,fun ts p xs' H' s' hp hx rs q=>k ts p xs' H' (s1.trans s') (Same.free' s1 hp) hx rs q⟩
theorem fnF {P:Program} {w:World} {K:PySem.W.Frag} {mg:Str→Option Value} {base:Heap} {x qual:Str} {st:Stmt} {f:Addr} {fd:FuncData} {N pn:List Str} {k:Nat} {sp:SpF} (F:Fun K x qual st f fd) (S:FnScope N pn (defScope st)) (len:∀ ds Q,sp ds Q→ds.length=pn.length)
    (hbody:∀ (cdv:Value) (A:Around) (outer:List Env) (s:Shared) (H:Hp) (E:XK),Room k (A.deeper (envOfC qual (defScope st) s.heap.objs.size f cdv))→∀ (ds:List D) (Q:List D→Prop),sp ds Q →
      ∃ t,PSst (cxOf CX0 P w K mg base N qual (defScope st) f cdv A outer s H E).nox (defBody st) t∧t { nx:=fun _=>False,rt:=fun _=>False,ro:=Q } (startT N ds)):FnOk P w K mg base CX0 (k + 1) f fd pn (liftSpF K sp):=by
  refine F.ok S (fun vs H Q E h=>?_) fun cdv A outer s H vs Q E hr h=>?_
  · obtain ⟨ps,ds,QD,_,r,q,_⟩:=h
    rw [← r.length]; exact len ds QD q
  · obtain ⟨ps,ds,QD,live,r,q,k⟩:=h
    obtain ⟨t,⟨ts,p,rd⟩,h⟩:=hbody cdv A outer s H E hr ds QD q
    exact ⟨ts,p,rd H ps H ps _ _ _ _ (ok_start live r) h ⟨fun _ _ _ _ _ _ q'=>q'.elim,fun _ _ _ _ _ _ q'=>q'.elim,fun _ _ _ _ _ _ q'=>q'.elim,fun _ _ _ _ _ q'=>q'.elim,fun ts p xs H' s' hB hp hx rs q'=>k ts p xs H' s' hB hx rs q',fun _ _ _ _ _ _ _ _ _ _ _ _ _ _ _ _ _ _ q'=>q'.elim,fun _ _ _ _ _ _ _ _ _ _ _ _ _ _ q'=>q'.elim,True.intro⟩⟩
def sSetF (i:Nat) (t:FT):STt:=fun DT σ=>t σ fun ts=>DT.nx (σ.set i (.own ts))
theorem setF_read {i:Nat} {t:FT} {v:TE} (r:∀ (B:Hp) (p0:List Addr) (H:Hp) (ps:List Addr) (σT:List Sl) (σ:L2.St) (Q:List D→Prop) (QV:VK),Ok X.K B p0 H ps σT σ→t σT Q →
      (∀ ts p xs H',Same H H'→H p=none→H' p=some (.lst xs)→Reps X.K (mask H' (p::ps)) ts xs→Q ts→QV (.ref p) H')→v σ H QV)
    (B:Hp) (p0:List Addr) (H:Hp) (ps:List Addr) (σT:List Sl) (σ:L2.St) (DT:EndsT) (DV:Ends) (o:Ok X.K B p0 H ps σT σ) (h:sSetF i t DT σT) (f:Fits X.K B p0 H ps DT DV):tAsg v (gName i) DV σ H:=by
  refine r B p0 H ps σT σ _ _ o h fun ts p xs H' s hp hx rs q=>?_
  exact f.nx H' (p::ps) _ _ (o.takeOwn s hp hx rs) (by rw [← without_mask]; exact mask_same (without_same s hp)) q
theorem st_setF {i:Nat} {x:Str} {pos':Pos} {t:FT} (h:PFt X e t) (ps':∀ {v:TE},PE X e v→PS X (.Assign [.Name x pos'] e pos) (tAsg v (gName i))):PSt X (.Assign [.Name x pos'] e pos) (sSetF i t):=by
  obtain ⟨v,p,r⟩:=h
  exact ⟨_,ps' p,setF_read r⟩
def sRetF (t:FT):STt:=fun DT σ=>t σ DT.ro
theorem st_retF {t:FT} (h:PFt X e t):PSt X (.Return (some e) pos) (sRetF t):=by
  obtain ⟨v,p,r⟩:=h
  refine ⟨_,ps_ret p,fun B p0 H ps σT σ DT DV o h f=>r B p0 H ps σT σ _ _ o h fun ts p xs H' s hp hx rs q=>?_⟩
  refine f.ro ts p xs H' (o.base.trans s) (Same.free' o.base hp) (fun z=>fresh_notin o.live hp (o.sub p z)) hx (rs.same (mask_sub fun q hq=>?_)) q
  rcases List.mem_cons.mp hq with rfl | hq
  · exact List.mem_cons_self ..
  · exact List.mem_cons_of_mem _ (o.sub q hq)
def sRetOwn (i:Nat):STt:=fun DT σ=>∃ ts,σ[i]?=some (.own ts)∧DT.ro ts
theorem st_retOwn {i:Nat} {n:Expr} (hn:PE X n (tVar i)):PSt X (.Return (some n) pos) (sRetOwn i):=by
  refine ⟨_,ps_ret hn,fun B p0 H ps σT σ DT DV o h f=>?_⟩
  obtain ⟨ts,e,h⟩:=h
  obtain ⟨q,xs,h1,h2,h3,h4,h5,h6⟩:=o.own i ts e
  refine ⟨.ref q,h1,f.ro ts q xs H o.base h3 h4 h5 (h6.same (mask_sub fun z hz=>?_)) h⟩
  rcases List.mem_cons.mp hz with rfl | hz
  · exact h2
  · exact o.sub z hz
def sWhile (c:TTt) (tb:STt):STt:=fun DT σ=>∃ P:Nat→List Sl→Prop,(∃ n,P n σ)∧∀ n σ',P n σ'→c σ' fun b=>if b=true then tb { DT with nx:=fun σ2=>∃ m,m < n∧P m σ2,ct:=fun σ2=>∃ m,m < n∧P m σ2,bk:=DT.nx } σ' else DT.nx σ'
theorem st_while {c:Expr} {body:List Stmt} {tc:TTt} {tb:STt} (hc:PTt X c tc) (hb:PSst X body tb) (pw:∀ {vc:TT} {vb:TS},PT X c vc→PSs X body vb→PS X (.While c body [] pos) (tWhile vc vb)):PSt X (.While c body [] pos) (sWhile tc tb):=by
  obtain ⟨vc,pc,rc⟩:=hc
  obtain ⟨vb,pb,rb⟩:=hb
  refine ⟨_,pw pc pb,fun B p0 H ps σT σ DT DV o h f=>?_⟩
  obtain ⟨P,⟨n0,h0⟩,hs⟩:=h
  refine ⟨fun n σ' H'=>∃ ps' σT',Ok X.K B p0 H' ps' σT' σ'∧Same (mask H ps) (mask H' ps')∧P n σT',⟨n0,ps,σT,o,L2.Same.refl _,h0⟩,?_⟩
  rintro n σ' H' ⟨ps',σT',o',s',p'⟩
  refine rc B p0 H' ps' σT' σ' _ _ o' (hs n σT' p') fun b H1 s1 q1=>?_
  have f':Fits X.K B p0 H1 ps' DT DV:=(f.later s').later (mask_same s1)
  have s'':Same (mask H ps) (mask H1 ps'):=s'.trans (mask_same s1)
  cases b with
  | true =>
    rw [if_pos rfl] at q1 ⊢
    refine ⟨fun σ2 H2=>∃ m,m < n∧∃ ps2 σT2,Ok X.K B p0 H2 ps2 σT2 σ2∧Same (mask H ps) (mask H2 ps2)∧P m σT2,fun σ2 H2 z=>z,?_⟩
    exact rb B p0 H1 ps' σT' σ' _ _ (o'.grow s1) q1 ⟨fun H4 ps4 σT4 σ4 o4 s4 ⟨m,hm,q4⟩=>⟨m,hm,ps4,σT4,o4,s''.trans s4,q4⟩,fun H4 ps4 σT4 σ4 o4 s4 q4=>f'.nx H4 ps4 σT4 σ4 o4 s4 q4,fun H4 ps4 σT4 σ4 o4 s4 ⟨m,hm,q4⟩=>⟨m,hm,ps4,σT4,o4,s''.trans s4,q4⟩,f'.rt,f'.ro,f'.rp,f'.rq,f'.xb⟩
  | false =>
    rw [if_neg (by decide)] at q1 ⊢
    exact f'.nx H1 ps' σT' σ' (o'.grow s1) (L2.Same.refl _) q1
def sPut (i:Nat) (ti te:ET):STt:=fun DT σ=>∃ ts,σ[i]?=some (.own ts)∧te σ fun d=>ti σ fun x=>∃ n:Nat,x=.int n∧n < ts.length∧DT.nx (σ.set i (.own (ts.set n d)))
theorem st_put {i:Nat} {n ix e:Expr} {ti te:ET} {p2:Pos} (hn:PE X n (tVar i)) (hi:PEt X ix ti) (he:PEt X e te)
    (pa:∀ {v vi:TE},PE X e v→PE X ix vi→PS X (.Assign [.Subscript n ix p2] e pos) (tAsg v (gSub (tVar i) vi rSetL))):PSt X (.Assign [.Subscript n ix p2] e pos) (sPut i ti te):=by
  obtain ⟨v,pe,re⟩:=he
  obtain ⟨vi,pi,ri⟩:=hi
  refine ⟨_,pa pe pi,fun B p0 H ps σT σ DT DV o h f=>?_⟩
  obtain ⟨ts,e,h⟩:=h
  refine re B p0 H ps σT σ _ _ o h fun d x H1 s1 r1 q1=>?_
  have o1:=o.grow s1
  obtain ⟨q,xs,h1,h2,h3,h4,h5,h6⟩:=o1.own i ts e
  refine ⟨.ref q,h1,ri B p0 H1 ps σT σ _ _ o1 q1 fun d2 y H2 s2 r2 q2=>?_⟩
  obtain ⟨n,rfl,hlt,q2⟩:=q2
  cases r2
  have o2:=o1.grow s2
  have h6':Reps X.K (mask H2 ps) ts xs:=h6.same (mask_same s2)
  have hj:ixN xs.length (n:Int)=some n:=by
    rw [← h6.length]
    exact ixN_nat hlt
  refine ⟨q,xs,n,n,rfl,rfl,s2 _ _ h5,hj,?_⟩
  have hr:=h6'.put n (r1.same (mask_same s2))
  exact f.nx _ ps _ σ (o2.write (ys:=xs.set n x) e h1 hr) (((mask_same s1).trans (mask_same s2)).trans (by rw [mask_upd h2]; exact L2.Same.refl _)) q2
def gP3 (i j k:Nat):GT:=fun d σ Q=>∃ a b c,d=.tuple [a,b,c]∧Q (((σ.set i (.val a)).set j (.val b)).set k (.val c))
theorem gt_triple {i j k:Nat} {t:Expr} (h:PG X t (gTup X.K 3 (gCons (gName i) (gCons (gName j) (gCons (gName k) gNil))))):PGt X t (gP3 i j k) :=
  ⟨_,h,fun B p0 H ps σT σ d v Q QV o r h k=>by
    obtain ⟨a,b,c,rfl,h⟩:=h
    cases r with
    | @tuple p xs _ hq r =>
      cases r with
      | cons ra r =>
        cases r with
        | cons rb r =>
          cases r with
          | cons rc r =>
            cases r
            exact ⟨_,_,rfl,Same.seqT mask_le hq,rfl,_,_,rfl,_,_,rfl,_,_,rfl,rfl,k _ _ (((o.set ra).set rb).set rc) (fun n=>noOwn_set (noOwn_set (noOwn_set n _ _) _ _) _ _) h⟩⟩
def sUnpG (te:ET) (g:GT):STt:=fun DT σ=>te σ fun d=>g d σ DT.nx
theorem st_unpG {tg:Expr} {g:GT} (he:PEt X e te) (hg:PGt X tg g) (pa:∀ {v:TE} {gv:TG},PE X e v→PG X tg gv→PS X (.Assign [tg] e pos) (tAsg v gv)):PSt X (.Assign [tg] e pos) (sUnpG te g):=by
  obtain ⟨v,pe,re⟩:=he
  obtain ⟨gv,pg,rg⟩:=hg
  refine ⟨_,pa pe pg,fun B p0 H ps σT σ DT DV o h f=>re B p0 H ps σT σ _ _ o h fun d x H1 s1 r1 q1=>?_⟩
  exact rg B p0 H1 ps σT σ d x _ _ (o.grow s1) r1 q1 fun σT' σ' o' _ q'=>f.nx H1 ps _ _ o' (mask_same s1) q'
def eIf (c:TTt) (ta tb:ET):ET:=fun σ Q=>c σ fun b=>if b=true then ta σ Q else tb σ Q
theorem et_if {tc:TTt} (hc:PTt X c tc) (ha:PEt X a ta) (hb:PEt X b tb):PEt X (.IfExp c a b pos) (eIf tc ta tb):=by
  obtain ⟨vc,pc,rc⟩:=hc
  obtain ⟨va,pa,ra⟩:=ha
  obtain ⟨vb,pb,rb⟩:=hb
  refine ⟨_,pe_ifExp pc pa pb,fun B p0 H ps σT σ Q QV o h k=>rc B p0 H ps σT σ _ _ o h fun d H1 s1 q1=>?_⟩
  cases d with
  | true =>
    rw [if_pos rfl] at q1 ⊢
    exact ra B p0 H1 ps σT σ Q _ (o.grow s1) q1 fun d v H' s' r' q'=>k d v H' (s1.trans s') r' q'
  | false =>
    rw [if_neg (by decide)] at q1 ⊢
    exact rb B p0 H1 ps σT σ Q _ (o.grow s1) q1 fun d v H' s' r' q'=>k d v H' (s1.trans s') r' q'
def gInt (d:D) (Q:D→Prop):Prop:=match d with
  | .int i=>Q (.int i)
  | .bool b=>Q (.int (if b then 1 else 0))
  | _=>False
theorem c_int:CallT X (fun xs H Q=>(∃ i,xs=[.int i]∧Q (.int i) H) ∨ ∃ k,xs=[.bl k]∧Q (.int (if k then 1 else 0)) H) (f1 gInt):=c1 fun H ps d x Q QV live r h k=>by
  cases r with
  | int i=>exact .inl ⟨i,rfl,k _ _ H (L2.Same.refl H) (.int _) h⟩
  | bool b=>exact .inr ⟨b,rfl,k _ _ H (L2.Same.refl H) (.int _) h⟩
  | _=>exact h.elim
end
end TL

set_option Elab.async false
set_option linter.all false
set_option maxRecDepth 100000
namespace L2
open PySem PySem.Spec PyProof.Rows PySem.SeqAt
open AutoSeq1 (wpAny_loadPart')
section
variable {X:Cx} {pins:List (Addr × Obj)} {σ:St} {H:Hp} {s:Shared} {p:Addr}
theorem Inv.retold {u u':HO} (I:Inv X pins σ H s) (h:H p=some u) (nt:∀ xs,u ≠ .tup xs) (nf:∀ o v,u ≠ .frz o v) (nb:∀ ps,u ≠ .tbl ps) (no:∀ a,u ≠ .own a) (new:ObjOk X.prog X.w (upd H p u') s.heap p u'):Inv X pins σ (upd H p u') s:=by
  have ne:∀ b v,H b=some v→v ≠ u→upd H p u' b=some v:=fun b v e hv=>by
    rw [upd_ne fun z=>by rw [z,h] at e; exact hv (Option.some.inj e).symm]
    exact e
  have fin:=I.step (h':=s.heap) (H':=upd H p u') (g':=s.gens) (t':=s.toks) (d':=s.drawn) (ch:=[]) (fun b hb=>by cases hb) (fun b o _ _ _ e _=>e) (fun b o _ _ _ e _=>⟨o.slots,e⟩)
    (fun b o _ e n=>by rw [upd_ne fun z=>by rw [z,h] at n; cases n]; exact n) (fun b o _ e=>⟨o,e⟩) (fun b xs e=>ne _ _ e (fun z=>nt xs z.symm)) (fun b o v e=>ne _ _ e (fun z=>nf o v z.symm))
    (fun b ps e=>⟨#[],by rw [ne _ _ e (fun z=>nb ps z.symm)]; simp⟩) (fun m hm=>hm) (fun b v e=>?_) I.bare
  · exact fin
  · by_cases hb:b=p
    · subst hb; rw [upd_same] at e; cases e; exact new
    · rw [upd_ne hb] at e
      exact (I.hok b v e).stay (fun c w _ q=>q) (fun c q=>ne _ _ q fun z=>no b z.symm) fun c xs q=>ne _ _ q fun z=>nt xs z.symm
end
theorem extend_lst (l:Addr) (items:Array Value) (n:Nat) (b:Addr) (items2:Array Value) (n2:Nat) (dd:Option Addr) (sl:Array (Option Value)) (hc0:¬(!items.isEmpty && Builtin.List.listTooLong (items.size + items2.size))=true) (hc1:items.size≤sizeLine) (hs2:items.size + items2.size≤sizeLine + 1) :
    Meets (Builtin.«list.extend» ⟨[.ref l,.ref b],[]⟩) (fun _ R s=>s.heap.get? l=some { cls:=.type "list",dict:=none,data:=.seq items n,slots:=#[] }∧s.heap.get? b=some { cls:=.type "list",dict:=dd,data:=.seq items2 n2,slots:=sl }∧R (.ok (.ret Value.none)) { s with heap:=s.heap.update l (Obj.mapSeq fun x=>x++items2),toks:=s.toks }) :=
  .of_wp fun prog w A R s h=>by
    obtain ⟨hp,g,d,tk,os⟩:=s; obtain ⟨hl,hb,h⟩:=h; have f1:=AutoSeq1.idx_int; have f2:=AutoSeq1.sub_tuple_tuple; have f3:=AutoSeq1.sub_list_list; have f4:=AutoSeq1.sub_tuple_list; have f5:=AutoSeq1.sub_list_tuple
    have hz':(items++items2).size≤sizeLine + 1:=by rw [Array.size_append]; exact hs2
    wp_walk using (wpAny_updateSeq hl rfl (hz:=hc1) (_hz':=hz')),wpAny_loadPart' hl,wpAny_loadPart' hb
    exact ⟨_,rfl,h⟩
section
variable {X:Cx}
def rExtL (K:PySem.W.Frag):V→List V→Hp→VK→Prop:=fun x vs H Q=>∃ l b xs zs,x=.ref l∧vs=[.ref b]∧H l=some (.lst xs)∧SqL K H b zs∧xs.length + zs.length≤sizeLine∧Q .non (upd H l (.lst (xs++zs)))
theorem mt_extL:MtM X "list.extend" (rExtL X.K):=by
  intro pins s σ H x vs v us Q I rx rv h
  obtain ⟨l,b,xs,zs,rfl,rfl,hH,hB,hz,q⟩:=h
  cases rx
  obtain ⟨u,rfl,ru⟩:=rv.one
  cases ru
  obtain ⟨z,its,n,r,hl,e⟩:=I.lstM hH
  obtain ⟨its2,r2,⟨o,n2,e2,hc,hdn,hd⟩,z2⟩:=I.list hB
  have hl2:=r2.length
  have hsz:its.toArray.size + its2.toArray.size≤sizeLine:=by rw [List.size_toArray,List.size_toArray]; omega
  have hlong:¬ (!its.toArray.isEmpty && Builtin.List.listTooLong (its.toArray.size + its2.toArray.size))=true:=by
    rw [notLongL hsz,Bool.and_false]
    exact Bool.false_ne_true
  obtain ⟨oc,od,odt,osl⟩:=o
  cases hc
  cases hd
  refine call_meets F.slot_list_extend ⟨_,e,rfl⟩ F.entry_list_extend (F.args_list_extend_2 _ _) (extend_lst l its.toArray n b its2.toArray n2 od osl hlong (by rw [List.size_toArray]; omega) (by omega)) ⟨e,e2,?_⟩
  refine ⟨.non,_,I.lset (its':=its++its2) hH e (by simp) (r.append r2) ?_,rfl,q⟩
  rw [List.length_append]
  omega
end
end L2
namespace TL
open PySem PySem.Spec PyProof.Rows L2
section
variable {X:Cx} {a b c e:Expr} {es:List Expr} {ta tb te:ET} {pos:Pos}
def sExtL (i:Nat) (te:ET):STt:=fun DT σ=>∃ ts,σ[i]?=some (.own ts)∧te σ fun d=>∃ us,d=.list us∧ts.length + us.length≤100000∧DT.nx (σ.set i (.own (ts++us)))
theorem st_extL {i:Nat} {n e:Expr} {te:ET} {ap cp:Pos} (hn:PE X n (tVar i)) (he:PEt X e te) (hs:starEach [e] X.env=(false,eval e X.env)::starEach [] X.env:=by rfl)
    (pb:∀ {ta:TA},PA X [e] ta→PS X (.Expr (.Call (.Attribute n "extend" ap) [e] [] cp) pos) (tDrop (tBM X.K "list" (rExtL X.K) (tVar i) ta))):PSt X (.Expr (.Call (.Attribute n "extend" ap) [e] [] cp) pos) (sExtL i te):=by
  obtain ⟨v,p,r⟩:=he
  refine ⟨_,pb (pa_cons p pa_nil hs),fun B p0 H ps σT σ DT DV o h f=>?_⟩
  obtain ⟨ts,e,h⟩:=h
  obtain ⟨q,xs,h1,h2,h3,h4,h5,h6⟩:=o.own i ts e
  refine ⟨.ref q,h1,.inl ⟨rfl,xs,SqL.of h5⟩,r B p0 H ps σT σ _ _ o h fun d x H1 s1 r1 q1=>?_⟩
  obtain ⟨us,rfl,hz,q1⟩:=q1
  have o1:=o.grow s1
  cases r1 with
  | @list p2 zs _ hq rs =>
    refine ⟨q,p2,xs,zs,rfl,rfl,s1 _ _ h5,L2.Same.seq mask_le hq,line5 (by rw [← h6.length,← rs.length]; exact hz),?_⟩
    have hr:Reps X.K (mask H1 ps) (ts++us) (xs++zs):=(h6.same (mask_same s1)).append rs
    exact f.nx _ ps _ σ (o1.write (ys:=xs++zs) e h1 hr) ((mask_same s1).trans (by rw [mask_upd h2]; exact L2.Same.refl _)) q1
theorem fn_never {P:Program} {w:World} {K:PySem.W.Frag} {mg:Str→Option Value} {base:Heap} {k:Nat} {f:Addr} {fd:FuncData} {pn:List Str}:FnOk P w K mg base CX0 k f fd pn (liftSp K fun _ _=>False) :=
  ⟨fun vs H Q E ⟨_,_,_,_,_,h,_⟩=>h.elim,fun A outer s H args us vs Q E _ _ _ _ ⟨_,_,_,_,_,h,_⟩=>h.elim⟩
theorem fn_neverF {P:Program} {w:World} {K:PySem.W.Frag} {mg:Str→Option Value} {base:Heap} {k:Nat} {f:Addr} {fd:FuncData} {pn:List Str}:FnOk P w K mg base CX0 k f fd pn (liftSpF K fun _ _=>False) :=
  ⟨fun vs H Q E ⟨_,_,_,_,_,h,_⟩=>h.elim,fun A outer s H args us vs Q E _ _ _ _ ⟨_,_,_,_,_,h,_⟩=>h.elim⟩
theorem fn_imp {P:Program} {w:World} {K:PySem.W.Frag} {mg:Str→Option Value} {base:Heap} {k:Nat} {f:Addr} {fd:FuncData} {pn:List Str} {sp sp':SpT} (F:FnOk P w K mg base CX0 k f fd pn (liftSp K sp)) (h:∀ ds Q,sp' ds Q→sp ds Q):FnOk P w K mg base CX0 k f fd pn (liftSp K sp') :=
  F.imp fun vs H Q E ⟨ps,ds,QD,h1,h2,h3,h4⟩=>⟨ps,ds,QD,h1,h2,h ds QD h3,h4⟩
end
end TL

set_option Elab.async false
set_option linter.all false
set_option maxRecDepth 100000
namespace L2
open PySem PySem.Spec PyProof.Rows
section
variable {X:Cx}
end
end L2
namespace TL
open PySem PySem.Spec PyProof.Rows L2
section
variable {X:Cx} {a b c e:Expr} {es:List Expr} {ta tb te:ET} {pos:Pos}
theorem ints_reps' {K:PySem.W.Frag} {H:Hp}:∀ ns:List Int,Reps K H (ns.map PyData.int) (ns.map V.int)
  | []=>.nil
  | n::ns=>.cons (.int n) (ints_reps' ns)
end
end TL

set_option Elab.async false
set_option linter.all false
set_option maxRecDepth 100000
namespace TL
open PySem PySem.Spec PyProof.Rows L2
section
variable {X:Cx} {a b c e:Expr} {es:List Expr} {ta tb te:ET} {pos:Pos}
end
end TL

set_option Elab.async false
set_option linter.all false
set_option maxRecDepth 100000
namespace L2
open PySem PySem.Spec PyProof.Rows PySem.SeqAt
section
variable {X:Cx}
end
section
variable {P:Program} {w:World} {A:Around} {E:Value→Shared→Prop} {s:Shared}
end
section
variable {X:Cx}
end
end L2
namespace TL
open PySem PySem.Spec PyProof.Rows L2 PySem.SeqAt
variable {K:PySem.W.Frag}
section
variable {X:Cx} {a b c e:Expr} {es:List Expr} {ta tb te:ET} {pos:Pos}
def rLIndex (K:PySem.W.Frag):V→List V→Hp→VK→Prop:=fun x xs H Q=>∃ (y:V) (ts:List D) (d:D) (j:Nat),xs=[y]∧Rep K H (.list ts) x∧Rep K H d y∧okIx ts d j∧j < 1000000∧Q (.int j) H
theorem mt_lindexU (hu:X.A.units + 200 < cLine):MtR X "list.index" (rLIndex X.K):=by
  intro pins s σ H x xs v us Q I rx rv h
  obtain ⟨y,ts,d,j,rfl,r1,r2,⟨c1,c2,hm,⟨t,ht,he⟩,hno⟩,hj0,q⟩:=h
  obtain ⟨u,rfl,ru⟩:=rv.one
  obtain ⟨as,h1⟩:=Rep.reads I (show (PyData.list ts).hasDict=false from noDictAll c1) r1 rx
  obtain ⟨bs,h2⟩:=Rep.reads I (noDict c2) r2 ru
  cases h1 with
  | @list l o items n _ as' h3 h4 h5 h6 =>
    have hmap:=readsAll_map ts items.toList _ c1 h6
    have hlen:items.size=ts.length:=by rw [← hmap,List.length_map,Array.length_toList]
    have hjl:j < ts.length:=(List.getElem?_eq_some_iff.mp ht).1
    have hj:j < items.size:=by omega
    have rd:∀ (m:Nat) (hm:m < items.size),ts[m]?=some (readOf s.heap items[m]):=fun m hm=>by
      rw [← hmap,List.getElem?_map]
      simp [hm]
    obtain ⟨oc,od,odt,osl⟩:=o
    cases h4
    cases h5
    refine call_meets F.slot_list_index ⟨_,h3,rfl⟩ F.entry_list_index (F.args_list_index_2 _ _) (list_indexAt _ items _ od osl u (fun y=>PyData.eqv (readOf s.heap y) d) j hj (by omega) ?_ ?_) ⟨h3,items_eqAt h6 h2 c1 c2 (by have:=hu; omega),?_⟩
    · have:=rd j hj
      rw [ht] at this
      rw [← Option.some.inj this]; exact he
    · intro m hm' hlt
      exact hno m _ hlt (rd m hm')
    · exact ⟨.int j,H,I.tok _,⟨_,rfl⟩,q⟩
theorem mt_lindex {k:Nat} (hr:Room k X.A):MtR X "list.index" (rLIndex X.K):=mt_lindexU (by have:=hr.un; omega)
def eLIndex (te:ET) (t:AT):ET:=fun σ Q=>te σ fun d=>∃ ts,d=.list ts∧t σ fun ds=>∃ (x:D) (j:Nat),ds=[x]∧okIx ts x j∧j < 1000000∧Q (.int j)
theorem et_lindex {n:Expr} {ap:Pos} {t:AT} (hn:PEt X n te) (ha:PAt X (e::es) t)
    (pc:∀ {v:TE} {ta:TA},PE X n v→PA X (e::es) ta→PE X (.Call (.Attribute n "index" ap) (e::es) [] pos) (tBM X.K "list" (rLIndex X.K) v ta)):PEt X (.Call (.Attribute n "index" ap) (e::es) [] pos) (eLIndex te t):=by
  obtain ⟨v,pe,re⟩:=hn
  obtain ⟨va,pa,ra⟩:=ha
  refine ⟨_,pc pe pa,fun B p0 H ps σT σ Q QV o h k=>re B p0 H ps σT σ _ _ o h fun d x H1 s1 r1 q1=>?_⟩
  obtain ⟨ts,rfl,q1⟩:=q1
  cases r1 with
  | @list p xs _ hq rs =>
    refine ⟨.inl ⟨rfl,_,L2.Same.seq mask_le hq⟩,ra B p0 H1 ps σT σ _ _ (o.grow s1) q1 fun ds ys H2 s2 r2 q2=>?_⟩
    obtain ⟨d,j,rfl,hok,hj,q⟩:=q2
    cases r2 with
    | cons r3 r4 =>
      cases r4
      exact ⟨_,ts,d,j,rfl,(Rep.list hq rs).same ((mask_same s2).trans mask_le),r3.same mask_le,hok,hj,k _ _ H2 (s1.trans s2) (.int _) q⟩
end
end TL
namespace TL
open PySem
end TL
namespace TL
open PySem PySem.Spec PyProof.Rows L2
section
variable {fr:List (Option Nat)} {ti:IT} {tt:TTt} {te:ET} {σ:List Sl} {Q:D→Prop} {ts:List D}
end
end TL

set_option Elab.async false
set_option linter.all false
namespace TL
open PySem PySem.Builtin PySem.Builtin.Str PySem.StrLaws
def jn (c:Nat):List (List Nat)→List Nat
  | []=>[]
  | [p]=>p
  | p::q::r=>p++c::jn c (q::r)
end TL

set_option Elab.async false
set_option linter.all false
set_option maxRecDepth 100000
namespace L2
open PySem PySem.Spec PyProof.Rows PySem.Builtin.Str
section
variable {X:Cx}
end
end L2
namespace TL
open PySem PySem.Spec PyProof.Rows L2
section
variable {X:Cx} {a b c e:Expr} {es:List Expr} {ta tb te:ET} {pos:Pos}
theorem st_no {s:Stmt}:PSt X s (fun _ _=>False):=⟨fun _ _ _=>False,fun _ _ _ _ _ _ h=>h.elim,fun _ _ _ _ _ _ _ _ _ h _=>h.elim⟩
end
end TL

set_option Elab.async false
set_option linter.all false
set_option maxRecDepth 100000
namespace L2
open PySem PySem.Spec PyProof.Rows PySem.Builtin
section
variable {X:Cx} {e:Expr} {pos:Pos}
end
end L2
namespace TL
open PySem PySem.Spec PyProof.Rows L2
section
variable {X:Cx} {a b c e:Expr} {es:List Expr} {ta tb te:ET} {pos:Pos}
end
end TL

set_option Elab.async false
set_option linter.all false
set_option maxRecDepth 100000
namespace L2
open PySem PySem.Spec PyProof.Rows
section
variable {X:Cx} {pins:List (Addr × Obj)} {σ:St} {H:Hp} {s:Shared} {p q:Addr}
theorem upd_id {u:HO} (h:H p=some u):upd H p u=H:=by
  funext b
  by_cases e:b=p
  · subst e; rw [upd_same,h]
  · rw [upd_ne e]
theorem tape_stable:∀ h1 h2:Heap,TL.tapeAt p q h1→(∀ o,h1.get? p=some o→h2.get? p=some o)→TL.tapeAt p q h2:=fun h1 h2 ⟨a,b,c,ta,tb,tc,n,e,r⟩ k=>⟨a,b,c,ta,tb,tc,n,k _ e,r⟩
def tapeL (q:Addr) (a b c:Int):HO:=.lst [.ref q,.int a,.int b,.int c]
theorem Inv.openTape (I:Inv X pins σ H s) (h:H p=some (.ext (TL.tapeAt p q))):∃ a b c:Int,0≤a∧(c=0 ∨ c=1)∧Inv X pins σ (upd H p (tapeL q a b c)) s:=by
  obtain ⟨⟨a,b,c,ta,tb,tc,n,e,ha,hc⟩,_⟩:=I.hok p _ h
  exact ⟨a,b,c,ha,hc,I.retold h (fun xs z=>by cases z) (fun o v z=>by cases z) (fun ps z=>by cases z) (fun a z=>by cases z) ⟨Nat.le_of_ble_eq_true rfl,_,n,.cons rfl (.cons ⟨ta,rfl⟩ (.cons ⟨tb,rfl⟩ (.cons ⟨tc,rfl⟩ .nil))),e⟩⟩
theorem Inv.closeTape {a b c:Int} (I:Inv X pins σ H s) (h:H p=some (tapeL q a b c)) (ha:0≤a) (hc:c=0 ∨ c=1):Inv X pins σ (upd H p (.ext (TL.tapeAt p q))) s:=by
  obtain ⟨z,its,n,r,e⟩:=I.hok p _ h
  cases r with
  | cons r0 r=>cases r with
    | cons r1 r=>cases r with
      | cons r2 r=>cases r with
        | cons r3 r =>
          cases r
          cases r0
          obtain ⟨ta,rfl⟩:=r1
          obtain ⟨tb,rfl⟩:=r2
          obtain ⟨tc,rfl⟩:=r3
          exact I.retold h (fun xs z=>by cases z) (fun o v z=>by cases z) (fun ps z=>by cases z) (fun a z=>by cases z) ⟨⟨a,b,c,ta,tb,tc,n,e,ha,hc⟩,⟨_,e⟩,tape_stable⟩
theorem pe_tape {e:Expr} {te:TE} (i:Nat) (h:PE X e te):PE X e (fun σ H Q=>∃ p q:Addr,σ[i]?=some (some (.ref p))∧H p=some (.ext (TL.tapeAt p q))∧∀ a b c:Int,0≤a→(c=0 ∨ c=1) →
    te σ (upd H p (tapeL q a b c)) fun v H'=>H'=upd H p (tapeL q a b c)∧Q v H):=by
  intro pins s σ H Q I ⟨p,q,_,hp,hq⟩
  obtain ⟨a,b,c,ha,hc,I1⟩:=I.openTape hp
  refine thn (h pins s σ _ _ I1 (hq a b c ha hc)) fun u s' ⟨v,H',I',r,e,q'⟩=>?_
  subst e
  have I2:=I'.closeTape upd_same ha hc
  rw [upd_upd,upd_id hp] at I2
  exact ⟨v,H,I2,r,q'⟩
theorem pg_tape {tg:Expr} {g:TG} (i:Nat) (h:PG X tg g):PG X tg (fun v σ H Q=>∃ p q:Addr,σ[i]?=some (some (.ref p))∧H p=some (.ext (TL.tapeAt p q))∧∀ a b c:Int,0≤a→(c=0 ∨ c=1) →
    g v σ (upd H p (tapeL q a b c)) fun σ' H'=>(∃ a b c:Int,0≤a∧(c=0 ∨ c=1)∧H'=upd H p (tapeL q a b c))∧Q σ' H):=by
  intro pins s σ H v u Q I rv ⟨p,q,_,hp,hq⟩
  obtain ⟨a,b,c,ha,hc,I1⟩:=I.openTape hp
  refine thn (h pins s σ _ v u _ I1 rv (hq a b c ha hc)) fun _ s' ⟨σ',H',I',⟨a,b,c,ha,hc,e⟩,q'⟩=>?_
  subst e
  have I2:=I'.closeTape upd_same ha hc
  rw [upd_upd,upd_id hp] at I2
  exact ⟨σ',H,I2,q'⟩
theorem pe_mkTape {e:Expr} {te:TE} (h:PE X e te):PE X e (fun σ H Q=>te σ H fun v H'=>∃ (p q:Addr) (a b c:Int),v=.ref p∧H' p=some (tapeL q a b c)∧0≤a∧(c=0 ∨ c=1)∧Q (.ref p) (upd H' p (.ext (TL.tapeAt p q)))):=by
  intro pins s σ H Q I hq
  refine thn (h pins s σ H _ I hq) fun u s' ⟨v,H',I',r,q⟩=>?_
  obtain ⟨p,q,a,b,c,rfl,e,ha,hc,q'⟩:=q
  exact ⟨.ref p,_,I'.closeTape e ha hc,r,q'⟩
end
end L2
namespace TL
open PySem PySem.Spec PyProof.Rows L2
section
variable {X:Cx} {a b c e:Expr} {es:List Expr} {ta tb te:ET} {pos:Pos}
def tapeD (ns:List Int):D:=.dict [(.none,.list (ns.map PyData.int))]
theorem rep_tape {K:PySem.W.Frag} {H:Hp} {ns:List Int} {v:V} (r:Rep K H (tapeD ns) v):∃ p q:Addr,v=.ref p∧H p=some (.ext (tapeAt p q))∧SqL K H q (ns.map V.int):=by
  unfold tapeD at r
  generalize hg:(PyData.dict [(.none,.list (ns.map PyData.int))])=d at r
  cases r with
  | @tape p q ms h g =>
    injection hg with hg; injection hg with hg; injection hg with _ hg; injection hg with hg
    have e:ns=ms:=by
      have:=congrArg (List.map fun d:D=>match d with | .int i=>i | _=>0) hg
      simpa [List.map_map,Function.comp_def] using this
    subst e
    exact ⟨p,q,rfl,h,g⟩
  | _=>cases hg
def eTape (i k:Nat):ET:=fun σ Q=>∃ ns,σ[i]?=some (.val (tapeD ns))∧match k with
  | 0=>Q (.list (ns.map PyData.int))
  | 1=>∀ a:Int,0≤a→Q (.int a)
  | 2=>∀ b:Int,Q (.int b)
  | 3=>∀ c:Int,(c=0 ∨ c=1)→Q (.int c)
  | _=>False
theorem et_tape {n ix:Expr} {i:Nat} (k:Nat) (hp:PE X (.Subscript n ix pos) (tOp (rIx X.K) (tVar i) (tC (.int k)))):PEt X (.Subscript n ix pos) (eTape i k):=by
  refine ⟨_,pe_tape i hp,fun B p0 H ps σT σ Q QV o h kk=>?_⟩
  obtain ⟨ns,e,h⟩:=h
  obtain ⟨v,hv,r⟩:=o.val i _ e
  obtain ⟨p,q,rfl,hH,hq⟩:=rep_tape r
  refine ⟨p,q,hv,mask_le _ _ hH,fun a b c ha hc=>⟨.ref p,hv,?_⟩⟩
  have fin:∀ (x:V) (d:D),atI [V.ref q,.int a,.int b,.int c] (k:Int)=some x→Rep X.K (mask H ps) d x→Q d→rIx X.K (.ref p) (.int (k:Int)) (upd H p (tapeL q a b c)) (fun v H'=>H'=upd H p (tapeL q a b c)∧QV v H):=fun x d hx hr hQ =>
    .inl ⟨p,_,_,x,rfl,rfl,SqL.of upd_same,hx,rfl,kk d x H (L2.Same.refl H) hr hQ⟩
  match k,h with
  | 0,h=>exact fin _ _ rfl (.list hq (ints_reps' ns)) h
  | 1,h=>exact fin _ _ rfl (.int a) (h a ha)
  | 2,h=>exact fin _ _ rfl (.int b) (h b)
  | 3,h=>exact fin _ _ rfl (.int c) (h c hc)
def sTapePut (i k:Nat) (te:ET):STt:=fun DT σ=>te σ fun d=>(∃ ns,σ[i]?=some (.val (tapeD ns)))∧(match k with | 1=>∃ a:Int,d=.int a∧0≤a | 2=>∃ b:Int,d=.int b | _=>False)∧DT.nx σ
theorem st_tapePut {i:Nat} {n ix e:Expr} {p2:Pos} (k:Nat) (he:PEt X e te) (hg:PG X (.Subscript n ix p2) (gSub (tVar i) (tC (.int k)) rSetL))
    (pa:∀ {v:TE} {g:TG},PE X e v→PG X (.Subscript n ix p2) g→PS X (.Assign [.Subscript n ix p2] e pos) (tAsg v g)):PSt X (.Assign [.Subscript n ix p2] e pos) (sTapePut i k te):=by
  obtain ⟨v,pe,re⟩:=he
  refine ⟨_,pa pe (pg_tape i hg),fun B p0 H ps σT σ DT DV o h f=>?_⟩
  refine re B p0 H ps σT σ _ _ o h fun d x H1 s1 r1 q1=>?_
  have o1:=o.grow s1
  obtain ⟨⟨ns,e⟩,hd,q1⟩:=q1
  obtain ⟨v,hv,r⟩:=o1.val i _ e
  obtain ⟨p,q,rfl,hH,hq⟩:=rep_tape r
  refine ⟨p,q,hv,mask_le _ _ hH,fun a b c ha hc=>⟨.ref p,hv,?_⟩⟩
  have nx:=f.nx _ ps _ σ o1 (mask_same s1) q1
  match k,hd with
  | 1,⟨a',hd,ha'⟩ =>
    subst hd; cases r1
    exact ⟨p,_,_,1,rfl,rfl,upd_same,rfl,⟨a',b,c,ha',hc,upd_upd⟩,nx⟩
  | 2,⟨b',hd⟩ =>
    subst hd; cases r1
    exact ⟨p,_,_,2,rfl,rfl,upd_same,rfl,⟨a,b',c,ha,hc,upd_upd⟩,nx⟩
def eMkTape (t:FT):ET:=fun σ Q=>t σ fun ts=>∃ (ns:List Int) (c:Int),ts=[.list (ns.map PyData.int),.int 0,.int 0,.int c]∧(c=0 ∨ c=1)∧Q (tapeD ns)
theorem et_mkTape {t:FT} (h:PFt X e t):PEt X e (eMkTape t):=by
  obtain ⟨v,p,r⟩:=h
  refine ⟨_,pe_mkTape p,fun B p0 H ps σT σ Q QV o h k=>r B p0 H ps σT σ _ _ o h fun ts p xs H' s hp hx rs q=>?_⟩
  obtain ⟨ns,c,rfl,hc,q⟩:=q
  cases rs with
  | cons r0 rs=>cases rs with
    | cons r1 rs=>cases rs with
      | cons r2 rs=>cases rs with
        | cons r3 rs =>
          cases rs; cases r1; cases r2; cases r3
          cases r0 with
          | @list l xs _ hq hr =>
            have e:=reps_ints hr
            subst e
            refine ⟨p,l,0,0,c,rfl,hx,Int.le_refl 0,hc,k (tapeD ns) _ _ (fun b u eb=>?_) (.tape (mask_at (fresh_notin o.live hp) upd_same) (L2.Same.seq (fun b u eb=>?_) hq)) q⟩
            · rw [upd_ne fun z=>by rw [z,hp] at eb; cases eb]
              exact s b u eb
            · unfold mask at eb ⊢
              by_cases hb:b ∈ p::ps
              · rw [if_pos hb] at eb; cases eb
              · rw [if_neg hb] at eb
                rw [if_neg fun z=>hb (List.mem_cons_of_mem _ z),upd_ne fun z=>hb (by rw [z]; exact List.mem_cons_self ..)]
                exact eb
end
end TL
namespace TL
open PySem PySem.Spec PyProof.Rows L2
section
variable {X:Cx} {a b c e:Expr} {es:List Expr} {ta tb te:ET} {pos:Pos}
theorem fn_impF {P:Program} {w:World} {K:PySem.W.Frag} {mg:Str→Option Value} {base:Heap} {k:Nat} {f:Addr} {fd:FuncData} {pn:List Str} {sp sp':SpF} (F:FnOk P w K mg base CX0 k f fd pn (liftSpF K sp)) (h:∀ ds Q,sp' ds Q→sp ds Q):FnOk P w K mg base CX0 k f fd pn (liftSpF K sp') :=
  F.imp fun vs H Q E ⟨ps,ds,QD,h1,h2,h3,h4⟩=>⟨ps,ds,QD,h1,h2,h ds QD h3,h4⟩
def constSs:List Expr→Option (List Str)
  | []=>some []
  | .Constant (.str z) _ _::es=>(constSs es).map (z::·)
  | _=>none
theorem at_consts:∀ {es:List Expr} {zs:List Str},constSs es=some zs→PAt X es (fun _ Q=>Q (zs.map PyData.str))
  | [],zs,h=>by
    cases h
    exact at_nil
  | .Constant (.str z) k p::es,zs,h=>by
    have h':(constSs es).map (z::·)=some zs:=h
    obtain ⟨ys,hy,rfl⟩:=Option.map_eq_some_iff.mp h'
    exact at_cons et_str (at_consts hy)
theorem st_setN {i:Nat} {x:Str} {pos':Pos} (hN:X.N.Nodup) (hi:X.N[i]?=some x) (hx:Loc X.env.scope x) (he:PEt X e te) (hs:swapsWith e (some (.Name x pos')) pos.line X.env=pure false:=by rfl) (hf:X.fn x=true ∨ X.env.scope.names.lookup x=some .local:=by first | exact .inl rfl | exact .inr rfl | assumption) :
    PSt X (.Assign [.Name x pos'] e pos) (sSet i te):=st_set he fun h=>ps_set hN hi hx h hs hf
end
end TL

set_option Elab.async false
set_option linter.all false
set_option maxRecDepth 100000
namespace L2
open PySem PySem.Spec PyProof.Rows
section
variable {P:Program} {w:World} {A:Around} {E:Value→Shared→Prop} {s:Shared}
end
section
variable {X:Cx}
end
end L2
namespace TL
open PySem PySem.Spec PyProof.Rows L2
section
variable {X:Cx} {a b:Expr} {pos:Pos}
end
end TL

set_option Elab.async false
set_option linter.all false
set_option maxRecDepth 100000
namespace L2
open PySem PySem.Spec PyProof.Rows PyProof
section
variable {P:Program} {w:World} {A:Around} {E:Value→Shared→Prop} {s:Shared}
end
section
variable {X:Cx}
end
end L2
namespace TL
open PySem PySem.Spec PyProof.Rows L2
section
variable {X:Cx} {a b c e:Expr} {es:List Expr} {ta tb te:ET} {pos:Pos}
end
end TL

set_option Elab.async false
set_option linter.all false
set_option maxRecDepth 100000
namespace L2
open PySem PySem.Spec PyProof.Rows

section
variable {κ:Type} [DecidableEq κ]
def valV (kvs:List (κ × V)) (k:κ):Option V:=(kvs.find? fun kv=>decide (kv.1=k)).map (·.2)
def putK (kvs:List (κ × V)) (k:κ) (v:V):List (κ × V) :=
  if (kvs.any fun kv=>decide (kv.1=k))=true then kvs.map (fun kv=>if kv.1=k then (kv.1,v) else kv) else kvs++[(k,v)]
def dropK (kvs:List (κ × V)) (k:κ):List (κ × V):=kvs.filter fun kv=>decide (kv.1 ≠ k)

theorem valV_pos {p:κ × V} {r:List (κ × V)} {k:κ} (e:p.1=k):valV (p::r) k=some p.2:=by simp [valV,List.find?_cons,e]
theorem valV_neg {p:κ × V} {r:List (κ × V)} {k:κ} (e:¬ p.1=k):valV (p::r) k=valV r k:=by simp [valV,List.find?_cons,e]
theorem valV_any (k:κ):∀ kvs:List (κ × V),(kvs.any fun kv=>decide (kv.1=k))=(valV kvs k).isSome
  | []=>rfl
  | p::r=>by
    rw [List.any_cons]
    by_cases e:p.1=k
    · simp only [valV_pos e,decide_eq_true e,Bool.true_or,Option.isSome_some]
    · rw [valV_neg e,decide_eq_false e,Bool.false_or]; exact valV_any k r
theorem RelO.isSome_eq {o:Option V} {u:Option Value} (r:RelO o u):o.isSome=u.isSome:=by
  cases o with
  | none=>cases u with
    | none=>rfl
    | some _=>exact (show False from r).elim
  | some _=>cases u with
    | none=>exact (show False from r).elim
    | some _=>rfl
theorem RelO.getD {o:Option V} {u:Option Value} {d:V} {d':Value} (r:RelO o u) (rd:RelV d d'):RelV (o.getD d) (u.getD d'):=by
  cases o with
  | none=>cases u with
    | none=>exact rd
    | some _=>exact (show False from r).elim
  | some _=>cases u with
    | none=>exact (show False from r).elim
    | some _=>exact r

theorem KV.val {kvs:List (κ × V)} {vs:List (κ × Value)} (r:KV kvs vs) (k:κ):RelO (valV kvs k) (valueAt vs k):=by
  unfold KV at r
  induction r with
  | nil=>exact True.intro
  | @cons p q ps qs h t ih =>
    obtain ⟨h1,h2⟩:=h
    by_cases e:p.1=k
    · have e':q.1=k:=h1.symm.trans e
      have b:valueAt (q::qs) k=some q.2:=by simp [valueAt,List.find?_cons,e']
      rw [valV_pos e,b]; exact h2
    · have e':¬ q.1=k:=fun z=>e (h1.trans z)
      have b:valueAt (q::qs) k=valueAt qs k:=by simp [valueAt,List.find?_cons,e']
      rw [valV_neg e,b]; exact ih
theorem KV.any {kvs:List (κ × V)} {vs:List (κ × Value)} (r:KV kvs vs) (k:κ):(kvs.any fun kv=>decide (kv.1=k))=vs.any fun kv=>decide (kv.1=k):=by
  unfold KV at r
  induction r with
  | nil=>rfl
  | cons h t ih=>rw [List.any_cons,List.any_cons,ih,h.1]
theorem KV.repl {kvs:List (κ × V)} {vs:List (κ × Value)} (r:KV kvs vs) (k:κ) {y:V} {u:Value} (ry:RelV y u) :
    KV (kvs.map fun kv=>if kv.1=k then (kv.1,y) else kv) (vs.map fun kv=>if kv.1=k then (kv.1,u) else kv):=by
  unfold KV at r ⊢
  induction r with
  | nil=>exact .nil
  | @cons p q ps qs h t ih =>
    rw [List.map_cons,List.map_cons]
    refine .cons ?_ ih
    obtain ⟨h1,h2⟩:=h
    by_cases e:p.1=k
    · rw [if_pos e,if_pos (h1.symm.trans e)]; exact ⟨h1,ry⟩
    · rw [if_neg e,if_neg (fun z=>e (h1.trans z))]; exact ⟨h1,h2⟩
theorem KV.put {kvs:List (κ × V)} {vs:List (κ × Value)} (r:KV kvs vs) (k:κ) {y:V} {u:Value} (ry:RelV y u):KV (putK kvs k y) (stored vs k u):=by
  unfold putK stored
  rw [r.any k]
  by_cases e:(vs.any fun kv=>decide (kv.1=k))=true
  · rw [if_pos e,if_pos e]; exact r.repl k ry
  · rw [if_neg e,if_neg e]; exact Paired.snoc r ⟨rfl,ry⟩
theorem KV.drop {kvs:List (κ × V)} {vs:List (κ × Value)} (r:KV kvs vs) (k:κ):KV (dropK kvs k) (without vs k):=by
  unfold KV at r ⊢
  unfold dropK without
  induction r with
  | nil=>exact .nil
  | @cons p q ps qs h t ih =>
    obtain ⟨h1,h2⟩:=h
    rw [List.filter_cons,List.filter_cons]
    by_cases e:p.1=k
    · have a:¬ decide (p.1 ≠ k)=true:=by simp [e]
      have b:¬ decide (q.1 ≠ k)=true:=by simp [h1.symm.trans e]
      rw [if_neg a,if_neg b]; exact ih
    · have e':¬ q.1=k:=fun z=>e (h1.trans z)
      have a:decide (p.1 ≠ k)=true:=by simp [e]
      have b:decide (q.1 ≠ k)=true:=by simp [e']
      rw [if_pos a,if_pos b]; exact .cons ⟨h1,h2⟩ ih
theorem KV.keys {kvs:List (κ × V)} {vs:List (κ × Value)} (r:KV kvs vs):kvs.map (·.1)=vs.map (·.1):=by
  unfold KV at r
  induction r with
  | nil=>rfl
  | cons h t ih=>rw [List.map_cons,List.map_cons,ih,h.1]
theorem KV.length {kvs:List (κ × V)} {vs:List (κ × Value)} (r:KV kvs vs):kvs.length=vs.length:=Paired.length r
end


abbrev KT (H:Hp):List (List Key × V)→List (List Key × Addr × Value)→Prop:=Paired fun p q=>p.1=q.1∧H q.2.1=some (.tup (p.1.map kV))∧RelV p.2 q.2.2
theorem KT.val {H:Hp} {kvs:List (List Key × V)} {xs:List (List Key × Addr × Value)} (r:KT H kvs xs) (k:List Key):RelO (valV kvs k) ((atKey xs k).map (·.2)):=by
  induction r with
  | nil=>exact True.intro
  | @cons p q ps qs h t ih =>
    obtain ⟨h1,_,h2⟩:=h
    by_cases e:p.1=k
    · have e':q.1=k:=h1.symm.trans e
      have b:atKey (q::qs) k=some q.2:=by simp [atKey,List.find?_cons,e']
      rw [valV_pos e,b]; exact h2
    · have e':¬ q.1=k:=fun z=>e (h1.trans z)
      have b:atKey (q::qs) k=atKey qs k:=by simp [atKey,List.find?_cons,e']
      rw [valV_neg e,b]; exact ih
theorem KT.repl {H:Hp} {kvs:List (List Key × V)} {xs:List (List Key × Addr × Value)} (r:KT H kvs xs) (k:List Key) {y:V} {u:Value} (ry:RelV y u) :
    KT H (kvs.map fun kv=>if kv.1=k then (kv.1,y) else kv) (xs.map (putAt k u)):=by
  induction r with
  | nil=>exact .nil
  | @cons p q ps qs h t ih =>
    rw [List.map_cons,List.map_cons]
    refine .cons ?_ ih
    obtain ⟨h1,h2,h3⟩:=h
    unfold putAt
    by_cases e:p.1=k
    · rw [if_pos e,if_pos (h1.symm.trans e)]; exact ⟨h1,h2,ry⟩
    · rw [if_neg e,if_neg (fun z=>e (h1.trans z))]; exact ⟨h1,h2,h3⟩
theorem KT.put {H:Hp} {kvs:List (List Key × V)} {xs:List (List Key × Addr × Value)} (r:KT H kvs xs) (k:List Key) {b:Addr} {y:V} {u:Value} (hb:H b=some (.tup (k.map kV))) (ry:RelV y u) :
    KT H (putK kvs k y) (storedH xs k b u):=by
  have e:(kvs.any fun kv=>decide (kv.1=k))=(atKey xs k).isSome:=by
    rw [valV_any,(r.val k).isSome_eq,Option.isSome_map]
  unfold putK storedH
  rw [e]
  by_cases q:(atKey xs k).isSome=true
  · rw [if_pos q,if_pos q]; exact r.repl k ry
  · rw [if_neg q,if_neg q]; exact Paired.snoc r ⟨rfl,hb,ry⟩
theorem KT.keeps {H H':Hp} {kvs:List (List Key × V)} {xs:List (List Key × Addr × Value)} (r:KT H kvs xs) (ht:∀ b ys,H b=some (.tup ys)→H' b=some (.tup ys)):KT H' kvs xs :=
  Paired.mapP r fun _ _ z=>⟨z.1,ht _ _ z.2.1,z.2.2⟩

section
variable {P:Program} {w:World} {H:Hp} {h:Heap} {a:Addr}
end

def DGet (H:Hp) (a:Addr) (y:V) (r:Option V):Prop :=
  (∃ kvs k,Rd H a (.dK kvs)∧y=kV k∧r=valV kvs k) ∨ ∃ kvs k b,Rd H a (.dT kvs)∧y=.ref b∧H b=some (.tup (k.map kV))∧r=valV kvs k
def DPut (H:Hp) (a:Addr) (y v:V) (H':Hp):Prop :=
  (∃ kvs k,H a=some (.dK kvs)∧y=kV k∧kvs.length < sizeLine∧H'=upd H a (.dK (putK kvs k v))) ∨
  ∃ kvs k b,H a=some (.dT kvs)∧y=.ref b∧H b=some (.tup (k.map kV))∧kvs.length < sizeLine∧H'=upd H a (.dT (putK kvs k v))
theorem DGet.k {H:Hp} {a:Addr} {kvs:List (Key × V)} {k:Key} (e:H a=some (.dK kvs)):DGet H a (kV k) (valV kvs k):=.inl ⟨kvs,k,.inl e,rfl,rfl⟩
theorem DGet.t {H:Hp} {a b:Addr} {kvs:List (List Key × V)} {k:List Key} (e:H a=some (.dT kvs)) (eb:H b=some (.tup (k.map kV))):DGet H a (.ref b) (valV kvs k):=.inr ⟨kvs,k,b,.inl e,rfl,eb,rfl⟩
theorem DPut.k {H:Hp} {a:Addr} {kvs:List (Key × V)} {k:Key} {v:V} (e:H a=some (.dK kvs)) (hl:kvs.length < sizeLine):DPut H a (kV k) v (upd H a (.dK (putK kvs k v))):=.inl ⟨kvs,k,e,rfl,hl,rfl⟩
theorem DPut.t {H:Hp} {a b:Addr} {kvs:List (List Key × V)} {k:List Key} {v:V} (e:H a=some (.dT kvs)) (eb:H b=some (.tup (k.map kV))) (hl:kvs.length < sizeLine) :
    DPut H a (.ref b) v (upd H a (.dT (putK kvs k v))):=.inr ⟨kvs,k,b,e,rfl,eb,hl,rfl⟩


section
variable {X:Cx} {pins:List (Addr × Obj)} {σ:St} {H:Hp} {s:Shared} {a:Addr} {y v:V} {u r:Value} {o:Option V} {A:Around} {E:Value→Shared→Prop}

end

section
variable {X:Cx} {pins:List (Addr × Obj)} {σ:St} {H:Hp} {s:Shared} {a:Addr} {kvs:List (Key × V)} {k:Key} {u:Value} {A:Around} {E:Value→Shared→Prop}
end


section
variable {X:Cx} {o i e value:Expr} {pos pos' tpos:Pos} {td ty tv:TE}
end


section
variable {X:Cx} {pos:Pos}
end

end L2

set_option Elab.async false
set_option linter.all false
set_option maxRecDepth 100000
namespace L2
open PySem PySem.Spec PyProof.Rows
noncomputable instance decD:DecidableEq PyData:=fun _ _=>Classical.propDecidable _
mutual
def hk:PyData→Bool
  | .none=>true
  | .int _=>true
  | .str x=>(PyData.str x).canLay0
  | .tuple xs=>hkAll xs
  | .bool _=>false
  | .list _=>false
  | .dict _=>false
def hkAll:List PyData→Bool
  | []=>true
  | x::xs=>hk x && hkAll xs
end
mutual
def hashD (w:World):PyData→Int
  | .none=>0xFCA86420
  | .int i=>hashInt i
  | .str x=>hashStr w x
  | .tuple xs=>reduceHash (Builtin.Tuple.tupleHashOf (hashDs w xs))
  | .bool _=>0
  | .list _=>0
  | .dict _=>0
def hashDs (w:World):List PyData→List Int
  | []=>[]
  | x::xs=>hashD w x::hashDs w xs
end
section
variable {prog:Program} {w:World} {A:Around} {E:Value→Shared→Prop} {s:Shared}
end
end L2

set_option Elab.async false
set_option linter.all false
set_option maxRecDepth 100000
namespace L2
open PySem PySem.Spec PyProof.Rows TL
def KeyOk (k:D):Prop:=hk k=true∧k.depth≤8
structure DK (K:PySem.W.Frag) (w:World) (H:Hp) (es:List (Int × Addr × V)) (ks:List D):Prop where
  rep:Reps K H ks (es.map fun e=>.ref e.2.1)
  nd:ks.Nodup
  ok:∀ k ∈ ks,KeyOk k
  hs:es.map (·.1)=ks.map (hashD w)
theorem DK.same {K:PySem.W.Frag} {w:World} {H H':Hp} {es:List (Int × Addr × V)} {ks:List D} (x:DK K w H es ks) (e:Same H H'):DK K w H' es ks:=⟨x.rep.same e,x.nd,x.ok,x.hs⟩
section
variable {X:Cx} {pins:List (Addr × Obj)} {σ:St} {H:Hp} {s:Shared} {p a:Addr} {es:List (Int × Addr × V)} {ks:List D} {k:D} {A:Around} {E:Value→Shared→Prop}
def IsD (H:Hp) (p:Addr) (es:List (Int × Addr × V)):Prop:=H p=some (dicO p es) ∨ ∃ ep,H p=some (dicF p es ep)
theorem IsD.at (I:Inv X pins σ H s) (h:IsD H p es):DicAt p es s.heap:=by
  rcases h with h | ⟨ep,h⟩
  · exact (I.hok p _ h).1
  · obtain ⟨⟨h1,h2,o,xs,h3,h4,h5,h6⟩,_⟩:=I.hok p _ h
    exact ⟨h1,h2,o,xs,ep,h3,h4,h5,h6⟩
end
section
variable {X:Cx} {o i value:Expr} {pos pos':Pos} {td ty tv:TE}
noncomputable def repE:List (Int × Addr × V)→List D→D→V→List (Int × Addr × V)
  | e::es,k'::ks,k,v=>(if k'=k then (e.1,e.2.1,v) else e)::repE es ks k v
  | _,_,_,_=>[]
noncomputable def putE (w:World) (es:List (Int × Addr × V)) (ks:List D) (k:D) (a:Addr) (v:V):List (Int × Addr × V):=if k ∈ ks then repE es ks k v else es++[(hashD w k,a,v)]
noncomputable def putKs (ks:List D) (k:D):List D:=if k ∈ ks then ks else ks++[k]
end
section
variable {w:World} {prog:Program} {es:List (Int × Addr × V)} {ks:List D} {xs:List (D × Addr × Value)} {k:D} {a:Addr} {v:V} {u:Value}
theorem repE_fst:∀ {es:List (Int × Addr × V)} {ks:List D} (k:D),es.length=ks.length→(repE es ks k v).map (·.1)=es.map (·.1)∧(repE es ks k v).map (fun e=>e.2.1)=es.map (fun e=>e.2.1)
  | [],[],k,_=>⟨rfl,rfl⟩
  | [],_::_,k,h=>by simp at h
  | _::_,[],k,h=>by simp at h
  | e::es,k'::ks,k,h=>by
    obtain ⟨i1,i2⟩:=repE_fst (es:=es) (ks:=ks) k (by simpa using h)
    unfold repE
    refine ⟨?_,?_⟩
    · rw [List.map_cons,List.map_cons,i1]; congr 1; split <;> rfl
    · rw [List.map_cons,List.map_cons,i2]; congr 1; split <;> rfl
theorem DK.len {K:PySem.W.Frag} {H:Hp} (x:DK K w H es ks):es.length=ks.length:=by
  have:=congrArg List.length x.hs
  simpa using this
theorem DK.put {K:PySem.W.Frag} {H:Hp} (x:DK K w H es ks) (r:Rep K H k (.ref a)) (ok:KeyOk k):DK K w H (putE w es ks k a v) (putKs ks k):=by
  unfold putE putKs
  by_cases hm:k ∈ ks
  · rw [if_pos hm,if_pos hm]
    obtain ⟨h1,h2⟩:=repE_fst (v:=v) k x.len
    refine ⟨?_,x.nd,x.ok,h1.trans x.hs⟩
    have e:(repE es ks k v).map (fun e=>V.ref e.2.1)=es.map fun e=>V.ref e.2.1:=by
      have:=congrArg (List.map V.ref) h2
      rwa [List.map_map,List.map_map] at this
    rw [e]
    exact x.rep
  · rw [if_neg hm,if_neg hm]
    refine ⟨by rw [List.map_append]; exact x.rep.append (.cons r .nil),?_,fun z hz=>?_,by rw [List.map_append,List.map_append,x.hs]; rfl⟩
    · rw [List.nodup_append]
      exact ⟨x.nd,by simp,fun c hc b hb=>by rw [List.mem_singleton.mp hb]; exact fun z=>hm (z ▸ hc)⟩
    · rcases List.mem_append.mp hz with hz | hz
      · exact x.ok z hz
      · rw [List.mem_singleton.mp hz]; exact ok
end
section
variable {X:Cx} {pins:List (Addr × Obj)} {σ:St} {H:Hp} {s:Shared} {p:Addr} {es:List (Int × Addr × V)} {ks:List D}
end
section
variable {X:Cx} {o i value:Expr} {pos pos':Pos} {td ty tv:TE}
end
end L2

set_option Elab.async false
set_option linter.all false
set_option maxRecDepth 100000
namespace TL
open PySem PySem.Spec PyProof.Rows L2
section
variable {K:PySem.W.Frag} {H H' B:Hp} {p0 ps:List Addr} {σT σT':List Sl} {σ:L2.St} {p:Addr}
theorem Ok.re (o:Ok K B p0 H ps σT σ) (hl:σT'.length=σT.length) (hv:∀ (j:Nat) (d:D),σT'[j]?=some (.val d)→σT[j]?=some (.val d)) (ho:∀ (j:Nat) (ts:List D),σT'[j]?=some (.own ts)→σT[j]?=some (.own ts)) (hd:DicOk K B p0 H ps σT' σ):Ok K B p0 H ps σT' σ where
  base:=o.base
  sub:=o.sub
  live:=o.live
  len:=hl.trans o.len
  val:=fun j d h=>o.val j d (hv j d h)
  own:=fun j ts h=>o.own j ts (ho j ts h)
  dis:=fun i j ts us q h1 h2 h3 h4=>o.dis i j ts us q (ho i ts h1) (ho j us h2) h3 h4
  dc:=hd
end
section
variable {X:Cx} {a b e n:Expr} {es:List Expr} {ta tb te tk:ET} {pos:Pos}
theorem Reps.two {K:PySem.W.Frag} {H:Hp} {i:Nat}:∀ {kvs:List (D × D)} {es:List (Int × Addr × V)} {kv:D × D},Reps K H (kvs.map (·.2)) (es.map fun e=>e.2.2)→kvs[i]?=some kv→∃ e,es[i]?=some e∧Rep K H kv.2 e.2.2:=by
  intro kvs es kv r h
  obtain ⟨v,h1,h2⟩:=r.get (i:=i) (d:=kv.2) (by rw [List.getElem?_map,h]; rfl)
  rw [List.getElem?_map] at h1
  obtain ⟨e,e1,rfl⟩:=Option.map_eq_some_iff.mp h1
  exact ⟨e,e1,h2⟩
end
end TL

set_option Elab.async false
set_option linter.all false
set_option maxRecDepth 100000
namespace L2
open PySem PySem.Spec PyProof.Rows TL
def Gave (h:Heap) (it:Addr) (x0 x1:Value):Prop:=(x0=.none ∨ ∃ (a:Addr) (o:Obj),x0=rawInt a∧h.get? a=some o∧a ≠ it)∧∃ f,x1=.bool f
section
variable {prog:Program} {w:World} {A:Around} {E:Value→Shared→Prop} {s:Shared} {it d:Addr} {i ep:Nat} {xs:Array DictEntry} {x0 x1 k v:Value}
structure Got (xs:Array DictEntry) (S it lo:Addr) (h:Heap) (as:List Addr):Prop where
  rise:as.Pairwise (· < ·)
  above:∀ a ∈ as,lo≤a∧a ≠ S∧a ≠ it
  tups:∀ (j:Nat) (a:Addr),as[j]?=some a→∃ e,xs[j]?=some e∧h.get? a=some { cls:=.type "tuple",data:=.seq #[e.key,e.val] }
theorem Got.stay {S lo:Addr} {h h':Heap} {as:List Addr} (g:Got xs S it lo h as) (hk:∀ b o,b ≠ S→b ≠ it→h.get? b=some o→h'.get? b=some o):Got xs S it lo h' as :=
  ⟨g.rise,g.above,fun j a e=>by
    obtain ⟨x,h1,h2⟩:=g.tups j a e
    obtain ⟨_,n1,n2⟩:=g.above a (List.mem_of_getElem? e)
    exact ⟨x,h1,hk _ _ n1 n2 h2⟩⟩
theorem Gave.stay {h h':Heap} {x0 x1:Value} (g:Gave h it x0 x1) (hk:∀ b o,b ≠ it→h.get? b=some o→∃ o',h'.get? b=some o'):Gave h' it x0 x1:=by
  obtain ⟨g,f⟩:=g
  refine ⟨?_,f⟩
  rcases g with g | ⟨a,o,e,ha,hn⟩
  · exact .inl g
  · obtain ⟨o',h'⟩:=hk a o hn ha
    exact .inr ⟨a,o',e,h',hn⟩
end
section
variable {X:Cx} {pins:List (Addr × Obj)} {σ:St} {H H':Hp} {s:Shared}
end
end L2

set_option Elab.async false
set_option linter.all false
set_option maxRecDepth 100000
namespace L2
open PySem PySem.Spec PyProof.Rows TL
section
variable {X:Cx} {o:Expr} {to:TE} {apos cpos:Pos}
end
section
variable {X:Cx}
end
end L2
namespace TL
open PySem PySem.Spec PyProof.Rows L2
section
variable {X:Cx} {n:Expr} {te:ET} {pos:Pos}
end
end TL

set_option Elab.async false
set_option linter.all false
set_option maxRecDepth 100000
namespace L2
open PySem PySem.Spec PyProof.Rows
section
variable {prog:Program} {w:World} {A:Around}
theorem ddset_loopL {R:Result→Shared→Prop} {I ax:Addr} (S:Addr) (hS1:S ≠ I) (hS2:S ≠ ax) (hax:ax ≠ I) (hh:A.handled=none) {its:List Value} {ys:List Str} (hys:StrsAre its ys) (hb:ys.length + 1 < scanBound) :
    ∀ (k i:Nat) (s:Shared),its.length - i=k→i≤its.length→s.heap.IsListIter I ax i→s.heap.IsList ax its.toArray→DdSet prog w s.heap S (dd (ys.take i)) →
      (∀ h' tk,(∀ b o,b ≠ S→b ≠ I→s.heap.get? b=some o→h'.get? b=some o)→DdSet prog w h' S (dd ys)→R (.ok (.ret .none)) { s with heap:=h',toks:=tk }) →
      codeAny (model prog w) A (.builtin "set.update.loop" ⟨[.ref S,.ref I],[]⟩) R s:=by
  have hlen:its.length=ys.length:=by
    clear hb
    induction hys with
    | nil=>rfl
    | cons y t _ ih=>simp [ih]
  intro k
  induction k with
  | zero =>
    intro i s hk hi h1 h2 h3 hR
    obtain rfl:i=its.length:=by omega
    refine codeAny_builtin PyProof.Rows.F.entry_set_update_loop ?_
    rw [Around.under_plainId PyProof.Rows.F.plain_set_update_loop _]
    show wpAny _ A.in1 (pyNext (.ref I) >>= _) _ _ s
    refine wpAny_bind ((Walks.list (prog:=prog) (w:=w) (A:=A.in1) hh I ax hax its.toArray).done s _ _ (by rw [List.size_toArray]; exact ⟨h1,h2⟩) fun h' tk kk=>?_)
    show wpAny _ A.in1 (ret Value.none) _ _ _
    refine wpAny_pure (hR h' tk (fun b o _ hb e=>kk b o (by simpa using hb) e) ?_)
    rw [List.take_of_length_le (by omega)] at h3
    obtain ⟨o,es,ep,t,ho,rest⟩:=h3
    exact ⟨o,es,ep,t,kk S o (by simpa using hS1) ho,rest⟩
  | succ k ih =>
    intro i s hk hi h1 h2 h3 hR
    have hlt:i < its.length:=by omega
    refine codeAny_builtin PyProof.Rows.F.entry_set_update_loop ?_
    rw [Around.under_plainId PyProof.Rows.F.plain_set_update_loop _]
    show wpAny _ A.in1 (pyNext (.ref I) >>= _) _ _ s
    refine wpAny_bind ((Walks.list (prog:=prog) (w:=w) (A:=A.in1) hh I ax hax its.toArray).item i s _ _ (by rw [List.size_toArray]; exact hlt) ⟨h1,h2⟩ fun v h' tk hP st' kk=>?_)
    have hv:its[i]?=some v:=by simpa using hP
    have hyv:=strsAre_get hys i v hv
    obtain ⟨y,t,hy,rfl⟩:=hyv
    have h3':DdSet prog w h' S (dd (ys.take i)):=by
      obtain ⟨o,es,ep,tb,ho,rest⟩:=h3
      exact ⟨o,es,ep,tb,kk S o (by simpa using hS1) ho,rest⟩
    show wpAny _ A.in1 (holding [Value.str y t] (setAdd S (.str y t)) >>= _) _ _ _
    refine wpAny_bind (wpAny_holding ?_)
    unfold setAdd
    refine wpAny_holding (wpAny_bind ((mixKind prog w).pyHash (k:=Sum.inr y) (mixKind_str _ _ _ _) ?_))
    have hroom:(dd (ys.take i)).length + 1 < scanBound:=by
      have:=dd_len (ys.take i)
      rw [List.length_take] at this
      omega
    refine wpAny_setAddHashed_of (knd:=mixKind prog w) (s:={ s with heap:=h',toks:=tk + 1 }) (mixKind_str _ _ _ _) rfl h3' hroom fun h2' hsb hS2'=>?_
    have h3n:DdSet prog w h2' S (dd (ys.take (i + 1))):=by
      rw [dd_take_succ ys i y hy]
      refine setOf_cg hS2' (fun k'=>?_) ?_
      · cases k' with
        | inl n =>
          show (false || decide ((Sum.inl n:Key)=Sum.inr y))=false
          rw [key_lr]; rfl
        | inr z =>
          show (decide (z ∈ dd (ys.take i)) || decide ((Sum.inr z:Key)=Sum.inr y))=decide (z ∈ dstep (dd (ys.take i)) y)
          rw [key_rr,Bool.eq_iff_iff]
          simp only [Bool.or_eq_true,decide_eq_true_eq,dstep_mem]
      · show (if decide (y ∈ dd (ys.take i))=true then _ else _)=(dstep (dd (ys.take i)) y).length
        unfold dstep
        by_cases hm:y ∈ dd (ys.take i)
        · rw [if_pos (decide_eq_true hm),if_pos hm]
        · rw [if_neg (by simpa using hm),if_neg hm]; simp
    refine wpAny_pure ⟨plainId_quiet PyProof.Rows.F.plain_set_update_loop _,ih (i + 1) _ (by omega) hlt (st'.1.at fun o e=>(hsb.2 I (Ne.symm hS1)).trans e) (st'.2.at fun o e=>(hsb.2 ax (Ne.symm hS2)).trans e) h3n fun h4 tk4 kk4 h5=>?_⟩
    exact hR h4 tk4 (fun b o hb1 hb2 e=>kk4 b o hb1 hb2 ((hsb.2 b hb1).trans (kk b o (by simpa using hb2) e))) h5
end
section
variable {X:Cx}
set_option maxHeartbeats 3200000 in
theorem call_set_list {prog:Program} {w:World} {A:Around} {E:Value→Shared→Prop} {s:Shared} {l:Addr} {its:List Value} {ys:List Str} {Q:Value→Shared→Prop}
    (hh:A.handled=none) (hl:s.heap.IsList l its.toArray) (hys:StrsAre its ys) (hb:ys.length + 1 < scanBound)
    (h:∀ (h':Heap) (tk:Nat),DdSet prog w h' s.heap.objs.size (dd ys)→(∀ b o,s.heap.get? b=some o→h'.get? b=some o)→Q (.ref s.heap.objs.size) { s with heap:=h',toks:=tk }) :
    wpAny (model prog w) A (call (.type "set") [.ref l]) Q E s:=by
  obtain ⟨c0,tl0,hm0⟩:=PySem.F.called_set.mro
  have hmk:=PySem.F.called_set.made
  have hsb0:=PySem.F.called_set.sub
  refine wpAny_call (codeAny_of_tree ?_)
  show wpAny _ _ (callAny (.type "set") _) _ _ _
  refine wpAny_pure ⟨Code.quiet_builtin _ (by decide +kernel),codeAny_builtin PySem.F.entry_type_call ?_⟩
  rw [Around.under_plain (weight_type_call_type "set" [.ref l] []) rfl]
  have k1:=PySem.F.called_set.notType
  have k2:=PySem.F.called_set.canCreate
  have k3:=PySem.F.typeCall_set_1 (.ref l)
  repeat (any_goals (first | assumption | wp_step))
  refine codeAny_mono (code_set_new_1 (.ref l) (E:=E) (Q₁:=fun obj s1=>∃ led:Bool,obj=.ref s.heap.objs.size∧s1={ s with heap:=s.heap.push { cls:=.type "set",dict:=none,data:=.set #[] 0 (.fresh 0 0 led) } }) fun led=>⟨led,rfl,rfl⟩) fun r s1 hr=>?_
  cases r with
  | error e=>exact hr
  | ok fl =>
    cases fl with
    | ret obj =>
      obtain ⟨led,rfl,rfl⟩:=hr
      have gS:(s.heap.push { cls:=.type "set",dict:=none,data:=.set #[] 0 (.fresh 0 0 led) }).get? s.heap.objs.size=some { cls:=.type "set",dict:=none,data:=.set #[] 0 (.fresh 0 0 led) }:=Heap.get?_push_size _ rfl
      have tS:Shared.TypeIs { s with heap:=s.heap.push { cls:=.type "set",dict:=none,data:=.set #[] 0 (.fresh 0 0 led) } } (.ref s.heap.objs.size) "set":=⟨_,gS,rfl⟩
      have k4:=PySem.F.called_set.init.lookup
      have k5:=PySem.F.called_set.init.bind (.ref s.heap.objs.size)
      repeat (any_goals (first | assumption | wp_step))
      refine codeAny_mono (codeAny_call_builtin (R:=wants (fun r s2=>r=.none∧∃ h' tk,s2={ s with heap:=h',toks:=tk }∧DdSet prog w h' s.heap.objs.size (dd ys)∧(∀ b o,s.heap.get? b=some o→h'.get? b=some o)) E) PySem.F.called_set.init.plain PySem.F.entry_set_init (check_set_init_1 tS ?_)) fun r2 s2 hr2=>?_
      · obtain ⟨⟨ocls,odict,odata,oslots⟩,hol,hcl,nl,hdl⟩:=hl
        simp only at hcl hdl
        subst hcl; subst hdl
        have gl:(s.heap.push { cls:=.type "set",dict:=none,data:=.set #[] 0 (.fresh 0 0 led) }).get? l=some { cls:=.type "list",dict:=odict,data:=.seq its.toArray nl,slots:=oslots }:=Heap.get?_push_of_some _ hol
        have k6:=PySem.F.sub_list_set
        have k7:=PySem.F.sub_list_frozenset
        have k8:(Value.type "list" == Value.type "dict")=false:=by decide
        have tl1:(s.heap.push { cls:=.type "set",dict:=none,data:=.set #[] 0 (.fresh 0 0 led) }).IsList l its.toArray:=⟨_,gl,rfl,nl,rfl⟩
        unfold Builtin.«set.__init__» noKeywords Builtin.Frozenset.updateFrom
        generalize hPI:pyIter=PI
        wp_walk
        subst hPI
        refine wpAny_pyIter_list tl1 (wpAny_bind (wpAny_runValue ?_))
        have lS:l < s.heap.objs.size:=Heap.lt_size hol
        have h3:A.in1.in1.handled=none:=by simp [hh]
        refine ddset_loopL s.heap.objs.size ?_ (Nat.ne_of_gt lS) ?_ h3 hys hb its.length 0 _ (by omega) (Nat.zero_le _) ?_ ?_ ?_ fun h' tk kk hD=>?_
        · show s.heap.objs.size ≠ (s.heap.push _).objs.size
          rw [Heap.size_push]; exact Nat.ne_of_lt (Nat.lt_succ_self _)
        · show l ≠ (s.heap.push _).objs.size
          rw [Heap.size_push]; exact Nat.ne_of_lt (Nat.lt_succ_of_lt lS)
        · exact ⟨_,Heap.get?_push_size _ rfl,rfl,rfl⟩
        · exact tl1.at fun o e=>Heap.get?_push_of_some _ e
        · exact ⟨_,#[],0,_,Heap.get?_push_of_some _ gS,⟨rfl,rfl,rfl⟩,rfl,fun e he=>by simp at he,fun k=>by cases k <;> simp [dd],by unfold scanBound; simp,rfl,rfl⟩
        · show wpAny _ _ _ _ _ _
          refine wpAny_pure ?_
          show wpAny _ _ (ret Value.none) _ _ _
          refine wpAny_pure ⟨rfl,h',tk,rfl,hD,fun b o e=>kk b o (Nat.ne_of_lt (Heap.lt_size e)) ?_ (Heap.get?_push_of_some _ (Heap.get?_push_of_some _ e))⟩
          show b ≠ (s.heap.push _).objs.size
          rw [Heap.size_push]; exact Nat.ne_of_lt (Nat.lt_succ_of_lt (Heap.lt_size e))
      · cases r2 with
        | error e=>exact hr2
        | ok fl2 =>
          cases fl2 with
          | ret r =>
            obtain ⟨rfl,h',tk,rfl,hD,kk⟩:=hr2
            repeat (any_goals (first | assumption | wp_step))
            exact h _ _ hD kk
          | _=>exact hr2.elim
    | _=>exact hr.elim
theorem call_set_strsL (hc:X.calm=true):CallR X (.type "set") (fun xs H Q=>∃ (p:Addr) (ys:List Str),xs=[.ref p]∧SqL X.K H p (ys.map V.str)∧ys.length≤1000∧∀ q,H q=none→Q (.ref q) (upd H q (SetN X.prog X.w q (dd ys).length))):=by
  intro pins s σ H xs us Q I r h
  obtain ⟨p,ys,rfl,hq,hz,q⟩:=h
  obtain ⟨u,rfl,rx⟩:=vals1 r
  cases rx
  obtain ⟨its,rv,pl,_⟩:=I.list hq
  refine call_set_list (I.ok.hd hc) pl.isList (strs_of rv) (by unfold scanBound; omega) fun h' tk hD kk=>?_
  obtain ⟨o,es,ep,t,ho,rest⟩:=id hD
  refine ⟨.ref _,_,I.laid kk (Nat.le_refl _) (show ObjOk X.prog X.w _ h' _ (SetN X.prog X.w s.heap.objs.size (dd ys).length) from ⟨⟨_,hD⟩,⟨o,ho⟩,?_⟩),rfl,q _ (I.hok.fresh (Nat.le_refl _))⟩
  rintro h1 h2 ⟨S,o,es,ep,t,ho,rest⟩ k
  exact ⟨S,o,es,ep,t,k o ho,rest⟩
end
end L2
namespace TL
open PySem PySem.Spec PyProof.Rows L2
section
variable {X:Cx} {e:Expr} {te:ET} {pos:Pos}
def eLenSetL (te:ET):ET:=fun σ Q=>te σ fun d=>∃ ys:List Str,d=.list (ys.map PyData.str)∧ys.length≤1000∧Q (.int (dd ys).length)
theorem et_lensetL {g1 g2:Expr} {p2:Pos} (he:PEt X e te) (hs:starEach [e] X.env=(false,eval e X.env)::starEach [] X.env:=by rfl)
    (pc:∀ {v:TE},PA X [e] (tCons v tNil)→PE X (.Call g1 [.Call g2 [e] [] p2] [] pos) (tCB (fun xs H Q=>∃ (q:Addr) (n:Nat),xs=[.ref q]∧H q=some (SetN X.prog X.w q n)∧Q (.int n) H)
      (tCons (tCB (fun xs H Q=>∃ (p:Addr) (ys:List Str),xs=[.ref p]∧SqL X.K H p (ys.map V.str)∧ys.length≤1000∧∀ q,H q=none→Q (.ref q) (upd H q (SetN X.prog X.w q (dd ys).length))) (tCons v tNil)) tNil))) :
    PEt X (.Call g1 [.Call g2 [e] [] p2] [] pos) (eLenSetL te):=by
  obtain ⟨v,pe,re⟩:=he
  refine ⟨_,pc (pa_cons pe pa_nil hs),fun B p0 H ps σT σ Q QV o h k=>re B p0 H ps σT σ _ _ o h fun d x H1 s1 r1 q1=>?_⟩
  obtain ⟨ys,rfl,hz,q⟩:=q1
  cases r1 with
  | list hq s =>
    have e:=reps_strs s
    subst e
    refine ⟨_,ys,rfl,L2.Same.seq mask_le hq,hz,fun w hw=>⟨w,_,rfl,upd_same,k _ _ _ (s1.trans (same_new hw)) (.int _) q⟩⟩
end
end TL

set_option Elab.async false
set_option linter.all false
set_option maxRecDepth 100000
namespace L2
open PySem PySem.Spec PyProof.Rows TL
section
variable {prog:Program} {w:World} {A:Around} {E:Value→Shared→Prop} {s:Shared}
end
end L2

set_option Elab.async false
set_option linter.all false
set_option maxRecDepth 100000
namespace L2
open PySem PySem.Spec PyProof.Rows TL
section
variable {X:Cx} {tg:Expr}
end
end L2
namespace TL
open PySem PySem.Spec PyProof.Rows L2
section
variable {X:Cx} {e:Expr} {te:ET}
end
end TL

set_option Elab.async false
set_option linter.all false
set_option maxRecDepth 100000
namespace L2
open PySem PySem.Spec PyProof.Rows TL
section
variable {prog:Program} {w:World} {A:Around} {E:Value→Shared→Prop} {s:Shared} {d:Addr} {ep:Nat} {xs:Array DictEntry}
end
end L2
namespace L2
open PySem PySem.Spec PyProof.Rows TL
section
variable {X:Cx}
end
end L2
namespace TL
open PySem PySem.Spec PyProof.Rows L2
section
variable {X:Cx} {e:Expr} {te:ET} {pos:Pos}
end
end TL

set_option Elab.async false
set_option linter.all false
set_option maxRecDepth 100000
namespace L2
open PySem PySem.Spec PyProof.Rows TL
section
variable {X:Cx} {tg:Expr}
end
end L2
namespace TL
open PySem PySem.Spec PyProof.Rows L2
section
variable {X:Cx} {e:Expr} {te:ET}
end
end TL

set_option Elab.async false
set_option linter.all false
set_option maxRecDepth 100000
namespace L2
open PySem PySem.Spec PyProof.Rows TL
section
variable {X:Cx}
end
end L2
namespace TL
open PySem PySem.Spec PyProof.Rows L2
section
variable {X:Cx} {n e e1 e2:Expr} {te t1 t2:ET} {pos:Pos}
def eIxOwn (i:Nat) (tb:ET):ET:=fun σ Q=>∃ ts,σ[i]?=some (.own ts)∧tb σ fun x=>∃ (k:Int) (d:D),x=.int k∧L2.atI ts k=some d∧Q d
theorem et_ixOwn {i:Nat} {m b:Expr} {tb:ET} (hn:PE X m (tVar i)) (hb:PEt X b tb) (hs:PlainIx b:=by intro _ _; rfl):PEt X (.Subscript m b pos) (eIxOwn i tb):=by
  obtain ⟨vb,pb,rb⟩:=hb
  refine ⟨_,pe_ix ix_seq hn pb hs,fun B p0 H ps σT σ Q QV o h k=>?_⟩
  obtain ⟨ts,e,h⟩:=h
  obtain ⟨q,xs,h1,h2,h3,h4,h5,h6⟩:=o.own i ts e
  refine ⟨.ref q,h1,rb B p0 H ps σT σ _ _ o h fun d y H1 s1 r1 q1=>?_⟩
  obtain ⟨j,d',rfl,hj,q1⟩:=q1
  cases r1
  obtain ⟨v,hv,rv⟩:=(h6.same (mask_same s1)).atI hj
  exact .inl ⟨q,xs,j,v,rfl,rfl,SqL.of (s1 _ _ h5),hv,k d' v H1 s1 rv q1⟩
end
end TL
namespace TL
open PySem PySem.Spec PyProof.Rows L2
end TL

set_option Elab.async false
set_option linter.all false
set_option maxRecDepth 100000
namespace L2
open PySem PySem.Spec PyProof.Rows
theorem dict_mapFields (f:Array Value→Array Value) (o:Obj):(Obj.mapFields f o).dict=o.dict:=by
  unfold Obj.mapFields
  split <;> rfl
structure ExcAt (h:Heap) (e T:Addr) (dx:Option Addr) (cls a0 fl:Value):Prop where
  ne:T ≠ e
  ex:∃ o vs,h.get? e=some o∧o.cls=cls∧o.dict=dx∧o.data=.fields vs∧vs[0]?=some a0∧vs[1]?=some (.ref T)
  tr:∃ o ts,h.get? T=some o∧o.data=.fields ts∧ts[3]?=some fl
structure KeptBut (fr ch:List Addr) (h h':Heap):Prop where
  keep:∀ b o,h.get? b=some o→b ∉ fr→b ∉ ch→h'.get? b=some o
  slot:∀ b o,h.get? b=some o→b ∈ fr→b ∉ ch→∃ sl,h'.get? b=some { o with slots:=sl }
theorem KeptBut.of {fr ch:List Addr} {h h':Heap} (k:∀ b o,h.get? b=some o→b ∉ ch→h'.get? b=some o):KeptBut fr ch h h':=⟨fun b o e _ c=>k b o e c,fun b o e _ c=>⟨o.slots,k b o e c⟩⟩
theorem KeptBut.any {fr ch:List Addr} {h h':Heap} (x:KeptBut fr ch h h') {b:Addr} {o:Obj} (e:h.get? b=some o) (c:b ∉ ch):∃ sl,h'.get? b=some { o with slots:=sl }:=by
  by_cases f:b ∈ fr
  · exact x.slot b o e f c
  · exact ⟨o.slots,x.keep b o e f c⟩
theorem KeptBut.trans {fr ch:List Addr} {h1 h2 h3:Heap} (x:KeptBut fr ch h1 h2) (y:KeptBut fr ch h2 h3):KeptBut fr ch h1 h3:=by
  refine ⟨fun b o e f c=>y.keep b o (x.keep b o e f c) f c,fun b o e f c=>?_⟩
  obtain ⟨sl,e1⟩:=x.slot b o e f c
  obtain ⟨sl2,e2⟩:=y.slot b _ e1 f c
  exact ⟨sl2,e2⟩
theorem KeptBut.more {fr ch ch':List Addr} {h h':Heap} (x:KeptBut fr ch h h') (m:∀ b ∈ ch,b ∈ ch'):KeptBut fr ch' h h':=⟨fun b o e f c=>x.keep b o e f fun z=>c (m b z),fun b o e f c=>x.slot b o e f fun z=>c (m b z)⟩
theorem KeptBut.frames {fr ch:List Addr} {base h h':Heap} (x:KeptBut fr ch h h') {l:List Env} (hl:h.FunFrames base l) (c:∀ b ∈ frs l,b ∉ ch):h'.FunFrames base l:=by
  induction l with
  | nil=>trivial
  | cons v r ih =>
    obtain ⟨hk,⟨L,o,hf,hn,ho,hd⟩,hr⟩:=hl
    have hm:L ∈ frs (v::r):=by
      show L ∈ (v::r).filterMap (·.frame)
      rw [List.filterMap_cons,hf]
      exact List.mem_cons_self ..
    obtain ⟨sl,e⟩:=x.any ho (c L hm)
    refine ⟨hk,⟨L,_,hf,hn,e,hd⟩,ih hr fun b hb=>c b ?_⟩
    show b ∈ (v::r).filterMap (·.frame)
    rw [List.filterMap_cons,hf]
    exact List.mem_cons_of_mem _ hb
section
variable {P:Program} {w:World} {A:Around} {E:Value→Shared→Prop} {s:Shared} {base:Heap} {v:Env} {outer:List Env} {L e:Addr} {Q:Unit→Shared→Prop}
theorem entry_made {o:Obj} {vs:Array Value} {hd0:Value} {nx:Bool} (hA:A.frames=some (v::outer)) (hl:s.heap.FunFrames base (v::outer)) (hL:v.frame=some L) (he:s.heap.get? e=some o) (hd:o.data=.fields vs) (hz:1 < vs.size) (hef:e ∉ frs (v::outer))
    (k:∀ h' T,s.heap.objs.size≤T→T ≠ e→KeptBut (frs (v::outer)) [e] s.heap h'→(∃ o',h'.get? e=some o'∧o'.cls=o.cls∧o'.dict=o.dict∧o'.data=.fields (vs.setIfInBounds 1 (.ref T)))→(∃ oT ts,h'.get? T=some oT∧oT.data=.fields ts∧ts[3]?=some (rawInt L))→Q () { s with heap:=h' }) :
    wpAny (model P w) A (do let a ← frameOf v; let pl ← entryPlaceOf L nx; let b ← EntryCells.newEntry hd0 a .none (rawInt L) .none pl; setField (.ref e) 1 b) Q E s:=by
  apply wpAny_bind
  refine wpAny_frameOf_fun hA hl hL fun h1 so=>?_
  apply wpAny_bind
  refine wpAny_entryPlaceOf fun pl okp=>?_
  unfold EntryCells.newEntry newFields
  apply wpAny_bind
  refine wpAny_newObj_type ?_ (okp.sizeOk5 _ _ _ _ _)
  have e1:h1.get? e=some o:=(so.2.1 e hef).trans he
  generalize hob:({ cls:=.type "traceback",dict:=none,data:=.fields ([hd0,.ref L,.none,rawInt L,.none]++(if pl.isEmpty then List.replicate 6 Value.none else pl)).toArray }:Obj)=ob
  have e2:(h1.push ob).get? e=some o:=Heap.get?_push_of_some _ e1
  refine wpAny_setField e2 hd hz ?_
  have ne:h1.objs.size ≠ e:=Nat.ne_of_gt (Heap.lt_size e1)
  have d3:=Obj.data_mapFields hd (·.setIfInBounds 1 (Value.ref h1.objs.size))
  have e3:=Heap.get?_update_self (Obj.mapFields (·.setIfInBounds 1 (Value.ref h1.objs.size))) e2 (Obj.isFreed_of_fields d3)
  have hT:((h1.push ob).update e (Obj.mapFields (·.setIfInBounds 1 (Value.ref h1.objs.size)))).get? h1.objs.size=some ob:=by
    rw [Heap.get?_update_other _ _ (Ne.symm ne)]
    refine Heap.get?_push_size h1 ?_
    rw [← hob]; rfl
  refine k _ h1.objs.size (by rw [so.1]; exact Nat.le_refl _) ne ⟨fun b u eb f c=>?_,fun b u eb f c=>?_⟩ ⟨_,e3,Obj.cls_mapFields _ _,dict_mapFields _ _,d3⟩ ⟨ob,_,hT,by rw [← hob],?_⟩
  · have hbe:b ≠ e:=fun z=>c (by rw [z]; exact List.mem_cons_self ..)
    rw [Heap.get?_update_other _ _ (Ne.symm hbe)]
    exact Heap.get?_push_of_some _ ((so.2.1 b f).trans eb)
  · have hbe:b ≠ e:=fun z=>c (by rw [z]; exact List.mem_cons_self ..)
    obtain ⟨sl,es⟩:=so.2.2 b u eb
    refine ⟨sl,?_⟩
    rw [Heap.get?_update_other _ _ (Ne.symm hbe)]
    exact Heap.get?_push_of_some _ es
  · rcases okp with rfl | ⟨_,_,_,_,_,_,_,rfl⟩ <;> simp
theorem note_first {o:Obj} {vs:Array Value} {a0:Value} (hA:A.frames=some (v::outer)) (hl:s.heap.FunFrames base (v::outer)) (hL:v.frame=some L) (he:s.heap.get? e=some o) (hd:o.data=.fields vs) (h1:vs[1]?=some .none) (h0:vs[0]?=some a0) (hef:e ∉ frs (v::outer))
    (k:∀ h' T,s.heap.objs.size≤T→KeptBut (frs (v::outer)) [e] s.heap h'→ExcAt h' e T o.dict o.cls a0 (rawInt L)→Q () { s with heap:=h' }):wpAny (model P w) A (noteFrame (.ref e) v) Q E s:=by
  unfold noteFrame
  simp only [hL]
  apply wpAny_bind
  refine wpAny_field he hd h1 ?_
  rw [if_neg (by decide)]
  have hz:1 < vs.size:=(Array.getElem?_eq_some_iff.mp h1).1
  refine entry_made hA hl hL he hd hz hef fun h' T n1 n2 kb hx hT=>k h' T n1 kb ⟨n2,?_,hT⟩
  obtain ⟨o',x1,x2,xd,x3⟩:=hx
  exact ⟨o',_,x1,x2,xd,x3,by rw [Array.getElem?_setIfInBounds_ne (by decide)]; exact h0,by simp [hz]⟩
theorem note_next {T:Addr} {dx:Option Addr} {cls a0:Value} (hA:A.frames=some (v::outer)) (hl:s.heap.FunFrames base (v::outer)) (hL:v.frame=some L) (x:ExcAt s.heap e T dx cls a0 .none) (hef:e ∉ frs (v::outer)) (hTf:T ∉ frs (v::outer))
    (k:∀ h' T',s.heap.objs.size≤T'→KeptBut (frs (v::outer)) [e,T] s.heap h'→ExcAt h' e T' dx cls a0 (rawInt L)→Q () { s with heap:=h' }):wpAny (model P w) A (noteFrame (.ref e) v) Q E s:=by
  obtain ⟨ne,⟨o,vs,he,hc,hdx,hd,h0,h1⟩,⟨oT,ts,hT,hdT,h3⟩⟩:=x
  unfold noteFrame
  simp only [hL]
  apply wpAny_bind
  refine wpAny_field he hd h1 ?_
  rw [if_pos (show (Value.ref T != Value.none)=true from rfl)]
  apply wpAny_bind
  refine wpAny_field hT hdT h3 ?_
  rw [if_neg (show ¬ ((Value.none == rawInt L)=true) by simp [rawInt])]
  apply wpAny_bind
  refine wpAny_setField hT hdT (Array.getElem?_eq_some_iff.mp h3).1 ?_
  have oth:∀ b,b ≠ T→(s.heap.update T (Obj.mapFields (·.setIfInBounds 3 Value.none))).get? b=s.heap.get? b:=fun b hb=>Heap.get?_update_other _ _ (Ne.symm hb)
  have kb0:KeptBut (frs (v::outer)) [T] s.heap (s.heap.update T (Obj.mapFields (·.setIfInBounds 3 Value.none))):=.of fun b u eb c=>(oth b fun z=>c (by rw [z]; exact List.mem_cons_self ..)).trans eb
  have hz:1 < vs.size:=(Array.getElem?_eq_some_iff.mp h1).1
  refine entry_made (s:={ s with heap:=s.heap.update T (Obj.mapFields (·.setIfInBounds 3 Value.none)) }) hA (kb0.frames hl fun b hb z=>hTf (by rw [← List.mem_singleton.mp z]; exact hb)) hL ((oth e (Ne.symm ne)).trans he) hd hz hef fun h' T' n1 n2 kb hx hT'=>?_
  have n1':s.heap.objs.size≤T':=Nat.le_trans (Nat.le_of_eq (Heap.size_update ..).symm) n1
  refine k h' T' n1' ((kb0.more fun b hb=>by simp at hb ⊢; exact .inr hb).trans (kb.more fun b hb=>by simp at hb ⊢; exact .inl hb)) ⟨n2,?_,hT'⟩
  obtain ⟨o',x1,x2,xd,x3⟩:=hx
  exact ⟨o',_,x1,x2.trans hc,xd.trans hdx,x3,by rw [Array.getElem?_setIfInBounds_ne (by decide)]; exact h0,by simp [hz]⟩
theorem flight_off {T:Addr} {dx:Option Addr} {cls a0 fl:Value} (x:ExcAt s.heap e T dx cls a0 fl) (k:∀ h',(∀ b o,s.heap.get? b=some o→b ≠ T→h'.get? b=some o)→ExcAt h' e T dx cls a0 .none→Q () { s with heap:=h' }):wpAny (model P w) A (setFlight (.ref e) none) Q E s:=by
  obtain ⟨ne,⟨o,vs,he,hc,hdx,hd,h0,h1⟩,⟨oT,ts,hT,hdT,h3⟩⟩:=x
  have hz:3 < ts.size:=(Array.getElem?_eq_some_iff.mp h3).1
  unfold setFlight
  apply wpAny_bind
  refine wpAny_field he hd h1 ?_
  rw [if_pos (show (Value.ref T != Value.none)=true from rfl)]
  refine wpAny_setField hT hdT hz (k _ (fun b u eb hb=>(Heap.get?_update_other _ _ (Ne.symm hb)).trans eb) ⟨ne,⟨o,vs,(Heap.get?_update_other _ _ ne).trans he,hc,hdx,hd,h0,h1⟩,_,_,Heap.get?_update_self _ hT (Obj.isFreed_of_fields (Obj.data_mapFields hdT _)),Obj.data_mapFields hdT _,by simp [hz]⟩)
theorem leave_first {o:Obj} {vs:Array Value} {a0:Value} (hA:A.frames=some (v::outer)) (hl:s.heap.FunFrames base (v::outer)) (hL:v.frame=some L) (he:s.heap.get? e=some o) (hd:o.data=.fields vs) (h1:vs[1]?=some .none) (h0:vs[0]?=some a0) (hef:e ∉ frs (v::outer))
    (k:∀ h' T,s.heap.objs.size≤T→KeptBut (frs (v::outer)) [e] s.heap h'→ExcAt h' e T o.dict o.cls a0 .none→Q () { s with heap:=h' }):wpAny (model P w) A (leaving v (.ref e)) Q E s:=by
  unfold leaving
  apply wpAny_bind
  refine note_first hA hl hL he hd h1 h0 hef fun h1 T n1 kb x=>?_
  refine flight_off (s:={ s with heap:=h1 }) x fun h2 k2 x2=>k h2 T n1 ⟨fun b u eb f c=>?_,fun b u eb f c=>?_⟩ x2
  · exact k2 b u (kb.keep b u eb f c) fun z=>absurd (Nat.lt_of_lt_of_le (Heap.lt_size eb) n1) (by rw [z]; exact Nat.lt_irrefl _)
  · obtain ⟨sl,es⟩:=kb.slot b u eb f c
    exact ⟨sl,k2 b _ es fun z=>absurd (Nat.lt_of_lt_of_le (Heap.lt_size eb) n1) (by rw [z]; exact Nat.lt_irrefl _)⟩
end
end L2

set_option Elab.async false
set_option linter.all false
set_option maxRecDepth 100000
namespace L2
open PySem PySem.Spec PyProof.Rows
section
variable {P:Program} {w:World} {H H':Hp} {h h0 h':Heap} {a:Addr} {o:HO} {fr fr' ch:List Addr}
theorem ObjOk.get (x:ObjOk P w H h a o):∃ u,h.get? a=some u:=by
  cases o with
  | lst xs=>obtain ⟨_,_,_,_,e⟩:=x; exact ⟨_,e⟩
  | tup xs=>obtain ⟨_,_,_,_,e,_⟩:=x; exact ⟨_,e⟩
  | dK kvs=>obtain ⟨_,_,_,_,o,_,_,e,_⟩:=x; exact ⟨_,e⟩
  | dT kvs=>obtain ⟨_,_,_,_,o,_,_,e,_⟩:=x; exact ⟨_,e⟩
  | set S n=>obtain ⟨o,_,_,_,e,_⟩:=x; exact ⟨_,e⟩
  | ins C dx fs=>obtain ⟨_,_,_,e,_⟩:=x; exact ⟨_,e⟩
  | own y=>obtain ⟨_,e⟩:=x; exact ⟨_,e⟩
  | xd fs=>obtain ⟨_,⟨_,_,_,e,_⟩,_⟩:=x; exact ⟨_,e⟩
  | rng lo hi=>obtain ⟨_,_,_,e⟩:=x; exact ⟨_,e⟩
  | frz ob u=>obtain ⟨e,_⟩:=x; exact ⟨_,e⟩
  | tbl ps=>exact ⟨_,(show h.get? a=some _ from x)⟩
  | met f y=>exact ⟨_,(show h.get? a=some _ from x)⟩
  | ext φ=>obtain ⟨_,⟨_,e⟩,_⟩:=x; exact ⟨_,e⟩
theorem HOk.out (x:HOk P w H h) (e:h.get? a=none):H a=none:=by
  cases q:H a with
  | none=>rfl
  | some u=>obtain ⟨_,z⟩:=(x a u q).get; rw [e] at z; cases z
theorem HOk.butX (x:HOk P w H h) (kb:KeptBut fr ch h h') (hf:∀ b ∈ fr,H b=none) (hc:∀ b ∈ ch,H b=none):HOk P w H h':=fun a o e=>by
  refine (x a o e).stay (fun b u hb q=>?_) (fun _ q=>q) fun _ _ q=>q
  have hn:H b ≠ none:=by
    rcases hb with rfl | hb
    · rw [e]; exact fun z=>nomatch z
    · rw [hb]; exact fun z=>nomatch z
  exact kb.keep b u q (fun z=>hn (hf b z)) fun z=>hn (hc b z)
theorem Un.but (u:Un fr [] H H' h0 h) (kb:KeptBut fr' ch h h') (nw:∀ b o,h0.get? b=some o→b ∉ ch∧(b ∈ fr'→b ∈ fr)):Un fr [] H H' h0 h' where
  keep:=fun b o e n f x=>kb.keep b o (u.keep b o e n f x) (fun z=>f ((nw b o e).2 z)) (nw b o e).1
  slot:=fun b o e n f x=>by
    obtain ⟨sl,e1⟩:=u.slot b o e n f x
    obtain ⟨sl2,e2⟩:=kb.any e1 (nw b o e).1
    exact ⟨sl2,e2⟩
  free:=u.free
  there:=fun b o e x=>by
    obtain ⟨o',e1⟩:=u.there b o e x
    obtain ⟨sl2,e2⟩:=kb.any e1 (nw b o e).1
    exact ⟨_,e2⟩
  tups:=u.tups
  frzs:=u.frzs
  tbls:=u.tbls
end
def CX1 (P:Program) (w:World):CXT:=fun outer H s E e s'=>∃ ea T dx cls a0 H',e=.ref ea∧s'.os=s.os∧AllBare s'.gens∧Un (frs outer) [] H H' s.heap s'.heap∧HOk P w H' s'.heap ∧
  ExcAt s'.heap ea T dx cls a0 .none∧H' ea=none∧H' T=none∧s.heap.get? ea=none∧s.heap.get? T=none∧(∀ a,dx=some a→s.heap.get? a=none)∧E cls dx H'
section
variable {P:Program} {w:World} {K:PySem.W.Frag} {mg:Str→Option Value} {base:Heap} {N:List Str} {qual:Str} {scope:Scope} {f:Addr} {cd:Value} {A:Around} {outer:List Env} {s:Shared} {H:Hp} {E:XK}
abbrev CXf (P:Program) (w:World) (K:PySem.W.Frag) (mg:Str→Option Value) (base:Heap) (N:List Str) (qual:Str) (scope:Scope) (f:Addr) (cd:Value) (A:Around) (outer:List Env) (s:Shared) (H:Hp) (E:XK):Cx:=cxOf (CX1 P w) P w K mg base N qual scope f cd A outer s H E
theorem xe_of {pins:List (Addr × Obj)} {σ:St} {H1:Hp} {s1 s2:Shared} {ea:Addr} {ch:List Addr} {dx:Option Addr} {cls a0:Value} (I:Inv (CXf P w K mg base N qual scope f cd A outer s H E) pins σ H1 s1) (hen:s.heap.get? ea=none) (hE:E cls dx H1) (hh:H1 ea=none)
    (hos:s2.os=s1.os) (hg:s2.gens=s1.gens) (hk:KeptBut (frs (envOfC qual scope s.heap.objs.size f cd::outer)) ch s1.heap s2.heap) (hch:∀ b ∈ ch,H1 b=none∧s.heap.get? b=none) {T:Addr} (x:ExcAt s2.heap ea T dx cls a0 .none) (hT:H1 T=none) (hTn:s.heap.get? T=none) (hdn:∀ a,dx=some a→s.heap.get? a=none) :
    CX1 P w outer H s E (.ref ea) s2:=by
  refine ⟨ea,T,dx,cls,a0,H1,rfl,hos.trans I.os,by rw [hg]; exact I.bare,Un.but I.base hk fun b o e=>⟨fun z=>?_,fun z=>?_⟩,I.hok.butX hk (fun b hb=>I.stkFree b hb) fun b hb=>(hch b hb).1,x,hh,hT,hen,hTn,hdn,hE⟩
  · rw [(hch b z).2] at e; cases e
  · have z':b ∈ s.heap.objs.size::frs outer:=I.stkSub b z
    rcases List.mem_cons.mp z' with q | q
    · rw [q] at e; exact absurd (Heap.lt_size e) (Nat.lt_irrefl _)
    · exact q
end
end L2

set_option Elab.async false
set_option linter.all false
set_option maxRecDepth 100000
namespace L2
open PySem PySem.Spec PyProof.Rows
def RCls (K:PySem.W.Frag) (C:Addr):Prop:=∃ nm q N bs hdct sn sub ab col dd k0 k1 k2 k3 k5 J c0 dJ cdJ slJ,
  K.lookup C=some (excClassObj nm q C N bs (.ref J::[.type "ValueError",.type "Exception",.type "BaseException",.type "object"]) hdct sn sub ab col dd k0 k1 k2 k3 k5 "ValueError.__new__") ∧
  PySem.W.nsOkIn K N=true∧PySem.W.nsIn K N "__init__"=some none∧K.lookup J=some ⟨c0,dJ,.cls cdJ,slJ⟩∧PySem.W.nsOkIn K cdJ.ns=true∧PySem.W.nsIn K cdJ.ns "__init__"=some none
theorem ns_none {K:PySem.W.Frag} {h:Heap} {N:Addr} {m:Str→Option Value} {n:Str} (X:K.In h) (G:h.Ns N m) (e:PySem.W.nsIn K N n=some none):m n=none:=by
  obtain ⟨o,es,ep,ho,hd,_,hf⟩:=G
  unfold PySem.W.nsIn at e
  split at e
  · rename_i q
    have z:=X _ _ q
    rw [ho] at z
    cases z
    cases hd
    split at e
    · cases e
    · rename_i he
      rw [← hf]
      unfold nsFind findBy
      rw [← Array.find?_toList,he]
      rfl
  · cases e
theorem ns_kept {h h':Heap} {N:Addr} {m:Str→Option Value} (G:h.Ns N m) (k:∀ b o,h.get? b=some o→h'.get? b=some o):h'.Ns N m:=let ⟨o,es,ep,ho,r⟩:=G; ⟨o,es,ep,k _ _ ho,r⟩
def tRaise (C:Addr) (E:XK) (t:TA):TS:=fun _ σ H=>t σ H fun vs H1=>vs.length≤sizeLine∧E (.ref C) none H1
section
variable {P:Program} {w:World} {K:PySem.W.Frag} {mg:Str→Option Value} {base:Heap} {N:List Str} {qual:Str} {scope:Scope} {f:Addr} {cd:Value} {A:Around} {outer:List Env} {s:Shared} {H:Hp} {E:XK}
theorem ps_raise {C:Addr} {k:Nat} {x:Str} {np cpos pos:Pos} {e:Expr} {es:List Expr} {t:TA} (R:RCls K C) (hr:Room k (A.deeper (envOfC qual scope s.heap.objs.size f cd))) (hg:Gl (CXf P w K mg base N qual scope f cd A outer s H E) x) (hm:mg x=some (.ref C))
    (ha:PA (CXf P w K mg base N qual scope f cd A outer s H E) (e::es) t) (hd:(x == ("__debug__":Str))=false:=by decide)
    (he:starEach (e::es) (envOfC qual scope s.heap.objs.size f cd)=(false,eval e (envOfC qual scope s.heap.objs.size f cd))::starEach es (envOfC qual scope s.heap.objs.size f cd):=by rfl)
    (hpl:(backTo cpos (starEach (e::es) (envOfC qual scope s.heap.objs.size f cd))).any (·.1)=false:=by rfl) :
    PS (CXf P w K mg base N qual scope f cd A outer s H E) (.Raise (some (.Call (.Name x np) (e::es) [] cpos)) none pos) (tRaise C E t):=by
  intro pins s1 σ H1 D I h
  obtain ⟨nm,q,NC,bs,hdct,sn,sub,ab,col,dd,k0,k1,k2,k3,k5,J,c0,dJ,cdJ,slJ,lC,nC,iC,lJ,nJ,iJ⟩:=R
  have gC:=Heap.Ns.of_isNs (PySem.W.isNs_of_in I.mod.kin nC)
  have gJ:=Heap.Ns.of_isNs (PySem.W.isNs_of_in I.mod.kin nJ)
  have vC:=ns_none I.mod.kin gC iC
  have vJ:=ns_none I.mod.kin gJ iJ
  refine wpAny_Raise_call_subT F.excBase_ValueError (C:=C) (nm:=nm) (q:=q) (N:=NC) (bs:=bs) (bm:=.ref J::[.type "ValueError",.type "Exception",.type "BaseException",.type "object"]) (hdct:=hdct) (sn:=sn) (sub:=sub) (ab:=ab) (col:=col) (dd:=dd) (k0:=k0) (k1:=k1) (k2:=k2) (k3:=k3) (k5:=k5) (by rfl) hr.hd hpl vC (ld_glob I hg hm ⟨rfl,?_⟩ hd)
  rw [show (CXf P w K mg base N qual scope f cd A outer s H E).env=envOfC qual scope s.heap.objs.size f cd from rfl,he]
  refine Calls.evalArgs_plain ?_
  have hp:=ha cpos pins s1 σ H1 _ I h
  rw [show (CXf P w K mg base N qual scope f cd A outer s H E).env=envOfC qual scope s.heap.objs.size f cd from rfl,he] at hp
  refine wpAny_mono hp (fun us s2 hz=>?_) fun _ _ z=>z
  obtain ⟨vs,H2,I2,r,hl,hE⟩:=hz
  refine ⟨rfl,by rw [← r.length]; exact hl,I2.kIn _ _ lC,ns_kept gC I2.bk,.own (I2.kIn _ _ lJ) (ns_kept gJ I2.bk) vJ .base,fun h' ea hm=>?_⟩
  have hok':=I2.hok.kept hm.keeps
  have I3:Inv (CXf P w K mg base N qual scope f cd A outer s H E) pins σ H2 { s2 with heap:=h' }:=I2.un (t':=s2.toks) (Un.kept hm.keeps) hok'
  obtain ⟨t',he',_,_⟩:=hm.there
  have hn:H2 ea=none:=I2.hok.out hm.new
  have hout:ea ∉ frs (envOfC qual scope s.heap.objs.size f cd::outer):=fun z=>by
    obtain ⟨_,o,ho,_⟩:=I2.stack.mem z
    rw [hm.new] at ho; cases ho
  have old:∀ b,s2.heap.get? b=none→s.heap.get? b=none:=fun b hb=>by
    cases q:s.heap.get? b with
    | none=>rfl
    | some o=>obtain ⟨o',z⟩:=I2.base.there b o q (fun z=>absurd z (by simp [cxOf])); rw [hb] at z; cases z
  show wpAny (model P w) (A.deeper (envOfC qual scope s.heap.objs.size f cd)) (leaving (envOfC qual scope s.heap.objs.size f cd) (.ref ea)) _ _ { s2 with heap:=h' }
  refine leave_first (base:=base) (outer:=outer) (s:={ s2 with heap:=h' }) I.ok.frames I3.stack rfl he' rfl rfl rfl hout fun h'' T sz kb x'=>?_
  refine xe_of (s2:={ s2 with heap:=h'' }) I3 (old ea hm.new) hE hn rfl rfl kb (fun b hb=>?_) x' (hok'.fresh sz) ?_ (fun a z=>nomatch z)
  · simp only [List.mem_cons,List.not_mem_nil,or_false] at hb
    subst hb
    exact ⟨hn,old _ hm.new⟩
  · cases q:s.heap.get? T with
    | none=>rfl
    | some o=>obtain ⟨o',z⟩:=I3.base.there T o q (fun z=>absurd z (by simp [cxOf])); rw [show ({ s2 with heap:=h' }:Shared).heap.get? T=none from Heap.get?_none_of_le sz] at z; cases z
end
end L2

set_option Elab.async false
set_option linter.all false
set_option maxRecDepth 100000
namespace L2
open PySem PySem.Spec PyProof.Rows
def RS (X:Cx) (st:Stmt) (rt:St→Hp→(Hp→XK)→Prop):Prop:=∀ (pins:List (Addr × Obj)) (s:Shared) (σ:St) (H:Hp) (W:Hp→XK),Inv X pins σ H s→rt σ H W →
  wpAny (model X.prog X.w) X.A (exec st X.env) (fun _ _=>False) (fun e s'=>∃ H1 s1,Inv X pins σ H1 s1∧CX1 X.prog X.w X.stack H1 s1 (W H1) e s') s
def RE (X:Cx) (e:Expr) (rt:St→Hp→(Hp→XK)→Prop):Prop:=∀ (pins:List (Addr × Obj)) (s:Shared) (σ:St) (H:Hp) (W:Hp→XK),Inv X pins σ H s→rt σ H W →
  wpAny (model X.prog X.w) X.A (eval e X.env) (fun _ _=>False) (fun e s'=>∃ H1 s1,Inv X pins σ H1 s1∧CX1 X.prog X.w X.stack H1 s1 (W H1) e s') s
def Quiet (X:Cx):Prop:=∀ e s,¬ X.xe e s
section
variable {X:Cx} {k:Nat} {f:Addr} {fd:FuncData} {ps:List Str} {sp:Sp} {x:Str} {p pos:Pos} {e:Expr} {es:List Expr} {t:TA}
theorem re_call (hq:Quiet X) (F:FnOk X.prog X.w X.K X.mg X.base (CX1 X.prog X.w) k f fd ps sp) (hr:Room k X.A) (hg:Gl X x) (hm:X.mg x=some (.ref f)) (hk:PySem.W.keepIn X.K (.ref f)=true) (hb:Binds X.K fd ps [])
    (ha:PA X (e::es) t) (hdb:(x == ("__debug__":Str))=false:=by decide) (he:starEach (e::es) X.env=(false,eval e X.env)::starEach es X.env:=by rfl) (hpl:(backTo pos (starEach es X.env)).any (·.1)=false:=by rfl) :
    RE X (.Call (.Name x p) (e::es) [] pos) (fun σ H W=>t σ H fun vs H1=>sp vs H1 (fun _ _=>False) (W H1)):=by
  intro pins s σ H W I h
  refine wpAny_Call_Name_kw (ld_glob I hg hm ?_ hdb)
  refine PySem.W.callWith_K (h₀:=X.base) I.ok.mod.kin hk (wpAny_mono (ha pos pins s σ H _ I h) (fun us s1 hz=>?_) fun e s z=>absurd z (hq e s)) he hpl
  obtain ⟨vs,H1,I1,r,q⟩:=hz
  refine ⟨I1.kIn,?_⟩
  have hl:us.length=ps.length:=by rw [← r.length]; exact F.len _ _ _ _ q
  have hb':=hb s1 us I1.kIn (by rw [List.append_nil]; exact hl)
  rw [List.append_nil] at hb'
  refine wpAny_call (codeAny_mono (F.run X.A X.stack s1 H1 ⟨us,[]⟩ us vs _ (W H1) hr I1.env0 hb' r q) fun r s' hq=>?_)
  cases r with
  | error e=>exact ⟨H1,s1,I1,hq⟩
  | ok fl =>
    cases fl with
    | ret u=>obtain ⟨_,_,_,_,_,_,_,z⟩:=hq; exact z.elim
    | next=>exact False.elim hq
    | brk=>exact False.elim hq
    | cont=>exact False.elim hq
theorem rs_set {rt:St→Hp→(Hp→XK)→Prop} {y:Str} {pos':Pos} (h:RE X e rt) (hs:swapsWith e (some (.Name y pos')) pos.line X.env=pure false:=by rfl):RS X (.Assign [.Name y pos'] e pos) rt:=by
  intro pins s σ H W I hq
  exact wpAny_Assign_Name (thn (h pins s σ H W I hq) fun v s1 z=>z.elim) hs
end
abbrev Cx.marked (X:Cx) (ea:Addr):Cx:={ X with A:=X.A.mark (some (.ref ea)),calm:=false }
section
variable {X:Cx} {pins:List (Addr × Obj)} {σ:St} {H:Hp} {s:Shared} {ea:Addr}
theorem Inv.mark (I:Inv X pins σ H s) (ea:Addr):Inv (X.marked ea) pins σ H s :=
  ⟨⟨I.ok.mod,I.ok.kind,I.ok.glob,I.ok.blt,I.ok.above,I.ok.inj,I.ok.has,I.ok.cab,(fun z=>nomatch z),I.ok.frames,I.ok.stk,I.ok.exf,I.ok.bs,I.ok.bsz,I.ok.noex,I.ok.exfs,I.ok.funs,I.ok.frf⟩,I.os,I.bare,I.base,I.loc,I.cell,I.free,I.freeC,I.pin,I.hok,I.len⟩
theorem Inv.unmark {σ':St} {H':Hp} {s':Shared} (I:Inv X pins σ H s) (J:Inv (X.marked ea) pins σ' H' s'):Inv X pins σ' H' s':=⟨I.ok,J.os,J.bare,J.base,J.loc,J.cell,J.free,J.freeC,J.pin,J.hok,J.len⟩
theorem goes_ok {M:Model} {A:Around} {E:Value→Shared→Prop} {i:Nat} {n:Str} {pos:Pos} {Q:Unit→Shared→Prop} (I:Inv X pins σ H s) (hN:X.N.Nodup) (hi:X.N[i]?=some n) (hx:X.env.scope.names.lookup n=some .local)
    (h:∀ s',Inv X pins (σ.set i none) H s'→Q () s'):wpAny M A (do bindName X.env n .none; unbindBehindTheSuite X.env n pos) Q E s:=by
  obtain ⟨m,hn,hl⟩:=id I.loc
  have hcls:(X.env.scope.kind == .class || (X.env.scope.kind == .module && X.env.locals != X.env.globals))=false:=by rw [I.ok.kind]; rfl
  have hiσ:i < σ.length:=by rw [I.len]; exact (List.getElem?_eq_some_iff.mp hi).1
  have cne:=I.cne
  refine wpAny_nameGoes_keeps hx hn hcls fun h' v hn' hs=>?_
  have low:∀ b o,X.s₀.heap.get? b=some o→b ≠ X.env.locals:=fun b o e=>Nat.ne_of_lt (Nat.lt_of_lt_of_le (Heap.lt_size e) I.ok.above)
  refine h _ ⟨I.ok,I.os,I.bare,⟨fun b o e n hb hx=>?_,fun b o e n hb hx=>?_,I.base.free,fun b o e hx=>?_,I.base.tups,I.base.frzs,I.base.tbls⟩,⟨_,hn',fun j y v' e1 e2 e3=>?_⟩,fun y c e=>?_,I.free,I.freeC,fun p hp=>?_,fun b ob e=>?_,by simpa using I.len⟩
  · exact (hs.2 b (low b o e)).trans (I.base.keep b o e n hb hx)
  · obtain ⟨sl,e1⟩:=I.base.slot b o e n hb hx
    exact ⟨sl,(hs.2 b (low b o e)).trans e1⟩
  · obtain ⟨o',e1⟩:=I.base.there b o e hx
    exact ⟨o',(hs.2 b (low b o e)).trans e1⟩
  · have hj:j ≠ i:=fun z=>by
      rw [z,List.getElem?_set_self hiσ] at e2
      cases e2
    rw [List.getElem?_set_ne (Ne.symm hj)] at e2
    obtain ⟨u',r',q⟩:=hl j y v' e1 e2 e3
    have hy:y ≠ n:=fun z=>hj (nodup_ix hN (z ▸ e1) hi)
    refine ⟨u',r',?_⟩
    rcases q with ⟨k,e⟩ | ⟨k,c,e,o,z,zd⟩
    · exact .inl ⟨k,by show (if y=n then v else m y)=_; rw [if_neg hy]; exact e⟩
    · exact .inr ⟨k,c,e,o,(hs.2 c (cne y c e)).trans z,zd⟩
  · obtain ⟨w',o,z,zd⟩:=I.cell y c e
    exact ⟨w',o,(hs.2 c (cne y c e)).trans z,zd⟩
  · obtain ⟨p1,p2,p3,p4,p5⟩:=I.pin p hp
    exact ⟨(hs.2 p.1 p3).trans p1,p2,p3,p4,p5⟩
  · refine (I.hok b ob e).stay (fun c w' hc q=>(hs.2 c ?_).trans q) (fun _ q=>q) fun _ _ q=>q
    rintro rfl
    rcases hc with rfl | hc
    · rw [I.free] at e; cases e
    · rw [I.free] at hc; cases hc
theorem HOk.track {P:Program} {w:World} {H:Hp} {h:Heap} {a:Addr} {o:HO} (x:HOk P w H h) (hn:H a=none) (new:ObjOk P w (upd H a o) h a o):HOk P w (upd H a o) h:=fun b u e=>by
  by_cases hb:b=a
  · subst hb; rw [upd_same] at e; cases e; exact new
  · rw [upd_ne hb] at e
    exact (x b u e).stay (fun c v _ q=>q) (fun c q=>by rw [upd_ne (ne_of_none q hn)]; exact q) fun c xs q=>by rw [upd_ne (ne_of_none q hn)]; exact q
theorem Un.track {fr:List Addr} {H H':Hp} {h h':Heap} {a:Addr} {o:HO} (u:Un fr [] H H' h h') (hn:H' a=none) (hf:h.get? a=none):Un fr [] H (upd H' a o) h h' where
  keep:=u.keep
  slot:=u.slot
  free:=fun b ob e n x=>by
    rw [upd_ne fun z=>by rw [z,hf] at e; cases e]
    exact u.free b ob e n x
  there:=u.there
  tups:=fun b xs e=>by have z:=u.tups b xs e; rw [upd_ne (ne_of_none z hn)]; exact z
  frzs:=fun b ob v e=>by have z:=u.frzs b ob v e; rw [upd_ne (ne_of_none z hn)]; exact z
  tbls:=fun b q e=>by
    obtain ⟨more,z⟩:=u.tbls b q e
    exact ⟨more,by rw [upd_ne (ne_of_none z hn)]; exact z⟩
def tTryX (K:PySem.W.Frag) (J:Addr) (i:Nat) (rt:St→Hp→(Hp→XK)→Prop) (ts:Addr→TS):TS:=fun D σ H=>rt σ H fun H1 cls dx H2=>PySem.W.exmOne K cls (.ref J)=some true ∧
  ∃ C,cls=.ref C∧∀ ea,H1 ea=none→H2 ea=none→(∀ a,dx=some a→H1 a=none)→ts ea { nx:=fun σ' H'=>D.nx (σ'.set i none) H',rt:=fun _ _=>False } (σ.set i (some (.ref ea))) (upd H2 ea (.ext (TL.excAt ea C dx)))
theorem ps_tryX {J:Addr} {i:Nat} {n jn:Str} {jp hp pos:Pos} {st b0:Stmt} {suite:List Stmt} {hs':List ExceptHandler} {rt:St→Hp→(Hp→XK)→Prop} {ts:Addr→TS} (hq:Quiet X) (hst:X.stack=X.env::X.outer) (hfr:X.env.frame=some X.env.locals) (hN:X.N.Nodup) (hi:X.N[i]?=some n) (hx:X.env.scope.names.lookup n=some .local) (hg:Gl X jn) (hm:X.mg jn=some (.ref J))
    (hs:RS X st rt) (hb:∀ ea,PSs (X.marked ea) (b0::suite) (ts ea)) (hd:(jn == ("__debug__":Str))=false:=by decide) :
    PS X (.Try [st] (.ExceptHandler (some (.Name jn jp)) (some n) (b0::suite) hp::hs') [] [] pos) (tTryX X.K J i rt ts):=by
  intro pins s σ H D I h
  refine wpAny_Try_except (wpAny_execs_cons (wpAny_mono (hs pins s σ H _ I h) (fun _ _ z=>z.elim) fun e s' hz=>?_))
  obtain ⟨H1,s1,I1,ea,T,dx,cls,a0,H2,rfl,os,bare,un,hok,x,n1,n2,n3,n4,n5,hW,C,rfl,hsuite⟩:=hz
  have I2:Inv X pins σ H2 s':=I1.call' (ch:=[]) os un hok bare fun b z=>absurd z (by simp)
  have hfrm:X.A.frames=some (X.env::X.outer):=by rw [← hst]; exact I.ok.frames
  have hstk:s'.heap.FunFrames X.base (X.env::X.outer):=by rw [← hst]; exact I2.stack
  have hout:∀ b,s1.heap.get? b=none→b ∉ frs (X.env::X.outer):=fun b hb z=>by
    rw [← hst] at z
    obtain ⟨_,o,ho,_⟩:=I1.stack.mem z
    rw [hb] at ho; cases ho
  have hfree:∀ b ∈ frs (X.env::X.outer),H2 b=none:=fun b hb=>by rw [← hst] at hb; exact I2.stkFree b hb
  refine note_next (base:=X.base) hfrm hstk hfr x (hout ea n3) (hout T n4) fun h3 T' sz kb x3=>?_
  have hT':H2 T'=none:=hok.fresh sz
  have hT1:s1.heap.get? T'=none:=by
    cases q:s1.heap.get? T' with
    | none=>rfl
    | some o=>obtain ⟨o',z⟩:=un.there T' o q (by simp); rw [Heap.get?_none_of_le sz] at z; cases z
  refine flight_off (s:={ s' with heap:=h3 }) x3 fun h4 k4 x4=>?_
  have kb4:KeptBut (frs (X.env::X.outer)) [ea,T,T'] s'.heap h4:=(kb.more fun b hb=>List.mem_cons.mpr ((List.mem_cons.mp hb).imp id fun z=>List.mem_cons.mpr (.inl (List.mem_singleton.mp z)))).trans (.of fun b u eb c=>k4 b u eb fun z=>c (by rw [z]; simp))
  have nw:∀ b o,s1.heap.get? b=some o→b ∉ [ea,T,T']∧(b ∈ frs (X.env::X.outer)→b ∈ frs X.stack):=fun b o e=>by
    refine ⟨fun z=>?_,fun z=>by rw [hst]; exact z⟩
    simp only [List.mem_cons,List.not_mem_nil,or_false] at z
    rcases z with rfl | rfl | rfl
    · rw [n3] at e; cases e
    · rw [n4] at e; cases e
    · rw [hT1] at e; cases e
  have chn:∀ b ∈ [ea,T,T'],H2 b=none:=fun b z=>by
    simp only [List.mem_cons,List.not_mem_nil,or_false] at z
    rcases z with rfl | rfl | rfl
    · exact n1
    · exact n2
    · exact hT'
  have un4:=un.but kb4 nw
  have hok4:=hok.butX kb4 hfree chn
  have I4:Inv X pins σ H2 { s' with heap:=h4 }:=I1.call' (ch:=[]) os un4 hok4 bare fun b z=>absurd z (by simp)
  have J4:=I4.mark ea
  obtain ⟨oe,ve,ge,ce,de,dte,_,_⟩:=x4.ex
  have LT:PySem.W.Looks (model X.prog X.w) h4 (typeOf (.ref ea)) (.ref C):=ce ▸ (PySem.W.Looks.ld ge).andThen .now
  refine wpAny_handleBy_cons (codeAny_handlers_test (ld_glob (X:=X.marked ea) J4 hg hm (((PySem.W.exm_one J4.kIn LT hW).at ?_)) hd)) (fun z=>nomatch z)
  rw [if_pos rfl]
  refine codeAny_handlers_suite_as (flight_off (s:={ s' with heap:=h4 }) x4 fun h5 k5 x5=>?_)
  have kb5:KeptBut (frs (X.env::X.outer)) [ea,T,T'] s'.heap h5:=kb4.trans (.of fun b u eb c=>k5 b u eb fun z=>c (by rw [z]; simp))
  have un5:=un.but kb5 nw
  have hok5:=hok.butX kb5 hfree chn
  obtain ⟨o5,v5,g5,c5,d5,dt5,_,_⟩:=x5.ex
  have hq5:=hsuite ea (I1.hok.out n3) n1 fun a z=>I1.hok.out (n5 a z)
  have hok6:HOk X.prog X.w (upd H2 ea (.ext (TL.excAt ea C dx))) h5:=hok5.track n1 ⟨⟨o5,v5,g5,c5,d5,dt5⟩,⟨o5,g5⟩,fun ha hb ⟨o,v,y1,y2⟩ k=>⟨o,v,k o y1,y2⟩⟩
  have I5:Inv X pins σ (upd H2 ea (.ext (TL.excAt ea C dx))) { s' with heap:=h5 }:=I1.call' (ch:=[]) os (un5.track n1 n3) hok6 bare fun b z=>absurd z (by simp)
  refine store_ok I5 hN hi (.inl hx) (v:=.ref ea) rfl (fun s6 I6=>?_) (.inr hx)
  refine wpAny_mono (hb ea pins s6 _ _ _ (I6.mark ea) hq5) (fun fl s7 h7=>?_) fun e s7 z=>absurd z (hq e s7)
  cases fl with
  | next =>
    obtain ⟨σ',H',J7,q⟩:=h7
    exact goes_ok (I6.unmark J7) hN hi hx fun s8 I8=>⟨_,H',I8,q⟩
  | brk=>obtain ⟨_,_,_,z⟩:=h7; exact z.elim
  | cont=>obtain ⟨_,_,_,z⟩:=h7; exact z.elim
  | ret u=>obtain ⟨_,_,_,_,_,z⟩:=h7; exact z.elim
theorem ps_tryN {body:List Stmt} {h₀:ExceptHandler} {hs:List ExceptHandler} {pos:Pos} {ts:TS} (hq:Quiet X) (hb:PSs X body ts):PS X (.Try body (h₀::hs) [] [] pos) ts:=by
  intro pins s σ H D I h
  refine wpAny_Try_except (wpAny_mono (hb pins s σ H D I h) (fun f s1 q=>?_) fun e s1 z=>absurd z (hq e s1))
  cases f with
  | next=>exact wpAny_execs_nil q
  | ret v=>exact q
  | brk=>exact q
  | cont=>exact q
end
end L2

set_option Elab.async false
set_option linter.all false
set_option maxRecDepth 100000
namespace TL
open PySem PySem.Spec PyProof.Rows L2
def XRep (K:PySem.W.Frag) (H:Hp) (d:D) (cls:Value) (dx:Option Addr):Prop :=
  (∃ C:Addr,d=.dict [(.int (C:Nat),.none)]∧cls=.ref C∧dx=none∧XOk K C) ∨
  (∃ (C a:Addr) (n:Int),d=.dict [(.int (C:Nat),.int n)]∧cls=.ref C∧dx=some a∧XOk K C∧H a=some (.xd [("at",.int n)]))
def liftSpX (K:PySem.W.Frag) (sp:SpT):Sp:=fun vs H _ E=>∃ (ps:List Addr) (ds:List D) (ED:D→Prop),(∀ p ∈ ps,H p ≠ none)∧Reps K (mask H ps) ds vs∧sp ds ED∧∀ d cls dx H',Same H H'→XRep K H' d cls dx→ED d→E cls dx H'
section
variable {K:PySem.W.Frag} {P:Program} {w:World} {mg:Str→Option Value} {base:Heap}
theorem fnX {x qual:Str} {st:Stmt} {f:Addr} {fd:FuncData} {N pn:List Str} {k:Nat} {sp:SpT} (F:Fun K x qual st f fd) (S:FnScope N pn (defScope st)) (len:∀ ds Q,sp ds Q→ds.length=pn.length)
    (hbody:∀ (cdv:Value) (A:Around) (outer:List Env) (s:Shared) (H:Hp) (E:XK),Room k (A.deeper (envOfC qual (defScope st) s.heap.objs.size f cdv))→∀ (ds:List D) (ED:D→Prop),sp ds ED→(∀ d cls dx H',Same H H'→XRep K H' d cls dx→ED d→E cls dx H') →
      ∃ t,PSst (CXf P w K mg base N qual (defScope st) f cdv A outer s H E) (defBody st) t∧t { nx:=fun _=>False,rt:=fun _=>False,xB:=fun B=>B=H } (startT N ds)):FnOk P w K mg base (CX1 P w) (k + 1) f fd pn (liftSpX K sp):=by
  obtain ⟨oc,od,kV,doc,pm,an,cdv,ct,osl,rfl,lk,hcd⟩:=F.ex
  refine fn_of lk hcd S (fun vs H Q E h=>?_) fun A outer s H vs Q E hr h=>?_
  · obtain ⟨ps,ds,QD,_,r,q,_⟩:=h
    rw [← r.length]; exact len ds QD q
  · obtain ⟨ps,ds,ED,live,r,q,hE⟩:=h
    obtain ⟨t,⟨ts,p,rd⟩,h⟩:=hbody cdv A outer s H E hr ds ED q hE
    exact ⟨ts,p,rd H ps H ps _ _ _ _ (ok_start live r) h ⟨fun _ _ _ _ _ _ q'=>q'.elim,fun _ _ _ _ _ _ q'=>q'.elim,fun _ _ _ _ _ _ q'=>q'.elim,fun _ _ _ _ _ q'=>q'.elim,fun _ _ _ _ _ _ _ _ _ q'=>q'.elim,fun _ _ _ _ _ _ _ _ _ _ _ _ _ _ _ _ _ _ q'=>q'.elim,fun _ _ _ _ _ _ _ _ _ _ _ _ _ _ q'=>q'.elim,rfl⟩⟩
end
section
variable {P:Program} {w:World} {K:PySem.W.Frag} {mg:Str→Option Value} {base:Heap} {N:List Str} {qual:Str} {scope:Scope} {f:Addr} {cd:Value} {A:Around} {outer:List Env} {s:Shared} {H:Hp} {E:XK} {ED:D→Prop}
def sRaise (ED:D→Prop) (H0:Hp) (C:Addr) (t:AT):STt:=fun DT σ=>t σ fun ds=>ds.length≤1000∧ED (.dict [(.int (C:Nat),.none)])∧∀ B,DT.xB B→B=H0
theorem st_raise {C:Addr} {x:Str} {np cpos pos:Pos} {e:Expr} {es:List Expr} {t:AT} (hE:∀ d cls dx H',Same H H'→XRep K H' d cls dx→ED d→E cls dx H') (xk:XOk K C) (ha:PAt (CXf P w K mg base N qual scope f cd A outer s H E) (e::es) t)
    (pr:∀ {ta:TA},PA (CXf P w K mg base N qual scope f cd A outer s H E) (e::es) ta→PS (CXf P w K mg base N qual scope f cd A outer s H E) (.Raise (some (.Call (.Name x np) (e::es) [] cpos)) none pos) (tRaise C E ta)) :
    PSt (CXf P w K mg base N qual scope f cd A outer s H E) (.Raise (some (.Call (.Name x np) (e::es) [] cpos)) none pos) (sRaise ED H C t):=by
  obtain ⟨va,pa,ra⟩:=ha
  refine ⟨_,pr pa,fun B p0 H' ps σT σ DT DV o h f=>ra B p0 H' ps σT σ _ _ o h fun ds vs H1 s1 r1 q=>?_⟩
  obtain ⟨hl,hd,hB⟩:=q
  obtain rfl:=hB B f.xb
  exact ⟨le_line (by rw [← r1.length]; exact hl),hE _ _ _ H1 (o.base.trans s1) (.inl ⟨C,rfl,rfl,rfl,xk⟩) hd⟩
theorem seq_raise {C:Addr} {t:AT} {H0:Hp} {DT:EndsT} {σ:List Sl} (ds:List D) (h:∀ q:List D→Prop,q ds→t σ q) (hl:ds.length≤1000) (hd:ED (.dict [(.int (C:Nat),.none)])) (hB:∀ B,DT.xB B→B=H0):sRaise ED H0 C t DT σ:=h _ ⟨hl,hd,hB⟩
end
section
variable {X:Cx} {e:Expr} {es:List Expr} {pos:Pos} {st:Stmt}
theorem PSt.or {t u:STt} (h1:PSt X st t) (h2:PSt X st u):PSt X st (fun DT σ=>t DT σ ∨ u DT σ):=by
  obtain ⟨v1,p1,r1⟩:=h1
  obtain ⟨v2,p2,r2⟩:=h2
  refine ⟨fun D σ H=>v1 D σ H ∨ v2 D σ H,fun pins s σ H D I h=>?_,fun B p0 H ps σT σ DT DV o h f=>?_⟩
  · rcases h with h | h
    · exact p1 pins s σ H D I h
    · exact p2 pins s σ H D I h
  · rcases h with h | h
    · exact .inl (r1 B p0 H ps σT σ DT DV o h f)
    · exact .inr (r2 B p0 H ps σT σ DT DV o h f)
theorem st_tryN {body:List Stmt} {h0:ExceptHandler} {hs:List ExceptHandler} {t:STt} (h:PSst X body t) (p:∀ {ts:TS},PSs X body ts→PS X (.Try body (h0::hs) [] [] pos) ts):PSt X (.Try body (h0::hs) [] [] pos) t:=by
  obtain ⟨ts,p1,r⟩:=h
  exact ⟨ts,p p1,r⟩
def RSt (X:Cx) (st:Stmt) (t:ET):Prop:=∃ rt:L2.St→Hp→(Hp→XK)→Prop,RS X st rt∧∀ (B:Hp) (p0:List Addr) (H:Hp) (ps:List Addr) (σT:List Sl) (σ:L2.St) (ED:D→Prop) (W:Hp→XK),Ok X.K B p0 H ps σT σ→t σT ED →
  (∀ d cls dx H1 H2,Same H H1→Same H1 H2→XRep X.K H2 d cls dx→ED d→W H1 cls dx H2)→rt σ H W
theorem rst_call {sp:SpT} {x:Str} {p:Pos} {t:AT} (ha:PAt X (e::es) t) (pc:∀ {ta:TA},PA X (e::es) ta→RS X st (fun σ H W=>ta σ H fun vs H1=>liftSpX X.K sp vs H1 (fun _ _=>False) (W H1))):RSt X st (fun σ ED=>t σ fun ds=>sp ds ED):=by
  obtain ⟨v,pa,ra⟩:=ha
  refine ⟨_,pc pa,fun B p0 H ps σT σ ED W o h k=>ra B p0 H ps σT σ _ _ o h fun ds xs H1 s1 r1 q1=>?_⟩
  exact ⟨ps,ds,ED,(o.grow s1).live,r1,q1,fun d cls dx H2 s2 x' e'=>k d cls dx H1 H2 s1 s2 x' e'⟩
theorem Ok.away {K:PySem.W.Frag} {B H:Hp} {p0 ps:List Addr} {σT:List Sl} {σ:L2.St} (o:Ok K B p0 H ps σT σ) (i:Nat):Ok K B p0 H ps (σT.set i .un) (σ.set i none) where
  base:=o.base
  sub:=o.sub
  live:=o.live
  len:=by simpa using o.len
  val:=fun j d h=>by
    by_cases e:i=j
    · subst e
      have hi:i < σT.length:=by have:=(List.getElem?_eq_some_iff.mp h).1; simpa using this
      rw [List.getElem?_set_self hi] at h; cases h
    · rw [List.getElem?_set_ne e] at h ⊢; exact o.val j d h
  own:=fun j ts h=>by
    by_cases e:i=j
    · subst e
      have hi:i < σT.length:=by have:=(List.getElem?_eq_some_iff.mp h).1; simpa using this
      rw [List.getElem?_set_self hi] at h; cases h
    · rw [List.getElem?_set_ne e] at h ⊢; exact o.own j ts h
  dis:=fun j k ts us p h1 h2 h3 h4=>by
    have back:∀ {l:Nat} {vs:List D},(σT.set i .un)[l]?=some (.own vs)→i ≠ l∧σT[l]?=some (.own vs):=fun {l vs} h=>by
      by_cases e:i=l
      · subst e
        have hi:i < σT.length:=by have:=(List.getElem?_eq_some_iff.mp h).1; simpa using this
        rw [List.getElem?_set_self hi] at h; cases h
      · rw [List.getElem?_set_ne e] at h; exact ⟨e,h⟩
    obtain ⟨n1,b1⟩:=back h1
    obtain ⟨n2,b2⟩:=back h2
    rw [List.getElem?_set_ne n1] at h3
    rw [List.getElem?_set_ne n2] at h4
    exact o.dis j k ts us p b1 b2 h3 h4
  dc:=o.dc.setS fun _ _ z=>nomatch z
def sTryX (K:PySem.W.Frag) (J:Addr) (i:Nat) (t:ET) (ts:STt):STt:=fun DT σ=>t σ fun d=>(∃ (C:Addr) (y:D),d=.dict [(.int (C:Nat),y)]∧PySem.W.exmOne K (.ref C) (.ref J)=some true) ∧
  ts { nx:=fun σ'=>DT.nx (σ'.set i .un),rt:=fun _=>False,xB:=DT.xB } (σ.set i (.val d))
theorem st_tryX {J:Addr} {i:Nat} {h0:ExceptHandler} {hs':List ExceptHandler} {t:ET} {b0:Stmt} {suite:List Stmt} {ts:STt} (hs:RSt X st t) (hb:∀ ea,PSst (X.marked ea) (b0::suite) ts)
    (pt:∀ {rt:L2.St→Hp→(Hp→XK)→Prop} {us:Addr→TS},RS X st rt→(∀ ea,PSs (X.marked ea) (b0::suite) (us ea))→PS X (.Try [st] (h0::hs') [] [] pos) (tTryX X.K J i rt us)):PSt X (.Try [st] (h0::hs') [] [] pos) (sTryX X.K J i t ts):=by
  obtain ⟨rt,rs,rr⟩:=hs
  refine ⟨_,pt rs (fun ea=>(hb ea).choose_spec.1),fun B p0 H ps σT σ DT DV o h f=>rr B p0 H ps σT σ _ _ o h fun d cls dx H1 H2 s1 s2 xr q=>?_⟩
  obtain ⟨⟨C,y,hd,hm⟩,q⟩:=q
  have main:∀ C0:Addr,cls=.ref C0→C0=C→(∀ ea,H2 ea=none→(∀ a,dx=some a→H1 a=none)→∀ u,H ea=none→u=HO.ext (excAt ea C0 dx)→Rep X.K (mask (upd H2 ea u) ps) d (.ref ea))→PySem.W.exmOne X.K cls (.ref J)=some true∧∃ C,cls=.ref C∧∀ ea,H1 ea=none→H2 ea=none→(∀ a,dx=some a→H1 a=none) →
      (hb ea).choose { nx:=fun σ' H'=>DV.nx (σ'.set i none) H',rt:=fun _ _=>False } (σ.set i (some (.ref ea))) (upd H2 ea (.ext (excAt ea C dx))):=fun C0 hc hC hrep=>by
    subst hc
    subst hC
    refine ⟨hm,C0,rfl,fun ea n1 n2 n3=>?_⟩
    have nH:H ea=none:=Same.free' s1 n1
    have sA:Same H (upd H2 ea (.ext (excAt ea C0 dx))):=(s1.trans s2).trans (same_new n2)
    refine (hb ea).choose_spec.2 B p0 _ ps _ _ { nx:=fun σ'=>DT.nx (σ'.set i .un),rt:=fun _=>False,xB:=DT.xB } _ ((o.grow sA).set (hrep ea n2 n3 _ nH rfl)) q ⟨fun H' ps' σT' σ' o' s' q'=>?_,fun _ _ _ _ _ _ q'=>q'.elim,fun _ _ _ _ _ _ q'=>q'.elim,fun _ _ _ _ _ q'=>q'.elim,fun _ _ _ _ _ _ _ _ _ q'=>q'.elim,fun _ _ _ _ _ _ _ _ _ _ _ _ _ _ _ _ _ _ q'=>q'.elim,fun _ _ _ _ _ _ _ _ _ _ _ _ _ _ q'=>q'.elim,f.xb⟩
    exact f.nx H' ps' _ _ (o'.away i) ((mask_same sA).trans s') q'
  rcases xr with ⟨C0,h1,h2,h3,xk⟩ | ⟨C0,a,n,h1,h2,h3,xk,ha⟩
  · refine main C0 h2 ?_ fun ea n2 n3 u nH hu=>?_
    · rw [hd] at h1; injection h1 with h1; injection h1 with h1; injection h1 with h1; injection h1 with h1; exact (Int.ofNat.inj h1).symm
    · subst hu h1 h3
      exact .exc xk (mask_at (fresh_notin o.live nH) upd_same)
  · refine main C0 h2 ?_ fun ea n2 n3 u nH hu=>?_
    · rw [hd] at h1; injection h1 with h1; injection h1 with h1; injection h1 with h1; injection h1 with h1; exact (Int.ofNat.inj h1).symm
    · subst hu h1 h3
      exact .excA xk (mask_at (fresh_notin o.live nH) upd_same) (mask_at (fresh_notin o.live (Same.free' s1 (n3 a rfl))) (by rw [upd_ne (ne_of_none ha n2)]; exact ha))
end
end TL

set_option Elab.async false
set_option linter.all false
set_option maxRecDepth 100000
namespace L2
open PySem PySem.Spec PyProof.Rows
theorem bl_ValueError:bootBuiltins "ValueError"=some (.type "ValueError"):=by decide +kernel
section
variable {K:PySem.W.Frag} {C D J:Addr} {cd:ClassData}
theorem kit_self:PySem.W.kitOne K (.ref C) (.ref C)=some true:=by unfold PySem.W.kitOne; rw [if_pos (by simp)]
theorem kit_no (hc:PySem.W.clsIn K D=some cd) (ht:PySem.W.typeIn K (.ref D)=some (.type "type")) (hm:PySem.W.mroIn K C (.ref D)=some false) (hs:PySem.W.mroIn K D (.ref D)=some true):PySem.W.kitOne K (.ref C) (.ref D)=some false:=by
  have ne:¬ (Value.ref C == Value.ref D)=true:=fun z=>by
    have e:C=D:=Value.ref.inj (beq_iff_eq.mp z)
    subst e
    rw [hm] at hs; cases hs
  unfold PySem.W.kitOne
  rw [if_neg ne]
  unfold PySem.W.kitCls
  dsimp only
  rw [hc,ht]
  show (if (true && (some (Value.type "type") == some (Value.type "type")))=true then _ else _)=_
  rw [if_pos (by simp)]
  exact hm
theorem kit_ty {T:String} {b:Bool} (hk:PySem.W.kitMeta T=true) (hm:PySem.W.mroIn K C (.type T)=some b):PySem.W.kitOne K (.ref C) (.type T)=some b:=by
  unfold PySem.W.kitOne
  rw [if_neg (fun z=>by cases beq_iff_eq.mp z)]
  unfold PySem.W.kitCls
  dsimp only
  rw [if_pos hk]
  exact hm
theorem exm_own (hc:PySem.W.clsIn K J=some cd) (ht:PySem.W.typeIn K (.ref J)=some (.type "type")) (hb:PySem.W.mroIn K J (.type "BaseException")=some true) (hm:PySem.W.mroIn K C (.ref J)=some true):PySem.W.exmOne K (.ref C) (.ref J)=some true:=by
  unfold PySem.W.exmOne
  have e:PySem.W.subIn K (.ref J) (.type "BaseException")=some true:=hb
  rw [e,if_pos (by simp)]
  unfold PySem.W.kitCls
  dsimp only
  rw [hc,ht]
  show (if (true && (some (Value.type "type") == some (Value.type "type")))=true then _ else _)=_
  rw [if_pos (by simp)]
  exact hm
theorem nsOk_of {N:Addr} {c:Value} {d:Option Addr} {es:Array DictEntry} {n:Nat} {sl:Array (Option Value)} (l:K.lookup N=some ⟨c,d,.dict es n,sl⟩) (h:(es.toList.all fun e=>match e.key with | .str _ _=>true | _=>false)=true):PySem.W.nsOkIn K N=true:=by
  unfold PySem.W.nsOkIn
  rw [l]
  rw [Array.all_toList] at h
  exact h
theorem km_int:PySem.W.kitMeta "int"=true:=by decide +kernel
theorem km_str:PySem.W.kitMeta "str"=true:=by decide +kernel
theorem km_list:PySem.W.kitMeta "list"=true:=by decide +kernel
theorem km_tuple:PySem.W.kitMeta "tuple"=true:=by decide +kernel
theorem km_bool:PySem.W.kitMeta "bool"=true:=by decide +kernel
theorem km_ValueError:PySem.W.kitMeta "ValueError"=true:=by decide +kernel
end
theorem quiet0 {X:Cx}:Quiet X.nox:=fun _ _ h=>h
theorem Room.mark {X:Cx} {k j:Nat} (r:Room k X.A) (h:j≤k) (ea:Addr):RoomH j (X.marked ea).A:=⟨by have:=r.dp; show X.A.depth + 3 * j + 5 < _; omega,by have:=r.un; show X.A.units + 16 * j + 200 < _; omega,r.gd⟩
theorem RoomH.u {k:Nat} {A:Around} (r:RoomH k A):A.units + 200 < cLine:=by have:=r.un; omega
end L2
namespace TL
open PySem PySem.Spec PyProof.Rows L2
section
variable {X:Cx} {e:Expr} {es:List Expr} {te:ET} {pos:Pos}
def rIsX (K:PySem.W.Frag) (c:Value) (cv:V):List V→Hp→VK→Prop:=fun xs H Q=>∃ (p C:Addr) (dx:Option Addr) (b:Bool),xs=[.ref p,cv]∧H p=some (.ext (excAt p C dx))∧(∀ d,dx=some d→∃ fs,H d=some (.xd fs))∧XCls K C∧PySem.W.kitOne K (.ref C) c=some b∧Q (.bl b) H
theorem call_isx {c:Value} {cv:V} (hc:∀ u,RelV cv u→u=c):CallR X (.builtin "isinstance") (rIsX X.K c cv):=by
  intro pins s σ H xs us Q I r h
  obtain ⟨p,C,dx,b,rfl,hp,hd,hx,hk,q⟩:=h
  obtain ⟨u,w,rfl,ru,rw'⟩:=vals2 r
  obtain rfl:=hc _ rw'
  cases ru
  exact isinst_exc I hp hd hx hk fun tk=>⟨.bl b,H,I.tok tk,rfl,q⟩
def eIsX (K:PySem.W.Frag) (c:Value) (te:ET):ET:=fun σ Q=>te σ fun d=>∃ (C:Addr) (y:D) (b:Bool),d=.dict [(.int (C:Nat),y)]∧PySem.W.kitOne K (.ref C) c=some b∧Q (.bool b)
theorem et_isx {c:Value} {cv:V} {g1 g2:Expr} (he:PEt X e te) (pc:∀ {v:TE},PE X e v→PE X (.Call g1 [e,g2] [] pos) (tCB (rIsX X.K c cv) (tCons v (tCons (tC cv) tNil)))):PEt X (.Call g1 [e,g2] [] pos) (eIsX X.K c te):=by
  obtain ⟨v,pe,re⟩:=he
  refine ⟨_,pc pe,fun B p0 H ps σT σ Q QV o h k=>re B p0 H ps σT σ _ _ o h fun d x H1 s1 r1 q1=>?_⟩
  obtain ⟨C,y,b,rfl,hk,q⟩:=q1
  generalize hg:(PyData.dict [(.int (C:Nat),y)])=d at r1
  cases r1 with
  | @exc p C' xk hp =>
    injection hg with hg; injection hg with hg; injection hg with hg hy; injection hg with hg
    obtain rfl:C=C':=Int.ofNat.inj hg
    exact ⟨p,C,none,b,rfl,mask_le _ _ hp,(fun _ z=>nomatch z),xk.1,hk,k _ _ H1 s1 (.bool _) q⟩
  | @excA p C' dx n xk hp hx =>
    injection hg with hg; injection hg with hg; injection hg with hg hy; injection hg with hg
    obtain rfl:C=C':=Int.ofNat.inj hg
    exact ⟨p,C,some dx,b,rfl,mask_le _ _ hp,fun _ z=>by cases z; exact ⟨_,mask_le _ _ hx⟩,xk.1,hk,k _ _ H1 s1 (.bool _) q⟩
  | _=>cases hg
end
end TL

set_option Elab.async false
set_option linter.all false
set_option maxRecDepth 100000
namespace L2
open PySem PySem.Spec PyProof.Rows TL
section
variable {X:Cx}
def rIsXT (K:PySem.W.Frag):List V→Hp→VK→Prop:=fun xs H Q=>∃ (p C:Addr) (dx:Option Addr) (tp:Addr) (cs:List Addr) (b:Bool),xs=[.ref p,.ref tp]∧H p=some (.ext (excAt p C dx))∧(∀ d,dx=some d→∃ fs,H d=some (.xd fs))∧XCls K C∧H tp=some (.tup (cs.map V.ref))∧PySem.W.kitAny K (.ref C) (cs.map Value.ref)=some b∧Q (.bl b) H
theorem vals_refs:∀ {cs:List Addr} {us:List Value},Vals (cs.map V.ref) us→us=cs.map Value.ref
  | [],_,.nil=>rfl
  | c::cs,_,.cons r t=>by
    have e:_=Value.ref c:=r
    rw [List.map_cons,← e,vals_refs t]
theorem call_isxT:CallR X (.builtin "isinstance") (rIsXT X.K):=by
  intro pins s σ H xs us Q I r h
  obtain ⟨p,C,dx,tp,cs,b,rfl,hp,hd,hx,ht,hk,q⟩:=h
  obtain ⟨u,w,rfl,ru,rw'⟩:=vals2 r
  cases ru
  cases rw'
  obtain ⟨_,its,hv,o,ho,hc,n,hdt,_⟩:=I.hok tp _ ht
  obtain rfl:=vals_refs hv
  obtain ⟨cls,dd,dt,sl⟩:=o
  subst hc hdt
  refine PySem.W.kia_tup (kitx_exc hx) I.kIn ?_ ho hk (fun z=>nomatch z) fun tk=>⟨.bl b,H,I.tok tk,rfl,q⟩
  obtain ⟨⟨o,vs,h1,h2,h3,h4⟩,_⟩:=I.hok p _ hp
  have hn:PySem.W.notCls o=true:=by unfold PySem.W.notCls; rw [h4]
  cases dx with
  | none=>exact ⟨o,none,h1,h2,hn,by rw [h3]; trivial⟩
  | some d =>
    obtain ⟨fs,hf⟩:=hd d rfl
    obtain ⟨mA,⟨od,es,ep,he,_⟩,_⟩:=I.hok d _ hf
    exact ⟨o,some od,h1,h2,hn,by rw [h3]; exact he⟩
end
end L2
namespace TL
open PySem PySem.Spec PyProof.Rows L2
section
variable {X:Cx} {e:Expr} {es:List Expr} {te:ET} {pos:Pos}
def tRefs:List Addr→TA
  | []=>tNil
  | c::cs=>tCons (tC (.ref c)) (tRefs cs)
theorem refs_go:∀ (cs:List Addr) (σ:L2.St) (H:Hp) (Q:List V→Hp→Prop),Q (cs.map V.ref) H→tRefs cs σ H Q
  | [],_,_,_,q=>q
  | c::cs,σ,H,Q,q=>refs_go cs σ H (fun xs H'=>Q (V.ref c::xs) H') q
def eIsXT (K:PySem.W.Frag) (cs:List Addr) (te:ET):ET:=fun σ Q=>te σ fun d=>∃ (C:Addr) (y:D) (b:Bool),d=.dict [(.int (C:Nat),y)]∧cs.length≤1000∧PySem.W.kitAny K (.ref C) (cs.map Value.ref)=some b∧Q (.bool b)
theorem et_isxT {cs:List Addr} {g1:Expr} {x1:Nat} {p2:Pos} (he:PEt X e te) (pc:∀ {v:TE},PE X e v→PE X (.Call g1 [e,.Tuple es x1 p2] [] pos) (tCB (rIsXT X.K) (tCons v (tCons (tTup (tRefs cs)) tNil)))):PEt X (.Call g1 [e,.Tuple es x1 p2] [] pos) (eIsXT X.K cs te):=by
  obtain ⟨v,pe,re⟩:=he
  refine ⟨_,pc pe,fun B p0 H ps σT σ Q QV o h k=>re B p0 H ps σT σ _ _ o h fun d x H1 s1 r1 q1=>?_⟩
  obtain ⟨C,y,b,rfl,hl,hk,q⟩:=q1
  refine refs_go cs σ H1 _ ⟨le_line (by rw [List.length_map]; exact hl),fun tp htp=>?_⟩
  generalize hg:(PyData.dict [(.int (C:Nat),y)])=d at r1
  have sN:Same H1 (upd H1 tp (.tup (cs.map V.ref))):=same_new htp
  cases r1 with
  | @exc p C' xk hp =>
    injection hg with hg; injection hg with hg; injection hg with hg hy; injection hg with hg
    obtain rfl:C=C':=Int.ofNat.inj hg
    exact ⟨p,C,none,tp,cs,b,rfl,sN _ _ (mask_le _ _ hp),(fun _ z=>nomatch z),xk.1,upd_same,hk,k _ _ _ (s1.trans sN) (.bool _) q⟩
  | @excA p C' dx n xk hp hx =>
    injection hg with hg; injection hg with hg; injection hg with hg hy; injection hg with hg
    obtain rfl:C=C':=Int.ofNat.inj hg
    exact ⟨p,C,some dx,tp,cs,b,rfl,sN _ _ (mask_le _ _ hp),fun _ z=>by cases z; exact ⟨_,sN _ _ (mask_le _ _ hx)⟩,xk.1,upd_same,hk,k _ _ _ (s1.trans sN) (.bool _) q⟩
  | _=>cases hg
theorem st_tryX2 {J:Addr} {i:Nat} {st:Stmt} {jn nn:Str} {jp hp:Pos} {hs':List ExceptHandler} {t:ET} {b0:Stmt} {suite:List Stmt} {ts:STt} (hs:RSt X st t) (hb:∀ ea,PSst (X.marked ea) (b0::suite) ts)
    (pt:∀ {rt:L2.St→Hp→(Hp→XK)→Prop} {us:Addr→TS},RS X st rt→(∀ ea,PSs (X.marked ea) (b0::suite) (us ea))→PS X (.Try [st] (.ExceptHandler (some (.Name jn jp)) (some nn) (b0::suite) hp::hs') [] [] pos) (tTryX X.K J i rt us)):PSt X (.Try [st] (.ExceptHandler (some (.Name jn jp)) (some nn) (b0::suite) hp::hs') [] [] pos) (sTryX X.K J i t ts):=st_tryX hs hb pt
end
end TL

set_option Elab.async false
set_option linter.all false
set_option maxRecDepth 100000
namespace L2
open PySem PySem.Spec PyProof.Rows TL Builtin
theorem noFill_tuple_mul:fillsNumberSlot (.type "tuple") "mul"=pure false :=
  PySem.fillsNumberSlot_seq (id:="tuple.__mul__") (r:=some (.builtin "tuple.__rmul__")) F.slot_tuple_mul.lookup (by decide +kernel) F.slot_tuple_rmul.lookup (by decide +kernel)
theorem repeat_tuple:seqRepeat? (.type "tuple")=pure (some (.builtin "tuple.__mul__")):=by
  unfold seqRepeat?
  rw [PySem.seqSlot_of (T:="tuple") (name:="__mul__") (id:="tuple.__mul__") F.slot_tuple_mul.lookup (by decide +kernel),PySem.seqSlot_of (T:="tuple") (name:="__rmul__") (id:="tuple.__rmul__") F.slot_tuple_rmul.lookup (by decide +kernel)]
  rfl
theorem rmul_tuple (a:Int) (t:Tok) (l:Addr) (items:Array Value) (n:Nat) (dd:Option Addr) (sl:Array (Option Value)) :
    Meets (Builtin.«int.__rmul__» ⟨[.int a t,.ref l],[]⟩) (fun _ R s=>s.heap.get? l=some ⟨.type "tuple",dd,.seq items n,sl⟩∧R (.ok (.ret Value.notImplemented)) s) :=
  .of_wp fun prog w A R s h=>by obtain ⟨hp,g,d,tk,os⟩:=s; obtain ⟨hl,h⟩:=h; wp_walk; exact ⟨_,rfl,h⟩
theorem mul_tuple5 (u:Tok) (l:Addr) (v:Value) (n:Nat) (dd:Option Addr) (sl:Array (Option Value)) :
    Meets (Builtin.«tuple.__mul__» ⟨[.ref l,.int 5 u],[]⟩) (fun _ R s=>s.heap.get? l=some ⟨.type "tuple",dd,.seq #[v] n,sl⟩∧R (.ok (.ret (Value.ref s.heap.objs.size))) { s with heap:=s.heap.push { cls:=.type "tuple",data:=.seq #[v,v,v,v,v] } }) :=
  .of_wp fun prog w A R s h=>by
    obtain ⟨hp,g,d,tk,os⟩:=s; obtain ⟨hl,h⟩:=h
    wp_walk
    exact ⟨_,rfl,h⟩
def rTup5:R2:=fun x y H Q=>∃ l v,x=.ref l∧y=.int 5∧H l=some (.tup [v])∧∀ p,H p=none→Q (.ref p) (upd H p (.tup [v,v,v,v,v]))
theorem op_tup5 {X:Cx}:OpR X (binaryOp .Mult) rTup5:=by
  intro pins s σ H x y v u Q I rx ry h
  obtain ⟨l,v0,rfl,rfl,hH,q⟩:=h
  cases rx
  obtain ⟨t,rfl⟩:=ry
  obtain ⟨_,its,hv,o,ho,hc,n,hdt,_⟩:=I.hok l _ hH
  obtain ⟨u0,rfl,ru⟩:=vals1 hv
  obtain ⟨cls,dd,dt,sl⟩:=o
  subst hc hdt
  refine wpAny_binaryOp_repeat_ref (T:="tuple") (U:="int") (by decide) ⟨_,ho,rfl⟩ (fun s'=>typeIs_int s' 5 t) noFill_tuple_mul F.fills_int_mul F.slot_int_rmul repeat_tuple F.slot_int_index.lookup
    (call_meets F.slot_int_rmul (typeIs_int s 5 t) F.entry_int_rmul (F.args_int_rmul_2 _ _) (rmul_tuple 5 t l #[u0] n dd sl)
      ⟨ho,rfl,⟨_,ho,rfl⟩,call_meets F.slot_tuple_mul ⟨_,ho,rfl⟩ F.entry_tuple_mul (F.args_tuple_mul_2 _ _) (mul_tuple5 t l u0 n dd sl) ⟨ho,?_⟩⟩)
  refine ⟨.ref _,upd H s.heap.objs.size (.tup [v0,v0,v0,v0,v0]),I.laid (t':=s.toks) (fun b u e=>Heap.get?_push_of_some _ e) (Nat.le_refl _) ?_,rfl,q _ I.fresh⟩
  exact ⟨Nat.le_of_ble_eq_true rfl,[u0,u0,u0,u0,u0],.cons ru (.cons ru (.cons ru (.cons ru (.cons ru .nil)))),⟨_,Heap.get?_push_size _ rfl,rfl,_,rfl,rfl⟩⟩
end L2
namespace TL
open PySem PySem.Spec PyProof.Rows L2
section
variable {X:Cx} {e:Expr} {te:ET} {pos:Pos}
def eTup5 (te:ET):ET:=fun σ Q=>te σ fun d=>Q (.tuple [d,d,d,d,d])
theorem et_tup5 {j x1:Nat} {pi p2:Pos} (he:PEt X e te) (hs:starEach [e] X.env=(false,eval e X.env)::starEach [] X.env:=by rfl):PEt X (.BinOp (.Tuple [e] x1 p2) .Mult (.Constant (.int 5) j pi) pos) (eTup5 te):=by
  obtain ⟨v,p,r⟩:=he
  refine ⟨_,pe_op op_tup5 (pe_tup (pa_cons p pa_nil hs)) pe_int,fun B p0 H ps σT σ Q QV o h k=>r B p0 H ps σT σ _ _ o h fun d x H1 s1 r1 q1=>⟨Nat.le_of_ble_eq_true rfl,fun p hp=>?_⟩⟩
  refine ⟨p,x,rfl,rfl,upd_same,fun p' hp'=>?_⟩
  have s12:Same H1 (upd H1 p (.tup [x])):=same_new hp
  have o2:=(o.grow s1).grow s12
  have r2:=r1.same (mask_same (ps:=ps) s12)
  exact k _ _ _ ((s1.trans s12).trans (same_new hp')) (rep_tup o2.live hp' (.cons r2 (.cons r2 (.cons r2 (.cons r2 (.cons r2 .nil)))))) q1
end
end TL

set_option Elab.async false
set_option linter.all false
set_option maxRecDepth 100000
namespace K66
open PySem L2 TL
def top (i:Nat):Stmt:=PySem.Challenge.pw_leafjudge_k66_too_many_pairs.main.body.getD i (.Pass ⟨0,0,0,0⟩)
set_option genInjectivity false in
set_option genSizeOf false in
structure Adr where
  a_0:Addr
  f_0:FuncData
  a_1:Addr
  f_1:FuncData
  a_2:Addr
  f_2:FuncData
  a_3:Addr
  f_3:FuncData
  a_4:Addr
  f_4:FuncData
  a_5:Addr
  f_5:FuncData
  a_6:Addr
  f_6:FuncData
  a_7:Addr
  f_7:FuncData
  a_8:Addr
  f_8:FuncData
  a_9:Addr
  f_9:FuncData
  a_10:Addr
  f_10:FuncData
  a_11:Addr
  f_11:FuncData
  a_12:Addr
  f_12:FuncData
  a_13:Addr
  f_13:FuncData
  a_14:Addr
  f_14:FuncData
  a_15:Addr
  f_15:FuncData
  a_16:Addr
  f_16:FuncData
  a_17:Addr
  f_17:FuncData
  a_18:Addr
  f_18:FuncData
  a_19:Addr
  f_19:FuncData
  a_20:Addr
  f_20:FuncData
  a_21:Addr
  f_21:FuncData
  a_22:Addr
  f_22:FuncData
  a_23:Addr
  f_23:FuncData
  a_24:Addr
  f_24:FuncData
  a_25:Addr
  f_25:FuncData
  a_26:Addr
  f_26:FuncData
  a_27:Addr
  f_27:FuncData
  a_law:Addr
  f_law:FuncData
  c_JudgeError:Addr
  c_TooMany:Addr
  c_NoPlace:Addr
  c_NoRow:Addr
  c_NoSuch:Addr
  c_NoLine:Addr
  c_NoText:Addr
  c_NoRule:Addr
  t_MOST_RULES:Tok
  t_MOST_PAIRS:Tok
structure Txt (K:PySem.W.Frag) (mg:Str→Option Value) (A:Adr):Prop where
  m_0:mg "entries_of"=some (.ref A.a_0)
  k_0:PySem.W.keepIn K (.ref A.a_0)=true
  F_0:Fun K "entries_of" "entries_of" (top 10) A.a_0 A.f_0
  d_0:Binds K A.f_0 ["field"] []
  m_1:mg "field_asked"=some (.ref A.a_1)
  k_1:PySem.W.keepIn K (.ref A.a_1)=true
  F_1:Fun K "field_asked" "field_asked" (top 12) A.a_1 A.f_1
  d_1:Binds K A.f_1 ["form","question"] []
  m_2:mg "entries_to_yes"=some (.ref A.a_2)
  k_2:PySem.W.keepIn K (.ref A.a_2)=true
  F_2:Fun K "entries_to_yes" "entries_to_yes" (top 13) A.a_2 A.f_2
  d_2:Binds K A.f_2 ["question","stray","field"] []
  m_3:mg "values_held"=some (.ref A.a_3)
  k_3:PySem.W.keepIn K (.ref A.a_3)=true
  F_3:Fun K "values_held" "values_held" (top 14) A.a_3 A.f_3
  d_3:Binds K A.f_3 ["question","field"] []
  m_4:mg "is_leaf"=some (.ref A.a_4)
  k_4:PySem.W.keepIn K (.ref A.a_4)=true
  F_4:Fun K "is_leaf" "is_leaf" (top 16) A.a_4 A.f_4
  d_4:Binds K A.f_4 ["tree"] []
  m_5:mg "rules_of"=some (.ref A.a_5)
  k_5:PySem.W.keepIn K (.ref A.a_5)=true
  F_5:Fun K "rules_of" "rules_of" (top 19) A.a_5 A.f_5
  d_5:Binds K A.f_5 ["form","tree"] []
  m_6:mg "whole_lets"=some (.ref A.a_6)
  k_6:PySem.W.keepIn K (.ref A.a_6)=true
  F_6:Fun K "whole_lets" "whole_lets" (top 20) A.a_6 A.f_6
  d_6:Binds K A.f_6 ["form"] []
  m_7:mg "rules_within"=some (.ref A.a_7)
  k_7:PySem.W.keepIn K (.ref A.a_7)=true
  F_7:Fun K "rules_within" "rules_within" (top 21) A.a_7 A.f_7
  d_7:Binds K A.f_7 ["form","tree","lets"] []
  m_8:mg "with_let"=some (.ref A.a_8)
  k_8:PySem.W.keepIn K (.ref A.a_8)=true
  F_8:Fun K "with_let" "with_let" (top 22) A.a_8 A.f_8
  d_8:Binds K A.f_8 ["lets","number","let"] []
  m_9:mg "alike"=some (.ref A.a_9)
  k_9:PySem.W.keepIn K (.ref A.a_9)=true
  F_9:Fun K "alike" "alike" (top 25) A.a_9 A.f_9
  d_9:Binds K A.f_9 ["form","one","other"] []
  m_10:mg "pairs_of"=some (.ref A.a_10)
  k_10:PySem.W.keepIn K (.ref A.a_10)=true
  F_10:Fun K "pairs_of" "pairs_of" (top 26) A.a_10 A.f_10
  d_10:Binds K A.f_10 ["form","one","other"] []
  m_11:mg "_law_tape"=some (.ref A.a_11)
  k_11:PySem.W.keepIn K (.ref A.a_11)=true
  F_11:Fun K "_law_tape" "_law_tape" (top 28) A.a_11 A.f_11
  d_11:Binds K A.f_11 ["_law_script"] []
  m_12:mg "_law_draw"=some (.ref A.a_12)
  k_12:PySem.W.keepIn K (.ref A.a_12)=true
  F_12:Fun K "_law_draw" "_law_draw" (top 29) A.a_12 A.f_12
  d_12:Binds K A.f_12 ["_law_tape_here","_law_many"] []
  m_13:mg "_law_names"=some (.ref A.a_13)
  k_13:PySem.W.keepIn K (.ref A.a_13)=true
  F_13:Fun K "_law_names" "_law_names" (top 30) A.a_13 A.f_13
  d_13:Binds K A.f_13 ["_law_tape_here","_law_many"] []
  m_14:mg "_law_whole"=some (.ref A.a_14)
  k_14:PySem.W.keepIn K (.ref A.a_14)=true
  F_14:Fun K "_law_whole" "_law_whole" (top 31) A.a_14 A.f_14
  d_14:Binds K A.f_14 ["_law_form"] []
  m_15:mg "_law_side"=some (.ref A.a_15)
  k_15:PySem.W.keepIn K (.ref A.a_15)=true
  F_15:Fun K "_law_side" "_law_side" (top 32) A.a_15 A.f_15
  d_15:Binds K A.f_15 ["_law_form","_law_knot","_law_case"] []
  m_16:mg "_law_way"=some (.ref A.a_16)
  k_16:PySem.W.keepIn K (.ref A.a_16)=true
  F_16:Fun K "_law_way" "_law_way" (top 33) A.a_16 A.f_16
  d_16:Binds K A.f_16 ["_law_form","_law_tree","_law_case"] []
  m_17:mg "_law_parted"=some (.ref A.a_17)
  k_17:PySem.W.keepIn K (.ref A.a_17)=true
  F_17:Fun K "_law_parted" "_law_parted" (top 34) A.a_17 A.f_17
  d_17:Binds K A.f_17 ["_law_tape_here","_law_form","_law_lets","_law_left"] []
  m_18:mg "_law_told"=some (.ref A.a_18)
  k_18:PySem.W.keepIn K (.ref A.a_18)=true
  F_18:Fun K "_law_told" "_law_told" (top 35) A.a_18 A.f_18
  d_18:Binds K A.f_18 ["_law_form","_law_one","_law_other"] []
  m_19:mg "_law_answers"=some (.ref A.a_19)
  k_19:PySem.W.keepIn K (.ref A.a_19)=true
  F_19:Fun K "_law_answers" "_law_answers" (top 36) A.a_19 A.f_19
  d_19:Binds K A.f_19 ["_law_tree"] []
  m_20:mg "_law_same_leaves"=some (.ref A.a_20)
  k_20:PySem.W.keepIn K (.ref A.a_20)=true
  F_20:Fun K "_law_same_leaves" "_law_same_leaves" (top 37) A.a_20 A.f_20
  d_20:Binds K A.f_20 ["_law_tree","_law_answer"] []
  m_21:mg "_law_over"=some (.ref A.a_21)
  k_21:PySem.W.keepIn K (.ref A.a_21)=true
  F_21:Fun K "_law_over" "_law_over" (top 38) A.a_21 A.f_21
  d_21:Binds K A.f_21 ["_law_tape_here","_law_form","_law_lets","_law_many","_law_plain"] []
  m_22:mg "_law_turned"=some (.ref A.a_22)
  k_22:PySem.W.keepIn K (.ref A.a_22)=true
  F_22:Fun K "_law_turned" "_law_turned" (top 39) A.a_22 A.f_22
  d_22:Binds K A.f_22 ["_law_tape_here","_law_form","_law_tree"] []
  m_23:mg "_law_with_bare"=some (.ref A.a_23)
  k_23:PySem.W.keepIn K (.ref A.a_23)=true
  F_23:Fun K "_law_with_bare" "_law_with_bare" (top 40) A.a_23 A.f_23
  d_23:Binds K A.f_23 ["_law_tape_here","_law_form","_law_tree"] []
  m_24:mg "_law_pieces_right"=some (.ref A.a_24)
  k_24:PySem.W.keepIn K (.ref A.a_24)=true
  F_24:Fun K "_law_pieces_right" "_law_pieces_right" (top 41) A.a_24 A.f_24
  d_24:Binds K A.f_24 ["_law_form","_law_one","_law_other","_law_pieces"] []
  m_25:mg "_law_unlike_right"=some (.ref A.a_25)
  k_25:PySem.W.keepIn K (.ref A.a_25)=true
  F_25:Fun K "_law_unlike_right" "_law_unlike_right" (top 42) A.a_25 A.f_25
  d_25:Binds K A.f_25 ["_law_form","_law_one","_law_other","_law_told_here"] []
  m_26:mg "_law_rules_right"=some (.ref A.a_26)
  k_26:PySem.W.keepIn K (.ref A.a_26)=true
  F_26:Fun K "_law_rules_right" "_law_rules_right" (top 43) A.a_26 A.f_26
  d_26:Binds K A.f_26 ["_law_form","_law_tree","_law_one"] []
  m_27:mg "_law_beside_itself"=some (.ref A.a_27)
  k_27:PySem.W.keepIn K (.ref A.a_27)=true
  F_27:Fun K "_law_beside_itself" "_law_beside_itself" (top 44) A.a_27 A.f_27
  d_27:Binds K A.f_27 ["_law_tape_here","_law_form"] []
  m_law:mg "law"=some (.ref A.a_law)
  k_law:PySem.W.keepIn K (.ref A.a_law)=true
  F_law:Fun K "law" "law" (top 45) A.a_law A.f_law
  d_law:Binds K A.f_law ["_law_script"] []
  c_MOST_RULES:mg "MOST_RULES"=some (.int 60 A.t_MOST_RULES)
  c_MOST_PAIRS:mg "MOST_PAIRS"=some (.int 2000 A.t_MOST_PAIRS)
  x_JudgeError:mg "JudgeError"=some (.ref A.c_JudgeError)
  x_TooMany:mg "TooMany"=some (.ref A.c_TooMany)
  x_NoPlace:mg "NoPlace"=some (.ref A.c_NoPlace)
  x_NoRow:mg "NoRow"=some (.ref A.c_NoRow)
  x_NoSuch:mg "NoSuch"=some (.ref A.c_NoSuch)
  x_NoLine:mg "NoLine"=some (.ref A.c_NoLine)
  x_NoText:mg "NoText"=some (.ref A.c_NoText)
  x_NoRule:mg "NoRule"=some (.ref A.c_NoRule)
  X_TooMany:XOk K A.c_TooMany
  R_TooMany:RCls K A.c_TooMany
  j_TooMany:PySem.W.exmOne K (.ref A.c_TooMany) (.ref A.c_JudgeError)=some true
  e_TooMany:PySem.W.exmOne K (.ref A.c_TooMany) (.ref A.c_TooMany)=some true
  v_TooMany:PySem.W.kitOne K (.ref A.c_TooMany) (.type "ValueError")=some true
  q_TooMany_TooMany:PySem.W.kitOne K (.ref A.c_TooMany) (.ref A.c_TooMany)=some true
  q_TooMany_NoPlace:PySem.W.kitOne K (.ref A.c_TooMany) (.ref A.c_NoPlace)=some false
  q_TooMany_NoRow:PySem.W.kitOne K (.ref A.c_TooMany) (.ref A.c_NoRow)=some false
  q_TooMany_NoSuch:PySem.W.kitOne K (.ref A.c_TooMany) (.ref A.c_NoSuch)=some false
  q_TooMany_NoLine:PySem.W.kitOne K (.ref A.c_TooMany) (.ref A.c_NoLine)=some false
  q_TooMany_NoText:PySem.W.kitOne K (.ref A.c_TooMany) (.ref A.c_NoText)=some false
  q_TooMany_NoRule:PySem.W.kitOne K (.ref A.c_TooMany) (.ref A.c_NoRule)=some false
  b_ValueError:mg "ValueError"=none
  b_all:mg "all"=none
  b_int:mg "int"=none
  b_isinstance:mg "isinstance"=none
  b_len:mg "len"=none
  b_list:mg "list"=none
  b_max:mg "max"=none
  b_min:mg "min"=none
  b_range:mg "range"=none
  b_set:mg "set"=none
  b_tuple:mg "tuple"=none
  b_zip:mg "zip"=none
def letters:Str:="abcdefghijklmnopqrstuvwxyz"
def sgn (c:Nat):Bool:=Txt.contains letters ⟨#[c]⟩
def nmS (z:Str):Bool:=decide (1≤z.length) && decide (z.length≤8) && z.cps.toList.all sgn
def nm:D→Bool
  | .str z=>nmS z
  | _=>false
def txt:D→Str
  | .str z=>z
  | _=>""
def nms (d:D) (lo hi:Int):Bool:=match d with | .tuple ts=>decide (lo≤ts.length) && decide ((ts.length:Int)≤hi) && ts.all nm && decide ((ts.map txt).Nodup) | _=>false
def fld:D→Bool
  | .tuple [n,vs]=>nm n && nms vs 2 5
  | _=>false
def fst:D→D
  | .tuple (n::_)=>n
  | _=>.none
def flds:D→Bool
  | .tuple ts=>decide (1≤ts.length) && decide (ts.length≤5) && ts.all fld && decide ((ts.map fun t=>txt (fst t)).Nodup)
  | _=>false
def Bits (n:Nat) (bs:List Int):Prop:=bs.length=n∧∀ b ∈ bs,0≤b∧b < 4096
def Nms (n:Nat) (ys:List Str):Prop:=ys.length=n∧(∀ y ∈ ys,nmS y=true)∧ys.Nodup
def fldD (f:Str × List Str):D:=.tuple [.str f.1,.tuple (f.2.map PyData.str)]
def frmD (fs:List (Str × List Str)) (an:List Str):D:=.tuple [.tuple (fs.map fldD),.tuple (an.map PyData.str)]
structure Form (fs:List (Str × List Str)) (an:List Str):Prop where
  n1:1≤fs.length
  n5:fs.length≤5
  nd:Nms fs.length (fs.map (·.1))
  vs:∀ f ∈ fs,2≤f.2.length∧f.2.length≤5∧Nms f.2.length f.2
  a2:2≤an.length
  a4:an.length≤4
  an:Nms an.length an
def sp_11:SpF:=fun ds Q=>∃ ns:List Int,ds=[.list (ns.map PyData.int)]∧ns.length≤63∧∀ c:Int,(c=0 ∨ c=1)→Q [.list (ns.map PyData.int),.int 0,.int 0,.int c]
def sp_12:SpT:=fun ds Q=>∃ (ns:List Int) (m:Int),ds=[tapeD ns,.int m]∧ns.length≤63∧0 < m∧m≤10000∧∀ r:Int,0≤r→r < m→Q (.int r)
def sp_13:SpT:=fun ds Q=>∃ (ns:List Int) (m:Nat),ds=[tapeD ns,.int m]∧ns.length≤63∧1≤m∧m≤5∧∀ ys,Nms m ys→Q (.list (ys.map PyData.str))
theorem atI_in {α:Type} {xs:List α} {i:Int} (h0:0≤i) (h1:i < xs.length):∃ a,a ∈ xs∧L2.atI xs i=some a∧xs[i.toNat]?=some a:=by
  have hi:i.toNat < xs.length:=by omega
  refine ⟨xs[i.toNat],List.getElem_mem hi,?_,List.getElem?_eq_getElem hi⟩
  have:=L2.atI_nat (xs:=xs) (j:=i.toNat) (v:=xs[i.toNat]) (List.getElem?_eq_getElem hi)
  rwa [show ((i.toNat:Nat):Int)=i by omega] at this
theorem intsTo_len (n:Nat):(intsTo n).length=n:=by unfold intsTo; simp
theorem intsTo_get {n k:Nat} {x:D} (h:(intsTo n)[k]?=some x):k < n∧x=.int k:=by
  unfold intsTo at h
  rw [List.getElem?_map] at h
  by_cases hk:k < n
  · rw [List.getElem?_range hk] at h
    cases h
    exact ⟨hk,rfl⟩
  · rw [List.getElem?_eq_none (by simpa using hk)] at h
    cases h
theorem cut_ns {α:Type} (xs:List α) (j:Nat):cutD xs none (some (j:Int))=xs.take j:=by
  unfold cutD
  rw [HT.sIx_none,HT.sIx_nat,List.drop_zero,Nat.sub_zero]
  by_cases h:j≤xs.length
  · rw [Nat.min_eq_left h]
  · rw [Nat.min_eq_right (by omega),List.take_length,List.take_of_length_le (by omega)]
theorem cut_sn {α:Type} (xs:List α) (i:Nat):cutD xs (some (i:Int)) none=xs.drop i:=by
  unfold cutD
  rw [HT.sIx_none,HT.sIx_nat]
  by_cases h:i≤xs.length
  · rw [Nat.min_eq_left h,List.take_of_length_le (by rw [List.length_drop]; omega)]
  · rw [Nat.min_eq_right (by omega),List.drop_eq_nil_of_le (Nat.le_refl _),List.drop_eq_nil_of_le (by omega)]
    simp
theorem cut_ss {α:Type} (xs:List α) (i j:Nat):cutD xs (some (i:Int)) (some (j:Int))=(xs.drop i).take (j - i):=by
  unfold cutD
  rw [HT.sIx_nat,HT.sIx_nat]
  apply List.ext_getElem?
  intro k
  rw [List.getElem?_take,List.getElem?_take,List.getElem?_drop,List.getElem?_drop]
  by_cases hi:i≤xs.length
  · rw [Nat.min_eq_left hi]
    by_cases hj:j≤xs.length
    · rw [Nat.min_eq_left hj]
    · rw [Nat.min_eq_right (by omega)]
      by_cases h1:k < xs.length - i
      · rw [if_pos h1,if_pos (by omega)]
      · rw [if_neg h1]
        by_cases h2:k < j - i
        · rw [if_pos h2,List.getElem?_eq_none (by omega)]
        · rw [if_neg h2]
  · rw [if_neg (by omega)]
    by_cases h2:k < j - i
    · rw [if_pos h2,List.getElem?_eq_none (by omega)]
    · rw [if_neg h2]
theorem cut_map {α β:Type} (f:α→β) (xs:List α) (lo hi:Option Int):cutD (xs.map f) lo hi=(cutD xs lo hi).map f:=by
  unfold cutD
  rw [List.length_map,List.map_take,List.map_drop]
theorem nmS_of {z:Str} (h1:1≤z.cps.toList.length) (h2:z.cps.toList.length≤8) (h3:∀ c ∈ z.cps.toList,c ∈ letters.cps.toList):nmS z=true:=by
  have e:z.length=z.cps.toList.length:=by simp [Str.length]
  unfold nmS
  rw [e,decide_eq_true h1,decide_eq_true h2]
  simp only [Bool.true_and,List.all_eq_true]
  intro c hc
  unfold sgn
  rw [in_one]
  exact decide_eq_true (h3 c hc)
theorem nmS_iff {z:Str} (h:nmS z=true):1≤z.length∧z.length≤8∧∀ c ∈ z.cps.toList,c ∈ letters.cps.toList:=by
  unfold nmS at h
  simp only [Bool.and_eq_true,decide_eq_true_eq,List.all_eq_true] at h
  refine ⟨h.1.1,h.1.2,fun c hc=>?_⟩
  have:=h.2 c hc
  unfold sgn at this
  rw [in_one] at this
  exact of_decide_eq_true this
theorem nodup_range {α:Type} {n:Nat} (F:Nat→α) (inj:∀ i j,i < n→j < n→F i=F j→i=j):((List.range n).map F).Nodup:=by
  rw [List.Nodup,List.pairwise_map]
  have:(List.range n).Nodup:=List.nodup_range
  refine List.Pairwise.imp_of_mem (fun {a b} ha hb hab e=>?_) this
  exact hab (inj a b (by simpa using ha) (by simpa using hb) e)
theorem letters_nd:letters.cps.toList.Nodup:=by decide +kernel
theorem letters_len:letters.cps.toList.length=26:=by decide +kernel
theorem nth_inj {xs:List Nat} (nd:xs.Nodup) {i j:Nat} {c:Nat} (h1:xs[i]?=some c) (h2:xs[j]?=some c):i=j:=by
  obtain ⟨a1,a2⟩:=List.getElem?_eq_some_iff.mp h1
  obtain ⟨b1,b2⟩:=List.getElem?_eq_some_iff.mp h2
  exact (List.getElem_inj nd).mp (a2.trans b2.symm)
theorem signs_of:∀ {ys:List D},(∀ y ∈ ys,∃ c,c ∈ letters.cps.toList∧y=.str ⟨#[c]⟩)→∃ cs:List Nat,ys=cs.map (fun c=>PyData.str ⟨#[c]⟩)∧∀ c ∈ cs,c ∈ letters.cps.toList
  | [],_=>⟨[],rfl,fun c h=>by simp at h⟩
  | y::ys,h=>by
    obtain ⟨c,hc,rfl⟩:=h y (List.mem_cons_self ..)
    obtain ⟨cs,rfl,h2⟩:=signs_of (ys:=ys) fun y hy=>h y (List.mem_cons_of_mem _ hy)
    refine ⟨c::cs,rfl,fun d hd=>?_⟩
    rcases List.mem_cons.mp hd with rfl | hd
    · exact hc
    · exact h2 d hd
theorem join_signs (cs:List Nat):(Txt.join ⟨#[]⟩ (cs.map fun c=>⟨#[c]⟩)).cps.toList=cs:=by
  rw [join_codes,List.map_map]
  induction cs with
  | nil=>rfl
  | cons c cs ih=>rw [List.map_cons,List.flatten_cons,ih]; rfl
theorem seq_tapePut1 {te:ET} {u:STt} {DT:EndsT} {σ:List Sl} {i:Nat} (ns:List Int) (hσ:σ[i]?=some (.val (tapeD ns))) (a:Int) (h:∀ q:D→Prop,q (.int a)→te σ q) (ha:0≤a) (k:u DT σ):sSeq (sTapePut i 1 te) u DT σ:=h _ ⟨⟨ns,hσ⟩,⟨a,rfl,ha⟩,k⟩
theorem seq_tapePut2 {te:ET} {u:STt} {DT:EndsT} {σ:List Sl} {i:Nat} (ns:List Int) (hσ:σ[i]?=some (.val (tapeD ns))) (a:Int) (h:∀ q:D→Prop,q (.int a)→te σ q) (k:u DT σ):sSeq (sTapePut i 2 te) u DT σ:=h _ ⟨⟨ns,hσ⟩,⟨a,rfl⟩,k⟩
theorem one_tapePut2 {te:ET} {DT:EndsT} {σ:List Sl} {i:Nat} (ns:List Int) (hσ:σ[i]?=some (.val (tapeD ns))) (a:Int) (h:∀ q:D→Prop,q (.int a)→te σ q) (k:DT.nx σ):sTapePut i 2 te DT σ:=h _ ⟨⟨ns,hσ⟩,⟨a,rfl⟩,k⟩
theorem seq_ifsetC {c:TTt} {te:ET} {u:STt} {DT:EndsT} {σ:List Sl} {i:Nat} (C:Prop) (R:D→Prop) (h:∀ q:Bool→Prop,(∀ b,(b=true→C)→q b)→c σ q) (h1:C→∀ q:D→Prop,(∀ d,R d→q d)→te σ q) (d0:D) (h0:σ[i]?=some (.val d0)) (r0:R d0) (k:∀ d,R d→u DT (σ.set i (.val d))):sSeq (sIf c (sSet i te) sNext) u DT σ:=by
  refine h _ fun b hb=>?_
  cases b with
  | true =>
    rw [if_pos rfl]
    exact h1 (hb rfl) _ k
  | false =>
    rw [if_neg (by decide)]
    have e:σ.set i (.val d0)=σ:=by
      apply List.ext_getElem?
      intro j
      by_cases hj:i=j
      · subst hj
        rw [List.getElem?_set_self (List.getElem?_eq_some_iff.mp h0).1,h0]
      · rw [List.getElem?_set_ne hj]
    have:=k d0 r0
    rw [e] at this
    exact this
theorem nms_rangeN {n:Nat} (F:Nat→Str) (h:∀ i,i < n→nmS (F i)=true) (inj:∀ i j,i < n→j < n→F i=F j→i=j):Nms n ((List.range n).map F) :=
  ⟨by simp,fun y hy=>by
    obtain ⟨i,hi,rfl⟩:=List.mem_map.mp hy
    exact h i (by simpa using hi),nodup_range F inj⟩
theorem nms_turnN {n:Nat} {ys:List Str} (h:Nms n ys) (t:Nat) {m:Nat} (hm:m≤n):Nms m ((ys.drop t++ys.take t).take m):=by
  have hp:(ys.drop t++ys.take t).Perm ys:=by
    have:(ys.take t++ys.drop t).Perm ys:=by rw [List.take_append_drop]
    exact List.perm_append_comm.trans this
  refine ⟨?_,fun y hy=>h.2.1 y (hp.mem_iff.mp (List.mem_of_mem_take hy)),(hp.nodup_iff.mpr h.2.2).sublist (List.take_sublist _ _)⟩
  rw [List.length_take,hp.length_eq,h.1]
  omega
theorem nms_turnW {n:Nat} {ys:List Str} (h:Nms n ys) (t:Nat):Nms n (ys.drop t++ys.take t):=by
  have e:=nms_turnN h t (Nat.le_refl n)
  rwa [List.take_of_length_le] at e
  rw [List.length_append,List.length_drop,List.length_take,h.1]
  omega
def names12:List Str:=["say","ask","is","upto","yes","no","all","in","and","put","out","tree"]
theorem nms12:Nms 12 names12:=⟨rfl,by decide +kernel,by decide +kernel⟩
theorem atI_modI {ns:List Int} (h:0 < ns.length) (i:Int):∃ x:Int,L2.atI (ns.map PyData.int) (i % ((ns.map PyData.int).length:Nat))=some (.int x):=by
  rw [List.length_map]
  obtain ⟨a,hm,ha,_⟩:=atI_in (xs:=ns.map PyData.int) (i:=i % (ns.length:Nat)) (Int.emod_nonneg _ (by omega)) (by rw [List.length_map]; exact Int.emod_lt_of_pos _ (by omega))
  obtain ⟨b,hb,rfl⟩:=List.mem_map.mp hm
  exact ⟨b,ha⟩
@[irreducible] def cAt (i:Nat):Nat:=letters.cps.toList.getD i 0
theorem cAt_get {i:Nat} (h:i < 26):letters.cps.toList[i]?=some (cAt i):=by
  have hl:i < letters.cps.toList.length:=by rw [letters_len]; exact h
  unfold cAt
  rw [List.getD_eq_getElem?_getD,List.getElem?_eq_getElem hl]; rfl

theorem cAt_mem {i:Nat} (h:i < 26):cAt i ∈ letters.cps.toList:=List.mem_of_getElem? (cAt_get h)
def wordAt (z:Str) (t k c:Nat):Str:=Txt.slice z none (some (t:Int))++⟨#[c]⟩++Txt.slice z (some ((t:Int) + 1)) (some (k:Int))
theorem wordAt_codes (z:Str) (t k c:Nat):(wordAt z t k c).cps.toList=z.cps.toList.take t++(c::(z.cps.toList.drop (t + 1)).take (k - (t + 1))):=by
  unfold wordAt
  rw [app_codes,app_codes,slice_codes,slice_codes]
  have e2:(t:Int) + 1=((t + 1:Nat):Int):=by omega
  rw [e2,cut_ss,cut_ns]
  simp
theorem nms_base {z:Str} (hz8:z.cps.toList.length=8) (hzl:∀ c ∈ z.cps.toList,c ∈ letters.cps.toList) {k m:Nat} (hk:1≤k) (hkm:k + m≤9):Nms m ((List.range m).map fun j:Nat=>Txt.slice z none (some ((k:Int) + (j:Int)))):=by
  have e:∀ j:Nat,(Txt.slice z none (some ((k:Int) + (j:Int)))).cps.toList=z.cps.toList.take (k + j):=fun j=>by
    rw [slice_codes]; exact cut_ns _ (k + j)
  refine nms_rangeN _ (fun i hi=>?_) fun i j hi hj h=>?_
  · refine nmS_of ?_ ?_ fun c hc=>?_
    · rw [e,List.length_take]; omega
    · rw [e,List.length_take]; omega
    · rw [e] at hc; exact hzl c (List.mem_of_mem_take hc)
  · have e1:=e i
    rw [h,e j] at e1
    have:=congrArg List.length e1
    rw [List.length_take,List.length_take] at this
    omega
theorem nms_words {z:Str} (hz8:z.cps.toList.length=8) (hzl:∀ c ∈ z.cps.toList,c ∈ letters.cps.toList) {k t s m:Nat} (hk:k≤8) (ht:t < k) (hm:m≤26):Nms m ((List.range m).map fun j:Nat=>wordAt z t k (cAt ((s + j) % 26))):=by
  refine nms_rangeN _ (fun i hi=>?_) fun i j hi hj h=>?_
  · have e:=wordAt_codes z t k (cAt ((s + i) % 26))
    refine nmS_of ?_ ?_ fun c hc=>?_
    · rw [e,List.length_append,List.length_cons]; omega
    · rw [e,List.length_append,List.length_cons,List.length_take,List.length_take,List.length_drop]; omega
    · rw [e] at hc
      rcases List.mem_append.mp hc with hc | hc
      · exact hzl c (List.mem_of_mem_take hc)
      · rcases List.mem_cons.mp hc with rfl | hc
        · exact cAt_mem (Nat.mod_lt _ (by decide))
        · exact hzl c (List.mem_of_mem_drop (List.mem_of_mem_take hc))
  · have e1:=wordAt_codes z t k (cAt ((s + i) % 26))
    have h':wordAt z t k (cAt ((s + i) % 26))=wordAt z t k (cAt ((s + j) % 26)):=h
    rw [h',wordAt_codes] at e1
    have e2:=List.append_cancel_left e1
    have e3:cAt ((s + j) % 26)=cAt ((s + i) % 26):=(List.cons.inj e2).1
    have l1:=cAt_get (i:=(s + i) % 26) (Nat.mod_lt _ (by decide))
    have l2:=cAt_get (i:=(s + j) % 26) (Nat.mod_lt _ (by decide))
    rw [e3] at l2
    have:=nth_inj letters_nd l1 l2
    omega
theorem wordAt_len (z:Str) (hz8:z.cps.toList.length=8) (t k c:Nat):(Txt.slice z none (some (t:Int))).length + 1≤100000∧(Txt.slice z none (some (t:Int))++(⟨#[c]⟩:Str)).length + (Txt.slice z (some ((t:Int) + 1)) (some (k:Int))).length≤100000:=by
  have a1:=Txt.slice_le z none (some (t:Int))
  have a2:=Txt.slice_le z (some ((t:Int) + 1)) (some (k:Int))
  have a3:z.length=z.cps.toList.length:=by simp [Str.length]
  have a4:(Txt.slice z none (some (t:Int))++(⟨#[c]⟩:Str)).length=(Txt.slice z none (some (t:Int))).length + 1:=by
    show ((Txt.slice z none (some (t:Int))).cps++#[_]).size=_
    rw [Array.size_append]; rfl
  rw [a4]
  omega
def okV (f:Str × List Str) (d:D):Bool:=match d with | .none=>true | .str z=>decide (z ∈ f.2) | _=>false
def isAns (an:List Str) (d:D):Bool:=match d with | .str z=>decide (z ∈ an) | _=>false
structure Cd (d:D):Prop where
  lay:d.canLay0=true
  dep:d.depth≤60
structure Th (n m:Nat) (d:D):Prop where
  bulk:d.bulk≤n
  fit:d.leavesShort 110=true
  shw:d.showable=true
  nodict:d.hasDict=false
  depth:d.depth≤m
  lay:d.canLay0=true
theorem Th.mono {n n' m m':Nat} {d:D} (h:Th n m d) (hn:n≤n') (hm:m≤m'):Th n' m' d:=⟨Nat.le_trans h.bulk hn,h.fit,h.shw,h.nodict,Nat.le_trans h.depth hm,h.lay⟩
theorem th_all {n m:Nat}:∀ {ts:List D},(∀ t ∈ ts,Th n m t)→PyData.bulkAll ts≤ts.length * (n + 1)∧PyData.leavesShortAll 110 ts=true∧PyData.showableAll ts=true∧PyData.hasDictAll ts=false∧PyData.depthAll ts≤m∧PyData.canLayAll0 ts=true
  | [],_=>⟨Nat.zero_le _,rfl,rfl,rfl,Nat.zero_le _,rfl⟩
  | t::ts,h=>by
    have a:=h t (List.mem_cons_self ..)
    obtain ⟨b1,b2,b3,b4,b5,b6⟩:=th_all (ts:=ts) fun x hx=>h x (List.mem_cons_of_mem _ hx)
    refine ⟨?_,?_,?_,?_,?_,?_⟩
    · show t.bulk + 1 + PyData.bulkAll ts≤(ts.length + 1) * (n + 1)
      have:=a.bulk
      rw [Nat.add_mul,Nat.one_mul]
      omega
    · show (t.leavesShort 110 && PyData.leavesShortAll 110 ts)=true
      rw [a.fit,b2]; rfl
    · show (t.showable && PyData.showableAll ts)=true
      rw [a.shw,b3]; rfl
    · show (t.hasDict || PyData.hasDictAll ts)=false
      rw [a.nodict,b4]; rfl
    · show max t.depth (PyData.depthAll ts)≤m
      exact Nat.max_le.mpr ⟨a.depth,b5⟩
    · show (t.canLay0 && PyData.canLayAll0 ts)=true
      rw [a.lay,b6]; rfl
theorem th_tup (n m k:Nat) {N M:Nat} {ts:List D} (h:∀ t ∈ ts,Th n m t) (hl:ts.length≤k) (hN:k * (n + 1)≤N) (hM:m + 1≤M):Th N M (.tuple ts):=by
  obtain ⟨b1,b2,b3,b4,b5,b6⟩:=th_all h
  have:ts.length * (n + 1)≤k * (n + 1):=Nat.mul_le_mul_right _ hl
  exact ⟨by show PyData.bulkAll ts≤N; omega,b2,b3,b4,by show PyData.depthAll ts + 1≤M; omega,b6⟩
theorem th_lst (n m k:Nat) {N M:Nat} {ts:List D} (h:∀ t ∈ ts,Th n m t) (hl:ts.length≤k) (hN:k * (n + 1)≤N) (hM:m + 1≤M):Th N M (.list ts):=by
  obtain ⟨b1,b2,b3,b4,b5,b6⟩:=th_all h
  have:ts.length * (n + 1)≤k * (n + 1):=Nat.mul_le_mul_right _ hl
  exact ⟨by show PyData.bulkAll ts≤N; omega,b2,b3,b4,by show PyData.depthAll ts + 1≤M; omega,b6⟩
theorem th_none {n m:Nat}:Th n m .none:=⟨Nat.zero_le _,rfl,rfl,rfl,Nat.zero_le _,rfl⟩
theorem strOk_small {z:Str} (hc:∀ c ∈ z.cps.toList,c < 1000):PyData.strOk z=true:=by
  unfold PyData.strOk
  rw [← Array.all_toList,List.all_eq_true]
  intro c h1
  have:=hc c h1
  exact decide_eq_true (by omega)
theorem th_str {n m:Nat} {z:Str} (h:z.length≤n) (hc:∀ c ∈ z.cps.toList,c < 1000):Th n m (.str z):=by
  refine ⟨h,?_,rfl,rfl,Nat.zero_le _,strOk_small hc⟩
  show (z.cps.toList.all fun c=>decide (c < 16 ^ 8))=true
  rw [List.all_eq_true]
  intro c h1
  have:=hc c h1
  exact decide_eq_true (by omega)
theorem let_small {c:Nat} (h:c ∈ letters.cps.toList):c < 128:=by
  have:∀ c ∈ letters.cps.toList,c < 128:=by decide +kernel
  exact this c h
theorem nm_small {y:Str} (h:nmS y=true):y.length≤8∧∀ c ∈ y.cps.toList,c < 128:=⟨(nmS_iff h).2.1,fun c hc=>let_small ((nmS_iff h).2.2 c hc)⟩
theorem th_name {y:Str} (h:nmS y=true) {n m:Nat} (hn:8≤n):Th n m (.str y):=th_str (Nat.le_trans (nm_small h).1 hn) fun c hc=>by have:=(nm_small h).2 c hc; omega
theorem th_strs {ys:List Str} (h:∀ y ∈ ys,nmS y=true) {n m:Nat} (hn:8≤n):∀ t ∈ ys.map PyData.str,Th n m t:=fun t ht=>by
  obtain ⟨y,hy,rfl⟩:=List.mem_map.mp ht
  exact th_name (h y hy) hn
theorem th_names {ys:List Str} (h:∀ y ∈ ys,nmS y=true) (hl:ys.length≤8):Th 72 1 (.tuple (ys.map PyData.str)):=th_tup 8 0 8 (th_strs h (Nat.le_refl _)) (by rw [List.length_map]; exact hl) (by decide) (by decide)
theorem all_nil {n m:Nat}:∀ t ∈ ([]:List D),Th n m t:=fun t h=>by simp at h
theorem all_cons {n m:Nat} {a:D} {ts:List D} (h:Th n m a) (hs:∀ t ∈ ts,Th n m t):∀ t ∈ a::ts,Th n m t:=fun t ht=>by
  rcases List.mem_cons.mp ht with rfl | ht
  · exact h
  · exact hs t ht
theorem all_app {n m:Nat} {as bs:List D} (h:∀ t ∈ as,Th n m t) (hs:∀ t ∈ bs,Th n m t):∀ t ∈ as++bs,Th n m t:=fun t ht=>(List.mem_append.mp ht).elim (h t) (hs t)
theorem Th.cd {n m:Nat} {d:D} (h:Th n m d) (hm:m≤60):Cd d:=⟨h.lay,Nat.le_trans h.depth hm⟩
theorem lay_mem:∀ {ts:List D} {t:D},PyData.canLayAll0 ts=true→t ∈ ts→t.canLay0=true
  | a::r,t,h,hm=>by
    have h':(a.canLay0 && PyData.canLayAll0 r)=true:=h
    rw [Bool.and_eq_true] at h'
    rcases List.mem_cons.mp hm with rfl | hm
    · exact h'.1
    · exact lay_mem h'.2 hm
theorem depth_mem:∀ {ts:List D} {t:D},t ∈ ts→t.depth≤PyData.depthAll ts
  | a::r,t,hm=>by
    show t.depth≤max a.depth (PyData.depthAll r)
    rcases List.mem_cons.mp hm with rfl | hm
    · exact Nat.le_max_left _ _
    · exact Nat.le_trans (depth_mem hm) (Nat.le_max_right _ _)
theorem Cd.item {ts:List D} {t:D} (h:Cd (.tuple ts)) (ht:t ∈ ts):Cd t:=⟨lay_mem h.lay ht,by
  have h1:PyData.depthAll ts + 1≤60:=h.dep
  have:=depth_mem ht
  omega⟩
section
variable {fs:List (Str × List Str)} {an:List Str}
theorem Form.name (F:Form fs an) {f:Str × List Str} (h:f ∈ fs):nmS f.1=true:=F.nd.2.1 _ (List.mem_map.mpr ⟨f,h,rfl⟩)
theorem Form.vals (F:Form fs an) {f:Str × List Str} (h:f ∈ fs):∀ y ∈ f.2,nmS y=true:=(F.vs f h).2.2.2.1
theorem Form.fld (F:Form fs an) {f:Str × List Str} (h:f ∈ fs):Th 146 2 (fldD f):=th_tup 72 1 2 (all_cons (th_name (F.name h) (by decide)) (all_cons (th_names (F.vals h) (by have:=(F.vs f h).2.1; omega)) all_nil)) (Nat.le_of_ble_eq_true rfl) (by decide) (by decide)
theorem Form.flds (F:Form fs an):Th 735 3 (.tuple (fs.map fldD)):=th_tup 146 2 5 (fun t ht=>by
  obtain ⟨f,hf,rfl⟩:=List.mem_map.mp ht
  exact F.fld hf) (by rw [List.length_map]; exact F.n5) (by decide) (by decide)
theorem Form.ans (F:Form fs an):Th 72 1 (.tuple (an.map PyData.str)):=th_names F.an.2.1 (by have:=F.a4; omega)
theorem Form.form (F:Form fs an):Th 1472 4 (frmD fs an):=th_tup 735 3 2 (all_cons F.flds (all_cons (F.ans.mono (by decide) (by decide)) all_nil)) (Nat.le_of_ble_eq_true rfl) (by decide) (by decide)
end
theorem fIn2_tup {x:D} {ts:List D} {Q:D→Prop} (h1:okIn x (.tuple ts)) (h2:Q (.bool (inD x (.tuple ts)))):fIn2 x (.tuple ts) Q:=by
  cases x <;> exact ⟨h1,h2⟩
theorem any_strs (d:D) (ys:List Str):((ys.map PyData.str).any fun z=>PyData.eqv z d)=isAns ys d:=by
  induction ys with
  | nil=>cases d <;> rfl
  | cons y ys ih =>
    rw [List.map_cons,List.any_cons,ih]
    cases d with
    | str z =>
      show ((y == z) || decide (z ∈ ys))=decide (z ∈ y::ys)
      rw [Bool.eq_iff_iff]
      simp only [Bool.or_eq_true,beq_iff_eq,decide_eq_true_eq,List.mem_cons]
      exact ⟨fun h=>h.imp Eq.symm id,fun h=>h.imp Eq.symm id⟩
    | _=>rfl
theorem ok_strs {ys:List Str} (h:∀ y ∈ ys,nmS y=true) {d:D} (hd:Cd d):okIn d (.tuple (ys.map PyData.str)):=by
  obtain ⟨_,_,_,_,b5,b6⟩:=th_all (th_strs h (Nat.le_refl 8) (m:=0))
  exact ⟨b6,hd.lay,by have:=hd.dep; omega⟩
theorem ok_entries {ys:List Str} (h:∀ y ∈ ys,nmS y=true) {d:D} (hd:Cd d):okIn d (.tuple (ys.map PyData.str++[.none])):=by
  obtain ⟨_,_,_,_,b5,b6⟩:=th_all (all_app (th_strs h (Nat.le_refl 8) (m:=0)) (all_cons th_none all_nil))
  exact ⟨b6,hd.lay,by have:=hd.dep; omega⟩
theorem idx_min:∀ {ys:List Str} {z:Str} {m:Nat},m < ys.idxOf z→ys[m]? ≠ some z
  | [],z,m,h=>by simp at h
  | y::ys,z,m,h=>by
    rw [List.idxOf_cons] at h
    by_cases e:y=z
    · subst e
      simp at h
    · have e':(y == z)=false:=by simpa using e
      rw [e'] at h
      simp only [cond_false] at h
      cases m with
      | zero=>simpa using e
      | succ m =>
        rw [List.getElem?_cons_succ]
        exact idx_min (by omega)
theorem Bits.drop {n:Nat} {bs:List Int} (h:Bits n bs) (k:Nat):Bits (n - k) (bs.drop k):=⟨by rw [List.length_drop,h.1],fun b hb=>h.2 b (List.mem_of_mem_drop hb)⟩
theorem seq_setF {t:FT} {u:STt} {DT:EndsT} {σ:List Sl} {i:Nat} (ts:List D) (h:∀ q:List D→Prop,q ts→t σ q) (k:u DT (σ.set i (.own ts))):sSeq (sSetF i t) u DT σ:=h _ k
def isCase (fs:List (Str × List Str)) (d:D):Bool:=match d with | .tuple ts=>decide (ts.length=fs.length) && (fs.zip ts).all (fun p=>okV p.1 p.2) | _=>false
section
variable {fs:List (Str × List Str)} {an:List Str}
theorem case_get {cs:List D} (h:isCase fs (.tuple cs)=true):cs.length=fs.length∧∀ (k:Nat) f c,fs[k]?=some f→cs[k]?=some c→okV f c=true:=by
  unfold isCase at h
  simp only [Bool.and_eq_true,decide_eq_true_eq,List.all_eq_true] at h
  refine ⟨h.1,fun k f c h1 h2=>?_⟩
  exact h.2 (f,c) (List.mem_of_getElem? ((List.getElem?_zip_eq_some (z:=(f,c))).mpr ⟨h1,h2⟩))
theorem case_of {cs:List D} (hl:cs.length=fs.length) (h:∀ (k:Nat) f c,fs[k]?=some f→cs[k]?=some c→okV f c=true):isCase fs (.tuple cs)=true:=by
  unfold isCase
  simp only [Bool.and_eq_true,decide_eq_true_eq,List.all_eq_true]
  refine ⟨hl,fun p hp=>?_⟩
  obtain ⟨k,hk⟩:=List.getElem?_of_mem hp
  obtain ⟨h1,h2⟩:=List.getElem?_zip_eq_some.mp hk
  exact h k p.1 p.2 h1 h2
end
def qOk (f:Str × List Str) (k v:D):Bool:=match k,v with
  | .str kk,.str z=>decide (z ∈ f.2) && (decide (kk="is") || (decide (kk="upto") && decide (f.2.idxOf z + 1 < f.2.length)))
  | _,_=>false
def isN (n:D) (f:Str × List Str):Bool:=match n with | .str z=>decide (f.1=z) | _=>false
def isQ (fs:List (Str × List Str)) (d:D):Bool:=match d with
  | .tuple [k,n,v]=>fs.any fun f=>isN n f && qOk f k v
  | _=>false
def mkQ (k:Str) (f:Str × List Str) (z:Str):D:=.tuple [.str k,.str f.1,.str z]
theorem idx_le {ys:List Str} {z:Str} {j:Nat} (h:ys[j]?=some z):ys.idxOf z≤j:=by
  by_cases q:ys.idxOf z≤j
  · exact q
  · exact absurd h (idx_min (by omega))
theorem nm_is:nmS "is"=true:=by decide +kernel
theorem nm_upto:nmS "upto"=true:=by decide +kernel
theorem th_mkQ {fs:List (Str × List Str)} {an:List Str} (F:Form fs an) {k:Str} (hk:nmS k=true) {f:Str × List Str} (hf:f ∈ fs) {z:Str} (hz:z ∈ f.2):Th 27 1 (mkQ k f z) :=
  th_tup 8 0 3 (all_cons (th_name hk (Nat.le_refl _)) (all_cons (th_name (F.name hf) (Nat.le_refl _)) (all_cons (th_name (F.vals hf z hz) (Nat.le_refl _)) all_nil))) (Nat.le_of_ble_eq_true rfl) (by decide) (by decide)
theorem okIx_strs {ys:List Str} (hy:∀ y ∈ ys,nmS y=true) {z:Str} (hz:z ∈ ys):okIx (ys.map PyData.str) (.str z) (ys.idxOf z):=by
  have hzi:ys.idxOf z < ys.length:=List.idxOf_lt_length_iff.mpr hz
  obtain ⟨_,_,_,_,d5,d6⟩:=th_all (th_strs hy (Nat.le_refl 8) (m:=0))
  refine ⟨d6,(th_name (hy z hz) (Nat.le_refl 8) (m:=0)).lay,by omega,⟨.str z,?_,?_⟩,fun m t hm ht=>?_⟩
  · rw [List.getElem?_map,List.getElem?_eq_getElem hzi,List.getElem_idxOf hzi]; rfl
  · show (z == z)=true
    simp
  · rw [List.getElem?_map] at ht
    cases e2:ys[m]? with
    | none=>rw [e2] at ht; cases ht
    | some y =>
      rw [e2] at ht
      cases ht
      show (y == z)=false
      have:y ≠ z:=fun q=>by
        subst q
        exact idx_min hm e2
      simpa using this
inductive Tr | say (a:Str) | ask (k n v s:Str) (y m:Tr)
def trD:Tr→D
  | .say a=>.tuple [.str "say",.str a]
  | .ask k n v s y m=>.tuple [.str "ask",.tuple [.str k,.str n,.str v],.str s,trD y,trD m]
def Tr.dep:Tr→Nat
  | .say _=>0
  | .ask _ _ _ _ y m=>max y.dep m.dep + 1
def TrOk (fs:List (Str × List Str)) (an:List Str):Tr→Prop
  | .say a=>a ∈ an
  | .ask k n v s y m=>isQ fs (.tuple [.str k,.str n,.str v])=true∧(s="yes" ∨ s="no")∧TrOk fs an y∧TrOk fs an m
theorem isQ_str {fs:List (Str × List Str)} {k n v:Str} (h:isQ fs (.tuple [.str k,.str n,.str v])=true):∃ f ∈ fs,f.1=n∧v ∈ f.2∧(k="is" ∨ (k="upto"∧f.2.idxOf v + 1 < f.2.length)):=by
  obtain ⟨f,hf,hq⟩:=List.any_eq_true.mp (h:(fs.any fun f=>isN (.str n) f && qOk f (.str k) (.str v))=true)
  rw [Bool.and_eq_true] at hq
  have h2:(decide (v ∈ f.2) && (decide (k="is") || (decide (k="upto") && decide (f.2.idxOf v + 1 < f.2.length))))=true:=hq.2
  simp only [Bool.and_eq_true,Bool.or_eq_true,decide_eq_true_eq] at h2
  exact ⟨f,hf,of_decide_eq_true hq.1,h2.1,h2.2⟩
theorem nm_yes:nmS "yes"=true:=by decide +kernel
theorem nm_no:nmS "no"=true:=by decide +kernel
theorem th_q {fs:List (Str × List Str)} {an:List Str} (F:Form fs an) {k n v:Str} (h:isQ fs (.tuple [.str k,.str n,.str v])=true):Th 27 1 (.tuple [.str k,.str n,.str v]):=by
  obtain ⟨f,hf,rfl,hv,hk⟩:=isQ_str h
  refine th_mkQ F ?_ hf hv
  rcases hk with rfl | ⟨rfl,_⟩
  · exact nm_is
  · exact nm_upto
theorem seq_while {c:TTt} {tb u:STt} {DT:EndsT} {σ:List Sl} (P:Nat→List Sl→Prop) (n0:Nat) (h0:P n0 σ)
    (hs:∀ n σ',P n σ'→∃ b:Bool,(∀ q:Bool→Prop,q b→c σ' q)∧(if b=true then tb { DT with nx:=fun σ2=>∃ m,m < n∧P m σ2,ct:=fun σ2=>∃ m,m < n∧P m σ2,bk:=u DT } σ' else u DT σ')):sSeq (sWhile c tb) u DT σ :=
  ⟨P,⟨n0,h0⟩,fun n σ' hp=>let ⟨_,h1,h2⟩:=hs n σ' hp; h1 _ h2⟩
def sideOf (f:Str × List Str) (k v st:Str) (c:D):Str:=match c with
  | .none=>st
  | .str z=>if k="is" then (if z=v then "yes" else "no") else if f.2.idxOf z≤f.2.idxOf v then "yes" else "no"
  | _=>""
def sideS (fs:List (Str × List Str)) (k n v st:Str) (cs:List D):Str:=match fs[(fs.map (·.1)).idxOf n]?,cs[(fs.map (·.1)).idxOf n]? with
  | some f,some c=>sideOf f k v st c
  | _,_=>""
theorem name_at {fs:List (Str × List Str)} {an:List Str} (F:Form fs an) {j:Nat} {f:Str × List Str} (h:fs[j]?=some f):(fs.map (·.1)).idxOf f.1=j:=by
  have hm:f.1 ∈ fs.map (·.1):=List.mem_map.mpr ⟨f,List.mem_of_getElem? h,rfl⟩
  have hi:(fs.map (·.1)).idxOf f.1 < (fs.map (·.1)).length:=List.idxOf_lt_length_iff.mpr hm
  have h1:(fs.map (·.1))[(fs.map (·.1)).idxOf f.1]?=some f.1:=by rw [List.getElem?_eq_getElem hi,List.getElem_idxOf hi]
  have h2:(fs.map (·.1))[j]?=some f.1:=by rw [List.getElem?_map,h]; rfl
  exact (List.getElem?_inj hi F.nd.2.2).mp (h1.trans h2.symm)
theorem sideS_at {fs:List (Str × List Str)} {an:List Str} (F:Form fs an) {k n v st:Str} {cs:List D} {j:Nat} {f:Str × List Str} {c:D} (h1:fs[j]?=some f) (h2:cs[j]?=some c) (hn:f.1=n):sideS fs k n v st cs=sideOf f k v st c:=by
  subst hn
  unfold sideS
  rw [name_at F h1,h1,h2]
def held (k v:Str) (f:Str × List Str):List Str:=if k="is" then [v] else f.2.take (f.2.idxOf v + 1)
def sp_3:SpT:=fun ds Q=>∃ (k n v:Str) (f:Str × List Str),ds=[.tuple [.str k,.str n,.str v],fldD f]∧(∀ y ∈ f.2,nmS y=true)∧v ∈ f.2∧f.2.length≤5∧Q (.tuple ((held k v f).map PyData.str))
theorem held_side {f:Str × List Str} {k v st z:Str} (hz:z ∈ f.2):(if isAns (held k v f) (.str z)=true then ("yes":Str) else "no")=sideOf f k v st (.str z):=by
  show (if decide (z ∈ held k v f)=true then ("yes":Str) else "no")=if k="is" then (if z=v then ("yes":Str) else "no") else if f.2.idxOf z≤f.2.idxOf v then ("yes":Str) else "no"
  unfold held
  by_cases hk:k="is"
  · rw [if_pos hk,if_pos hk]
    by_cases e:z=v
    · rw [if_pos e,if_pos (decide_eq_true (List.mem_singleton.mpr e))]
    · rw [if_neg e,if_neg (fun q=>e (List.mem_singleton.mp (of_decide_eq_true q)))]
  · rw [if_neg hk,if_neg hk]
    have hi:f.2.idxOf z < f.2.length:=List.idxOf_lt_length_iff.mpr hz
    by_cases e:f.2.idxOf z≤f.2.idxOf v
    · rw [if_pos e,if_pos]
      refine decide_eq_true (List.mem_of_getElem? (i:=f.2.idxOf z) ?_)
      rw [List.getElem?_take,if_pos (by omega),List.getElem?_eq_getElem hi,List.getElem_idxOf hi]
    · rw [if_neg e,if_neg]
      intro q
      obtain ⟨i,hi'⟩:=List.getElem?_of_mem (of_decide_eq_true q)
      have hl:=(List.getElem?_eq_some_iff.mp hi').1
      rw [List.length_take] at hl
      rw [List.getElem?_take,if_pos (by omega)] at hi'
      have:=idx_le hi'
      omega
theorem held_mem {f:Str × List Str} {k v y:Str} (hv:v ∈ f.2) (h:y ∈ held k v f):y ∈ f.2:=by
  unfold held at h
  split at h
  · rw [List.mem_singleton.mp h]; exact hv
  · exact List.mem_of_mem_take h
def toYes (k v st:Str) (f:Str × List Str):List D:=(held k v f).map PyData.str++(if st="yes" then [PyData.none] else [])
def sp_2:SpT:=fun ds Q=>∃ (k n v st:Str) (f:Str × List Str),ds=[.tuple [.str k,.str n,.str v],.str st,fldD f]∧(∀ y ∈ f.2,nmS y=true)∧v ∈ f.2∧f.2.length≤5∧Q (.tuple (toYes k v st f))
def sp_1:SpT:=fun ds Q=>∃ (fs:List (Str × List Str)) (an:List Str) (k n v:Str) (f:Str × List Str) (j:Nat),ds=[frmD fs an,.tuple [.str k,.str n,.str v]]∧Form fs an∧fs[j]?=some f∧f.1=n∧Q (.int (j:Int))
theorem held_len {k v:Str} {f:Str × List Str} (h:f.2.length≤5):(held k v f).length≤5:=by
  unfold held
  split
  · show 1≤5; decide
  · rw [List.length_take]; omega
theorem in_toYes {k v st:Str} {f:Str × List Str} (hst:st="yes" ∨ st="no") {c:D} (hc:okV f c=true):(if inD c (.tuple (toYes k v st f))=true then ("yes":Str) else "no")=sideOf f k v st c:=by
  have e:inD c (.tuple (toYes k v st f))=(isAns (held k v f) c || ((if st="yes" then [PyData.none] else []).any fun z=>PyData.eqv z c)):=by
    show ((toYes k v st f).any fun z=>PyData.eqv z c)=_
    unfold toYes
    rw [List.any_append,any_strs]
  cases c with
  | none =>
    rw [e]
    rcases hst with rfl | rfl <;> rfl
  | str z =>
    have hz:z ∈ f.2:=of_decide_eq_true hc
    have e2:((if st="yes" then [PyData.none] else []).any fun x=>PyData.eqv x (.str z))=false:=by
      rcases hst with rfl | rfl <;> rfl
    rw [e,e2,Bool.or_false]
    exact held_side hz
  | _=>cases hc
theorem ok_toYes {k v st:Str} {f:Str × List Str} (hf:∀ y ∈ f.2,nmS y=true) (hv:v ∈ f.2) {d:D} (hd:Cd d):okIn d (.tuple (toYes k v st f)):=by
  unfold toYes
  split
  · exact ok_entries (fun y hy=>hf y (held_mem hv hy)) hd
  · rw [List.append_nil]; exact ok_strs (fun y hy=>hf y (held_mem hv hy)) hd
theorem seq_unp3 {te:ET} {u:STt} {DT:EndsT} {σ:List Sl} {i j l:Nat} {a b c:D} (h:∀ q:D→Prop,q (.tuple [a,b,c])→te σ q) (k:u DT (((σ.set i (.val a)).set j (.val b)).set l (.val c))):sSeq (sUnpG te (gP3 i j l)) u DT σ:=h _ ⟨a,b,c,rfl,k⟩
theorem one_extL {te:ET} {DT:EndsT} {σ:List Sl} {i:Nat} {ts us:List D} (ho:σ[i]?=some (.own ts)) (hz:ts.length + us.length≤100000) (h:∀ q:D→Prop,q (.list us)→te σ q) (k:DT.nx (σ.set i (.own (ts++us)))):sExtL i te DT σ:=⟨ts,ho,h _ ⟨us,rfl,hz,k⟩⟩
def entD (f:Str × List Str):List D:=f.2.map PyData.str++[.none]
def prodF:List (List D)→List (List D)
  | []=>[[]]
  | e::L=>e.flatMap fun x=>(prodF L).map (x::·)
noncomputable instance decD:DecidableEq PyData:=fun _ _=>Classical.propDecidable _
noncomputable def InL:List (List D)→List D→Bool
  | [],[]=>true
  | e::L,x::c=>decide (x ∈ e) && InL L c
  | _,_=>false
theorem mem_prod:∀ (L:List (List D)) (c:List D),c ∈ prodF L ↔ InL L c=true
  | [],[]=>by simp [prodF,InL]
  | [],_::_=>by simp [prodF,InL]
  | e::L,[]=>by simp [prodF,InL]
  | e::L,x::c=>by
    have ih:=mem_prod L c
    show (x::c) ∈ (e.flatMap fun x=>(prodF L).map (x::·)) ↔ (decide (x ∈ e) && InL L c)=true
    rw [Bool.and_eq_true,decide_eq_true_eq,← ih,List.mem_flatMap]
    constructor
    · rintro ⟨y,hy,h⟩
      obtain ⟨d,hd,e'⟩:=List.mem_map.mp h
      cases e'
      exact ⟨hy,hd⟩
    · rintro ⟨hx,hc⟩
      exact ⟨x,hx,List.mem_map.mpr ⟨c,hc,rfl⟩⟩
theorem InL_get:∀ {L:List (List D)} {c:List D},InL L c=true→c.length=L.length∧∀ (j:Nat) e x,L[j]?=some e→c[j]?=some x→x ∈ e
  | [],[],_=>⟨rfl,fun j e x h=>by simp at h⟩
  | [],_::_,h=>by cases h
  | _::_,[],h=>by cases h
  | e::L,x::c,h=>by
    have h':(decide (x ∈ e) && InL L c)=true:=h
    rw [Bool.and_eq_true,decide_eq_true_eq] at h'
    obtain ⟨h1,h2⟩:=InL_get h'.2
    refine ⟨by rw [List.length_cons,List.length_cons,h1],fun j e' x' he hx=>?_⟩
    cases j with
    | zero =>
      simp only [List.getElem?_cons_zero,Option.some.injEq] at he hx
      subst he hx
      exact h'.1
    | succ j =>
      simp only [List.getElem?_cons_succ] at he hx
      exact h2 j e' x' he hx
def anyNil (L:List (List D)):Bool:=L.any List.isEmpty
theorem prod_nil:∀ L:List (List D),prodF L=[] ↔ anyNil L=true
  | []=>by simp [prodF,anyNil]
  | e::L=>by
    have ih:=prod_nil L
    show (e.flatMap fun x=>(prodF L).map (x::·))=[] ↔ (e.isEmpty || L.any List.isEmpty)=true
    rw [Bool.or_eq_true]
    constructor
    · intro h
      cases e with
      | nil=>exact .inl rfl
      | cons x e =>
        rw [List.flatMap_cons,List.append_eq_nil_iff] at h
        exact .inr (ih.mp (List.map_eq_nil_iff.mp h.1))
    · rintro (h | h)
      · cases e with
        | nil=>rfl
        | cons x e=>cases h
      · rw [ih.mpr h]
        induction e with
        | nil=>rfl
        | cons x e ih2=>rw [List.flatMap_cons,ih2]; rfl
theorem prod_get:∀ {L:List (List D)},anyNil L=false→∀ (j:Nat) (e:List D) (x:D),L[j]?=some e→x ∈ e→∃ c ∈ prodF L,c[j]?=some x
  | [],_,j,e,x,he,_=>by simp at he
  | e0::L,h,j,e,x,he,hx=>by
    have h':(e0.isEmpty || anyNil L)=false:=h
    rw [Bool.or_eq_false_iff] at h'
    cases j with
    | zero =>
      simp only [List.getElem?_cons_zero,Option.some.injEq] at he
      subst he
      have:prodF L ≠ []:=fun z=>by rw [(prod_nil L).mp z] at h'; cases h'.2
      obtain ⟨c,hc⟩:=List.exists_mem_of_ne_nil _ this
      exact ⟨x::c,List.mem_flatMap.mpr ⟨x,hx,List.mem_map.mpr ⟨c,hc,rfl⟩⟩,rfl⟩
    | succ j =>
      simp only [List.getElem?_cons_succ] at he
      obtain ⟨c,hc,hcx⟩:=prod_get h'.2 j e x he hx
      obtain ⟨y,hy⟩:=List.exists_mem_of_ne_nil e0 (fun z=>by rw [z] at h'; cases h'.1)
      exact ⟨y::c,List.mem_flatMap.mpr ⟨y,hy,List.mem_map.mpr ⟨c,hc,rfl⟩⟩,hcx⟩
theorem prod_len:∀ (L:List (List D)) (n:Nat),(∀ e ∈ L,e.length≤n)→(prodF L).length≤n ^ L.length
  | [],n,_=>Nat.le_refl 1
  | e::L,n,h=>by
    have ih:=prod_len L n fun e he=>h e (List.mem_cons_of_mem _ he)
    have he:=h e (List.mem_cons_self ..)
    show (e.flatMap fun x=>(prodF L).map (x::·)).length≤n ^ (L.length + 1)
    have:(e.flatMap fun x=>(prodF L).map (x::·)).length=e.length * (prodF L).length:=by
      clear he h
      induction e with
      | nil=>simp
      | cons x e ih=>rw [List.flatMap_cons,List.length_append,ih,List.length_map,List.length_cons,Nat.add_mul]; omega
    rw [this,Nat.pow_succ,Nat.mul_comm (n ^ L.length)]
    exact Nat.mul_le_mul he ih
def filtAt:List (List D)→Nat→(D→Bool)→List (List D)
  | [],_,_=>[]
  | e::L,0,g=>e.filter g::L
  | e::L,j + 1,g=>e::filtAt L j g
def atB:List D→Nat→(D→Bool)→Bool
  | [],_,_=>true
  | x::_,0,g=>g x
  | _::c,j + 1,g=>atB c j g
theorem filter_prod:∀ (L:List (List D)) (j:Nat) (g:D→Bool),(prodF L).filter (fun c=>atB c j g)=prodF (filtAt L j g)
  | [],j,g=>rfl
  | e::L,0,g=>by
    show (e.flatMap fun x=>(prodF L).map (x::·)).filter _=(e.filter g).flatMap fun x=>(prodF L).map (x::·)
    induction e with
    | nil=>rfl
    | cons x e ih =>
      rw [List.flatMap_cons,List.filter_append,ih,List.filter_cons]
      by_cases hx:g x=true
      · rw [if_pos hx,List.flatMap_cons]
        congr 1
        rw [List.filter_eq_self]
        intro c hc
        obtain ⟨d,_,rfl⟩:=List.mem_map.mp hc
        exact hx
      · rw [if_neg hx]
        have:((prodF L).map (x::·)).filter (fun c=>atB c 0 g)=[]:=by
          rw [List.filter_eq_nil_iff]
          intro c hc
          obtain ⟨d,_,rfl⟩:=List.mem_map.mp hc
          exact hx
        rw [this]; rfl
  | e::L,j + 1,g=>by
    show (e.flatMap fun x=>(prodF L).map (x::·)).filter _=e.flatMap fun x=>(prodF (filtAt L j g)).map (x::·)
    rw [← filter_prod L j g]
    induction e with
    | nil=>rfl
    | cons x e ih =>
      rw [List.flatMap_cons,List.filter_append,ih,List.flatMap_cons]
      congr 1
      rw [List.filter_map]
      rfl
theorem filtAt_get:∀ {L:List (List D)} {j:Nat} {g:D→Bool} {e:List D},L[j]?=some e→filtAt L j g=L.take j++(e.filter g::L.drop (j + 1))
  | [],j,g,e,h=>by simp at h
  | e0::L,0,g,e,h=>by
    simp only [List.getElem?_cons_zero,Option.some.injEq] at h
    subst h; rfl
  | e0::L,j + 1,g,e,h=>by
    simp only [List.getElem?_cons_succ] at h
    show e0::filtAt L j g=e0::(L.take j++(e.filter g::L.drop (j + 1)))
    rw [filtAt_get h]
theorem filtAt_len:∀ (L:List (List D)) (j:Nat) (g:D→Bool),(filtAt L j g).length=L.length
  | [],_,_=>rfl
  | _::_,0,_=>rfl
  | e::L,j + 1,g=>by show (filtAt L j g).length + 1=L.length + 1; rw [filtAt_len L j g]
theorem filtAt_at:∀ (L:List (List D)) (j:Nat) (g:D→Bool) (i:Nat),(filtAt L j g)[i]?=if i=j then L[i]?.map (List.filter g) else L[i]?
  | [],j,g,i=>by show ([]:List (List D))[i]?=_; split <;> simp
  | e::L,0,g,0=>rfl
  | e::L,0,g,i + 1=>rfl
  | e::L,j + 1,g,0=>rfl
  | e::L,j + 1,g,i + 1=>by
    show (filtAt L j g)[i]?=if i + 1=j + 1 then L[i]?.map (List.filter g) else L[i]?
    rw [filtAt_at L j g i]
    by_cases h:i=j
    · rw [if_pos h,if_pos (by omega)]
    · rw [if_neg h,if_neg (by omega)]
theorem anyNil_filt:∀ {L:List (List D)} {j:Nat} {g:D→Bool} {e:List D},anyNil L=false→L[j]?=some e→anyNil (filtAt L j g)=(e.filter g).isEmpty
  | [],j,g,e,_,h=>by simp at h
  | e0::L,0,g,e,hn,h=>by
    simp only [List.getElem?_cons_zero,Option.some.injEq] at h
    subst h
    have hn':(e0.isEmpty || anyNil L)=false:=hn
    rw [Bool.or_eq_false_iff] at hn'
    show ((e0.filter g).isEmpty || anyNil L)=_
    rw [hn'.2,Bool.or_false]
  | e0::L,j + 1,g,e,hn,h=>by
    simp only [List.getElem?_cons_succ] at h
    have hn':(e0.isEmpty || anyNil L)=false:=hn
    rw [Bool.or_eq_false_iff] at hn'
    show (e0.isEmpty || anyNil (filtAt L j g))=_
    rw [hn'.1,Bool.false_or]
    exact anyNil_filt hn'.2 h
theorem InL_filt:∀ (L:List (List D)) (j:Nat) (g:D→Bool) (c:List D),InL (filtAt L j g) c=(InL L c && atB c j g)
  | [],j,g,[]=>rfl
  | [],j,g,_::_=>rfl
  | _::_,0,g,[]=>rfl
  | _::_,_ + 1,g,[]=>rfl
  | e::L,0,g,x::c=>by
    show (decide (x ∈ e.filter g) && InL L c)=(decide (x ∈ e) && InL L c && g x)
    rw [Bool.eq_iff_iff]
    simp only [Bool.and_eq_true,decide_eq_true_eq,List.mem_filter]
    exact ⟨fun ⟨⟨a,b⟩,c⟩=>⟨⟨a,c⟩,b⟩,fun ⟨⟨a,c⟩,b⟩=>⟨⟨a,b⟩,c⟩⟩
  | e::L,j + 1,g,x::c=>by
    show (decide (x ∈ e) && InL (filtAt L j g) c)=(decide (x ∈ e) && InL L c && atB c j g)
    rw [InL_filt L j g c,Bool.and_assoc]
theorem atB_get {g:D→Bool} {x:D}:∀ {c:List D} {j:Nat},c[j]?=some x→atB c j g=g x
  | [],j,h=>by simp at h
  | y::c,0,h=>by
    simp only [List.getElem?_cons_zero,Option.some.injEq] at h
    subst h; rfl
  | y::c,j + 1,h=>by
    simp only [List.getElem?_cons_succ] at h
    exact atB_get (c:=c) (j:=j) h
def jx (fs:List (Str × List Str)) (n:Str):Nat:=(fs.map (·.1)).idxOf n
def sideG (fs:List (Str × List Str)) (k n v s:Str) (x:D):Bool:=match fs[jx fs n]? with | some f=>decide (sideOf f k v s x="yes") | none=>false
def leavesT (fs:List (Str × List Str)):Tr→List (List D)→List (List (List D) × Str)
  | .say a,L=>if anyNil L then [] else [(L,a)]
  | .ask k n v s y m,L=>if anyNil L then [] else leavesT fs y (filtAt L (jx fs n) (sideG fs k n v s))++leavesT fs m (filtAt L (jx fs n) fun x=>!sideG fs k n v s x)
def LetsOk (fs:List (Str × List Str)) (L:List (List D)):Prop:=L.length=fs.length∧∀ (j:Nat) f e,fs[j]?=some f→L[j]?=some e→∃ p:D→Bool,e=(entD f).filter p
theorem LetsOk.filt {fs:List (Str × List Str)} {L:List (List D)} (h:LetsOk fs L) (j:Nat) (g:D→Bool):LetsOk fs (filtAt L j g):=by
  refine ⟨by rw [filtAt_len]; exact h.1,fun i f e hf he=>?_⟩
  rw [filtAt_at] at he
  by_cases hij:i=j
  · rw [if_pos hij] at he
    obtain ⟨e0,h0,rfl⟩:=Option.map_eq_some_iff.mp he
    obtain ⟨p,rfl⟩:=h.2 i f e0 hf h0
    exact ⟨fun x=>g x && p x,by rw [List.filter_filter]⟩
  · rw [if_neg hij] at he
    exact h.2 i f e hf he
theorem LetsOk.whole (fs:List (Str × List Str)):LetsOk fs (fs.map entD):=⟨List.length_map _,fun j f e hf he=>by
  rw [List.getElem?_map,hf] at he
  cases he
  exact ⟨fun _=>true,(List.filter_eq_self.mpr fun _ _=>rfl).symm⟩⟩
theorem whole_some (fs:List (Str × List Str)):anyNil (fs.map entD)=false:=by
  unfold anyNil
  rw [List.any_eq_false]
  intro e he
  obtain ⟨f,_,rfl⟩:=List.mem_map.mp he
  unfold entD
  cases f.2 <;> simp
theorem leaves_ok {fs:List (Str × List Str)}:∀ (t:Tr) {L:List (List D)},LetsOk fs L→∀ r ∈ leavesT fs t L,LetsOk fs r.1∧anyNil r.1=false∧∀ c,InL r.1 c=true→InL L c=true
  | .say a,L,h,r,hr=>by
    have hr':r ∈ (if anyNil L then [] else [(L,a)]):=hr
    cases hn:anyNil L with
    | true=>rw [hn,if_pos rfl] at hr'; simp at hr'
    | false =>
      rw [hn,if_neg (by decide)] at hr'
      rw [List.mem_singleton.mp hr']
      exact ⟨h,hn,fun _ z=>z⟩
  | .ask k n v s y m,L,h,r,hr=>by
    have hr':r ∈ (if anyNil L then [] else leavesT fs y (filtAt L (jx fs n) (sideG fs k n v s))++leavesT fs m (filtAt L (jx fs n) fun x=>!sideG fs k n v s x)):=hr
    split at hr'
    · simp at hr'
    · have sub:∀ g c,InL (filtAt L (jx fs n) g) c=true→InL L c=true:=fun g c z=>by
        rw [InL_filt,Bool.and_eq_true] at z
        exact z.1
      rcases List.mem_append.mp hr' with hr' | hr'
      · obtain ⟨h1,h2,h3⟩:=leaves_ok y (h.filt _ _) r hr'
        exact ⟨h1,h2,fun c z=>sub _ c (h3 c z)⟩
      · obtain ⟨h1,h2,h3⟩:=leaves_ok m (h.filt _ _) r hr'
        exact ⟨h1,h2,fun c z=>sub _ c (h3 c z)⟩
theorem leaves_nil {fs:List (Str × List Str)} {t:Tr} {L:List (List D)} (h:anyNil L=true):leavesT fs t L=[]:=by cases t <;> exact if_pos h
theorem leaves_none {fs:List (Str × List Str)} (t:Tr) {L:List (List D)} (hL:LetsOk fs L) {c:List D} (h:InL L c=false):((leavesT fs t L).map fun r=>InL r.1 c)=List.replicate (leavesT fs t L).length false:=by
  rw [List.map_eq_replicate_iff]
  intro r hr
  cases hx:InL r.1 c with
  | false=>rfl
  | true=>rw [(leaves_ok t hL r hr).2.2 c hx] at h; cases h
def ansL (fs:List (Str × List Str)):Tr→List D→Str
  | .say a,_=>a
  | .ask k n v s y m,c=>if atB c (jx fs n) (sideG fs k n v s) then ansL fs y c else ansL fs m c
theorem atB_not:∀ {c:List D} {j:Nat} {g:D→Bool},j < c.length→atB c j (fun x=>!g x)=!atB c j g
  | [],j,g,h=>by simp at h
  | _::_,0,g,_=>rfl
  | _::c,j + 1,g,h=>atB_not (c:=c) (by simpa using h)
theorem one_leaf {fs:List (Str × List Str)} {an:List Str}:∀ (t:Tr) {L:List (List D)} {c:List D},TrOk fs an t→LetsOk fs L→InL L c=true→((leavesT fs t L).map fun r=>InL r.1 c).count true=1∧(leavesT fs t L).find? (fun r=>InL r.1 c)=((leavesT fs t L).find? (fun r=>InL r.1 c)).map (fun r=>(r.1,ansL fs t c))∧(leavesT fs t L).find? (fun r=>InL r.1 c) ≠ none
  | .say a,L,c,_,hL,hc=>by
    have hn:anyNil L=false:=by
      cases hn:anyNil L with
      | false=>rfl
      | true =>
        have:=(mem_prod L c).mpr hc
        rw [(prod_nil L).mpr hn] at this
        simp at this
    have e:leavesT fs (.say a) L=[(L,a)]:=by show (if anyNil L then [] else [(L,a)])=_; rw [hn]; rfl
    rw [e]
    have e2:[(L,a)].find? (fun r=>InL r.1 c)=some (L,a):=by rw [List.find?_cons_of_pos (by exact hc)]
    rw [e2]
    refine ⟨?_,rfl,by simp⟩
    show [InL L c].count true=1
    rw [hc]; rfl
  | .ask k n v s y m,L,c,ht,hL,hc=>by
    obtain ⟨hq,hs,hy,hm⟩:=ht
    have hn:anyNil L=false:=by
      cases hn:anyNil L with
      | false=>rfl
      | true =>
        have:=(mem_prod L c).mpr hc
        rw [(prod_nil L).mpr hn] at this
        simp at this
    have e:leavesT fs (.ask k n v s y m) L=leavesT fs y (filtAt L (jx fs n) (sideG fs k n v s))++leavesT fs m (filtAt L (jx fs n) fun x=>!sideG fs k n v s x):=by
      show (if anyNil L then [] else _)=_
      rw [hn]; rfl
    have hjl:jx fs n < c.length:=by
      rw [(InL_get hc).1,hL.1]
      obtain ⟨f,hf,hfn,_⟩:=isQ_str hq
      have:n ∈ fs.map (·.1):=List.mem_map.mpr ⟨f,hf,hfn⟩
      have:=List.idxOf_lt_length_iff.mpr this
      rw [List.length_map] at this
      exact this
    have i1:=InL_filt L (jx fs n) (sideG fs k n v s) c
    have i2:=InL_filt L (jx fs n) (fun x=>!sideG fs k n v s x) c
    rw [atB_not hjl] at i2
    rw [hc,Bool.true_and] at i1 i2
    rw [e,List.map_append,List.count_append,List.find?_append]
    have cnt0:∀ n:Nat,(List.replicate n false).count true=0:=fun n=>by rw [List.count_replicate]; rfl
    have none_of:∀ (t:Tr) (L':List (List D)),LetsOk fs L'→InL L' c=false→(leavesT fs t L').find? (fun r=>InL r.1 c)=none:=fun t L' h1 h2=>by
      rw [List.find?_eq_none]
      intro r hr hx
      rw [(leaves_ok t h1 r hr).2.2 c hx] at h2
      cases h2
    cases hg:atB c (jx fs n) (sideG fs k n v s) with
    | true =>
      rw [hg] at i1 i2
      obtain ⟨h1,h2,h3⟩:=one_leaf y hy (hL.filt _ _) i1
      have e3:ansL fs (.ask k n v s y m) c=ansL fs y c:=by show (if atB c (jx fs n) (sideG fs k n v s) then _ else _)=_; rw [hg]; rfl
      rw [leaves_none m (hL.filt _ _) i2,cnt0,h1,e3,none_of m _ (hL.filt _ _) i2,Option.or_none]
      exact ⟨rfl,h2,h3⟩
    | false =>
      rw [hg] at i1 i2
      obtain ⟨h1,h2,h3⟩:=one_leaf m hm (hL.filt _ _) i2
      have e3:ansL fs (.ask k n v s y m) c=ansL fs m c:=by show (if atB c (jx fs n) (sideG fs k n v s) then _ else _)=_; rw [hg]; rfl
      rw [leaves_none y (hL.filt _ _) i1,cnt0,h1,e3,none_of y _ (hL.filt _ _) i1,Option.none_or]
      exact ⟨rfl,h2,h3⟩
def isSay:Tr→Bool
  | .say _=>true
  | .ask _ _ _ _ _ _=>false
def sp_4:SpT:=fun ds Q=>∃ t:Tr,ds=[trD t]∧Q (.bool (isSay t))
def letsD (L:List (List D)):D:=.tuple (L.map PyData.tuple)
def ruleD (r:List (List D) × Str):D:=.tuple [letsD r.1,.str r.2]
section
variable (fs:List (Str × List Str)) (an:List Str)
end
def sp_0:SpT:=fun ds Q=>∃ f:Str × List Str,ds=[fldD f]∧f.2.length≤5∧Q (.tuple (f.2.map PyData.str++[.none]))
def sp_6:SpT:=fun ds Q=>∃ (fs:List (Str × List Str)) (an:List Str),ds=[frmD fs an]∧Form fs an∧Q (letsD (fs.map entD))
def sp_14:SpT:=sp_6
def sp_8:SpT:=fun ds Q=>∃ (L:List (List D)) (j:Nat) (g:D→Bool) (e:List D),ds=[letsD L,.int (j:Int),.tuple (e.filter g)]∧L[j]?=some e∧L.length≤5∧Q (letsD (filtAt L j g))
def sp_law:SpT:=fun ds Q=>∃ ns:List Int,ds=[.list (ns.map PyData.int)]∧ns.length≤63∧Q (.bool true)
theorem okEq_of {x y:D} (h1:Cd x) (h2:Cd y):okEq x y:=⟨h1.lay,h2.lay,by have:=h1.dep; omega⟩
def Ent (x:D):Prop:=x=.none ∨ ∃ z,nmS z=true∧x=.str z
theorem Ent.th {x:D} (h:Ent x) {n m:Nat} (hn:8≤n):Th n m x:=by
  rcases h with rfl | ⟨z,hz,rfl⟩
  · exact th_none
  · exact th_name hz hn
theorem eqv_ent {x y:D} (hx:Ent x) (hy:Ent y):PyData.eqv x y=decide (x=y):=by
  rcases hx with rfl | ⟨z,hz,rfl⟩ <;> rcases hy with rfl | ⟨w,hw,rfl⟩
  · exact (decide_eq_true rfl).symm
  · exact (decide_eq_false (fun z=>nomatch z)).symm
  · exact (decide_eq_false (fun z=>nomatch z)).symm
  · show (z == w)=_
    rw [Bool.eq_iff_iff]
    simp
theorem any_ent {x:D} (hx:Ent x):∀ {ts:List D},(∀ t ∈ ts,Ent t)→(ts.any fun z=>PyData.eqv z x)=decide (x ∈ ts)
  | [],_=>(decide_eq_false (by simp)).symm
  | t::ts,h=>by
    rw [List.any_cons,any_ent hx fun t ht=>h t (List.mem_cons_of_mem _ ht),eqv_ent (h t (List.mem_cons_self ..)) hx,Bool.eq_iff_iff]
    simp only [Bool.or_eq_true,decide_eq_true_eq,List.mem_cons]
    exact ⟨fun z=>z.imp Eq.symm id,fun z=>z.imp Eq.symm id⟩
theorem okIn_ent {x:D} (hx:Ent x) {ts:List D} (h:∀ t ∈ ts,Ent t):okIn x (.list ts)∧okIn x (.tuple ts):=by
  obtain ⟨_,_,_,_,b5,b6⟩:=th_all (n:=8) (m:=0) fun t ht=>(h t ht).th (Nat.le_refl 8)
  have hc:=((hx.th (n:=8) (m:=0) (Nat.le_refl 8)).cd (by decide))
  exact ⟨⟨b6,hc.lay,by have:=hc.dep; omega⟩,⟨b6,hc.lay,by have:=hc.dep; omega⟩⟩
section
variable {fs:List (Str × List Str)} {an:List Str}
theorem ent_entD (F:Form fs an) {f:Str × List Str} (hf:f ∈ fs):∀ x ∈ entD f,Ent x:=fun x hx=>by
  rcases List.mem_append.mp hx with hx | hx
  · obtain ⟨z,hz,rfl⟩:=List.mem_map.mp hx
    exact .inr ⟨z,F.vals hf z hz,rfl⟩
  · rw [List.mem_singleton.mp hx]; exact .inl rfl
theorem okV_entD {f:Str × List Str} {x:D} (h:x ∈ entD f):okV f x=true:=by
  rcases List.mem_append.mp h with h | h
  · obtain ⟨z,hz,rfl⟩:=List.mem_map.mp h
    exact decide_eq_true hz
  · rw [List.mem_singleton.mp h]; rfl
theorem LetsOk.sub {L:List (List D)} (h:LetsOk fs L) {j:Nat} {f:Str × List Str} {e:List D} (hf:fs[j]?=some f) (he:L[j]?=some e):∀ x ∈ e,x ∈ entD f:=fun x hx=>by
  obtain ⟨p,rfl⟩:=h.2 j f e hf he
  exact (List.mem_filter.mp hx).1
theorem lets_case {L:List (List D)} (h:LetsOk fs L) {c:List D} (hc:InL L c=true):isCase fs (.tuple c)=true:=by
  obtain ⟨h1,h2⟩:=InL_get hc
  refine case_of (h1.trans h.1) fun k f x hf hx=>?_
  have hk:k < L.length:=by rw [h.1]; exact (List.getElem?_eq_some_iff.mp hf).1
  have hL:L[k]?=some L[k]:=List.getElem?_eq_getElem hk
  exact okV_entD (h.sub hf hL x (h2 k _ x hL hx))
theorem jx_get (F:Form fs an) {k n v:Str} (h:isQ fs (.tuple [.str k,.str n,.str v])=true):∃ f,fs[jx fs n]?=some f∧f ∈ fs∧f.1=n∧v ∈ f.2∧(k="is" ∨ k="upto"):=by
  obtain ⟨f,hf,hfn,hv,hk⟩:=isQ_str h
  obtain ⟨j,hj⟩:=List.getElem?_of_mem hf
  have:jx fs n=j:=by rw [← hfn]; exact name_at F hj
  exact ⟨f,by rw [this]; exact hj,hf,hfn,hv,hk.imp id fun z=>z.1⟩
theorem sideG_in (F:Form fs an) {k n v s:Str} {f:Str × List Str} (hf:fs[jx fs n]?=some f) (hs:s="yes" ∨ s="no") {x:D} (hx:x ∈ entD f):inD x (.tuple (toYes k v s f))=sideG fs k n v s x:=by
  unfold sideG
  rw [hf]
  show _=decide (sideOf f k v s x="yes")
  rw [← in_toYes hs (okV_entD hx)]
  cases inD x (.tuple (toYes k v s f)) with
  | true=>rfl
  | false=>rw [if_neg (by decide)]; exact (decide_eq_false (by decide +kernel)).symm
theorem sideOf_yn {f:Str × List Str} {k v s:Str} (hs:s="yes" ∨ s="no") {x:D} (hx:okV f x=true):sideOf f k v s x="yes" ∨ sideOf f k v s x="no":=by
  rw [← in_toYes hs hx]
  split
  · exact .inl rfl
  · exact .inr rfl
theorem sideS_atB (F:Form fs an) {k n v s:Str} (hq:isQ fs (.tuple [.str k,.str n,.str v])=true) (hs:s="yes" ∨ s="no") {c:List D} (hc:isCase fs (.tuple c)=true):sideS fs k n v s c=(if atB c (jx fs n) (sideG fs k n v s) then ("yes":Str) else "no"):=by
  obtain ⟨f,hf,hfm,hfn,hv,hk⟩:=jx_get F hq
  obtain ⟨hl,hcv⟩:=case_get hc
  have hj:jx fs n < c.length:=by rw [hl]; exact (List.getElem?_eq_some_iff.mp hf).1
  have hx:c[jx fs n]?=some c[jx fs n]:=List.getElem?_eq_getElem hj
  have hok:=hcv _ f _ hf hx
  rw [sideS_at F hf hx hfn,atB_get hx]
  unfold sideG
  rw [hf]
  show _=if decide (sideOf f k v s c[jx fs n]="yes")=true then ("yes":Str) else "no"
  rcases sideOf_yn (k:=k) (v:=v) hs hok with e | e
  · rw [e,if_pos (decide_eq_true rfl)]
  · rw [e,if_neg (by decide +kernel)]
end
section
variable {fs:List (Str × List Str)} {an:List Str}
theorem entD_nd (F:Form fs an) {f:Str × List Str} (hf:f ∈ fs):(entD f).Nodup:=by
  have hd:=(F.vs f hf).2.2.2.2
  unfold entD
  rw [List.nodup_append]
  refine ⟨List.Pairwise.map _ (fun a b h z=>h (by injection z)) hd,by simp,fun a ha b hb=>?_⟩
  obtain ⟨z,_,rfl⟩:=List.mem_map.mp ha
  rw [List.mem_singleton.mp hb]
  exact fun q=>nomatch q
theorem entD_len (f:Str × List Str):(entD f).length=f.2.length + 1:=by unfold entD; rw [List.length_append,List.length_map]; rfl
end
theorem dfold_mem:∀ (ys l:List Str) (z:Str),z ∈ ys.foldl dstep l ↔ z ∈ l ∨ z ∈ ys
  | [],l,z=>by simp
  | y::ys,l,z=>by rw [List.foldl_cons,dfold_mem ys,dstep_mem,List.mem_cons,or_assoc]
theorem dd_one (y:Str) (ys:List Str):(dd (y::ys)).length=1 ↔ ∀ z ∈ ys,z=y:=by
  constructor
  · intro h z hz
    obtain ⟨a,ha⟩:=List.length_eq_one_iff.mp h
    have m:∀ x,x ∈ y::ys→x=a:=fun x hx=>by
      have:x ∈ dd (y::ys):=(dfold_mem _ _ _).mpr (.inr hx)
      rw [ha] at this
      exact List.mem_singleton.mp this
    rw [m z (List.mem_cons_of_mem _ hz),m y (List.mem_cons_self ..)]
  · intro h
    have:∀ l:List Str,(∀ z ∈ l,z=y)→l.foldl dstep [y]=[y]:=fun l=>by
      induction l with
      | nil=>exact fun _=>rfl
      | cons a l ih =>
        intro hh
        rw [List.foldl_cons,hh a (List.mem_cons_self ..)]
        have e:dstep [y] y=[y]:=by unfold dstep; rw [if_pos (List.mem_singleton.mpr rfl)]
        rw [e]; exact ih fun z hz=>hh z (List.mem_cons_of_mem _ hz)
    show (ys.foldl dstep (dstep [] y)).length=1
    have e:dstep [] y=[y]:=by unfold dstep; rw [if_neg (by simp)]; rfl
    rw [e,this ys h]; rfl
noncomputable def wayL (fs:List (Str × List Str)):Tr→List D→List D
  | .say _,_=>[]
  | .ask k n v s y m,c=>.tuple [.tuple [.str k,.str n,.str v],.str (sideS fs k n v s c)]::(if atB c (jx fs n) (sideG fs k n v s) then wayL fs y c else wayL fs m c)
def sp_15:SpT:=fun ds Q=>∃ (fs:List (Str × List Str)) (an:List Str) (k n v s:Str) (x:D) (rest:List D) (cs:List D),ds=[frmD fs an,.tuple (x::.tuple [.str k,.str n,.str v]::.str s::rest),.tuple cs]∧Form fs an∧(isQ fs (.tuple [.str k,.str n,.str v])=true∧(s="yes" ∨ s="no"))∧isCase fs (.tuple cs)=true∧Q (.str (sideS fs k n v s cs))
def sp_16:SpT:=fun ds Q=>∃ (fs:List (Str × List Str)) (an:List Str) (t:Tr) (cs:List D),ds=[frmD fs an,trD t,.tuple cs]∧Form fs an∧TrOk fs an t∧isCase fs (.tuple cs)=true∧t.dep≤40∧Q (.tuple [.list (wayL fs t cs),.str (ansL fs t cs)])
theorem filt_two {α:Type} (p:α→Bool):∀ l:List α,(l.filter p).length + (l.filter fun x=>!p x).length=l.length
  | []=>rfl
  | a::l=>by
    have:=filt_two p l
    rw [List.filter_cons,List.filter_cons,List.length_cons]
    cases p a <;> simp <;> omega
section
variable {fs:List (Str × List Str)} {an:List Str}
theorem prod_two {L:List (List D)} {j:Nat} (hj:j < L.length) (g:D→Bool):(prodF (filtAt L j g)).length + (prodF (filtAt L j fun x=>!g x)).length=(prodF L).length:=by
  rw [← filter_prod,← filter_prod,← filt_two (fun c=>atB c j g) (prodF L)]
  congr 2
  apply List.filter_congr
  intro c hc
  exact atB_not (by rw [(InL_get ((mem_prod L c).mp hc)).1]; exact hj)
theorem leaves_le:∀ (t:Tr) {L:List (List D)},TrOk fs an t→Form fs an→LetsOk fs L→(leavesT fs t L).length≤(prodF L).length
  | .say a,L,_,_,_=>by
    show (if anyNil L then [] else [(L,a)]:List (List (List D) × Str)).length≤_
    cases hn:anyNil L with
    | true=>exact Nat.zero_le _
    | false =>
      have:prodF L ≠ []:=fun z=>by rw [(prod_nil L).mp z] at hn; cases hn
      rw [if_neg (by decide)]
      exact List.length_pos_iff.mpr this
  | .ask k n v s y m,L,ht,F,hL=>by
    obtain ⟨f,hf,_⟩:=jx_get F ht.1
    have hj:jx fs n < L.length:=by rw [hL.1]; exact (List.getElem?_eq_some_iff.mp hf).1
    have h1:=leaves_le y ht.2.2.1 F (hL.filt (jx fs n) (sideG fs k n v s))
    have h2:=leaves_le m ht.2.2.2 F (hL.filt (jx fs n) fun x=>!sideG fs k n v s x)
    have h3:=prod_two hj (sideG fs k n v s)
    show (if anyNil L then [] else leavesT fs y (filtAt L (jx fs n) (sideG fs k n v s))++leavesT fs m (filtAt L (jx fs n) fun x=>!sideG fs k n v s x)).length≤_
    split
    · exact Nat.zero_le _
    · rw [List.length_append]; omega
theorem way_len:∀ (t:Tr) (c:List D),(wayL fs t c).length≤t.dep
  | .say _,_=>Nat.le_refl _
  | .ask k n v s y m,c=>by
    have h1:=way_len y c
    have h2:=way_len m c
    show (if atB c (jx fs n) (sideG fs k n v s) then wayL fs y c else wayL fs m c).length + 1≤max y.dep m.dep + 1
    split <;> omega
theorem leaf_way (F:Form fs an):∀ (t:Tr) {L:List (List D)},TrOk fs an t→LetsOk fs L→∀ {r},r ∈ leavesT fs t L→∀ {c c':List D},InL r.1 c=true→InL r.1 c'=true→wayL fs t c=wayL fs t c'∧ansL fs t c=r.2
  | .say a,L,_,_,r,hr,c,c',_,_=>by
    have hr':r ∈ (if anyNil L then [] else [(L,a)]):=hr
    split at hr'
    · simp at hr'
    · rw [List.mem_singleton.mp hr']; exact ⟨rfl,rfl⟩
  | .ask k n v s y m,L,ht,hL,r,hr,c,c',hc,hc'=>by
    have hr':r ∈ (if anyNil L then [] else leavesT fs y (filtAt L (jx fs n) (sideG fs k n v s))++leavesT fs m (filtAt L (jx fs n) fun x=>!sideG fs k n v s x)):=hr
    have hcase:∀ {c:List D},InL r.1 c=true→InL L c=true∧isCase fs (.tuple c)=true:=fun {c} h=>by
      have h1:=(leaves_ok (.ask k n v s y m) hL r hr).2.2 c h
      exact ⟨h1,lets_case hL h1⟩
    have side:=fun {c:List D} (h:InL r.1 c=true)=>sideS_atB F ht.1 ht.2.1 (hcase h).2
    have hjc:∀ {c:List D},InL r.1 c=true→jx fs n < c.length:=fun {c} h=>by
      obtain ⟨f,hf,_⟩:=jx_get F ht.1
      rw [(case_get (hcase h).2).1]; exact (List.getElem?_eq_some_iff.mp hf).1
    split at hr'
    · simp at hr'
    · rcases List.mem_append.mp hr' with hr' | hr'
      · have at1:∀ {c:List D},InL r.1 c=true→atB c (jx fs n) (sideG fs k n v s)=true:=fun {c} h=>by
          have:=(leaves_ok y (hL.filt (jx fs n) (sideG fs k n v s)) r hr').2.2 c h
          rw [InL_filt,Bool.and_eq_true] at this
          exact this.2
        obtain ⟨i1,i2⟩:=leaf_way F y ht.2.2.1 (hL.filt _ _) hr' hc hc'
        refine ⟨?_,?_⟩
        · show _::(if atB c (jx fs n) (sideG fs k n v s) then wayL fs y c else wayL fs m c)=_::(if atB c' (jx fs n) (sideG fs k n v s) then wayL fs y c' else wayL fs m c')
          rw [side hc,side hc',at1 hc,at1 hc',if_pos rfl,if_pos rfl,if_pos rfl,i1]
        · show (if atB c (jx fs n) (sideG fs k n v s) then ansL fs y c else ansL fs m c)=_
          rw [at1 hc,if_pos rfl,i2]
      · have at1:∀ {c:List D},InL r.1 c=true→atB c (jx fs n) (sideG fs k n v s)=false:=fun {c} h=>by
          have:=(leaves_ok m (hL.filt (jx fs n) fun x=>!sideG fs k n v s x) r hr').2.2 c h
          rw [InL_filt,Bool.and_eq_true,atB_not (hjc h)] at this
          simpa using this.2
        obtain ⟨i1,i2⟩:=leaf_way F m ht.2.2.2 (hL.filt _ _) hr' hc hc'
        refine ⟨?_,?_⟩
        · show _::(if atB c (jx fs n) (sideG fs k n v s) then wayL fs y c else wayL fs m c)=_::(if atB c' (jx fs n) (sideG fs k n v s) then wayL fs y c' else wayL fs m c')
          rw [side hc,side hc',at1 hc,at1 hc',if_neg (by decide),if_neg (by decide),if_neg (by decide),i1]
        · show (if atB c (jx fs n) (sideG fs k n v s) then ansL fs y c else ansL fs m c)=_
          rw [at1 hc,if_neg (by decide),i2]
end
abbrev Pr3:=List (List D) × Str × Str
noncomputable def pairsT (fs:List (Str × List Str)) (one other:Tr) (L:List (List D)):List Pr3:=(leavesT fs one L).flatMap fun r=>(leavesT fs other r.1).map fun q=>(q.1,r.2,q.2)
def pairD (p:Pr3):D:=.tuple [letsD p.1,.str p.2.1,.str p.2.2]
section
variable {fs:List (Str × List Str)} {an:List Str} {one other:Tr}
theorem pairs_ok (F:Form fs an) (h1:TrOk fs an one) (h2:TrOk fs an other) {L:List (List D)} (hL:LetsOk fs L) {p:Pr3} (hp:p ∈ pairsT fs one other L):LetsOk fs p.1∧anyNil p.1=false∧∀ {c c':List D},InL p.1 c=true→InL p.1 c'=true→wayL fs one c=wayL fs one c'∧wayL fs other c=wayL fs other c'∧ansL fs one c=p.2.1∧ansL fs other c=p.2.2∧InL L c=true:=by
  obtain ⟨r,hr,hp⟩:=List.mem_flatMap.mp hp
  obtain ⟨q,hq,rfl⟩:=List.mem_map.mp hp
  obtain ⟨a1,a2,a3⟩:=leaves_ok one hL r hr
  obtain ⟨b1,b2,b3⟩:=leaves_ok other a1 q hq
  refine ⟨b1,b2,fun {c c'} hc hc'=>?_⟩
  obtain ⟨e1,e2⟩:=leaf_way F one h1 hL hr (b3 c hc) (b3 c' hc')
  obtain ⟨e3,e4⟩:=leaf_way F other h2 a1 hq hc hc'
  exact ⟨e1,e3,e2,e4,a3 c (b3 c hc)⟩
theorem count_flat {α β:Type} (f:α→List β) (p:β→Bool):∀ l:List α,((l.flatMap f).map p).count true=(l.map fun a=>((f a).map p).count true).sum
  | []=>rfl
  | a::l=>by rw [List.flatMap_cons,List.map_append,List.count_append,List.map_cons,List.sum_cons,count_flat f p l]
theorem sum_bools:∀ bs:List Bool,(bs.map fun b=>if b then 1 else 0).sum=bs.count true
  | []=>rfl
  | b::bs=>by
    rw [List.map_cons,List.sum_cons,sum_bools bs,List.count_cons]
    cases b <;> simp <;> omega
theorem one_pair (F:Form fs an) (h1:TrOk fs an one) (h2:TrOk fs an other) {L:List (List D)} (hL:LetsOk fs L) {c:List D} (hc:InL L c=true):((pairsT fs one other L).map fun p=>InL p.1 c).count true=1:=by
  unfold pairsT
  rw [count_flat]
  have e:((leavesT fs one L).map fun r=>((((leavesT fs other r.1).map fun q=>((q.1,r.2,q.2):Pr3)).map fun p=>InL p.1 c).count true))=((leavesT fs one L).map fun r=>InL r.1 c).map fun b=>if b then 1 else 0:=by
    rw [List.map_map]
    apply List.map_congr_left
    intro r hr
    rw [List.map_map]
    have hr1:=(leaves_ok one hL r hr).1
    show ((leavesT fs other r.1).map fun q=>InL q.1 c).count true=if InL r.1 c=true then 1 else 0
    cases hx:InL r.1 c with
    | true=>rw [if_pos rfl]; exact (one_leaf other h2 hr1 hx).1
    | false =>
      rw [leaves_none other hr1 hx,if_neg (by decide),List.count_replicate]
      rfl
  rw [e,sum_bools]
  exact (one_leaf one h1 hL hc).1
theorem count_pos {α:Type} {p:α→Bool} {l:List α} (h:(l.map p).count true=1):∃ a ∈ l,p a=true:=by
  have:true ∈ l.map p:=List.count_pos_iff.mp (by omega)
  obtain ⟨a,ha,hp⟩:=List.mem_map.mp this
  exact ⟨a,ha,hp⟩
end
theorem leaves_sum {fs:List (Str × List Str)} {an:List Str} (F:Form fs an):∀ (t:Tr) {L:List (List D)},TrOk fs an t→LetsOk fs L→((leavesT fs t L).map fun r=>(prodF r.1).length).sum≤(prodF L).length
  | .say a,L,_,_=>by
    show ((if anyNil L then [] else [(L,a)]:List (List (List D) × Str)).map fun r=>(prodF r.1).length).sum≤_
    split
    · exact Nat.zero_le _
    · show (prodF L).length + 0≤_; omega
  | .ask k n v s y m,L,ht,hL=>by
    obtain ⟨f,hf,_⟩:=jx_get F ht.1
    have hj:jx fs n < L.length:=by rw [hL.1]; exact (List.getElem?_eq_some_iff.mp hf).1
    have h1:=leaves_sum F y ht.2.2.1 (hL.filt (jx fs n) (sideG fs k n v s))
    have h2:=leaves_sum F m ht.2.2.2 (hL.filt (jx fs n) fun x=>!sideG fs k n v s x)
    have h3:=prod_two hj (sideG fs k n v s)
    show ((if anyNil L then [] else leavesT fs y (filtAt L (jx fs n) (sideG fs k n v s))++leavesT fs m (filtAt L (jx fs n) fun x=>!sideG fs k n v s x)).map fun r=>(prodF r.1).length).sum≤_
    split
    · exact Nat.zero_le _
    · rw [List.map_append,List.sum_append]; omega
theorem pairs_le {fs:List (Str × List Str)} {an:List Str} (F:Form fs an) {one other:Tr} (h1:TrOk fs an one) (h2:TrOk fs an other) {L:List (List D)} (hL:LetsOk fs L):(pairsT fs one other L).length≤(prodF L).length:=by
  refine Nat.le_trans ?_ (leaves_sum F one h1 hL)
  unfold pairsT
  rw [List.length_flatMap]
  have hok:=fun r hr=>(leaves_ok one hL r hr).1
  generalize leavesT fs one L=rs at hok
  induction rs with
  | nil=>exact Nat.le_refl _
  | cons r rs ih =>
    rw [List.map_cons,List.map_cons,List.sum_cons,List.sum_cons,List.length_map]
    exact Nat.add_le_add (leaves_le (an:=an) other h2 F (hok r (List.mem_cons_self ..))) (ih fun x hx=>hok x (List.mem_cons_of_mem _ hx))
theorem set3_set3:∀ (l:List Sl) (a b c x y z:Sl),((((((l.set 0 a).set 1 b).set 2 c).set 0 x).set 1 y).set 2 z)=((l.set 0 x).set 1 y).set 2 z
  | [],_,_,_,_,_,_=>rfl
  | [_],_,_,_,_,_,_=>rfl
  | [_,_],_,_,_,_,_,_=>rfl
  | _::_::_::_,_,_,_,_,_,_=>rfl
theorem lct_map {fr:List (Option Nat)} {ti:IT} {te:ET} {σ:List Sl} {Q:D→Prop} {ts:List D} (hti:Gives' ti σ ts) (f:D→D) (hz:ts.length≤100000) (hp:∀ x ∈ ts,∃ a b c,x=.tuple [a,b,c]) (ht:∀ (a b c:D) (q:D→Prop),.tuple [a,b,c] ∈ ts→q (f (.tuple [a,b,c]))→te ((((inBlkT fr σ).set 0 (.val a)).set 1 (.val b)).set 2 (.val c)) q) (hq:Q (.list (ts.map f))):eLc fr ti (gP3 0 1 2) cTrue te σ Q:=by
  refine hti _ ⟨hz,fun k σ' ds=>(∀ x y z,((σ'.set 0 (.val x)).set 1 (.val y)).set 2 (.val z)=(((inBlkT fr σ).set 0 (.val x)).set 1 (.val y)).set 2 (.val z))∧ds=(ts.take k).map f,⟨fun _ _ _=>rfl,rfl⟩,fun k x σ' ds hx h=>?_,fun σ' ds h=>?_⟩
  · obtain ⟨h1,rfl⟩:=h
    have hm:x ∈ ts:=List.mem_of_getElem? hx
    obtain ⟨a,b,c,rfl⟩:=hp x hm
    refine ⟨a,b,c,rfl,?_⟩
    show te (((σ'.set 0 (.val a)).set 1 (.val b)).set 2 (.val c)) _
    rw [h1 a b c]
    refine ht a b c _ hm ⟨fun x y z=>set3_set3 _ _ _ _ _ _ _,?_⟩
    rw [List.take_add_one,hx,List.map_append]; rfl
  · obtain ⟨_,rfl⟩:=h
    rw [List.take_length]; exact hq
def headD (x:D):D:=match x with | .tuple (y::_)=>y | _=>.none
def firstC (L:List (List D)):List D:=(L.map PyData.tuple).map headD
theorem first_in:∀ {L:List (List D)},anyNil L=false→InL L (firstC L)=true
  | [],_=>rfl
  | e::L,h=>by
    have h':(e.isEmpty || anyNil L)=false:=h
    rw [Bool.or_eq_false_iff] at h'
    cases e with
    | nil=>cases h'.1
    | cons x e =>
      show (decide (x ∈ x::e) && InL L (firstC L))=true
      rw [first_in h'.2,decide_eq_true (List.mem_cons_self ..)]; rfl
theorem nil_mem:∀ {L:List (List D)} {e:List D},anyNil L=false→e ∈ L→e ≠ []
  | [],e,_,h=>by cases h
  | e0::L,e,h,hm=>by
    have h':(e0.isEmpty || anyNil L)=false:=h
    rw [Bool.or_eq_false_iff] at h'
    rcases List.mem_cons.mp hm with rfl | hm
    · intro z; rw [z] at h'; cases h'.1
    · exact nil_mem h'.2 hm
theorem ansL_mem {fs:List (Str × List Str)} {an:List Str}:∀ (t:Tr) (c:List D),TrOk fs an t→ansL fs t c ∈ an
  | .say _,_,h=>h
  | .ask k n v s y m,c,h=>by
    show (if atB c (jx fs n) (sideG fs k n v s) then ansL fs y c else ansL fs m c) ∈ an
    split
    · exact ansL_mem y c h.2.2.1
    · exact ansL_mem m c h.2.2.2
noncomputable def wyD (fs:List (Str × List Str)) (t:Tr) (c:List D):D:=.tuple [.list (wayL fs t c),.str (ansL fs t c)]
section
variable {fs:List (Str × List Str)} {an:List Str}
theorem way_items (F:Form fs an) {c:List D} (hc:isCase fs (.tuple c)=true):∀ t:Tr,TrOk fs an t→∀ d ∈ wayL fs t c,Th 60 2 d
  | .say _,_,d,hd=>by cases hd
  | .ask k n v s y m,h,d,hd=>by
    have hd':d ∈ .tuple [.tuple [.str k,.str n,.str v],.str (sideS fs k n v s c)]::(if atB c (jx fs n) (sideG fs k n v s) then wayL fs y c else wayL fs m c):=hd
    rcases List.mem_cons.mp hd' with rfl | hd'
    · refine th_tup 27 1 2 (all_cons (th_q F h.1) (all_cons (th_name ?_ (by decide)) all_nil)) (Nat.le_refl _) (by decide) (by decide)
      rw [sideS_atB F h.1 h.2.1 hc]
      split
      · exact nm_yes
      · exact nm_no
    · split at hd'
      · exact way_items F hc y h.2.2.1 d hd'
      · exact way_items F hc m h.2.2.2 d hd'
theorem way_th (F:Form fs an) {c:List D} (hc:isCase fs (.tuple c)=true) {t:Tr} (h:TrOk fs an t) (hd:t.dep≤40):Th 5100 4 (wyD fs t c) :=
  th_tup 2500 3 2 (all_cons (th_lst 60 2 40 (way_items F hc t h) (Nat.le_trans (way_len t c) hd) (by decide) (by decide)) (all_cons (th_name (F.an.2.1 _ (ansL_mem t c h)) (by decide)) all_nil)) (Nat.le_refl _) (by decide) (by decide)
end
theorem seq_ifN {c:TTt} {ta u:STt} {DT:EndsT} {σ:List Sl} (R:Bool→Prop) (P:List Sl→Prop) (h:∀ q:Bool→Prop,(∀ b,R b→q b)→c σ q) (ha:R true→∀ DT':EndsT,(∀ σ',P σ'→DT'.nx σ')→ta DT' σ) (hb:R false→P σ) (hu:∀ σ',P σ'→u DT σ'):sSeq (sIf c ta sNext) u DT σ:=h _ fun b hr=>by
  cases b with
  | true=>exact ha hr { DT with nx:=u DT } hu
  | false=>exact hu _ (hb hr)
theorem many_le {fs:List (Str × List Str)} {an:List Str} (F:Form fs an) {L:List (List D)} (hL:LetsOk fs L):(prodF L).length≤7776:=by
  have h1:=prod_len L 6 fun e he=>by
    obtain ⟨j,hj⟩:=List.getElem?_of_mem he
    have hjl:j < fs.length:=by rw [← hL.1]; exact (List.getElem?_eq_some_iff.mp hj).1
    obtain ⟨p,rfl⟩:=hL.2 j _ e (List.getElem?_eq_getElem hjl) hj
    have h2:=List.length_filter_le p (entD fs[j])
    have h3:=(F.vs _ (List.getElem_mem hjl)).2.1
    have h4:=entD_len fs[j]
    omega
  have h2:6 ^ L.length≤6 ^ 5:=Nat.pow_le_pow_right (by decide) (by rw [hL.1]; exact F.n5)
  omega
def answersT:Tr→List Str
  | .say a=>[a]
  | .ask _ _ _ _ y m=>answersT y++answersT m
theorem answers_ne:∀ t:Tr,1≤(answersT t).length
  | .say _=>Nat.le_refl _
  | .ask _ _ _ _ y m=>by
    show 1≤(answersT y++answersT m).length
    rw [List.length_append]; have:=answers_ne y; omega
def Full (fs:List (Str × List Str)):Tr→List (List D)→Prop
  | .say _,L=>anyNil L=false
  | .ask k n v s y m,L=>anyNil L=false∧Full fs y (filtAt L (jx fs n) (sideG fs k n v s))∧Full fs m (filtAt L (jx fs n) fun x=>!sideG fs k n v s x)
def Asks (fs:List (Str × List Str)) (P:Nat→Prop):Tr→Prop
  | .say _=>True
  | .ask _ n _ _ y m=>P (jx fs n)∧Asks fs P y∧Asks fs P m
theorem filtAt_set {e:List D} {g:D→Bool}:∀ {L:List (List D)} {j:Nat},L[j]?=some e→filtAt L j g=L.set j (e.filter g)
  | [],_,h=>by simp at h
  | e0::L,0,h=>by
    simp only [List.getElem?_cons_zero,Option.some.injEq] at h
    subst h; rfl
  | e0::L,j + 1,h=>by
    simp only [List.getElem?_cons_succ] at h
    show e0::filtAt L j g=e0::L.set j _
    rw [filtAt_set h]
theorem filtAt_all {e:List D} {g:D→Bool} {L:List (List D)} {j:Nat} (h:L[j]?=some e) (hg:∀ x ∈ e,g x=true):filtAt L j g=L:=by
  rw [filtAt_set h,List.filter_eq_self.mpr hg]
  apply List.ext_getElem?
  intro i
  by_cases hij:j=i
  · subst hij
    rw [List.getElem?_set_self (List.getElem?_eq_some_iff.mp h).1,h]
  · rw [List.getElem?_set_ne hij]
theorem filtAt_none {e:List D} {g:D→Bool} {L:List (List D)} {j:Nat} (h:L[j]?=some e) (hg:∀ x ∈ e,g x=false):anyNil (filtAt L j g)=true:=by
  rw [filtAt_set h,List.filter_eq_nil_iff.mpr fun x hx=>by rw [hg x hx]; decide]
  unfold anyNil
  rw [List.any_eq_true]
  exact ⟨[],List.mem_of_getElem? (i:=j) (List.getElem?_set_self (List.getElem?_eq_some_iff.mp h).1),rfl⟩
section
variable {fs:List (Str × List Str)} {an:List Str} {P:Nat→Prop}
theorem Full.some:∀ {t:Tr} {L:List (List D)},Full fs t L→anyNil L=false
  | .say _,_,h=>h
  | .ask _ _ _ _ _ _,_,h=>h.1
theorem Asks.mono {P':Nat→Prop} (hp:∀ j,P j→P' j):∀ {t:Tr},Asks fs P t→Asks fs P' t
  | .say _,_=>trivial
  | .ask _ _ _ _ _ _,h=>⟨hp _ h.1,Asks.mono hp h.2.1,Asks.mono hp h.2.2⟩
theorem full_ans:∀ {t:Tr} {L:List (List D)},Full fs t L→(leavesT fs t L).map (·.2)=answersT t
  | .say a,L,h=>by
    show (if anyNil L then [] else [(L,a)]:List (List (List D) × Str)).map (·.2)=[a]
    rw [show anyNil L=false from h]; rfl
  | .ask k n v s y m,L,h=>by
    show (if anyNil L then [] else leavesT fs y (filtAt L (jx fs n) (sideG fs k n v s))++leavesT fs m (filtAt L (jx fs n) fun x=>!sideG fs k n v s x)).map (·.2)=answersT y++answersT m
    rw [h.1,if_neg (by decide),List.map_append,full_ans h.2.1,full_ans h.2.2]
theorem full_len {t:Tr} {L:List (List D)} (h:Full fs t L):(leavesT fs t L).length=(answersT t).length:=by
  have:=congrArg List.length (full_ans h)
  rwa [List.length_map] at this
theorem full_agree:∀ {t:Tr} {L M:List (List D)},Asks fs P t→(∀ j,P j→j < L.length∧L[j]?=M[j]?)→anyNil M=false→Full fs t L→Full fs t M
  | .say _,_,_,_,_,hM,_=>hM
  | .ask k n v s y m,L,M,ha,hag,hM,hF=>by
    obtain ⟨hj,he⟩:=hag _ ha.1
    have hLj:L[jx fs n]?=some (L[jx fs n]'hj):=List.getElem?_eq_getElem hj
    have hMj:M[jx fs n]?=some (L[jx fs n]'hj):=by rw [← he]; exact hLj
    have ag:∀ g:D→Bool,∀ j,P j→j < (filtAt L (jx fs n) g).length∧(filtAt L (jx fs n) g)[j]?=(filtAt M (jx fs n) g)[j]?:=fun g j hp=>by
      rw [filtAt_len]
      refine ⟨(hag j hp).1,?_⟩
      rw [filtAt_at,filtAt_at,(hag j hp).2]
    have nil:∀ g:D→Bool,anyNil (filtAt L (jx fs n) g)=false→anyNil (filtAt M (jx fs n) g)=false:=fun g hg=>by
      rw [anyNil_filt hM hMj]
      rw [anyNil_filt hF.1 hLj] at hg
      exact hg
    exact ⟨hM,full_agree ha.2.1 (ag _) (nil _ hF.2.1.some) hF.2.1,full_agree ha.2.2 (ag _) (nil _ hF.2.2.some) hF.2.2⟩
theorem leaf_keeps:∀ {t:Tr} {L:List (List D)} {r:List (List D) × Str},Asks fs P t→r ∈ leavesT fs t L→∀ j,¬ P j→r.1[j]?=L[j]?
  | .say a,L,r,_,hr,j,_=>by
    have hr':r ∈ (if anyNil L then [] else [(L,a)]):=hr
    split at hr'
    · simp at hr'
    · rw [List.mem_singleton.mp hr']
  | .ask k n v s y m,L,r,ha,hr,j,hj=>by
    have hr':r ∈ (if anyNil L then [] else leavesT fs y (filtAt L (jx fs n) (sideG fs k n v s))++leavesT fs m (filtAt L (jx fs n) fun x=>!sideG fs k n v s x)):=hr
    have ne:¬ j=jx fs n:=fun z=>hj (z ▸ ha.1)
    split at hr'
    · simp at hr'
    · rcases List.mem_append.mp hr' with hr' | hr'
      · rw [leaf_keeps ha.2.1 hr' j hj,filtAt_at,if_neg ne]
      · rw [leaf_keeps ha.2.2 hr' j hj,filtAt_at,if_neg ne]
theorem leaves_sumE (F:Form fs an):∀ (t:Tr) {L:List (List D)},TrOk fs an t→LetsOk fs L→((leavesT fs t L).map fun r=>(prodF r.1).length).sum=(prodF L).length
  | .say a,L,_,_=>by
    show ((if anyNil L then [] else [(L,a)]:List (List (List D) × Str)).map fun r=>(prodF r.1).length).sum=_
    cases hn:anyNil L with
    | true=>rw [(prod_nil L).mpr hn]; rfl
    | false=>show (prodF L).length + 0=_; omega
  | .ask k n v s y m,L,ht,hL=>by
    obtain ⟨f,hf,_⟩:=jx_get F ht.1
    have hj:jx fs n < L.length:=by rw [hL.1]; exact (List.getElem?_eq_some_iff.mp hf).1
    have h1:=leaves_sumE F y ht.2.2.1 (hL.filt (jx fs n) (sideG fs k n v s))
    have h2:=leaves_sumE F m ht.2.2.2 (hL.filt (jx fs n) fun x=>!sideG fs k n v s x)
    have h3:=prod_two hj (sideG fs k n v s)
    show ((if anyNil L then [] else leavesT fs y (filtAt L (jx fs n) (sideG fs k n v s))++leavesT fs m (filtAt L (jx fs n) fun x=>!sideG fs k n v s x)).map fun r=>(prodF r.1).length).sum=_
    cases hn:anyNil L with
    | true=>rw [(prod_nil L).mpr hn]; rfl
    | false=>rw [if_neg (by decide),List.map_append,List.sum_append]; omega
theorem pairs_sumE (F:Form fs an) {one other:Tr} (h1:TrOk fs an one) (h2:TrOk fs an other) {L:List (List D)} (hL:LetsOk fs L):((pairsT fs one other L).map fun p=>(prodF p.1).length).sum=(prodF L).length:=by
  rw [← leaves_sumE F one h1 hL]
  unfold pairsT
  have hok:=fun r hr=>(leaves_ok one hL r hr).1
  generalize leavesT fs one L=rs at hok
  induction rs with
  | nil=>rfl
  | cons r rs ih =>
    rw [List.flatMap_cons,List.map_append,List.sum_append,List.map_cons,List.sum_cons,ih fun x hx=>hok x (List.mem_cons_of_mem _ hx),List.map_map]
    congr 1
    exact leaves_sumE F other h2 (hok r (List.mem_cons_self ..))
theorem leaf_self (F:Form fs an):∀ (t:Tr) {L:List (List D)} {r:List (List D) × Str},TrOk fs an t→LetsOk fs L→r ∈ leavesT fs t L→leavesT fs t r.1=[r]
  | .say a,L,r,_,_,hr=>by
    have hr':r ∈ (if anyNil L then [] else [(L,a)]):=hr
    cases hn:anyNil L with
    | true=>rw [hn,if_pos rfl] at hr'; simp at hr'
    | false =>
      rw [hn,if_neg (by decide)] at hr'
      rw [List.mem_singleton.mp hr']
      show (if anyNil L then [] else [(L,a)])=_
      rw [hn]; rfl
  | .ask k n v s y m,L,r,ht,hL,hr=>by
    have hr':r ∈ (if anyNil L then [] else leavesT fs y (filtAt L (jx fs n) (sideG fs k n v s))++leavesT fs m (filtAt L (jx fs n) fun x=>!sideG fs k n v s x)):=hr
    obtain ⟨a1,a2,a3⟩:=leaves_ok (.ask k n v s y m) hL r hr
    obtain ⟨f,hf,_⟩:=jx_get F ht.1
    have hj:jx fs n < r.1.length:=by rw [a1.1]; exact (List.getElem?_eq_some_iff.mp hf).1
    have he:r.1[jx fs n]?=some (r.1[jx fs n]'hj):=List.getElem?_eq_getElem hj
    show (if anyNil r.1 then [] else leavesT fs y (filtAt r.1 (jx fs n) (sideG fs k n v s))++leavesT fs m (filtAt r.1 (jx fs n) fun x=>!sideG fs k n v s x))=_
    rw [a2,if_neg (by decide)]
    have all:∀ (t':Tr) (g:D→Bool),r ∈ leavesT fs t' (filtAt L (jx fs n) g)→∀ x ∈ r.1[jx fs n]'hj,g x=true:=fun t' g hr x hx=>by
      obtain ⟨c,hc,hcx⟩:=prod_get a2 _ _ x he hx
      have:=(leaves_ok t' (hL.filt (jx fs n) g) r hr).2.2 c ((mem_prod _ c).mp hc)
      rw [InL_filt,Bool.and_eq_true,atB_get hcx] at this
      exact this.2
    split at hr'
    · simp at hr'
    · rcases List.mem_append.mp hr' with hr' | hr'
      · have hg:=all y _ hr'
        rw [filtAt_all he hg,leaves_nil (filtAt_none he fun x hx=>by rw [hg x hx]; rfl),List.append_nil]
        exact leaf_self F y ht.2.2.1 (hL.filt _ _) hr'
      · have hg:=all m _ hr'
        rw [filtAt_all (g:=fun x=>!sideG fs k n v s x) he hg,leaves_nil (filtAt_none he fun x hx=>by simpa using hg x hx),List.nil_append]
        exact leaf_self F m ht.2.2.2 (hL.filt _ _) hr'
end
def Turned (an:List Str):Tr→Tr→Prop
  | .say a,.say b=>a ≠ b∧b ∈ an
  | .ask k n v s y m,.ask k' n' v' s' y' m'=>(k=k'∧n=n'∧v=v'∧s=s')∧((Turned an y y'∧m=m') ∨ (y=y'∧Turned an m m'))
  | _,_=>False
section
variable {fs:List (Str × List Str)} {an:List Str}
theorem Turned.ok:∀ {t u:Tr},Turned an t u→TrOk fs an t→TrOk fs an u∧u.dep=t.dep∧∀ M,(leavesT fs u M).length=(leavesT fs t M).length
  | .say a,.say b,h,_=>⟨h.2,rfl,fun M=>by
      show (if anyNil M then [] else [(M,b)]:List (List (List D) × Str)).length=(if anyNil M then [] else [(M,a)]:List (List (List D) × Str)).length
      split <;> rfl⟩
  | .say _,.ask _ _ _ _ _ _,h,_=>h.elim
  | .ask _ _ _ _ _ _,.say _,h,_=>h.elim
  | .ask k n v s y m,.ask k' n' v' s' y' m',⟨⟨e1,e2,e3,e4⟩,h⟩,ht=>by
    subst e1 e2 e3 e4
    have len:∀ {y' m':Tr},(∀ M,(leavesT fs y' M).length=(leavesT fs y M).length)→(∀ M,(leavesT fs m' M).length=(leavesT fs m M).length)→∀ M,(leavesT fs (.ask k n v s y' m') M).length=(leavesT fs (.ask k n v s y m) M).length:=fun {y' m'} h1 h2 M=>by
      show (if anyNil M then [] else leavesT fs y' _++leavesT fs m' _).length=(if anyNil M then [] else leavesT fs y _++leavesT fs m _).length
      split
      · rfl
      · rw [List.length_append,List.length_append,h1,h2]
    rcases h with ⟨h,rfl⟩ | ⟨rfl,h⟩
    · obtain ⟨i1,i2,i3⟩:=Turned.ok h ht.2.2.1
      exact ⟨⟨ht.1,ht.2.1,i1,ht.2.2.2⟩,by show max _ _ + 1=max _ _ + 1; rw [i2],len i3 fun _=>rfl⟩
    · obtain ⟨i1,i2,i3⟩:=Turned.ok h ht.2.2.2
      exact ⟨⟨ht.1,ht.2.1,ht.2.2.1,i1⟩,by show max _ _ + 1=max _ _ + 1; rw [i2],len (fun _=>rfl) i3⟩
theorem Turned.unlike (F:Form fs an):∀ {t u:Tr} {L:List (List D)},Turned an t u→TrOk fs an t→LetsOk fs L→Full fs t L→∃ c,InL L c=true∧ansL fs t c ≠ ansL fs u c
  | .say a,.say b,L,h,_,_,hF=>⟨firstC L,first_in hF,h.1⟩
  | .say _,.ask _ _ _ _ _ _,_,h,_,_,_=>h.elim
  | .ask _ _ _ _ _ _,.say _,_,h,_,_,_=>h.elim
  | .ask k n v s y m,.ask k' n' v' s' y' m',L,⟨⟨e1,e2,e3,e4⟩,h⟩,ht,hL,hF=>by
    subst e1 e2 e3 e4
    obtain ⟨f,hf,_⟩:=jx_get F ht.1
    have hj:∀ {c:List D},InL L c=true→jx fs n < c.length:=fun {c} h=>by rw [(InL_get h).1,hL.1]; exact (List.getElem?_eq_some_iff.mp hf).1
    rcases h with ⟨h,rfl⟩ | ⟨rfl,h⟩
    · obtain ⟨c,c1,c2⟩:=Turned.unlike F h ht.2.2.1 (hL.filt (jx fs n) (sideG fs k n v s)) hF.2.1
      rw [InL_filt,Bool.and_eq_true] at c1
      refine ⟨c,c1.1,?_⟩
      show (if atB c (jx fs n) (sideG fs k n v s) then ansL fs y c else _) ≠ (if atB c (jx fs n) (sideG fs k n v s) then ansL fs y' c else _)
      rw [c1.2,if_pos rfl,if_pos rfl]; exact c2
    · obtain ⟨c,c1,c2⟩:=Turned.unlike F h ht.2.2.2 (hL.filt (jx fs n) fun x=>!sideG fs k n v s x) hF.2.2
      rw [InL_filt,Bool.and_eq_true] at c1
      rw [atB_not (hj c1.1)] at c1
      have:atB c (jx fs n) (sideG fs k n v s)=false:=by simpa using c1.2
      refine ⟨c,c1.1,?_⟩
      show (if atB c (jx fs n) (sideG fs k n v s) then _ else ansL fs m c) ≠ (if atB c (jx fs n) (sideG fs k n v s) then _ else ansL fs m' c)
      rw [this,if_neg (by decide),if_neg (by decide)]; exact c2
def withBare (b:Tr):Tr→Tr
  | .say a=>.say a
  | .ask k n v s y m=>.ask k n v s (.ask k n v s y b) m
theorem bare_leaves (F:Form fs an) {b:Tr}:∀ {t:Tr} {L:List (List D)},TrOk fs an t→LetsOk fs L→leavesT fs (withBare b t) L=leavesT fs t L
  | .say _,_,_,_=>rfl
  | .ask k n v s y m,L,ht,hL=>by
    obtain ⟨f,hf,_⟩:=jx_get F ht.1
    have hLy:=hL.filt (jx fs n) (sideG fs k n v s)
    have hj:jx fs n < (filtAt L (jx fs n) (sideG fs k n v s)).length:=by rw [hLy.1]; exact (List.getElem?_eq_some_iff.mp hf).1
    have he:(filtAt L (jx fs n) (sideG fs k n v s))[jx fs n]?=some ((filtAt L (jx fs n) (sideG fs k n v s))[jx fs n]'hj):=List.getElem?_eq_getElem hj
    have hg:∀ x ∈ (filtAt L (jx fs n) (sideG fs k n v s))[jx fs n]'hj,sideG fs k n v s x=true:=fun x hx=>by
      have he':=he
      rw [filtAt_at,if_pos rfl] at he'
      obtain ⟨e0,_,h0⟩:=Option.map_eq_some_iff.mp he'
      rw [← h0] at hx
      exact (List.mem_filter.mp hx).2
    have e:leavesT fs (.ask k n v s y b) (filtAt L (jx fs n) (sideG fs k n v s))=leavesT fs y (filtAt L (jx fs n) (sideG fs k n v s)):=by
      show (if anyNil (filtAt L (jx fs n) (sideG fs k n v s)) then [] else leavesT fs y (filtAt (filtAt L (jx fs n) (sideG fs k n v s)) (jx fs n) (sideG fs k n v s))++leavesT fs b (filtAt (filtAt L (jx fs n) (sideG fs k n v s)) (jx fs n) fun x=>!sideG fs k n v s x))=_
      split
      · rename_i hn; exact (leaves_nil hn).symm
      · rw [filtAt_all he hg,leaves_nil (filtAt_none he fun x hx=>by rw [hg x hx]; rfl),List.append_nil]
    show (if anyNil L then [] else leavesT fs (.ask k n v s y b) (filtAt L (jx fs n) (sideG fs k n v s))++_)=(if anyNil L then [] else leavesT fs y (filtAt L (jx fs n) (sideG fs k n v s))++_)
    rw [e]
theorem bare_ans {b:Tr} (t:Tr) (c:List D):ansL fs (withBare b t) c=ansL fs t c:=by
  cases t with
  | say _=>rfl
  | ask k n v s y m =>
    show (if atB c (jx fs n) (sideG fs k n v s) then (if atB c (jx fs n) (sideG fs k n v s) then ansL fs y c else ansL fs b c) else ansL fs m c)=(if atB c (jx fs n) (sideG fs k n v s) then ansL fs y c else ansL fs m c)
    split
    · rfl
    · rfl
theorem bare_ok {b t:Tr} (hb:TrOk fs an b) (ht:TrOk fs an t):TrOk fs an (withBare b t)∧(withBare b t).dep≤max t.dep (b.dep + 1) + 1:=by
  cases t with
  | say _=>exact ⟨ht,Nat.zero_le _⟩
  | ask k n v s y m =>
    refine ⟨⟨ht.1,ht.2.1,⟨ht.1,ht.2.1,ht.2.2.1,hb⟩,ht.2.2.2⟩,?_⟩
    show max (max y.dep b.dep + 1) m.dep + 1≤max (max y.dep m.dep + 1) (b.dep + 1) + 1
    omega
end
def wid (L:List (List D)):Nat:=(L.map fun e=>e.length - 1).sum
theorem wid_set {e e':List D}:∀ {L:List (List D)} {j:Nat},L[j]?=some e→1≤e'.length→e'.length < e.length→wid (L.set j e') < wid L
  | [],_,h,_,_=>by simp at h
  | e0::L,0,h,h1,h2=>by
    simp only [List.getElem?_cons_zero,Option.some.injEq] at h
    subst h
    show e'.length - 1 + wid L < e0.length - 1 + wid L
    omega
  | e0::L,j + 1,h,h1,h2=>by
    simp only [List.getElem?_cons_succ] at h
    have:=wid_set h h1 h2
    show e0.length - 1 + wid (L.set j e') < e0.length - 1 + wid L
    omega
theorem prodF_cons (e:List D) (L:List (List D)):(prodF (e::L)).length=e.length * (prodF L).length:=by
  show (e.flatMap fun x=>(prodF L).map (x::·)).length=_
  induction e with
  | nil=>simp
  | cons x e ih=>rw [List.flatMap_cons,List.length_append,ih,List.length_map,List.length_cons,Nat.add_mul]; omega
theorem prodF_fold:∀ (L:List (List D)) (a:Nat),L.foldl (fun a e=>a * e.length) a=a * (prodF L).length
  | [],a=>by show a=a * 1; omega
  | e::L,a=>by rw [List.foldl_cons,prodF_fold L,prodF_cons,Nat.mul_assoc]
structure PartOk (fs:List (Str × List Str)) (an:List Str) (L:List (List D)) (n:Nat) (t:Tr):Prop where
  ok:TrOk fs an t
  asks:Asks fs (fun j=>∃ e,L[j]?=some e∧2≤e.length) t
  full:Full fs t L
  cnt:(answersT t).length=n
  dep:t.dep≤wid L
theorem ones_prod:∀ {L:List (List D)},(∀ e ∈ L,e.length≤1)→(prodF L).length≤1
  | [],_=>Nat.le_refl _
  | e::L,h=>by
    rw [prodF_cons]
    have h1:=h e (List.mem_cons_self ..)
    have h2:=ones_prod fun x hx=>h x (List.mem_cons_of_mem _ hx)
    exact Nat.mul_le_mul h1 h2
def someD (v s:Str):List D:=if s="yes" then [.str v,.none] else [.str v]
theorem filter_only {a:D}:∀ {l:List D},l.Nodup→a ∈ l→l.filter (fun x=>decide (x=a))=[a]
  | [],_,h=>by cases h
  | b::l,hn,h=>by
    rw [List.nodup_cons] at hn
    rw [List.filter_cons]
    by_cases e:b=a
    · subst e
      rw [if_pos (decide_eq_true rfl),List.filter_eq_nil_iff.mpr fun x hx z=>hn.1 (by rw [← of_decide_eq_true z]; exact hx)]
    · rw [if_neg (by simpa using e)]
      exact filter_only hn.2 ((List.mem_cons.mp h).resolve_left fun z=>e z.symm)
section
variable {fs:List (Str × List Str)} {an:List Str}
theorem yes_no:¬ ("no":Str)="yes":=by decide +kernel
theorem side_some {n v s:Str} {f:Str × List Str} (hf:fs[jx fs n]?=some f) (hs:s="yes" ∨ s="no") {x:D} (hx:x ∈ entD f):sideG fs "is" n v s x=decide (x ∈ someD v s):=by
  unfold sideG
  rw [hf]
  rcases List.mem_append.mp hx with hx | hx
  · obtain ⟨z,_,rfl⟩:=List.mem_map.mp hx
    show decide ((if ("is":Str)="is" then (if z=v then ("yes":Str) else "no") else (if f.2.idxOf z≤f.2.idxOf v then "yes" else "no"))="yes")=_
    rw [if_pos rfl]
    unfold someD
    by_cases e:z=v
    · subst e
      rw [if_pos rfl,decide_eq_true rfl,decide_eq_true]
      split <;> exact List.mem_cons_self ..
    · rw [if_neg e,decide_eq_false yes_no,decide_eq_false]
      intro h
      split at h
      · rcases List.mem_cons.mp h with h | h
        · exact e (by injection h)
        · have:=List.mem_singleton.mp h; cases this
      · exact e (by have:=List.mem_singleton.mp h; injection this)
  · rw [List.mem_singleton.mp hx]
    show decide (s="yes")=_
    unfold someD
    rcases hs with rfl | rfl
    · rw [if_pos rfl,decide_eq_true rfl,decide_eq_true (List.mem_cons_of_mem _ (List.mem_singleton.mpr rfl))]
    · rw [if_neg yes_no,decide_eq_false yes_no,decide_eq_false fun h=>by have:=List.mem_singleton.mp h; cases this]
theorem filt_some (F:Form fs an) {f:Str × List Str} (hf:f ∈ fs) {e:List D} {p:D→Bool} (he:e=(entD f).filter p) {v s:Str} (hv:PyData.str v ∈ e) (hs:s="yes"→PyData.none ∈ e):e.filter (fun x=>decide (x ∈ someD v s))=someD v s:=by
  have hnd:e.Nodup:=by rw [he]; exact (entD_nd F hf).sublist List.filter_sublist
  have hsplit:e=(f.2.map PyData.str).filter p++[PyData.none].filter p:=by rw [he]; unfold entD; rw [List.filter_append]
  have noN:∀ x ∈ (f.2.map PyData.str).filter p,x ≠ .none:=fun x hx=>by
    obtain ⟨z,_,rfl⟩:=List.mem_map.mp (List.mem_filter.mp hx).1
    exact fun z=>nomatch z
  unfold someD
  by_cases h:s="yes"
  · rw [if_pos h]
    have hN:=hs h
    have hp:p .none=true:=by rw [he] at hN; exact (List.mem_filter.mp hN).2
    have hB:[PyData.none].filter p=[.none]:=by rw [List.filter_cons,hp]; rfl
    rw [hB] at hsplit
    rw [hsplit,List.filter_append]
    have hvA:PyData.str v ∈ (f.2.map PyData.str).filter p:=by
      rw [hsplit] at hv
      rcases List.mem_append.mp hv with h | h
      · exact h
      · have:=List.mem_singleton.mp h; cases this
    have hndA:((f.2.map PyData.str).filter p).Nodup:=hnd.sublist (by rw [hsplit]; exact List.sublist_append_left ..)
    have e1:((f.2.map PyData.str).filter p).filter (fun x=>decide (x ∈ [PyData.str v,.none]))=[.str v]:=by
      rw [← filter_only hndA hvA]
      apply List.filter_congr
      intro x hx
      rw [Bool.eq_iff_iff,decide_eq_true_eq,decide_eq_true_eq]
      exact ⟨fun h=>(List.mem_cons.mp h).elim id fun h=>absurd (List.mem_singleton.mp h) (noN x hx),fun h=>by rw [h]; exact List.mem_cons_self ..⟩
    rw [e1,List.filter_cons,if_pos (decide_eq_true (List.mem_cons_of_mem _ (List.mem_singleton.mpr rfl)))]
    rfl
  · rw [if_neg h]
    refine Eq.trans (List.filter_congr fun x _=>?_) (filter_only hnd hv)
    rw [Bool.eq_iff_iff,decide_eq_true_eq,decide_eq_true_eq]
    exact ⟨fun h=>List.mem_singleton.mp h,fun h=>List.mem_singleton.mpr h⟩
theorem isQ_is {f:Str × List Str} (hf:f ∈ fs) {v:Str} (hv:v ∈ f.2):isQ fs (.tuple [.str "is",.str f.1,.str v])=true:=by
  show (fs.any fun g=>isN (.str f.1) g && qOk g (.str "is") (.str v))=true
  refine List.any_eq_true.mpr ⟨f,hf,?_⟩
  show (decide (f.1=f.1) && (decide (v ∈ f.2) && (decide (("is":Str)="is") || _)))=true
  rw [decide_eq_true rfl,decide_eq_true hv,decide_eq_true rfl]; rfl
theorem jx_at (F:Form fs an) {j:Nat} {f:Str × List Str} (hf:fs[j]?=some f):jx fs f.1=j:=name_at F hf
theorem part_ask (F:Form fs an) {L:List (List D)} (hL:LetsOk fs L) (hn:anyNil L=false) {j:Nat} {f:Str × List Str} {e:List D} (hf:fs[j]?=some f) (he:L[j]?=some e) {v s:Str} (hv:v ∈ f.2) (hve:PyData.str v ∈ e) (hs:s="yes" ∨ s="no") (hse:s="yes"→PyData.none ∈ e) (hr:e.filter (fun x=>!decide (x ∈ someD v s)) ≠ []) :
    filtAt L j (sideG fs "is" f.1 v s)=L.set j (someD v s)∧filtAt L j (fun x=>!sideG fs "is" f.1 v s x)=L.set j (e.filter fun x=>!decide (x ∈ someD v s))∧wid (L.set j (someD v s)) < wid L∧wid (L.set j (e.filter fun x=>!decide (x ∈ someD v s))) < wid L∧anyNil (L.set j (someD v s))=false∧anyNil (L.set j (e.filter fun x=>!decide (x ∈ someD v s)))=false ∧
    ∀ {n1 n2:Nat} {y m:Tr},PartOk fs an (L.set j (someD v s)) n1 y→PartOk fs an (L.set j (e.filter fun x=>!decide (x ∈ someD v s))) n2 m→PartOk fs an L (n1 + n2) (.ask "is" f.1 v s y m):=by
  have hfm:=List.mem_of_getElem? hf
  obtain ⟨p,hp⟩:=hL.2 j f e hf he
  have hj:=jx_at F hf
  have hf':fs[jx fs f.1]?=some f:=by rw [hj]; exact hf
  have hG:∀ x ∈ e,sideG fs "is" f.1 v s x=decide (x ∈ someD v s):=fun x hx=>side_some hf' hs (hL.sub hf he x hx)
  have e1:e.filter (sideG fs "is" f.1 v s)=someD v s:=Eq.trans (List.filter_congr fun x hx=>hG x hx) (filt_some F hfm hp hve hse)
  have e2:e.filter (fun x=>!sideG fs "is" f.1 v s x)=e.filter fun x=>!decide (x ∈ someD v s):=List.filter_congr fun x hx=>by rw [hG x hx]
  have f1:filtAt L j (sideG fs "is" f.1 v s)=L.set j (someD v s):=by rw [filtAt_set he,e1]
  have f2:filtAt L j (fun x=>!sideG fs "is" f.1 v s x)=L.set j (e.filter fun x=>!decide (x ∈ someD v s)):=by rw [filtAt_set he,e2]
  have l12:=filt_two (sideG fs "is" f.1 v s) e
  rw [e1,e2] at l12
  have ls:1≤(someD v s).length:=by unfold someD; split <;> exact Nat.succ_le_succ (Nat.zero_le _)
  have lr:1≤(e.filter fun x=>!decide (x ∈ someD v s)).length:=List.length_pos_iff.mpr hr
  have hjl:=(List.getElem?_eq_some_iff.mp he).1
  have w1:=wid_set he ls (by omega)
  have w2:=wid_set he lr (by omega)
  have n1:anyNil (L.set j (someD v s))=false:=by rw [← f1,anyNil_filt hn he,e1]; unfold someD; split <;> rfl
  have n2:anyNil (L.set j (e.filter fun x=>!decide (x ∈ someD v s)))=false:=by
    rw [← f2,anyNil_filt hn he,e2]
    cases hx:e.filter fun x=>!decide (x ∈ someD v s) with
    | nil=>exact absurd hx hr
    | cons _ _=>rfl
  refine ⟨f1,f2,w1,w2,n1,n2,fun {n1 n2 y m} hy hm=>⟨⟨isQ_is hfm hv,hs,hy.ok,hm.ok⟩,⟨⟨e,by rw [hj]; exact he,by omega⟩,hy.asks.mono ?_,hm.asks.mono ?_⟩,⟨hn,by rw [hj,f1]; exact hy.full,by rw [hj,f2]; exact hm.full⟩,?_,?_⟩⟩
  · rintro i ⟨d,h1,h2⟩
    by_cases hij:j=i
    · subst hij; exact ⟨e,he,by omega⟩
    · rw [List.getElem?_set_ne hij] at h1; exact ⟨d,h1,h2⟩
  · rintro i ⟨d,h1,h2⟩
    by_cases hij:j=i
    · subst hij; exact ⟨e,he,by omega⟩
    · rw [List.getElem?_set_ne hij] at h1; exact ⟨d,h1,h2⟩
  · show (answersT y++answersT m).length=_
    rw [List.length_append,hy.cnt,hm.cnt]
  · have h1:=hy.dep
    have h2:=hm.dep
    show max y.dep m.dep + 1≤_
    omega
end
noncomputable def sizesN (L:List (List D)):List Nat:=(List.range L.length).filter fun j=>match L[j]? with | some e=>decide (1 < e.length) | none=>false
def sp_17_lt (dd:Nat):SpT:=fun ds Q=>∃ (ns:List Int) (fs:List (Str × List Str)) (an:List Str) (L:List (List D)) (n:Nat),ds=[tapeD ns,frmD fs an,letsD L,.int (n:Int)]∧ns.length≤63∧Form fs an∧LetsOk fs L∧anyNil L=false∧1≤n∧n≤(prodF L).length∧wid L < dd∧∀ t,PartOk fs an L n t→Q (trD t)
def sp_17:SpT:=sp_17_lt 26
theorem never_17 {ds:List D} {Q:D→Prop} (h:sp_17_lt 0 ds Q):False:=by
  obtain ⟨_,_,_,_,_,_,_,_,_,_,_,_,h,_⟩:=h
  omega
theorem cd_int {i:Int}:Cd (.int i):=⟨rfl,Nat.zero_le _⟩
theorem cd_ints (l:List Nat):Cd (.list (l.map fun (j:Nat)=>PyData.int (j:Int))):=by
  have h:∀ l:List Nat,PyData.canLayAll0 (l.map fun (j:Nat)=>PyData.int (j:Int))=true∧PyData.depthAll (l.map fun (j:Nat)=>PyData.int (j:Int))=0:=fun l=>by
    induction l with
    | nil=>exact ⟨rfl,rfl⟩
    | cons a l ih =>
      refine ⟨?_,?_⟩
      · show (true && PyData.canLayAll0 (l.map fun (j:Nat)=>PyData.int (j:Int)))=true
        rw [ih.1]; rfl
      · show max 0 (PyData.depthAll (l.map fun (j:Nat)=>PyData.int (j:Int)))=0
        rw [ih.2]; rfl
  exact ⟨(h l).1,by show PyData.depthAll (l.map fun (j:Nat)=>PyData.int (j:Int)) + 1≤60; rw [(h l).2]; decide⟩
theorem sizes_mem {L:List (List D)} {j:Nat} (h:j ∈ sizesN L):∃ e,L[j]?=some e∧1 < e.length:=by
  have:=(List.mem_filter.mp h).2
  cases hx:L[j]? with
  | none=>rw [hx] at this; cases this
  | some e=>rw [hx] at this; exact ⟨e,rfl,of_decide_eq_true this⟩
theorem sizes_nil {L:List (List D)} (h:sizesN L=[]):∀ e ∈ L,e.length≤1:=fun e he=>by
  obtain ⟨j,hj⟩:=List.getElem?_of_mem he
  have hjl:=(List.getElem?_eq_some_iff.mp hj).1
  have:=List.filter_eq_nil_iff.mp h j (List.mem_range.mpr hjl)
  rw [hj] at this
  simpa using this
theorem part_say {fs:List (Str × List Str)} {an:List Str} {L:List (List D)} {a:Str} (ha:a ∈ an) (hn:anyNil L=false):PartOk fs an L 1 (.say a):=⟨ha,trivial,hn,rfl,Nat.zero_le _⟩
theorem set_mid {L:List (List D)} {j:Nat} {d:List D} (hj:j < L.length):(L.map PyData.tuple).take j++[.tuple d]++(L.map PyData.tuple).drop (j + 1)=(L.set j d).map PyData.tuple:=by
  rw [List.map_set,List.set_eq_take_append_cons_drop,if_pos (by rw [List.length_map]; exact hj),List.append_assoc]; rfl
theorem other_one {a:D}:∀ {l:List D},l.Nodup→2≤l.length→∃ x ∈ l,x ≠ a
  | [],_,h=>by cases h
  | [b],_,h=>by have:2≤1:=h; omega
  | b::c::l,hn,_=>by
    by_cases e:b=a
    · refine ⟨c,List.mem_cons_of_mem _ (List.mem_cons_self ..),fun z=>?_⟩
      rw [List.nodup_cons] at hn
      exact hn.1 (by rw [e,← z]; exact List.mem_cons_self ..)
    · exact ⟨b,List.mem_cons_self ..,e⟩
def sp_7_lt (dd:Nat):SpF:=fun ds Q=>∃ (fs:List (Str × List Str)) (an:List Str) (t:Tr) (L:List (List D)),ds=[frmD fs an,trD t,letsD L]∧Form fs an∧TrOk fs an t∧LetsOk fs L∧anyNil L=false∧t.dep < dd∧(prodF L).length≤7776∧Q ((leavesT fs t L).map ruleD)
def sp_7:SpF:=sp_7_lt 30
theorem never_7 {ds:List D} {Q:List D→Prop} (h:sp_7_lt 0 ds Q):False:=by
  obtain ⟨_,_,_,_,_,_,_,_,_,h,_⟩:=h
  omega
def sp_5:SpF:=fun ds Q=>∃ (fs:List (Str × List Str)) (an:List Str) (t:Tr),ds=[frmD fs an,trD t]∧Form fs an∧TrOk fs an t∧t.dep≤29∧(leavesT fs t (fs.map entD)).length≤60∧Q ((leavesT fs t (fs.map entD)).map ruleD)
def sp_10:SpT:=fun ds Q=>∃ (fs:List (Str × List Str)) (an:List Str) (one other:Tr),ds=[frmD fs an,trD one,trD other]∧Form fs an∧TrOk fs an one∧TrOk fs an other∧one.dep≤29∧other.dep≤29∧Q (.list ((pairsT fs one other (fs.map entD)).map pairD))
def unlikeD (c:List D):D:=.tuple [.str "unlike",.tuple c]
noncomputable def alikeD (fs:List (Str × List Str)) (one other:Tr):D:=.tuple [.str "alike",.list ((pairsT fs one other (fs.map entD)).map fun p=>letsD p.1)]
def sp_9:SpT:=fun ds Q=>∃ (fs:List (Str × List Str)) (an:List Str) (one other:Tr),ds=[frmD fs an,trD one,trD other]∧Form fs an∧TrOk fs an one∧TrOk fs an other∧one.dep≤29∧other.dep≤29∧(pairsT fs one other (fs.map entD)).length≤2000 ∧
  (∀ c,c ∈ prodF (fs.map entD)→ansL fs one c ≠ ansL fs other c→Q (unlikeD c)) ∧
  ((∀ c,c ∈ prodF (fs.map entD)→ansL fs one c=ansL fs other c)→Q (alikeD fs one other))
def sp_alikeX (A:Adr):SpT:=fun ds ED=>∃ (fs:List (Str × List Str)) (an:List Str) (one other:Tr),ds=[frmD fs an,trD one,trD other]∧Form fs an∧TrOk fs an one∧TrOk fs an other∧one.dep≤29∧other.dep≤29∧2000 < (pairsT fs one other (fs.map entD)).length∧ED (.dict [(.int (A.c_TooMany:Nat),.none)])
def manyD:D:=.tuple [.str "many",.none]
def sp_18:SpT:=fun ds Q=>∃ (fs:List (Str × List Str)) (an:List Str) (one other:Tr),ds=[frmD fs an,trD one,trD other]∧Form fs an∧TrOk fs an one∧TrOk fs an other∧one.dep≤29∧other.dep≤29 ∧
  (2000 < (pairsT fs one other (fs.map entD)).length→Q manyD) ∧
  ((pairsT fs one other (fs.map entD)).length≤2000→(∀ c,c ∈ prodF (fs.map entD)→ansL fs one c ≠ ansL fs other c→Q (unlikeD c))∧((∀ c,c ∈ prodF (fs.map entD)→ansL fs one c=ansL fs other c)→Q (alikeD fs one other)))
def sp_19_lt (dd:Nat):SpT:=fun ds Q=>∃ t:Tr,ds=[trD t]∧t.dep < dd∧(answersT t).length≤1000∧Q (.list ((answersT t).map PyData.str))
def sp_19:SpT:=sp_19_lt 30
theorem never_19 {ds:List D} {Q:D→Prop} (h:sp_19_lt 0 ds Q):False:=by
  obtain ⟨_,_,h,_⟩:=h
  omega
def sameT (a:Str):Tr→Tr
  | .say _=>.say a
  | .ask k n v s y m=>.ask k n v s (sameT a y) (sameT a m)
theorem same_dep (a:Str):∀ t:Tr,(sameT a t).dep=t.dep∧answersT (sameT a t)=(answersT t).map fun _=>a
  | .say _=>⟨rfl,rfl⟩
  | .ask k n v s y m=>by
    obtain ⟨h1,h2⟩:=same_dep a y
    obtain ⟨h3,h4⟩:=same_dep a m
    refine ⟨by show max _ _ + 1=max _ _ + 1; rw [h1,h3],?_⟩
    show answersT (sameT a y)++answersT (sameT a m)=(answersT y++answersT m).map _
    rw [h2,h4,List.map_append]
theorem same_full {fs:List (Str × List Str)} {an:List Str} {P:Nat→Prop} {a:Str} (ha:a ∈ an):∀ {t:Tr} {L:List (List D)},(TrOk fs an t→TrOk fs an (sameT a t))∧(Asks fs P t→Asks fs P (sameT a t))∧(Full fs t L→Full fs (sameT a t) L)
  | .say _,_=>⟨fun _=>ha,fun h=>h,fun h=>h⟩
  | .ask k n v s y m,L=>by
    obtain ⟨a1,a2,a3⟩:=same_full ha (t:=y) (L:=filtAt L (jx fs n) (sideG fs k n v s)) (P:=P)
    obtain ⟨b1,b2,b3⟩:=same_full ha (t:=m) (L:=filtAt L (jx fs n) fun x=>!sideG fs k n v s x) (P:=P)
    exact ⟨fun h=>⟨h.1,h.2.1,a1 h.2.2.1,b1 h.2.2.2⟩,fun h=>⟨h.1,a2 h.2.1,b2 h.2.2⟩,fun h=>⟨h.1,a3 h.2.1,b3 h.2.2⟩⟩
theorem PartOk.same {fs:List (Str × List Str)} {an:List Str} {L:List (List D)} {n:Nat} {t:Tr} {a:Str} (h:PartOk fs an L n t) (ha:a ∈ an):PartOk fs an L n (sameT a t):=by
  obtain ⟨s1,s2,s3⟩:=same_full (fs:=fs) ha (t:=t) (L:=L) (P:=fun j=>∃ e,L[j]?=some e∧2≤e.length)
  obtain ⟨d1,d2⟩:=same_dep a t
  exact ⟨s1 h.ok,s2 h.asks,s3 h.full,by rw [d2,List.length_map]; exact h.cnt,by rw [d1]; exact h.dep⟩
def sp_20_lt (dd:Nat):SpT:=fun ds Q=>∃ (t:Tr) (a:Str),ds=[trD t,.str a]∧t.dep < dd∧Q (trD (sameT a t))
def sp_20:SpT:=sp_20_lt 30
theorem never_20 {ds:List D} {Q:D→Prop} (h:sp_20_lt 0 ds Q):False:=by
  obtain ⟨_,_,_,h,_⟩:=h
  omega
structure Five (fs:List (Str × List Str)) (an:List Str):Prop where
  form:Form fs an
  n:fs.length=5
  v:∀ f ∈ fs,f.2.length=5
  a:an.length=2
def sp_21:SpT:=fun ds Q=>∃ (ns:List Int) (fs:List (Str × List Str)) (an:List Str) (L:List (List D)) (n:Nat) (b:Bool),ds=[tapeD ns,frmD fs an,letsD L,.int (n:Int),.bool b]∧ns.length≤63∧Form fs an∧LetsOk fs L∧anyNil L=false∧1≤n∧n≤(prodF L).length∧wid L≤25∧∀ t,PartOk fs an L n t→Q (trD t)
def sp_22_lt (dd:Nat):SpT:=fun ds Q=>∃ (ns:List Int) (fs:List (Str × List Str)) (an:List Str) (t:Tr),ds=[tapeD ns,frmD fs an,trD t]∧ns.length≤63∧Form fs an∧an.length=2∧TrOk fs an t∧t.dep < dd∧∀ u,Turned an t u→Q (trD u)
def sp_22:SpT:=sp_22_lt 30
theorem never_22 {ds:List D} {Q:D→Prop} (h:sp_22_lt 0 ds Q):False:=by
  obtain ⟨_,_,_,_,_,_,_,_,_,h,_⟩:=h
  omega
theorem wid_le {fs:List (Str × List Str)} {an:List Str} (F:Form fs an) {L:List (List D)} (hL:LetsOk fs L):wid L≤25:=by
  have six:∀ e ∈ L,e.length≤6:=fun e he=>by
    obtain ⟨i,hi⟩:=List.getElem?_of_mem he
    have hil:i < fs.length:=by rw [← hL.1]; exact (List.getElem?_eq_some_iff.mp hi).1
    obtain ⟨p,rfl⟩:=hL.2 i _ e (List.getElem?_eq_getElem hil) hi
    have h1:=List.length_filter_le p (entD fs[i])
    have h2:=entD_len fs[i]
    have h3:=(F.vs _ (List.getElem_mem hil)).2.1
    omega
  have h:∀ M:List (List D),(∀ e ∈ M,e.length≤6)→wid M≤5 * M.length:=fun M=>by
    induction M with
    | nil=>exact fun _=>Nat.le_refl _
    | cons e M ih =>
      intro hm
      have h1:=hm e (List.mem_cons_self ..)
      have h2:=ih fun x hx=>hm x (List.mem_cons_of_mem _ hx)
      show e.length - 1 + wid M≤5 * (M.length + 1)
      omega
  have h1:=h L six
  have h2:=F.n5
  have h3:=hL.1
  omega
theorem five_prod {fs:List (Str × List Str)} {an:List Str} (h:Five fs an):(prodF (fs.map entD)).length=7776:=by
  have hl:∀ M:List (Str × List Str),(∀ f ∈ M,f.2.length=5)→(prodF (M.map entD)).length=6 ^ M.length:=fun M=>by
    induction M with
    | nil=>exact fun _=>rfl
    | cons f M ih =>
      intro hm
      rw [List.map_cons,prodF_cons,ih fun x hx=>hm x (List.mem_cons_of_mem _ hx),List.length_cons,Nat.pow_succ,Nat.mul_comm]
      congr 1
      rw [entD_len,hm f (List.mem_cons_self ..)]
  rw [hl fs h.v,h.n]
def sp_23:SpT:=fun ds Q=>∃ (ns:List Int) (fs:List (Str × List Str)) (an:List Str) (k n v s:Str) (y m:Tr),ds=[tapeD ns,frmD fs an,trD (.ask k n v s y m)]∧ns.length≤63∧Five fs an∧∀ b,TrOk fs an b→b.dep≤25→Q (trD (withBare b (.ask k n v s y m)))
def lastD (x:D):D:=match x with | .tuple l=>l.getLastD .none | _=>.none
def lastC (L:List (List D)):List D:=(L.map PyData.tuple).map lastD
theorem last_in:∀ {L:List (List D)},anyNil L=false→InL L (lastC L)=true
  | [],_=>rfl
  | e::L,h=>by
    have h':(e.isEmpty || anyNil L)=false:=h
    rw [Bool.or_eq_false_iff] at h'
    have hne:e ≠ []:=fun z=>by rw [z] at h'; cases h'.1
    show (decide (e.getLastD .none ∈ e) && InL L (lastC L))=true
    rw [last_in h'.2,decide_eq_true]
    · rfl
    · rw [List.getLastD_eq_getLast?,List.getLast?_eq_getLast hne]
      exact List.getLast_mem hne
theorem at_last {e:List D} (h:e ≠ []):L2.atI e (-1)=some (e.getLastD .none):=by
  have hl:0 < e.length:=List.length_pos_iff.mpr h
  have hx:L2.ixN e.length (-1)=some (e.length - 1):=by
    unfold L2.ixN
    rw [if_neg (by decide),if_pos (by omega)]
    congr 1
    omega
  unfold L2.atI
  rw [hx]
  show e[e.length - 1]?=_
  rw [← List.getLast?_eq_getElem?,List.getLast?_eq_getLast h]
  congr 1
  rw [List.getLastD_eq_getLast?,List.getLast?_eq_getLast h]; rfl
def PiecesOk (fs:List (Str × List Str)) (one other:Tr) (Ls:List (List (List D))):Prop:=(∀ L ∈ Ls,LetsOk fs L∧anyNil L=false∧∀ c c',InL L c=true→InL L c'=true→wyD fs one c=wyD fs one c'∧wyD fs other c=wyD fs other c')∧(Ls.map fun L=>(prodF L).length).sum=7776
def sp_24:SpT:=fun ds Q=>∃ (fs:List (Str × List Str)) (an:List Str) (one other:Tr) (Ls:List (List (List D))),ds=[frmD fs an,trD one,trD other,.list (Ls.map letsD)]∧Five fs an∧TrOk fs an one∧TrOk fs an other∧one.dep≤29∧other.dep≤29∧PiecesOk fs one other Ls∧Q (.bool true)
def sp_25:SpT:=fun ds Q=>∃ (fs:List (Str × List Str)) (an:List Str) (one other:Tr) (c:List D),ds=[frmD fs an,trD one,trD other,unlikeD c]∧Five fs an∧TrOk fs an one∧TrOk fs an other∧one.dep≤29∧other.dep≤29∧c ∈ prodF (fs.map entD)∧ansL fs one c ≠ ansL fs other c∧Q (.bool true)
def sp_26:SpT:=fun ds Q=>∃ (fs:List (Str × List Str)) (an:List Str) (t one:Tr),ds=[frmD fs an,trD t,trD one]∧Five fs an∧TrOk fs an t∧TrOk fs an one∧t.dep≤29∧one.dep≤29∧Full fs t (fs.map entD)∧(answersT t).length≤60∧leavesT fs one (fs.map entD)=leavesT fs t (fs.map entD)∧Q (.bool true)
theorem wy_th {fs:List (Str × List Str)} {an:List Str} (F:Form fs an) {c:List D} (hc:isCase fs (.tuple c)=true) {t:Tr} (h:TrOk fs an t) (hd:t.dep≤29):Cd (wyD fs t c):=(way_th F hc h (by omega)).cd (by decide)
theorem leaf_pieces {fs:List (Str × List Str)} {an:List Str} (V:Five fs an) {t:Tr} (ht:TrOk fs an t):PiecesOk fs t t ((leavesT fs t (fs.map entD)).map (·.1)):=by
  refine ⟨fun L hL=>?_,?_⟩
  · obtain ⟨r,hr,rfl⟩:=List.mem_map.mp hL
    obtain ⟨a1,a2,_⟩:=leaves_ok t (LetsOk.whole fs) r hr
    refine ⟨a1,a2,fun c c' hc hc'=>?_⟩
    obtain ⟨e1,e2⟩:=leaf_way V.form t ht (LetsOk.whole fs) hr hc hc'
    obtain ⟨_,e4⟩:=leaf_way V.form t ht (LetsOk.whole fs) hr hc' hc
    have:wyD fs t c=wyD fs t c':=by unfold wyD; rw [e1,e2,e4]
    exact ⟨this,this⟩
  · rw [List.map_map,← five_prod V]
    exact leaves_sumE V.form t ht (LetsOk.whole fs)
theorem pair_pieces {fs:List (Str × List Str)} {an:List Str} (V:Five fs an) {one other:Tr} (h1:TrOk fs an one) (h2:TrOk fs an other):PiecesOk fs one other ((pairsT fs one other (fs.map entD)).map (·.1)):=by
  refine ⟨fun L hL=>?_,?_⟩
  · obtain ⟨p,hp,rfl⟩:=List.mem_map.mp hL
    obtain ⟨k1,k2,k3⟩:=pairs_ok V.form h1 h2 (LetsOk.whole fs) hp
    refine ⟨k1,k2,fun c c' hc hc'=>?_⟩
    obtain ⟨e1,e2,e3,e4,_⟩:=k3 hc hc'
    obtain ⟨_,_,e5,e6,_⟩:=k3 hc' hc
    exact ⟨by unfold wyD; rw [e1,e3,e5],by unfold wyD; rw [e2,e4,e6]⟩
  · rw [List.map_map,← five_prod V]
    exact pairs_sumE V.form h1 h2 (LetsOk.whole fs)
theorem ans_in {fs:List (Str × List Str)} {an:List Str}:∀ {t:Tr},TrOk fs an t→∀ a ∈ answersT t,a ∈ an
  | .say b,h,a,ha=>by rw [List.mem_singleton.mp ha]; exact h
  | .ask k n v s y m,h,a,ha=>by
    rcases List.mem_append.mp ha with ha | ha
    · exact ans_in h.2.2.1 a ha
    · exact ans_in h.2.2.2 a ha
theorem cd_names {fs:List (Str × List Str)} {an:List Str} (F:Form fs an) {ys:List Str} (h:∀ y ∈ ys,y ∈ an):Cd (.list (ys.map PyData.str)):=by
  obtain ⟨_,_,_,_,b5,b6⟩:=th_all (n:=8) (m:=0) fun t ht=>by
    obtain ⟨y,hy,rfl⟩:=List.mem_map.mp ht
    exact th_name (F.an.2.1 y (h y hy)) (Nat.le_refl 8)
  exact ⟨b6,by show _ + 1≤60; omega⟩
def barD:List D:=[PyData.none]
section
variable {fs:List (Str × List Str)} {an:List Str}
theorem five_list (V:Five fs an):∃ f0 f1 f2 f3 f4,fs=[f0,f1,f2,f3,f4]:=by
  have h:=V.n
  match fs,h with
  | [f0,f1,f2,f3,f4],_=>exact ⟨f0,f1,f2,f3,f4,rfl⟩
theorem bar_is (f:Str × List Str):∃ p:D→Bool,barD=(entD f).filter p:=⟨fun x=>decide (x=.none),by
  unfold entD barD
  rw [List.filter_append,List.filter_eq_nil_iff.mpr fun x hx=>?_]
  · rw [List.nil_append,List.filter_cons,if_pos (decide_eq_true rfl)]; rfl
  · obtain ⟨z,_,rfl⟩:=List.mem_map.mp hx
    simp⟩
def letsA (fs:List (Str × List Str)):List (List D):=(fs.map entD).take 3++[barD,barD]
def letsB (fs:List (Str × List Str)):List (List D):=[barD,barD,barD]++(fs.map entD).drop 3
theorem ent6 (V:Five fs an) {f:Str × List Str} (hf:f ∈ fs):(entD f).length=6:=by rw [entD_len,V.v f hf]
theorem lets_of {L:List (List D)} (hl:L.length=fs.length) (h:∀ (j:Nat) f e,fs[j]?=some f→L[j]?=some e→e=entD f ∨ e=barD):LetsOk fs L:=⟨hl,fun j f e hf he=>by
  rcases h j f e hf he with rfl | rfl
  · exact ⟨fun _=>true,(List.filter_eq_self.mpr fun _ _=>rfl).symm⟩
  · exact bar_is f⟩
theorem A_ok (V:Five fs an):LetsOk fs (letsA fs)∧anyNil (letsA fs)=false∧(prodF (letsA fs)).length=216∧(∀ j,(∃ e,(letsA fs)[j]?=some e∧2≤e.length)→j < 3)∧∀ j,j < 3→j < (letsA fs).length∧(letsA fs)[j]?=(fs.map entD)[j]?:=by
  have h6:=@ent6 fs an V
  obtain ⟨f0,f1,f2,f3,f4,rfl⟩:=five_list V
  have e0:=h6 (f:=f0) (by simp)
  have e1:=h6 (f:=f1) (by simp)
  have e2:=h6 (f:=f2) (by simp)
  refine ⟨lets_of rfl fun j f e hf he=>?_,?_,?_,?_,?_⟩
  · rcases j with _ | _ | _ | _ | _ | j
    · left; cases hf; cases he; rfl
    · left; cases hf; cases he; rfl
    · left; cases hf; cases he; rfl
    · right; cases he; rfl
    · right; cases he; rfl
    · simp at hf
  · show ((entD f0).isEmpty || ((entD f1).isEmpty || ((entD f2).isEmpty || (false || (false || false)))))=false
    have ne:∀ {l:List D},l.length=6→l.isEmpty=false:=fun {l} h=>by cases l with | nil=>cases h | cons _ _=>rfl
    rw [ne e0,ne e1,ne e2]; rfl
  · show (prodF [entD f0,entD f1,entD f2,barD,barD]).length=216
    rw [prodF_cons,prodF_cons,prodF_cons,e0,e1,e2]; rfl
  · rintro j ⟨e,he,h2⟩
    rcases j with _ | _ | _ | _ | _ | j
    · decide
    · decide
    · decide
    · cases he; exact absurd h2 (by decide)
    · cases he; exact absurd h2 (by decide)
    · simp [letsA] at he
  · intro j hj
    rcases j with _ | _ | _ | j
    · exact ⟨by show 0 < 5; decide,rfl⟩
    · exact ⟨by show 1 < 5; decide,rfl⟩
    · exact ⟨by show 2 < 5; decide,rfl⟩
    · omega
theorem B_ok (V:Five fs an):LetsOk fs (letsB fs)∧anyNil (letsB fs)=false∧(prodF (letsB fs)).length=36∧(∀ j,(∃ e,(letsB fs)[j]?=some e∧2≤e.length)→3≤j∧j < 5)∧∀ j,3≤j∧j < 5→j < (letsB fs).length∧(letsB fs)[j]?=(fs.map entD)[j]?:=by
  have h6:=@ent6 fs an V
  obtain ⟨f0,f1,f2,f3,f4,rfl⟩:=five_list V
  have e3:=h6 (f:=f3) (by simp)
  have e4:=h6 (f:=f4) (by simp)
  refine ⟨lets_of rfl fun j f e hf he=>?_,?_,?_,?_,?_⟩
  · rcases j with _ | _ | _ | _ | _ | j
    · right; cases he; rfl
    · right; cases he; rfl
    · right; cases he; rfl
    · left; cases hf; cases he; rfl
    · left; cases hf; cases he; rfl
    · simp at hf
  · show (false || (false || (false || ((entD f3).isEmpty || ((entD f4).isEmpty || false)))))=false
    have ne:∀ {l:List D},l.length=6→l.isEmpty=false:=fun {l} h=>by cases l with | nil=>cases h | cons _ _=>rfl
    rw [ne e3,ne e4]; rfl
  · show (prodF [barD,barD,barD,entD f3,entD f4]).length=36
    rw [prodF_cons,prodF_cons,prodF_cons,prodF_cons,prodF_cons,e3,e4]; rfl
  · rintro j ⟨e,he,h2⟩
    rcases j with _ | _ | _ | _ | _ | j
    · cases he; exact absurd h2 (by decide)
    · cases he; exact absurd h2 (by decide)
    · cases he; exact absurd h2 (by decide)
    · decide
    · decide
    · simp [letsB] at he
  · rintro j ⟨h1,h2⟩
    rcases j with _ | _ | _ | _ | _ | j
    · omega
    · omega
    · omega
    · exact ⟨by show 3 < 5; decide,rfl⟩
    · exact ⟨by show 4 < 5; decide,rfl⟩
    · omega
theorem A_full (V:Five fs an) {n:Nat} {t:Tr} (h:PartOk fs an (letsA fs) n t):Asks fs (· < 3) t∧Full fs t (fs.map entD):=by
  obtain ⟨_,_,_,a4,a5⟩:=A_ok V
  have ha:=h.asks.mono a4
  exact ⟨ha,full_agree ha a5 (whole_some fs) h.full⟩
theorem B_full (V:Five fs an) {n1 n2:Nat} {t u:Tr} (h1:PartOk fs an (letsA fs) n1 t) (h2:PartOk fs an (letsB fs) n2 u) {r:List (List D) × Str} (hr:r ∈ leavesT fs t (fs.map entD)):Full fs u r.1:=by
  obtain ⟨_,_,_,b4,b5⟩:=B_ok V
  obtain ⟨ha,_⟩:=A_full V h1
  obtain ⟨_,r2,_⟩:=leaves_ok t (LetsOk.whole fs) r hr
  refine full_agree (h2.asks.mono b4) (fun j hj=>⟨(b5 j hj).1,(b5 j hj).2.trans (leaf_keeps ha hr j (by omega)).symm⟩) r2 h2.full
theorem sum_const {α:Type} {f:α→Nat} {n:Nat}:∀ {l:List α},(∀ a ∈ l,f a=n)→(l.map f).sum=l.length * n
  | [],_=>by simp
  | a::l,h=>by
    rw [List.map_cons,List.sum_cons,h a (List.mem_cons_self ..),sum_const fun b hb=>h b (List.mem_cons_of_mem _ hb),List.length_cons,Nat.add_mul]
    omega
theorem pairs_len (one other:Tr) (L:List (List D)):(pairsT fs one other L).length=((leavesT fs one L).map fun r=>(leavesT fs other r.1).length).sum:=by
  unfold pairsT
  rw [List.length_flatMap]
  congr 1
  apply List.map_congr_left
  intro r _
  exact List.length_map ..
theorem pairs_many (V:Five fs an) {n1 n2:Nat} {t u:Tr} (h1:PartOk fs an (letsA fs) n1 t) (h2:PartOk fs an (letsB fs) n2 u):(pairsT fs t u (fs.map entD)).length=n1 * n2:=by
  rw [pairs_len,sum_const (n:=n2) fun r hr=>by rw [full_len (B_full V h1 h2 hr),h2.cnt],full_len (A_full V h1).2,h1.cnt]
theorem all_one (V:Five fs an) {n1 n2:Nat} {t u:Tr} (h1:PartOk fs an (letsA fs) n1 t) (h2:PartOk fs an (letsB fs) n2 u) (h:∀ c,c ∈ prodF (fs.map entD)→ansL fs t c=ansL fs u c):∀ a ∈ answersT t,∀ b ∈ answersT u,a=b:=fun a ha b hb=>by
  rw [← full_ans (A_full V h1).2] at ha
  obtain ⟨r,hr,rfl⟩:=List.mem_map.mp ha
  rw [← full_ans (B_full V h1 h2 hr)] at hb
  obtain ⟨q,hq,rfl⟩:=List.mem_map.mp hb
  obtain ⟨r1,r2,r3⟩:=leaves_ok t (LetsOk.whole fs) r hr
  obtain ⟨q1,q2,q3⟩:=leaves_ok u r1 q hq
  have hc:=first_in q2
  have e1:=(leaf_way V.form t h1.ok (LetsOk.whole fs) hr (q3 _ hc) (q3 _ hc)).2
  have e2:=(leaf_way V.form u h2.ok r1 hq hc hc).2
  rw [← e1,← e2]
  exact h _ ((mem_prod _ _).mpr (r3 _ (q3 _ hc)))
theorem leaf_ans {t:Tr} (V:Five fs an) (ht:TrOk fs an t) {c:List D} (hc:c ∈ prodF (fs.map entD)) (hF:Full fs t (fs.map entD)):ansL fs t c ∈ answersT t:=by
  obtain ⟨r,hr,hx⟩:=count_pos (one_leaf t ht (LetsOk.whole fs) ((mem_prod _ c).mp hc)).1
  rw [(leaf_way V.form t ht (LetsOk.whole fs) hr hx hx).2,← full_ans hF]
  exact List.mem_map.mpr ⟨r,hr,rfl⟩
theorem self_many (V:Five fs an) {t one other:Tr} (ht:TrOk fs an t) (ho:leavesT fs one (fs.map entD)=leavesT fs t (fs.map entD)) (hu:∀ M,(leavesT fs other M).length=(leavesT fs t M).length):(pairsT fs one other (fs.map entD)).length=(leavesT fs t (fs.map entD)).length:=by
  rw [pairs_len,ho,sum_const (n:=1) fun r hr=>by rw [hu,leaf_self V.form t ht (LetsOk.whole fs) hr]; rfl,Nat.mul_one]
end
def sp_27:SpT:=fun ds Q=>∃ (ns:List Int) (fs:List (Str × List Str)) (an:List Str),ds=[tapeD ns,frmD fs an]∧ns.length≤63∧Five fs an∧Q (.bool true)
def ruleA (x:D):D:=match x with | .tuple [_,a]=>a | _=>.none
def ansW (fs:List (Str × List Str)) (t:Tr) (x:D):D:=match x with | .tuple c=>.str (ansL fs t c) | _=>.none
theorem flds_of:∀ (ys:List Str) (zs:List D),zs.length=ys.length→(∀ (k:Nat) (x y:D),(ys.map PyData.str)[k]?=some x→zs[k]?=some y→∃ z vs,x=.str z∧Nms 5 vs∧y=fldD (z,vs))→∃ fs:List (Str × List Str),zs=fs.map fldD∧fs.map (·.1)=ys∧∀ f ∈ fs,Nms 5 f.2
  | [],[],_,_=>⟨[],rfl,rfl,fun f hf=>by cases hf⟩
  | [],_::_,h,_=>by cases h
  | _::_,[],h,_=>by cases h
  | y::ys,d::zs,h,hz=>by
    obtain ⟨z,vs,e1,e2,rfl⟩:=hz 0 _ d rfl rfl
    have:z=y:=by injection e1 with e1; exact e1.symm
    subst this
    obtain ⟨fs,h1,h2,h3⟩:=flds_of ys zs (by simpa using h) fun k x y hx hy=>hz (k + 1) x y (by simpa using hx) (by simpa using hy)
    refine ⟨(z,vs)::fs,by rw [h1]; rfl,by rw [← h2]; rfl,fun f hf=>?_⟩
    rcases List.mem_cons.mp hf with rfl | hf
    · exact e2
    · exact h3 f hf
def prsN:List (Nat × Nat):=[(80,25),(87,23),(100,20),(96,21),(60,33),(200,10),(65,31),(9,7),(57,36),(143,14)]
def prD (p:Nat × Nat):D:=.tuple [.int (p.1:Int),.int (p.2:Int)]
theorem prs_ok:∀ p ∈ prsN,1≤p.1∧p.1≤216∧1≤p.2∧p.2≤36:=by decide
theorem nm_many:nmS "many"=true:=by decide +kernel
theorem cd_many:Cd manyD:=(th_tup (N:=18) (M:=1) 8 0 2 (all_cons (th_name nm_many (Nat.le_refl _)) (all_cons th_none all_nil)) (Nat.le_refl _) (by decide) (by decide)).cd (by decide)
theorem B_whole {fs:List (Str × List Str)} {an:List Str} (V:Five fs an) {n:Nat} {u:Tr} (h:PartOk fs an (letsB fs) n u):Full fs u (fs.map entD):=by
  obtain ⟨_,_,_,b4,b5⟩:=B_ok V
  exact full_agree (h.asks.mono b4) b5 (whole_some fs) h.full
theorem dd_same {as bs:List Str} (ha:as ≠ []):(dd (as++bs)).length=1 ↔ (∀ a ∈ as,∀ b ∈ as++bs,b=a):=by
  cases as with
  | nil=>exact absurd rfl ha
  | cons a as =>
    show (dd (a::(as++bs))).length=1 ↔ _
    rw [dd_one]
    refine ⟨fun h x hx b hb=>?_,fun h z hz=>h a (List.mem_cons_self ..) z (List.mem_cons_of_mem _ hz)⟩
    have hxa:x=a:=(List.mem_cons.mp hx).elim id fun hx=>h x (List.mem_append_left _ hx)
    rw [hxa]
    exact (List.mem_cons.mp hb).elim id fun hb=>h b hb
theorem eq_9 {Q:D→Prop} (h:Q (.bool true)):fEq (.str "alike") (.str "alike") Q:=by
  unfold fEq
  rw [show eqF (PyData.str "alike") (.str "alike")=some true from by simp [eqF]]
  exact h

end K66

namespace K66
open PySem L2 TL

section
variable {P:Program} {w:World} {K:PySem.W.Frag} {mg:Str→Option Value} {base:Heap} {A:Adr}
theorem sc_0:FnScope ["field"] ["field"] (defScope (top 10)):=⟨rfl,rfl,rfl,by decide +kernel,rfl,by decide +kernel,by decide +kernel⟩
set_option maxHeartbeats 4000000 in
theorem ok_0 (T:Txt K mg A):FnOk P w K mg base CX0 1 A.a_0 A.f_0 ["field"] (liftSp K sp_0):=by
  refine fnT T.F_0 sc_0 (fun ds Q h=>by obtain ⟨f,rfl,hf,h⟩:=h; rfl) fun cdv Ar outer s H E hr ds Q h=>?_
  obtain ⟨f,rfl,hf,h⟩:=h
  have nd:=sc_0.nd
  refine ⟨_,(st_one (st_ret (et_op op_addAny o_add (et_ix ix_seq o_ix (et_v 0) et_int) (et_tup (at_cons et_non at_nil))))),?_⟩
  show sRet _ _ [.val (fldD f)]
  refine ⟨_,rfl,_,rfl,Nat.le_of_ble_eq_true rfl,?_,h⟩
  rw [List.length_map]
  simp only [List.length_cons,List.length_nil]
  omega

theorem sc_3:FnScope ["question","field"] ["question","field"] (defScope (top 14)):=⟨rfl,rfl,rfl,by decide +kernel,rfl,by decide +kernel,by decide +kernel⟩
set_option maxHeartbeats 4000000 in
theorem ok_3 (T:Txt K mg A):FnOk P w K mg base CX0 1 A.a_3 A.f_3 ["question","field"] (liftSp K sp_3):=by
  refine fnT T.F_3 sc_3 (fun ds Q h=>by obtain ⟨k,n,v,f,rfl,hn,hv,hl,h⟩:=h; rfl) fun cdv Ar outer s H E hr ds Q h=>?_
  obtain ⟨k,n,v,f,rfl,hn,hv,hl,h⟩:=h
  have nd:=sc_3.nd
  refine ⟨_,(st_cons (st_if (tt_cmp op_eq o_eq (et_ix ix_seq o_ix (et_v 0) et_int) et_str)
  (st_one (st_ret (et_tup (at_cons (et_ix ix_seq o_ix (et_v 0) et_int) at_nil))))
  st_nil)
  (st_one (st_ret (et_slice sl_any o_sl (et_ix ix_seq o_ix (et_v 1) et_int) ot_none (ot_some (et_op op_addAny o_add (et_index (et_ix ix_seq o_ix (et_v 1) et_int) (at_cons (et_ix ix_seq o_ix (et_v 0) et_int) at_nil) (fun h ha=>pe_bm PySem.F.plainAttrs_tuple PySem.F.slot_tuple_index PySem.F.type_tuple_index (mt_index hr) h ha)) et_int)))))),?_⟩
  show sSeq _ _ _ [.val (.tuple [.str k,.str n,.str v]),.val (fldD f)]
  unfold held at h
  refine seq_if (fun b=>b=decide (k="is")) (fun q hq=>⟨_,rfl,_,rfl,hq _ rfl⟩) (fun hT=>?_) fun hF=>?_
  · rw [if_pos (of_decide_eq_true hT.symm)] at h
    exact ⟨_,rfl,_,rfl,Nat.le_of_ble_eq_true rfl,h⟩
  · try unfold sNext
    dsimp only
    rw [if_neg (of_decide_eq_false hF.symm)] at h
    refine ⟨_,rfl,_,rfl,_,rfl,_,rfl,_,rfl,_,rfl,_,rfl,_,_,rfl,okIx_strs hn hv,?_⟩
    show Q (.tuple (cutD (f.2.map PyData.str) none (some ((f.2.idxOf v:Int) + 1))))
    have e:((f.2.idxOf v:Nat):Int) + 1=((f.2.idxOf v + 1:Nat):Int):=rfl
    rw [e,cut_map,cut_ns]; exact h

theorem sc_1:FnScope ["form","question"] ["form","question"] (defScope (top 12)):=⟨rfl,rfl,rfl,by decide +kernel,rfl,by decide +kernel,by decide +kernel⟩
set_option maxHeartbeats 4000000 in
theorem ok_1 (T:Txt K mg A):FnOk P w K mg base CX0 1 A.a_1 A.f_1 ["form","question"] (liftSp K sp_1):=by
  refine fnT T.F_1 sc_1 (fun ds Q h=>by obtain ⟨fs,an,k,n,v,f0,j,rfl,F,hj,hfn,h⟩:=h; rfl) fun cdv Ar outer s H E hr ds Q h=>?_
  obtain ⟨fs,an,k,n,v,f0,j,rfl,F,hj,hfn,h⟩:=h
  have nd:=sc_1.nd
  refine ⟨_,(st_one (st_ret (et_lindex (et_lc (fr:=[none]) (N':=["field"]) (it_val (et_ix ix_seq o_ix (et_v 0) et_int)) (fun b=>⟨(gt_name (pg_name (i:=0) (show List.Nodup (["field"]:List Str) from by decide +kernel) rfl (by first | exact Or.inl rfl | exact Or.inr rfl))),if_nil,(et_ix ix_seq o_ix (et_v 0) et_int)⟩) (fun hi hY=>pe_lcc (show lcChk _ (defScope (top 12)) ["form","question"] ["field"] [none]=true from by decide +kernel) rfl hi hY)) (at_cons (et_ix ix_seq o_ix (et_v 1) et_int) at_nil) (fun h ha=>pe_bm PySem.F.plainAttrs_list PySem.F.slot_list_index PySem.F.type_list_index (mt_lindex hr) h ha)))),?_⟩
  have n5:=F.n5
  have hjl:=(List.getElem?_eq_some_iff.mp hj).1
  have ej:(fs.map (·.1)).idxOf n=j:=by rw [← hfn]; exact name_at F hj
  have hnm:n ∈ fs.map (·.1):=List.mem_map.mpr ⟨f0,List.mem_of_getElem? hj,hfn⟩
  show eLIndex _ _ _ Q
  dsimp only [eLIndex]
  refine lcx_map (ts:=fs.map fldD) (fun R h=>⟨_,rfl,_,rfl,_,rfl,h⟩) fst (by rw [List.length_map]; omega) (fun x q hx hq=>?_) ?_
  · obtain ⟨f,hf,rfl⟩:=List.mem_map.mp hx
    exact ⟨_,rfl,_,rfl,hq⟩
  · have e:(fs.map fldD).map fst=(fs.map (·.1)).map PyData.str:=by rw [List.map_map,List.map_map]; rfl
    rw [e]
    have:=okIx_strs F.nd.2.1 hnm
    rw [ej] at this
    exact ⟨_,rfl,_,rfl,_,rfl,_,j,rfl,this,by omega,h⟩

theorem sc_2:FnScope ["question","stray","field"] ["question","stray","field"] (defScope (top 13)):=⟨rfl,rfl,rfl,by decide +kernel,rfl,by decide +kernel,by decide +kernel⟩
set_option maxHeartbeats 4000000 in
theorem ok_2 (T:Txt K mg A)
    (F_3:FnOk P w K mg base CX0 1 A.a_3 A.f_3 ["question","field"] (liftSp K sp_3)):FnOk P w K mg base CX0 2 A.a_2 A.f_2 ["question","stray","field"] (liftSp K sp_2):=by
  refine fnT T.F_2 sc_2 (fun ds Q h=>by obtain ⟨k,n,v,st,f,rfl,hn,hv,hl,h⟩:=h; rfl) fun cdv Ar outer s H E hr ds Q h=>?_
  obtain ⟨k,n,v,st,f,rfl,hn,hv,hl,h⟩:=h
  have nd:=sc_2.nd
  refine ⟨_,(st_one (st_ret (et_op op_addAny o_add (et_call F_3 T.m_3 T.k_3 T.d_3 (hr.mono (by decide)) (at_cons (et_v 0) (at_cons (et_v 2) at_nil)) (fun h=>pe_call F_3 (hr.mono (by decide)) rfl T.m_3 T.k_3 T.d_3 .nil pass0 h)) (et_if (tt_cmp op_eq o_eq (et_v 1) et_str) (et_tup (at_cons et_non at_nil)) (et_tup at_nil))))),?_⟩
  have hhl:=held_len (k:=k) (v:=v) hl
  refine ⟨_,rfl,_,rfl,k,n,v,f,rfl,hn,hv,hl,_,rfl,?_⟩
  unfold toYes at h
  show (if decide (st="yes")=true then _ else _)
  by_cases e:st="yes"
  · rw [if_pos (decide_eq_true e)]
    rw [if_pos e] at h
    exact ⟨Nat.le_of_ble_eq_true rfl,by rw [List.length_map]; show _ + 1≤_; omega,h⟩
  · rw [if_neg (by simpa using e)]
    rw [if_neg e] at h
    exact ⟨Nat.le_of_ble_eq_true rfl,by rw [List.length_map]; show _ + 0≤_; omega,h⟩

theorem sc_4:FnScope ["tree"] ["tree"] (defScope (top 16)):=⟨rfl,rfl,rfl,by decide +kernel,rfl,by decide +kernel,by decide +kernel⟩
set_option maxHeartbeats 4000000 in
theorem ok_4 (T:Txt K mg A):FnOk P w K mg base CX0 1 A.a_4 A.f_4 ["tree"] (liftSp K sp_4):=by
  refine fnT T.F_4 sc_4 (fun ds Q h=>by obtain ⟨t,rfl,h⟩:=h; rfl) fun cdv Ar outer s H E hr ds Q h=>?_
  obtain ⟨t,rfl,h⟩:=h
  have nd:=sc_4.nd
  refine ⟨_,(st_one (st_ret (et_cmp op_eq o_eq (et_ix ix_seq o_ix (et_v 0) et_int) et_str))),?_⟩
  cases t with
  | say a=>exact ⟨_,rfl,_,rfl,h⟩
  | ask k n v s y m=>exact ⟨_,rfl,_,rfl,h⟩

theorem sc_6:FnScope ["form"] ["form"] (defScope (top 20)):=⟨rfl,rfl,rfl,by decide +kernel,rfl,by decide +kernel,by decide +kernel⟩
set_option maxHeartbeats 4000000 in
theorem ok_6 (T:Txt K mg A)
    (F_0:FnOk P w K mg base CX0 1 A.a_0 A.f_0 ["field"] (liftSp K sp_0)):FnOk P w K mg base CX0 2 A.a_6 A.f_6 ["form"] (liftSp K sp_6):=by
  refine fnT T.F_6 sc_6 (fun ds Q h=>by obtain ⟨fs,an,rfl,F,h⟩:=h; rfl) fun cdv Ar outer s H E hr ds Q h=>?_
  obtain ⟨fs,an,rfl,F,h⟩:=h
  have nd:=sc_6.nd
  refine ⟨_,(st_one (st_ret (et_cb c_tuple (at_cons (et_lc (fr:=[none]) (N':=["field"]) (it_val (et_ix ix_seq o_ix (et_v 0) et_int)) (fun b=>⟨(gt_name (pg_name (i:=0) (show List.Nodup (["field"]:List Str) from by decide +kernel) rfl (by first | exact Or.inl rfl | exact Or.inr rfl))),if_nil,(et_call F_0 T.m_0 T.k_0 T.d_0 (hr.mono (by decide)) (at_cons (et_v 0) at_nil) (fun h=>pe_call F_0 (hr.mono (by decide)) rfl T.m_0 T.k_0 T.d_0 .nil pass0 h))⟩) (fun hi hY=>pe_lcc (show lcChk _ (defScope (top 20)) ["form"] ["field"] [none]=true from by decide +kernel) rfl hi hY)) at_nil) (fun h=>pe_callTy call_tuple_of rfl T.b_tuple bl_tuple h)))),?_⟩
  have n5:=F.n5
  have e:(fs.map fldD).map (fun x=>match x with | .tuple [_,.tuple vs]=>.tuple (vs++[.none]) | _=>x)=(fs.map entD).map PyData.tuple:=by rw [List.map_map,List.map_map]; rfl
  show eCall (f1 gTuple) _ _ Q
  dsimp only [eCall,aCons,aNil]
  refine lcx_map (ts:=fs.map fldD) (fun R h=>⟨_,rfl,_,rfl,_,rfl,h⟩) (fun x=>match x with | .tuple [_,.tuple vs]=>.tuple (vs++[.none]) | _=>x) (by rw [List.length_map]; omega) (fun x q hx hq=>?_) ?_
  · obtain ⟨f,hf,rfl⟩:=List.mem_map.mp hx
    have v5:=(F.vs f hf).2.1
    exact ⟨_,rfl,f,rfl,v5,hq⟩
  · show Q (.tuple _)
    rw [e]; exact h

theorem sc_8:FnScope ["lets","number","let"] ["lets","number","let"] (defScope (top 22)):=⟨rfl,rfl,rfl,by decide +kernel,rfl,by decide +kernel,by decide +kernel⟩
set_option maxHeartbeats 4000000 in
theorem ok_8 (T:Txt K mg A):FnOk P w K mg base CX0 1 A.a_8 A.f_8 ["lets","number","let"] (liftSp K sp_8):=by
  refine fnT T.F_8 sc_8 (fun ds Q h=>by obtain ⟨L,j,g,e,rfl,hj,hL,h⟩:=h; rfl) fun cdv Ar outer s H E hr ds Q h=>?_
  obtain ⟨L,j,g,e,rfl,hj,hL,h⟩:=h
  have nd:=sc_8.nd
  refine ⟨_,(st_one (st_ret (et_op op_addAny o_add (et_op op_addAny o_add (et_slice sl_any o_sl (et_v 0) ot_none (ot_some (et_v 1))) (et_tup (at_cons (et_v 2) at_nil))) (et_slice sl_any o_sl (et_v 0) (ot_some (et_op op_addAny o_add (et_v 1) et_int)) ot_none)))),?_⟩
  have e1:cutD (L.map PyData.tuple) none (some (j:Int))=(L.take j).map PyData.tuple:=by rw [cut_map,cut_ns]
  have e2:cutD (L.map PyData.tuple) (some ((j:Int) + 1)) none=(L.drop (j + 1)).map PyData.tuple:=by
    have:=cut_sn L (j + 1)
    rw [cut_map]
    exact congrArg _ this
  have e3:letsD (filtAt L j g)=.tuple ((L.take j).map PyData.tuple++[.tuple (e.filter g)]++(L.drop (j + 1)).map PyData.tuple):=by
    unfold letsD
    rw [filtAt_get hj,List.map_append,List.map_cons,List.append_assoc]; rfl
  rw [e3] at h
  refine ⟨_,rfl,_,rfl,_,rfl,(Nat.le_of_ble_eq_true rfl),?_,_,rfl,_,rfl,?_,?_⟩
  · rw [e1,List.length_map,List.length_take]; show _ + 1≤_; omega
  · rw [e1,e2,List.length_append,List.length_map,List.length_map,List.length_take,List.length_drop]; show _ + 1 + _≤_; omega
  · show Q (.tuple (cutD (L.map PyData.tuple) none (some (j:Int))++[.tuple (e.filter g)]++cutD (L.map PyData.tuple) (some ((j:Int) + 1)) none))
    rw [e1,e2]; exact h

theorem sc_7:FnScope ["form","tree","lets","number","held","yes","no","rules","let","part"] ["form","tree","lets"] (defScope (top 21)):=⟨rfl,rfl,rfl,by decide +kernel,rfl,by decide +kernel,by decide +kernel⟩
set_option maxHeartbeats 4000000 in
theorem step_7 (dd:Nat) (T:Txt K mg A)
    (F_2:FnOk P w K mg base CX0 2 A.a_2 A.f_2 ["question","stray","field"] (liftSp K sp_2))
    (F_1:FnOk P w K mg base CX0 1 A.a_1 A.f_1 ["form","question"] (liftSp K sp_1))
    (F_4:FnOk P w K mg base CX0 1 A.a_4 A.f_4 ["tree"] (liftSp K sp_4))
    (F_8:FnOk P w K mg base CX0 1 A.a_8 A.f_8 ["lets","number","let"] (liftSp K sp_8))
    (F_7:FnOk P w K mg base CX0 (3 + dd) A.a_7 A.f_7 ["form","tree","lets"] (liftSpF K (sp_7_lt dd))):FnOk P w K mg base CX0 (3 + dd + 1) A.a_7 A.f_7 ["form","tree","lets"] (liftSpF K (sp_7_lt (dd + 1))):=by
  refine fnF T.F_7 sc_7 (fun ds Q h=>by obtain ⟨fs,an,t,L,rfl,F,ht,hL,hn,htd,ht5,h⟩:=h; rfl) fun cdv Ar outer s H E hr ds Q h=>?_
  obtain ⟨fs,an,t,L,rfl,F,ht,hL,hn,htd,ht5,h⟩:=h
  have nd:=sc_7.nd
  refine ⟨_,(st_cons (st_if (tt_val (et_call F_4 T.m_4 T.k_4 T.d_4 (hr.mono (by omega)) (at_cons (et_v 1) at_nil) (fun h=>pe_call F_4 (hr.mono (by omega)) rfl T.m_4 T.k_4 T.d_4 .nil pass0 h)) (fun h=>pt_val h))
  (st_one (st_retF (ft_lst (at_cons (et_tup (at_cons (et_v 2) (at_cons (et_ix ix_seq o_ix (et_v 1) et_int) at_nil))) at_nil))))
  st_nil)
  (st_cons (st_set (i:=3) (et_call F_1 T.m_1 T.k_1 T.d_1 (hr.mono (by omega)) (at_cons (et_v 0) (at_cons (et_ix ix_seq o_ix (et_v 1) et_int) at_nil)) (fun h=>pe_call F_1 (hr.mono (by omega)) rfl T.m_1 T.k_1 T.d_1 .nil pass0 h)) (fun h=>ps_set (i:=3) nd rfl (by first | exact Or.inl rfl | exact Or.inr rfl) h))
  (st_cons (st_set (i:=4) (et_call F_2 T.m_2 T.k_2 T.d_2 (hr.mono (by omega)) (at_cons (et_ix ix_seq o_ix (et_v 1) et_int) (at_cons (et_ix ix_seq o_ix (et_v 1) et_int) (at_cons (et_ix ix_seq o_ix (et_ix ix_seq o_ix (et_v 0) et_int) (et_v 3)) at_nil))) (fun h=>pe_call F_2 (hr.mono (by omega)) rfl T.m_2 T.k_2 T.d_2 .nil pass0 h)) (fun h=>ps_set (i:=4) nd rfl (by first | exact Or.inl rfl | exact Or.inr rfl) h))
  (st_cons (st_set (i:=5) (et_cb c_tuple (at_cons (et_lc (fr:=[none,some 4]) (N':=["entry","held"]) (it_val (et_ix ix_seq o_ix (et_v 2) (et_v 3))) (fun b=>⟨(gt_name (pg_name (i:=0) (show List.Nodup (["entry","held"]:List Str) from by decide +kernel) rfl (by first | exact Or.inl rfl | exact Or.inr rfl))),(if_one (tt_cmp (op_in2 hr) o_in2 (et_v 0) (et_v 1))),(et_v 0)⟩) (fun hi hY=>pe_lcc (show lcChk _ (defScope (top 21)) ["form","tree","lets","number","held","yes","no","rules","let","part"] ["entry","held"] [none,some 4]=true from by decide +kernel) rfl hi hY)) at_nil) (fun h=>pe_callTy call_tuple_of rfl T.b_tuple bl_tuple h)) (fun h=>ps_set (i:=5) nd rfl (by first | exact Or.inl rfl | exact Or.inr rfl) h))
  (st_cons (st_set (i:=6) (et_cb c_tuple (at_cons (et_lc (fr:=[none,some 4]) (N':=["entry","held"]) (it_val (et_ix ix_seq o_ix (et_v 2) (et_v 3))) (fun b=>⟨(gt_name (pg_name (i:=0) (show List.Nodup (["entry","held"]:List Str) from by decide +kernel) rfl (by first | exact Or.inl rfl | exact Or.inr rfl))),(if_one (tt_cmp (op_notInData hr) o_data (et_v 0) (et_v 1))),(et_v 0)⟩) (fun hi hY=>pe_lcc (show lcChk _ (defScope (top 21)) ["form","tree","lets","number","held","yes","no","rules","let","part"] ["entry","held"] [none,some 4]=true from by decide +kernel) rfl hi hY)) at_nil) (fun h=>pe_callTy call_tuple_of rfl T.b_tuple bl_tuple h)) (fun h=>ps_set (i:=6) nd rfl (by first | exact Or.inl rfl | exact Or.inr rfl) h))
  (st_cons (st_own (i:=7) at_nil (fun h=>ps_set (i:=7) nd rfl (by first | exact Or.inl rfl | exact Or.inr rfl) h))
  (st_cons (st_for (it_val (et_tup (at_cons (et_tup (at_cons (et_v 5) (at_cons (et_ix ix_seq o_ix (et_v 1) et_int) at_nil))) (at_cons (et_tup (at_cons (et_v 6) (at_cons (et_ix ix_seq o_ix (et_v 1) et_int) at_nil))) at_nil)))) (gt_pair (pg_tup rfl (pgs_cons (pg_name (i:=8) nd rfl (by first | exact Or.inl rfl | exact Or.inr rfl)) (pgs_cons (pg_name (i:=9) nd rfl (by first | exact Or.inl rfl | exact Or.inr rfl)) pgs_nil))))
  (st_one (st_if (tt_cmp op_gt o_B0 (et_cb c_len (at_cons (et_v 8) at_nil) (fun h=>pe_callB call_lenAny rfl T.b_len bl_len h)) et_int)
  (st_one (st_extL (i:=7) (pv 7) (et_fr (ft_call F_7 T.m_7 T.k_7 T.d_7 (hr.mono (by omega)) (at_cons (et_v 0) (at_cons (et_v 9) (at_cons (et_call F_8 T.m_8 T.k_8 T.d_8 (hr.mono (by omega)) (at_cons (et_v 2) (at_cons (et_v 3) (at_cons (et_v 8) at_nil))) (fun h=>pe_call F_8 (hr.mono (by omega)) rfl T.m_8 T.k_8 T.d_8 .nil pass0 h)) at_nil))) (fun h=>pe_call F_7 (hr.mono (by omega)) rfl T.m_7 T.k_7 T.d_7 .nil pass0 h))) (pb:=fun h=>ps_expr (pe_bm PySem.F.plainAttrs_list PySem.F.slot_list_extend PySem.F.type_list_extend mt_extL (pv 7) h))))
  st_nil)) (fun hi hg hb=>ps_for PassesOwn.never rfl hi hg hb))
  (st_one (st_retOwn (pv 7)))))))))),?_⟩
  show sSeq _ _ _ [.val (frmD fs an),.val (trD t),.val (letsD L),.un,.un,.un,.un,.un,.un,.un]
  have n5:=F.n5
  cases t with
  | say a =>
    refine seq_if (fun b=>b=true) (fun q hq=>⟨_,rfl,.say a,rfl,hq _ rfl⟩) (fun _=>?_) fun hF=>by cases hF
    have e:leavesT fs (.say a) L=[(L,a)]:=by show (if anyNil L then [] else _)=_; rw [hn]; rfl
    rw [e] at h
    exact ⟨_,rfl,_,rfl,_,rfl,(Nat.le_of_ble_eq_true rfl),(Nat.le_of_ble_eq_true rfl),h⟩
  | ask k n v s y m =>
    refine seq_if (fun b=>b=false) (fun q hq=>⟨_,rfl,.ask k n v s y m,rfl,hq _ rfl⟩) (fun hT=>by cases hT) fun _=>?_
    try unfold sNext
    dsimp only
    obtain ⟨hq,hs,hy,hm⟩:=ht
    have e1:(Tr.ask k n v s y m).dep=max y.dep m.dep + 1:=rfl
    obtain ⟨f,hf,hfm,hfn,hv,hk⟩:=jx_get F hq
    have v5:=(F.vs f hfm).2.1
    have hjl:jx fs n < L.length:=by rw [hL.1]; exact (List.getElem?_eq_some_iff.mp hf).1
    have hLl:L.length≤5:=by rw [hL.1]; exact n5
    obtain ⟨e,he⟩:∃ e,L[jx fs n]?=some e:=⟨_,List.getElem?_eq_getElem hjl⟩
    have hsub:=hL.sub hf he
    have hent:∀ x ∈ e,Ent x:=fun x hx=>ent_entD F hfm x (hsub x hx)
    have hel:e.length≤6:=by
      obtain ⟨p,rfl⟩:=hL.2 _ f e hf he
      have h5:=List.length_filter_le p (entD f)
      have h6:(entD f).length=f.2.length + 1:=by unfold entD; rw [List.length_append,List.length_map]; rfl
      omega
    have hfa:L2.atI (fs.map fldD) ((jx fs n:Nat):Int)=some (fldD f):=L2.atI_nat (by rw [List.getElem?_map,hf]; rfl)
    have hLa:L2.atI (L.map PyData.tuple) ((jx fs n:Nat):Int)=some (.tuple e):=L2.atI_nat (by rw [List.getElem?_map,he]; rfl)
    refine seq_set (.int ((jx fs n:Nat):Int)) (fun q hq'=>⟨_,rfl,_,rfl,_,rfl,fs,an,k,n,v,f,jx fs n,rfl,F,hf,hfn,hq'⟩) ?_
    refine seq_set (.tuple (toYes k v s f)) (fun q hq'=>⟨_,rfl,_,rfl,_,rfl,_,rfl,_,rfl,_,rfl,_,rfl,_,hfa,k,n,v,s,f,rfl,F.vals hfm,hv,v5,hq'⟩) ?_
    have okx:∀ x ∈ e,okIn x (.tuple (toYes k v s f)):=fun x hx=>ok_toYes (F.vals hfm) hv (((hent x hx).th (n:=8) (m:=0) (Nat.le_refl 8)).cd (by decide))
    refine seq_set (.tuple (e.filter (sideG fs k n v s))) (fun q hq'=>?_) ?_
    · show eCall (f1 gTuple) _ _ q
      dsimp only [eCall,aCons,aNil]
      refine lcx_filt (ts:=e) (fun R h=>⟨_,rfl,_,rfl,_,hLa,_,rfl,h⟩) (sideG fs k n v s) id (by omega) (fun x q hx hq=>⟨_,rfl,_,rfl,fIn2_tup (okx x hx) ?_⟩) (fun x q hx hq=>⟨_,rfl,hq⟩) ?_
      · show q (inD x (.tuple (toYes k v s f)))
        rw [sideG_in F hf hs (hsub x hx)]; exact hq
      · rw [List.map_id]; exact hq'
    refine seq_set (.tuple (e.filter fun x=>!sideG fs k n v s x)) (fun q hq'=>?_) ?_
    · show eCall (f1 gTuple) _ _ q
      dsimp only [eCall,aCons,aNil]
      refine lcx_filt (ts:=e) (fun R h=>⟨_,rfl,_,rfl,_,hLa,_,rfl,h⟩) (fun x=>!sideG fs k n v s x) id (by omega) (fun x q hx hq=>⟨_,rfl,_,rfl,okx x hx,?_⟩) (fun x q hx hq=>⟨_,rfl,hq⟩) ?_
      · show q (!inD x (.tuple (toYes k v s f)))
        rw [sideG_in F hf hs (hsub x hx)]; exact hq
      · rw [List.map_id]; exact hq'
    refine seq_own [] (Nat.le_of_ble_eq_true rfl) (fun q hq=>hq) ?_
    have eT:leavesT fs (.ask k n v s y m) L=leavesT fs y (filtAt L (jx fs n) (sideG fs k n v s))++leavesT fs m (filtAt L (jx fs n) fun x=>!sideG fs k n v s x):=by
      show (if anyNil L then [] else _)=_
      rw [hn]; rfl
    rw [eT] at h
    have p2:=prod_two hjl (sideG fs k n v s)
    have ly:=leaves_le (an:=an) y hy F (hL.filt (jx fs n) (sideG fs k n v s))
    have lm:=leaves_le (an:=an) m hm F (hL.filt (jx fs n) fun x=>!sideG fs k n v s x)
    have emp:∀ (g:D→Bool) (u:Tr),¬ ((e.filter g).length:Int) > 0→leavesT fs u (filtAt L (jx fs n) g)=[]:=fun g u hz=>leaves_nil (by
      rw [anyNil_filt hn he]
      cases hx:e.filter g with
      | nil=>rfl
      | cons a b=>rw [hx] at hz; simp at hz)
    have ful:∀ g:D→Bool,((e.filter g).length:Int) > 0→anyNil (filtAt L (jx fs n) g)=false:=fun g hz=>by
      rw [anyNil_filt hn he]
      cases hx:e.filter g with
      | nil=>rw [hx] at hz; simp at hz
      | cons a b=>rfl
    refine seq_for (ts:=[.tuple [.tuple (e.filter (sideG fs k n v s)),trD y],.tuple [.tuple (e.filter fun x=>!sideG fs k n v s x),trD m]]) (fun R h=>⟨_,rfl,_,rfl,_,rfl,(Nat.le_of_ble_eq_true rfl),_,rfl,_,rfl,_,rfl,(Nat.le_of_ble_eq_true rfl),(Nat.le_of_ble_eq_true rfl),_,rfl,h⟩)
      (fun i σ=>∃ s8 s9:Sl,σ=[.val (frmD fs an),.val (trD (.ask k n v s y m)),.val (letsD L),.val (.int ((jx fs n:Nat):Int)),.val (.tuple (toYes k v s f)),.val (.tuple (e.filter (sideG fs k n v s))),.val (.tuple (e.filter fun x=>!sideG fs k n v s x)),.own (((if 0 < i then leavesT fs y (filtAt L (jx fs n) (sideG fs k n v s)) else [])++(if 1 < i then leavesT fs m (filtAt L (jx fs n) fun x=>!sideG fs k n v s x) else [])).map ruleD),s8,s9]) ⟨_,_,rfl⟩ (fun i x σ' hx hP=>?_) fun σ' hP=>?_
    · obtain ⟨s8,s9,rfl⟩:=hP
      match i,hx with
      | 0,hx =>
        cases hx
        refine ⟨_,_,rfl,?_⟩
        refine one_if (fun b=>b=decide (((e.filter (sideG fs k n v s)).length:Int) > 0)) (fun q hq=>⟨_,rfl,hq _ rfl⟩) (fun hT=>?_) fun hF=>?_
        · have hz:=of_decide_eq_true hT.symm
          refine one_extL (ts:=[]) (us:=(leavesT fs y (filtAt L (jx fs n) (sideG fs k n v s))).map ruleD) rfl (by rw [List.length_map]; show 0 + _≤_; omega) (fun q hq'=>⟨_,rfl,_,rfl,_,rfl,_,rfl,_,rfl,L,jx fs n,sideG fs k n v s,e,rfl,he,hLl,fs,an,y,_,rfl,F,hy,hL.filt _ _,ful _ hz,by omega,by omega,hq'⟩) ⟨.val (.tuple (e.filter (sideG fs k n v s))),.val (trD y),?_⟩
          show _=[_,_,_,_,_,_,_,Sl.own ((leavesT fs y _++[]).map ruleD),_,_]
          rw [List.append_nil]; rfl
        · have hz:=emp (sideG fs k n v s) y (of_decide_eq_false hF.symm)
          refine ⟨.val (.tuple (e.filter (sideG fs k n v s))),.val (trD y),?_⟩
          show _=[_,_,_,_,_,_,_,Sl.own ((leavesT fs y _++[]).map ruleD),_,_]
          rw [hz]; rfl
      | 1,hx =>
        cases hx
        refine ⟨_,_,rfl,?_⟩
        refine one_if (fun b=>b=decide (((e.filter fun x=>!sideG fs k n v s x).length:Int) > 0)) (fun q hq=>⟨_,rfl,hq _ rfl⟩) (fun hT=>?_) fun hF=>?_
        · have hz:=of_decide_eq_true hT.symm
          refine one_extL (ts:=(leavesT fs y (filtAt L (jx fs n) (sideG fs k n v s))++[]).map ruleD) (us:=(leavesT fs m (filtAt L (jx fs n) fun x=>!sideG fs k n v s x)).map ruleD) rfl (by rw [List.append_nil,List.length_map,List.length_map]; omega) (fun q hq'=>⟨_,rfl,_,rfl,_,rfl,_,rfl,_,rfl,L,jx fs n,(fun x=>!sideG fs k n v s x),e,rfl,he,hLl,fs,an,m,_,rfl,F,hm,hL.filt _ _,ful _ hz,by omega,by omega,hq'⟩) ⟨.val (.tuple (e.filter fun x=>!sideG fs k n v s x)),.val (trD m),?_⟩
          show _=[_,_,_,_,_,_,_,Sl.own ((leavesT fs y _++leavesT fs m _).map ruleD),_,_]
          simp only [List.append_nil,List.map_append]; rfl
        · have hz:=emp (fun x=>!sideG fs k n v s x) m (of_decide_eq_false hF.symm)
          refine ⟨.val (.tuple (e.filter fun x=>!sideG fs k n v s x)),.val (trD m),?_⟩
          show _=[_,_,_,_,_,_,_,Sl.own ((leavesT fs y _++leavesT fs m _).map ruleD),_,_]
          rw [hz]; rfl
    · obtain ⟨s8,s9,rfl⟩:=hP
      exact ⟨_,rfl,h⟩

theorem ok_7 (T:Txt K mg A)
    (F_2:FnOk P w K mg base CX0 2 A.a_2 A.f_2 ["question","stray","field"] (liftSp K sp_2))
    (F_1:FnOk P w K mg base CX0 1 A.a_1 A.f_1 ["form","question"] (liftSp K sp_1))
    (F_4:FnOk P w K mg base CX0 1 A.a_4 A.f_4 ["tree"] (liftSp K sp_4))
    (F_8:FnOk P w K mg base CX0 1 A.a_8 A.f_8 ["lets","number","let"] (liftSp K sp_8)):FnOk P w K mg base CX0 33 A.a_7 A.f_7 ["form","tree","lets"] (liftSpF K sp_7):=by
  have h:∀ dd:Nat,FnOk P w K mg base CX0 (3 + dd) A.a_7 A.f_7 ["form","tree","lets"] (liftSpF K (sp_7_lt dd)):=fun dd=>by
    induction dd with
    | zero=>exact fn_impF fn_neverF fun ds Q h=>never_7 h
    | succ dd ih=>exact step_7 dd T F_2 F_1 F_4 F_8 ih
  exact h 30
theorem sc_5:FnScope ["form","tree","rules"] ["form","tree"] (defScope (top 19)):=⟨rfl,rfl,rfl,by decide +kernel,rfl,by decide +kernel,by decide +kernel⟩
set_option maxHeartbeats 4000000 in
theorem ok_5 (T:Txt K mg A)
    (F_7:FnOk P w K mg base CX0 33 A.a_7 A.f_7 ["form","tree","lets"] (liftSpF K sp_7))
    (F_6:FnOk P w K mg base CX0 2 A.a_6 A.f_6 ["form"] (liftSp K sp_6)):FnOk P w K mg base CX0 34 A.a_5 A.f_5 ["form","tree"] (liftSpF K sp_5):=by
  refine fnF T.F_5 sc_5 (fun ds Q h=>by obtain ⟨fs,an,t,rfl,F,ht,htd,h60,h⟩:=h; rfl) fun cdv Ar outer s H E hr ds Q h=>?_
  obtain ⟨fs,an,t,rfl,F,ht,htd,h60,h⟩:=h
  have nd:=sc_5.nd
  refine ⟨_,(st_cons (st_setF (i:=2) (ft_call F_7 T.m_7 T.k_7 T.d_7 (hr.mono (by decide)) (at_cons (et_v 0) (at_cons (et_v 1) (at_cons (et_call F_6 T.m_6 T.k_6 T.d_6 (hr.mono (by decide)) (at_cons (et_v 0) at_nil) (fun h=>pe_call F_6 (hr.mono (by decide)) rfl T.m_6 T.k_6 T.d_6 .nil pass0 h)) at_nil))) (fun h=>pe_call F_7 (hr.mono (by decide)) rfl T.m_7 T.k_7 T.d_7 .nil pass0 h)) (fun h=>ps_set (i:=2) nd rfl (by first | exact Or.inl rfl | exact Or.inr rfl) h))
  (st_cons (st_if (tt_borrow 2 (tt_cmp op_gt o_B0 (et_cb c_len (at_cons (et_v 2) at_nil) (fun h=>pe_callB call_lenAny rfl T.b_len bl_len h)) (et_gint rfl T.c_MOST_RULES)))
  (st_one st_no)
  st_nil)
  (st_one (st_retOwn (pv 2))))),?_⟩
  show sSeq _ _ _ [.val (frmD fs an),.val (trD t),.un]
  refine seq_setF ((leavesT fs t (fs.map entD)).map ruleD) (fun q hq=>⟨_,rfl,_,rfl,_,rfl,fs,an,rfl,F,fs,an,t,fs.map entD,rfl,F,ht,LetsOk.whole fs,whole_some fs,by omega,many_le F (LetsOk.whole fs),hq⟩) ?_
  refine seq_if (fun b=>b=false) (fun q hq=>⟨_,rfl,_,rfl,hq _ (decide_eq_false ?_)⟩) (fun hT=>by cases hT) fun _=>?_
  · rw [List.length_map]; omega
  try unfold sNext
  dsimp only
  exact ⟨_,rfl,h⟩

theorem sc_10:FnScope ["form","one","other","pairs","lets","answer"] ["form","one","other"] (defScope (top 26)):=⟨rfl,rfl,rfl,by decide +kernel,rfl,by decide +kernel,by decide +kernel⟩
set_option maxHeartbeats 4000000 in
theorem ok_10 (T:Txt K mg A)
    (F_7:FnOk P w K mg base CX0 33 A.a_7 A.f_7 ["form","tree","lets"] (liftSpF K sp_7))
    (F_6:FnOk P w K mg base CX0 2 A.a_6 A.f_6 ["form"] (liftSp K sp_6)):FnOk P w K mg base CX0 34 A.a_10 A.f_10 ["form","one","other"] (liftSp K sp_10):=by
  refine fnT T.F_10 sc_10 (fun ds Q h=>by obtain ⟨fs,an,one,other,rfl,F,h1,h2,hd1,hd2,h⟩:=h; rfl) fun cdv Ar outer s H E hr ds Q h=>?_
  obtain ⟨fs,an,one,other,rfl,F,h1,h2,hd1,hd2,h⟩:=h
  have nd:=sc_10.nd
  refine ⟨_,(st_cons (st_own (i:=3) at_nil (fun h=>ps_set (i:=3) nd rfl (by first | exact Or.inl rfl | exact Or.inr rfl) h))
  (st_cons (st_for (it_val (et_fr (ft_call F_7 T.m_7 T.k_7 T.d_7 (hr.mono (by decide)) (at_cons (et_v 0) (at_cons (et_v 1) (at_cons (et_call F_6 T.m_6 T.k_6 T.d_6 (hr.mono (by decide)) (at_cons (et_v 0) at_nil) (fun h=>pe_call F_6 (hr.mono (by decide)) rfl T.m_6 T.k_6 T.d_6 .nil pass0 h)) at_nil))) (fun h=>pe_call F_7 (hr.mono (by decide)) rfl T.m_7 T.k_7 T.d_7 .nil pass0 h)))) (gt_pair (pg_tup rfl (pgs_cons (pg_name (i:=4) nd rfl (by first | exact Or.inl rfl | exact Or.inr rfl)) (pgs_cons (pg_name (i:=5) nd rfl (by first | exact Or.inl rfl | exact Or.inr rfl)) pgs_nil))))
  (st_one (st_extL (i:=3) (pv 3) (et_lc (fr:=[none,none,some 5]) (N':=["both","found","answer"]) (it_val (et_fr (ft_call F_7 T.m_7 T.k_7 T.d_7 (hr.mono (by decide)) (at_cons (et_v 0) (at_cons (et_v 2) (at_cons (et_v 4) at_nil))) (fun h=>pe_call F_7 (hr.mono (by decide)) rfl T.m_7 T.k_7 T.d_7 .nil pass0 h)))) (fun b=>⟨(gt_pair (pg_tup rfl (pgs_cons (pg_name (i:=0) (show List.Nodup (["both","found","answer"]:List Str) from by decide +kernel) rfl (by first | exact Or.inl rfl | exact Or.inr rfl)) (pgs_cons (pg_name (i:=1) (show List.Nodup (["both","found","answer"]:List Str) from by decide +kernel) rfl (by first | exact Or.inl rfl | exact Or.inr rfl)) pgs_nil)))),if_nil,(et_tup (at_cons (et_v 0) (at_cons (et_v 2) (at_cons (et_v 1) at_nil))))⟩) (fun hi hY=>pe_lcc (show lcChk _ (defScope (top 26)) ["form","one","other","pairs","lets","answer"] ["both","found","answer"] [none,none,some 5]=true from by decide +kernel) rfl hi hY)) (pb:=fun h=>ps_expr (pe_bm PySem.F.plainAttrs_list PySem.F.slot_list_extend PySem.F.type_list_extend mt_extL (pv 3) h)))) (fun hi hg hb=>ps_for PassesOwn.never rfl hi hg hb))
  (st_share 3 (st_one (st_ret (et_v 3)))))),?_⟩
  show sSeq _ _ _ [.val (frmD fs an),.val (trD one),.val (trD other),.un,.un,.un]
  have p125:=many_le F (LetsOk.whole fs)
  have hW:=LetsOk.whole fs
  have hle:=pairs_le F h1 h2 hW
  have l1:=leaves_le (an:=an) one h1 F hW
  refine seq_own [] (Nat.le_of_ble_eq_true rfl) (fun q hq=>hq) ?_
  refine seq_for (ts:=(leavesT fs one (fs.map entD)).map ruleD) (fun R h=>⟨_,rfl,_,rfl,_,rfl,fs,an,rfl,F,fs,an,one,fs.map entD,rfl,F,h1,hW,whole_some fs,by omega,p125,_,rfl,h⟩)
    (fun i σ=>∃ s4 s5:Sl,σ=[.val (frmD fs an),.val (trD one),.val (trD other),.own ((((leavesT fs one (fs.map entD)).take i).flatMap fun r=>(leavesT fs other r.1).map fun q=>((q.1,r.2,q.2):Pr3)).map pairD),s4,s5]) ⟨_,_,rfl⟩ (fun i x σ' hx hP=>?_) fun σ' hP=>?_
  · obtain ⟨s4,s5,rfl⟩:=hP
    rw [List.getElem?_map] at hx
    obtain ⟨⟨L,a⟩,hri,rfl⟩:=Option.map_eq_some_iff.mp hx
    have hr:=List.mem_of_getElem? hri
    obtain ⟨a1,a2,a3⟩:=leaves_ok one hW _ hr
    replace a1:LetsOk fs L:=a1
    replace a2:anyNil L=false:=a2
    have hL125:=many_le F a1
    have l2:=leaves_le (an:=an) other h2 F a1
    have et:(((leavesT fs one (fs.map entD)).take (i + 1)).flatMap fun r=>(leavesT fs other r.1).map fun q=>((q.1,r.2,q.2):Pr3))=(((leavesT fs one (fs.map entD)).take i).flatMap fun r=>(leavesT fs other r.1).map fun q=>((q.1,r.2,q.2):Pr3))++(leavesT fs other L).map fun q=>((q.1,a,q.2):Pr3):=by
      rw [List.take_add_one,hri,List.flatMap_append]
      congr 1
      show _++[]=_
      rw [List.append_nil]
    have hpre:(((leavesT fs one (fs.map entD)).take i).flatMap fun r=>(leavesT fs other r.1).map fun q=>((q.1,r.2,q.2):Pr3)).length≤7776:=by
      have:(((leavesT fs one (fs.map entD)).take i).flatMap fun r=>(leavesT fs other r.1).map fun q=>((q.1,r.2,q.2):Pr3)).length≤(pairsT fs one other (fs.map entD)).length:=by
        unfold pairsT
        conv=>rhs; rw [← List.take_append_drop i (leavesT fs one (fs.map entD)),List.flatMap_append,List.length_append]
        omega
      omega
    refine ⟨_,_,rfl,?_⟩
    refine one_extL (us:=((leavesT fs other L).map fun q=>((q.1,a,q.2):Pr3)).map pairD) rfl (by rw [List.length_map,List.length_map,List.length_map]; omega) (fun q hq=>?_) ⟨_,_,by rw [et,List.map_append]; rfl⟩
    refine lcp_map (ts:=(leavesT fs other L).map ruleD) (fun R h=>⟨_,rfl,_,rfl,_,rfl,fs,an,other,L,rfl,F,h2,a1,a2,by omega,hL125,_,rfl,h⟩) (fun x=>match x with | .tuple [l,.str b]=>.tuple [l,.str a,.str b] | _=>.none) (by rw [List.length_map]; omega) (fun x hx=>?_) (fun u v q hm hq=>?_) ?_
    · obtain ⟨r,hr,rfl⟩:=List.mem_map.mp hx
      exact ⟨_,_,rfl⟩
    · obtain ⟨r,hr,e⟩:=List.mem_map.mp hm
      cases e
      exact ⟨_,rfl,_,rfl,_,rfl,(Nat.le_of_ble_eq_true rfl),hq⟩
    · rw [List.map_map]
      rw [List.map_map] at hq
      exact hq
  · obtain ⟨s4,s5,rfl⟩:=hP
    rw [List.length_map,List.take_length]
    exact ⟨_,rfl,_,rfl,h⟩

theorem sc_9:FnScope ["form","one","other","pairs","lets","answer","found"] ["form","one","other"] (defScope (top 25)):=⟨rfl,rfl,rfl,by decide +kernel,rfl,by decide +kernel,by decide +kernel⟩
set_option maxHeartbeats 4000000 in
theorem ok_9 (T:Txt K mg A)
    (F_10:FnOk P w K mg base CX0 34 A.a_10 A.f_10 ["form","one","other"] (liftSp K sp_10)):FnOk P w K mg base CX0 35 A.a_9 A.f_9 ["form","one","other"] (liftSp K sp_9):=by
  refine fnT T.F_9 sc_9 (fun ds Q h=>by obtain ⟨fs,an,one,other,rfl,F,h1,h2,hd1,hd2,h2k,hu,ha⟩:=h; rfl) fun cdv Ar outer s H E hr ds Q h=>?_
  obtain ⟨fs,an,one,other,rfl,F,h1,h2,hd1,hd2,h2k,hu,ha⟩:=h
  have nd:=sc_9.nd
  refine ⟨_,(st_cons (st_set (i:=3) (et_call F_10 T.m_10 T.k_10 T.d_10 (hr.mono (by decide)) (at_cons (et_v 0) (at_cons (et_v 1) (at_cons (et_v 2) at_nil))) (fun h=>pe_call F_10 (hr.mono (by decide)) rfl T.m_10 T.k_10 T.d_10 .nil pass0 h)) (fun h=>ps_set (i:=3) nd rfl (by first | exact Or.inl rfl | exact Or.inr rfl) h))
  (st_cons (st_if (tt_cmp op_gt o_B0 (et_cb c_len (at_cons (et_v 3) at_nil) (fun h=>pe_callB call_lenAny rfl T.b_len bl_len h)) (et_gint rfl T.c_MOST_PAIRS))
  (st_one st_no)
  st_nil)
  (st_cons (st_for (it_val (et_v 3)) (gt_triple (pg_tup rfl (pgs_cons (pg_name (i:=4) nd rfl (by first | exact Or.inl rfl | exact Or.inr rfl)) (pgs_cons (pg_name (i:=5) nd rfl (by first | exact Or.inl rfl | exact Or.inr rfl)) (pgs_cons (pg_name (i:=6) nd rfl (by first | exact Or.inl rfl | exact Or.inr rfl)) pgs_nil)))))
  (st_one (st_if (tt_cmp op_ne o_ne (et_v 5) (et_v 6))
  (st_one (st_ret (et_tup (at_cons et_str (at_cons (et_cb c_tuple (at_cons (et_lc (fr:=[none]) (N':=["let"]) (it_val (et_v 4)) (fun b=>⟨(gt_name (pg_name (i:=0) (show List.Nodup (["let"]:List Str) from by decide +kernel) rfl (by first | exact Or.inl rfl | exact Or.inr rfl))),if_nil,(et_ix ix_seq o_ix (et_v 0) et_int)⟩) (fun hi hY=>pe_lcc (show lcChk _ (defScope (top 25)) ["form","one","other","pairs","lets","answer","found"] ["let"] [none]=true from by decide +kernel) rfl hi hY)) at_nil) (fun h=>pe_callTy call_tuple_of rfl T.b_tuple bl_tuple h)) at_nil)))))
  st_nil)) (fun hi hg hb=>ps_for PassesOwn.never rfl hi hg hb))
  (st_one (st_ret (et_tup (at_cons et_str (at_cons (et_lc (fr:=[none,none,none]) (N':=["lets","answer","found"]) (it_val (et_v 3)) (fun b=>⟨(gt_triple (pg_tup rfl (pgs_cons (pg_name (i:=0) (show List.Nodup (["lets","answer","found"]:List Str) from by decide +kernel) rfl (by first | exact Or.inl rfl | exact Or.inr rfl)) (pgs_cons (pg_name (i:=1) (show List.Nodup (["lets","answer","found"]:List Str) from by decide +kernel) rfl (by first | exact Or.inl rfl | exact Or.inr rfl)) (pgs_cons (pg_name (i:=2) (show List.Nodup (["lets","answer","found"]:List Str) from by decide +kernel) rfl (by first | exact Or.inl rfl | exact Or.inr rfl)) pgs_nil))))),if_nil,(et_v 0)⟩) (fun hi hY=>pe_lcc (show lcChk _ (defScope (top 25)) ["form","one","other","pairs","lets","answer","found"] ["lets","answer","found"] [none,none,none]=true from by decide +kernel) rfl hi hY)) at_nil)))))))),?_⟩
  show sSeq _ _ _ [.val (frmD fs an),.val (trD one),.val (trD other),.un,.un,.un,.un]
  have p125:=many_le F (LetsOk.whole fs)
  have hW:=LetsOk.whole fs
  have hle:=pairs_le F h1 h2 hW
  have hlen:((pairsT fs one other (fs.map entD)).map pairD).length=(pairsT fs one other (fs.map entD)).length:=List.length_map ..
  refine seq_set (.list ((pairsT fs one other (fs.map entD)).map pairD)) (fun q hq=>⟨_,rfl,_,rfl,_,rfl,fs,an,one,other,rfl,F,h1,h2,hd1,hd2,hq⟩) ?_
  refine seq_if (fun b=>b=false) (fun q hq=>⟨_,rfl,hq _ (decide_eq_false (by rw [hlen]; omega))⟩) (fun hT=>by cases hT) fun _=>?_
  try unfold sNext
  dsimp only
  refine seq_for (ts:=(pairsT fs one other (fs.map entD)).map pairD) (fun R h=>⟨_,rfl,_,rfl,h⟩)
    (fun i σ=>∃ s4 s5 s6:Sl,σ=[.val (frmD fs an),.val (trD one),.val (trD other),.val (.list ((pairsT fs one other (fs.map entD)).map pairD)),s4,s5,s6]∧∀ p ∈ (pairsT fs one other (fs.map entD)).take i,p.2.1=p.2.2) ⟨_,_,_,rfl,fun p hp=>by simp at hp⟩ (fun i x σ' hx hP=>?_) fun σ' hP=>?_
  · obtain ⟨s4,s5,s6,rfl,hsame⟩:=hP
    rw [List.getElem?_map] at hx
    obtain ⟨⟨L,a,b⟩,hpi,rfl⟩:=Option.map_eq_some_iff.mp hx
    have hp:=List.mem_of_getElem? hpi
    obtain ⟨k1,k2,k3⟩:=pairs_ok F h1 h2 hW hp
    replace k1:LetsOk fs L:=k1
    replace k2:anyNil L=false:=k2
    refine ⟨_,_,_,rfl,?_⟩
    refine one_if (fun t=>t=!decide (a=b)) (fun q hq=>⟨_,rfl,_,rfl,hq _ rfl⟩) (fun hT=>?_) fun hF=>?_
    · have hne:a ≠ b:=of_decide_eq_false (by simpa using hT.symm)
      have hin:=first_in k2
      obtain ⟨_,_,e1,e2,e3⟩:=k3 hin hin
      have hq:=hu (firstC L) ((mem_prod _ _).mpr e3) (by rw [e1,e2]; exact hne)
      show eTup _ _ _
      dsimp only [eTup,aCons,aNil,eCall,eC]
      refine lcx_map (ts:=L.map PyData.tuple) (fun R h=>⟨_,rfl,_,rfl,h⟩) headD (by rw [List.length_map,k1.1]; have:=F.n5; omega) (fun x q hx hq'=>?_) ⟨(Nat.le_of_ble_eq_true rfl),hq⟩
      obtain ⟨e,he,rfl⟩:=List.mem_map.mp hx
      have hne':=nil_mem k2 he
      cases e with
      | nil=>exact absurd rfl hne'
      | cons y e=>exact ⟨_,rfl,_,L2.atI_nat (j:=0) rfl,hq'⟩
    · have heq:a=b:=of_decide_eq_true (by simpa using hF.symm)
      refine ⟨_,_,_,rfl,fun p hp'=>?_⟩
      rw [List.take_add_one,hpi] at hp'
      rcases List.mem_append.mp hp' with hp' | hp'
      · exact hsame p hp'
      · have:p=(L,a,b):=by simpa using hp'
        subst this; exact heq
  · obtain ⟨s4,s5,s6,rfl,hsame⟩:=hP
    rw [List.length_map,List.take_length] at hsame
    have hall:∀ c,c ∈ prodF (fs.map entD)→ansL fs one c=ansL fs other c:=fun c hc=>by
      obtain ⟨p,hp,hpc⟩:=count_pos (one_pair F h1 h2 hW ((mem_prod _ c).mp hc))
      obtain ⟨_,_,k3⟩:=pairs_ok F h1 h2 hW hp
      obtain ⟨_,_,e1,e2,_⟩:=k3 hpc hpc
      rw [e1,e2]; exact hsame p hp
    have hq:=ha hall
    show eTup _ _ _
    dsimp only [eTup,aCons,aNil,eC]
    refine lct_map (ts:=(pairsT fs one other (fs.map entD)).map pairD) (fun R h=>⟨_,rfl,_,rfl,h⟩) (fun x=>match x with | .tuple (l::_)=>l | _=>.none) (by rw [hlen]; omega) (fun x hx=>?_) (fun u v z q hm hq'=>?_) ?_
    · obtain ⟨p,hp,rfl⟩:=List.mem_map.mp hx
      exact ⟨_,_,_,rfl⟩
    · exact ⟨_,rfl,hq'⟩
    · rw [List.map_map]; exact ⟨(Nat.le_of_ble_eq_true rfl),hq⟩

set_option maxHeartbeats 4000000 in
theorem okX_9 (T:Txt K mg A)
    (F_10:FnOk P w K mg base CX0 34 A.a_10 A.f_10 ["form","one","other"] (liftSp K sp_10)):FnOk P w K mg base (CX1 P w) 35 A.a_9 A.f_9 ["form","one","other"] (liftSpX K (sp_alikeX A)):=by
  refine fnX T.F_9 sc_9 (fun ds Q h=>by obtain ⟨fs,an,one,other,rfl,F,h1,h2,hd1,hd2,h2k,h⟩:=h; rfl) fun cdv Ar outer s H E hr ds ED h hE=>?_
  obtain ⟨fs,an,one,other,rfl,F,h1,h2,hd1,hd2,h2k,h⟩:=h
  have nd:=sc_9.nd
  refine ⟨_,(st_cons (st_set (i:=3) (et_call F_10 T.m_10 T.k_10 T.d_10 (hr.mono (by decide)) (at_cons (et_v 0) (at_cons (et_v 1) (at_cons (et_v 2) at_nil))) (fun h=>pe_call F_10 (hr.mono (by decide)) rfl T.m_10 T.k_10 T.d_10 .nil pass0 h)) (fun h=>ps_set (i:=3) nd rfl (by first | exact Or.inl rfl | exact Or.inr rfl) h))
  (st_cons (st_if (tt_cmp op_gt o_B0 (et_cb c_len (at_cons (et_v 3) at_nil) (fun h=>pe_callB call_lenAny rfl T.b_len bl_len h)) (et_gint rfl T.c_MOST_PAIRS))
  (st_one (st_raise hE T.X_TooMany (at_cons et_str at_nil) (fun h=>ps_raise T.R_TooMany hr rfl T.x_TooMany h)))
  st_nil)
  (st_cons st_no
  (st_one (st_ret (et_tup (at_cons et_str (at_cons (et_lc (fr:=[none,none,none]) (N':=["lets","answer","found"]) (it_val (et_v 3)) (fun b=>⟨(gt_triple (pg_tup rfl (pgs_cons (pg_name (i:=0) (show List.Nodup (["lets","answer","found"]:List Str) from by decide +kernel) rfl (by first | exact Or.inl rfl | exact Or.inr rfl)) (pgs_cons (pg_name (i:=1) (show List.Nodup (["lets","answer","found"]:List Str) from by decide +kernel) rfl (by first | exact Or.inl rfl | exact Or.inr rfl)) (pgs_cons (pg_name (i:=2) (show List.Nodup (["lets","answer","found"]:List Str) from by decide +kernel) rfl (by first | exact Or.inl rfl | exact Or.inr rfl)) pgs_nil))))),if_nil,(et_v 0)⟩) (fun hi hY=>pe_lcc (show lcChk _ (defScope (top 25)) ["form","one","other","pairs","lets","answer","found"] ["lets","answer","found"] [none,none,none]=true from by decide +kernel) rfl hi hY)) at_nil)))))))),?_⟩
  show sSeq _ _ _ [.val (frmD fs an),.val (trD one),.val (trD other),.un,.un,.un,.un]
  have hlen:((pairsT fs one other (fs.map entD)).map pairD).length=(pairsT fs one other (fs.map entD)).length:=List.length_map ..
  refine seq_set (.list ((pairsT fs one other (fs.map entD)).map pairD)) (fun q hq=>⟨_,rfl,_,rfl,_,rfl,fs,an,one,other,rfl,F,h1,h2,hd1,hd2,hq⟩) ?_
  refine seq_if (fun b=>b=true) (fun q hq=>⟨_,rfl,hq _ (decide_eq_true (by rw [hlen]; omega))⟩) (fun _=>?_) fun hF=>by cases hF
  exact seq_raise [.str "more than two thousand pairs of leaves"] (fun q hq=>hq) (by decide) h fun B hB=>hB

theorem sc_11:FnScope ["_law_script","_law_way_here"] ["_law_script"] (defScope (top 28)):=⟨rfl,rfl,rfl,by decide +kernel,rfl,by decide +kernel,by decide +kernel⟩
set_option maxHeartbeats 4000000 in
theorem ok_11 (T:Txt K mg A):FnOk P w K mg base CX0 1 A.a_11 A.f_11 ["_law_script"] (liftSpF K sp_11):=by
  refine fnF T.F_11 sc_11 (fun ds Q h=>by obtain ⟨ns,rfl,hl,h⟩:=h; rfl) fun cdv Ar outer s H E hr ds Q h=>?_
  obtain ⟨ns,rfl,hl,h⟩:=h
  have nd:=sc_11.nd
  refine ⟨_,(st_cons (st_set (i:=1) et_int (fun h=>ps_set (i:=1) nd rfl (by first | exact Or.inl rfl | exact Or.inr rfl) h))
  (st_cons (st_if (tt_cmp op_gt o_B0 (et_cb c_len (at_cons (et_v 0) at_nil) (fun h=>pe_callB call_lenAny rfl T.b_len bl_len h)) et_int)
  (st_one (st_set (i:=1) (et_op op_mod o_I (et_ix ix_seq o_ix (et_v 0) et_int) et_int) (fun h=>ps_set (i:=1) nd rfl (by first | exact Or.inl rfl | exact Or.inr rfl) h)))
  st_nil)
  (st_one (st_retF (ft_lst (at_cons (et_slice sl_any o_sl (et_v 0) ot_none (ot_some et_int)) (at_cons et_int (at_cons et_int (at_cons (et_v 1) at_nil))))))))),?_⟩
  show sSeq _ _ _ [.val (.list (ns.map PyData.int)),.un]
  refine seq_set (.int 0) (fun q hq=>hq) ?_
  refine seq_ifsetC (0 < ns.length) (fun d=>∃ c:Int,d=.int c∧(c=0 ∨ c=1)) (fun q hq=>⟨_,rfl,hq _ fun hb=>?_⟩) (fun hn q hq=>?_) (.int 0) rfl ⟨0,rfl,.inl rfl⟩ ?_
  · have hb':((ns.map PyData.int).length:Int) > 0:=of_decide_eq_true hb
    rw [List.length_map] at hb'
    omega
  · have e:L2.atI (ns.map PyData.int) 0=some (.int ns[0]):=L2.atI_nat (j:=0) (by rw [List.getElem?_map,List.getElem?_eq_getElem hn]; rfl)
    refine ⟨_,rfl,_,e,(show (0:Int) < 2 by decide),hq _ ⟨_,rfl,?_⟩⟩
    omega
  rintro _ ⟨c,rfl,hc⟩
  have ecut:cutD (ns.map PyData.int) none (some 63)=ns.map PyData.int:=by
    have:=cut_ns (ns.map PyData.int) 63
    rw [List.take_of_length_le (by rw [List.length_map]; exact hl)] at this
    exact this
  refine ⟨_,rfl,_,rfl,(Nat.le_of_ble_eq_true rfl),?_⟩
  rw [ecut]
  exact h c hc

theorem sc_12:FnScope ["_law_tape_here","_law_many","_law_script","_law_spot","_law_cell","_law_left","_law_mixed"] ["_law_tape_here","_law_many"] (defScope (top 29)):=⟨rfl,rfl,rfl,by decide +kernel,rfl,by decide +kernel,by decide +kernel⟩
set_option maxHeartbeats 4000000 in
theorem ok_12 (T:Txt K mg A):FnOk P w K mg base CX0 1 A.a_12 A.f_12 ["_law_tape_here","_law_many"] (liftSp K sp_12):=by
  refine fnT T.F_12 sc_12 (fun ds Q h=>by obtain ⟨ns,m,rfl,hl,hm0,hm1,h⟩:=h; rfl) fun cdv Ar outer s H E hr ds Q h=>?_
  obtain ⟨ns,m,rfl,hl,hm0,hm1,h⟩:=h
  have nd:=sc_12.nd
  refine ⟨_,(st_cons (st_set (i:=2) (et_tape (i:=0) 0 (pe_ix ix_seq (pv 0) pe_int (by intro _ _; rfl))) (fun h=>ps_set (i:=2) nd rfl (by first | exact Or.inl rfl | exact Or.inr rfl) h))
  (st_cons (st_set (i:=3) (et_tape (i:=0) 1 (pe_ix ix_seq (pv 0) pe_int (by intro _ _; rfl))) (fun h=>ps_set (i:=3) nd rfl (by first | exact Or.inl rfl | exact Or.inr rfl) h))
  (st_cons (st_tapePut (i:=0) 1 (et_op op_addAny o_add (et_v 3) et_int) (pg_sub (pv 0) pe_int set_list) (fun he hg=>ps_asg he hg))
  (st_cons (st_set (i:=4) et_int (fun h=>ps_set (i:=4) nd rfl (by first | exact Or.inl rfl | exact Or.inr rfl) h))
  (st_cons (st_if (tt_cmp op_gt o_B0 (et_cb c_len (at_cons (et_v 2) at_nil) (fun h=>pe_callB call_lenAny rfl T.b_len bl_len h)) et_int)
  (st_one (st_set (i:=4) (et_ix ix_seq o_ix (et_v 2) (et_op op_mod o_I (et_if (tt_cmp op_eq o_eq (et_tape (i:=0) 3 (pe_ix ix_seq (pv 0) pe_int (by intro _ _; rfl))) et_int) (et_op op_fdiv o_I (et_v 3) et_int) (et_v 3)) (et_cb c_len (at_cons (et_v 2) at_nil) (fun h=>pe_callB call_lenAny rfl T.b_len bl_len h)))) (fun h=>ps_set (i:=4) nd rfl (by first | exact Or.inl rfl | exact Or.inr rfl) h)))
  st_nil)
  (st_cons (st_if (tt_cmp op_eq o_eq (et_tape (i:=0) 3 (pe_ix ix_seq (pv 0) pe_int (by intro _ _; rfl))) et_int)
  (st_cons (st_if (tt_cmp op_eq o_eq (et_op op_mod o_I (et_v 3) et_int) et_int)
  (st_one (st_tapePut (i:=0) 2 (et_op op_fdiv o_I (et_v 4) et_int) (pg_sub (pv 0) pe_int set_list) (fun he hg=>ps_asg he hg)))
  st_nil)
  (st_cons (st_set (i:=5) (et_tape (i:=0) 2 (pe_ix ix_seq (pv 0) pe_int (by intro _ _; rfl))) (fun h=>ps_set (i:=5) nd rfl (by first | exact Or.inl rfl | exact Or.inr rfl) h))
  (st_cons (st_tapePut (i:=0) 2 (et_op op_fdiv o_I (et_v 5) (et_v 1)) (pg_sub (pv 0) pe_int set_list) (fun he hg=>ps_asg he hg))
  (st_one (st_ret (et_op op_mod o_I (et_v 5) (et_v 1)))))))
  st_nil)
  (st_cons (st_set (i:=6) (et_op op_mod o_I (et_op op_mulAny o_mul (et_op op_addAny o_add (et_op op_mod o_I (et_v 4) et_int) et_int) (et_op op_addAny o_add (et_op op_addAny o_add (et_op op_mulAny o_mul (et_op op_mod o_I (et_v 3) et_int) et_int) et_int) (et_v 3))) et_int) (fun h=>ps_set (i:=6) nd rfl (by first | exact Or.inl rfl | exact Or.inr rfl) h))
  (st_cons (st_set (i:=6) (et_op op_mod o_I (et_op op_addAny o_add (et_op op_addAny o_add (et_op op_mulAny o_mul (et_v 6) (et_v 6)) (et_op op_mulAny o_mul et_int (et_v 6))) (et_v 3)) et_int) (fun h=>ps_set (i:=6) nd rfl (by first | exact Or.inl rfl | exact Or.inr rfl) h))
  (st_one (st_ret (et_op op_mod o_I (et_op op_mod o_I (et_op op_mulAny o_mul (et_v 6) et_int) et_int) (et_v 1)))))))))))),?_⟩
  show sSeq _ _ _ [.val (tapeD ns),.val (.int m),.un,.un,.un,.un,.un]
  have p60:(0:Int) < 60:=by decide
  refine seq_set (.list (ns.map PyData.int)) (fun q hq=>⟨ns,rfl,hq⟩) ?_
  refine seq_setR (fun d=>∃ a:Int,d=.int a∧0≤a) (fun q hq=>⟨ns,rfl,fun a ha=>hq _ ⟨a,rfl,ha⟩⟩) ?_
  rintro _ ⟨a,rfl,ha⟩
  refine seq_tapePut1 ns rfl (a + 1) (fun q hq=>⟨_,rfl,hq⟩) (by omega) ?_
  refine seq_set (.int 0) (fun q hq=>hq) ?_
  refine seq_ifsetC (0 < ns.length) (fun d=>∃ c:Int,d=.int c) (fun q hq=>⟨_,rfl,hq _ fun hb=>?_⟩) (fun hn q hq=>?_) (.int 0) rfl ⟨0,rfl⟩ ?_
  · have hb':((ns.map PyData.int).length:Int) > 0:=of_decide_eq_true hb
    rw [List.length_map] at hb'
    omega
  · have hp:(0:Int) < ((ns.map PyData.int).length:Nat):=by rw [List.length_map]; omega
    refine ⟨_,rfl,ns,rfl,fun c hc=>?_⟩
    show (if decide (c=1)=true then _ else _)
    split
    · obtain ⟨x,hx⟩:=atI_modI hn (a / 60)
      exact ⟨_,rfl,⟨by decide,by decide⟩,_,rfl,hp,_,hx,hq _ ⟨x,rfl⟩⟩
    · obtain ⟨x,hx⟩:=atI_modI hn a
      exact ⟨_,rfl,_,rfl,hp,_,hx,hq _ ⟨x,rfl⟩⟩
  rintro _ ⟨c,rfl⟩
  refine seq_if (fun _=>True) (fun q hq=>⟨ns,rfl,fun w hw=>hq _ trivial⟩) (fun _=>?_) fun _=>?_
  · refine seq_if (fun _=>True) (fun q hq=>⟨_,rfl,p60,hq _ trivial⟩) (fun _=>?_) fun _=>?_
    · refine one_tapePut2 ns rfl (c / 2) (fun q hq=>⟨_,rfl,⟨by decide,by decide⟩,hq⟩) ?_
      dsimp only
      refine seq_setR (fun d=>∃ b:Int,d=.int b) (fun q hq=>⟨ns,rfl,fun b=>hq _ ⟨b,rfl⟩⟩) ?_
      rintro _ ⟨b,rfl⟩
      refine seq_tapePut2 ns rfl (b / m) (fun q hq=>⟨_,rfl,_,rfl,⟨hm0,by omega⟩,hq⟩) ?_
      exact ⟨_,rfl,_,rfl,hm0,h _ (Int.emod_nonneg _ (by omega)) (Int.emod_lt_of_pos _ hm0)⟩
    · unfold sNext
      dsimp only
      refine seq_setR (fun d=>∃ b:Int,d=.int b) (fun q hq=>⟨ns,rfl,fun b=>hq _ ⟨b,rfl⟩⟩) ?_
      rintro _ ⟨b,rfl⟩
      refine seq_tapePut2 ns rfl (b / m) (fun q hq=>⟨_,rfl,_,rfl,⟨hm0,by omega⟩,hq⟩) ?_
      exact ⟨_,rfl,_,rfl,hm0,h _ (Int.emod_nonneg _ (by omega)) (Int.emod_lt_of_pos _ hm0)⟩
  · unfold sNext
    dsimp only
    have q1:(0:Int) < 1000003:=by decide
    have q2:(0:Int) < 997:=by decide
    have q3:(0:Int) < 1000033:=by decide
    have q4:(0:Int) < 999983:=by decide
    have q5:(0:Int) < 65537:=by decide
    have c0:(0:Int)≤c % 1000003∧c % 1000003 < 1000003:=⟨Int.emod_nonneg _ (by decide),Int.emod_lt_of_pos _ (by decide)⟩
    have a0:(0:Int)≤a % 997∧a % 997 < 997:=⟨Int.emod_nonneg _ (by decide),Int.emod_lt_of_pos _ (by decide)⟩
    refine seq_setR (fun d=>∃ x:Int,d=.int x∧0≤x∧x < 1000033) (fun q hq=>⟨_,rfl,q1,_,rfl,q2,.inr ⟨by decide,by decide⟩,_,rfl,.inl ⟨by omega,by omega⟩,q3,hq _ ⟨_,rfl,Int.emod_nonneg _ (by decide),Int.emod_lt_of_pos _ (by decide)⟩⟩) ?_
    rintro _ ⟨x,rfl,x0,x1⟩
    refine seq_setR (fun d=>∃ x:Int,d=.int x∧0≤x∧x < 999983) (fun q hq=>⟨_,rfl,_,rfl,.inl ⟨by omega,by omega⟩,_,rfl,.inl ⟨by decide,by decide⟩,_,rfl,q4,hq _ ⟨_,rfl,Int.emod_nonneg _ (by decide),Int.emod_lt_of_pos _ (by decide)⟩⟩) ?_
    rintro _ ⟨y,rfl,y0,y1⟩
    exact ⟨_,rfl,.inl ⟨by omega,by omega⟩,q5,_,rfl,hm0,h _ (Int.emod_nonneg _ (by omega)) (Int.emod_lt_of_pos _ hm0)⟩

theorem sc_13:FnScope ["_law_tape_here","_law_many","_law_letters","_law_way_here","_law_some","_law_turn","_law_base","_law_size","_law_names_here","_law_at","_law_start"] ["_law_tape_here","_law_many"] (defScope (top 30)):=⟨rfl,rfl,rfl,by decide +kernel,rfl,by decide +kernel,by decide +kernel⟩
set_option maxHeartbeats 4000000 in
theorem ok_13 (T:Txt K mg A)
    (F_12:FnOk P w K mg base CX0 1 A.a_12 A.f_12 ["_law_tape_here","_law_many"] (liftSp K sp_12)):FnOk P w K mg base CX0 2 A.a_13 A.f_13 ["_law_tape_here","_law_many"] (liftSp K sp_13):=by
  refine fnT T.F_13 sc_13 (fun ds Q h=>by obtain ⟨ns,m,rfl,hl,hm1,hm5,h⟩:=h; rfl) fun cdv Ar outer s H E hr ds Q h=>?_
  obtain ⟨ns,m,rfl,hl,hm1,hm5,h⟩:=h
  have nd:=sc_13.nd
  refine ⟨_,(st_cons (st_set (i:=2) et_str (fun h=>ps_set (i:=2) nd rfl (by first | exact Or.inl rfl | exact Or.inr rfl) h))
  (st_cons (st_set (i:=3) (et_call F_12 T.m_12 T.k_12 T.d_12 (hr.mono (by decide)) (at_cons (et_v 0) (at_cons et_int at_nil)) (fun h=>pe_call F_12 (hr.mono (by decide)) rfl T.m_12 T.k_12 T.d_12 .nil pass0 h)) (fun h=>ps_set (i:=3) nd rfl (by first | exact Or.inl rfl | exact Or.inr rfl) h))
  (st_cons (st_if (tt_cmp op_eq o_eq (et_v 3) et_int)
  (st_cons (st_setN (i:=4) nd rfl (by first | exact Or.inl rfl | exact Or.inr rfl) (et_lst (at_consts rfl)))
  (st_cons (st_set (i:=5) (et_call F_12 T.m_12 T.k_12 T.d_12 (hr.mono (by decide)) (at_cons (et_v 0) (at_cons et_int at_nil)) (fun h=>pe_call F_12 (hr.mono (by decide)) rfl T.m_12 T.k_12 T.d_12 .nil pass0 h)) (fun h=>ps_set (i:=5) nd rfl (by first | exact Or.inl rfl | exact Or.inr rfl) h))
  (st_one (st_ret (et_slice sl_any o_sl (et_op op_addAny o_add (et_slice sl_any o_sl (et_v 4) (ot_some (et_v 5)) ot_none) (et_slice sl_any o_sl (et_v 4) ot_none (ot_some (et_v 5)))) ot_none (ot_some (et_v 1)))))))
  st_nil)
  (st_cons (st_set (i:=6) (et_join et_str (at_cons (et_lc (fr:=[none,some 2,some 0]) (N':=["_law_k","_law_letters","_law_tape_here"]) (it_range (at_cons et_int at_nil) (fun h=>pi_range1 rfl T.b_range h)) (fun b=>⟨(gt_name (pg_name (i:=0) (show List.Nodup (["_law_k","_law_letters","_law_tape_here"]:List Str) from by decide +kernel) rfl (by first | exact Or.inl rfl | exact Or.inr rfl))),if_nil,(et_ix ix_seq o_ix (et_v 1) (et_call F_12 T.m_12 T.k_12 T.d_12 (hr.mono (by decide)) (at_cons (et_v 2) (at_cons et_int at_nil)) (fun h=>pe_call F_12 (hr.mono (by decide)) rfl T.m_12 T.k_12 T.d_12 .nil pass0 h)))⟩) (fun hi hY=>pe_lcc (show lcChk _ (defScope (top 30)) ["_law_tape_here","_law_many","_law_letters","_law_way_here","_law_some","_law_turn","_law_base","_law_size","_law_names_here","_law_at","_law_start"] ["_law_k","_law_letters","_law_tape_here"] [none,some 2,some 0]=true from by decide +kernel) rfl hi hY)) at_nil) (fun h ha=>pe_bm PySem.F.plainAttrs_str PySem.F.slot_str_join PySem.F.type_str_join mt_join h ha)) (fun h=>ps_set (i:=6) nd rfl (by first | exact Or.inl rfl | exact Or.inr rfl) h))
  (st_cons (st_if (tt_cmp op_eq o_eq (et_v 3) et_int)
  (st_cons (st_set (i:=7) (et_op op_addAny o_add et_int (et_call F_12 T.m_12 T.k_12 T.d_12 (hr.mono (by decide)) (at_cons (et_v 0) (at_cons (et_op op_sub o_I0 et_int (et_v 1)) at_nil)) (fun h=>pe_call F_12 (hr.mono (by decide)) rfl T.m_12 T.k_12 T.d_12 .nil pass0 h))) (fun h=>ps_set (i:=7) nd rfl (by first | exact Or.inl rfl | exact Or.inr rfl) h))
  (st_cons (st_setlc (i:=8) (fr:=[none,some 6,some 7]) (N':=["_law_k","_law_base","_law_size"]) (it_range (at_cons (et_v 1) at_nil) (fun h=>pi_range1 rfl T.b_range h)) (fun b=>⟨(gt_name (pg_name (i:=0) (show List.Nodup (["_law_k","_law_base","_law_size"]:List Str) from by decide +kernel) rfl (by first | exact Or.inl rfl | exact Or.inr rfl))),if_nil,(et_slice sl_any o_sl (et_v 1) ot_none (ot_some (et_op op_addAny o_add (et_v 2) (et_v 0))))⟩) (fun hi hY=>ps_setlcc (show lcChk _ (defScope (top 30)) ["_law_tape_here","_law_many","_law_letters","_law_way_here","_law_some","_law_turn","_law_base","_law_size","_law_names_here","_law_at","_law_start"] ["_law_k","_law_base","_law_size"] [none,some 6,some 7]=true from by decide +kernel) nd rfl (by first | exact Or.inl rfl | exact Or.inr rfl) rfl hi hY rfl))
  (st_cons (st_set (i:=5) (et_call F_12 T.m_12 T.k_12 T.d_12 (hr.mono (by decide)) (at_cons (et_v 0) (at_cons (et_v 1) at_nil)) (fun h=>pe_call F_12 (hr.mono (by decide)) rfl T.m_12 T.k_12 T.d_12 .nil pass0 h)) (fun h=>ps_set (i:=5) nd rfl (by first | exact Or.inl rfl | exact Or.inr rfl) h))
  (st_cons (st_ret (et_op op_addAny o_add (et_slice sl_any o_sl (et_v 8) (ot_some (et_v 5)) ot_none) (et_slice sl_any o_sl (et_v 8) ot_none (ot_some (et_v 5)))))
  (st_share 8 st_nil)))))
  st_nil)
  (st_cons (st_set (i:=7) (et_op op_addAny o_add et_int (et_call F_12 T.m_12 T.k_12 T.d_12 (hr.mono (by decide)) (at_cons (et_v 0) (at_cons et_int at_nil)) (fun h=>pe_call F_12 (hr.mono (by decide)) rfl T.m_12 T.k_12 T.d_12 .nil pass0 h))) (fun h=>ps_set (i:=7) nd rfl (by first | exact Or.inl rfl | exact Or.inr rfl) h))
  (st_cons (st_set (i:=9) (et_call F_12 T.m_12 T.k_12 T.d_12 (hr.mono (by decide)) (at_cons (et_v 0) (at_cons (et_v 7) at_nil)) (fun h=>pe_call F_12 (hr.mono (by decide)) rfl T.m_12 T.k_12 T.d_12 .nil pass0 h)) (fun h=>ps_set (i:=9) nd rfl (by first | exact Or.inl rfl | exact Or.inr rfl) h))
  (st_cons (st_set (i:=10) (et_call F_12 T.m_12 T.k_12 T.d_12 (hr.mono (by decide)) (at_cons (et_v 0) (at_cons et_int at_nil)) (fun h=>pe_call F_12 (hr.mono (by decide)) rfl T.m_12 T.k_12 T.d_12 .nil pass0 h)) (fun h=>ps_set (i:=10) nd rfl (by first | exact Or.inl rfl | exact Or.inr rfl) h))
  (st_one (st_ret (et_lc (fr:=[none,some 6,some 2,some 7,some 9,some 10]) (N':=["_law_k","_law_base","_law_letters","_law_size","_law_at","_law_start"]) (it_range (at_cons (et_v 1) at_nil) (fun h=>pi_range1 rfl T.b_range h)) (fun b=>⟨(gt_name (pg_name (i:=0) (show List.Nodup (["_law_k","_law_base","_law_letters","_law_size","_law_at","_law_start"]:List Str) from by decide +kernel) rfl (by first | exact Or.inl rfl | exact Or.inr rfl))),if_nil,(et_op op_addAny o_add (et_op op_addAny o_add (et_slice sl_any o_sl (et_v 1) ot_none (ot_some (et_v 4))) (et_ix ix_seq o_ix (et_v 2) (et_op op_mod o_I (et_op op_addAny o_add (et_v 5) (et_v 0)) et_int))) (et_slice sl_any o_sl (et_v 1) (ot_some (et_op op_addAny o_add (et_v 4) et_int)) (ot_some (et_v 3))))⟩) (fun hi hY=>pe_lcc (show lcChk _ (defScope (top 30)) ["_law_tape_here","_law_many","_law_letters","_law_way_here","_law_some","_law_turn","_law_base","_law_size","_law_names_here","_law_at","_law_start"] ["_law_k","_law_base","_law_letters","_law_size","_law_at","_law_start"] [none,some 6,some 2,some 7,some 9,some 10]=true from by decide +kernel) rfl hi hY)))))))))))),?_⟩
  show sSeq _ _ _ [.val (tapeD ns),.val (.int m),.un,.un,.un,.un,.un,.un,.un,.un,.un]
  refine seq_set (.str letters) (fun q hq=>hq) ?_
  refine seq_setR (fun d=>∃ w:Int,d=.int w) (fun q hq=>⟨_,rfl,ns,4,rfl,hl,by decide,by decide,fun r _ _=>hq _ ⟨r,rfl⟩⟩) ?_
  rintro _ ⟨w,rfl⟩
  have nat:∀ r:Int,0≤r→∃ t:Nat,PyData.int r=.int (t:Int)∧r=(t:Int):=fun r h0=>⟨r.toNat,by rw [Int.toNat_of_nonneg h0],(Int.toNat_of_nonneg h0).symm⟩
  refine seq_if (fun b=>b=decide (w=0)) (fun q hq=>⟨_,rfl,hq _ rfl⟩) (fun _=>?_) fun _=>?_
  · refine seq_set (.list (names12.map PyData.str)) (fun q hq=>⟨by decide,hq⟩) ?_
    refine seq_setR (fun d=>∃ t:Nat,d=.int (t:Int)) (fun q hq=>⟨_,rfl,ns,12,rfl,hl,by decide,by decide,fun r h0 _=>hq _ ((nat r h0).imp fun _ e=>e.1)⟩) ?_
    rintro _ ⟨t,rfl⟩
    refine ⟨_,rfl,_,rfl,_,rfl,_,rfl,?_,_,rfl,?_⟩
    · rw [cut_map,cut_map,List.length_map,List.length_map,cut_sn,cut_ns,List.length_drop,List.length_take]
      show 12 - t + min t 12≤100000
      omega
    · show Q (.list (cutD (cutD (names12.map PyData.str) (some (t:Int)) none++cutD (names12.map PyData.str) none (some (t:Int))) none (some (m:Int))))
      rw [cut_map,cut_map,← List.map_append,cut_map,cut_sn,cut_ns,cut_ns]
      exact h _ (nms_turnN nms12 t (by omega))
  · unfold sNext
    dsimp only
    refine seq_setR (fun d=>∃ z:Str,d=.str z∧z.cps.toList.length=8∧∀ c ∈ z.cps.toList,c ∈ letters.cps.toList) (fun q hq=>?_) ?_
    · refine ⟨_,rfl,?_⟩
      refine lcx_in (ts:=intsTo 8) (fun R h=>⟨8,rfl,by decide,by decide,h⟩) (fun _ _ y=>∃ c,c ∈ letters.cps.toList∧y=.str ⟨#[c]⟩) (by decide) (fun j x q hx hq=>?_) fun ys hl' hy=>?_
      · refine ⟨_,rfl,_,rfl,ns,26,rfl,hl,by decide,by decide,fun r h0 h1=>?_⟩
        obtain ⟨c,hc,hcc,_⟩:=atI_in (xs:=letters.cps.toList) (i:=r) h0 (by rw [letters_len]; exact h1)
        exact ⟨by decide,c,hcc,hq _ ⟨c,hc,rfl⟩⟩
      · obtain ⟨cs,rfl,hcl⟩:=signs_of (ys:=ys) fun y hy'=>by
          obtain ⟨j,hj,rfl⟩:=List.mem_iff_getElem.mp hy'
          have hjt:j < (intsTo 8).length:=by rw [← hl']; exact hj
          exact hy j (intsTo 8)[j] _ (List.getElem?_eq_getElem hjt) (List.getElem?_eq_getElem hj)
        have hl8:cs.length=8:=by rw [List.length_map,intsTo_len] at hl'; exact hl'
        refine ⟨cs.map fun c=>⟨#[c]⟩,by rw [List.map_map]; rfl,?_,hq _ ⟨_,rfl,?_,?_⟩⟩
        · rw [List.length_map,List.map_map,hl8]
          have:(List.map ((fun x:Str=>x.length) ∘ fun c=>(⟨#[c]⟩:Str)) cs).sum=cs.length:=by
            clear hl8 hl' hy hcl
            induction cs with
            | nil=>rfl
            | cons a l ih=>rw [List.map_cons,List.sum_cons,ih,List.length_cons]; show 1 + _=_; omega
          rw [this,hl8]
          decide
        · rw [show (Txt.join (Str.ofString "") (cs.map fun c=>⟨#[c]⟩)).cps.toList=cs from join_signs cs]; exact hl8
        · rw [show (Txt.join (Str.ofString "") (cs.map fun c=>⟨#[c]⟩)).cps.toList=cs from join_signs cs]; exact hcl
    rintro _ ⟨z,rfl,hz8,hzl⟩
    have hz:z.length≤100000:=by
      have:z.length=z.cps.toList.length:=by simp [Str.length]
      omega
    refine seq_if (fun b=>b=decide (w=1)) (fun q hq=>⟨_,rfl,hq _ rfl⟩) (fun _=>?_) fun _=>?_
    · refine seq_setR (fun d=>∃ k:Nat,d=.int (k:Int)∧1≤k∧k + m≤9) (fun q hq=>⟨_,rfl,_,rfl,ns,9 - (m:Int),rfl,hl,by omega,by omega,fun r h0 h1=>hq _ ⟨(1 + r).toNat,by rw [Int.toNat_of_nonneg (by omega)],by omega,by omega⟩⟩) ?_
      rintro _ ⟨k,rfl,hk1,hk9⟩
      refine seq_set (.list (((List.range m).map fun j:Nat=>Txt.slice z none (some ((k:Int) + (j:Int)))).map PyData.str)) (fun q hq=>?_) ?_
      · refine lcx_map (ts:=intsTo m) (fun R h=>⟨_,rfl,(m:Int),rfl,by omega,by omega,by simpa using h⟩) (fun x=>match x with | .int j=>.str (Txt.slice z none (some ((k:Int) + j))) | _=>.none) (by rw [intsTo_len]; omega) (fun x q hx hq=>?_) ?_
        · obtain ⟨j,hj,rfl⟩:=List.mem_map.mp hx
          exact ⟨_,rfl,_,rfl,_,rfl,hz,hq⟩
        · unfold intsTo
          rw [List.map_map]
          rw [List.map_map] at hq
          exact hq
      refine seq_setR (fun d=>∃ t:Nat,d=.int (t:Int)) (fun q hq=>⟨_,rfl,_,rfl,ns,(m:Int),rfl,hl,by omega,by omega,fun r h0 _=>hq _ ((nat r h0).imp fun _ e=>e.1)⟩) ?_
      rintro _ ⟨t,rfl⟩
      have hnb:=nms_base hz8 hzl hk1 hk9
      have fin:∀ ys:List Str,Nms m ys→(cutD (ys.map PyData.str) (some (t:Int)) none).length + (cutD (ys.map PyData.str) none (some (t:Int))).length≤100000∧Q (.list (cutD (ys.map PyData.str) (some (t:Int)) none++cutD (ys.map PyData.str) none (some (t:Int)))):=fun ys hy=>by
        have h1:=hy.1
        rw [cut_map,cut_map,← List.map_append,List.length_map,List.length_map,cut_sn,cut_ns,List.length_drop,List.length_take]
        exact ⟨by omega,h _ (nms_turnW hy t)⟩
      exact ⟨_,rfl,_,rfl,_,rfl,_,rfl,fin _ hnb⟩
    · try unfold sNext
      dsimp only
      refine seq_setR (fun d=>∃ k:Nat,d=.int (k:Int)∧1≤k∧k≤8) (fun q hq=>⟨_,rfl,ns,8,rfl,hl,by decide,by decide,fun r h0 h1=>hq _ ⟨(1 + r).toNat,by rw [Int.toNat_of_nonneg (by omega)],by omega,by omega⟩⟩) ?_
      rintro _ ⟨k,rfl,hk1,hk8⟩
      refine seq_setR (fun d=>∃ t:Nat,d=.int (t:Int)∧t < k) (fun q hq=>⟨_,rfl,_,rfl,ns,(k:Int),rfl,hl,by omega,by omega,fun r h0 h1=>hq _ ⟨r.toNat,by rw [Int.toNat_of_nonneg h0],by omega⟩⟩) ?_
      rintro _ ⟨t,rfl,htk⟩
      refine seq_setR (fun d=>∃ s:Nat,d=.int (s:Int)) (fun q hq=>⟨_,rfl,ns,26,rfl,hl,by decide,by decide,fun r h0 _=>hq _ ((nat r h0).imp fun _ e=>e.1)⟩) ?_
      rintro _ ⟨s,rfl⟩
      refine lcx_map (ts:=intsTo m) (fun R h=>⟨_,rfl,(m:Int),rfl,by omega,by omega,by simpa using h⟩) (fun x=>match x with | .int j=>.str (wordAt z t k (cAt ((s + j.toNat) % 26))) | _=>.none) (by rw [intsTo_len]; omega) (fun x q hx hq=>?_) ?_
      · obtain ⟨j,hj,rfl⟩:=List.mem_map.mp hx
        have e:((s:Int) + (j:Int)) % 26=(((s + j) % 26:Nat):Int):=by omega
        have hc:=cAt_get (i:=(s + j) % 26) (Nat.mod_lt _ (by decide))
        have hca:L2.atI letters.cps.toList (((s:Int) + (j:Int)) % 26)=some (cAt ((s + j) % 26)):=by rw [e]; exact L2.atI_nat hc
        obtain ⟨w1,w2⟩:=wordAt_len z hz8 t k (cAt ((s + j) % 26))
        exact ⟨_,rfl,_,rfl,hz,_,rfl,_,rfl,_,rfl,(show (0:Int) < 26 by decide),by decide,_,hca,w1,_,rfl,_,rfl,_,rfl,hz,w2,hq⟩
      · unfold intsTo
        rw [List.map_map]
        have:=h _ (nms_words hz8 hzl (k:=k) (t:=t) (s:=s) (m:=m) hk8 htk (by omega))
        rw [List.map_map] at this
        exact this

theorem sc_14:FnScope ["_law_form"] ["_law_form"] (defScope (top 31)):=⟨rfl,rfl,rfl,by decide +kernel,rfl,by decide +kernel,by decide +kernel⟩
set_option maxHeartbeats 4000000 in
theorem ok_14 (T:Txt K mg A):FnOk P w K mg base CX0 1 A.a_14 A.f_14 ["_law_form"] (liftSp K sp_14):=by
  refine fnT T.F_14 sc_14 (fun ds Q h=>by obtain ⟨fs,an,rfl,F,h⟩:=h; rfl) fun cdv Ar outer s H E hr ds Q h=>?_
  obtain ⟨fs,an,rfl,F,h⟩:=h
  have nd:=sc_14.nd
  refine ⟨_,(st_one (st_ret (et_cb c_tuple (at_cons (et_lc (fr:=[none]) (N':=["_law_field"]) (it_val (et_ix ix_seq o_ix (et_v 0) et_int)) (fun b=>⟨(gt_name (pg_name (i:=0) (show List.Nodup (["_law_field"]:List Str) from by decide +kernel) rfl (by first | exact Or.inl rfl | exact Or.inr rfl))),if_nil,(et_op op_addAny o_add (et_ix ix_seq o_ix (et_v 0) et_int) (et_tup (at_cons et_non at_nil)))⟩) (fun hi hY=>pe_lcc (show lcChk _ (defScope (top 31)) ["_law_form"] ["_law_field"] [none]=true from by decide +kernel) rfl hi hY)) at_nil) (fun h=>pe_callTy call_tuple_of rfl T.b_tuple bl_tuple h)))),?_⟩
  have n5:=F.n5
  have e:(fs.map fldD).map (fun x=>match x with | .tuple [_,.tuple vs]=>.tuple (vs++[.none]) | _=>x)=(fs.map entD).map PyData.tuple:=by rw [List.map_map,List.map_map]; rfl
  show eCall (f1 gTuple) _ _ Q
  dsimp only [eCall,aCons,aNil]
  refine lcx_map (ts:=fs.map fldD) (fun R h=>⟨_,rfl,_,rfl,_,rfl,h⟩) (fun x=>match x with | .tuple [_,.tuple vs]=>.tuple (vs++[.none]) | _=>x) (by rw [List.length_map]; omega) (fun x q hx hq=>?_) ?_
  · obtain ⟨f,hf,rfl⟩:=List.mem_map.mp hx
    have v5:=(F.vs f hf).2.1
    exact ⟨_,rfl,_,rfl,(Nat.le_of_ble_eq_true rfl),by rw [List.length_map]; show _ + 1≤_; omega,hq⟩
  · show Q (.tuple _)
    rw [e]; exact h

theorem sc_15:FnScope ["_law_form","_law_knot","_law_case","_law_kind","_law_name","_law_value","_law_at","_law_values"] ["_law_form","_law_knot","_law_case"] (defScope (top 32)):=⟨rfl,rfl,rfl,by decide +kernel,rfl,by decide +kernel,by decide +kernel⟩
set_option maxHeartbeats 4000000 in
theorem ok_15 (T:Txt K mg A):FnOk P w K mg base CX0 1 A.a_15 A.f_15 ["_law_form","_law_knot","_law_case"] (liftSp K sp_15):=by
  refine fnT T.F_15 sc_15 (fun ds Q h=>by obtain ⟨fs,an,k,n,v,s,x0,rest,cs,rfl,F,ht,hc,h⟩:=h; rfl) fun cdv Ar outer s H E hr ds Q h=>?_
  obtain ⟨fs,an,k,n,v,s,x0,rest,cs,rfl,F,ht,hc,h⟩:=h
  have nd:=sc_15.nd
  refine ⟨_,(st_cons (st_unpG (et_ix ix_seq o_ix (et_v 1) et_int) (gt_triple (pg_tup rfl (pgs_cons (pg_name (i:=3) nd rfl (by first | exact Or.inl rfl | exact Or.inr rfl)) (pgs_cons (pg_name (i:=4) nd rfl (by first | exact Or.inl rfl | exact Or.inr rfl)) (pgs_cons (pg_name (i:=5) nd rfl (by first | exact Or.inl rfl | exact Or.inr rfl)) pgs_nil))))) (fun he hg=>ps_asg he hg))
  (st_cons (st_set (i:=6) (et_lindex (et_lc (fr:=[none]) (N':=["_law_field"]) (it_val (et_ix ix_seq o_ix (et_v 0) et_int)) (fun b=>⟨(gt_name (pg_name (i:=0) (show List.Nodup (["_law_field"]:List Str) from by decide +kernel) rfl (by first | exact Or.inl rfl | exact Or.inr rfl))),if_nil,(et_ix ix_seq o_ix (et_v 0) et_int)⟩) (fun hi hY=>pe_lcc (show lcChk _ (defScope (top 32)) ["_law_form","_law_knot","_law_case","_law_kind","_law_name","_law_value","_law_at","_law_values"] ["_law_field"] [none]=true from by decide +kernel) rfl hi hY)) (at_cons (et_v 4) at_nil) (fun h ha=>pe_bm PySem.F.plainAttrs_list PySem.F.slot_list_index PySem.F.type_list_index (mt_lindex hr) h ha)) (fun h=>ps_set (i:=6) nd rfl (by first | exact Or.inl rfl | exact Or.inr rfl) h))
  (st_cons (st_set (i:=7) (et_ix ix_seq o_ix (et_ix ix_seq o_ix (et_ix ix_seq o_ix (et_v 0) et_int) (et_v 6)) et_int) (fun h=>ps_set (i:=7) nd rfl (by first | exact Or.inl rfl | exact Or.inr rfl) h))
  (st_cons (st_if (tt_cmp op_is2 o_is2 (et_ix ix_seq o_ix (et_v 2) (et_v 6)) et_non)
  (st_one (st_ret (et_ix ix_seq o_ix (et_v 1) et_int)))
  st_nil)
  (st_cons (st_if (tw_pt (tw_or (tt_cmp op_eq o_eq (et_ix ix_seq o_ix (et_v 2) (et_v 6)) (et_v 5)) (tw_or1 (tw_pt (tw_and (tt_cmp op_eq o_eq (et_v 3) et_str) (tw_and1 (tt_cmp op_lt o_B0 (et_index (et_v 7) (at_cons (et_ix ix_seq o_ix (et_v 2) (et_v 6)) at_nil) (fun h ha=>pe_bm PySem.F.plainAttrs_tuple PySem.F.slot_tuple_index PySem.F.type_tuple_index (mt_index hr) h ha)) (et_index (et_v 7) (at_cons (et_v 5) at_nil) (fun h ha=>pe_bm PySem.F.plainAttrs_tuple PySem.F.slot_tuple_index PySem.F.type_tuple_index (mt_index hr) h ha)))))))))
  (st_one (st_ret et_str))
  st_nil)
  (st_one (st_ret et_str))))))),?_⟩
  show sSeq _ _ _ [.val (frmD fs an),.val (.tuple (x0::.tuple [.str k,.str n,.str v]::.str s::rest)),.val (.tuple cs),.un,.un,.un,.un,.un]
  obtain ⟨hq,hs⟩:=ht
  obtain ⟨hcl,hcv⟩:=case_get hc
  have n5:=F.n5
  obtain ⟨f0,hj,hf0,hfn,hv0,hk0⟩:=jx_get F hq
  generalize jx fs n=j at hj
  have hjl:=(List.getElem?_eq_some_iff.mp hj).1
  have ej:(fs.map (·.1)).idxOf n=j:=by rw [← hfn]; exact name_at F hj
  have hnm:n ∈ fs.map (·.1):=List.mem_map.mpr ⟨f0,hf0,hfn⟩
  have hcj:cs[j]?=some cs[j]:=List.getElem?_eq_getElem (by omega)
  generalize hcc:cs[j]=c at hcj
  have hca:L2.atI cs (j:Int)=some c:=L2.atI_nat hcj
  have hfa:L2.atI (fs.map fldD) (j:Int)=some (fldD f0):=L2.atI_nat (by rw [List.getElem?_map,hj]; rfl)
  have hok:=hcv j f0 c hj hcj
  rw [sideS_at F hj hcj hfn] at h
  refine seq_unp3 (a:=.str k) (b:=.str n) (c:=.str v) (fun q hq=>⟨_,rfl,_,L2.atI_nat (j:=1) rfl,hq⟩) ?_
  refine seq_set (.int (j:Int)) (fun q hq=>?_) ?_
  · dsimp only [eLIndex]
    refine lcx_map (ts:=fs.map fldD) (fun R h=>⟨_,rfl,_,rfl,_,rfl,h⟩) fst (by rw [List.length_map]; omega) (fun x q hx hq=>?_) ?_
    · obtain ⟨f,hf,rfl⟩:=List.mem_map.mp hx
      exact ⟨_,rfl,_,rfl,hq⟩
    · have e:(fs.map fldD).map fst=(fs.map (·.1)).map PyData.str:=by rw [List.map_map,List.map_map]; rfl
      rw [e]
      have:=okIx_strs F.nd.2.1 hnm
      rw [ej] at this
      exact ⟨_,rfl,_,rfl,_,j,rfl,this,by omega,hq⟩
  refine seq_set (.tuple (f0.2.map PyData.str)) (fun q hq=>⟨_,rfl,_,rfl,_,rfl,_,hfa,_,rfl,hq⟩) ?_
  refine seq_if (fun b=>b=isNoneD c) (fun q hq=>⟨_,rfl,_,rfl,_,hca,hq _ rfl⟩) (fun hT=>?_) fun hF=>?_
  · cases c with
    | none=>exact ⟨_,rfl,_,L2.atI_nat (j:=2) rfl,h⟩
    | _=>cases hT
  try unfold sNext
  dsimp only
  cases c with
  | none=>cases hF
  | str z =>
    have hz:z ∈ f0.2:=of_decide_eq_true hok
    have i1:=okIx_strs (F.vals hf0) hz
    have i2:=okIx_strs (F.vals hf0) hv0
    have nd0:=(F.vs f0 hf0).2.2.2.2
    have h':Q (.str (if k="is" then (if z=v then "yes" else "no") else if f0.2.idxOf z≤f0.2.idxOf v then "yes" else "no")):=h
    have key:(if (decide (z=v) || (decide (k="upto") && decide ((f0.2.idxOf z:Int) < (f0.2.idxOf v:Int))))=true then ("yes":Str) else "no")=(if k="is" then (if z=v then ("yes":Str) else "no") else if f0.2.idxOf z≤f0.2.idxOf v then ("yes":Str) else "no"):=by
      by_cases e:z=v
      · subst e
        rw [decide_eq_true rfl,Bool.true_or,if_pos rfl]
        split
        · exact (if_pos rfl).symm
        · exact (if_pos (Nat.le_refl _)).symm
      · rw [decide_eq_false e,Bool.false_or]
        rcases hk0 with rfl | rfl
        · rw [if_pos rfl,if_neg e,if_neg]
          rw [decide_eq_false (by decide +kernel)]; simp
        · rw [if_neg (show ¬ ("upto":Str)="is" by decide +kernel),decide_eq_true rfl,Bool.true_and]
          have hne:f0.2.idxOf z ≠ f0.2.idxOf v:=fun z'=>e (by
            have h1:=List.getElem_idxOf (List.idxOf_lt_length_iff.mpr hz)
            have h2:=List.getElem_idxOf (List.idxOf_lt_length_iff.mpr hv0)
            rw [← h1,← h2]
            congr 1)
          by_cases l:f0.2.idxOf z≤f0.2.idxOf v
          · rw [if_pos l,if_pos (decide_eq_true (by omega))]
          · rw [if_neg l,if_neg (by rw [decide_eq_false (by omega)]; decide)]
    rw [← key] at h'
    refine seq_if (fun b=>b=(decide (z=v) || (decide (k="upto") && decide ((f0.2.idxOf z:Int) < (f0.2.idxOf v:Int))))) (fun q hq=>⟨_,rfl,_,rfl,_,hca,_,rfl,?_⟩) (fun hT=>?_) fun hF=>?_
    · show (if decide (z=v)=true then q true else _)
      by_cases e:z=v
      · rw [if_pos (decide_eq_true e)]
        exact hq _ (by rw [decide_eq_true e]; rfl)
      · rw [if_neg (by rw [decide_eq_false e]; decide)]
        refine ⟨_,rfl,?_⟩
        show (if decide (k="upto")=true then _ else q false)
        by_cases e2:k="upto"
        · rw [if_pos (decide_eq_true e2)]
          refine ⟨_,rfl,_,rfl,_,rfl,_,rfl,_,hca,_,_,rfl,i1,_,rfl,_,rfl,_,rfl,_,_,rfl,i2,?_⟩
          refine hq _ ?_
          rw [decide_eq_false e,decide_eq_true e2]; rfl
        · rw [if_neg (by rw [decide_eq_false e2]; decide)]
          exact hq _ (by rw [decide_eq_false e,decide_eq_false e2]; rfl)
    · rw [← hT,if_pos rfl] at h'
      exact h'
    · try unfold sNext
      dsimp only
      rw [← hF,if_neg (by decide)] at h'
      exact h'
  | _=>cases hok

theorem sc_16:FnScope ["_law_form","_law_tree","_law_case","_law_way_here","_law_side_here"] ["_law_form","_law_tree","_law_case"] (defScope (top 33)):=⟨rfl,rfl,rfl,by decide +kernel,rfl,by decide +kernel,by decide +kernel⟩
set_option maxHeartbeats 4000000 in
theorem ok_16 (T:Txt K mg A)
    (F_15:FnOk P w K mg base CX0 1 A.a_15 A.f_15 ["_law_form","_law_knot","_law_case"] (liftSp K sp_15)):FnOk P w K mg base CX0 2 A.a_16 A.f_16 ["_law_form","_law_tree","_law_case"] (liftSp K sp_16):=by
  refine fnT T.F_16 sc_16 (fun ds Q h=>by obtain ⟨fs,an,t,cs,rfl,F,ht,hc,hd,h⟩:=h; rfl) fun cdv Ar outer s H E hr ds Q h=>?_
  obtain ⟨fs,an,t,cs,rfl,F,ht,hc,hd,h⟩:=h
  have nd:=sc_16.nd
  refine ⟨_,(st_cons (st_own (i:=3) at_nil (fun h=>ps_set (i:=3) nd rfl (by first | exact Or.inl rfl | exact Or.inr rfl) h))
  (st_cons (st_while (tt_cmp op_eq o_eq (et_ix ix_seq o_ix (et_v 1) et_int) et_str)
  (st_cons (st_set (i:=4) (et_call F_15 T.m_15 T.k_15 T.d_15 (hr.mono (by decide)) (at_cons (et_v 0) (at_cons (et_v 1) (at_cons (et_v 2) at_nil))) (fun h=>pe_call F_15 (hr.mono (by decide)) rfl T.m_15 T.k_15 T.d_15 .nil pass0 h)) (fun h=>ps_set (i:=4) nd rfl (by first | exact Or.inl rfl | exact Or.inr rfl) h))
  (st_cons (st_app (i:=3) (pv 3) (et_tup (at_cons (et_ix ix_seq o_ix (et_v 1) et_int) (at_cons (et_v 4) at_nil))) (pb:=fun h=>ps_expr (pe_bm PySem.F.plainAttrs_list PySem.F.slot_list_append PySem.F.type_list_append mt_append (pv 3) h)))
  (st_one (st_set (i:=1) (et_ix ix_seq o_ix (et_v 1) (et_op op_addAny o_add et_int (et_cb c_int (at_cons (et_cmp op_eq o_eq (et_v 4) et_str) at_nil) (fun h=>pe_callTy call_int1 rfl T.b_int bl_int h)))) (fun h=>ps_set (i:=1) nd rfl (by first | exact Or.inl rfl | exact Or.inr rfl) h))))) (fun hc hb=>ps_while PassesOwn.never hc hb))
  (st_share 3 (st_one (st_ret (et_tup (at_cons (et_v 3) (at_cons (et_ix ix_seq o_ix (et_v 1) et_int) at_nil)))))))),?_⟩
  show sSeq _ _ _ [.val (frmD fs an),.val (trD t),.val (.tuple cs),.un,.un]
  refine seq_own [] (Nat.le_of_ble_eq_true rfl) (fun q hq=>hq) ?_
  refine seq_while (fun N σ=>∃ (p:Tr) (done:List D) (s4:Sl),σ=[.val (frmD fs an),.val (trD p),.val (.tuple cs),.own done,s4]∧N=p.dep∧TrOk fs an p∧(ansL fs p cs=ansL fs t cs∧done++wayL fs p cs=wayL fs t cs)∧done.length + p.dep≤40) t.dep ⟨t,[],_,rfl,rfl,ht,⟨rfl,rfl⟩,by show 0 + t.dep≤40; omega⟩ fun N σ' hP=>?_
  obtain ⟨p,done,s4,rfl,rfl,hp,⟨hpa,hpw⟩,hl⟩:=hP
  refine ⟨!isSay p,fun q hq=>?_,?_⟩
  · cases p with
    | say a=>exact ⟨_,rfl,_,rfl,hq⟩
    | ask k n v s y m=>exact ⟨_,rfl,_,rfl,hq⟩
  cases p with
  | say a =>
    show (if false=true then _ else _)
    rw [if_neg (by decide)]
    have:a=ansL fs t cs:=hpa
    subst this
    have hpw':done++[]=wayL fs t cs:=hpw
    rw [List.append_nil] at hpw'
    subst hpw'
    exact ⟨_,rfl,_,rfl,_,rfl,_,rfl,(Nat.le_of_ble_eq_true rfl),h⟩
  | ask k n v s y m =>
    show (if true=true then _ else _)
    rw [if_pos rfl]
    have hp':=hp
    obtain ⟨hq,hs,hy,hm⟩:=hp'
    have e1:(Tr.ask k n v s y m).dep=max y.dep m.dep + 1:=rfl
    rw [e1] at hl ⊢
    have hsd:=sideS_atB F hq hs hc
    refine seq_set (.str (sideS fs k n v s cs)) (fun q hq'=>⟨_,rfl,_,rfl,_,rfl,fs,an,k,n,v,s,.str "ask",[trD y,trD m],cs,rfl,F,⟨hq,hs⟩,hc,hq'⟩) ?_
    refine seq_app (ts:=done) (.tuple [.tuple [.str k,.str n,.str v],.str (sideS fs k n v s cs)]) rfl (by omega) (fun q hq=>⟨_,rfl,_,rfl,_,rfl,(Nat.le_of_ble_eq_true rfl),hq⟩) ?_
    have hpa':(if atB cs (jx fs n) (sideG fs k n v s) then ansL fs y cs else ansL fs m cs)=ansL fs t cs:=hpa
    have hpw':done++(.tuple [.tuple [.str k,.str n,.str v],.str (sideS fs k n v s cs)]::(if atB cs (jx fs n) (sideG fs k n v s) then wayL fs y cs else wayL fs m cs))=wayL fs t cs:=hpw
    rw [List.append_cons] at hpw'
    cases hg:atB cs (jx fs n) (sideG fs k n v s) with
    | true =>
      rw [hg,if_pos rfl] at hsd hpa' hpw'
      rw [hsd]
      rw [hsd] at hpw'
      refine one_set (trD y) (fun q hq=>⟨_,rfl,_,rfl,?_⟩) ⟨y.dep,by omega,y,_,_,rfl,rfl,hy,⟨hpa',hpw'⟩,by rw [List.length_append]; show _ + 1 + _≤_; omega⟩
      exact ⟨_,rfl,hq⟩
    | false =>
      rw [hg,if_neg (by decide)] at hsd hpa' hpw'
      rw [hsd]
      rw [hsd] at hpw'
      refine one_set (trD m) (fun q hq=>⟨_,rfl,_,rfl,?_⟩) ⟨m.dep,by omega,m,_,_,rfl,rfl,hm,⟨hpa',hpw'⟩,by rw [List.length_append]; show _ + 1 + _≤_; omega⟩
      exact ⟨_,rfl,hq⟩

theorem sc_17:FnScope ["_law_tape_here","_law_form","_law_lets","_law_left","_law_sizes","_law_at","_law_values","_law_value","_law_stray","_law_some","_law_rest","_law_inside","_law_outside","_law_room","_law_k","_law_part","_law_least_one","_law_most_one","_law_one","_law_yes"] ["_law_tape_here","_law_form","_law_lets","_law_left"] (defScope (top 34)):=⟨rfl,rfl,rfl,by decide +kernel,rfl,by decide +kernel,by decide +kernel⟩
set_option maxHeartbeats 4000000 in
theorem step_17 (dd:Nat) (T:Txt K mg A)
    (F_12:FnOk P w K mg base CX0 1 A.a_12 A.f_12 ["_law_tape_here","_law_many"] (liftSp K sp_12))
    (F_17:FnOk P w K mg base CX0 (2 + dd) A.a_17 A.f_17 ["_law_tape_here","_law_form","_law_lets","_law_left"] (liftSp K (sp_17_lt dd))):FnOk P w K mg base CX0 (2 + dd + 1) A.a_17 A.f_17 ["_law_tape_here","_law_form","_law_lets","_law_left"] (liftSp K (sp_17_lt (dd + 1))):=by
  refine fnT T.F_17 sc_17 (fun ds Q h=>by obtain ⟨ns,fs,an,L,n,rfl,hl,F,hL,hNil,hn1,hnm,hw,h⟩:=h; rfl) fun cdv Ar outer s H E hr ds Q h=>?_
  obtain ⟨ns,fs,an,L,n,rfl,hl,F,hL,hNil,hn1,hnm,hw,h⟩:=h
  have nd:=sc_17.nd
  refine ⟨_,(st_cons (st_setlc (i:=4) (fr:=[none,some 2]) (N':=["_law_at","_law_lets"]) (it_range (at_cons (et_cb c_len (at_cons (et_v 2) at_nil) (fun h=>pe_callB call_lenAny rfl T.b_len bl_len h)) at_nil) (fun h=>pi_range1 rfl T.b_range h)) (fun b=>⟨(gt_name (pg_name (i:=0) (show List.Nodup (["_law_at","_law_lets"]:List Str) from by decide +kernel) rfl (by first | exact Or.inl rfl | exact Or.inr rfl))),(if_one (tt_cmp op_gt o_B0 (et_cb c_len (at_cons (et_ix ix_seq o_ix (et_v 1) (et_v 0)) at_nil) (fun h=>pe_callB call_lenAny rfl T.b_len bl_len h)) et_int)),(et_v 0)⟩) (fun hi hY=>ps_setlcc (show lcChk _ (defScope (top 34)) ["_law_tape_here","_law_form","_law_lets","_law_left","_law_sizes","_law_at","_law_values","_law_value","_law_stray","_law_some","_law_rest","_law_inside","_law_outside","_law_room","_law_k","_law_part","_law_least_one","_law_most_one","_law_one","_law_yes"] ["_law_at","_law_lets"] [none,some 2]=true from by decide +kernel) nd rfl (by first | exact Or.inl rfl | exact Or.inr rfl) rfl hi hY rfl))
  (st_cons (st_if (tw_pt (tw_or (tt_cmp (op_eqD hr) o_data (et_v 3) et_int) (tw_or1 (tt_cmp (op_eqD hr) o_data (et_v 4) (et_lst at_nil)))))
  (st_one (st_ret (et_tup (at_cons et_str (at_cons (et_ix ix_seq o_ix (et_ix ix_seq o_ix (et_v 1) et_int) (et_call F_12 T.m_12 T.k_12 T.d_12 (hr.mono (by omega)) (at_cons (et_v 0) (at_cons (et_cb c_len (at_cons (et_ix ix_seq o_ix (et_v 1) et_int) at_nil) (fun h=>pe_callB call_lenAny rfl T.b_len bl_len h)) at_nil)) (fun h=>pe_call F_12 (hr.mono (by omega)) rfl T.m_12 T.k_12 T.d_12 .nil pass0 h))) at_nil)))))
  st_nil)
  (st_cons (st_set (i:=5) (et_ix ix_seq o_ix (et_v 4) (et_call F_12 T.m_12 T.k_12 T.d_12 (hr.mono (by omega)) (at_cons (et_v 0) (at_cons (et_cb c_len (at_cons (et_v 4) at_nil) (fun h=>pe_callB call_lenAny rfl T.b_len bl_len h)) at_nil)) (fun h=>pe_call F_12 (hr.mono (by omega)) rfl T.m_12 T.k_12 T.d_12 .nil pass0 h))) (fun h=>ps_set (i:=5) nd rfl (by first | exact Or.inl rfl | exact Or.inr rfl) h))
  (st_cons (st_setlc (i:=6) (fr:=[none]) (N':=["_law_value"]) (it_val (et_ix ix_seq o_ix (et_v 2) (et_v 5))) (fun b=>⟨(gt_name (pg_name (i:=0) (show List.Nodup (["_law_value"]:List Str) from by decide +kernel) rfl (by first | exact Or.inl rfl | exact Or.inr rfl))),(if_one (tt_cmp op_isNot2 o_isNot2 (et_v 0) et_non)),(et_v 0)⟩) (fun hi hY=>ps_setlcc (show lcChk _ (defScope (top 34)) ["_law_tape_here","_law_form","_law_lets","_law_left","_law_sizes","_law_at","_law_values","_law_value","_law_stray","_law_some","_law_rest","_law_inside","_law_outside","_law_room","_law_k","_law_part","_law_least_one","_law_most_one","_law_one","_law_yes"] ["_law_value"] [none]=true from by decide +kernel) nd rfl (by first | exact Or.inl rfl | exact Or.inr rfl) rfl hi hY rfl))
  (st_cons (st_set (i:=7) (et_ix ix_seq o_ix (et_v 6) (et_call F_12 T.m_12 T.k_12 T.d_12 (hr.mono (by omega)) (at_cons (et_v 0) (at_cons (et_cb c_len (at_cons (et_v 6) at_nil) (fun h=>pe_callB call_lenAny rfl T.b_len bl_len h)) at_nil)) (fun h=>pe_call F_12 (hr.mono (by omega)) rfl T.m_12 T.k_12 T.d_12 .nil pass0 h))) (fun h=>ps_set (i:=7) nd rfl (by first | exact Or.inl rfl | exact Or.inr rfl) h))
  (st_cons (st_set (i:=8) et_str (fun h=>ps_set (i:=8) nd rfl (by first | exact Or.inl rfl | exact Or.inr rfl) h))
  (st_cons (st_set (i:=9) (et_tup (at_cons (et_v 7) at_nil)) (fun h=>ps_set (i:=9) nd rfl (by first | exact Or.inl rfl | exact Or.inr rfl) h))
  (st_cons (st_if (tw_pt (tw_and (tt_cmp (op_in2 hr) o_in2 et_non (et_ix ix_seq o_ix (et_v 2) (et_v 5))) (tw_and1 (tw_pt (tw_or (tt_cmp op_eq o_eq (et_cb c_len (at_cons (et_v 6) at_nil) (fun h=>pe_callB call_lenAny rfl T.b_len bl_len h)) et_int) (tw_or1 (tw_pt (tw_and (tt_cmp op_eq o_eq (et_call F_12 T.m_12 T.k_12 T.d_12 (hr.mono (by omega)) (at_cons (et_v 0) (at_cons et_int at_nil)) (fun h=>pe_call F_12 (hr.mono (by omega)) rfl T.m_12 T.k_12 T.d_12 .nil pass0 h)) et_int) (tw_and1 (tt_cmp op_gt o_B0 (et_cb c_len (at_cons (et_v 6) at_nil) (fun h=>pe_callB call_lenAny rfl T.b_len bl_len h)) et_int))))))))))
  (st_cons (st_set (i:=8) (et_ix ix_seq o_ix (et_lst (at_cons et_str (at_cons et_str at_nil))) (et_cb c_int (at_cons (et_cmp op_gt o_B0 (et_cb c_len (at_cons (et_v 6) at_nil) (fun h=>pe_callB call_lenAny rfl T.b_len bl_len h)) et_int) at_nil) (fun h=>pe_callTy call_int1 rfl T.b_int bl_int h))) (fun h=>ps_set (i:=8) nd rfl (by first | exact Or.inl rfl | exact Or.inr rfl) h))
  (st_one (st_set (i:=9) (et_slice sl_any o_sl (et_tup (at_cons (et_v 7) (at_cons et_non at_nil))) ot_none (ot_some (et_op op_addAny o_add et_int (et_cb c_int (at_cons (et_cmp op_gt o_B0 (et_cb c_len (at_cons (et_v 6) at_nil) (fun h=>pe_callB call_lenAny rfl T.b_len bl_len h)) et_int) at_nil) (fun h=>pe_callTy call_int1 rfl T.b_int bl_int h))))) (fun h=>ps_set (i:=9) nd rfl (by first | exact Or.inl rfl | exact Or.inr rfl) h))))
  st_nil)
  (st_cons (st_set (i:=10) (et_cb c_tuple (at_cons (et_lc (fr:=[none,some 9]) (N':=["_law_one","_law_some"]) (it_val (et_ix ix_seq o_ix (et_v 2) (et_v 5))) (fun b=>⟨(gt_name (pg_name (i:=0) (show List.Nodup (["_law_one","_law_some"]:List Str) from by decide +kernel) rfl (by first | exact Or.inl rfl | exact Or.inr rfl))),(if_one (tt_cmp (op_notInData hr) o_data (et_v 0) (et_v 1))),(et_v 0)⟩) (fun hi hY=>pe_lcc (show lcChk _ (defScope (top 34)) ["_law_tape_here","_law_form","_law_lets","_law_left","_law_sizes","_law_at","_law_values","_law_value","_law_stray","_law_some","_law_rest","_law_inside","_law_outside","_law_room","_law_k","_law_part","_law_least_one","_law_most_one","_law_one","_law_yes"] ["_law_one","_law_some"] [none,some 9]=true from by decide +kernel) rfl hi hY)) at_nil) (fun h=>pe_callTy call_tuple_of rfl T.b_tuple bl_tuple h)) (fun h=>ps_set (i:=10) nd rfl (by first | exact Or.inl rfl | exact Or.inr rfl) h))
  (st_cons (st_set (i:=11) (et_op op_addAny o_add (et_op op_addAny o_add (et_slice sl_any o_sl (et_v 2) ot_none (ot_some (et_v 5))) (et_tup (at_cons (et_v 9) at_nil))) (et_slice sl_any o_sl (et_v 2) (ot_some (et_op op_addAny o_add (et_v 5) et_int)) ot_none)) (fun h=>ps_set (i:=11) nd rfl (by first | exact Or.inl rfl | exact Or.inr rfl) h))
  (st_cons (st_set (i:=12) (et_op op_addAny o_add (et_op op_addAny o_add (et_slice sl_any o_sl (et_v 2) ot_none (ot_some (et_v 5))) (et_tup (at_cons (et_v 10) at_nil))) (et_slice sl_any o_sl (et_v 2) (ot_some (et_op op_addAny o_add (et_v 5) et_int)) ot_none)) (fun h=>ps_set (i:=12) nd rfl (by first | exact Or.inl rfl | exact Or.inr rfl) h))
  (st_cons (st_own (i:=13) (at_cons et_int (at_cons et_int at_nil)) (fun h=>ps_set (i:=13) nd rfl (by first | exact Or.inl rfl | exact Or.inr rfl) h))
  (st_cons (st_for (it_range (at_cons et_int at_nil) (fun h=>pi_range1 rfl T.b_range h)) (gt_name (pg_name (i:=14) nd rfl (by first | exact Or.inl rfl | exact Or.inr rfl)))
  (st_one (st_for (it_val (et_ix ix_seq o_ix (et_lst (at_cons (et_v 11) (at_cons (et_v 12) at_nil))) (et_v 14))) (gt_name (pg_name (i:=15) nd rfl (by first | exact Or.inl rfl | exact Or.inr rfl)))
  (st_one (st_put (i:=13) (pv 13) (et_v 14) (et_op op_mulAny o_mul (et_ixOwn (pv 13) (et_v 14)) (et_cb c_len (at_cons (et_v 15) at_nil) (fun h=>pe_callB call_lenAny rfl T.b_len bl_len h))) (fun he hi=>ps_asg he (pg_sub (pv 13) hi set_list)))) (fun hi hg hb=>ps_for PassesOwn.never rfl hi hg hb))) (fun hi hg hb=>ps_for PassesOwn.never rfl hi hg hb))
  (st_share 13 (st_cons (st_set (i:=16) (et_cb c_max2 (at_cons et_int (at_cons (et_op op_sub o_I0 (et_v 3) (et_ix ix_seq o_ix (et_v 13) et_int)) at_nil)) (fun h=>pe_callB (call_max2 rfl) rfl T.b_max bl_max h)) (fun h=>ps_set (i:=16) nd rfl (by first | exact Or.inl rfl | exact Or.inr rfl) h))
  (st_cons (st_set (i:=17) (et_cb c_min2 (at_cons (et_ix ix_seq o_ix (et_v 13) et_int) (at_cons (et_op op_sub o_I0 (et_v 3) et_int) at_nil)) (fun h=>pe_callB (call_min2 rfl) rfl T.b_min bl_min h)) (fun h=>ps_set (i:=17) nd rfl (by first | exact Or.inl rfl | exact Or.inr rfl) h))
  (st_cons (st_set (i:=18) (et_cb c_min2 (at_cons (et_v 17) (at_cons (et_op op_addAny o_add (et_v 16) (et_call F_12 T.m_12 T.k_12 T.d_12 (hr.mono (by omega)) (at_cons (et_v 0) (at_cons (et_cb c_max2 (at_cons et_int (at_cons (et_op op_addAny o_add (et_op op_sub o_I0 (et_v 17) (et_v 16)) et_int) at_nil)) (fun h=>pe_callB (call_max2 rfl) rfl T.b_max bl_max h)) at_nil)) (fun h=>pe_call F_12 (hr.mono (by omega)) rfl T.m_12 T.k_12 T.d_12 .nil pass0 h))) at_nil)) (fun h=>pe_callB (call_min2 rfl) rfl T.b_min bl_min h)) (fun h=>ps_set (i:=18) nd rfl (by first | exact Or.inl rfl | exact Or.inr rfl) h))
  (st_cons (st_set (i:=19) (et_call F_17 T.m_17 T.k_17 T.d_17 (hr.mono (by omega)) (at_cons (et_v 0) (at_cons (et_v 1) (at_cons (et_v 11) (at_cons (et_v 18) at_nil)))) (fun h=>pe_call F_17 (hr.mono (by omega)) rfl T.m_17 T.k_17 T.d_17 .nil pass0 h)) (fun h=>ps_set (i:=19) nd rfl (by first | exact Or.inl rfl | exact Or.inr rfl) h))
  (st_one (st_ret (et_tup (at_cons et_str (at_cons (et_tup (at_cons et_str (at_cons (et_ix ix_seq o_ix (et_ix ix_seq o_ix (et_ix ix_seq o_ix (et_v 1) et_int) (et_v 5)) et_int) (at_cons (et_v 7) at_nil)))) (at_cons (et_v 8) (at_cons (et_v 19) (at_cons (et_call F_17 T.m_17 T.k_17 T.d_17 (hr.mono (by omega)) (at_cons (et_v 0) (at_cons (et_v 1) (at_cons (et_v 12) (at_cons (et_op op_sub o_I0 (et_v 3) (et_v 18)) at_nil)))) (fun h=>pe_call F_17 (hr.mono (by omega)) rfl T.m_17 T.k_17 T.d_17 .nil pass0 h)) at_nil)))))))))))))))))))))))))),?_⟩
  show sSeq _ _ _ [.val (tapeD ns),.val (frmD fs an),.val (letsD L),.val (.int (n:Int)),.un,.un,.un,.un,.un,.un,.un,.un,.un,.un,.un,.un,.un,.un,.un,.un]
  have n5:=F.n5
  have a2:=F.a2
  have a4:=F.a4
  have hL5:L.length≤5:=by rw [hL.1]; exact n5
  have p7:=many_le F hL
  refine seq_set (.list ((sizesN L).map fun (j:Nat)=>PyData.int (j:Int))) (fun q hq=>?_) ?_
  · refine lcx_filt (ts:=intsTo L.length) (fun R h=>⟨_,rfl,((L.map PyData.tuple).length:Int),rfl,by omega,by rw [List.length_map]; omega,by rw [List.length_map]; exact h⟩) (fun x=>match x with | .int k=>(match L[k.toNat]? with | some e=>decide (1 < e.length) | none=>false) | _=>false) id (by rw [intsTo_len]; omega) (fun x q hx hq=>?_) (fun x q hx hq=>⟨_,rfl,hq⟩) ?_
    · obtain ⟨k,hk,rfl⟩:=List.mem_map.mp hx
      have hkl:=List.mem_range.mp hk
      have he:L[k]?=some L[k]:=List.getElem?_eq_getElem hkl
      refine ⟨_,rfl,_,rfl,_,L2.atI_nat (by rw [List.getElem?_map,he]; rfl),?_⟩
      show q (decide ((L[k].length:Int) > 1))
      have hq':q (match L[k]? with | some e=>decide (1 < e.length) | none=>false):=hq
      rw [he] at hq'
      rwa [show decide ((L[k].length:Int) > 1)=decide (1 < L[k].length) from by rw [Bool.eq_iff_iff,decide_eq_true_eq,decide_eq_true_eq]; omega]
    · rw [List.map_id]
      unfold intsTo
      rw [List.filter_map]
      exact hq
  refine seq_if (fun b=>b=(decide (n=1) || (sizesN L).isEmpty)) (fun q hq=>?_) (fun hT=>?_) fun hF=>?_
  · refine ⟨_,rfl,okEq_of cd_int cd_int,?_⟩
    show (if ((n:Int) == 1)=true then q true else _)
    by_cases h1:n=1
    · subst h1
      rw [if_pos (by rfl)]; exact hq _ (by simp)
    · rw [if_neg (by simp; omega)]
      refine ⟨_,rfl,(Nat.le_of_ble_eq_true rfl),okEq_of (cd_ints _) (cd_ints []),hq _ ?_⟩
      rw [decide_eq_false h1]
      show PyData.eqv (.list ((sizesN L).map fun (j:Nat)=>PyData.int (j:Int))) (.list [])=_
      cases sizesN L <;> rfl
  · have hn1:n=1:=by
      rcases (Bool.or_eq_true _ _).mp hT.symm with h | h
      · exact of_decide_eq_true h
      · have:=ones_prod (sizes_nil (List.isEmpty_iff.mp h)); omega
    subst hn1
    refine ⟨_,rfl,_,rfl,_,rfl,_,rfl,_,rfl,ns,_,rfl,hl,by rw [List.length_map]; omega,by rw [List.length_map]; omega,fun i h0 h1=>?_⟩
    obtain ⟨t,hm,ha,_⟩:=atI_in (xs:=an.map PyData.str) (i:=i) h0 h1
    obtain ⟨z,hz,rfl⟩:=List.mem_map.mp hm
    exact ⟨_,ha,(Nat.le_of_ble_eq_true rfl),h (.say z) (part_say hz hNil)⟩
  try unfold sNext
  dsimp only
  have hF':=(Bool.or_eq_false_iff.mp hF.symm)
  have hn2:2≤n:=by have:=of_decide_eq_false hF'.1; omega
  have hsz:sizesN L ≠ []:=fun z=>by rw [z] at hF'; cases hF'.2
  have hszl:1≤(sizesN L).length∧(sizesN L).length≤5:=⟨List.length_pos_iff.mpr hsz,Nat.le_trans (List.length_filter_le _ _) (by rw [List.length_range]; exact hL5)⟩
  refine seq_setR (fun d=>∃ j,j ∈ sizesN L∧d=.int ((j:Nat):Int)) (fun q hq=>⟨_,rfl,_,rfl,_,rfl,ns,_,rfl,hl,by rw [List.length_map]; omega,by rw [List.length_map]; omega,fun i h0 h1=>?_⟩) ?_
  · obtain ⟨t,hm,ha,_⟩:=atI_in (xs:=(sizesN L).map fun (j:Nat)=>PyData.int (j:Int)) (i:=i) h0 h1
    obtain ⟨j,hj,rfl⟩:=List.mem_map.mp hm
    exact ⟨_,ha,hq _ ⟨j,hj,rfl⟩⟩
  rintro _ ⟨j,hj,rfl⟩
  obtain ⟨e,he,he2⟩:=sizes_mem hj
  have hjl:=(List.getElem?_eq_some_iff.mp he).1
  have hf:fs[j]?=some (fs[j]'(by rw [← hL.1]; exact hjl)):=List.getElem?_eq_getElem _
  generalize fs[j]'(by rw [← hL.1]; exact hjl)=f at hf
  have hfm:=List.mem_of_getElem? hf
  have hE:=ent_entD F hfm
  have hsub:=hL.sub hf he
  have hEe:∀ x ∈ e,Ent x:=fun x hx=>hE x (hsub x hx)
  obtain ⟨p,hp⟩:=hL.2 j f e hf he
  have hnd:e.Nodup:=by rw [hp]; exact (entD_nd F hfm).sublist List.filter_sublist
  have v5:=(F.vs f hfm).2.1
  have hel:e.length≤6:=by
    have h1:=List.length_filter_le p (entD f)
    have h2:=entD_len f
    rw [hp]; omega
  have hLa:L2.atI (L.map PyData.tuple) (j:Int)=some (.tuple e):=L2.atI_nat (by rw [List.getElem?_map,he]; rfl)
  have hfa:L2.atI (fs.map fldD) (j:Int)=some (fldD f):=L2.atI_nat (by rw [List.getElem?_map,hf]; rfl)
  refine seq_set (.list (e.filter fun x=>!isNoneD x)) (fun q hq=>?_) ?_
  · refine lcx_filt (ts:=e) (fun R h=>⟨_,rfl,_,rfl,_,hLa,_,rfl,h⟩) (fun x=>!isNoneD x) id (by omega) (fun x q hx hq=>⟨_,rfl,hq⟩) (fun x q hx hq=>⟨_,rfl,hq⟩) ?_
    rw [List.map_id]; exact hq
  obtain ⟨x0,hx0,hx0n⟩:=other_one (a:=PyData.none) hnd he2
  have hstr:∀ x ∈ e,x ≠ .none→∃ v,x=.str v∧v ∈ f.2:=fun x hx hn=>by
    rcases List.mem_append.mp (hsub x hx) with h | h
    · obtain ⟨z,hz,rfl⟩:=List.mem_map.mp h; exact ⟨z,rfl,hz⟩
    · exact absurd (List.mem_singleton.mp h) hn
  have isn:∀ x ∈ e,(!isNoneD x)=true ↔ x ≠ .none:=fun x hx=>by
    rcases hEe x hx with rfl | ⟨z,_,rfl⟩
    · exact ⟨(fun z=>by cases z),fun z=>absurd rfl z⟩
    · exact ⟨(fun _ z=>nomatch z),fun _=>rfl⟩
  have hvl:1≤(e.filter fun x=>!isNoneD x).length:=List.length_pos_iff.mpr fun z=>by
    have:=List.filter_eq_nil_iff.mp z x0 hx0
    exact this ((isn x0 hx0).mpr hx0n)
  have hvl6:(e.filter fun x=>!isNoneD x).length≤6:=Nat.le_trans (List.length_filter_le _ _) hel
  refine seq_setR (fun d=>∃ v,d=.str v∧.str v ∈ e∧v ∈ f.2) (fun q hq=>⟨_,rfl,_,rfl,_,rfl,ns,_,rfl,hl,by show 0 < (((e.filter fun x=>!isNoneD x).length:Nat):Int); omega,by show (((e.filter fun x=>!isNoneD x).length:Nat):Int)≤10000; omega,fun i h0 h1=>?_⟩) ?_
  · obtain ⟨t,hm,ha,_⟩:=atI_in (xs:=e.filter fun x=>!isNoneD x) (i:=i) h0 h1
    obtain ⟨m1,m2⟩:=List.mem_filter.mp hm
    obtain ⟨v,rfl,hv⟩:=hstr t m1 ((isn t m1).mp m2)
    exact ⟨_,ha,hq _ ⟨v,rfl,m1,hv⟩⟩
  rintro _ ⟨v,rfl,hve,hvf⟩
  refine seq_set (.str "no") (fun q hq=>hq) ?_
  refine seq_set (.tuple [.str v]) (fun q hq=>⟨_,rfl,(Nat.le_of_ble_eq_true rfl),hq⟩) ?_
  have rest1:∀ s:Str,s="no"→e.filter (fun x=>!decide (x ∈ someD v s)) ≠ []:=fun s hs z=>by
    obtain ⟨x,hx,hxn⟩:=other_one (a:=PyData.str v) hnd he2
    refine List.filter_eq_nil_iff.mp z x hx ?_
    unfold someD
    rw [if_neg (by rw [hs]; exact yes_no),decide_eq_false fun h=>hxn (List.mem_singleton.mp h)]; rfl
  have rest2:∀ s:Str,s="yes"→1 < (e.filter fun x=>!isNoneD x).length→e.filter (fun x=>!decide (x ∈ someD v s)) ≠ []:=fun s hs h1 z=>by
    obtain ⟨x,hx,hxn⟩:=other_one (a:=PyData.str v) (hnd.sublist List.filter_sublist) h1
    obtain ⟨m1,m2⟩:=List.mem_filter.mp hx
    refine List.filter_eq_nil_iff.mp z x m1 ?_
    unfold someD
    rw [if_pos hs,decide_eq_false fun h=>?_]
    · rfl
    · rcases List.mem_cons.mp h with h | h
      · exact hxn h
      · exact (isn x m1).mp m2 (List.mem_singleton.mp h)
  refine seq_ifN (fun b=>b=true→PyData.none ∈ e) (fun σ=>∃ s:Str,(s="yes" ∨ s="no")∧(s="yes"→PyData.none ∈ e)∧e.filter (fun x=>!decide (x ∈ someD v s)) ≠ []∧σ=[.val (tapeD ns),.val (frmD fs an),.val (letsD L),.val (.int (n:Int)),.val (.list ((sizesN L).map fun (j:Nat)=>PyData.int (j:Int))),.val (.int (j:Int)),.val (.list (e.filter fun x=>!isNoneD x)),.val (.str v),.val (.str s),.val (.tuple (someD v s)),.un,.un,.un,.un,.un,.un,.un,.un,.un,.un]) (fun q hq=>?_) (fun hT DT' hD=>?_) (fun _=>⟨"no",.inr rfl,fun z=>absurd z yes_no,rest1 _ rfl,by unfold someD; rw [if_neg yes_no]; rfl⟩) ?_
  · refine ⟨_,rfl,_,rfl,_,hLa,(okIn_ent (.inl rfl) hEe).2,?_⟩
    show (if (e.any fun z=>PyData.eqv z .none)=true then _ else q false)
    rw [any_ent (.inl rfl) hEe]
    by_cases hN:PyData.none ∈ e
    · rw [if_pos (decide_eq_true hN)]
      refine ⟨_,rfl,?_⟩
      show (if decide (((e.filter fun x=>!isNoneD x).length:Int)=1)=true then q true else _)
      by_cases h1:((e.filter fun x=>!isNoneD x).length:Int)=1
      · rw [if_pos (decide_eq_true h1)]; exact hq _ fun _=>hN
      · rw [if_neg (by rw [decide_eq_false h1]; decide)]
        refine ⟨_,rfl,ns,2,rfl,hl,by decide,by decide,fun i _ _=>?_⟩
        show (if decide (i=0)=true then _ else q false)
        by_cases h2:i=0
        · rw [if_pos (decide_eq_true h2)]
          exact ⟨_,rfl,hq _ fun _=>hN⟩
        · rw [if_neg (by rw [decide_eq_false h2]; decide)]
          exact hq _ fun _=>hN
    · rw [if_neg (by rw [decide_eq_false hN]; decide)]
      exact hq _ fun z=>by cases z
  · have hN:=hT rfl
    by_cases h1:1 < (e.filter fun x=>!isNoneD x).length
    · have hb:decide ((1:Int) < ((e.filter fun x=>!isNoneD x).length:Int))=true:=decide_eq_true (by omega)
      refine seq_set (.str "yes") (fun q hq=>⟨(Nat.le_of_ble_eq_true rfl),_,rfl,?_⟩) ?_
      · show fIx (.list [.str "no",.str "yes"]) (.int (if decide ((1:Int) < ((e.filter fun x=>!isNoneD x).length:Int)) then 1 else 0)) q
        rw [hb]
        exact ⟨_,L2.atI_nat (j:=1) rfl,hq⟩
      refine one_set (.tuple [.str v,.none]) (fun q hq=>⟨_,rfl,(Nat.le_of_ble_eq_true rfl),_,rfl,?_⟩) (hD _ ⟨"yes",.inl rfl,fun _=>hN,rest2 _ rfl h1,by unfold someD; rw [if_pos rfl]; rfl⟩)
      show q (.tuple (cutD [.str v,.none] none (some (1 + (if decide ((1:Int) < ((e.filter fun x=>!isNoneD x).length:Int)) then 1 else 0)))))
      rw [hb]
      exact hq
    · have hb:decide ((1:Int) < ((e.filter fun x=>!isNoneD x).length:Int))=false:=decide_eq_false (by omega)
      refine seq_set (.str "no") (fun q hq=>⟨(Nat.le_of_ble_eq_true rfl),_,rfl,?_⟩) ?_
      · show fIx (.list [.str "no",.str "yes"]) (.int (if decide ((1:Int) < ((e.filter fun x=>!isNoneD x).length:Int)) then 1 else 0)) q
        rw [hb]
        exact ⟨_,L2.atI_nat (j:=0) rfl,hq⟩
      refine one_set (.tuple [.str v]) (fun q hq=>⟨_,rfl,(Nat.le_of_ble_eq_true rfl),_,rfl,?_⟩) (hD _ ⟨"no",.inr rfl,fun z=>absurd z yes_no,rest1 _ rfl,by unfold someD; rw [if_neg yes_no]; rfl⟩)
      show q (.tuple (cutD [.str v,.none] none (some (1 + (if decide ((1:Int) < ((e.filter fun x=>!isNoneD x).length:Int)) then 1 else 0)))))
      rw [hb]
      exact hq
  rintro _ ⟨s,hs,hsN,hrest,rfl⟩
  obtain ⟨g1,g2,w1,w2,nA,nB,mk⟩:=part_ask F hL hNil hf he hvf hve hs hsN hrest
  have hsE:∀ t ∈ someD v s,Ent t:=fun t ht=>by
    unfold someD at ht
    have hv:Ent (.str v):=hEe _ hve
    split at ht
    · rcases List.mem_cons.mp ht with rfl | ht
      · exact hv
      · rw [List.mem_singleton.mp ht]; exact .inl rfl
    · rw [List.mem_singleton.mp ht]; exact hv
  refine seq_set (.tuple (e.filter fun x=>!decide (x ∈ someD v s))) (fun q hq=>?_) ?_
  · show eCall (f1 gTuple) _ _ q
    dsimp only [eCall,aCons,aNil]
    refine lcx_filt (ts:=e) (fun R h=>⟨_,rfl,_,rfl,_,hLa,_,rfl,h⟩) (fun x=>!decide (x ∈ someD v s)) id (by omega) (fun x q hx hq=>⟨_,rfl,_,rfl,(okIn_ent (hEe x hx) hsE).2,?_⟩) (fun x q hx hq=>⟨_,rfl,hq⟩) ?_
    · show q (!((someD v s).any fun z=>PyData.eqv z x))
      rw [any_ent (hEe x hx) hsE]; exact hq
    · rw [List.map_id]; exact hq
  have e2:(j:Int) + 1=((j + 1:Nat):Int):=by omega
  have lets:∀ (d:List D) (q:D→Prop),q (letsD (L.set j d))→((L.map PyData.tuple).take j).length + 1≤100000∧((L.map PyData.tuple).take j++[PyData.tuple d]).length + ((L.map PyData.tuple).drop (j + 1)).length≤100000∧q (PyData.tuple ((L.map PyData.tuple).take j++[PyData.tuple d]++(L.map PyData.tuple).drop (j + 1))):=fun d q hq=>by
    rw [set_mid hjl]
    refine ⟨by rw [List.length_take,List.length_map]; omega,?_,hq⟩
    rw [List.length_append,List.length_take,List.length_drop,List.length_map]
    simp only [List.length_cons,List.length_nil]; omega
  have part:∀ (d:List D) (q:D→Prop),q (letsD (L.set j d))→fAdd (.tuple (cutD (L.map PyData.tuple) none (some (j:Int)))) (.tuple [.tuple d]) fun x=>fAdd x (.tuple (cutD (L.map PyData.tuple) (some ((j:Int) + 1)) none)) q:=fun d q hq=>by
    rw [cut_ns,e2,cut_sn]
    obtain ⟨l1,l2,l3⟩:=lets d q hq
    exact ⟨l1,l2,l3⟩
  refine seq_set (letsD (L.set j (someD v s))) (fun q hq=>⟨_,rfl,_,rfl,_,rfl,(Nat.le_of_ble_eq_true rfl),?_⟩) ?_
  · obtain ⟨l1,l2⟩:=part (someD v s) q hq
    exact ⟨l1,_,rfl,_,rfl,l2⟩
  refine seq_set (letsD (L.set j (e.filter fun x=>!decide (x ∈ someD v s)))) (fun q hq=>⟨_,rfl,_,rfl,_,rfl,(Nat.le_of_ble_eq_true rfl),?_⟩) ?_
  · obtain ⟨l1,l2⟩:=part (e.filter fun x=>!decide (x ∈ someD v s)) q hq
    exact ⟨l1,_,rfl,_,rfl,l2⟩
  have hL1:LetsOk fs (L.set j (someD v s)):=by rw [← g1]; exact hL.filt _ _
  have hL2:LetsOk fs (L.set j (e.filter fun x=>!decide (x ∈ someD v s))):=by rw [← g2]; exact hL.filt _ _
  have q1:=many_le F hL1
  have q2:=many_le F hL2
  have q12:=prod_two hjl (sideG fs "is" f.1 v s)
  rw [g1,g2] at q12
  generalize L.set j (someD v s)=A1 at *
  generalize L.set j (e.filter fun x=>!decide (x ∈ someD v s))=B1 at *
  have six:∀ {M:List (List D)},LetsOk fs M→∀ e' ∈ M,e'.length≤6:=fun {M} hM e' he'=>by
    obtain ⟨i,hi⟩:=List.getElem?_of_mem he'
    have hil:i < fs.length:=by rw [← hM.1]; exact (List.getElem?_eq_some_iff.mp hi).1
    obtain ⟨p,rfl⟩:=hM.2 i _ e' (List.getElem?_eq_getElem hil) hi
    have h1:=List.length_filter_le p (entD fs[i])
    have h2:=entD_len fs[i]
    have h3:=(F.vs _ (List.getElem_mem hil)).2.1
    omega
  have hA6:=six hL1
  have hB6:=six hL2
  have pA:1≤(prodF A1).length:=List.length_pos_iff.mpr fun z=>by rw [(prod_nil A1).mp z] at nA; cases nA
  have pB:1≤(prodF B1).length:=List.length_pos_iff.mpr fun z=>by rw [(prod_nil B1).mp z] at nB; cases nB
  refine seq_own [.int 1,.int 1] (Nat.le_of_ble_eq_true rfl) (fun q hq=>hq) ?_
  refine seq_for (ts:=intsTo 2) (fun R h=>⟨2,rfl,by decide,by decide,h⟩)
    (fun i σ=>∃ s14 s15:Sl,σ=[.val (tapeD ns),.val (frmD fs an),.val (letsD L),.val (.int (n:Int)),.val (.list ((sizesN L).map fun (j:Nat)=>PyData.int (j:Int))),.val (.int (j:Int)),.val (.list (e.filter fun x=>!isNoneD x)),.val (.str v),.val (.str s),.val (.tuple (someD v s)),.val (.tuple (e.filter fun x=>!decide (x ∈ someD v s))),.val (letsD A1),.val (letsD B1),.own [.int (if 1≤i then ((prodF A1).length:Int) else 1),.int (if 2≤i then ((prodF B1).length:Int) else 1)],s14,s15,.un,.un,.un,.un]) ⟨_,_,rfl⟩ (fun i x σ' hx hP=>?_) fun σ' hP=>?_
  · obtain ⟨s14,s15,rfl⟩:=hP
    obtain ⟨hi2,rfl⟩:=intsTo_get hx
    rcases i with _ | _ | i
    · refine ⟨_,rfl,_,rfl,(Nat.le_of_ble_eq_true rfl),_,rfl,_,L2.atI_nat (j:=0) rfl,A1.map PyData.tuple,rfl,fun i' σ=>∃ s15:Sl,σ=[.val (tapeD ns),.val (frmD fs an),.val (letsD L),.val (.int (n:Int)),.val (.list ((sizesN L).map fun (j:Nat)=>PyData.int (j:Int))),.val (.int (j:Int)),.val (.list (e.filter fun x=>!isNoneD x)),.val (.str v),.val (.str s),.val (.tuple (someD v s)),.val (.tuple (e.filter fun x=>!decide (x ∈ someD v s))),.val (letsD A1),.val (letsD B1),.own [.int (((A1.take i').foldl (fun a e=>a * e.length) 1:Nat):Int),.int 1],.val (.int ((0:Nat):Int)),s15,.un,.un,.un,.un],⟨_,rfl⟩,fun i' x σ' hx hP=>?_,fun σ' hP=>?_⟩
      · obtain ⟨s15,rfl⟩:=hP
        rw [List.getElem?_map] at hx
        obtain ⟨e',he',rfl⟩:=Option.map_eq_some_iff.mp hx
        have h6:=hA6 e' (List.mem_of_getElem? he')
        refine ⟨_,rfl,_,rfl,_,rfl,((0:Nat):Int),_,rfl,L2.atI_nat (j:=0) rfl,_,rfl,.inr ⟨by omega,by omega⟩,_,rfl,0,rfl,by show 0 < 2; decide,.val (.tuple e'),?_⟩
        have e1:(((A1.take (i' + 1)).foldl (fun a e=>a * e.length) 1:Nat):Int)=(((A1.take i').foldl (fun a e=>a * e.length) 1:Nat):Int) * (e'.length:Int):=by
          rw [List.take_add_one,he',List.foldl_append]
          exact Int.natCast_mul _ _
        rw [e1]; rfl
      · obtain ⟨s15,rfl⟩:=hP
        rw [List.length_map,List.take_length,prodF_fold,Nat.one_mul]
        exact ⟨_,_,rfl⟩
    · refine ⟨_,rfl,_,rfl,(Nat.le_of_ble_eq_true rfl),_,rfl,_,L2.atI_nat (j:=1) rfl,B1.map PyData.tuple,rfl,fun i' σ=>∃ s15:Sl,σ=[.val (tapeD ns),.val (frmD fs an),.val (letsD L),.val (.int (n:Int)),.val (.list ((sizesN L).map fun (j:Nat)=>PyData.int (j:Int))),.val (.int (j:Int)),.val (.list (e.filter fun x=>!isNoneD x)),.val (.str v),.val (.str s),.val (.tuple (someD v s)),.val (.tuple (e.filter fun x=>!decide (x ∈ someD v s))),.val (letsD A1),.val (letsD B1),.own [.int ((prodF A1).length:Int),.int (((B1.take i').foldl (fun a e=>a * e.length) 1:Nat):Int)],.val (.int ((1:Nat):Int)),s15,.un,.un,.un,.un],⟨_,rfl⟩,fun i' x σ' hx hP=>?_,fun σ' hP=>?_⟩
      · obtain ⟨s15,rfl⟩:=hP
        rw [List.getElem?_map] at hx
        obtain ⟨e',he',rfl⟩:=Option.map_eq_some_iff.mp hx
        have h6:=hB6 e' (List.mem_of_getElem? he')
        refine ⟨_,rfl,_,rfl,_,rfl,((1:Nat):Int),_,rfl,L2.atI_nat (j:=1) rfl,_,rfl,.inr ⟨by omega,by omega⟩,_,rfl,1,rfl,by show 1 < 2; decide,.val (.tuple e'),?_⟩
        have e1:(((B1.take (i' + 1)).foldl (fun a e=>a * e.length) 1:Nat):Int)=(((B1.take i').foldl (fun a e=>a * e.length) 1:Nat):Int) * (e'.length:Int):=by
          rw [List.take_add_one,he',List.foldl_append]
          exact Int.natCast_mul _ _
        rw [e1]; rfl
      · obtain ⟨s15,rfl⟩:=hP
        rw [List.length_map,List.take_length,prodF_fold,Nat.one_mul]
        exact ⟨_,_,rfl⟩
    · omega
  obtain ⟨s14,s15,rfl⟩:=hP
  refine ⟨_,rfl,?_⟩
  generalize hpA:(prodF A1).length=PA at *
  generalize hpB:(prodF B1).length=PB at *
  refine seq_setR (fun d=>∃ x:Int,d=.int x∧1≤x∧(n:Int) - PB≤x∧(x=1 ∨ x=(n:Int) - PB)) (fun q hq=>⟨_,rfl,_,rfl,_,L2.atI_nat (j:=1) rfl,?_⟩) ?_
  · show q (.int (if (n:Int) - PB > 1 then (n:Int) - PB else 1))
    refine hq _ ⟨_,rfl,?_⟩
    split <;> omega
  rintro _ ⟨lo,rfl,lo1,lo2,lo3⟩
  refine seq_setR (fun d=>∃ x:Int,d=.int x∧x≤PA∧x≤(n:Int) - 1∧(x=PA ∨ x=(n:Int) - 1)) (fun q hq=>⟨_,rfl,_,L2.atI_nat (j:=0) rfl,_,rfl,?_⟩) ?_
  · show q (.int (if (n:Int) - 1 < (PA:Int) then (n:Int) - 1 else (PA:Int)))
    refine hq _ ⟨_,rfl,?_⟩
    split <;> omega
  rintro _ ⟨hi,rfl,hi1,hi2,hi3⟩
  have lohi:lo≤hi:=by omega
  refine seq_setR (fun d=>∃ x:Nat,d=.int (x:Int)∧lo≤x∧x≤hi) (fun q hq=>⟨_,rfl,_,rfl,_,rfl,_,rfl,_,rfl,ns,(if hi - lo + 1 > 1 then hi - lo + 1 else 1),rfl,hl,by split <;> omega,by split <;> omega,fun i h0 h1=>?_⟩) ?_
  · show q (.int (if lo + i < hi then lo + i else hi))
    have:0≤(if lo + i < hi then lo + i else hi):=by split <;> omega
    obtain ⟨m,hm⟩:=Int.eq_ofNat_of_zero_le this
    refine hq _ ⟨m,by rw [hm],?_⟩
    split at hm <;> omega
  rintro _ ⟨one,rfl,one1,one2⟩
  refine seq_setR (fun d=>∃ y,PartOk fs an A1 one y∧d=trD y) (fun q hq=>⟨_,rfl,_,rfl,_,rfl,_,rfl,ns,fs,an,A1,one,rfl,hl,F,hL1,nA,by omega,by omega,by omega,fun t ht=>hq _ ⟨t,ht,rfl⟩⟩) ?_
  rintro _ ⟨y,hy,rfl⟩
  refine ⟨_,rfl,_,rfl,_,rfl,_,hfa,_,rfl,_,rfl,(Nat.le_of_ble_eq_true rfl),_,rfl,_,rfl,_,rfl,_,rfl,_,rfl,_,rfl,_,rfl,ns,fs,an,B1,n - one,?_,hl,F,hL2,nB,by omega,by omega,by omega,fun m hm=>⟨(Nat.le_of_ble_eq_true rfl),?_⟩⟩
  · rw [show ((n - one:Nat):Int)=(n:Int) - (one:Int) by omega]
  · have:=mk hy hm
    rw [show one + (n - one)=n by omega] at this
    exact h _ this

theorem ok_17 (T:Txt K mg A)
    (F_12:FnOk P w K mg base CX0 1 A.a_12 A.f_12 ["_law_tape_here","_law_many"] (liftSp K sp_12)):FnOk P w K mg base CX0 28 A.a_17 A.f_17 ["_law_tape_here","_law_form","_law_lets","_law_left"] (liftSp K sp_17):=by
  have h:∀ dd:Nat,FnOk P w K mg base CX0 (2 + dd) A.a_17 A.f_17 ["_law_tape_here","_law_form","_law_lets","_law_left"] (liftSp K (sp_17_lt dd)):=fun dd=>by
    induction dd with
    | zero=>exact fn_imp fn_never fun ds Q h=>never_17 h
    | succ dd ih=>exact step_17 dd T F_12 ih
  exact h 26
theorem sc_18:FnScope ["_law_form","_law_one","_law_other","_law_told_here","e"] ["_law_form","_law_one","_law_other"] (defScope (top 35)):=⟨rfl,rfl,rfl,by decide +kernel,rfl,by decide +kernel,by decide +kernel⟩
set_option maxHeartbeats 4000000 in
theorem ok_18 (T:Txt K mg A)
    (F_9:FnOk P w K mg base CX0 35 A.a_9 A.f_9 ["form","one","other"] (liftSp K sp_9))
    (X_9:FnOk P w K mg base (CX1 P w) 35 A.a_9 A.f_9 ["form","one","other"] (liftSpX K (sp_alikeX A))):FnOk P w K mg base CX0 36 A.a_18 A.f_18 ["_law_form","_law_one","_law_other"] (liftSp K sp_18):=by
  refine fnT T.F_18 sc_18 (fun ds Q h=>by obtain ⟨fs,an,one,other,rfl,F,h1,h2,hd1,hd2,hm,ha⟩:=h; rfl) fun cdv Ar outer s H E hr ds Q h=>?_
  obtain ⟨fs,an,one,other,rfl,F,h1,h2,hd1,hd2,hm,ha⟩:=h
  have nd:=sc_18.nd
  refine ⟨_,(st_cons (st_set (i:=3) (et_tup (at_cons et_str (at_cons et_non at_nil))) (fun h=>ps_set (i:=3) nd rfl (by first | exact Or.inl rfl | exact Or.inr rfl) h))
  (st_cons (PSt.or (st_tryN (st_one (st_set (i:=3) (et_call F_9 T.m_9 T.k_9 T.d_9 (hr.mono (by decide)) (at_cons (et_v 0) (at_cons (et_v 1) (at_cons (et_v 2) at_nil))) (fun h=>pe_call F_9 (hr.mono (by decide)) rfl T.m_9 T.k_9 T.d_9 .nil pass0 h)) (fun h=>ps_set (i:=3) nd rfl (by first | exact Or.inl rfl | exact Or.inr rfl) h))) (fun h=>ps_tryN quiet0 h)) (by refine' st_tryX2 (J:=A.c_TooMany) (i:=4) (rst_call (x:="") (p:=⟨0,0,0,0⟩) (at_cons (et_v 0) (at_cons (et_v 1) (at_cons (et_v 2) at_nil))) (fun h=>rs_set (re_call quiet0 X_9 (hr.mono (by decide)) rfl T.m_9 T.k_9 T.d_9 h))) (fun ea=>?hb) (fun r b=>ps_tryX quiet0 rfl rfl nd rfl rfl rfl T.x_TooMany r b); (case hb=>(refine' (st_one (st_if (tw_pt (tw_and (tt_not (tt_val (show PEt _ _ (eIsXT K [A.c_NoLine,A.c_NoPlace,A.c_NoRow,A.c_NoRule,A.c_NoSuch,A.c_NoText] (eVar 4)) from ?z1) (fun h=>pt_val h))) (tw_and1 (tt_val (show PEt _ _ (eIsX K (.type "ValueError") (eVar 4)) from ?z0) (fun h=>pt_val h)))))   (st_one (st_set (i:=3) (et_tup (at_cons et_str (at_cons et_non at_nil))) (fun h=>ps_set (i:=3) nd rfl (by first | exact Or.inl rfl | exact Or.inr rfl) h)))   st_nil)); (case z0=>exact (et_isx (c:=.type "ValueError") (cv:=.ty "ValueError") (et_v 4) (fun h=>pe_callB (call_isx fun _ z=>z) rfl T.b_isinstance bl_isinstance (pa_cons h (pa_cons (pe_bltn rfl T.b_ValueError bl_ValueError rfl) pa_nil))))); (case z1=>exact (et_isxT (cs:=[A.c_NoLine,A.c_NoPlace,A.c_NoRow,A.c_NoRule,A.c_NoSuch,A.c_NoText]) (et_v 4) (fun h=>pe_callB call_isxT rfl T.b_isinstance bl_isinstance (pa_cons h (pa_cons (pe_tup (pa_cons (pe_glob rfl T.x_NoLine rfl) (pa_cons (pe_glob rfl T.x_NoPlace rfl) (pa_cons (pe_glob rfl T.x_NoRow rfl) (pa_cons (pe_glob rfl T.x_NoRule rfl) (pa_cons (pe_glob rfl T.x_NoSuch rfl) (pa_cons (pe_glob rfl T.x_NoText rfl) pa_nil))))))) pa_nil)))))))))
  (st_one (st_ret (et_v 3))))),?_⟩
  show sSeq _ _ _ [.val (frmD fs an),.val (trD one),.val (trD other),.un,.un]
  refine seq_set (.tuple [.str "",.none]) (fun q hq=>⟨(Nat.le_of_ble_eq_true rfl),hq⟩) ?_
  show (_ ∨ _)
  by_cases hk:2000 < (pairsT fs one other (fs.map entD)).length
  · refine .inr ⟨_,rfl,_,rfl,_,rfl,fs,an,one,other,rfl,F,h1,h2,hd1,hd2,hk,⟨A.c_TooMany,.none,rfl,T.e_TooMany⟩,?_⟩
    refine one_if (fun b=>b=true) (fun q hq=>⟨_,rfl,A.c_TooMany,.none,false,rfl,(Nat.le_of_ble_eq_true rfl),?_,?_⟩) (fun _=>?_) fun hF=>by cases hF
    · show PySem.W.kitAny K (.ref A.c_TooMany) [.ref A.c_NoLine,.ref A.c_NoPlace,.ref A.c_NoRow,.ref A.c_NoRule,.ref A.c_NoSuch,.ref A.c_NoText]=some false
      simp only [PySem.W.kitAny,T.q_TooMany_NoLine,T.q_TooMany_NoPlace,T.q_TooMany_NoRow,T.q_TooMany_NoRule,T.q_TooMany_NoSuch,T.q_TooMany_NoText]
    · show (if true=true then _ else q false)
      rw [if_pos rfl]
      exact ⟨_,rfl,A.c_TooMany,.none,true,rfl,T.v_TooMany,hq _ rfl⟩
    · exact one_set (.tuple [.str "many",.none]) (fun q hq=>⟨(Nat.le_of_ble_eq_true rfl),hq⟩) ⟨_,rfl,hm hk⟩
  · obtain ⟨hu,hal⟩:=ha (by omega)
    refine .inl ⟨_,rfl,_,rfl,_,rfl,fs,an,one,other,rfl,F,h1,h2,hd1,hd2,by omega,fun c hc hne=>⟨_,rfl,hu c hc hne⟩,fun he=>⟨_,rfl,hal he⟩⟩

theorem sc_19:FnScope ["_law_tree"] ["_law_tree"] (defScope (top 36)):=⟨rfl,rfl,rfl,by decide +kernel,rfl,by decide +kernel,by decide +kernel⟩
set_option maxHeartbeats 4000000 in
theorem step_19 (dd:Nat) (T:Txt K mg A)
    (F_19:FnOk P w K mg base CX0 (1 + dd) A.a_19 A.f_19 ["_law_tree"] (liftSp K (sp_19_lt dd))):FnOk P w K mg base CX0 (1 + dd + 1) A.a_19 A.f_19 ["_law_tree"] (liftSp K (sp_19_lt (dd + 1))):=by
  refine fnT T.F_19 sc_19 (fun ds Q h=>by obtain ⟨t,rfl,htd,hl,h⟩:=h; rfl) fun cdv Ar outer s H E hr ds Q h=>?_
  obtain ⟨t,rfl,htd,hl,h⟩:=h
  have nd:=sc_19.nd
  refine ⟨_,(st_cons (st_if (tt_cmp op_eq o_eq (et_ix ix_seq o_ix (et_v 0) et_int) et_str)
  (st_one (st_ret (et_lst (at_cons (et_ix ix_seq o_ix (et_v 0) et_int) at_nil))))
  st_nil)
  (st_one (st_ret (et_op op_addAny o_add (et_call F_19 T.m_19 T.k_19 T.d_19 (hr.mono (by omega)) (at_cons (et_ix ix_seq o_ix (et_v 0) et_int) at_nil) (fun h=>pe_call F_19 (hr.mono (by omega)) rfl T.m_19 T.k_19 T.d_19 .nil pass0 h)) (et_call F_19 T.m_19 T.k_19 T.d_19 (hr.mono (by omega)) (at_cons (et_ix ix_seq o_ix (et_v 0) et_int) at_nil) (fun h=>pe_call F_19 (hr.mono (by omega)) rfl T.m_19 T.k_19 T.d_19 .nil pass0 h)))))),?_⟩
  show sSeq _ _ _ [.val (trD t)]
  cases t with
  | say a =>
    refine seq_if (fun b=>b=true) (fun q hq=>⟨_,rfl,_,L2.atI_nat (j:=0) rfl,hq _ rfl⟩) (fun _=>?_) fun hF=>by cases hF
    exact ⟨_,rfl,_,L2.atI_nat (j:=1) rfl,(Nat.le_of_ble_eq_true rfl),h⟩
  | ask k n v s y m =>
    have l1:(answersT y++answersT m).length≤1000:=hl
    rw [List.length_append] at l1
    have d1:max y.dep m.dep + 1 < dd + 1:=htd
    refine seq_if (fun b=>b=false) (fun q hq=>⟨_,rfl,_,L2.atI_nat (j:=0) rfl,hq _ rfl⟩) (fun hT=>by cases hT) fun _=>?_
    try unfold sNext
    dsimp only
    refine ⟨_,rfl,_,L2.atI_nat (j:=3) rfl,y,rfl,by omega,by omega,_,rfl,_,L2.atI_nat (j:=4) rfl,m,rfl,by omega,by omega,?_⟩
    refine ⟨by rw [List.length_map,List.length_map]; omega,?_⟩
    have h':Q (.list ((answersT y++answersT m).map PyData.str)):=h
    rw [List.map_append] at h'
    exact h'

theorem ok_19 (T:Txt K mg A):FnOk P w K mg base CX0 31 A.a_19 A.f_19 ["_law_tree"] (liftSp K sp_19):=by
  have h:∀ dd:Nat,FnOk P w K mg base CX0 (1 + dd) A.a_19 A.f_19 ["_law_tree"] (liftSp K (sp_19_lt dd)):=fun dd=>by
    induction dd with
    | zero=>exact fn_imp fn_never fun ds Q h=>never_19 h
    | succ dd ih=>exact step_19 dd T ih
  exact h 30
theorem sc_20:FnScope ["_law_tree","_law_answer"] ["_law_tree","_law_answer"] (defScope (top 37)):=⟨rfl,rfl,rfl,by decide +kernel,rfl,by decide +kernel,by decide +kernel⟩
set_option maxHeartbeats 4000000 in
theorem step_20 (dd:Nat) (T:Txt K mg A)
    (F_20:FnOk P w K mg base CX0 (1 + dd) A.a_20 A.f_20 ["_law_tree","_law_answer"] (liftSp K (sp_20_lt dd))):FnOk P w K mg base CX0 (1 + dd + 1) A.a_20 A.f_20 ["_law_tree","_law_answer"] (liftSp K (sp_20_lt (dd + 1))):=by
  refine fnT T.F_20 sc_20 (fun ds Q h=>by obtain ⟨t,a,rfl,htd,h⟩:=h; rfl) fun cdv Ar outer s H E hr ds Q h=>?_
  obtain ⟨t,a,rfl,htd,h⟩:=h
  have nd:=sc_20.nd
  refine ⟨_,(st_cons (st_if (tt_cmp op_eq o_eq (et_ix ix_seq o_ix (et_v 0) et_int) et_str)
  (st_one (st_ret (et_tup (at_cons et_str (at_cons (et_v 1) at_nil)))))
  st_nil)
  (st_one (st_ret (et_op op_addAny o_add (et_slice sl_any o_sl (et_v 0) ot_none (ot_some et_int)) (et_tup (at_cons (et_call F_20 T.m_20 T.k_20 T.d_20 (hr.mono (by omega)) (at_cons (et_ix ix_seq o_ix (et_v 0) et_int) (at_cons (et_v 1) at_nil)) (fun h=>pe_call F_20 (hr.mono (by omega)) rfl T.m_20 T.k_20 T.d_20 .nil pass0 h)) (at_cons (et_call F_20 T.m_20 T.k_20 T.d_20 (hr.mono (by omega)) (at_cons (et_ix ix_seq o_ix (et_v 0) et_int) (at_cons (et_v 1) at_nil)) (fun h=>pe_call F_20 (hr.mono (by omega)) rfl T.m_20 T.k_20 T.d_20 .nil pass0 h)) at_nil))))))),?_⟩
  show sSeq _ _ _ [.val (trD t),.val (.str a)]
  cases t with
  | say a =>
    refine seq_if (fun b=>b=true) (fun q hq=>⟨_,rfl,_,L2.atI_nat (j:=0) rfl,hq _ rfl⟩) (fun _=>?_) fun hF=>by cases hF
    exact ⟨_,rfl,(Nat.le_of_ble_eq_true rfl),h⟩
  | ask k n v s y m =>
    have d1:max y.dep m.dep + 1 < dd + 1:=htd
    refine seq_if (fun b=>b=false) (fun q hq=>⟨_,rfl,_,L2.atI_nat (j:=0) rfl,hq _ rfl⟩) (fun hT=>by cases hT) fun _=>?_
    try unfold sNext
    dsimp only
    refine ⟨_,rfl,_,rfl,_,L2.atI_nat (j:=3) rfl,_,rfl,y,a,rfl,by omega,_,rfl,_,L2.atI_nat (j:=4) rfl,_,rfl,m,a,rfl,by omega,(Nat.le_of_ble_eq_true rfl),?_⟩
    exact ⟨(Nat.le_of_ble_eq_true rfl),h⟩

theorem ok_20 (T:Txt K mg A):FnOk P w K mg base CX0 31 A.a_20 A.f_20 ["_law_tree","_law_answer"] (liftSp K sp_20):=by
  have h:∀ dd:Nat,FnOk P w K mg base CX0 (1 + dd) A.a_20 A.f_20 ["_law_tree","_law_answer"] (liftSp K (sp_20_lt dd)):=fun dd=>by
    induction dd with
    | zero=>exact fn_imp fn_never fun ds Q h=>never_20 h
    | succ dd ih=>exact step_20 dd T ih
  exact h 30
theorem sc_21:FnScope ["_law_tape_here","_law_form","_law_lets","_law_many","_law_plain","_law_tree"] ["_law_tape_here","_law_form","_law_lets","_law_many","_law_plain"] (defScope (top 38)):=⟨rfl,rfl,rfl,by decide +kernel,rfl,by decide +kernel,by decide +kernel⟩
set_option maxHeartbeats 4000000 in
theorem ok_21 (T:Txt K mg A)
    (F_17:FnOk P w K mg base CX0 28 A.a_17 A.f_17 ["_law_tape_here","_law_form","_law_lets","_law_left"] (liftSp K sp_17))
    (F_20:FnOk P w K mg base CX0 31 A.a_20 A.f_20 ["_law_tree","_law_answer"] (liftSp K sp_20)):FnOk P w K mg base CX0 32 A.a_21 A.f_21 ["_law_tape_here","_law_form","_law_lets","_law_many","_law_plain"] (liftSp K sp_21):=by
  refine fnT T.F_21 sc_21 (fun ds Q h=>by obtain ⟨ns,fs,an,L,n,b,rfl,hl,F,hL,hn,hn1,hnm,hw,h⟩:=h; rfl) fun cdv Ar outer s H E hr ds Q h=>?_
  obtain ⟨ns,fs,an,L,n,b,rfl,hl,F,hL,hn,hn1,hnm,hw,h⟩:=h
  have nd:=sc_21.nd
  refine ⟨_,(st_cons (st_set (i:=5) (et_call F_17 T.m_17 T.k_17 T.d_17 (hr.mono (by decide)) (at_cons (et_v 0) (at_cons (et_v 1) (at_cons (et_v 2) (at_cons (et_v 3) at_nil)))) (fun h=>pe_call F_17 (hr.mono (by decide)) rfl T.m_17 T.k_17 T.d_17 .nil pass0 h)) (fun h=>ps_set (i:=5) nd rfl (by first | exact Or.inl rfl | exact Or.inr rfl) h))
  (st_cons (st_if (tt_val (et_v 4) (fun h=>pt_val h))
  (st_one (st_ret (et_call F_20 T.m_20 T.k_20 T.d_20 (hr.mono (by decide)) (at_cons (et_v 5) (at_cons (et_ix ix_seq o_ix (et_ix ix_seq o_ix (et_v 1) et_int) et_int) at_nil)) (fun h=>pe_call F_20 (hr.mono (by decide)) rfl T.m_20 T.k_20 T.d_20 .nil pass0 h))))
  st_nil)
  (st_one (st_ret (et_v 5))))),?_⟩
  show sSeq _ _ _ [.val (tapeD ns),.val (frmD fs an),.val (letsD L),.val (.int (n:Int)),.val (.bool b),.un]
  have a2:=F.a2
  refine seq_setR (fun d=>∃ t,PartOk fs an L n t∧d=trD t) (fun q hq=>⟨_,rfl,_,rfl,_,rfl,_,rfl,ns,fs,an,L,n,rfl,hl,F,hL,hn,hn1,hnm,by omega,fun t ht=>hq _ ⟨t,ht,rfl⟩⟩) ?_
  rintro _ ⟨t,ht,rfl⟩
  have hd:=ht.dep
  refine seq_if (fun c=>c=b) (fun q hq=>⟨_,rfl,hq _ rfl⟩) (fun hT=>?_) fun hF=>?_
  · have ha:an[0]?=some (an[0]'(by omega)):=List.getElem?_eq_getElem _
    exact ⟨_,rfl,_,rfl,_,rfl,_,L2.atI_nat (j:=0) (by rw [List.getElem?_map,ha]; rfl),t,_,rfl,by omega,h _ (ht.same (List.getElem_mem _))⟩
  · try unfold sNext
    dsimp only
    exact ⟨_,rfl,h t ht⟩

theorem sc_22:FnScope ["_law_tape_here","_law_form","_law_tree"] ["_law_tape_here","_law_form","_law_tree"] (defScope (top 39)):=⟨rfl,rfl,rfl,by decide +kernel,rfl,by decide +kernel,by decide +kernel⟩
set_option maxHeartbeats 4000000 in
theorem step_22 (dd:Nat) (T:Txt K mg A)
    (F_12:FnOk P w K mg base CX0 1 A.a_12 A.f_12 ["_law_tape_here","_law_many"] (liftSp K sp_12))
    (F_22:FnOk P w K mg base CX0 (2 + dd) A.a_22 A.f_22 ["_law_tape_here","_law_form","_law_tree"] (liftSp K (sp_22_lt dd))):FnOk P w K mg base CX0 (2 + dd + 1) A.a_22 A.f_22 ["_law_tape_here","_law_form","_law_tree"] (liftSp K (sp_22_lt (dd + 1))):=by
  refine fnT T.F_22 sc_22 (fun ds Q h=>by obtain ⟨ns,fs,an,t,rfl,hl,F,ha2,ht,htd,h⟩:=h; rfl) fun cdv Ar outer s H E hr ds Q h=>?_
  obtain ⟨ns,fs,an,t,rfl,hl,F,ha2,ht,htd,h⟩:=h
  have nd:=sc_22.nd
  refine ⟨_,(st_cons (st_if (tt_cmp op_eq o_eq (et_ix ix_seq o_ix (et_v 2) et_int) et_str)
  (st_one (st_ret (et_tup (at_cons et_str (at_cons (et_ix ix_seq o_ix (et_ix ix_seq o_ix (et_v 1) et_int) (et_op op_sub o_I0 et_int (et_index (et_ix ix_seq o_ix (et_v 1) et_int) (at_cons (et_ix ix_seq o_ix (et_v 2) et_int) at_nil) (fun h ha=>pe_bm PySem.F.plainAttrs_tuple PySem.F.slot_tuple_index PySem.F.type_tuple_index (mt_index hr) h ha)))) at_nil)))))
  st_nil)
  (st_cons (st_if (tt_cmp op_eq o_eq (et_call F_12 T.m_12 T.k_12 T.d_12 (hr.mono (by omega)) (at_cons (et_v 0) (at_cons et_int at_nil)) (fun h=>pe_call F_12 (hr.mono (by omega)) rfl T.m_12 T.k_12 T.d_12 .nil pass0 h)) et_int)
  (st_one (st_ret (et_op op_addAny o_add (et_slice sl_any o_sl (et_v 2) ot_none (ot_some et_int)) (et_tup (at_cons (et_call F_22 T.m_22 T.k_22 T.d_22 (hr.mono (by omega)) (at_cons (et_v 0) (at_cons (et_v 1) (at_cons (et_ix ix_seq o_ix (et_v 2) et_int) at_nil))) (fun h=>pe_call F_22 (hr.mono (by omega)) rfl T.m_22 T.k_22 T.d_22 .nil pass0 h)) (at_cons (et_ix ix_seq o_ix (et_v 2) et_int) at_nil))))))
  st_nil)
  (st_one (st_ret (et_op op_addAny o_add (et_slice sl_any o_sl (et_v 2) ot_none (ot_some et_int)) (et_tup (at_cons (et_call F_22 T.m_22 T.k_22 T.d_22 (hr.mono (by omega)) (at_cons (et_v 0) (at_cons (et_v 1) (at_cons (et_ix ix_seq o_ix (et_v 2) et_int) at_nil))) (fun h=>pe_call F_22 (hr.mono (by omega)) rfl T.m_22 T.k_22 T.d_22 .nil pass0 h)) at_nil))))))),?_⟩
  show sSeq _ _ _ [.val (tapeD ns),.val (frmD fs an),.val (trD t)]
  cases t with
  | say a =>
    refine seq_if (fun b=>b=true) (fun q hq=>⟨_,rfl,_,L2.atI_nat (j:=0) rfl,hq _ rfl⟩) (fun _=>?_) fun hF=>by cases hF
    have hix:=okIx_strs F.an.2.1 ht
    have hil:an.idxOf a < an.length:=List.idxOf_lt_length_iff.mpr ht
    have hj:1 - an.idxOf a < an.length:=by omega
    have hb:an[1 - an.idxOf a]?=some (an[1 - an.idxOf a]'hj):=List.getElem?_eq_getElem hj
    refine ⟨_,rfl,_,rfl,_,rfl,_,rfl,_,rfl,_,rfl,_,L2.atI_nat (j:=1) rfl,_,_,rfl,hix,.str (an[1 - an.idxOf a]'hj),?_,(Nat.le_of_ble_eq_true rfl),h (.say _) ⟨fun z=>?_,List.getElem_mem hj⟩⟩
    · rw [show (1:Int) - ((an.idxOf a:Nat):Int)=((1 - an.idxOf a:Nat):Int) by omega]
      exact L2.atI_nat (by rw [List.getElem?_map,hb]; rfl)
    · have h1:an[an.idxOf a]'hil=a:=List.getElem_idxOf hil
      have h2:=(List.getElem?_inj (i:=an.idxOf a) (j:=1 - an.idxOf a) hil F.an.2.2).mp (by rw [List.getElem?_eq_getElem hil,hb,h1,← z])
      omega
  | ask k n v s y m =>
    obtain ⟨hq,hs,hy,hm⟩:=ht
    have d1:max y.dep m.dep + 1 < dd + 1:=htd
    refine seq_if (fun b=>b=false) (fun q hq=>⟨_,rfl,_,L2.atI_nat (j:=0) rfl,hq _ rfl⟩) (fun hT=>by cases hT) fun _=>?_
    try unfold sNext
    dsimp only
    refine seq_if (fun _=>True) (fun q hq=>⟨_,rfl,ns,2,rfl,hl,by decide,by decide,fun i _ _=>hq _ trivial⟩) (fun _=>?_) fun _=>?_
    · exact ⟨_,rfl,_,rfl,_,rfl,_,rfl,_,L2.atI_nat (j:=3) rfl,ns,fs,an,y,rfl,hl,F,ha2,hy,by omega,fun u hu=>⟨_,rfl,_,L2.atI_nat (j:=4) rfl,(Nat.le_of_ble_eq_true rfl),(Nat.le_of_ble_eq_true rfl),h (.ask k n v s u m) ⟨⟨rfl,rfl,rfl,rfl⟩,.inl ⟨hu,rfl⟩⟩⟩⟩
    · try unfold sNext
      dsimp only
      exact ⟨_,rfl,_,rfl,_,rfl,_,rfl,_,L2.atI_nat (j:=4) rfl,ns,fs,an,m,rfl,hl,F,ha2,hm,by omega,fun u hu=>⟨(Nat.le_of_ble_eq_true rfl),(Nat.le_of_ble_eq_true rfl),h (.ask k n v s y u) ⟨⟨rfl,rfl,rfl,rfl⟩,.inr ⟨rfl,hu⟩⟩⟩⟩

theorem ok_22 (T:Txt K mg A)
    (F_12:FnOk P w K mg base CX0 1 A.a_12 A.f_12 ["_law_tape_here","_law_many"] (liftSp K sp_12)):FnOk P w K mg base CX0 32 A.a_22 A.f_22 ["_law_tape_here","_law_form","_law_tree"] (liftSp K sp_22):=by
  have h:∀ dd:Nat,FnOk P w K mg base CX0 (2 + dd) A.a_22 A.f_22 ["_law_tape_here","_law_form","_law_tree"] (liftSp K (sp_22_lt dd)):=fun dd=>by
    induction dd with
    | zero=>exact fn_imp fn_never fun ds Q h=>never_22 h
    | succ dd ih=>exact step_22 dd T F_12 ih
  exact h 30
theorem sc_23:FnScope ["_law_tape_here","_law_form","_law_tree","_law_bare"] ["_law_tape_here","_law_form","_law_tree"] (defScope (top 40)):=⟨rfl,rfl,rfl,by decide +kernel,rfl,by decide +kernel,by decide +kernel⟩
set_option maxHeartbeats 4000000 in
theorem ok_23 (T:Txt K mg A)
    (F_17:FnOk P w K mg base CX0 28 A.a_17 A.f_17 ["_law_tape_here","_law_form","_law_lets","_law_left"] (liftSp K sp_17))
    (F_14:FnOk P w K mg base CX0 1 A.a_14 A.f_14 ["_law_form"] (liftSp K sp_14)):FnOk P w K mg base CX0 29 A.a_23 A.f_23 ["_law_tape_here","_law_form","_law_tree"] (liftSp K sp_23):=by
  refine fnT T.F_23 sc_23 (fun ds Q h=>by obtain ⟨ns,fs,an,k,n,v,s,y,m,rfl,hl,V,h⟩:=h; rfl) fun cdv Ar outer s H E hr ds Q h=>?_
  obtain ⟨ns,fs,an,k,n,v,s,y,m,rfl,hl,V,h⟩:=h
  have nd:=sc_23.nd
  refine ⟨_,(st_cons (st_set (i:=3) (et_call F_17 T.m_17 T.k_17 T.d_17 (hr.mono (by decide)) (at_cons (et_v 0) (at_cons (et_v 1) (at_cons (et_call F_14 T.m_14 T.k_14 T.d_14 (hr.mono (by decide)) (at_cons (et_v 1) at_nil) (fun h=>pe_call F_14 (hr.mono (by decide)) rfl T.m_14 T.k_14 T.d_14 .nil pass0 h)) (at_cons et_int at_nil)))) (fun h=>pe_call F_17 (hr.mono (by decide)) rfl T.m_17 T.k_17 T.d_17 .nil pass0 h)) (fun h=>ps_set (i:=3) nd rfl (by first | exact Or.inl rfl | exact Or.inr rfl) h))
  (st_one (st_ret (et_op op_addAny o_add (et_slice sl_any o_sl (et_v 2) ot_none (ot_some et_int)) (et_tup (at_cons (et_op op_addAny o_add (et_slice sl_any o_sl (et_v 2) ot_none (ot_some et_int)) (et_tup (at_cons (et_ix ix_seq o_ix (et_v 2) et_int) (at_cons (et_v 3) at_nil)))) (at_cons (et_ix ix_seq o_ix (et_v 2) et_int) at_nil))))))),?_⟩
  show sSeq _ _ _ [.val (tapeD ns),.val (frmD fs an),.val (trD (.ask k n v s y m)),.un]
  have F:=V.form
  have hp:=five_prod V
  have hw:=wid_le F (LetsOk.whole fs)
  refine seq_setR (fun d=>∃ b,(TrOk fs an b∧b.dep≤25)∧d=trD b) (fun q hq=>⟨_,rfl,_,rfl,_,rfl,fs,an,rfl,F,ns,fs,an,fs.map entD,9,rfl,hl,F,LetsOk.whole fs,whole_some fs,by decide,by omega,by omega,fun t ht=>hq _ ⟨t,⟨ht.ok,Nat.le_trans ht.dep hw⟩,rfl⟩⟩) ?_
  rintro _ ⟨b,⟨hb,hd⟩,rfl⟩
  exact ⟨_,rfl,_,rfl,_,rfl,_,L2.atI_nat (j:=3) rfl,_,rfl,(Nat.le_of_ble_eq_true rfl),(Nat.le_of_ble_eq_true rfl),_,rfl,_,L2.atI_nat (j:=4) rfl,(Nat.le_of_ble_eq_true rfl),(Nat.le_of_ble_eq_true rfl),h b hb hd⟩

theorem sc_24:FnScope ["_law_form","_law_one","_law_other","_law_pieces","_law_many","_law_piece","_law_size","_law_part","_law_values","_law_first","_law_final","_law_tree"] ["_law_form","_law_one","_law_other","_law_pieces"] (defScope (top 41)):=⟨rfl,rfl,rfl,by decide +kernel,rfl,by decide +kernel,by decide +kernel⟩
set_option maxHeartbeats 4000000 in
theorem ok_24 (T:Txt K mg A)
    (F_16:FnOk P w K mg base CX0 2 A.a_16 A.f_16 ["_law_form","_law_tree","_law_case"] (liftSp K sp_16))
    (F_14:FnOk P w K mg base CX0 1 A.a_14 A.f_14 ["_law_form"] (liftSp K sp_14)):FnOk P w K mg base CX0 3 A.a_24 A.f_24 ["_law_form","_law_one","_law_other","_law_pieces"] (liftSp K sp_24):=by
  refine fnT T.F_24 sc_24 (fun ds Q h=>by obtain ⟨fs,an,one,other,Ls,rfl,V,h1,h2,hd1,hd2,⟨hLs,hsum⟩,h⟩:=h; rfl) fun cdv Ar outer s H E hr ds Q h=>?_
  obtain ⟨fs,an,one,other,Ls,rfl,V,h1,h2,hd1,hd2,⟨hLs,hsum⟩,h⟩:=h
  have nd:=sc_24.nd
  refine ⟨_,(st_cons (st_if (tt_not (tt_val (et_isi (kit_list _) (et_v 3) (fun h=>pe_callB call_isi rfl T.b_isinstance bl_isinstance (pa_cons h (pa_cons (pe_bltn rfl T.b_list bl_list rfl) pa_nil)))) (fun h=>pt_val h)))
  (st_one (st_ret et_bl))
  st_nil)
  (st_cons (st_set (i:=4) et_int (fun h=>ps_set (i:=4) nd rfl (by first | exact Or.inl rfl | exact Or.inr rfl) h))
  (st_cons (st_for (it_val (et_v 3)) (gt_name (pg_name (i:=5) nd rfl (by first | exact Or.inl rfl | exact Or.inr rfl)))
  (st_cons (st_if (tw_pt (tw_or (tt_not (tt_val (et_isi (kit_tuple _) (et_v 5) (fun h=>pe_callB call_isi rfl T.b_isinstance bl_isinstance (pa_cons h (pa_cons (pe_bltn rfl T.b_tuple bl_tuple rfl) pa_nil)))) (fun h=>pt_val h))) (tw_or1 (tt_cmp op_ne o_ne (et_cb c_len (at_cons (et_v 5) at_nil) (fun h=>pe_callB call_lenAny rfl T.b_len bl_len h)) et_int))))
  (st_one (st_ret et_bl))
  st_nil)
  (st_cons (st_set (i:=6) et_int (fun h=>ps_set (i:=6) nd rfl (by first | exact Or.inl rfl | exact Or.inr rfl) h))
  (st_cons (st_for (it_zip (at_cons (et_v 5) (at_cons (et_call F_14 T.m_14 T.k_14 T.d_14 (hr.mono (by decide)) (at_cons (et_v 0) at_nil) (fun h=>pe_call F_14 (hr.mono (by decide)) rfl T.m_14 T.k_14 T.d_14 .nil pass0 h)) at_nil)) (fun h=>pi_zip rfl T.b_zip h)) (gt_pair (pg_tup rfl (pgs_cons (pg_name (i:=7) nd rfl (by first | exact Or.inl rfl | exact Or.inr rfl)) (pgs_cons (pg_name (i:=8) nd rfl (by first | exact Or.inl rfl | exact Or.inr rfl)) pgs_nil))))
  (st_cons (st_if (tw_pt (tw_or (tt_not (tt_val (et_isi (kit_tuple _) (et_v 7) (fun h=>pe_callB call_isi rfl T.b_isinstance bl_isinstance (pa_cons h (pa_cons (pe_bltn rfl T.b_tuple bl_tuple rfl) pa_nil)))) (fun h=>pt_val h))) (tw_or (tt_cmp (op_eqD hr) o_data (et_v 7) (et_tup at_nil)) (tw_or1 (tt_cmp (op_neD hr) o_data (et_v 7) (et_cb c_tuple (at_cons (et_lc (fr:=[none,some 7]) (N':=["_law_value","_law_part"]) (it_val (et_v 8)) (fun b=>⟨(gt_name (pg_name (i:=0) (show List.Nodup (["_law_value","_law_part"]:List Str) from by decide +kernel) rfl (by first | exact Or.inl rfl | exact Or.inr rfl))),(if_one (tt_cmp (op_in2 hr) o_in2 (et_v 0) (et_v 1))),(et_v 0)⟩) (fun hi hY=>pe_lcc (show lcChk _ (defScope (top 41)) ["_law_form","_law_one","_law_other","_law_pieces","_law_many","_law_piece","_law_size","_law_part","_law_values","_law_first","_law_final","_law_tree"] ["_law_value","_law_part"] [none,some 7]=true from by decide +kernel) rfl hi hY)) at_nil) (fun h=>pe_callTy call_tuple_of rfl T.b_tuple bl_tuple h)))))))
  (st_one (st_ret et_bl))
  st_nil)
  (st_one (st_set (i:=6) (et_op op_mulAny o_mul (et_v 6) (et_cb c_len (at_cons (et_v 7) at_nil) (fun h=>pe_callB call_lenAny rfl T.b_len bl_len h))) (fun h=>ps_set (i:=6) nd rfl (by first | exact Or.inl rfl | exact Or.inr rfl) h)))) (fun hi hg hb=>ps_for PassesOwn.never rfl hi hg hb))
  (st_cons (st_set (i:=4) (et_op op_addAny o_add (et_v 4) (et_v 6)) (fun h=>ps_set (i:=4) nd rfl (by first | exact Or.inl rfl | exact Or.inr rfl) h))
  (st_cons (st_set (i:=9) (et_cb c_tuple (at_cons (et_lc (fr:=[none]) (N':=["_law_part"]) (it_val (et_v 5)) (fun b=>⟨(gt_name (pg_name (i:=0) (show List.Nodup (["_law_part"]:List Str) from by decide +kernel) rfl (by first | exact Or.inl rfl | exact Or.inr rfl))),if_nil,(et_ix ix_seq o_ix (et_v 0) et_int)⟩) (fun hi hY=>pe_lcc (show lcChk _ (defScope (top 41)) ["_law_form","_law_one","_law_other","_law_pieces","_law_many","_law_piece","_law_size","_law_part","_law_values","_law_first","_law_final","_law_tree"] ["_law_part"] [none]=true from by decide +kernel) rfl hi hY)) at_nil) (fun h=>pe_callTy call_tuple_of rfl T.b_tuple bl_tuple h)) (fun h=>ps_set (i:=9) nd rfl (by first | exact Or.inl rfl | exact Or.inr rfl) h))
  (st_cons (st_set (i:=10) (et_cb c_tuple (at_cons (et_lc (fr:=[none]) (N':=["_law_part"]) (it_val (et_v 5)) (fun b=>⟨(gt_name (pg_name (i:=0) (show List.Nodup (["_law_part"]:List Str) from by decide +kernel) rfl (by first | exact Or.inl rfl | exact Or.inr rfl))),if_nil,(et_ix ix_seq o_ix (et_v 0) (et_neg et_int))⟩) (fun hi hY=>pe_lcc (show lcChk _ (defScope (top 41)) ["_law_form","_law_one","_law_other","_law_pieces","_law_many","_law_piece","_law_size","_law_part","_law_values","_law_first","_law_final","_law_tree"] ["_law_part"] [none]=true from by decide +kernel) rfl hi hY)) at_nil) (fun h=>pe_callTy call_tuple_of rfl T.b_tuple bl_tuple h)) (fun h=>ps_set (i:=10) nd rfl (by first | exact Or.inl rfl | exact Or.inr rfl) h))
  (st_one (st_for (it_val (et_lst (at_cons (et_v 1) (at_cons (et_v 2) at_nil)))) (gt_name (pg_name (i:=11) nd rfl (by first | exact Or.inl rfl | exact Or.inr rfl)))
  (st_one (st_if (tt_cmp (op_neD hr) o_data (et_call F_16 T.m_16 T.k_16 T.d_16 (hr.mono (by decide)) (at_cons (et_v 0) (at_cons (et_v 11) (at_cons (et_v 9) at_nil))) (fun h=>pe_call F_16 (hr.mono (by decide)) rfl T.m_16 T.k_16 T.d_16 .nil pass0 h)) (et_call F_16 T.m_16 T.k_16 T.d_16 (hr.mono (by decide)) (at_cons (et_v 0) (at_cons (et_v 11) (at_cons (et_v 10) at_nil))) (fun h=>pe_call F_16 (hr.mono (by decide)) rfl T.m_16 T.k_16 T.d_16 .nil pass0 h)))
  (st_one (st_ret et_bl))
  st_nil)) (fun hi hg hb=>ps_for PassesOwn.never rfl hi hg hb))))))))) (fun hi hg hb=>ps_for PassesOwn.never rfl hi hg hb))
  (st_one (st_ret (et_cmp op_eq o_eq (et_v 4) (et_op op_pow o_I et_int et_int))))))),?_⟩
  show sSeq _ _ _ [.val (frmD fs an),.val (trD one),.val (trD other),.val (.list (Ls.map letsD)),.un,.un,.un,.un,.un,.un,.un,.un]
  have F:=V.form
  refine seq_if (fun b=>b=false) (fun q hq=>⟨_,rfl,hq _ rfl⟩) (fun hT=>by cases hT) fun _=>?_
  try unfold sNext
  dsimp only
  refine seq_set (.int ((0:Nat):Int)) (fun q hq=>hq) ?_
  refine seq_for (ts:=Ls.map letsD) (fun R h=>⟨_,rfl,_,rfl,h⟩)
    (fun i σ=>∃ s5 s6 s7 s8 s9 s10 s11:Sl,σ=[.val (frmD fs an),.val (trD one),.val (trD other),.val (.list (Ls.map letsD)),.val (.int ((((Ls.take i).map fun L=>(prodF L).length).sum:Nat):Int)),s5,s6,s7,s8,s9,s10,s11]) ⟨_,_,_,_,_,_,_,rfl⟩ (fun i x σ' hx hP=>?_) fun σ' hP=>?_
  · obtain ⟨s5,s6,s7,s8,s9,s10,s11,rfl⟩:=hP
    rw [List.getElem?_map] at hx
    obtain ⟨L,hLi,rfl⟩:=Option.map_eq_some_iff.mp hx
    obtain ⟨hL,hNil,hway⟩:=hLs L (List.mem_of_getElem? hLi)
    have hl5:(L.map PyData.tuple).length=5:=by rw [List.length_map,hL.1,V.n]
    refine seq_if (fun b=>b=false) (fun q hq=>?_) (fun hT=>by cases hT) fun _=>?_
    · refine ⟨_,rfl,?_⟩
      show (if false=true then q true else _)
      rw [if_neg (by decide)]
      refine ⟨_,rfl,hq _ ?_⟩
      show (!decide (((L.map PyData.tuple).length:Int)=5))=false
      rw [hl5]; rfl
    try unfold sNext
    dsimp only
    refine seq_set (.int ((1:Nat):Int)) (fun q hq=>hq) ?_
    refine seq_for (ts:=zipD (L.map PyData.tuple) ((fs.map entD).map PyData.tuple)) (fun R h=>⟨_,rfl,_,rfl,fs,an,rfl,F,_,_,rfl,h⟩)
      (fun i' σ=>∃ s7 s8:Sl,σ=[.val (frmD fs an),.val (trD one),.val (trD other),.val (.list (Ls.map letsD)),.val (.int ((((Ls.take i).map fun L=>(prodF L).length).sum:Nat):Int)),.val (letsD L),.val (.int (((L.take i').foldl (fun a e=>a * e.length) 1:Nat):Int)),s7,s8,s9,s10,s11]) ⟨_,_,rfl⟩ (fun i' x σ' hx hP=>?_) fun σ' hP=>?_
    · obtain ⟨s7,s8,rfl⟩:=hP
      obtain ⟨x1,x2,g1,g2,rfl⟩:=zipD_get hx
      rw [List.getElem?_map] at g1 g2
      obtain ⟨e,he,rfl⟩:=Option.map_eq_some_iff.mp g1
      obtain ⟨e2,he2,rfl⟩:=Option.map_eq_some_iff.mp g2
      rw [List.getElem?_map] at he2
      obtain ⟨f,hf,rfl⟩:=Option.map_eq_some_iff.mp he2
      have hfm:=List.mem_of_getElem? hf
      have hsub:=hL.sub hf he
      have hne:=nil_mem hNil (List.mem_of_getElem? he)
      obtain ⟨p,hp⟩:=hL.2 i' f e hf he
      have hE:=ent_entD F hfm
      have hEe:∀ x ∈ e,Ent x:=fun x hx=>hE x (hsub x hx)
      have v5:=(F.vs f hfm).2.1
      have el:=entD_len f
      have hel:e.length≤6:=by
        have:=List.length_filter_le p (entD f)
        rw [hp]; omega
      have te:Th 60 1 (.tuple e):=th_tup 8 0 6 (fun t ht=>(hEe t ht).th (Nat.le_refl 8)) hel (by decide) (by decide)
      have t0:Th 60 1 (.tuple []):=th_tup 0 0 0 all_nil (Nat.le_refl _) (Nat.zero_le _) (by decide)
      have hfe:(entD f).filter (fun x=>decide (x ∈ e))=e:=by
        conv=>rhs; rw [hp]
        apply List.filter_congr
        intro x hx
        rw [hp,Bool.eq_iff_iff,decide_eq_true_eq,List.mem_filter]
        exact ⟨fun z=>z.2,fun z=>⟨hx,z⟩⟩
      refine ⟨_,_,rfl,?_⟩
      refine seq_if (fun b=>b=false) (fun q hq=>?_) (fun hT=>by cases hT) fun _=>?_
      · refine ⟨_,rfl,?_⟩
        show (if false=true then q true else _)
        rw [if_neg (by decide)]
        refine ⟨_,rfl,(Nat.le_of_ble_eq_true rfl),okEq_of (te.cd (by decide)) (t0.cd (by decide)),?_⟩
        have e0:PyData.eqv (.tuple e) (.tuple [])=false:=by
          cases e with
          | nil=>exact absurd rfl hne
          | cons _ _=>rfl
        show (if PyData.eqv (.tuple e) (.tuple [])=true then q true else _)
        rw [e0,if_neg (by decide)]
        refine ⟨_,rfl,?_⟩
        show eCall (f1 gTuple) _ _ _
        dsimp only [eCall,aCons,aNil]
        refine lcx_filt (ts:=entD f) (fun R h=>⟨_,rfl,_,rfl,h⟩) (fun x=>decide (x ∈ e)) id (by omega) (fun x q hx hq=>⟨_,rfl,_,rfl,fIn2_tup (okIn_ent (hE x hx) hEe).2 ?_⟩) (fun x q hx hq=>⟨_,rfl,hq⟩) ?_
        · show q (e.any fun z=>PyData.eqv z x)
          rw [any_ent (hE x hx) hEe]; exact hq
        · rw [List.map_id,hfe]
          refine ⟨okEq_of (te.cd (by decide)) (te.cd (by decide)),hq _ ?_⟩
          show (!PyData.eqv (.tuple e) (.tuple e))=false
          rw [PySem.SeqAt.eqv_refl _ te.lay]; rfl
      try unfold sNext
      dsimp only
      refine one_set (.int ((((L.take i').foldl (fun a e=>a * e.length) 1:Nat):Int) * (e.length:Int))) (fun q hq=>⟨_,rfl,_,rfl,.inr ⟨by omega,by omega⟩,hq⟩) ⟨.val (.tuple e),.val (.tuple (entD f)),?_⟩
      have e1:(((L.take (i' + 1)).foldl (fun a e=>a * e.length) 1:Nat):Int)=(((L.take i').foldl (fun a e=>a * e.length) 1:Nat):Int) * (e.length:Int):=by
        rw [List.take_add_one,he,List.foldl_append]
        exact Int.natCast_mul _ _
      rw [e1]; rfl
    obtain ⟨s7,s8,rfl⟩:=hP
    have hzl:(zipD (L.map PyData.tuple) ((fs.map entD).map PyData.tuple)).length=L.length:=by
      rw [zipD_len,List.length_map,List.length_map,List.length_map,hL.1,Nat.min_self]
    rw [hzl,List.take_length,prodF_fold,Nat.one_mul]
    have en:(((Ls.take (i + 1)).map fun L=>(prodF L).length).sum:Nat)=(((Ls.take i).map fun L=>(prodF L).length).sum:Nat) + (prodF L).length:=by
      rw [List.take_add_one,hLi,List.map_append,List.sum_append]; rfl
    refine seq_set (.int ((((Ls.take (i + 1)).map fun L=>(prodF L).length).sum:Nat):Int)) (fun q hq=>⟨_,rfl,_,rfl,?_⟩) ?_
    · rw [en] at hq; exact hq
    refine seq_set (.tuple (firstC L)) (fun q hq=>?_) ?_
    · show eCall (f1 gTuple) _ _ _
      dsimp only [eCall,aCons,aNil]
      refine lcx_map (ts:=L.map PyData.tuple) (fun R h=>⟨_,rfl,_,rfl,h⟩) headD (by omega) (fun x q hx hq'=>?_) hq
      obtain ⟨e,he,rfl⟩:=List.mem_map.mp hx
      have hne':=nil_mem hNil he
      cases e with
      | nil=>exact absurd rfl hne'
      | cons y e=>exact ⟨_,rfl,_,L2.atI_nat (j:=0) rfl,hq'⟩
    refine seq_set (.tuple (lastC L)) (fun q hq=>?_) ?_
    · show eCall (f1 gTuple) _ _ _
      dsimp only [eCall,aCons,aNil]
      refine lcx_map (ts:=L.map PyData.tuple) (fun R h=>⟨_,rfl,_,rfl,h⟩) lastD (by omega) (fun x q hx hq'=>?_) hq
      obtain ⟨e,he,rfl⟩:=List.mem_map.mp hx
      exact ⟨_,rfl,_,at_last (nil_mem hNil he),hq'⟩
    have c1:=first_in hNil
    have c2:=last_in hNil
    obtain ⟨w1,w2⟩:=hway _ _ c1 c2
    have hc1:=lets_case hL c1
    have hc2:=lets_case hL c2
    refine ⟨_,rfl,_,rfl,(Nat.le_of_ble_eq_true rfl),_,rfl,fun i' σ=>∃ s11:Sl,σ=[.val (frmD fs an),.val (trD one),.val (trD other),.val (.list (Ls.map letsD)),.val (.int ((((Ls.take (i + 1)).map fun L=>(prodF L).length).sum:Nat):Int)),.val (letsD L),.val (.int ((prodF L).length:Int)),s7,s8,.val (.tuple (firstC L)),.val (.tuple (lastC L)),s11],⟨_,rfl⟩,fun i' x σ' hx hP=>?_,fun σ' hP=>?_⟩
    · obtain ⟨s11,rfl⟩:=hP
      have hx':x=trD one ∨ x=trD other:=by
        rcases i' with _ | _ | i'
        · left; simpa using hx.symm
        · right; simpa using hx.symm
        · simp at hx
      rcases hx' with rfl | rfl
      · refine one_if (fun b=>b=false) (fun q hq=>⟨_,rfl,_,rfl,_,rfl,fs,an,one,_,rfl,F,h1,hc1,by omega,_,rfl,_,rfl,_,rfl,fs,an,one,_,rfl,F,h1,hc2,by omega,okEq_of (wy_th F hc1 h1 hd1) (wy_th F hc2 h1 hd1),hq _ ?_⟩) (fun hT=>by cases hT) fun _=>⟨_,rfl⟩
        show (!PyData.eqv (wyD fs one (firstC L)) (wyD fs one (lastC L)))=false
        rw [w1,PySem.SeqAt.eqv_refl _ (wy_th F hc2 h1 hd1).lay]; rfl
      · refine one_if (fun b=>b=false) (fun q hq=>⟨_,rfl,_,rfl,_,rfl,fs,an,other,_,rfl,F,h2,hc1,by omega,_,rfl,_,rfl,_,rfl,fs,an,other,_,rfl,F,h2,hc2,by omega,okEq_of (wy_th F hc1 h2 hd2) (wy_th F hc2 h2 hd2),hq _ ?_⟩) (fun hT=>by cases hT) fun _=>⟨_,rfl⟩
        show (!PyData.eqv (wyD fs other (firstC L)) (wyD fs other (lastC L)))=false
        rw [w2,PySem.SeqAt.eqv_refl _ (wy_th F hc2 h2 hd2).lay]; rfl
    · obtain ⟨s11,rfl⟩:=hP
      exact ⟨_,_,_,_,_,_,_,rfl⟩
  · obtain ⟨s5,s6,s7,s8,s9,s10,s11,rfl⟩:=hP
    rw [List.length_map,List.take_length,hsum]
    refine ⟨_,rfl,⟨by decide,by decide,by decide⟩,?_⟩
    exact h

theorem sc_25:FnScope ["_law_form","_law_one","_law_other","_law_told_here"] ["_law_form","_law_one","_law_other","_law_told_here"] (defScope (top 42)):=⟨rfl,rfl,rfl,by decide +kernel,rfl,by decide +kernel,by decide +kernel⟩
set_option maxHeartbeats 4000000 in
theorem ok_25 (T:Txt K mg A)
    (F_16:FnOk P w K mg base CX0 2 A.a_16 A.f_16 ["_law_form","_law_tree","_law_case"] (liftSp K sp_16))
    (F_14:FnOk P w K mg base CX0 1 A.a_14 A.f_14 ["_law_form"] (liftSp K sp_14)):FnOk P w K mg base CX0 3 A.a_25 A.f_25 ["_law_form","_law_one","_law_other","_law_told_here"] (liftSp K sp_25):=by
  refine fnT T.F_25 sc_25 (fun ds Q h=>by obtain ⟨fs,an,one,other,c,rfl,V,h1,h2,hd1,hd2,hc,hne,h⟩:=h; rfl) fun cdv Ar outer s H E hr ds Q h=>?_
  obtain ⟨fs,an,one,other,c,rfl,V,h1,h2,hd1,hd2,hc,hne,h⟩:=h
  have nd:=sc_25.nd
  refine ⟨_,(st_cons (st_if (tw_pt (tw_or (tt_cmp op_ne o_ne (et_ix ix_seq o_ix (et_v 3) et_int) et_str) (tw_or (tt_not (tt_val (et_isi (kit_tuple _) (et_ix ix_seq o_ix (et_v 3) et_int) (fun h=>pe_callB call_isi rfl T.b_isinstance bl_isinstance (pa_cons h (pa_cons (pe_bltn rfl T.b_tuple bl_tuple rfl) pa_nil)))) (fun h=>pt_val h))) (tw_or1 (tt_cmp op_ne o_ne (et_cb c_len (at_cons (et_ix ix_seq o_ix (et_v 3) et_int) at_nil) (fun h=>pe_callB call_lenAny rfl T.b_len bl_len h)) et_int)))))
  (st_one (st_ret et_bl))
  st_nil)
  (st_cons (st_if (tt_not (tt_val (et_cb c_all (at_cons (et_lc (fr:=[none,none]) (N':=["_law_value","_law_values"]) (it_zip (at_cons (et_ix ix_seq o_ix (et_v 3) et_int) (at_cons (et_call F_14 T.m_14 T.k_14 T.d_14 (hr.mono (by decide)) (at_cons (et_v 0) at_nil) (fun h=>pe_call F_14 (hr.mono (by decide)) rfl T.m_14 T.k_14 T.d_14 .nil pass0 h)) at_nil)) (fun h=>pi_zip rfl T.b_zip h)) (fun b=>⟨(gt_pair (pg_tup rfl (pgs_cons (pg_name (i:=0) (show List.Nodup (["_law_value","_law_values"]:List Str) from by decide +kernel) rfl (by first | exact Or.inl rfl | exact Or.inr rfl)) (pgs_cons (pg_name (i:=1) (show List.Nodup (["_law_value","_law_values"]:List Str) from by decide +kernel) rfl (by first | exact Or.inl rfl | exact Or.inr rfl)) pgs_nil)))),if_nil,(et_cmp (op_in2 hr) o_in2 (et_v 0) (et_v 1))⟩) (fun hi hY=>pe_lcc (show lcChk _ (defScope (top 42)) ["_law_form","_law_one","_law_other","_law_told_here"] ["_law_value","_law_values"] [none,none]=true from by decide +kernel) rfl hi hY)) at_nil) (fun h=>pe_callB (call_all_bls rfl) rfl T.b_all bl_all h)) (fun h=>pt_val h)))
  (st_one (st_ret et_bl))
  st_nil)
  (st_one (st_ret (et_cmp op_ne o_ne (et_ix ix_seq o_ix (et_call F_16 T.m_16 T.k_16 T.d_16 (hr.mono (by decide)) (at_cons (et_v 0) (at_cons (et_v 1) (at_cons (et_ix ix_seq o_ix (et_v 3) et_int) at_nil))) (fun h=>pe_call F_16 (hr.mono (by decide)) rfl T.m_16 T.k_16 T.d_16 .nil pass0 h)) et_int) (et_ix ix_seq o_ix (et_call F_16 T.m_16 T.k_16 T.d_16 (hr.mono (by decide)) (at_cons (et_v 0) (at_cons (et_v 2) (at_cons (et_ix ix_seq o_ix (et_v 3) et_int) at_nil))) (fun h=>pe_call F_16 (hr.mono (by decide)) rfl T.m_16 T.k_16 T.d_16 .nil pass0 h)) et_int)))))),?_⟩
  show sSeq _ _ _ [.val (frmD fs an),.val (trD one),.val (trD other),.val (unlikeD c)]
  have F:=V.form
  have hcc:isCase fs (.tuple c)=true:=lets_case (LetsOk.whole fs) ((mem_prod _ c).mp hc)
  obtain ⟨hcl,hcv⟩:=case_get hcc
  refine seq_if (fun b=>b=false) (fun q hq=>?_) (fun hT=>by cases hT) fun _=>?_
  · refine ⟨_,rfl,_,L2.atI_nat (j:=0) rfl,?_⟩
    show (if false=true then q true else _)
    rw [if_neg (by decide)]
    refine ⟨_,rfl,_,L2.atI_nat (j:=1) rfl,?_⟩
    show (if false=true then q true else _)
    rw [if_neg (by decide)]
    refine ⟨_,rfl,_,L2.atI_nat (j:=1) rfl,hq _ ?_⟩
    show (!decide ((c.length:Int)=5))=false
    rw [hcl,V.n]; rfl
  try unfold sNext
  dsimp only
  refine seq_if (fun b=>b=false) (fun q hq=>?_) (fun hT=>by cases hT) fun _=>?_
  · show eCall (f1 gAll) _ _ _
    dsimp only [eCall,aCons,aNil]
    refine lcp_map (ts:=zipD c ((fs.map entD).map PyData.tuple)) (fun R h=>⟨_,rfl,_,L2.atI_nat (j:=1) rfl,_,rfl,fs,an,rfl,F,_,_,rfl,h⟩) (fun _=>.bool true) (by rw [zipD_len,hcl]; have:=F.n5; omega) (fun x hx=>?_) (fun x e q hm hq=>?_) ?_
    · obtain ⟨i,hi⟩:=List.getElem?_of_mem hx
      obtain ⟨x',e',_,_,rfl⟩:=zipD_get hi
      exact ⟨_,_,rfl⟩
    · obtain ⟨i,hi⟩:=List.getElem?_of_mem hm
      obtain ⟨x',e',g1,g2,he⟩:=zipD_get hi
      simp only [PyData.tuple.injEq,List.cons.injEq,and_true] at he
      obtain ⟨rfl,rfl⟩:=he
      rw [List.getElem?_map,List.getElem?_map] at g2
      obtain ⟨l,hl,rfl⟩:=Option.map_eq_some_iff.mp g2
      obtain ⟨f,hf,rfl⟩:=Option.map_eq_some_iff.mp hl
      have hxe:x ∈ entD f:=(InL_get ((mem_prod _ c).mp hc)).2 i _ x (by rw [List.getElem?_map,hf]; rfl) g1
      have hE:=ent_entD F (List.mem_of_getElem? hf)
      refine ⟨_,rfl,_,rfl,fIn2_tup (okIn_ent (hE x hxe) hE).2 ?_⟩
      show q (.bool ((entD f).any fun z=>PyData.eqv z x))
      rw [any_ent (hE x hxe) hE,decide_eq_true hxe]; exact hq
    · refine ⟨(zipD c ((fs.map entD).map PyData.tuple)).map fun _=>true,(congrArg PyData.list (List.map_map ..)).symm,?_⟩
      have:((zipD c ((fs.map entD).map PyData.tuple)).map fun _=>true).all id=true:=by
        rw [List.all_map,List.all_eq_true]; exact fun _ _=>rfl
      rw [this]; exact hq _ rfl
  try unfold sNext
  dsimp only
  refine ⟨_,rfl,_,rfl,_,rfl,_,L2.atI_nat (j:=1) rfl,fs,an,one,c,rfl,F,h1,hcc,by omega,_,L2.atI_nat (j:=1) rfl,_,rfl,_,rfl,_,rfl,_,L2.atI_nat (j:=1) rfl,fs,an,other,c,rfl,F,h2,hcc,by omega,_,L2.atI_nat (j:=1) rfl,?_⟩
  show Q (.bool (!decide (ansL fs one c=ansL fs other c)))
  rw [decide_eq_false hne]; exact h

theorem sc_26:FnScope ["_law_form","_law_tree","_law_one","_law_rules","_law_firsts"] ["_law_form","_law_tree","_law_one"] (defScope (top 43)):=⟨rfl,rfl,rfl,by decide +kernel,rfl,by decide +kernel,by decide +kernel⟩
set_option maxHeartbeats 4000000 in
theorem ok_26 (T:Txt K mg A)
    (F_19:FnOk P w K mg base CX0 31 A.a_19 A.f_19 ["_law_tree"] (liftSp K sp_19))
    (F_24:FnOk P w K mg base CX0 3 A.a_24 A.f_24 ["_law_form","_law_one","_law_other","_law_pieces"] (liftSp K sp_24))
    (F_16:FnOk P w K mg base CX0 2 A.a_16 A.f_16 ["_law_form","_law_tree","_law_case"] (liftSp K sp_16))
    (F_5:FnOk P w K mg base CX0 34 A.a_5 A.f_5 ["form","tree"] (liftSpF K sp_5)):FnOk P w K mg base CX0 35 A.a_26 A.f_26 ["_law_form","_law_tree","_law_one"] (liftSp K sp_26):=by
  refine fnT T.F_26 sc_26 (fun ds Q h=>by obtain ⟨fs,an,t,one,rfl,V,ht,ho,hd1,hd2,hF,h60,hle,h⟩:=h; rfl) fun cdv Ar outer s H E hr ds Q h=>?_
  obtain ⟨fs,an,t,one,rfl,V,ht,ho,hd1,hd2,hF,h60,hle,h⟩:=h
  have nd:=sc_26.nd
  refine ⟨_,(st_cons (st_set (i:=3) et_non (fun h=>ps_set (i:=3) nd rfl (by first | exact Or.inl rfl | exact Or.inr rfl) h))
  (st_cons (st_tryN (st_one (st_set (i:=3) (et_fr (ft_call F_5 T.m_5 T.k_5 T.d_5 (hr.mono (by decide)) (at_cons (et_v 0) (at_cons (et_v 2) at_nil)) (fun h=>pe_call F_5 (hr.mono (by decide)) rfl T.m_5 T.k_5 T.d_5 .nil pass0 h))) (fun h=>ps_set (i:=3) nd rfl (by first | exact Or.inl rfl | exact Or.inr rfl) h))) (fun h=>ps_tryN quiet0 h))
  (st_cons (st_if (tw_pt (tw_or (tt_not (tt_val (et_isi (kit_list _) (et_v 3) (fun h=>pe_callB call_isi rfl T.b_isinstance bl_isinstance (pa_cons h (pa_cons (pe_bltn rfl T.b_list bl_list rfl) pa_nil)))) (fun h=>pt_val h))) (tw_or1 (tt_cmp (op_neD hr) o_data (et_lc (fr:=[none]) (N':=["_law_rule"]) (it_val (et_v 3)) (fun b=>⟨(gt_name (pg_name (i:=0) (show List.Nodup (["_law_rule"]:List Str) from by decide +kernel) rfl (by first | exact Or.inl rfl | exact Or.inr rfl))),if_nil,(et_ix ix_seq o_ix (et_v 0) et_int)⟩) (fun hi hY=>pe_lcc (show lcChk _ (defScope (top 43)) ["_law_form","_law_tree","_law_one","_law_rules","_law_firsts"] ["_law_rule"] [none]=true from by decide +kernel) rfl hi hY)) (et_call F_19 T.m_19 T.k_19 T.d_19 (hr.mono (by decide)) (at_cons (et_v 1) at_nil) (fun h=>pe_call F_19 (hr.mono (by decide)) rfl T.m_19 T.k_19 T.d_19 .nil pass0 h))))))
  (st_one (st_ret et_bl))
  st_nil)
  (st_cons (st_if (tt_not (tt_val (et_call F_24 T.m_24 T.k_24 T.d_24 (hr.mono (by decide)) (at_cons (et_v 0) (at_cons (et_v 1) (at_cons (et_v 1) (at_cons (et_lc (fr:=[none]) (N':=["_law_rule"]) (it_val (et_v 3)) (fun b=>⟨(gt_name (pg_name (i:=0) (show List.Nodup (["_law_rule"]:List Str) from by decide +kernel) rfl (by first | exact Or.inl rfl | exact Or.inr rfl))),if_nil,(et_ix ix_seq o_ix (et_v 0) et_int)⟩) (fun hi hY=>pe_lcc (show lcChk _ (defScope (top 43)) ["_law_form","_law_tree","_law_one","_law_rules","_law_firsts"] ["_law_rule"] [none]=true from by decide +kernel) rfl hi hY)) at_nil)))) (fun h=>pe_call F_24 (hr.mono (by decide)) rfl T.m_24 T.k_24 T.d_24 .nil pass0 h)) (fun h=>pt_val h)))
  (st_one (st_ret et_bl))
  st_nil)
  (st_cons (st_setlc (i:=4) (fr:=[none]) (N':=["_law_rule"]) (it_val (et_v 3)) (fun b=>⟨(gt_name (pg_name (i:=0) (show List.Nodup (["_law_rule"]:List Str) from by decide +kernel) rfl (by first | exact Or.inl rfl | exact Or.inr rfl))),if_nil,(et_cb c_tuple (at_cons (et_lc (fr:=[none]) (N':=["_law_part"]) (it_val (et_ix ix_seq o_ix (et_v 0) et_int)) (fun b=>⟨(gt_name (pg_name (i:=0) (show List.Nodup (["_law_part"]:List Str) from by decide +kernel) rfl (by first | exact Or.inl rfl | exact Or.inr rfl))),if_nil,(et_ix ix_seq o_ix (et_v 0) et_int)⟩) (fun hi hY=>pe_lcc (show lcChk _ (defScope (top 43)) ["_law_rule"] ["_law_part"] [none]=true from by decide +kernel) rfl hi hY)) at_nil) (fun h=>pe_callTy call_tuple_of rfl T.b_tuple bl_tuple h))⟩) (fun hi hY=>ps_setlcc (show lcChk _ (defScope (top 43)) ["_law_form","_law_tree","_law_one","_law_rules","_law_firsts"] ["_law_rule"] [none]=true from by decide +kernel) nd rfl (by first | exact Or.inl rfl | exact Or.inr rfl) rfl hi hY rfl))
  (st_one (st_ret (et_cmp (op_eqD hr) o_data (et_lc (fr:=[none,some 0,some 1]) (N':=["_law_case","_law_form","_law_tree"]) (it_val (et_v 4)) (fun b=>⟨(gt_name (pg_name (i:=0) (show List.Nodup (["_law_case","_law_form","_law_tree"]:List Str) from by decide +kernel) rfl (by first | exact Or.inl rfl | exact Or.inr rfl))),if_nil,(et_ix ix_seq o_ix (et_call F_16 T.m_16 T.k_16 T.d_16 (hr.mono (by decide)) (at_cons (et_v 1) (at_cons (et_v 2) (at_cons (et_v 0) at_nil))) (fun h=>pe_call F_16 (hr.mono (by decide)) rfl T.m_16 T.k_16 T.d_16 .nil pass0 h)) et_int)⟩) (fun hi hY=>pe_lcc (show lcChk _ (defScope (top 43)) ["_law_form","_law_tree","_law_one","_law_rules","_law_firsts"] ["_law_case","_law_form","_law_tree"] [none,some 0,some 1]=true from by decide +kernel) rfl hi hY)) (et_call F_19 T.m_19 T.k_19 T.d_19 (hr.mono (by decide)) (at_cons (et_v 1) at_nil) (fun h=>pe_call F_19 (hr.mono (by decide)) rfl T.m_19 T.k_19 T.d_19 .nil pass0 h)))))))))),?_⟩
  show sSeq _ _ _ [.val (frmD fs an),.val (trD t),.val (trD one),.un,.un]
  have F:=V.form
  have hfl:=full_len hF
  have hfa:=full_ans hF
  have cdA:=cd_names F (ans_in ht)
  have eqA:PyData.eqv (.list ((answersT t).map PyData.str)) (.list ((answersT t).map PyData.str))=true:=PySem.SeqAt.eqv_refl _ cdA.lay
  refine seq_set .none (fun q hq=>hq) ?_
  refine seq_set (.list ((leavesT fs t (fs.map entD)).map ruleD)) (fun q hq=>⟨_,rfl,_,rfl,fs,an,one,rfl,F,ho,hd2,by rw [hle]; omega,by rw [hle]; exact hq⟩) ?_
  generalize hls:leavesT fs t (fs.map entD)=ls at *
  refine seq_if (fun b=>b=false) (fun q hq=>?_) (fun hT=>by cases hT) fun _=>?_
  · refine ⟨_,rfl,?_⟩
    show (if (!isT "list" (PyData.list (ls.map ruleD)))=true then q true else _)
    rw [show isT "list" (PyData.list (ls.map ruleD))=true from rfl,if_neg (show ¬ ((!true)=true) by decide),if_neg (show ¬ ((!true)=true) by decide)]
    show eOp _ _ _ _ _
    dsimp only [eOp]
    refine lcx_map (ts:=ls.map ruleD) (fun R h=>⟨_,rfl,_,rfl,h⟩) ruleA (by rw [List.length_map]; omega) (fun x q hx hq=>?_) ?_
    · obtain ⟨r,_,rfl⟩:=List.mem_map.mp hx
      exact ⟨_,rfl,_,L2.atI_nat (j:=1) rfl,hq⟩
    · have e1:(ls.map ruleD).map ruleA=(answersT t).map PyData.str:=by
        rw [← hfa,List.map_map,List.map_map]; rfl
      rw [e1]
      refine ⟨_,rfl,t,rfl,by omega,by omega,okEq_of cdA cdA,hq _ ?_⟩
      show (!PyData.eqv (.list ((answersT t).map PyData.str)) (.list ((answersT t).map PyData.str)))=false
      rw [eqA]; rfl
  try unfold sNext
  dsimp only
  refine seq_if (fun b=>b=false) (fun q hq=>⟨_,rfl,_,rfl,_,rfl,?_⟩) (fun hT=>by cases hT) fun _=>?_
  · refine lcx_map (ts:=ls.map ruleD) (fun R h=>⟨_,rfl,_,rfl,h⟩) (fun x=>match x with | .tuple [l,_]=>l | _=>.none) (by rw [List.length_map]; omega) (fun x q hx hq=>?_) ?_
    · obtain ⟨r,_,rfl⟩:=List.mem_map.mp hx
      exact ⟨_,rfl,_,L2.atI_nat (j:=0) rfl,hq⟩
    · refine ⟨fs,an,t,t,ls.map (·.1),?_,V,ht,ht,hd1,hd1,by rw [← hls]; exact leaf_pieces V ht,hq _ rfl⟩
      rw [List.map_map,List.map_map]; rfl
  try unfold sNext
  dsimp only
  have hok:∀ r ∈ ls,LetsOk fs r.1∧anyNil r.1=false:=fun r hr=>by
    obtain ⟨a1,a2,_⟩:=leaves_ok t (LetsOk.whole fs) r (by rw [hls]; exact hr)
    exact ⟨a1,a2⟩
  refine seq_set (.list ((ls.map fun r=>firstC r.1).map PyData.tuple)) (fun q hq=>?_) ?_
  · refine lcx_map (ts:=ls.map ruleD) (fun R h=>⟨_,rfl,_,rfl,h⟩) (fun x=>match x with | .tuple [.tuple l,_]=>.tuple (l.map headD) | _=>.none) (by rw [List.length_map]; omega) (fun x q hx hq=>?_) ?_
    · obtain ⟨r,hr,rfl⟩:=List.mem_map.mp hx
      obtain ⟨hL,hNil⟩:=hok r hr
      have:=F.n5
      show eCall (f1 gTuple) _ _ _
      dsimp only [eCall,aCons,aNil]
      refine lcx_map (ts:=r.1.map PyData.tuple) (fun R h=>⟨_,rfl,_,L2.atI_nat (j:=0) rfl,_,rfl,h⟩) headD (by rw [List.length_map,hL.1]; omega) (fun x q hx hq'=>?_) hq
      obtain ⟨e,he,rfl⟩:=List.mem_map.mp hx
      have hne':=nil_mem hNil he
      cases e with
      | nil=>exact absurd rfl hne'
      | cons y e=>exact ⟨_,rfl,_,L2.atI_nat (j:=0) rfl,hq'⟩
    · rw [List.map_map]
      rw [List.map_map] at hq
      exact hq
  show eOp _ _ _ _ _
  dsimp only [eOp]
  refine lcx_map (ts:=(ls.map fun r=>firstC r.1).map PyData.tuple) (fun R h=>⟨_,rfl,_,rfl,h⟩) (ansW fs t) (by rw [List.length_map,List.length_map]; omega) (fun x q hx hq=>?_) ?_
  · obtain ⟨c,hc,rfl⟩:=List.mem_map.mp hx
    obtain ⟨r,hr,rfl⟩:=List.mem_map.mp hc
    obtain ⟨hL,hNil⟩:=hok r hr
    exact ⟨_,rfl,_,rfl,_,rfl,fs,an,t,_,rfl,F,ht,lets_case hL (first_in hNil),by omega,_,L2.atI_nat (j:=1) rfl,hq⟩
  · have e1:((ls.map fun r=>firstC r.1).map PyData.tuple).map (ansW fs t)=(answersT t).map PyData.str:=by
      rw [← hfa,List.map_map,List.map_map,List.map_map]
      apply List.map_congr_left
      intro r hr
      obtain ⟨hL,hNil⟩:=hok r hr
      exact congrArg PyData.str (leaf_way F t ht (LetsOk.whole fs) (by rw [hls]; exact hr) (first_in hNil) (first_in hNil)).2
    rw [e1]
    refine ⟨_,rfl,t,rfl,by omega,by omega,okEq_of cdA cdA,?_⟩
    show Q (.bool (PyData.eqv (.list ((answersT t).map PyData.str)) (.list ((answersT t).map PyData.str))))
    rw [eqA]; exact h

theorem sc_27:FnScope ["_law_tape_here","_law_form","_law_whole_here","_law_tree","_law_one","_law_other","_law_turned_here","_law_told_here"] ["_law_tape_here","_law_form"] (defScope (top 44)):=⟨rfl,rfl,rfl,by decide +kernel,rfl,by decide +kernel,by decide +kernel⟩
set_option maxHeartbeats 4000000 in
theorem ok_27 (T:Txt K mg A)
    (F_12:FnOk P w K mg base CX0 1 A.a_12 A.f_12 ["_law_tape_here","_law_many"] (liftSp K sp_12))
    (F_17:FnOk P w K mg base CX0 28 A.a_17 A.f_17 ["_law_tape_here","_law_form","_law_lets","_law_left"] (liftSp K sp_17))
    (F_24:FnOk P w K mg base CX0 3 A.a_24 A.f_24 ["_law_form","_law_one","_law_other","_law_pieces"] (liftSp K sp_24))
    (F_26:FnOk P w K mg base CX0 35 A.a_26 A.f_26 ["_law_form","_law_tree","_law_one"] (liftSp K sp_26))
    (F_18:FnOk P w K mg base CX0 36 A.a_18 A.f_18 ["_law_form","_law_one","_law_other"] (liftSp K sp_18))
    (F_22:FnOk P w K mg base CX0 32 A.a_22 A.f_22 ["_law_tape_here","_law_form","_law_tree"] (liftSp K sp_22))
    (F_25:FnOk P w K mg base CX0 3 A.a_25 A.f_25 ["_law_form","_law_one","_law_other","_law_told_here"] (liftSp K sp_25))
    (F_14:FnOk P w K mg base CX0 1 A.a_14 A.f_14 ["_law_form"] (liftSp K sp_14))
    (F_23:FnOk P w K mg base CX0 29 A.a_23 A.f_23 ["_law_tape_here","_law_form","_law_tree"] (liftSp K sp_23)):FnOk P w K mg base CX0 37 A.a_27 A.f_27 ["_law_tape_here","_law_form"] (liftSp K sp_27):=by
  refine fnT T.F_27 sc_27 (fun ds Q h=>by obtain ⟨ns,fs,an,rfl,hl,V,h⟩:=h; rfl) fun cdv Ar outer s H E hr ds Q h=>?_
  obtain ⟨ns,fs,an,rfl,hl,V,h⟩:=h
  have nd:=sc_27.nd
  refine ⟨_,(st_cons (st_set (i:=2) (et_call F_14 T.m_14 T.k_14 T.d_14 (hr.mono (by decide)) (at_cons (et_v 1) at_nil) (fun h=>pe_call F_14 (hr.mono (by decide)) rfl T.m_14 T.k_14 T.d_14 .nil pass0 h)) (fun h=>ps_set (i:=2) nd rfl (by first | exact Or.inl rfl | exact Or.inr rfl) h))
  (st_cons (st_set (i:=3) (et_call F_17 T.m_17 T.k_17 T.d_17 (hr.mono (by decide)) (at_cons (et_v 0) (at_cons (et_v 1) (at_cons (et_op op_addAny o_add (et_slice sl_any o_sl (et_v 2) ot_none (ot_some et_int)) (et_tup (at_cons (et_tup (at_cons et_non at_nil)) (at_cons (et_tup (at_cons et_non at_nil)) at_nil)))) (at_cons (et_op op_addAny o_add et_int (et_call F_12 T.m_12 T.k_12 T.d_12 (hr.mono (by decide)) (at_cons (et_v 0) (at_cons et_int at_nil)) (fun h=>pe_call F_12 (hr.mono (by decide)) rfl T.m_12 T.k_12 T.d_12 .nil pass0 h))) at_nil)))) (fun h=>pe_call F_17 (hr.mono (by decide)) rfl T.m_17 T.k_17 T.d_17 .nil pass0 h)) (fun h=>ps_set (i:=3) nd rfl (by first | exact Or.inl rfl | exact Or.inr rfl) h))
  (st_cons (st_set (i:=4) (et_v 3) (fun h=>ps_set (i:=4) nd rfl (by first | exact Or.inl rfl | exact Or.inr rfl) h))
  (st_cons (st_set (i:=5) (et_v 3) (fun h=>ps_set (i:=5) nd rfl (by first | exact Or.inl rfl | exact Or.inr rfl) h))
  (st_cons (st_set (i:=6) (et_cmp op_eq o_eq (et_call F_12 T.m_12 T.k_12 T.d_12 (hr.mono (by decide)) (at_cons (et_v 0) (at_cons et_int at_nil)) (fun h=>pe_call F_12 (hr.mono (by decide)) rfl T.m_12 T.k_12 T.d_12 .nil pass0 h)) et_int) (fun h=>ps_set (i:=6) nd rfl (by first | exact Or.inl rfl | exact Or.inr rfl) h))
  (st_cons (st_if (tt_val (et_v 6) (fun h=>pt_val h))
  (st_one (st_set (i:=5) (et_call F_22 T.m_22 T.k_22 T.d_22 (hr.mono (by decide)) (at_cons (et_v 0) (at_cons (et_v 1) (at_cons (et_v 3) at_nil))) (fun h=>pe_call F_22 (hr.mono (by decide)) rfl T.m_22 T.k_22 T.d_22 .nil pass0 h)) (fun h=>ps_set (i:=5) nd rfl (by first | exact Or.inl rfl | exact Or.inr rfl) h)))
  st_nil)
  (st_cons (st_if (tt_cmp op_eq o_eq (et_call F_12 T.m_12 T.k_12 T.d_12 (hr.mono (by decide)) (at_cons (et_v 0) (at_cons et_int at_nil)) (fun h=>pe_call F_12 (hr.mono (by decide)) rfl T.m_12 T.k_12 T.d_12 .nil pass0 h)) et_int)
  (st_one (st_set (i:=4) (et_call F_23 T.m_23 T.k_23 T.d_23 (hr.mono (by decide)) (at_cons (et_v 0) (at_cons (et_v 1) (at_cons (et_v 3) at_nil))) (fun h=>pe_call F_23 (hr.mono (by decide)) rfl T.m_23 T.k_23 T.d_23 .nil pass0 h)) (fun h=>ps_set (i:=4) nd rfl (by first | exact Or.inl rfl | exact Or.inr rfl) h)))
  st_nil)
  (st_cons (st_set (i:=7) (et_call F_18 T.m_18 T.k_18 T.d_18 (hr.mono (by decide)) (at_cons (et_v 1) (at_cons (et_v 4) (at_cons (et_v 5) at_nil))) (fun h=>pe_call F_18 (hr.mono (by decide)) rfl T.m_18 T.k_18 T.d_18 .nil pass0 h)) (fun h=>ps_set (i:=7) nd rfl (by first | exact Or.inl rfl | exact Or.inr rfl) h))
  (st_cons (st_if (tt_not (tt_val (et_call F_26 T.m_26 T.k_26 T.d_26 (hr.mono (by decide)) (at_cons (et_v 1) (at_cons (et_v 3) (at_cons (et_v 4) at_nil))) (fun h=>pe_call F_26 (hr.mono (by decide)) rfl T.m_26 T.k_26 T.d_26 .nil pass0 h)) (fun h=>pt_val h)))
  (st_one (st_ret et_bl))
  st_nil)
  (st_cons (st_if (tt_val (et_v 6) (fun h=>pt_val h))
  (st_one (st_ret (et_call F_25 T.m_25 T.k_25 T.d_25 (hr.mono (by decide)) (at_cons (et_v 1) (at_cons (et_v 4) (at_cons (et_v 5) (at_cons (et_v 7) at_nil)))) (fun h=>pe_call F_25 (hr.mono (by decide)) rfl T.m_25 T.k_25 T.d_25 .nil pass0 h))))
  st_nil)
  (st_one (st_ret (et_and (et_cmp op_eq o_eq (et_ix ix_seq o_ix (et_v 7) et_int) et_str) (et_one (et_call F_24 T.m_24 T.k_24 T.d_24 (hr.mono (by decide)) (at_cons (et_v 1) (at_cons (et_v 4) (at_cons (et_v 5) (at_cons (et_ix ix_seq o_ix (et_v 7) et_int) at_nil)))) (fun h=>pe_call F_24 (hr.mono (by decide)) rfl T.m_24 T.k_24 T.d_24 .nil pass0 h)))))))))))))))),?_⟩
  show sSeq _ _ _ [.val (tapeD ns),.val (frmD fs an),.un,.un,.un,.un,.un,.un]
  have F:=V.form
  obtain ⟨a1,a2,a3,a4,a5⟩:=A_ok V
  have hw:=wid_le F a1
  have e0:cutD ((fs.map entD).map PyData.tuple) none (some (3:Int))++[.tuple [.none],.tuple [.none]]=(letsA fs).map PyData.tuple:=by
    rw [show (3:Int)=((3:Nat):Int) from rfl,cut_ns]
    unfold letsA
    rw [List.map_append,List.map_take]; rfl
  have lw:(fs.map entD).length=5:=by rw [List.length_map]; exact V.n
  refine seq_set (letsD (fs.map entD)) (fun q hq=>⟨_,rfl,fs,an,rfl,F,hq⟩) ?_
  refine seq_setR (fun d=>∃ n t,n≤60∧46≤n∧PartOk fs an (letsA fs) n t∧d=trD t) (fun q hq=>⟨_,rfl,_,rfl,_,rfl,(Nat.le_of_ble_eq_true rfl),(Nat.le_of_ble_eq_true rfl),(Nat.le_of_ble_eq_true rfl),?_,?_⟩) ?_
  · rw [show (3:Int)=((3:Nat):Int) from rfl,cut_ns,List.length_take,List.length_map]
    simp only [List.length_cons,List.length_nil]; omega
  · refine ⟨_,rfl,ns,15,rfl,hl,by decide,by decide,fun i h0 h1=>?_⟩
    obtain ⟨n,rfl⟩:=Int.eq_ofNat_of_zero_le h0
    refine ⟨ns,fs,an,letsA fs,46 + n,by rw [e0]; rfl,hl,F,a1,a2,by omega,by rw [a3]; omega,by omega,fun t ht=>hq _ ⟨46 + n,t,by omega,by omega,ht,rfl⟩⟩
  rintro _ ⟨n,t,hn60,hn46,ht,rfl⟩
  obtain ⟨hasks,hfull⟩:=A_full V ht
  have htd:=ht.dep
  have hcnt:=ht.cnt
  have hok:=ht.ok
  refine seq_set (trD t) (fun q hq=>⟨_,rfl,hq⟩) ?_
  refine seq_set (trD t) (fun q hq=>⟨_,rfl,hq⟩) ?_
  refine seq_setR (fun d=>∃ b:Bool,d=.bool b) (fun q hq=>⟨_,rfl,ns,2,rfl,hl,by decide,by decide,fun i _ _=>hq _ ⟨_,rfl⟩⟩) ?_
  rintro _ ⟨b,rfl⟩
  refine seq_ifN (fun c=>c=b) (fun σ=>∃ u,(b=true→Turned an t u)∧(b=false→u=t)∧σ=[.val (tapeD ns),.val (frmD fs an),.val (letsD (fs.map entD)),.val (trD t),.val (trD t),.val (trD u),.val (.bool b),.un]) (fun q hq=>⟨_,rfl,hq _ rfl⟩) (fun hT DT' hD=>?_) (fun hF=>⟨t,(fun z=>by rw [← hF] at z; cases z),fun _=>rfl,rfl⟩) ?_
  · exact ⟨_,rfl,_,rfl,_,rfl,ns,fs,an,t,rfl,hl,F,V.a,hok,by omega,fun u hu=>hD _ ⟨u,fun _=>hu,(fun z=>by rw [← hT] at z; cases z),rfl⟩⟩
  rintro _ ⟨u,hu1,hu2,rfl⟩
  have hu:TrOk fs an u∧u.dep=t.dep∧∀ M,(leavesT fs u M).length=(leavesT fs t M).length:=by
    cases b with
    | true=>exact (hu1 rfl).ok hok
    | false=>rw [hu2 rfl]; exact ⟨hok,rfl,fun _=>rfl⟩
  refine seq_ifN (fun _=>True) (fun σ=>∃ o,(TrOk fs an o∧o.dep≤29∧leavesT fs o (fs.map entD)=leavesT fs t (fs.map entD)∧∀ c,ansL fs o c=ansL fs t c)∧σ=[.val (tapeD ns),.val (frmD fs an),.val (letsD (fs.map entD)),.val (trD t),.val (trD o),.val (trD u),.val (.bool b),.un]) (fun q hq=>⟨_,rfl,ns,2,rfl,hl,by decide,by decide,fun i _ _=>hq _ trivial⟩) (fun _ DT' hD=>?_) (fun _=>⟨t,⟨hok,by omega,rfl,fun _=>rfl⟩,rfl⟩) ?_
  · cases t with
    | say a=>have:(1:Nat)=n:=hcnt; omega
    | ask k nm v s y m =>
      refine ⟨_,rfl,_,rfl,_,rfl,ns,fs,an,k,nm,v,s,y,m,rfl,hl,V,fun bt hb hbd=>hD _ ⟨withBare bt (.ask k nm v s y m),⟨(bare_ok hb hok).1,?_,bare_leaves F hok (LetsOk.whole fs),fun c=>bare_ans _ c⟩,rfl⟩⟩
      have:=(bare_ok hb hok).2
      omega
  rintro _ ⟨o,⟨ho,hod,hol,hoa⟩,rfl⟩
  obtain ⟨hut,hud,hul⟩:=hu
  have hlen:=self_many V hok hol hul
  have hfl:=full_len hfull
  refine seq_setR (fun d=>(b=true→∃ c,c ∈ prodF (fs.map entD)∧ansL fs o c ≠ ansL fs u c∧d=unlikeD c)∧(b=false→d=alikeD fs o u)) (fun q hq=>⟨_,rfl,_,rfl,_,rfl,fs,an,o,u,rfl,F,ho,hut,hod,by omega,fun h2k=>by omega,fun _=>⟨fun c hc hne=>hq _ ⟨fun _=>⟨c,hc,hne,rfl⟩,fun hb=>absurd (by rw [hoa,hu2 hb]) hne⟩,fun hall=>hq _ ⟨fun hb=>?_,fun _=>rfl⟩⟩⟩) ?_
  · obtain ⟨c,c1,c2⟩:=(hu1 hb).unlike F hok (LetsOk.whole fs) hfull
    exact absurd ((hoa c).symm.trans (hall c ((mem_prod _ c).mpr c1))) c2
  rintro d ⟨hd1,hd2⟩
  refine seq_if (fun c=>c=false) (fun q hq=>⟨_,rfl,_,rfl,_,rfl,fs,an,t,o,rfl,V,hok,ho,by omega,hod,hfull,by omega,hol,hq _ rfl⟩) (fun hT=>by cases hT) fun _=>?_
  try unfold sNext
  dsimp only
  refine seq_if (fun c=>c=b) (fun q hq=>⟨_,rfl,hq _ rfl⟩) (fun hT=>?_) fun hF=>?_
  · obtain ⟨c,c1,c2,rfl⟩:=hd1 hT.symm
    exact ⟨_,rfl,_,rfl,_,rfl,_,rfl,fs,an,o,u,c,rfl,V,ho,hut,hod,by omega,c1,c2,h⟩
  try unfold sNext
  dsimp only
  obtain rfl:=hd2 hF.symm
  refine ⟨_,rfl,_,L2.atI_nat (j:=0) rfl,?_⟩
  dsimp only [eC]
  refine eq_9 ?_
  dsimp only
  rw [if_pos rfl]
  refine ⟨_,rfl,_,rfl,_,rfl,_,rfl,_,L2.atI_nat (j:=1) rfl,fs,an,o,u,(pairsT fs o u (fs.map entD)).map (·.1),?_,V,ho,hut,hod,by omega,pair_pieces V ho hut,h⟩
  rw [List.map_map]; rfl

theorem sc_law:FnScope ["_law_script","_law_tape_here","_law_names_here","_law_form","_law_pairs","_law_first","_law_second","_law_whole_here","_law_bare","_law_plain","_law_one","_law_other","_law_told_here"] ["_law_script"] (defScope (top 45)):=⟨rfl,rfl,rfl,by decide +kernel,rfl,by decide +kernel,by decide +kernel⟩
set_option maxHeartbeats 4000000 in
theorem ok_law (T:Txt K mg A)
    (F_19:FnOk P w K mg base CX0 31 A.a_19 A.f_19 ["_law_tree"] (liftSp K sp_19))
    (F_27:FnOk P w K mg base CX0 37 A.a_27 A.f_27 ["_law_tape_here","_law_form"] (liftSp K sp_27))
    (F_12:FnOk P w K mg base CX0 1 A.a_12 A.f_12 ["_law_tape_here","_law_many"] (liftSp K sp_12))
    (F_13:FnOk P w K mg base CX0 2 A.a_13 A.f_13 ["_law_tape_here","_law_many"] (liftSp K sp_13))
    (F_21:FnOk P w K mg base CX0 32 A.a_21 A.f_21 ["_law_tape_here","_law_form","_law_lets","_law_many","_law_plain"] (liftSp K sp_21))
    (F_11:FnOk P w K mg base CX0 1 A.a_11 A.f_11 ["_law_script"] (liftSpF K sp_11))
    (F_18:FnOk P w K mg base CX0 36 A.a_18 A.f_18 ["_law_form","_law_one","_law_other"] (liftSp K sp_18))
    (F_25:FnOk P w K mg base CX0 3 A.a_25 A.f_25 ["_law_form","_law_one","_law_other","_law_told_here"] (liftSp K sp_25))
    (F_14:FnOk P w K mg base CX0 1 A.a_14 A.f_14 ["_law_form"] (liftSp K sp_14)):FnOk P w K mg base CX0 38 A.a_law A.f_law ["_law_script"] (liftSp K sp_law):=by
  refine fnT T.F_law sc_law (fun ds Q h=>by obtain ⟨ns,rfl,hl,h⟩:=h; rfl) fun cdv Ar outer s H E hr ds Q h=>?_
  obtain ⟨ns,rfl,hl,h⟩:=h
  have nd:=sc_law.nd
  refine ⟨_,(st_cons (st_set (i:=1) (et_mkTape (ft_call F_11 T.m_11 T.k_11 T.d_11 (hr.mono (by decide)) (at_cons (et_v 0) at_nil) (fun h=>pe_call F_11 (hr.mono (by decide)) rfl T.m_11 T.k_11 T.d_11 .nil pass0 h))) (fun h=>ps_set (i:=1) nd rfl (by first | exact Or.inl rfl | exact Or.inr rfl) h))
  (st_cons (st_set (i:=2) (et_call F_13 T.m_13 T.k_13 T.d_13 (hr.mono (by decide)) (at_cons (et_v 1) (at_cons et_int at_nil)) (fun h=>pe_call F_13 (hr.mono (by decide)) rfl T.m_13 T.k_13 T.d_13 .nil pass0 h)) (fun h=>ps_set (i:=2) nd rfl (by first | exact Or.inl rfl | exact Or.inr rfl) h))
  (st_cons (st_set (i:=3) (et_tup (at_cons (et_cb c_tuple (at_cons (et_lc (fr:=[none,some 1]) (N':=["_law_name","_law_tape_here"]) (it_val (et_v 2)) (fun b=>⟨(gt_name (pg_name (i:=0) (show List.Nodup (["_law_name","_law_tape_here"]:List Str) from by decide +kernel) rfl (by first | exact Or.inl rfl | exact Or.inr rfl))),if_nil,(et_tup (at_cons (et_v 0) (at_cons (et_cb c_tuple (at_cons (et_call F_13 T.m_13 T.k_13 T.d_13 (hr.mono (by decide)) (at_cons (et_v 1) (at_cons et_int at_nil)) (fun h=>pe_call F_13 (hr.mono (by decide)) rfl T.m_13 T.k_13 T.d_13 .nil pass0 h)) at_nil) (fun h=>pe_callTy call_tuple_of rfl T.b_tuple bl_tuple h)) at_nil)))⟩) (fun hi hY=>pe_lcc (show lcChk _ (defScope (top 45)) ["_law_script","_law_tape_here","_law_names_here","_law_form","_law_pairs","_law_first","_law_second","_law_whole_here","_law_bare","_law_plain","_law_one","_law_other","_law_told_here"] ["_law_name","_law_tape_here"] [none,some 1]=true from by decide +kernel) rfl hi hY)) at_nil) (fun h=>pe_callTy call_tuple_of rfl T.b_tuple bl_tuple h)) (at_cons (et_cb c_tuple (at_cons (et_call F_13 T.m_13 T.k_13 T.d_13 (hr.mono (by decide)) (at_cons (et_v 1) (at_cons et_int at_nil)) (fun h=>pe_call F_13 (hr.mono (by decide)) rfl T.m_13 T.k_13 T.d_13 .nil pass0 h)) at_nil) (fun h=>pe_callTy call_tuple_of rfl T.b_tuple bl_tuple h)) at_nil))) (fun h=>ps_set (i:=3) nd rfl (by first | exact Or.inl rfl | exact Or.inr rfl) h))
  (st_cons (st_if (tt_cmp op_eq o_eq (et_call F_12 T.m_12 T.k_12 T.d_12 (hr.mono (by decide)) (at_cons (et_v 1) (at_cons et_int at_nil)) (fun h=>pe_call F_12 (hr.mono (by decide)) rfl T.m_12 T.k_12 T.d_12 .nil pass0 h)) et_int)
  (st_one (st_ret (et_call F_27 T.m_27 T.k_27 T.d_27 (hr.mono (by decide)) (at_cons (et_v 1) (at_cons (et_v 3) at_nil)) (fun h=>pe_call F_27 (hr.mono (by decide)) rfl T.m_27 T.k_27 T.d_27 .nil pass0 h))))
  st_nil)
  (st_cons (st_setN (i:=4) nd rfl (by first | exact Or.inl rfl | exact Or.inr rfl) (et_lst (at_cons (et_tup (at_cons et_int (at_cons et_int at_nil))) (at_cons (et_tup (at_cons et_int (at_cons et_int at_nil))) (at_cons (et_tup (at_cons et_int (at_cons et_int at_nil))) (at_cons (et_tup (at_cons et_int (at_cons et_int at_nil))) (at_cons (et_tup (at_cons et_int (at_cons et_int at_nil))) (at_cons (et_tup (at_cons et_int (at_cons et_int at_nil))) (at_cons (et_tup (at_cons et_int (at_cons et_int at_nil))) (at_cons (et_tup (at_cons et_int (at_cons et_int at_nil))) (at_cons (et_tup (at_cons et_int (at_cons et_int at_nil))) (at_cons (et_tup (at_cons et_int (at_cons et_int at_nil))) at_nil))))))))))))
  (st_cons (st_unp (g:=fun _ _ _ _=>True) (et_ix ix_seq o_ix (et_v 4) (et_call F_12 T.m_12 T.k_12 T.d_12 (hr.mono (by decide)) (at_cons (et_v 1) (at_cons et_int at_nil)) (fun h=>pe_call F_12 (hr.mono (by decide)) rfl T.m_12 T.k_12 T.d_12 .nil pass0 h))) (gt_pair (pg_tup rfl (pgs_cons (pg_name (i:=5) nd rfl (by first | exact Or.inl rfl | exact Or.inr rfl)) (pgs_cons (pg_name (i:=6) nd rfl (by first | exact Or.inl rfl | exact Or.inr rfl)) pgs_nil)))) (fun he hg=>ps_asg he hg))
  (st_cons (st_set (i:=7) (et_call F_14 T.m_14 T.k_14 T.d_14 (hr.mono (by decide)) (at_cons (et_v 3) at_nil) (fun h=>pe_call F_14 (hr.mono (by decide)) rfl T.m_14 T.k_14 T.d_14 .nil pass0 h)) (fun h=>ps_set (i:=7) nd rfl (by first | exact Or.inl rfl | exact Or.inr rfl) h))
  (st_cons (st_set (i:=8) (et_tup5 (et_tup (at_cons et_non at_nil))) (fun h=>ps_set (i:=8) nd rfl (by first | exact Or.inl rfl | exact Or.inr rfl) h))
  (st_cons (st_set (i:=9) (et_cmp op_eq o_eq (et_call F_12 T.m_12 T.k_12 T.d_12 (hr.mono (by decide)) (at_cons (et_v 1) (at_cons et_int at_nil)) (fun h=>pe_call F_12 (hr.mono (by decide)) rfl T.m_12 T.k_12 T.d_12 .nil pass0 h)) et_int) (fun h=>ps_set (i:=9) nd rfl (by first | exact Or.inl rfl | exact Or.inr rfl) h))
  (st_cons (st_set (i:=10) (et_call F_21 T.m_21 T.k_21 T.d_21 (hr.mono (by decide)) (at_cons (et_v 1) (at_cons (et_v 3) (at_cons (et_op op_addAny o_add (et_slice sl_any o_sl (et_v 7) ot_none (ot_some et_int)) (et_slice sl_any o_sl (et_v 8) (ot_some et_int) ot_none)) (at_cons (et_v 5) (at_cons (et_v 9) at_nil))))) (fun h=>pe_call F_21 (hr.mono (by decide)) rfl T.m_21 T.k_21 T.d_21 .nil pass0 h)) (fun h=>ps_set (i:=10) nd rfl (by first | exact Or.inl rfl | exact Or.inr rfl) h))
  (st_cons (st_set (i:=11) (et_call F_21 T.m_21 T.k_21 T.d_21 (hr.mono (by decide)) (at_cons (et_v 1) (at_cons (et_v 3) (at_cons (et_op op_addAny o_add (et_slice sl_any o_sl (et_v 8) ot_none (ot_some et_int)) (et_slice sl_any o_sl (et_v 7) (ot_some et_int) ot_none)) (at_cons (et_v 6) (at_cons (et_v 9) at_nil))))) (fun h=>pe_call F_21 (hr.mono (by decide)) rfl T.m_21 T.k_21 T.d_21 .nil pass0 h)) (fun h=>ps_set (i:=11) nd rfl (by first | exact Or.inl rfl | exact Or.inr rfl) h))
  (st_cons (st_set (i:=12) (et_call F_18 T.m_18 T.k_18 T.d_18 (hr.mono (by decide)) (at_cons (et_v 3) (at_cons (et_v 10) (at_cons (et_v 11) at_nil))) (fun h=>pe_call F_18 (hr.mono (by decide)) rfl T.m_18 T.k_18 T.d_18 .nil pass0 h)) (fun h=>ps_set (i:=12) nd rfl (by first | exact Or.inl rfl | exact Or.inr rfl) h))
  (st_cons (st_if (tt_cmp op_gt o_B0 (et_op op_mulAny o_mul (et_v 5) (et_v 6)) et_int)
  (st_one (st_ret (et_cmp (op_eqD hr) o_data (et_v 12) (et_tup (at_cons et_str (at_cons et_non at_nil))))))
  st_nil)
  (st_cons (st_if (tt_cmp op_eq o_eq (et_lensetL (et_op op_addAny o_add (et_call F_19 T.m_19 T.k_19 T.d_19 (hr.mono (by decide)) (at_cons (et_v 10) at_nil) (fun h=>pe_call F_19 (hr.mono (by decide)) rfl T.m_19 T.k_19 T.d_19 .nil pass0 h)) (et_call F_19 T.m_19 T.k_19 T.d_19 (hr.mono (by decide)) (at_cons (et_v 11) at_nil) (fun h=>pe_call F_19 (hr.mono (by decide)) rfl T.m_19 T.k_19 T.d_19 .nil pass0 h))) (pc:=fun h=>pe_callB call_len_setN rfl T.b_len bl_len (pa_cons (pe_callTy (call_set_strsL rfl) rfl T.b_set bl_set h) pa_nil))) et_int)
  (st_one (st_ret (et_and (et_cmp op_eq o_eq (et_ix ix_seq o_ix (et_v 12) et_int) et_str) (et_and (et_isi (kit_list _) (et_ix ix_seq o_ix (et_v 12) et_int) (fun h=>pe_callB call_isi rfl T.b_isinstance bl_isinstance (pa_cons h (pa_cons (pe_bltn rfl T.b_list bl_list rfl) pa_nil)))) (et_one (et_cmp op_gt o_B0 (et_cb c_len (at_cons (et_ix ix_seq o_ix (et_v 12) et_int) at_nil) (fun h=>pe_callB call_lenAny rfl T.b_len bl_len h)) et_int))))))
  st_nil)
  (st_one (st_ret (et_call F_25 T.m_25 T.k_25 T.d_25 (hr.mono (by decide)) (at_cons (et_v 3) (at_cons (et_v 10) (at_cons (et_v 11) (at_cons (et_v 12) at_nil)))) (fun h=>pe_call F_25 (hr.mono (by decide)) rfl T.m_25 T.k_25 T.d_25 .nil pass0 h)))))))))))))))))),?_⟩
  show sSeq _ _ _ [.val (.list (ns.map PyData.int)),.un,.un,.un,.un,.un,.un,.un,.un,.un,.un,.un,.un]
  refine seq_set (tapeD ns) (fun q hq=>⟨_,rfl,ns,rfl,hl,fun c hc=>⟨ns,c,rfl,hc,hq⟩⟩) ?_
  refine seq_setR (fun d=>∃ ys,Nms 5 ys∧d=.list (ys.map PyData.str)) (fun q hq=>⟨_,rfl,ns,5,rfl,hl,by decide,by decide,fun ys hy=>hq _ ⟨ys,hy,rfl⟩⟩) ?_
  rintro _ ⟨ys,hys,rfl⟩
  refine seq_setR (fun d=>∃ fs an,Five fs an∧d=frmD fs an) (fun q hq=>?_) ?_
  · show eTup _ _ _
    dsimp only [eTup,aCons,aNil,eCall]
    refine lcx_in (ts:=ys.map PyData.str) (fun R h=>⟨_,rfl,_,rfl,h⟩) (fun _ x y=>∃ z vs,x=.str z∧Nms 5 vs∧y=fldD (z,vs)) (by rw [List.length_map,hys.1]; decide) (fun k x q hx hq=>?_) fun zs hzl hz=>?_
    · rw [List.getElem?_map] at hx
      obtain ⟨z,hz,rfl⟩:=Option.map_eq_some_iff.mp hx
      exact ⟨_,rfl,_,rfl,ns,5,rfl,hl,by decide,by decide,fun vs hv=>⟨(Nat.le_of_ble_eq_true rfl),hq _ ⟨z,vs,rfl,hv,rfl⟩⟩⟩
    · obtain ⟨fs,rfl,hfn,hfv⟩:=flds_of ys zs (by rw [hzl,List.length_map]) hz
      have hfl:fs.length=5:=by rw [← hys.1,← hfn,List.length_map]
      refine ⟨_,rfl,ns,2,rfl,hl,by decide,by decide,fun an han=>⟨(Nat.le_of_ble_eq_true rfl),hq _ ⟨fs,an,⟨⟨by omega,by omega,?_,fun f hf=>?_,by rw [han.1]; decide,by rw [han.1]; decide,by rw [han.1]; exact han⟩,hfl,fun f hf=>(hfv f hf).1,han.1⟩,rfl⟩⟩⟩
      · rw [hfn,hfl]; exact hys
      · have:=hfv f hf
        rw [this.1]
        exact ⟨by decide,by decide,this⟩
  rintro _ ⟨fs,an,V,rfl⟩
  have F:=V.form
  obtain ⟨a1,a2,a3,a4,a5⟩:=A_ok V
  obtain ⟨b1,b2,b3,b4,b5⟩:=B_ok V
  have wA:=wid_le F a1
  have wB:=wid_le F b1
  have lw:((fs.map entD).map PyData.tuple).length=5:=by rw [List.length_map,List.length_map]; exact V.n
  have eA:cutD ((fs.map entD).map PyData.tuple) none (some (3:Int))++cutD [PyData.tuple [.none],.tuple [.none],.tuple [.none],.tuple [.none],.tuple [.none]] (some (3:Int)) none=(letsA fs).map PyData.tuple:=by
    rw [show (3:Int)=((3:Nat):Int) from rfl,cut_ns,cut_sn]
    unfold letsA
    rw [List.map_append,List.map_take]; rfl
  have eB:cutD [PyData.tuple [.none],.tuple [.none],.tuple [.none],.tuple [.none],.tuple [.none]] none (some (3:Int))++cutD ((fs.map entD).map PyData.tuple) (some (3:Int)) none=(letsB fs).map PyData.tuple:=by
    rw [show (3:Int)=((3:Nat):Int) from rfl,cut_ns,cut_sn]
    unfold letsB
    rw [List.map_append,List.map_drop]; rfl
  refine seq_if (fun _=>True) (fun q hq=>⟨_,rfl,ns,3,rfl,hl,by decide,by decide,fun i _ _=>hq _ trivial⟩) (fun _=>⟨_,rfl,_,rfl,ns,fs,an,rfl,hl,V,h⟩) fun _=>?_
  try unfold sNext
  dsimp only
  refine seq_set (.list (prsN.map prD)) (fun q hq=>⟨(Nat.le_of_ble_eq_true rfl),(Nat.le_of_ble_eq_true rfl),(Nat.le_of_ble_eq_true rfl),(Nat.le_of_ble_eq_true rfl),(Nat.le_of_ble_eq_true rfl),(Nat.le_of_ble_eq_true rfl),(Nat.le_of_ble_eq_true rfl),(Nat.le_of_ble_eq_true rfl),(Nat.le_of_ble_eq_true rfl),(Nat.le_of_ble_eq_true rfl),(Nat.le_of_ble_eq_true rfl),hq⟩) ?_
  refine ⟨_,rfl,_,rfl,ns,10,rfl,hl,by decide,by decide,fun i h0 h1=>?_⟩
  obtain ⟨x,hm,ha,_⟩:=atI_in (xs:=prsN.map prD) (i:=i) h0 h1
  obtain ⟨p,hp,rfl⟩:=List.mem_map.mp hm
  obtain ⟨p1,p2,p3,p4⟩:=prs_ok p hp
  refine ⟨_,ha,_,_,rfl,?_⟩
  dsimp only
  show sSeq _ _ _ [.val (.list (ns.map PyData.int)),.val (tapeD ns),.val (.list (ys.map PyData.str)),.val (frmD fs an),.val (.list (prsN.map prD)),.val (.int (p.1:Int)),.val (.int (p.2:Int)),.un,.un,.un,.un,.un,.un]
  refine seq_set (letsD (fs.map entD)) (fun q hq=>⟨_,rfl,fs,an,rfl,F,hq⟩) ?_
  refine seq_set (.tuple [PyData.tuple [.none],.tuple [.none],.tuple [.none],.tuple [.none],.tuple [.none]]) (fun q hq=>⟨(Nat.le_of_ble_eq_true rfl),hq⟩) ?_
  refine seq_setR (fun d=>∃ b:Bool,d=.bool b) (fun q hq=>⟨_,rfl,ns,3,rfl,hl,by decide,by decide,fun i _ _=>hq _ ⟨_,rfl⟩⟩) ?_
  rintro _ ⟨b,rfl⟩
  refine seq_setR (fun d=>∃ t,PartOk fs an (letsA fs) p.1 t∧d=trD t) (fun q hq=>⟨_,rfl,_,rfl,_,rfl,_,rfl,?_,_,rfl,_,rfl,ns,fs,an,letsA fs,p.1,b,by rw [eA]; rfl,hl,F,a1,a2,p1,by rw [a3]; omega,wA,fun t ht=>hq _ ⟨t,ht,rfl⟩⟩) ?_
  · rw [show (3:Int)=((3:Nat):Int) from rfl,cut_ns,cut_sn,List.length_take,List.length_drop,lw]
    simp only [List.length_cons,List.length_nil]; omega
  rintro _ ⟨t,ht,rfl⟩
  refine seq_setR (fun d=>∃ u,PartOk fs an (letsB fs) p.2 u∧d=trD u) (fun q hq=>⟨_,rfl,_,rfl,_,rfl,_,rfl,?_,_,rfl,_,rfl,ns,fs,an,letsB fs,p.2,b,by rw [eB]; rfl,hl,F,b1,b2,p3,by rw [b3]; omega,wB,fun t ht=>hq _ ⟨t,ht,rfl⟩⟩) ?_
  · rw [show (3:Int)=((3:Nat):Int) from rfl,cut_ns,cut_sn,List.length_take,List.length_drop,lw]
    simp only [List.length_cons,List.length_nil]; omega
  rintro _ ⟨u,hu,rfl⟩
  have hpm:=pairs_many V ht hu
  have htd:=ht.dep
  have hud:=hu.dep
  refine seq_setR (fun d=>(2000 < p.1 * p.2→d=manyD)∧(p.1 * p.2≤2000→(∃ c,c ∈ prodF (fs.map entD)∧ansL fs t c ≠ ansL fs u c∧d=unlikeD c) ∨ ((∀ c,c ∈ prodF (fs.map entD)→ansL fs t c=ansL fs u c)∧d=alikeD fs t u))) (fun q hq=>⟨_,rfl,_,rfl,_,rfl,fs,an,t,u,rfl,F,ht.ok,hu.ok,by omega,by omega,fun h2=>hq _ ⟨fun _=>rfl,fun z=>by omega⟩,fun h2=>⟨fun c hc hne=>hq _ ⟨fun z=>by omega,fun _=>.inl ⟨c,hc,hne,rfl⟩⟩,fun hall=>hq _ ⟨fun z=>by omega,fun _=>.inr ⟨hall,rfl⟩⟩⟩⟩) ?_
  rintro d ⟨d1,d2⟩
  have hmul:((p.1:Int) * (p.2:Int))=((p.1 * p.2:Nat):Int):=(Int.natCast_mul _ _).symm
  refine seq_if (fun c=>c=decide (2000 < p.1 * p.2)) (fun q hq=>⟨_,rfl,_,rfl,.inl ⟨by omega,by omega⟩,hq _ ?_⟩) (fun hT=>?_) fun hF=>?_
  · show decide ((2000:Int) < (p.1:Int) * (p.2:Int))=_
    rw [hmul,Bool.eq_iff_iff,decide_eq_true_eq,decide_eq_true_eq]
    omega
  · obtain rfl:=d1 (of_decide_eq_true hT.symm)
    refine ⟨_,rfl,(Nat.le_of_ble_eq_true rfl),okEq_of cd_many cd_many,?_⟩
    show Q (.bool (PyData.eqv manyD manyD))
    rw [PySem.SeqAt.eqv_refl _ cd_many.lay]; exact h
  try unfold sNext
  dsimp only
  have hle:p.1 * p.2≤2000:=by have:=of_decide_eq_false hF.symm; omega
  have ne1:answersT t ≠ []:=fun z=>by have:=answers_ne t; rw [z] at this; cases this
  have c1:=ht.cnt
  have c2:=hu.cnt
  refine seq_if (fun c=>c=true ↔ ∀ a ∈ answersT t,∀ b ∈ answersT t++answersT u,b=a) (fun q hq=>⟨_,rfl,t,rfl,by omega,by omega,_,rfl,u,rfl,by omega,by omega,by rw [List.length_map,List.length_map]; omega,answersT t++answersT u,by rw [List.map_append],by rw [List.length_append]; omega,hq _ ?_⟩) (fun hT=>?_) fun hF2=>?_
  · show decide ((((dd (answersT t++answersT u)).length:Nat):Int)=1)=true ↔ _
    rw [decide_eq_true_eq,← dd_same ne1]
    omega
  · have hall:=hT.mp rfl
    rcases d2 hle with ⟨c,hc,hne,rfl⟩ | ⟨_,rfl⟩
    · exact absurd (hall _ (leaf_ans V ht.ok hc (A_full V ht).2) _ (List.mem_append_right _ (leaf_ans V hu.ok hc (B_whole V hu)))).symm hne
    · refine ⟨_,rfl,_,L2.atI_nat (j:=0) rfl,?_⟩
      dsimp only [eC]
      refine eq_9 ?_
      dsimp only
      rw [if_pos rfl]
      refine ⟨_,rfl,_,L2.atI_nat (j:=1) rfl,?_⟩
      show (if true=true then _ else Q (.bool false))
      rw [if_pos rfl]
      refine ⟨_,rfl,_,L2.atI_nat (j:=1) rfl,?_⟩
      show Q (.bool (decide ((0:Int) < ((((pairsT fs t u (fs.map entD)).map fun p=>letsD p.1).length:Nat):Int))))
      have:0 < p.1 * p.2:=Nat.mul_pos p1 p3
      rw [List.length_map,hpm,decide_eq_true (by omega)]; exact h
  try unfold sNext
  dsimp only
  rcases d2 hle with ⟨c,hc,hne,rfl⟩ | ⟨hal,rfl⟩
  · exact ⟨_,rfl,_,rfl,_,rfl,_,rfl,fs,an,t,u,c,rfl,V,ht.ok,hu.ok,by omega,by omega,hc,hne,h⟩
  · exfalso
    have one:=all_one V ht hu hal
    have:(false=true):=hF2.mpr fun a ha b hb=>?_
    · cases this
    · rcases List.mem_append.mp hb with hb | hb
      · obtain ⟨w,hw⟩:=List.exists_mem_of_ne_nil (answersT u) fun z=>by have:=answers_ne u; rw [z] at this; cases this
        rw [one b hb w hw,one a ha w hw]
      · exact (one a ha b hb).symm

theorem len1 {α:Type} {P:List α→Prop} (h:∀ a0,P [a0]):∀ us:List α,us.length=1→P us
  | [a0],_=>h a0
theorem len2 {α:Type} {P:List α→Prop} (h:∀ a0 a1,P [a0,a1]):∀ us:List α,us.length=2→P us
  | [a0,a1],_=>h a0 a1
theorem len3 {α:Type} {P:List α→Prop} (h:∀ a0 a1 a2,P [a0,a1,a2]):∀ us:List α,us.length=3→P us
  | [a0,a1,a2],_=>h a0 a1 a2
theorem len4 {α:Type} {P:List α→Prop} (h:∀ a0 a1 a2 a3,P [a0,a1,a2,a3]):∀ us:List α,us.length=4→P us
  | [a0,a1,a2,a3],_=>h a0 a1 a2 a3
theorem len5 {α:Type} {P:List α→Prop} (h:∀ a0 a1 a2 a3 a4,P [a0,a1,a2,a3,a4]):∀ us:List α,us.length=5→P us
  | [a0,a1,a2,a3,a4],_=>h a0 a1 a2 a3 a4
set_option maxHeartbeats 4000000 in
theorem all_mk {l:PySem.W.OpenLaw} {w:World} {K:PySem.W.Frag} {h:Heap} {mg:Str→Option Value} {fa:Addr} (X:K.In h) (G:h.Ns mainGlobals mg) (hfa:mg "law"=some (.ref fa))
    {f_0:Addr} {od_0 an_0:Option Addr} {sl_0:Array (Option Value)} {oc_0 kV_0 dc_0 pm_0 cd_0 ct_0:Value}
    (a_0:PySem.W.nsIn K mainGlobals "entries_of"=some (some (.ref f_0))) (l_0:K.lookup f_0=some ⟨oc_0,od_0,.func (PySem.W.fnOf "entries_of" "entries_of" (defArgs (top 10)) (defBody (top 10)) (defScope (top 10)) .none kV_0 dc_0 pm_0 an_0 cd_0 ct_0),sl_0⟩) (c_0:PySem.W.codeIn K cd_0 "entries_of"=true) (k_0:PySem.W.keepIn K (.ref f_0)=true)
    {f_1:Addr} {od_1 an_1:Option Addr} {sl_1:Array (Option Value)} {oc_1 kV_1 dc_1 pm_1 cd_1 ct_1:Value}
    (a_1:PySem.W.nsIn K mainGlobals "field_asked"=some (some (.ref f_1))) (l_1:K.lookup f_1=some ⟨oc_1,od_1,.func (PySem.W.fnOf "field_asked" "field_asked" (defArgs (top 12)) (defBody (top 12)) (defScope (top 12)) .none kV_1 dc_1 pm_1 an_1 cd_1 ct_1),sl_1⟩) (c_1:PySem.W.codeIn K cd_1 "field_asked"=true) (k_1:PySem.W.keepIn K (.ref f_1)=true)
    {f_2:Addr} {od_2 an_2:Option Addr} {sl_2:Array (Option Value)} {oc_2 kV_2 dc_2 pm_2 cd_2 ct_2:Value}
    (a_2:PySem.W.nsIn K mainGlobals "entries_to_yes"=some (some (.ref f_2))) (l_2:K.lookup f_2=some ⟨oc_2,od_2,.func (PySem.W.fnOf "entries_to_yes" "entries_to_yes" (defArgs (top 13)) (defBody (top 13)) (defScope (top 13)) .none kV_2 dc_2 pm_2 an_2 cd_2 ct_2),sl_2⟩) (c_2:PySem.W.codeIn K cd_2 "entries_to_yes"=true) (k_2:PySem.W.keepIn K (.ref f_2)=true)
    {f_3:Addr} {od_3 an_3:Option Addr} {sl_3:Array (Option Value)} {oc_3 kV_3 dc_3 pm_3 cd_3 ct_3:Value}
    (a_3:PySem.W.nsIn K mainGlobals "values_held"=some (some (.ref f_3))) (l_3:K.lookup f_3=some ⟨oc_3,od_3,.func (PySem.W.fnOf "values_held" "values_held" (defArgs (top 14)) (defBody (top 14)) (defScope (top 14)) .none kV_3 dc_3 pm_3 an_3 cd_3 ct_3),sl_3⟩) (c_3:PySem.W.codeIn K cd_3 "values_held"=true) (k_3:PySem.W.keepIn K (.ref f_3)=true)
    {f_4:Addr} {od_4 an_4:Option Addr} {sl_4:Array (Option Value)} {oc_4 kV_4 dc_4 pm_4 cd_4 ct_4:Value}
    (a_4:PySem.W.nsIn K mainGlobals "is_leaf"=some (some (.ref f_4))) (l_4:K.lookup f_4=some ⟨oc_4,od_4,.func (PySem.W.fnOf "is_leaf" "is_leaf" (defArgs (top 16)) (defBody (top 16)) (defScope (top 16)) .none kV_4 dc_4 pm_4 an_4 cd_4 ct_4),sl_4⟩) (c_4:PySem.W.codeIn K cd_4 "is_leaf"=true) (k_4:PySem.W.keepIn K (.ref f_4)=true)
    {f_5:Addr} {od_5 an_5:Option Addr} {sl_5:Array (Option Value)} {oc_5 kV_5 dc_5 pm_5 cd_5 ct_5:Value}
    (a_5:PySem.W.nsIn K mainGlobals "rules_of"=some (some (.ref f_5))) (l_5:K.lookup f_5=some ⟨oc_5,od_5,.func (PySem.W.fnOf "rules_of" "rules_of" (defArgs (top 19)) (defBody (top 19)) (defScope (top 19)) .none kV_5 dc_5 pm_5 an_5 cd_5 ct_5),sl_5⟩) (c_5:PySem.W.codeIn K cd_5 "rules_of"=true) (k_5:PySem.W.keepIn K (.ref f_5)=true)
    {f_6:Addr} {od_6 an_6:Option Addr} {sl_6:Array (Option Value)} {oc_6 kV_6 dc_6 pm_6 cd_6 ct_6:Value}
    (a_6:PySem.W.nsIn K mainGlobals "whole_lets"=some (some (.ref f_6))) (l_6:K.lookup f_6=some ⟨oc_6,od_6,.func (PySem.W.fnOf "whole_lets" "whole_lets" (defArgs (top 20)) (defBody (top 20)) (defScope (top 20)) .none kV_6 dc_6 pm_6 an_6 cd_6 ct_6),sl_6⟩) (c_6:PySem.W.codeIn K cd_6 "whole_lets"=true) (k_6:PySem.W.keepIn K (.ref f_6)=true)
    {f_7:Addr} {od_7 an_7:Option Addr} {sl_7:Array (Option Value)} {oc_7 kV_7 dc_7 pm_7 cd_7 ct_7:Value}
    (a_7:PySem.W.nsIn K mainGlobals "rules_within"=some (some (.ref f_7))) (l_7:K.lookup f_7=some ⟨oc_7,od_7,.func (PySem.W.fnOf "rules_within" "rules_within" (defArgs (top 21)) (defBody (top 21)) (defScope (top 21)) .none kV_7 dc_7 pm_7 an_7 cd_7 ct_7),sl_7⟩) (c_7:PySem.W.codeIn K cd_7 "rules_within"=true) (k_7:PySem.W.keepIn K (.ref f_7)=true)
    {f_8:Addr} {od_8 an_8:Option Addr} {sl_8:Array (Option Value)} {oc_8 kV_8 dc_8 pm_8 cd_8 ct_8:Value}
    (a_8:PySem.W.nsIn K mainGlobals "with_let"=some (some (.ref f_8))) (l_8:K.lookup f_8=some ⟨oc_8,od_8,.func (PySem.W.fnOf "with_let" "with_let" (defArgs (top 22)) (defBody (top 22)) (defScope (top 22)) .none kV_8 dc_8 pm_8 an_8 cd_8 ct_8),sl_8⟩) (c_8:PySem.W.codeIn K cd_8 "with_let"=true) (k_8:PySem.W.keepIn K (.ref f_8)=true)
    {f_9:Addr} {od_9 an_9:Option Addr} {sl_9:Array (Option Value)} {oc_9 kV_9 dc_9 pm_9 cd_9 ct_9:Value}
    (a_9:PySem.W.nsIn K mainGlobals "alike"=some (some (.ref f_9))) (l_9:K.lookup f_9=some ⟨oc_9,od_9,.func (PySem.W.fnOf "alike" "alike" (defArgs (top 25)) (defBody (top 25)) (defScope (top 25)) .none kV_9 dc_9 pm_9 an_9 cd_9 ct_9),sl_9⟩) (c_9:PySem.W.codeIn K cd_9 "alike"=true) (k_9:PySem.W.keepIn K (.ref f_9)=true)
    {f_10:Addr} {od_10 an_10:Option Addr} {sl_10:Array (Option Value)} {oc_10 kV_10 dc_10 pm_10 cd_10 ct_10:Value}
    (a_10:PySem.W.nsIn K mainGlobals "pairs_of"=some (some (.ref f_10))) (l_10:K.lookup f_10=some ⟨oc_10,od_10,.func (PySem.W.fnOf "pairs_of" "pairs_of" (defArgs (top 26)) (defBody (top 26)) (defScope (top 26)) .none kV_10 dc_10 pm_10 an_10 cd_10 ct_10),sl_10⟩) (c_10:PySem.W.codeIn K cd_10 "pairs_of"=true) (k_10:PySem.W.keepIn K (.ref f_10)=true)
    {f_11:Addr} {od_11 an_11:Option Addr} {sl_11:Array (Option Value)} {oc_11 kV_11 dc_11 pm_11 cd_11 ct_11:Value}
    (a_11:PySem.W.nsIn K mainGlobals "_law_tape"=some (some (.ref f_11))) (l_11:K.lookup f_11=some ⟨oc_11,od_11,.func (PySem.W.fnOf "_law_tape" "_law_tape" (defArgs (top 28)) (defBody (top 28)) (defScope (top 28)) .none kV_11 dc_11 pm_11 an_11 cd_11 ct_11),sl_11⟩) (c_11:PySem.W.codeIn K cd_11 "_law_tape"=true) (k_11:PySem.W.keepIn K (.ref f_11)=true)
    {f_12:Addr} {od_12 an_12:Option Addr} {sl_12:Array (Option Value)} {oc_12 kV_12 dc_12 pm_12 cd_12 ct_12:Value}
    (a_12:PySem.W.nsIn K mainGlobals "_law_draw"=some (some (.ref f_12))) (l_12:K.lookup f_12=some ⟨oc_12,od_12,.func (PySem.W.fnOf "_law_draw" "_law_draw" (defArgs (top 29)) (defBody (top 29)) (defScope (top 29)) .none kV_12 dc_12 pm_12 an_12 cd_12 ct_12),sl_12⟩) (c_12:PySem.W.codeIn K cd_12 "_law_draw"=true) (k_12:PySem.W.keepIn K (.ref f_12)=true)
    {f_13:Addr} {od_13 an_13:Option Addr} {sl_13:Array (Option Value)} {oc_13 kV_13 dc_13 pm_13 cd_13 ct_13:Value}
    (a_13:PySem.W.nsIn K mainGlobals "_law_names"=some (some (.ref f_13))) (l_13:K.lookup f_13=some ⟨oc_13,od_13,.func (PySem.W.fnOf "_law_names" "_law_names" (defArgs (top 30)) (defBody (top 30)) (defScope (top 30)) .none kV_13 dc_13 pm_13 an_13 cd_13 ct_13),sl_13⟩) (c_13:PySem.W.codeIn K cd_13 "_law_names"=true) (k_13:PySem.W.keepIn K (.ref f_13)=true)
    {f_14:Addr} {od_14 an_14:Option Addr} {sl_14:Array (Option Value)} {oc_14 kV_14 dc_14 pm_14 cd_14 ct_14:Value}
    (a_14:PySem.W.nsIn K mainGlobals "_law_whole"=some (some (.ref f_14))) (l_14:K.lookup f_14=some ⟨oc_14,od_14,.func (PySem.W.fnOf "_law_whole" "_law_whole" (defArgs (top 31)) (defBody (top 31)) (defScope (top 31)) .none kV_14 dc_14 pm_14 an_14 cd_14 ct_14),sl_14⟩) (c_14:PySem.W.codeIn K cd_14 "_law_whole"=true) (k_14:PySem.W.keepIn K (.ref f_14)=true)
    {f_15:Addr} {od_15 an_15:Option Addr} {sl_15:Array (Option Value)} {oc_15 kV_15 dc_15 pm_15 cd_15 ct_15:Value}
    (a_15:PySem.W.nsIn K mainGlobals "_law_side"=some (some (.ref f_15))) (l_15:K.lookup f_15=some ⟨oc_15,od_15,.func (PySem.W.fnOf "_law_side" "_law_side" (defArgs (top 32)) (defBody (top 32)) (defScope (top 32)) .none kV_15 dc_15 pm_15 an_15 cd_15 ct_15),sl_15⟩) (c_15:PySem.W.codeIn K cd_15 "_law_side"=true) (k_15:PySem.W.keepIn K (.ref f_15)=true)
    {f_16:Addr} {od_16 an_16:Option Addr} {sl_16:Array (Option Value)} {oc_16 kV_16 dc_16 pm_16 cd_16 ct_16:Value}
    (a_16:PySem.W.nsIn K mainGlobals "_law_way"=some (some (.ref f_16))) (l_16:K.lookup f_16=some ⟨oc_16,od_16,.func (PySem.W.fnOf "_law_way" "_law_way" (defArgs (top 33)) (defBody (top 33)) (defScope (top 33)) .none kV_16 dc_16 pm_16 an_16 cd_16 ct_16),sl_16⟩) (c_16:PySem.W.codeIn K cd_16 "_law_way"=true) (k_16:PySem.W.keepIn K (.ref f_16)=true)
    {f_17:Addr} {od_17 an_17:Option Addr} {sl_17:Array (Option Value)} {oc_17 kV_17 dc_17 pm_17 cd_17 ct_17:Value}
    (a_17:PySem.W.nsIn K mainGlobals "_law_parted"=some (some (.ref f_17))) (l_17:K.lookup f_17=some ⟨oc_17,od_17,.func (PySem.W.fnOf "_law_parted" "_law_parted" (defArgs (top 34)) (defBody (top 34)) (defScope (top 34)) .none kV_17 dc_17 pm_17 an_17 cd_17 ct_17),sl_17⟩) (c_17:PySem.W.codeIn K cd_17 "_law_parted"=true) (k_17:PySem.W.keepIn K (.ref f_17)=true)
    {f_18:Addr} {od_18 an_18:Option Addr} {sl_18:Array (Option Value)} {oc_18 kV_18 dc_18 pm_18 cd_18 ct_18:Value}
    (a_18:PySem.W.nsIn K mainGlobals "_law_told"=some (some (.ref f_18))) (l_18:K.lookup f_18=some ⟨oc_18,od_18,.func (PySem.W.fnOf "_law_told" "_law_told" (defArgs (top 35)) (defBody (top 35)) (defScope (top 35)) .none kV_18 dc_18 pm_18 an_18 cd_18 ct_18),sl_18⟩) (c_18:PySem.W.codeIn K cd_18 "_law_told"=true) (k_18:PySem.W.keepIn K (.ref f_18)=true)
    {f_19:Addr} {od_19 an_19:Option Addr} {sl_19:Array (Option Value)} {oc_19 kV_19 dc_19 pm_19 cd_19 ct_19:Value}
    (a_19:PySem.W.nsIn K mainGlobals "_law_answers"=some (some (.ref f_19))) (l_19:K.lookup f_19=some ⟨oc_19,od_19,.func (PySem.W.fnOf "_law_answers" "_law_answers" (defArgs (top 36)) (defBody (top 36)) (defScope (top 36)) .none kV_19 dc_19 pm_19 an_19 cd_19 ct_19),sl_19⟩) (c_19:PySem.W.codeIn K cd_19 "_law_answers"=true) (k_19:PySem.W.keepIn K (.ref f_19)=true)
    {f_20:Addr} {od_20 an_20:Option Addr} {sl_20:Array (Option Value)} {oc_20 kV_20 dc_20 pm_20 cd_20 ct_20:Value}
    (a_20:PySem.W.nsIn K mainGlobals "_law_same_leaves"=some (some (.ref f_20))) (l_20:K.lookup f_20=some ⟨oc_20,od_20,.func (PySem.W.fnOf "_law_same_leaves" "_law_same_leaves" (defArgs (top 37)) (defBody (top 37)) (defScope (top 37)) .none kV_20 dc_20 pm_20 an_20 cd_20 ct_20),sl_20⟩) (c_20:PySem.W.codeIn K cd_20 "_law_same_leaves"=true) (k_20:PySem.W.keepIn K (.ref f_20)=true)
    {f_21:Addr} {od_21 an_21:Option Addr} {sl_21:Array (Option Value)} {oc_21 kV_21 dc_21 pm_21 cd_21 ct_21:Value}
    (a_21:PySem.W.nsIn K mainGlobals "_law_over"=some (some (.ref f_21))) (l_21:K.lookup f_21=some ⟨oc_21,od_21,.func (PySem.W.fnOf "_law_over" "_law_over" (defArgs (top 38)) (defBody (top 38)) (defScope (top 38)) .none kV_21 dc_21 pm_21 an_21 cd_21 ct_21),sl_21⟩) (c_21:PySem.W.codeIn K cd_21 "_law_over"=true) (k_21:PySem.W.keepIn K (.ref f_21)=true)
    {f_22:Addr} {od_22 an_22:Option Addr} {sl_22:Array (Option Value)} {oc_22 kV_22 dc_22 pm_22 cd_22 ct_22:Value}
    (a_22:PySem.W.nsIn K mainGlobals "_law_turned"=some (some (.ref f_22))) (l_22:K.lookup f_22=some ⟨oc_22,od_22,.func (PySem.W.fnOf "_law_turned" "_law_turned" (defArgs (top 39)) (defBody (top 39)) (defScope (top 39)) .none kV_22 dc_22 pm_22 an_22 cd_22 ct_22),sl_22⟩) (c_22:PySem.W.codeIn K cd_22 "_law_turned"=true) (k_22:PySem.W.keepIn K (.ref f_22)=true)
    {f_23:Addr} {od_23 an_23:Option Addr} {sl_23:Array (Option Value)} {oc_23 kV_23 dc_23 pm_23 cd_23 ct_23:Value}
    (a_23:PySem.W.nsIn K mainGlobals "_law_with_bare"=some (some (.ref f_23))) (l_23:K.lookup f_23=some ⟨oc_23,od_23,.func (PySem.W.fnOf "_law_with_bare" "_law_with_bare" (defArgs (top 40)) (defBody (top 40)) (defScope (top 40)) .none kV_23 dc_23 pm_23 an_23 cd_23 ct_23),sl_23⟩) (c_23:PySem.W.codeIn K cd_23 "_law_with_bare"=true) (k_23:PySem.W.keepIn K (.ref f_23)=true)
    {f_24:Addr} {od_24 an_24:Option Addr} {sl_24:Array (Option Value)} {oc_24 kV_24 dc_24 pm_24 cd_24 ct_24:Value}
    (a_24:PySem.W.nsIn K mainGlobals "_law_pieces_right"=some (some (.ref f_24))) (l_24:K.lookup f_24=some ⟨oc_24,od_24,.func (PySem.W.fnOf "_law_pieces_right" "_law_pieces_right" (defArgs (top 41)) (defBody (top 41)) (defScope (top 41)) .none kV_24 dc_24 pm_24 an_24 cd_24 ct_24),sl_24⟩) (c_24:PySem.W.codeIn K cd_24 "_law_pieces_right"=true) (k_24:PySem.W.keepIn K (.ref f_24)=true)
    {f_25:Addr} {od_25 an_25:Option Addr} {sl_25:Array (Option Value)} {oc_25 kV_25 dc_25 pm_25 cd_25 ct_25:Value}
    (a_25:PySem.W.nsIn K mainGlobals "_law_unlike_right"=some (some (.ref f_25))) (l_25:K.lookup f_25=some ⟨oc_25,od_25,.func (PySem.W.fnOf "_law_unlike_right" "_law_unlike_right" (defArgs (top 42)) (defBody (top 42)) (defScope (top 42)) .none kV_25 dc_25 pm_25 an_25 cd_25 ct_25),sl_25⟩) (c_25:PySem.W.codeIn K cd_25 "_law_unlike_right"=true) (k_25:PySem.W.keepIn K (.ref f_25)=true)
    {f_26:Addr} {od_26 an_26:Option Addr} {sl_26:Array (Option Value)} {oc_26 kV_26 dc_26 pm_26 cd_26 ct_26:Value}
    (a_26:PySem.W.nsIn K mainGlobals "_law_rules_right"=some (some (.ref f_26))) (l_26:K.lookup f_26=some ⟨oc_26,od_26,.func (PySem.W.fnOf "_law_rules_right" "_law_rules_right" (defArgs (top 43)) (defBody (top 43)) (defScope (top 43)) .none kV_26 dc_26 pm_26 an_26 cd_26 ct_26),sl_26⟩) (c_26:PySem.W.codeIn K cd_26 "_law_rules_right"=true) (k_26:PySem.W.keepIn K (.ref f_26)=true)
    {f_27:Addr} {od_27 an_27:Option Addr} {sl_27:Array (Option Value)} {oc_27 kV_27 dc_27 pm_27 cd_27 ct_27:Value}
    (a_27:PySem.W.nsIn K mainGlobals "_law_beside_itself"=some (some (.ref f_27))) (l_27:K.lookup f_27=some ⟨oc_27,od_27,.func (PySem.W.fnOf "_law_beside_itself" "_law_beside_itself" (defArgs (top 44)) (defBody (top 44)) (defScope (top 44)) .none kV_27 dc_27 pm_27 an_27 cd_27 ct_27),sl_27⟩) (c_27:PySem.W.codeIn K cd_27 "_law_beside_itself"=true) (k_27:PySem.W.keepIn K (.ref f_27)=true)
    {f_law:Addr} {od_law an_law:Option Addr} {sl_law:Array (Option Value)} {oc_law kV_law dc_law pm_law cd_law ct_law:Value}
    (a_law:PySem.W.nsIn K mainGlobals "law"=some (some (.ref f_law))) (l_law:K.lookup f_law=some ⟨oc_law,od_law,.func (PySem.W.fnOf "law" "law" (defArgs (top 45)) (defBody (top 45)) (defScope (top 45)) .none kV_law dc_law pm_law an_law cd_law ct_law),sl_law⟩) (c_law:PySem.W.codeIn K cd_law "law"=true) (k_law:PySem.W.keepIn K (.ref f_law)=true)
    {t_MOST_RULES:Tok} (e_MOST_RULES:PySem.W.nsIn K mainGlobals "MOST_RULES"=some (some (.int 60 t_MOST_RULES)))
    {t_MOST_PAIRS:Tok} (e_MOST_PAIRS:PySem.W.nsIn K mainGlobals "MOST_PAIRS"=some (some (.int 2000 t_MOST_PAIRS)))
    {C_JudgeError:Addr}
    (ax_JudgeError:PySem.W.nsIn K mainGlobals "JudgeError"=some (some (.ref C_JudgeError)))
    {C_TooMany:Addr}
    (ax_TooMany:PySem.W.nsIn K mainGlobals "TooMany"=some (some (.ref C_TooMany)))
    {C_NoPlace:Addr}
    (ax_NoPlace:PySem.W.nsIn K mainGlobals "NoPlace"=some (some (.ref C_NoPlace)))
    {C_NoRow:Addr}
    (ax_NoRow:PySem.W.nsIn K mainGlobals "NoRow"=some (some (.ref C_NoRow)))
    {C_NoSuch:Addr}
    (ax_NoSuch:PySem.W.nsIn K mainGlobals "NoSuch"=some (some (.ref C_NoSuch)))
    {C_NoLine:Addr}
    (ax_NoLine:PySem.W.nsIn K mainGlobals "NoLine"=some (some (.ref C_NoLine)))
    {C_NoText:Addr}
    (ax_NoText:PySem.W.nsIn K mainGlobals "NoText"=some (some (.ref C_NoText)))
    {C_NoRule:Addr}
    (ax_NoRule:PySem.W.nsIn K mainGlobals "NoRule"=some (some (.ref C_NoRule)))
    {c0_J:Value} {dd_J:Option Addr} {cd_J:ClassData} {sl_J:Array (Option Value)}
    (l_J:K.lookup C_JudgeError=some ⟨c0_J,dd_J,.cls cd_J,sl_J⟩)
    {oc_J:Value} {od_J:Option Addr} {es_J:Array DictEntry} {ep_J:Nat} {os_J:Array (Option Value)}
    (ln_J:K.lookup cd_J.ns=some ⟨oc_J,od_J,.dict es_J ep_J,os_J⟩)
    (R_J:(es_J.toList.all fun e=>match e.key with | .str _ _=>true | _=>false)=true)
    (n2_J:PySem.W.nsIn K cd_J.ns "__init__"=some (none))
    (mb_J:PySem.W.mroIn K C_JudgeError (.type "BaseException")=some true)
    {cc_JudgeError:ClassData}
    (ic_JudgeError:PySem.W.clsIn K C_JudgeError=some cc_JudgeError)
    (it_JudgeError:PySem.W.typeIn K (.ref C_JudgeError)=some (.type "type"))
    (is_JudgeError:PySem.W.mroIn K C_JudgeError (.ref C_JudgeError)=some true)
    {cc_TooMany:ClassData}
    (ic_TooMany:PySem.W.clsIn K C_TooMany=some cc_TooMany)
    (it_TooMany:PySem.W.typeIn K (.ref C_TooMany)=some (.type "type"))
    (is_TooMany:PySem.W.mroIn K C_TooMany (.ref C_TooMany)=some true)
    {cc_NoPlace:ClassData}
    (ic_NoPlace:PySem.W.clsIn K C_NoPlace=some cc_NoPlace)
    (it_NoPlace:PySem.W.typeIn K (.ref C_NoPlace)=some (.type "type"))
    (is_NoPlace:PySem.W.mroIn K C_NoPlace (.ref C_NoPlace)=some true)
    {cc_NoRow:ClassData}
    (ic_NoRow:PySem.W.clsIn K C_NoRow=some cc_NoRow)
    (it_NoRow:PySem.W.typeIn K (.ref C_NoRow)=some (.type "type"))
    (is_NoRow:PySem.W.mroIn K C_NoRow (.ref C_NoRow)=some true)
    {cc_NoSuch:ClassData}
    (ic_NoSuch:PySem.W.clsIn K C_NoSuch=some cc_NoSuch)
    (it_NoSuch:PySem.W.typeIn K (.ref C_NoSuch)=some (.type "type"))
    (is_NoSuch:PySem.W.mroIn K C_NoSuch (.ref C_NoSuch)=some true)
    {cc_NoLine:ClassData}
    (ic_NoLine:PySem.W.clsIn K C_NoLine=some cc_NoLine)
    (it_NoLine:PySem.W.typeIn K (.ref C_NoLine)=some (.type "type"))
    (is_NoLine:PySem.W.mroIn K C_NoLine (.ref C_NoLine)=some true)
    {cc_NoText:ClassData}
    (ic_NoText:PySem.W.clsIn K C_NoText=some cc_NoText)
    (it_NoText:PySem.W.typeIn K (.ref C_NoText)=some (.type "type"))
    (is_NoText:PySem.W.mroIn K C_NoText (.ref C_NoText)=some true)
    {cc_NoRule:ClassData}
    (ic_NoRule:PySem.W.clsIn K C_NoRule=some cc_NoRule)
    (it_NoRule:PySem.W.typeIn K (.ref C_NoRule)=some (.type "type"))
    (is_NoRule:PySem.W.mroIn K C_NoRule (.ref C_NoRule)=some true)
    {nm_TooMany qn_TooMany:Str} {N_TooMany:Addr} {bs_TooMany sub_TooMany:List Value} {hd_TooMany ab_TooMany:Bool} {sn_TooMany:List Str} {col_TooMany:Option Bool} {dd_TooMany:Option Addr} {k0_TooMany k1_TooMany k2_TooMany k3_TooMany k5_TooMany:Option Value}
    (l_TooMany:K.lookup C_TooMany=some (excClassObj nm_TooMany qn_TooMany C_TooMany N_TooMany bs_TooMany (.ref C_JudgeError::[.type "ValueError",.type "Exception",.type "BaseException",.type "object"]) hd_TooMany sn_TooMany sub_TooMany ab_TooMany col_TooMany dd_TooMany k0_TooMany k1_TooMany k2_TooMany k3_TooMany k5_TooMany "ValueError.__new__"))
    {oc_TooMany:Value} {od_TooMany:Option Addr} {es_TooMany:Array DictEntry} {ep_TooMany:Nat} {os_TooMany:Array (Option Value)}
    (ln_TooMany:K.lookup N_TooMany=some ⟨oc_TooMany,od_TooMany,.dict es_TooMany ep_TooMany,os_TooMany⟩)
    (R_TooMany:(es_TooMany.toList.all fun e=>match e.key with | .str _ _=>true | _=>false)=true)
    (n2_TooMany:PySem.W.nsIn K N_TooMany "__init__"=some (none))
    (f__getattribute___TooMany:PySem.W.findIn K (.ref C_TooMany) "__getattribute__"=some (some (.builtin "BaseException.__getattribute__")))
    (f__getattr___TooMany:PySem.W.findIn K (.ref C_TooMany) "__getattr__"=some (none))
    (f__class___TooMany:PySem.W.findIn K (.ref C_TooMany) "__class__"=some (some (.builtin "object.__class__")))
    (m_object_TooMany:PySem.W.mroIn K C_TooMany (.type "object")=some true)
    (m_BaseException_TooMany:PySem.W.mroIn K C_TooMany (.type "BaseException")=some true)
    (m_ValueError_TooMany:PySem.W.mroIn K C_TooMany (.type "ValueError")=some true)
    (y_int_TooMany:PySem.W.mroIn K C_TooMany (.type "int")=some false)
    (y_str_TooMany:PySem.W.mroIn K C_TooMany (.type "str")=some false)
    (y_list_TooMany:PySem.W.mroIn K C_TooMany (.type "list")=some false)
    (y_tuple_TooMany:PySem.W.mroIn K C_TooMany (.type "tuple")=some false)
    (y_bool_TooMany:PySem.W.mroIn K C_TooMany (.type "bool")=some false)
    (j_TooMany:PySem.W.mroIn K C_TooMany (.ref C_JudgeError)=some true)
    (q_TooMany_NoPlace:PySem.W.mroIn K C_TooMany (.ref C_NoPlace)=some false)
    (q_TooMany_NoRow:PySem.W.mroIn K C_TooMany (.ref C_NoRow)=some false)
    (q_TooMany_NoSuch:PySem.W.mroIn K C_TooMany (.ref C_NoSuch)=some false)
    (q_TooMany_NoLine:PySem.W.mroIn K C_TooMany (.ref C_NoLine)=some false)
    (q_TooMany_NoText:PySem.W.mroIn K C_TooMany (.ref C_NoText)=some false)
    (q_TooMany_NoRule:PySem.W.mroIn K C_TooMany (.ref C_NoRule)=some false)
    (z_ValueError:PySem.W.nsIn K mainGlobals "ValueError"=some none)
    (z_all:PySem.W.nsIn K mainGlobals "all"=some none)
    (z_int:PySem.W.nsIn K mainGlobals "int"=some none)
    (z_isinstance:PySem.W.nsIn K mainGlobals "isinstance"=some none)
    (z_len:PySem.W.nsIn K mainGlobals "len"=some none)
    (z_list:PySem.W.nsIn K mainGlobals "list"=some none)
    (z_max:PySem.W.nsIn K mainGlobals "max"=some none)
    (z_min:PySem.W.nsIn K mainGlobals "min"=some none)
    (z_range:PySem.W.nsIn K mainGlobals "range"=some none)
    (z_set:PySem.W.nsIn K mainGlobals "set"=some none)
    (z_tuple:PySem.W.nsIn K mainGlobals "tuple"=some none)
    (z_zip:PySem.W.nsIn K mainGlobals "zip"=some none) :
    ∃ fd:FuncData,(∀ (s:Shared) (v:Value),BindsTo s fd ⟨[v],[]⟩ [("_law_script",v)])∧∀ base:Heap,K.In base→base.Ns mainGlobals mg→FnOk l.prog w K mg base CX0 38 fa fd ["_law_script"] (liftSp K sp_law):=by
  have e:=hfa.symm.trans (PySem.W.mg_of X G a_law)
  cases e
  have F_0:=fun_mk (st:=top 10) l_0 c_0 k_0
  have b_0:=F_0.binds (ps:=["field"]) fun _ _ _ _ _ _=>len1 fun _=>rfl
  have F_1:=fun_mk (st:=top 12) l_1 c_1 k_1
  have b_1:=F_1.binds (ps:=["form","question"]) fun _ _ _ _ _ _=>len2 fun _ _=>rfl
  have F_2:=fun_mk (st:=top 13) l_2 c_2 k_2
  have b_2:=F_2.binds (ps:=["question","stray","field"]) fun _ _ _ _ _ _=>len3 fun _ _ _=>rfl
  have F_3:=fun_mk (st:=top 14) l_3 c_3 k_3
  have b_3:=F_3.binds (ps:=["question","field"]) fun _ _ _ _ _ _=>len2 fun _ _=>rfl
  have F_4:=fun_mk (st:=top 16) l_4 c_4 k_4
  have b_4:=F_4.binds (ps:=["tree"]) fun _ _ _ _ _ _=>len1 fun _=>rfl
  have F_5:=fun_mk (st:=top 19) l_5 c_5 k_5
  have b_5:=F_5.binds (ps:=["form","tree"]) fun _ _ _ _ _ _=>len2 fun _ _=>rfl
  have F_6:=fun_mk (st:=top 20) l_6 c_6 k_6
  have b_6:=F_6.binds (ps:=["form"]) fun _ _ _ _ _ _=>len1 fun _=>rfl
  have F_7:=fun_mk (st:=top 21) l_7 c_7 k_7
  have b_7:=F_7.binds (ps:=["form","tree","lets"]) fun _ _ _ _ _ _=>len3 fun _ _ _=>rfl
  have F_8:=fun_mk (st:=top 22) l_8 c_8 k_8
  have b_8:=F_8.binds (ps:=["lets","number","let"]) fun _ _ _ _ _ _=>len3 fun _ _ _=>rfl
  have F_9:=fun_mk (st:=top 25) l_9 c_9 k_9
  have b_9:=F_9.binds (ps:=["form","one","other"]) fun _ _ _ _ _ _=>len3 fun _ _ _=>rfl
  have F_10:=fun_mk (st:=top 26) l_10 c_10 k_10
  have b_10:=F_10.binds (ps:=["form","one","other"]) fun _ _ _ _ _ _=>len3 fun _ _ _=>rfl
  have F_11:=fun_mk (st:=top 28) l_11 c_11 k_11
  have b_11:=F_11.binds (ps:=["_law_script"]) fun _ _ _ _ _ _=>len1 fun _=>rfl
  have F_12:=fun_mk (st:=top 29) l_12 c_12 k_12
  have b_12:=F_12.binds (ps:=["_law_tape_here","_law_many"]) fun _ _ _ _ _ _=>len2 fun _ _=>rfl
  have F_13:=fun_mk (st:=top 30) l_13 c_13 k_13
  have b_13:=F_13.binds (ps:=["_law_tape_here","_law_many"]) fun _ _ _ _ _ _=>len2 fun _ _=>rfl
  have F_14:=fun_mk (st:=top 31) l_14 c_14 k_14
  have b_14:=F_14.binds (ps:=["_law_form"]) fun _ _ _ _ _ _=>len1 fun _=>rfl
  have F_15:=fun_mk (st:=top 32) l_15 c_15 k_15
  have b_15:=F_15.binds (ps:=["_law_form","_law_knot","_law_case"]) fun _ _ _ _ _ _=>len3 fun _ _ _=>rfl
  have F_16:=fun_mk (st:=top 33) l_16 c_16 k_16
  have b_16:=F_16.binds (ps:=["_law_form","_law_tree","_law_case"]) fun _ _ _ _ _ _=>len3 fun _ _ _=>rfl
  have F_17:=fun_mk (st:=top 34) l_17 c_17 k_17
  have b_17:=F_17.binds (ps:=["_law_tape_here","_law_form","_law_lets","_law_left"]) fun _ _ _ _ _ _=>len4 fun _ _ _ _=>rfl
  have F_18:=fun_mk (st:=top 35) l_18 c_18 k_18
  have b_18:=F_18.binds (ps:=["_law_form","_law_one","_law_other"]) fun _ _ _ _ _ _=>len3 fun _ _ _=>rfl
  have F_19:=fun_mk (st:=top 36) l_19 c_19 k_19
  have b_19:=F_19.binds (ps:=["_law_tree"]) fun _ _ _ _ _ _=>len1 fun _=>rfl
  have F_20:=fun_mk (st:=top 37) l_20 c_20 k_20
  have b_20:=F_20.binds (ps:=["_law_tree","_law_answer"]) fun _ _ _ _ _ _=>len2 fun _ _=>rfl
  have F_21:=fun_mk (st:=top 38) l_21 c_21 k_21
  have b_21:=F_21.binds (ps:=["_law_tape_here","_law_form","_law_lets","_law_many","_law_plain"]) fun _ _ _ _ _ _=>len5 fun _ _ _ _ _=>rfl
  have F_22:=fun_mk (st:=top 39) l_22 c_22 k_22
  have b_22:=F_22.binds (ps:=["_law_tape_here","_law_form","_law_tree"]) fun _ _ _ _ _ _=>len3 fun _ _ _=>rfl
  have F_23:=fun_mk (st:=top 40) l_23 c_23 k_23
  have b_23:=F_23.binds (ps:=["_law_tape_here","_law_form","_law_tree"]) fun _ _ _ _ _ _=>len3 fun _ _ _=>rfl
  have F_24:=fun_mk (st:=top 41) l_24 c_24 k_24
  have b_24:=F_24.binds (ps:=["_law_form","_law_one","_law_other","_law_pieces"]) fun _ _ _ _ _ _=>len4 fun _ _ _ _=>rfl
  have F_25:=fun_mk (st:=top 42) l_25 c_25 k_25
  have b_25:=F_25.binds (ps:=["_law_form","_law_one","_law_other","_law_told_here"]) fun _ _ _ _ _ _=>len4 fun _ _ _ _=>rfl
  have F_26:=fun_mk (st:=top 43) l_26 c_26 k_26
  have b_26:=F_26.binds (ps:=["_law_form","_law_tree","_law_one"]) fun _ _ _ _ _ _=>len3 fun _ _ _=>rfl
  have F_27:=fun_mk (st:=top 44) l_27 c_27 k_27
  have b_27:=F_27.binds (ps:=["_law_tape_here","_law_form"]) fun _ _ _ _ _ _=>len2 fun _ _=>rfl
  have F_law:=fun_mk (st:=top 45) l_law c_law k_law
  have b_law:=F_law.binds (ps:=["_law_script"]) fun _ _ _ _ _ _=>len1 fun _=>rfl
  have T:Txt K mg { a_0:=f_0,f_0:=PySem.W.fnOf "entries_of" "entries_of" (defArgs (top 10)) (defBody (top 10)) (defScope (top 10)) .none kV_0 dc_0 pm_0 an_0 cd_0 ct_0,a_1:=f_1,f_1:=PySem.W.fnOf "field_asked" "field_asked" (defArgs (top 12)) (defBody (top 12)) (defScope (top 12)) .none kV_1 dc_1 pm_1 an_1 cd_1 ct_1,a_2:=f_2,f_2:=PySem.W.fnOf "entries_to_yes" "entries_to_yes" (defArgs (top 13)) (defBody (top 13)) (defScope (top 13)) .none kV_2 dc_2 pm_2 an_2 cd_2 ct_2,a_3:=f_3,f_3:=PySem.W.fnOf "values_held" "values_held" (defArgs (top 14)) (defBody (top 14)) (defScope (top 14)) .none kV_3 dc_3 pm_3 an_3 cd_3 ct_3,a_4:=f_4,f_4:=PySem.W.fnOf "is_leaf" "is_leaf" (defArgs (top 16)) (defBody (top 16)) (defScope (top 16)) .none kV_4 dc_4 pm_4 an_4 cd_4 ct_4,a_5:=f_5,f_5:=PySem.W.fnOf "rules_of" "rules_of" (defArgs (top 19)) (defBody (top 19)) (defScope (top 19)) .none kV_5 dc_5 pm_5 an_5 cd_5 ct_5,a_6:=f_6,f_6:=PySem.W.fnOf "whole_lets" "whole_lets" (defArgs (top 20)) (defBody (top 20)) (defScope (top 20)) .none kV_6 dc_6 pm_6 an_6 cd_6 ct_6,a_7:=f_7,f_7:=PySem.W.fnOf "rules_within" "rules_within" (defArgs (top 21)) (defBody (top 21)) (defScope (top 21)) .none kV_7 dc_7 pm_7 an_7 cd_7 ct_7,a_8:=f_8,f_8:=PySem.W.fnOf "with_let" "with_let" (defArgs (top 22)) (defBody (top 22)) (defScope (top 22)) .none kV_8 dc_8 pm_8 an_8 cd_8 ct_8,a_9:=f_9,f_9:=PySem.W.fnOf "alike" "alike" (defArgs (top 25)) (defBody (top 25)) (defScope (top 25)) .none kV_9 dc_9 pm_9 an_9 cd_9 ct_9,a_10:=f_10,f_10:=PySem.W.fnOf "pairs_of" "pairs_of" (defArgs (top 26)) (defBody (top 26)) (defScope (top 26)) .none kV_10 dc_10 pm_10 an_10 cd_10 ct_10,a_11:=f_11,f_11:=PySem.W.fnOf "_law_tape" "_law_tape" (defArgs (top 28)) (defBody (top 28)) (defScope (top 28)) .none kV_11 dc_11 pm_11 an_11 cd_11 ct_11,a_12:=f_12,f_12:=PySem.W.fnOf "_law_draw" "_law_draw" (defArgs (top 29)) (defBody (top 29)) (defScope (top 29)) .none kV_12 dc_12 pm_12 an_12 cd_12 ct_12,a_13:=f_13,f_13:=PySem.W.fnOf "_law_names" "_law_names" (defArgs (top 30)) (defBody (top 30)) (defScope (top 30)) .none kV_13 dc_13 pm_13 an_13 cd_13 ct_13,a_14:=f_14,f_14:=PySem.W.fnOf "_law_whole" "_law_whole" (defArgs (top 31)) (defBody (top 31)) (defScope (top 31)) .none kV_14 dc_14 pm_14 an_14 cd_14 ct_14,a_15:=f_15,f_15:=PySem.W.fnOf "_law_side" "_law_side" (defArgs (top 32)) (defBody (top 32)) (defScope (top 32)) .none kV_15 dc_15 pm_15 an_15 cd_15 ct_15,a_16:=f_16,f_16:=PySem.W.fnOf "_law_way" "_law_way" (defArgs (top 33)) (defBody (top 33)) (defScope (top 33)) .none kV_16 dc_16 pm_16 an_16 cd_16 ct_16,a_17:=f_17,f_17:=PySem.W.fnOf "_law_parted" "_law_parted" (defArgs (top 34)) (defBody (top 34)) (defScope (top 34)) .none kV_17 dc_17 pm_17 an_17 cd_17 ct_17,a_18:=f_18,f_18:=PySem.W.fnOf "_law_told" "_law_told" (defArgs (top 35)) (defBody (top 35)) (defScope (top 35)) .none kV_18 dc_18 pm_18 an_18 cd_18 ct_18,a_19:=f_19,f_19:=PySem.W.fnOf "_law_answers" "_law_answers" (defArgs (top 36)) (defBody (top 36)) (defScope (top 36)) .none kV_19 dc_19 pm_19 an_19 cd_19 ct_19,a_20:=f_20,f_20:=PySem.W.fnOf "_law_same_leaves" "_law_same_leaves" (defArgs (top 37)) (defBody (top 37)) (defScope (top 37)) .none kV_20 dc_20 pm_20 an_20 cd_20 ct_20,a_21:=f_21,f_21:=PySem.W.fnOf "_law_over" "_law_over" (defArgs (top 38)) (defBody (top 38)) (defScope (top 38)) .none kV_21 dc_21 pm_21 an_21 cd_21 ct_21,a_22:=f_22,f_22:=PySem.W.fnOf "_law_turned" "_law_turned" (defArgs (top 39)) (defBody (top 39)) (defScope (top 39)) .none kV_22 dc_22 pm_22 an_22 cd_22 ct_22,a_23:=f_23,f_23:=PySem.W.fnOf "_law_with_bare" "_law_with_bare" (defArgs (top 40)) (defBody (top 40)) (defScope (top 40)) .none kV_23 dc_23 pm_23 an_23 cd_23 ct_23,a_24:=f_24,f_24:=PySem.W.fnOf "_law_pieces_right" "_law_pieces_right" (defArgs (top 41)) (defBody (top 41)) (defScope (top 41)) .none kV_24 dc_24 pm_24 an_24 cd_24 ct_24,a_25:=f_25,f_25:=PySem.W.fnOf "_law_unlike_right" "_law_unlike_right" (defArgs (top 42)) (defBody (top 42)) (defScope (top 42)) .none kV_25 dc_25 pm_25 an_25 cd_25 ct_25,a_26:=f_26,f_26:=PySem.W.fnOf "_law_rules_right" "_law_rules_right" (defArgs (top 43)) (defBody (top 43)) (defScope (top 43)) .none kV_26 dc_26 pm_26 an_26 cd_26 ct_26,a_27:=f_27,f_27:=PySem.W.fnOf "_law_beside_itself" "_law_beside_itself" (defArgs (top 44)) (defBody (top 44)) (defScope (top 44)) .none kV_27 dc_27 pm_27 an_27 cd_27 ct_27,a_law:=fa,f_law:=PySem.W.fnOf "law" "law" (defArgs (top 45)) (defBody (top 45)) (defScope (top 45)) .none kV_law dc_law pm_law an_law cd_law ct_law,t_MOST_RULES:=t_MOST_RULES,t_MOST_PAIRS:=t_MOST_PAIRS,c_JudgeError:=C_JudgeError,c_TooMany:=C_TooMany,c_NoPlace:=C_NoPlace,c_NoRow:=C_NoRow,c_NoSuch:=C_NoSuch,c_NoLine:=C_NoLine,c_NoText:=C_NoText,c_NoRule:=C_NoRule }:={ m_0:=PySem.W.mg_of X G a_0,k_0:=k_0,F_0:=F_0,d_0:=b_0,m_1:=PySem.W.mg_of X G a_1,k_1:=k_1,F_1:=F_1,d_1:=b_1,m_2:=PySem.W.mg_of X G a_2,k_2:=k_2,F_2:=F_2,d_2:=b_2,m_3:=PySem.W.mg_of X G a_3,k_3:=k_3,F_3:=F_3,d_3:=b_3,m_4:=PySem.W.mg_of X G a_4,k_4:=k_4,F_4:=F_4,d_4:=b_4,m_5:=PySem.W.mg_of X G a_5,k_5:=k_5,F_5:=F_5,d_5:=b_5,m_6:=PySem.W.mg_of X G a_6,k_6:=k_6,F_6:=F_6,d_6:=b_6,m_7:=PySem.W.mg_of X G a_7,k_7:=k_7,F_7:=F_7,d_7:=b_7,m_8:=PySem.W.mg_of X G a_8,k_8:=k_8,F_8:=F_8,d_8:=b_8,m_9:=PySem.W.mg_of X G a_9,k_9:=k_9,F_9:=F_9,d_9:=b_9,m_10:=PySem.W.mg_of X G a_10,k_10:=k_10,F_10:=F_10,d_10:=b_10,m_11:=PySem.W.mg_of X G a_11,k_11:=k_11,F_11:=F_11,d_11:=b_11,m_12:=PySem.W.mg_of X G a_12,k_12:=k_12,F_12:=F_12,d_12:=b_12,m_13:=PySem.W.mg_of X G a_13,k_13:=k_13,F_13:=F_13,d_13:=b_13,m_14:=PySem.W.mg_of X G a_14,k_14:=k_14,F_14:=F_14,d_14:=b_14,m_15:=PySem.W.mg_of X G a_15,k_15:=k_15,F_15:=F_15,d_15:=b_15,m_16:=PySem.W.mg_of X G a_16,k_16:=k_16,F_16:=F_16,d_16:=b_16,m_17:=PySem.W.mg_of X G a_17,k_17:=k_17,F_17:=F_17,d_17:=b_17,m_18:=PySem.W.mg_of X G a_18,k_18:=k_18,F_18:=F_18,d_18:=b_18,m_19:=PySem.W.mg_of X G a_19,k_19:=k_19,F_19:=F_19,d_19:=b_19,m_20:=PySem.W.mg_of X G a_20,k_20:=k_20,F_20:=F_20,d_20:=b_20,m_21:=PySem.W.mg_of X G a_21,k_21:=k_21,F_21:=F_21,d_21:=b_21,m_22:=PySem.W.mg_of X G a_22,k_22:=k_22,F_22:=F_22,d_22:=b_22,m_23:=PySem.W.mg_of X G a_23,k_23:=k_23,F_23:=F_23,d_23:=b_23,m_24:=PySem.W.mg_of X G a_24,k_24:=k_24,F_24:=F_24,d_24:=b_24,m_25:=PySem.W.mg_of X G a_25,k_25:=k_25,F_25:=F_25,d_25:=b_25,m_26:=PySem.W.mg_of X G a_26,k_26:=k_26,F_26:=F_26,d_26:=b_26,m_27:=PySem.W.mg_of X G a_27,k_27:=k_27,F_27:=F_27,d_27:=b_27,m_law:=PySem.W.mg_of X G a_law,k_law:=k_law,F_law:=F_law,d_law:=b_law,c_MOST_RULES:=PySem.W.mg_of X G e_MOST_RULES,c_MOST_PAIRS:=PySem.W.mg_of X G e_MOST_PAIRS,x_JudgeError:=PySem.W.mg_of X G ax_JudgeError,x_TooMany:=PySem.W.mg_of X G ax_TooMany,x_NoPlace:=PySem.W.mg_of X G ax_NoPlace,x_NoRow:=PySem.W.mg_of X G ax_NoRow,x_NoSuch:=PySem.W.mg_of X G ax_NoSuch,x_NoLine:=PySem.W.mg_of X G ax_NoLine,x_NoText:=PySem.W.mg_of X G ax_NoText,x_NoRule:=PySem.W.mg_of X G ax_NoRule,X_TooMany:=⟨⟨f__getattribute___TooMany,f__getattr___TooMany,f__class___TooMany,m_object_TooMany,m_BaseException_TooMany⟩,fun T hT=>by simp only [List.mem_cons,List.not_mem_nil,or_false] at hT; (rcases hT with rfl | rfl | rfl | rfl | rfl <;> first | exact kit_ty km_int y_int_TooMany | exact kit_ty km_str y_str_TooMany | exact kit_ty km_list y_list_TooMany | exact kit_ty km_tuple y_tuple_TooMany | exact kit_ty km_bool y_bool_TooMany)⟩,R_TooMany:=⟨_,_,_,_,_,_,_,_,_,_,_,_,_,_,_,_,_,_,_,_,l_TooMany,nsOk_of ln_TooMany R_TooMany,n2_TooMany,l_J,nsOk_of ln_J R_J,n2_J⟩,j_TooMany:=exm_own ic_JudgeError it_JudgeError mb_J j_TooMany,e_TooMany:=exm_own ic_TooMany it_TooMany m_BaseException_TooMany is_TooMany,v_TooMany:=kit_ty km_ValueError m_ValueError_TooMany,q_TooMany_TooMany:=kit_self,q_TooMany_NoPlace:=kit_no ic_NoPlace it_NoPlace q_TooMany_NoPlace is_NoPlace,q_TooMany_NoRow:=kit_no ic_NoRow it_NoRow q_TooMany_NoRow is_NoRow,q_TooMany_NoSuch:=kit_no ic_NoSuch it_NoSuch q_TooMany_NoSuch is_NoSuch,q_TooMany_NoLine:=kit_no ic_NoLine it_NoLine q_TooMany_NoLine is_NoLine,q_TooMany_NoText:=kit_no ic_NoText it_NoText q_TooMany_NoText is_NoText,q_TooMany_NoRule:=kit_no ic_NoRule it_NoRule q_TooMany_NoRule is_NoRule,b_ValueError:=PySem.W.mg_none_of X G z_ValueError,b_all:=PySem.W.mg_none_of X G z_all,b_int:=PySem.W.mg_none_of X G z_int,b_isinstance:=PySem.W.mg_none_of X G z_isinstance,b_len:=PySem.W.mg_none_of X G z_len,b_list:=PySem.W.mg_none_of X G z_list,b_max:=PySem.W.mg_none_of X G z_max,b_min:=PySem.W.mg_none_of X G z_min,b_range:=PySem.W.mg_none_of X G z_range,b_set:=PySem.W.mg_none_of X G z_set,b_tuple:=PySem.W.mg_none_of X G z_tuple,b_zip:=PySem.W.mg_none_of X G z_zip }
  refine ⟨PySem.W.fnOf "law" "law" (defArgs (top 45)) (defBody (top 45)) (defScope (top 45)) .none kV_law dc_law pm_law an_law cd_law ct_law,fun s v=>.of_eq rfl,fun base _ _=>?_⟩
  have O_19:=ok_19 (P:=l.prog) (w:=w) (base:=base) T
  have O_12:=ok_12 (P:=l.prog) (w:=w) (base:=base) T
  have O_17:=ok_17 (P:=l.prog) (w:=w) (base:=base) T (F_12:=O_12)
  have O_15:=ok_15 (P:=l.prog) (w:=w) (base:=base) T
  have O_16:=ok_16 (P:=l.prog) (w:=w) (base:=base) T (F_15:=O_15)
  have O_14:=ok_14 (P:=l.prog) (w:=w) (base:=base) T
  have O_24:=ok_24 (P:=l.prog) (w:=w) (base:=base) T (F_16:=O_16) (F_14:=O_14)
  have O_3:=ok_3 (P:=l.prog) (w:=w) (base:=base) T
  have O_2:=ok_2 (P:=l.prog) (w:=w) (base:=base) T (F_3:=O_3)
  have O_1:=ok_1 (P:=l.prog) (w:=w) (base:=base) T
  have O_4:=ok_4 (P:=l.prog) (w:=w) (base:=base) T
  have O_8:=ok_8 (P:=l.prog) (w:=w) (base:=base) T
  have O_7:=ok_7 (P:=l.prog) (w:=w) (base:=base) T (F_2:=O_2) (F_1:=O_1) (F_4:=O_4) (F_8:=O_8)
  have O_0:=ok_0 (P:=l.prog) (w:=w) (base:=base) T
  have O_6:=ok_6 (P:=l.prog) (w:=w) (base:=base) T (F_0:=O_0)
  have O_5:=ok_5 (P:=l.prog) (w:=w) (base:=base) T (F_7:=O_7) (F_6:=O_6)
  have O_26:=ok_26 (P:=l.prog) (w:=w) (base:=base) T (F_19:=O_19) (F_24:=O_24) (F_16:=O_16) (F_5:=O_5)
  have O_10:=ok_10 (P:=l.prog) (w:=w) (base:=base) T (F_7:=O_7) (F_6:=O_6)
  have O_9:=ok_9 (P:=l.prog) (w:=w) (base:=base) T (F_10:=O_10)
  have OX_9:=okX_9 (P:=l.prog) (w:=w) (base:=base) T (F_10:=O_10)
  have O_18:=ok_18 (P:=l.prog) (w:=w) (base:=base) T (F_9:=O_9) (X_9:=OX_9)
  have O_22:=ok_22 (P:=l.prog) (w:=w) (base:=base) T (F_12:=O_12)
  have O_25:=ok_25 (P:=l.prog) (w:=w) (base:=base) T (F_16:=O_16) (F_14:=O_14)
  have O_23:=ok_23 (P:=l.prog) (w:=w) (base:=base) T (F_17:=O_17) (F_14:=O_14)
  have O_27:=ok_27 (P:=l.prog) (w:=w) (base:=base) T (F_12:=O_12) (F_17:=O_17) (F_24:=O_24) (F_26:=O_26) (F_18:=O_18) (F_22:=O_22) (F_25:=O_25) (F_14:=O_14) (F_23:=O_23)
  have O_13:=ok_13 (P:=l.prog) (w:=w) (base:=base) T (F_12:=O_12)
  have O_20:=ok_20 (P:=l.prog) (w:=w) (base:=base) T
  have O_21:=ok_21 (P:=l.prog) (w:=w) (base:=base) T (F_17:=O_17) (F_20:=O_20)
  have O_11:=ok_11 (P:=l.prog) (w:=w) (base:=base) T
  have O_law:=ok_law (P:=l.prog) (w:=w) (base:=base) T (F_19:=O_19) (F_27:=O_27) (F_12:=O_12) (F_13:=O_13) (F_21:=O_21) (F_11:=O_11) (F_18:=O_18) (F_25:=O_25) (F_14:=O_14)
  exact O_law
theorem mask_nil {H:Hp}:Same H (mask H []):=fun b o e=>by
  unfold mask
  rw [if_neg (by simp)]
  exact e
theorem ints_reps {K:PySem.W.Frag} {H:Hp}:∀ ns:List Int,Reps K H (ns.map PyData.int) (ns.map V.int)
  | []=>.nil
  | n::ns=>.cons (.int n) (ints_reps ns)
theorem walk {l:PySem.W.OpenLaw} {q:Program} {loose:List Str} {XP:(Str→Option Value)→Heap→Prop} {YP:World→Heap→Prop} {d:DefRec} {K:Params→PySem.W.Frag} (hn:l.most=some 63) (hdf:d.params.defaults=[])
    (hY:∀ (w:World) (h:Heap),YP w h→(K w.params).In h)
    (F:∀ (w:World) (mg:Str→Option Value) (fa:Addr) (h:Heap),(K w.params).In h→h.Ns mainGlobals mg→mg d.name=some (.ref fa) →
      ∃ fd:FuncData,(∀ (s:Shared) (u:Value),BindsTo s fd ⟨[u],[]⟩ [("_law_script",u)])∧∀ base:Heap,(K w.params).In base→base.Ns mainGlobals mg→FnOk l.prog w (K w.params) mg base CX0 38 fa fd ["_law_script"] (liftSp (K w.params) sp_law)) :
    PySem.W.WalkO q loose XP YP l.row.toRowW d [] (fun f vs=>PySem.call f vs) :=
  L2.walk_of (n:=63) (k:=38) (x:="_law_script") (CX:=fun _=>CX0) (sp:=fun w=>liftSp (K w.params) sp_law) hn (by decide) hdf ⟨rfl,by decide,by decide,rfl⟩ hY F
    (fun w H a ns hl _ hS=>⟨[],[.list (ns.map PyData.int)],fun d=>d=.bool true,fun p hp=>by simp at hp,.cons (.list (L2.Same.seq mask_nil hS) (ints_reps ns)) .nil,⟨ns,rfl,hl,rfl⟩,fun d v H' _ r q=>by subst q; cases r; rfl⟩) fun _ _ _ _ _ z=>z
end
end K66
def PySem.W.Fast.tw8208840907889811699:Nat:=0
def PySem.W.Fast.tw18270324032234092590:Nat:=0
def PySem.W.Fast.tw4053203905766577422:Nat:=0
open PySem PySem.W PyProof.Rows
set_option maxRecDepth 100000 in
set_option maxHeartbeats 0 in
theorem PySem.Challenge.cw_leafjudge_k66_too_many_pairs_holds : PySem.Challenge.rw_leafjudge_k66_too_many_pairs.Holds := by
  w_on; o_law; k_head; (case hw => w_witness2)
  k_fill
  refine K66.walk (l := PySem.Challenge.rw_leafjudge_k66_too_many_pairs) rfl rfl (fun w h Y => PySem.W.kIn_of Y) ?F
  case F =>
    intro w mg fa h KX G hmg
    refine' K66.all_mk KX G hmg ?a_0 ?l_0 ?c_0 ?k_0 ?a_1 ?l_1 ?c_1 ?k_1 ?a_2 ?l_2 ?c_2 ?k_2 ?a_3 ?l_3 ?c_3 ?k_3 ?a_4 ?l_4 ?c_4 ?k_4 ?a_5 ?l_5 ?c_5 ?k_5 ?a_6 ?l_6 ?c_6 ?k_6 ?a_7 ?l_7 ?c_7 ?k_7 ?a_8 ?l_8 ?c_8 ?k_8 ?a_9 ?l_9 ?c_9 ?k_9 ?a_10 ?l_10 ?c_10 ?k_10 ?a_11 ?l_11 ?c_11 ?k_11 ?a_12 ?l_12 ?c_12 ?k_12 ?a_13 ?l_13 ?c_13 ?k_13 ?a_14 ?l_14 ?c_14 ?k_14 ?a_15 ?l_15 ?c_15 ?k_15 ?a_16 ?l_16 ?c_16 ?k_16 ?a_17 ?l_17 ?c_17 ?k_17 ?a_18 ?l_18 ?c_18 ?k_18 ?a_19 ?l_19 ?c_19 ?k_19 ?a_20 ?l_20 ?c_20 ?k_20 ?a_21 ?l_21 ?c_21 ?k_21 ?a_22 ?l_22 ?c_22 ?k_22 ?a_23 ?l_23 ?c_23 ?k_23 ?a_24 ?l_24 ?c_24 ?k_24 ?a_25 ?l_25 ?c_25 ?k_25 ?a_26 ?l_26 ?c_26 ?k_26 ?a_27 ?l_27 ?c_27 ?k_27 ?a_law ?l_law ?c_law ?k_law ?e_MOST_RULES ?e_MOST_PAIRS ?ax_JudgeError ?ax_TooMany ?ax_NoPlace ?ax_NoRow ?ax_NoSuch ?ax_NoLine ?ax_NoText ?ax_NoRule ?l_J ?ln_J ?R_J ?n2_J ?mb_J ?ic_JudgeError ?it_JudgeError ?is_JudgeError ?ic_TooMany ?it_TooMany ?is_TooMany ?ic_NoPlace ?it_NoPlace ?is_NoPlace ?ic_NoRow ?it_NoRow ?is_NoRow ?ic_NoSuch ?it_NoSuch ?is_NoSuch ?ic_NoLine ?it_NoLine ?is_NoLine ?ic_NoText ?it_NoText ?is_NoText ?ic_NoRule ?it_NoRule ?is_NoRule ?l_TooMany ?ln_TooMany ?R_TooMany ?n2_TooMany ?f__getattribute___TooMany ?f__getattr___TooMany ?f__class___TooMany ?m_object_TooMany ?m_BaseException_TooMany ?m_ValueError_TooMany ?y_int_TooMany ?y_str_TooMany ?y_list_TooMany ?y_tuple_TooMany ?y_bool_TooMany ?j_TooMany ?q_TooMany_NoPlace ?q_TooMany_NoRow ?q_TooMany_NoSuch ?q_TooMany_NoLine ?q_TooMany_NoText ?q_TooMany_NoRule ?z_ValueError ?z_all ?z_int ?z_isinstance ?z_len ?z_list ?z_max ?z_min ?z_range ?z_set ?z_tuple ?z_zip
    (case a_0 => k_is)
    (case l_0 => k_is)
    (case c_0 => k_is)
    (case k_0 => k_is)
    (case a_1 => k_is)
    (case l_1 => k_is)
    (case c_1 => k_is)
    (case k_1 => k_is)
    (case a_2 => k_is)
    (case l_2 => k_is)
    (case c_2 => k_is)
    (case k_2 => k_is)
    (case a_3 => k_is)
    (case l_3 => k_is)
    (case c_3 => k_is)
    (case k_3 => k_is)
    (case a_4 => k_is)
    (case l_4 => k_is)
    (case c_4 => k_is)
    (case k_4 => k_is)
    (case a_5 => k_is)
    (case l_5 => k_is)
    (case c_5 => k_is)
    (case k_5 => k_is)
    (case a_6 => k_is)
    (case l_6 => k_is)
    (case c_6 => k_is)
    (case k_6 => k_is)
    (case a_7 => k_is)
    (case l_7 => k_is)
    (case c_7 => k_is)
    (case k_7 => k_is)
    (case a_8 => k_is)
    (case l_8 => k_is)
    (case c_8 => k_is)
    (case k_8 => k_is)
    (case a_9 => k_is)
    (case l_9 => k_is)
    (case c_9 => k_is)
    (case k_9 => k_is)
    (case a_10 => k_is)
    (case l_10 => k_is)
    (case c_10 => k_is)
    (case k_10 => k_is)
    (case a_11 => k_is)
    (case l_11 => k_is)
    (case c_11 => k_is)
    (case k_11 => k_is)
    (case a_12 => k_is)
    (case l_12 => k_is)
    (case c_12 => k_is)
    (case k_12 => k_is)
    (case a_13 => k_is)
    (case l_13 => k_is)
    (case c_13 => k_is)
    (case k_13 => k_is)
    (case a_14 => k_is)
    (case l_14 => k_is)
    (case c_14 => k_is)
    (case k_14 => k_is)
    (case a_15 => k_is)
    (case l_15 => k_is)
    (case c_15 => k_is)
    (case k_15 => k_is)
    (case a_16 => k_is)
    (case l_16 => k_is)
    (case c_16 => k_is)
    (case k_16 => k_is)
    (case a_17 => k_is)
    (case l_17 => k_is)
    (case c_17 => k_is)
    (case k_17 => k_is)
    (case a_18 => k_is)
    (case l_18 => k_is)
    (case c_18 => k_is)
    (case k_18 => k_is)
    (case a_19 => k_is)
    (case l_19 => k_is)
    (case c_19 => k_is)
    (case k_19 => k_is)
    (case a_20 => k_is)
    (case l_20 => k_is)
    (case c_20 => k_is)
    (case k_20 => k_is)
    (case a_21 => k_is)
    (case l_21 => k_is)
    (case c_21 => k_is)
    (case k_21 => k_is)
    (case a_22 => k_is)
    (case l_22 => k_is)
    (case c_22 => k_is)
    (case k_22 => k_is)
    (case a_23 => k_is)
    (case l_23 => k_is)
    (case c_23 => k_is)
    (case k_23 => k_is)
    (case a_24 => k_is)
    (case l_24 => k_is)
    (case c_24 => k_is)
    (case k_24 => k_is)
    (case a_25 => k_is)
    (case l_25 => k_is)
    (case c_25 => k_is)
    (case k_25 => k_is)
    (case a_26 => k_is)
    (case l_26 => k_is)
    (case c_26 => k_is)
    (case k_26 => k_is)
    (case a_27 => k_is)
    (case l_27 => k_is)
    (case c_27 => k_is)
    (case k_27 => k_is)
    (case a_law => k_is)
    (case l_law => k_is)
    (case c_law => k_is)
    (case k_law => k_is)
    (case e_MOST_RULES => k_is)
    (case e_MOST_PAIRS => k_is)
    (case ax_JudgeError => k_is)
    (case ax_TooMany => k_is)
    (case ax_NoPlace => k_is)
    (case ax_NoRow => k_is)
    (case ax_NoSuch => k_is)
    (case ax_NoLine => k_is)
    (case ax_NoText => k_is)
    (case ax_NoRule => k_is)
    (case l_J => k_is)
    (case ln_J => k_is)
    (case R_J => first | rfl | decide | with_unfolding_all rfl)
    (case n2_J => k_is)
    (case mb_J => k_is)
    (case ic_JudgeError => k_is)
    (case it_JudgeError => k_is)
    (case is_JudgeError => k_is)
    (case ic_TooMany => k_is)
    (case it_TooMany => k_is)
    (case is_TooMany => k_is)
    (case ic_NoPlace => k_is)
    (case it_NoPlace => k_is)
    (case is_NoPlace => k_is)
    (case ic_NoRow => k_is)
    (case it_NoRow => k_is)
    (case is_NoRow => k_is)
    (case ic_NoSuch => k_is)
    (case it_NoSuch => k_is)
    (case is_NoSuch => k_is)
    (case ic_NoLine => k_is)
    (case it_NoLine => k_is)
    (case is_NoLine => k_is)
    (case ic_NoText => k_is)
    (case it_NoText => k_is)
    (case is_NoText => k_is)
    (case ic_NoRule => k_is)
    (case it_NoRule => k_is)
    (case is_NoRule => k_is)
    (case l_TooMany => k_is)
    (case ln_TooMany => k_is)
    (case R_TooMany => first | rfl | decide | with_unfolding_all rfl)
    (case n2_TooMany => k_is)
    (case f__getattribute___TooMany => k_is)
    (case f__getattr___TooMany => k_is)
    (case f__class___TooMany => k_is)
    (case m_object_TooMany => k_is)
    (case m_BaseException_TooMany => k_is)
    (case m_ValueError_TooMany => k_is)
    (case y_int_TooMany => k_is)
    (case y_str_TooMany => k_is)
    (case y_list_TooMany => k_is)
    (case y_tuple_TooMany => k_is)
    (case y_bool_TooMany => k_is)
    (case j_TooMany => k_is)
    (case q_TooMany_NoPlace => k_is)
    (case q_TooMany_NoRow => k_is)
    (case q_TooMany_NoSuch => k_is)
    (case q_TooMany_NoLine => k_is)
    (case q_TooMany_NoText => k_is)
    (case q_TooMany_NoRule => k_is)
    (case z_ValueError => k_is)
    (case z_all => k_is)
    (case z_int => k_is)
    (case z_isinstance => k_is)
    (case z_len => k_is)
    (case z_list => k_is)
    (case z_max => k_is)
    (case z_min => k_is)
    (case z_range => k_is)
    (case z_set => k_is)
    (case z_tuple => k_is)
    (case z_zip => k_is)
