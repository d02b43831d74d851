import PyProof.Rows.All
import Wide.All
import OpenK.AllK
import Wide.FinOn
import Lean
import PyProof.EqAt
import PyProof.EqKinds
import PyProof.TupleCall
import PyProof.P3In
import PyProof.NeData
import PyProof.TupleKey
import PyProof.DictRoadsH
import KE.KItemsList
import PyProof.DictWalks
import KE.KDictList
import PyProof.Rows.Range3
import KE.KListMore
import KE.KRevIter
import KE.KPairComp
import PyProof.TupleOfSeq
import PySem.Challenge.RW_leafjudge_k35_least_of_all_gone_through
set_option Elab.async false
set_option linter.all false
set_option maxRecDepth 100000
namespace L2
open PySem PySem.Spec PyProof.Rows

abbrev Key:=Sum Int Str
def keyIs:Key→Value→Bool
  | .inl k,v=>Value.isInt k v
  | .inr x,v=>Value.isStrOf x v
def keyH (w:World):Key→Int
  | .inl k=>hashInt k
  | .inr x=>hashStr w x
theorem keyIs_shape:∀ {k:Key} {v:Value},keyIs k v=true→(∃ i t,k=Sum.inl i∧v=Value.int i t) ∨ (∃ x t,k=Sum.inr x∧v=Value.str x t)
  | .inl i,v,h=>by
    obtain ⟨t,e⟩:=Value.isInt_shape (k:=i) (v:=v) h
    exact .inl ⟨i,t,rfl,e⟩
  | .inr x,v,h=>by
    obtain ⟨t,e⟩:=Value.isStrOf_shape (x:=x) (v:=v) h
    exact .inr ⟨x,t,rfl,e⟩
theorem keyIs_int (i:Int) (t:Tok):keyIs (.inl i) (.int i t)=true:=by simp [keyIs,Value.isInt]
theorem keyIs_str (x:Str) (t:Tok):keyIs (.inr x) (.str x t)=true:=by simp [keyIs,Value.isStrOf]
theorem key_ll (a b:Int):decide ((Sum.inl a:Key)=Sum.inl b)=(a == b):=by
  by_cases e:a=b
  · subst e; simp
  · have h:¬ (Sum.inl a:Key)=Sum.inl b:=fun q=>e (Sum.inl.inj q)
    rw [decide_eq_false h]
    exact (beq_eq_false_iff_ne.mpr e).symm
theorem key_rr (a b:Str):decide ((Sum.inr a:Key)=Sum.inr b)=decide (a=b):=by
  by_cases e:a=b
  · subst e; simp
  · have h:¬ (Sum.inr a:Key)=Sum.inr b:=fun q=>e (Sum.inr.inj q)
    rw [decide_eq_false h,decide_eq_false e]
theorem key_lr (a:Int) (b:Str):decide ((Sum.inl a:Key)=Sum.inr b)=false:=decide_eq_false (fun q=>nomatch q)
theorem key_rl (a:Str) (b:Int):decide ((Sum.inr a:Key)=Sum.inl b)=false:=decide_eq_false (fun q=>nomatch q)

def mixKind (prog:Program) (w:World):PySem.KeyKind prog w Key where
  is:=keyIs
  hash:=keyH w
  inj:=fun v a b ha hb=>by
    rcases keyIs_shape ha with ⟨i,t,rfl,rfl⟩ | ⟨x,t,rfl,rfl⟩
    · rcases keyIs_shape hb with ⟨j,u,rfl,e⟩ | ⟨y,u,rfl,e⟩
      · injection e with e1 _; rw [e1]
      · exact nomatch e
    · rcases keyIs_shape hb with ⟨j,u,rfl,e⟩ | ⟨y,u,rfl,e⟩
      · exact nomatch e
      · injection e with e1 _; rw [e1]
  byValue:=fun k v h=>by
    rcases keyIs_shape h with ⟨i,t,rfl,rfl⟩ | ⟨x,t,rfl,rfl⟩ <;> rfl
  pyHash:=fun hv h=>by
    rcases keyIs_shape hv with ⟨i,t,rfl,rfl⟩ | ⟨x,t,rfl,rfl⟩
    · exact wpAny_pyHash_int h
    · exact wpAny_pyHash_str h
  eqBool:=fun hu hv h=>by
    rcases keyIs_shape hu with ⟨i,t,rfl,rfl⟩ | ⟨x,t,rfl,rfl⟩
    · rcases keyIs_shape hv with ⟨j,u,rfl,rfl⟩ | ⟨y,u,rfl,rfl⟩
      · rw [key_ll] at h; exact wpAny_eqBool_int h
      · rw [key_lr] at h; exact SeqAt.EqAt.int_str i t y u _ _ _ _ h
    · rcases keyIs_shape hv with ⟨j,u,rfl,rfl⟩ | ⟨y,u,rfl,rfl⟩
      · rw [key_rl] at h; exact SeqAt.EqAt.str_int x t j u _ _ _ _ h
      · rw [key_rr] at h; exact wpAny_eqBool_str h
  «strs»:=fun k x t v h=>by
    rcases keyIs_shape h with ⟨i,u,rfl,e⟩ | ⟨y,u,rfl,e⟩
    · exact nomatch e
    · injection e with e1 _
      subst e1
      cases v <;> rfl

theorem mixKind_int (prog:Program) (w:World) (i:Int) (t:Tok):(mixKind prog w).is (.inl i) (.int i t)=true:=keyIs_int i t
theorem mixKind_str (prog:Program) (w:World) (x:Str) (t:Tok):(mixKind prog w).is (.inr x) (.str x t)=true:=keyIs_str x t
end L2

namespace L2
open PySem PySem.Spec PyProof.Rows

inductive V where
  | non | bl (b:Bool) | int (i:Int) | str (x:Str) | byt (b:Array UInt8) | flt (b:UInt64) | ref (a:Addr) | ty (n:String)
  deriving DecidableEq

def RelV:V→Value→Prop
  | .non,u=>u=Value.none
  | .bl b,u=>u=Value.bool b
  | .int i,u=>∃ t,u=Value.int i t
  | .str x,u=>∃ t,u=Value.str x t
  | .byt b,u=>∃ t,u=Value.bytes b t
  | .flt b,u=>∃ t,u=Value.float b t
  | .ref a,u=>u=Value.ref a
  | .ty n,u=>u=Value.type n

abbrev Vals:List V→List Value→Prop:=Paired RelV
theorem Vals.length {xs:List V} {us:List Value} (r:Vals xs us):xs.length=us.length:=Paired.length r
theorem Vals.get:∀ {xs:List V} {us:List Value} {i:Nat} {x:V},Vals xs us→xs[i]?=some x→∃ u,us[i]?=some u∧RelV x u
  | _,_,_,_,.nil,e=>by simp at e
  | _,_,0,_,.cons r _,e=>by simp at e; subst e; exact ⟨_,rfl,r⟩
  | _,_,i + 1,x,.cons _ t,e=>by
    obtain ⟨u,h1,h2⟩:=Vals.get (i:=i) (x:=x) t (by simpa using e)
    exact ⟨u,by simpa using h1,h2⟩
theorem Vals.set {x:V} {u:Value} (r:RelV x u):∀ {xs:List V} {us:List Value} (i:Nat),Vals xs us→Vals (xs.set i x) (us.set i u)
  | _,_,_,.nil=>.nil
  | _,_,0,.cons _ t=>.cons r t
  | _,_,i + 1,.cons q t=>.cons q (Vals.set r i t)
theorem Vals.append:∀ {xs ys:List V} {us ws:List Value},Vals xs us→Vals ys ws→Vals (xs++ys) (us++ws)
  | _,_,_,_,.nil,s=>s
  | _,_,_,_,.cons r t,s=>.cons r (Vals.append t s)
theorem Vals.take:∀ {xs:List V} {us:List Value} (n:Nat),Vals xs us→Vals (xs.take n) (us.take n)
  | _,_,0,_=>.nil
  | _,_,_ + 1,.nil=>.nil
  | _,_,n + 1,.cons r t=>.cons r (Vals.take n t)
theorem Vals.drop:∀ {xs:List V} {us:List Value} (n:Nat),Vals xs us→Vals (xs.drop n) (us.drop n)
  | _,_,0,r=>r
  | _,_,_ + 1,.nil=>.nil
  | _,_,n + 1,.cons _ t=>Vals.drop n t
theorem Vals.none_of:∀ {xs:List V} {us:List Value} {i:Nat},Vals xs us→xs[i]?=none→us[i]?=none:=fun {xs us i} r e=>by
  have h1:=r.length
  have h2:xs.length≤i:=List.getElem?_eq_none_iff.mp e
  exact List.getElem?_eq_none_iff.mpr (by omega)

def RelO:Option V→Option Value→Prop
  | some v,some u=>RelV v u
  | none,none=>True
  | _,_=>False
def KV {κ:Type}:List (κ × V)→List (κ × Value)→Prop:=Paired fun (p:κ × V) (q:κ × Value)=>p.1=q.1∧RelV p.2 q.2

def kV:Key→V
  | .inl i=>.int i
  | .inr x=>.str x

inductive HO where
  /-- a list -/
  | lst (xs:List V)
  /-- a tuple (never changes) -/
  | tup (xs:List V)
  /-- a dict whose keys are ints and texts; one whose keys are tuples of ints and texts (the empty one is both) -/
  | dK (kvs:List (Key × V)) | dT (kvs:List (List Key × V))
  /-- a set of ints: its members,its size -/
  | set (S:Int→Bool) (n:Nat)
  /-- an instance of the class at C,its dict at dx,its attributes -/
  | ins (C dx:Addr) (fs:List (Str × V))
  /-- the dict of the instance at x -/
  | own (x:Addr)
  /-- the dict of an exception -/
  | xd (fs:List (Str × V))
  /-- a bound method,f of x -/
  | met (f x:Addr)
  /-- a range object lo,lo + 1,.. below hi -/
  | rng (lo hi:Int)
  /-- a thing that is known to the object (the script; a dict while a loop walks it): read,never written while it is so -/
  | frz (o:Obj) (u:HO)
  /-- a code object's table -/
  | tbl (ps:Array Value)
  /-- any other thing,by what is true of its one object (a def of one's own: SetO a S n:=HO.ext fun h=>..) -/
  | ext (φ:Heap→Prop)

abbrev Hp:=Addr→Option HO
def upd (H:Hp) (a:Addr) (o:HO):Hp:=fun b=>if b=a then some o else H b
theorem upd_same {H:Hp} {a:Addr} {o:HO}:upd H a o a=some o:=by unfold upd; rw [if_pos rfl]
theorem upd_ne {H:Hp} {a b:Addr} {o:HO} (h:b ≠ a):upd H a o b=H b:=by unfold upd; rw [if_neg h]
theorem ne_of {H:Hp} {a b:Addr} {o u:HO} (h:H a=some o) (h':H b=some u) (d:o ≠ u):a ≠ b:=by
  intro e; subst e; rw [h] at h'; exact d (Option.some.inj h')
theorem ne_of_none {H:Hp} {a b:Addr} {o:HO} (h:H a=some o) (h':H b=none):a ≠ b:=by
  intro e; subst e; rw [h] at h'; cases h'

section
variable (P:Program) (w:World)
def TupN (h:Heap) (a:Addr) (items:Array Value):Prop:=∃ o,h.get? a=some o∧o.cls=.type "tuple"∧∃ n,o.data=.seq items n∧o.dict=none
theorem TupN.tup {h:Heap} {a:Addr} {items:Array Value} (x:TupN h a items):IsTup h a items:=let ⟨o,e,c,n,d,_⟩:=x; ⟨o,e,c,n,d⟩
theorem TupN.lt {h:Heap} {a:Addr} {items:Array Value} (x:TupN h a items):a < h.objs.size:=x.tup.lt
theorem TupN.new (h:Heap) (items:Array Value):TupN (h.push { cls:=.type "tuple",data:=.seq items }) h.objs.size items:=⟨_,Heap.get?_push_size _ rfl,rfl,_,rfl,rfl⟩
def ObjOk (H:Hp) (h:Heap) (a:Addr):HO→Prop
  | .lst xs=>xs.length≤sizeLine∧∃ (its:List Value) (n:Nat),Vals xs its∧h.get? a=some { cls:=.type "list",data:=.seq its.toArray n }
  | .tup xs=>xs.length≤sizeLine∧∃ its:List Value,Vals xs its∧TupN h a its.toArray
  | .dK kvs=>kvs.length≤sizeLine∧(a == sysModules)=false∧∃ vs,KV kvs vs∧h.DictOf (mixKind P w) a vs
  | .dT kvs=>kvs.length≤sizeLine∧(a == sysModules)=false∧∃ xs:List (List Key × Addr × Value),
      Paired (fun (p:List Key × V) (q:List Key × Addr × Value)=>p.1=q.1∧H q.2.1=some (.tup (p.1.map kV))∧RelV p.2 q.2.2) kvs xs ∧
      ∃ o es ep,h.get? a=some o∧o.ExactDict∧o.data=.dict es ep∧es.toList=xs.map (entryOfKey (tupleKind (mixKind P w)))∧(xs.map (·.1)).Nodup
  | .set S n=>h.SetOf (intKind P w) a S n
  | .ins C dx fs=>H dx=some (.own a)∧fs.length≤1000∧dx ≠ a∧h.get? a=some (PySem.W.instObj C dx) ∧
      ∃ mA,h.Ns1 dx mA∧(∀ f,RelO (fs.lookup f) (mA f))∧PySem.Within mA (fs.map (·.1))
  | .own _=>∃ o,h.get? a=some o
  | .xd fs=>∃ mA,h.Ns1 a mA∧∀ f,RelO (fs.lookup f) (mA f)
  | .rng lo hi=>∃ t u v,h.get? a=some { cls:=.type "range",data:=.fields #[.int lo t,.int hi u,.int 1 v] }
  | .frz o u=>h.get? a=some o∧ObjOk H h a u
  | .tbl ps=>h.get? a=some { cls:=.none,data:=.fields ps }
  | .met f x=>h.get? a=some (PySem.W.methodObj (.ref f) (.ref x))
  | .ext φ=>φ h∧(∃ o,h.get? a=some o)∧∀ h1 h2:Heap,φ h1→(∀ o,h1.get? a=some o→h2.get? a=some o)→φ h2
def HOk (H:Hp) (h:Heap):Prop:=∀ a o,H a=some o→ObjOk P w H h a o
end

section
variable {P:Program} {w:World} {H H':Hp} {h h':Heap} {a:Addr} {o:HO}
theorem ObjOk.lt (x:ObjOk P w H h a o):a < h.objs.size:=by
  cases o with
  | lst xs=>obtain ⟨_,_,_,_,e⟩:=x; exact Heap.lt_size e
  | tup xs=>obtain ⟨_,_,_,p⟩:=x; exact p.lt
  | dK kvs=>obtain ⟨_,_,_,_,o,_,_,e,_⟩:=x; exact Heap.lt_size e
  | dT kvs=>obtain ⟨_,_,_,_,o,_,_,e,_⟩:=x; exact Heap.lt_size e
  | set S n=>obtain ⟨o,_,_,_,e,_⟩:=x; exact Heap.lt_size e
  | ins C dx fs=>obtain ⟨_,_,_,e,_⟩:=x; exact Heap.lt_size e
  | own y=>obtain ⟨_,e⟩:=x; exact Heap.lt_size e
  | xd fs=>obtain ⟨_,⟨_,_,_,e,_⟩,_⟩:=x; exact Heap.lt_size e
  | rng lo hi=>obtain ⟨_,_,_,e⟩:=x; exact Heap.lt_size e
  | frz ob u=>obtain ⟨e,_⟩:=x; exact Heap.lt_size e
  | tbl ps=>exact Heap.lt_size (show h.get? a=some _ from x)
  | met f y=>exact Heap.lt_size (show h.get? a=some _ from x)
  | ext φ=>obtain ⟨_,⟨_,e⟩,_⟩:=x; exact Heap.lt_size e
theorem Paired.mapP {α β:Type} {F G:α→β→Prop}:∀ {l₁:List α} {l₂:List β},Paired F l₁ l₂→(∀ a b,F a b→G a b)→Paired G l₁ l₂
  | _,_,.nil,_=>.nil
  | _,_,.cons r t,f=>.cons (f _ _ r) (Paired.mapP t f)
theorem ObjOk.stay (x:ObjOk P w H h a o) (k:∀ b u,(b=a ∨ H b=some (.own a))→h.get? b=some u→h'.get? b=some u)
    (ho:∀ b,H b=some (.own a)→H' b=some (.own a)) (ht:∀ b xs,H b=some (.tup xs)→H' b=some (.tup xs)):ObjOk P w H' h' a o:=by
  induction o with
  | lst xs=>obtain ⟨z,its,n,r,e⟩:=x; exact ⟨z,its,n,r,k _ _ (.inl rfl) e⟩
  | tup xs=>obtain ⟨z,its,r,ob,e,c⟩:=x; exact ⟨z,its,r,ob,k _ _ (.inl rfl) e,c⟩
  | dK kvs=>obtain ⟨z,y,vs,r,ob,es,ep,e,c⟩:=x; exact ⟨z,y,vs,r,ob,es,ep,k _ _ (.inl rfl) e,c⟩
  | dT kvs =>
    obtain ⟨z,y,xs,r,ob,es,ep,e,c⟩:=x
    exact ⟨z,y,xs,Paired.mapP r fun p q z=>⟨z.1,ht _ _ z.2.1,z.2.2⟩,ob,es,ep,k _ _ (.inl rfl) e,c⟩
  | set S n=>obtain ⟨ob,es,ep,t,e,c⟩:=x; exact ⟨ob,es,ep,t,k _ _ (.inl rfl) e,c⟩
  | ins C dx fs =>
    obtain ⟨d,z,ne,e,mA,⟨od,es,ep,e2,c⟩,r⟩:=x
    exact ⟨ho _ d,z,ne,k _ _ (.inl rfl) e,mA,⟨od,es,ep,k _ _ (.inr d) e2,c⟩,r⟩
  | own y=>obtain ⟨ob,e⟩:=x; exact ⟨ob,k _ _ (.inl rfl) e⟩
  | xd fs=>obtain ⟨mA,⟨od,es,ep,e,c⟩,r⟩:=x; exact ⟨mA,⟨od,es,ep,k _ _ (.inl rfl) e,c⟩,r⟩
  | rng lo hi=>obtain ⟨t,u,v,e⟩:=x; exact ⟨t,u,v,k _ _ (.inl rfl) e⟩
  | frz ob u ih=>obtain ⟨e,q⟩:=x; exact ⟨k _ _ (.inl rfl) e,ih q⟩
  | tbl ps =>
    have e:h.get? a=some { cls:=.none,data:=.fields ps }:=x
    show h'.get? a=some { cls:=.none,data:=.fields ps }
    exact k a _ (.inl rfl) e
  | met f y =>
    have e:h.get? a=some (PySem.W.methodObj (.ref f) (.ref y)):=x
    show h'.get? a=some (PySem.W.methodObj (.ref f) (.ref y))
    exact k a _ (.inl rfl) e
  | ext φ=>obtain ⟨p,⟨o,e⟩,st⟩:=x; exact ⟨st _ _ p fun o q=>k _ _ (.inl rfl) q,⟨o,k _ _ (.inl rfl) e⟩,st⟩
theorem HOk.lt (x:HOk P w H h) (e:H a=some o):a < h.objs.size:=(x a o e).lt
theorem HOk.fresh (x:HOk P w H h) (e:h.objs.size≤a):H a=none:=by
  cases q:H a with
  | none=>rfl
  | some u=>exact absurd (Nat.lt_of_lt_of_le (x.lt q) e) (Nat.lt_irrefl _)
theorem HOk.kept (x:HOk P w H h) (k:∀ b u,h.get? b=some u→h'.get? b=some u):HOk P w H h':=fun a o e =>
  (x a o e).stay (fun b u _ q=>k b u q) (fun _ q=>q) fun _ _ q=>q
theorem HOk.laid (x:HOk P w H h) (k:∀ b u,h.get? b=some u→h'.get? b=some u) (hp:h.objs.size≤a) (new:ObjOk P w (upd H a o) h' a o):HOk P w (upd H a o) h':=fun b u e=>by
  have hn:=x.fresh hp
  by_cases hb:b=a
  · subst hb; rw [upd_same] at e; cases e; exact new
  · rw [upd_ne hb] at e
    exact (x b u e).stay (fun c v _ q=>k c v q) (fun c q=>by rw [upd_ne (ne_of_none q hn)]; exact q) fun c xs q=>by rw [upd_ne (ne_of_none q hn)]; exact q
end

def Rd (H:Hp) (a:Addr) (u:HO):Prop:=H a=some u ∨ ∃ o,H a=some (.frz o u)
theorem Rd.of {H:Hp} {a:Addr} {u:HO} (h:H a=some u):Rd H a u:=.inl h
theorem Rd.ok {P:Program} {w:World} {H:Hp} {h:Heap} {a:Addr} {u:HO} (r:Rd H a u) (x:HOk P w H h):ObjOk P w H h a u:=by
  rcases r with r | ⟨o,r⟩
  · exact x a u r
  · obtain ⟨_,q⟩:=x a _ r
    exact q
def Mut:Option HO→Prop
  | some (.lst _)=>True
  | some (.dK _)=>True
  | some (.dT _)=>True
  | some (.set _ _)=>True
  | some (.ins _ _ _)=>True
  | some (.ext _)=>True
  | _=>False
section
variable {P:Program} {w:World} {H:Hp} {h h':Heap} {x e:Addr} {o':HO}
theorem HOk.write (ok:HOk P w H h) (mu:Mut (H x)) (he:e=x ∨ H e=some (.own x)) (k:∀ b u,b ≠ e→h.get? b=some u→h'.get? b=some u) (heo:∃ u,h'.get? e=some u)
    (new:ObjOk P w (upd H x o') h' x o'):HOk P w (upd H x o') h':=fun b u q=>by
  have nown:∀ c y,H c=some (.own y)→c ≠ x:=fun c y r z=>by subst z; rw [r] at mu; exact mu
  have ntup:∀ c xs,H c=some (.tup xs)→c ≠ x:=fun c xs r z=>by subst z; rw [r] at mu; exact mu
  by_cases hb:b=x
  · subst hb; rw [upd_same] at q; cases q; exact new
  · rw [upd_ne hb] at q
    by_cases hbe:b=e
    · have q':H b=some (.own x):=by
        rcases he with z | z
        · exact absurd (hbe.trans z) hb
        · rw [hbe]; exact z
      rw [q] at q'; cases q'
      obtain ⟨v,hv⟩:=heo
      exact ⟨v,by rw [hbe]; exact hv⟩
    · refine (ok b u q).stay (fun c v hc r=>k c v ?_ r) (fun c r=>by rw [upd_ne (nown c b r)]; exact r) fun c xs r=>by rw [upd_ne (ntup c xs r)]; exact r
      rcases hc with rfl | hc
      · exact hbe
      · rintro rfl
        rcases he with z | z
        · exact nown c b hc z
        · rw [hc] at z; cases z; exact hb rfl
end

structure Un (fs ex:List Addr) (H H':Hp) (h h':Heap):Prop where
  keep:∀ b o,h.get? b=some o→H b=none→b ∉ fs→b ∉ ex→h'.get? b=some o
  slot:∀ b o,h.get? b=some o→H b=none→b ∈ fs→b ∉ ex→∃ sl,h'.get? b=some { o with slots:=sl }
  free:∀ b o,h.get? b=some o→H b=none→b ∉ ex→H' b=none
  there:∀ b o,h.get? b=some o→b ∉ ex→∃ o',h'.get? b=some o'
  tups:∀ b xs,H b=some (.tup xs)→H' b=some (.tup xs)
  frzs:∀ b o u,H b=some (.frz o u)→H' b=some (.frz o u)
  tbls:∀ b ps,H b=some (.tbl ps)→∃ more,H' b=some (.tbl (ps++more))
section
variable {fs fs' ex ex':List Addr} {H H1 H2:Hp} {h h1 h2 h':Heap} {a x e:Addr} {o:HO}
theorem Un.any (u:Un fs ex H H1 h h1) {b:Addr} {ob:Obj} (q:h.get? b=some ob) (n:H b=none) (hx:b ∉ ex):∃ sl,h1.get? b=some { ob with slots:=sl }:=by
  by_cases hb:b ∈ fs
  · exact u.slot b ob q n hb hx
  · exact ⟨ob.slots,u.keep b ob q n hb hx⟩
theorem Un.trans (a:Un fs ex H H1 h h1) (b:Un fs ex H1 H2 h1 h2):Un fs ex H H2 h h2 where
  keep:=fun c ob q n hc hx=>b.keep c ob (a.keep c ob q n hc hx) (a.free c ob q n hx) hc hx
  slot:=fun c ob q n hc hx=>by
    obtain ⟨sl,e1⟩:=a.slot c ob q n hc hx
    obtain ⟨sl',e2⟩:=b.slot c _ e1 (a.free c ob q n hx) hc hx
    exact ⟨sl',e2⟩
  free:=fun c ob q n hx=>by
    obtain ⟨o',e1⟩:=a.there c ob q hx
    exact b.free c o' e1 (a.free c ob q n hx) hx
  there:=fun c ob q hx=>by
    obtain ⟨o',e1⟩:=a.there c ob q hx
    exact b.there c o' e1 hx
  tups:=fun c xs q=>b.tups c xs (a.tups c xs q)
  frzs:=fun c ob xs q=>b.frzs c ob xs (a.frzs c ob xs q)
  tbls:=fun c ps q=>by
    obtain ⟨m1,e1⟩:=a.tbls c ps q
    obtain ⟨m2,e2⟩:=b.tbls c _ e1
    exact ⟨m1++m2,by rw [e2,Array.append_assoc]⟩
theorem Un.kept (k:∀ b u,h.get? b=some u→h'.get? b=some u):Un fs ex H H h h' :=
  ⟨fun b ob q _ _ _=>k b ob q,fun b ob q _ _ _=>⟨ob.slots,k b ob q⟩,fun _ _ _ n _=>n,fun b ob q _=>⟨ob,k b ob q⟩,fun _ _ q=>q,fun _ _ _ q=>q,fun _ ps q=>⟨#[],by rw [q]; simp⟩⟩
theorem Un.refl:Un fs ex H H h h:=Un.kept fun _ _ q=>q
theorem Un.laid (k:∀ b u,h.get? b=some u→h'.get? b=some u) (hp:h.objs.size≤a) (hn:H a=none):Un fs ex H (upd H a o) h h' where
  keep:=fun b u q _ _ _=>k b u q
  slot:=fun b u q _ _ _=>⟨u.slots,k b u q⟩
  free:=fun b u q n _=>by rw [upd_ne (Nat.ne_of_lt (Nat.lt_of_lt_of_le (Heap.lt_size q) hp))]; exact n
  there:=fun b u q _=>⟨u,k b u q⟩
  tups:=fun b xs q=>by rw [upd_ne (ne_of_none q hn)]; exact q
  frzs:=fun b u xs q=>by rw [upd_ne (ne_of_none q hn)]; exact q
  tbls:=fun b ps q=>⟨#[],by rw [upd_ne (ne_of_none q hn),q]; simp⟩
theorem Un.write (mu:Mut (H x)) (he:e=x ∨ H e=some (.own x)) (k:∀ b u,b ≠ e→h.get? b=some u→h'.get? b=some u) (heo:∃ u,h'.get? e=some u):Un fs ex H (upd H x o) h h':=by
  have hx:∀ b,H b=none→b ≠ x:=fun b n z=>by subst z; rw [n] at mu; exact mu
  have hb:∀ b,H b=none→b ≠ e:=fun b n z=>by
    subst z
    rcases he with r | r
    · exact hx b n r
    · rw [n] at r; cases r
  have hm:∀ b u,H b=some u→¬ Mut (some u)→b ≠ x:=fun b u q nm z=>by subst z; rw [q] at mu; exact nm mu
  refine ⟨fun b u q n _ _=>k b u (hb b n) q,fun b u q n _ _=>⟨u.slots,k b u (hb b n) q⟩,fun b u q n _=>by rw [upd_ne (hx b n)]; exact n,fun b u q _=>?_,
    fun b xs q=>by rw [upd_ne (hm b _ q fun z=>z)]; exact q,fun b u xs q=>by rw [upd_ne (hm b _ q fun z=>z)]; exact q,fun b ps q=>⟨#[],by rw [upd_ne (hm b _ q fun z=>z),q]; simp⟩⟩
  by_cases hbe:b=e
  · subst hbe; exact heo
  · exact ⟨u,k b u hbe q⟩
theorem Un.mono (u:Un fs ex H H1 h h1) (hs:∀ b ∈ fs,b ∈ fs') (hx:∀ b ∈ ex,b ∈ ex'):Un fs' ex' H H1 h h1 :=
  ⟨fun b ob q n hb he=>u.keep b ob q n (fun z=>hb (hs b z)) fun z=>he (hx b z),fun _ _ q n _ he=>u.any q n fun z=>he (hx _ z),fun b ob q n he=>u.free b ob q n fun z=>he (hx b z),fun b ob q he=>u.there b ob q fun z=>he (hx b z),u.tups,u.frzs,u.tbls⟩
end

def trk (h:Heap) (H:Hp):List Addr:=(List.range h.objs.size).filter fun a=>(H a).isSome
def hidT (h:Heap) (H:Hp):Heap:=PySem.W.hideAll h (trk h H)
theorem hidT_size (h:Heap) (H:Hp):(hidT h H).objs.size=h.objs.size:=PySem.W.hideAll_size _ _
theorem hidT_get {h:Heap} {H:Hp} {b:Addr} {o:Obj} (e:h.get? b=some o) (n:H b=none):(hidT h H).get? b=some o :=
  PySem.W.hideAll_get _ e fun hm=>by
    have q:(H b).isSome=true:=(List.mem_filter.mp hm).2
    rw [n] at q; simp at q
theorem of_hidT {h:Heap} {H:Hp} {b:Addr} {o:Obj} (e:(hidT h H).get? b=some o):h.get? b=some o∧H b=none:=by
  have e':h.get? b=some o:=PySem.W.of_hideAll (trk h H) e
  refine ⟨e',?_⟩
  cases q:H b with
  | none=>rfl
  | some x =>
    have hm:b ∈ trk h H:=List.mem_filter.mpr ⟨List.mem_range.mpr (Heap.lt_size e'),by simp [q]⟩
    have z:(hidT h H).get? b=none:=PySem.W.hideAll_none (trk h H) hm
    rw [z] at e; cases e

end L2

namespace L2
open PySem PySem.Spec PyProof.Rows

structure Mod (K:PySem.W.Frag) (mg:Str→Option Value) (base:Heap):Prop where
  kin:K.In base
  glob:base.Ns mainGlobals mg
  blt:∃ mb,base.Ns builtinsNs mb∧∀ x:Str,x ≠ "__name__"→mb x=bootBuiltins x
  nolimit:base.NoLimit

structure Cx where
  prog:Program
  w:World
  K:PySem.W.Frag
  mg:Str→Option Value
  base:Heap
  A:Around
  N:List Str
  s₀:Shared
  H₀:Hp
  env:Env
  outer:List Env
  stack:List Env
  ex:List Addr
  fn:Str→Bool
  calm:Bool
  pn:List (Addr × Obj)
  xe:Value→Shared→Prop
def frs (l:List Env):List Addr:=l.filterMap (·.frame)
abbrev Cx.fs (X:Cx):List Addr:=frs X.outer

def Vis (sc:Scope) (x:Str):Prop:=sc.names.lookup x=some .local ∨ sc.names.lookup x=some .cell ∨ sc.names.lookup x=some .free
def Loc (sc:Scope) (x:Str):Prop:=sc.names.lookup x=some .local ∨ sc.names.lookup x=some .cell
def Look (env:Env) (h:Heap) (m:Str→Option Value) (x:Str) (u:Value):Prop :=
  (env.kindOf x=some .local∧m x=some u) ∨ ((env.kindOf x=some .cell ∨ env.kindOf x=some .free)∧∃ c,env.cells.lookup x=some c∧h.IsCell c (some u))

structure Cx.Ok (X:Cx):Prop where
  mod:Mod X.K X.mg X.base
  kind:X.env.scope.kind=.function
  glob:X.env.globals=mainGlobals
  blt:X.env.builtins=builtinsNs
  above:X.s₀.heap.objs.size≤X.env.locals
  inj:∀ x y c,X.env.cells.lookup x=some c→X.env.cells.lookup y=some c→x=y
  has:∀ x,(X.env.kindOf x=some .cell ∨ X.env.kindOf x=some .free)→∃ c,X.env.cells.lookup x=some c
  cab:∀ x c,X.fn x=true→X.env.cells.lookup x=some c→X.s₀.heap.objs.size≤c
  hd:X.calm=true→X.A.handled=none
  frames:X.A.frames=some X.stack
  stk:X.stack=X.outer ∨ (X.stack=X.env::X.outer∧X.env.frame=some X.env.locals)
  exf:∀ b ∈ X.ex,b ≠ X.env.locals∧∀ x c,X.env.cells.lookup x=some c→c ≠ b
  bs:∀ b o,X.base.get? b=some o→X.s₀.heap.get? b=some o∧X.H₀ b=none
  bsz:X.base.objs.size≤X.s₀.heap.objs.size
  noex:∀ b o,X.base.get? b=some o→b ∉ X.ex
  exfs:∀ b ∈ X.ex,b ∉ X.fs
  funs:X.s₀.heap.FunFrames X.base X.outer
  frf:∀ b ∈ X.fs,X.H₀ b=none

structure Inv (X:Cx) (pins:List (Addr × Obj)) (σ:List (Option V)) (H:Hp) (s:Shared):Prop where
  ok:X.Ok
  os:s.os=X.s₀.os
  bare:AllBare s.gens
  base:Un X.fs X.ex X.H₀ H X.s₀.heap s.heap
  loc:∃ m,s.heap.Ns X.env.locals m∧∀ (i:Nat) (x:Str) (v:V),X.N[i]?=some x→σ[i]?=some (some v)→Vis X.env.scope x→∃ u,RelV v u∧Look X.env s.heap m x u
  cell:∀ x c,X.env.cells.lookup x=some c→∃ v,s.heap.IsCell c v
  free:H X.env.locals=none
  freeC:∀ x c,X.env.cells.lookup x=some c→H c=none
  pin:∀ p ∈ X.pn++pins,s.heap.get? p.1=some p.2∧H p.1=none∧p.1 ≠ X.env.locals∧p.1 ∉ X.fs∧∀ v,p.2.data ≠ .cell v
  hok:HOk X.prog X.w H s.heap
  len:σ.length=X.N.length

section
variable {X:Cx} {pins:List (Addr × Obj)} {σ:List (Option V)} {H H':Hp} {s:Shared} {h':Heap}

theorem Cx.Ok.nofr (ok:X.Ok) {b:Addr} {o:Obj} (e:X.base.get? b=some o):b ∉ X.fs:=fun hb=>by
  have:=(ok.funs.mem hb).1
  rw [e] at this; cases this
theorem Inv.bs (I:Inv X pins σ H s):∀ b o,X.base.get? b=some o→s.heap.get? b=some o∧H b=none:=fun b o e =>
  ⟨I.base.keep b o (I.ok.bs b o e).1 (I.ok.bs b o e).2 (I.ok.nofr e) (I.ok.noex b o e),I.base.free b o (I.ok.bs b o e).1 (I.ok.bs b o e).2 (I.ok.noex b o e)⟩
theorem Inv.bk (I:Inv X pins σ H s):∀ b o,X.base.get? b=some o→s.heap.get? b=some o:=fun b o e=>(I.bs b o e).1
theorem Inv.mod (I:Inv X pins σ H s):Mod X.K X.mg X.base:=I.ok.mod
theorem Inv.kIn (I:Inv X pins σ H s):X.K.In s.heap:=I.ok.mod.kin.keeps I.bk
theorem Inv.nolimit (I:Inv X pins σ H s):s.heap.NoLimit:=I.ok.mod.nolimit.keeps I.bk
theorem Inv.lt (I:Inv X pins σ H s):X.env.locals < s.heap.objs.size:=let ⟨_,hn,_⟩:=I.loc; hn.lt
theorem Inv.sz (I:Inv X pins σ H s):X.s₀.heap.objs.size≤s.heap.objs.size:=Nat.le_trans I.ok.above (Nat.le_of_lt I.lt)
theorem Inv.nofs (I:Inv X pins σ H s) {a:Addr} (h:s.heap.objs.size≤a):a ∉ X.fs:=fun hb=>by
  obtain ⟨_,o,ho,_⟩:=I.ok.funs.mem hb
  exact absurd (Nat.lt_of_lt_of_le (Heap.lt_size ho) (Nat.le_trans I.sz h)) (Nat.lt_irrefl _)
theorem Inv.cne (I:Inv X pins σ H s):∀ x c,X.env.cells.lookup x=some c→c ≠ X.env.locals:=fun x c e z=>by
  obtain ⟨v,o,ho,hd⟩:=I.cell x c e
  obtain ⟨m,⟨o',es,ep,ho',hd',_⟩,_⟩:=I.loc
  rw [z,ho'] at ho; cases ho; rw [hd'] at hd; cases hd
theorem Inv.funs (I:Inv X pins σ H s):s.heap.FunFrames X.base X.outer:=by
  have all:∀ (l:List Env),(∀ b ∈ frs l,b ∈ X.fs)→X.s₀.heap.FunFrames X.base l→s.heap.FunFrames X.base l:=by
    intro l
    induction l with
    | nil=>intro _ _; trivial
    | cons env r ih =>
      intro hs hl
      obtain ⟨hk,⟨L,o,hf,hn,ho,hd⟩,hr⟩:=hl
      have hL:L ∈ X.fs:=hs L (by unfold frs; rw [List.filterMap_cons,hf]; exact List.mem_cons_self)
      obtain ⟨sl,e⟩:=I.base.slot L o ho (I.ok.frf L hL) hL fun z=>I.ok.exfs L z hL
      exact ⟨hk,⟨L,_,hf,hn,e,hd⟩,ih (fun b hb=>hs b (by unfold frs; rw [List.filterMap_cons,hf]; exact List.mem_cons_of_mem _ hb)) hr⟩
  exact all X.outer (fun _ hb=>hb) I.ok.funs

theorem Inv.stack (I:Inv X pins σ H s):s.heap.FunFrames X.base X.stack:=by
  rcases I.ok.stk with e | ⟨e,hf⟩
  · rw [e]; exact I.funs
  · rw [e]
    obtain ⟨m,hn,_⟩:=I.loc
    refine .cons (by rw [I.ok.kind]; decide) hf hn ?_ I.funs
    exact Heap.get?_none_of_le (Nat.le_trans I.ok.bsz I.ok.above)
theorem Inv.stkSub (I:Inv X pins σ H s):∀ b ∈ frs X.stack,b ∈ X.env.locals::X.fs:=fun b hb=>by
  rcases I.ok.stk with e | ⟨e,hf⟩
  · rw [e] at hb; exact List.mem_cons_of_mem _ hb
  · rw [e] at hb
    unfold frs at hb
    rw [List.filterMap_cons,hf] at hb
    exact hb
theorem Inv.stkFree (I:Inv X pins σ H s):∀ b ∈ frs X.stack,H b=none:=fun b hb=>by
  rcases List.mem_cons.mp (I.stkSub b hb) with e | hb
  · rw [e]; exact I.free
  · obtain ⟨_,o,ho,_⟩:=I.ok.funs.mem hb
    exact I.base.free b o ho (I.ok.frf b hb) fun z=>I.ok.exfs b z hb

theorem Inv.step {g':Array GenState} {t':Nat} {d':Drawn} {ch:List Addr} (I:Inv X pins σ H s)
    (hch:∀ b ∈ ch,(b ∈ X.ex ∨ X.s₀.heap.objs.size≤b)∧b ≠ X.env.locals∧(∀ x c,X.env.cells.lookup x=some c→c ≠ b)∧∀ p ∈ X.pn++pins,p.1 ≠ b)
    (keep:∀ b o,b ≠ X.env.locals→b ∉ X.fs→b ∉ ch→s.heap.get? b=some o→H b=none→h'.get? b=some o)
    (slot:∀ b o,b ≠ X.env.locals→b ∈ X.fs→b ∉ ch→s.heap.get? b=some o→H b=none→∃ sl,h'.get? b=some { o with slots:=sl }) (free:∀ b o,b ∉ ch→s.heap.get? b=some o→H b=none→H' b=none)
    (there:∀ b o,b ∉ ch→s.heap.get? b=some o→∃ o',h'.get? b=some o')
    (tups:∀ b xs,H b=some (.tup xs)→H' b=some (.tup xs)) (frzs:∀ b o u,H b=some (.frz o u)→H' b=some (.frz o u)) (tbls:∀ b ps,H b=some (.tbl ps)→∃ more,H' b=some (.tbl (ps++more)))
    (ns:∀ m,s.heap.Ns X.env.locals m→h'.Ns X.env.locals m) (hok:HOk X.prog X.w H' h') (hg:AllBare g') :
    Inv X pins σ H' { s with heap:=h',gens:=g',drawn:=d',toks:=t' }:=by
  have neL:∀ b o,X.s₀.heap.get? b=some o→b ≠ X.env.locals:=fun b o e=>Nat.ne_of_lt (Nat.lt_of_lt_of_le (Heap.lt_size e) I.ok.above)
  have neC:∀ b o,X.s₀.heap.get? b=some o→b ∉ X.ex→b ∉ ch:=fun b o e hx hb=>by
    rcases (hch b hb).1 with z | z
    · exact hx z
    · exact absurd (Nat.lt_of_lt_of_le (Heap.lt_size e) z) (Nat.lt_irrefl _)
  have cellK:∀ x c,X.env.cells.lookup x=some c→∀ v,s.heap.IsCell c v→h'.IsCell c v:=fun x c e v ⟨o,ho,hd⟩=>by
    have nch:c ∉ ch:=fun z=>(hch c z).2.2.1 x c e rfl
    by_cases hc:c ∈ X.fs
    · obtain ⟨sl,q⟩:=slot c o (I.cne x c e) hc nch ho (I.freeC x c e)
      exact ⟨_,q,hd⟩
    · exact ⟨o,keep c o (I.cne x c e) hc nch ho (I.freeC x c e),hd⟩
  refine ⟨I.ok,I.os,hg,⟨fun b o e n hb hx=>?_,fun b o e n hb hx=>?_,fun b o e n hx=>?_,fun b o e hx=>?_,fun b xs e=>tups b xs (I.base.tups b xs e),fun b o xs e=>frzs b o xs (I.base.frzs b o xs e),fun b ps e=>?_⟩,?_,fun x c e=>?_,?_,fun x c e=>?_,fun p hp=>?_,hok,I.len⟩
  · exact keep b o (neL b o e) hb (neC b o e hx) (I.base.keep b o e n hb hx) (I.base.free b o e n hx)
  · obtain ⟨sl,e1⟩:=I.base.slot b o e n hb hx
    obtain ⟨sl',e2⟩:=slot b _ (neL b o e) hb (neC b o e hx) e1 (I.base.free b o e n hx)
    exact ⟨sl',e2⟩
  · obtain ⟨o',e1⟩:=I.base.there b o e hx
    exact free b o' (neC b o e hx) e1 (I.base.free b o e n hx)
  · obtain ⟨o',e1⟩:=I.base.there b o e hx
    exact there b o' (neC b o e hx) e1
  · obtain ⟨m1,e1⟩:=I.base.tbls b ps e
    obtain ⟨m2,e2⟩:=tbls b _ e1
    exact ⟨m1++m2,by rw [e2,Array.append_assoc]⟩
  · obtain ⟨m,hn,hl⟩:=I.loc
    refine ⟨m,ns m hn,fun i x v e1 e2 e3=>?_⟩
    obtain ⟨u,r,l⟩:=hl i x v e1 e2 e3
    refine ⟨u,r,?_⟩
    rcases l with l | ⟨k,c,e,z⟩
    · exact .inl l
    · exact .inr ⟨k,c,e,cellK x c e _ z⟩
  · obtain ⟨v,z⟩:=I.cell x c e
    exact ⟨v,cellK x c e v z⟩
  · obtain ⟨m,⟨o,_,_,ho,_⟩,_⟩:=I.loc
    exact free _ o (fun z=>(hch _ z).2.1 rfl) ho I.free
  · obtain ⟨v,o,ho,hd⟩:=I.cell x c e
    exact free c o (fun z=>(hch c z).2.2.1 x c e rfl) ho (I.freeC x c e)
  · obtain ⟨e,n,ne,nf,d⟩:=I.pin p hp
    have nch:p.1 ∉ ch:=fun z=>(hch p.1 z).2.2.2 p hp rfl
    exact ⟨keep p.1 p.2 ne nf nch e n,free p.1 p.2 nch e n,ne,nf,d⟩
theorem Inv.un {t':Nat} (I:Inv X pins σ H s) (u:Un X.fs [] H H' s.heap h') (hok:HOk X.prog X.w H' h'):Inv X pins σ H' { s with heap:=h',toks:=t' }:=by
  obtain ⟨m,⟨o,es,ep,ho,r⟩,_⟩:=id I.loc
  obtain ⟨sl,hL⟩:=u.any ho I.free (by simp)
  exact I.step (g':=s.gens) (d':=s.drawn) (ch:=[]) (fun _ z=>nomatch z) (fun b o _ hb _ e n=>u.keep b o e n hb (by simp)) (fun b o _ hb _ e n=>u.slot b o e n hb (by simp)) (fun b o _ e n=>u.free b o e n (by simp)) (fun b o _ e=>u.there b o e (by simp)) u.tups u.frzs u.tbls (fun m' hm=>by
    obtain ⟨o',es',ep',ho',r'⟩:=hm
    rw [ho] at ho'; cases ho'
    exact ⟨_,es',ep',hL,r'⟩) hok I.bare
theorem Inv.call {g':Array GenState} {t':Nat} {d':Drawn} {ch:List Addr} (I:Inv X pins σ H s) (u:Un (frs X.stack) ch H H' s.heap h') (hok:HOk X.prog X.w H' h') (hg:AllBare g')
    (hch:∀ b ∈ ch,(b ∈ X.ex ∨ X.s₀.heap.objs.size≤b)∧b ≠ X.env.locals∧(∀ x c,X.env.cells.lookup x=some c→c ≠ b)∧∀ p ∈ X.pn++pins,p.1 ≠ b) :
    Inv X pins σ H' { s with heap:=h',gens:=g',drawn:=d',toks:=t' }:=by
  obtain ⟨m,⟨o,es,ep,ho,r⟩,_⟩:=id I.loc
  obtain ⟨sl,hL⟩:=u.any ho I.free fun z=>(hch _ z).2.1 rfl
  exact I.step (ch:=ch) hch (fun b o hL hb hc e n=>u.keep b o e n (fun z=>(List.mem_cons.mp (I.stkSub b z)).elim hL hb) hc) (fun b o _ _ hc e n=>u.any e n hc) (fun b o hc e n=>u.free b o e n hc) (fun b o hc e=>u.there b o e hc) u.tups u.frzs u.tbls (fun m' hm=>by
    obtain ⟨o',es',ep',ho',r'⟩:=hm
    rw [ho] at ho'; cases ho'
    exact ⟨_,es',ep',hL,r'⟩) hok hg
theorem Inv.turned {t':Nat} {it:Addr} (I:Inv X pins σ H s) (k:∀ b o,b ≠ it→s.heap.get? b=some o→h'.get? b=some o) (hn:H it=none) (hL:it ≠ X.env.locals)
    (h1:it ∈ X.ex ∨ X.s₀.heap.objs.size≤it) (h2:∀ x c,X.env.cells.lookup x=some c→c ≠ it) (h3:∀ p ∈ X.pn++pins,p.1 ≠ it):Inv X pins σ H { s with heap:=h',toks:=t' }:=by
  have nit:∀ b u,H b=some u→b ≠ it:=fun b u e z=>by rw [z,hn] at e; cases e
  refine I.step (g':=s.gens) (d':=s.drawn) (ch:=[it]) (fun b hb=>?_) (fun b o _ _ hc e _=>k b o (fun z=>hc (by simp [z])) e) (fun b o _ _ hc e _=>⟨o.slots,k b o (fun z=>hc (by simp [z])) e⟩) (fun _ _ _ _ n=>n)
    (fun b o hc e=>⟨o,k b o (fun z=>hc (by simp [z])) e⟩) (fun _ _ e=>e) (fun _ _ _ e=>e) (fun b ps e=>⟨#[],by rw [e]; simp⟩) (fun m hm=>?_) (fun b u e=>?_) I.bare
  · have e:b=it:=by simpa using hb
    subst e
    exact ⟨h1,hL,h2,h3⟩
  · obtain ⟨o,es,ep,ho,r⟩:=hm
    exact ⟨o,es,ep,k _ o (Ne.symm hL) ho,r⟩
  · refine (I.hok b u e).stay (fun c v hc q=>k c v ?_ q) (fun _ q=>q) fun _ _ q=>q
    rcases hc with z | z
    · rw [z]; exact nit b u e
    · exact nit c _ z
theorem Inv.tok (I:Inv X pins σ H s) (t:Nat):Inv X pins σ H { s with toks:=t }:=I.un (h':=s.heap) (t':=t) Un.refl I.hok
theorem Inv.kept {t':Nat} (I:Inv X pins σ H s) (k:∀ b u,s.heap.get? b=some u→h'.get? b=some u):Inv X pins σ H { s with heap:=h',toks:=t' }:=I.un (Un.kept k) (I.hok.kept k)
theorem Inv.laid {a:Addr} {o:HO} {t':Nat} (I:Inv X pins σ H s) (k:∀ b u,s.heap.get? b=some u→h'.get? b=some u) (hp:s.heap.objs.size≤a) (new:ObjOk X.prog X.w (upd H a o) h' a o) :
    Inv X pins σ (upd H a o) { s with heap:=h',toks:=t' }:=I.un (Un.laid k hp (I.hok.fresh hp)) (I.hok.laid k hp new)
theorem Inv.write {x e:Addr} {o:HO} {t':Nat} (I:Inv X pins σ H s) (mu:Mut (H x)) (he:e=x ∨ H e=some (.own x)) (k:∀ b u,b ≠ e→s.heap.get? b=some u→h'.get? b=some u) (heo:∃ u,h'.get? e=some u)
    (new:ObjOk X.prog X.w (upd H x o) h' x o):Inv X pins σ (upd H x o) { s with heap:=h',toks:=t' }:=I.un (Un.write mu he k heo) (I.hok.write mu he k heo new)
theorem Inv.pins_of {pins':List (Addr × Obj)} (I:Inv X pins σ H s) (h:∀ p ∈ pins',s.heap.get? p.1=some p.2∧H p.1=none∧p.1 ≠ X.env.locals∧p.1 ∉ X.fs∧∀ v,p.2.data ≠ .cell v):Inv X pins' σ H s :=
  ⟨I.ok,I.os,I.bare,I.base,I.loc,I.cell,I.free,I.freeC,fun p hp=>(List.mem_append.mp hp).elim (fun z=>I.pin p (List.mem_append_left _ z)) (h p),I.hok,I.len⟩

theorem nodup_ix {N:List Str} (hN:N.Nodup) {i j:Nat} {x:Str} (a:N[i]?=some x) (b:N[j]?=some x):i=j:=by
  obtain ⟨h1,e1⟩:=List.getElem?_eq_some_iff.mp a
  obtain ⟨h2,e2⟩:=List.getElem?_eq_some_iff.mp b
  exact (List.getElem_inj hN).mp (e1.trans e2.symm)

theorem store_ok2 {M:Model} {A:Around} {E:Value→Shared→Prop} {i:Nat} {x:Str} {v:V} {u:Value} {Q:Unit→Shared→Prop} (I:Inv X pins σ H s) (hN:X.N.Nodup) (hi:X.N[i]?=some x) (hx:Loc X.env.scope x) (r:RelV v u)
    (h:∀ s',Inv X pins (σ.set i (some v)) H s'→(∃ a,Heap.SameBut a s.heap s'.heap∧(a=X.env.locals ∨ X.env.cells.lookup x=some a))→Q () s') (hf:X.fn x=true ∨ X.env.scope.names.lookup x=some .local:=by first | exact .inl rfl | exact .inr rfl | assumption):wpAny M A (storeName X.env x u) Q E s:=by
  obtain ⟨m,hn,hl⟩:=id I.loc
  have hcls:(X.env.scope.kind == .class || (X.env.scope.kind == .module && X.env.locals != X.env.globals))=false:=by rw [I.ok.kind]; rfl
  have hiσ:i < σ.length:=by rw [I.len]; exact (List.getElem?_eq_some_iff.mp hi).1
  have cne:=I.cne
  have tracked:∀ {a:Addr} {h':Heap},(∃ o,s.heap.get? a=some o∧H a=none)→Heap.SameBut a s.heap h'→HOk X.prog X.w H h':=fun {a h'} ha hs b ob e=>by
    obtain ⟨_,_,hfree⟩:=ha
    refine (I.hok b ob e).stay (fun c w' hc q=>(hs.2 c ?_).trans q) (fun _ q=>q) fun _ _ q=>q
    rintro rfl
    rcases hc with rfl | hc
    · rw [hfree] at e; cases e
    · rw [hfree] at hc; cases hc
  rcases hx with hk | hk
  · refine wpAny_storeName_local hk hn (fun h' hn' hs=>?_) hcls
    obtain ⟨oL,_,_,hoL,_⟩:=id hn
    refine h _ ⟨I.ok,I.os,I.bare,⟨fun b o e n hb hx=>?_,fun b o e n hb hx=>?_,I.base.free,fun b o e hx=>?_,I.base.tups,I.base.frzs,I.base.tbls⟩,⟨_,hn',fun j y v' e1 e2 e3=>?_⟩,fun y c e=>?_,I.free,I.freeC,fun p hp=>?_,tracked ⟨oL,hoL,I.free⟩ hs,by simpa using I.len⟩ ⟨_,hs,.inl rfl⟩
    · exact (hs.2 b (Nat.ne_of_lt (Nat.lt_of_lt_of_le (Heap.lt_size e) I.ok.above))).trans (I.base.keep b o e n hb hx)
    · obtain ⟨sl,e1⟩:=I.base.slot b o e n hb hx
      exact ⟨sl,(hs.2 b (Nat.ne_of_lt (Nat.lt_of_lt_of_le (Heap.lt_size e) I.ok.above))).trans e1⟩
    · obtain ⟨o',e1⟩:=I.base.there b o e hx
      exact ⟨o',(hs.2 b (Nat.ne_of_lt (Nat.lt_of_lt_of_le (Heap.lt_size e) I.ok.above))).trans e1⟩
    · by_cases hj:j=i
      · subst hj
        rw [hi] at e1; cases e1
        rw [List.getElem?_set_self hiσ] at e2
        cases e2
        exact ⟨u,r,.inl ⟨hk,by simp⟩⟩
      · rw [List.getElem?_set_ne (Ne.symm hj)] at e2
        obtain ⟨u',r',q⟩:=hl j y v' e1 e2 e3
        refine ⟨u',r',?_⟩
        rcases q with ⟨k,e⟩ | ⟨k,c,e,z⟩
        · refine .inl ⟨k,?_⟩
          have:y ≠ x:=fun e=>hj (nodup_ix hN e1 (e ▸ hi))
          simp [this,e]
        · exact .inr ⟨k,c,e,z.sameBut hs (cne y c e)⟩
    · obtain ⟨w',z⟩:=I.cell y c e
      exact ⟨w',z.sameBut hs (cne y c e)⟩
    · obtain ⟨e,n,ne,nf,d⟩:=I.pin p hp
      exact ⟨(hs.2 p.1 ne).trans e,n,ne,nf,d⟩
  · have hfn:X.fn x=true:=by
      rcases hf with z | z
      · exact z
      · rw [z] at hk; cases hk
    obtain ⟨c,hc⟩:=I.ok.has x (.inl hk)
    obtain ⟨w',z⟩:=I.cell x c hc
    refine wpAny_storeName_cell I.ok.kind hk hc z (fun h' hc' hs=>?_)
    obtain ⟨oc,hoc,hocd⟩:=id z
    refine h { s with heap:=h' } ⟨I.ok,I.os,I.bare,⟨fun b o e n hb hx=>?_,fun b o e n hb hx=>?_,I.base.free,fun b o e hx=>?_,I.base.tups,I.base.frzs,I.base.tbls⟩,⟨m,hn.sameBut hs (Ne.symm (cne x c hc)),fun j y v' e1 e2 e3=>?_⟩,fun y c' e=>?_,I.free,I.freeC,fun p hp=>?_,tracked ⟨oc,hoc,I.freeC x c hc⟩ hs,by simpa using I.len⟩ ⟨c,hs,.inr hc⟩
    · exact (hs.2 b (Nat.ne_of_lt (Nat.lt_of_lt_of_le (Heap.lt_size e) (I.ok.cab x c hfn hc)))).trans (I.base.keep b o e n hb hx)
    · obtain ⟨sl,e1⟩:=I.base.slot b o e n hb hx
      exact ⟨sl,(hs.2 b (Nat.ne_of_lt (Nat.lt_of_lt_of_le (Heap.lt_size e) (I.ok.cab x c hfn hc)))).trans e1⟩
    · obtain ⟨o',e1⟩:=I.base.there b o e hx
      exact ⟨o',(hs.2 b (Nat.ne_of_lt (Nat.lt_of_lt_of_le (Heap.lt_size e) (I.ok.cab x c hfn hc)))).trans e1⟩
    · by_cases hj:j=i
      · subst hj
        rw [hi] at e1; cases e1
        rw [List.getElem?_set_self hiσ] at e2
        cases e2
        exact ⟨u,r,.inr ⟨.inl hk,c,hc,hc'⟩⟩
      · rw [List.getElem?_set_ne (Ne.symm hj)] at e2
        obtain ⟨u',r',q⟩:=hl j y v' e1 e2 e3
        refine ⟨u',r',?_⟩
        rcases q with q | ⟨k,c',e,z'⟩
        · exact .inl q
        · refine .inr ⟨k,c',e,z'.sameBut hs ?_⟩
          rintro rfl
          exact hj (nodup_ix hN e1 (I.ok.inj _ _ _ e hc ▸ hi))
    · by_cases hcc:c'=c
      · subst hcc; exact ⟨_,hc'⟩
      · obtain ⟨w2,z2⟩:=I.cell y c' e
        exact ⟨w2,z2.sameBut hs hcc⟩
    · obtain ⟨e,n,ne,nf,d⟩:=I.pin p hp
      refine ⟨(hs.2 p.1 ?_).trans e,n,ne,nf,d⟩
      intro q
      rw [q,hoc] at e
      have q':oc=p.2:=Option.some.inj e
      exact d w' (by rw [← q']; exact hocd)
theorem store_ok {M:Model} {A:Around} {E:Value→Shared→Prop} {i:Nat} {x:Str} {v:V} {u:Value} {Q:Unit→Shared→Prop} (I:Inv X pins σ H s) (hN:X.N.Nodup) (hi:X.N[i]?=some x) (hx:Loc X.env.scope x) (r:RelV v u)
    (h:∀ s',Inv X pins (σ.set i (some v)) H s'→Q () s') (hf:X.fn x=true ∨ X.env.scope.names.lookup x=some .local:=by first | exact .inl rfl | exact .inr rfl | assumption):wpAny M A (storeName X.env x u) Q E s :=
  store_ok2 I hN hi hx r (fun s' I' _=>h s' I') hf
theorem Inv.call' {s':Shared} {ch:List Addr} (I:Inv X pins σ H s) (ho:s'.os=s.os) (u:Un (frs X.stack) ch H H' s.heap s'.heap) (hok:HOk X.prog X.w H' s'.heap) (hg:AllBare s'.gens)
    (hch:∀ b ∈ ch,(b ∈ X.ex ∨ X.s₀.heap.objs.size≤b)∧b ≠ X.env.locals∧(∀ x c,X.env.cells.lookup x=some c→c ≠ b)∧∀ p ∈ X.pn++pins,p.1 ≠ b):Inv X pins σ H' s':=by
  obtain ⟨h',g',d',t',o'⟩:=s'
  have e:o'=s.os:=ho
  subst e
  exact I.call (g':=g') (t':=t') (d':=d') u hok hg hch
end

abbrev XK:=Value→Option Addr→Hp→Prop
abbrev St:=List (Option V)
abbrev VK:=V→Hp→Prop
abbrev TE:=St→Hp→VK→Prop
abbrev TT:=St→Hp→(Bool→Hp→Prop)→Prop
abbrev TA:=St→Hp→(List V→Hp→Prop)→Prop
structure Ends where
  nx:St→Hp→Prop
  rt:VK
  bk:St→Hp→Prop:=fun _ _=>False
  ct:St→Hp→Prop:=fun _ _=>False
abbrev TS:=Ends→St→Hp→Prop

def EP (X:Cx) (pins:List (Addr × Obj)) (σ:St) (Q:VK) (u:Value) (s':Shared):Prop:=∃ v H',Inv X pins σ H' s'∧RelV v u∧Q v H'
def TP (X:Cx) (pins:List (Addr × Obj)) (σ:St) (Q:Bool→Hp→Prop) (b:Bool) (s':Shared):Prop:=∃ H',Inv X pins σ H' s'∧Q b H'
def AP (X:Cx) (pins:List (Addr × Obj)) (σ:St) (Q:List V→Hp→Prop) (us:List Value) (s':Shared):Prop:=∃ vs H',Inv X pins σ H' s'∧Vals vs us∧Q vs H'
def SP (X:Cx) (pins:List (Addr × Obj)) (D:Ends) (f:Flow) (s':Shared):Prop :=
  match f with
  | .next=>∃ σ' H',Inv X pins σ' H' s'∧D.nx σ' H'
  | .brk=>∃ σ' H',Inv X pins σ' H' s'∧D.bk σ' H'
  | .cont=>∃ σ' H',Inv X pins σ' H' s'∧D.ct σ' H'
  | .ret u=>∃ v σ' H',Inv X pins σ' H' s'∧RelV v u∧D.rt v H'

def PE (X:Cx) (e:Expr) (t:TE):Prop :=
  ∀ (pins:List (Addr × Obj)) (s:Shared) (σ:St) (H:Hp) (Q:VK),Inv X pins σ H s→t σ H Q→wpAny (model X.prog X.w) X.A (eval e X.env) (EP X pins σ Q) X.xe s
def PT (X:Cx) (e:Expr) (t:TT):Prop :=
  ∀ (pins:List (Addr × Obj)) (s:Shared) (σ:St) (H:Hp) (Q:Bool→Hp→Prop),Inv X pins σ H s→t σ H Q→wpAny (model X.prog X.w) X.A (isTrue e X.env (eval e X.env)) (TP X pins σ Q) X.xe s
def PW (X:Cx) (e:Expr) (t:TT):Prop :=
  ∀ (whole:Sem Value) (pins:List (Addr × Obj)) (s:Shared) (σ:St) (H:Hp) (Q:Bool→Hp→Prop),Inv X pins σ H s→t σ H Q→wpAny (model X.prog X.w) X.A (isTrue e X.env whole) (TP X pins σ Q) X.xe s
theorem PW.pt {X:Cx} {e:Expr} {t:TT} (h:PW X e t):PT X e t:=h _
def PA (X:Cx) (es:List Expr) (t:TA):Prop :=
  ∀ (pos:Pos) (pins:List (Addr × Obj)) (s:Shared) (σ:St) (H:Hp) (Q:List V→Hp→Prop),Inv X pins σ H s→t σ H Q→wpAny (model X.prog X.w) X.A (spliced (backTo pos (starEach es X.env))) (AP X pins σ Q) X.xe s
def PS (X:Cx) (st:Stmt) (t:TS):Prop :=
  ∀ (pins:List (Addr × Obj)) (s:Shared) (σ:St) (H:Hp) (D:Ends),Inv X pins σ H s→t D σ H→wpAny (model X.prog X.w) X.A (exec st X.env) (SP X pins D) X.xe s
def PSs (X:Cx) (st:List Stmt) (t:TS):Prop :=
  ∀ (pins:List (Addr × Obj)) (s:Shared) (σ:St) (H:Hp) (D:Ends),Inv X pins σ H s→t D σ H→wpAny (model X.prog X.w) X.A (execs st X.env) (SP X pins D) X.xe s
theorem thn {α:Type} {t:Sem α} {Q Q':α→Shared→Prop} {M:Model} {A:Around} {E:Value→Shared→Prop} {s:Shared} (h:wpAny M A t Q E s) (hQ:∀ a s,Q a s→Q' a s):wpAny M A t Q' E s:=wpAny_mono h hQ fun _ _ x=>x
end L2

namespace L2
open PySem PySem.Spec PyProof.Rows
section
variable {X:Cx}

def tVar (i:Nat):TE:=fun σ H Q=>∃ v,σ[i]?=some (some v)∧Q v H
def tC (v:V):TE:=fun _ H Q=>Q v H
theorem pe_var {i:Nat} {x:Str} {pos:Pos} (hN:X.N[i]?=some x) (hv:Vis X.env.scope x) (hd:(x == ("__debug__":Str))=false:=by decide) (hcd:(x == ("__classdict__":Str))=false:=by decide):PE X (.Name x pos) (tVar i):=by
  intro pins s σ H Q I h
  obtain ⟨v,e,h⟩:=h
  obtain ⟨m,hn,hl⟩:=I.loc
  obtain ⟨u,r,l⟩:=hl i x v hN e hv
  have fin:EP X pins σ Q u s:=⟨v,H,I,r,h⟩
  rcases l with ⟨hk,hm⟩ | ⟨hk,c,hc,hcell⟩
  · exact wpAny_Name (wpAny_loadName_local I.ok.kind hk hn hm fin) hd
  · rcases hk with hk | hk
    · exact wpAny_Name (wpAny_loadName_cell I.ok.kind hk hc hcell fin) hd
    · exact wpAny_Name (wpAny_loadName_free I.ok.kind hk hc hcell fin hcd) hd
theorem pe_int {i j pos}:PE X (.Constant (.int i) j pos) (tC (.int i)):=fun _ _ _ H _ I h=>wpAny_Constant_int ⟨.int i,H,I.tok _,⟨_,rfl⟩,h⟩
theorem pe_bl {b j pos}:PE X (.Constant (.bool b) j pos) (tC (.bl b)):=fun _ _ _ H _ I h=>Constant_bool ⟨.bl b,H,I,rfl,h⟩
theorem pe_non {j pos}:PE X (.Constant .none j pos) (tC .non):=fun _ _ _ H _ I h=>Constant_none ⟨.non,H,I,rfl,h⟩
theorem pe_str {x j pos}:PE X (.Constant (.str x) j pos) (tC (.str x)):=fun _ _ _ H _ I h=>Calls.Constant_str ⟨.str x,H,I.tok _,⟨_,rfl⟩,h⟩

def Gl (X:Cx) (x:Str):Prop:=X.env.kindOf x=some .globalImplicit
theorem ld_glob {E:Value→Shared→Prop} {pins:List (Addr × Obj)} {s:Shared} {σ:St} {H:Hp} {x:Str} {u:Value} {pos:Pos} {Q:Value→Shared→Prop} (I:Inv X pins σ H s) (hg:Gl X x) (hm:X.mg x=some u) (h:Q u s)
    (hd:(x == ("__debug__":Str))=false:=by decide):wpAny (model X.prog X.w) X.A (eval (.Name x pos) X.env) Q E s :=
  Calls.Name_function_global I.ok.kind hg (Calls.loadGlobal_global (by rw [I.ok.glob]; exact I.mod.glob.keeps I.bk) hm h) hd
theorem ld_blt {E:Value→Shared→Prop} {pins:List (Addr × Obj)} {s:Shared} {σ:St} {H:Hp} {x:Str} {u:Value} {pos:Pos} {Q:Value→Shared→Prop} (I:Inv X pins σ H s) (hg:Gl X x) (hm:X.mg x=none) (hv:bootBuiltins x=some u) (h:Q u s)
    (hn:x ≠ "__name__":=by decide) (hd:(x == ("__debug__":Str))=false:=by decide):wpAny (model X.prog X.w) X.A (eval (.Name x pos) X.env) Q E s:=by
  obtain ⟨mb,h1,h2⟩:=I.mod.blt
  exact Calls.Name_function_global I.ok.kind hg (Calls.loadGlobal_builtin (by rw [I.ok.glob]; exact I.mod.glob.keeps I.bk) hm (by rw [I.ok.blt]; exact h1.keeps I.bk) ((h2 x hn).trans hv) h) hd
theorem pe_glob {x:Str} {v:V} {u:Value} {pos:Pos} (hg:Gl X x) (hm:X.mg x=some u) (r:RelV v u) (hd:(x == ("__debug__":Str))=false:=by decide):PE X (.Name x pos) (tC v) :=
  fun _ _ _ H _ I h=>ld_glob I hg hm ⟨v,H,I,r,h⟩ hd
theorem pe_bltn {x:Str} {v:V} {u:Value} {pos:Pos} (hg:Gl X x) (hm:X.mg x=none) (hv:bootBuiltins x=some u) (r:RelV v u) (hn:x ≠ "__name__":=by decide) (hd:(x == ("__debug__":Str))=false:=by decide):PE X (.Name x pos) (tC v) :=
  fun _ _ _ H _ I h=>ld_blt I hg hm hv ⟨v,H,I,r,h⟩ hn hd

variable {a b:Expr} {ta tb:TE} {pos:Pos}
def tB (t:TE):TT:=fun σ H Q=>t σ H fun x H1=>∃ c,x=.bl c∧Q c H1
theorem pt_val {e:Expr} {t:TE} (h:PE X e t) (he:∀ whole,isTrue e X.env whole=(do let v ← whole; standAt e.pos; holding [v] (truthy v)):=by intro _; rfl):PT X e (tB t):=by
  intro pins s σ H Q I hw
  refine isTrue_plain (thn (h pins s σ H _ I hw) fun v s1 ⟨x,H1,I1,r1,q1⟩=>?_) (he _)
  obtain ⟨d,rfl,q⟩:=q1
  cases r1
  exact wpAny_truthy_bool ⟨H1,I1,q⟩

variable {tA tB':TT} {rest:List Expr}
def tAnd (t u:TT):TT:=fun σ H Q=>t σ H fun c H1=>if c=true then u σ H1 Q else Q false H1
def tOr (t u:TT):TT:=fun σ H Q=>t σ H fun c H1=>if c=true then Q true H1 else u σ H1 Q
def tNot (t:TT):TT:=fun σ H Q=>t σ H fun c H1=>Q (!c) H1
theorem pw_and1 (ha:PT X a tA):PW X (.BoolOp .And [a] pos) tA:=by
  intro wh pins s σ H Q I h
  refine isTrue_and (thn (ha pins s σ H Q I h) fun c s1 e=>?_)
  cases c with
  | true=>exact isTrue_and_nil e
  | false=>exact e
theorem pw_or1 (ha:PT X a tA):PW X (.BoolOp .Or [a] pos) tA:=by
  intro wh pins s σ H Q I h
  refine isTrue_or (thn (ha pins s σ H Q I h) fun c s1 e=>?_)
  cases c with
  | false=>exact isTrue_or_nil e
  | true=>exact e
theorem pw_and (ha:PT X a tA) (hb:PW X (.BoolOp .And (b::rest) pos) tB'):PW X (.BoolOp .And (a::b::rest) pos) (tAnd tA tB'):=by
  intro wh pins s σ H Q I h
  refine isTrue_and (thn (ha pins s σ H _ I h) fun c s1 ⟨H1,I1,q1⟩=>?_)
  cases c with
  | true=>exact hb wh pins s1 σ H1 Q I1 q1
  | false=>exact ⟨H1,I1,q1⟩
theorem pw_or (ha:PT X a tA) (hb:PW X (.BoolOp .Or (b::rest) pos) tB'):PW X (.BoolOp .Or (a::b::rest) pos) (tOr tA tB'):=by
  intro wh pins s σ H Q I h
  refine isTrue_or (thn (ha pins s σ H _ I h) fun c s1 ⟨H1,I1,q1⟩=>?_)
  cases c with
  | true=>exact ⟨H1,I1,q1⟩
  | false=>exact hb wh pins s1 σ H1 Q I1 q1
theorem pt_not (ha:PT X a tA):PT X (.UnaryOp .Not a pos) (tNot tA):=by
  intro pins s σ H Q I h
  exact isTrue_not (ha pins s σ H (fun c H1=>Q (!c) H1) I h)
def tAndV (ta tb:TE):TE:=fun σ H Q=>ta σ H fun x H1=>∃ c,x=.bl c∧if c=true then tb σ H1 Q else Q (.bl false) H1
theorem pe_one {op} {t:TE} (h:PE X a t):PE X (.BoolOp op [a] pos) t:=fun pins s σ H Q I hw=>BoolOp_one (h pins s σ H Q I hw)
theorem pe_and (ha:PE X a ta) (hb:PE X (.BoolOp .And (b::rest) pos) tb):PE X (.BoolOp .And (a::b::rest) pos) (tAndV ta tb):=by
  intro pins s σ H Q I h
  refine BoolOp_and (thn (ha pins s σ H _ I h) fun v s1 ⟨x,H1,I1,r1,q1⟩=>?_)
  obtain ⟨c,rfl,q1⟩:=q1
  cases r1
  refine wpAny_truthy_bool ?_
  cases c with
  | true=>exact hb pins s1 σ H1 Q I1 q1
  | false=>exact ⟨.bl false,H1,I1,rfl,q1⟩
def tIf (t:TT) (ta tb:TE):TE:=fun σ H Q=>t σ H fun c H1=>if c=true then ta σ H1 Q else tb σ H1 Q
theorem pe_ifExp {c:Expr} (hc:PT X c tA) (ha:PE X a ta) (hb:PE X b tb):PE X (.IfExp c a b pos) (tIf tA ta tb):=by
  intro pins s σ H Q I h
  refine wpAny_IfExp (thn (hc pins s σ H _ I h) fun d s1 ⟨H1,I1,q1⟩=>?_)
  cases d with
  | true=>exact ha pins s1 σ H1 Q I1 q1
  | false=>exact hb pins s1 σ H1 Q I1 q1
end
end L2

namespace L2
open PySem PySem.Spec PyProof.Rows

def SqL (K:PySem.W.Frag) (H:Hp) (a:Addr) (xs:List V):Prop :=
  Rd H a (.lst xs) ∨
    ∃ (o:Obj) (its:Array Value) (n:Nat),K.lookup a=some o∧o.cls=.type "list"∧o.dict=none∧o.data=.seq its n∧its.size≤sizeLine∧Vals xs its.toList
def SqT (K:PySem.W.Frag) (H:Hp) (a:Addr) (xs:List V):Prop :=
  Rd H a (.tup xs) ∨
    ∃ (o:Obj) (its:Array Value) (n:Nat),K.lookup a=some o∧o.cls=.type "tuple"∧o.dict=none∧o.data=.seq its n∧its.size≤sizeLine∧Vals xs its.toList
def absV:Value→Option V
  | .none=>some .non
  | .bool b=>some (.bl b)
  | .int i _=>some (.int i)
  | .str x _=>some (.str x)
  | .bytes b _=>some (.byt b)
  | .float b _=>some (.flt b)
  | .ref a=>some (.ref a)
  | .type n=>some (.ty n)
  | _=>none
theorem RelV.abs {x:V} {u:Value} (r:RelV x u):absV u=some x:=by
  cases x with
  | non=>cases r; rfl
  | bl _=>cases r; rfl
  | int _=>obtain ⟨t,rfl⟩:=r; rfl
  | str _=>obtain ⟨t,rfl⟩:=r; rfl
  | byt _=>obtain ⟨t,rfl⟩:=r; rfl
  | flt _=>obtain ⟨t,rfl⟩:=r; rfl
  | ref _=>cases r; rfl
  | ty _=>cases r; rfl
theorem RelV.inj {x y:V} {u:Value} (r:RelV x u) (q:RelV y u):x=y:=Option.some.inj (r.abs.symm.trans q.abs)
theorem Vals.inj:∀ {xs ys:List V} {us:List Value},Vals xs us→Vals ys us→xs=ys
  | _,_,_,.nil,.nil=>rfl
  | _,_,_,.cons r t,.cons r' t'=>by rw [r.inj r',Vals.inj t t']
section
variable {X:Cx} {pins:List (Addr × Obj)} {σ:St} {H:Hp} {s:Shared} {a:Addr} {xs ys:List V}
theorem SqL.of {K:PySem.W.Frag} (h:H a=some (.lst xs)):SqL K H a xs:=.inl (.inl h)
theorem SqT.of {K:PySem.W.Frag} (h:H a=some (.tup xs)):SqT K H a xs:=.inl (.inl h)
theorem Inv.list (I:Inv X pins σ H s) (h:SqL X.K H a xs):∃ its:List Value,Vals xs its∧PlainL s.heap a its.toArray∧xs.length≤sizeLine:=by
  rcases h with h | ⟨o,its,n,hk,hc,hd,hs,hz,r⟩
  · obtain ⟨z,its,n,r,e⟩:=h.ok I.hok
    exact ⟨its,r,⟨_,n,e,rfl,rfl,rfl⟩,z⟩
  · refine ⟨its.toList,r,⟨o,n,I.kIn a o hk,hc,hd,by simpa using hs⟩,?_⟩
    have e:=r.length
    simp only [Array.length_toList] at e
    omega
theorem Inv.tuple (I:Inv X pins σ H s) (h:SqT X.K H a xs):∃ its:List Value,Vals xs its∧IsTup s.heap a its.toArray∧xs.length≤sizeLine:=by
  rcases h with h | ⟨o,its,n,hk,hc,_,hs,hz,r⟩
  · obtain ⟨z,its,r,p⟩:=h.ok I.hok
    exact ⟨its,r,p.tup,z⟩
  · refine ⟨its.toList,r,⟨o,I.kIn a o hk,hc,n,by simpa using hs⟩,?_⟩
    have e:=r.length
    simp only [Array.length_toList] at e
    omega
theorem Inv.tupleN (I:Inv X pins σ H s) (h:SqT X.K H a xs):∃ o,s.heap.get? a=some o∧o.cls=.type "tuple"∧o.dict=none:=by
  rcases h with h | ⟨o,its,n,hk,hc,hd,_⟩
  · obtain ⟨z,its,r,⟨o,e,c,n,_,d⟩⟩:=h.ok I.hok
    exact ⟨o,e,c,d⟩
  · exact ⟨o,I.kIn a o hk,hc,hd⟩
theorem Inv.list_inj (I:Inv X pins σ H s) (h:SqL X.K H a xs) (h':SqL X.K H a ys):xs=ys:=by
  obtain ⟨its,r,⟨o,n,e,_,_,d⟩,_⟩:=I.list h
  obtain ⟨its',r',⟨o',n',e',_,_,d'⟩,_⟩:=I.list h'
  rw [e] at e'; cases e'
  rw [d] at d'
  injection d' with d1 _
  have:its=its':=by simpa using congrArg Array.toList d1
  subst this
  exact r.inj r'
theorem Inv.tuple_inj (I:Inv X pins σ H s) (h:SqT X.K H a xs) (h':SqT X.K H a ys):xs=ys:=by
  obtain ⟨its,r,⟨o,e,_,n,d⟩,_⟩:=I.tuple h
  obtain ⟨its',r',⟨o',e',_,n',d'⟩,_⟩:=I.tuple h'
  rw [e] at e'; cases e'
  rw [d] at d'
  injection d' with d1 _
  have:its=its':=by simpa using congrArg Array.toList d1
  subst this
  exact r.inj r'
end

abbrev Cx.wish (X:Cx) (E:Value→Shared→Prop):Cx:={ X with xe:=E }
abbrev Cx.nox (X:Cx):Cx:=X.wish fun _ _=>False
theorem Cx.Ok.wish {X:Cx} (ok:X.Ok) (E:Value→Shared→Prop):(X.wish E).Ok :=
  ⟨ok.mod,ok.kind,ok.glob,ok.blt,ok.above,ok.inj,ok.has,ok.cab,ok.hd,ok.frames,ok.stk,ok.exf,ok.bs,ok.bsz,ok.noex,ok.exfs,ok.funs,ok.frf⟩
theorem Cx.Ok.unwish {X:Cx} {E:Value→Shared→Prop} (ok:(X.wish E).Ok):X.Ok :=
  ⟨ok.mod,ok.kind,ok.glob,ok.blt,ok.above,ok.inj,ok.has,ok.cab,ok.hd,ok.frames,ok.stk,ok.exf,ok.bs,ok.bsz,ok.noex,ok.exfs,ok.funs,ok.frf⟩
section
variable {X:Cx} {pins:List (Addr × Obj)} {σ:St} {H:Hp} {s:Shared} {E:Value→Shared→Prop}
theorem Inv.wish (I:Inv X pins σ H s) (E:Value→Shared→Prop):Inv (X.wish E) pins σ H s:=⟨I.ok.wish E,I.os,I.bare,I.base,I.loc,I.cell,I.free,I.freeC,I.pin,I.hok,I.len⟩
theorem Inv.unwish (I:Inv (X.wish E) pins σ H s):Inv X pins σ H s:=⟨I.ok.unwish,I.os,I.bare,I.base,I.loc,I.cell,I.free,I.freeC,I.pin,I.hok,I.len⟩
theorem SP.unwish {D:Ends} {f:Flow} {s':Shared} (h:SP (X.wish E) pins D f s'):SP X pins D f s':=by
  cases f with
  | next=>obtain ⟨σ',H',I,q⟩:=h; exact ⟨σ',H',I.unwish,q⟩
  | brk=>obtain ⟨σ',H',I,q⟩:=h; exact ⟨σ',H',I.unwish,q⟩
  | cont=>obtain ⟨σ',H',I,q⟩:=h; exact ⟨σ',H',I.unwish,q⟩
  | ret u=>obtain ⟨v,σ',H',I,r,q⟩:=h; exact ⟨v,σ',H',I.unwish,r,q⟩
theorem PE.nox {e:Expr} {t:TE} (h:PE X.nox e t):PE X e t:=fun pins s σ H Q I hw =>
  wpAny_mono (h pins s σ H Q (I.wish _) hw) (fun _ _ ⟨v,H',I',r,q⟩=>⟨v,H',I'.unwish,r,q⟩) fun _ _ z=>False.elim z
theorem PT.nox {e:Expr} {t:TT} (h:PT X.nox e t):PT X e t:=fun pins s σ H Q I hw =>
  wpAny_mono (h pins s σ H Q (I.wish _) hw) (fun _ _ ⟨H',I',q⟩=>⟨H',I'.unwish,q⟩) fun _ _ z=>False.elim z
theorem PSs.nox {st:List Stmt} {t:TS} (h:PSs X.nox st t):PSs X st t:=fun pins s σ H D I hw =>
  wpAny_mono (h pins s σ H D (I.wish _) hw) (fun _ _ q=>q.unwish) fun _ _ z=>False.elim z
end

section
variable {X:Cx} {st:Stmt} {rest:List Stmt} {t u:TS} {e:Expr} {te:TE} {pos:Pos}
def tNext:TS:=fun D σ H=>D.nx σ H
def tSeq (t u:TS):TS:=fun D σ H=>t { D with nx:=u D } σ H
theorem pss_nil:PSs X [] tNext:=fun _ _ σ H _ I h=>wpAny_execs_nil ⟨σ,H,I,h⟩
theorem pss_cons (h1:PS X st t) (h2:PSs X rest u):PSs X (st::rest) (tSeq t u):=by
  intro pins s σ H D I h
  refine wpAny_execs_cons (thn (h1 pins s σ H { D with nx:=u D } I h) fun f s1 q=>?_)
  cases f with
  | next =>
    obtain ⟨σ',H',I',q⟩:=q
    exact h2 pins s1 σ' H' D I' q
  | ret v=>exact q
  | brk=>exact q
  | cont=>exact q
theorem pss_one (h1:PS X st t):PSs X [st] t:=by
  intro pins s σ H D I h
  refine wpAny_execs_cons (thn (h1 pins s σ H D I h) fun f s1 q=>?_)
  cases f with
  | next=>exact wpAny_execs_nil q
  | ret v=>exact q
  | brk=>exact q
  | cont=>exact q
theorem Inv.quiet {pins:List (Addr × Obj)} {σ:St} {H:Hp} {s:Shared} (I:Inv X pins σ H s):interactive X.env=false:=by simp [interactive,I.ok.kind]
def tDrop (te:TE):TS:=fun D σ H=>te σ H fun _ H1=>D.nx σ H1
theorem ps_expr (he:PE X e te) (hs:swapsWith e none pos.line X.env=pure false:=by rfl):PS X (.Expr e pos) (tDrop te):=by
  intro pins s σ H D I h
  exact wpAny_Expr_any (thn (he pins s σ H _ I h) fun v s1 ⟨x,H1,I1,r1,q1⟩=>⟨σ,H1,I1,q1⟩) I.quiet hs
def tRet (te:TE):TS:=fun D σ H=>te σ H D.rt
theorem ps_ret (he:PE X e te):PS X (.Return (some e) pos) (tRet te):=by
  intro pins s σ H D I h
  exact wpAny_Return_some (thn (he pins s σ H _ I h) fun v s1 ⟨x,H1,I1,r1,q1⟩=>⟨x,σ,H1,I1,r1,q1⟩)
def tIfS (c:TT) (t u:TS):TS:=fun D σ H=>c σ H fun b H1=>if b=true then t D σ H1 else u D σ H1
theorem ps_if {c:Expr} {a b:List Stmt} {tc:TT} (hc:PT X c tc) (ha:PSs X a t) (hb:PSs X b u):PS X (.If c a b pos) (tIfS tc t u):=by
  intro pins s σ H D I h
  refine wpAny_If (thn (hc pins s σ H _ I h) fun d s1 ⟨H1,I1,q1⟩=>?_)
  cases d with
  | true=>exact ha pins s1 σ H1 D I1 q1
  | false=>exact hb pins s1 σ H1 D I1 q1
end

abbrev TG:=V→St→Hp→(St→Hp→Prop)→Prop
abbrev TGs:=List V→St→Hp→(St→Hp→Prop)→Prop
def PG (X:Cx) (target:Expr) (t:TG):Prop :=
  ∀ (pins:List (Addr × Obj)) (s:Shared) (σ:St) (H:Hp) (v:V) (u:Value) (Q:St→Hp→Prop),Inv X pins σ H s→RelV v u→t v σ H Q →
    wpAny (model X.prog X.w) X.A (assign target X.env u) (fun _ s'=>∃ σ' H',Inv X pins σ' H' s'∧Q σ' H') X.xe s
def PGs (X:Cx) (ts:List Expr) (t:TGs):Prop :=
  ∀ (pins:List (Addr × Obj)) (s:Shared) (σ:St) (H:Hp) (vs:List V) (us:List Value) (Q:St→Hp→Prop),Inv X pins σ H s→Vals vs us→t vs σ H Q →
    wpAny (model X.prog X.w) X.A (assignInOrder ((assignEach ts X.env).map (·.2)) us) (fun _ s'=>∃ σ' H',Inv X pins σ' H' s'∧Q σ' H') X.xe s
section
variable {X:Cx} {pos:Pos}
def gName (i:Nat):TG:=fun v σ H Q=>Q (σ.set i (some v)) H
theorem pg_name {i:Nat} {x:Str} (hN:X.N.Nodup) (hi:X.N[i]?=some x) (hx:Loc X.env.scope x) (hf:X.fn x=true ∨ X.env.scope.names.lookup x=some .local:=by first | exact .inl rfl | exact .inr rfl | assumption):PG X (.Name x pos) (gName i):=by
  intro pins s σ H v u Q I r h
  exact wpAny_assign_Name (store_ok I hN hi hx r (fun s' I'=>⟨_,H,I',h⟩) hf)
def gNil:TGs:=fun vs σ H Q=>vs=[]∧Q σ H
def gCons (t:TG) (u:TGs):TGs:=fun vs σ H Q=>∃ v r,vs=v::r∧t v σ H fun σ' H'=>u r σ' H' Q
theorem pgs_nil:PGs X [] gNil:=by
  intro pins s σ H vs us Q I r h
  obtain ⟨e,h⟩:=h
  subst e
  cases r
  exact assignInOrder_nil ⟨σ,H,I,h⟩
theorem pgs_cons {e:Expr} {es:List Expr} {t:TG} {u:TGs} (h1:PG X e t) (h2:PGs X es u)
    (hs:(assignEach (e::es) X.env).map (·.2)=assign e X.env::(assignEach es X.env).map (·.2):=by rfl):PGs X (e::es) (gCons t u):=by
  intro pins s σ H vs us Q I r h
  obtain ⟨v,vr,e1,h⟩:=h
  subst e1
  cases r with
  | cons r rr =>
    rw [hs]
    refine assignInOrder_cons (thn (h1 pins s σ H _ _ _ I r h) fun _ s1 ⟨σ1,H1,I1,q1⟩=>?_)
    exact h2 pins s1 σ1 H1 _ _ Q I1 rr q1
def gTup (K:PySem.W.Frag) (n:Nat) (t:TGs):TG:=fun v σ H Q=>∃ a xs,v=.ref a∧SqT K H a xs∧xs.length=n∧t xs σ H Q
theorem pg_tup {es:List Expr} {k:Nat} {t:TGs} {n:Nat} (hc:X.calm=true) (h:PGs X es t)
    (hn:(assignEach es X.env).length=n:=by rfl) (hst:(assignEach es X.env).findIdx? (·.1)=none:=by rfl):PG X (.Tuple es k pos) (gTup X.K n t):=by
  intro pins s σ H v u Q I r hw
  obtain ⟨a,xs,e1,hq,hl,hw⟩:=hw
  subst e1
  cases r
  obtain ⟨its,rv,ht,hz⟩:=I.tuple hq
  refine assign_Tuple_tuple (I.ok.hd hc) ht (by simp [hn,← hl,rv.length]) hst fun h' hx=>?_
  have I1:Inv X pins σ H { s with heap:=h' }:=I.kept (t':=s.toks) fun b o e=>hx b o (Nat.ne_of_lt (Heap.lt_size e)) e
  exact h pins _ σ H xs _ Q I1 (by simpa using rv) hw
def tAsg (te:TE) (g:TG):TS:=fun D σ H=>te σ H fun x H1=>g x σ H1 D.nx
theorem ps_asg {tg e:Expr} {te:TE} {g:TG} (he:PE X e te) (hg:PG X tg g) (hs:swapsWithSole [tg] e pos.line X.env=pure false:=by rfl) (hw:swappedStores [tg] e X.env=pure none:=by rfl)
    (h1:(assignEach [tg] X.env).map (·.2)=[assign tg X.env]:=by rfl):PS X (.Assign [tg] e pos) (tAsg te g):=by
  intro pins s σ H D I h
  refine wpAny_Assign_stores (thn (he pins s σ H _ I h) fun v s1 ⟨x,H1,I1,r1,q1⟩=>?_) hs hw
  rw [h1]
  exact thn (hg pins s1 σ H1 x v _ I1 r1 q1) fun _ s2 q=>q
theorem ps_set {i:Nat} {x:Str} {e:Expr} {te:TE} {pos':Pos} (hN:X.N.Nodup) (hi:X.N[i]?=some x) (hx:Loc X.env.scope x) (he:PE X e te) (hs:swapsWith e (some (.Name x pos')) pos.line X.env=pure false:=by rfl) (hf:X.fn x=true ∨ X.env.scope.names.lookup x=some .local:=by first | exact .inl rfl | exact .inr rfl | assumption) :
    PS X (.Assign [.Name x pos'] e pos) (tAsg te (gName i)):=by
  intro pins s σ H D I h
  refine wpAny_Assign_Name (thn (he pins s σ H _ I h) fun v s1 ⟨y,H1,I1,r1,q1⟩=>?_) hs
  exact store_ok I1 hN hi hx r1 (fun s2 I2=>⟨_,H1,I2,q1⟩) hf
end

section
variable {X:Cx} {pos:Pos}
end

structure It where
  go:Nat→Hp→Prop
  yld:Nat→Hp→V→Hp→Prop
  stop:Nat→Hp→Prop
def FpOk (X:Cx) (pins:List (Addr × Obj)) (H:Hp) (b:Addr):Prop :=
  H b=none∧b ≠ X.env.locals∧b ∉ X.fs∧(b ∈ X.ex ∨ X.s₀.heap.objs.size≤b)∧(∀ x c,X.env.cells.lookup x=some c→c ≠ b)∧∀ p ∈ X.pn++pins,p.1 ≠ b
theorem Inv.fpOk {X:Cx} {pins:List (Addr × Obj)} {σ:St} {H H':Hp} {s:Shared} {b:Addr} (I:Inv X pins σ H s) (hb:s.heap.objs.size≤b) (hn:H' b=none):FpOk X pins H' b:=by
  refine ⟨hn,Nat.ne_of_gt (Nat.lt_of_lt_of_le I.lt hb),I.nofs hb,.inr (Nat.le_trans I.sz hb),fun x c e z=>?_,fun p hp z=>?_⟩
  · obtain ⟨v,q⟩:=I.cell x c e
    exact absurd (Nat.lt_of_lt_of_le q.lt (by rw [z]; exact hb)) (Nat.lt_irrefl _)
  · exact absurd (Nat.lt_of_lt_of_le (Heap.lt_size (I.pin p hp).1) (by rw [z]; exact hb)) (Nat.lt_irrefl _)
structure Turn (P:Program) (w:World) (K:PySem.W.Frag) (tg:Expr) (J:It) (fp:List Addr) (it:Addr) (tn:Nat→Heap→Prop):Prop where
  mem:it ∈ fp
  obj:∀ i h,tn i h→∀ b ∈ fp,∃ o,h.get? b=some o∧∀ v,o.data ≠ .cell v
  keep:∀ i h h',tn i h→(∀ b ∈ fp,∀ o,h.get? b=some o→h'.get? b=some o)→tn i h'
  item:∀ (X:Cx),X.prog=P→X.w=w→X.K=K→X.calm=true→∀ (i:Nat) (pins:List (Addr × Obj)) (s:Shared) (σ:St) (H:Hp) (E:Value→Shared→Prop),Inv X pins σ H s→(∀ b ∈ fp,FpOk X pins H b)→tn i s.heap→J.go i H →
    wpAny (model P w) X.A (pyNext (.ref it)) (fun r s1=>∃ u,r=some u ∧
      wpAny (model P w) X.A (letOwnedTupleGo tg (.ref it) u) (fun _ s2=>∃ x H',Inv X pins σ H' s2∧RelV x u∧J.yld i H x H'∧tn (i + 1) s2.heap∧∀ b ∈ fp,H' b=none) E s1) E s
  done:∀ (X:Cx),X.prog=P→X.w=w→X.K=K→X.calm=true→∀ (i:Nat) (pins:List (Addr × Obj)) (s:Shared) (σ:St) (H:Hp) (E:Value→Shared→Prop),Inv X pins σ H s→(∀ b ∈ fp,FpOk X pins H b)→tn i s.heap→J.stop i H →
    wpAny (model P w) X.A (pyNext (.ref it)) (fun r s1=>r=none∧Inv X pins σ H s1) E s
  self:∀ (A:Around) (i:Nat) (s:Shared) (Q:Value→Shared→Prop) (E:Value→Shared→Prop),tn i s.heap→Q (.ref it) s→wpAny (model P w) A (pyIter (.ref it)) Q E s
abbrev TI:=St→Hp→(It→Hp→Prop)→Prop
def PIE (X:Cx) (pins:List (Addr × Obj)) (σ:St) (tg:Expr) (R:It→Hp→Prop) (itv:Value) (s2:Shared):Prop :=
  ∃ (it:Addr) (fp:List Addr) (tn:Nat→Heap→Prop) (J:It) (H':Hp),itv=.ref it∧Inv X pins σ H' s2∧Turn X.prog X.w X.K tg J fp it tn∧tn 0 s2.heap∧(∀ b ∈ fp,FpOk X pins H' b)∧R J H'
def PI (X:Cx) (tg iter:Expr) (wi:TI):Prop :=
  ∀ (pins:List (Addr × Obj)) (s:Shared) (σ:St) (H:Hp) (R:It→Hp→Prop),Inv X pins σ H s→wi σ H R →
    wpAny (model X.prog X.w) X.A (eval iter X.env) (fun v s1=>wpAny (model X.prog X.w) X.A (pyIter v) (PIE X pins σ tg R) X.xe s1) X.xe s

theorem go_of {M:Model} {A:Around} {E:Value→Shared→Prop} {s:Shared} {tg:Expr} {it:Addr} {u:Value} {o:Obj} {n:String} {vs:Array Value} {Q:Unit→Shared→Prop} (ho:s.heap.get? it=some o) (hc:o.cls=.type n) (hd:o.data=.fields vs)
    (hn:["enumerate","zip","dict_itemiterator","dict_reverseitemiterator","odict_iterator","itertools.zip_longest","itertools.pairwise"].contains n=false) (hQ:Q () s):wpAny M A (letOwnedTupleGo tg (.ref it) u) Q E s:=by
  unfold letOwnedTupleGo
  cases tg <;> first
    | exact wpAny_pure hQ
    | (cases u <;> first
        | exact wpAny_pure hQ
        | (refine wpAny_bind (wpAny_load ho ?_)
           rw [hc,hd]
           show wpAny M A (if (["enumerate","zip","dict_itemiterator","dict_reverseitemiterator","odict_iterator","itertools.zip_longest","itertools.pairwise"].contains n && vs[0]? == some (rawInt _))=true then _ else _) Q E s
           rw [if_neg (by intro h; rw [hn,Bool.false_and] at h; cases h)]
           exact wpAny_pure hQ))

def Itl (K:PySem.W.Frag) (a:Addr):It :=
  ⟨fun i H=>∃ xs x,SqL K H a xs∧xs[i]?=some x,fun i H x H'=>H'=H∧∀ xs,SqL K H a xs→xs[i]?=some x,fun i H=>∃ xs,SqL K H a xs∧xs.length≤i⟩
def Itt (K:PySem.W.Frag) (a:Addr):It :=
  ⟨fun i H=>∃ xs x,SqT K H a xs∧xs[i]?=some x,fun i H x H'=>H'=H∧∀ xs,SqT K H a xs→xs[i]?=some x,fun i H=>∃ xs,SqT K H a xs∧xs.length≤i⟩
def Itr (lo:Int) (n:Nat):It:=⟨fun i _=>i < n,fun i H x H'=>H'=H∧x=.int (lo + i),fun i _=>n≤i⟩
theorem turn_list {P:Program} {w:World} {K:PySem.W.Frag} {tg:Expr} (a it:Addr):Turn P w K tg (Itl K a) [it] it (fun i h=>h.IsListIter it a i) where
  mem:=by simp
  obj:=fun i h st b hb=>by
    have e:b=it:=by simpa using hb
    subst e
    obtain ⟨o,e,c,d⟩:=st
    exact ⟨o,e,fun v z=>by rw [d] at z; cases z⟩
  keep:=fun i h h' st k=>st.at fun o e=>k it (by simp) o e
  item:=by
    intro X hP hw hK hc i pins s σ H E I hf st hg
    subst hP hw hK
    obtain ⟨xs,x,hq,hx⟩:=hg
    obtain ⟨its,rv,p,hz⟩:=I.list hq
    obtain ⟨u,hu,ru⟩:=rv.get hx
    obtain ⟨f0,f1,f2,f3,f4,f5⟩:=hf it (by simp)
    refine wpAny_pyNext_list_item st p.isList (x:=u) (by simpa using hu) fun h' st' sb=>?_
    have I1:Inv X pins σ H { s with heap:=h' }:=I.turned (t':=s.toks) (fun b o hb e=>(sb.2 b hb).trans e) f0 f1 f3 f4 f5
    obtain ⟨o,e,c,d⟩:=id st'
    exact ⟨u,rfl,go_of (s:={ s with heap:=h' }) e c d (by decide) ⟨x,H,I1,ru,⟨rfl,fun ys hy=>by rw [I.list_inj hy hq]; exact hx⟩,st',fun b hb=>(hf b hb).1⟩⟩
  done:=by
    intro X hP hw hK hc i pins s σ H E I hf st hg
    subst hP hw hK
    obtain ⟨xs,hq,hx⟩:=hg
    obtain ⟨its,rv,p,hz⟩:=I.list hq
    obtain ⟨f0,f1,f2,f3,f4,f5⟩:=hf it (by simp)
    have hl:=rv.length
    exact wpAny_pyNext_list_end (I.ok.hd hc) st p.isList (by simp; omega) fun h' eb=>⟨rfl,I.turned (t':=s.toks) (fun b o hb e=>eb b o hb e) f0 f1 f3 f4 f5⟩
  self:=fun _ _ _ _ _ st h=>wpAny_pyIter_listiter st h
theorem turn_tuple {P:Program} {w:World} {K:PySem.W.Frag} {tg:Expr} (a it:Addr):Turn P w K tg (Itt K a) [it] it (fun i h=>h.IsTupleIter it a i) where
  mem:=by simp
  obj:=fun i h st b hb=>by
    have e:b=it:=by simpa using hb
    subst e
    obtain ⟨o,e,c,d⟩:=st
    exact ⟨o,e,fun v z=>by rw [d] at z; cases z⟩
  keep:=fun i h h' st k=>st.at fun o e=>k it (by simp) o e
  item:=by
    intro X hP hw hK hc i pins s σ H E I hf st hg
    subst hP hw hK
    obtain ⟨xs,x,hq,hx⟩:=hg
    obtain ⟨its,rv,p,hz⟩:=I.tuple hq
    obtain ⟨u,hu,ru⟩:=rv.get hx
    obtain ⟨f0,f1,f2,f3,f4,f5⟩:=hf it (by simp)
    refine wpAny_pyNext_tuple_item st (show s.heap.IsTuple a its.toArray from p) (x:=u) (by simpa using hu) fun h' st' sb=>?_
    have I1:Inv X pins σ H { s with heap:=h' }:=I.turned (t':=s.toks) (fun b o hb e=>(sb.2 b hb).trans e) f0 f1 f3 f4 f5
    obtain ⟨o,e,c,d⟩:=id st'
    exact ⟨u,rfl,go_of (s:={ s with heap:=h' }) e c d (by decide) ⟨x,H,I1,ru,⟨rfl,fun ys hy=>by rw [I.tuple_inj hy hq]; exact hx⟩,st',fun b hb=>(hf b hb).1⟩⟩
  done:=by
    intro X hP hw hK hc i pins s σ H E I hf st hg
    subst hP hw hK
    obtain ⟨xs,hq,hx⟩:=hg
    obtain ⟨its,rv,p,hz⟩:=I.tuple hq
    obtain ⟨f0,f1,f2,f3,f4,f5⟩:=hf it (by simp)
    have hl:=rv.length
    exact wpAny_pyNext_tuple_end (I.ok.hd hc) st (show s.heap.IsTuple a its.toArray from p) (by simp; omega) fun h' eb=>⟨rfl,I.turned (t':=s.toks) (fun b o hb e=>eb b o hb e) f0 f1 f3 f4 f5⟩
  self:=fun _ _ _ _ _ st h=>wpAny_pyIter_tupleiter st h
theorem turn_range {P:Program} {w:World} {K:PySem.W.Frag} {tg:Expr} (it:Addr) (lo:Int) (n:Nat):Turn P w K tg (Itr lo n) [it] it (fun i h=>IsRangeIter h it (lo + (i:Nat) * 1) ((n:Int) - (i:Nat)) 1) where
  mem:=by simp
  obj:=fun i h st b hb=>by
    have e:b=it:=by simpa using hb
    subst e
    exact ⟨_,st,fun v z=>by
      have z':Data.fields _=Data.cell v:=z
      cases z'⟩
  keep:=fun i h h' st k=>k it (by simp) _ st
  item:=by
    intro X hP hw hK hc i pins s σ H E I hf st hg
    subst hP hw hK
    obtain ⟨f0,f1,f2,f3,f4,f5⟩:=hf it (by simp)
    have W:=Walks.range (prog:=X.prog) (w:=X.w) (I.ok.hd hc) it lo 1 n
    refine W.item i s _ _ hg st fun v h' tk hv st' kk=>?_
    obtain ⟨t,rfl⟩:=hv
    have I1:Inv X pins σ H { s with heap:=h',toks:=tk }:=I.turned (fun b o hb e=>kk b o (by simpa using hb) e) f0 f1 f3 f4 f5
    refine ⟨_,rfl,go_of (s:={ s with heap:=h',toks:=tk }) (n:="range_iterator") st' rfl rfl (by decide) ⟨.int (lo + i),H,I1,⟨t,?_⟩,⟨rfl,rfl⟩,st',fun b hb=>(hf b hb).1⟩⟩
    rw [Int.mul_one]
  done:=by
    intro X hP hw hK hc i pins s σ H E I hf st hg
    subst hP hw hK
    obtain ⟨f0,f1,f2,f3,f4,f5⟩:=hf it (by simp)
    exact wpAny_pyNext_range_end (I.ok.hd hc) st (by have:n≤i:=hg; omega) fun h' eb=>⟨rfl,I.turned (t':=s.toks) (fun b o hb e=>eb b o hb e) f0 f1 f3 f4 f5⟩
  self:=fun _ _ _ _ _ st h=>wpAny_pyIter_rangeiter st h
end L2

namespace L2
open PySem PySem.Spec PyProof.Rows
section
variable {X:Cx} {tg:Expr}
theorem range_it {pins:List (Addr × Obj)} {σ:St} {H:Hp} {s:Shared} {R:It→Hp→Prop} {E:Value→Shared→Prop} {lo hi:Int} {t u v:Tok} {tk:Nat} (I:Inv X pins σ H s) (h1:-(2 ^ 62)≤lo) (h2:lo < 2 ^ 62) (h3:-(2 ^ 62)≤hi) (h4:hi < 2 ^ 62)
    (q:R (Itr lo (hi - lo).toNat) H):wpAny (model X.prog X.w) X.A (pyIter (.ref s.heap.objs.size)) (PIE X pins σ tg R) E { s with heap:=s.heap.push { cls:=.type "range",data:=.fields #[.int lo t,.int hi u,.int 1 v] },toks:=tk }:=by
  refine wpAny_pyIter_range (IsRange.new ..) (small_one h1 h2 h3 h4) ?_
  have I1:Inv X pins σ H { s with heap:=s.heap.push { cls:=.type "range",data:=.fields #[.int lo t,.int hi u,.int 1 v] },toks:=tk }:=I.kept fun b o e=>Heap.get?_push_of_some _ e
  refine ⟨(s.heap.push { cls:=.type "range",data:=.fields #[.int lo t,.int hi u,.int 1 v] }).objs.size,[(s.heap.push { cls:=.type "range",data:=.fields #[.int lo t,.int hi u,.int 1 v] }).objs.size],_,_,H,rfl,
    I1.kept (t':=tk) fun b o e=>Heap.get?_push_of_some _ e,turn_range _ lo (hi - lo).toNat,?_,fun b hb=>?_,q⟩
  · have e1:lo + ((0:Nat):Int) * 1=lo:=by simp
    have e2:(((hi - lo).toNat:Nat):Int) - ((0:Nat):Int)=Builtin.Range.rangeSize lo hi 1:=by rw [rangeSize_one]; split <;> omega
    show IsRangeIter _ _ (lo + ((0:Nat):Int) * 1) ((((hi - lo).toNat:Nat):Int) - ((0:Nat):Int)) 1
    rw [e1,e2]
    exact Heap.get?_push_size _ rfl
  · have e:b=(s.heap.push { cls:=.type "range",data:=.fields #[.int lo t,.int hi u,.int 1 v] }).objs.size:=by simpa using hb
    subst e
    exact I1.fpOk (Nat.le_refl _) (I1.hok.fresh (Nat.le_refl _))
def iRng1 (ta:TA):TI:=fun σ H R=>ta σ H fun vs H1=>∃ j:Int,vs=[.int j]∧-(2 ^ 62)≤j∧j < 2 ^ 62∧R (Itr 0 j.toNat) H1
def iRng2 (ta:TA):TI:=fun σ H R=>ta σ H fun vs H1=>∃ i j:Int,vs=[.int i,.int j]∧(-(2 ^ 62)≤i∧i < 2 ^ 62∧-(2 ^ 62)≤j∧j < 2 ^ 62)∧R (Itr i (j - i).toNat) H1
theorem pi_range1 {a:Expr} {ta:TA} {p pos:Pos} (hg:Gl X "range") (hm:X.mg "range"=none) (ha:PA X [a] ta) (hs:starEach [a] X.env=[(false,eval a X.env)]:=by rfl):PI X tg (.Call (.Name "range" p) [a] [] pos) (iRng1 ta):=by
  intro pins s σ H R I h
  refine Call_ (ld_blt I hg hm boot_range (PyProof.Rows.callWith_type1 (thn (ha pos pins s σ H _ I h) fun us s1 ⟨vs,H1,I1,r1,q1⟩=>?_) hs rfl))
  obtain ⟨j,e,q1,q2,q⟩:=q1
  subst e
  cases r1 with
  | cons r rr =>
    cases rr
    obtain ⟨t,rfl⟩:=r
    exact call_range_1 (range_it I1 (by omega) (by omega) q1 q2 (by simpa using q))
theorem pi_range2 {a b:Expr} {ta:TA} {p pos:Pos} (hg:Gl X "range") (hm:X.mg "range"=none) (ha:PA X [a,b] ta) (hs:starEach [a,b] X.env=[(false,eval a X.env),(false,eval b X.env)]:=by rfl) (hs2:starEach [b] X.env=[(false,eval b X.env)]:=by rfl) :
    PI X tg (.Call (.Name "range" p) [a,b] [] pos) (iRng2 ta):=by
  intro pins s σ H R I h
  refine Call_ (ld_blt I hg hm boot_range (PyProof.Rows.callWith_type1 (thn (ha pos pins s σ H _ I h) fun us s1 ⟨vs,H1,I1,r1,q1⟩=>?_) (by rw [hs,hs2]) (by rw [hs2]; rfl)))
  obtain ⟨i,j,e,⟨q1,q2,q3,q4⟩,q⟩:=q1
  subst e
  cases r1 with
  | cons r rr =>
    cases rr with
    | cons r' rr =>
      cases rr
      obtain ⟨t,rfl⟩:=r
      obtain ⟨t',rfl⟩:=r'
      exact call_range_2 (range_it I1 q1 q2 q3 q4 q)

def tFor (wi:TI) (g:TG) (tb:TS):TS:=fun D σ H=>wi σ H fun J H1=>∃ W:Nat→Nat→St→Hp→Prop,(∃ m,W 0 m σ H1)∧∀ i m σ H,W i m σ H →
  (J.stop i H∧D.nx σ H) ∨ (J.go i H∧∃ N:St→Hp→Prop,(∀ σ' H',N σ' H'→∃ m',m' < m∧W (i + 1) m' σ' H')∧∀ x H',J.yld i H x H'→g x σ H' fun σ2 H2=>tb { D with nx:=N,ct:=N,bk:=D.nx } σ2 H2)
def pinsAt (fp:List Addr) (h:Heap):List (Addr × Obj):=fp.filterMap fun b=>(h.get? b).map fun o=>(b,o)
theorem mem_pinsAt {fp:List Addr} {h:Heap} {b:Addr} {o:Obj} (hb:b ∈ fp) (e:h.get? b=some o):(b,o) ∈ pinsAt fp h:=List.mem_filterMap.mpr ⟨b,hb,by rw [e]; rfl⟩
theorem of_pinsAt {fp:List Addr} {h:Heap} {p:Addr × Obj} (hp:p ∈ pinsAt fp h):p.1 ∈ fp∧h.get? p.1=some p.2:=by
  obtain ⟨b,hb,e⟩:=List.mem_filterMap.mp hp
  cases q:h.get? b with
  | none=>rw [q] at e; cases e
  | some o =>
    rw [q] at e
    have e':(b,o)=p:=Option.some.inj e
    subst e'
    exact ⟨hb,q⟩
theorem Inv.pinned {pins:List (Addr × Obj)} {σ:St} {H:Hp} {s:Shared} {fp:List Addr} (I:Inv X pins σ H s) (hf:∀ b ∈ fp,FpOk X pins H b) (ho:∀ b ∈ fp,∃ o,s.heap.get? b=some o∧∀ v,o.data ≠ .cell v):Inv X (pins++pinsAt fp s.heap) σ H s :=
  I.pins_of fun p hp=>(List.mem_append.mp hp).elim (fun z=>I.pin p (List.mem_append_right _ z)) fun z=>by
    obtain ⟨hb,e⟩:=of_pinsAt z
    obtain ⟨f0,f1,f2,_⟩:=hf p.1 hb
    obtain ⟨o,e',d⟩:=ho p.1 hb
    rw [e] at e'; cases e'
    exact ⟨e,f0,f1,f2,d⟩
theorem Inv.unpinned {pins pl:List (Addr × Obj)} {σ:St} {H:Hp} {s:Shared} (I:Inv X (pins++pl) σ H s):Inv X pins σ H s:=I.pins_of fun p hp=>I.pin p (List.mem_append_right _ (List.mem_append_left _ hp))
theorem ps_for {iter:Expr} {body:List Stmt} {wi:TI} {g:TG} {tb:TS} {pos:Pos} (hp:PassesOwn (model X.prog X.w) X.A X.env X.xe) (hc:X.calm=true) (hi:PI X tg iter wi) (hg:PG X tg g) (hb:PSs X body tb)
    (hs:∀ x,foldedSetIterable iter X.env x=pure x:=by intro _; rfl):PS X (.For tg iter body [] pos) (tFor wi g tb):=by
  intro pins s σ H D I h
  refine wpAny_For (thn (hi pins s σ H _ I h) fun v s1 h1=>thn h1 fun itv s2 h2=>?_) hs
  obtain ⟨it,fp,tn,J,H2,e,I2,T,st2,f2,W,⟨m0,w0⟩,turn⟩:=h2
  subst e
  -- what stays true of the iterator's objects through the loop
  have stat:∀ {H':Hp},(∀ b ∈ fp,H' b=none)→∀ b ∈ fp,FpOk X pins H' b:=fun hn b hb=>⟨hn b hb,(f2 b hb).2⟩
  refine codeAny_forLoop_any (fun n s'=>∃ i σ' H',Inv X pins σ' H' s'∧tn i s'.heap∧(∀ b ∈ fp,H' b=none)∧W i n σ' H') ?_ m0 ⟨0,σ,H2,I2,st2,fun b hb=>(f2 b hb).1,w0⟩
  rintro n s3 ⟨i,σ3,H3,I3,st3,fr3,w3⟩
  rcases turn i n σ3 H3 w3 with ⟨stop,qn⟩ | ⟨go,N,hN,step⟩
  · refine wpAny_passesOwn hp (thn (T.done X rfl rfl rfl hc i pins s3 σ3 H3 X.xe I3 (stat fr3) st3 stop) fun r s4 ⟨hr,I4⟩=>?_)
    subst hr
    exact wpAny_execs_nil ⟨σ3,H3,I4,qn⟩
  · refine wpAny_passesOwn hp (thn (T.item X rfl rfl rfl hc i pins s3 σ3 H3 X.xe I3 (stat fr3) st3 go) fun r s4 ⟨u,hr,h4⟩=>?_)
    subst hr
    refine wpAny_passesOwn hp (thn h4 fun _ s5 ⟨x,H5,I5,r5,y5,st5,fr5⟩=>?_)
    have I5':=I5.pinned (stat fr5) (T.obj _ _ st5)
    refine wpAny_passesOwn hp (thn (hg _ s5 σ3 H5 x u _ I5' r5 (step x H5 y5)) fun _ s6 ⟨σ6,H6,I6,q6⟩=>?_)
    refine wpAny_passesOwn hp (thn (hb _ s6 σ6 H6 _ I6 q6) fun f s7 q7=>?_)
    have again:∀ {σ7:St} {H7:Hp},Inv X (pins++pinsAt fp s5.heap) σ7 H7 s7→N σ7 H7→∃ m,m < n∧∃ i σ' H',Inv X pins σ' H' s7∧tn i s7.heap∧(∀ b ∈ fp,H' b=none)∧W i m σ' H':=fun {σ7 H7} I7 n7=>by
      obtain ⟨m',hm,w7⟩:=hN σ7 H7 n7
      refine ⟨m',hm,i + 1,σ7,H7,I7.unpinned,T.keep _ _ _ st5 fun b hb o e=>(I7.pin (b,o) (List.mem_append_right _ (List.mem_append_right _ (mem_pinsAt hb e)))).1,fun b hb=>?_,w7⟩
      obtain ⟨o,e,d⟩:=T.obj _ _ st5 b hb
      exact (I7.pin (b,o) (List.mem_append_right _ (List.mem_append_right _ (mem_pinsAt hb e)))).2.1
    cases f with
    | next=>obtain ⟨σ7,H7,I7,n7⟩:=q7; exact again I7 n7
    | cont=>obtain ⟨σ7,H7,I7,n7⟩:=q7; exact again I7 n7
    | brk=>obtain ⟨σ7,H7,I7,q7⟩:=q7; exact ⟨σ7,H7,I7.unpinned,q7⟩
    | ret v=>obtain ⟨x7,σ7,H7,I7,r7,q7⟩:=q7; exact ⟨x7,σ7,H7,I7.unpinned,r7,q7⟩
end

end L2

namespace L2
open PySem PySem.Spec PyProof.Rows

abbrev R2:=V→V→Hp→VK→Prop
def OpR (X:Cx) (f:Value→Value→Sem Value) (r:R2):Prop :=
  ∀ (pins:List (Addr × Obj)) (s:Shared) (σ:St) (H:Hp) (x y:V) (v u:Value) (Q:VK),Inv X pins σ H s→RelV x v→RelV y u→r x y H Q →
    wpAny (model X.prog X.w) X.A (f v u) (EP X pins σ Q) X.xe s
def UnR (X:Cx) (f:Value→Sem Value) (r:V→Hp→VK→Prop):Prop :=
  ∀ (pins:List (Addr × Obj)) (s:Shared) (σ:St) (H:Hp) (x:V) (v:Value) (Q:VK),Inv X pins σ H s→RelV x v→r x H Q →
    wpAny (model X.prog X.w) X.A (f v) (EP X pins σ Q) X.xe s
def CallR (X:Cx) (f:Value) (r:List V→Hp→VK→Prop):Prop :=
  ∀ (pins:List (Addr × Obj)) (s:Shared) (σ:St) (H:Hp) (xs:List V) (us:List Value) (Q:VK),Inv X pins σ H s→Vals xs us→r xs H Q →
    wpAny (model X.prog X.w) X.A (call f us) (EP X pins σ Q) X.xe s
def tOp (r:R2) (ta tb:TE):TE:=fun σ H Q=>ta σ H fun x H1=>tb σ H1 fun y H2=>r x y H2 Q
def tUn (r:V→Hp→VK→Prop) (ta:TE):TE:=fun σ H Q=>ta σ H fun x H1=>r x H1 Q
def rI (C:Int→Int→Prop) (g:Int→Int→V):R2:=fun x y H Q=>∃ i j,x=.int i∧y=.int j∧C i j∧Q (g i j) H
def rI0 (g:Int→Int→V):R2:=fun x y H Q=>∃ i j,x=.int i∧y=.int j∧Q (g i j) H
def rU (g:Int→V):V→Hp→VK→Prop:=fun x H Q=>∃ i,x=.int i∧Q (g i) H

section
variable {X:Cx} {a b c:Expr} {ta tb tc:TE} {pos:Pos}

theorem binT (ha:PE X a ta) (hb:PE X b tb) {pins:List (Addr × Obj)} {s:Shared} {σ:St} {H:Hp} {R:V→V→Hp→Prop} (I:Inv X pins σ H s)
    (h:ta σ H fun x H1=>tb σ H1 fun y H2=>R x y H2) {Q:Value→Shared→Prop} {f:Value→Value→Sem Value}
    (hf:∀ v u s2 x y H2,Inv X pins σ H2 s2→RelV x v→RelV y u→R x y H2→wpAny (model X.prog X.w) X.A (f v u) Q X.xe s2) :
    wpAny (model X.prog X.w) X.A (eval a X.env) (fun v s₁=>wpAny (model X.prog X.w) X.A (eval b X.env) (fun u s₂=>wpAny (model X.prog X.w) X.A (f v u) Q X.xe s₂) X.xe s₁) X.xe s:=by
  refine thn (ha pins s σ H _ I h) fun v s1 ⟨x,H1,I1,r1,q1⟩=>?_
  refine thn (hb pins s1 σ H1 _ I1 q1) fun u s2 ⟨y,H2,I2,r2,q2⟩=>?_
  exact hf v u s2 x y H2 I2 r1 r2 q2

theorem pe_op {op:Operator} {r:R2} (ho:OpR X (binaryOp op) r) (ha:PE X a ta) (hb:PE X b tb):PE X (.BinOp a op b pos) (tOp r ta tb):=by
  intro pins s σ H Q I h
  exact wpAny_BinOp (binT ha hb I h fun v u s2 x y H2 I2 rx ry q=>ho pins s2 σ H2 x y v u Q I2 rx ry q)
theorem pe_un {op:UnaryOp} {r:V→Hp→VK→Prop} (ho:UnR X (unaryOp op) r) (ha:PE X a ta):PE X (.UnaryOp op a pos) (tUn r ta):=by
  intro pins s σ H Q I h
  exact UnaryOp_ (thn (ha pins s σ H _ I h) fun v s1 ⟨x,H1,I1,r1,q1⟩=>ho pins s1 σ H1 x v Q I1 r1 q1)
theorem opI {f:Value→Value→Sem Value} {C:Int→Int→Prop} {g:Int→Int→Int}
    (rule:∀ (i j:Int) (t u:Tok) (s:Shared) (Q:Value→Shared→Prop) (E:Value→Shared→Prop),C i j→Q (.int (g i j) s.toks) { s with toks:=s.toks + 1 }→wpAny (model X.prog X.w) X.A (f (.int i t) (.int j u)) Q E s) :
    OpR X f (rI C fun i j=>.int (g i j)):=by
  intro pins s σ H x y v u Q I rx ry h
  obtain ⟨i,j,rfl,rfl,hc,q⟩:=h
  obtain ⟨t,rfl⟩:=rx
  obtain ⟨t',rfl⟩:=ry
  exact rule i j t t' s _ _ hc ⟨.int (g i j),H,I.tok _,⟨_,rfl⟩,q⟩
theorem opI0 {f:Value→Value→Sem Value} {g:Int→Int→Int}
    (rule:∀ (i j:Int) (t u:Tok) (s:Shared) (Q:Value→Shared→Prop) (E:Value→Shared→Prop),Q (.int (g i j) s.toks) { s with toks:=s.toks + 1 }→wpAny (model X.prog X.w) X.A (f (.int i t) (.int j u)) Q E s) :
    OpR X f (rI0 fun i j=>.int (g i j)):=by
  intro pins s σ H x y v u Q I rx ry h
  obtain ⟨i,j,rfl,rfl,q⟩:=h
  obtain ⟨t,rfl⟩:=rx
  obtain ⟨t',rfl⟩:=ry
  exact rule i j t t' s _ _ ⟨.int (g i j),H,I.tok _,⟨_,rfl⟩,q⟩
theorem opB0 {f:Value→Value→Sem Value} {g:Int→Int→Bool}
    (rule:∀ (i j:Int) (t u:Tok) (s:Shared) (Q:Value→Shared→Prop) (E:Value→Shared→Prop),Q (.bool (g i j)) s→wpAny (model X.prog X.w) X.A (f (.int i t) (.int j u)) Q E s) :
    OpR X f (rI0 fun i j=>.bl (g i j)):=by
  intro pins s σ H x y v u Q I rx ry h
  obtain ⟨i,j,rfl,rfl,q⟩:=h
  obtain ⟨t,rfl⟩:=rx
  obtain ⟨t',rfl⟩:=ry
  exact rule i j t t' s _ _ ⟨.bl (g i j),H,I,rfl,q⟩

def CDiv (i j:Int):Prop:=0 < j∧j < 1073741824
def CPow (i j:Int):Prop:=0≤j∧j≤1000000∧i.natAbs < 2 ^ 64
def CMul (i j:Int):Prop:=(-(2 ^ 64) < i∧i < 2 ^ 64) ∨ (-(2 ^ 64) < j∧j < 2 ^ 64)
theorem CMul.ok {i j:Int} (h:CMul i j):IntMulOk i j:=by
  rcases h with ⟨h1,h2⟩ | ⟨h1,h2⟩
  · exact .of_left (intBits_le_64 h1 h2)
  · exact .of_right (intBits_le_64 h1 h2)
theorem op_add:OpR X (binaryOp .Add) (rI0 fun i j=>.int (i + j)):=opI0 fun _ _ _ _ _ _ _ q=>add_int q
theorem op_sub:OpR X (binaryOp .Sub) (rI0 fun i j=>.int (i - j)):=opI0 fun _ _ _ _ _ _ _ q=>sub_int q
theorem op_mul:OpR X (binaryOp .Mult) (rI CMul fun i j=>.int (i * j)):=opI fun _ _ _ _ _ _ _ hc q=>mul_int q hc.ok
theorem op_fdiv:OpR X (binaryOp .FloorDiv) (rI CDiv fun i j=>.int (i / j)):=opI fun i j _ _ _ _ _ hc q=>by
  have h1:(0:Int) < j:=hc.1
  have h2:j < 1073741824:=hc.2
  exact floordiv_int (by omega) (by rw [Int.fdiv_eq_ediv_of_nonneg i (by omega)]; exact q) (.inl (PyProof.noPylong_small (by omega)))
theorem op_mod:OpR X (binaryOp .Mod) (rI (fun _ j=>0 < j) fun i j=>.int (i % j)):=opI fun i j _ _ _ _ _ hc q=>by
  have h1:(0:Int) < j:=hc
  exact mod_int' (by omega) (by rw [Int.fmod_eq_emod_of_nonneg i (by omega)]; exact q)
theorem op_pow:OpR X (binaryOp .Pow) (rI CPow fun i j=>.int (i ^ j.toNat)):=opI fun _ _ _ _ _ _ _ hc q=>pow_int_small hc.1 hc.2.1 hc.2.2 q
theorem unI {f:Value→Sem Value} {g:Int→Int}
    (rule:∀ (i:Int) (t:Tok) (s:Shared) (Q:Value→Shared→Prop) (E:Value→Shared→Prop),Q (.int (g i) s.toks) { s with toks:=s.toks + 1 }→wpAny (model X.prog X.w) X.A (f (.int i t)) Q E s) :
    UnR X f (rU fun i=>.int (g i)):=by
  intro pins s σ H x v Q I rx h
  obtain ⟨i,rfl,q⟩:=h
  obtain ⟨t,rfl⟩:=rx
  exact rule i t s _ _ ⟨.int (g i),H,I.tok _,⟨_,rfl⟩,q⟩
theorem un_neg:UnR X (unaryOp .USub) (rU fun i=>.int (-i)):=unI fun _ _ _ _ _ q=>neg_int q
end

def scal:V→V→Bool
  | .non,.non=>true | .non,.int _=>true | .int _,.non=>true | .non,.bl _=>true | .bl _,.non=>true | .non,.str _=>true | .str _,.non=>true
  | .int _,.int _=>true | .bl _,.bl _=>true | .str _,.str _=>true | .byt _,.byt _=>true
  | .int _,.str _=>true | .str _,.int _=>true | .bl _,.str _=>true | .str _,.bl _=>true
  | _,_=>false
def rEq:R2:=fun x y H Q=>scal x y=true∧Q (.bl (decide (x=y))) H
def rNe:R2:=fun x y H Q=>scal x y=true∧Q (.bl (!decide (x=y))) H

theorem dec_int {i j:Int}:decide (V.int i=V.int j)=(i == j):=by
  rw [Bool.eq_iff_iff]
  simp
theorem dec_bl {i j:Bool}:decide (V.bl i=V.bl j)=(i == j):=by
  rw [Bool.eq_iff_iff]
  simp
theorem dec_str {i j:Str}:decide (V.str i=V.str j)=(i == j):=by
  rw [Bool.eq_iff_iff]
  simp
theorem dec_byt {i j:Array UInt8}:decide (V.byt i=V.byt j)=(i.toList == j.toList):=by
  rw [Bool.eq_iff_iff]
  cases i
  cases j
  simp

section
variable {X:Cx} {a b c:Expr} {ta tb tc:TE} {pos:Pos}
theorem fin_bl {pins:List (Addr × Obj)} {σ:St} {H:Hp} {s:Shared} {Q:VK} {k k':Bool} (I:Inv X pins σ H s) (q:Q (.bl k) H) (e:k=k'):EP X pins σ Q (.bool k') s:=by
  subst e
  exact ⟨.bl k,H,I,rfl,q⟩
theorem op_eq:OpR X (compareOp .Eq) rEq:=by
  intro pins s σ H x y v u Q I rx ry h
  obtain ⟨hs,q⟩:=h
  cases x with
  | non =>
    cases rx
    cases y with
    | non=>cases ry; exact PySem.EqNone.eq_none_none (fin_bl I q (by simp))
    | bl j=>cases ry; exact PySem.EqNone.eq_none_bool (fin_bl I q (by simp))
    | int j=>obtain ⟨t',rfl⟩:=ry; exact PySem.EqNone.eq_none_int (fin_bl I q (by simp))
    | str j=>obtain ⟨t',rfl⟩:=ry; exact PySem.EqNone.eq_none_str (fin_bl I q (by simp))
    | _=>exact absurd (show false=true from hs) Bool.false_ne_true
  | bl i =>
    cases rx
    cases y with
    | non=>cases ry; exact PySem.EqNone.eq_bool_none (fin_bl I q (by simp))
    | bl j=>cases ry; exact eq_bool (fin_bl I q dec_bl)
    | str j=>obtain ⟨t',rfl⟩:=ry; exact PySem.EqMixed.eq_bool_str (fin_bl I q (by simp))
    | _=>exact absurd (show false=true from hs) Bool.false_ne_true
  | int i =>
    obtain ⟨t,rfl⟩:=rx
    cases y with
    | non=>cases ry; exact PySem.EqNone.eq_int_none (fin_bl I q (by simp))
    | int j=>obtain ⟨t',rfl⟩:=ry; exact eq_int (fin_bl I q dec_int)
    | str j=>obtain ⟨t',rfl⟩:=ry; exact PySem.EqMixed.eq_int_str (fin_bl I q (by simp))
    | _=>exact absurd (show false=true from hs) Bool.false_ne_true
  | str i =>
    obtain ⟨t,rfl⟩:=rx
    cases y with
    | non=>cases ry; exact PySem.EqNone.eq_str_none (fin_bl I q (by simp))
    | bl j=>cases ry; exact PySem.EqMixed.eq_str_bool (fin_bl I q (by simp))
    | int j=>obtain ⟨t',rfl⟩:=ry; exact PySem.EqMixed.eq_str_int (fin_bl I q (by simp))
    | str j=>obtain ⟨t',rfl⟩:=ry; exact eq_str (fin_bl I q dec_str)
    | _=>exact absurd (show false=true from hs) Bool.false_ne_true
  | byt i =>
    obtain ⟨t,rfl⟩:=rx
    cases y with
    | byt j=>obtain ⟨t',rfl⟩:=ry; exact PySem.W.eq_bytes (fin_bl I q dec_byt)
    | _=>exact absurd (show false=true from hs) Bool.false_ne_true
  | _=>cases y <;> exact absurd (show false=true from hs) Bool.false_ne_true
theorem op_ne:OpR X (compareOp .NotEq) rNe:=by
  intro pins s σ H x y v u Q I rx ry h
  obtain ⟨hs,q⟩:=h
  cases x with
  | non =>
    cases rx
    cases y with
    | non=>cases ry; exact PySem.EqNone.ne_none_none (fin_bl I q (by simp))
    | bl j=>cases ry; exact PySem.EqNone.ne_none_bool (fin_bl I q (by simp))
    | int j=>obtain ⟨t',rfl⟩:=ry; exact PySem.EqNone.ne_none_int (fin_bl I q (by simp))
    | str j=>obtain ⟨t',rfl⟩:=ry; exact PySem.EqNone.ne_none_str (fin_bl I q (by simp))
    | _=>exact absurd (show false=true from hs) Bool.false_ne_true
  | bl i =>
    cases rx
    cases y with
    | non=>cases ry; exact PySem.EqNone.ne_bool_none (fin_bl I q (by simp))
    | bl j=>cases ry; exact ne_bool (fin_bl I q (congrArg not dec_bl))
    | str j=>obtain ⟨t',rfl⟩:=ry; exact PySem.EqMixed.ne_bool_str (fin_bl I q (by simp))
    | _=>exact absurd (show false=true from hs) Bool.false_ne_true
  | int i =>
    obtain ⟨t,rfl⟩:=rx
    cases y with
    | non=>cases ry; exact PySem.EqNone.ne_int_none (fin_bl I q (by simp))
    | int j=>obtain ⟨t',rfl⟩:=ry; exact ne_int (fin_bl I q (congrArg not dec_int))
    | str j=>obtain ⟨t',rfl⟩:=ry; exact PySem.EqMixed.ne_int_str (fin_bl I q (by simp))
    | _=>exact absurd (show false=true from hs) Bool.false_ne_true
  | str i =>
    obtain ⟨t,rfl⟩:=rx
    cases y with
    | non=>cases ry; exact PySem.EqNone.ne_str_none (fin_bl I q (by simp))
    | bl j=>cases ry; exact PySem.EqMixed.ne_str_bool (fin_bl I q (by simp))
    | int j=>obtain ⟨t',rfl⟩:=ry; exact PySem.EqMixed.ne_str_int (fin_bl I q (by simp))
    | str j=>obtain ⟨t',rfl⟩:=ry; exact ne_str (fin_bl I q (congrArg not dec_str))
    | _=>exact absurd (show false=true from hs) Bool.false_ne_true
  | byt i =>
    obtain ⟨t,rfl⟩:=rx
    cases y with
    | byt j=>obtain ⟨t',rfl⟩:=ry; exact PySem.W.ne_bytes (fin_bl I q (congrArg not dec_byt))
    | _=>exact absurd (show false=true from hs) Bool.false_ne_true
  | _=>cases y <;> exact absurd (show false=true from hs) Bool.false_ne_true

theorem op_lt:OpR X (compareOp .Lt) (rI0 fun i j=>.bl (decide (i < j))):=opB0 fun _ _ _ _ _ _ _ q=>lt_int q
theorem op_gt:OpR X (compareOp .Gt) (rI0 fun i j=>.bl (decide (j < i))):=opB0 fun _ _ _ _ _ _ _ q=>gt_int q
theorem op_ge:OpR X (compareOp .GtE) (rI0 fun i j=>.bl (decide (j≤i))):=opB0 fun _ _ _ _ _ _ _ q=>ge_int q
theorem op_in_str:OpR X (compareOp .In) (fun x y H Q=>∃ i j,x=.str i∧y=.str j∧Q (.bl (!(Builtin.Str.occurrences j i 0 j.length 1).isEmpty)) H):=by
  intro pins s σ H x y v u Q I rx ry h
  obtain ⟨i,j,rfl,rfl,q⟩:=h
  obtain ⟨t,rfl⟩:=rx
  obtain ⟨t',rfl⟩:=ry
  exact in_str (fin_bl I q rfl)

theorem op_isN:OpR X (compareOp .Is) (fun x y H Q=>y=.non∧Q (.bl (decide (x=.non))) H):=by
  intro pins s σ H x y v u Q I rx ry h
  obtain ⟨rfl,q⟩:=h
  cases ry
  refine is_none_gen (fin_bl I q ?_)
  cases x <;> first
    | (cases rx; rfl)
    | (obtain ⟨t,rfl⟩:=rx; rfl)
theorem op_notN:OpR X (compareOp .IsNot) (fun x y H Q=>y=.non∧Q (.bl (!decide (x=.non))) H):=by
  intro pins s σ H x y v u Q I rx ry h
  obtain ⟨rfl,q⟩:=h
  cases ry
  refine isnot_none_gen (fin_bl I q ?_)
  cases x <;> first
    | (cases rx; rfl)
    | (obtain ⟨t,rfl⟩:=rx; rfl)

theorem OpR.or {f:Value→Value→Sem Value} {r r':R2} (h:OpR X f r) (h':OpR X f r'):OpR X f (fun x y H Q=>r x y H Q ∨ r' x y H Q):=by
  intro pins s σ H x y v u Q I rx ry q
  rcases q with q | q
  · exact h pins s σ H x y v u Q I rx ry q
  · exact h' pins s σ H x y v u Q I rx ry q

theorem nomark (b:Expr) {op:CmpOp} (h:op ≠ .In:=by decide) (h2:op ≠ .NotIn:=by decide):behindInMarks op b=false:=by
  have e1:(op == CmpOp.In)=false:=by cases op <;> first | rfl | exact absurd rfl h
  have e2:(op == CmpOp.NotIn)=false:=by cases op <;> first | rfl | exact absurd rfl h2
  cases b <;> simp [behindInMarks,e1,e2]
theorem pe_cmpR {op:CmpOp} {r:R2} (ho:OpR X (compareOp op) r) (ha:PE X a ta) (hb:PE X b tb) (hm:behindInMarks op b=false):PE X (.Compare a [op] [b] pos) (tOp r ta tb):=by
  intro pins s σ H Q I h
  exact wpAny_Compare1 (binT ha hb I h fun v u s2 x y H2 I2 rx ry q=>ho pins s2 σ H2 x y v u Q I2 rx ry q) hm
def tTest (t:TE):TT:=fun σ H Q=>t σ H fun x H'=>∃ k,x=.bl k∧Q k H'
theorem pt_cmpR {op:CmpOp} {r:R2} (ho:OpR X (compareOp op) r) (ha:PE X a ta) (hb:PE X b tb) (hm:behindInMarks op b=false):PT X (.Compare a [op] [b] pos) (tTest (tOp r ta tb)):=by
  intro pins s σ H Q I h
  refine wpAny_isTrue_Compare1 (thn (ha pins s σ H _ I h) fun v s1 ⟨x,H1,I1,r1,q1⟩=>thn (hb pins s1 σ H1 _ I1 q1) fun u s2 ⟨y,H2,I2,r2,q2⟩ =>
    thn (ho pins s2 σ H2 x y v u _ I2 r1 r2 q2) fun c s3 ⟨z,H3,I3,r3,k,e,q3⟩=>?_) hm
  subst e
  cases r3
  exact wpAny_truthy_bool ⟨H3,I3,q3⟩
theorem line63:(sizeLine:Nat) < 2 ^ 63:=by rw [sizeLine_eq]; decide
theorem op_add_str:OpR X (binaryOp .Add) (fun x y H Q=>∃ i j,x=.str i∧y=.str j∧i.length + j.length≤sizeLine∧Q (.str (i++j)) H):=by
  intro pins s σ H x y v u Q I rx ry h
  obtain ⟨i,j,rfl,rfl,hz,q⟩:=h
  obtain ⟨t,rfl⟩:=rx
  obtain ⟨t',rfl⟩:=ry
  exact add_str (fun t' tk=>⟨.str (i++j),H,I.tok _,⟨_,rfl⟩,q⟩) hz
theorem vals1 {x:V} {us:List Value} (r:Vals [x] us):∃ u,us=[u]∧RelV x u:=by
  cases r with
  | cons r1 r2=>cases r2; exact ⟨_,rfl,r1⟩
theorem vals2 {x y:V} {us:List Value} (r:Vals [x,y] us):∃ u w',us=[u,w']∧RelV x u∧RelV y w':=by
  cases r with
  | cons r1 r2 =>
    cases r2 with
    | cons r3 r4=>cases r4; exact ⟨_,_,rfl,r1,r3⟩
end
end L2

namespace L2
open PySem PySem.Spec PyProof.Rows

structure ObjM (h:Heap) (x dx C:Addr) (mA:Str→Option Value):Prop where
  obj:h.get? x=some (PySem.W.instObj C dx)
  ns:h.Ns1 dx mA
  ne:dx ≠ x

theorem lookIn_ns {h:Heap} {dx:Addr} {mA:Str→Option Value} (n:h.Ns1 dx mA):∃ od,h.get? dx=some od∧∀ name,PySem.W.lookIn name od=some (mA name):=by
  obtain ⟨o,es,ep,ho,hd,hk,_,hm⟩:=n
  refine ⟨o,ho,fun name=>?_⟩
  have e:=hm name
  unfold nsFind findBy at e
  rw [← Array.find?_toList] at e
  unfold PySem.W.lookIn
  rw [hd]
  dsimp only
  split
  · rename_i y q
    rw [q] at e
    exact congrArg some e
  · rename_i q
    rw [q] at e
    have a:es.toList.any (·.refKey)=false:=by
      rw [List.any_eq_false]
      intro y hy
      obtain ⟨z,t,hkey⟩:=hk y (Array.mem_toList_iff.mp hy)
      simp [DictEntry.refKey,hkey]
    have a':¬ es.toList.any (·.refKey)=true:=by rw [a]; exact Bool.false_ne_true
    rw [if_neg a']
    exact congrArg some e

theorem ObjM.look {h:Heap} {x dx C:Addr} {mA:Str→Option Value} (I:ObjM h x dx C mA):∃ od,PySem.W.InstAt h x (PySem.W.instObj C dx) C (some od)∧∀ name,PySem.W.lookIn name od=some (mA name) :=
  let ⟨od,ho,hl⟩:=lookIn_ns I.ns
  ⟨od,⟨I.obj,rfl,rfl,ho⟩,hl⟩

section
variable {prog:Program} {w:World} {A:Around} {E:Value→Shared→Prop} {s:Shared} {K:PySem.W.Frag} {x dx C f:Addr} {mA:Str→Option Value} {name:Str} {v:Value}

theorem get_map {expr:Bool} {Q:Value→Shared→Prop} (X:K.In s.heap) (I:ObjM s.heap x dx C mA) (hg:PySem.W.plainGet K C name=true) (hh:PySem.W.hasDictIn K C=true)
    (ha:PySem.W.findIn K (.ref C) name=some none) (hv:mA name=some v) (hv':PySem.W.handedIn v=true) (h:Q v { s with toks:=s.toks + 1 }) :
    wpAny (model prog w) A (getAttr (.ref x) name expr) Q E s:=by
  obtain ⟨od,J,hl⟩:=I.look
  exact PySem.W.get_value X J (PySem.W.plainGet_of hg).1 (PySem.W.findObj_own hh ha rfl (by rw [hl,hv])) hv' h

theorem get_meth {pl:Sem Bool} {Q:Value × List Value→Shared→Prop} (X:K.In s.heap) (I:ObjM s.heap x dx C mA) (hg:PySem.W.plainGet K C name=true)
    (hf:PySem.W.findIn K (.ref C) name=some (some (.ref f))) (ht:PySem.W.isFn K (.ref f)=true) (hv:mA name=none) (h:Q (.ref f,[.ref x]) s) :
    wpAny (model prog w) A (getMethod (.ref x) name pl) Q E s:=by
  obtain ⟨od,J,hl⟩:=I.look
  exact PySem.W.method_fn X J (PySem.W.plainGet_of hg).1 (PySem.W.plainGet_of hg).2 hf (beq_iff_eq.mp ht) (by show (PySem.W.lookIn name od).map (·.isSome)=some false; rw [hl,hv]; rfl) h

theorem set_map {ns:List Str} {Q:Unit→Shared→Prop} (X:K.In s.heap) (I:ObjM s.heap x dx C mA)
    (hs:PySem.W.findIn K (.ref C) "__setattr__"=some (some (.builtin "object.__setattr__"))) (hp:PySem.W.plainOver K C=true) (ht:PySem.W.takerIn K C name=some none) (hh:PySem.W.hasDictIn K C=true)
    (hw:PySem.Within mA ns) (hsz:ns.length≤sizeLine)
    (h:∀ h',ObjM h' x dx C (fun y=>if y=name then some v else mA y)→Heap.SameBut dx s.heap h'→Q () { s with heap:=h',toks:=s.toks + 2 }) :
    wpAny (model prog w) A (setAttr (.ref x) name v) Q E s:=by
  obtain ⟨od,J,hl⟩:=I.look
  refine PySem.W.set_plain X J hs (PySem.W.osa_open (s:={ s with toks:=s.toks + 1 }) (r:=none) X J hp ht fun b=>?_)
  obtain ⟨cd,hc,hd'⟩:=PySem.W.any_some hh
  have hx:s.heap.get? x=some ⟨.ref C,some dx,.plain,#[]⟩:=I.obj
  refine wpAny_bind (wpAny_pure (wpAny_bind (wpAny_bind (wpAny_loadPart hx (wpAny_bind (PySem.W.Looks.here (s:={ s with toks:=s.toks + 1 }) (PySem.W.looks_clsIn X hc) ?_))))))
  rw [hd']
  refine wpAny_pure (a:=some dx) (wpAny_bind (wpAny_pure (wpAny_bind ?_)))
  refine wpAny_nsSet1 (s:={ s with toks:=s.toks + 1 }) I.ns fun h' hn2 hs2=>?_
  obtain ⟨oD,esD,epD,hoD,hdD,hcD⟩:=hn2.count (PySem.Within.cons name v hw)
  refine wpAny_bind (wpAny_lookBehind hoD (by rw [hdD]; exact pastItsLine_dict (Nat.le_trans hcD (by rw [List.length_cons]; omega))) ?_)
  exact wpAny_pure (h _ ⟨(hs2.2 _ (Ne.symm I.ne)).trans I.obj,hn2,I.ne⟩ hs2)

theorem make_map {R:Result→Shared→Prop} {vs:List Value} {kw:List (Str × Value)} (X:K.In s.heap) (hm:PySem.W.makesIn K C=true)
    (hi:PySem.W.findIn K (.ref C) "__init__"=some (some (.ref f))) (hf:PySem.W.typeIn K (.ref f)=some (.type "function"))
    (h:codeAny (model prog w) (A.under (.builtin "type.__call__" ⟨.ref C::vs,kw⟩)) (.call (.ref f) ⟨.ref (s.heap.objs.size + 1)::vs,kw⟩) (PySem.W.InitBack (s.heap.objs.size + 1) R)
      { s with heap:=(s.heap.push PySem.W.emptyDict).push (PySem.W.instObj C s.heap.objs.size) }) :
    codeAny (model prog w) A (.call (.ref C) ⟨vs,kw⟩) R s:=by
  obtain ⟨hh,g,d,t,os⟩:=s
  exact PySem.W.make_core (PySem.W.makes_of X hm) (PySem.W.looks_findIn X hi) (fun self=>PySem.W.bind_fn X self hf) (.inl rfl) h
end

def putF (f:Str) (v:V):List (Str × V)→List (Str × V)
  | []=>[(f,v)]
  | (g,x)::r=>if g=f then (g,v)::r else (g,x)::putF f v r
theorem lookup_putF (f g:Str) (v:V):∀ fs:List (Str × V),(putF f v fs).lookup g=if g=f then some v else fs.lookup g
  | []=>by
    show List.lookup g [(f,v)]=_
    by_cases h:g=f
    · have hb:(g == f)=true:=beq_iff_eq.mpr h
      simp only [List.lookup,hb,if_pos h]
    · have hb:(g == f)=false:=beq_eq_false_iff_ne.mpr h
      simp only [List.lookup,hb,if_neg h]
  | (k,x)::r=>by
    have ih:=lookup_putF f g v r
    rw [show putF f v ((k,x)::r)=(if k=f then (k,v)::r else (k,x)::putF f v r) from rfl]
    by_cases hk:k=f
    · rw [if_pos hk]
      by_cases h:g=k
      · have hb:(g == k)=true:=beq_iff_eq.mpr h
        simp only [List.lookup,hb,if_pos (h.trans hk)]
      · have hb:(g == k)=false:=beq_eq_false_iff_ne.mpr h
        simp only [List.lookup,hb,if_neg (fun e:g=f=>h (e.trans hk.symm))]
    · rw [if_neg hk]
      by_cases h:g=k
      · have hb:(g == k)=true:=beq_iff_eq.mpr h
        simp only [List.lookup,hb,if_neg (fun e:g=f=>hk (h.symm.trans e))]
      · have hb:(g == k)=false:=beq_eq_false_iff_ne.mpr h
        simp only [List.lookup,hb]
        exact ih
theorem keys_putF (f:Str) (v:V):∀ fs:List (Str × V),f ∈ (putF f v fs).map (·.1)∧∀ g,g ∈ fs.map (·.1)→g ∈ (putF f v fs).map (·.1)
  | []=>⟨by simp [putF],fun g h=>by simp at h⟩
  | (k,x)::r=>by
    obtain ⟨i1,i2⟩:=keys_putF f v r
    rw [show putF f v ((k,x)::r)=(if k=f then (k,v)::r else (k,x)::putF f v r) from rfl]
    by_cases hk:k=f
    · rw [if_pos hk]
      subst hk
      exact ⟨by simp,fun g h=>by simpa using h⟩
    · rw [if_neg hk]
      refine ⟨?_,fun g h=>?_⟩
      · rw [List.map_cons]
        exact List.mem_cons_of_mem _ i1
      · rw [List.map_cons] at h ⊢
        rcases List.mem_cons.mp h with e | e
        · exact List.mem_cons.mpr (.inl e)
        · exact List.mem_cons_of_mem _ (i2 g e)
theorem length_putF (f:Str) (v:V):∀ fs:List (Str × V),(putF f v fs).length≤fs.length + 1
  | []=>by simp [putF]
  | (k,x)::r=>by
    have ih:=length_putF f v r
    rw [show putF f v ((k,x)::r)=(if k=f then (k,v)::r else (k,x)::putF f v r) from rfl]
    by_cases hk:k=f
    · rw [if_pos hk,List.length_cons,List.length_cons]; omega
    · rw [if_neg hk,List.length_cons,List.length_cons]; omega

theorem RelO.some_of {v:V} {o:Option Value} (r:RelO (some v) o):∃ u,o=some u∧RelV v u:=by
  cases o with
  | none=>exact (show False from r).elim
  | some u=>exact ⟨u,rfl,r⟩
theorem RelO.none_of {o:Option Value} (r:RelO none o):o=none:=by
  cases o with
  | none=>rfl
  | some u=>exact (show False from r).elim
theorem handed_of {v:V} {u:Value} (r:RelV v u):PySem.W.handedIn u=true:=by
  cases v with
  | non=>cases (show u=Value.none from r); rfl
  | bl b=>cases (show u=Value.bool b from r); rfl
  | int i=>obtain ⟨t,e⟩:=(show ∃ t,u=Value.int i t from r); cases e; rfl
  | str x=>obtain ⟨t,e⟩:=(show ∃ t,u=Value.str x t from r); cases e; rfl
  | byt b=>obtain ⟨t,e⟩:=(show ∃ t,u=Value.bytes b t from r); cases e; rfl
  | flt b=>obtain ⟨t,e⟩:=(show ∃ t,u=Value.float b t from r); cases e; rfl
  | ref a=>cases (show u=Value.ref a from r); rfl
  | ty n=>cases (show u=Value.type n from r); rfl

section
variable {P:Program} {w:World} {H H':Hp} {h h':Heap} {a C dx:Addr} {fs fs':List (Str × V)}
theorem ins_get (hok:HOk P w H h) (e:H a=some (.ins C dx fs)):∃ mA,ObjM h a dx C mA∧(∀ f,RelO (fs.lookup f) (mA f))∧PySem.Within mA (fs.map (·.1))∧fs.length≤1000∧H dx=some (.own a):=by
  obtain ⟨d,z,ne,ob,mA,n,r,q⟩:=(show ObjOk P w H h a (.ins C dx fs) from hok a _ e)
  exact ⟨mA,⟨ob,n,ne⟩,r,q,z,d⟩
end

structure Cls (K:PySem.W.Frag) (C:Addr):Prop where
  pg:PySem.W.plainGet K C Str.empty=true
  hd:PySem.W.hasDictIn K C=true
  po:PySem.W.plainOver K C=true
  sa:PySem.W.findIn K (.ref C) "__setattr__"=some (some (.builtin "object.__setattr__"))
theorem Cls.get {K:PySem.W.Frag} {C:Addr} (c:Cls K C) (f:Str):PySem.W.plainGet K C f=true:=c.pg
def NoAttr (K:PySem.W.Frag) (C:Addr) (f:Str):Prop:=PySem.W.findIn K (.ref C) f=some none
theorem NoAttr.taker {K:PySem.W.Frag} {C:Addr} {f:Str} (n:NoAttr K C f):PySem.W.takerIn K C f=some none:=by
  unfold PySem.W.takerIn
  rw [show PySem.W.findIn K (.ref C) f=some none from n]
  rfl
structure Meth (K:PySem.W.Frag) (C:Addr) (m:Str) (f:Addr):Prop where
  at_:PySem.W.findIn K (.ref C) m=some (some (.ref f))
  fn:PySem.W.isFn K (.ref f)=true
  kp:PySem.W.keepIn K (.ref f)=true

section
variable {X:Cx} {pins:List (Addr × Obj)} {σ:St} {H:Hp} {s:Shared} {a C dx:Addr} {fs:List (Str × V)} {f:Str} {v:V} {A:Around} {E:Value→Shared→Prop}

theorem getattr_ok {b:Bool} {Q:Value→Shared→Prop} (I:Inv X pins σ H s) (e:H a=some (.ins C dx fs)) (c:Cls X.K C) (n:NoAttr X.K C f) (l:fs.lookup f=some v)
    (h:∀ u s',Inv X pins σ H s'→RelV v u→Q u s'):wpAny (model X.prog X.w) A (getAttr (.ref a) f b) Q E s:=by
  obtain ⟨mA,O,r,_,_,_⟩:=ins_get I.hok e
  obtain ⟨u,hu,ru⟩:=RelO.some_of (v:=v) (o:=mA f) (by rw [← l]; exact r f)
  exact get_map I.kIn O (c.get f) c.hd n hu (handed_of ru) (h u _ (I.tok _) ru)

theorem getmeth_ok {m:Str} {g:Addr} {pl:Sem Bool} {Q:Value × List Value→Shared→Prop} (I:Inv X pins σ H s) (e:H a=some (.ins C dx fs)) (c:Cls X.K C) (k:Meth X.K C m g) (l:fs.lookup m=none)
    (h:Q (.ref g,[.ref a]) s):wpAny (model X.prog X.w) A (getMethod (.ref a) m pl) Q E s:=by
  obtain ⟨mA,O,r,_,_,_⟩:=ins_get I.hok e
  have hn:mA m=none:=RelO.none_of (by rw [← l]; exact r m)
  exact get_meth I.kIn O (c.get m) k.at_ k.fn hn h

theorem setattr_ok {y:V} {u:Value} {Q:Unit→Shared→Prop} (I:Inv X pins σ H s) (e:H a=some (.ins C dx fs)) (c:Cls X.K C) (n:NoAttr X.K C f) (hl:fs.length < 1000) (ry:RelV y u)
    (h:∀ s',Inv X pins σ (upd H a (.ins C dx (putF f y fs))) s'→Q () s'):wpAny (model X.prog X.w) A (setAttr (.ref a) f u) Q E s:=by
  obtain ⟨mA,O,r,wi,_,ho⟩:=ins_get I.hok e
  have hz:(fs.map (·.1)).length≤sizeLine:=by rw [List.length_map,sizeLine_eq]; omega
  refine set_map I.kIn O c.sa c.po n.taker c.hd wi hz fun h' O' sb=>h _ ?_
  have hd:∃ o,h'.get? dx=some o:=let ⟨o,_,_,e',_⟩:=O'.ns; ⟨o,e'⟩
  refine I.write (x:=a) (e:=dx) (by rw [e]; exact True.intro) (.inr ho) (fun b q hb z=>(sb.2 b hb).trans z) hd ?_
  refine ⟨by rw [upd_ne O.ne]; exact ho,?_,O.ne,O'.obj,_,O'.ns,fun g=>?_,fun g hg=>?_⟩
  · have:=length_putF f y fs; omega
  · show RelO ((putF f y fs).lookup g) (if g=f then some u else mA g)
    rw [lookup_putF]
    by_cases q:g=f
    · rw [if_pos q,if_pos q]; exact ry
    · rw [if_neg q,if_neg q]; exact r g
  · by_cases q:g=f
    · rw [q]; exact (keys_putF f y fs).1
    · refine (keys_putF f y fs).2 g (wi g fun z=>hg ?_)
      show (if g=f then some u else mA g)=none
      rw [if_neg q]; exact z

theorem Inv.made (I:Inv X pins σ H s):Inv X pins σ (upd (upd H s.heap.objs.size (.own (s.heap.objs.size + 1))) (s.heap.objs.size + 1) (.ins C s.heap.objs.size []))
    { s with heap:=(s.heap.push PySem.W.emptyDict).push (PySem.W.instObj C s.heap.objs.size) }:=by
  have e1:(s.heap.push PySem.W.emptyDict).get? s.heap.objs.size=some PySem.W.emptyDict:=Heap.get?_push_size s.heap rfl
  have e2:((s.heap.push PySem.W.emptyDict).push (PySem.W.instObj C s.heap.objs.size)).get? (s.heap.objs.size + 1)=some (PySem.W.instObj C s.heap.objs.size):=by
    have:=Heap.get?_push_size (s.heap.push PySem.W.emptyDict) (o:=PySem.W.instObj C s.heap.objs.size) rfl
    rwa [Heap.size_push] at this
  have e3:(s.heap.push PySem.W.emptyDict).Ns s.heap.objs.size (fun _=>none):=⟨PySem.W.emptyDict,#[],_,e1,rfl,(fun e he=>absurd he (by simp)),fun _=>rfl⟩
  have I1:=I.laid (a:=s.heap.objs.size) (o:=.own (s.heap.objs.size + 1)) (h':=s.heap.push PySem.W.emptyDict) (t':=s.toks) (fun b u q=>Heap.get?_push_of_some _ q) (Nat.le_refl _) ⟨_,e1⟩
  refine I1.laid (a:=s.heap.objs.size + 1) (o:=.ins C s.heap.objs.size []) (t':=s.toks) (fun b u q=>Heap.get?_push_of_some _ q) (Nat.le_of_eq (Heap.size_push _ _)) ?_
  have ne:s.heap.objs.size ≠ s.heap.objs.size + 1:=Nat.ne_of_lt (Nat.lt_succ_self _)
  refine ⟨by rw [upd_ne ne,upd_same],Nat.zero_le _,ne,e2,fun _=>none,(Heap.Ns1.of_empty e3).at fun o q=>Heap.get?_push_of_some _ q,fun _=>True.intro,fun y hy=>absurd rfl hy⟩

theorem attr_of {prog:Program} {w:World} {env:Env} {e:Expr} {f:Str} {pos:Pos} {s:Shared} {Q:Value→Shared→Prop} (hb:attributeBase e f env (eval e env)=eval e env)
    (h:wpAny (model prog w) A (eval e env) (fun o s₁=>wpAny (model prog w) A (getAttr o f true) Q E s₁) E s):wpAny (model prog w) A (eval (.Attribute e f pos) env) Q E s :=
  Attribute_any_ h (by rw [arm_eval_Attribute,hb])
end

def tFld (K:PySem.W.Frag) (ta:TE) (f:Str):TE:=fun σ H Q=>ta σ H fun x H1=>∃ a C dx fs v,x=.ref a∧H1 a=some (.ins C dx fs)∧Cls K C∧NoAttr K C f∧fs.lookup f=some v∧Q v H1
def sFld (K:PySem.W.Frag) (ta tv:TE) (f:Str):TS:=fun D σ H=>tv σ H fun y H1=>ta σ H1 fun x H2=>∃ a C dx fs,x=.ref a∧H2 a=some (.ins C dx fs)∧Cls K C∧NoAttr K C f∧fs.length < 1000 ∧
  D.nx σ (upd H2 a (.ins C dx (putF f y fs)))
section
variable {X:Cx} {o e value:Expr} {f:Str} {pos pos' tpos:Pos} {ta tv:TE}
theorem pe_fld (he:PE X e ta) (hb:attributeBase e f X.env (eval e X.env)=eval e X.env):PE X (.Attribute e f pos) (tFld X.K ta f):=by
  intro pins s σ H Q I h
  refine attr_of hb (thn (he pins s σ H _ I h) fun u s1 ⟨x,H1,I1,rx,a,C,dx,fs,v,ex,ea,c,n,l,q⟩=>?_)
  subst ex
  obtain rfl:u=Value.ref a:=rx
  exact getattr_ok I1 ea c n l fun u' s2 I2 ru=>⟨v,H1,I2,ru,q⟩
theorem ps_fld (ha:PE X o ta) (hv:PE X value tv) (hs:swapsWith value (some (.Attribute o f pos')) pos.line X.env=pure false):PS X (.Assign [.Attribute o f pos'] value pos) (sFld X.K ta tv f):=by
  intro pins s σ H D I h
  refine plainObj_wpAny_Assign_Attribute (thn (hv pins s σ H _ I h) fun u s1 ⟨y,H1,I1,ry,q⟩=>thn (ha pins s1 σ H1 _ I1 q) fun ov s2 ⟨x,H2,I2,rx,a,C,dx,fs,ex,ea,c,n,l,q2⟩=>?_) hs
  subst ex
  obtain rfl:ov=Value.ref a:=rx
  exact setattr_ok I2 ea c n l ry fun s3 I3=>⟨σ,_,I3,q2⟩
end

section
variable {X:Cx} {pins:List (Addr × Obj)} {σ:St} {H:Hp} {s:Shared} {A:Around} {E:Value→Shared→Prop} {Q:Value→Shared→Prop} {c:Value} {b:Bool}
inductive TyOf (K:PySem.W.Frag) (H:Hp):V→Value→Prop where
  | non:TyOf K H .non (.type "NoneType")
  | bl (x:Bool):TyOf K H (.bl x) (.type "bool")
  | int (i:Int):TyOf K H (.int i) (.type "int")
  | str (x:Str):TyOf K H (.str x) (.type "str")
  | flt (x:UInt64):TyOf K H (.flt x) (.type "float")
  | lst {a:Addr} {xs:List V} (e:H a=some (.lst xs)):TyOf K H (.ref a) (.type "list")
  | frz {a:Addr} {o:Obj} {xs:List V} (e:H a=some (.frz o (.lst xs))):TyOf K H (.ref a) (.type "list")
  | tup {a:Addr} {xs:List V} (e:H a=some (.tup xs)):TyOf K H (.ref a) (.type "tuple")
  | dK {a:Addr} {kvs:List (Key × V)} (e:H a=some (.dK kvs)):TyOf K H (.ref a) (.type "dict")
  | dT {a:Addr} {kvs:List (List Key × V)} (e:H a=some (.dT kvs)):TyOf K H (.ref a) (.type "dict")
  | ins {a C dx:Addr} {fs:List (Str × V)} (e:H a=some (.ins C dx fs)) (cl:Cls K C) (ha:PySem.W.findIn K (.ref C) "__class__"=some (some (.builtin "object.__class__")))
      (hn:PySem.W.specialIn K (.builtin "object.__class__") "__get__"=some (some (.builtin "getset_descriptor.__get__"))) (htk:PySem.W.takesIn K (.builtin "object.__class__")=some true)
      (hm:PySem.W.mroIn K C (.type "object")=some true):TyOf K H (.ref a) (.ref C)
theorem isinst_ok {x:V} {u t:Value} (I:Inv X pins σ H s) (rx:RelV x u) (ty:TyOf X.K H x t) (e:PySem.W.kitOne X.K t c=some b) (h:∀ tk,Q (.bool b) { s with toks:=tk }) :
    wpAny (model X.prog X.w) A (call (.builtin "isinstance") [u,c]) Q E s:=by
  cases ty with
  | non=>cases (show u=Value.none from rx); exact PySem.W.kia_one PySem.W.kitx_none I.kIn True.intro e (fun z=>nomatch z) h
  | bl y=>cases (show u=Value.bool y from rx); exact PySem.W.kia_one PySem.W.kitx_bool I.kIn True.intro e (fun z=>nomatch z) h
  | int i=>obtain ⟨t,q⟩:=(show ∃ t,u=Value.int i t from rx); cases q; exact PySem.W.kia_one PySem.W.kitx_int I.kIn True.intro e (fun z=>nomatch z) h
  | str y=>obtain ⟨t,q⟩:=(show ∃ t,u=Value.str y t from rx); cases q; exact PySem.W.kia_one PySem.W.kitx_str I.kIn True.intro e (fun z=>nomatch z) h
  | flt y=>obtain ⟨t,q⟩:=(show ∃ t,u=Value.float y t from rx); cases q; exact PySem.W.kia_one PySem.W.kitx_float I.kIn True.intro e (fun z=>nomatch z) h
  | @lst a xs ea =>
    cases (show u=Value.ref a from rx)
    obtain ⟨_,_,n,_,h1⟩:=(show ObjOk X.prog X.w H s.heap a (.lst xs) from I.hok a _ ea)
    exact PySem.W.kia_one PySem.W.kitx_list I.kIn ⟨_,h1,rfl⟩ e (fun z=>nomatch z) h
  | @frz a ob xs ea =>
    cases (show u=Value.ref a from rx)
    obtain ⟨_,_,_,n,_,h1⟩:=(show ObjOk X.prog X.w H s.heap a (.frz ob (.lst xs)) from I.hok a _ ea)
    exact PySem.W.kia_one PySem.W.kitx_list I.kIn ⟨_,h1,rfl⟩ e (fun z=>nomatch z) h
  | @tup a xs ea =>
    cases (show u=Value.ref a from rx)
    obtain ⟨_,_,_,p⟩:=(show ObjOk X.prog X.w H s.heap a (.tup xs) from I.hok a _ ea)
    obtain ⟨o,h1,h2,_⟩:=p
    exact PySem.W.kia_one PySem.W.kitx_tuple I.kIn ⟨o,h1,h2⟩ e (fun z=>nomatch z) h
  | @dK a kvs ea =>
    cases (show u=Value.ref a from rx)
    obtain ⟨_,_,vs,_,p⟩:=(show ObjOk X.prog X.w H s.heap a (.dK kvs) from I.hok a _ ea)
    obtain ⟨o,es,ep,h1,h2,_⟩:=p
    exact PySem.W.kia_one PySem.W.kitx_dict I.kIn ⟨o,h1,h2.1⟩ e (fun z=>nomatch z) h
  | @dT a kvs ea =>
    cases (show u=Value.ref a from rx)
    obtain ⟨_,_,xs,_,o,es,ep,h1,h2,_⟩:=(show ObjOk X.prog X.w H s.heap a (.dT kvs) from I.hok a _ ea)
    exact PySem.W.kia_one PySem.W.kitx_dict I.kIn ⟨o,h1,h2.1⟩ e (fun z=>nomatch z) h
  | @ins a C dx fs ea cl ha hn htk hm =>
    cases (show u=Value.ref a from rx)
    obtain ⟨mA,O,_⟩:=ins_get I.hok ea
    obtain ⟨od,J,_⟩:=O.look
    exact PySem.W.kia_one (PySem.W.kitx_own (cl.get _) cl.hd ha hn htk hm) I.kIn J e (fun z=>nomatch z) h
end
end L2

namespace L2
open PySem PySem.Spec PyProof.Rows

structure Room (k:Nat) (A:Around):Prop where
  hd:A.handled=none
  dp:A.depth + 3 * k + 5 < recursionLimit
  un:A.units + 16 * k + 200 < cLine
  gd:A.guards=some []
theorem Room.mono {j k:Nat} {A:Around} (r:Room k A) (h:j≤k):Room j A:=⟨r.hd,by have:=r.dp; omega,by have:=r.un; omega,r.gd⟩
theorem Room.deeper {k:Nat} {A:Around} (r:Room (k + 1) A) (env:Env):Room k (A.deeper env) :=
  ⟨r.hd,by have:=r.dp; show A.depth + 1 + 3 * k + 5 < _; omega,by have:=r.un; show A.units + 3 + 16 * k + 200 < _; omega,r.gd⟩
theorem Room.in1 {k:Nat} {A:Around} (r:Room (k + 1) A):Room k A.in1 :=
  ⟨r.hd,by have:=r.dp; show A.depth + 3 * k + 5 < _; omega,by have:=r.un; show A.units + 1 + 16 * k + 200 < _; omega,r.gd⟩
theorem make_depth {A:Around} {C:Addr} {us:List Value} {kw:List (Str × Value)}:(A.under (.builtin "type.__call__" ⟨.ref C::us,kw⟩)).depth=A.depth + 1:=by
  first | rfl | simp [Around.under,Code.weight,Code.isCreation,Code.isGuard,Code.isCaller,Code.frames,Code.isFrame,guardIds]
theorem make_units {A:Around} {C:Addr} {us:List Value} {kw:List (Str × Value)}:(A.under (.builtin "type.__call__" ⟨.ref C::us,kw⟩)).units=A.units + 1:=by
  first | rfl | simp [Around.under,Code.cUnits,Code.frames,Code.isFrame]
theorem Room.make {k:Nat} {A:Around} (r:Room (k + 1) A) (C:Addr) (us:List Value) (kw:List (Str × Value)):Room k (A.under (.builtin "type.__call__" ⟨.ref C::us,kw⟩)) :=
  ⟨r.hd,by have:=r.dp; rw [make_depth]; omega,by have:=r.un; rw [make_units]; omega,by first | exact r.gd | (simp [Around.under,Code.isGuard,guardIds]; exact r.gd)⟩
theorem Room.depth {k:Nat} {A:Around} (r:Room k A):A.depth < recursionLimit:=by have:=r.dp; omega
def tNil:TA:=fun _ H Q=>Q [] H
def tCons (ta:TE) (tr:TA):TA:=fun σ H Q=>ta σ H fun x H1=>tr σ H1 fun xs H2=>Q (x::xs) H2
section
variable {X:Cx} {e:Expr} {es:List Expr} {te:TE} {t:TA} {pos:Pos}
theorem pa_nil:PA X [] tNil:=fun _ _ _ _ H Q I h=>Calls.spliced_nil ⟨[],H,I,.nil,h⟩
theorem pa_cons (ha:PE X e te) (hr:PA X es t) (hs:starEach (e::es) X.env=(false,eval e X.env)::starEach es X.env:=by rfl):PA X (e::es) (tCons te t):=by
  intro pos pins s σ H Q I h
  rw [hs]
  show wpAny _ _ (spliced ((false,eval e X.env)::backTo pos (starEach es X.env))) _ _ s
  refine Calls.spliced_cons (thn (ha pins s σ H _ I h) fun u s1 ⟨x,H1,I1,r1,q1⟩=>?_)
  exact thn (hr pos pins s1 σ H1 _ I1 q1) fun us s2 ⟨xs,H2,I2,r2,q2⟩=>⟨x::xs,H2,I2,.cons r1 r2,q2⟩

def tTup (t:TA):TE:=fun σ H Q=>t σ H fun xs H1=>xs.length≤sizeLine∧∀ p,H1 p=none→Q (.ref p) (upd H1 p (.tup xs))
def tLst (t:TA):TE:=fun σ H Q=>t σ H fun xs H1=>xs.length≤sizeLine∧∀ p,H1 p=none→Q (.ref p) (upd H1 p (.lst xs))
theorem pe_tup {x1} (h:PA X es t):PE X (.Tuple es x1 pos) (tTup t):=by
  intro pins s σ H Q I hq
  refine wpAny_Tuple_spliced (thn (h pos pins s σ H _ I hq) fun us s1 ⟨xs,H1,I1,r,z,q⟩=>⟨by rw [← r.length]; exact z,?_⟩)
  have hf:H1 s1.heap.objs.size=none:=I1.hok.fresh (Nat.le_refl _)
  refine ⟨.ref s1.heap.objs.size,upd H1 s1.heap.objs.size (.tup xs),I1.laid (t':=s1.toks) (fun b u e=>Heap.get?_push_of_some _ e) (Nat.le_refl _) ?_,rfl,q _ hf⟩
  exact ⟨z,us,r,⟨_,Heap.get?_push_size _ rfl,rfl,_,rfl,rfl⟩⟩
theorem pe_lst (h:PA X es t):PE X (.List es pos) (tLst t):=by
  intro pins s σ H Q I hq
  refine wpAny_List_spliced (thn (h pos pins s σ H _ I hq) fun us s1 ⟨xs,H1,I1,r,z,q⟩=>⟨by rw [← r.length]; exact z,?_⟩)
  have hf:H1 s1.heap.objs.size=none:=I1.hok.fresh (Nat.le_refl _)
  refine ⟨.ref s1.heap.objs.size,upd H1 s1.heap.objs.size (.lst xs),I1.laid (t':=s1.toks) (fun b u e=>Heap.get?_push_of_some _ e) (Nat.le_refl _) ?_,rfl,q _ hf⟩
  exact ⟨z,us,0,r,Heap.get?_push_size _ rfl⟩
end

abbrev Sp:=List V→Hp→VK→XK→Prop
abbrev CXT:=List Env→Hp→Shared→XK→Value→Shared→Prop

structure Env0 (P:Program) (w:World) (K:PySem.W.Frag) (mg:Str→Option Value) (base:Heap) (A:Around) (outer:List Env) (s:Shared) (H:Hp):Prop where
  frames:A.frames=some outer
  mod:Mod K mg base
  bs:∀ b o,base.get? b=some o→s.heap.get? b=some o∧H b=none
  bsz:base.objs.size≤s.heap.objs.size
  funs:s.heap.FunFrames base outer
  frf:∀ b ∈ frs outer,H b=none
  hok:HOk P w H s.heap
  bare:AllBare s.gens
def CE (outer:List Env) (P:Program) (w:World) (H:Hp) (s:Shared) (Q:VK) (u:Value) (s':Shared):Prop :=
  ∃ v H',s'.os=s.os∧AllBare s'.gens∧Un (frs outer) [] H H' s.heap s'.heap∧HOk P w H' s'.heap∧RelV v u∧Q v H'
def CR (CX:CXT) (outer:List Env) (P:Program) (w:World) (H:Hp) (s:Shared) (Q:VK) (E:XK) (r:Result) (s':Shared):Prop :=
  match r with
  | .ok (.ret u)=>CE outer P w H s Q u s'
  | .ok _=>False
  | .error e=>CX outer H s E e s'
structure FnOk (P:Program) (w:World) (K:PySem.W.Frag) (mg:Str→Option Value) (base:Heap) (CX:CXT) (k:Nat) (f:Addr) (fd:FuncData) (ps:List Str) (sp:Sp):Prop where
  len:∀ vs H Q E,sp vs H Q E→vs.length=ps.length
  run:∀ (A:Around) (outer:List Env) (s:Shared) (H:Hp) (args:Args) (us:List Value) (vs:List V) (Q:VK) (E:XK),Room k A→Env0 P w K mg base A outer s H→BindsTo s fd args (ps.zip us)→Vals vs us→sp vs H Q E →
    codeAny (model P w) A (.call (.ref f) args) (CR CX outer P w H s Q E) s
theorem FnOk.mono {P:Program} {w:World} {K:PySem.W.Frag} {mg:Str→Option Value} {base:Heap} {CX:CXT} {j k:Nat} {f:Addr} {fd:FuncData} {ps:List Str} {sp:Sp} (F:FnOk P w K mg base CX j f fd ps sp) (h:j≤k) :
    FnOk P w K mg base CX k f fd ps sp:=⟨F.len,fun A outer s H args us vs Q E hr=>F.run A outer s H args us vs Q E (hr.mono h)⟩
theorem FnOk.imp {P:Program} {w:World} {K:PySem.W.Frag} {mg:Str→Option Value} {base:Heap} {CX:CXT} {k:Nat} {f:Addr} {fd:FuncData} {ps:List Str} {sp sp':Sp} (F:FnOk P w K mg base CX k f fd ps sp)
    (h:∀ vs H Q E,sp' vs H Q E→sp vs H Q E):FnOk P w K mg base CX k f fd ps sp' :=
  ⟨fun vs H Q E q=>F.len vs H Q E (h _ _ _ _ q),fun A outer s H args us vs Q E hr he hb hv hs=>F.run A outer s H args us vs Q E hr he hb hv (h _ _ _ _ hs)⟩

theorem Env0.make {P:Program} {w:World} {K:PySem.W.Frag} {mg:Str→Option Value} {base:Heap} {A:Around} {outer:List Env} {s:Shared} {H:Hp} (e:Env0 P w K mg base A outer s H) (C:Addr) (us:List Value) (kw:List (Str × Value)) :
    Env0 P w K mg base (A.under (.builtin "type.__call__" ⟨.ref C::us,kw⟩)) outer s H:=⟨by first | exact e.frames | (simpa [Around.under,Code.envs,Code.isFrame,pushEnvs] using e.frames),e.mod,e.bs,e.bsz,e.funs,e.frf,e.hok,e.bare⟩
theorem Env0.in1 {P:Program} {w:World} {K:PySem.W.Frag} {mg:Str→Option Value} {base:Heap} {A:Around} {outer:List Env} {s:Shared} {H:Hp} (e:Env0 P w K mg base A outer s H) :
    Env0 P w K mg base A.in1 outer s H:=⟨e.frames,e.mod,e.bs,e.bsz,e.funs,e.frf,e.hok,e.bare⟩

section
variable {X:Cx} {pins:List (Addr × Obj)} {σ:St} {H:Hp} {s s':Shared}
theorem Inv.env0 (I:Inv X pins σ H s):Env0 X.prog X.w X.K X.mg X.base X.A X.stack s H :=
  ⟨I.ok.frames,I.ok.mod,I.bs,Nat.le_trans I.ok.bsz I.sz,I.stack,I.stkFree,I.hok,I.bare⟩
theorem Inv.after {Q:VK} {u:Value} (I:Inv X pins σ H s) (h:CE X.stack X.prog X.w H s Q u s'):EP X pins σ Q u s':=by
  obtain ⟨v,H',os,bare,un,hok,r,q⟩:=h
  obtain ⟨hh,g,d,t,os'⟩:=s'
  obtain rfl:os'=s.os:=os
  exact ⟨v,H',I.call (h':=hh) (g':=g) (d':=d) (t':=t) (ch:=[]) un hok bare (fun b z=>absurd z (by simp)),r,q⟩
end

def tCall (sp:Sp) (dvs:List V) (E:XK) (t:TA):TE:=fun σ H Q=>t σ H fun vs H1=>sp (vs++dvs) H1 Q E
def tMeth (C:Addr) (m:Str) (sp:Sp) (dvs:List V) (E:XK) (ta:TE) (t:TA):TE:=fun σ H Q=>ta σ H fun x H1=>∃ a dx fs,x=.ref a∧H1 a=some (.ins C dx fs)∧fs.lookup m=none ∧
  t σ H1 fun vs H2=>sp (x::(vs++dvs)) H2 Q E
def tMake (C:Addr) (sp:Sp) (dvs:List V) (E:XK) (t:TA):TE:=fun σ H Q=>t σ H fun vs H1=>∀ x dx,H1 x=none→H1 dx=none→dx ≠ x →
  sp (.ref x::(vs++dvs)) (upd (upd H1 dx (.own x)) x (.ins C dx [])) (fun v H2=>v=.non∧Q (.ref x) H2) E

def Binds (K:PySem.W.Frag) (fd:FuncData) (ps:List Str) (ds:List Value):Prop :=
  ∀ (s:Shared) (us:List Value),K.In s.heap→(us++ds).length=ps.length→BindsTo s fd ⟨us,[]⟩ (ps.zip (us++ds))
theorem Binds.all {K:PySem.W.Frag} {fd:FuncData} {ps:List Str} (h:∀ us:List Value,us.length=ps.length→bindArgs fd ⟨us,[]⟩=pure (ps.zip us)):Binds K fd ps []:=fun s us _ hl=>by
  rw [List.append_nil] at hl ⊢
  exact .of_eq (h us hl)

def Passes (CX:CXT) (X:Cx) (E:XK):Prop:=∀ (pins:List (Addr × Obj)) (σ:St) (H:Hp) (s:Shared) (e:Value) (s':Shared),Inv X pins σ H s→CX X.stack H s E e s'→X.xe e s'

section
variable {X:Cx} {CX:CXT} {k:Nat} {f C:Addr} {fd:FuncData} {ps:List Str} {sp:Sp} {dvs:List V} {ds:List Value} {E:XK} {x m:Str} {p pos apos:Pos} {e o:Expr} {es:List Expr} {ta:TE} {t:TA}

theorem run_fn {pins:List (Addr × Obj)} {σ:St} {H:Hp} {s:Shared} {Q:VK} {us:List Value} {vs:List V} (F:FnOk X.prog X.w X.K X.mg X.base CX k f fd ps sp) (hr:Room k X.A) (hb:Binds X.K fd ps ds) (hd:Vals dvs ds) (hx:Passes CX X E)
    (I:Inv X pins σ H s) (r:Vals vs us) (h:sp (vs++dvs) H Q E):wpAny (model X.prog X.w) X.A (call (.ref f) us) (EP X pins σ Q) X.xe s:=by
  have r2:Vals (vs++dvs) (us++ds):=r.append hd
  have hl:(us++ds).length=ps.length:=by rw [← r2.length]; exact F.len _ _ _ _ h
  refine wpAny_call (codeAny_mono (F.run X.A X.stack s H ⟨us,[]⟩ (us++ds) (vs++dvs) Q E hr I.env0 (hb s us I.kIn hl) r2 h) fun r s' hq=>?_)
  cases r with
  | error e=>exact hx pins σ H s e s' I hq
  | ok fl =>
    cases fl with
    | ret u=>exact I.after hq
    | next=>exact False.elim hq
    | brk=>exact False.elim hq
    | cont=>exact False.elim hq

theorem pe_call (F:FnOk X.prog X.w X.K X.mg X.base CX k f fd ps sp) (hr:Room k X.A) (hg:Gl X x) (hm:X.mg x=some (.ref f)) (hk:PySem.W.keepIn X.K (.ref f)=true) (hb:Binds X.K fd ps ds) (hd:Vals dvs ds) (hx:Passes CX X E)
    (ha:PA X (e::es) t) (hdb:(x == ("__debug__":Str))=false:=by decide) (he:starEach (e::es) X.env=(false,eval e X.env)::starEach es X.env:=by rfl) (hpl:(backTo pos (starEach es X.env)).any (·.1)=false:=by rfl) :
    PE X (.Call (.Name x p) (e::es) [] pos) (tCall sp dvs E t):=by
  intro pins s σ H Q I h
  refine wpAny_Call_Name_kw (ld_glob I hg hm ?_ hdb)
  refine PySem.W.callWith_K (h₀:=X.base) I.ok.mod.kin hk (thn (ha pos pins s σ H _ I h) fun us s1 ⟨vs,H1,I1,r,q⟩=>⟨I1.kIn,?_⟩) he hpl
  exact run_fn F hr hb hd hx I1 r q
theorem pe_meth {pl:Sem Bool} (he:PE X o ta) (c:Cls X.K C) (hm:Meth X.K C m f) (F:FnOk X.prog X.w X.K X.mg X.base CX k f fd ps sp) (hr:Room k X.A) (hb:Binds X.K fd ps ds) (hd:Vals dvs ds) (hx:Passes CX X E) (ha:PA X (e::es) t)
    (hst:starEach (e::es) X.env=(false,eval e X.env)::starEach es X.env:=by rfl) (hpl:(backTo pos (starEach es X.env)).any (·.1)=false:=by rfl)
    (ht:eval (.Call (.Attribute o m apos) (e::es) [] pos) X.env=(do
      let ov ← eval o X.env
      standAt apos.atName
      let (f,first) ← holding [ov] (getMethod ov m pl)
      callWith pos f first (backTo pos (starEach (e::es) X.env)) (backToKw pos (keywordEach [] X.env))):=by rfl) :
    PE X (.Call (.Attribute o m apos) (e::es) [] pos) (tMeth C m sp dvs E ta t):=by
  intro pins s σ H Q I h
  refine PySem.W.methodCall_KW (pl:=pl) (thn (he pins s σ H _ I h) fun u s1 ⟨x,H1,I1,rx,a,dx,fs,ex,ea,l,q⟩=>?_) ht
  subst ex
  obtain rfl:u=Value.ref a:=rx
  refine getmeth_ok I1 ea c hm l ?_
  refine PySem.W.callWith_K (first:=[.ref a]) (h₀:=X.base) I.ok.mod.kin hm.kp (thn (ha pos pins s1 σ H1 _ I1 q) fun us s2 ⟨vs,H2,I2,r,q2⟩=>⟨I2.kIn,?_⟩) hst hpl
  exact run_fn (us:=.ref a::us) (vs:=.ref a::vs) F hr hb hd hx I2 (.cons rfl r) q2
structure Mk (K:PySem.W.Frag) (C f:Addr):Prop where
  makes:PySem.W.makesIn K C=true
  init:PySem.W.findIn K (.ref C) "__init__"=some (some (.ref f))
  fn:PySem.W.isFn K (.ref f)=true
  kp:PySem.W.keepIn K (.ref C)=true

theorem run_make {pins:List (Addr × Obj)} {σ:St} {H:Hp} {s:Shared} {Q:VK} {us:List Value} {vs:List V} (M:Mk X.K C f) (F:FnOk X.prog X.w X.K X.mg X.base CX k f fd ps sp) (hr:Room (k + 1) X.A) (hb:Binds X.K fd ps ds) (hd:Vals dvs ds)
    (hx:Passes CX X E) (I:Inv X pins σ H s) (r:Vals vs us)
    (h:∀ x dx,H x=none→H dx=none→dx ≠ x→sp (.ref x::(vs++dvs)) (upd (upd H dx (.own x)) x (.ins C dx [])) (fun v H2=>v=.non∧Q (.ref x) H2) E) :
    wpAny (model X.prog X.w) X.A (call (.ref C) us) (EP X pins σ Q) X.xe s:=by
  have hq:=h (s.heap.objs.size + 1) s.heap.objs.size (I.hok.fresh (Nat.le_succ _)) (I.hok.fresh (Nat.le_refl _)) (Nat.ne_of_lt (Nat.lt_succ_self _))
  have I2:=Inv.made (C:=C) I
  have r2:Vals (V.ref (s.heap.objs.size + 1)::(vs++dvs)) (Value.ref (s.heap.objs.size + 1)::(us++ds)):=.cons rfl (r.append hd)
  have hl:(Value.ref (s.heap.objs.size + 1)::us++ds).length=ps.length:=by
    have e:=r2.length
    rw [F.len _ _ _ _ hq] at e
    exact e.symm
  refine wpAny_call (make_map (f:=f) I.kIn M.makes M.init (beq_iff_eq.mp M.fn) (codeAny_mono (F.run _ X.stack _ _ ⟨Value.ref (s.heap.objs.size + 1)::us,[]⟩ (Value.ref (s.heap.objs.size + 1)::(us++ds)) _ _ E (hr.make C us [])
    (I2.env0.make C us []) (hb _ (Value.ref (s.heap.objs.size + 1)::us) I2.kIn hl) r2 hq) fun r s' hq'=>?_))
  cases r with
  | error e=>exact hx pins σ _ _ e s' I2 hq'
  | ok fl =>
    cases fl with
    | ret u =>
      obtain ⟨v,H',I3,rv,ev,q3⟩:=I2.after hq'
      subst ev
      exact ⟨rv,⟨V.ref (s.heap.objs.size + 1),H',I3,rfl,q3⟩⟩
    | next=>exact False.elim hq'
    | brk=>exact False.elim hq'
    | cont=>exact False.elim hq'
theorem pe_make (M:Mk X.K C f) (F:FnOk X.prog X.w X.K X.mg X.base CX k f fd ps sp) (hr:Room (k + 1) X.A) (hg:Gl X x) (hm:X.mg x=some (.ref C)) (hb:Binds X.K fd ps ds) (hd:Vals dvs ds) (hx:Passes CX X E)
    (ha:PA X (e::es) t) (hdb:(x == ("__debug__":Str))=false:=by decide) (he:starEach (e::es) X.env=(false,eval e X.env)::starEach es X.env:=by rfl) (hpl:(backTo pos (starEach es X.env)).any (·.1)=false:=by rfl) :
    PE X (.Call (.Name x p) (e::es) [] pos) (tMake C sp dvs E t):=by
  intro pins s σ H Q I h
  refine wpAny_Call_Name_kw (ld_glob I hg hm ?_ hdb)
  refine PySem.W.callWith_K (h₀:=X.base) I.ok.mod.kin M.kp (thn (ha pos pins s σ H _ I h) fun us s1 ⟨vs,H1,I1,r,q⟩=>⟨I1.kIn,?_⟩) he hpl
  exact run_make M F hr hb hd hx I1 r q
end

section
variable {X:Cx} {CX:CXT} {k:Nat} {f C:Addr} {fd:FuncData} {ps ks:List Str} {sp:Sp} {E:XK} {x m:Str} {p pos apos kpos:Pos} {e o:Expr} {es:List Expr} {kws:List Keyword} {te ta:TE} {t tk:TA} {nm:Option Str}
variable {g:List Value→List Value→List Value} {gV:List V→List V→List V}
end

structure FnScope (N P:List Str) (sc:Scope):Prop where
  kind:sc.kind=.function
  co:sc.isCoroutine=false
  gen:sc.isGenerator=false
  nd:N.Nodup
  pre:N.take P.length=P
  par:∀ x ∈ P,sc.names.lookup x=some .local ∨ sc.names.lookup x=some .cell
  nofree:∀ y ∈ sc.names,y.2 ≠ .free

theorem bindL_out {kindOf:Str→Option NameKind} {x:Str}:∀ {binds:List (Str × Value)} {m:Str→Option Value},(∀ v,(x,v) ∉ binds)→bindL kindOf binds m x=m x
  | [],_,_=>rfl
  | (n,v)::r,m,h=>by
    unfold bindL
    rw [bindL_out fun w hw=>h w (List.mem_cons_of_mem _ hw)]
    split
    · have:x ≠ n:=by rintro rfl; exact h v List.mem_cons_self
      simp [this]
    · rfl
theorem bindC_out {kindOf:Str→Option NameKind} {x:Str}:∀ {binds:List (Str × Value)} {m:Str→Option Value},(∀ v,(x,v) ∉ binds)→bindC kindOf binds m x=m x
  | [],_,_=>rfl
  | (n,v)::r,m,h=>by
    unfold bindC
    rw [bindC_out fun w hw=>h w (List.mem_cons_of_mem _ hw)]
    split
    · rfl
    · have:x ≠ n:=by rintro rfl; exact h v List.mem_cons_self
      simp [this]
theorem bindL_get {kindOf:Str→Option NameKind} {x:Str} {v:Value}:∀ {P:List Str} {vs:List Value} {i:Nat} {m:Str→Option Value},P.Nodup→P[i]?=some x→vs[i]?=some v→kindOf x=some .local →
    bindL kindOf (P.zip vs) m x=some v
  | [],_,_,_,_,h,_,_=>by simp at h
  | _::_,[],_,_,_,_,h,_=>by simp at h
  | p::P,w::vs,0,m,nd,h1,h2,hk=>by
    simp at h1 h2; subst h1; subst h2
    show bindL kindOf ((p,w)::P.zip vs) m p=_
    unfold bindL
    rw [bindL_out fun v hv=>(List.nodup_cons.mp nd).1 (List.of_mem_zip hv).1,if_pos hk]
    simp
  | p::P,w::vs,i + 1,m,nd,h1,h2,hk=>by
    show bindL kindOf ((p,w)::P.zip vs) m x=_
    unfold bindL
    exact bindL_get (i:=i) (List.nodup_cons.mp nd).2 (by simpa using h1) (by simpa using h2) hk
theorem bindC_get {kindOf:Str→Option NameKind} {x:Str} {v:Value}:∀ {P:List Str} {vs:List Value} {i:Nat} {m:Str→Option Value},P.Nodup→P[i]?=some x→vs[i]?=some v→kindOf x ≠ some .local →
    bindC kindOf (P.zip vs) m x=some v
  | [],_,_,_,_,h,_,_=>by simp at h
  | _::_,[],_,_,_,_,h,_=>by simp at h
  | p::P,w::vs,0,m,nd,h1,h2,hk=>by
    simp at h1 h2; subst h1; subst h2
    show bindC kindOf ((p,w)::P.zip vs) m p=_
    unfold bindC
    rw [bindC_out fun v hv=>(List.nodup_cons.mp nd).1 (List.of_mem_zip hv).1,if_neg hk]
    simp
  | p::P,w::vs,i + 1,m,nd,h1,h2,hk=>by
    show bindC kindOf ((p,w)::P.zip vs) m x=_
    unfold bindC
    exact bindC_get (i:=i) (List.nodup_cons.mp nd).2 (by simpa using h1) (by simpa using h2) hk

def start (N:List Str) (vs:List V):St:=vs.map some++List.replicate (N.length - vs.length) none

def cxOf (CX:CXT) (P:Program) (w:World) (K:PySem.W.Frag) (mg:Str→Option Value) (base:Heap) (N:List Str) (qual:Str) (scope:Scope) (f:Addr) (cd:Value) (A:Around) (outer:List Env) (s:Shared) (H:Hp) (E:XK):Cx where
  prog:=P
  w:=w
  K:=K
  mg:=mg
  base:=base
  A:=A.deeper (envOfC qual scope s.heap.objs.size f cd)
  N:=N
  s₀:=s
  H₀:=H
  env:=envOfC qual scope s.heap.objs.size f cd
  outer:=outer
  stack:=envOfC qual scope s.heap.objs.size f cd::outer
  ex:=[]
  calm:=true
  fn:=fun _=>true
  pn:=[]
  xe:=fun e s'=>wpAny (model P w) (A.deeper (envOfC qual scope s.heap.objs.size f cd)) (leaving (envOfC qual scope s.heap.objs.size f cd) e) (fun _ s''=>CX outer H s E e s'') (fun e' s''=>CX outer H s E e' s'') s'

theorem cell_has {sc:Scope} {n:Nat} {x:Str} (h:sc.names.lookup x=some .cell):∃ c,(cellsFrom n sc.names []).lookup x=some c:=by
  have q:=PySem.W.cellsFrom_some sc.names n [] (.inl h)
  exact Option.isSome_iff_exists.mp q

theorem inv_start {CX:CXT} {P:Program} {w:World} {K:PySem.W.Frag} {mg:Str→Option Value} {base:Heap} {N ps:List Str} {qual:Str} {scope:Scope} {f:Addr} {cd:Value} {A:Around} {outer:List Env} {s s1:Shared} {H:Hp} {E:XK} {us:List Value} {vs:List V}
    (S:FnScope N ps scope) (hd:A.handled=none) (e0:Env0 P w K mg base A outer s H) (hl:vs.length=ps.length) (r:Vals vs us)
    (x:InCallC s s.heap.objs.size (bindL (envOfC qual scope s.heap.objs.size f cd).kindOf (ps.zip us) fun _=>none) (cellsFrom (s.heap.objs.size + 1) scope.names []) (bindC (envOfC qual scope s.heap.objs.size f cd).kindOf (ps.zip us) fun _=>none) s1) :
    Inv (cxOf CX P w K mg base N qual scope f cd A outer s H E) [] (start N vs) H s1:=by
  have hpl:ps.length≤N.length:=by have:=congrArg List.length S.pre; rw [List.length_take] at this; omega
  obtain ⟨h1,tk,rfl,hk⟩:=x.done
  have noA:∀ b:Addr,b ∉ (cxOf CX P w K mg base N qual scope f cd A outer s H E).ex:=fun b z=>absurd (show b ∈ ([]:List Addr) from z) (by simp)
  refine ⟨⟨e0.mod,S.kind,rfl,rfl,Nat.le_refl _,fun y z c h1 h2=>?_,fun y hy=>?_,fun y c _ h=>?_,fun _=>hd,Around.frames_deeper e0.frames,.inr ⟨rfl,rfl⟩,fun b z=>absurd z (noA b),e0.bs,e0.bsz,fun b _ _=>noA b,fun b z=>absurd z (noA b),e0.funs,e0.frf⟩,
    rfl,e0.bare,Un.kept hk,⟨_,x.toInCall.ns,fun i y v h1 h2 h3=>?_⟩,fun y c h=>⟨_,x.cell y c h⟩,e0.hok.fresh (Nat.le_refl _),fun y c h=>?_,fun p hp=>absurd (show p ∈ ([]:List (Addr × Obj)) from hp) (by simp),e0.hok.kept hk,?_⟩
  · exact name_of_addr x.apart (PySem.mem_of_lookup h1) (PySem.mem_of_lookup h2)
  · have hy:scope.names.lookup y=some .cell ∨ scope.names.lookup y=some .free:=hy
    rcases hy with hy | hy
    · exact cell_has hy
    · exact absurd rfl (S.nofree _ (PySem.mem_of_lookup hy))
  · exact Nat.le_of_lt (x.above y c (PySem.mem_of_lookup h))
  · have hi:i < vs.length:=by
      unfold start at h2
      by_cases hi:i < vs.length
      · exact hi
      · rw [List.getElem?_append_right (by simpa using hi)] at h2
        rw [List.getElem?_replicate] at h2
        split at h2 <;> cases h2
    have ha:vs[i]?=some v:=by
      unfold start at h2
      rw [List.getElem?_append_left (by simpa using hi),List.getElem?_map] at h2
      cases e:vs[i]? with
      | none=>rw [e] at h2; cases h2
      | some a=>rw [e] at h2; cases h2; rfl
    obtain ⟨u,hu,rv⟩:=r.get ha
    have hp:ps[i]?=some y:=by
      rw [← S.pre,List.getElem?_take_of_lt (by omega)]; exact h1
    have ndP:ps.Nodup:=by rw [← S.pre]; exact S.nd.sublist (List.take_sublist _ _)
    refine ⟨u,rv,?_⟩
    rcases S.par y (List.mem_of_getElem? hp) with k | k
    · exact .inl ⟨k,bindL_get ndP hp hu k⟩
    · obtain ⟨c,e⟩:=cell_has (n:=s.heap.objs.size + 1) k
      refine .inr ⟨.inl k,c,e,?_⟩
      have q:=x.cell y c e
      rw [bindC_get ndP hp hu (by show scope.names.lookup y ≠ _; rw [k]; decide)] at q
      exact q
  · exact e0.hok.fresh (Nat.le_of_lt (x.above y c (PySem.mem_of_lookup h)))
  · unfold start
    show _=N.length
    rw [List.length_append,List.length_map,List.length_replicate]
    omega

theorem fn_of {CX:CXT} {P:Program} {w:World} {K:PySem.W.Frag} {mg:Str→Option Value} {base:Heap} {k:Nat} {f:Addr} {name qual:Str} {params:Arguments} {body:List Stmt} {scope:Scope} {dV kV doc pm cdv ct oc:Value} {an od:Option Addr}
    {osl:Array (Option Value)} {N ps:List Str} {sp:Sp} (lk:K.lookup f=some ⟨oc,od,.func (PySem.W.fnOf name qual params body scope dV kV doc pm an cdv ct),osl⟩) (hcd:PySem.W.codeIn K cdv qual=true) (S:FnScope N ps scope)
    (len:∀ vs H Q E,sp vs H Q E→vs.length=ps.length)
    (hbody:∀ (A:Around) (outer:List Env) (s:Shared) (H:Hp) (vs:List V) (Q:VK) (E:XK),Room k (A.deeper (envOfC qual scope s.heap.objs.size f cdv))→sp vs H Q E →
      ∃ t,PSs (cxOf CX P w K mg base N qual scope f cdv A outer s H E) body t∧t { nx:=fun _ H'=>Q .non H',rt:=Q } (start N vs) H) :
    FnOk P w K mg base CX (k + 1) f (PySem.W.fnOf name qual params body scope dV kV doc pm an cdv ct) ps sp:=by
  refine ⟨len,fun A outer s H args us vs Q E hr e0 hb r hsp=>?_⟩
  have hl:=len _ _ _ _ hsp
  have KX:K.In s.heap:=e0.mod.kin.keeps fun b o e=>(e0.bs b o e).1
  have lim:s.heap.NoLimit:=e0.mod.nolimit.keeps fun b o e=>(e0.bs b o e).1
  have hkind:∀ y ∈ ps.zip us,scope.names.lookup y.1=some .local ∨ (scope.names.lookup y.1=some .cell∧((cellsFrom (s.heap.objs.size + 1) scope.names []).lookup y.1).isSome=true):=fun ⟨n,v⟩ hy=>by
    rcases S.par n (List.of_mem_zip hy).1 with q | q
    · exact .inl q
    · exact .inr ⟨q,PySem.W.cellsFrom_some _ _ _ (.inl q)⟩
  refine codeAny_call_function hr.depth (KX _ _ lk) rfl S.co S.gen rfl (PySem.W.codeRec_of KX hcd) (hb _ _ _ _ ?_)
  refine wpAny_newFunctionEnv_cells S.kind hkind fun env he s1 x=>?_
  subst he
  refine ⟨lim.keeps x.toInCall.keep,codeAny_func ?_⟩
  obtain ⟨t,ht,hq⟩:=hbody A outer s H vs Q E (hr.deeper _) hsp
  have I:Inv (cxOf CX P w K mg base N qual scope f cdv A outer s H E) [] (start N vs) H s1:=inv_start S hr.hd e0 hl r x
  refine wpAny_mono (ht [] s1 (start N vs) H _ I hq) (fun fl s' hs=>?_) fun e s' hs=>hs
  have fin:∀ {σ':St} {H':Hp} {v:V} {u:Value},Inv (cxOf CX P w K mg base N qual scope f cdv A outer s H E) [] σ' H' s'→RelV v u→Q v H'→CE outer P w H s Q u s' :=
    fun {σ' H' v u} J rv q=>⟨v,H',J.os,J.bare,J.base,J.hok,rv,q⟩
  cases fl with
  | ret u =>
    obtain ⟨v,σ',H',J,rv,q⟩:=hs
    exact fin J rv q
  | next =>
    obtain ⟨σ',H',J,q⟩:=hs
    exact fin (v:=V.non) (u:=Value.none) J rfl q
  | brk =>
    obtain ⟨_,_,_,q⟩:=hs
    exact False.elim q
  | cont =>
    obtain ⟨_,_,_,q⟩:=hs
    exact False.elim q
end L2

namespace L2
open PySem PySem.Spec PyProof.Rows
section
variable {X:Cx} {x:Str} {p pos:Pos} {e:Expr} {es:List Expr} {t:TA} {id T:String} {r:List V→Hp→VK→Prop}

def tCB (r:List V→Hp→VK→Prop) (t:TA):TE:=fun σ H Q=>t σ H fun vs H1=>r vs H1 Q
theorem pe_callB (hc:CallR X (.builtin id) r) (hg:Gl X x) (hm:X.mg x=none) (hv:bootBuiltins x=some (.builtin id)) (ha:PA X (e::es) t) (hn:x ≠ "__name__":=by decide) (hdb:(x == ("__debug__":Str))=false:=by decide)
    (he:starEach (e::es) X.env=(false,eval e X.env)::starEach es X.env:=by rfl) (hpl:(backTo pos (starEach es X.env)).any (·.1)=false:=by rfl):PE X (.Call (.Name x p) (e::es) [] pos) (tCB r t):=by
  intro pins s σ H Q I h
  refine wpAny_Call_Name_kw (ld_blt I hg hm hv ?_ hn hdb)
  exact PyProof.Rows.callWith_builtin1 (thn (ha pos pins s σ H _ I h) fun us s1 ⟨vs,H1,I1,r1,q1⟩=>hc pins s1 σ H1 vs us Q I1 r1 q1) he hpl
theorem pe_callTy (hc:CallR X (.type T) r) (hg:Gl X x) (hm:X.mg x=none) (hv:bootBuiltins x=some (.type T)) (ha:PA X (e::es) t) (hn:x ≠ "__name__":=by decide) (hdb:(x == ("__debug__":Str))=false:=by decide)
    (he:starEach (e::es) X.env=(false,eval e X.env)::starEach es X.env:=by rfl) (hpl:(backTo pos (starEach es X.env)).any (·.1)=false:=by rfl):PE X (.Call (.Name x p) (e::es) [] pos) (tCB r t):=by
  intro pins s σ H Q I h
  refine wpAny_Call_Name_kw (ld_blt I hg hm hv ?_ hn hdb)
  exact PyProof.Rows.callWith_type1 (thn (ha pos pins s σ H _ I h) fun us s1 ⟨vs,H1,I1,r1,q1⟩=>hc pins s1 σ H1 vs us Q I1 r1 q1) he hpl
end
end L2

namespace HT
open PySem PyProof.Rows

section
open PySem.SeqAt
open PySem.AutoSeq1 (wpAny_loadPart')
open PySem.MeetsSeq PySem.MeetsSeq2 PySem.MeetsSeq3

end

section
variable {prog:Program} {w:World} {A:Around} {E:Value→Shared→Prop} {s:Shared}

theorem cat_tup {t b:Addr} {vs ws:List Value} {Q:Value→Shared→Prop} (ht:IsTup s.heap t vs.toArray) (hb:IsTup s.heap b ws.toArray) (hv:vs ≠ [])
    (h1:ws=[]→Q (.ref t) s) (h2:ws ≠ []→Q (.ref s.heap.objs.size) { s with heap:=s.heap.push { cls:=.type "tuple",data:=.seq (vs++ws).toArray } })
    (hsz:vs.length + ws.length≤sizeLine):wpAny (model prog w) A (binaryOp .Add (.ref t) (.ref b)) Q E s:=by
  obtain ⟨⟨cls,dd,data,sl⟩,ho,hc,n,hd⟩:=id ht
  obtain ⟨⟨cls2,dd2,data2,sl2⟩,ho2,hc2,n2,hd2⟩:=id hb
  simp only at hc hd hc2 hd2
  subst hc hd hc2 hd2
  have e:vs.toArray++ws.toArray=(vs++ws).toArray:=by simp
  by_cases hw:ws=[]
  · exact concat_meets ⟨_,ho,rfl⟩ ⟨_,ho2,rfl⟩ noFill_tuple_add seq_tuple_add PySem.F.slot_tuple_add PySem.F.entry_tuple_add (PySem.F.args_tuple_add_2 _ _)
      (tuple_addW1 t b vs.toArray ws.toArray n n2 dd dd2 sl sl2 (by simpa using hv) (by simp [hw])) ⟨ho,ho2,h1 hw⟩
  · refine concat_meets ⟨_,ho,rfl⟩ ⟨_,ho2,rfl⟩ noFill_tuple_add seq_tuple_add PySem.F.slot_tuple_add PySem.F.entry_tuple_add (PySem.F.args_tuple_add_2 _ _)
      (tuple_addW2 t b vs.toArray ws.toArray n n2 dd dd2 sl sl2 (by simpa using hv) (by simpa using hw) (by rw [List.size_toArray,List.size_toArray]; exact hsz)) ⟨ho,ho2,?_⟩
    rw [e]
    exact h2 hw

def sIx (n d:Nat):Option Int→Nat
  | none=>d
  | some v=>if v < 0 then (v + (n:Int)).toNat else min v.toNat n
theorem sIx_none (n d:Nat):sIx n d none=d:=rfl
theorem sIx_nat (n d k:Nat):sIx n d (some (k:Int))=min k n:=by
  show (if (k:Int) < 0 then ((k:Int) + (n:Int)).toNat else min (k:Int).toNat n)=min k n
  rw [if_neg (by omega),Int.toNat_natCast]
theorem sIx_le (n d:Nat) (hd:d≤n) (o:Option Int):sIx n d o≤n:=by
  cases o with
  | none=>exact hd
  | some v =>
    show (if v < 0 then (v + (n:Int)).toNat else min v.toNat n)≤n
    by_cases hv:v < 0
    · rw [if_pos hv]; omega
    · rw [if_neg hv]; exact Nat.min_le_right _ _
theorem clip_eq (v:Int) (n d:Nat):(if v < 0 then max (v + (n:Int)) 0 else min v (n:Int))=((sIx n d (some v):Nat):Int):=by
  show (if v < 0 then max (v + (n:Int)) 0 else min v (n:Int))=(((if v < 0 then (v + (n:Int)).toNat else min v.toNat n):Nat):Int)
  by_cases hv:v < 0
  · simp only [if_pos hv]; omega
  · simp only [if_neg hv]; omega
theorem adjust_gen (lo hi:Option Int) (n:Nat):Builtin.Slice.sliceAdjust lo hi 1 (n:Int)=(((sIx n 0 lo:Nat):Int),((sIx n n hi:Nat):Int)):=by
  have h1:¬ ((1:Int) < 0):=by omega
  unfold Builtin.Slice.sliceAdjust
  simp only [h1,if_false]
  refine Prod.ext ?_ ?_
  · cases lo with
    | none=>rfl
    | some v=>exact clip_eq v n 0
  · cases hi with
    | none=>rfl
    | some v=>exact clip_eq v n n
theorem places_gen (i j:Nat):Builtin.Slice.slicePlaces (i:Int) (j:Int) 1=j - i:=by
  unfold Builtin.Slice.slicePlaces
  have h1:(1:Int) > 0:=by omega
  simp only [h1,if_true,Int.ediv_one]
  split <;> omega
theorem slicePart_ {v:Value} {o:Option Int} {Q:Option Int→Shared→Prop} (p:IsPart v o) (h:Q o s):wpAny (model prog w) A (Builtin.Slice.slicePartIndex v) Q E s:=by
  cases p with
  | none=>exact slicePart_none h
  | int i t=>exact slicePart_int h
theorem sliceApplied_gen {sl:Addr} {vl vu:Value} {lo hi:Option Int} {n:Nat} {Q:Int × Int × Nat→Shared→Prop} (hs:s.heap.IsSliceOf sl vl vu .none) (pl:IsPart vl lo) (pu:IsPart vu hi)
    (h:Q (((sIx n 0 lo:Nat):Int),1,sIx n n hi - sIx n 0 lo) s):wpAny (model prog w) A (Builtin.Slice.sliceApplied (.ref sl) (pure (n:Int))) Q E s:=by
  obtain ⟨os,hos,hcs,hds⟩:=id hs
  unfold Builtin.Slice.sliceApplied Builtin.Slice.sliceFields
  refine wpAny_bind (wpAny_bind (wpAny_field hos hds (x:=vl) rfl (wpAny_bind (wpAny_field hos hds (x:=vu) rfl (wpAny_bind (wpAny_field hos hds (x:=.none) rfl (wpAny_pure ?_)))))))
  refine wpAny_bind (slicePart_none ?_)
  show wpAny _ _ (if ((1:Int) == 0)=true then _ else _) _ _ s
  rw [if_neg (by decide)]
  refine wpAny_bind (slicePart_ pl (wpAny_bind (slicePart_ pu (wpAny_bind (wpAny_pure ?_)))))
  show wpAny _ _ (match Builtin.Slice.sliceAdjust lo hi 1 (n:Int) with | (lo,hi)=>pure (lo,(1:Int),Builtin.Slice.slicePlaces lo hi 1)) _ _ s
  rw [adjust_gen lo hi n]
  show wpAny _ _ (pure (((sIx n 0 lo:Nat):Int),(1:Int),Builtin.Slice.slicePlaces ((sIx n 0 lo:Nat):Int) ((sIx n n hi:Nat):Int) 1)) _ _ s
  rw [places_gen]
  exact wpAny_pure h
theorem pick_gen (xs:Array Value) (i k:Nat):((List.range k).filterMap fun (m:Nat)=>xs[((i:Int) + (m:Int) * 1).toNat]?).toArray=((xs.toList.drop i).take k).toArray:=by
  have e:(fun (m:Nat)=>xs[((i:Int) + (m:Int) * 1).toNat]?)=fun m=>xs[i + m]?:=by
    funext m
    have:((i:Int) + (m:Int) * 1).toNat=i + m:=by omega
    rw [this]
  rw [e]
  have:=pick_run xs i k
  rw [List.filterMap_map] at this
  have e2:((fun x=>xs[x]?) ∘ fun x=>i + x)=fun m=>xs[i + m]?:=rfl
  rw [e2] at this
  rw [this]

theorem getItem_tuple_cut {t sl:Addr} {items:Array Value} {vl vu:Value} {lo hi:Option Int} {Q:Value→Shared→Prop} (ht:IsTup s.heap t items) (hs:s.heap.IsSliceOf sl vl vu .none) (pl:IsPart vl lo) (pu:IsPart vu hi)
    (hw:¬ (sIx items.size 0 lo=0∧sIx items.size items.size hi=items.size))
    (h:Q (.ref s.heap.objs.size) { s with heap:=s.heap.push { cls:=.type "tuple",data:=.seq ((items.toList.drop (sIx items.size 0 lo)).take (sIx items.size items.size hi - sIx items.size 0 lo)).toArray } })
    (hsz:items.size≤sizeLine):wpAny (model prog w) A (getItem (.ref t) (.ref sl)) Q E s:=by
  have htake:sizeOk (.seq ((items.toList.drop (sIx items.size 0 lo)).take (sIx items.size items.size hi - sIx items.size 0 lo)).toArray):=by
    show ((items.toList.drop (sIx items.size 0 lo)).take (sIx items.size items.size hi - sIx items.size 0 lo)).toArray.size≤sizeLine
    rw [List.size_toArray,List.length_take,List.length_drop,Array.length_toList]
    omega
  have hj:sIx items.size items.size hi≤items.size:=sIx_le _ _ (Nat.le_refl _) hi
  obtain ⟨os,hos,hcs,hds⟩:=id hs
  have hTs:s.TypeIs (.ref sl) "slice":=⟨os,hos,hcs⟩
  unfold getItem
  try with_reducible refine wpAny_holding ?_
  first | refine wpAny_bind (wpAny_pure ?_) | skip
  refine wpAny_bind (wpAny_sequenceKey ht.typeIs (by decide) ?_)
  refine wpAny_bind (wpAny_callSpecial?_slot (name:=Str.ofString "__getitem__") ht.typeIs PyProof.Rows.slot_tuple_getitem
    (wpAny_call_entry PyProof.Rows.slot_tuple_getitem ht.typeIs entry_tuple_getitem ?_ (args_tuple_getitem _ _)))
  show wpAny _ _ (Builtin.Tuple.tupleItemsOf (.ref t) >>= _) _ _ s
  refine wpAny_bind (tupleItemsOf_ ht ?_)
  refine wpAny_bind (wpAny_typeOf hTs ?_)
  rw [if_pos (by decide)]
  refine wpAny_bind (sliceApplied_gen hs pl pu ?_)
  have hno:¬ ((((sIx items.size 0 lo:Nat):Int) == 0 && (1:Int) == 1 && (sIx items.size items.size hi - sIx items.size 0 lo) == items.size)=true):=by
    intro q
    rw [Bool.and_eq_true,Bool.and_eq_true] at q
    have q1:((sIx items.size 0 lo:Nat):Int)=0:=eq_of_beq q.1.1
    have q2:sIx items.size items.size hi - sIx items.size 0 lo=items.size:=eq_of_beq q.2
    exact hw ⟨by omega,by omega⟩
  show wpAny _ _ (if (((sIx items.size 0 lo:Nat):Int) == 0 && (1:Int) == 1 && (sIx items.size items.size hi - sIx items.size 0 lo) == items.size)=true then _ else _) _ _ s
  rw [if_neg hno,pick_gen]
  first
    | exact wpAny_bind (m:=Builtin.Tuple.tupleExact _) (wpAny_newObj_type (wpAny_pure ⟨_,rfl,wpAny_pure h⟩) htake)
    | exact wpAny_bind (m:=Builtin.Tuple.tupleExact _) (wpAny_newObj_type (wpAny_bind (wpAny_pure (wpAny_pure ⟨_,rfl,wpAny_pure h⟩))) htake)
    | exact wpAny_bind (wpAny_bind (m:=Builtin.Tuple.tupleExact _) (wpAny_newObj_type (wpAny_pure (wpAny_pure ⟨_,rfl,wpAny_pure h⟩)) htake))
    | exact wpAny_bind (wpAny_bind (m:=Builtin.Tuple.tupleExact _) (wpAny_newObj_type (wpAny_pure ⟨_,rfl,wpAny_pure h⟩) htake))
end
end HT

namespace L2
open PySem PySem.Spec PyProof.Rows

abbrev TO:=St→Hp→(Option Int→Hp→Prop)→Prop
def PO (X:Cx) (e:Option Expr) (t:TO):Prop :=
  ∀ (pins:List (Addr × Obj)) (s:Shared) (σ:St) (H:Hp) (Q:Option Int→Hp→Prop),Inv X pins σ H s→t σ H Q →
    wpAny (model X.prog X.w) X.A (evalPart e X.env) (fun u s'=>∃ o H',Inv X pins σ H' s'∧IsPart u o∧Q o H') X.xe s
def tNoPart:TO:=fun _ H Q=>Q none H
def tPart (t:TE):TO:=fun σ H Q=>t σ H fun x H1=>∃ i,x=.int i∧Q (some i) H1

section
variable {X:Cx} {e:Expr} {te:TE} {lo hi:Option Expr} {tl th:TO} {pos p2:Pos}

theorem po_none:PO X none tNoPart:=by
  intro pins s σ H Q I h
  rw [evalPart_none]
  exact wpAny_pure ⟨none,H,I,.none,h⟩
theorem po_some (h:PE X e te):PO X (some e) (tPart te):=by
  intro pins s σ H Q I hw
  rw [evalPart_some]
  refine thn (h pins s σ H _ I hw) fun u s1 ⟨x,H1,I1,r1,q1⟩=>?_
  obtain ⟨i,rfl,q⟩:=q1
  obtain ⟨t,rfl⟩:=r1
  exact ⟨some i,H1,I1,.int i t,q⟩

def SlR (X:Cx) (r:V→Option Int→Option Int→Hp→VK→Prop):Prop :=
  ∀ (pins:List (Addr × Obj)) (s:Shared) (σ:St) (H:Hp) (x:V) (v vl vu:Value) (lo hi:Option Int) (sl:Addr) (Q:VK),Inv X pins σ H s→RelV x v→s.heap.IsSliceOf sl vl vu .none→IsPart vl lo→IsPart vu hi→r x lo hi H Q →
    ∃ T id,typeLookup (.type T) "__getitem__"=pure (some (.builtin id))∧s.TypeIs v T∧wpAny (model X.prog X.w) X.A (getItem v (.ref sl)) (EP X pins σ Q) X.xe s
theorem SlR.or {r r':V→Option Int→Option Int→Hp→VK→Prop} (h:SlR X r) (h':SlR X r'):SlR X (fun x lo hi H Q=>r x lo hi H Q ∨ r' x lo hi H Q):=by
  intro pins s σ H x v vl vu lo hi sl Q I rx hs pl pu q
  rcases q with q | q
  · exact h pins s σ H x v vl vu lo hi sl Q I rx hs pl pu q
  · exact h' pins s σ H x v vl vu lo hi sl Q I rx hs pl pu q
def tSl (r:V→Option Int→Option Int→Hp→VK→Prop) (te:TE) (tl th:TO):TE:=fun σ H Q=>te σ H fun x H1=>tl σ H1 fun l H2=>th σ H2 fun u H3=>r x l u H3 Q
theorem pe_slice {r:V→Option Int→Option Int→Hp→VK→Prop} (hr:SlR X r) (he:PE X e te) (hl:PO X lo tl) (hu:PO X hi th):PE X (.Subscript e (.Slice lo hi none p2) pos) (tSl r te tl th):=by
  intro pins s σ H Q I h
  refine Subscript_ (thn (he pins s σ H _ I h) fun v s1 ⟨x,H1,I1,r1,q1⟩=>?_)
  refine wpAny_Slice (thn (hl pins s1 σ H1 _ I1 q1) fun vl s2 ⟨l,H2,I2,pl,q2⟩=>thn (hu pins s2 σ H2 _ I2 q2) fun vu s3 ⟨u,H3,I3,pu,q3⟩=>?_)
  rw [evalPart_none]
  refine wpAny_pure ?_
  have I4:Inv X pins σ H3 { s3 with heap:=s3.heap.push { cls:=.type "slice",data:=.fields #[vl,vu,.none] } }:=I3.kept (t':=s3.toks) fun b ob q=>Heap.get?_push_of_some _ q
  obtain ⟨T,id,hT,ht,hg⟩:=hr pins { s3 with heap:=s3.heap.push { cls:=.type "slice",data:=.fields #[vl,vu,.none] } } σ H3 x v vl vu l u s3.heap.objs.size Q I4 r1 (Heap.IsSliceOf.new ..) pl pu q3
  show wpAny (model X.prog X.w) X.A (subscriptTail e (.Slice lo hi none p2) v (.ref s3.heap.objs.size)) (EP X pins σ Q) X.xe { s3 with heap:=s3.heap.push { cls:=.type "slice",data:=.fields #[vl,vu,.none] } }
  exact tail_any (ops:=[.ref s3.heap.objs.size,v]) ht hT hg (by with_unfolding_all rfl)

def cutV (xs:List V) (lo hi:Option Int):List V:=(xs.drop (HT.sIx xs.length 0 lo)).take (HT.sIx xs.length xs.length hi - HT.sIx xs.length 0 lo)
theorem cutV_length (xs:List V) (lo hi:Option Int):(cutV xs lo hi).length≤xs.length:=by
  unfold cutV
  rw [List.length_take,List.length_drop]
  omega
def rSlT (K:PySem.W.Frag):V→Option Int→Option Int→Hp→VK→Prop:=fun x lo hi H Q=>∃ a xs,x=.ref a∧SqT K H a xs ∧
  ¬ (HT.sIx xs.length 0 lo=0∧HT.sIx xs.length xs.length hi=xs.length)∧∀ p,H p=none→Q (.ref p) (upd H p (.tup (cutV xs lo hi)))
theorem sl_tup:SlR X (rSlT X.K):=by
  intro pins s σ H x v vl vu lo hi sl Q I rx hs pl pu h
  obtain ⟨a,xs,rfl,hx,hw,q⟩:=h
  cases rx
  obtain ⟨its,r,ht,hz⟩:=I.tuple hx
  have hlen:its.toArray.size=xs.length:=by rw [List.size_toArray]; exact r.length.symm
  refine ⟨"tuple",_,PyProof.Rows.slot_tuple_getitem.lookup,ht.typeIs,?_⟩
  refine HT.getItem_tuple_cut ht hs pl pu (by rw [hlen]; exact hw) ?_ (by rw [hlen]; exact hz)
  rw [hlen]
  refine ⟨.ref s.heap.objs.size,_,I.laid (t':=s.toks) (o:=.tup (cutV xs lo hi)) (fun b ob q=>Heap.get?_push_of_some _ q) (Nat.le_refl _) ?_,rfl,q _ (I.hok.fresh (Nat.le_refl _))⟩
  exact ⟨Nat.le_trans (cutV_length xs lo hi) hz,_,(r.drop (HT.sIx xs.length 0 lo)).take (HT.sIx xs.length xs.length hi - HT.sIx xs.length 0 lo),TupN.new _ _⟩

def rCatT (K:PySem.W.Frag):R2:=fun x y H Q=>∃ a b xs ys,x=.ref a∧y=.ref b∧SqT K H a xs∧SqT K H b ys∧xs ≠ []∧xs.length + ys.length≤sizeLine ∧
  (ys=[]→Q (.ref a) H)∧(ys ≠ []→∀ p,H p=none→Q (.ref p) (upd H p (.tup (xs++ys))))
theorem Vals.nil_iff {xs:List V} {us:List Value} (r:Vals xs us):us=[] ↔ xs=[]:=by
  cases r with
  | nil=>simp
  | cons _ _=>simp
theorem op_catT:OpR X (binaryOp .Add) (rCatT X.K):=by
  intro pins s σ H x y v u Q I rx ry h
  obtain ⟨a,b,xs,ys,rfl,rfl,ha,hb,hx,hz,q1,q2⟩:=h
  cases rx
  cases ry
  obtain ⟨its,r1,p1,_⟩:=I.tuple ha
  obtain ⟨its2,r2,p2,_⟩:=I.tuple hb
  refine HT.cat_tup p1 p2 (fun z=>hx (r1.nil_iff.mp z)) (fun z=>⟨.ref a,H,I,rfl,q1 (r2.nil_iff.mp z)⟩) (fun z=>?_) (by rw [← r1.length,← r2.length]; exact hz)
  refine ⟨.ref s.heap.objs.size,_,I.laid (t':=s.toks) (o:=.tup (xs++ys)) (fun b ob q=>Heap.get?_push_of_some _ q) (Nat.le_refl _) ?_,rfl,q2 (fun w=>z (r2.nil_iff.mpr w)) _ (I.hok.fresh (Nat.le_refl _))⟩
  exact ⟨by rw [List.length_append]; exact hz,_,r1.append r2,TupN.new _ _⟩
end
end L2

namespace L2
open PySem PySem.Spec PyProof.Rows

def ixN (n:Nat) (i:Int):Option Nat:=if 0≤i then (if i < n then some i.toNat else none) else if -(n:Int)≤i then some (i + n).toNat else none
def atI {α:Type} (xs:List α) (i:Int):Option α:=(ixN xs.length i).bind fun j=>xs[j]?
theorem ixN_seq {n:Nat} {i:Int} {j:Nat} (h:ixN n i=some j):seqIndex? i n=some j∧j < n∧-(n:Int)≤i∧i < n:=by
  unfold ixN at h
  by_cases h0:0≤i
  · rw [if_pos h0] at h
    by_cases h1:i < n
    · rw [if_pos h1] at h
      have e:i.toNat=j:=Option.some.inj h
      exact ⟨by rw [seqIndex_of h0 h1,e],by omega,by omega,h1⟩
    · rw [if_neg h1] at h; cases h
  · rw [if_neg h0] at h
    by_cases h1:-(n:Int)≤i
    · rw [if_pos h1] at h
      have e:(i + n).toNat=j:=Option.some.inj h
      exact ⟨by rw [seqIndex_neg (by omega) h1,e],by omega,h1,by omega⟩
    · rw [if_neg h1] at h; cases h
theorem atI_get {α:Type} {xs:List α} {i:Int} {v:α} (h:atI xs i=some v):∃ j,seqIndex? i xs.length=some j∧xs[j]?=some v∧j < xs.length∧-(xs.length:Int)≤i∧i < xs.length:=by
  unfold atI at h
  cases e:ixN xs.length i with
  | none=>rw [e] at h; cases h
  | some j =>
    rw [e] at h
    obtain ⟨h1,h2,h3,h4⟩:=ixN_seq e
    exact ⟨j,h1,h,h2,h3,h4⟩
theorem atI_nat {α:Type} {xs:List α} {j:Nat} {v:α} (h:xs[j]?=some v):atI xs (j:Int)=some v:=by
  have hj:j < xs.length:=(List.getElem?_eq_some_iff.mp h).1
  have e:ixN xs.length (j:Int)=some j:=by
    unfold ixN
    rw [if_pos (by omega),if_pos (by omega)]; simp
  unfold atI; rw [e]; exact h
def PlainIx (b:Expr):Prop:=∀ o i,subscripted b false o i=operate [o,i] (getItem o i)
def IxR (X:Cx) (r:R2):Prop :=
  ∀ (value slice:Expr) (pins:List (Addr × Obj)) (s:Shared) (σ:St) (H:Hp) (x y:V) (v u:Value) (Q:VK),Inv X pins σ H s→RelV x v→RelV y u→r x y H Q →
    subscripted slice false v u=operate [v,u] (getItem v u)→wpAny (model X.prog X.w) X.A (subscriptTail value slice v u) (EP X pins σ Q) X.xe s
def MtR (X:Cx) (id:String) (r:V→List V→Hp→VK→Prop):Prop :=
  ∀ (pins:List (Addr × Obj)) (s:Shared) (σ:St) (H:Hp) (x:V) (xs:List V) (v:Value) (us:List Value) (Q:VK),Inv X pins σ H s→RelV x v→Vals xs us→r x xs H Q →
    wpAny (model X.prog X.w) X.A (call (.builtin id) (v::us)) (EP X pins σ Q) X.xe s
section
variable {X:Cx} {a b:Expr} {ta tb:TE} {pos:Pos}
theorem IxR.or {r r':R2} (h:IxR X r) (h':IxR X r'):IxR X (fun x y H Q=>r x y H Q ∨ r' x y H Q):=by
  intro value slice pins s σ H x y v u Q I rx ry q hs
  rcases q with q | q
  · exact h value slice pins s σ H x y v u Q I rx ry q hs
  · exact h' value slice pins s σ H x y v u Q I rx ry q hs
theorem MtR.or {id:String} {r r':V→List V→Hp→VK→Prop} (h:MtR X id r) (h':MtR X id r'):MtR X id (fun x xs H Q=>r x xs H Q ∨ r' x xs H Q):=by
  intro pins s σ H x xs v us Q I rx rs q
  rcases q with q | q
  · exact h pins s σ H x xs v us Q I rx rs q
  · exact h' pins s σ H x xs v us Q I rx rs q
theorem pe_ix {r:R2} (hr:IxR X r) (ha:PE X a ta) (hb:PE X b tb) (hs:PlainIx b):PE X (.Subscript a b pos) (tOp r ta tb):=by
  intro pins s σ H Q I h
  exact Subscript_ (binT ha hb I h fun v u s2 x y H2 I2 rx ry q=>hr a b pins s2 σ H2 x y v u Q I2 rx ry q (hs _ _))

def rIxL (K:PySem.W.Frag):R2:=fun x y H Q=>∃ p xs i v,x=.ref p∧y=.int i∧SqL K H p xs∧atI xs i=some v∧Q v H
def rIxT (K:PySem.W.Frag):R2:=fun x y H Q=>∃ p xs i v,x=.ref p∧y=.int i∧SqT K H p xs∧atI xs i=some v∧Q v H
def rIxS:R2:=fun x y H Q=>∃ z i c,x=.str z∧y=.int i∧z.length≤sizeLine∧atI z.cps.toList i=some c∧Q (.str ⟨#[c]⟩) H
theorem ix_list:IxR X (rIxL X.K):=by
  intro value slice pins s σ H x y v u Q I rx ry h hs
  obtain ⟨p,xs,i,z,rfl,rfl,hq,he,q⟩:=h
  cases rx
  obtain ⟨t,rfl⟩:=ry
  obtain ⟨its,r,pl,hz⟩:=I.list hq
  obtain ⟨j,h1,h2,h3,h4,h5⟩:=atI_get he
  obtain ⟨w,ew,rw'⟩:=r.get h2
  have hl:=r.length
  have hn:=line63
  have fin:EP X pins σ Q w s:=⟨z,H,I,rw',q⟩
  by_cases h0:0≤i
  · have hj:i.toNat=j:=by
      rw [seqIndex_of h0 h5] at h1
      exact Option.some.inj h1
    exact item_listR pl.isList h0 (by omega) (by rw [hj]; simpa using ew) fin hs
  · have hj:(i + (its.toArray.size:Int)).toNat=j:=by
      rw [seqIndex_neg (by omega) h4] at h1
      rw [List.size_toArray,← hl]
      exact Option.some.inj h1
    exact subscriptTail_builtinR (x:=w) pl.isList.typeIs slot_list_getitem.lookup
      (wpAny_getItem_list_neg (Q:=fun r s'=>r=w∧EP X pins σ Q r s') pl.isList (by omega) (by rw [List.size_toArray] <;> omega) (by omega) (by rw [hj]; simpa using ew) ⟨rfl,fin⟩) hs
theorem ix_tup:IxR X (rIxT X.K):=by
  intro value slice pins s σ H x y v u Q I rx ry h hs
  obtain ⟨p,xs,i,z,rfl,rfl,hq,he,q⟩:=h
  cases rx
  obtain ⟨t,rfl⟩:=ry
  obtain ⟨its,r,pl,hz⟩:=I.tuple hq
  obtain ⟨j,h1,h2,h3,h4,h5⟩:=atI_get he
  obtain ⟨w,ew,rw'⟩:=r.get h2
  have hl:=r.length
  have hn:=line63
  have fin:EP X pins σ Q w s:=⟨z,H,I,rw',q⟩
  exact subscriptTail_builtinR (x:=w) pl.typeIs slot_tuple_getitem.lookup
    (getItem_tuple (j:=j) (Q:=fun r s'=>r=w∧EP X pins σ Q r s') pl (by omega) (by omega) (by rw [List.size_toArray,← hl]; exact h1) (by simpa using ew) ⟨rfl,fin⟩) hs
theorem ix_str:IxR X rIxS:=by
  intro value slice pins s σ H x y v u Q I rx ry h hs
  obtain ⟨z,i,c,rfl,rfl,hz,he,q⟩:=h
  obtain ⟨t,rfl⟩:=rx
  obtain ⟨t',rfl⟩:=ry
  obtain ⟨j,h1,h2,h3,h4,h5⟩:=atI_get he
  have hl:z.cps.toList.length=z.length:=by simp [Str.length]
  rw [hl] at h1 h4 h5
  have hn:=line63
  exact tail_any (typeIs_str s z t) slot_str_getitem.lookup (getItem_str (c:=c) (by
    have e1:decide (i < -(2 ^ 63:Int))=false:=decide_eq_false (by omega)
    have e2:decide (i ≥ 2 ^ 63)=false:=decide_eq_false (by omega)
    rw [e1,e2,Bool.or_false]) (by rw [h1]; simpa using h2) ⟨.str ⟨#[c]⟩,H,I.tok _,⟨_,rfl⟩,q⟩) hs
def rIx (K:PySem.W.Frag):R2:=fun x y H Q=>rIxL K x y H Q ∨ rIxT K x y H Q ∨ rIxS x y H Q
theorem ix_seq:IxR X (rIx X.K):=ix_list.or (ix_tup.or ix_str)

theorem Inv.lst {pins:List (Addr × Obj)} {σ:St} {H:Hp} {s:Shared} {p:Addr} {xs:List V} (I:Inv X pins σ H s) (h:H p=some (.lst xs)) :
    ∃ (its:List Value) (n:Nat),Vals xs its∧s.heap.get? p=some { cls:=.type "list",data:=.seq its.toArray n }∧xs.length≤sizeLine:=by
  obtain ⟨z,its,n,r,e⟩:=I.hok p _ h
  exact ⟨its,n,r,e,z⟩
theorem slice_bounds (lo hi:Option Int) (n:Nat):(sliceBounds lo hi none n).1=((HT.sIx n 0 lo:Nat):Int)∧(sliceBounds lo hi none n).2.1=((HT.sIx n n hi:Nat):Int)∧(sliceBounds lo hi none n).2.2=1:=by
  refine ⟨?_,?_,rfl⟩
  · cases lo with
    | none=>simp [sliceBounds,HT.sIx]
    | some i =>
      simp only [sliceBounds,HT.sIx,Option.getD_none,show (1:Int) > 0 by decide,if_true]
      by_cases h:i < 0
      · simp only [h,if_true] <;> omega
      · simp only [h,if_false] <;> omega
  · cases hi with
    | none=>simp [sliceBounds,HT.sIx]
    | some i =>
      simp only [sliceBounds,HT.sIx,Option.getD_none,show (1:Int) > 0 by decide,if_true]
      by_cases h:i < 0
      · simp only [h,if_true] <;> omega
      · simp only [h,if_false] <;> omega
theorem slicePick_cut (its:List Value) (lo hi:Option Int):slicePick its.toArray lo hi none=((its.drop (HT.sIx its.length 0 lo)).take (HT.sIx its.length its.length hi - HT.sIx its.length 0 lo)).toArray:=by
  obtain ⟨h1,h2,h3⟩:=slice_bounds lo hi its.toArray.size
  unfold slicePick
  rw [h1,h2,h3]
  simp only [sliceRange_one,pick_run,List.size_toArray] <;> rfl
def rSlL (K:PySem.W.Frag):V→Option Int→Option Int→Hp→VK→Prop:=fun x lo hi H Q=>∃ a xs,x=.ref a∧SqL K H a xs∧∀ p,H p=none→Q (.ref p) (upd H p (.lst (cutV xs lo hi)))
theorem sl_list:SlR X (rSlL X.K):=by
  intro pins s σ H x v vl vu lo hi sl Q I rx hs pl pu h
  obtain ⟨a,xs,rfl,hx,q⟩:=h
  cases rx
  obtain ⟨its,r,ht,hz⟩:=I.list hx
  have hlen:=r.length
  refine ⟨"list",_,slot_list_getitem.lookup,ht.isList.typeIs,?_⟩
  refine wpAny_getItem_list_slice ht.isList hs pl pu .none (by simp) ?_ (by rw [List.size_toArray] <;> omega)
  rw [slicePick_cut,← hlen]
  refine ⟨.ref s.heap.objs.size,_,I.laid (t':=s.toks) (o:=.lst (cutV xs lo hi)) (fun b ob q=>Heap.get?_push_of_some _ q) (Nat.le_refl _) ?_,rfl,q _ (I.hok.fresh (Nat.le_refl _))⟩
  exact ⟨Nat.le_trans (cutV_length xs lo hi) hz,_,0,(r.drop (HT.sIx xs.length 0 lo)).take (HT.sIx xs.length xs.length hi - HT.sIx xs.length 0 lo),Heap.get?_push_size _ rfl⟩

theorem call_len_seq:CallR X (.builtin "len") (fun xs H Q=>∃ p ys,xs=[.ref p]∧(SqL X.K H p ys ∨ SqT X.K H p ys)∧Q (.int ys.length) H):=by
  intro pins s σ H xs us Q I r h
  obtain ⟨p,ys,rfl,hq,q⟩:=h
  obtain ⟨u,rfl,rx⟩:=vals1 r
  cases rx
  have hn:=line63
  rcases hq with hq | hq
  · obtain ⟨its,r',pl,hz⟩:=I.list hq
    have hlen:=r'.length
    exact Calls.call_len_list pl.isList (by simp only [List.size_toArray] <;> omega) ⟨.int ys.length,H,I.tok _,⟨s.toks + 1,by rw [List.size_toArray,hlen]⟩,q⟩
  · obtain ⟨its,r',pl,hz⟩:=I.tuple hq
    have hlen:=r'.length
    exact len_tuple pl (by simp only [List.size_toArray] <;> omega) ⟨.int ys.length,H,I.tok _,⟨s.toks + 1,by rw [List.size_toArray,hlen]⟩,q⟩
theorem call_len_str:CallR X (.builtin "len") (fun xs H Q=>∃ z,xs=[.str z]∧z.length≤sizeLine∧Q (.int z.length) H):=by
  intro pins s σ H xs us Q I r h
  obtain ⟨z,rfl,hz,q⟩:=h
  obtain ⟨u,rfl,t,rfl⟩:=vals1 r
  have hn:=line63
  exact len_str (by omega) ⟨.int z.length,H,I.tok _,⟨_,rfl⟩,q⟩
theorem CallR.or {f:Value} {r r':List V→Hp→VK→Prop} (h:CallR X f r) (h':CallR X f r'):CallR X f (fun xs H Q=>r xs H Q ∨ r' xs H Q):=by
  intro pins s σ H xs us Q I rs q
  rcases q with q | q
  · exact h pins s σ H xs us Q I rs q
  · exact h' pins s σ H xs us Q I rs q
theorem call_list_of:CallR X (.type "list") (fun xs H Q=>∃ p ys,xs=[.ref p]∧(SqL X.K H p ys ∨ SqT X.K H p ys)∧∀ l,H l=none→Q (.ref l) (upd H l (.lst ys))):=by
  intro pins s σ H xs us Q I r h
  obtain ⟨p,ys,rfl,hq,q⟩:=h
  obtain ⟨u,rfl,rx⟩:=vals1 r
  cases rx
  have fin:∀ (its:List Value),Vals ys its→ys.length≤sizeLine→∀ (h':Heap) (c':Nat),(∀ b o',s.heap.get? b=some o'→h'.get? b=some o') →
      h'.get? s.heap.objs.size=some { cls:=.type "list",dict:=none,data:=.seq its.toArray c',slots:=#[] }→EP X pins σ Q (.ref s.heap.objs.size) { s with heap:=h' }:=fun its r' hz h' c' kp e =>
    ⟨.ref s.heap.objs.size,_,I.laid (t':=s.toks) kp (Nat.le_refl _) (show ObjOk X.prog X.w _ h' _ (.lst ys) from ⟨hz,its,c',r',e⟩),rfl,q _ (I.hok.fresh (Nat.le_refl _))⟩
  rcases hq with hq | hq
  · obtain ⟨its,r',pl,hz⟩:=I.list hq
    have hlen:=r'.length
    obtain ⟨o,ho,hc,n,hd⟩:=pl.isList
    exact call_list_seq p (.inl rfl) ho hc hd (fun h' c' kp e=>fin its r' hz h' c' kp e) (by simp only [List.size_toArray] <;> omega)
  · obtain ⟨its,r',pl,hz⟩:=I.tuple hq
    have hlen:=r'.length
    obtain ⟨o,ho,hc,n,hd⟩:=pl
    exact call_list_seq p (.inr rfl) ho hc hd (fun h' c' kp e=>fin its r' hz h' c' kp e) (by simp only [List.size_toArray] <;> omega)
theorem call_tuple_of:CallR X (.type "tuple") (fun xs H Q=>∃ p ys,xs=[.ref p]∧((SqL X.K H p ys∧∀ l,H l=none→Q (.ref l) (upd H l (.tup ys))) ∨ (SqT X.K H p ys∧Q (.ref p) H))):=by
  intro pins s σ H xs us Q I r h
  obtain ⟨p,ys,rfl,h⟩:=h
  obtain ⟨u,rfl,rx⟩:=vals1 r
  cases rx
  rcases h with ⟨hq,q⟩ | ⟨hq,q⟩
  · obtain ⟨its,r',pl,hz⟩:=I.list hq
    have hlen:=r'.length
    refine call_tuple_list pl.isList (fun h' kp=>?_) (by simp only [List.size_toArray] <;> omega)
    have I1:Inv X pins σ H { s with heap:=h' }:=I.kept (t':=s.toks) kp
    have I2:Inv X pins σ (upd H h'.objs.size (.tup ys)) { s with heap:=h'.push { cls:=.type "tuple",data:=.seq its.toArray } } :=
      I1.laid (t':=s.toks) (fun b o e=>Heap.get?_push_of_some _ e) (Nat.le_refl _) (show ObjOk X.prog X.w _ _ _ (.tup ys) from ⟨hz,its,r',TupN.new _ _⟩)
    exact ⟨.ref h'.objs.size,_,I2,rfl,q _ (I1.hok.fresh (Nat.le_refl _))⟩
  · obtain ⟨its,r',pl,hz⟩:=I.tuple hq
    exact call_tuple_same pl ⟨.ref p,H,I,rfl,q⟩

def tyV (K:PySem.W.Frag) (T:String) (x:V) (H:Hp):Prop:=match x with
  | .str _=>T="str"
  | .int _=>T="int"
  | .ref p=>(T="list"∧∃ xs,SqL K H p xs) ∨ (T="tuple"∧((∃ o,K.lookup p=some o∧o.cls=.type "tuple"∧o.dict=none) ∨ ∃ xs,SqT K H p xs)) ∨
      (T="dict"∧((∃ kvs,H p=some (.dK kvs)) ∨ ∃ kvs,H p=some (.dT kvs))) ∨ (T="set"∧∃ S n,H p=some (.set S n))
  | _=>False
theorem tyV_is {pins:List (Addr × Obj)} {σ:St} {H:Hp} {s:Shared} {T:String} {x:V} {v:Value} (I:Inv X pins σ H s) (r:RelV x v) (ty:tyV X.K T x H) :
    s.TypeIs v T∧∀ a,v=.ref a→∃ ob,s.heap.get? a=some ob∧ob.dict=none:=by
  cases x with
  | str z =>
    obtain ⟨t,rfl⟩:=r
    cases (show T="str" from ty)
    exact ⟨typeIs_str s z t,fun _ e=>nomatch e⟩
  | int i =>
    obtain ⟨t,rfl⟩:=r
    cases (show T="int" from ty)
    exact ⟨typeIs_int s i t,fun _ e=>nomatch e⟩
  | ref p =>
    cases r
    rcases ty with ⟨rfl,xs,hq⟩ | ⟨rfl,⟨o,hk,hc,hd⟩ | ⟨xs,hq⟩⟩ | ⟨rfl,hk⟩ | ⟨rfl,S,n,hk⟩
    · obtain ⟨its,_,pl,_⟩:=I.list hq
      refine ⟨pl.isList.typeIs,fun a e=>?_⟩
      cases e
      obtain ⟨o,n,e,c,hd,_⟩:=pl
      exact ⟨o,e,hd⟩
    · refine ⟨⟨o,I.kIn p o hk,hc⟩,fun a e=>?_⟩
      cases e
      exact ⟨o,I.kIn _ o hk,hd⟩
    · obtain ⟨o,e,hc,hd⟩:=I.tupleN hq
      refine ⟨⟨o,e,hc⟩,fun a e2=>?_⟩
      cases e2
      exact ⟨o,e,hd⟩
    · have z:∃ o,s.heap.get? p=some o∧o.ExactDict:=by
        rcases hk with ⟨kvs,hk⟩ | ⟨kvs,hk⟩
        · obtain ⟨_,_,_,_,o,_,_,e,ex,_⟩:=I.hok p _ hk
          exact ⟨o,e,ex⟩
        · obtain ⟨_,_,_,_,o,_,_,e,ex,_⟩:=I.hok p _ hk
          exact ⟨o,e,ex⟩
      obtain ⟨o,e,ex⟩:=z
      refine ⟨⟨o,e,ex.1⟩,fun a e2=>?_⟩
      cases e2
      exact ⟨o,e,ex.2.1⟩
    · obtain ⟨o,_,_,_,e,ex,_⟩:=I.hok p _ hk
      refine ⟨⟨o,e,ex.1⟩,fun a e2=>?_⟩
      cases e2
      exact ⟨o,e,ex.2.1⟩
  | _=>exact False.elim ty
def tBM (K:PySem.W.Frag) (T:String) (r:V→List V→Hp→VK→Prop) (to:TE) (t:TA):TE:=fun σ H Q=>to σ H fun x H1=>tyV K T x H1∧t σ H1 fun xs H2=>r x xs H2 Q
variable {o e:Expr} {es:List Expr} {to:TE} {t:TA} {name:Str} {apos cpos:Pos} {T id:String} {r:V→List V→Hp→VK→Prop}
theorem pe_bm (pa:PlainAttrs T) (slot:Slot T name id) (hty:typeOf (.builtin id)=pure (.type "method_descriptor")) (hm:MtR X id r) (ho:PE X o to) (ha:PA X (e::es) t)
    (hbase:attributeBase o name X.env (eval o X.env)=eval o X.env:=by rfl)
    (hfew:((backTo cpos (starEach (e::es) X.env)).all (fun x=>!x.1) && (backToKw cpos (keywordEach [] X.env)).all (fun x=>x.1.isSome)
      && decide ((e::es).length + ([]:List Keyword).length + (if ([]:List Keyword).isEmpty then 0 else 1) < 30))=true:=by rfl)
    (hline:(apos.endLine == cpos.line)=true:=by rfl) (hs:starEach (e::es) X.env=(false,eval e X.env)::starEach es X.env:=by rfl) (hplain:(backTo cpos (starEach es X.env)).any (·.1)=false:=by rfl) :
    PE X (.Call (.Attribute o name apos) (e::es) [] cpos) (tBM X.K T r to t):=by
  intro pins s σ H Q I h
  refine wpAny_Call_method_late hbase hfew hline rfl (thn (ho pins s σ H _ I h) fun v s1 ⟨x,H1,I1,r1,ty,q1⟩=>?_)
  obtain ⟨h1,h2⟩:=tyV_is I1 r1 ty
  refine ⟨T,id,pa,slot,hty,h1,h2,?_⟩
  have hA:=ha cpos pins s1 σ H1 _ I1 q1
  rw [hs] at hA ⊢
  refine Calls.callWith_builtin (by show (false || (backTo cpos (starEach es X.env)).any (·.1))=false; rw [hplain] <;> rfl) (Calls.evalArgs_plain ?_)
  exact thn hA fun us s2 ⟨vs,H2,I2,r2,q2⟩=>hm pins s2 σ H2 x vs v us Q I2 r1 r2 q2
end
end L2

namespace L2
open PySem PySem.Spec PyProof.Rows

def MtM (X:Cx) (id:String) (r:V→List V→Hp→VK→Prop):Prop :=
  ∀ (pins:List (Addr × Obj)) (s:Shared) (σ:St) (H:Hp) (x:V) (xs:List V) (v:Value) (us:List Value) (Q:VK),Inv X pins σ H s→RelV x v→Vals xs us→r x xs H Q →
    wpAny (model X.prog X.w) X.A (call (.builtin id) (v::us)) (EP X pins σ Q) X.xe s

theorem Vals.one:∀ {x:V} {us:List Value},Vals [x] us→∃ u,us=[u]∧RelV x u
  | _,_,.cons r .nil=>⟨_,rfl,r⟩
theorem Vals.two:∀ {x y:V} {us:List Value},Vals [x,y] us→∃ u v,us=[u,v]∧RelV x u∧RelV y v
  | _,_,_,.cons r (.cons q .nil)=>⟨_,_,rfl,r,q⟩
theorem Vals.rep {xs:List V} {us:List Value} (h:Vals xs us):∀ k:Nat,Vals (List.replicate k xs).flatten (List.replicate k us).flatten
  | 0=>.nil
  | k + 1=>by
    rw [List.replicate_succ,List.replicate_succ,List.flatten_cons,List.flatten_cons]
    exact Vals.append h (Vals.rep h k)
section
variable {X:Cx} {pins:List (Addr × Obj)} {σ:St} {H:Hp} {s:Shared} {l b:Addr} {xs ys zs:List V}

theorem Inv.lset {its its':List Value} {n:Nat} {f:Array Value→Array Value} {t':Nat} (I:Inv X pins σ H s) (hH:H l=some (.lst xs))
    (e:s.heap.get? l=some { cls:=.type "list",data:=.seq its.toArray n }) (hf:f its.toArray=its'.toArray) (hv:Vals ys its') (hz:ys.length≤sizeLine) :
    Inv X pins σ (upd H l (.lst ys)) { s with heap:=s.heap.update l (Obj.mapSeq f),toks:=t' }:=by
  have q:=PySem.IsL.update e f
  rw [hf] at q
  refine I.write (x:=l) (e:=l) (by rw [hH]; exact trivial) (.inl rfl) (fun b' u hb hu=>(Heap.get?_update_other s.heap (Obj.mapSeq f) (Ne.symm hb)).trans hu) ⟨_,q⟩ ?_
  exact ⟨hz,its',_,hv,q⟩
theorem Inv.lnew {its:List Value} {t':Nat} (I:Inv X pins σ H s) (hv:Vals ys its) (hz:ys.length≤sizeLine) :
    Inv X pins σ (upd H s.heap.objs.size (.lst ys)) { s with heap:=s.heap.push { cls:=.type "list",data:=.seq its.toArray },toks:=t' } :=
  I.laid (fun _ _ q=>Heap.get?_push_of_some _ q) (Nat.le_refl _) ⟨hz,its,0,hv,Heap.get?_push_size _ rfl⟩
theorem Inv.fresh (I:Inv X pins σ H s):H s.heap.objs.size=none:=I.hok.fresh (Nat.le_refl _)
theorem Inv.lstM (I:Inv X pins σ H s) (hH:H l=some (.lst xs)):xs.length≤sizeLine∧∃ (its:List Value) (n:Nat),Vals xs its∧xs.length=its.length∧s.heap.get? l=some { cls:=.type "list",data:=.seq its.toArray n }:=by
  obtain ⟨z,its,n,r,e⟩:=I.hok l _ hH
  exact ⟨z,its,n,r,r.length,e⟩

theorem notLongL {n:Nat} (h:n≤sizeLine):Builtin.List.listTooLong n=false:=by
  unfold Builtin.List.listTooLong
  exact decide_eq_false (by omega)
end

section
variable {X:Cx}

def rAppend:V→List V→Hp→VK→Prop:=fun x vs H Q=>∃ l xs y,x=.ref l∧vs=[y]∧H l=some (.lst xs)∧xs.length < sizeLine∧Q .non (upd H l (.lst (xs++[y])))
theorem mt_append:MtM X "list.append" rAppend:=by
  intro pins s σ H x vs v us Q I rx rv h
  obtain ⟨l,xs,y,rfl,rfl,hH,hz,q⟩:=h
  cases rx
  obtain ⟨u,rfl,ru⟩:=rv.one
  obtain ⟨z,its,n,r,hl,e⟩:=I.lstM hH
  refine call_meets F.slot_list_append ⟨_,e,rfl⟩ F.entry_list_append (F.args_list_append_2 _ _) (PySem.list_append l its.toArray n u (by rw [List.size_toArray]; omega)) ⟨e,?_⟩
  refine ⟨.non,_,I.lset (its':=its++[u]) hH e (by simp) (r.append (.cons ru .nil)) ?_,rfl,q⟩
  rw [List.length_append,List.length_singleton]
  omega

end

section
variable {prog:Program} {w:World} {A:Around} {E:Value→Shared→Prop} {s:Shared}
end

section
variable {X:Cx}
end
end L2

namespace Att
open PySem PySem.W PySem.Calls PyProof.Rows

theorem ints_of_wellAll {P:Params} {h:Heap}:∀ (ns:List Int) (vs:List Value),WellAll P h vs (ns.map WData.int)→IntsAre vs ns:=by
  intro ns
  induction ns with
  | nil =>
    intro vs w
    rw [List.map_nil] at w
    cases w
    exact .nil
  | cons n ns ih =>
    intro vs w
    rw [List.map_cons] at w
    cases w with
    | cons a b =>
      cases a
      exact .cons _ _ (ih _ b)

theorem script_of {l:OpenLaw} {n:Nat} (hn:l.most=some n) {P:Params} {h:Heap} {args:List WData} {vals:List Value}
    (hpre:l.row.toRowW.claim.pre args=true) (hwl:WellAll P h vals args) :
    ∃ a vs ns,vals=[Value.ref a]∧args=[WData.list (ns.map WData.int)]∧h.get? a=some { cls:=.type "list",data:=.seq vs.toArray }∧IntsAre vs ns∧ns.length≤n:=by
  have hsh:WShape.hasAll [] args [.list .int]=true:=(pre_splitW hpre).1
  have hc:l.pre.holds [] { args:=args }=true:=(pre_splitW hpre).2
  obtain ⟨d,r,rfl,h1,h2⟩:=hasAllW_cons hsh
  obtain rfl:=hasAllW_nil h2
  obtain ⟨xs,rfl,h3⟩:=hasW_list h1
  obtain ⟨ns,rfl⟩:=items_int h3
  have hlen:ns.length≤n:=by
    unfold OpenLaw.pre at hc
    have h4:(WTm.not (.lt (.lit (.int (n:Int))) (.len (.arg 0)))).holds [] { args:=[.list (ns.map .int)] }=true:=by
      have h4:=(holds_andW hc).1
      rw [hn] at h4
      exact h4
    have h5:=condW_of h4 (w_not (w_lt w_lit (w_len_list (w_arg rfl))))
    rw [List.length_map] at h5
    refine Nat.le_of_not_lt fun q=>?_
    have q':(n:Int) < ((ns.length:Nat):Int):=by omega
    first
      | (rw [decide_eq_true q'] at h5; exact absurd h5 (by decide))
      | (simp at h5; omega)
  cases hwl with
  | cons w1 w2 =>
    cases w2
    cases w1 with
    | list ho hall=>exact ⟨_,_,ns,rfl,rfl,ho,ints_of_wellAll ns _ hall,hlen⟩

theorem post_true (l:OpenLaw) (args:List WData):l.row.toRowW.claim.post args (.bool true) args=true :=
  postW_of (r:=l.row.toRowW) (X:=(true == true))
    (show WShape.has [] (.bool true) .bool=true by first | rfl | decide | simp [WShape.has,WShape.arms,WShape.armsAll])
    (show (WTm.eq .res (.lit (.bool true))).value [] { args:=args,res:=some (.bool true),after:=args }=some (.bool (true == true)) from w_eq_bool (w_res rfl) w_lit) rfl

theorem attach_call {l:OpenLaw} {n:Nat} {q:Program} {loose:List Str} {XP:(Str→Option Value)→Heap→Prop} {YP:World→Heap→Prop} {d:DefRec}
    (hn:l.most=some n) (hdf:d.params.defaults=[])
    (call:∀ (w:World) (s₀ s₁:Shared) (mg mb:Str→Option Value) (fa:Addr) (o:Obj) (pm cd doc:Value) (a:Addr) (vs:List Value) (ns:List Int),
      Ground q loose [] XP w s₀ mg mb s₁.heap→YP w s₁.heap →
      s₁.heap.get? fa=some o→o.data=.func (docDef d.name d.params d.body d.scope pm cd doc)→s₁.heap.CodeRec cd d.name→mg d.name=some (.ref fa) →
      s₁.heap.get? a=some { cls:=.type "list",data:=.seq vs.toArray }→IntsAre vs ns→ns.length≤n→s₁.gens=#[] →
      codeAny (model l.prog w) callerA (.call (.ref fa) ⟨[.ref a],[]⟩) (fun r s'=>r=.ok (.ret (.bool true))∧OldK s₁.heap s'.heap∧s'.os=s₁.os∧AllBare s'.gens) s₁) :
    WalkO q loose XP YP l.row.toRowW d [] (fun f vs=>PySem.call f vs):=by
  intro w s₀ s₁ mg mb G Y fa o pm cd doc dV kV ho hd hcd hD hmg hg args vals as hpre hlay hrd hwl hlo
  obtain rfl:dV=.none:=Dflts.none hD hdf
  obtain rfl:kV=.none:=Dflts.noKw hD
  obtain ⟨a,vs,ns,rfl,rfl,hobj,hints,hlen⟩:=script_of hn hpre hwl
  refine enter_call (codeAny_mono (call w s₀ s₁ mg mb fa o pm cd doc a vs ns G Y ho (fd_plain hd) hcd hmg hobj hints hlen hg) fun r s' hq=>?_)
  obtain ⟨rfl,h2,h3,h4⟩:=hq
  exact ⟨.inl ⟨.bool true,.bool true,[],rfl,fun _=>rfl,.bool true,post_true l _,fun _=>⟨List.Pairwise.nil,fun _ hm=>(nomatch hm)⟩⟩,h2,h3,h4⟩

section
variable {prog:Program} {w:World} {A:Around} {E:Value→Shared→Prop} {s:Shared} {K:Frag}

end
end Att

namespace L2
open PySem PySem.Spec PyProof.Rows

theorem vals_ints:∀ {vs:List Value} {ns:List Int},IntsAre vs ns→Vals (ns.map V.int) vs
  | _,_,.nil=>.nil
  | _,_,.cons n t h=>.cons ⟨t,rfl⟩ (vals_ints h)

def Only (H:Hp):Prop:=∀ b,H b=none ∨ ∃ o xs,H b=some (.frz o (.lst xs))

theorem law_call {P:Program} {w:World} {K:PySem.W.Frag} {mg mb:Str→Option Value} {CX:CXT} {k:Nat} {fa a:Addr} {fd:FuncData} {x:Str} {sp:Sp} {s₁:Shared} {vs:List Value} {ns:List Int}
    (KX:K.In s₁.heap) (hns:s₁.heap.Ns mainGlobals mg) (hb:s₁.heap.Ns builtinsNs mb) (hbb:∀ x:Str,x ≠ "__name__"→mb x=bootBuiltins x) (hlim:s₁.heap.NoLimit) (hg:s₁.gens=#[])
    (ha:s₁.heap.get? a=some { cls:=.type "list",data:=.seq vs.toArray }) (hi:IntsAre vs ns) (hl:ns.length≤sizeLine) (hr:Room k callerA)
    (F:∀ base:Heap,K.In base→base.Ns mainGlobals mg→FnOk P w K mg base CX k fa fd [x] sp) (hbind:∀ (s:Shared) (u:Value),BindsTo s fd ⟨[u],[]⟩ [(x,u)])
    (hsp:∀ H:Hp,Only H→SqL K H a (ns.map V.int)→sp [.ref a] H (fun v _=>v=.bl true) fun _ _ _=>False)
    (hCX:∀ H e s',CX [] H s₁ (fun _ _ _=>False) e s'→False) :
    codeAny (model P w) callerA (.call (.ref fa) ⟨[.ref a],[]⟩) (fun r s'=>r=.ok (.ret (.bool true))∧OldK s₁.heap s'.heap∧s'.os=s₁.os∧AllBare s'.gens) s₁:=by
  have rv:=vals_ints hi
  have lenV:=hi.length
  -- from an abstract heap in which nothing but the script may be tracked
  have core:∀ H:Hp,Only H→SqL K H a (ns.map V.int)→HOk P w H s₁.heap→(∀ b,H b ≠ none→b=a)→(H a ≠ none→K.lookup a=none) →
      codeAny (model P w) callerA (.call (.ref fa) ⟨[.ref a],[]⟩) (fun r s'=>r=.ok (.ret (.bool true))∧OldK s₁.heap s'.heap∧s'.os=s₁.os∧AllBare s'.gens) s₁:=by
    intro H hO hS hok hA hK
    have base_of:∀ {b:Addr} {o:Obj},s₁.heap.get? b=some o→H b=none→(hidT s₁.heap H).get? b=some o:=fun e n=>hidT_get e n
    have noA:∀ {b:Addr} {o:Obj} {es:Array DictEntry} {ep:Nat},s₁.heap.get? b=some o→o.data=.dict es ep→H b=none:=fun {b o es ep} e d=>by
      cases q:H b with
      | none=>rfl
      | some u =>
        have e':b=a:=hA b (by rw [q]; simp)
        subst e'
        rw [ha] at e; cases e
        have d':Data.seq vs.toArray _=Data.dict es ep:=d
        cases d'
    have nsK:∀ {b:Addr} {m:Str→Option Value},s₁.heap.Ns b m→(hidT s₁.heap H).Ns b m:=fun {b m} ⟨o,es,ep,e,d,r⟩=>⟨o,es,ep,base_of e (noA e d),d,r⟩
    have hKb:K.In (hidT s₁.heap H):=fun b o e=>base_of (KX b o e) (by
      cases q:H b with
      | none=>rfl
      | some u =>
        have e':b=a:=hA b (by rw [q]; simp)
        subst e'
        rw [hK (by rw [q]; simp)] at e; cases e)
    have hM:Mod K mg (hidT s₁.heap H):=⟨hKb,nsK hns,⟨mb,nsK hb,hbb⟩,let ⟨mc,h1,h2⟩:=hlim; ⟨mc,nsK h1,h2⟩⟩
    have e0:Env0 P w K mg (hidT s₁.heap H) callerA [] s₁ H:=⟨rfl,hM,fun b o e=>of_hidT e,Nat.le_of_eq (hidT_size _ _),trivial,fun b hb=>absurd (show b ∈ ([]:List Addr) from hb) (by simp),hok,.of_eq hg⟩
    refine codeAny_mono ((F _ hKb (nsK hns)).run callerA [] s₁ H ⟨[.ref a],[]⟩ [.ref a] [.ref a] _ _ hr e0 (hbind s₁ (.ref a)) (.cons rfl .nil) (hsp H hO hS)) fun r s' h=>?_
    cases r with
    | error e=>exact (hCX H e s' h).elim
    | ok fl =>
      cases fl with
      | next=>exact False.elim h
      | brk=>exact False.elim h
      | cont=>exact False.elim h
      | ret u =>
        obtain ⟨v,H',os,bare,un,hok',r',q⟩:=h
        have q':v=.bl true:=q
        subst q'
        obtain rfl:u=Value.bool true:=r'
        refine ⟨rfl,OldK.of_keep fun b o e=>?_,os,bare⟩
        cases q:H b with
        | none=>exact un.keep b o e q (by intro z; exact absurd (show b ∈ ([]:List Addr) from z) (by simp)) (by simp)
        | some u =>
          rcases hO b with z | ⟨ob,xs,z⟩
          · rw [q] at z; cases z
          · have z2:=un.frzs b ob _ z
            obtain ⟨e1,_⟩:=hok b _ z
            obtain ⟨e2,_⟩:=hok' b _ z2
            rw [e] at e1; cases e1
            exact e2
  cases hk:K.lookup a with
  | some o =>
    -- the script is one of the module's own objects
    have e:=KX a o hk
    rw [ha] at e
    cases e
    refine core (fun _=>none) (fun _=>.inl rfl) (.inr ⟨_,vs.toArray,_,hk,rfl,rfl,rfl,by rw [List.size_toArray,lenV]; exact hl,by simpa using rv⟩) (fun b u z=>by have z':(none:Option HO)=some u:=z; cases z') (fun b z=>absurd rfl z) fun z=>absurd rfl z
  | none =>
    refine core (fun b=>if b=a then some (.frz { cls:=.type "list",data:=.seq vs.toArray } (.lst (ns.map V.int))) else none) (fun b=>?_) (.inl (.inr ⟨{ cls:=.type "list",data:=.seq vs.toArray },if_pos rfl⟩)) (fun b u z=>?_) (fun b z=>?_) fun _=>hk
    · by_cases hb:b=a
      · exact .inr ⟨_,_,if_pos hb⟩
      · exact .inl (if_neg hb)
    · by_cases hb:b=a
      · have z':=(if_pos hb).symm.trans z
        cases z'
        subst hb
        exact ⟨ha,by rw [List.length_map]; exact hl,vs,_,rv,ha⟩
      · have z':=(if_neg hb).symm.trans z
        cases z'
    · by_cases hb:b=a
      · exact hb
      · exact absurd (if_neg hb) z
end L2

namespace L2
open PySem PySem.Spec PyProof.Rows

theorem walk_of {l:PySem.W.OpenLaw} {n k:Nat} {q:Program} {loose:List Str} {XP:(Str→Option Value)→Heap→Prop} {YP:World→Heap→Prop} {d:DefRec} {K:Params→PySem.W.Frag} {CX:World→CXT} {sp:World→Sp} {x:Str}
    (hn:l.most=some n) (hn2:n≤sizeLine) (hdf:d.params.defaults=[]) (hr:Room k callerA)
    (hY:∀ (w:World) (h:Heap),YP w h→(K w.params).In h)
    (F:∀ (w:World) (mg:Str→Option Value) (fa:Addr) (h:Heap),(K w.params).In h→h.Ns mainGlobals mg→mg d.name=some (.ref fa) →
      ∃ fd:FuncData,(∀ (s:Shared) (u:Value),BindsTo s fd ⟨[u],[]⟩ [(x,u)]) ∧
        ∀ base:Heap,(K w.params).In base→base.Ns mainGlobals mg→FnOk l.prog w (K w.params) mg base (CX w) k fa fd [x] (sp w))
    (hsp:∀ (w:World) (H:Hp) (a:Addr) (ns:List Int),ns.length≤n→Only H→SqL (K w.params) H a (ns.map V.int)→sp w [.ref a] H (fun v _=>v=.bl true) fun _ _ _=>False)
    (hCX:∀ (w:World) (H:Hp) (s:Shared) (e:Value) (s':Shared),CX w [] H s (fun _ _ _=>False) e s'→False) :
    PySem.W.WalkO q loose XP YP l.row.toRowW d [] (fun f vs=>PySem.call f vs):=by
  refine Att.attach_call hn hdf fun w s₀ s₁ mg mb fa o pm cd doc a vs ns G Y ho hd hcd hmg hobj hints hlen hg=>?_
  have KX:=hY w _ Y
  obtain ⟨fd,hb,hF⟩:=F w mg fa _ KX G.T.g hmg
  exact law_call KX G.T.g G.T.b G.T.builtins G.T.nolimit hg hobj hints (Nat.le_trans hlen hn2) hr hF hb (fun H hO hS=>hsp w H a ns hlen hO hS) fun H e s'=>hCX w H s₁ e s'
end L2


namespace L2
open PySem PySem.Spec PyProof.Rows

def defArgs (s:Stmt):Arguments:=match s with
  | .FunctionDef _ a _ _ _ _ _ _ _ _=>a
  | _=>{ posonlyargs:=[],args:=[],vararg:=none,kwonlyargs:=[],kw_defaults:=[],kwarg:=none,defaults:=[] }
def defBody (s:Stmt):List Stmt:=match s with
  | .FunctionDef _ _ b _ _ _ _ _ _ _=>b
  | _=>[]
def defScope (s:Stmt):Scope:=match s with
  | .FunctionDef _ _ _ _ _ _ sc _ _ _=>sc
  | _=>{ kind:=.function,names:=[],isGenerator:=false,isCoroutine:=false }

abbrev CX0:CXT:=fun _ _ _ _ _ _=>False
abbrev E0:XK:=fun _ _ _=>False
theorem pass0 {X:Cx}:Passes CX0 X E0:=fun _ _ _ _ _ _ _ h=>h.elim

structure Fun (K:PySem.W.Frag) (x qual:Str) (st:Stmt) (f:Addr) (fd:FuncData):Prop where
  ex:∃ (oc:Value) (od:Option Addr) (kV doc pm:Value) (an:Option Addr) (cdv ct:Value) (osl:Array (Option Value)),
    fd=PySem.W.fnOf x qual (defArgs st) (defBody st) (defScope st) .none kV doc pm an cdv ct∧K.lookup f=some ⟨oc,od,.func fd,osl⟩∧PySem.W.codeIn K cdv qual=true
  kp:PySem.W.keepIn K (.ref f)=true
section
variable {P:Program} {w:World} {K:PySem.W.Frag} {mg:Str→Option Value} {base:Heap}
theorem Fun.ok {x qual:Str} {st:Stmt} {f:Addr} {fd:FuncData} {N ps:List Str} {k:Nat} {sp:Sp} (F:Fun K x qual st f fd) (S:FnScope N ps (defScope st)) (len:∀ vs H Q E,sp vs H Q E→vs.length=ps.length)
    (hbody:∀ (cdv:Value) (A:Around) (outer:List Env) (s:Shared) (H:Hp) (vs:List V) (Q:VK) (E:XK),Room k (A.deeper (envOfC qual (defScope st) s.heap.objs.size f cdv))→sp vs H Q E →
      ∃ t,PSs (cxOf CX0 P w K mg base N qual (defScope st) f cdv A outer s H E).nox (defBody st) t∧t { nx:=fun _ H'=>Q .non H',rt:=Q } (start N vs) H):FnOk P w K mg base CX0 (k + 1) f fd ps sp:=by
  obtain ⟨oc,od,kV,doc,pm,an,cdv,ct,osl,rfl,lk,hcd⟩:=F.ex
  refine fn_of lk hcd S len fun A outer s H vs Q E hr hsp=>?_
  obtain ⟨t,h,q⟩:=hbody cdv A outer s H vs Q E hr hsp
  exact ⟨t,h.nox,q⟩
theorem Fun.binds {x qual:Str} {st:Stmt} {f:Addr} {fd:FuncData} {ps:List Str} (F:Fun K x qual st f fd)
    (h:∀ (kV doc pm:Value) (an:Option Addr) (cdv ct:Value) (us:List Value),us.length=ps.length→bindArgs (PySem.W.fnOf x qual (defArgs st) (defBody st) (defScope st) .none kV doc pm an cdv ct) ⟨us,[]⟩=pure (ps.zip us)):Binds K fd ps []:=by
  obtain ⟨oc,od,kV,doc,pm,an,cdv,ct,osl,rfl,lk,hcd⟩:=F.ex
  exact .all (h kV doc pm an cdv ct)
theorem fun_mk {x qual:Str} {st:Stmt} {f:Addr} {oc:Value} {od an:Option Addr} {osl:Array (Option Value)} {kV doc pm cdv ct:Value} (l:K.lookup f=some ⟨oc,od,.func (PySem.W.fnOf x qual (defArgs st) (defBody st) (defScope st) .none kV doc pm an cdv ct),osl⟩)
    (c:PySem.W.codeIn K cdv qual=true) (k:PySem.W.keepIn K (.ref f)=true):Fun K x qual st f (PySem.W.fnOf x qual (defArgs st) (defBody st) (defScope st) .none kV doc pm an cdv ct):=⟨⟨oc,od,kV,doc,pm,an,cdv,ct,osl,rfl,l,c⟩,k⟩
end
theorem small1000 {n:Nat} (h:n≤1000):n < sizeLine:=Nat.lt_of_le_of_lt h (by decide)

section
variable {X:Cx}
theorem pv (i:Nat) {x:Str} {pos:Pos} (hN:X.N[i]?=some x:=by rfl) (hv:Vis X.env.scope x:=by first | exact Or.inl rfl | exact Or.inr (Or.inl rfl) | exact Or.inr (Or.inr rfl)) (hd:(x == ("__debug__":Str))=false:=by decide)
    (hcd:(x == ("__classdict__":Str))=false:=by decide):PE X (.Name x pos) (tVar i):=pe_var hN hv hd hcd
end

def Same (H H':Hp):Prop:=∀ b o,H b=some o→H' b=some o
theorem Same.refl (H:Hp):Same H H:=fun _ _ h=>h
theorem Same.trans {H H1 H2:Hp} (a:Same H H1) (b:Same H1 H2):Same H H2:=fun c o h=>b c o (a c o h)
theorem Same.free {H H':Hp} (e:Same H H') {l:Addr} (h:H' l=Option.none):H l=Option.none:=by
  cases q:H l with
  | none=>rfl
  | some o =>
    rw [e l o q] at h
    cases h
theorem Same.seq {K:PySem.W.Frag} {H H':Hp} {a:Addr} {xs:List V} (e:Same H H') (h:SqL K H a xs):SqL K H' a xs:=by
  rcases h with (h | ⟨o,h⟩) | h
  · exact .inl (.inl (e _ _ h))
  · exact .inl (.inr ⟨o,e _ _ h⟩)
  · exact .inr h

end L2

set_option Elab.async false
set_option linter.all false
set_option maxRecDepth 100000
namespace L2
open PySem PySem.Spec PyProof.Rows

theorem go_sign {M:Model} {A:Around} {E:Value→Shared→Prop} {s:Shared} {tg:Expr} {it:Value} {z:Str} {t:Tok} {Q:Unit→Shared→Prop} (hQ:Q () s) :
    wpAny M A (letOwnedTupleGo tg it (.str z t)) Q E s:=by
  unfold letOwnedTupleGo
  cases tg <;> first
    | exact wpAny_pure hQ
    | (cases it <;> exact wpAny_pure hQ)
def Its (z:Str):It:=⟨fun i _=>i < z.cps.size,fun i H x H'=>H'=H∧∃ c,z.cps[i]?=some c∧x=.str ⟨#[c]⟩,fun i _=>z.cps.size≤i⟩
theorem turn_sign {P:Program} {w:World} {K:PySem.W.Frag} {tg:Expr} {ty:String} (it:Addr) (z:Str) (t:Tok)
    (W:∀ A:Around,A.handled=none→Walks P w A it [it] [it] z.cps.size (SignAt z) (fun i h=>h.IsStrIter it ty z t i))
    (S:∀ (A:Around) (i:Nat) (s:Shared) (Q:Value→Shared→Prop) (E:Value→Shared→Prop),s.heap.IsStrIter it ty z t i→Q (.ref it) s→wpAny (model P w) A (pyIter (.ref it)) Q E s) :
    Turn P w K tg (Its z) [it] it (fun i h=>i≤z.cps.size∧h.IsStrIter it ty z t i) where
  mem:=by simp
  obj:=fun i h st b hb=>by
    obtain rfl:b=it:=by simpa using hb
    obtain ⟨_,o,e,c,d⟩:=st
    exact ⟨o,e,fun v q=>by rw [d] at q; cases q⟩
  keep:=fun i h h' st k=>by
    obtain ⟨l,o,e,r⟩:=st
    exact ⟨l,o,k it (by simp) o e,r⟩
  item:=by
    intro X hP hw hK hc i pins s σ H E I hf st hg
    subst hP hw hK
    obtain ⟨f0,f1,f2,f3,f4,f5⟩:=hf it (by simp)
    refine (W X.A (I.ok.hd hc)).item i s _ _ hg st.2 fun v h' tk hv st' kk=>?_
    obtain ⟨c,u,hx,rfl⟩:=hv
    have I1:Inv X pins σ H { s with heap:=h',toks:=tk }:=I.turned (fun b o hb e=>kk b o (by simpa using hb) e) f0 f1 f3 f4 f5
    exact ⟨_,rfl,go_sign ⟨.str ⟨#[c]⟩,H,I1,⟨u,rfl⟩,⟨rfl,c,hx,rfl⟩,⟨hg,st'⟩,fun b hb=>(hf b hb).1⟩⟩
  done:=by
    intro X hP hw hK hc i pins s σ H E I hf st hg
    subst hP hw hK
    obtain ⟨f0,f1,f2,f3,f4,f5⟩:=hf it (by simp)
    have e:i=z.cps.size:=Nat.le_antisymm st.1 hg
    subst e
    exact (W X.A (I.ok.hd hc)).done s _ _ st.2 fun h' tk kk=>⟨rfl,I.turned (fun b o hb e=>kk b o (by simpa using hb) e) f0 f1 f3 f4 f5⟩
  self:=fun A i s Q E st h=>S A i s Q E st.2 h

def iAny (K:PySem.W.Frag) (tl:TE):TI:=fun σ H R=>tl σ H fun x H1=>(∃ a,x=.ref a∧(∃ xs,SqL K H1 a xs)∧R (Itl K a) H1) ∨ (∃ a,x=.ref a∧(∃ xs,SqT K H1 a xs)∧R (Itt K a) H1) ∨ ∃ z,x=.str z∧R (Its z) H1
theorem pi_any {X:Cx} {tg l:Expr} {tl:TE} (hl:PE X l tl):PI X tg l (iAny X.K tl):=by
  intro pins s σ H R I h
  refine thn (hl pins s σ H _ I h) fun v s1 ⟨x,H1,I1,r1,q1⟩=>?_
  rcases q1 with ⟨a,rfl,⟨xs,hq⟩,q⟩ | ⟨a,rfl,⟨xs,hq⟩,q⟩ | ⟨z,rfl,q⟩
  · cases r1
    obtain ⟨its,rv,p,hz⟩:=I1.list hq
    refine wpAny_pyIter_list p.isList ⟨s1.heap.objs.size,[s1.heap.objs.size],_,_,H1,rfl,I1.kept (t':=s1.toks) fun b o e=>Heap.get?_push_of_some _ e,turn_list a _,⟨_,Heap.get?_push_size _ rfl,rfl,rfl⟩,fun b hb=>?_,q⟩
    obtain rfl:b=s1.heap.objs.size:=by simpa using hb
    exact I1.fpOk (Nat.le_refl _) (I1.hok.fresh (Nat.le_refl _))
  · cases r1
    obtain ⟨its,rv,p,hz⟩:=I1.tuple hq
    refine wpAny_pyIter_tuple (show s1.heap.IsTuple a its.toArray from p) ⟨s1.heap.objs.size,[s1.heap.objs.size],_,_,H1,rfl,I1.kept (t':=s1.toks) fun b o e=>Heap.get?_push_of_some _ e,turn_tuple a _,⟨_,Heap.get?_push_size _ rfl,rfl,rfl⟩,fun b hb=>?_,q⟩
    obtain rfl:b=s1.heap.objs.size:=by simpa using hb
    exact I1.fpOk (Nat.le_refl _) (I1.hok.fresh (Nat.le_refl _))
  · obtain ⟨t,rfl⟩:=r1
    have fin:∀ (o:Obj) (ty:String),(∀ A:Around,A.handled=none→Walks X.prog X.w A s1.heap.objs.size [s1.heap.objs.size] [s1.heap.objs.size] z.cps.size (SignAt z) (fun i h=>h.IsStrIter s1.heap.objs.size ty z t i)) →
        (∀ (A:Around) (i:Nat) (s:Shared) (Q:Value→Shared→Prop) (E:Value→Shared→Prop),s.heap.IsStrIter s1.heap.objs.size ty z t i→Q (.ref s1.heap.objs.size) s→wpAny (model X.prog X.w) A (pyIter (.ref s1.heap.objs.size)) Q E s) →
        (s1.heap.push o).IsStrIter s1.heap.objs.size ty z t 0→PIE X pins σ tg R (.ref s1.heap.objs.size) { s1 with heap:=s1.heap.push o }:=fun o ty W S st=>by
      refine ⟨s1.heap.objs.size,[s1.heap.objs.size],_,Its z,H1,rfl,I1.kept (t':=s1.toks) fun b o e=>Heap.get?_push_of_some _ e,turn_sign _ z t W S,⟨Nat.zero_le _,st⟩,fun b hb=>?_,q⟩
      obtain rfl:b=s1.heap.objs.size:=by simpa using hb
      exact I1.fpOk (Nat.le_refl _) (I1.hok.fresh (Nat.le_refl _))
    cases ha:z.cps.all (· < 128)
    · exact wpAny_pyIter_wide ha (fin _ "str_iterator" (fun A hA=>Walks.strWide hA _ z t) (fun _ _ _ _ _ st h=>wpAny_pyIter_striter_wide st h) ⟨_,Heap.get?_push_size _ rfl,rfl,rfl⟩)
    · exact wpAny_pyIter_ascii ha (fin _ "str_ascii_iterator" (fun A hA=>Walks.strAscii hA _ z t) (fun _ _ _ _ _ st h=>wpAny_pyIter_striter_ascii st h) ⟨_,Heap.get?_push_size _ rfl,rfl,rfl⟩)

structure BP where
  cl:List (Str × Addr)
  C:Addr
  s3:Shared
  H3:Hp
  ex:List Addr
  pn:List (Addr × Obj)
def blk (X:Cx) (scope:Scope) (N':List Str) (b:BP):Cx where
  prog:=X.prog
  w:=X.w
  K:=X.K
  mg:=X.mg
  base:=X.base
  A:=X.A
  N:=N'
  s₀:=b.s3
  H₀:=b.H3
  env:=compEnvC scope b.cl b.C X.env
  outer:=X.stack
  stack:=X.stack
  ex:=b.ex
  fn:=fun x=>scope.names.lookup x == some .cell
  calm:=X.calm
  pn:=b.pn
  xe:=fun _ _=>False

theorem closure_go {env:Env}:∀ (names:List (Str × NameKind)) (acc:List (Str × Addr)),(∀ x ∈ names,x.2=.free→∃ c,env.cells.lookup x.1=some c) →
    (∀ n c,acc.lookup n=some c→env.cells.lookup n=some c) →
    ∃ cl:List (Str × Addr),(forIn names acc (fun x cs=>match x with | (name,kind)=>if kind == .free then do let a ← cellOf env name; pure (ForInStep.yield ((name,a)::cs)) else pure (ForInStep.yield cs)):Sem (List (Str × Addr)))=pure cl ∧
      (∀ n c,cl.lookup n=some c→env.cells.lookup n=some c)∧(∀ n,((∃ c,acc.lookup n=some c) ∨ (n,NameKind.free) ∈ names)→∃ c,cl.lookup n=some c)
  | [],acc,_,ha=>⟨acc,rfl,ha,fun n h=>h.elim id fun z=>absurd z (by simp)⟩
  | (n,k)::r,acc,h,ha=>by
    by_cases hk:k=.free
    · subst hk
      obtain ⟨c,hc⟩:=h (n,.free) (List.mem_cons_self ..) rfl
      obtain ⟨cl,e,h1,h2⟩:=closure_go r ((n,c)::acc) (fun x hx=>h x (List.mem_cons_of_mem _ hx)) (fun m d hm=>by
        rw [List.lookup_cons] at hm
        cases hb:m == n with
        | true =>
          rw [hb] at hm
          obtain rfl:m=n:=by simpa using hb
          cases hm; exact hc
        | false=>rw [hb] at hm; exact ha m d hm)
      refine ⟨cl,?_,h1,fun m hm=>h2 m ?_⟩
      · rw [List.forIn_cons]
        have ec:cellOf env n=pure c:=by unfold cellOf; rw [hc]
        simp only [beq_self_eq_true,if_true,ec]
        exact e
      · rcases hm with ⟨d,hd⟩ | hm
        · left
          rw [List.lookup_cons]
          cases hb:m == n with
          | true=>exact ⟨c,rfl⟩
          | false=>exact ⟨d,hd⟩
        · rcases List.mem_cons.mp hm with z | z
          · left
            cases z
            exact ⟨c,by simp [List.lookup_cons]⟩
          · exact .inr z
    · obtain ⟨cl,e,h1,h2⟩:=closure_go r acc (fun x hx=>h x (List.mem_cons_of_mem _ hx)) ha
      refine ⟨cl,?_,h1,fun m hm=>h2 m (hm.imp id fun z=>?_)⟩
      · rw [List.forIn_cons]
        have eb:(k == NameKind.free)=false:=by simpa using hk
        simp only [eb,Bool.false_eq_true,if_false]
        exact e
      · rcases List.mem_cons.mp z with z | z
        · cases z; exact absurd rfl hk
        · exact z
theorem closure_of {env:Env} {scope:Scope} (h:∀ x ∈ scope.names,x.2=.free→∃ c,env.cells.lookup x.1=some c) :
    ∃ cl,closureFor scope env=pure cl∧(∀ n c,cl.lookup n=some c→env.cells.lookup n=some c)∧∀ n,(n,NameKind.free) ∈ scope.names→∃ c,cl.lookup n=some c:=by
  obtain ⟨cl,e,h1,h2⟩:=closure_go (env:=env) scope.names [] h (fun n c z=>by simp at z)
  refine ⟨cl,?_,h1,fun n z=>h2 n (.inr z)⟩
  unfold closureFor
  refine Eq.trans ?_ (congrArg (fun m=>m >>= fun r=>(pure r:Sem (List (Str × Addr)))) e)
  rfl

theorem relabel_back {env:Env} {x:Str} {k:NameKind}:∀ {names:List (Str × NameKind)},
    (names.map fun (n,k)=>if (k == NameKind.free && env.scope.kind == .function && env.kindOf n == some .cell) then (n,NameKind.cell) else (n,k)).lookup x=some k →
    ∃ k0,(x,k0) ∈ names∧(k0=k ∨ (k0=.free∧k=.cell))
  | [],h=>by simp at h
  | (n,j)::r,h=>by
    rw [List.map_cons,List.lookup_cons] at h
    dsimp only at h
    by_cases hc:(j == NameKind.free && env.scope.kind == .function && env.kindOf n == some .cell)=true
    · rw [if_pos hc] at h
      dsimp only at h
      cases hb:x == n with
      | true =>
        rw [hb] at h
        obtain rfl:x=n:=by simpa using hb
        cases h
        have hj:j=.free:=by simp only [Bool.and_eq_true,beq_iff_eq] at hc; exact hc.1.1
        exact ⟨j,List.mem_cons_self ..,.inr ⟨hj,rfl⟩⟩
      | false =>
        rw [hb] at h
        obtain ⟨k0,h1,h2⟩:=relabel_back (names:=r) h
        exact ⟨k0,List.mem_cons_of_mem _ h1,h2⟩
    · rw [if_neg hc] at h
      dsimp only at h
      cases hb:x == n with
      | true =>
        rw [hb] at h
        obtain rfl:x=n:=by simpa using hb
        cases h
        exact ⟨_,List.mem_cons_self ..,.inl rfl⟩
      | false =>
        rw [hb] at h
        obtain ⟨k0,h1,h2⟩:=relabel_back (names:=r) h
        exact ⟨k0,List.mem_cons_of_mem _ h1,h2⟩
theorem relabel_free {env:Env} {x:Str}:∀ {names:List (Str × NameKind)},names.lookup x=some .free →
    (names.map fun (n,k)=>if (k == NameKind.free && env.scope.kind == .function && env.kindOf n == some .cell) then (n,NameKind.cell) else (n,k)).lookup x=some .cell ∨
    (names.map fun (n,k)=>if (k == NameKind.free && env.scope.kind == .function && env.kindOf n == some .cell) then (n,NameKind.cell) else (n,k)).lookup x=some .free
  | [],h=>by simp at h
  | (n,j)::r,h=>by
    rw [List.lookup_cons] at h
    rw [List.map_cons,List.lookup_cons]
    dsimp only
    cases hb:x == n with
    | true =>
      rw [hb] at h
      cases h
      by_cases hc:(NameKind.free == NameKind.free && env.scope.kind == .function && env.kindOf n == some .cell)=true
      · rw [if_pos hc]; dsimp only; rw [hb]; exact .inl rfl
      · rw [if_neg hc]; dsimp only; rw [hb]; exact .inr rfl
    | false =>
      rw [hb] at h
      have ih:=relabel_free (env:=env) (names:=r) h
      by_cases hc:(j == NameKind.free && env.scope.kind == .function && env.kindOf n == some .cell)=true
      · rw [if_pos hc]; dsimp only; rw [hb]; exact ih
      · rw [if_neg hc]; dsimp only; rw [hb]; exact ih

def frChk (names outer:List (Str × NameKind)) (Nx:List Str):List Str→List (Option Nat)→Bool
  | [],[]=>true
  | x::r,none::f=>frChk names outer Nx r f
  | x::r,some j::f=>(names.lookup x == some .free) && (Nx[j]? == some x) && (outer.lookup x == some .cell) && frChk names outer Nx r f
  | _,_=>false
theorem frChk_get {names outer:List (Str × NameKind)} {Nx:List Str}:∀ {N':List Str} {fr:List (Option Nat)},frChk names outer Nx N' fr=true →
    N'.length=fr.length∧∀ (i:Nat) (x:Str) (j:Nat),N'[i]?=some x→fr[i]?=some (some j)→names.lookup x=some .free∧Nx[j]?=some x∧outer.lookup x=some .cell
  | [],[],_=>⟨rfl,fun i x j h=>by simp at h⟩
  | x::r,none::f,h=>by
    obtain ⟨h1,h2⟩:=frChk_get (N':=r) (fr:=f) h
    refine ⟨by simp [h1],fun i y j e1 e2=>?_⟩
    cases i with
    | zero=>simp at e2
    | succ i=>exact h2 i y j (by simpa using e1) (by simpa using e2)
  | x::r,some k::f,h=>by
    simp only [frChk,Bool.and_eq_true,beq_iff_eq] at h
    obtain ⟨⟨⟨a1,a2⟩,a3⟩,h⟩:=h
    obtain ⟨h1,h2⟩:=frChk_get (N':=r) (fr:=f) h
    refine ⟨by simp [h1],fun i y j e1 e2=>?_⟩
    cases i with
    | zero =>
      simp at e1 e2
      subst e1; subst e2
      exact ⟨a1,a2,a3⟩
    | succ i=>exact h2 i y j (by simpa using e1) (by simpa using e2)
  | [],_::_,h=>by simp [frChk] at h
  | _::_,[],h=>by simp [frChk] at h
def inBlk (fr:List (Option Nat)) (σ:St):St:=fr.map fun o=>o.bind fun j=>(σ[j]?).join

def PIf (X:Cx) (ifs:List Expr) (tt:TT):Prop :=
  ∀ (pins:List (Addr × Obj)) (s:Shared) (σ:St) (H:Hp) (Q:Bool→Hp→Prop),Inv X pins σ H s→tt σ H Q →
    wpAny (model X.prog X.w) X.A (forIn ifs true fun c r=>if r=true then do let ok ← isTrue c X.env (eval c X.env); pure (ForInStep.yield ok) else pure (ForInStep.yield r)) (TP X pins σ Q) X.xe s
def tAlways:TT:=fun _ H Q=>Q true H
theorem pif_nil {X:Cx}:PIf X [] tAlways:=fun _ _ _ H _ I h=>wpAny_tests_nil ⟨H,I,h⟩
theorem pif_one {X:Cx} {c:Expr} {tt:TT} (h:PT X c tt):PIf X [c] tt:=fun pins s σ H Q I q=>wpAny_tests_one (h pins s σ H Q I q)

def tLc (fr:List (Option Nat)) (wi:TI) (g:BP→TG) (tt:BP→TT) (te:BP→TE):TE:=fun σ H Q=>wi σ H fun J H1=>∀ (bp:BP) (acc:Addr),H1 acc=none→∃ W:Nat→Nat→St→Hp→Prop,
  (∃ m,W 0 m (inBlk fr σ) (upd H1 acc (.lst [])))∧∀ i m σ' H',W i m σ' H' →
    (J.stop i H'∧Q (.ref acc) H') ∨ (J.go i H'∧∀ x H2,J.yld i H' x H2→g bp x σ' H2 fun σ2 H3=>tt bp σ2 H3 fun b H4 =>
      if b=true then te bp σ2 H4 fun y H5=>∃ ys,H5 acc=some (.lst ys)∧ys.length < sizeLine∧∃ m',m' < m∧W (i + 1) m' σ2 (upd H5 acc (.lst (ys++[y])))
      else ∃ m',m' < m∧W (i + 1) m' σ2 H4)

theorem cells_none:∀ {names:List (Str × NameKind)},names.filter (fun y=>y.2 == NameKind.cell)=[]→∀ (n:Nat) (acc:List (Str × Addr)) (h:Heap),cellsFrom n names acc=acc∧pushCells h names=h
  | [],_,_,_,_=>⟨rfl,rfl⟩
  | (x,k)::r,e,n,acc,h=>by
    rw [List.filter_cons] at e
    cases hk:(k == NameKind.cell) with
    | true=>dsimp only at e; rw [hk,if_pos rfl] at e; cases e
    | false =>
      dsimp only at e
      rw [hk,if_neg Bool.false_ne_true] at e
      unfold cellsFrom pushCells
      rw [hk,if_neg Bool.false_ne_true,if_neg Bool.false_ne_true]
      exact cells_none e n acc h
theorem cells_one {z:Str}:∀ {names:List (Str × NameKind)},names.filter (fun y=>y.2 == NameKind.cell)=[(z,.cell)]→∀ (n:Nat) (acc:List (Str × Addr)) (h:Heap),cellsFrom n names acc=(z,n)::acc∧pushCells h names=h.push { cls:=.type "cell",data:=.cell none }
  | [],e,_,_,_=>by cases e
  | (x,k)::r,e,n,acc,h=>by
    rw [List.filter_cons] at e
    cases hk:(k == NameKind.cell) with
    | true =>
      dsimp only at e
      rw [hk,if_pos rfl] at e
      injection e with e1 e2
      injection e1 with e1 _
      subst e1
      unfold cellsFrom pushCells
      rw [hk,if_pos rfl,if_pos rfl]
      exact cells_none e2 (n + 1) ((x,n)::acc) _
    | false =>
      dsimp only at e
      rw [hk,if_neg Bool.false_ne_true] at e
      unfold cellsFrom pushCells
      rw [hk,if_neg Bool.false_ne_true,if_neg Bool.false_ne_true]
      exact cells_one e n acc h
def OneCell (names:List (Str × NameKind)):Prop:=names.filter (fun y=>y.2 == NameKind.cell)=[] ∨ ∃ z,names.filter (fun y=>y.2 == NameKind.cell)=[(z,.cell)]∧names.lookup z=some .cell
structure NewC (names:List (Str × NameKind)) (cl cl':List (Str × Addr)) (h:Heap) (C:Addr):Prop where
  get:∀ x c,cl'.lookup x=some c→(C < c∧(x,NameKind.cell) ∈ names∧h.IsCell c none) ∨ (cl.lookup x=some c∧(x,NameKind.cell) ∉ names)
  old:∀ x c,names.lookup x=some .free→cl.lookup x=some c→cl'.lookup x=some c
  has:∀ x,(x,NameKind.cell) ∈ names→∃ c,cl'.lookup x=some c
  keep:∀ x c,cl.lookup x=some c→∃ c',cl'.lookup x=some c'
  inj:∀ x y c,cl'.lookup x=some c→cl'.lookup y=some c→C < c→x=y
theorem newEnvG {M:Model} {A:Around} {E:Value→Shared→Prop} {s:Shared} {scope:Scope} {globals:Addr} {closure:List (Str × Addr)} {qual:Str} {outer:Env} {Q:Env→Shared→Prop} (hz:OneCell scope.names) (hlt:∀ x c,closure.lookup x=some c→c < s.heap.objs.size)
    (hQ:∀ h' cl',h'.Ns s.heap.objs.size (fun _=>none)→(∀ b o,s.heap.get? b=some o→h'.get? b=some o)→NewC scope.names closure cl' h' s.heap.objs.size→Q (newEnv scope s.heap.objs.size globals cl' qual none .none (some outer) builtinsNs) { s with heap:=h' }) :
    wpAny M A (newFunctionEnv scope globals closure [] qual none .none (some outer)) Q E s:=by
  simp only [newFunctionEnv,Option.isSome_some,if_true]
  refine wpAny_bind (wpAny_alloc ?_)
  refine wpAny_bind (wpAny_layCells _ (fun name kind cells=>by cases hkc:kind == NameKind.cell <;> simp [hkc]) _ _ _ _ ?_)
  have mem:∀ x,(x,NameKind.cell) ∈ scope.names→(x,NameKind.cell) ∈ scope.names.filter (fun y=>y.2 == NameKind.cell):=fun x hx=>List.mem_filter.mpr ⟨hx,rfl⟩
  rcases hz with hz | ⟨z,hz,hzl⟩
  · rw [(cells_none hz _ _ s.heap).1,(cells_none hz 0 [] _).2]
    have no:∀ x,(x,NameKind.cell) ∉ scope.names:=fun x hx=>by
      have:=mem x hx
      rw [hz] at this; cases this
    exact wpAny_bind (wpAny_pure (wpAny_pure (hQ _ _ (Heap.Ns.new s.heap (.type "dict")) (fun b o e=>Heap.get?_push_of_some _ e) ⟨fun x c h=>.inr ⟨h,no x⟩,fun x c _ h=>h,fun x h=>absurd h (no x),fun x c h=>⟨c,h⟩,fun x y c h _ l=>absurd (hlt x c h) (Nat.lt_asymm l)⟩)))
  · rw [(cells_one hz _ _ s.heap).1,(cells_one hz 0 [] _).2,show ({ s with heap:=s.heap.push { cls:=.type "dict",data:=.dict #[] } }:Shared).heap.objs.size=s.heap.objs.size + 1 from Heap.size_push ..]
    have isz:∀ x,(x,NameKind.cell) ∈ scope.names→x=z:=fun x hx=>by
      have:=mem x hx
      rw [hz] at this
      exact congrArg Prod.fst (List.mem_singleton.mp this)
    have lk:∀ x c,((z,s.heap.objs.size + 1)::closure).lookup x=some c→(x=z∧c=s.heap.objs.size + 1) ∨ (x ≠ z∧closure.lookup x=some c):=fun x c h=>by
      rw [List.lookup_cons] at h
      cases hb:x == z with
      | true=>rw [hb] at h; cases h; exact .inl ⟨eq_of_beq hb,rfl⟩
      | false=>rw [hb] at h; exact .inr ⟨ne_of_beq_false hb,h⟩
    have lko:∀ x c,x ≠ z→closure.lookup x=some c→((z,s.heap.objs.size + 1)::closure).lookup x=some c:=fun x c hx h=>by
      rw [List.lookup_cons,beq_eq_false_iff_ne.mpr hx]; exact h
    have g:((s.heap.push { cls:=.type "dict",data:=.dict #[] }).push { cls:=.type "cell",data:=.cell none }).get? (s.heap.objs.size + 1)=some { cls:=.type "cell",data:=.cell none }:=by
      have:=Heap.get?_push_size (s.heap.push { cls:=.type "dict",data:=.dict #[] }) (o:={ cls:=.type "cell",data:=.cell none }) rfl
      rwa [Heap.size_push] at this
    refine wpAny_bind (wpAny_pure (wpAny_pure (hQ _ _ ((Heap.Ns.new s.heap (.type "dict")).keeps fun b o e=>Heap.get?_push_of_some _ e) (fun b o e=>Heap.get?_push_of_some _ (Heap.get?_push_of_some _ e)) ⟨fun x c h=>?_,fun x c hx h=>lko x c (fun e=>by rw [e,hzl] at hx; cases hx) h,fun x hx=>⟨s.heap.objs.size + 1,by rw [isz x hx]; simp⟩,fun x c h=>?_,fun x y c h1 h2 l=>?_⟩)))
    · rcases lk x c h with ⟨rfl,rfl⟩ | ⟨n,h⟩
      · exact .inl ⟨Nat.lt_succ_self _,PySem.mem_of_lookup hzl,_,g,rfl⟩
      · exact .inr ⟨h,fun hx=>n (isz x hx)⟩
    · by_cases e:x=z
      · exact ⟨s.heap.objs.size + 1,by rw [e]; simp⟩
      · exact ⟨c,lko x c e h⟩
    · rcases lk x c h1 with ⟨e1,_⟩ | ⟨_,g1⟩
      · rcases lk y c h2 with ⟨e2,_⟩ | ⟨_,g2⟩
        · exact e1.trans e2.symm
        · exact absurd (hlt y c g2) (Nat.lt_asymm l)
      · exact absurd (hlt x c g1) (Nat.lt_asymm l)
section
variable {X:Cx}
theorem comp_loop {prog:Program} {w:World} {A:Around} {R:Result→Shared→Prop} {s:Shared} {elt target iter:Expr} {ifs:List Expr} {scope:Scope} {pos:Pos} {it acc:Value} {env:Env} (I:Nat→Shared→Prop)
    (turn:∀ n s,I n s→wpAny (model prog w) A (pyNext it) (fun r s₁=>match r with
      | none=>R (.ok .next) s₁
      | some v=>wpAny (model prog w) A (letOwnedTupleGo target it v) (fun _ s1=>wpAny (model prog w) A (assign target env v) (fun _ s₂ =>
          wpAny (model prog w) A (forIn ifs true fun c r=>if r=true then do let ok ← isTrue c env (eval c env); pure (ForInStep.yield ok) else pure (ForInStep.yield r)) (fun ok s₃ =>
            if ok=true then wpAny (model prog w) A (eval elt env) (fun x s₄=>wpAny (model prog w) A (call (.builtin "list.append") [acc,x]) (fun _ s₅=>∃ m,m < n∧I m s₅) (fun _ _=>False) s₄) (fun _ _=>False) s₃
            else ∃ m,m < n∧I m s₃) (fun _ _=>False) s₂) (fun _ _=>False) s1) (fun _ _=>False) s₁) (fun _ _=>False) s)
    (n:Nat) (h:I n s):codeAny (model prog w) A (.compLoop (.ListComp elt [⟨target,iter,ifs,0⟩] scope pos) 0 it acc env) R s:=by
  refine codeAny_loop rfl I (fun n s hI=>?_) n h
  show wpAny _ A ((compTurn (.ListComp elt [⟨target,iter,ifs,0⟩] scope pos) 0 it acc env).onRaise (fun x=>do noteFrame x env; theTreesLotGoes x)) _ _ s
  refine wpAny_noted ?_
  rw [compTurn_list]
  have no:∀ {E:Value→Shared→Prop} (e:Value) (s:Shared),False→E e s:=fun _ _ z=>z.elim
  refine wpAny_bind (wpAny_standAt (wpAny_bind (wpAny_mono (turn n s hI) (fun r s₁ h₁=>?_) no)))
  cases r with
  | none=>exact wpAny_pure h₁
  | some v =>
    refine wpAny_bind (wpAny_mono h₁ (fun _ s1 h1=>wpAny_bind (wpAny_mono h1 (fun _ s₂ h₂=>wpAny_bind (wpAny_mono h₂ (fun ok s₃ h₃=>?_) no)) no)) no)
    cases ok with
    | false=>exact wpAny_pure ⟨rfl,h₃⟩
    | true=>exact wpAny_bind (wpAny_bind (wpAny_mono h₃ (fun x s₄ h₄=>wpAny_bind (wpAny_mono h₄ (fun _ s₅ h₅=>wpAny_pure (wpAny_pure ⟨rfl,h₅⟩)) no)) no))

variable {elt iter tg:Expr} {ifs:List Expr} {scope:Scope} {pos:Pos} {N':List Str} {fr:List (Option Nat)} {wi:TI} {g:BP→TG} {tt:BP→TT} {te:BP→TE}
theorem lc_block {pins:List (Addr × Obj)} {σ:St} {H2:Hp} {s2:Shared} {it:Addr} {fp:List Addr} {tn:Nat→Heap→Prop} {J:It} {Q:VK} {RR:Value→Addr→Result→Shared→Prop} {cl:List (Str × Addr)} {E:Value→Shared→Prop}
    (hcalm:X.calm=true) (hkind:scope.kind=.function) (hz:OneCell scope.names) (hfr:frChk scope.names X.env.scope.names X.N N' fr=true)
    (hcl1:∀ n c,cl.lookup n=some c→X.env.cells.lookup n=some c) (hcl2:∀ n,(n,NameKind.free) ∈ scope.names→∃ c,cl.lookup n=some c)
    (hY:∀ b:BP,PG (blk X scope N' b) tg (g b)∧PIf (blk X scope N' b) ifs (tt b)∧PE (blk X scope N' b) elt (te b))
    (I2:Inv X pins σ H2 s2) (T:Turn X.prog X.w X.K tg J fp it tn) (st2:tn 0 s2.heap) (f2:∀ b ∈ fp,FpOk X pins H2 b)
    (q:∀ (bp:BP) (acc:Addr),H2 acc=none→∃ W:Nat→Nat→St→Hp→Prop,(∃ m,W 0 m (inBlk fr σ) (upd H2 acc (.lst [])))∧∀ i m σ' H',W i m σ' H' →
      (J.stop i H'∧Q (.ref acc) H') ∨ (J.go i H'∧∀ x H2,J.yld i H' x H2→g bp x σ' H2 fun σ2 H3=>tt bp σ2 H3 fun b H4 =>
        if b=true then te bp σ2 H4 fun y H5=>∃ ys,H5 acc=some (.lst ys)∧ys.length < sizeLine∧∃ m',m' < m∧W (i + 1) m' σ2 (upd H5 acc (.lst (ys++[y])))
        else ∃ m',m' < m∧W (i + 1) m' σ2 H4))
    (hRR:∀ acc C s' HY m,Inv X pins σ HY s'→FpOk X pins HY C→s'.heap.Ns C m→Q (.ref acc) HY→RR (.ref acc) C (.ok .next) s') :
    wpAny (model X.prog X.w) X.A (newList []) (fun acc s₃=>wpAny (model X.prog X.w) X.A (newFunctionEnv scope X.env.globals cl [] X.env.qual none .none (some X.env)) (fun cenv s₄ =>
      codeAny (model X.prog X.w) X.A (.compStart (.ListComp elt [⟨tg,iter,ifs,0⟩] scope pos) 0 (.ref it) acc { cenv with scope:=relabel scope X.env }) (RR acc cenv.locals) s₄) E s₃) E s2:=by
  obtain ⟨hfl,hfg⟩:=frChk_get hfr
  have hacc:H2 s2.heap.objs.size=none:=I2.hok.fresh (Nat.le_refl _)
  refine wpAny_newObj_type ?_ (by show 0≤sizeLine; exact Nat.zero_le _)
  generalize hs3:({ s2 with heap:=s2.heap.push { cls:=.type "list",dict:=none,data:=.seq ([]:List Value).toArray } }:Shared)=s3
  have I3:Inv X pins σ (upd H2 s2.heap.objs.size (.lst [])) s3:=by
    rw [← hs3]
    exact I2.laid (t':=s2.toks) (fun b u e=>Heap.get?_push_of_some _ e) (Nat.le_refl _) ⟨Nat.zero_le _,[],0,.nil,Heap.get?_push_size _ rfl⟩
  have hfp:∀ b ∈ fp,b < s3.heap.objs.size:=fun b hb=>by
    obtain ⟨o,e,_⟩:=T.obj 0 _ st2 b hb
    rw [← hs3]
    exact Heap.lt_size (Heap.get?_push_of_some _ e)
  have st3:tn 0 s3.heap:=T.keep 0 _ _ st2 fun b _ o e=>by rw [← hs3]; exact Heap.get?_push_of_some _ e
  have f3:∀ b ∈ fp,FpOk X pins (upd H2 s2.heap.objs.size (.lst [])) b:=fun b hb=>⟨by
    obtain ⟨o,e,_⟩:=T.obj 0 _ st2 b hb
    rw [upd_ne (Nat.ne_of_lt (Heap.lt_size e))]
    exact (f2 b hb).1,(f2 b hb).2⟩
  refine newEnvG hz (fun x c e=>by obtain ⟨v,o,ho,_⟩:=I3.cell x c (hcl1 x c e); exact Heap.lt_size ho) fun h₁ cl' hns keep hnw=>?_
  generalize hH3:upd H2 s2.heap.objs.size (.lst [])=H3 at *
  generalize hac:s2.heap.objs.size=ac at *
  generalize hC:s3.heap.objs.size=C at *
  obtain ⟨W,⟨m0,w0⟩,turn⟩:=q ⟨cl',C,s3,H3,fp,X.pn++pins⟩ ac hacc
  rw [hH3] at w0
  have cellLt:∀ x c,X.env.cells.lookup x=some c→c < C:=fun x c e=>by
    obtain ⟨v,o,ho,_⟩:=I3.cell x c e
    rw [← hC]; exact Heap.lt_size ho
  have hCfp:∀ b ∈ fp,b ≠ C:=fun b hb=>by exact Nat.ne_of_lt (hfp b hb)
  have hCl:X.env.locals < C:=by rw [← hC]; exact I3.lt
  have hstk:∀ b ∈ frs X.stack,b ≠ C∧H3 b=none:=fun b hb=>⟨by
    rintro rfl
    rcases List.mem_cons.mp (I3.stkSub b hb) with z | z
    · rw [z] at hCl; exact absurd hCl (Nat.lt_irrefl _)
    · exact I3.nofs (by rw [hC]; exact Nat.le_refl _) z,I3.stkFree b hb⟩
  have cellNe:∀ x c,X.env.cells.lookup x=some c→c ≠ C:=fun x c e z=>by
    obtain ⟨v,o,ho,_⟩:=I3.cell x c e
    have:=Heap.lt_size ho
    rw [z,hC] at this
    exact absurd this (Nat.lt_irrefl _)
  -- the block's context
  have okY:(blk X scope N' ⟨cl',C,s3,H3,fp,X.pn++pins⟩).Ok:=by
    refine ⟨I3.ok.mod,hkind,I3.ok.glob,I3.ok.blt,Nat.le_of_eq hC,fun x y c h1 h2=>by
      rcases hnw.get x c h1 with ⟨l1,_⟩ | ⟨g1,_⟩ <;> rcases hnw.get y c h2 with ⟨l2,_⟩ | ⟨g2,_⟩
      · exact hnw.inj x y c h1 h2 l1
      · exact absurd (cellLt y _ (hcl1 y _ g2)) (Nat.lt_asymm l1)
      · exact absurd (cellLt x _ (hcl1 x _ g1)) (Nat.lt_asymm l2)
      · exact I3.ok.inj x y c (hcl1 x c g1) (hcl1 y c g2),fun x hx=>?_,fun x c hf h=>by
      rcases hnw.get x c h with ⟨l,_⟩ | ⟨_,n⟩
      · exact Nat.le_trans (Nat.le_of_eq hC) (Nat.le_of_lt l)
      · exact absurd (PySem.mem_of_lookup (beq_iff_eq.mp hf)) n,fun _=>I3.ok.hd hcalm,I3.ok.frames,.inl rfl,
      fun b hb=>⟨hCfp b hb,fun x c h=>by
        rcases hnw.get x c h with ⟨l,_⟩ | ⟨h,_⟩
        · exact Nat.ne_of_gt (Nat.lt_trans (hfp b hb) l)
        · exact (f3 b hb).2.2.2.2.1 x c (hcl1 x c h)⟩,fun b o e=>I3.bs b o e,?_,fun b o e hb=>?_,fun b hb hs=>?_,I3.stack,fun b hb=>(hstk b hb).2⟩
    · have back:∀ k,(relabel scope X.env).names.lookup x=some k→(k=.cell ∨ k=.free)→∃ c,(cl').lookup x=some c:=fun k h hk=>by
        obtain ⟨k0,h1,h2⟩:=relabel_back h
        rcases (show k0=.cell ∨ k0=.free from h2.elim (fun e=>by rw [e]; exact hk) fun e=>.inr e.1) with rfl | rfl
        · exact hnw.has x h1
        · obtain ⟨c,hc⟩:=hcl2 x h1
          exact hnw.keep x c hc
      rcases hx with hx | hx
      · exact back _ hx (.inl rfl)
      · exact back _ hx (.inr rfl)
    · exact Nat.le_trans I3.ok.bsz (Nat.le_trans I3.sz (Nat.le_refl _))
    · rcases (f3 b hb).2.2.2.1 with z | z
      · exact I3.ok.noex b o e z
      · exact absurd (Nat.lt_of_lt_of_le (Heap.lt_size (I3.ok.bs b o e).1) z) (Nat.lt_irrefl _)
    · rcases List.mem_cons.mp (I3.stkSub b hs) with z | z
      · exact (f3 b hb).2.1 z
      · exact (f3 b hb).2.2.1 z
  have hH3C:H3 C=none:=I3.hok.fresh (Nat.le_of_eq hC)
  have IY:Inv (blk X scope N' ⟨cl',C,s3,H3,fp,X.pn++pins⟩) [] (inBlk fr σ) H3 { s3 with heap:=h₁ }:=by
    refine ⟨okY,rfl,I3.bare,Un.kept keep,⟨_,hns,fun i x v h1 h2 _=>?_⟩,fun x c e=>?_,hH3C,fun x c e=>(by
      rcases hnw.get x c e with ⟨l,_⟩ | ⟨e,_⟩
      · exact I3.hok.fresh (by rw [hC]; exact Nat.le_of_lt l)
      · exact I3.freeC x c (hcl1 x c e)),fun p hp=>?_,I3.hok.kept keep,?_⟩
    · have e:∃ j,fr[i]?=some (some j)∧σ[j]?=some (some v):=by
        unfold inBlk at h2
        rw [List.getElem?_map] at h2
        cases hf:fr[i]? with
        | none=>rw [hf] at h2; cases h2
        | some o =>
          rw [hf] at h2
          cases o with
          | none=>cases h2
          | some j =>
            refine ⟨j,rfl,?_⟩
            have h2':(σ[j]?).join=some v:=by simpa using h2
            cases hj:σ[j]? with
            | none=>rw [hj] at h2'; cases h2'
            | some o=>rw [hj] at h2'; rw [show o=some v from h2']
      obtain ⟨j,e1,e2⟩:=e
      obtain ⟨a1,a2,a3⟩:=hfg i x j h1 e1
      obtain ⟨m,hn,hl⟩:=I3.loc
      obtain ⟨u,r,l⟩:=hl j x v a2 e2 (.inr (.inl a3))
      refine ⟨u,r,.inr ⟨relabel_free a1,?_⟩⟩
      rcases l with ⟨k,_⟩ | ⟨_,c,hc,o,ho,hd⟩
      · have k':X.env.scope.names.lookup x=some .local:=k
        rw [a3] at k'; cases k'
      · obtain ⟨c',hc'⟩:=hcl2 x (PySem.mem_of_lookup a1)
        have z:=hcl1 x c' hc'
        rw [hc] at z; cases z
        exact ⟨c,hnw.old x c a1 hc',o,keep c o ho,hd⟩
    · rcases hnw.get x c e with ⟨_,_,hnc⟩ | ⟨e,_⟩
      · exact ⟨none,hnc⟩
      · obtain ⟨v,o,ho,hd⟩:=I3.cell x c (hcl1 x c e)
        exact ⟨v,o,keep c o ho,hd⟩
    · obtain ⟨e,n,ne,nf,d⟩:=I3.pin p (by have hp':p ∈ (X.pn++pins)++[]:=hp; simpa using hp')
      refine ⟨keep _ _ e,n,?_,fun z=>?_,d⟩
      · have:=Heap.lt_size e
        rw [hC] at this
        exact Nat.ne_of_lt this
      · rcases List.mem_cons.mp (I3.stkSub p.1 z) with z | z
        · exact ne z
        · exact nf z
    · unfold inBlk
      rw [List.length_map]
      exact hfl.symm
  have stat:∀ {H':Hp},(∀ b ∈ fp,H' b=none)→∀ b ∈ fp,FpOk (blk X scope N' ⟨cl',C,s3,H3,fp,X.pn++pins⟩) [] H' b:=fun {H'} hn b hb =>
    ⟨hn b hb,hCfp b hb,fun z=>by
      rcases List.mem_cons.mp (I3.stkSub b z) with z | z
      · exact (f3 b hb).2.1 z
      · exact (f3 b hb).2.2.1 z,  .inl hb,fun x c e=>(by
      rcases hnw.get x c e with ⟨l,_⟩ | ⟨e,_⟩
      · exact Nat.ne_of_gt (Nat.lt_trans (hfp b hb) l)
      · exact (f3 b hb).2.2.2.2.1 x c (hcl1 x c e)),fun p hp=>(f3 b hb).2.2.2.2.2 p (by have hp':p ∈ (X.pn++pins)++[]:=hp; simpa using hp')⟩
  obtain ⟨hg,ht,he⟩:=hY ⟨cl',C,s3,H3,fp,X.pn++pins⟩
  have loop:codeAny (model X.prog X.w) X.A (.compLoop (.ListComp elt [⟨tg,iter,ifs,0⟩] scope pos) 0 (.ref it) (.ref ac) (compEnvC scope cl' C X.env)) (RR (.ref ac) C) { s3 with heap:=h₁ }:=by
    refine comp_loop (fun n s'=>∃ i σ' H',Inv (blk X scope N' ⟨cl',C,s3,H3,fp,X.pn++pins⟩) [] σ' H' s'∧tn i s'.heap∧(∀ b ∈ fp,H' b=none)∧W i n σ' H') ?_ m0
      ⟨0,inBlk fr σ,H3,IY,T.keep 0 _ _ st3 fun b _ o e=>keep b o e,fun b hb=>(f3 b hb).1,w0⟩
    rintro n s4 ⟨i,σ4,H4,I4,st4,fr4,w4⟩
    rcases turn i n σ4 H4 w4 with ⟨stop,qn⟩ | ⟨go,step⟩
    · refine thn (T.done (blk X scope N' ⟨cl',C,s3,H3,fp,X.pn++pins⟩) rfl rfl rfl hcalm i [] s4 σ4 H4 _ I4 (stat fr4) st4 stop) fun r s5 ⟨hr,I5⟩=>?_
      subst hr
      obtain ⟨m,hn,_⟩:=I5.loc
      have IX:Inv X pins σ H4 s5:=I3.call' I5.os I5.base I5.hok I5.bare fun b hb=>⟨(f3 b hb).2.2.2.1,(f3 b hb).2.1,(f3 b hb).2.2.2.2.1,(f3 b hb).2.2.2.2.2⟩
      exact hRR ac C s5 H4 m IX (I3.fpOk (Nat.le_of_eq hC) I5.free) hn qn
    · refine thn (T.item (blk X scope N' ⟨cl',C,s3,H3,fp,X.pn++pins⟩) rfl rfl rfl hcalm i [] s4 σ4 H4 (fun _ _=>False) I4 (stat fr4) st4 go) fun r s5 ⟨u,hr,h5⟩=>?_
      subst hr
      refine thn h5 fun _ s6 ⟨x,H6,I6,r6,y6,st6,fr6⟩=>?_
      have I6':=I6.pinned (stat fr6) (T.obj _ _ st6)
      refine thn (hg _ s6 σ4 H6 x u _ I6' r6 (step x H6 y6)) fun _ s7 ⟨σ7,H7,I7,q7⟩=>?_
      refine thn (ht _ s7 σ7 H7 _ I7 q7) fun ok s8 ⟨H8,I8,q8⟩=>?_
      have again:∀ {s9:Shared} {σ9:St} {H9:Hp} {m':Nat},Inv (blk X scope N' ⟨cl',C,s3,H3,fp,X.pn++pins⟩) ([]++pinsAt fp s6.heap) σ9 H9 s9→m' < n→W (i + 1) m' σ9 H9 →
          ∃ m,m < n∧∃ i σ' H',Inv (blk X scope N' ⟨cl',C,s3,H3,fp,X.pn++pins⟩) [] σ' H' s9∧tn i s9.heap∧(∀ b ∈ fp,H' b=none)∧W i m σ' H':=fun {s9 σ9 H9 m'} I9 hm w9=>by
        refine ⟨m',hm,i + 1,σ9,H9,I9.unpinned,T.keep _ _ _ st6 fun b hb o e=>(I9.pin (b,o) (List.mem_append_right _ (List.mem_append_right _ (mem_pinsAt hb e)))).1,fun b hb=>?_,w9⟩
        obtain ⟨o,e,d⟩:=T.obj _ _ st6 b hb
        exact (I9.pin (b,o) (List.mem_append_right _ (List.mem_append_right _ (mem_pinsAt hb e)))).2.1
      cases ok with
      | false =>
        obtain ⟨m',hm,w8⟩:=q8
        exact again I8 hm w8
      | true =>
        refine thn (he _ s8 σ7 H8 _ I8 q8) fun y s9 ⟨yv,H9,I9,r9,ys,hys,hz,m',hm,w9⟩=>?_
        refine thn (mt_append (X:=blk X scope N' ⟨cl',C,s3,H3,fp,X.pn++pins⟩) _ s9 σ7 H9 (.ref ac) [yv] (.ref ac) [y] (fun _ H'=>H'=upd H9 ac (.lst (ys++[yv]))) I9 rfl (.cons r9 .nil) ⟨ac,ys,yv,rfl,rfl,hys,hz,rfl⟩) fun _ s10 ⟨_,H10,I10,_,e10⟩=>?_
        subst e10
        exact again I10 hm w9
  exact codeAny_compStart_list loop (T.self _ 0 _ _ _ (T.keep 0 _ _ st3 fun b _ o e=>keep b o e) loop)

theorem pe_lc (hcalm:X.calm=true) (hkind:scope.kind=.function) (hz:OneCell scope.names) (hfr:frChk scope.names X.env.scope.names X.N N' fr=true)
    (hfree:∀ y ∈ scope.names,y.2=.free→X.env.scope.names.lookup y.1=some .cell) (hnames:∀ x ∈ scope.names,x.2=.local→scope.names.lookup x.1=some .local) (hi:PI X tg iter wi)
    (hY:∀ b:BP,PG (blk X scope N' b) tg (g b)∧PIf (blk X scope N' b) ifs (tt b)∧PE (blk X scope N' b) elt (te b))
    (hs:∀ x,foldedSetIterable iter X.env x=pure x:=by intro _; rfl):PE X (.ListComp elt [⟨tg,iter,ifs,0⟩] scope pos) (tLc fr wi g tt te):=by
  intro pins s σ H Q I h
  obtain ⟨cl,hclos,hcl1,hcl2⟩:=closure_of (env:=X.env) (scope:=scope) fun y hy hk=>I.ok.has y.1 (.inl (hfree y hy hk))
  rw [eval_ListComp]
  refine wpAny_comprehension_free (use:=none) rfl hs hclos hkind hnames (thn (hi pins s σ H _ I h) fun v s1 h1=>thn h1 fun itv s2 h2=>?_)
  obtain ⟨it,fp,tn,J,H2,rfl,I2,T,st2,f2,q⟩:=h2
  refine lc_block (RR:=fun acc C=>compPost (model X.prog X.w) X.A X.xe none (EP X pins σ Q) acc C) hcalm hkind hz hfr hcl1 hcl2 hY I2 T st2 f2 q fun acc C s' HY m I' f' hn q'=>?_
  exact ⟨m,hn,fun h' sb=>⟨.ref acc,HY,I'.turned (t':=s'.toks) (fun b o hb e=>(sb.2 b hb).trans e) f'.1 f'.2.1 f'.2.2.2.1 f'.2.2.2.2.1 f'.2.2.2.2.2,rfl,q'⟩⟩
theorem ps_setlc {i:Nat} {x:Str} {px spos:Pos} (hN:X.N.Nodup) (hix:X.N[i]?=some x) (hx:Loc X.env.scope x) (hcalm:X.calm=true) (hkind:scope.kind=.function) (hz:OneCell scope.names) (hfr:frChk scope.names X.env.scope.names X.N N' fr=true)
    (hfree:∀ y ∈ scope.names,y.2=.free→X.env.scope.names.lookup y.1=some .cell) (hnames:∀ x ∈ scope.names,x.2=.local→scope.names.lookup x.1=some .local) (hi:PI X tg iter wi)
    (hY:∀ b:BP,PG (blk X scope N' b) tg (g b)∧PIf (blk X scope N' b) ifs (tt b)∧PE (blk X scope N' b) elt (te b))
    (hsw:swapsWith (.ListComp elt [⟨tg,iter,ifs,0⟩] scope pos) (some (.Name x px)) spos.line X.env=pure true)
    (hs:∀ x,foldedSetIterable iter X.env x=pure x:=by intro _; rfl) (hf:X.fn x=true ∨ X.env.scope.names.lookup x=some .local:=by first | exact .inl rfl | exact .inr rfl | assumption) :
    PS X (.Assign [.Name x px] (.ListComp elt [⟨tg,iter,ifs,0⟩] scope pos) spos) (tAsg (tLc fr wi g tt te) (gName i)):=by
  intro pins s σ H D I h
  obtain ⟨cl,hclos,hcl1,hcl2⟩:=closure_of (env:=X.env) (scope:=scope) fun y hy hk=>I.ok.has y.1 (.inl (hfree y hy hk))
  rw [exec_Assign_Name_used _ _ _ _ hsw]
  refine wpAny_bind (wpAny_standAt (wpAny_bind ?_))
  show wpAny _ _ (do let _ ← comprehension (.ListComp elt [⟨tg,iter,ifs,0⟩] scope pos) scope X.env _ (newList []) false (eval iter X.env) (some (assign (.Name x px) X.env))) _ _ s
  refine wpAny_bind (wpAny_mono (wpAny_comprehension_free (use:=some (assign (.Name x px) X.env)) (Q:=fun _ s'=>SP X pins D .next s') rfl hs hclos hkind hnames
    (thn (hi pins s σ H _ I h) fun v s1 h1=>thn h1 fun itv s2 h2=>?_)) (fun _ s' hq=>wpAny_pure (wpAny_pure hq)) fun _ _ e=>e)
  obtain ⟨it,fp,tn,J,H2,rfl,I2,T,st2,f2,q⟩:=h2
  refine lc_block (RR:=fun acc C=>compPost (model X.prog X.w) X.A X.xe (some (assign (.Name x px) X.env)) (fun _ s'=>SP X pins D .next s') acc C) (Q:=fun x H1=>gName i x σ H1 D.nx) hcalm hkind hz hfr hcl1 hcl2 hY I2 T st2 f2 q fun acc C s' HY m I' f' hn q'=>?_
  show wpAny _ _ (assign (.Name x px) X.env (.ref acc)) _ _ _
  refine wpAny_assign_Name (store_ok2 I' hN hix hx (v:=.ref acc) rfl (fun s2' I2' hch=>?_) hf)
  obtain ⟨a,sb,ha⟩:=hch
  have hCa:C ≠ a:=by
    rcases ha with z | z
    · rw [z]; exact f'.2.1
    · exact fun e=>f'.2.2.2.2.1 x a z e.symm
  exact ⟨m,hn.sameBut sb hCa,fun h' sb'=>⟨_,HY,I2'.turned (t':=s2'.toks) (fun b o hb e=>(sb'.2 b hb).trans e) f'.1 f'.2.1 f'.2.2.2.1 f'.2.2.2.2.1 f'.2.2.2.2.2,q'⟩⟩
end
end L2

set_option Elab.async false
set_option linter.all false
set_option maxRecDepth 100000
namespace L2
open PySem PySem.Spec PyProof.Rows
section
variable {prog:Program} {w:World} {A:Around} {E:Value→Shared→Prop} {h:Heap} {g:Array GenState} {d:Drawn} {t:Nat} {os:OsState} {a C:Addr} {ox:Obj} {od:Option Obj} {K:PySem.W.Frag}
structure XCls (K:PySem.W.Frag) (C:Addr):Prop where
  ga:PySem.W.findIn K (.ref C) "__getattribute__"=some (some (.builtin "BaseException.__getattribute__"))
  gt:PySem.W.findIn K (.ref C) "__getattr__"=some none
  cl:PySem.W.findIn K (.ref C) "__class__"=some (some (.builtin "object.__class__"))
  ob:PySem.W.mroIn K C (.type "object")=some true
  be:PySem.W.mroIn K C (.type "BaseException")=some true
def XOk (K:PySem.W.Frag) (C:Addr):Prop:=XCls K C∧∀ T ∈ ["int","str","list","tuple","bool"],PySem.W.kitOne K (.ref C) (.type T)=some false
theorem check_gaK {M:Model} {nameV:Value} {Q:Unit→Shared→Prop} (X:K.In h) (c:XCls K C) (I:PySem.W.InstAt h a ox C od) (hq:Q () ⟨h,g,d,t,os⟩):wpAny M A (checkBuiltinCall "BaseException.__getattribute__" ⟨[.ref a,nameV],[]⟩) Q E ⟨h,g,d,t,os⟩:=by
  have hk:builtinKind "BaseException.__getattribute__"=some .slot:=by decide +kernel
  have hsplit:splitId "BaseException.__getattribute__"=some ("BaseException","__getattribute__"):=by decide +kernel
  have ha:=F.args_bexc_ga (.ref a) nameV
  have L0:=I.type (M:=M)
  have L1:=PySem.W.looks_mroIn (M:=M) X c.be
  simp only [checkBuiltinCall,hk,hsplit]
  refine wpAny_bind ?_
  unfold isInstance
  refine wpAny_bind (L0.at (L1.at ?_))
  repeat (first | exact hq | wp_step)
theorem class_entryK {tk:Tok} {Q:Fin→Shared→Prop} (X:K.In h) (c:XCls K C) (I:PySem.W.InstAt h a ox C od) (hq:Q (.done (.ret (.ref C))) ⟨h,g,d,t,os⟩) :
    wpAny (model prog w) A (Builtin.«object.__getattribute__» ⟨[.ref a,.str "__class__" tk],[]⟩) Q E ⟨h,g,d,t,os⟩:=by
  have hT5:(⟨h,g,d,t,os⟩:Shared).TypeIs (.builtin "object.__class__") "getset_descriptor":=F.typeOf_object_class
  have f5:=F.typeOf_object_class
  have f6:=F.slot_gs_get.lookup
  have f7:=F.slot_gs_set.lookup
  have L0:=I.type (M:=model prog w)
  have L1:=PySem.W.looks_findIn (M:=model prog w) X c.cl
  repeat (any_goals (first | assumption | with_reducible refine L0.at ?_ | with_reducible refine L1.at ?_ | wp_step))
  refine PySem.W.class_get (s:=⟨h,g,d,t,os⟩) X I c.ob ?_
  repeat (any_goals (first | assumption | wp_step))
theorem class_callK {tk:Tok} {R:Result→Shared→Prop} (X:K.In h) (c:XCls K C) (I:PySem.W.InstAt h a ox C od) (hq:R (.ok (.ret (.ref C))) ⟨h,g,d,t,os⟩) :
    codeAny (model prog w) A (.call (.builtin "BaseException.__getattribute__") ⟨[.ref a,.str "__class__" tk],[]⟩) R ⟨h,g,d,t,os⟩ :=
  codeAny_call_builtin F.excAttr_ValueError.ga.plain F.entry_bexc_ga (check_gaK X c I (class_entryK X c I hq))
theorem class_byK {tk:Tok} {Q:Value→Shared→Prop} (X:K.In h) (c:XCls K C) (I:PySem.W.InstAt h a ox C od) (hq:Q (.ref C) ⟨h,g,d,t,os⟩):wpAny (model prog w) A (getAttrBy (.ref a) (.str "__class__" tk) false) Q E ⟨h,g,d,t,os⟩:=by
  have f3:=F.excAttr_ValueError.ga.bind (.ref a)
  have hx2:(Value.builtin "BaseException.__getattribute__" == Value.builtin "object.__getattribute__")=false:=by decide +kernel
  have hx1:(onTheHeap (Value.ref C) && Value.builtin "BaseException.__getattribute__" == Value.builtin "object.__getattribute__")=false:=by rw [hx2]; rfl
  have L0:=I.type (M:=model prog w)
  have L1:=PySem.W.looks_findIn (M:=model prog w) X c.ga
  have L2':=PySem.W.looks_findIn (M:=model prog w) X c.gt
  repeat (any_goals (first | assumption | with_reducible refine L0.at ?_ | with_reducible refine L1.at ?_ | with_reducible refine L2'.at ?_ | wp_step))
  refine class_callK X c I ?_
  repeat (any_goals (first | assumption | wp_step))
theorem class_attrK {Q:Option Value→Shared→Prop} (X:K.In h) (c:XCls K C) (I:PySem.W.InstAt h a ox C od) (hq:Q (some (.ref C)) ⟨h,g,d,t + 1,os⟩):wpAny (model prog w) A (getAttr? (.ref a) "__class__") Q E ⟨h,g,d,t,os⟩:=by
  unfold getAttr? getAttrBy?
  repeat (any_goals (first | assumption | with_reducible apply class_byK X c I | wp_step))
theorem kitx_exc (c:XCls K C):PySem.W.KitX K (.ref a) (.ref C) (fun h=>∃ ox od,PySem.W.InstAt h a ox C od) where
  ty:=fun _ _ _ ⟨_,_,I⟩=>I.type
  it:=fun _ _ X _=>by
    obtain ⟨cd,hc,_⟩:=Option.bind_eq_some_iff.mp c.ob
    unfold PySem.W.clsIn at hc
    split at hc
    · rename_i c' d' cd' sl' ho
      intro A' Q' E' s' k q
      unfold isType loadHead
      exact wpAny_bind (wpAny_loadPart (k _ _ (X _ _ ho)) (wpAny_pure q))
    · cases hc
  ne:=fun h tp dd its n sl X htp=>by
    obtain ⟨cd,hc,_⟩:=Option.bind_eq_some_iff.mp c.ob
    refine Bool.eq_false_iff.mpr fun q=>?_
    have e:C=tp:=Value.ref.inj (beq_iff_eq.mp q)
    subst e
    unfold PySem.W.clsIn at hc
    split at hc
    · rename_i c' d' cd' sl' ho
      have z:=(X _ _ ho).symm.trans htp
      cases z
    · cases hc
  ca:=fun {_ _ _ _ _ s} X ⟨_,_,I⟩ k=>by
    obtain ⟨hh,g,d,t,os⟩:=s
    exact class_attrK X c I k
end
end L2

set_option Elab.async false
set_option linter.all false
set_option maxRecDepth 100000
namespace L2
open PySem PySem.Spec PyProof.Rows
section
variable {X:Cx} {CX:CXT} {k:Nat} {f C:Addr} {fd:FuncData} {ps:List Str} {sp:Sp} {dvs:List V} {ds:List Value} {E:XK} {x m:Str} {p pos apos:Pos} {e o:Expr} {es:List Expr} {ta:TE} {t:TA}
end
section
variable {P:Program} {w:World} {K:PySem.W.Frag} {mg:Str→Option Value} {base:Heap}
end
end L2

set_option Elab.async false
set_option linter.all false
set_option maxRecDepth 100000
namespace TL
open PySem PySem.Spec PyProof.Rows L2
abbrev D:=PySem.PyData
def numsAt (p:Addr) (h:Heap):Prop:=∃ (its:List Value) (n:Nat),h.get? p=some { cls:=.type "list",data:=.seq its.toArray n }∧its.length≤1000∧∀ v ∈ its,∃ (i:Int) (t:Tok),v=.int i t∧0≤i∧i < 4096
def excAt (p C:Addr) (dx:Option Addr) (h:Heap):Prop:=∃ o vs,h.get? p=some o∧o.cls=.ref C∧o.dict=dx∧o.data=.fields vs
def tapeAt (p q:Addr) (h:Heap):Prop:=∃ (a b c:Int) (ta tb tc:Tok) (n:Nat),h.get? p=some { cls:=.type "list",data:=.seq [Value.ref q,.int a ta,.int b tb,.int c tc].toArray n }∧0≤a∧(c=0 ∨ c=1)
def EntR (e:Int × Addr × V) (x:DictEntry):Prop:=x.hash=e.1∧x.key=.ref e.2.1∧RelV e.2.2 x.val
def DicAt (p:Addr) (es:List (Int × Addr × V)) (h:Heap):Prop:=(p == sysModules)=false∧es.length≤sizeLine∧∃ o xs ep,h.get? p=some o∧o.ExactDict∧o.data=.dict xs ep∧Paired EntR es xs.toList
def dicO (p:Addr) (es:List (Int × Addr × V)):HO:=.ext (DicAt p es)
def DicAtE (p:Addr) (es:List (Int × Addr × V)) (ep:Nat) (h:Heap):Prop:=(p == sysModules)=false∧es.length≤sizeLine∧∃ o xs,h.get? p=some o∧o.ExactDict∧o.data=.dict xs ep∧Paired EntR es xs.toList
def dicF (p:Addr) (es:List (Int × Addr × V)) (ep:Nat):HO:=.ext (DicAtE p es ep)
def dicH (hs:List Int) (kvs:List (D × D)):D:=.dict ((.str "{}",.list (hs.map PyData.int))::kvs)
mutual
inductive Rep (K:PySem.W.Frag) (H:Hp):D→V→Prop
  | none:Rep K H .none .non
  | bool (b:Bool):Rep K H (.bool b) (.bl b)
  | int (i:Int):Rep K H (.int i) (.int i)
  | str (x:Str):Rep K H (.str x) (.str x)
  | list {p:Addr} {xs:List V} {ts:List D}:SqL K H p xs→Reps K H ts xs→Rep K H (.list ts) (.ref p)
  | tuple {p:Addr} {xs:List V} {ts:List D}:SqT K H p xs→Reps K H ts xs→Rep K H (.tuple ts) (.ref p)
  | wild {p:Addr}:H p=some (.ext (numsAt p))→Rep K H (.dict []) (.ref p)
  | exc {p C:Addr}:XOk K C→H p=some (.ext (excAt p C Option.none))→Rep K H (.dict [(.int (C:Nat),.none)]) (.ref p)
  | excA {p C dx:Addr} {n:Int}:XOk K C→H p=some (.ext (excAt p C (some dx)))→H dx=some (.xd [("at",.int n)])→Rep K H (.dict [(.int (C:Nat),.int n)]) (.ref p)
  | tape {p q:Addr} {ns:List Int}:H p=some (.ext (tapeAt p q))→SqL K H q (ns.map V.int)→Rep K H (.dict [(.none,.list (ns.map PyData.int))]) (.ref p)
  | dct {p:Addr} {es:List (Int × Addr × V)} {ep:Nat} {kvs:List (D × D)}:H p=some (dicF p es ep)→(kvs.map (·.1)).Nodup→Reps K H (kvs.map (·.1)) (es.map fun e=>.ref e.2.1)→Reps K H (kvs.map (·.2)) (es.map fun e=>e.2.2)→Rep K H (.dict ((.str "{}",.list ((es.map (·.1)).map PyData.int))::kvs)) (.ref p)
  | addr {p:Addr} (z:List D):Rep K H (.dict [(.str "@",.list (.int (p:Nat)::z))]) (.ref p)
  | ins {p C dx:Addr} {fs:List (Str × V)} {ds:List D}:H p=some (.ins C dx fs)→Reps K H ds (fs.map (·.2))→Rep K H (.dict [(.str "obj",.tuple [.int (C:Nat),.list ((fs.map (·.1)).map PyData.str),.list ds])]) (.ref p)
inductive Reps (K:PySem.W.Frag) (H:Hp):List D→List V→Prop
  | nil:Reps K H [] []
  | cons {t:D} {ts:List D} {x:V} {xs:List V}:Rep K H t x→Reps K H ts xs→Reps K H (t::ts) (x::xs)
end
variable {K:PySem.W.Frag} {H H' H1 H2:Hp}
theorem Same.seqT {a:Addr} {xs:List V} (e:Same H H') (h:SqT K H a xs):SqT K H' a xs:=by
  rcases h with (h | ⟨o,h⟩) | h
  · exact .inl (.inl (e _ _ h))
  · exact .inl (.inr ⟨o,e _ _ h⟩)
  · exact .inr h
mutual
theorem Rep.same (e:Same H H'):∀ {d:D} {v:V},Rep K H d v→Rep K H' d v
  | _,_,.none=>.none
  | _,_,.bool b=>.bool b
  | _,_,.int i=>.int i
  | _,_,.str x=>.str x
  | _,_,.list q r=>.list (L2.Same.seq e q) (Reps.same e r)
  | _,_,.tuple q r=>.tuple (Same.seqT e q) (Reps.same e r)
  | _,_,.wild h=>.wild (e _ _ h)
  | _,_,.exc x h=>.exc x (e _ _ h)
  | _,_,.excA x h g=>.excA x (e _ _ h) (e _ _ g)
  | _,_,.tape h g=>.tape (e _ _ h) (L2.Same.seq e g)
  | _,_,.dct h n r t=>.dct (e _ _ h) n (Reps.same e r) (Reps.same e t)
  | _,_,.addr z=>.addr z
  | _,_,.ins h r=>.ins (e _ _ h) (Reps.same e r)
theorem Reps.same (e:Same H H'):∀ {ds:List D} {vs:List V},Reps K H ds vs→Reps K H' ds vs
  | _,_,.nil=>.nil
  | _,_,.cons r s=>.cons (Rep.same e r) (Reps.same e s)
end
theorem Reps.length:∀ {ds:List D} {vs:List V},Reps K H ds vs→ds.length=vs.length
  | _,_,.nil=>rfl
  | _,_,.cons _ s=>by simp [Reps.length s]
theorem Reps.get:∀ {ds:List D} {vs:List V} {i:Nat} {d:D},Reps K H ds vs→ds[i]?=some d→∃ v,vs[i]?=some v∧Rep K H d v
  | _,_,_,_,.nil,e=>by simp at e
  | _,_,0,_,.cons r _,e=>by simp at e; subst e; exact ⟨_,rfl,r⟩
  | _,_,i + 1,d,.cons _ s,e=>by
    obtain ⟨v,h1,h2⟩:=Reps.get (i:=i) (d:=d) s (by simpa using e)
    exact ⟨v,by simpa using h1,h2⟩
theorem Reps.get':∀ {ds:List D} {vs:List V} {i:Nat} {v:V},Reps K H ds vs→vs[i]?=some v→∃ d,ds[i]?=some d∧Rep K H d v
  | _,_,_,_,.nil,e=>by simp at e
  | _,_,0,_,.cons r _,e=>by simp at e; subst e; exact ⟨_,rfl,r⟩
  | _,_,i + 1,d,.cons _ s,e=>by
    obtain ⟨v,h1,h2⟩:=Reps.get' (i:=i) (v:=d) s (by simpa using e)
    exact ⟨v,by simpa using h1,h2⟩
theorem Reps.append:∀ {ds es:List D} {vs us:List V},Reps K H ds vs→Reps K H es us→Reps K H (ds++es) (vs++us)
  | _,_,_,_,.nil,s=>s
  | _,_,_,_,.cons r t,s=>.cons r (Reps.append t s)
theorem Reps.take:∀ {ds:List D} {vs:List V} (n:Nat),Reps K H ds vs→Reps K H (ds.take n) (vs.take n)
  | _,_,0,_=>.nil
  | _,_,_ + 1,.nil=>.nil
  | _,_,n + 1,.cons r t=>.cons r (Reps.take n t)
theorem Reps.drop:∀ {ds:List D} {vs:List V} (n:Nat),Reps K H ds vs→Reps K H (ds.drop n) (vs.drop n)
  | _,_,0,r=>r
  | _,_,_ + 1,.nil=>.nil
  | _,_,n + 1,.cons _ t=>Reps.drop n t
def mask (H:Hp) (ps:List Addr):Hp:=fun b=>if b ∈ ps then none else H b
theorem mask_same {ps:List Addr} (e:Same H H'):Same (mask H ps) (mask H' ps):=fun b o h=>by
  unfold mask at h ⊢
  by_cases hb:b ∈ ps
  · rw [if_pos hb] at h; cases h
  · rw [if_neg hb] at h ⊢; exact e b o h
theorem mask_sub {ps ps':List Addr} (h:∀ p ∈ ps',p ∈ ps):Same (mask H ps) (mask H ps'):=fun b o e=>by
  unfold mask at e ⊢
  by_cases hb:b ∈ ps
  · rw [if_pos hb] at e; cases e
  · rw [if_neg hb] at e
    rw [if_neg fun z=>hb (h b z)]
    exact e
theorem mask_le {ps:List Addr}:Same (mask H ps) H:=fun b o e=>by
  unfold mask at e
  by_cases hb:b ∈ ps
  · rw [if_pos hb] at e; cases e
  · rw [if_neg hb] at e; exact e
theorem mask_new {ps:List Addr} {p:Addr} {o:HO} (h:H p=none):mask (upd H p o) (p::ps)=mask H ps:=by
  funext b
  unfold mask
  by_cases hb:b=p
  · subst hb
    rw [if_pos (List.mem_cons_self ..),h]
    by_cases z:b ∈ ps <;> simp [z]
  · rw [upd_ne hb]
    by_cases z:b ∈ ps
    · rw [if_pos (List.mem_cons_of_mem _ z),if_pos z]
    · rw [if_neg (fun q=>(List.mem_cons.mp q).elim hb z),if_neg z]
theorem mask_upd {ps:List Addr} {p:Addr} {o:HO} (h:p ∈ ps):mask (upd H p o) ps=mask H ps:=by
  funext b
  unfold mask
  by_cases hb:b=p
  · subst hb; rw [if_pos h,if_pos h]
  · rw [upd_ne hb]
theorem same_new {p:Addr} {o:HO} (h:H p=none):Same H (upd H p o):=fun b u q=>by rw [upd_ne (ne_of_none q h)]; exact q
theorem mask_at {ps:List Addr} {p:Addr} {o:HO} (h:p ∉ ps) (e:H p=some o):mask H ps p=some o:=by
  unfold mask; rw [if_neg h]; exact e
theorem fresh_notin {ps:List Addr} {p:Addr} (live:∀ q ∈ ps,H q ≠ none) (h:H p=none):p ∉ ps:=fun z=>live p z h

inductive Sl where
  | un | val (d:D) | own (ts:List D) | dic (hs:List Int) (kvs:List (D × D))
def DicOk (K:PySem.W.Frag) (B:Hp) (p0:List Addr) (H:Hp) (ps:List Addr) (σT:List Sl) (σ:L2.St):Prop:=∀ (i:Nat) (hs:List Int) (kvs:List (D × D)),σT[i]?=some (.dic hs kvs) →
  (∃ (p:Addr) (es:List (Int × Addr × V)),σ[i]?=some (some (.ref p))∧p ∈ ps∧B p=none∧p ∉ p0∧H p=some (dicO p es)∧hs=es.map (·.1)∧(kvs.map (·.1)).Nodup∧Reps K (mask H ps) (kvs.map (·.1)) (es.map fun e=>.ref e.2.1)∧Reps K (mask H ps) (kvs.map (·.2)) (es.map fun e=>e.2.2)) ∧
  ∀ (j:Nat) (hs':List Int) (kws:List (D × D)),σT[j]?=some (.dic hs' kws)→i=j
theorem DicOk.to {B B':Hp} {p0 p0' ps ps':List Addr} {σT σT':List Sl} {σ σ':L2.St} (o:DicOk K B p0 H ps σT σ) (hσ:∀ (i:Nat) (hs:List Int) (kvs:List (D × D)),σT'[i]?=some (.dic hs kvs)→σT[i]?=some (.dic hs kvs)∧σ'[i]?=σ[i]?)
    (hp:∀ (p:Addr) (φ:Heap→Prop),p ∈ ps→H p=some (.ext φ)→p ∉ p0→p ∈ ps'∧H' p=H p) (hB:∀ (p:Addr) (φ:Heap→Prop),p ∈ ps→H p=some (.ext φ)→B p=none→p ∉ p0→B' p=none∧p ∉ p0') (hm:Same (mask H ps) (mask H' ps')):DicOk K B' p0' H' ps' σT' σ':=fun i hs kvs h=>by
  obtain ⟨h1,h2⟩:=hσ i hs kvs h
  obtain ⟨⟨p,es,a1,a2,a3,a4,a5,a6,a7,a8,a9⟩,u⟩:=o i hs kvs h1
  obtain ⟨b1,b2⟩:=hp p _ a2 a5 a4
  obtain ⟨c1,c2⟩:=hB p _ a2 a5 a3 a4
  exact ⟨⟨p,es,h2.trans a1,b1,c1,c2,b2.trans a5,a6,a7,a8.same hm,a9.same hm⟩,fun j hs' kws hj=>u j hs' kws (hσ j hs' kws hj).1⟩
theorem dic_set {σT:List Sl} {i j:Nat} {s:Sl} {hs:List Int} {kvs:List (D × D)} (hn:∀ hs kvs,s ≠ .dic hs kvs) (h:(σT.set i s)[j]?=some (.dic hs kvs)):i ≠ j∧σT[j]?=some (.dic hs kvs):=by
  by_cases e:i=j
  · subst e
    have hi:i < σT.length:=by simpa using (List.getElem?_eq_some_iff.mp h).1
    rw [List.getElem?_set_self hi] at h
    exact absurd (Option.some.inj h) (hn hs kvs)
  · rw [List.getElem?_set_ne e] at h
    exact ⟨e,h⟩
theorem DicOk.setS {B:Hp} {p0 ps:List Addr} {σT:List Sl} {σ:L2.St} (o:DicOk K B p0 H ps σT σ) {i:Nat} {s:Sl} {v:Option V} (hn:∀ hs kvs,s ≠ .dic hs kvs):DicOk K B p0 H ps (σT.set i s) (σ.set i v) :=
  o.to (fun j hs kvs h=>let ⟨e,h'⟩:=dic_set hn h; ⟨h',List.getElem?_set_ne e⟩) (fun p φ a b _=>⟨a,rfl⟩) (fun p φ _ _ a b=>⟨a,b⟩) (L2.Same.refl _)
theorem DicOk.setT {B:Hp} {p0 ps:List Addr} {σT:List Sl} {σ:L2.St} (o:DicOk K B p0 H ps σT σ) {i:Nat} {s:Sl} (hn:∀ hs kvs,s ≠ .dic hs kvs):DicOk K B p0 H ps (σT.set i s) σ :=
  o.to (fun j hs kvs h=>⟨(dic_set hn h).2,rfl⟩) (fun p φ a b _=>⟨a,rfl⟩) (fun p φ _ _ a b=>⟨a,b⟩) (L2.Same.refl _)
theorem DicOk.grow {B:Hp} {p0 ps:List Addr} {σT:List Sl} {σ:L2.St} (o:DicOk K B p0 H ps σT σ) (e:Same H H'):DicOk K B p0 H' ps σT σ :=
  o.to (fun j hs kvs h=>⟨h,rfl⟩) (fun p φ a b _=>⟨a,(e p _ b).trans b.symm⟩) (fun p φ _ _ a b=>⟨a,b⟩) (mask_same e)
structure Ok (K:PySem.W.Frag) (B:Hp) (p0:List Addr) (H:Hp) (ps:List Addr) (σT:List Sl) (σ:L2.St):Prop where
  base:Same B H
  sub:∀ p ∈ p0,p ∈ ps
  live:∀ p ∈ ps,H p ≠ none
  len:σT.length=σ.length
  val:∀ (i:Nat) (d:D),σT[i]?=some (.val d)→∃ v,σ[i]?=some (some v)∧Rep K (mask H ps) d v
  own:∀ (i:Nat) (ts:List D),σT[i]?=some (.own ts)→∃ p xs,σ[i]?=some (some (.ref p))∧p ∈ ps∧B p=none∧p ∉ p0∧H p=some (.lst xs)∧Reps K (mask H ps) ts xs
  dis:∀ (i j:Nat) (ts us:List D) (p:Addr),σT[i]?=some (.own ts)→σT[j]?=some (.own us)→σ[i]?=some (some (.ref p))→σ[j]?=some (some (.ref p))→i=j
  dc:DicOk K B p0 H ps σT σ
variable {B:Hp} {p0 ps:List Addr} {σT:List Sl} {σ:L2.St}
theorem Ok.grow (o:Ok K B p0 H ps σT σ) (e:Same H H'):Ok K B p0 H' ps σT σ where
  base:=o.base.trans e
  sub:=o.sub
  live:=fun p hp z=>by
    cases q:H p with
    | none=>exact o.live p hp q
    | some u=>rw [e p u q] at z; cases z
  len:=o.len
  val:=fun i d h=>let ⟨v,h1,h2⟩:=o.val i d h; ⟨v,h1,h2.same (mask_same e)⟩
  own:=fun i ts h=>let ⟨p,xs,h1,h2,h3,h4,h5,h6⟩:=o.own i ts h; ⟨p,xs,h1,h2,h3,h4,e _ _ h5,h6.same (mask_same e)⟩
  dis:=o.dis
  dc:=o.dc.grow e
theorem Ok.set (o:Ok K B p0 H ps σT σ) {i:Nat} {d:D} {v:V} (r:Rep K (mask H ps) d v):Ok K B p0 H ps (σT.set i (.val d)) (σ.set i (some v)) where
  base:=o.base
  sub:=o.sub
  live:=o.live
  len:=by simpa using o.len
  val:=fun j d' h=>by
    by_cases e:i=j
    · subst e
      have hi:i < σT.length:=by
        have:=(List.getElem?_eq_some_iff.mp h).1
        simpa using this
      rw [List.getElem?_set_self hi] at h
      cases h
      exact ⟨v,by rw [List.getElem?_set_self (by rw [← o.len]; exact hi)],r⟩
    · rw [List.getElem?_set_ne e] at h ⊢
      exact o.val j d' h
  own:=fun j ts h=>by
    by_cases e:i=j
    · subst e
      have hi:i < σT.length:=by
        have:=(List.getElem?_eq_some_iff.mp h).1
        simpa using this
      rw [List.getElem?_set_self hi] at h
      cases h
    · rw [List.getElem?_set_ne e] at h ⊢
      exact o.own j ts h
  dis:=fun j k ts us p h1 h2 h3 h4=>by
    have ne:∀ {l:Nat} {ts:List D},(σT.set i (.val d))[l]?=some (.own ts)→i ≠ l:=fun {l ts} h e=>by
      subst e
      have hi:i < σT.length:=by
        have:=(List.getElem?_eq_some_iff.mp h).1
        simpa using this
      rw [List.getElem?_set_self hi] at h
      cases h
    have e1:=ne h1
    have e2:=ne h2
    rw [List.getElem?_set_ne e1] at h1 h3
    rw [List.getElem?_set_ne e2] at h2 h4
    exact o.dis j k ts us p h1 h2 h3 h4
  dc:=o.dc.setS fun _ _ z=>nomatch z
theorem Ok.setOwn (o:Ok K B p0 H ps σT σ) {i:Nat} {ts:List D} {xs:List V} {p:Addr} (hp:H p=none) (r:Reps K (mask H ps) ts xs):Ok K B p0 (upd H p (.lst xs)) (p::ps) (σT.set i (.own ts)) (σ.set i (some (.ref p))):=by
  have hm:mask (upd H p (.lst xs)) (p::ps)=mask H ps:=mask_new hp
  have hps:p ∉ ps:=fresh_notin o.live hp
  have hn:∀ {l:Nat} {us:List D},i ≠ l→σT[l]?=some (.own us)→σ[l]? ≠ some (some (.ref p)):=fun {l us} _ h z=>by
    obtain ⟨q,_,h1,h2,_⟩:=o.own l us h
    rw [z] at h1
    cases h1
    exact hps h2
  refine ⟨o.base.trans (same_new hp),fun q hq=>List.mem_cons_of_mem _ (o.sub q hq),fun q hq=>?_,by simpa using o.len,fun j d h=>?_,fun j us h=>?_,fun j k us ws q h1 h2 h3 h4=>?_,?_⟩
  · by_cases e:q=p
    · subst e; rw [upd_same]; simp
    · rw [upd_ne e]
      rcases List.mem_cons.mp hq with z | z
      · exact absurd z e
      · exact o.live q z
  · rw [hm]
    by_cases e:i=j
    · subst e
      have hi:i < σT.length:=by simpa using (List.getElem?_eq_some_iff.mp h).1
      rw [List.getElem?_set_self hi] at h
      cases h
    · rw [List.getElem?_set_ne e] at h ⊢
      exact o.val j d h
  · rw [hm]
    by_cases e:i=j
    · subst e
      have hi:i < σT.length:=by simpa using (List.getElem?_eq_some_iff.mp h).1
      rw [List.getElem?_set_self hi] at h
      cases h
      refine ⟨p,xs,by rw [List.getElem?_set_self (by rw [← o.len]; exact hi)],List.mem_cons_self ..,?_,fun z=>hps (o.sub p z),upd_same,r⟩
      cases q:B p with
      | none=>rfl
      | some u=>rw [o.base p u q] at hp; cases hp
    · rw [List.getElem?_set_ne e] at h ⊢
      obtain ⟨q,ys,h1,h2,h3,h4,h5,h6⟩:=o.own j us h
      refine ⟨q,ys,h1,List.mem_cons_of_mem _ h2,h3,h4,?_,h6⟩
      rw [upd_ne (fun z:q=p=>hps (z ▸ h2))]
      exact h5
  · by_cases e1:i=j
    · by_cases e2:i=k
      · exact e1.symm.trans e2
      · subst e1
        have hi:i < σT.length:=by simpa using (List.getElem?_eq_some_iff.mp h1).1
        rw [List.getElem?_set_self (by rw [← o.len]; exact hi)] at h3
        cases h3
        rw [List.getElem?_set_ne e2] at h2 h4
        exact absurd h4 (hn e2 h2)
    · by_cases e2:i=k
      · subst e2
        have hi:i < σT.length:=by simpa using (List.getElem?_eq_some_iff.mp h2).1
        rw [List.getElem?_set_self (by rw [← o.len]; exact hi)] at h4
        cases h4
        rw [List.getElem?_set_ne e1] at h1 h3
        exact absurd h3 (hn e1 h1)
      · rw [List.getElem?_set_ne e1] at h1 h3
        rw [List.getElem?_set_ne e2] at h2 h4
        exact o.dis j k us ws q h1 h2 h3 h4
  · exact (o.dc.setS (i:=i) (s:=.own ts) (v:=some (.ref p)) fun _ _ z=>nomatch z).to (fun j hs kvs h=>⟨h,rfl⟩) (fun q φ a b _=>⟨List.mem_cons_of_mem _ a,upd_ne fun z=>by rw [z,hp] at b; cases b⟩) (fun q φ _ _ a b=>⟨a,b⟩) (by rw [hm]; exact L2.Same.refl _)
theorem Ok.write (o:Ok K B p0 H ps σT σ) {i:Nat} {ts us:List D} {ys:List V} {p:Addr} (hi:σT[i]?=some (.own ts)) (hσ:σ[i]?=some (some (.ref p))) (r:Reps K (mask H ps) us ys) :
    Ok K B p0 (upd H p (.lst ys)) ps (σT.set i (.own us)) σ:=by
  obtain ⟨q,zs,h1,h2,h3,h4,h5,h6⟩:=o.own i ts hi
  rw [hσ] at h1
  cases h1
  have hm:mask (upd H p (.lst ys)) ps=mask H ps:=mask_upd h2
  have hil:i < σT.length:=(List.getElem?_eq_some_iff.mp hi).1
  refine ⟨fun b u e=>?_,o.sub,fun q hq=>?_,by simpa using o.len,fun j d h=>?_,fun j ws h=>?_,fun j k vs ws q k1 k2 k3 k4=>?_,?_⟩
  · have ne:b ≠ p:=fun z=>by rw [z,h3] at e; cases e
    rw [upd_ne ne]; exact o.base b u e
  · by_cases e:q=p
    · subst e; rw [upd_same]; simp
    · rw [upd_ne e]; exact o.live q hq
  · rw [hm]
    by_cases e:i=j
    · subst e
      rw [List.getElem?_set_self hil] at h
      cases h
    · rw [List.getElem?_set_ne e] at h
      exact o.val j d h
  · rw [hm]
    by_cases e:i=j
    · subst e
      rw [List.getElem?_set_self hil] at h
      cases h
      exact ⟨p,ys,hσ,h2,h3,h4,upd_same,r⟩
    · rw [List.getElem?_set_ne e] at h
      obtain ⟨q,vs,k1,k2,k3,k4,k5,k6⟩:=o.own j ws h
      refine ⟨q,vs,k1,k2,k3,k4,?_,k6⟩
      rw [upd_ne (fun z:q=p=>e (o.dis i j ts ws p hi h hσ (z ▸ k1)))]
      exact k5
  · have back:∀ {l:Nat} {vs:List D},(σT.set i (.own us))[l]?=some (.own vs)→∃ vs',σT[l]?=some (.own vs'):=fun {l vs} h=>by
      by_cases e:i=l
      · subst e; exact ⟨ts,hi⟩
      · rw [List.getElem?_set_ne e] at h; exact ⟨vs,h⟩
    obtain ⟨vs',k1⟩:=back k1
    obtain ⟨ws',k2⟩:=back k2
    exact o.dis j k vs' ws' q k1 k2 k3 k4
  · exact (o.dc.setT (i:=i) (s:=.own us) fun _ _ z=>nomatch z).to (fun j hs kvs h=>⟨h,rfl⟩) (fun q φ a b _=>⟨a,upd_ne fun z=>by rw [z,h5] at b; cases b⟩) (fun q φ _ _ a b=>⟨a,b⟩) (by rw [hm]; exact L2.Same.refl _)
theorem Ok.share (o:Ok K B p0 H ps σT σ) {i:Nat} {ts:List D} (hi:σT[i]?=some (.own ts)):∃ ps',Ok K B p0 H ps' (σT.set i (.val (.list ts))) σ∧Same (mask H ps) (mask H ps'):=by
  obtain ⟨p,xs,h1,h2,h3,h4,h5,h6⟩:=o.own i ts hi
  have hil:i < σT.length:=(List.getElem?_eq_some_iff.mp hi).1
  have hsub:Same (mask H ps) (mask H (ps.filter fun q=>decide (q ≠ p))):=mask_sub fun q hq=>(List.mem_filter.mp hq).1
  have hpn:p ∉ ps.filter fun q=>decide (q ≠ p):=fun z=>(of_decide_eq_true (List.mem_filter.mp z).2) rfl
  refine ⟨ps.filter fun q=>decide (q ≠ p),⟨o.base,fun q hq=>List.mem_filter.mpr ⟨o.sub q hq,decide_eq_true fun z=>h4 (z ▸ hq)⟩,fun q hq=>o.live q (List.mem_filter.mp hq).1,by simpa using o.len,fun j d h=>?_,fun j us h=>?_,fun j k us ws q k1 k2 k3 k4=>?_,?_⟩,hsub⟩
  · by_cases e:i=j
    · subst e
      rw [List.getElem?_set_self hil] at h
      cases h
      exact ⟨_,h1,.list (SqL.of (mask_at hpn h5)) (h6.same hsub)⟩
    · rw [List.getElem?_set_ne e] at h
      obtain ⟨v,k1,k2⟩:=o.val j d h
      exact ⟨v,k1,k2.same hsub⟩
  · by_cases e:i=j
    · subst e
      rw [List.getElem?_set_self hil] at h
      cases h
    · rw [List.getElem?_set_ne e] at h
      obtain ⟨q,ys,k1,k2,k3,k4,k5,k6⟩:=o.own j us h
      exact ⟨q,ys,k1,List.mem_filter.mpr ⟨k2,decide_eq_true fun z=>e (o.dis i j ts us p hi h h1 (z ▸ k1))⟩,k3,k4,k5,k6.same hsub⟩
  · have back:∀ {l:Nat} {vs:List D},(σT.set i (.val (.list ts)))[l]?=some (.own vs)→σT[l]?=some (.own vs):=fun {l vs} h=>by
      by_cases e:i=l
      · subst e; rw [List.getElem?_set_self hil] at h; cases h
      · rw [List.getElem?_set_ne e] at h; exact h
    exact o.dis j k us ws q (back k1) (back k2) k3 k4
  · exact (o.dc.setT (i:=i) (s:=.val (.list ts)) fun _ _ z=>nomatch z).to (fun j hs kvs h=>⟨h,rfl⟩) (fun q φ a b _=>⟨List.mem_filter.mpr ⟨a,decide_eq_true fun z=>by rw [z,h5] at b; cases b⟩,rfl⟩) (fun q φ _ _ a b=>⟨a,b⟩) hsub

abbrev ET:=List Sl→(D→Prop)→Prop
abbrev TTt:=List Sl→(Bool→Prop)→Prop
abbrev AT:=List Sl→(List D→Prop)→Prop
def PEt (X:Cx) (e:Expr) (t:ET):Prop:=∃ te:TE,PE X e te∧∀ (B:Hp) (p0:List Addr) (H:Hp) (ps:List Addr) (σT:List Sl) (σ:L2.St) (Q:D→Prop) (QV:VK),Ok X.K B p0 H ps σT σ→t σT Q →
  (∀ d v H',Same H H'→Rep X.K (mask H' ps) d v→Q d→QV v H')→te σ H QV
def PTt (X:Cx) (e:Expr) (t:TTt):Prop:=∃ tt:TT,PT X e tt∧∀ (B:Hp) (p0:List Addr) (H:Hp) (ps:List Addr) (σT:List Sl) (σ:L2.St) (Q:Bool→Prop) (QV:Bool→Hp→Prop),Ok X.K B p0 H ps σT σ→t σT Q →
  (∀ b H',Same H H'→Q b→QV b H')→tt σ H QV
def PWt (X:Cx) (e:Expr) (t:TTt):Prop:=∃ tt:TT,PW X e tt∧∀ (B:Hp) (p0:List Addr) (H:Hp) (ps:List Addr) (σT:List Sl) (σ:L2.St) (Q:Bool→Prop) (QV:Bool→Hp→Prop),Ok X.K B p0 H ps σT σ→t σT Q →
  (∀ b H',Same H H'→Q b→QV b H')→tt σ H QV
def PAt (X:Cx) (es:List Expr) (t:AT):Prop:=∃ ta:TA,PA X es ta∧∀ (B:Hp) (p0:List Addr) (H:Hp) (ps:List Addr) (σT:List Sl) (σ:L2.St) (Q:List D→Prop) (QV:List V→Hp→Prop),Ok X.K B p0 H ps σT σ→t σT Q →
  (∀ ds vs H',Same H H'→Reps X.K (mask H' ps) ds vs→Q ds→QV vs H')→ta σ H QV
structure EndsT where
  nx:List Sl→Prop
  rt:D→Prop
  bk:List Sl→Prop:=fun _=>False
  ct:List Sl→Prop:=fun _=>False
  ro:List D→Prop:=fun _=>False
  rp:List D→List D→Prop:=fun _ _=>False
  rq:D→List D→Prop:=fun _ _=>False
  xB:Hp→Prop:=fun _=>True
abbrev STt:=EndsT→List Sl→Prop
structure Fits (K:PySem.W.Frag) (B:Hp) (p0:List Addr) (H:Hp) (ps:List Addr) (DT:EndsT) (DV:Ends):Prop where
  nx:∀ H' ps' σT' σ',Ok K B p0 H' ps' σT' σ'→Same (mask H ps) (mask H' ps')→DT.nx σT'→DV.nx σ' H'
  bk:∀ H' ps' σT' σ',Ok K B p0 H' ps' σT' σ'→Same (mask H ps) (mask H' ps')→DT.bk σT'→DV.bk σ' H'
  ct:∀ H' ps' σT' σ',Ok K B p0 H' ps' σT' σ'→Same (mask H ps) (mask H' ps')→DT.ct σT'→DV.ct σ' H'
  rt:∀ d v H',Same B H'→Rep K (mask H' p0) d v→DT.rt d→DV.rt v H'
  ro:∀ ts p xs H',Same B H'→B p=none→p ∉ p0→H' p=some (.lst xs)→Reps K (mask H' (p::p0)) ts xs→DT.ro ts→DV.rt (.ref p) H'
  rp:∀ as bs r p q xs ys H',Same B H'→B r=none→B p=none→B q=none→p ≠ q→H' r=some (.tup [.ref p,.ref q])→H' p=some (.lst xs)→H' q=some (.lst ys)→Reps K (mask H' (p::q::p0)) as xs→Reps K (mask H' (p::q::p0)) bs ys→DT.rp as bs→DV.rt (.ref r) H'
  rq:∀ a ts r p x xs H',Same B H'→B r=none→B p=none→H' r=some (.tup [x,.ref p])→H' p=some (.lst xs)→Rep K (mask H' (p::p0)) a x→Reps K (mask H' (p::p0)) ts xs→DT.rq a ts→DV.rt (.ref r) H'
  xb:DT.xB B
theorem Fits.later {DT:EndsT} {DV:Ends} {ps':List Addr} (f:Fits K B p0 H ps DT DV) (e:Same (mask H ps) (mask H' ps')):Fits K B p0 H' ps' DT DV :=
  ⟨fun _ _ _ _ o s q=>f.nx _ _ _ _ o (e.trans s) q,fun _ _ _ _ o s q=>f.bk _ _ _ _ o (e.trans s) q,fun _ _ _ _ o s q=>f.ct _ _ _ _ o (e.trans s) q,f.rt,f.ro,f.rp,f.rq,f.xb⟩
def PSt (X:Cx) (st:Stmt) (t:STt):Prop:=∃ ts:TS,PS X st ts∧∀ (B:Hp) (p0:List Addr) (H:Hp) (ps:List Addr) (σT:List Sl) (σ:L2.St) (DT:EndsT) (DV:Ends),Ok X.K B p0 H ps σT σ→t DT σT→Fits X.K B p0 H ps DT DV→ts DV σ H
def PSst (X:Cx) (st:List Stmt) (t:STt):Prop:=∃ ts:TS,PSs X st ts∧∀ (B:Hp) (p0:List Addr) (H:Hp) (ps:List Addr) (σT:List Sl) (σ:L2.St) (DT:EndsT) (DV:Ends),Ok X.K B p0 H ps σT σ→t DT σT→Fits X.K B p0 H ps DT DV→ts DV σ H
def Op2 (X:Cx) (r:R2) (f:D→D→(D→Prop)→Prop):Prop:=∀ (H:Hp) (ps:List Addr) (d1 d2:D) (x y:V) (Q:D→Prop) (QV:VK),(∀ p ∈ ps,H p ≠ none)→Rep X.K (mask H ps) d1 x→Rep X.K (mask H ps) d2 y→f d1 d2 Q →
  (∀ d v H',Same H H'→Rep X.K (mask H' ps) d v→Q d→QV v H')→r x y H QV
def CallT (X:Cx) (r:List V→Hp→VK→Prop) (f:List D→(D→Prop)→Prop):Prop:=∀ (H:Hp) (ps:List Addr) (ds:List D) (xs:List V) (Q:D→Prop) (QV:VK),(∀ p ∈ ps,H p ≠ none)→Reps X.K (mask H ps) ds xs→f ds Q →
  (∀ d v H',Same H H'→Rep X.K (mask H' ps) d v→Q d→QV v H')→r xs H QV
section
variable {X:Cx} {a b e:Expr} {es:List Expr} {ta tb te:ET} {pos:Pos}

inductive VarAt (σ:List Sl) (i:Nat) (Q:D→Prop):Prop
  | mk (d:D) (h:σ[i]?=some (.val d)) (k:Q d):VarAt σ i Q
def eVar (i:Nat):ET:=fun σ Q=>VarAt σ i Q
def eC (d:D):ET:=fun _ Q=>Q d
theorem et_v (i:Nat) {x:Str} {pos:Pos} (hN:X.N[i]?=some x:=by rfl) (hv:Vis X.env.scope x:=by first | exact Or.inl rfl | exact Or.inr (Or.inl rfl) | exact Or.inr (Or.inr rfl)) (hd:(x == ("__debug__":Str))=false:=by decide)
    (hcd:(x == ("__classdict__":Str))=false:=by decide):PEt X (.Name x pos) (eVar i) :=
  ⟨_,pe_var hN hv hd hcd,fun B p0 H ps σT σ Q QV o h k=>by
    obtain ⟨d,e,q⟩:=h
    obtain ⟨v,e1,r⟩:=o.val i d e
    exact ⟨v,e1,k d v H (L2.Same.refl H) r q⟩⟩
theorem et_int {i j pos}:PEt X (.Constant (.int i) j pos) (eC (.int i)):=⟨_,pe_int,fun _ _ H _ _ _ _ _ _ h k=>k _ _ H (L2.Same.refl H) (.int i) h⟩
theorem et_bl {b j pos}:PEt X (.Constant (.bool b) j pos) (eC (.bool b)):=⟨_,pe_bl,fun _ _ H _ _ _ _ _ _ h k=>k _ _ H (L2.Same.refl H) (.bool b) h⟩
theorem et_non {j pos}:PEt X (.Constant .none j pos) (eC .none):=⟨_,pe_non,fun _ _ H _ _ _ _ _ _ h k=>k _ _ H (L2.Same.refl H) .none h⟩
theorem et_str {x j pos}:PEt X (.Constant (.str x) j pos) (eC (.str x)):=⟨_,pe_str,fun _ _ H _ _ _ _ _ _ h k=>k _ _ H (L2.Same.refl H) (.str x) h⟩
theorem et_gint {x:Str} {i:Int} {t:Tok} {pos:Pos} (hg:Gl X x) (hm:X.mg x=some (.int i t)) (hd:(x == ("__debug__":Str))=false:=by decide):PEt X (.Name x pos) (eC (.int i)):=⟨_,pe_glob (v:=.int i) hg hm ⟨t,rfl⟩ hd,fun _ _ H _ _ _ _ _ _ h k=>k _ _ H (L2.Same.refl H) (.int i) h⟩
def eOp (f:D→D→(D→Prop)→Prop) (ta tb:ET):ET:=fun σ Q=>ta σ fun x=>tb σ fun y=>f x y Q
theorem op_read {r:R2} {f:D→D→(D→Prop)→Prop} (h2:Op2 X r f) {va vb:TE}
    (ha:∀ (B:Hp) (p0:List Addr) (H:Hp) (ps:List Addr) (σT:List Sl) (σ:L2.St) (Q:D→Prop) (QV:VK),Ok X.K B p0 H ps σT σ→ta σT Q→(∀ d v H',Same H H'→Rep X.K (mask H' ps) d v→Q d→QV v H')→va σ H QV)
    (hb:∀ (B:Hp) (p0:List Addr) (H:Hp) (ps:List Addr) (σT:List Sl) (σ:L2.St) (Q:D→Prop) (QV:VK),Ok X.K B p0 H ps σT σ→tb σT Q→(∀ d v H',Same H H'→Rep X.K (mask H' ps) d v→Q d→QV v H')→vb σ H QV)
    (B:Hp) (p0:List Addr) (H:Hp) (ps:List Addr) (σT:List Sl) (σ:L2.St) (Q:D→Prop) (QV:VK) (o:Ok X.K B p0 H ps σT σ) (h:eOp f ta tb σT Q) (k:∀ d v H',Same H H'→Rep X.K (mask H' ps) d v→Q d→QV v H'):tOp r va vb σ H QV:=by
  refine ha B p0 H ps σT σ _ _ o h fun d1 x H1 s1 r1 q1=>?_
  refine hb B p0 H1 ps σT σ _ _ (o.grow s1) q1 fun d2 y H2 s2 r2 q2=>?_
  exact h2 H2 ps d1 d2 x y Q QV ((o.grow s1).grow s2).live (r1.same (mask_same s2)) r2 q2 fun d v H' s' r' q'=>k d v H' (s1.trans (s2.trans s')) r' q'
theorem et_op {op:Operator} {r:R2} {f:D→D→(D→Prop)→Prop} (ho:OpR X (binaryOp op) r) (h2:Op2 X r f) (ha:PEt X a ta) (hb:PEt X b tb):PEt X (.BinOp a op b pos) (eOp f ta tb):=by
  obtain ⟨va,pa,ra⟩:=ha
  obtain ⟨vb,pb,rb⟩:=hb
  exact ⟨_,pe_op ho pa pb,op_read h2 ra rb⟩
theorem et_cmp {op:CmpOp} {r:R2} {f:D→D→(D→Prop)→Prop} (ho:OpR X (compareOp op) r) (h2:Op2 X r f) (ha:PEt X a ta) (hb:PEt X b tb) (hm:behindInMarks op b=false:=by first | exact nomark _ | rfl):PEt X (.Compare a [op] [b] pos) (eOp f ta tb):=by
  obtain ⟨va,pa,ra⟩:=ha
  obtain ⟨vb,pb,rb⟩:=hb
  exact ⟨_,pe_cmpR ho pa pb hm,op_read h2 ra rb⟩
theorem et_ix {r:R2} {f:D→D→(D→Prop)→Prop} (ho:IxR X r) (h2:Op2 X r f) (ha:PEt X a ta) (hb:PEt X b tb) (hs:PlainIx b:=by intro _ _; rfl):PEt X (.Subscript a b pos) (eOp f ta tb):=by
  obtain ⟨va,pa,ra⟩:=ha
  obtain ⟨vb,pb,rb⟩:=hb
  exact ⟨_,pe_ix ho pa pb hs,op_read h2 ra rb⟩
def eNeg (ta:ET):ET:=fun σ Q=>ta σ fun x=>match x with | .int i=>Q (.int (-i)) | _=>False
theorem et_neg (ha:PEt X a ta):PEt X (.UnaryOp .USub a pos) (eNeg ta):=by
  obtain ⟨va,pa,ra⟩:=ha
  refine ⟨_,pe_un un_neg pa,fun B p0 H ps σT σ Q QV o h k=>ra B p0 H ps σT σ _ _ o h fun d x H1 s1 r1 q1=>?_⟩
  cases r1 with
  | int i=>exact ⟨i,rfl,k _ _ H1 s1 (.int _) q1⟩
  | _=>exact q1.elim
def aNil:AT:=fun _ Q=>Q []
def aCons (t:ET) (r:AT):AT:=fun σ Q=>t σ fun x=>r σ fun xs=>Q (x::xs)
theorem at_nil:PAt X [] aNil:=⟨_,pa_nil,fun _ _ H _ _ _ _ _ _ h k=>k _ _ H (L2.Same.refl H) .nil h⟩
theorem at_cons {tr:AT} (ha:PEt X e te) (hr:PAt X es tr) (hs:starEach (e::es) X.env=(false,eval e X.env)::starEach es X.env:=by rfl):PAt X (e::es) (aCons te tr):=by
  obtain ⟨va,pa,ra⟩:=ha
  obtain ⟨vr,pr,rr⟩:=hr
  refine ⟨_,pa_cons pa pr hs,fun B p0 H ps σT σ Q QV o h k=>ra B p0 H ps σT σ _ _ o h fun d x H1 s1 r1 q1=>?_⟩
  refine rr B p0 H1 ps σT σ _ _ (o.grow s1) q1 fun ds xs H2 s2 r2 q2=>?_
  exact k _ _ H2 (s1.trans s2) (.cons (r1.same (mask_same s2)) r2) q2
def eTup (t:AT):ET:=fun σ Q=>t σ fun ds=>ds.length≤1000∧Q (.tuple ds)
def eLst (t:AT):ET:=fun σ Q=>t σ fun ds=>ds.length≤1000∧Q (.list ds)
theorem rep_tup {ps:List Addr} {p:Addr} {ds:List D} {xs:List V} (live:∀ q ∈ ps,H q ≠ none) (hp:H p=none) (r:Reps K (mask H ps) ds xs):Rep K (mask (upd H p (.tup xs)) ps) (.tuple ds) (.ref p) :=
  .tuple (SqT.of (mask_at (fresh_notin live hp) upd_same)) (r.same (mask_same (same_new hp)))
theorem rep_lst {ps:List Addr} {p:Addr} {ds:List D} {xs:List V} (live:∀ q ∈ ps,H q ≠ none) (hp:H p=none) (r:Reps K (mask H ps) ds xs):Rep K (mask (upd H p (.lst xs)) ps) (.list ds) (.ref p) :=
  .list (SqL.of (mask_at (fresh_notin live hp) upd_same)) (r.same (mask_same (same_new hp)))
theorem le_line {n:Nat} (h:n≤1000):n≤sizeLine:=Nat.le_of_lt (small1000 h)
theorem et_tup {x1} {t:AT} (h:PAt X es t):PEt X (.Tuple es x1 pos) (eTup t):=by
  obtain ⟨v,p,r⟩:=h
  refine ⟨_,pe_tup p,fun B p0 H ps σT σ Q QV o h k=>r B p0 H ps σT σ _ _ o h fun ds xs H1 s1 r1 q1=>⟨le_line (by rw [← r1.length]; exact q1.1),fun q hq=>?_⟩⟩
  exact k _ _ _ (s1.trans (same_new hq)) (rep_tup (o.grow s1).live hq r1) q1.2
theorem et_lst {t:AT} (h:PAt X es t):PEt X (.List es pos) (eLst t):=by
  obtain ⟨v,p,r⟩:=h
  refine ⟨_,pe_lst p,fun B p0 H ps σT σ Q QV o h k=>r B p0 H ps σT σ _ _ o h fun ds xs H1 s1 r1 q1=>⟨le_line (by rw [← r1.length]; exact q1.1),fun q hq=>?_⟩⟩
  exact k _ _ _ (s1.trans (same_new hq)) (rep_lst (o.grow s1).live hq r1) q1.2
def eCall (f:List D→(D→Prop)→Prop) (t:AT):ET:=fun σ Q=>t σ fun ds=>f ds Q
abbrev SpT:=List D→(D→Prop)→Prop
def liftSp (K:PySem.W.Frag) (sp:SpT):Sp:=fun vs H Q _=>∃ (ps:List Addr) (ds:List D) (QD:D→Prop),(∀ p ∈ ps,H p ≠ none)∧Reps K (mask H ps) ds vs∧sp ds QD∧∀ d v H',Same H H'→Rep K (mask H' ps) d v→QD d→Q v H'
theorem et_call {k:Nat} {f:Addr} {fd:FuncData} {pn:List Str} {sp:SpT} {x:Str} {p:Pos} {t:AT} (F:FnOk X.prog X.w X.K X.mg X.base CX0 k f fd pn (liftSp X.K sp)) (hm:X.mg x=some (.ref f)) (hk:PySem.W.keepIn X.K (.ref f)=true) (hb:Binds X.K fd pn [])
    (hr:Room k X.A) (ha:PAt X (e::es) t) (pc:∀ {ta:TA},PA X (e::es) ta→PE X (.Call (.Name x p) (e::es) [] pos) (tCall (liftSp X.K sp) [] E0 ta)):PEt X (.Call (.Name x p) (e::es) [] pos) (eCall sp t):=by
  obtain ⟨v,pa,ra⟩:=ha
  refine ⟨_,pc pa,fun B p0 H ps σT σ Q QV o h k=>ra B p0 H ps σT σ _ _ o h fun ds xs H1 s1 r1 q1=>?_⟩
  show liftSp X.K sp (xs++[]) H1 QV E0
  rw [List.append_nil]
  exact ⟨ps,ds,Q,(o.grow s1).live,r1,q1,fun d v H' s' r' q'=>k d v H' (s1.trans s') r' q'⟩
def cTest (t:ET):TTt:=fun σ Q=>t σ fun x=>match x with | .bool b=>Q b | _=>False
theorem tt_val (h:PEt X e te) (pt:∀ {t:TE},PE X e t→PT X e (tB t)):PTt X e (cTest te):=by
  obtain ⟨v,p,r⟩:=h
  refine ⟨_,pt p,fun B p0 H ps σT σ Q QV o h k=>r B p0 H ps σT σ _ _ o h fun d x H1 s1 r1 q1=>?_⟩
  cases r1 with
  | bool c=>exact ⟨c,rfl,k c H1 s1 q1⟩
  | _=>exact q1.elim
theorem tt_cmp {op:CmpOp} {r:R2} {f:D→D→(D→Prop)→Prop} (ho:OpR X (compareOp op) r) (h2:Op2 X r f) (ha:PEt X a ta) (hb:PEt X b tb) (hm:behindInMarks op b=false:=by first | exact nomark _ | rfl):PTt X (.Compare a [op] [b] pos) (cTest (eOp f ta tb)):=by
  obtain ⟨va,pa,ra⟩:=ha
  obtain ⟨vb,pb,rb⟩:=hb
  refine ⟨_,pt_cmpR ho pa pb hm,fun B p0 H ps σT σ Q QV o h k=>?_⟩
  refine op_read h2 ra rb B p0 H ps σT σ (fun x=>match x with | .bool b=>Q b | _=>False) _ o h fun d v H' s' r' q'=>?_
  cases r' with
  | bool c=>exact ⟨c,rfl,k c H' s' q'⟩
  | _=>exact q'.elim
def cNot (t:TTt):TTt:=fun σ Q=>t σ fun b=>Q (!b)
def cAnd (t u:TTt):TTt:=fun σ Q=>t σ fun b=>if b=true then u σ Q else Q false
def cOr (t u:TTt):TTt:=fun σ Q=>t σ fun b=>if b=true then Q true else u σ Q
variable {tA tB':TTt} {rest:List Expr}
theorem tt_not (h:PTt X a tA):PTt X (.UnaryOp .Not a pos) (cNot tA):=by
  obtain ⟨v,p,r⟩:=h
  exact ⟨_,pt_not p,fun B p0 H ps σT σ Q QV o h k=>r B p0 H ps σT σ _ _ o h fun b H' s' q'=>k _ H' s' q'⟩
theorem tw_pt (h:PWt X e tA):PTt X e tA:=by
  obtain ⟨v,p,r⟩:=h
  exact ⟨_,p.pt,r⟩
theorem tw_and1 (h:PTt X a tA):PWt X (.BoolOp .And [a] pos) tA:=by
  obtain ⟨v,p,r⟩:=h
  exact ⟨_,pw_and1 p,r⟩
theorem tw_or1 (h:PTt X a tA):PWt X (.BoolOp .Or [a] pos) tA:=by
  obtain ⟨v,p,r⟩:=h
  exact ⟨_,pw_or1 p,r⟩
theorem tw_and (ha:PTt X a tA) (hb:PWt X (.BoolOp .And (b::rest) pos) tB'):PWt X (.BoolOp .And (a::b::rest) pos) (cAnd tA tB'):=by
  obtain ⟨va,pa,ra⟩:=ha
  obtain ⟨vb,pb,rb⟩:=hb
  refine ⟨_,pw_and pa pb,fun B p0 H ps σT σ Q QV o h k=>ra B p0 H ps σT σ _ _ o h fun c H1 s1 q1=>?_⟩
  cases c with
  | true=>exact rb B p0 H1 ps σT σ Q _ (o.grow s1) q1 fun b H' s' q'=>k b H' (s1.trans s') q'
  | false=>exact k _ H1 s1 q1
theorem tw_or (ha:PTt X a tA) (hb:PWt X (.BoolOp .Or (b::rest) pos) tB'):PWt X (.BoolOp .Or (a::b::rest) pos) (cOr tA tB'):=by
  obtain ⟨va,pa,ra⟩:=ha
  obtain ⟨vb,pb,rb⟩:=hb
  refine ⟨_,pw_or pa pb,fun B p0 H ps σT σ Q QV o h k=>ra B p0 H ps σT σ _ _ o h fun c H1 s1 q1=>?_⟩
  cases c with
  | true=>exact k _ H1 s1 q1
  | false=>exact rb B p0 H1 ps σT σ Q _ (o.grow s1) q1 fun b H' s' q'=>k b H' (s1.trans s') q'
def eAnd (ta tb:ET):ET:=fun σ Q=>ta σ fun x=>match x with | .bool c=>if c=true then tb σ Q else Q (.bool false) | _=>False
theorem et_one {op} (h:PEt X a ta):PEt X (.BoolOp op [a] pos) ta:=by
  obtain ⟨v,p,r⟩:=h
  exact ⟨_,pe_one p,r⟩
theorem et_and (ha:PEt X a ta) (hb:PEt X (.BoolOp .And (b::rest) pos) tb):PEt X (.BoolOp .And (a::b::rest) pos) (eAnd ta tb):=by
  obtain ⟨va,pa,ra⟩:=ha
  obtain ⟨vb,pb,rb⟩:=hb
  refine ⟨_,pe_and pa pb,fun B p0 H ps σT σ Q QV o h k=>ra B p0 H ps σT σ _ _ o h fun d x H1 s1 r1 q1=>?_⟩
  cases r1 with
  | bool c =>
    refine ⟨c,rfl,?_⟩
    cases c with
    | true=>exact rb B p0 H1 ps σT σ Q _ (o.grow s1) q1 fun d v H' s' r' q'=>k d v H' (s1.trans s') r' q'
    | false=>exact k _ _ H1 s1 (.bool false) q1
  | _=>exact q1.elim
end
end TL

set_option Elab.async false
set_option linter.all false
set_option maxRecDepth 100000
namespace TL
open PySem PySem.Spec PyProof.Rows L2
variable {K:PySem.W.Frag} {H H' H1 H2:Hp} {B:Hp} {p0 ps:List Addr} {σT:List Sl} {σ:L2.St}
section
variable {X:Cx} {a b c e:Expr} {es:List Expr} {ta tb tc te:ET} {pos:Pos}
abbrev OT:=List Sl→(Option Int→Prop)→Prop
def POt (X:Cx) (e:Option Expr) (t:OT):Prop:=∃ to:TO,PO X e to∧∀ (B:Hp) (p0:List Addr) (H:Hp) (ps:List Addr) (σT:List Sl) (σ:L2.St) (Q:Option Int→Prop) (QV:Option Int→Hp→Prop),Ok X.K B p0 H ps σT σ→t σT Q →
  (∀ i H',Same H H'→Q i→QV i H')→to σ H QV
def oNone:OT:=fun _ Q=>Q none
def oSome (t:ET):OT:=fun σ Q=>t σ fun x=>match x with | .int i=>Q (some i) | _=>False
theorem ot_none:POt X none oNone:=⟨_,po_none,fun _ _ H _ _ _ _ _ _ h k=>k _ H (L2.Same.refl H) h⟩
theorem ot_some (h:PEt X e te):POt X (some e) (oSome te):=by
  obtain ⟨v,p,r⟩:=h
  refine ⟨_,po_some p,fun B p0 H ps σT σ Q QV o h k=>r B p0 H ps σT σ _ _ o h fun d x H1 s1 r1 q1=>?_⟩
  cases r1 with
  | int i=>exact ⟨i,rfl,k _ H1 s1 q1⟩
  | _=>exact q1.elim
def SlT (X:Cx) (r:V→Option Int→Option Int→Hp→VK→Prop) (f:D→Option Int→Option Int→(D→Prop)→Prop):Prop:=∀ (H:Hp) (ps:List Addr) (d:D) (x:V) (lo hi:Option Int) (Q:D→Prop) (QV:VK),(∀ p ∈ ps,H p ≠ none)→Rep X.K (mask H ps) d x→f d lo hi Q →
  (∀ d v H',Same H H'→Rep X.K (mask H' ps) d v→Q d→QV v H')→r x lo hi H QV
def eSl (f:D→Option Int→Option Int→(D→Prop)→Prop) (t:ET) (tl th:OT):ET:=fun σ Q=>t σ fun x=>tl σ fun l=>th σ fun u=>f x l u Q
theorem et_slice {r:V→Option Int→Option Int→Hp→VK→Prop} {f:D→Option Int→Option Int→(D→Prop)→Prop} {lo hi:Option Expr} {tl th:OT} {p2:Pos} (hr:SlR X r) (h2:SlT X r f) (he:PEt X e te) (hl:POt X lo tl) (hu:POt X hi th) :
    PEt X (.Subscript e (.Slice lo hi none p2) pos) (eSl f te tl th):=by
  obtain ⟨ve,pe,re⟩:=he
  obtain ⟨vl,pl,rl⟩:=hl
  obtain ⟨vu,pu,ru⟩:=hu
  refine ⟨_,pe_slice hr pe pl pu,fun B p0 H ps σT σ Q QV o h k=>re B p0 H ps σT σ _ _ o h fun d x H1 s1 r1 q1=>?_⟩
  refine rl B p0 H1 ps σT σ _ _ (o.grow s1) q1 fun l H2 s2 q2=>?_
  refine ru B p0 H2 ps σT σ _ _ ((o.grow s1).grow s2) q2 fun u H3 s3 q3=>?_
  exact h2 H3 ps d x l u Q QV (((o.grow s1).grow s2).grow s3).live ((r1.same (mask_same s2)).same (mask_same s3)) q3 fun d v H' s' r' q'=>k d v H' (s1.trans (s2.trans (s3.trans s'))) r' q'

variable {st:Stmt} {rest:List Stmt} {t u:STt}
def sNext:STt:=fun DT σ=>DT.nx σ
def sSeq (t u:STt):STt:=fun DT σ=>t { DT with nx:=u DT } σ
theorem st_nil:PSst X [] sNext:=⟨_,pss_nil,fun B p0 H ps σT σ DT DV o h f=>f.nx H ps σT σ o (L2.Same.refl _) h⟩
theorem st_cons (h1:PSt X st t) (h2:PSst X rest u):PSst X (st::rest) (sSeq t u):=by
  obtain ⟨v1,p1,r1⟩:=h1
  obtain ⟨v2,p2,r2⟩:=h2
  refine ⟨_,pss_cons p1 p2,fun B p0 H ps σT σ DT DV o h f=>r1 B p0 H ps σT σ { DT with nx:=u DT } { DV with nx:=v2 DV } o h ⟨fun H' ps' σT' σ' o' s' q'=>?_,f.bk,f.ct,f.rt,f.ro,f.rp,f.rq,f.xb⟩⟩
  exact r2 B p0 H' ps' σT' σ' DT DV o' q' (f.later s')
theorem st_one (h1:PSt X st t):PSst X [st] t:=by
  obtain ⟨v1,p1,r1⟩:=h1
  exact ⟨_,pss_one p1,r1⟩
def sShare (i:Nat) (t:STt):STt:=fun DT σ=>∃ ts,σ[i]?=some (.own ts)∧t DT (σ.set i (.val (.list ts)))
theorem st_share {sts:List Stmt} (i:Nat) (h:PSst X sts t):PSst X sts (sShare i t):=by
  obtain ⟨v,p,r⟩:=h
  refine ⟨_,p,fun B p0 H ps σT σ DT DV o h f=>?_⟩
  obtain ⟨ts,e,h⟩:=h
  obtain ⟨ps',o',s'⟩:=o.share e
  exact r B p0 H ps' _ σ DT DV o' h (f.later s')
def sRet (te:ET):STt:=fun DT σ=>te σ DT.rt
theorem st_ret (h:PEt X e te):PSt X (.Return (some e) pos) (sRet te):=by
  obtain ⟨v,p,r⟩:=h
  refine ⟨_,ps_ret p,fun B p0 H ps σT σ DT DV o h f=>r B p0 H ps σT σ _ _ o h fun d x H' s' r' q'=>?_⟩
  exact f.rt d x H' (o.base.trans s') (r'.same (mask_sub o.sub)) q'
def sIf (c:TTt) (t u:STt):STt:=fun DT σ=>c σ fun b=>if b=true then t DT σ else u DT σ
theorem st_if {c:Expr} {a b:List Stmt} {tc:TTt} (hc:PTt X c tc) (ha:PSst X a t) (hb:PSst X b u):PSt X (.If c a b pos) (sIf tc t u):=by
  obtain ⟨vc,pc,rc⟩:=hc
  obtain ⟨va,pa,ra⟩:=ha
  obtain ⟨vb,pb,rb⟩:=hb
  refine ⟨_,ps_if pc pa pb,fun B p0 H ps σT σ DT DV o h f=>rc B p0 H ps σT σ _ _ o h fun d H1 s1 q1=>?_⟩
  cases d with
  | true=>exact ra B p0 H1 ps σT σ DT DV (o.grow s1) q1 (f.later (mask_same s1))
  | false=>exact rb B p0 H1 ps σT σ DT DV (o.grow s1) q1 (f.later (mask_same s1))
def sSet (i:Nat) (te:ET):STt:=fun DT σ=>te σ fun d=>DT.nx (σ.set i (.val d))
theorem st_set {i:Nat} {x:Str} {pos':Pos} (h:PEt X e te) (ps':∀ {v:TE},PE X e v→PS X (.Assign [.Name x pos'] e pos) (tAsg v (gName i))):PSt X (.Assign [.Name x pos'] e pos) (sSet i te):=by
  obtain ⟨v,p,r⟩:=h
  refine ⟨_,ps' p,fun B p0 H ps σT σ DT DV o h f=>r B p0 H ps σT σ _ _ o h fun d x H' s' r' q'=>?_⟩
  exact f.nx H' ps _ _ ((o.grow s').set r') (mask_same s') q'
def sOwn (i:Nat) (t:AT):STt:=fun DT σ=>t σ fun ds=>ds.length≤1000∧DT.nx (σ.set i (.own ds))
theorem st_own {i:Nat} {x:Str} {pos' p2:Pos} {t:AT} (h:PAt X es t) (ps':∀ {v:TE},PE X (.List es p2) v→PS X (.Assign [.Name x pos'] (.List es p2) pos) (tAsg v (gName i))):PSt X (.Assign [.Name x pos'] (.List es p2) pos) (sOwn i t):=by
  obtain ⟨v,p,r⟩:=h
  refine ⟨_,ps' (pe_lst p),fun B p0 H ps σT σ DT DV o h f=>r B p0 H ps σT σ _ _ o h fun ds xs H1 s1 r1 q1=>⟨le_line (by rw [← r1.length]; exact q1.1),fun q hq=>?_⟩⟩
  exact f.nx _ (q::ps) _ _ ((o.grow s1).setOwn hq r1) ((mask_same s1).trans (by rw [mask_new hq]; exact L2.Same.refl _)) q1.2
def sApp (i:Nat) (te:ET):STt:=fun DT σ=>∃ ts,σ[i]?=some (.own ts)∧te σ fun d=>ts.length≤100000∧DT.nx (σ.set i (.own (ts++[d])))
theorem st_app {i:Nat} {n e:Expr} {te:ET} {ap cp:Pos} (hn:PE X n (tVar i)) (he:PEt X e te) (hs:starEach [e] X.env=(false,eval e X.env)::starEach [] X.env:=by rfl)
    (pb:∀ {ta:TA},PA X [e] ta→PS X (.Expr (.Call (.Attribute n "append" ap) [e] [] cp) pos) (tDrop (tBM X.K "list" rAppend (tVar i) ta))):PSt X (.Expr (.Call (.Attribute n "append" ap) [e] [] cp) pos) (sApp i te):=by
  obtain ⟨v,p,r⟩:=he
  refine ⟨_,pb (pa_cons p pa_nil hs),fun B p0 H ps σT σ DT DV o h f=>?_⟩
  obtain ⟨ts,e,h⟩:=h
  obtain ⟨q,xs,h1,h2,h3,h4,h5,h6⟩:=o.own i ts e
  refine ⟨.ref q,h1,.inl ⟨rfl,xs,SqL.of h5⟩,r B p0 H ps σT σ _ _ o h fun d x H1 s1 r1 q1=>?_⟩
  refine ⟨q,xs,x,rfl,rfl,s1 _ _ h5,?_,?_⟩
  · rw [← h6.length]
    have:sizeLine=2 ^ 24:=rfl
    omega
  · have o1:=o.grow s1
    have hr:Reps X.K (mask H1 ps) (ts++[d]) (xs++[x]):=(h6.same (mask_same s1)).append (.cons r1 .nil)
    exact f.nx _ ps _ σ (o1.write (ys:=xs++[x]) e h1 hr) ((mask_same s1).trans (by rw [mask_upd h2]; exact L2.Same.refl _)) q1.2

def signs (x:Str):List D:=x.cps.toList.map fun c=>.str ⟨#[c]⟩
def itemsOf:D→Option (List D)
  | .list ts=>some ts
  | .tuple ts=>some ts
  | .str x=>some (signs x)
  | _=>none
def noOwn (σ:List Sl):Prop:=∀ (i:Nat) (s:Sl),(∀ d,s ≠ .val d)→s ≠ .un→σ[i]? ≠ some s
theorem noOwn_set {σ:List Sl} (h:noOwn σ) (i:Nat) (d:D):noOwn (σ.set i (.val d)):=fun j s hv hu e=>by
  by_cases z:i=j
  · subst z
    have hi:i < σ.length:=by simpa using (List.getElem?_eq_some_iff.mp e).1
    rw [List.getElem?_set_self hi] at e; exact hv d (Option.some.inj e).symm
  · rw [List.getElem?_set_ne z] at e; exact h j s hv hu e
theorem noOwn.own {σ:List Sl} (h:noOwn σ) (i:Nat) (ts:List D):σ[i]? ≠ some (.own ts):=h i _ (fun _ z=>nomatch z) fun z=>nomatch z
theorem noOwn.dic {σ:List Sl} (h:noOwn σ) (i:Nat) (hs:List Int) (kvs:List (D × D)):σ[i]? ≠ some (.dic hs kvs):=h i _ (fun _ z=>nomatch z) fun z=>nomatch z
abbrev GT:=D→List Sl→(List Sl→Prop)→Prop
def PGt (X:Cx) (tg:Expr) (g:GT):Prop:=∃ gv:TG,PG X tg gv∧∀ (B:Hp) (p0:List Addr) (H:Hp) (ps:List Addr) (σT:List Sl) (σ:L2.St) (d:D) (v:V) (Q:List Sl→Prop) (QV:L2.St→Hp→Prop),Ok X.K B p0 H ps σT σ→Rep X.K (mask H ps) d v→g d σT Q →
  (∀ σT' σ',Ok X.K B p0 H ps σT' σ'→(noOwn σT→noOwn σT')→Q σT'→QV σ' H)→gv v σ H QV
def gN (i:Nat):GT:=fun d σ Q=>Q (σ.set i (.val d))
theorem gt_name {i:Nat} {x:Str} {p:Pos} (h:PG X (.Name x p) (gName i)):PGt X (.Name x p) (gN i) :=
  ⟨_,h,fun B p0 H ps σT σ d v Q QV o r h k=>k _ _ (o.set r) (fun n=>noOwn_set n _ _) h⟩
def gP (i j:Nat):GT:=fun d σ Q=>∃ a b,d=.tuple [a,b]∧Q ((σ.set i (.val a)).set j (.val b))
theorem gt_pair {i j:Nat} {t:Expr} (h:PG X t (gTup X.K 2 (gCons (gName i) (gCons (gName j) gNil)))):PGt X t (gP i j) :=
  ⟨_,h,fun B p0 H ps σT σ d v Q QV o r h k=>by
    obtain ⟨a,b,rfl,h⟩:=h
    cases r with
    | @tuple p xs _ hq r =>
      cases r with
      | cons ra r =>
        cases r with
        | cons rb r =>
          cases r
          exact ⟨_,_,rfl,Same.seqT mask_le hq,rfl,_,_,rfl,_,_,rfl,rfl,k _ _ ((o.set ra).set rb) (fun n=>noOwn_set (noOwn_set n _ _) _ _) h⟩⟩
structure Runs (K:PySem.W.Frag) (Hs:Hp) (ts:List D) (J:It):Prop where
  stop:∀ (i:Nat) (H:Hp),Same Hs H→ts.length≤i→J.stop i H
  go:∀ (i:Nat) (H:Hp),Same Hs H→i < ts.length→J.go i H
  yld:∀ (i:Nat) (H:Hp) (ps:List Addr) (y:V) (H':Hp),(∀ p ∈ ps,H p ≠ none)→Same Hs (mask H ps)→i < ts.length→J.yld i H y H'→Same H H'∧∃ dx,ts[i]?=some dx∧Rep K (mask H' ps) dx y
abbrev IT:=List Sl→(List D→Prop)→Prop
def PIt (X:Cx) (tg iter:Expr) (t:IT):Prop:=∃ wi:TI,PI X tg iter wi∧∀ (B:Hp) (p0:List Addr) (H:Hp) (ps:List Addr) (σT:List Sl) (σ:L2.St) (Q:List D→Prop) (R:It→Hp→Prop),Ok X.K B p0 H ps σT σ→t σT Q →
  (∀ ts J H',Same H H'→Runs X.K (mask H' ps) ts J→Q ts→R J H')→wi σ H R
def iVal (te:ET):IT:=fun σ Q=>te σ fun d=>∃ ts,itemsOf d=some ts∧Q ts
theorem runs_of {x:V} {d:D} {ts:List D} {Hs:Hp} (r:Rep K Hs d x) (hi:itemsOf d=some ts) {R:It→Hp→Prop} (hs:Same Hs H1) (h:∀ J:It,Runs K Hs ts J→R J H1) :
    (∃ a,x=.ref a∧(∃ xs,SqL K H1 a xs)∧R (Itl K a) H1) ∨ (∃ a,x=.ref a∧(∃ xs,SqT K H1 a xs)∧R (Itt K a) H1) ∨ ∃ z,x=.str z∧R (Its z) H1:=by
  cases r with
  | @list p xs us q rs =>
    obtain rfl:us=ts:=Option.some.inj hi
    refine .inl ⟨p,rfl,⟨xs,L2.Same.seq hs q⟩,h _ ⟨fun i H e hl=>⟨xs,L2.Same.seq e q,by rw [← rs.length]; exact hl⟩,fun i H e hl=>?_,fun i H ps y H' _ e hl hy=>?_⟩⟩
    · obtain ⟨v,hv,_⟩:=rs.get (List.getElem?_eq_getElem hl)
      exact ⟨xs,v,L2.Same.seq e q,hv⟩
    · obtain ⟨rfl,hy⟩:=hy
      obtain ⟨dx,h1,h2⟩:=rs.get' (hy xs (L2.Same.seq (e.trans mask_le) q))
      exact ⟨L2.Same.refl _,dx,h1,h2.same e⟩
  | @tuple p xs us q rs =>
    obtain rfl:us=ts:=Option.some.inj hi
    refine .inr (.inl ⟨p,rfl,⟨xs,Same.seqT hs q⟩,h _ ⟨fun i H e hl=>⟨xs,Same.seqT e q,by rw [← rs.length]; exact hl⟩,fun i H e hl=>?_,fun i H ps y H' _ e hl hy=>?_⟩⟩)
    · obtain ⟨v,hv,_⟩:=rs.get (List.getElem?_eq_getElem hl)
      exact ⟨xs,v,Same.seqT e q,hv⟩
    · obtain ⟨rfl,hy⟩:=hy
      obtain ⟨dx,h1,h2⟩:=rs.get' (hy xs (Same.seqT (e.trans mask_le) q))
      exact ⟨L2.Same.refl _,dx,h1,h2.same e⟩
  | str z =>
    obtain rfl:signs z=ts:=Option.some.inj hi
    have hl:(signs z).length=z.cps.size:=by unfold signs; simp
    refine .inr (.inr ⟨z,rfl,h _ ⟨fun i H _ e=>by rw [hl] at e; exact e,fun i H _ e=>by rw [hl] at e; exact e,fun i H ps y H' _ _ e hy=>?_⟩⟩)
    obtain ⟨rfl,c,h2,rfl⟩:=hy
    refine ⟨L2.Same.refl _,.str ⟨#[c]⟩,?_,.str _⟩
    unfold signs
    rw [List.getElem?_map]
    have:z.cps.toList[i]?=some c:=by simpa using h2
    rw [this]; rfl
  | _=>cases hi
theorem it_val {tg:Expr} (he:PEt X e te):PIt X tg e (iVal te):=by
  obtain ⟨ve,pe,re⟩:=he
  refine ⟨_,pi_any pe,fun B p0 H ps σT σ Q R o h k=>re B p0 H ps σT σ _ _ o h fun d x H1 s1 r1 q1=>?_⟩
  obtain ⟨ts,hi,q⟩:=q1
  exact runs_of r1 hi mask_le fun J rj=>k ts J H1 s1 rj q
def intsTo (n:Nat):List D:=(List.range n).map fun (k:Nat)=>PyData.int (k:Int)
def iRange (t:AT):IT:=fun σ Q=>t σ fun ds=>∃ n:Int,ds=[.int n]∧-(2 ^ 62)≤n∧n < 2 ^ 62∧Q (intsTo n.toNat)
theorem it_range {tg e:Expr} {t:AT} {p p':Pos} (ha:PAt X [e] t) (pr:∀ {ta:TA},PA X [e] ta→PI X tg (.Call (.Name "range" p) [e] [] p') (iRng1 ta)):PIt X tg (.Call (.Name "range" p) [e] [] p') (iRange t):=by
  obtain ⟨va,pa,ra⟩:=ha
  refine ⟨_,pr pa,fun B p0 H ps σT σ Q R o h k=>ra B p0 H ps σT σ _ _ o h fun ds xs H1 s1 r1 q1=>?_⟩
  obtain ⟨n,rfl,h1,h2,q⟩:=q1
  cases r1 with
  | cons r1 r2 =>
    cases r2
    cases r1
    refine ⟨n,rfl,h1,h2,k (intsTo n.toNat) _ H1 s1 ?_ q⟩
    have hl:(intsTo n.toNat).length=n.toNat:=by unfold intsTo; simp
    refine ⟨fun i H _ e=>by rw [hl] at e; exact e,fun i H _ e=>by rw [hl] at e; exact e,fun i H ps y H' _ _ e hy=>?_⟩
    obtain ⟨rfl,rfl⟩:=hy
    have ei:(0:Int) + (i:Int)=(i:Int):=by omega
    rw [ei]
    rw [hl] at e
    refine ⟨L2.Same.refl _,.int i,?_,.int _⟩
    unfold intsTo
    rw [List.getElem?_map,List.getElem?_range e]; rfl
def sFor (ti:IT) (g:GT) (tb:STt):STt:=fun DT σ=>ti σ fun ts=>∃ P:Nat→List Sl→Prop,P 0 σ ∧
  (∀ (k:Nat) (x:D) (σ':List Sl),ts[k]?=some x→P k σ'→g x σ' fun σ2=>tb { DT with nx:=P (k + 1),ct:=P (k + 1),bk:=DT.nx } σ2)∧∀ σ',P ts.length σ'→DT.nx σ'
theorem st_for {tg iter:Expr} {body:List Stmt} {g:GT} {tb:STt} {ti:IT} (he:PIt X tg iter ti) (hg:PGt X tg g) (hb:PSst X body tb)
    (pf:∀ {wi:TI} {gv:TG} {bv:TS},PI X tg iter wi→PG X tg gv→PSs X body bv→PS X (.For tg iter body [] pos) (tFor wi gv bv)):PSt X (.For tg iter body [] pos) (sFor ti g tb):=by
  obtain ⟨ve,pe,re⟩:=he
  obtain ⟨gv,pg,rg⟩:=hg
  obtain ⟨vb,pb,rb⟩:=hb
  refine ⟨_,pf pe pg pb,fun B p0 H ps σT σ DT DV o h f=>re B p0 H ps σT σ _ _ o h fun ts J H1 s1 rj q1=>?_⟩
  obtain ⟨P,h0,hs,hd⟩:=q1
  refine ⟨fun i m σ' H'=>m=ts.length - i∧i≤ts.length∧∃ ps' σT',Ok X.K B p0 H' ps' σT' σ'∧Same (mask H1 ps) (mask H' ps')∧P i σT',⟨_,rfl,Nat.zero_le _,ps,σT,o.grow s1,L2.Same.refl _,h0⟩,?_⟩
  rintro i m σ' H' ⟨rfl,hle,ps',σT',o',s',p'⟩
  have sH:Same (mask H1 ps) H':=s'.trans mask_le
  have f':Fits X.K B p0 H' ps' DT DV:=f.later ((mask_same s1).trans s')
  by_cases hlt:i < ts.length
  · refine .inr ⟨rj.go i H' sH hlt,fun σ2 H2=>∃ ps2 σT2,Ok X.K B p0 H2 ps2 σT2 σ2∧Same (mask H1 ps) (mask H2 ps2)∧P (i + 1) σT2,fun σ2 H2 z=>⟨ts.length - (i + 1),by omega,rfl,hlt,z⟩,fun y H2 hy'=>?_⟩
    obtain ⟨s2,dx,hx,rx⟩:=rj.yld i H' ps' y H2 o'.live s' hlt hy'
    have f2:=f'.later (mask_same (ps:=ps') s2)
    have s'':Same (mask H1 ps) (mask H2 ps'):=s'.trans (mask_same s2)
    refine rg B p0 H2 ps' σT' σ' dx y _ _ (o'.grow s2) rx (hs i dx σT' hx p') fun σT3 σ3 o3 _ q3=>?_
    exact rb B p0 H2 ps' σT3 σ3 _ _ o3 q3 ⟨fun H4 ps4 σT4 σ4 o4 s4 q4=>⟨ps4,σT4,o4,s''.trans s4,q4⟩,fun H4 ps4 σT4 σ4 o4 s4 q4=>f2.nx H4 ps4 σT4 σ4 o4 s4 q4,fun H4 ps4 σT4 σ4 o4 s4 q4=>⟨ps4,σT4,o4,s''.trans s4,q4⟩,f2.rt,f2.ro,f2.rp,f2.rq,f2.xb⟩
  · obtain rfl:i=ts.length:=by omega
    exact .inl ⟨rj.stop _ H' sH (Nat.le_refl _),f'.nx H' ps' σT' σ' o' (L2.Same.refl _) (hd σT' p')⟩

def blkSl (σ:List Sl):Option Nat→Sl
  | none=>.un
  | some j=>match σ[j]? with | some (.val d)=>.val d | _=>.un
def inBlkT (fr:List (Option Nat)) (σ:List Sl):List Sl:=fr.map (blkSl σ)
theorem blkSl_val {σ:List Sl} {q:Option Nat} {d:D} (h:blkSl σ q=.val d):∃ j,q=some j∧σ[j]?=some (.val d):=by
  cases q with
  | none=>cases h
  | some j =>
    refine ⟨j,rfl,?_⟩
    unfold blkSl at h
    dsimp only at h
    split at h
    · next e=>cases h; exact e
    · cases h
theorem blkSl_own {σ:List Sl} {q:Option Nat} {s:Sl} (hv:∀ d,s ≠ .val d) (hu:s ≠ .un):blkSl σ q ≠ s:=fun h=>by
  cases q with
  | none=>exact hu h.symm
  | some j =>
    unfold blkSl at h
    dsimp only at h
    split at h
    · exact hv _ h.symm
    · exact hu h.symm
theorem noOwn_blk (fr:List (Option Nat)) (σ:List Sl):noOwn (inBlkT fr σ):=fun i s hv hu h=>by
  unfold inBlkT at h
  rw [List.getElem?_map] at h
  cases hf:fr[i]? with
  | none=>rw [hf] at h; cases h
  | some q =>
    rw [hf] at h
    exact blkSl_own hv hu (Option.some.inj h)
theorem Ok.blk (o:Ok K B p0 H ps σT σ) (fr:List (Option Nat)):Ok K B p0 H ps (inBlkT fr σT) (inBlk fr σ) where
  base:=o.base
  sub:=o.sub
  live:=o.live
  len:=by unfold inBlkT inBlk; simp
  val:=fun i d h=>by
    unfold inBlkT at h
    rw [List.getElem?_map] at h
    cases hf:fr[i]? with
    | none=>rw [hf] at h; cases h
    | some q =>
      rw [hf] at h
      obtain ⟨j,rfl,e⟩:=blkSl_val (Option.some.inj h)
      obtain ⟨v,h1,h2⟩:=o.val j d e
      refine ⟨v,?_,h2⟩
      unfold inBlk
      rw [List.getElem?_map,hf]
      simp [h1]
  own:=fun i ts h=>absurd h ((noOwn_blk fr σT).own i ts)
  dis:=fun i j ts us p h=>absurd h ((noOwn_blk fr σT).own i ts)
  dc:=fun i hs kvs h=>absurd h ((noOwn_blk fr σT).dic i hs kvs)
theorem Ok.adopt (o:Ok K B p0 H ps σT σ) {p:Addr} {u:HO} (hp:H p=none):Ok K B p0 (upd H p u) (p::ps) σT σ:=by
  have hm:mask (upd H p u) (p::ps)=mask H ps:=mask_new hp
  refine ⟨o.base.trans (same_new hp),fun q hq=>List.mem_cons_of_mem _ (o.sub q hq),fun q hq=>?_,o.len,fun i d h=>by rw [hm]; exact o.val i d h,fun i ts h=>?_,o.dis,o.dc.to (fun j hs kvs h=>⟨h,rfl⟩) (fun q φ a b _=>⟨List.mem_cons_of_mem _ a,upd_ne fun z=>by rw [z,hp] at b; cases b⟩) (fun q φ _ _ a b=>⟨a,b⟩) (by rw [hm]; exact L2.Same.refl _)⟩
  · by_cases e:q=p
    · subst e; rw [upd_same]; simp
    · rw [upd_ne e]
      rcases List.mem_cons.mp hq with z | z
      · exact absurd z e
      · exact o.live q z
  · rw [hm]
    obtain ⟨q,xs,h1,h2,h3,h4,h5,h6⟩:=o.own i ts h
    exact ⟨q,xs,h1,List.mem_cons_of_mem _ h2,h3,h4,by rw [upd_ne fun z=>by rw [z,hp] at h5; cases h5]; exact h5,h6⟩
theorem Ok.aside (o:Ok K B p0 H ps σT σ) {q:Addr} {u:HO} (hp:q ∈ ps) (hB:B q=none) (hn:noOwn σT):Ok K B p0 (upd H q u) ps σT σ where
  base:=fun b w e=>by
    rw [upd_ne fun z=>by rw [z,hB] at e; cases e]
    exact o.base b w e
  sub:=o.sub
  live:=fun p hp'=>by
    by_cases e:p=q
    · subst e; rw [upd_same]; simp
    · rw [upd_ne e]; exact o.live p hp'
  len:=o.len
  val:=fun i d h=>by rw [mask_upd hp]; exact o.val i d h
  own:=fun i ts h=>absurd h (hn.own i ts)
  dis:=fun i j ts us p h=>absurd h (hn.own i ts)
  dc:=fun i hs kvs h=>absurd h (hn.dic i hs kvs)
def PIft (X:Cx) (ifs:List Expr) (t:TTt):Prop:=∃ tt:TT,PIf X ifs tt∧∀ (B:Hp) (p0:List Addr) (H:Hp) (ps:List Addr) (σT:List Sl) (σ:L2.St) (Q:Bool→Prop) (QV:Bool→Hp→Prop),Ok X.K B p0 H ps σT σ→t σT Q →
  (∀ b H',Same H H'→Q b→QV b H')→tt σ H QV
def cTrue:TTt:=fun _ Q=>Q true
theorem if_nil:PIft X [] cTrue:=⟨_,pif_nil,fun _ _ H _ _ _ _ _ _ h k=>k _ H (L2.Same.refl H) h⟩
theorem if_one {t:TTt} (h:PTt X e t):PIft X [e] t:=by
  obtain ⟨v,p,r⟩:=h
  exact ⟨_,pif_one p,r⟩
def eLc (fr:List (Option Nat)) (ti:IT) (g:GT) (tt:TTt) (te:ET):ET:=fun σ Q=>ti σ fun ts=>ts.length≤100000∧∃ P:Nat→List Sl→List D→Prop,P 0 (inBlkT fr σ) [] ∧
  (∀ (k:Nat) (x:D) (σ':List Sl) (ds:List D),ts[k]?=some x→P k σ' ds→g x σ' fun σ2=>tt σ2 fun b=>if b=true then te σ2 fun y=>P (k + 1) σ2 (ds++[y]) else P (k + 1) σ2 ds)∧∀ σ' ds,P ts.length σ' ds→Q (.list ds)
theorem lc_read {fr:List (Option Nat)} {ti:IT} {g:GT} {tt:TTt} {te:ET} {wi:TI} {gv:BP→TG} {vt:BP→TT} {ve:BP→TE}
    (ri:∀ (B:Hp) (p0:List Addr) (H:Hp) (ps:List Addr) (σT:List Sl) (σ:L2.St) (Q:List D→Prop) (R:It→Hp→Prop),Ok X.K B p0 H ps σT σ→ti σT Q→(∀ ts J H',Same H H'→Runs X.K (mask H' ps) ts J→Q ts→R J H')→wi σ H R)
    (rg:∀ (bp:BP) (B:Hp) (p0:List Addr) (H:Hp) (ps:List Addr) (σT:List Sl) (σ:L2.St) (d:D) (v:V) (Q:List Sl→Prop) (QV:L2.St→Hp→Prop),Ok X.K B p0 H ps σT σ→Rep X.K (mask H ps) d v→g d σT Q→(∀ σT' σ',Ok X.K B p0 H ps σT' σ'→(noOwn σT→noOwn σT')→Q σT'→QV σ' H)→gv bp v σ H QV)
    (rt:∀ (bp:BP) (B:Hp) (p0:List Addr) (H:Hp) (ps:List Addr) (σT:List Sl) (σ:L2.St) (Q:Bool→Prop) (QV:Bool→Hp→Prop),Ok X.K B p0 H ps σT σ→tt σT Q→(∀ b H',Same H H'→Q b→QV b H')→vt bp σ H QV)
    (re:∀ (bp:BP) (B:Hp) (p0:List Addr) (H:Hp) (ps:List Addr) (σT:List Sl) (σ:L2.St) (Q:D→Prop) (QV:VK),Ok X.K B p0 H ps σT σ→te σT Q→(∀ d v H',Same H H'→Rep X.K (mask H' ps) d v→Q d→QV v H')→ve bp σ H QV)
    (B:Hp) (p0:List Addr) (H:Hp) (ps:List Addr) (σT:List Sl) (σ:L2.St) (Q:D→Prop) (QV:VK) (o:Ok X.K B p0 H ps σT σ) (h:eLc fr ti g tt te σT Q) (k:∀ d v H',Same H H'→Rep X.K (mask H' ps) d v→Q d→QV v H'):tLc fr wi gv vt ve σ H QV:=by
  refine ri B p0 H ps σT σ _ _ o h fun ts J H1 s1 rj q1=>?_
  obtain ⟨hz,P,h0,hs,hd⟩:=q1
  intro bp acc hacc
  have hBacc:B acc=none:=by
    cases q:B acc with
    | none=>rfl
    | some u=>rw [(o.grow s1).base acc u q] at hacc; cases hacc
  have hnps:acc ∉ ps:=fresh_notin (o.grow s1).live hacc
  refine ⟨fun i m σ' H'=>m=ts.length - i∧i≤ts.length∧∃ σT' ds ys,Ok X.K B p0 H' (acc::ps) σT' σ'∧noOwn σT'∧H' acc=some (.lst ys)∧ds.length≤i∧Reps X.K (mask H' (acc::ps)) ds ys∧Same (mask H1 ps) (mask H' (acc::ps))∧Same H1 H'∧P i σT' ds,
    ⟨_,rfl,Nat.zero_le _,inBlkT fr σT,[],[],((o.grow s1).blk fr).adopt hacc,noOwn_blk fr σT,upd_same,Nat.le_refl _,.nil,by rw [mask_new hacc]; exact L2.Same.refl _,same_new hacc,h0⟩,?_⟩
  rintro i m σ' H' ⟨rfl,hle,σT',ds,ys,o',n',ha,hl,hr,s',sF,p'⟩
  have hL:sizeLine=2 ^ 24:=rfl
  by_cases hlt:i < ts.length
  · refine .inr ⟨rj.go i H' (s'.trans mask_le) hlt,fun y H2 hy=>?_⟩
    obtain ⟨s2,dx,hx,rx⟩:=rj.yld i H' (acc::ps) y H2 o'.live s' hlt hy
    refine rg bp B p0 H2 (acc::ps) σT' σ' dx y _ _ (o'.grow s2) rx (hs i dx σT' ds hx p') fun σT3 σ3 o3 n3 q3=>?_
    refine rt bp B p0 H2 (acc::ps) σT3 σ3 _ _ o3 q3 fun b H4 s4 q4=>?_
    have s24:=s2.trans s4
    cases b with
    | false =>
      exact ⟨ts.length - (i + 1),by omega,rfl,hlt,σT3,ds,ys,o3.grow s4,n3 n',s24 _ _ ha,by omega,hr.same (mask_same s24),s'.trans (mask_same s24),sF.trans s24,q4⟩
    | true =>
      refine re bp B p0 H4 (acc::ps) σT3 σ3 _ _ (o3.grow s4) q4 fun d v H5 s5 r5 q5=>?_
      have s25:=s24.trans s5
      have hm:mask (upd H5 acc (.lst (ys++[v]))) (acc::ps)=mask H5 (acc::ps):=mask_upd (List.mem_cons_self ..)
      refine ⟨ys,s25 _ _ ha,by rw [← hr.length]; omega,ts.length - (i + 1),by omega,rfl,hlt,σT3,ds++[d],ys++[v],((o3.grow s4).grow s5).aside (List.mem_cons_self ..) hBacc (n3 n'),n3 n',upd_same,by rw [List.length_append,List.length_singleton]; omega,?_,?_,?_,q5⟩
      · rw [hm]; exact (hr.same (mask_same s25)).append (.cons r5 .nil)
      · rw [hm]; exact s'.trans (mask_same s25)
      · intro b u e
        have ne:b ≠ acc:=fun z=>by rw [z,hacc] at e; cases e
        rw [upd_ne ne]; exact (sF.trans s25) b u e
  · obtain rfl:i=ts.length:=by omega
    refine .inl ⟨rj.stop _ H' (s'.trans mask_le) (Nat.le_refl _),k (.list ds) _ H' (s1.trans sF) (.list (SqL.of (mask_at hnps ha)) (hr.same (mask_sub fun p hp=>List.mem_cons_of_mem _ hp))) (hd σT' ds p')⟩
theorem lc_all {elt iter tg:Expr} {ifs:List Expr} {scope:Scope} {fr:List (Option Nat)} {N':List Str} {ti:IT} {g:GT} {tt:TTt} {te:ET} (hi:PIt X tg iter ti)
    (hY:∀ b:BP,PGt (blk X scope N' b) tg g∧PIft (blk X scope N' b) ifs tt∧PEt (blk X scope N' b) elt te) {M:(TE)→Prop}
    (fin:∀ {wi:TI} {gv:BP→TG} {vt:BP→TT} {ve:BP→TE},PI X tg iter wi→(∀ b:BP,PG (blk X scope N' b) tg (gv b)∧PIf (blk X scope N' b) ifs (vt b)∧PE (blk X scope N' b) elt (ve b))→M (tLc fr wi gv vt ve)) :
    ∃ v:TE,M v∧∀ (B:Hp) (p0:List Addr) (H:Hp) (ps:List Addr) (σT:List Sl) (σ:L2.St) (Q:D→Prop) (QV:VK),Ok X.K B p0 H ps σT σ→eLc fr ti g tt te σT Q →
      (∀ d v H',Same H H'→Rep X.K (mask H' ps) d v→Q d→QV v H')→v σ H QV:=by
  obtain ⟨wi,pi,ri⟩:=hi
  refine ⟨_,fin (gv:=fun b=>Classical.choose (hY b).1) (vt:=fun b=>Classical.choose (hY b).2.1) (ve:=fun b=>Classical.choose (hY b).2.2) pi fun b=>⟨(Classical.choose_spec (hY b).1).1,(Classical.choose_spec (hY b).2.1).1,(Classical.choose_spec (hY b).2.2).1⟩,?_⟩
  exact lc_read ri (fun b=>(Classical.choose_spec (hY b).1).2) (fun b=>(Classical.choose_spec (hY b).2.1).2) fun b=>(Classical.choose_spec (hY b).2.2).2
theorem et_lc {elt iter tg:Expr} {ifs:List Expr} {scope:Scope} {fr:List (Option Nat)} {N':List Str} {ti:IT} {g:GT} {tt:TTt} {te:ET} (hi:PIt X tg iter ti)
    (hY:∀ b:BP,PGt (blk X scope N' b) tg g∧PIft (blk X scope N' b) ifs tt∧PEt (blk X scope N' b) elt te)
    (pl:∀ {wi:TI} {gv:BP→TG} {vt:BP→TT} {ve:BP→TE},PI X tg iter wi→(∀ b:BP,PG (blk X scope N' b) tg (gv b)∧PIf (blk X scope N' b) ifs (vt b)∧PE (blk X scope N' b) elt (ve b))→PE X (.ListComp elt [⟨tg,iter,ifs,0⟩] scope pos) (tLc fr wi gv vt ve)) :
    PEt X (.ListComp elt [⟨tg,iter,ifs,0⟩] scope pos) (eLc fr ti g tt te):=lc_all hi hY pl
theorem st_setlc {i:Nat} {x:Str} {px spos:Pos} {elt iter tg:Expr} {ifs:List Expr} {scope:Scope} {fr:List (Option Nat)} {N':List Str} {ti:IT} {g:GT} {tt:TTt} {te:ET} (hi:PIt X tg iter ti)
    (hY:∀ b:BP,PGt (blk X scope N' b) tg g∧PIft (blk X scope N' b) ifs tt∧PEt (blk X scope N' b) elt te)
    (pl:∀ {wi:TI} {gv:BP→TG} {vt:BP→TT} {ve:BP→TE},PI X tg iter wi→(∀ b:BP,PG (blk X scope N' b) tg (gv b)∧PIf (blk X scope N' b) ifs (vt b)∧PE (blk X scope N' b) elt (ve b)) →
      PS X (.Assign [.Name x px] (.ListComp elt [⟨tg,iter,ifs,0⟩] scope pos) spos) (tAsg (tLc fr wi gv vt ve) (gName i))) :
    PSt X (.Assign [.Name x px] (.ListComp elt [⟨tg,iter,ifs,0⟩] scope pos) spos) (sSet i (eLc fr ti g tt te)):=by
  obtain ⟨v,p,r⟩:=lc_all (M:=fun v=>PS X (.Assign [.Name x px] (.ListComp elt [⟨tg,iter,ifs,0⟩] scope pos) spos) (tAsg v (gName i))) (fr:=fr) hi hY pl
  refine ⟨_,p,fun B p0 H ps σT σ DT DV o h f=>r B p0 H ps σT σ _ _ o h fun d x H' s' r' q'=>?_⟩
  exact f.nx H' ps _ _ ((o.grow s').set r') (mask_same s') q'

def startT (N:List Str) (ds:List D):List Sl:=ds.map Sl.val++List.replicate (N.length - ds.length) .un
theorem ok_start {N:List Str} {ds:List D} {vs:List V} (live:∀ p ∈ ps,H p ≠ none) (r:Reps K (mask H ps) ds vs):Ok K H ps H ps (startT N ds) (L2.start N vs):=by
  have hl:=r.length
  refine ⟨L2.Same.refl _,fun _ h=>h,live,?_,fun i d h=>?_,fun i ts h=>?_,fun i j ts us p h=>?_,fun i hs kvs h=>?_⟩
  · unfold startT L2.start; simp [hl]
  · unfold startT at h
    by_cases hi:i < ds.length
    · rw [List.getElem?_append_left (by simpa using hi),List.getElem?_map] at h
      cases hd:ds[i]? with
      | none=>rw [hd] at h; cases h
      | some d' =>
        rw [hd] at h
        cases h
        obtain ⟨v,h1,h2⟩:=r.get hd
        refine ⟨v,?_,h2⟩
        unfold L2.start
        rw [List.getElem?_append_left (by rw [List.length_map,← hl]; exact hi),List.getElem?_map,h1]; rfl
    · rw [List.getElem?_append_right (by simpa using hi),List.getElem?_replicate] at h
      split at h <;> cases h
  · unfold startT at h
    by_cases hi:i < ds.length
    · rw [List.getElem?_append_left (by simpa using hi),List.getElem?_map] at h
      cases hd:ds[i]? with
      | none=>rw [hd] at h; cases h
      | some d'=>rw [hd] at h; cases h
    · rw [List.getElem?_append_right (by simpa using hi),List.getElem?_replicate] at h
      split at h <;> cases h
  · unfold startT at h
    by_cases hi:i < ds.length
    · rw [List.getElem?_append_left (by simpa using hi),List.getElem?_map] at h
      cases hd:ds[i]? with
      | none=>rw [hd] at h; cases h
      | some d'=>rw [hd] at h; cases h
    · rw [List.getElem?_append_right (by simpa using hi),List.getElem?_replicate] at h
      split at h <;> cases h
  · unfold startT at h
    by_cases hi:i < ds.length
    · rw [List.getElem?_append_left (by simpa using hi),List.getElem?_map] at h
      cases hd:ds[i]? with
      | none=>rw [hd] at h; cases h
      | some d'=>rw [hd] at h; cases h
    · rw [List.getElem?_append_right (by simpa using hi),List.getElem?_replicate] at h
      split at h <;> cases h
theorem fnT {P:Program} {w:World} {mg:Str→Option Value} {base:Heap} {x qual:Str} {st:Stmt} {f:Addr} {fd:FuncData} {N pn:List Str} {k:Nat} {sp:SpT} (F:Fun K x qual st f fd) (S:FnScope N pn (defScope st)) (len:∀ ds Q,sp ds Q→ds.length=pn.length)
    (hbody:∀ (cdv:Value) (A:Around) (outer:List Env) (s:Shared) (H:Hp) (E:XK),Room k (A.deeper (envOfC qual (defScope st) s.heap.objs.size f cdv))→∀ (ds:List D) (Q:D→Prop),sp ds Q →
      ∃ t,PSst (cxOf CX0 P w K mg base N qual (defScope st) f cdv A outer s H E).nox (defBody st) t∧t { nx:=fun _=>Q .none,rt:=Q } (startT N ds)):FnOk P w K mg base CX0 (k + 1) f fd pn (liftSp K sp):=by
  refine F.ok S (fun vs H Q E h=>?_) fun cdv A outer s H vs Q E hr h=>?_
  · obtain ⟨ps,ds,QD,_,r,q,_⟩:=h
    rw [← r.length]; exact len ds QD q
  · obtain ⟨ps,ds,QD,live,r,q,k⟩:=h
    obtain ⟨t,⟨ts,p,rd⟩,h⟩:=hbody cdv A outer s H E hr ds QD q
    refine ⟨ts,p,rd H ps H ps _ _ _ _ (ok_start live r) h ⟨fun H' ps' σT' σ' o' s' q'=>?_,fun _ _ _ _ _ _ q'=>q'.elim,fun _ _ _ _ _ _ q'=>q'.elim,fun d v H' s' r' q'=>k d v H' s' r' q',fun _ _ _ _ _ _ _ _ _ q'=>q'.elim,fun _ _ _ _ _ _ _ _ _ _ _ _ _ _ _ _ _ _ q'=>q'.elim,fun _ _ _ _ _ _ _ _ _ _ _ _ _ _ q'=>q'.elim,True.intro⟩⟩
    exact k _ _ H' o'.base .none q'
end
end TL

set_option Elab.async false
set_option linter.all false
set_option maxRecDepth 100000
namespace HT
open PySem PySem.Spec PyProof.Rows
section
variable {prog:Program} {w:World} {A:Around} {E:Value→Shared→Prop} {s:Shared}
theorem getItem_tuple_all {t sl:Addr} {items:Array Value} {vl vu:Value} {lo hi:Option Int} {Q:Value→Shared→Prop} (ht:IsTup s.heap t items) (hs:s.heap.IsSliceOf sl vl vu .none) (pl:IsPart vl lo) (pu:IsPart vu hi)
    (hw:sIx items.size 0 lo=0∧sIx items.size items.size hi=items.size) (h:Q (.ref t) s):wpAny (model prog w) A (getItem (.ref t) (.ref sl)) Q E s:=by
  obtain ⟨os,hos,hcs,hds⟩:=id hs
  have hTs:s.TypeIs (.ref sl) "slice":=⟨os,hos,hcs⟩
  unfold getItem
  try with_reducible refine wpAny_holding ?_
  first | refine wpAny_bind (wpAny_pure ?_) | skip
  refine wpAny_bind (wpAny_sequenceKey ht.typeIs (by decide) ?_)
  refine wpAny_bind (wpAny_callSpecial?_slot (name:=Str.ofString "__getitem__") ht.typeIs PyProof.Rows.slot_tuple_getitem
    (wpAny_call_entry PyProof.Rows.slot_tuple_getitem ht.typeIs entry_tuple_getitem ?_ (args_tuple_getitem _ _)))
  show wpAny _ _ (Builtin.Tuple.tupleItemsOf (.ref t) >>= _) _ _ s
  refine wpAny_bind (tupleItemsOf_ ht ?_)
  refine wpAny_bind (wpAny_typeOf hTs ?_)
  rw [if_pos (by decide)]
  refine wpAny_bind (sliceApplied_gen hs pl pu ?_)
  have hyes:(((sIx items.size 0 lo:Nat):Int) == 0 && (1:Int) == 1 && (sIx items.size items.size hi - sIx items.size 0 lo) == items.size)=true:=by
    rw [hw.1,hw.2]; simp
  show wpAny _ _ (if (((sIx items.size 0 lo:Nat):Int) == 0 && (1:Int) == 1 && (sIx items.size items.size hi - sIx items.size 0 lo) == items.size)=true then _ else _) _ _ s
  rw [if_pos hyes]
  unfold Builtin.Tuple.tupleIsExact
  refine wpAny_bind (wpAny_bind (wpAny_typeOf ht.typeIs (wpAny_pure ?_)))
  rw [if_pos (by decide)]
  first
    | exact wpAny_bind (wpAny_rule (wpAny_bind (wpAny_pure (wpAny_pure ⟨_,rfl,wpAny_pure h⟩))))
    | exact wpAny_bind (wpAny_rule (wpAny_pure ⟨_,rfl,wpAny_pure h⟩))
    | exact wpAny_bind (wpAny_rule (wpAny_bind (wpAny_pure ⟨_,rfl,wpAny_pure h⟩)))
end
end HT

namespace L2
open PySem PySem.Spec PyProof.Rows
section
variable {X:Cx}
def rSlS:V→Option Int→Option Int→Hp→VK→Prop:=fun x lo hi H Q=>∃ z,x=.str z∧z.length≤sizeLine∧Q (.str (Txt.slice z lo hi)) H
theorem sl_str:SlR X rSlS:=by
  intro pins s σ H x v vl vu lo hi sl Q I rx hs pl pu h
  obtain ⟨z,rfl,hz,q⟩:=h
  obtain ⟨t,rfl⟩:=rx
  refine ⟨"str",_,PySem.F.slot_str_getitem.lookup,typeIs_str _ _ _,?_⟩
  have fin:∀ lo hi:Option Int,Q (.str (Txt.slice z lo hi)) H→(Txt.slice z lo hi).length≤sizeLine∧∀ (t':Tok) (k:Nat),EP X pins σ Q (.str (Txt.slice z lo hi) t') { s with toks:=k }:=fun lo hi q =>
    ⟨Nat.le_trans (Txt.slice_le z _ _) hz,fun t' k=>⟨.str _,H,I.tok k,⟨t',rfl⟩,q⟩⟩
  cases pl with
  | none =>
    cases pu with
    | none=>exact wpAny_getItem_str_slice (l:=none) (u:=none) (st:=none) hs rfl (post_val_or_str (fin none none q))
    | int j uj=>exact wpAny_getItem_str_slice (l:=none) (u:=some (j,uj)) (st:=none) hs rfl (post_val_or_str (fin none (some j) q))
  | int i ui =>
    cases pu with
    | none=>exact wpAny_getItem_str_slice (l:=some (i,ui)) (u:=none) (st:=none) hs rfl (post_val_or_str (fin (some i) none q))
    | int j uj=>exact wpAny_getItem_str_slice (l:=some (i,ui)) (u:=some (j,uj)) (st:=none) hs rfl (post_val_or_str (fin (some i) (some j) q))
def rSlT2 (K:PySem.W.Frag):V→Option Int→Option Int→Hp→VK→Prop:=fun x lo hi H Q=>∃ a xs,x=.ref a∧SqT K H a xs ∧
  ((HT.sIx xs.length 0 lo=0∧HT.sIx xs.length xs.length hi=xs.length)→Q (.ref a) H)∧(¬ (HT.sIx xs.length 0 lo=0∧HT.sIx xs.length xs.length hi=xs.length)→∀ p,H p=none→Q (.ref p) (upd H p (.tup (cutV xs lo hi))))
theorem sl_tup2:SlR X (rSlT2 X.K):=by
  intro pins s σ H x v vl vu lo hi sl Q I rx hs pl pu h
  obtain ⟨a,xs,rfl,hx,q1,q2⟩:=h
  by_cases hw:HT.sIx xs.length 0 lo=0∧HT.sIx xs.length xs.length hi=xs.length
  · cases rx
    obtain ⟨its,r,ht,hz⟩:=I.tuple hx
    have hlen:its.toArray.size=xs.length:=by rw [List.size_toArray]; exact r.length.symm
    exact ⟨"tuple",_,PyProof.Rows.slot_tuple_getitem.lookup,ht.typeIs,HT.getItem_tuple_all ht hs pl pu (by rw [hlen]; exact hw) ⟨.ref a,H,I,rfl,q1 hw⟩⟩
  · exact sl_tup pins s σ H (.ref a) v vl vu lo hi sl Q I rx hs pl pu ⟨a,xs,rfl,hx,hw,q2 hw⟩
def rSlAny (K:PySem.W.Frag):V→Option Int→Option Int→Hp→VK→Prop:=fun x lo hi H Q=>rSlL K x lo hi H Q ∨ rSlT2 K x lo hi H Q ∨ rSlS x lo hi H Q
theorem sl_any:SlR X (rSlAny X.K):=sl_list.or (sl_tup2.or sl_str)
def rCatT2 (K:PySem.W.Frag):R2:=fun x y H Q=>∃ a b xs ys,x=.ref a∧y=.ref b∧SqT K H a xs∧SqT K H b ys∧xs.length + ys.length≤sizeLine ∧
  (xs=[]→Q (.ref b) H)∧(xs ≠ []→ys=[]→Q (.ref a) H)∧(xs ≠ []→ys ≠ []→∀ p,H p=none→Q (.ref p) (upd H p (.tup (xs++ys))))
theorem op_catT2:OpR X (binaryOp .Add) (rCatT2 X.K):=by
  intro pins s σ H x y v u Q I rx ry h
  obtain ⟨a,b,xs,ys,rfl,rfl,ha,hb,hz,q0,q1,q2⟩:=h
  by_cases hx:xs=[]
  · cases rx
    cases ry
    obtain ⟨its,r1,p1,_⟩:=I.tuple ha
    obtain ⟨its2,r2,p2,_⟩:=I.tuple hb
    obtain ⟨⟨cls,dd,data,sl⟩,ho,hc,n,hd⟩:=id p1
    obtain ⟨⟨cls2,dd2,data2,sl2⟩,ho2,hc2,n2,hd2⟩:=id p2
    simp only at hc hd hc2 hd2
    subst hc hd hc2 hd2
    have he:its=[]:=r1.nil_iff.mpr hx
    exact concat_meets ⟨_,ho,rfl⟩ ⟨_,ho2,rfl⟩ noFill_tuple_add seq_tuple_add PySem.F.slot_tuple_add PySem.F.entry_tuple_add (PySem.F.args_tuple_add_2 _ _) (tuple_addW0 a b its.toArray its2.toArray n n2 dd dd2 sl sl2 (by simp [he])) ⟨ho,ho2,⟨.ref b,H,I,rfl,q0 hx⟩⟩
  · exact op_catT pins s σ H (.ref a) (.ref b) v u Q I rx ry ⟨a,b,xs,ys,rfl,rfl,ha,hb,hx,hz,q1 hx,q2 hx⟩
def rCatL (K:PySem.W.Frag):R2:=fun x y H Q=>∃ l b xs zs,x=.ref l∧y=.ref b∧SqL K H l xs∧SqL K H b zs∧xs.length + zs.length≤sizeLine∧∀ p,H p=none→Q (.ref p) (upd H p (.lst (xs++zs)))
theorem op_catL:OpR X (binaryOp .Add) (rCatL X.K):=by
  intro pins s σ H x y v u Q I rx ry h
  obtain ⟨l,b,xs,zs,rfl,rfl,ha,hb,hz,q⟩:=h
  cases rx
  cases ry
  obtain ⟨its,r1,⟨⟨cls,dd,data,sl⟩,n,ho,hc,hdd,hd⟩,_⟩:=I.list ha
  obtain ⟨its2,r2,⟨⟨cls2,dd2,data2,sl2⟩,n2,ho2,hc2,hdd2,hd2⟩,_⟩:=I.list hb
  simp only at hc hd hc2 hd2
  subst hc hd hc2 hd2
  have hz':its.toArray.size + its2.toArray.size≤sizeLine:=by rw [List.size_toArray,List.size_toArray,← r1.length,← r2.length]; exact hz
  refine concat_meets ⟨_,ho,rfl⟩ ⟨_,ho2,rfl⟩ noFill_list_add seq_list_add PySem.F.slot_list_add PySem.F.entry_list_add (PySem.F.args_list_add_2 _ _) (list_addW l b its.toArray its2.toArray n n2 dd dd2 sl sl2 hz') ⟨ho,ho2,?_⟩
  have ea:its.toArray++its2.toArray=(its++its2).toArray:=by simp
  rw [ea]
  exact ⟨.ref _,_,I.lnew (t':=s.toks) (r1.append r2) (by rw [List.length_append]; exact hz),rfl,q _ I.fresh⟩
def rAddAny (K:PySem.W.Frag):R2:=fun x y H Q=>(rI0 fun i j=>.int (i + j)) x y H Q ∨ (∃ i j,x=.str i∧y=.str j∧i.length + j.length≤sizeLine∧Q (.str (i++j)) H) ∨ rCatT2 K x y H Q ∨ rCatL K x y H Q
theorem op_addAny:OpR X (binaryOp .Add) (rAddAny X.K):=op_add.or (op_add_str.or (op_catT2.or op_catL))
def rMulAny:R2:=fun x y H Q=>(rI CMul fun i j=>.int (i * j)) x y H Q ∨ ∃ z n,x=.str z∧y=.int n∧z.length≤1000∧0≤n∧n≤1000∧Q (.str (Txt.mul z n)) H
theorem op_mul_str:OpR X (binaryOp .Mult) (fun x y H Q=>∃ z n,x=.str z∧y=.int n∧z.length≤1000∧0≤n∧n≤1000∧Q (.str (Txt.mul z n)) H):=by
  intro pins s σ H x y v u Q I rx ry h
  obtain ⟨z,n,rfl,rfl,hz,h0,h1,q⟩:=h
  obtain ⟨t,rfl⟩:=rx
  obtain ⟨t',rfl⟩:=ry
  refine SB.mul ⟨by simp; omega,fun a _=>?_,fun _ _=>?_⟩ fun t'' k=>⟨.str _,H,I.tok k,⟨t'',rfl⟩,q⟩
  · have hn:1≤n:=by omega
    have:(1000:Int)≤(2 ^ 63 - 1) / n:=by
      rw [Int.le_ediv_iff_mul_le (by omega)]
      omega
    omega
  · have:z.length * n.toNat≤1000 * 1000:=Nat.mul_le_mul hz (by omega)
    unfold Builtin.Str.tooLong
    have hL:sizeLine=2 ^ 24:=rfl
    simp only [decide_eq_false_iff_not]
    omega
theorem op_mulAny:OpR X (binaryOp .Mult) rMulAny:=op_mul.or op_mul_str
theorem call_min_ints (hc:X.calm=true):CallR X (.builtin "min") (fun xs H Q=>∃ (p:Addr) (ns:List Int),xs=[.ref p]∧SqL X.K H p (ns.map V.int)∧ns ≠ []∧∀ m,m ∈ ns→(∀ n ∈ ns,m≤n)→Q (.int m) H):=by
  intro pins s σ H xs us Q I r h
  obtain ⟨p,ns,rfl,hq,hne0,q⟩:=h
  obtain ⟨u,rfl,rx⟩:=vals1 r
  cases rx
  obtain ⟨its,rv,pl,hz⟩:=I.list hq
  have hlen:=rv.length
  rw [List.length_map] at hlen
  have hpos:0 < ns.length:=List.length_pos_iff.mpr hne0
  have hne:p ≠ s.heap.objs.size:=by
    obtain ⟨o,ho,_⟩:=pl.isList
    exact Nat.ne_of_lt (Heap.lt_size ho)
  have hl1:=pl.isList
  have hplt:p < s.heap.objs.size:=by
    obtain ⟨o,ho,_⟩:=hl1
    exact Heap.lt_size ho
  have hval:∀ (i:Nat) (v:Value),its.toArray[i]?=some v→∃ t,v=.int ((ns[i]?).getD 0) t:=fun i v hP=>by
    have hv:its[i]?=some v:=by simpa using hP
    have hi:i < its.length:=(List.getElem?_eq_some_iff.mp hv).1
    have hb:i < ns.length:=by omega
    obtain ⟨w',h1,h2⟩:=rv.get (i:=i) (x:=.int ns[i]) (by rw [List.getElem?_map,List.getElem?_eq_getElem hb]; rfl)
    rw [hv] at h1
    cases h1
    rw [List.getElem?_eq_getElem hb]
    exact h2
  refine call_min_walk (wpAny_pyIter_list hl1 ?_)
  refine ⟨_,_,_,_,_,_,_,rfl,Walks.list (A:=X.A.in1) (I.ok.hd hc) _ p hne its.toArray,⟨⟨_,Heap.get?_push_size _ rfl,rfl,rfl⟩,hl1.push _⟩,fun b hb=>?_,by rw [List.size_toArray]; omega,CmpOf.ints_lt (fun i=>(ns[i]?).getD 0) hval,fun v h' tk hP hk=>?_⟩
  · show b < (s.heap.push _).objs.size
    rw [Heap.size_push]
    have:b=s.heap.objs.size ∨ b=p:=by simpa using hb
    rcases this with rfl | rfl
    · exact Nat.lt_succ_self _
    · exact Nat.lt_succ_of_lt hplt
  · obtain ⟨t,rfl⟩:=hval _ _ hP
    have hb:=argBest_lt (fun i=>(ns[i]?).getD 0) (its.toArray.size - 1)
    have hsz:its.toArray.size=ns.length:=by rw [List.size_toArray]; omega
    have hi:argBest (fun i j=>decide ((ns[i]?).getD 0 < (ns[j]?).getD 0)) (its.toArray.size - 1) < ns.length:=by have:=hb.1; omega
    refine ⟨.int _,H,I.kept fun b o e=>hk b o ?_ (Heap.get?_push_of_some _ e),⟨t,rfl⟩,q _ ?_ fun n hn=>?_⟩
    · intro z
      have:b=s.heap.objs.size:=by simpa using z
      exact absurd (Heap.lt_size e) (by rw [this]; exact Nat.lt_irrefl _)
    · rw [List.getElem?_eq_getElem hi]
      exact List.getElem_mem hi
    · obtain ⟨j,hj,rfl⟩:=List.mem_iff_getElem.mp hn
      have:=hb.2 j (by omega)
      rw [List.getElem?_eq_getElem hj] at this
      exact this
def rIsB:R2:=fun x y H Q=>∃ b,y=.bl b∧Q (.bl (decide (x=.bl b))) H
def rIsNotB:R2:=fun x y H Q=>∃ b,y=.bl b∧Q (.bl (!decide (x=.bl b))) H
theorem is_bl {x:V} {v:Value} {b:Bool} (r:RelV x v):plainIs v (.bool b)=true∧(v == Value.bool b)=decide (x=.bl b):=by
  cases x with
  | non=>cases r; exact ⟨rfl,rfl⟩
  | bl c=>cases r; cases b <;> cases c <;> exact ⟨rfl,rfl⟩
  | int _=>obtain ⟨t,rfl⟩:=r; exact ⟨rfl,rfl⟩
  | str _=>obtain ⟨t,rfl⟩:=r; exact ⟨rfl,rfl⟩
  | byt _=>obtain ⟨t,rfl⟩:=r; exact ⟨rfl,rfl⟩
  | flt _=>obtain ⟨t,rfl⟩:=r; exact ⟨rfl,rfl⟩
  | ref _=>cases r; exact ⟨rfl,rfl⟩
  | ty _=>cases r; exact ⟨rfl,rfl⟩
theorem op_isNotB:OpR X (compareOp .IsNot) rIsNotB:=by
  intro pins s σ H x y v u Q I rx ry h
  obtain ⟨b,rfl,q⟩:=h
  cases ry
  obtain ⟨h1,h2⟩:=is_bl (b:=b) rx
  refine wpAny_isNot_plain h1 ?_
  rw [h2]
  exact ⟨.bl _,H,I,rfl,q⟩
theorem op_isB:OpR X (compareOp .Is) rIsB:=by
  intro pins s σ H x y v u Q I rx ry h
  obtain ⟨b,rfl,q⟩:=h
  cases ry
  obtain ⟨h1,h2⟩:=is_bl (b:=b) rx
  refine wpAny_is_plain h1 ?_
  rw [h2]
  exact ⟨.bl _,H,I,rfl,q⟩
theorem strs_of:∀ {ys:List Str} {us:List Value},Vals (ys.map V.str) us→StrsAre us ys
  | [],_,r=>by rw [List.map_nil] at r; cases r; exact .nil
  | y::ys,us,r=>by
    rw [List.map_cons] at r
    cases r with
    | cons r1 r2 =>
      obtain ⟨t,rfl⟩:=r1
      exact .cons y t (strs_of r2)
theorem mt_join:MtR X "str.join" (fun x xs H Q=>∃ z p ys,x=.str z∧xs=[.ref p]∧SqL X.K H p (ys.map V.str)∧(ys.map (·.length)).sum + ys.length * z.length≤16777216∧Q (.str (Txt.join z ys)) H):=by
  intro pins s σ H x xs v us Q I rx r h
  obtain ⟨z,p,ys,rfl,rfl,hq,hz,q⟩:=h
  obtain ⟨t,rfl⟩:=rx
  obtain ⟨u,rfl,ru⟩:=vals1 r
  cases ru
  obtain ⟨its,rv,pl,_⟩:=I.list hq
  exact PyProof.Rows.join_list pl.isList (by simpa using strs_of rv) hz fun t' k=>⟨.str _,H,I.tok k,⟨t',rfl⟩,q⟩
def tyName (K:PySem.W.Frag) (H:Hp):V→String→Prop
  | .non,T=>T="NoneType"
  | .bl _,T=>T="bool"
  | .int _,T=>T="int"
  | .str _,T=>T="str"
  | .ref p,T=>(T="list"∧∃ xs,SqL K H p xs) ∨ (T="tuple"∧∃ xs,SqT K H p xs) ∨ (T="list"∧∃ P,H p=some (.ext P)∧∀ h:Heap,P h→∃ o,h.get? p=some o∧o.cls=.type "list")
  | _,_=>False
theorem isinst2 {pins:List (Addr × Obj)} {σ:L2.St} {H:Hp} {s:Shared} {A:Around} {E:Value→Shared→Prop} {Q:Value→Shared→Prop} {x:V} {u c:Value} {T:String} {b:Bool} (I:Inv X pins σ H s) (rx:RelV x u) (ty:tyName X.K H x T)
    (e:PySem.W.kitOne X.K (.type T) c=some b) (h:∀ tk,Q (.bool b) { s with toks:=tk }):wpAny (model X.prog X.w) A (call (.builtin "isinstance") [u,c]) Q E s:=by
  cases x with
  | non=>cases (show T="NoneType" from ty); exact isinst_ok I rx .non e h
  | bl y=>cases (show T="bool" from ty); exact isinst_ok I rx (.bl y) e h
  | int i=>cases (show T="int" from ty); exact isinst_ok I rx (.int i) e h
  | str y=>cases (show T="str" from ty); exact isinst_ok I rx (.str y) e h
  | ref p =>
    cases rx
    rcases ty with ⟨rfl,xs,hq⟩ | ⟨rfl,xs,hq⟩ | ⟨rfl,P,hq,hP⟩
    · obtain ⟨its,_,pl,_⟩:=I.list hq
      obtain ⟨o,n,ho,hc,_⟩:=pl
      exact PySem.W.kia_one PySem.W.kitx_list I.kIn ⟨o,ho,hc⟩ e (fun z=>nomatch z) h
    · obtain ⟨its,_,pl,_⟩:=I.tuple hq
      obtain ⟨o,ho,hc,_⟩:=pl
      exact PySem.W.kia_one PySem.W.kitx_tuple I.kIn ⟨o,ho,hc⟩ e (fun z=>nomatch z) h
    · obtain ⟨o,ho,hc⟩:=hP _ (I.hok p _ hq).1
      exact PySem.W.kia_one PySem.W.kitx_list I.kIn ⟨o,ho,hc⟩ e (fun z=>nomatch z) h
  | _=>exact False.elim ty
end
end L2

set_option Elab.async false
set_option linter.all false
set_option maxRecDepth 100000
namespace L2
open PySem PySem.Spec PyProof.Rows
section
variable {prog:Program} {w:World} {A:Around}
end
section
variable {X:Cx}
end
end L2

set_option Elab.async false
set_option linter.all false
set_option maxRecDepth 100000
namespace TL
open PySem PySem.Spec PyProof.Rows L2
variable {K:PySem.W.Frag} {H H' H1 H2:Hp} {B:Hp} {p0 ps:List Addr} {σT:List Sl} {σ:L2.St}
section
variable {X:Cx} {a b c e:Expr} {es:List Expr} {ta tb tc te:ET} {pos p:Pos}
def fI (C:Int→Int→Prop) (g:Int→Int→Int):D→D→(D→Prop)→Prop
  | .int i,.int j,Q=>C i j∧Q (.int (g i j))
  | _,_,_=>False
def fI0 (g:Int→Int→Int):D→D→(D→Prop)→Prop
  | .int i,.int j,Q=>Q (.int (g i j))
  | _,_,_=>False
def fB0 (g:Int→Int→Bool):D→D→(D→Prop)→Prop
  | .int i,.int j,Q=>Q (.bool (g i j))
  | _,_,_=>False
theorem o_I {C:Int→Int→Prop} {g:Int→Int→Int}:Op2 X (rI C fun i j=>.int (g i j)) (fI C g):=by
  intro H ps d1 d2 x y Q QV live r1 r2 h k
  cases r1 with
  | int i =>
    cases r2 with
    | int j=>exact ⟨i,j,rfl,rfl,h.1,k _ _ H (L2.Same.refl H) (.int _) h.2⟩
    | _=>exact h.elim
  | _=>exact h.elim
theorem o_I0 {g:Int→Int→Int}:Op2 X (rI0 fun i j=>.int (g i j)) (fI0 g):=by
  intro H ps d1 d2 x y Q QV live r1 r2 h k
  cases r1 with
  | int i =>
    cases r2 with
    | int j=>exact ⟨i,j,rfl,rfl,k _ _ H (L2.Same.refl H) (.int _) h⟩
    | _=>exact h.elim
  | _=>exact h.elim
theorem o_B0 {g:Int→Int→Bool}:Op2 X (rI0 fun i j=>.bl (g i j)) (fB0 g):=by
  intro H ps d1 d2 x y Q QV live r1 r2 h k
  cases r1 with
  | int i =>
    cases r2 with
    | int j=>exact ⟨i,j,rfl,rfl,k _ _ H (L2.Same.refl H) (.bool _) h⟩
    | _=>exact h.elim
  | _=>exact h.elim
def fAdd:D→D→(D→Prop)→Prop
  | .int i,.int j,Q=>Q (.int (i + j))
  | .str x,.str y,Q=>x.length + y.length≤100000∧Q (.str (x++y))
  | .tuple x,.tuple y,Q=>x.length + y.length≤100000∧Q (.tuple (x++y))
  | .list x,.list y,Q=>x.length + y.length≤100000∧Q (.list (x++y))
  | _,_,_=>False
theorem line5 {n:Nat} (h:n≤100000):n≤sizeLine:=by have:sizeLine=2 ^ 24:=rfl; omega
theorem o_add:Op2 X (rAddAny X.K) fAdd:=by
  intro H ps d1 d2 x y Q QV live r1 r2 h k
  cases r1 with
  | int i =>
    cases r2 with
    | int j=>exact .inl ⟨i,j,rfl,rfl,k _ _ H (L2.Same.refl H) (.int _) h⟩
    | _=>exact h.elim
  | str i =>
    cases r2 with
    | str j=>exact .inr (.inl ⟨i,j,rfl,rfl,line5 h.1,k _ _ H (L2.Same.refl H) (.str _) h.2⟩)
    | _=>exact h.elim
  | tuple q1 s1 =>
    cases r2 with
    | tuple q2 s2 =>
      refine .inr (.inr (.inl ⟨_,_,_,_,rfl,rfl,Same.seqT mask_le q1,Same.seqT mask_le q2,line5 (by rw [← s1.length,← s2.length]; exact h.1),fun z=>?_,fun z1 z2=>?_,fun z1 z2 p hp=>?_⟩))
      · subst z
        cases s1
        exact k _ _ H (L2.Same.refl H) (.tuple q2 s2) h.2
      · subst z2
        cases s2
        have e:=h.2
        rw [List.append_nil] at e
        exact k _ _ H (L2.Same.refl H) (.tuple q1 s1) e
      · exact k _ _ _ (same_new hp) (rep_tup live hp (s1.append s2)) h.2
    | _=>exact h.elim
  | list q1 s1 =>
    cases r2 with
    | list q2 s2 =>
      exact .inr (.inr (.inr ⟨_,_,_,_,rfl,rfl,L2.Same.seq mask_le q1,L2.Same.seq mask_le q2,line5 (by rw [← s1.length,← s2.length]; exact h.1),fun p hp=>k _ _ _ (same_new hp) (rep_lst live hp (s1.append s2)) h.2⟩))
    | _=>exact h.elim
  | _=>exact h.elim
def fMul:D→D→(D→Prop)→Prop
  | .int i,.int j,Q=>CMul i j∧Q (.int (i * j))
  | .str z,.int n,Q=>z.length≤1000∧0≤n∧n≤1000∧Q (.str (Txt.mul z n))
  | _,_,_=>False
theorem o_mul:Op2 X rMulAny fMul:=by
  intro H ps d1 d2 x y Q QV live r1 r2 h k
  cases r1 with
  | int i =>
    cases r2 with
    | int j=>exact .inl ⟨i,j,rfl,rfl,h.1,k _ _ H (L2.Same.refl H) (.int _) h.2⟩
    | _=>exact h.elim
  | str z =>
    cases r2 with
    | int n=>exact .inr ⟨z,n,rfl,rfl,h.1,h.2.1,h.2.2.1,k _ _ H (L2.Same.refl H) (.str _) h.2.2.2⟩
    | _=>exact h.elim
  | _=>exact h.elim
def eqF:D→D→Option Bool
  | .none,.none=>some true
  | .bool x,.bool y=>some (decide (x=y))
  | .int x,.int y=>some (decide (x=y))
  | .str x,.str y=>some (decide (x=y))
  | .str _,.none | .none,.str _=>some false
  | _,_=>none
def fEq (x y:D) (Q:D→Prop):Prop:=match eqF x y with | some c=>Q (.bool c) | none=>False
def fNe (x y:D) (Q:D→Prop):Prop:=match eqF x y with | some c=>Q (.bool (!c)) | none=>False
theorem eqF_scal {x y:D} {u v:V} {c:Bool} (r1:Rep K H x u) (r2:Rep K H y v) (h:eqF x y=some c):scal u v=true∧decide (u=v)=c:=by
  cases r1 <;> cases r2 <;> simp [eqF] at h <;> subst h <;> exact ⟨rfl,by simp⟩
theorem o_eq:Op2 X rEq fEq:=by
  intro H ps d1 d2 x y Q QV live r1 r2 h k
  unfold fEq at h
  cases e:eqF d1 d2 with
  | none=>rw [e] at h; exact h.elim
  | some c =>
    rw [e] at h
    obtain ⟨h1,h2⟩:=eqF_scal r1 r2 e
    refine ⟨h1,?_⟩
    rw [h2]
    exact k _ _ H (L2.Same.refl H) (.bool c) h
theorem o_ne:Op2 X rNe fNe:=by
  intro H ps d1 d2 x y Q QV live r1 r2 h k
  unfold fNe at h
  cases e:eqF d1 d2 with
  | none=>rw [e] at h; exact h.elim
  | some c =>
    rw [e] at h
    obtain ⟨h1,h2⟩:=eqF_scal r1 r2 e
    refine ⟨h1,?_⟩
    rw [h2]
    exact k _ _ H (L2.Same.refl H) (.bool (!c)) h
def isTrueD (b:Bool):D→Bool
  | .bool c=>decide (c=b)
  | _=>false
theorem Reps.atI {ds:List D} {vs:List V} {i:Int} {d:D} (r:Reps K H ds vs) (h:atI ds i=some d):∃ v,atI vs i=some v∧Rep K H d v:=by
  unfold L2.atI at h ⊢
  rw [← r.length]
  cases e:ixN ds.length i with
  | none=>rw [e] at h; cases h
  | some j =>
    rw [e] at h
    exact r.get h
inductive ItemAt (ts:List D) (i:Int) (Q:D→Prop):Prop
  | mk (d:D) (h:atI ts i=some d) (k:Q d):ItemAt ts i Q
def fIx (x y:D) (Q:D→Prop):Prop:=match x,y with
  | .list ts,.int i=>ItemAt ts i Q
  | .tuple ts,.int i=>ItemAt ts i Q
  | .str z,.int i=>z.length≤100000∧∃ c,atI z.cps.toList i=some c∧Q (.str ⟨#[c]⟩)
  | _,_=>False
theorem o_ix:Op2 X (rIx X.K) fIx:=by
  intro H ps d1 d2 x y Q QV live r1 r2 h k
  cases r2 with
  | int i =>
    cases r1 with
    | list q s =>
      obtain ⟨d,e,h⟩:=h
      obtain ⟨v,e',r⟩:=s.atI e
      exact .inl ⟨_,_,i,v,rfl,rfl,L2.Same.seq mask_le q,e',k _ _ H (L2.Same.refl H) r h⟩
    | tuple q s =>
      obtain ⟨d,e,h⟩:=h
      obtain ⟨v,e',r⟩:=s.atI e
      exact .inr (.inl ⟨_,_,i,v,rfl,rfl,Same.seqT mask_le q,e',k _ _ H (L2.Same.refl H) r h⟩)
    | str z =>
      obtain ⟨hz,c,e,h⟩:=h
      exact .inr (.inr ⟨z,i,c,rfl,rfl,line5 hz,e,k _ _ H (L2.Same.refl H) (.str _) h⟩)
    | _=>exact h.elim
  | _=>cases d1 <;> exact h.elim
def cutD {α:Type} (xs:List α) (lo hi:Option Int):List α:=(xs.drop (HT.sIx xs.length 0 lo)).take (HT.sIx xs.length xs.length hi - HT.sIx xs.length 0 lo)
def fSl (x:D) (lo hi:Option Int) (Q:D→Prop):Prop:=match x with
  | .list ts=>Q (.list (cutD ts lo hi))
  | .tuple ts=>Q (.tuple (cutD ts lo hi))
  | .str z=>z.length≤100000∧Q (.str (Txt.slice z lo hi))
  | _=>False
theorem Reps.cut {ds:List D} {vs:List V} (r:Reps K H ds vs) (lo hi:Option Int):Reps K H (cutD ds lo hi) (cutV vs lo hi):=by
  unfold cutD cutV
  rw [r.length]
  exact (r.drop _).take _
theorem o_sl:SlT X (rSlAny X.K) fSl:=by
  intro H ps d x lo hi Q QV live r h k
  cases r with
  | list q s=>exact .inl ⟨_,_,rfl,L2.Same.seq mask_le q,fun p hp=>k _ _ _ (same_new hp) (rep_lst live hp (s.cut lo hi)) h⟩
  | @tuple p xs ts q s =>
    refine .inr (.inl ⟨_,_,rfl,Same.seqT mask_le q,fun z=>?_,fun _ p hp=>k _ _ _ (same_new hp) (rep_tup live hp (s.cut lo hi)) h⟩)
    have e:cutD ts lo hi=ts:=by
      unfold cutD
      rw [s.length,z.1,z.2,Nat.sub_zero,List.drop_zero,← s.length,List.take_length]
    have h':Q (.tuple (cutD ts lo hi)):=h
    rw [e] at h'
    exact k _ _ H (L2.Same.refl H) (.tuple q s) h'
  | str z=>exact .inr (.inr ⟨z,rfl,line5 h.1,k _ _ H (L2.Same.refl H) (.str _) h.2⟩)
  | _=>exact h.elim
theorem reps_strs:∀ {ys:List Str} {vs:List V},Reps K H (ys.map PyData.str) vs→vs=ys.map V.str
  | [],_,r=>by rw [List.map_nil] at r; cases r; rfl
  | y::ys,vs,r=>by
    rw [List.map_cons] at r
    cases r with
    | cons r1 r2 =>
      cases r1
      rw [List.map_cons,reps_strs r2]
theorem et_cb {r:List V→Hp→VK→Prop} {f:List D→(D→Prop)→Prop} {t:AT} {g:Expr} (hf:CallT X r f) (ha:PAt X (e::es) t) (pc:∀ {ta:TA},PA X (e::es) ta→PE X (.Call g (e::es) [] pos) (tCB r ta)):PEt X (.Call g (e::es) [] pos) (eCall f t):=by
  obtain ⟨v,pa,ra⟩:=ha
  refine ⟨_,pc pa,fun B p0 H ps σT σ Q QV o h k=>ra B p0 H ps σT σ _ _ o h fun ds xs H1 s1 r1 q1=>?_⟩
  exact hf H1 ps ds xs Q QV (o.grow s1).live r1 q1 fun d v H' s' r' q'=>k d v H' (s1.trans s') r' q'
def f1 (f:D→(D→Prop)→Prop):List D→(D→Prop)→Prop
  | [d],Q=>f d Q
  | _,_=>False
theorem c1 {r:List V→Hp→VK→Prop} {f:D→(D→Prop)→Prop} (h:∀ (H:Hp) (ps:List Addr) (d:D) (x:V) (Q:D→Prop) (QV:VK),(∀ p ∈ ps,H p ≠ none)→Rep X.K (mask H ps) d x→f d Q →
    (∀ d v H',Same H H'→Rep X.K (mask H' ps) d v→Q d→QV v H')→r [x] H QV):CallT X r (f1 f):=by
  intro H ps ds xs Q QV live rs hf k
  cases rs with
  | nil=>exact hf.elim
  | cons r1 r2 =>
    cases r2 with
    | nil=>exact h H ps _ _ Q QV live r1 hf k
    | cons _ _=>exact hf.elim
def gLen (d:D) (Q:D→Prop):Prop:=match d with
  | .list ts=>Q (.int ts.length)
  | .tuple ts=>Q (.int ts.length)
  | .str z=>z.length≤100000∧Q (.int z.length)
  | _=>False
theorem call_lenAny:CallR X (.builtin "len") (fun xs H Q=>(∃ p ys,xs=[.ref p]∧(SqL X.K H p ys ∨ SqT X.K H p ys)∧Q (.int ys.length) H) ∨ ∃ z,xs=[.str z]∧z.length≤sizeLine∧Q (.int z.length) H):=call_len_seq.or call_len_str
theorem c_len:CallT X (fun xs H Q=>(∃ p ys,xs=[.ref p]∧(SqL X.K H p ys ∨ SqT X.K H p ys)∧Q (.int ys.length) H) ∨ ∃ z,xs=[.str z]∧z.length≤sizeLine∧Q (.int z.length) H) (f1 gLen):=c1 fun H ps d x Q QV live r h k=>by
  cases r with
  | list q s =>
    refine .inl ⟨_,_,rfl,.inl (L2.Same.seq mask_le q),?_⟩
    rw [← s.length]
    exact k _ _ H (L2.Same.refl H) (.int _) h
  | tuple q s =>
    refine .inl ⟨_,_,rfl,.inr (Same.seqT mask_le q),?_⟩
    rw [← s.length]
    exact k _ _ H (L2.Same.refl H) (.int _) h
  | str z=>exact .inr ⟨z,rfl,line5 h.1,k _ _ H (L2.Same.refl H) (.int _) h.2⟩
  | _=>exact h.elim
def gTuple (d:D) (Q:D→Prop):Prop:=match d with
  | .list ts=>Q (.tuple ts)
  | .tuple ts=>Q (.tuple ts)
  | _=>False
theorem c_tuple:CallT X (fun xs H Q=>∃ p ys,xs=[.ref p]∧((SqL X.K H p ys∧∀ l,H l=none→Q (.ref l) (upd H l (.tup ys))) ∨ (SqT X.K H p ys∧Q (.ref p) H))) (f1 gTuple):=c1 fun H ps d x Q QV live r h k=>by
  cases r with
  | list q s=>exact ⟨_,_,rfl,.inl ⟨L2.Same.seq mask_le q,fun l hl=>k _ _ _ (same_new hl) (rep_tup live hl s) h⟩⟩
  | tuple q s=>exact ⟨_,_,rfl,.inr ⟨Same.seqT mask_le q,k _ _ H (L2.Same.refl H) (.tuple q s) h⟩⟩
  | _=>exact h.elim
def gList (d:D) (Q:D→Prop):Prop:=match d with
  | .list ts=>Q (.list ts)
  | .tuple ts=>Q (.list ts)
  | _=>False
theorem c_list:CallT X (fun xs H Q=>∃ p ys,xs=[.ref p]∧(SqL X.K H p ys ∨ SqT X.K H p ys)∧∀ l,H l=none→Q (.ref l) (upd H l (.lst ys))) (f1 gList):=c1 fun H ps d x Q QV live r h k=>by
  cases r with
  | list q s=>exact ⟨_,_,rfl,.inl (L2.Same.seq mask_le q),fun l hl=>k _ _ _ (same_new hl) (rep_lst live hl s) h⟩
  | tuple q s=>exact ⟨_,_,rfl,.inr (Same.seqT mask_le q),fun l hl=>k _ _ _ (same_new hl) (rep_lst live hl s) h⟩
  | _=>exact h.elim
theorem reps_ints:∀ {ys:List Int} {vs:List V},Reps K H (ys.map PyData.int) vs→vs=ys.map V.int
  | [],_,r=>by rw [List.map_nil] at r; cases r; rfl
  | y::ys,vs,r=>by
    rw [List.map_cons] at r
    cases r with
    | cons r1 r2 =>
      cases r1
      rw [List.map_cons,reps_ints r2]
def gMin (d:D) (Q:D→Prop):Prop:=∃ ns:List Int,d=.list (ns.map PyData.int)∧ns ≠ []∧∀ m,m ∈ ns→(∀ n ∈ ns,m≤n)→Q (.int m)
theorem c_min:CallT X (fun xs H Q=>∃ (p:Addr) (ns:List Int),xs=[.ref p]∧SqL X.K H p (ns.map V.int)∧ns ≠ []∧∀ m,m ∈ ns→(∀ n ∈ ns,m≤n)→Q (.int m) H) (f1 gMin):=c1 fun H ps d x Q QV live r h k=>by
  obtain ⟨ns,rfl,hne,h⟩:=h
  cases r with
  | list q s =>
    have e:=reps_ints s
    subst e
    exact ⟨_,ns,rfl,L2.Same.seq mask_le q,hne,fun m h1 h2=>k _ _ H (L2.Same.refl H) (.int _) (h m h1 h2)⟩
def tyD:D→String
  | .none=>"NoneType"
  | .bool _=>"bool"
  | .int _=>"int"
  | .str _=>"str"
  | .list _=>"list"
  | .tuple _=>"tuple"
  | .dict []=>"list"
  | .dict [(.none,_)]=>"list"
  | .dict _=>"dict"
def isT (T:String) (d:D):Bool:=(tyD d == T) || (T == "int" && tyD d == "bool")
theorem isT_exc {T:String} {i:Int} {x:D} (h:T ∈ ["int","str","list","tuple","bool"]):isT T (.dict [(.int i,x)])=false:=by
  simp only [List.mem_cons,List.not_mem_nil,or_false] at h
  rcases h with rfl | rfl | rfl | rfl | rfl <;> rfl
def isiQ (T:String) (d:D) (Q:D→Prop):Prop:=match d with | .dict ((.str _,_)::_)=>False | d=>Q (.bool (isT T d))
theorem isiQ_of {T:String} {d:D} {Q:D→Prop} (h:∀ x y r,d ≠ .dict ((.str x,y)::r)) (q:isiQ T d Q):Q (.bool (isT T d)):=by
  unfold isiQ at q
  split at q
  · exact q.elim
  · exact q
def eIsi (T:String) (te:ET):ET:=fun σ Q=>te σ fun d=>isiQ T d Q
def KitOk (K:PySem.W.Frag) (T:String):Prop:=∀ tn ∈ ["NoneType","bool","int","str","list","tuple"],PySem.W.kitOne K (.type tn) (.type T)=some ((tn == T) || (T == "int" && tn == "bool"))
def rIsi (K:PySem.W.Frag) (T:String):List V→Hp→VK→Prop:=fun xs H Q=>∃ x b,xs=[x,.ty T]∧((∃ Tn,tyName K H x Tn∧PySem.W.kitOne K (.type Tn) (.type T)=some b) ∨ (∃ p C dx,x=.ref p∧H p=some (.ext (excAt p C dx))∧(∀ d,dx=some d→∃ fs,H d=some (.xd fs))∧XCls K C∧PySem.W.kitOne K (.ref C) (.type T)=some b))∧Q (.bl b) H
theorem isinst_exc {pins:List (Addr × Obj)} {s:Shared} {σ:L2.St} {H:Hp} {A:Around} {E:Value→Shared→Prop} {Q:Value→Shared→Prop} {p C:Addr} {dx:Option Addr} {c:Value} {b:Bool} (I:Inv X pins σ H s) (hp:H p=some (.ext (excAt p C dx))) (hd:∀ d,dx=some d→∃ fs,H d=some (.xd fs)) (x:XCls X.K C)
    (e:PySem.W.kitOne X.K (.ref C) c=some b) (h:∀ tk,Q (.bool b) { s with toks:=tk }):wpAny (model X.prog X.w) A (call (.builtin "isinstance") [.ref p,c]) Q E s:=by
  refine PySem.W.kia_one (kitx_exc x) I.kIn ?_ e (fun z=>nomatch z) h
  obtain ⟨⟨o,vs,h1,h2,h3,h4⟩,_⟩:=I.hok p _ hp
  have hn:PySem.W.notCls o=true:=by unfold PySem.W.notCls; rw [h4]
  cases dx with
  | none=>exact ⟨o,none,h1,h2,hn,by rw [h3]; trivial⟩
  | some d =>
    obtain ⟨fs,hf⟩:=hd d rfl
    obtain ⟨mA,⟨od,es,ep,he,_⟩,_⟩:=I.hok d _ hf
    exact ⟨o,some od,h1,h2,hn,by rw [h3]; exact he⟩
theorem call_isi {T:String}:CallR X (.builtin "isinstance") (rIsi X.K T):=by
  intro pins s σ H xs us Q I r h
  obtain ⟨x,b,rfl,⟨Tn,ht,hk⟩ | ⟨p,C,dx,rfl,hp,hd,hx,hk⟩,q⟩:=h
  · obtain ⟨u,w,rfl,ru,rw'⟩:=vals2 r
    cases rw'
    exact isinst2 I ru ht hk fun tk=>⟨.bl b,H,I.tok tk,rfl,q⟩
  · obtain ⟨u,w,rfl,ru,rw'⟩:=vals2 r
    cases rw'
    cases ru
    exact isinst_exc I hp hd hx hk fun tk=>⟨.bl b,H,I.tok tk,rfl,q⟩
theorem et_isi {T:String} {g1 g2:Expr} (hk:KitOk X.K T) (he:PEt X e te)
    (pc:∀ {v:TE},PE X e v→PE X (.Call g1 [e,g2] [] pos) (tCB (rIsi X.K T) (tCons v (tCons (tC (.ty T)) tNil))))
    (hT:T ∈ ["int","str","list","tuple","bool"]:=by decide):PEt X (.Call g1 [e,g2] [] pos) (eIsi T te):=by
  obtain ⟨v,pe,re⟩:=he
  refine ⟨_,pc pe,fun B p0 H ps σT σ Q QV o h k=>re B p0 H ps σT σ _ _ o h fun d x H1 s1 r1 q1=>?_⟩
  have fin:∀ tn,tn ∈ ["NoneType","bool","int","str","list","tuple"]→tyD d=tn→tyName X.K H1 x tn→rIsi X.K T [x,V.ty T] H1 QV:=fun tn hm ht hn=>by
    refine ⟨x,_,rfl,.inl ⟨tn,hn,hk tn hm⟩,?_⟩
    have q:Q (.bool (isT T d)):=isiQ_of (fun x y r z=>by subst z; have z2:("dict":String)=tn:=ht; subst z2; exact absurd hm (by decide)) q1
    unfold isT at q
    rw [ht] at q
    exact k _ _ H1 s1 (.bool _) q
  cases r1 with
  | none=>exact fin "NoneType" (by simp) rfl rfl
  | bool b=>exact fin "bool" (by simp) rfl rfl
  | int i=>exact fin "int" (by simp) rfl rfl
  | str z=>exact fin "str" (by simp) rfl rfl
  | list q s=>exact fin "list" (by simp) rfl (.inl ⟨rfl,_,L2.Same.seq mask_le q⟩)
  | tuple q s=>exact fin "tuple" (by simp) rfl (.inr (.inl ⟨rfl,_,Same.seqT mask_le q⟩))
  | wild h=>exact fin "list" (by simp) rfl (.inr (.inr ⟨rfl,_,mask_le _ _ h,fun _ ⟨_,_,e,_⟩=>⟨_,e,rfl⟩⟩))
  | tape h _=>exact fin "list" (by simp) rfl (.inr (.inr ⟨rfl,_,mask_le _ _ h,fun _ ⟨_,_,_,_,_,_,_,e,_⟩=>⟨_,e,rfl⟩⟩))
  | exc x h =>
    refine ⟨_,false,rfl,.inr ⟨_,_,_,rfl,mask_le _ _ h,(fun _ z=>nomatch z),x.1,x.2 T hT⟩,?_⟩
    have q2:Q (.bool (isT T (.dict _))):=q1
    rw [isT_exc hT] at q2
    exact k _ _ H1 s1 (.bool _) q2
  | excA x h g =>
    refine ⟨_,false,rfl,.inr ⟨_,_,_,rfl,mask_le _ _ h,fun _ z=>by cases z; exact ⟨_,mask_le _ _ g⟩,x.1,x.2 T hT⟩,?_⟩
    have q2:Q (.bool (isT T (.dict _))):=q1
    rw [isT_exc hT] at q2
    exact k _ _ H1 s1 (.bool _) q2
  | dct _ _ _ _=>exact (show False from q1).elim
  | addr z=>exact (show False from q1).elim
  | ins _ _=>exact (show False from q1).elim
def gJoin (z:Str) (ds:List D) (Q:D→Prop):Prop:=match ds with | [.list ts]=>∃ ys:List Str,ts=ys.map PyData.str∧(ys.map (·.length)).sum + ys.length * z.length≤16777216∧Q (.str (Txt.join z ys)) | _=>False
def sUnp (i j:Nat) (te:ET):STt:=fun DT σ=>te σ fun d=>gP i j d σ DT.nx
theorem st_unp {i j:Nat} {tg:Expr} {g:TG} (he:PEt X e te) (hg:PGt X tg (gP i j)) (pa:∀ {v:TE} {gv:TG},PE X e v→PG X tg gv→PS X (.Assign [tg] e pos) (tAsg v gv)):PSt X (.Assign [tg] e pos) (sUnp i j te):=by
  obtain ⟨v,pe,re⟩:=he
  obtain ⟨gv,pg,rg⟩:=hg
  refine ⟨_,pa pe pg,fun B p0 H ps σT σ DT DV o h f=>re B p0 H ps σT σ _ _ o h fun d x H1 s1 r1 q1=>?_⟩
  exact rg B p0 H1 ps σT σ d x _ _ (o.grow s1) r1 q1 fun σT' σ' o' _ q'=>f.nx H1 ps _ _ o' (mask_same s1) q'
mutual
theorem Rep.reads {pins:List (Addr × Obj)} {s:Shared} {σ:L2.St} (I:Inv X pins σ H s):∀ {d:D} {x:V} {u:Value},d.hasDict=false→Rep X.K H d x→RelV x u→∃ as,Reads s.heap u d as
  | _,_,_,_,.none,r=>by cases r; exact ⟨_,.none⟩
  | _,_,_,_,.bool b,r=>by cases r; exact ⟨_,.bool b⟩
  | _,_,_,_,.int i,r=>by obtain ⟨t,rfl⟩:=r; exact ⟨_,.int i t⟩
  | _,_,_,_,.str z,r=>by obtain ⟨t,rfl⟩:=r; exact ⟨_,.str z t⟩
  | _,_,_,hd,.list q rs,r=>by
    cases r
    obtain ⟨its,rv,⟨o,n,h1,h2,_,h3⟩,_⟩:=I.list q
    obtain ⟨as,h4⟩:=Reps.reads I hd rs rv
    exact ⟨_,.list h1 h2 h3 (by simpa using h4)⟩
  | _,_,_,hd,.tuple q rs,r=>by
    cases r
    obtain ⟨its,rv,⟨o,h1,h2,n,h3⟩,_⟩:=I.tuple q
    obtain ⟨as,h4⟩:=Reps.reads I hd rs rv
    exact ⟨_,.tuple h1 h2 h3 (by simpa using h4)⟩
  | _,_,_,hd,.wild _,_=>by cases hd
  | _,_,_,hd,.exc _ _,_=>by cases hd
  | _,_,_,hd,.excA _ _ _,_=>by cases hd
  | _,_,_,hd,.tape _ _,_=>by cases hd
  | _,_,_,hd,.addr _,_=>by cases hd
theorem Reps.reads {pins:List (Addr × Obj)} {s:Shared} {σ:L2.St} (I:Inv X pins σ H s):∀ {ds:List D} {xs:List V} {us:List Value},PyData.hasDictAll ds=false→Reps X.K H ds xs→Vals xs us→∃ as,ReadsAll s.heap us ds as
  | _,_,_,_,.nil,r=>by cases r; exact ⟨_,.nil⟩
  | d::ds,_,_,hd,.cons r1 r2,r=>by
    have hd':(d.hasDict || PyData.hasDictAll ds)=false:=hd
    rw [Bool.or_eq_false_iff] at hd'
    cases r with
    | cons v1 v2 =>
      obtain ⟨as,h1⟩:=Rep.reads I hd'.1 r1 v1
      obtain ⟨bs,h2⟩:=Reps.reads I hd'.2 r2 v2
      exact ⟨_,.cons h1 h2⟩
end
end
end TL

set_option Elab.async false
set_option linter.all false
set_option maxRecDepth 100000
namespace TL
open PySem PySem.Spec PyProof.Rows L2
def oneC (names:List (Str × NameKind)):Bool:=match names.filter (fun y=>y.2 == NameKind.cell) with
  | []=>true
  | [x]=>names.lookup x.1 == some .cell
  | _=>false
theorem oneC_ok {names:List (Str × NameKind)} (h:oneC names=true):OneCell names:=by
  unfold oneC at h
  split at h
  · rename_i e
    exact .inl e
  · rename_i x e
    have hx:x ∈ names.filter (fun y=>y.2 == NameKind.cell):=by rw [e]; exact List.mem_singleton.mpr rfl
    have hk:x.2=.cell:=eq_of_beq (List.mem_filter.mp hx).2
    exact .inr ⟨x.1,by rw [e,← hk],beq_iff_eq.mp h⟩
  · cases h
def relab (sc out:Scope):Scope:={ sc with names:=sc.names.map fun (n,k)=>if (k == .free && out.kind == .function && out.names.lookup n == some .cell) then (n,.cell) else (n,k) }
def lcChk (sc out:Scope) (Nx N':List Str) (fr:List (Option Nat)):Bool :=
  decide (sc.kind=.function) && oneC sc.names && sc.names.all (fun y=>decide (y.2 ≠ .free) || decide (out.names.lookup y.1=some .cell)) && sc.names.all (fun y=>decide (y.2 ≠ .local) || decide (sc.names.lookup y.1=some .local)) && frChk sc.names out.names Nx N' fr
section
variable {X:Cx} {elt iter tg a:Expr} {ifs:List Expr} {scope:Scope} {pos:Pos} {N':List Str} {fr:List (Option Nat)} {wi:TI} {g:BP→TG} {tt:BP→TT} {te:BP→TE}
theorem lcChk_all {out:Scope} {Nx:List Str} (h:lcChk scope out Nx N' fr=true):scope.kind=.function∧OneCell scope.names∧(∀ y ∈ scope.names,y.2=.free→out.names.lookup y.1=some .cell)∧(∀ y ∈ scope.names,y.2=.local→scope.names.lookup y.1=some .local)∧frChk scope.names out.names Nx N' fr=true:=by
  unfold lcChk at h
  simp only [Bool.and_eq_true,List.all_eq_true,Bool.or_eq_true,decide_eq_true_eq] at h
  obtain ⟨⟨⟨⟨h1,h2⟩,h3⟩,h4⟩,h5⟩:=h
  exact ⟨h1,oneC_ok h2,fun y hy e=>(h3 y hy).elim (fun z=>absurd e z) id,fun y hy e=>(h4 y hy).elim (fun z=>absurd e z) id,h5⟩
theorem pe_lcc (h:lcChk scope X.env.scope X.N N' fr=true) (hcalm:X.calm=true) (hi:PI X tg iter wi)
    (hY:∀ b:BP,PG (blk X scope N' b) tg (g b)∧PIf (blk X scope N' b) ifs (tt b)∧PE (blk X scope N' b) elt (te b)) (hs:∀ x,foldedSetIterable iter X.env x=pure x:=by intro _; rfl):PE X (.ListComp elt [⟨tg,iter,ifs,0⟩] scope pos) (tLc fr wi g tt te):=by
  obtain ⟨h1,h2,h3,h4,h5⟩:=lcChk_all h
  exact pe_lc hcalm h1 h2 h5 h3 h4 hi hY hs
theorem ps_setlcc {i:Nat} {x:Str} {px spos:Pos} (h:lcChk scope X.env.scope X.N N' fr=true) (hN:X.N.Nodup) (hix:X.N[i]?=some x) (hx:Loc X.env.scope x) (hcalm:X.calm=true) (hi:PI X tg iter wi)
    (hY:∀ b:BP,PG (blk X scope N' b) tg (g b)∧PIf (blk X scope N' b) ifs (tt b)∧PE (blk X scope N' b) elt (te b))
    (hsw:swapsWith (.ListComp elt [⟨tg,iter,ifs,0⟩] scope pos) (some (.Name x px)) spos.line X.env=pure true) (hs:∀ x,foldedSetIterable iter X.env x=pure x:=by intro _; rfl) (hf:X.fn x=true ∨ X.env.scope.names.lookup x=some .local:=by first | exact .inl rfl | exact .inr rfl) :
    PS X (.Assign [.Name x px] (.ListComp elt [⟨tg,iter,ifs,0⟩] scope pos) spos) (tAsg (tLc fr wi g tt te) (gName i)):=by
  obtain ⟨h1,h2,h3,h4,h5⟩:=lcChk_all h
  exact ps_setlc hN hix hx hcalm h1 h2 h5 h3 h4 hi hY hsw hs hf
end
theorem bl_min:bootBuiltins "min"=some (.builtin "min"):=by decide +kernel
theorem bl_max:bootBuiltins "max"=some (.builtin "max"):=by decide +kernel
theorem bl_isinstance:bootBuiltins "isinstance"=some (.builtin "isinstance"):=by decide +kernel
theorem bl_len:bootBuiltins "len"=some (.builtin "len"):=by decide +kernel
theorem bl_tuple:bootBuiltins "tuple"=some (.type "tuple"):=by decide +kernel
theorem bl_list:bootBuiltins "list"=some (.type "list"):=by decide +kernel
theorem bl_bool:bootBuiltins "bool"=some (.type "bool"):=by decide +kernel
theorem bl_int:bootBuiltins "int"=some (.type "int"):=by decide +kernel
theorem kit_tuple (K:PySem.W.Frag):KitOk K "tuple":=by
  intro tn h
  simp only [List.mem_cons,List.not_mem_nil,or_false] at h
  rcases h with rfl | rfl | rfl | rfl | rfl | rfl <;> first | rfl | (with_unfolding_all rfl) | decide +kernel
theorem kit_bool (K:PySem.W.Frag):KitOk K "bool":=by
  intro tn h
  simp only [List.mem_cons,List.not_mem_nil,or_false] at h
  rcases h with rfl | rfl | rfl | rfl | rfl | rfl <;> first | rfl | (with_unfolding_all rfl) | decide +kernel
theorem kit_int (K:PySem.W.Frag):KitOk K "int":=by
  intro tn h
  simp only [List.mem_cons,List.not_mem_nil,or_false] at h
  rcases h with rfl | rfl | rfl | rfl | rfl | rfl <;> first | rfl | (with_unfolding_all rfl) | decide +kernel
theorem set_set {α:Type} (l:List α) (i:Nat) (a b:α):(l.set i a).set i b=l.set i b:=by
  apply List.ext_getElem?
  intro j
  by_cases h:i=j
  · subst h
    by_cases hl:i < l.length
    · rw [List.getElem?_set_self (by simpa using hl),List.getElem?_set_self hl]
    · rw [List.getElem?_eq_none (by simpa using hl),List.getElem?_eq_none (by simpa using hl)]
  · rw [List.getElem?_set_ne h,List.getElem?_set_ne h,List.getElem?_set_ne h]
theorem lc_in {ts:List D} {σb:List Sl} {te:ET} {Q:D→Prop} (R:Nat→D→D→Prop) (hz:ts.length≤100000)
    (ht:∀ (k:Nat) (x:D) (q:D→Prop),ts[k]?=some x→(∀ y,R k x y→q y)→te (σb.set 0 (.val x)) q)
    (hq:∀ ys:List D,ys.length=ts.length→(∀ (k:Nat) (x y:D),ts[k]?=some x→ys[k]?=some y→R k x y)→Q (.list ys)) :
    ts.length≤100000∧∃ P:Nat→List Sl→List D→Prop,P 0 σb [] ∧
      (∀ (k:Nat) (x:D) (σ':List Sl) (ds:List D),ts[k]?=some x→P k σ' ds→gN 0 x σ' fun σ2=>cTrue σ2 fun b=>if b=true then te σ2 fun y=>P (k + 1) σ2 (ds++[y]) else P (k + 1) σ2 ds)∧∀ σ' ds,P ts.length σ' ds→Q (.list ds):=by
  refine ⟨hz,fun k σ' ds=>(∀ x,σ'.set 0 (.val x)=σb.set 0 (.val x))∧ds.length=k∧∀ (j:Nat) (x y:D),ts[j]?=some x→ds[j]?=some y→R j x y,⟨fun _=>rfl,rfl,fun j x y _ h=>by simp at h⟩,fun k x σ' ds hx h=>?_,fun σ' ds h=>hq ds h.2.1 h.2.2⟩
  obtain ⟨h1,h2,h3⟩:=h
  show te (σ'.set 0 (.val x)) _
  rw [h1 x]
  refine ht k x _ hx fun y hy=>⟨fun z=>set_set _ _ _ _,by simp [h2],fun j x' y' e1 e2=>?_⟩
  by_cases hj:j < k
  · rw [List.getElem?_append_left (by omega)] at e2
    exact h3 j x' y' e1 e2
  · rw [List.getElem?_append_right (by omega)] at e2
    have:j=k:=by
      by_cases e:j=k
      · exact e
      · have:j - ds.length ≠ 0:=by omega
        cases q:j - ds.length with
        | zero=>exact absurd q this
        | succ n=>rw [q] at e2; simp at e2
    subst this
    rw [hx] at e1
    cases e1
    simp [h2] at e2
    subst e2
    exact hy
theorem lc_map {ts:List D} {σb:List Sl} {te:ET} {Q:D→Prop} (f:D→D) (hz:ts.length≤100000) (ht:∀ (x:D) (q:D→Prop),x ∈ ts→q (f x)→te (σb.set 0 (.val x)) q) (hq:Q (.list (ts.map f))) :
    ts.length≤100000∧∃ P:Nat→List Sl→List D→Prop,P 0 σb [] ∧
      (∀ (k:Nat) (x:D) (σ':List Sl) (ds:List D),ts[k]?=some x→P k σ' ds→gN 0 x σ' fun σ2=>cTrue σ2 fun b=>if b=true then te σ2 fun y=>P (k + 1) σ2 (ds++[y]) else P (k + 1) σ2 ds)∧∀ σ' ds,P ts.length σ' ds→Q (.list ds):=by
  refine lc_in (fun k x y=>y=f x) hz (fun k x q hx h=>ht x q (List.mem_of_getElem? hx) (h _ rfl)) fun ys hl h=>?_
  have e:ys=ts.map f:=by
    apply List.ext_getElem?
    intro i
    rw [List.getElem?_map]
    cases hx:ts[i]? with
    | none =>
      rw [List.getElem?_eq_none (by rw [hl]; exact List.getElem?_eq_none_iff.mp hx)]; rfl
    | some x =>
      have hi:i < ys.length:=by rw [hl]; exact (List.getElem?_eq_some_iff.mp hx).1
      have:=h i x ys[i] hx (List.getElem?_eq_getElem hi)
      rw [List.getElem?_eq_getElem hi,this]; rfl
  rw [e]; exact hq
theorem lc_filt {ts:List D} {σb:List Sl} {tt:TTt} {te:ET} {Q:D→Prop} (p:D→Bool) (f:D→D) (hz:ts.length≤100000) (hp:∀ (x:D) (q:Bool→Prop),x ∈ ts→q (p x)→tt (σb.set 0 (.val x)) q)
    (ht:∀ (x:D) (q:D→Prop),x ∈ ts→q (f x)→te (σb.set 0 (.val x)) q) (hq:Q (.list ((ts.filter p).map f))) :
    ts.length≤100000∧∃ P:Nat→List Sl→List D→Prop,P 0 σb [] ∧
      (∀ (k:Nat) (x:D) (σ':List Sl) (ds:List D),ts[k]?=some x→P k σ' ds→gN 0 x σ' fun σ2=>tt σ2 fun b=>if b=true then te σ2 fun y=>P (k + 1) σ2 (ds++[y]) else P (k + 1) σ2 ds)∧∀ σ' ds,P ts.length σ' ds→Q (.list ds):=by
  refine ⟨hz,fun k σ' ds=>(∀ x,σ'.set 0 (.val x)=σb.set 0 (.val x))∧ds=((ts.take k).filter p).map f,⟨fun _=>rfl,rfl⟩,fun k x σ' ds hx h=>?_,fun σ' ds h=>?_⟩
  · obtain ⟨h1,rfl⟩:=h
    have hm:x ∈ ts:=List.mem_of_getElem? hx
    show tt (σ'.set 0 (.val x)) _
    rw [h1 x]
    refine hp x _ hm ?_
    have e:ts.take (k + 1)=ts.take k++[x]:=by rw [List.take_add_one,hx]; rfl
    cases hb:p x with
    | true =>
      rw [if_pos rfl]
      refine ht x _ hm ⟨fun z=>set_set _ _ _ _,?_⟩
      rw [e,List.filter_append,List.map_append]
      simp [hb]
    | false =>
      rw [if_neg (by decide)]
      refine ⟨fun z=>set_set _ _ _ _,?_⟩
      rw [e,List.filter_append,List.map_append]
      simp [hb]
  · obtain ⟨_,rfl⟩:=h
    rw [List.take_length]
    exact hq

section
variable {fr:List (Option Nat)} {ti:IT} {tt:TTt} {te:ET} {σ:List Sl} {Q:D→Prop} {ts:List D}
abbrev Gives' (ti:IT) (σ:List Sl) (ts:List D):Prop:=∀ R:List D→Prop,R ts→ti σ R
theorem lcx_map (hti:Gives' ti σ ts) (f:D→D) (hz:ts.length≤100000) (ht:∀ (x:D) (q:D→Prop),x ∈ ts→q (f x)→te ((inBlkT fr σ).set 0 (.val x)) q) (hq:Q (.list (ts.map f))):eLc fr ti (gN 0) cTrue te σ Q :=
  hti _ (lc_map (te:=te) (Q:=Q) f hz ht hq)
theorem lcx_filt (hti:Gives' ti σ ts) (p:D→Bool) (f:D→D) (hz:ts.length≤100000) (hp:∀ (x:D) (q:Bool→Prop),x ∈ ts→q (p x)→tt ((inBlkT fr σ).set 0 (.val x)) q)
    (ht:∀ (x:D) (q:D→Prop),x ∈ ts→q (f x)→te ((inBlkT fr σ).set 0 (.val x)) q) (hq:Q (.list ((ts.filter p).map f))):eLc fr ti (gN 0) tt te σ Q :=
  hti _ (lc_filt (tt:=tt) (te:=te) (Q:=Q) p f hz hp ht hq)
theorem forx {g:GT} {tb:STt} {DT:EndsT} (hti:Gives' ti σ ts) (P:Nat→List Sl→Prop) (h0:P 0 σ)
    (hs:∀ (k:Nat) (x:D) (σ':List Sl),ts[k]?=some x→P k σ'→g x σ' fun σ2=>tb { DT with nx:=P (k + 1),ct:=P (k + 1),bk:=DT.nx } σ2) (hd:∀ σ',P ts.length σ'→DT.nx σ'):sFor ti g tb DT σ:=hti _ ⟨P,h0,hs,hd⟩
end
end TL

set_option Elab.async false
set_option linter.all false
set_option maxRecDepth 100000
namespace TL
open PySem PySem.Spec PyProof.Rows L2
theorem app_codes (x y:Str):(x++y).cps.toList=x.cps.toList++y.cps.toList:=by
  show (x.cps++y.cps).toList=_
  simp
theorem pick_codes (xs:Array Nat) (a k:Nat):(List.range k).filterMap (fun m=>xs[a + m]?)=(xs.toList.drop a).take k:=by
  induction k with
  | zero=>simp
  | succ k ih =>
    rw [List.range_succ,List.filterMap_append,ih,List.take_add_one,List.getElem?_drop]
    congr 1
    simp only [List.filterMap_cons,List.filterMap_nil]
    rw [Array.getElem?_toList]
    cases xs[a + k]? <;> rfl
theorem clip_ix (v:Option Int) (n d:Nat) (hd:d≤n):(match v with | none=>(d:Int) | some i=>max 0 (min (if i < 0 then i + (n:Int) else i) (n:Int)))=((HT.sIx n d v:Nat):Int):=by
  cases v with
  | none=>rfl
  | some i =>
    have:=HT.clip_eq i n d
    rw [← this]
    dsimp only
    split <;> omega
theorem clip_ix0 (v:Option Int) (n:Nat):(match v with | none=>(0:Int) | some i=>max 0 (min (if i < 0 then i + (n:Int) else i) (n:Int)))=((HT.sIx n 0 v:Nat):Int):=clip_ix v n 0 (Nat.zero_le _)
theorem sr_congr {a a' b b':Int} (h1:a=a') (h2:b=b'):sliceRange a b 1=sliceRange a' b' 1:=by rw [h1,h2]
theorem slice_codes (z:Str) (lo hi:Option Int):(Txt.slice z lo hi).cps.toList=cutD z.cps.toList lo hi:=by
  have hn:z.cps.toList.length=z.length:=by simp [Str.length]
  have ha:=HT.sIx_le z.length 0 (Nat.zero_le _) lo
  have hb:=HT.sIx_le z.length z.length (Nat.le_refl _) hi
  have hI:Builtin.Str.strSliceIndices lo hi 1 z.length=(List.range (HT.sIx z.length z.length hi - HT.sIx z.length 0 lo)).map (fun k=>HT.sIx z.length 0 lo + k):=by
    unfold Builtin.Str.strSliceIndices
    simp only [show (1:Int) > 0 by decide,if_true]
    refine (sr_congr (clip_ix0 lo z.length) (clip_ix hi z.length z.length (Nat.le_refl _))).trans ?_
    unfold sliceRange
    simp only [show (1:Int) > 0 by decide,if_true]
    generalize HT.sIx z.length 0 lo=a
    generalize HT.sIx z.length z.length hi=b
    have ec:(if (a:Int) < (b:Int) then ((b:Int) - a + 1 - 1) / 1 else 0).toNat=b - a:=by split <;> omega
    rw [ec]
    apply List.map_congr_left
    intro k _
    omega
  unfold Txt.slice cutD
  rw [hn,hI]
  generalize HT.sIx z.length 0 lo=a at *
  generalize HT.sIx z.length z.length hi=b at *
  split
  · next h =>
    simp only [beq_self_eq_true,Bool.true_and,beq_iff_eq,List.length_map,List.length_range] at h
    have h1:a=0:=by omega
    have h2:b - a=z.cps.toList.length:=by rw [hn]; exact h
    rw [h2,h1,List.drop_zero,List.take_length]
  · rw [List.filterMap_map]
    exact pick_codes z.cps a (b - a)
theorem join_codes:∀ ys:List Str,(Txt.join ⟨#[]⟩ ys).cps.toList=(ys.map (·.cps.toList)).flatten:=by
  intro ys
  show (Builtin.Str.glued ⟨#[]⟩ ys).cps.toList=_
  rw [StrLaws.glued_eq_join]
  induction ys with
  | nil=>rfl
  | cons x ys ih =>
    cases ys with
    | nil=>simp [Str.join]
    | cons y r =>
      show (x++⟨#[]⟩++Str.join ⟨#[]⟩ (y::r)).cps.toList=_
      rw [app_codes,app_codes,ih]
      simp
theorem in_one (x:Str) (c:Nat):Txt.contains x ⟨#[c]⟩=decide (c ∈ x.cps.toList):=StrLaws.found_one x c
section
variable {te:ET} {u t e:STt} {c:TTt} {DT:EndsT} {σ:List Sl} {i:Nat}
theorem seq_set (v:D) (h:∀ q:D→Prop,q v→te σ q) (k:u DT (σ.set i (.val v))):sSeq (sSet i te) u DT σ:=h _ k
theorem seq_setR (R:D→Prop) (h:∀ q:D→Prop,(∀ v,R v→q v)→te σ q) (k:∀ v,R v→u DT (σ.set i (.val v))):sSeq (sSet i te) u DT σ:=h _ k
theorem seq_if (R:Bool→Prop) (h:∀ q:Bool→Prop,(∀ b,R b→q b)→c σ q) (k1:R true→t { DT with nx:=u DT } σ) (k0:R false→e { DT with nx:=u DT } σ):sSeq (sIf c t e) u DT σ:=by
  refine h _ fun b hb=>?_
  cases b with
  | true=>rw [if_pos rfl]; exact k1 hb
  | false=>rw [if_neg (by decide)]; exact k0 hb
theorem one_if (R:Bool→Prop) (h:∀ q:Bool→Prop,(∀ b,R b→q b)→c σ q) (k1:R true→t DT σ) (k0:R false→e DT σ):sIf c t e DT σ:=by
  refine h _ fun b hb=>?_
  cases b with
  | true=>rw [if_pos rfl]; exact k1 hb
  | false=>rw [if_neg (by decide)]; exact k0 hb
theorem seq_for {ti:IT} {ts:List D} {g:GT} {tb:STt} (hti:Gives' ti σ ts) (P:Nat→List Sl→Prop) (h0:P 0 σ)
    (hs:∀ (k:Nat) (x:D) (σ':List Sl),ts[k]?=some x→P k σ'→g x σ' fun σ2=>tb { DT with nx:=P (k + 1),ct:=P (k + 1),bk:=u DT } σ2) (hd:∀ σ',P ts.length σ'→u DT σ'):sSeq (sFor ti g tb) u DT σ :=
  forx (DT:={ DT with nx:=u DT }) hti P h0 hs hd
theorem seq_own {t:AT} (ds:List D) (hz:ds.length≤1000) (h:∀ q:List D→Prop,q ds→t σ q) (k:u DT (σ.set i (.own ds))):sSeq (sOwn i t) u DT σ:=h _ ⟨hz,k⟩
theorem one_app {ts:List D} (v:D) (ho:σ[i]?=some (.own ts)) (hz:ts.length≤100000) (h:∀ q:D→Prop,q v→te σ q) (k:DT.nx (σ.set i (.own (ts++[v])))):sApp i te DT σ:=⟨ts,ho,h _ ⟨hz,k⟩⟩
theorem one_set (v:D) (h:∀ q:D→Prop,q v→te σ q) (k:DT.nx (σ.set i (.val v))):sSet i te DT σ:=h _ k
end
end TL

set_option Elab.async false
set_option linter.all false
set_option maxRecDepth 100000
namespace TL
open PySem PySem.Spec PyProof.Rows L2
mutual
theorem noDict:∀ {d:D},d.canLay0=true→d.hasDict=false
  | .none,_=>rfl
  | .bool _,_=>rfl
  | .int _,_=>rfl
  | .str _,_=>rfl
  | .list _,h=>noDictAll h
  | .tuple _,h=>noDictAll h
  | .dict _,h=>by cases h
theorem noDictAll:∀ {ds:List D},PyData.canLayAll0 ds=true→PyData.hasDictAll ds=false
  | [],_=>rfl
  | d::ds,h=>by
    have h':(d.canLay0 && PyData.canLayAll0 ds)=true:=h
    rw [Bool.and_eq_true] at h'
    show (d.hasDict || PyData.hasDictAll ds)=false
    rw [noDict h'.1,noDictAll h'.2]; rfl
end
section
variable {X:Cx} {a b e:Expr} {es:List Expr} {te:ET} {pos:Pos}
def rData (K:PySem.W.Frag) (ok:D→D→Prop) (f:D→D→Bool):R2:=fun x y H Q=>∃ d1 d2,Rep K H d1 x∧Rep K H d2 y∧ok d1 d2∧Q (.bl (f d1 d2)) H
def fData (ok:D→D→Prop) (f:D→D→Bool) (x y:D) (Q:D→Prop):Prop:=ok x y∧Q (.bool (f x y))
theorem o_data {ok:D→D→Prop} {f:D→D→Bool}:Op2 X (rData X.K ok f) (fData ok f):=by
  intro H ps d1 d2 x y Q QV live r1 r2 h k
  exact ⟨d1,d2,r1.same mask_le,r2.same mask_le,h.1,k _ _ H (L2.Same.refl H) (.bool _) h.2⟩
def okEq (d1 d2:D):Prop:=d1.canLay0=true∧d2.canLay0=true∧min d1.depth d2.depth≤60
theorem op_neD {k:Nat} (hr:Room k X.A):OpR X (compareOp .NotEq) (rData X.K okEq fun x y=>!PyData.eqv x y):=by
  intro pins s σ H x y v u Q I rx ry h
  obtain ⟨d1,d2,r1,r2,⟨c1,c2,hm⟩,q⟩:=h
  obtain ⟨as,h1⟩:=Rep.reads I (noDict c1) r1 rx
  obtain ⟨bs,h2⟩:=Rep.reads I (noDict c2) r2 ry
  exact SeqAt.compareNe_reads h1 h2 c1 c2 (by have:=hr.un; omega) ⟨.bl _,H,I,rfl,q⟩
def okIn (x y:D):Prop:=match y with
  | .list ts=>PyData.canLayAll0 ts=true∧x.canLay0=true∧min (PyData.depthAll ts) x.depth≤60
  | .tuple ts=>PyData.canLayAll0 ts=true∧x.canLay0=true∧min (PyData.depthAll ts) x.depth≤60
  | _=>False
def inD (x y:D):Bool:=match y with
  | .list ts=>ts.any fun z=>PyData.eqv z x
  | .tuple ts=>ts.any fun z=>PyData.eqv z x
  | _=>false
theorem op_inData {k:Nat} (hr:Room k X.A):OpR X (compareOp .In) (rData X.K okIn inD):=by
  intro pins s σ H x y v u Q I rx ry h
  obtain ⟨d1,d2,r1,r2,ho,q⟩:=h
  have hd:d1.hasDict=false∧d2.hasDict=false:=by
    cases d2 with
    | list ts=>exact ⟨noDict ho.2.1,noDictAll ho.1⟩
    | tuple ts=>exact ⟨noDict ho.2.1,noDictAll ho.1⟩
    | _=>exact ho.elim
  obtain ⟨as,h1⟩:=Rep.reads I hd.1 r1 rx
  obtain ⟨bs,h2⟩:=Rep.reads I hd.2 r2 ry
  cases d2 with
  | list ts=>exact SeqAt.in_list_reads h2 h1 ho.1 ho.2.1 (by have:=hr.un; have:=ho.2.2; omega) ⟨.bl _,H,I,rfl,q⟩
  | tuple ts=>exact SeqAt.in_tuple_reads h2 h1 ho.1 ho.2.1 (by have:=hr.un; have:=ho.2.2; omega) ⟨.bl _,H,I,rfl,q⟩
  | _=>exact ho.elim
theorem op_notInData {k:Nat} (hr:Room k X.A):OpR X (compareOp .NotIn) (rData X.K okIn fun x y=>!inD x y):=by
  intro pins s σ H x y v u Q I rx ry h
  obtain ⟨d1,d2,r1,r2,ho,q⟩:=h
  have hd:d1.hasDict=false∧d2.hasDict=false:=by
    cases d2 with
    | list ts=>exact ⟨noDict ho.2.1,noDictAll ho.1⟩
    | tuple ts=>exact ⟨noDict ho.2.1,noDictAll ho.1⟩
    | _=>exact ho.elim
  obtain ⟨as,h1⟩:=Rep.reads I hd.1 r1 rx
  obtain ⟨bs,h2⟩:=Rep.reads I hd.2 r2 ry
  cases d2 with
  | list ts=>exact SeqAt.notIn_list_reads h2 h1 ho.1 ho.2.1 (by have:=hr.un; have:=ho.2.2; omega) ⟨.bl _,H,I,rfl,q⟩
  | tuple ts=>exact SeqAt.notIn_tuple_reads h2 h1 ho.1 ho.2.1 (by have:=hr.un; have:=ho.2.2; omega) ⟨.bl _,H,I,rfl,q⟩
  | _=>exact ho.elim
def fIn2 (x y:D) (Q:D→Prop):Prop:=match x,y with
  | .str z,.str y=>Q (.bool (Txt.contains y z))
  | x,y=>okIn x y∧Q (.bool (inD x y))
theorem op_in2 {k:Nat} (hr:Room k X.A):OpR X (compareOp .In) (fun x y H Q=>(∃ i j,x=.str i∧y=.str j∧Q (.bl (!(Builtin.Str.occurrences j i 0 j.length 1).isEmpty)) H) ∨ rData X.K okIn inD x y H Q):=op_in_str.or (op_inData hr)
theorem o_in2:Op2 X (fun x y H Q=>(∃ i j,x=.str i∧y=.str j∧Q (.bl (!(Builtin.Str.occurrences j i 0 j.length 1).isEmpty)) H) ∨ rData X.K okIn inD x y H Q) fIn2:=by
  intro H ps d1 d2 x y Q QV live r1 r2 h k
  have gen:okIn d1 d2∧Q (.bool (inD d1 d2))→_:=fun h=>(.inr ⟨d1,d2,r1.same mask_le,r2.same mask_le,h.1,k _ _ H (L2.Same.refl H) (.bool _) h.2⟩:(∃ i j,x=.str i∧y=.str j∧QV (.bl (!(Builtin.Str.occurrences j i 0 j.length 1).isEmpty)) H) ∨ rData X.K okIn inD x y H QV)
  cases r1 with
  | str z =>
    cases r2 with
    | str w=>exact .inl ⟨z,w,rfl,rfl,k _ _ H (L2.Same.refl H) (.bool _) h⟩
    | _=>exact gen h
  | _=>exact gen h
def isNoneD:D→Bool
  | .none=>true
  | _=>false
def fIs (x y:D) (Q:D→Prop):Prop:=match y with | .bool b=>Q (.bool (isTrueD b x)) | .none=>Q (.bool (isNoneD x)) | _=>False
def fIsNot2 (x y:D) (Q:D→Prop):Prop:=match y with | .bool b=>Q (.bool (!isTrueD b x)) | .none=>Q (.bool (!isNoneD x)) | _=>False
theorem op_is2:OpR X (compareOp .Is) (fun x y H Q=>rIsB x y H Q ∨ (y=.non∧Q (.bl (decide (x=.non))) H)):=op_isB.or op_isN
theorem op_isNot2:OpR X (compareOp .IsNot) (fun x y H Q=>rIsNotB x y H Q ∨ (y=.non∧Q (.bl (!decide (x=.non))) H)):=op_isNotB.or op_notN
theorem o_is2:Op2 X (fun x y H Q=>rIsB x y H Q ∨ (y=.non∧Q (.bl (decide (x=.non))) H)) fIs:=by
  intro H ps d1 d2 x y Q QV live r1 r2 h k
  cases r2 with
  | bool b =>
    refine .inl ⟨b,rfl,?_⟩
    have e:(decide (x=V.bl b))=isTrueD b d1:=by cases r1 <;> simp [isTrueD]
    rw [e]
    exact k _ _ H (L2.Same.refl H) (.bool _) h
  | none =>
    refine .inr ⟨rfl,?_⟩
    have e:(decide (x=V.non))=isNoneD d1:=by cases r1 <;> simp [isNoneD]
    rw [e]
    exact k _ _ H (L2.Same.refl H) (.bool _) h
  | _=>exact h.elim
theorem o_isNot2:Op2 X (fun x y H Q=>rIsNotB x y H Q ∨ (y=.non∧Q (.bl (!decide (x=.non))) H)) fIsNot2:=by
  intro H ps d1 d2 x y Q QV live r1 r2 h k
  cases r2 with
  | bool b =>
    refine .inl ⟨b,rfl,?_⟩
    have e:(!decide (x=V.bl b))=!isTrueD b d1:=by cases r1 <;> simp [isTrueD]
    rw [e]
    exact k _ _ H (L2.Same.refl H) (.bool _) h
  | none =>
    refine .inr ⟨rfl,?_⟩
    have e:(!decide (x=V.non))=!isNoneD d1:=by cases r1 <;> simp [isNoneD]
    rw [e]
    exact k _ _ H (L2.Same.refl H) (.bool _) h
  | _=>exact h.elim
end
end TL

set_option Elab.async false
set_option linter.all false
set_option maxRecDepth 100000
namespace L2
open PySem PySem.Spec PyProof.Rows
section
variable {P:Program} {w:World} {A:Around} {E:Value→Shared→Prop} {s:Shared}
end
section
variable {P:Program} {w:World} {A:Around} {E:Value→Shared→Prop} {s:Shared} {z TI TO i1 i2 l1 l2:Addr} {st1 st2:Nat→Heap→Prop} {src1 src2:Array Value→Heap→Prop} {k:Nat} {xs ys:Array Value} {a b:Value}
end
section
variable {X:Cx} {pins:List (Addr × Obj)} {σ:St} {H:Hp} {s:Shared} {h':Heap}
theorem Inv.turnedNew {t':Nat} {ch:List Addr} {T:Addr} {o:HO} (I:Inv X pins σ H s) (hf:∀ b ∈ ch,FpOk X pins H b) (k:∀ b u,b ∉ ch→s.heap.get? b=some u→h'.get? b=some u) (hp:s.heap.objs.size≤T) (new:ObjOk X.prog X.w (upd H T o) h' T o) :
    Inv X pins σ (upd H T o) { s with heap:=h',toks:=t' }:=by
  have nit:∀ b u,H b=some u→b ∉ ch:=fun b u e z=>by rw [(hf b z).1] at e; cases e
  have hL:X.env.locals ∉ ch:=fun z=>(hf _ z).2.1 rfl
  have hn:H T=none:=I.hok.fresh hp
  have ne:∀ b u,H b=some u→(upd H T o) b=some u:=fun b u e=>by rw [upd_ne (ne_of_none e hn)]; exact e
  have ne2:∀ b u,s.heap.get? b=some u→b ≠ T:=fun b u e z=>by
    exact absurd (Nat.lt_of_lt_of_le (Heap.lt_size e) hp) (by rw [z]; exact Nat.lt_irrefl _)
  refine I.step (g':=s.gens) (d':=s.drawn) (ch:=ch) (fun b hb=>?_) (fun b o _ _ hc e _=>k b o hc e) (fun b o _ _ hc e _=>⟨o.slots,k b o hc e⟩) (fun b u _ e n=>by rw [upd_ne (ne2 b u e)]; exact n)
    (fun b o hc e=>⟨o,k b o hc e⟩) (fun b xs e=>ne _ _ e) (fun b u v e=>ne _ _ e) (fun b ps e=>⟨#[],by rw [ne _ _ e]; simp⟩) (fun m hm=>?_) (fun b u e=>?_) I.bare
  · obtain ⟨f0,f1,f2,f3,f4,f5⟩:=hf b hb
    exact ⟨f3,f1,f4,f5⟩
  · obtain ⟨o,es,ep,ho,r⟩:=hm
    exact ⟨o,es,ep,k _ o hL ho,r⟩
  · by_cases hb:b=T
    · subst hb; rw [upd_same] at e; cases e; exact new
    · rw [upd_ne hb] at e
      refine (I.hok b u e).stay (fun c v hc q=>k c v ?_ q) (fun c q=>ne _ _ q) fun c xs q=>ne _ _ q
      rcases hc with z | z
      · rw [z]; exact nit b u e
      · exact nit c _ z
end
end L2
namespace L2
open PySem PySem.Spec PyProof.Rows
section
variable {P:Program} {w:World} {A:Around} {E:Value→Shared→Prop} {s:Shared}
end
section
variable {X:Cx}
end
end L2
namespace TL
open PySem PySem.Spec PyProof.Rows L2
variable {K:PySem.W.Frag}
section
variable {X:Cx} {a b:Expr} {pos:Pos}
end
section
variable {fr:List (Option Nat)} {ti:IT} {tt:TTt} {te:ET} {σ:List Sl} {Q:D→Prop} {ts:List D}
theorem set2_set2 {α:Type} (l:List α) (a b c d:α):(((l.set 0 a).set 1 b).set 0 c).set 1 d=(l.set 0 c).set 1 d:=by
  match l with
  | []=>rfl
  | [_]=>rfl
  | _::_::_=>rfl
theorem lcp_map (hti:Gives' ti σ ts) (f:D→D) (hz:ts.length≤100000) (hp:∀ x ∈ ts,∃ a b,x=.tuple [a,b]) (ht:∀ (a b:D) (q:D→Prop),.tuple [a,b] ∈ ts→q (f (.tuple [a,b]))→te (((inBlkT fr σ).set 0 (.val a)).set 1 (.val b)) q) (hq:Q (.list (ts.map f))):eLc fr ti (gP 0 1) cTrue te σ Q:=by
  refine hti _ ⟨hz,fun k σ' ds=>(∀ x y,(σ'.set 0 (.val x)).set 1 (.val y)=((inBlkT fr σ).set 0 (.val x)).set 1 (.val y))∧ds=(ts.take k).map f,⟨fun _ _=>rfl,rfl⟩,fun k x σ' ds hx h=>?_,fun σ' ds h=>?_⟩
  · obtain ⟨h1,rfl⟩:=h
    have hm:x ∈ ts:=List.mem_of_getElem? hx
    obtain ⟨a,b,rfl⟩:=hp x hm
    refine ⟨a,b,rfl,?_⟩
    show te ((σ'.set 0 (.val a)).set 1 (.val b)) _
    rw [h1 a b]
    refine ht a b _ hm ⟨fun x y=>set2_set2 _ _ _ _ _,?_⟩
    rw [List.take_add_one,hx,List.map_append]; rfl
  · obtain ⟨_,rfl⟩:=h
    rw [List.take_length]; exact hq
end
end TL

set_option Elab.async false
set_option linter.all false
set_option maxRecDepth 100000
namespace L2
open PySem PySem.Spec PyProof.Rows PySem.SeqAt
open AutoSeq1 (wpAny_loadPart')
theorem tuple_indexAt (l:Addr) (items:Array Value) (n:Nat) (dd:Option Addr) (sl:Array (Option Value)) (x:Value) (e:Value→Bool) (j:Nat) (hj:j < items.size) (hit:e items[j]=true) (hno:∀ m (hm:m < items.size),m < j→e items[m]=false) :
    Meets (Builtin.«tuple.index» ⟨[.ref l,x],[]⟩)
      (fun A R s=>s.heap.get? l=some { cls:=.type "tuple",dict:=dd,data:=.seq items n,slots:=sl }∧(∀ y,y ∈ items→EqAt A.in1 s y x (e y))∧R (.ok (.ret (.int j s.toks))) { s with toks:=s.toks + 1 }):=by
  intro prog w A R s h
  obtain ⟨hp,g,d,tk,os⟩:=s; obtain ⟨hl,he,h⟩:=h
  unfold Builtin.«tuple.index»
  simp only [Std.Legacy.Range.forIn_eq_forIn_range']
  wp_walk using wpAny_loadPart' hl
  have hN:([:min items.size items.size]:Std.Legacy.Range).size=items.size:=by simp [Std.Legacy.Range.size]
  rw [hN]
  show wpAny _ _ (forIn (List.range' 0 items.size) (none,()) _) _ _ _
  refine wpAny_forIn_list _ (fun rest b s'=>b=(none,())∧s'=⟨hp,g,d,tk,os⟩∧∃ k,rest=List.range' k (items.size - k)∧k≤j) _ (fun i rest b s' h1=>?_) (fun b s' h1=>?_) _ _ ⟨rfl,rfl,0,by simp,Nat.zero_le _⟩
  · obtain ⟨rfl,rfl,k,hr,hk⟩:=h1
    have hkN:k < items.size:=by omega
    have e1:items.size - k=(items.size - (k + 1)) + 1:=by omega
    rw [e1,List.range'_succ] at hr
    obtain ⟨rfl,rfl⟩:=List.cons.inj hr
    have hi:items[i]?=some items[i]:=by simp [hkN]
    rw [hi]
    refine wpAny_bind (he _ (Array.getElem_mem hkN) prog w _ _ ?_)
    by_cases hij:i=j
    · subst hij
      rw [hit,if_pos rfl]
      wp_walk
      exact h
    · have hlt:i < j:=by omega
      rw [hno i hkN hlt,if_neg (by decide)]
      exact wpAny_pure ⟨rfl,rfl,i + 1,rfl,hlt⟩
  · obtain ⟨_,_,k,hr,hk⟩:=h1
    have:=congrArg List.length hr
    simp at this
    omega
section
variable {X:Cx}
end
end L2
namespace TL
open PySem PySem.Spec PyProof.Rows L2 PySem.SeqAt
section
variable {X:Cx} {a b e:Expr} {es:List Expr} {te ta tb:ET} {pos:Pos}
def okIx (ts:List D) (d:D) (j:Nat):Prop:=PyData.canLayAll0 ts=true∧d.canLay0=true∧min (PyData.depthAll ts) d.depth≤60∧(∃ t,ts[j]?=some t∧PyData.eqv t d=true)∧∀ (m:Nat) t,m < j→ts[m]?=some t→PyData.eqv t d=false
def rIndex (K:PySem.W.Frag):V→List V→Hp→VK→Prop:=fun x xs H Q=>∃ (y:V) (ts:List D) (d:D) (j:Nat),xs=[y]∧Rep K H (.tuple ts) x∧Rep K H d y∧okIx ts d j∧Q (.int j) H
theorem mt_indexU (hu:X.A.units + 200 < cLine):MtR X "tuple.index" (rIndex X.K):=by
  intro pins s σ H x xs v us Q I rx rv h
  obtain ⟨y,ts,d,j,rfl,r1,r2,⟨c1,c2,hm,⟨t,ht,he⟩,hno⟩,q⟩:=h
  obtain ⟨u,rfl,ru⟩:=rv.one
  obtain ⟨as,h1⟩:=Rep.reads I (show (PyData.tuple ts).hasDict=false from noDictAll c1) r1 rx
  obtain ⟨bs,h2⟩:=Rep.reads I (noDict c2) r2 ru
  cases h1 with
  | @tuple l o items n _ as' h3 h4 h5 h6 =>
    have hmap:=readsAll_map ts items.toList _ c1 h6
    have hlen:items.size=ts.length:=by rw [← hmap,List.length_map,Array.length_toList]
    have hjl:j < ts.length:=(List.getElem?_eq_some_iff.mp ht).1
    have hj:j < items.size:=by omega
    have rd:∀ (m:Nat) (hm:m < items.size),ts[m]?=some (readOf s.heap items[m]):=fun m hm=>by
      rw [← hmap,List.getElem?_map]
      simp [hm]
    obtain ⟨oc,od,odt,osl⟩:=o
    cases h4
    cases h5
    refine call_meets F.slot_tuple_index ⟨_,h3,rfl⟩ F.entry_tuple_index (F.args_tuple_index_2 _ _) (tuple_indexAt _ items _ od osl u (fun y=>PyData.eqv (readOf s.heap y) d) j hj ?_ ?_) ⟨h3,items_eqAt h6 h2 c1 c2 (by have:=hu; omega),?_⟩
    · have:=rd j hj
      rw [ht] at this
      rw [← Option.some.inj this]; exact he
    · intro m hm' hlt
      exact hno m _ hlt (rd m hm')
    · exact ⟨.int j,H,I.tok _,⟨_,rfl⟩,q⟩
theorem mt_index {k:Nat} (hr:Room k X.A):MtR X "tuple.index" (rIndex X.K):=mt_indexU (by have:=hr.un; omega)
def eIndex (te:ET) (t:AT):ET:=fun σ Q=>te σ fun d=>∃ ts,d=.tuple ts∧t σ fun ds=>∃ (x:D) (j:Nat),ds=[x]∧okIx ts x j∧Q (.int j)
theorem et_index {n:Expr} {ap:Pos} {t:AT} (hn:PEt X n te) (ha:PAt X (e::es) t)
    (pc:∀ {v:TE} {ta:TA},PE X n v→PA X (e::es) ta→PE X (.Call (.Attribute n "index" ap) (e::es) [] pos) (tBM X.K "tuple" (rIndex X.K) v ta)):PEt X (.Call (.Attribute n "index" ap) (e::es) [] pos) (eIndex te t):=by
  obtain ⟨v,pe,re⟩:=hn
  obtain ⟨va,pa,ra⟩:=ha
  refine ⟨_,pc pe pa,fun B p0 H ps σT σ Q QV o h k=>re B p0 H ps σT σ _ _ o h fun d x H1 s1 r1 q1=>?_⟩
  obtain ⟨ts,rfl,q1⟩:=q1
  cases r1 with
  | @tuple p xs _ hq rs =>
    refine ⟨.inr (.inl ⟨rfl,.inr ⟨_,Same.seqT mask_le hq⟩⟩),ra B p0 H1 ps σT σ _ _ (o.grow s1) q1 fun ds ys H2 s2 r2 q2=>?_⟩
    obtain ⟨d,j,rfl,hok,q⟩:=q2
    cases r2 with
    | cons r3 r4 =>
      cases r4
      exact ⟨_,ts,d,j,rfl,(Rep.tuple hq rs).same ((mask_same s2).trans mask_le),r3.same mask_le,hok,k _ _ H2 (s1.trans s2) (.int _) q⟩
theorem Reps.rep {K:PySem.W.Frag} {H:Hp} {ds:List D} {vs:List V} (r:Reps K H ds vs):∀ n:Nat,Reps K H (List.replicate n ds).flatten (List.replicate n vs).flatten
  | 0=>.nil
  | n + 1=>by
    rw [List.replicate_succ,List.replicate_succ,List.flatten_cons,List.flatten_cons]
    exact r.append (Reps.rep r n)
end
end TL

set_option Elab.async false
set_option linter.all false
set_option maxRecDepth 100000
namespace TL
open PySem PySem.Spec PyProof.Rows L2
section
variable {K:PySem.W.Frag} {H H':Hp} {B:Hp} {p0 ps:List Addr} {σT:List Sl} {σ:L2.St}
theorem Reps.put:∀ {ts:List D} {xs:List V} (n:Nat) {d:D} {v:V},Reps K H ts xs→Rep K H d v→Reps K H (ts.set n d) (xs.set n v)
  | _,_,_,_,_,.nil,_=>.nil
  | _,_,0,_,_,.cons _ t,r=>.cons r t
  | _,_,n + 1,_,_,.cons s t,r=>.cons s (Reps.put n t r)
def without (H:Hp) (p:Addr):Hp:=fun b=>if b=p then none else H b
theorem without_mask {p:Addr}:mask (without H p) ps=mask H (p::ps):=by
  funext b
  unfold mask without
  by_cases h1:b=p
  · simp [h1]
  · by_cases h2:b ∈ ps <;> simp [h1,h2]
theorem without_same {p:Addr} (s:Same H H') (hp:H p=none):Same H (without H' p):=fun b o e=>by
  unfold without
  rw [if_neg fun z=>by rw [z,hp] at e; cases e]
  exact s b o e
theorem without_upd {p:Addr} {u:HO} (hx:H p=some u):upd (without H p) p u=H:=by
  funext b
  by_cases h:b=p
  · subst h; rw [upd_same,hx]
  · rw [upd_ne h]
    unfold without
    rw [if_neg h]
theorem Same.free' (s:Same H H') {p:Addr} (h:H' p=none):H p=none:=by
  cases q:H p with
  | none=>rfl
  | some u=>rw [s p u q] at h; cases h
theorem Ok.takeOwn (o:Ok K B p0 H ps σT σ) {i:Nat} {ts:List D} {xs:List V} {p:Addr} (s:Same H H') (hp:H p=none) (hx:H' p=some (.lst xs)) (r:Reps K (mask H' (p::ps)) ts xs) :
    Ok K B p0 H' (p::ps) (σT.set i (.own ts)) (σ.set i (some (.ref p))):=by
  have o1:=o.grow (without_same s hp)
  have hn:without H' p p=none:=by unfold without; rw [if_pos rfl]
  have:=o1.setOwn (i:=i) (ts:=ts) (xs:=xs) hn (by rw [without_mask]; exact r)
  rwa [without_upd hx] at this
end
section
variable {X:Cx} {a b c e:Expr} {es:List Expr} {ta tb te:ET} {pos:Pos}
abbrev FT:=List Sl→(List D→Prop)→Prop
def PFt (X:Cx) (e:Expr) (t:FT):Prop:=∃ te:TE,PE X e te∧∀ (B:Hp) (p0:List Addr) (H:Hp) (ps:List Addr) (σT:List Sl) (σ:L2.St) (Q:List D→Prop) (QV:VK),Ok X.K B p0 H ps σT σ→t σT Q →
  (∀ ts p xs H',Same H H'→H p=none→H' p=some (.lst xs)→Reps X.K (mask H' (p::ps)) ts xs→Q ts→QV (.ref p) H')→te σ H QV
def eFr (t:FT):ET:=fun σ Q=>t σ fun ts=>Q (.list ts)
theorem et_fr {t:FT} (h:PFt X e t):PEt X e (eFr t):=by
  obtain ⟨v,p,r⟩:=h
  refine ⟨_,p,fun B p0 H ps σT σ Q QV o h k=>r B p0 H ps σT σ _ _ o h fun ts p xs H' s hp hx rs q=>k _ _ H' s ?_ q⟩
  exact .list (SqL.of (mask_at (fresh_notin o.live hp) hx)) (rs.same (mask_sub fun q hq=>List.mem_cons_of_mem _ hq))
def fAddL (ta tb:ET):FT:=fun σ Q=>ta σ fun x=>tb σ fun y=>∃ as bs,x=.list as∧y=.list bs∧as.length + bs.length≤100000∧Q (as++bs)
theorem ft_add (ha:PEt X a ta) (hb:PEt X b tb):PFt X (.BinOp a .Add b pos) (fAddL ta tb):=by
  obtain ⟨va,pa,ra⟩:=ha
  obtain ⟨vb,pb,rb⟩:=hb
  refine ⟨_,pe_op op_catL pa pb,fun B p0 H ps σT σ Q QV o h k=>ra B p0 H ps σT σ _ _ o h fun d1 x H1 s1 r1 q1=>?_⟩
  refine rb B p0 H1 ps σT σ _ _ (o.grow s1) q1 fun d2 y H2 s2 r2 q2=>?_
  obtain ⟨as,bs,rfl,rfl,hz,q⟩:=q2
  cases r1 with
  | list h1 t1 =>
    cases r2 with
    | list h2 t2 =>
      refine ⟨_,_,_,_,rfl,rfl,L2.Same.seq ((mask_same s2).trans mask_le) h1,L2.Same.seq mask_le h2,line5 (by rw [← t1.length,← t2.length]; exact hz),fun p hp=>?_⟩
      exact k _ p _ _ ((s1.trans s2).trans (same_new hp)) (Same.free' (s1.trans s2) hp) upd_same (by rw [mask_new hp]; exact (t1.same (mask_same s2)).append t2) q
def fLc (fr:List (Option Nat)) (ti:IT) (g:GT) (tt:TTt) (te:ET):FT:=fun σ Q=>ti σ fun ts=>ts.length≤100000∧∃ P:Nat→List Sl→List D→Prop,P 0 (inBlkT fr σ) [] ∧
  (∀ (k:Nat) (x:D) (σ':List Sl) (ds:List D),ts[k]?=some x→P k σ' ds→g x σ' fun σ2=>tt σ2 fun b=>if b=true then te σ2 fun y=>P (k + 1) σ2 (ds++[y]) else P (k + 1) σ2 ds)∧∀ σ' ds,P ts.length σ' ds→Q ds
def asL (Q:List D→Prop) (d:D):Prop:=match d with | .list ds=>Q ds | _=>False
theorem fLc_of {fr:List (Option Nat)} {ti:IT} {g:GT} {tt:TTt} {te:ET} {σ:List Sl} {Q:List D→Prop} (h:eLc fr ti g tt te σ (asL Q)):fLc fr ti g tt te σ Q:=h
theorem lc_readF {fr:List (Option Nat)} {ti:IT} {g:GT} {tt:TTt} {te:ET} {wi:TI} {gv:BP→TG} {vt:BP→TT} {ve:BP→TE}
    (ri:∀ (B:Hp) (p0:List Addr) (H:Hp) (ps:List Addr) (σT:List Sl) (σ:L2.St) (Q:List D→Prop) (R:It→Hp→Prop),Ok X.K B p0 H ps σT σ→ti σT Q→(∀ ts J H',Same H H'→Runs X.K (mask H' ps) ts J→Q ts→R J H')→wi σ H R)
    (rg:∀ (bp:BP) (B:Hp) (p0:List Addr) (H:Hp) (ps:List Addr) (σT:List Sl) (σ:L2.St) (d:D) (v:V) (Q:List Sl→Prop) (QV:L2.St→Hp→Prop),Ok X.K B p0 H ps σT σ→Rep X.K (mask H ps) d v→g d σT Q→(∀ σT' σ',Ok X.K B p0 H ps σT' σ'→(noOwn σT→noOwn σT')→Q σT'→QV σ' H)→gv bp v σ H QV)
    (rt:∀ (bp:BP) (B:Hp) (p0:List Addr) (H:Hp) (ps:List Addr) (σT:List Sl) (σ:L2.St) (Q:Bool→Prop) (QV:Bool→Hp→Prop),Ok X.K B p0 H ps σT σ→tt σT Q→(∀ b H',Same H H'→Q b→QV b H')→vt bp σ H QV)
    (re:∀ (bp:BP) (B:Hp) (p0:List Addr) (H:Hp) (ps:List Addr) (σT:List Sl) (σ:L2.St) (Q:D→Prop) (QV:VK),Ok X.K B p0 H ps σT σ→te σT Q→(∀ d v H',Same H H'→Rep X.K (mask H' ps) d v→Q d→QV v H')→ve bp σ H QV)
    (B:Hp) (p0:List Addr) (H:Hp) (ps:List Addr) (σT:List Sl) (σ:L2.St) (Q:List D→Prop) (QV:VK) (o:Ok X.K B p0 H ps σT σ) (h:fLc fr ti g tt te σT Q) (k:∀ ts p xs H',Same H H'→H p=none→H' p=some (.lst xs)→Reps X.K (mask H' (p::ps)) ts xs→Q ts→QV (.ref p) H'):tLc fr wi gv vt ve σ H QV:=by
  refine ri B p0 H ps σT σ _ _ o h fun ts J H1 s1 rj q1=>?_
  obtain ⟨hz,P,h0,hs,hd⟩:=q1
  intro bp acc hacc
  have hBacc:B acc=none:=Same.free' (o.grow s1).base hacc
  refine ⟨fun i m σ' H'=>m=ts.length - i∧i≤ts.length∧∃ σT' ds ys,Ok X.K B p0 H' (acc::ps) σT' σ'∧noOwn σT'∧H' acc=some (.lst ys)∧ds.length≤i∧Reps X.K (mask H' (acc::ps)) ds ys∧Same (mask H1 ps) (mask H' (acc::ps))∧Same H1 H'∧P i σT' ds,
    ⟨_,rfl,Nat.zero_le _,inBlkT fr σT,[],[],((o.grow s1).blk fr).adopt hacc,noOwn_blk fr σT,upd_same,Nat.le_refl _,.nil,by rw [mask_new hacc]; exact L2.Same.refl _,same_new hacc,h0⟩,?_⟩
  rintro i m σ' H' ⟨rfl,hle,σT',ds,ys,o',n',ha,hl,hr,s',sF,p'⟩
  have hL:sizeLine=2 ^ 24:=rfl
  by_cases hlt:i < ts.length
  · refine .inr ⟨rj.go i H' (s'.trans mask_le) hlt,fun y H2 hy=>?_⟩
    obtain ⟨s2,dx,hx,rx⟩:=rj.yld i H' (acc::ps) y H2 o'.live s' hlt hy
    refine rg bp B p0 H2 (acc::ps) σT' σ' dx y _ _ (o'.grow s2) rx (hs i dx σT' ds hx p') fun σT3 σ3 o3 n3 q3=>?_
    refine rt bp B p0 H2 (acc::ps) σT3 σ3 _ _ o3 q3 fun b H4 s4 q4=>?_
    have s24:=s2.trans s4
    cases b with
    | false =>
      exact ⟨ts.length - (i + 1),by omega,rfl,hlt,σT3,ds,ys,o3.grow s4,n3 n',s24 _ _ ha,by omega,hr.same (mask_same s24),s'.trans (mask_same s24),sF.trans s24,q4⟩
    | true =>
      refine re bp B p0 H4 (acc::ps) σT3 σ3 _ _ (o3.grow s4) q4 fun d v H5 s5 r5 q5=>?_
      have s25:=s24.trans s5
      have hm:mask (upd H5 acc (.lst (ys++[v]))) (acc::ps)=mask H5 (acc::ps):=mask_upd (List.mem_cons_self ..)
      refine ⟨ys,s25 _ _ ha,by rw [← hr.length]; omega,ts.length - (i + 1),by omega,rfl,hlt,σT3,ds++[d],ys++[v],((o3.grow s4).grow s5).aside (List.mem_cons_self ..) hBacc (n3 n'),n3 n',upd_same,by rw [List.length_append,List.length_singleton]; omega,?_,?_,?_,q5⟩
      · rw [hm]; exact (hr.same (mask_same s25)).append (.cons r5 .nil)
      · rw [hm]; exact s'.trans (mask_same s25)
      · intro b u e
        have ne:b ≠ acc:=fun z=>by rw [z,hacc] at e; cases e
        rw [upd_ne ne]; exact (sF.trans s25) b u e
  · obtain rfl:i=ts.length:=by omega
    exact .inl ⟨rj.stop _ H' (s'.trans mask_le) (Nat.le_refl _),k ds acc ys H' (s1.trans sF) (Same.free' s1 hacc) ha hr (hd σT' ds p')⟩
theorem lc_allF {elt iter tg:Expr} {ifs:List Expr} {scope:Scope} {fr:List (Option Nat)} {N':List Str} {ti:IT} {g:GT} {tt:TTt} {te:ET} (hi:PIt X tg iter ti)
    (hY:∀ b:BP,PGt (blk X scope N' b) tg g∧PIft (blk X scope N' b) ifs tt∧PEt (blk X scope N' b) elt te) {M:(TE)→Prop}
    (fin:∀ {wi:TI} {gv:BP→TG} {vt:BP→TT} {ve:BP→TE},PI X tg iter wi→(∀ b:BP,PG (blk X scope N' b) tg (gv b)∧PIf (blk X scope N' b) ifs (vt b)∧PE (blk X scope N' b) elt (ve b))→M (tLc fr wi gv vt ve)) :
    ∃ v:TE,M v∧∀ (B:Hp) (p0:List Addr) (H:Hp) (ps:List Addr) (σT:List Sl) (σ:L2.St) (Q:List D→Prop) (QV:VK),Ok X.K B p0 H ps σT σ→fLc fr ti g tt te σT Q →
      (∀ ts p xs H',Same H H'→H p=none→H' p=some (.lst xs)→Reps X.K (mask H' (p::ps)) ts xs→Q ts→QV (.ref p) H')→v σ H QV:=by
  obtain ⟨wi,pi,ri⟩:=hi
  refine ⟨_,fin (gv:=fun b=>Classical.choose (hY b).1) (vt:=fun b=>Classical.choose (hY b).2.1) (ve:=fun b=>Classical.choose (hY b).2.2) pi fun b=>⟨(Classical.choose_spec (hY b).1).1,(Classical.choose_spec (hY b).2.1).1,(Classical.choose_spec (hY b).2.2).1⟩,?_⟩
  exact lc_readF ri (fun b=>(Classical.choose_spec (hY b).1).2) (fun b=>(Classical.choose_spec (hY b).2.1).2) fun b=>(Classical.choose_spec (hY b).2.2).2
theorem ft_lc {elt iter tg:Expr} {ifs:List Expr} {scope:Scope} {fr:List (Option Nat)} {N':List Str} {ti:IT} {g:GT} {tt:TTt} {te:ET} (hi:PIt X tg iter ti)
    (hY:∀ b:BP,PGt (blk X scope N' b) tg g∧PIft (blk X scope N' b) ifs tt∧PEt (blk X scope N' b) elt te)
    (pl:∀ {wi:TI} {gv:BP→TG} {vt:BP→TT} {ve:BP→TE},PI X tg iter wi→(∀ b:BP,PG (blk X scope N' b) tg (gv b)∧PIf (blk X scope N' b) ifs (vt b)∧PE (blk X scope N' b) elt (ve b))→PE X (.ListComp elt [⟨tg,iter,ifs,0⟩] scope pos) (tLc fr wi gv vt ve)) :
    PFt X (.ListComp elt [⟨tg,iter,ifs,0⟩] scope pos) (fLc fr ti g tt te):=lc_allF hi hY pl
abbrev SpF:=List D→(List D→Prop)→Prop
def liftSpF (K:PySem.W.Frag) (sp:SpF):Sp:=fun vs H Q _=>∃ (ps:List Addr) (ds:List D) (QD:List D→Prop),(∀ p ∈ ps,H p ≠ none)∧Reps K (mask H ps) ds vs∧sp ds QD ∧
  ∀ ts p xs H',Same H H'→H p=none→H' p=some (.lst xs)→Reps K (mask H' (p::ps)) ts xs→QD ts→Q (.ref p) H'
def fCall (sp:SpF) (t:AT):FT:=fun σ Q=>t σ fun ds=>sp ds Q
theorem ft_call {k:Nat} {f:Addr} {fd:FuncData} {pn:List Str} {sp:SpF} {x:Str} {p:Pos} {t:AT} (F:FnOk X.prog X.w X.K X.mg X.base CX0 k f fd pn (liftSpF X.K sp)) (hm:X.mg x=some (.ref f)) (hk:PySem.W.keepIn X.K (.ref f)=true) (hb:Binds X.K fd pn [])
    (hr:Room k X.A) (ha:PAt X (e::es) t) (pc:∀ {ta:TA},PA X (e::es) ta→PE X (.Call (.Name x p) (e::es) [] pos) (tCall (liftSpF X.K sp) [] E0 ta)):PFt X (.Call (.Name x p) (e::es) [] pos) (fCall sp t):=by
  obtain ⟨v,pa,ra⟩:=ha
  refine ⟨_,pc pa,fun B p0 H ps σT σ Q QV o h k=>ra B p0 H ps σT σ _ _ o h fun ds xs H1 s1 r1 q1=>?_⟩
  show liftSpF X.K sp (xs++[]) H1 QV E0
  rw [List.append_nil]
  exact ⟨ps,ds,Q,(o.grow s1).live,r1,q1,fun ts p xs' H' s' hp hx rs q=>k ts p xs' H' (s1.trans s') (Same.free' s1 hp) hx rs q⟩
theorem fnF {P:Program} {w:World} {K:PySem.W.Frag} {mg:Str→Option Value} {base:Heap} {x qual:Str} {st:Stmt} {f:Addr} {fd:FuncData} {N pn:List Str} {k:Nat} {sp:SpF} (F:Fun K x qual st f fd) (S:FnScope N pn (defScope st)) (len:∀ ds Q,sp ds Q→ds.length=pn.length)
    (hbody:∀ (cdv:Value) (A:Around) (outer:List Env) (s:Shared) (H:Hp) (E:XK),Room k (A.deeper (envOfC qual (defScope st) s.heap.objs.size f cdv))→∀ (ds:List D) (Q:List D→Prop),sp ds Q →
      ∃ t,PSst (cxOf CX0 P w K mg base N qual (defScope st) f cdv A outer s H E).nox (defBody st) t∧t { nx:=fun _=>False,rt:=fun _=>False,ro:=Q } (startT N ds)):FnOk P w K mg base CX0 (k + 1) f fd pn (liftSpF K sp):=by
  refine F.ok S (fun vs H Q E h=>?_) fun cdv A outer s H vs Q E hr h=>?_
  · obtain ⟨ps,ds,QD,_,r,q,_⟩:=h
    rw [← r.length]; exact len ds QD q
  · obtain ⟨ps,ds,QD,live,r,q,k⟩:=h
    obtain ⟨t,⟨ts,p,rd⟩,h⟩:=hbody cdv A outer s H E hr ds QD q
    exact ⟨ts,p,rd H ps H ps _ _ _ _ (ok_start live r) h ⟨fun _ _ _ _ _ _ q'=>q'.elim,fun _ _ _ _ _ _ q'=>q'.elim,fun _ _ _ _ _ _ q'=>q'.elim,fun _ _ _ _ _ q'=>q'.elim,fun ts p xs H' s' hB hp hx rs q'=>k ts p xs H' s' hB hx rs q',fun _ _ _ _ _ _ _ _ _ _ _ _ _ _ _ _ _ _ q'=>q'.elim,fun _ _ _ _ _ _ _ _ _ _ _ _ _ _ q'=>q'.elim,True.intro⟩⟩
def sSetF (i:Nat) (t:FT):STt:=fun DT σ=>t σ fun ts=>DT.nx (σ.set i (.own ts))
theorem setF_read {i:Nat} {t:FT} {v:TE} (r:∀ (B:Hp) (p0:List Addr) (H:Hp) (ps:List Addr) (σT:List Sl) (σ:L2.St) (Q:List D→Prop) (QV:VK),Ok X.K B p0 H ps σT σ→t σT Q →
      (∀ ts p xs H',Same H H'→H p=none→H' p=some (.lst xs)→Reps X.K (mask H' (p::ps)) ts xs→Q ts→QV (.ref p) H')→v σ H QV)
    (B:Hp) (p0:List Addr) (H:Hp) (ps:List Addr) (σT:List Sl) (σ:L2.St) (DT:EndsT) (DV:Ends) (o:Ok X.K B p0 H ps σT σ) (h:sSetF i t DT σT) (f:Fits X.K B p0 H ps DT DV):tAsg v (gName i) DV σ H:=by
  refine r B p0 H ps σT σ _ _ o h fun ts p xs H' s hp hx rs q=>?_
  exact f.nx H' (p::ps) _ _ (o.takeOwn s hp hx rs) (by rw [← without_mask]; exact mask_same (without_same s hp)) q
theorem st_setlcF {i:Nat} {x:Str} {px spos:Pos} {elt iter tg:Expr} {ifs:List Expr} {scope:Scope} {fr:List (Option Nat)} {N':List Str} {ti:IT} {g:GT} {tt:TTt} {te:ET} (hi:PIt X tg iter ti)
    (hY:∀ b:BP,PGt (blk X scope N' b) tg g∧PIft (blk X scope N' b) ifs tt∧PEt (blk X scope N' b) elt te)
    (pl:∀ {wi:TI} {gv:BP→TG} {vt:BP→TT} {ve:BP→TE},PI X tg iter wi→(∀ b:BP,PG (blk X scope N' b) tg (gv b)∧PIf (blk X scope N' b) ifs (vt b)∧PE (blk X scope N' b) elt (ve b)) →
      PS X (.Assign [.Name x px] (.ListComp elt [⟨tg,iter,ifs,0⟩] scope pos) spos) (tAsg (tLc fr wi gv vt ve) (gName i))) :
    PSt X (.Assign [.Name x px] (.ListComp elt [⟨tg,iter,ifs,0⟩] scope pos) spos) (sSetF i (fLc fr ti g tt te)):=by
  obtain ⟨v,p,r⟩:=lc_allF (M:=fun v=>PS X (.Assign [.Name x px] (.ListComp elt [⟨tg,iter,ifs,0⟩] scope pos) spos) (tAsg v (gName i))) (fr:=fr) hi hY pl
  exact ⟨_,p,setF_read r⟩
def sRetF (t:FT):STt:=fun DT σ=>t σ DT.ro
theorem st_retF {t:FT} (h:PFt X e t):PSt X (.Return (some e) pos) (sRetF t):=by
  obtain ⟨v,p,r⟩:=h
  refine ⟨_,ps_ret p,fun B p0 H ps σT σ DT DV o h f=>r B p0 H ps σT σ _ _ o h fun ts p xs H' s hp hx rs q=>?_⟩
  refine f.ro ts p xs H' (o.base.trans s) (Same.free' o.base hp) (fun z=>fresh_notin o.live hp (o.sub p z)) hx (rs.same (mask_sub fun q hq=>?_)) q
  rcases List.mem_cons.mp hq with rfl | hq
  · exact List.mem_cons_self ..
  · exact List.mem_cons_of_mem _ (o.sub q hq)
def sRetOwn (i:Nat):STt:=fun DT σ=>∃ ts,σ[i]?=some (.own ts)∧DT.ro ts
theorem st_retOwn {i:Nat} {n:Expr} (hn:PE X n (tVar i)):PSt X (.Return (some n) pos) (sRetOwn i):=by
  refine ⟨_,ps_ret hn,fun B p0 H ps σT σ DT DV o h f=>?_⟩
  obtain ⟨ts,e,h⟩:=h
  obtain ⟨q,xs,h1,h2,h3,h4,h5,h6⟩:=o.own i ts e
  refine ⟨.ref q,h1,f.ro ts q xs H o.base h3 h4 h5 (h6.same (mask_sub fun z hz=>?_)) h⟩
  rcases List.mem_cons.mp hz with rfl | hz
  · exact h2
  · exact o.sub z hz
def gP3 (i j k:Nat):GT:=fun d σ Q=>∃ a b c,d=.tuple [a,b,c]∧Q (((σ.set i (.val a)).set j (.val b)).set k (.val c))
theorem gt_triple {i j k:Nat} {t:Expr} (h:PG X t (gTup X.K 3 (gCons (gName i) (gCons (gName j) (gCons (gName k) gNil))))):PGt X t (gP3 i j k) :=
  ⟨_,h,fun B p0 H ps σT σ d v Q QV o r h k=>by
    obtain ⟨a,b,c,rfl,h⟩:=h
    cases r with
    | @tuple p xs _ hq r =>
      cases r with
      | cons ra r =>
        cases r with
        | cons rb r =>
          cases r with
          | cons rc r =>
            cases r
            exact ⟨_,_,rfl,Same.seqT mask_le hq,rfl,_,_,rfl,_,_,rfl,_,_,rfl,rfl,k _ _ (((o.set ra).set rb).set rc) (fun n=>noOwn_set (noOwn_set (noOwn_set n _ _) _ _) _ _) h⟩⟩
def sUnpG (te:ET) (g:GT):STt:=fun DT σ=>te σ fun d=>g d σ DT.nx
theorem st_unpG {tg:Expr} {g:GT} (he:PEt X e te) (hg:PGt X tg g) (pa:∀ {v:TE} {gv:TG},PE X e v→PG X tg gv→PS X (.Assign [tg] e pos) (tAsg v gv)):PSt X (.Assign [tg] e pos) (sUnpG te g):=by
  obtain ⟨v,pe,re⟩:=he
  obtain ⟨gv,pg,rg⟩:=hg
  refine ⟨_,pa pe pg,fun B p0 H ps σT σ DT DV o h f=>re B p0 H ps σT σ _ _ o h fun d x H1 s1 r1 q1=>?_⟩
  exact rg B p0 H1 ps σT σ d x _ _ (o.grow s1) r1 q1 fun σT' σ' o' _ q'=>f.nx H1 ps _ _ o' (mask_same s1) q'
def eIf (c:TTt) (ta tb:ET):ET:=fun σ Q=>c σ fun b=>if b=true then ta σ Q else tb σ Q
theorem et_if {tc:TTt} (hc:PTt X c tc) (ha:PEt X a ta) (hb:PEt X b tb):PEt X (.IfExp c a b pos) (eIf tc ta tb):=by
  obtain ⟨vc,pc,rc⟩:=hc
  obtain ⟨va,pa,ra⟩:=ha
  obtain ⟨vb,pb,rb⟩:=hb
  refine ⟨_,pe_ifExp pc pa pb,fun B p0 H ps σT σ Q QV o h k=>rc B p0 H ps σT σ _ _ o h fun d H1 s1 q1=>?_⟩
  cases d with
  | true =>
    rw [if_pos rfl] at q1 ⊢
    exact ra B p0 H1 ps σT σ Q _ (o.grow s1) q1 fun d v H' s' r' q'=>k d v H' (s1.trans s') r' q'
  | false =>
    rw [if_neg (by decide)] at q1 ⊢
    exact rb B p0 H1 ps σT σ Q _ (o.grow s1) q1 fun d v H' s' r' q'=>k d v H' (s1.trans s') r' q'
end
end TL

set_option Elab.async false
set_option linter.all false
set_option maxRecDepth 100000
namespace L2
open PySem PySem.Spec PyProof.Rows PySem.SeqAt
open AutoSeq1 (wpAny_loadPart')
section
variable {X:Cx} {pins:List (Addr × Obj)} {σ:St} {H:Hp} {s:Shared} {p:Addr}
end
theorem extend_lst (l:Addr) (items:Array Value) (n:Nat) (b:Addr) (items2:Array Value) (n2:Nat) (dd:Option Addr) (sl:Array (Option Value)) (hc0:¬(!items.isEmpty && Builtin.List.listTooLong (items.size + items2.size))=true) (hc1:items.size≤sizeLine) (hs2:items.size + items2.size≤sizeLine + 1) :
    Meets (Builtin.«list.extend» ⟨[.ref l,.ref b],[]⟩) (fun _ R s=>s.heap.get? l=some { cls:=.type "list",dict:=none,data:=.seq items n,slots:=#[] }∧s.heap.get? b=some { cls:=.type "list",dict:=dd,data:=.seq items2 n2,slots:=sl }∧R (.ok (.ret Value.none)) { s with heap:=s.heap.update l (Obj.mapSeq fun x=>x++items2),toks:=s.toks }) :=
  .of_wp fun prog w A R s h=>by
    obtain ⟨hp,g,d,tk,os⟩:=s; obtain ⟨hl,hb,h⟩:=h; have f1:=AutoSeq1.idx_int; have f2:=AutoSeq1.sub_tuple_tuple; have f3:=AutoSeq1.sub_list_list; have f4:=AutoSeq1.sub_tuple_list; have f5:=AutoSeq1.sub_list_tuple
    have hz':(items++items2).size≤sizeLine + 1:=by rw [Array.size_append]; exact hs2
    wp_walk using (wpAny_updateSeq hl rfl (hz:=hc1) (_hz':=hz')),wpAny_loadPart' hl,wpAny_loadPart' hb
    exact ⟨_,rfl,h⟩
section
variable {X:Cx}
def rExtL (K:PySem.W.Frag):V→List V→Hp→VK→Prop:=fun x vs H Q=>∃ l b xs zs,x=.ref l∧vs=[.ref b]∧H l=some (.lst xs)∧SqL K H b zs∧xs.length + zs.length≤sizeLine∧Q .non (upd H l (.lst (xs++zs)))
theorem mt_extL:MtM X "list.extend" (rExtL X.K):=by
  intro pins s σ H x vs v us Q I rx rv h
  obtain ⟨l,b,xs,zs,rfl,rfl,hH,hB,hz,q⟩:=h
  cases rx
  obtain ⟨u,rfl,ru⟩:=rv.one
  cases ru
  obtain ⟨z,its,n,r,hl,e⟩:=I.lstM hH
  obtain ⟨its2,r2,⟨o,n2,e2,hc,hdn,hd⟩,z2⟩:=I.list hB
  have hl2:=r2.length
  have hsz:its.toArray.size + its2.toArray.size≤sizeLine:=by rw [List.size_toArray,List.size_toArray]; omega
  have hlong:¬ (!its.toArray.isEmpty && Builtin.List.listTooLong (its.toArray.size + its2.toArray.size))=true:=by
    rw [notLongL hsz,Bool.and_false]
    exact Bool.false_ne_true
  obtain ⟨oc,od,odt,osl⟩:=o
  cases hc
  cases hd
  refine call_meets F.slot_list_extend ⟨_,e,rfl⟩ F.entry_list_extend (F.args_list_extend_2 _ _) (extend_lst l its.toArray n b its2.toArray n2 od osl hlong (by rw [List.size_toArray]; omega) (by omega)) ⟨e,e2,?_⟩
  refine ⟨.non,_,I.lset (its':=its++its2) hH e (by simp) (r.append r2) ?_,rfl,q⟩
  rw [List.length_append]
  omega
end
end L2
namespace TL
open PySem PySem.Spec PyProof.Rows L2
section
variable {X:Cx} {a b c e:Expr} {es:List Expr} {ta tb te:ET} {pos:Pos}
def sExtL (i:Nat) (te:ET):STt:=fun DT σ=>∃ ts,σ[i]?=some (.own ts)∧te σ fun d=>∃ us,d=.list us∧ts.length + us.length≤100000∧DT.nx (σ.set i (.own (ts++us)))
theorem st_extL {i:Nat} {n e:Expr} {te:ET} {ap cp:Pos} (hn:PE X n (tVar i)) (he:PEt X e te) (hs:starEach [e] X.env=(false,eval e X.env)::starEach [] X.env:=by rfl)
    (pb:∀ {ta:TA},PA X [e] ta→PS X (.Expr (.Call (.Attribute n "extend" ap) [e] [] cp) pos) (tDrop (tBM X.K "list" (rExtL X.K) (tVar i) ta))):PSt X (.Expr (.Call (.Attribute n "extend" ap) [e] [] cp) pos) (sExtL i te):=by
  obtain ⟨v,p,r⟩:=he
  refine ⟨_,pb (pa_cons p pa_nil hs),fun B p0 H ps σT σ DT DV o h f=>?_⟩
  obtain ⟨ts,e,h⟩:=h
  obtain ⟨q,xs,h1,h2,h3,h4,h5,h6⟩:=o.own i ts e
  refine ⟨.ref q,h1,.inl ⟨rfl,xs,SqL.of h5⟩,r B p0 H ps σT σ _ _ o h fun d x H1 s1 r1 q1=>?_⟩
  obtain ⟨us,rfl,hz,q1⟩:=q1
  have o1:=o.grow s1
  cases r1 with
  | @list p2 zs _ hq rs =>
    refine ⟨q,p2,xs,zs,rfl,rfl,s1 _ _ h5,L2.Same.seq mask_le hq,line5 (by rw [← h6.length,← rs.length]; exact hz),?_⟩
    have hr:Reps X.K (mask H1 ps) (ts++us) (xs++zs):=(h6.same (mask_same s1)).append rs
    exact f.nx _ ps _ σ (o1.write (ys:=xs++zs) e h1 hr) ((mask_same s1).trans (by rw [mask_upd h2]; exact L2.Same.refl _)) q1
theorem fn_never {P:Program} {w:World} {K:PySem.W.Frag} {mg:Str→Option Value} {base:Heap} {k:Nat} {f:Addr} {fd:FuncData} {pn:List Str}:FnOk P w K mg base CX0 k f fd pn (liftSp K fun _ _=>False) :=
  ⟨fun vs H Q E ⟨_,_,_,_,_,h,_⟩=>h.elim,fun A outer s H args us vs Q E _ _ _ _ ⟨_,_,_,_,_,h,_⟩=>h.elim⟩
theorem fn_imp {P:Program} {w:World} {K:PySem.W.Frag} {mg:Str→Option Value} {base:Heap} {k:Nat} {f:Addr} {fd:FuncData} {pn:List Str} {sp sp':SpT} (F:FnOk P w K mg base CX0 k f fd pn (liftSp K sp)) (h:∀ ds Q,sp' ds Q→sp ds Q):FnOk P w K mg base CX0 k f fd pn (liftSp K sp') :=
  F.imp fun vs H Q E ⟨ps,ds,QD,h1,h2,h3,h4⟩=>⟨ps,ds,QD,h1,h2,h ds QD h3,h4⟩
def gMax (d:D) (Q:D→Prop):Prop:=∃ ns:List Int,d=.list (ns.map PyData.int)∧ns ≠ []∧∀ m,m ∈ ns→(∀ n ∈ ns,n≤m)→Q (.int m)
end
end TL

set_option Elab.async false
set_option linter.all false
set_option maxRecDepth 100000
namespace L2
open PySem PySem.Spec PyProof.Rows
section
variable {X:Cx}
theorem call_max_ints (hc:X.calm=true):CallR X (.builtin "max") (fun xs H Q=>∃ (p:Addr) (ns:List Int),xs=[.ref p]∧SqL X.K H p (ns.map V.int)∧ns ≠ []∧∀ m,m ∈ ns→(∀ n ∈ ns,n≤m)→Q (.int m) H):=by
  intro pins s σ H xs us Q I r h
  obtain ⟨p,ns,rfl,hq,hne0,q⟩:=h
  obtain ⟨u,rfl,rx⟩:=vals1 r
  cases rx
  obtain ⟨its,rv,pl,hz⟩:=I.list hq
  have hlen:=rv.length
  rw [List.length_map] at hlen
  have hpos:0 < ns.length:=List.length_pos_iff.mpr hne0
  have hne:p ≠ s.heap.objs.size:=by
    obtain ⟨o,ho,_⟩:=pl.isList
    exact Nat.ne_of_lt (Heap.lt_size ho)
  have hl1:=pl.isList
  have hplt:p < s.heap.objs.size:=by
    obtain ⟨o,ho,_⟩:=hl1
    exact Heap.lt_size ho
  have hval:∀ (i:Nat) (v:Value),its.toArray[i]?=some v→∃ t,v=.int ((ns[i]?).getD 0) t:=fun i v hP=>by
    have hv:its[i]?=some v:=by simpa using hP
    have hi:i < its.length:=(List.getElem?_eq_some_iff.mp hv).1
    have hb:i < ns.length:=by omega
    obtain ⟨w',h1,h2⟩:=rv.get (i:=i) (x:=.int ns[i]) (by rw [List.getElem?_map,List.getElem?_eq_getElem hb]; rfl)
    rw [hv] at h1
    cases h1
    rw [List.getElem?_eq_getElem hb]
    exact h2
  refine call_max_walk (wpAny_pyIter_list hl1 ?_)
  refine ⟨_,_,_,_,_,_,_,rfl,Walks.list (A:=X.A.in1) (I.ok.hd hc) _ p hne its.toArray,⟨⟨_,Heap.get?_push_size _ rfl,rfl,rfl⟩,hl1.push _⟩,fun b hb=>?_,by rw [List.size_toArray]; omega,CmpOf.ints_gt (fun i=>(ns[i]?).getD 0) hval,fun v h' tk hP hk=>?_⟩
  · show b < (s.heap.push _).objs.size
    rw [Heap.size_push]
    have:b=s.heap.objs.size ∨ b=p:=by simpa using hb
    rcases this with rfl | rfl
    · exact Nat.lt_succ_self _
    · exact Nat.lt_succ_of_lt hplt
  · obtain ⟨t,rfl⟩:=hval _ _ hP
    have hb:=argBest_gt (fun i=>(ns[i]?).getD 0) (its.toArray.size - 1)
    have hsz:its.toArray.size=ns.length:=by rw [List.size_toArray]; omega
    have hi:argBest (fun i j=>decide ((ns[i]?).getD 0 > (ns[j]?).getD 0)) (its.toArray.size - 1) < ns.length:=by have:=hb.1; omega
    refine ⟨.int _,H,I.kept fun b o e=>hk b o ?_ (Heap.get?_push_of_some _ e),⟨t,rfl⟩,q _ ?_ fun n hn=>?_⟩
    · intro z
      have:b=s.heap.objs.size:=by simpa using z
      exact absurd (Heap.lt_size e) (by rw [this]; exact Nat.lt_irrefl _)
    · rw [List.getElem?_eq_getElem hi]
      exact List.getElem_mem hi
    · obtain ⟨j,hj,rfl⟩:=List.mem_iff_getElem.mp hn
      have:=hb.2 j (by omega)
      rw [List.getElem?_eq_getElem hj] at this
      exact this

end
end L2
namespace TL
open PySem PySem.Spec PyProof.Rows L2
section
variable {X:Cx} {a b c e:Expr} {es:List Expr} {ta tb te:ET} {pos:Pos}
theorem c_max:CallT X (fun xs H Q=>∃ (p:Addr) (ns:List Int),xs=[.ref p]∧SqL X.K H p (ns.map V.int)∧ns ≠ []∧∀ m,m ∈ ns→(∀ n ∈ ns,n≤m)→Q (.int m) H) (f1 gMax):=c1 fun H ps d x Q QV live r h k=>by
  obtain ⟨ns,rfl,hne,h⟩:=h
  cases r with
  | list q s =>
    have e:=reps_ints s
    subst e
    exact ⟨_,ns,rfl,L2.Same.seq mask_le q,hne,fun m hm hn=>k _ _ H (L2.Same.refl H) (.int _) (h m hm hn)⟩
end
end TL

set_option Elab.async false
set_option linter.all false
set_option maxRecDepth 100000
namespace TL
open PySem PySem.Spec PyProof.Rows L2
theorem Ok.setUn {K:PySem.W.Frag} {B H:Hp} {p0 ps:List Addr} {σT:List Sl} {σ:L2.St} (o:Ok K B p0 H ps σT σ) {i:Nat} {v:V}:Ok K B p0 H ps (σT.set i .un) (σ.set i (some v)) where
  base:=o.base
  sub:=o.sub
  live:=o.live
  len:=by simpa using o.len
  val:=fun j d' h=>by
    by_cases e:i=j
    · subst e
      have hi:i < σT.length:=by
        have:=(List.getElem?_eq_some_iff.mp h).1
        simpa using this
      rw [List.getElem?_set_self hi] at h
      cases h
    · rw [List.getElem?_set_ne e] at h ⊢
      exact o.val j d' h
  own:=fun j ts h=>by
    by_cases e:i=j
    · subst e
      have hi:i < σT.length:=by
        have:=(List.getElem?_eq_some_iff.mp h).1
        simpa using this
      rw [List.getElem?_set_self hi] at h
      cases h
    · rw [List.getElem?_set_ne e] at h ⊢
      exact o.own j ts h
  dis:=fun j k ts us p h1 h2 h3 h4=>by
    have ne:∀ {l:Nat} {ts:List D},(σT.set i .un)[l]?=some (.own ts)→i ≠ l:=fun {l ts} h e=>by
      subst e
      have hi:i < σT.length:=by
        have:=(List.getElem?_eq_some_iff.mp h).1
        simpa using this
      rw [List.getElem?_set_self hi] at h
      cases h
    have e1:=ne h1
    have e2:=ne h2
    rw [List.getElem?_set_ne e1] at h1 h3
    rw [List.getElem?_set_ne e2] at h2 h4
    exact o.dis j k ts us p h1 h2 h3 h4
  dc:=o.dc.setS fun _ _ z=>nomatch z
section
variable {X:Cx} {a b c e:Expr} {es:List Expr} {ta tb te:ET} {pos:Pos}
end
end TL

set_option Elab.async false
set_option linter.all false
set_option maxRecDepth 100000
namespace L2
open PySem PySem.Spec PyProof.Rows PySem.SeqAt
section
variable {X:Cx}
end
section
variable {P:Program} {w:World} {A:Around} {E:Value→Shared→Prop} {s:Shared}
end
section
variable {X:Cx}
end
end L2
namespace TL
open PySem PySem.Spec PyProof.Rows L2 PySem.SeqAt
variable {K:PySem.W.Frag}
def KTup (K:PySem.W.Frag) (a:Addr) (ys:List Str):Prop:=∃ (o:Obj) (its:Array Value) (n:Nat),K.lookup a=some o∧o.cls=.type "tuple"∧o.dict=none∧o.data=.seq its n∧its.size≤sizeLine∧Vals (ys.map V.str) its.toList
theorem reps_strs' {H:Hp}:∀ ys:List Str,Reps K H (ys.map PyData.str) (ys.map V.str)
  | []=>.nil
  | y::ys=>.cons (.str y) (reps_strs' ys)
section
variable {X:Cx} {a b c e:Expr} {es:List Expr} {ta tb te:ET} {pos:Pos}
theorem et_gtup {x:Str} {p:Addr} {ys:List Str} {pos:Pos} (hg:Gl X x) (hm:X.mg x=some (.ref p)) (hk:KTup X.K p ys) (hd:(x == ("__debug__":Str))=false:=by decide):PEt X (.Name x pos) (eC (.tuple (ys.map PyData.str))) :=
  ⟨_,pe_glob (v:=.ref p) hg hm rfl hd,fun _ _ H _ _ _ _ _ _ h k=>k _ _ H (L2.Same.refl H) (.tuple (.inr hk) (reps_strs' ys)) h⟩
def rLIndex (K:PySem.W.Frag):V→List V→Hp→VK→Prop:=fun x xs H Q=>∃ (y:V) (ts:List D) (d:D) (j:Nat),xs=[y]∧Rep K H (.list ts) x∧Rep K H d y∧okIx ts d j∧j < 1000000∧Q (.int j) H
theorem mt_lindexU (hu:X.A.units + 200 < cLine):MtR X "list.index" (rLIndex X.K):=by
  intro pins s σ H x xs v us Q I rx rv h
  obtain ⟨y,ts,d,j,rfl,r1,r2,⟨c1,c2,hm,⟨t,ht,he⟩,hno⟩,hj0,q⟩:=h
  obtain ⟨u,rfl,ru⟩:=rv.one
  obtain ⟨as,h1⟩:=Rep.reads I (show (PyData.list ts).hasDict=false from noDictAll c1) r1 rx
  obtain ⟨bs,h2⟩:=Rep.reads I (noDict c2) r2 ru
  cases h1 with
  | @list l o items n _ as' h3 h4 h5 h6 =>
    have hmap:=readsAll_map ts items.toList _ c1 h6
    have hlen:items.size=ts.length:=by rw [← hmap,List.length_map,Array.length_toList]
    have hjl:j < ts.length:=(List.getElem?_eq_some_iff.mp ht).1
    have hj:j < items.size:=by omega
    have rd:∀ (m:Nat) (hm:m < items.size),ts[m]?=some (readOf s.heap items[m]):=fun m hm=>by
      rw [← hmap,List.getElem?_map]
      simp [hm]
    obtain ⟨oc,od,odt,osl⟩:=o
    cases h4
    cases h5
    refine call_meets F.slot_list_index ⟨_,h3,rfl⟩ F.entry_list_index (F.args_list_index_2 _ _) (list_indexAt _ items _ od osl u (fun y=>PyData.eqv (readOf s.heap y) d) j hj (by omega) ?_ ?_) ⟨h3,items_eqAt h6 h2 c1 c2 (by have:=hu; omega),?_⟩
    · have:=rd j hj
      rw [ht] at this
      rw [← Option.some.inj this]; exact he
    · intro m hm' hlt
      exact hno m _ hlt (rd m hm')
    · exact ⟨.int j,H,I.tok _,⟨_,rfl⟩,q⟩
theorem mt_lindex {k:Nat} (hr:Room k X.A):MtR X "list.index" (rLIndex X.K):=mt_lindexU (by have:=hr.un; omega)
def eLIndex (te:ET) (t:AT):ET:=fun σ Q=>te σ fun d=>∃ ts,d=.list ts∧t σ fun ds=>∃ (x:D) (j:Nat),ds=[x]∧okIx ts x j∧j < 1000000∧Q (.int j)
theorem et_lindex {n:Expr} {ap:Pos} {t:AT} (hn:PEt X n te) (ha:PAt X (e::es) t)
    (pc:∀ {v:TE} {ta:TA},PE X n v→PA X (e::es) ta→PE X (.Call (.Attribute n "index" ap) (e::es) [] pos) (tBM X.K "list" (rLIndex X.K) v ta)):PEt X (.Call (.Attribute n "index" ap) (e::es) [] pos) (eLIndex te t):=by
  obtain ⟨v,pe,re⟩:=hn
  obtain ⟨va,pa,ra⟩:=ha
  refine ⟨_,pc pe pa,fun B p0 H ps σT σ Q QV o h k=>re B p0 H ps σT σ _ _ o h fun d x H1 s1 r1 q1=>?_⟩
  obtain ⟨ts,rfl,q1⟩:=q1
  cases r1 with
  | @list p xs _ hq rs =>
    refine ⟨.inl ⟨rfl,_,L2.Same.seq mask_le hq⟩,ra B p0 H1 ps σT σ _ _ (o.grow s1) q1 fun ds ys H2 s2 r2 q2=>?_⟩
    obtain ⟨d,j,rfl,hok,hj,q⟩:=q2
    cases r2 with
    | cons r3 r4 =>
      cases r4
      exact ⟨_,ts,d,j,rfl,(Rep.list hq rs).same ((mask_same s2).trans mask_le),r3.same mask_le,hok,hj,k _ _ H2 (s1.trans s2) (.int _) q⟩
def okCt (ts:List D) (d:D):Prop:=PyData.canLayAll0 ts=true∧d.canLay0=true∧min (PyData.depthAll ts) d.depth≤60
def rLCount (K:PySem.W.Frag):V→List V→Hp→VK→Prop:=fun x xs H Q=>∃ (y:V) (ts:List D) (d:D),xs=[y]∧Rep K H (.list ts) x∧Rep K H d y∧okCt ts d∧Q (.int ((ts.countP fun t=>PyData.eqv t d:Nat):Int)) H
theorem mt_lcountU (hu:X.A.units + 200 < cLine):MtR X "list.count" (rLCount X.K):=by
  intro pins s σ H x xs v us Q I rx rv h
  obtain ⟨y,ts,d,rfl,r1,r2,⟨c1,c2,hm⟩,q⟩:=h
  obtain ⟨u,rfl,ru⟩:=rv.one
  obtain ⟨as,h1⟩:=Rep.reads I (show (PyData.list ts).hasDict=false from noDictAll c1) r1 rx
  obtain ⟨bs,h2⟩:=Rep.reads I (noDict c2) r2 ru
  cases h1 with
  | @list l o items n _ as' h3 h4 h5 h6 =>
    have hmap:=readsAll_map ts items.toList _ c1 h6
    obtain ⟨oc,od,odt,osl⟩:=o
    cases h4
    cases h5
    refine call_meets F.slot_list_count ⟨_,h3,rfl⟩ F.entry_list_count (F.args_list_count_2 _ _) (list_countAt _ items _ od osl u (fun y=>PyData.eqv (readOf s.heap y) d)) ⟨h3,items_eqAt h6 h2 c1 c2 (by have:=hu; omega),?_⟩
    refine ⟨.int _,H,I.tok _,⟨_,rfl⟩,?_⟩
    have e:(items.toList.countP fun y=>PyData.eqv (readOf s.heap y) d)=ts.countP fun t=>PyData.eqv t d:=by
      rw [← hmap,List.countP_map]; rfl
    rw [e]; exact q
theorem mt_lcount {k:Nat} (hr:Room k X.A):MtR X "list.count" (rLCount X.K):=mt_lcountU (by have:=hr.un; omega)
def eLCount (te:ET) (t:AT):ET:=fun σ Q=>te σ fun d=>∃ ts,d=.list ts∧t σ fun ds=>∃ x:D,ds=[x]∧okCt ts x∧Q (.int ((ts.countP fun t=>PyData.eqv t x:Nat):Int))
theorem et_lcount {n:Expr} {ap:Pos} {t:AT} (hn:PEt X n te) (ha:PAt X (e::es) t)
    (pc:∀ {v:TE} {ta:TA},PE X n v→PA X (e::es) ta→PE X (.Call (.Attribute n "count" ap) (e::es) [] pos) (tBM X.K "list" (rLCount X.K) v ta)):PEt X (.Call (.Attribute n "count" ap) (e::es) [] pos) (eLCount te t):=by
  obtain ⟨v,pe,re⟩:=hn
  obtain ⟨va,pa,ra⟩:=ha
  refine ⟨_,pc pe pa,fun B p0 H ps σT σ Q QV o h k=>re B p0 H ps σT σ _ _ o h fun d x H1 s1 r1 q1=>?_⟩
  obtain ⟨ts,rfl,q1⟩:=q1
  cases r1 with
  | @list p xs _ hq rs =>
    refine ⟨.inl ⟨rfl,_,L2.Same.seq mask_le hq⟩,ra B p0 H1 ps σT σ _ _ (o.grow s1) q1 fun ds ys H2 s2 r2 q2=>?_⟩
    obtain ⟨d,rfl,hok,q⟩:=q2
    cases r2 with
    | cons r3 r4 =>
      cases r4
      exact ⟨_,ts,d,rfl,(Rep.list hq rs).same ((mask_same s2).trans mask_le),r3.same mask_le,hok,k _ _ H2 (s1.trans s2) (.int _) q⟩
end
end TL
namespace TL
open PySem
end TL
namespace TL
open PySem PySem.Spec PyProof.Rows L2
section
variable {fr:List (Option Nat)} {ti:IT} {tt:TTt} {te:ET} {σ:List Sl} {Q:D→Prop} {ts:List D}
end
end TL

set_option Elab.async false
set_option linter.all false
namespace TL
open PySem PySem.Builtin PySem.Builtin.Str PySem.StrLaws
end TL

set_option Elab.async false
set_option linter.all false
set_option maxRecDepth 100000
namespace L2
open PySem PySem.Spec PyProof.Rows PySem.Builtin.Str
section
variable {X:Cx}
end
end L2
namespace TL
open PySem PySem.Spec PyProof.Rows L2
section
variable {X:Cx} {a b c e:Expr} {es:List Expr} {ta tb te:ET} {pos:Pos}
theorem st_no {s:Stmt}:PSt X s (fun _ _=>False):=⟨fun _ _ _=>False,fun _ _ _ _ _ _ h=>h.elim,fun _ _ _ _ _ _ _ _ _ h _=>h.elim⟩
end
end TL

set_option Elab.async false
set_option linter.all false
set_option maxRecDepth 100000
namespace L2
open PySem PySem.Spec PyProof.Rows PySem.Builtin
section
variable {X:Cx} {e:Expr} {pos:Pos}
def rngAt (r:Addr) (j:Int) (h:Heap):Prop:=∃ t u v,IsRange h r 0 j 1 t u v
theorem call_rangeV:CallR X (.type "range") (fun xs H Q=>∃ j:Int,xs=[.int j]∧∀ r,H r=none→Q (.ref r) (upd H r (.ext (rngAt r j)))):=by
  intro pins s σ H xs us Q I r h
  obtain ⟨j,rfl,q⟩:=h
  obtain ⟨u,rfl,ru⟩:=vals1 r
  obtain ⟨t,rfl⟩:=ru
  refine call_range_1 ⟨.ref s.heap.objs.size,_,I.laid (t':=s.toks + 1 + 1) (o:=.ext (rngAt s.heap.objs.size j)) (fun b u e=>Heap.get?_push_of_some _ e) (Nat.le_refl _) ?_,rfl,q _ (I.hok.fresh (Nat.le_refl _))⟩
  exact ⟨⟨_,_,_,Heap.get?_push_size _ rfl⟩,⟨_,Heap.get?_push_size _ rfl⟩,fun h1 h2 ⟨t,u,v,z⟩ k=>⟨t,u,v,k _ z⟩⟩
theorem vals_rng:∀ (n a:Nat) (us:List Value),us.length=n→(∀ (j:Nat) v,us[j]?=some v→∃ t,v=.int ((a + j:Nat):Int) t)→Vals ((List.range' a n).map fun (k:Nat)=>V.int (k:Int)) us
  | 0,_,us,hl,_=>by rw [List.length_eq_zero_iff.mp hl]; exact .nil
  | n + 1,a,us,hl,h=>by
    match us,hl with
    | u::us,hl =>
      rw [List.range'_succ,List.map_cons]
      obtain ⟨t,ht⟩:=h 0 u rfl
      refine .cons ⟨t,by rw [ht]; rfl⟩ (vals_rng n (a + 1) us (by simpa using hl) fun j v hv=>?_)
      obtain ⟨t',ht'⟩:=h (j + 1) v (by simpa using hv)
      exact ⟨t',by rw [ht']; congr 2; omega⟩
end
end L2
namespace TL
open PySem PySem.Spec PyProof.Rows L2
section
variable {X:Cx} {a b c e:Expr} {es:List Expr} {ta tb te:ET} {pos:Pos}
theorem reps_rng {K:PySem.W.Frag} {H:Hp}:∀ l:List Nat,Reps K H (l.map fun (k:Nat)=>PyData.int (k:Int)) (l.map fun (k:Nat)=>V.int (k:Int))
  | []=>.nil
  | k::l=>.cons (.int _) (reps_rng l)
theorem bl_range:bootBuiltins "range"=some (.type "range"):=by decide +kernel
end
end TL

set_option Elab.async false
set_option linter.all false
set_option maxRecDepth 100000
namespace L2
open PySem PySem.Spec PyProof.Rows
section
variable {X:Cx} {pins:List (Addr × Obj)} {σ:St} {H:Hp} {s:Shared} {p q:Addr}
end
end L2
namespace TL
open PySem PySem.Spec PyProof.Rows L2
section
variable {X:Cx} {a b c e:Expr} {es:List Expr} {ta tb te:ET} {pos:Pos}
end
end TL
namespace TL
open PySem PySem.Spec PyProof.Rows L2
section
variable {X:Cx} {a b c e:Expr} {es:List Expr} {ta tb te:ET} {pos:Pos}
def constSs:List Expr→Option (List Str)
  | []=>some []
  | .Constant (.str z) _ _::es=>(constSs es).map (z::·)
  | _=>none
theorem at_consts:∀ {es:List Expr} {zs:List Str},constSs es=some zs→PAt X es (fun _ Q=>Q (zs.map PyData.str))
  | [],zs,h=>by
    cases h
    exact at_nil
  | .Constant (.str z) k p::es,zs,h=>by
    have h':(constSs es).map (z::·)=some zs:=h
    obtain ⟨ys,hy,rfl⟩:=Option.map_eq_some_iff.mp h'
    exact at_cons et_str (at_consts hy)
theorem st_setN {i:Nat} {x:Str} {pos':Pos} (hN:X.N.Nodup) (hi:X.N[i]?=some x) (hx:Loc X.env.scope x) (he:PEt X e te) (hs:swapsWith e (some (.Name x pos')) pos.line X.env=pure false:=by rfl) (hf:X.fn x=true ∨ X.env.scope.names.lookup x=some .local:=by first | exact .inl rfl | exact .inr rfl | assumption) :
    PSt X (.Assign [.Name x pos'] e pos) (sSet i te):=st_set he fun h=>ps_set hN hi hx h hs hf
end
end TL

set_option Elab.async false
set_option linter.all false
set_option maxRecDepth 100000
namespace L2
open PySem PySem.Spec PyProof.Rows
section
variable {P:Program} {w:World} {A:Around} {E:Value→Shared→Prop} {s:Shared}
end
section
variable {X:Cx}
end
end L2
namespace TL
open PySem PySem.Spec PyProof.Rows L2
section
variable {X:Cx} {a b:Expr} {pos:Pos}
end
end TL

set_option Elab.async false
set_option linter.all false
set_option maxRecDepth 100000
namespace L2
open PySem PySem.Spec PyProof.Rows

section
variable {κ:Type} [DecidableEq κ]
def valV (kvs:List (κ × V)) (k:κ):Option V:=(kvs.find? fun kv=>decide (kv.1=k)).map (·.2)
def putK (kvs:List (κ × V)) (k:κ) (v:V):List (κ × V) :=
  if (kvs.any fun kv=>decide (kv.1=k))=true then kvs.map (fun kv=>if kv.1=k then (kv.1,v) else kv) else kvs++[(k,v)]
def dropK (kvs:List (κ × V)) (k:κ):List (κ × V):=kvs.filter fun kv=>decide (kv.1 ≠ k)

theorem valV_pos {p:κ × V} {r:List (κ × V)} {k:κ} (e:p.1=k):valV (p::r) k=some p.2:=by simp [valV,List.find?_cons,e]
theorem valV_neg {p:κ × V} {r:List (κ × V)} {k:κ} (e:¬ p.1=k):valV (p::r) k=valV r k:=by simp [valV,List.find?_cons,e]
theorem valV_any (k:κ):∀ kvs:List (κ × V),(kvs.any fun kv=>decide (kv.1=k))=(valV kvs k).isSome
  | []=>rfl
  | p::r=>by
    rw [List.any_cons]
    by_cases e:p.1=k
    · simp only [valV_pos e,decide_eq_true e,Bool.true_or,Option.isSome_some]
    · rw [valV_neg e,decide_eq_false e,Bool.false_or]; exact valV_any k r
theorem length_putK (kvs:List (κ × V)) (k:κ) (v:V):(putK kvs k v).length≤kvs.length + 1:=by
  unfold putK
  split
  · rw [List.length_map]; omega
  · rw [List.length_append,List.length_cons,List.length_nil]; omega
theorem RelO.isSome_eq {o:Option V} {u:Option Value} (r:RelO o u):o.isSome=u.isSome:=by
  cases o with
  | none=>cases u with
    | none=>rfl
    | some _=>exact (show False from r).elim
  | some _=>cases u with
    | none=>exact (show False from r).elim
    | some _=>rfl
theorem KV.val {kvs:List (κ × V)} {vs:List (κ × Value)} (r:KV kvs vs) (k:κ):RelO (valV kvs k) (valueAt vs k):=by
  unfold KV at r
  induction r with
  | nil=>exact True.intro
  | @cons p q ps qs h t ih =>
    obtain ⟨h1,h2⟩:=h
    by_cases e:p.1=k
    · have e':q.1=k:=h1.symm.trans e
      have b:valueAt (q::qs) k=some q.2:=by simp [valueAt,List.find?_cons,e']
      rw [valV_pos e,b]; exact h2
    · have e':¬ q.1=k:=fun z=>e (h1.trans z)
      have b:valueAt (q::qs) k=valueAt qs k:=by simp [valueAt,List.find?_cons,e']
      rw [valV_neg e,b]; exact ih
theorem KV.any {kvs:List (κ × V)} {vs:List (κ × Value)} (r:KV kvs vs) (k:κ):(kvs.any fun kv=>decide (kv.1=k))=vs.any fun kv=>decide (kv.1=k):=by
  unfold KV at r
  induction r with
  | nil=>rfl
  | cons h t ih=>rw [List.any_cons,List.any_cons,ih,h.1]
theorem KV.repl {kvs:List (κ × V)} {vs:List (κ × Value)} (r:KV kvs vs) (k:κ) {y:V} {u:Value} (ry:RelV y u) :
    KV (kvs.map fun kv=>if kv.1=k then (kv.1,y) else kv) (vs.map fun kv=>if kv.1=k then (kv.1,u) else kv):=by
  unfold KV at r ⊢
  induction r with
  | nil=>exact .nil
  | @cons p q ps qs h t ih =>
    rw [List.map_cons,List.map_cons]
    refine .cons ?_ ih
    obtain ⟨h1,h2⟩:=h
    by_cases e:p.1=k
    · rw [if_pos e,if_pos (h1.symm.trans e)]; exact ⟨h1,ry⟩
    · rw [if_neg e,if_neg (fun z=>e (h1.trans z))]; exact ⟨h1,h2⟩
theorem KV.put {kvs:List (κ × V)} {vs:List (κ × Value)} (r:KV kvs vs) (k:κ) {y:V} {u:Value} (ry:RelV y u):KV (putK kvs k y) (stored vs k u):=by
  unfold putK stored
  rw [r.any k]
  by_cases e:(vs.any fun kv=>decide (kv.1=k))=true
  · rw [if_pos e,if_pos e]; exact r.repl k ry
  · rw [if_neg e,if_neg e]; exact Paired.snoc r ⟨rfl,ry⟩
theorem KV.drop {kvs:List (κ × V)} {vs:List (κ × Value)} (r:KV kvs vs) (k:κ):KV (dropK kvs k) (without vs k):=by
  unfold KV at r ⊢
  unfold dropK without
  induction r with
  | nil=>exact .nil
  | @cons p q ps qs h t ih =>
    obtain ⟨h1,h2⟩:=h
    rw [List.filter_cons,List.filter_cons]
    by_cases e:p.1=k
    · have a:¬ decide (p.1 ≠ k)=true:=by simp [e]
      have b:¬ decide (q.1 ≠ k)=true:=by simp [h1.symm.trans e]
      rw [if_neg a,if_neg b]; exact ih
    · have e':¬ q.1=k:=fun z=>e (h1.trans z)
      have a:decide (p.1 ≠ k)=true:=by simp [e]
      have b:decide (q.1 ≠ k)=true:=by simp [e']
      rw [if_pos a,if_pos b]; exact .cons ⟨h1,h2⟩ ih
theorem KV.length {kvs:List (κ × V)} {vs:List (κ × Value)} (r:KV kvs vs):kvs.length=vs.length:=Paired.length r
end


theorem kV_is {P:Program} {w:World} {k:Key} {u:Value} (r:RelV (kV k) u):(mixKind P w).is k u=true:=by
  cases k with
  | inl i=>obtain ⟨t,e⟩:=(show ∃ t,u=Value.int i t from r); subst e; exact mixKind_int P w i t
  | inr x=>obtain ⟨t,e⟩:=(show ∃ t,u=Value.str x t from r); subst e; exact mixKind_str P w x t
theorem items_are {P:Program} {w:World}:∀ {ks:List Key} {us:List Value},Vals (ks.map kV) us→ItemsAre (mixKind P w) ks us
  | [],_,r=>by rw [List.map_nil] at r; cases r; exact .nil
  | k::ks,_,r=>by
    rw [List.map_cons] at r
    cases r with
    | cons h t=>exact .cons (kV_is h) (items_are t)

abbrev KT (H:Hp):List (List Key × V)→List (List Key × Addr × Value)→Prop:=Paired fun p q=>p.1=q.1∧H q.2.1=some (.tup (p.1.map kV))∧RelV p.2 q.2.2
theorem KT.val {H:Hp} {kvs:List (List Key × V)} {xs:List (List Key × Addr × Value)} (r:KT H kvs xs) (k:List Key):RelO (valV kvs k) ((atKey xs k).map (·.2)):=by
  induction r with
  | nil=>exact True.intro
  | @cons p q ps qs h t ih =>
    obtain ⟨h1,_,h2⟩:=h
    by_cases e:p.1=k
    · have e':q.1=k:=h1.symm.trans e
      have b:atKey (q::qs) k=some q.2:=by simp [atKey,List.find?_cons,e']
      rw [valV_pos e,b]; exact h2
    · have e':¬ q.1=k:=fun z=>e (h1.trans z)
      have b:atKey (q::qs) k=atKey qs k:=by simp [atKey,List.find?_cons,e']
      rw [valV_neg e,b]; exact ih
theorem KT.repl {H:Hp} {kvs:List (List Key × V)} {xs:List (List Key × Addr × Value)} (r:KT H kvs xs) (k:List Key) {y:V} {u:Value} (ry:RelV y u) :
    KT H (kvs.map fun kv=>if kv.1=k then (kv.1,y) else kv) (xs.map (putAt k u)):=by
  induction r with
  | nil=>exact .nil
  | @cons p q ps qs h t ih =>
    rw [List.map_cons,List.map_cons]
    refine .cons ?_ ih
    obtain ⟨h1,h2,h3⟩:=h
    unfold putAt
    by_cases e:p.1=k
    · rw [if_pos e,if_pos (h1.symm.trans e)]; exact ⟨h1,h2,ry⟩
    · rw [if_neg e,if_neg (fun z=>e (h1.trans z))]; exact ⟨h1,h2,h3⟩
theorem KT.put {H:Hp} {kvs:List (List Key × V)} {xs:List (List Key × Addr × Value)} (r:KT H kvs xs) (k:List Key) {b:Addr} {y:V} {u:Value} (hb:H b=some (.tup (k.map kV))) (ry:RelV y u) :
    KT H (putK kvs k y) (storedH xs k b u):=by
  have e:(kvs.any fun kv=>decide (kv.1=k))=(atKey xs k).isSome:=by
    rw [valV_any,(r.val k).isSome_eq,Option.isSome_map]
  unfold putK storedH
  rw [e]
  by_cases q:(atKey xs k).isSome=true
  · rw [if_pos q,if_pos q]; exact r.repl k ry
  · rw [if_neg q,if_neg q]; exact Paired.snoc r ⟨rfl,hb,ry⟩
theorem KT.keeps {H H':Hp} {kvs:List (List Key × V)} {xs:List (List Key × Addr × Value)} (r:KT H kvs xs) (ht:∀ b ys,H b=some (.tup ys)→H' b=some (.tup ys)):KT H' kvs xs :=
  Paired.mapP r fun _ _ z=>⟨z.1,ht _ _ z.2.1,z.2.2⟩

section
variable {P:Program} {w:World} {H:Hp} {h:Heap} {a:Addr}
theorem rd_of {u:HO} (ok:HOk P w H h) (e:Rd H a u):ObjOk P w H h a u:=e.ok ok
theorem dk_rd {kvs:List (Key × V)} (ok:HOk P w H h) (e:Rd H a (.dK kvs)):kvs.length≤sizeLine∧(a == sysModules)=false∧∃ vs,KV kvs vs∧h.DictOf (mixKind P w) a vs :=
  show ObjOk P w H h a (.dK kvs) from rd_of ok e
theorem dk_of {kvs:List (Key × V)} (ok:HOk P w H h) (e:H a=some (.dK kvs)):kvs.length≤sizeLine∧(a == sysModules)=false∧∃ vs,KV kvs vs∧h.DictOf (mixKind P w) a vs:=dk_rd ok (.inl e)
theorem key_of {ks:List Key} (ok:HOk P w H h) (e:H a=some (.tup (ks.map kV))):(tupleKind (mixKind P w)).is h ks a:=by
  obtain ⟨_,its,r,o,h1,h2,n,h3,_⟩:=(show ObjOk P w H h a (.tup (ks.map kV)) from ok a _ e)
  exact ⟨o,its.toArray,n,h1,h2,h3,by simpa using items_are r⟩
theorem dt_rd {kvs:List (List Key × V)} (ok:HOk P w H h) (e:Rd H a (.dT kvs)):kvs.length≤sizeLine∧(a == sysModules)=false ∧
    ∃ xs,KT H kvs xs∧h.DictOfH (tupleKind (mixKind P w)) a xs:=by
  obtain ⟨z,y,xs,r,o,es,ep,h1,h2,h3,h4,h5⟩:=(show ObjOk P w H h a (.dT kvs) from rd_of ok e)
  refine ⟨z,y,xs,r,o,es,ep,h1,h2,h3,h4,fun x hx=>?_,h5⟩
  have all:∀ {l:List (List Key × V)} {m:List (List Key × Addr × Value)},KT H l m→∀ x ∈ m,(tupleKind (mixKind P w)).is h x.1 x.2.1:=by
    intro l m q
    induction q with
    | nil=>intro x hx; exact nomatch hx
    | @cons p q ps qs hq t ih =>
      intro x hx
      rcases List.mem_cons.mp hx with e | hx
      · subst e
        exact key_of ok (by rw [← hq.1]; exact hq.2.1)
      · exact ih x hx
  exact all r x hx
theorem dt_of {kvs:List (List Key × V)} (ok:HOk P w H h) (e:H a=some (.dT kvs)):kvs.length≤sizeLine∧(a == sysModules)=false ∧
    ∃ xs,KT H kvs xs∧h.DictOfH (tupleKind (mixKind P w)) a xs:=dt_rd ok (.inl e)
end

def DGet (H:Hp) (a:Addr) (y:V) (r:Option V):Prop :=
  (∃ kvs k,Rd H a (.dK kvs)∧y=kV k∧r=valV kvs k) ∨ ∃ kvs k b,Rd H a (.dT kvs)∧y=.ref b∧H b=some (.tup (k.map kV))∧r=valV kvs k
def DPut (H:Hp) (a:Addr) (y v:V) (H':Hp):Prop :=
  (∃ kvs k,H a=some (.dK kvs)∧y=kV k∧kvs.length < sizeLine∧H'=upd H a (.dK (putK kvs k v))) ∨
  ∃ kvs k b,H a=some (.dT kvs)∧y=.ref b∧H b=some (.tup (k.map kV))∧kvs.length < sizeLine∧H'=upd H a (.dT (putK kvs k v))
theorem DGet.k {H:Hp} {a:Addr} {kvs:List (Key × V)} {k:Key} (e:H a=some (.dK kvs)):DGet H a (kV k) (valV kvs k):=.inl ⟨kvs,k,.inl e,rfl,rfl⟩
theorem DGet.t {H:Hp} {a b:Addr} {kvs:List (List Key × V)} {k:List Key} (e:H a=some (.dT kvs)) (eb:H b=some (.tup (k.map kV))):DGet H a (.ref b) (valV kvs k):=.inr ⟨kvs,k,b,.inl e,rfl,eb,rfl⟩
theorem DPut.k {H:Hp} {a:Addr} {kvs:List (Key × V)} {k:Key} {v:V} (e:H a=some (.dK kvs)) (hl:kvs.length < sizeLine):DPut H a (kV k) v (upd H a (.dK (putK kvs k v))):=.inl ⟨kvs,k,e,rfl,hl,rfl⟩
theorem DPut.t {H:Hp} {a b:Addr} {kvs:List (List Key × V)} {k:List Key} {v:V} (e:H a=some (.dT kvs)) (eb:H b=some (.tup (k.map kV))) (hl:kvs.length < sizeLine) :
    DPut H a (.ref b) v (upd H a (.dT (putK kvs k v))):=.inr ⟨kvs,k,b,e,rfl,eb,hl,rfl⟩


section
variable {X:Cx} {pins:List (Addr × Obj)} {σ:St} {H:Hp} {s:Shared} {a:Addr} {y v:V} {u r:Value} {o:Option V} {A:Around} {E:Value→Shared→Prop}

theorem Inv.big (I:Inv X pins σ H s):sysModules < s.heap.objs.size:=by
  have h:mainGlobals < s.heap.objs.size:=(I.mod.glob.keeps I.bk).lt
  exact Nat.lt_trans (by decide) h

theorem d_getItem {Q:Value→Shared→Prop} (hu:A.units + 1 < cLine) (I:Inv X pins σ H s) (g:DGet H a y (some v)) (ry:RelV y u) (h:∀ w' s',Inv X pins σ H s'→RelV v w'→Q w' s') :
    wpAny (model X.prog X.w) A (getItem (.ref a) u) Q E s:=by
  rcases g with ⟨kvs,k,e,ey,l⟩ | ⟨kvs,k,b,e,ey,eb,l⟩
  · subst ey
    obtain ⟨z,hd,vs,rel,dd⟩:=dk_rd I.hok e
    obtain ⟨w',hw,rw'⟩:=RelO.some_of (v:=v) (o:=valueAt vs k) (by rw [l]; exact rel.val k)
    exact wpAny_getItem_of (kV_is ry) dd.mapOf hw (h w' _ (I.tok _) rw')
  · subst ey
    cases (show u=Value.ref b from ry)
    obtain ⟨z,hd,xs,rel,dd⟩:=dt_rd I.hok e
    obtain ⟨w',hw,rw'⟩:=RelO.some_of (v:=v) (o:=(atKey xs k).map (·.2)) (by rw [l]; exact rel.val k)
    obtain ⟨p,hp,hp2⟩:=Option.map_eq_some_iff.mp hw
    refine wpAny_getItem_heap (tupleKind_room_in1 hu) (key_of I.hok eb) dd hp ?_
    rw [hp2]
    exact h w' _ (I.tok _) rw'
theorem d_write {h':Heap} {t':Nat} {ob:HO} (I:Inv X pins σ H s) (mu:Mut (H a)) (hs:Heap.SameBut a s.heap h') (he:∃ q,h'.get? a=some q) (new:ObjOk X.prog X.w (upd H a ob) h' a ob) :
    Inv X pins σ (upd H a ob) { s with heap:=h',toks:=t' } :=
  I.write (x:=a) (e:=a) mu (.inl rfl) (fun b q hb z=>(hs.2 b hb).trans z) he new
theorem dk_new {P:Program} {w:World} {H':Hp} {h':Heap} {kvs:List (Key × V)} {vs:List (Key × Value)} (z:kvs.length≤sizeLine) (hd:(a == sysModules)=false) (rel:KV kvs vs) (dd:h'.DictOf (mixKind P w) a vs) :
    ObjOk P w H' h' a (.dK kvs):=⟨z,hd,vs,rel,dd⟩
theorem d_setItem {H':Hp} {Q:Unit→Shared→Prop} (hu:A.units + 1 < cLine) (I:Inv X pins σ H s) (g:DPut H a y v H') (ry:RelV y u) (rv:RelV v r) (h:∀ s',Inv X pins σ H' s'→Q () s') :
    wpAny (model X.prog X.w) A (setItem (.ref a) u r) Q E s:=by
  rcases g with ⟨kvs,k,e,ey,l,eH⟩ | ⟨kvs,k,b,e,ey,eb,l,eH⟩
  · subst ey eH
    obtain ⟨z,hd,vs,rel,dd⟩:=dk_of I.hok e
    have hz:vs.length≤sizeLine:=by rw [← rel.length]; exact z
    have hl:(putK kvs k v).length≤sizeLine:=by have:=length_putK kvs k v; omega
    refine wpAny_setItem_pairs (hsz:=hz) (kV_is ry) dd fun h' dd' hs=>h _ ?_
    have he:∃ q,h'.get? a=some q:=let ⟨q,_,_,hq,_⟩:=dd'; ⟨q,hq⟩
    exact d_write I (by rw [e]; exact True.intro) hs he (dk_new hl hd (rel.put k rv) dd')
  · subst ey eH
    cases (show u=Value.ref b from ry)
    obtain ⟨z,hd,xs,rel,dd⟩:=dt_of I.hok e
    have hz:xs.length≤sizeLine:=by rw [← Paired.length rel]; exact z
    have hl:(putK kvs k v).length≤sizeLine:=by have:=length_putK kvs k v; omega
    refine wpAny_setItem_heap (hsz:=hz) (tupleKind_room_in1 hu) (key_of I.hok eb) dd fun h' dd' hs=>h _ ?_
    obtain ⟨q,es,ep,hq,h2,h3,h4,_,h5⟩:=dd'
    refine d_write I (by rw [e]; exact True.intro) hs ⟨q,hq⟩ ⟨hl,hd,_,(rel.put k eb rv).keeps fun c ys ec=>?_,q,es,ep,hq,h2,h3,h4,h5⟩
    rw [upd_ne (ne_of ec e (fun z=>nomatch z))]
    exact ec
end

section
variable {X:Cx} {pins:List (Addr × Obj)} {σ:St} {H:Hp} {s:Shared} {a:Addr} {kvs:List (Key × V)} {k:Key} {u:Value} {A:Around} {E:Value→Shared→Prop}
end


def NoSl (i:Expr):Prop:=∀ ov iv,subscripted i false ov iv=operate [ov,iv] (getItem ov iv)
theorem subD_of {prog:Program} {w:World} {A:Around} {E:Value→Shared→Prop} {s:Shared} {env:Env} {value slice:Expr} {pos:Pos} {T id:String} {Q:Value→Shared→Prop}
    (hl:typeLookup (.type T) "__getitem__"=pure (some (.builtin id))) (hs:NoSl slice)
    (h:wpAny (model prog w) A (eval value env) (fun o s₁=>wpAny (model prog w) A (eval slice env) (fun i s₂=>s₂.TypeIs o T∧wpAny (model prog w) A (getItem o i) Q E s₂) E s₁) E s) :
    wpAny (model prog w) A (eval (.Subscript value slice pos) env) Q E s:=by
  refine Subscript_ (wpAny_mono h (fun o s₁ h₁=>wpAny_mono h₁ (fun i s₂ h₂=>?_) fun _ _ x=>x) fun _ _ x=>x)
  obtain ⟨hT,h₂⟩:=h₂
  unfold subscriptTail
  refine wpAny_bind ?_
  rw [getitemInPython_of_ne hT.not_modules]
  refine wpAny_bind (wpAny_specialOf hT hl ?_)
  have fin:wpAny (model prog w) A (subscripted slice false o i) (fun r s₃=>wpAny (model prog w) A (letTemporaryGo value o r >>= fun _=>pure r) Q E s₃) E s₂:=by
    rw [hs o i]
    exact wpAny_operating (wpAny_mono h₂ (fun r s₃ h₃=>wpAny_bind (wpAny_letTemporaryGo (wpAny_pure h₃))) fun _ _ x=>x)
  first
    | exact wpAny_pure (wpAny_bind fin)
    | exact wpAny_bind (wpAny_pure (wpAny_bind fin))
    | exact wpAny_bind fin

theorem dict_typeIs {X:Cx} {pins:List (Addr × Obj)} {σ:St} {H:Hp} {s:Shared} {a:Addr} {y:V} {o:Option V} (I:Inv X pins σ H s) (g:DGet H a y o):s.TypeIs (.ref a) "dict":=by
  rcases g with ⟨kvs,k,e,_,_⟩ | ⟨kvs,k,b,e,_,_,_⟩
  · obtain ⟨_,_,vs,_,dd⟩:=dk_rd I.hok e
    exact dd.typeIs
  · obtain ⟨_,_,xs,_,dd⟩:=dt_rd I.hok e
    exact dd.typeIs
def tDGet (td ty:TE):TE:=fun σ H Q=>td σ H fun x H1=>ty σ H1 fun y H2=>∃ a v,x=.ref a∧DGet H2 a y (some v)∧Q v H2
def sDPut (td ty tv:TE):TS:=fun D σ H=>tv σ H fun v H1=>td σ H1 fun x H2=>ty σ H2 fun y H3=>∃ a H4,x=.ref a∧DPut H3 a y v H4∧D.nx σ H4
section
variable {X:Cx} {o i e value:Expr} {pos pos' tpos:Pos} {td ty tv:TE}
theorem pe_dget (hu:X.A.units + 1 < cLine) (ho:PE X o td) (hi:PE X i ty) (hs:NoSl i):PE X (.Subscript o i pos) (tDGet td ty):=by
  intro pins s σ H Q I h
  refine subD_of PySem.F.slot_dict_getitem.lookup hs (thn (ho pins s σ H _ I h) fun u s1 ⟨x,H1,I1,rx,q1⟩=>thn (hi pins s1 σ H1 _ I1 q1) fun iv s2 ⟨y,H2,I2,ry,a,v,ex,g,q2⟩=>?_)
  subst ex
  obtain rfl:u=Value.ref a:=rx
  exact ⟨dict_typeIs I2 g,d_getItem hu I2 g ry fun w' s3 I3 rw'=>⟨v,H2,I3,rw',q2⟩⟩
theorem ps_dput (hu:X.A.units + 1 < cLine) (ho:PE X o td) (hi:PE X i ty) (hv:PE X value tv) (hs:swapsWith value (some (.Subscript o i pos')) pos.line X.env=pure false) :
    PS X (.Assign [.Subscript o i pos'] value pos) (sDPut td ty tv):=by
  intro pins s σ H D I h
  refine wpAny_Assign_Subscript (thn (hv pins s σ H _ I h) fun r s1 ⟨v,H1,I1,rv,q1⟩=>thn (ho pins s1 σ H1 _ I1 q1) fun u s2 ⟨x,H2,I2,rx,q2⟩=>thn (hi pins s2 σ H2 _ I2 q2) fun iv s3 ⟨y,H3,I3,ry,a,H4,ex,g,q3⟩=>?_) hs
  subst ex
  obtain rfl:u=Value.ref a:=rx
  exact d_setItem hu I3 g ry rv fun s4 I4=>⟨σ,H4,I4,q3⟩
end


theorem dk_empty {P:Program} {w:World} {H:Hp} (h:Heap) (hb:sysModules < h.objs.size):ObjOk P w H (h.push { cls:=.type "dict",data:=.dict #[] }) h.objs.size (.dK []) :=
  ⟨Nat.zero_le _,beq_eq_false_iff_ne.mpr (Ne.symm (Nat.ne_of_lt hb)),[],.nil,Heap.DictOf.new h⟩
section
variable {X:Cx} {pos:Pos}
end

def tPairs:List (TE × TE)→St→Hp→(List (V × V)→Hp→Prop)→Prop
  | [],_,H,Q=>Q [] H
  | (tk,tv)::r,σ,H,Q=>tk σ H fun x H1=>tv σ H1 fun y H2=>tPairs r σ H2 fun ps H3=>Q ((x,y)::ps) H3
abbrev VV:List (V × V)→List (Value × Value)→Prop:=Paired fun p q=>RelV p.1 q.1∧RelV p.2 q.2
def PPs (X:Cx) (pos:Pos) (keys:List (Option Expr)) (values:List Expr) (trs:List (TE × TE)):Prop :=
  ∀ (pins:List (Addr × Obj)) (s:Shared) (σ:St) (H:Hp) (Q:List (V × V)→Hp→Prop),Inv X pins σ H s→tPairs trs σ H Q →
    wpAny (model X.prog X.w) X.A (evalPairs (pairTrees keys values X.env pos)) (fun vs s'=>∃ ps H',Inv X pins σ H' s'∧VV ps vs∧Q ps H') X.xe s
theorem pps_nil {X:Cx} {pos:Pos}:PPs X pos [] [] []:=fun pins s σ H Q I h=>pairTrees_nil_walk ⟨[],H,I,.nil,h⟩
theorem pps_cons {X:Cx} {pos:Pos} {k v:Expr} {ks:List (Option Expr)} {vs:List Expr} {tk tv:TE} {trs:List (TE × TE)} (hk:PE X k tk) (hv:PE X v tv) (hr:PPs X pos ks vs trs) :
    PPs X pos (some k::ks) (v::vs) ((tk,tv)::trs):=fun pins s σ H Q I h =>
  pairTrees_cons_walk (thn (hk pins s σ H _ I h) fun u s1 ⟨x,H1,I1,rx,q1⟩=>thn (hv pins s1 σ H1 _ I1 q1) fun w2 s2 ⟨y,H2,I2,ry,q2⟩ =>
    thn (hr pins s2 σ H2 _ I2 q2) fun ws s3 ⟨ps,H3,I3,rel,q3⟩=>⟨(x,y)::ps,H3,I3,.cons ⟨rx,ry⟩ rel,q3⟩)

def mergeK (kvs more:List (Key × V)):List (Key × V):=more.foldl (fun acc kv=>putK acc kv.1 kv.2) kvs
theorem KV.merge:∀ {more:List (Key × V)} {rs:List (Key × Value)} {kvs:List (Key × V)} {vs:List (Key × Value)},KV more rs→KV kvs vs→KV (mergeK kvs more) (merged vs rs):=by
  intro more rs kvs vs r
  unfold KV at r
  induction r generalizing kvs vs with
  | nil=>intro q; exact q
  | @cons p q ps qs h t ih =>
    intro r0
    have e:KV (putK kvs p.1 p.2) (stored vs q.1 q.2):=by
      have:=r0.put p.1 h.2
      rw [← h.1]; exact this
    exact ih e
theorem length_mergeK:∀ (more kvs:List (Key × V)),(mergeK kvs more).length≤kvs.length + more.length
  | [],kvs=>by show kvs.length≤kvs.length + 0; omega
  | p::r,kvs=>by
    have h1:=length_mergeK r (putK kvs p.1 p.2)
    have h2:=length_putK kvs p.1 p.2
    show (mergeK (putK kvs p.1 p.2) r).length≤_
    rw [List.length_cons]; omega
theorem carries_of {P:Program} {w:World}:∀ {kvs:List (Key × V)} {ws:List (Value × Value)},VV (kvs.map fun kv=>(kV kv.1,kv.2)) ws→∃ rs,Carries (mixKind P w) ws rs∧KV kvs rs
  | [],_,r=>by rw [List.map_nil] at r; cases r; exact ⟨[],True.intro,.nil⟩
  | p::kvs,_,r=>by
    rw [List.map_cons] at r
    cases r with
    | @cons a b as bs h t =>
      obtain ⟨rs,c,q⟩:=carries_of (P:=P) (w:=w) t
      obtain ⟨b1,b2⟩:=b
      exact ⟨(p.1,b2)::rs,⟨kV_is h.1,rfl,c⟩,.cons ⟨rfl,h.2⟩ q⟩
def tDisp (trs:List (TE × TE)):TE:=fun σ H Q=>∀ p,H p=none→tPairs trs σ (upd H p (.dK [])) fun ps H2=>H2 p=some (.dK [])∧∃ kvs:List (Key × V),ps=kvs.map (fun kv=>(kV kv.1,kv.2))∧kvs.length≤15∧Q (.ref p) (upd H2 p (.dK (mergeK [] kvs)))
theorem pe_disp {X:Cx} {pos:Pos} {keys:List (Option Expr)} {values:List Expr} {trs:List (TE × TE)} (h:PPs X pos keys values trs) (hall:keys.all (·.isSome)=true) (hl:keys.length=values.length) (h0:keys ≠ [])
    (h15:keys.length≤15):PE X (.Dict keys values pos) (tDisp trs):=by
  intro pins s σ H Q I q
  have hn:=I.hok.fresh (Nat.le_refl s.heap.objs.size)
  have I1:=I.laid (a:=s.heap.objs.size) (o:=.dK []) (h':=s.heap.push { cls:=.type "dict",data:=.dict #[] }) (t':=s.toks) (fun _ _ q=>Heap.get?_push_of_some _ q) (Nat.le_refl _) (dk_empty s.heap I.big)
  refine wpAny_Dict_walk (knd:=mixKind X.prog X.w) hall hl h0 h15 (thn (h pins _ σ _ _ I1 (q _ hn)) fun ws s2 ⟨ps,H2,I2,rel,e,kvs,ep,lk,q2⟩=>?_)
  subst ep
  obtain ⟨rs,c,rk⟩:=carries_of (P:=X.prog) (w:=X.w) rel
  obtain ⟨z,hd,vs0,r0,dd⟩:=dk_of I2.hok e
  cases r0
  refine ⟨rs,c,dd,fun h' dd' hs=>⟨.ref s.heap.objs.size,_,?_,rfl,q2⟩⟩
  have hz:(mergeK [] kvs).length≤sizeLine:=by
    have h1:=length_mergeK kvs []
    rw [List.length_nil] at h1
    rw [sizeLine_eq]; omega
  have he:∃ q,h'.get? s.heap.objs.size=some q:=let ⟨q,_,_,hq,_⟩:=dd'; ⟨q,hq⟩
  exact d_write I2 (by rw [e]; exact True.intro) hs he (dk_new hz hd (rk.merge .nil) dd')



end L2

set_option Elab.async false
set_option linter.all false
set_option maxRecDepth 100000
namespace TL
open PySem PySem.Spec PyProof.Rows L2
structure Tape where
  p:Addr
  q:Addr
  ns:List Int
  b:Bool
def tapH (T:Tape) (n:Nat) (l:Int):HO:=.dK [(.inr "script",.ref T.q),(.inr "at",.int n),(.inr "left",.int l),(.inr "digits",.bl T.b)]
def tpD (T:Tape):D:=.dict [(.str "@",.list [.int (T.p:Nat),.int (T.q:Nat),.bool T.b,.list (T.ns.map PyData.int)])]
theorem rep_tp {K:PySem.W.Frag} {H:Hp} (T:Tape):Rep K H (tpD T) (.ref T.p):=.addr _
theorem rep_tp_inv {K:PySem.W.Frag} {H:Hp} {T:Tape} {v:V} (r:Rep K H (tpD T) v):v=.ref T.p:=by
  unfold tpD at r
  generalize hg:(PyData.dict [(.str "@",.list [.int (T.p:Nat),.int (T.q:Nat),.bool T.b,.list (T.ns.map PyData.int)])])=d at r
  cases r with
  | @addr p z =>
    injection hg with hg
    injection hg with hg _
    injection hg with _ hg
    injection hg with hg
    injection hg with hg _
    injection hg with hg
    rw [Int.ofNat.inj hg]
  | dct =>
    injection hg with hg
    injection hg with hg _
    injection hg with hg _
    injection hg with hg
    exact absurd hg (by decide +kernel)
  | _=>cases hg
section
variable {K:PySem.W.Frag} {H H' H1 H2 B:Hp} {p0 ps:List Addr} {σT:List Sl} {σ:L2.St} {T:Tape} {n n':Nat} {p:Addr}
def SameX (p:Addr) (H H':Hp):Prop:=∀ a o,a ≠ p→H a=some o→H' a=some o
theorem SameX.of (s:Same H H'):SameX p H H':=fun a o _ e=>s a o e
theorem SameX.refl:SameX p H H:=fun _ _ _ e=>e
theorem SameX.trans (s:SameX p H H1) (t:SameX p H1 H2):SameX p H H2:=fun a o n e=>t a o n (s a o n e)
theorem SameX.mask (hp:p ∈ ps) (s:SameX p H H'):Same (mask H ps) (mask H' ps):=fun a o e=>by
  unfold TL.mask at e ⊢
  by_cases ha:a ∈ ps
  · rw [if_pos ha] at e; cases e
  · rw [if_neg ha] at e ⊢
    exact s a o (fun z=>ha (z ▸ hp)) e
structure TpAt (K:PySem.W.Frag) (H:Hp) (ps:List Addr) (T:Tape) (n:Nat):Prop where
  obj:∃ l,H T.p=some (tapH T n l)
  scr:SqL K (mask H ps) T.q (T.ns.map V.int)
  dig:T.b=true→0 < T.ns.length
theorem TpAt.grow (t:TpAt K H ps T n) (s:Same H H'):TpAt K H' ps T n:=⟨let ⟨l,e⟩:=t.obj; ⟨l,s _ _ e⟩,L2.Same.seq (mask_same s) t.scr,t.dig⟩
structure OkC (K:PySem.W.Frag) (B:Hp) (p0:List Addr) (H:Hp) (ps:List Addr) (σT:List Sl) (σ:L2.St) (T:Tape) (n:Nat):Prop where
  ok:Ok K B p0 H ps σT σ
  mem:T.p ∈ p0
  nb:B T.p=none
  tp:TpAt K H ps T n
  bq:SqL K (mask B p0) T.q (T.ns.map V.int)
theorem OkC.mem' (o:OkC K B p0 H ps σT σ T n):T.p ∈ ps:=o.ok.sub _ o.mem
theorem OkC.grow (o:OkC K B p0 H ps σT σ T n) (s:Same H H'):OkC K B p0 H' ps σT σ T n:=⟨o.ok.grow s,o.mem,o.nb,o.tp.grow s,o.bq⟩
theorem Ok.growX (o:Ok K B p0 H ps σT σ) (hp:p ∈ p0) (hB:B p=none) (s:SameX p H H') (hl:H' p ≠ none):Ok K B p0 H' ps σT σ where
  base:=fun a u e=>s a u (fun z=>by rw [z,hB] at e; cases e) (o.base a u e)
  sub:=o.sub
  live:=fun q hq z=>by
    by_cases e:q=p
    · subst e; exact hl z
    · cases h:H q with
      | none=>exact o.live q hq h
      | some u=>rw [s q u e h] at z; cases z
  len:=o.len
  val:=fun i d h=>let ⟨v,h1,h2⟩:=o.val i d h; ⟨v,h1,h2.same (s.mask (o.sub p hp))⟩
  own:=fun i ts h=>let ⟨q,xs,h1,h2,h3,h4,h5,h6⟩:=o.own i ts h; ⟨q,xs,h1,h2,h3,h4,s q _ (fun z=>h4 (z ▸ hp)) h5,h6.same (s.mask (o.sub p hp))⟩
  dis:=o.dis
  dc:=o.dc.to (fun j hs kvs h=>⟨h,rfl⟩) (fun q φ a b c=>⟨a,(s q _ (fun z=>c (z ▸ hp)) b).trans b.symm⟩) (fun q φ _ _ a b=>⟨a,b⟩) (s.mask (o.sub p hp))
theorem OkC.growX (o:OkC K B p0 H ps σT σ T n) (s:SameX T.p H H') (t:TpAt K H' ps T n'):OkC K B p0 H' ps σT σ T n' :=
  ⟨o.ok.growX o.mem o.nb s (by obtain ⟨l,e⟩:=t.obj; rw [e]; exact fun z=>nomatch z),o.mem,o.nb,t,o.bq⟩
theorem OkC.set (o:OkC K B p0 H ps σT σ T n) {i:Nat} {d:D} {v:V} (r:Rep K (mask H ps) d v):OkC K B p0 H ps (σT.set i (.val d)) (σ.set i (some v)) T n:=⟨o.ok.set r,o.mem,o.nb,o.tp,o.bq⟩
end
abbrev EC:=D→Nat→List Sl→(Nat→D→Prop)→Prop
abbrev AC:=D→Nat→List Sl→(Nat→List D→Prop)→Prop
abbrev TC:=D→Nat→List Sl→(Nat→Bool→Prop)→Prop
def PEc (X:Cx) (e:Expr) (t:EC):Prop:=∃ te:TE,PE X e te∧∀ (B:Hp) (p0:List Addr) (H:Hp) (ps:List Addr) (σT:List Sl) (σ:L2.St) (T:Tape) (n:Nat) (Q:Nat→D→Prop) (QV:VK),OkC X.K B p0 H ps σT σ T n→t (tpD T) n σT Q →
  (∀ n' d v H',SameX T.p H H'→TpAt X.K H' ps T n'→Rep X.K (mask H' ps) d v→Q n' d→QV v H')→te σ H QV
def PAc (X:Cx) (es:List Expr) (t:AC):Prop:=∃ ta:TA,PA X es ta∧∀ (B:Hp) (p0:List Addr) (H:Hp) (ps:List Addr) (σT:List Sl) (σ:L2.St) (T:Tape) (n:Nat) (Q:Nat→List D→Prop) (QV:List V→Hp→Prop),OkC X.K B p0 H ps σT σ T n→t (tpD T) n σT Q →
  (∀ n' ds vs H',SameX T.p H H'→TpAt X.K H' ps T n'→Reps X.K (mask H' ps) ds vs→Q n' ds→QV vs H')→ta σ H QV
def PTc (X:Cx) (e:Expr) (t:TC):Prop:=∃ tt:TT,PT X e tt∧∀ (B:Hp) (p0:List Addr) (H:Hp) (ps:List Addr) (σT:List Sl) (σ:L2.St) (T:Tape) (n:Nat) (Q:Nat→Bool→Prop) (QV:Bool→Hp→Prop),OkC X.K B p0 H ps σT σ T n→t (tpD T) n σT Q →
  (∀ n' b H',SameX T.p H H'→TpAt X.K H' ps T n'→Q n' b→QV b H')→tt σ H QV
def PWc (X:Cx) (e:Expr) (t:TC):Prop:=∃ tt:TT,PW X e tt∧∀ (B:Hp) (p0:List Addr) (H:Hp) (ps:List Addr) (σT:List Sl) (σ:L2.St) (T:Tape) (n:Nat) (Q:Nat→Bool→Prop) (QV:Bool→Hp→Prop),OkC X.K B p0 H ps σT σ T n→t (tpD T) n σT Q →
  (∀ n' b H',SameX T.p H H'→TpAt X.K H' ps T n'→Q n' b→QV b H')→tt σ H QV
section
variable {X:Cx} {a b e:Expr} {es:List Expr} {ta tb te:EC} {pos:Pos}
def cE (t:ET):EC:=fun _ n σ Q=>t σ (Q n)
theorem ec_p {t:ET} (h:PEt X e t):PEc X e (cE t):=by
  obtain ⟨v,p,r⟩:=h
  exact ⟨v,p,fun B p0 H ps σT σ T n Q QV o h k=>r B p0 H ps σT σ (Q n) QV o.ok h fun d v H' s rr q=>k n d v H' (.of s) (o.tp.grow s) rr q⟩
def cT (t:TTt):TC:=fun _ n σ Q=>t σ (Q n)
theorem tc_p {t:TTt} (h:PTt X e t):PTc X e (cT t):=by
  obtain ⟨v,p,r⟩:=h
  exact ⟨v,p,fun B p0 H ps σT σ T n Q QV o h k=>r B p0 H ps σT σ (Q n) QV o.ok h fun b H' s q=>k n b H' (.of s) (o.tp.grow s) q⟩
def cOp (f:D→D→(D→Prop)→Prop) (ta tb:EC):EC:=fun τ n σ Q=>ta τ n σ fun n1 x=>tb τ n1 σ fun n2 y=>f x y (Q n2)
theorem opc_read {r:R2} {f:D→D→(D→Prop)→Prop} (h2:Op2 X r f) {va vb:TE}
    (ha:∀ (B:Hp) (p0:List Addr) (H:Hp) (ps:List Addr) (σT:List Sl) (σ:L2.St) (T:Tape) (n:Nat) (Q:Nat→D→Prop) (QV:VK),OkC X.K B p0 H ps σT σ T n→ta (tpD T) n σT Q→(∀ n' d v H',SameX T.p H H'→TpAt X.K H' ps T n'→Rep X.K (mask H' ps) d v→Q n' d→QV v H')→va σ H QV)
    (hb:∀ (B:Hp) (p0:List Addr) (H:Hp) (ps:List Addr) (σT:List Sl) (σ:L2.St) (T:Tape) (n:Nat) (Q:Nat→D→Prop) (QV:VK),OkC X.K B p0 H ps σT σ T n→tb (tpD T) n σT Q→(∀ n' d v H',SameX T.p H H'→TpAt X.K H' ps T n'→Rep X.K (mask H' ps) d v→Q n' d→QV v H')→vb σ H QV)
    (B:Hp) (p0:List Addr) (H:Hp) (ps:List Addr) (σT:List Sl) (σ:L2.St) (T:Tape) (n:Nat) (Q:Nat→D→Prop) (QV:VK) (o:OkC X.K B p0 H ps σT σ T n) (h:cOp f ta tb (tpD T) n σT Q) (k:∀ n' d v H',SameX T.p H H'→TpAt X.K H' ps T n'→Rep X.K (mask H' ps) d v→Q n' d→QV v H'):tOp r va vb σ H QV:=by
  refine ha B p0 H ps σT σ T n _ _ o h fun n1 d1 x H1 s1 t1 r1 q1=>?_
  have o1:=o.growX s1 t1
  refine hb B p0 H1 ps σT σ T n1 _ _ o1 q1 fun n2 d2 y H2 s2 t2 r2 q2=>?_
  have o2:=o1.growX s2 t2
  exact h2 H2 ps d1 d2 x y (Q n2) QV o2.ok.live (r1.same (s2.mask o.mem')) r2 q2 fun d v H' s' r' q'=>k n2 d v H' ((s1.trans s2).trans (.of s')) (t2.grow s') r' q'
theorem ec_op {op:Operator} {r:R2} {f:D→D→(D→Prop)→Prop} (ho:OpR X (binaryOp op) r) (h2:Op2 X r f) (ha:PEc X a ta) (hb:PEc X b tb):PEc X (.BinOp a op b pos) (cOp f ta tb):=by
  obtain ⟨va,pa,ra⟩:=ha
  obtain ⟨vb,pb,rb⟩:=hb
  exact ⟨_,pe_op ho pa pb,opc_read h2 ra rb⟩
theorem ec_ix {r:R2} {f:D→D→(D→Prop)→Prop} (ho:IxR X r) (h2:Op2 X r f) (ha:PEc X a ta) (hb:PEc X b tb) (hs:PlainIx b:=by intro _ _; rfl):PEc X (.Subscript a b pos) (cOp f ta tb):=by
  obtain ⟨va,pa,ra⟩:=ha
  obtain ⟨vb,pb,rb⟩:=hb
  exact ⟨_,pe_ix ho pa pb hs,opc_read h2 ra rb⟩
def cIxOwn (i:Nat) (tb:EC):EC:=fun τ n σ Q=>∃ ts,σ[i]?=some (.own ts)∧tb τ n σ fun n1 y=>∃ (j:Int) (d:D),y=.int j∧atI ts j=some d∧Q n1 d
def cNil:AC:=fun _ n _ Q=>Q n []
def cCons (t:EC) (r:AC):AC:=fun τ n σ Q=>t τ n σ fun n1 x=>r τ n1 σ fun n2 xs=>Q n2 (x::xs)
theorem ac_nil:PAc X [] cNil:=⟨_,pa_nil,fun _ _ H _ _ _ _ _ _ _ o h k=>k _ _ _ H .refl o.tp .nil h⟩
theorem ac_cons {tr:AC} (ha:PEc X e te) (hr:PAc X es tr) (hs:starEach (e::es) X.env=(false,eval e X.env)::starEach es X.env:=by rfl):PAc X (e::es) (cCons te tr):=by
  obtain ⟨va,pa,ra⟩:=ha
  obtain ⟨vr,pr,rr⟩:=hr
  refine ⟨_,pa_cons pa pr hs,fun B p0 H ps σT σ T n Q QV o h k=>ra B p0 H ps σT σ T n _ _ o h fun n1 d x H1 s1 t1 r1 q1=>?_⟩
  refine rr B p0 H1 ps σT σ T n1 _ _ (o.growX s1 t1) q1 fun n2 ds xs H2 s2 t2 r2 q2=>?_
  exact k _ _ _ H2 (s1.trans s2) t2 (.cons (r1.same (s2.mask o.mem')) r2) q2
def cTup (t:AC):EC:=fun τ n σ Q=>t τ n σ fun n1 ds=>ds.length≤1000∧Q n1 (.tuple ds)
def cLst (t:AC):EC:=fun τ n σ Q=>t τ n σ fun n1 ds=>ds.length≤1000∧Q n1 (.list ds)
theorem ec_tup {x1} {t:AC} (h:PAc X es t):PEc X (.Tuple es x1 pos) (cTup t):=by
  obtain ⟨v,p,r⟩:=h
  refine ⟨_,pe_tup p,fun B p0 H ps σT σ T n Q QV o h k=>r B p0 H ps σT σ T n _ _ o h fun n1 ds xs H1 s1 t1 r1 q1=>⟨le_line (by rw [← r1.length]; exact q1.1),fun q hq=>?_⟩⟩
  exact k _ _ _ _ (s1.trans (.of (same_new hq))) (t1.grow (same_new hq)) (rep_tup (o.growX s1 t1).ok.live hq r1) q1.2
theorem ec_lst {t:AC} (h:PAc X es t):PEc X (.List es pos) (cLst t):=by
  obtain ⟨v,p,r⟩:=h
  refine ⟨_,pe_lst p,fun B p0 H ps σT σ T n Q QV o h k=>r B p0 H ps σT σ T n _ _ o h fun n1 ds xs H1 s1 t1 r1 q1=>⟨le_line (by rw [← r1.length]; exact q1.1),fun q hq=>?_⟩⟩
  exact k _ _ _ _ (s1.trans (.of (same_new hq))) (t1.grow (same_new hq)) (rep_lst (o.growX s1 t1).ok.live hq r1) q1.2
def cCall (f:List D→(D→Prop)→Prop) (t:AC):EC:=fun τ n σ Q=>t τ n σ fun n1 ds=>f ds (Q n1)
theorem ec_cb {r:List V→Hp→VK→Prop} {f:List D→(D→Prop)→Prop} {t:AC} {g:Expr} (hf:CallT X r f) (ha:PAc X (e::es) t) (pc:∀ {ta:TA},PA X (e::es) ta→PE X (.Call g (e::es) [] pos) (tCB r ta)):PEc X (.Call g (e::es) [] pos) (cCall f t):=by
  obtain ⟨v,pa,ra⟩:=ha
  refine ⟨_,pc pa,fun B p0 H ps σT σ T n Q QV o h k=>ra B p0 H ps σT σ T n _ _ o h fun n1 ds xs H1 s1 t1 r1 q1=>?_⟩
  exact hf H1 ps ds xs (Q n1) QV (o.growX s1 t1).ok.live r1 q1 fun d v H' s' r' q'=>k n1 d v H' (s1.trans (.of s')) (t1.grow s') r' q'
abbrev SpC:=D→Nat→List D→(Nat→D→Prop)→Prop
def liftSpC (K:PySem.W.Frag) (sp:SpC):Sp:=fun vs H Q _=>∃ (ps:List Addr) (T:Tape) (n:Nat) (ds:List D) (QD:Nat→D→Prop),(∀ p ∈ ps,H p ≠ none)∧T.p ∈ ps∧TpAt K H ps T n∧Reps K (mask H ps) (tpD T::ds) vs∧sp (tpD T) n ds QD ∧
  ∀ n' d v H',SameX T.p H H'→TpAt K H' ps T n'→Rep K (mask H' ps) d v→QD n' d→Q v H'
def cDraw (sp:SpC) (t:AC):EC:=fun τ n σ Q=>t τ n σ fun n1 ds=>∃ es,ds=τ::es∧sp τ n1 es Q
theorem ec_call {k:Nat} {f:Addr} {fd:FuncData} {pn:List Str} {sp:SpC} {x:Str} {p:Pos} {t:AC} (F:FnOk X.prog X.w X.K X.mg X.base CX0 k f fd pn (liftSpC X.K sp)) (hm:X.mg x=some (.ref f)) (hk:PySem.W.keepIn X.K (.ref f)=true) (hb:Binds X.K fd pn [])
    (hr:Room k X.A) (ha:PAc X (e::es) t) (pc:∀ {ta:TA},PA X (e::es) ta→PE X (.Call (.Name x p) (e::es) [] pos) (tCall (liftSpC X.K sp) [] E0 ta)):PEc X (.Call (.Name x p) (e::es) [] pos) (cDraw sp t):=by
  obtain ⟨v,pa,ra⟩:=ha
  refine ⟨_,pc pa,fun B p0 H ps σT σ T n Q QV o h k=>ra B p0 H ps σT σ T n _ _ o h fun n1 ds xs H1 s1 t1 r1 q1=>?_⟩
  obtain ⟨es',rfl,q1⟩:=q1
  show liftSpC X.K sp (xs++[]) H1 QV E0
  rw [List.append_nil]
  exact ⟨ps,T,n1,es',Q,(o.growX s1 t1).ok.live,o.mem',t1,r1,q1,fun n' d v H' s' t' r' q'=>k n' d v H' (s1.trans s') t' r' q'⟩
def cMeth (f:Str→List D→(D→Prop)→Prop) (te:ET) (t:AC):EC:=fun τ n σ Q=>te σ fun d=>∃ z,d=.str z∧t τ n σ fun n1 ds=>f z ds (Q n1)
theorem cmeth_read {f:Str→List D→(D→Prop)→Prop} {r:V→List V→Hp→VK→Prop} {g m:Expr} {te:ET} {t:AC} (hn:PEt X m te) (ha:PAc X (e::es) t)
    (hf:∀ (H:Hp) (ps:List Addr) (z:Str) (ds:List D) (xs:List V) (Q:D→Prop) (QV:VK),Reps X.K (mask H ps) ds xs→f z ds Q→(∀ d v H',Same H H'→Rep X.K (mask H' ps) d v→Q d→QV v H')→r (.str z) xs H QV)
    (pc:∀ {v:TE} {ta:TA},PE X m v→PA X (e::es) ta→PE X (.Call g (e::es) [] pos) (tBM X.K "str" r v ta)):PEc X (.Call g (e::es) [] pos) (cMeth f te t):=by
  obtain ⟨v,pe,re⟩:=hn
  obtain ⟨va,pa,ra⟩:=ha
  refine ⟨_,pc pe pa,fun B p0 H ps σT σ T n Q QV o h k=>re B p0 H ps σT σ _ _ o.ok h fun d x H1 s1 r1 q1=>?_⟩
  obtain ⟨z,rfl,q1⟩:=q1
  cases r1
  refine ⟨rfl,ra B p0 H1 ps σT σ T n _ _ (o.grow s1) q1 fun n1 ds xs H2 s2 t2 r2 q2=>?_⟩
  exact hf H2 ps z ds xs (Q n1) QV r2 q2 fun d v H' s' r' q'=>k n1 d v H' (((SameX.of s1).trans s2).trans (.of s')) (t2.grow s') r' q'
theorem ec_join {n:Expr} {ap:Pos} {te:ET} {t:AC} (hn:PEt X n te) (ha:PAc X (e::es) t)
    (pc:∀ {v:TE} {ta:TA},PE X n v→PA X (e::es) ta→PE X (.Call (.Attribute n "join" ap) (e::es) [] pos) (tBM X.K "str" (fun x xs H Q=>∃ z p ys,x=.str z∧xs=[.ref p]∧SqL X.K H p (ys.map V.str)∧(ys.map (·.length)).sum + ys.length * z.length≤16777216∧Q (.str (Txt.join z ys)) H) v ta)):PEc X (.Call (.Attribute n "join" ap) (e::es) [] pos) (cMeth gJoin te t) :=
  cmeth_read hn ha (fun H ps z ds xs Q QV r h k=>by
    cases r with
    | nil=>exact h.elim
    | cons r1 r2 =>
      cases r2 with
      | cons _ _=>cases r1 <;> exact h.elim
      | nil =>
        cases r1 with
        | list q s =>
          obtain ⟨ys,rfl,hz,h⟩:=h
          have e:=reps_strs s
          subst e
          exact ⟨z,_,ys,rfl,rfl,L2.Same.seq mask_le q,hz,k _ _ H (L2.Same.refl H) (.str _) h⟩
        | _=>exact h.elim) pc
def cVal (t:EC):TC:=fun τ n σ Q=>t τ n σ fun n1 x=>match x with | .bool b=>Q n1 b | _=>False
theorem tc_cmp {op:CmpOp} {r:R2} {f:D→D→(D→Prop)→Prop} (ho:OpR X (compareOp op) r) (h2:Op2 X r f) (ha:PEc X a ta) (hb:PEc X b tb) (hm:behindInMarks op b=false:=by first | exact nomark _ | rfl):PTc X (.Compare a [op] [b] pos) (cVal (cOp f ta tb)):=by
  obtain ⟨va,pa,ra⟩:=ha
  obtain ⟨vb,pb,rb⟩:=hb
  refine ⟨_,pt_cmpR ho pa pb hm,fun B p0 H ps σT σ T n Q QV o h k=>?_⟩
  refine opc_read h2 ra rb B p0 H ps σT σ T n (fun n1 x=>match x with | .bool b=>Q n1 b | _=>False) _ o h fun n' d v H' s' t' r' q'=>?_
  cases r' with
  | bool c=>exact ⟨c,rfl,k n' c H' s' t' q'⟩
  | _=>exact q'.elim
variable {tA tB':TC} {rest:List Expr}
def cAndC (t u:TC):TC:=fun τ n σ Q=>t τ n σ fun n1 b=>if b=true then u τ n1 σ Q else Q n1 false
theorem wc_pt (h:PWc X e tA):PTc X e tA:=by
  obtain ⟨v,p,r⟩:=h
  exact ⟨_,p.pt,r⟩
theorem wc_and1 (h:PTc X a tA):PWc X (.BoolOp .And [a] pos) tA:=by
  obtain ⟨v,p,r⟩:=h
  exact ⟨_,pw_and1 p,r⟩
theorem wc_and (ha:PTc X a tA) (hb:PWc X (.BoolOp .And (b::rest) pos) tB'):PWc X (.BoolOp .And (a::b::rest) pos) (cAndC tA tB'):=by
  obtain ⟨va,pa,ra⟩:=ha
  obtain ⟨vb,pb,rb⟩:=hb
  refine ⟨_,pw_and pa pb,fun B p0 H ps σT σ T n Q QV o h k=>ra B p0 H ps σT σ T n _ _ o h fun n1 c H1 s1 t1 q1=>?_⟩
  cases c with
  | true=>exact rb B p0 H1 ps σT σ T n1 Q _ (o.growX s1 t1) q1 fun n' b H' s' t' q'=>k n' b H' (s1.trans s') t' q'
  | false=>exact k _ _ H1 s1 t1 q1
end
end TL

set_option Elab.async false
set_option linter.all false
set_option maxRecDepth 100000
namespace TL
open PySem PySem.Spec PyProof.Rows L2
section
variable {K:PySem.W.Frag} {H H' H1 H2 B:Hp} {p0 ps:List Addr} {σT:List Sl} {σ:L2.St} {T:Tape} {n n':Nat} {p:Addr}
theorem OkC.ne (o:OkC K B p0 H ps σT σ T n) (hp:H p=none):T.p ≠ p:=fun z=>by
  obtain ⟨l,e⟩:=o.tp.obj
  rw [z,hp] at e; cases e
theorem OkC.adopt (o:OkC K B p0 H ps σT σ T n) {u:HO} (hp:H p=none):OkC K B p0 (upd H p u) (p::ps) σT σ T n :=
  ⟨o.ok.adopt hp,o.mem,o.nb,⟨let ⟨l,e⟩:=o.tp.obj; ⟨l,by rw [upd_ne (o.ne hp)]; exact e⟩,by rw [mask_new hp]; exact o.tp.scr,o.tp.dig⟩,o.bq⟩
theorem OkC.aside (o:OkC K B p0 H ps σT σ T n) {q:Addr} {u:HO} (hq:q ∈ ps) (hB:B q=none) (hn:noOwn σT) (ne:T.p ≠ q):OkC K B p0 (upd H q u) ps σT σ T n :=
  ⟨o.ok.aside hq hB hn,o.mem,o.nb,⟨let ⟨l,e⟩:=o.tp.obj; ⟨l,by rw [upd_ne ne]; exact e⟩,by rw [mask_upd hq]; exact o.tp.scr,o.tp.dig⟩,o.bq⟩
theorem OkC.blk (o:OkC K B p0 H ps σT σ T n) (fr:List (Option Nat)):OkC K B p0 H ps (inBlkT fr σT) (inBlk fr σ) T n:=⟨o.ok.blk fr,o.mem,o.nb,o.tp,o.bq⟩
theorem OkC.with (o:OkC K B p0 H ps σT σ T n) {σT':List Sl} {σ':L2.St} (o':Ok K B p0 H ps σT' σ'):OkC K B p0 H ps σT' σ' T n:=⟨o',o.mem,o.nb,o.tp,o.bq⟩
end
section
variable {X:Cx} {a b e:Expr} {es:List Expr} {ta tb te:EC} {pos:Pos}
def cLc (fr:List (Option Nat)) (ti:IT) (g:GT) (te:EC):EC:=fun τ n σ Q=>ti σ fun ts=>ts.length≤100000∧∃ P:Nat→Nat→List Sl→List D→Prop,P 0 n (inBlkT fr σ) [] ∧
  (∀ (k m:Nat) (x:D) (σ':List Sl) (ds:List D),ts[k]?=some x→P k m σ' ds→g x σ' fun σ2=>te τ m σ2 fun m' y=>P (k + 1) m' σ2 (ds++[y]))∧∀ m σ' ds,P ts.length m σ' ds→Q m (.list ds)
theorem lcc_read {fr:List (Option Nat)} {ti:IT} {g:GT} {te:EC} {wi:TI} {gv:BP→TG} {vt:BP→TT} {ve:BP→TE}
    (ri:∀ (B:Hp) (p0:List Addr) (H:Hp) (ps:List Addr) (σT:List Sl) (σ:L2.St) (Q:List D→Prop) (R:It→Hp→Prop),Ok X.K B p0 H ps σT σ→ti σT Q→(∀ ts J H',Same H H'→Runs X.K (mask H' ps) ts J→Q ts→R J H')→wi σ H R)
    (rg:∀ (bp:BP) (B:Hp) (p0:List Addr) (H:Hp) (ps:List Addr) (σT:List Sl) (σ:L2.St) (d:D) (v:V) (Q:List Sl→Prop) (QV:L2.St→Hp→Prop),Ok X.K B p0 H ps σT σ→Rep X.K (mask H ps) d v→g d σT Q→(∀ σT' σ',Ok X.K B p0 H ps σT' σ'→(noOwn σT→noOwn σT')→Q σT'→QV σ' H)→gv bp v σ H QV)
    (rt:∀ (bp:BP) (B:Hp) (p0:List Addr) (H:Hp) (ps:List Addr) (σT:List Sl) (σ:L2.St) (Q:Bool→Prop) (QV:Bool→Hp→Prop),Ok X.K B p0 H ps σT σ→cTrue σT Q→(∀ b H',Same H H'→Q b→QV b H')→vt bp σ H QV)
    (re:∀ (bp:BP) (B:Hp) (p0:List Addr) (H:Hp) (ps:List Addr) (σT:List Sl) (σ:L2.St) (T:Tape) (n:Nat) (Q:Nat→D→Prop) (QV:VK),OkC X.K B p0 H ps σT σ T n→te (tpD T) n σT Q→(∀ n' d v H',SameX T.p H H'→TpAt X.K H' ps T n'→Rep X.K (mask H' ps) d v→Q n' d→QV v H')→ve bp σ H QV)
    (B:Hp) (p0:List Addr) (H:Hp) (ps:List Addr) (σT:List Sl) (σ:L2.St) (T:Tape) (n:Nat) (Q:Nat→D→Prop) (QV:VK) (o:OkC X.K B p0 H ps σT σ T n) (h:cLc fr ti g te (tpD T) n σT Q) (k:∀ n' d v H',SameX T.p H H'→TpAt X.K H' ps T n'→Rep X.K (mask H' ps) d v→Q n' d→QV v H'):tLc fr wi gv vt ve σ H QV:=by
  refine ri B p0 H ps σT σ _ _ o.ok h fun ts J H1 s1 rj q1=>?_
  obtain ⟨hz,P,h0,hs,hd⟩:=q1
  intro bp acc hacc
  have o1:=o.grow s1
  have hBacc:B acc=none:=Same.free' o1.ok.base hacc
  have hnps:acc ∉ ps:=fresh_notin o1.ok.live hacc
  have hne:=o1.ne hacc
  refine ⟨fun i m σ' H'=>m=ts.length - i∧i≤ts.length∧∃ c σT' ds ys,OkC X.K B p0 H' (acc::ps) σT' σ' T c∧noOwn σT'∧H' acc=some (.lst ys)∧ds.length≤i∧Reps X.K (mask H' (acc::ps)) ds ys∧Same (mask H1 ps) (mask H' (acc::ps))∧SameX T.p H1 H'∧P i c σT' ds,
    ⟨_,rfl,Nat.zero_le _,n,inBlkT fr σT,[],[],(o1.blk fr).adopt hacc,noOwn_blk fr σT,upd_same,Nat.le_refl _,.nil,by rw [mask_new hacc]; exact L2.Same.refl _,.of (same_new hacc),h0⟩,?_⟩
  rintro i m σ' H' ⟨rfl,hle,c,σT',ds,ys,o',n',ha,hl,hr,s',sF,p'⟩
  have hL:sizeLine=2 ^ 24:=rfl
  by_cases hlt:i < ts.length
  · refine .inr ⟨rj.go i H' (s'.trans mask_le) hlt,fun y H2 hy=>?_⟩
    obtain ⟨s2,dx,hx,rx⟩:=rj.yld i H' (acc::ps) y H2 o'.ok.live s' hlt hy
    have o2:=o'.grow s2
    refine rg bp B p0 H2 (acc::ps) σT' σ' dx y _ _ o2.ok rx (hs i c dx σT' ds hx p') fun σT3 σ3 o3 n3 q3=>?_
    refine rt bp B p0 H2 (acc::ps) σT3 σ3 (fun b=>b=true) _ o3 rfl fun b H4 s4 q4=>?_
    subst q4
    have o4:=(o2.with o3).grow s4
    have s24:=s2.trans s4
    refine re bp B p0 H4 (acc::ps) σT3 σ3 T c _ _ o4 q3 fun c5 d v H5 s5 t5 r5 q5=>?_
    have o5:=o4.growX s5 t5
    have m5:Same (mask H' (acc::ps)) (mask H5 (acc::ps)):=(mask_same s24).trans (s5.mask o4.mem')
    have hm:mask (upd H5 acc (.lst (ys++[v]))) (acc::ps)=mask H5 (acc::ps):=mask_upd (List.mem_cons_self ..)
    refine ⟨ys,s5 _ _ (fun z=>hne z.symm) (s24 _ _ ha),by rw [← hr.length]; omega,ts.length - (i + 1),by omega,rfl,hlt,c5,σT3,ds++[d],ys++[v],o5.aside (List.mem_cons_self ..) hBacc (n3 n') hne,n3 n',upd_same,by rw [List.length_append,List.length_singleton]; omega,?_,?_,?_,q5⟩
    · rw [hm]; exact (hr.same m5).append (.cons r5 .nil)
    · rw [hm]; exact s'.trans m5
    · intro b u nb e
      have ne:b ≠ acc:=fun z=>by rw [z,hacc] at e; cases e
      rw [upd_ne ne]
      exact s5 b u nb (s24 b u (sF b u nb e))
  · obtain rfl:i=ts.length:=by omega
    exact .inl ⟨rj.stop _ H' (s'.trans mask_le) (Nat.le_refl _),k c (.list ds) _ H' ((SameX.of s1).trans sF) ⟨o'.tp.obj,L2.Same.seq (mask_sub fun p hp=>List.mem_cons_of_mem _ hp) o'.tp.scr,o'.tp.dig⟩ (.list (SqL.of (mask_at hnps ha)) (hr.same (mask_sub fun p hp=>List.mem_cons_of_mem _ hp))) (hd c σT' ds p')⟩
theorem lcc_all {elt iter tg:Expr} {scope:Scope} {fr:List (Option Nat)} {N':List Str} {ti:IT} {g:GT} {te:EC} (hi:PIt X tg iter ti)
    (hY:∀ b:BP,PGt (blk X scope N' b) tg g∧PIft (blk X scope N' b) [] cTrue∧PEc (blk X scope N' b) elt te) {M:(TE)→Prop}
    (fin:∀ {wi:TI} {gv:BP→TG} {vt:BP→TT} {ve:BP→TE},PI X tg iter wi→(∀ b:BP,PG (blk X scope N' b) tg (gv b)∧PIf (blk X scope N' b) [] (vt b)∧PE (blk X scope N' b) elt (ve b))→M (tLc fr wi gv vt ve)) :
    ∃ v:TE,M v∧∀ (B:Hp) (p0:List Addr) (H:Hp) (ps:List Addr) (σT:List Sl) (σ:L2.St) (T:Tape) (n:Nat) (Q:Nat→D→Prop) (QV:VK),OkC X.K B p0 H ps σT σ T n→cLc fr ti g te (tpD T) n σT Q →
      (∀ n' d v H',SameX T.p H H'→TpAt X.K H' ps T n'→Rep X.K (mask H' ps) d v→Q n' d→QV v H')→v σ H QV:=by
  obtain ⟨wi,pi,ri⟩:=hi
  refine ⟨_,fin (gv:=fun b=>Classical.choose (hY b).1) (vt:=fun b=>Classical.choose (hY b).2.1) (ve:=fun b=>Classical.choose (hY b).2.2) pi fun b=>⟨(Classical.choose_spec (hY b).1).1,(Classical.choose_spec (hY b).2.1).1,(Classical.choose_spec (hY b).2.2).1⟩,?_⟩
  exact lcc_read ri (fun b=>(Classical.choose_spec (hY b).1).2) (fun b=>(Classical.choose_spec (hY b).2.1).2) fun b=>(Classical.choose_spec (hY b).2.2).2
theorem ec_lc {elt iter tg:Expr} {scope:Scope} {fr:List (Option Nat)} {N':List Str} {ti:IT} {g:GT} {te:EC} (hi:PIt X tg iter ti)
    (hY:∀ b:BP,PGt (blk X scope N' b) tg g∧PIft (blk X scope N' b) [] cTrue∧PEc (blk X scope N' b) elt te)
    (pl:∀ {wi:TI} {gv:BP→TG} {vt:BP→TT} {ve:BP→TE},PI X tg iter wi→(∀ b:BP,PG (blk X scope N' b) tg (gv b)∧PIf (blk X scope N' b) [] (vt b)∧PE (blk X scope N' b) elt (ve b))→PE X (.ListComp elt [⟨tg,iter,[],0⟩] scope pos) (tLc fr wi gv vt ve)) :
    PEc X (.ListComp elt [⟨tg,iter,[],0⟩] scope pos) (cLc fr ti g te):=lcc_all hi hY pl
end
structure EndsC where
  nx:Nat→List Sl→Prop
  rt:Nat→D→Prop
  bk:Nat→List Sl→Prop:=fun _ _=>False
  ct:Nat→List Sl→Prop:=fun _ _=>False
abbrev STC:=D→EndsC→Nat→List Sl→Prop
structure FitsC (K:PySem.W.Frag) (B:Hp) (p0:List Addr) (H:Hp) (ps:List Addr) (T:Tape) (DC:EndsC) (DV:Ends):Prop where
  nx:∀ H' ps' σT' σ' n',OkC K B p0 H' ps' σT' σ' T n'→Same (mask H ps) (mask H' ps')→DC.nx n' σT'→DV.nx σ' H'
  bk:∀ H' ps' σT' σ' n',OkC K B p0 H' ps' σT' σ' T n'→Same (mask H ps) (mask H' ps')→DC.bk n' σT'→DV.bk σ' H'
  ct:∀ H' ps' σT' σ' n',OkC K B p0 H' ps' σT' σ' T n'→Same (mask H ps) (mask H' ps')→DC.ct n' σT'→DV.ct σ' H'
  rt:∀ n' d v H',Same B H'→TpAt K H' p0 T n'→Rep K (mask H' p0) d v→DC.rt n' d→DV.rt v H'
def PSc (X:Cx) (st:Stmt) (t:STC):Prop:=∃ ts:TS,PS X st ts∧∀ (B:Hp) (p0:List Addr) (H:Hp) (ps:List Addr) (σT:List Sl) (σ:L2.St) (T:Tape) (n:Nat) (DC:EndsC) (DV:Ends),OkC X.K B p0 H ps σT σ T n→t (tpD T) DC n σT→FitsC X.K B p0 H ps T DC DV→ts DV σ H
def PSsc (X:Cx) (st:List Stmt) (t:STC):Prop:=∃ ts:TS,PSs X st ts∧∀ (B:Hp) (p0:List Addr) (H:Hp) (ps:List Addr) (σT:List Sl) (σ:L2.St) (T:Tape) (n:Nat) (DC:EndsC) (DV:Ends),OkC X.K B p0 H ps σT σ T n→t (tpD T) DC n σT→FitsC X.K B p0 H ps T DC DV→ts DV σ H
section
variable {K:PySem.W.Frag} {H H' H1 H2 B:Hp} {p0 ps:List Addr} {σT:List Sl} {σ:L2.St} {T:Tape} {n n':Nat}
theorem FitsC.later {DC:EndsC} {DV:Ends} {ps':List Addr} (f:FitsC K B p0 H ps T DC DV) (e:Same (mask H ps) (mask H' ps')):FitsC K B p0 H' ps' T DC DV :=
  ⟨fun _ _ _ _ _ o s q=>f.nx _ _ _ _ _ o (e.trans s) q,fun _ _ _ _ _ o s q=>f.bk _ _ _ _ _ o (e.trans s) q,fun _ _ _ _ _ o s q=>f.ct _ _ _ _ _ o (e.trans s) q,f.rt⟩
theorem OkC.up (o:OkC K B p0 H ps σT σ T n) {l:Int} (hl:H T.p=some (tapH T n l)):Ok K (upd B T.p (tapH T n l)) p0 H ps σT σ where
  base:=fun a u e=>by
    by_cases z:a=T.p
    · subst z
      rw [upd_same] at e
      cases e
      exact hl
    · rw [upd_ne z] at e
      exact o.ok.base a u e
  sub:=o.ok.sub
  live:=o.ok.live
  len:=o.ok.len
  val:=o.ok.val
  own:=fun i ts h=>let ⟨q,xs,h1,h2,h3,h4,h5,h6⟩:=o.ok.own i ts h; ⟨q,xs,h1,h2,by rw [upd_ne (fun z:q=T.p=>h4 (z ▸ o.mem))]; exact h3,h4,h5,h6⟩
  dis:=o.ok.dis
  dc:=o.ok.dc.to (fun j hs kvs h=>⟨h,rfl⟩) (fun q φ a b _=>⟨a,rfl⟩) (fun q φ _ _ a b=>⟨by rw [upd_ne (fun z:q=T.p=>b (z ▸ o.mem))]; exact a,b⟩) (L2.Same.refl _)
theorem OkC.down (o:OkC K B p0 H ps σT σ T n) {l:Int} {ps':List Addr} {σT':List Sl} {σ':L2.St} (o':Ok K (upd B T.p (tapH T n l)) p0 H' ps' σT' σ') (s:Same (mask H ps) (mask H' ps')):OkC K B p0 H' ps' σT' σ' T n where
  ok:=⟨(same_new o.nb).trans o'.base,o'.sub,o'.live,o'.len,o'.val,fun i ts h=>let ⟨q,xs,h1,h2,h3,h4,h5,h6⟩:=o'.own i ts h; ⟨q,xs,h1,h2,Same.free' (same_new o.nb) h3,h4,h5,h6⟩,o'.dis,o'.dc.to (fun j hs kvs h=>⟨h,rfl⟩) (fun q φ a b _=>⟨a,rfl⟩) (fun q φ _ _ a b=>⟨Same.free' (same_new o.nb) a,b⟩) (L2.Same.refl _)⟩
  mem:=o.mem
  nb:=o.nb
  tp:=⟨⟨l,o'.base _ _ upd_same⟩,L2.Same.seq s o.tp.scr,o.tp.dig⟩
  bq:=o.bq
theorem fits_up {DC:EndsC} {DV:Ends} (o:OkC K B p0 H ps σT σ T n) {l:Int} (f:FitsC K B p0 H ps T DC DV):Fits K (upd B T.p (tapH T n l)) p0 H ps { nx:=DC.nx n,rt:=DC.rt n,bk:=DC.bk n,ct:=DC.ct n } DV :=
  ⟨fun H' ps' σT' σ' o' s' q'=>f.nx H' ps' σT' σ' n (o.down o' s') s' q',fun H' ps' σT' σ' o' s' q'=>f.bk H' ps' σT' σ' n (o.down o' s') s' q',fun H' ps' σT' σ' o' s' q'=>f.ct H' ps' σT' σ' n (o.down o' s') s' q',
    fun d v H' s' r' q'=>f.rt n d v H' ((same_new o.nb).trans s') ⟨⟨l,s' _ _ upd_same⟩,L2.Same.seq (mask_same ((same_new o.nb).trans s')) o.bq,o.tp.dig⟩ r' q',
    fun _ _ _ _ _ _ _ _ _ q'=>q'.elim,fun _ _ _ _ _ _ _ _ _ _ _ _ _ _ _ _ _ _ q'=>q'.elim,fun _ _ _ _ _ _ _ _ _ _ _ _ _ _ q'=>q'.elim,True.intro⟩
end
section
variable {X:Cx} {a b c e:Expr} {es:List Expr} {te:EC} {pos:Pos} {st:Stmt} {rest:List Stmt} {t u:STC}
def sP (t:STt):STC:=fun _ DC n σ=>t { nx:=DC.nx n,rt:=DC.rt n,bk:=DC.bk n,ct:=DC.ct n } σ
theorem sc_p {t:STt} (h:PSt X st t):PSc X st (sP t):=by
  obtain ⟨ts,p,r⟩:=h
  refine ⟨ts,p,fun B p0 H ps σT σ T n DC DV o h f=>?_⟩
  obtain ⟨l,hl⟩:=o.tp.obj
  exact r _ p0 H ps σT σ _ DV (o.up hl) h (fits_up o f)
def cNext:STC:=fun _ DC n σ=>DC.nx n σ
def cSeq (t u:STC):STC:=fun τ DC n σ=>t τ { DC with nx:=u τ DC } n σ
theorem sc_nil:PSsc X [] cNext:=⟨_,pss_nil,fun B p0 H ps σT σ T n DC DV o h f=>f.nx H ps σT σ n o (L2.Same.refl _) h⟩
theorem sc_cons (h1:PSc X st t) (h2:PSsc X rest u):PSsc X (st::rest) (cSeq t u):=by
  obtain ⟨v1,p1,r1⟩:=h1
  obtain ⟨v2,p2,r2⟩:=h2
  refine ⟨_,pss_cons p1 p2,fun B p0 H ps σT σ T n DC DV o h f=>r1 B p0 H ps σT σ T n { DC with nx:=u (tpD T) DC } { DV with nx:=v2 DV } o h ⟨fun H' ps' σT' σ' n' o' s' q'=>?_,f.bk,f.ct,f.rt⟩⟩
  exact r2 B p0 H' ps' σT' σ' T n' DC DV o' q' (f.later s')
theorem sc_one (h1:PSc X st t):PSsc X [st] t:=by
  obtain ⟨v1,p1,r1⟩:=h1
  exact ⟨_,pss_one p1,r1⟩
def cShare (i:Nat) (t:STC):STC:=fun τ DC n σ=>∃ ts,σ[i]?=some (.own ts)∧t τ DC n (σ.set i (.val (.list ts)))
theorem sc_share {sts:List Stmt} (i:Nat) (h:PSsc X sts t):PSsc X sts (cShare i t):=by
  obtain ⟨v,p,r⟩:=h
  refine ⟨_,p,fun B p0 H ps σT σ T n DC DV o h f=>?_⟩
  obtain ⟨ts,e,h⟩:=h
  obtain ⟨ps',o',s'⟩:=o.ok.share e
  exact r B p0 H ps' _ σ T n DC DV ⟨o',o.mem,o.nb,⟨o.tp.obj,L2.Same.seq s' o.tp.scr,o.tp.dig⟩,o.bq⟩ h (f.later s')
def cRet (te:EC):STC:=fun τ DC n σ=>te τ n σ DC.rt
theorem sc_ret (h:PEc X e te):PSc X (.Return (some e) pos) (cRet te):=by
  obtain ⟨v,p,r⟩:=h
  refine ⟨_,ps_ret p,fun B p0 H ps σT σ T n DC DV o h f=>r B p0 H ps σT σ T n _ _ o h fun n' d x H' s' t' r' q'=>?_⟩
  have o':=o.growX s' t'
  exact f.rt n' d x H' o'.ok.base ⟨t'.obj,L2.Same.seq (mask_same o'.ok.base) o.bq,t'.dig⟩ (r'.same (mask_sub o.ok.sub)) q'
def cIf (c:TC) (t u:STC):STC:=fun τ DC n σ=>c τ n σ fun n1 b=>if b=true then t τ DC n1 σ else u τ DC n1 σ
theorem sc_if {c:Expr} {a b:List Stmt} {tc:TC} (hc:PTc X c tc) (ha:PSsc X a t) (hb:PSsc X b u):PSc X (.If c a b pos) (cIf tc t u):=by
  obtain ⟨vc,pc,rc⟩:=hc
  obtain ⟨va,pa,ra⟩:=ha
  obtain ⟨vb,pb,rb⟩:=hb
  refine ⟨_,ps_if pc pa pb,fun B p0 H ps σT σ T n DC DV o h f=>rc B p0 H ps σT σ T n _ _ o h fun n1 d H1 s1 t1 q1=>?_⟩
  have o1:=o.growX s1 t1
  have f1:=f.later (s1.mask o.mem')
  cases d with
  | true=>exact ra B p0 H1 ps σT σ T n1 DC DV o1 q1 f1
  | false=>exact rb B p0 H1 ps σT σ T n1 DC DV o1 q1 f1
def cSet (i:Nat) (te:EC):STC:=fun τ DC n σ=>te τ n σ fun n1 d=>DC.nx n1 (σ.set i (.val d))
theorem sc_set {i:Nat} {x:Str} {pos':Pos} (h:PEc X e te) (ps':∀ {v:TE},PE X e v→PS X (.Assign [.Name x pos'] e pos) (tAsg v (gName i))):PSc X (.Assign [.Name x pos'] e pos) (cSet i te):=by
  obtain ⟨v,p,r⟩:=h
  refine ⟨_,ps' p,fun B p0 H ps σT σ T n DC DV o h f=>r B p0 H ps σT σ T n _ _ o h fun n' d x H' s' t' r' q'=>?_⟩
  exact f.nx H' ps _ _ n' ((o.growX s' t').set r') (s'.mask o.mem') q'
theorem OkC.write {K:PySem.W.Frag} {B:Hp} {p0:List Addr} {H:Hp} {ps:List Addr} {σT:List Sl} {σ:L2.St} {T:Tape} {n:Nat} (o:OkC K B p0 H ps σT σ T n) {i:Nat} {ts us:List D} {ys:List V} {p:Addr} (hi:σT[i]?=some (.own ts)) (hσ:σ[i]?=some (some (.ref p))) (r:Reps K (mask H ps) us ys) :
    OkC K B p0 (upd H p (.lst ys)) ps (σT.set i (.own us)) σ T n:=by
  obtain ⟨q,xs,h1,h2,h3,h4,h5,h6⟩:=o.ok.own i ts hi
  rw [hσ] at h1
  cases h1
  have ne:T.p ≠ p:=fun z=>h4 (z ▸ o.mem)
  exact ⟨o.ok.write hi hσ r,o.mem,o.nb,⟨let ⟨l,e⟩:=o.tp.obj; ⟨l,by rw [upd_ne ne]; exact e⟩,by rw [mask_upd h2]; exact o.tp.scr,o.tp.dig⟩,o.bq⟩
def cFor (ti:IT) (g:GT) (tb:STC):STC:=fun τ DC n σ=>ti σ fun ts=>∃ P:Nat→Nat→List Sl→Prop,P 0 n σ ∧
  (∀ (k m:Nat) (x:D) (σ':List Sl),ts[k]?=some x→P k m σ'→g x σ' fun σ2=>tb τ { DC with nx:=P (k + 1),ct:=P (k + 1),bk:=DC.nx } m σ2)∧∀ m σ',P ts.length m σ'→DC.nx m σ'
theorem sc_for {tg iter:Expr} {body:List Stmt} {g:GT} {tb:STC} {ti:IT} (he:PIt X tg iter ti) (hg:PGt X tg g) (hb:PSsc X body tb)
    (pf:∀ {wi:TI} {gv:TG} {bv:TS},PI X tg iter wi→PG X tg gv→PSs X body bv→PS X (.For tg iter body [] pos) (tFor wi gv bv)):PSc X (.For tg iter body [] pos) (cFor ti g tb):=by
  obtain ⟨ve,pe,re⟩:=he
  obtain ⟨gv,pg,rg⟩:=hg
  obtain ⟨vb,pb,rb⟩:=hb
  refine ⟨_,pf pe pg pb,fun B p0 H ps σT σ T n DC DV o h f=>re B p0 H ps σT σ _ _ o.ok h fun ts J H1 s1 rj q1=>?_⟩
  obtain ⟨P,h0,hs,hd⟩:=q1
  refine ⟨fun i m σ' H'=>m=ts.length - i∧i≤ts.length∧∃ c ps' σT',OkC X.K B p0 H' ps' σT' σ' T c∧Same (mask H1 ps) (mask H' ps')∧P i c σT',⟨_,rfl,Nat.zero_le _,n,ps,σT,o.grow s1,L2.Same.refl _,h0⟩,?_⟩
  rintro i m σ' H' ⟨rfl,hle,c,ps',σT',o',s',p'⟩
  have sH:Same (mask H1 ps) H':=s'.trans mask_le
  have f':FitsC X.K B p0 H' ps' T DC DV:=f.later ((mask_same s1).trans s')
  by_cases hlt:i < ts.length
  · refine .inr ⟨rj.go i H' sH hlt,fun σ2 H2=>∃ c2 ps2 σT2,OkC X.K B p0 H2 ps2 σT2 σ2 T c2∧Same (mask H1 ps) (mask H2 ps2)∧P (i + 1) c2 σT2,fun σ2 H2 z=>⟨ts.length - (i + 1),by omega,rfl,hlt,z⟩,fun y H2 hy'=>?_⟩
    obtain ⟨s2,dx,hx,rx⟩:=rj.yld i H' ps' y H2 o'.ok.live s' hlt hy'
    have f2:=f'.later (mask_same (ps:=ps') s2)
    have s'':Same (mask H1 ps) (mask H2 ps'):=s'.trans (mask_same s2)
    have o2:=o'.grow s2
    refine rg B p0 H2 ps' σT' σ' dx y _ _ o2.ok rx (hs i c dx σT' hx p') fun σT3 σ3 o3 _ q3=>?_
    exact rb B p0 H2 ps' σT3 σ3 T c _ _ (o2.with o3) q3 ⟨fun H4 ps4 σT4 σ4 c4 o4 s4 q4=>⟨c4,ps4,σT4,o4,s''.trans s4,q4⟩,fun H4 ps4 σT4 σ4 c4 o4 s4 q4=>f2.nx H4 ps4 σT4 σ4 c4 o4 s4 q4,fun H4 ps4 σT4 σ4 c4 o4 s4 q4=>⟨c4,ps4,σT4,o4,s''.trans s4,q4⟩,f2.rt⟩
  · obtain rfl:i=ts.length:=by omega
    exact .inl ⟨rj.stop _ H' sH (Nat.le_refl _),f'.nx H' ps' σT' σ' c o' (L2.Same.refl _) (hd c σT' p')⟩
theorem ec_ixOwn {i:Nat} {m b:Expr} {tb:EC} (hn:PE X m (tVar i)) (hb:PEc X b tb) (hs:PlainIx b:=by intro _ _; rfl):PEc X (.Subscript m b pos) (cIxOwn i tb):=by
  obtain ⟨vb,pb,rb⟩:=hb
  refine ⟨_,pe_ix ix_seq hn pb hs,fun B p0 H ps σT σ T n Q QV o h k=>?_⟩
  obtain ⟨ts,e,h⟩:=h
  obtain ⟨q,xs,h1,h2,h3,h4,h5,h6⟩:=o.ok.own i ts e
  refine ⟨.ref q,h1,rb B p0 H ps σT σ T n _ _ o h fun n1 d y H1 s1 t1 r1 q1=>?_⟩
  obtain ⟨j,d',rfl,hj,q1⟩:=q1
  have ne:q ≠ T.p:=fun z=>h4 (z ▸ o.mem)
  cases r1
  obtain ⟨v,hv,rv⟩:=h6.atI hj
  exact .inl ⟨q,xs,j,v,rfl,rfl,SqL.of (s1 _ _ ne h5),hv,k n1 d' v H1 s1 t1 (rv.same (s1.mask o.mem')) q1⟩
theorem fnC {P:Program} {w:World} {mg:Str→Option Value} {base:Heap} {K:PySem.W.Frag} {x qual:Str} {st:Stmt} {f:Addr} {fd:FuncData} {N pn:List Str} {k:Nat} {sp:SpC} (F:Fun K x qual st f fd) (S:FnScope N pn (defScope st)) (len:∀ τ n ds Q,sp τ n ds Q→ds.length + 1=pn.length)
    (hbody:∀ (cdv:Value) (A:Around) (outer:List Env) (s:Shared) (H:Hp) (E:XK),Room k (A.deeper (envOfC qual (defScope st) s.heap.objs.size f cdv))→∀ (Tp:Tape) (n:Nat) (ds:List D) (Q:Nat→D→Prop),(Tp.b=true→0 < Tp.ns.length)→sp (tpD Tp) n ds Q →
      ∃ t,PSsc (cxOf CX0 P w K mg base N qual (defScope st) f cdv A outer s H E).nox (defBody st) t∧t (tpD Tp) { nx:=fun n _=>Q n .none,rt:=Q } n (startT N (tpD Tp::ds))):FnOk P w K mg base CX0 (k + 1) f fd pn (liftSpC K sp):=by
  refine F.ok S (fun vs H Q E h=>?_) fun cdv A outer s H vs Q E hr h=>?_
  · obtain ⟨ps,T,n,ds,QD,_,_,_,r,q,_⟩:=h
    rw [← r.length]; exact len _ _ ds QD q
  · obtain ⟨ps,T,n,ds,QD,live,hp,tp,r,q,k⟩:=h
    obtain ⟨t,⟨ts,p,rd⟩,h⟩:=hbody cdv A outer s H E hr T n ds QD tp.dig q
    have o:=ok_start (N:=N) live r
    have hno:∀ (i:Nat) (us:List D),(startT N (tpD T::ds))[i]? ≠ some (.own us):=fun i us e=>by
      obtain ⟨q,_,_,_,hB,_,hH,_⟩:=o.own i us e
      rw [hB] at hH; cases hH
    have sW:Same (without H T.p) H:=fun a u e=>by
      unfold without at e
      split at e
      · cases e
      · exact e
    have hx:∀ {H':Hp},Same (without H T.p) H'→SameX T.p H H':=fun s a u ne e=>s a u (by unfold without; rw [if_neg ne]; exact e)
    have o2:Ok K (without H T.p) ps H ps (startT N (tpD T::ds)) (L2.start N vs):=⟨sW,o.sub,o.live,o.len,o.val,fun i us e=>absurd e (hno i us),o.dis,fun i hs kvs e=>by
      obtain ⟨⟨q,es,_,_,hB,_,hH,_⟩,_⟩:=o.dc i hs kvs e
      rw [hB] at hH; cases hH⟩
    have hm:mask (without H T.p) ps=mask H ps:=by
      funext a
      unfold mask without
      by_cases z:a ∈ ps
      · rw [if_pos z,if_pos z]
      · rw [if_neg z,if_neg z,if_neg (fun e:a=T.p=>z (e ▸ hp))]
    have o3:OkC K (without H T.p) ps H ps (startT N (tpD T::ds)) (L2.start N vs) T n:=⟨o2,hp,by unfold without; rw [if_pos rfl],tp,by rw [hm]; exact tp.scr⟩
    refine ⟨ts,p,rd _ ps H ps _ _ T n _ _ o3 h ⟨fun H' ps' σT' σ' n' o' s' q'=>?_,fun _ _ _ _ _ _ _ q'=>q'.elim,fun _ _ _ _ _ _ _ q'=>q'.elim,fun n' d v H' s' t' r' q'=>k n' d v H' (hx s') t' r' q'⟩⟩
    exact k n' _ _ H' (hx o'.ok.base) ⟨o'.tp.obj,L2.Same.seq (mask_sub o'.ok.sub) o'.tp.scr,o'.tp.dig⟩ .none q'
end
end TL

set_option Elab.async false
set_option linter.all false
set_option maxRecDepth 100000
namespace TL
open PySem PySem.Spec PyProof.Rows L2
def kS:Key:=.inr "script"
def kA:Key:=.inr "at"
def kL:Key:=.inr "left"
def kD:Key:=.inr "digits"
theorem kSA:¬ kS=kA:=by decide +kernel
theorem kSL:¬ kS=kL:=by decide +kernel
theorem kSD:¬ kS=kD:=by decide +kernel
theorem kAL:¬ kA=kL:=by decide +kernel
theorem kAD:¬ kA=kD:=by decide +kernel
theorem kLD:¬ kL=kD:=by decide +kernel
def tapL (T:Tape) (n:Nat) (l:Int):List (Key × V):=[(kS,.ref T.q),(kA,.int n),(kL,.int l),(kD,.bl T.b)]
section
variable {T:Tape} {n:Nat} {l:Int}
theorem get_S:valV (tapL T n l) kS=some (.ref T.q):=valV_pos rfl
theorem get_A:valV (tapL T n l) kA=some (.int n):=by
  unfold tapL
  rw [valV_neg kSA]; exact valV_pos rfl
theorem get_L:valV (tapL T n l) kL=some (.int l):=by
  unfold tapL
  rw [valV_neg kSL,valV_neg kAL]; exact valV_pos rfl
theorem get_D:valV (tapL T n l) kD=some (.bl T.b):=by
  unfold tapL
  rw [valV_neg kSD,valV_neg kAD,valV_neg kLD]; exact valV_pos rfl
theorem put_A (m:Nat):putK (tapL T n l) kA (.int m)=tapL T m l:=by
  unfold putK tapL
  have h1:=kSA
  have h2:¬ kL=kA:=fun z=>kAL z.symm
  have h3:¬ kD=kA:=fun z=>kAD z.symm
  simp [h1,h2,h3]
theorem put_L (m:Int):putK (tapL T n l) kL (.int m)=tapL T n m:=by
  unfold putK tapL
  have h1:=kSL
  have h2:=kAL
  have h3:¬ kD=kL:=fun z=>kLD z.symm
  simp [h1,h2,h3]
end
theorem reps_of_ints {K:PySem.W.Frag} {H:Hp}:∀ ns:List Int,Reps K H (ns.map PyData.int) (ns.map V.int)
  | []=>.nil
  | i::ns=>.cons (.int i) (reps_of_ints ns)
def scrD (τ:D):D:=match τ with | .dict [(_,.list [_,_,_,l])]=>l | _=>.none
def digD (τ:D):D:=match τ with | .dict [(_,.list [_,_,b,_])]=>b | _=>.none
section
variable {X:Cx} {pos:Pos} {m:Expr} {i:Nat} {kj:Nat}
theorem nosl_str {z:Str} {j:Nat} {p:Pos}:NoSl (.Constant (.str z) j p):=fun _ _=>rfl
def cGet (i:Nat) (Q':D→Nat→(Nat→D→Prop)→Prop):EC:=fun τ n σ Q=>σ[i]?=some (.val τ)∧Q' τ n Q
theorem tape_at {K:PySem.W.Frag} {B:Hp} {p0:List Addr} {H:Hp} {ps:List Addr} {σT:List Sl} {σ:L2.St} {T:Tape} {n:Nat} (o:OkC K B p0 H ps σT σ T n) (h:σT[i]?=some (.val (tpD T))):σ[i]?=some (some (.ref T.p)):=by
  obtain ⟨v,h1,h2⟩:=o.ok.val i _ h
  rw [h1,rep_tp_inv h2]
theorem ec_getS {k:Nat} {p2:Pos} (hr:Room k X.A) (hn:PE X m (tVar i)):PEc X (.Subscript m (.Constant (.str "script") kj p2) pos) (cGet i fun τ n Q=>Q n (scrD τ)):=by
  refine ⟨_,pe_dget (by have:=hr.un; omega) hn pe_str nosl_str,fun B p0 H ps σT σ T n Q QV o h k=>?_⟩
  obtain ⟨l,hl⟩:=o.tp.obj
  exact ⟨_,tape_at o h.1,T.p,_,rfl,by rw [← get_S]; exact DGet.k (k:=kS) hl,k n _ _ H .refl o.tp (.list o.tp.scr (reps_of_ints _)) h.2⟩
theorem ec_getA {k:Nat} {p2:Pos} (hr:Room k X.A) (hn:PE X m (tVar i)):PEc X (.Subscript m (.Constant (.str "at") kj p2) pos) (cGet i fun τ n Q=>Q n (.int n)):=by
  refine ⟨_,pe_dget (by have:=hr.un; omega) hn pe_str nosl_str,fun B p0 H ps σT σ T n Q QV o h k=>?_⟩
  obtain ⟨l,hl⟩:=o.tp.obj
  exact ⟨_,tape_at o h.1,T.p,_,rfl,by rw [← get_A]; exact DGet.k (k:=kA) hl,k n _ _ H .refl o.tp (.int _) h.2⟩
theorem ec_getL {k:Nat} {p2:Pos} (hr:Room k X.A) (hn:PE X m (tVar i)):PEc X (.Subscript m (.Constant (.str "left") kj p2) pos) (cGet i fun τ n Q=>∀ l:Int,Q n (.int l)):=by
  refine ⟨_,pe_dget (by have:=hr.un; omega) hn pe_str nosl_str,fun B p0 H ps σT σ T n Q QV o h k=>?_⟩
  obtain ⟨l,hl⟩:=o.tp.obj
  exact ⟨_,tape_at o h.1,T.p,_,rfl,by rw [← get_L]; exact DGet.k (k:=kL) hl,k n _ _ H .refl o.tp (.int _) (h.2 l)⟩
theorem ec_getD {k:Nat} {p2:Pos} (hr:Room k X.A) (hn:PE X m (tVar i)):PEc X (.Subscript m (.Constant (.str "digits") kj p2) pos) (cGet i fun τ n Q=>Q n (digD τ)):=by
  refine ⟨_,pe_dget (by have:=hr.un; omega) hn pe_str nosl_str,fun B p0 H ps σT σ T n Q QV o h k=>?_⟩
  obtain ⟨l,hl⟩:=o.tp.obj
  exact ⟨_,tape_at o h.1,T.p,_,rfl,by rw [← get_D]; exact DGet.k (k:=kD) hl,k n _ _ H .refl o.tp (.bool _) h.2⟩
theorem tc_val {e:Expr} {te:EC} (h:PEc X e te) (pt:∀ {t:TE},PE X e t→PT X e (tB t)):PTc X e (cVal te):=by
  obtain ⟨v,p,r⟩:=h
  refine ⟨_,pt p,fun B p0 H ps σT σ T n Q QV o h k=>r B p0 H ps σT σ T n _ _ o h fun n1 d x H1 s1 t1 r1 q1=>?_⟩
  cases r1 with
  | bool c=>exact ⟨c,rfl,k n1 c H1 s1 t1 q1⟩
  | _=>exact q1.elim
theorem SameX.put {H:Hp} {p:Addr} {u:HO}:SameX p H (upd H p u):=fun a o ne e=>by rw [upd_ne ne]; exact e
def cPutA (i:Nat) (te:EC):STC:=fun τ DC n σ=>te τ n σ fun n1 d=>d=.int ((n1:Int) + 1)∧σ[i]?=some (.val τ)∧DC.nx (n1 + 1) σ
theorem sc_putA {k:Nat} {p2 p3:Pos} {value:Expr} {te:EC} (hr:Room k X.A) (hn:PE X m (tVar i)) (hv:PEc X value te) (hs:swapsWith value (some (.Subscript m (.Constant (.str "at") kj p2) p3)) pos.line X.env=pure false:=by rfl) :
    PSc X (.Assign [.Subscript m (.Constant (.str "at") kj p2) p3] value pos) (cPutA i te):=by
  obtain ⟨v,p,r⟩:=hv
  refine ⟨_,ps_dput (by have:=hr.un; omega) hn pe_str p hs,fun B p0 H ps σT σ T n DC DV o h f=>r B p0 H ps σT σ T n _ _ o h fun n1 d x H1 s1 t1 r1 q1=>?_⟩
  obtain ⟨rfl,hi,q1⟩:=q1
  cases r1
  have o1:=o.growX s1 t1
  obtain ⟨l,hl⟩:=t1.obj
  refine ⟨_,tape_at o1 hi,T.p,_,rfl,DPut.k (k:=kA) (v:=.int (n1 + 1:Nat)) hl (by show 4 < sizeLine; decide),?_⟩
  show DV.nx σ (upd H1 T.p (.dK (putK (tapL T n1 l) kA (.int (n1 + 1:Nat)))))
  rw [put_A]
  have t2:TpAt X.K (upd H1 T.p (tapH T (n1 + 1) l)) ps T (n1 + 1):=⟨⟨l,upd_same⟩,by rw [mask_upd o.mem']; exact t1.scr,t1.dig⟩
  exact f.nx _ ps σT σ (n1 + 1) (o1.growX .put t2) ((s1.trans .put).mask o.mem') q1
def cPutL (i:Nat) (te:EC):STC:=fun τ DC n σ=>te τ n σ fun n1 d=>(∃ l:Int,d=.int l)∧σ[i]?=some (.val τ)∧DC.nx n1 σ
theorem sc_putL {k:Nat} {p2 p3:Pos} {value:Expr} {te:EC} (hr:Room k X.A) (hn:PE X m (tVar i)) (hv:PEc X value te) (hs:swapsWith value (some (.Subscript m (.Constant (.str "left") kj p2) p3)) pos.line X.env=pure false:=by rfl) :
    PSc X (.Assign [.Subscript m (.Constant (.str "left") kj p2) p3] value pos) (cPutL i te):=by
  obtain ⟨v,p,r⟩:=hv
  refine ⟨_,ps_dput (by have:=hr.un; omega) hn pe_str p hs,fun B p0 H ps σT σ T n DC DV o h f=>r B p0 H ps σT σ T n _ _ o h fun n1 d x H1 s1 t1 r1 q1=>?_⟩
  obtain ⟨⟨l',rfl⟩,hi,q1⟩:=q1
  cases r1
  have o1:=o.growX s1 t1
  obtain ⟨l,hl⟩:=t1.obj
  refine ⟨_,tape_at o1 hi,T.p,_,rfl,DPut.k (k:=kL) (v:=.int l') hl (by show 4 < sizeLine; decide),?_⟩
  show DV.nx σ (upd H1 T.p (.dK (putK (tapL T n1 l) kL (.int l'))))
  rw [put_L]
  have t2:TpAt X.K (upd H1 T.p (tapH T n1 l')) ps T n1:=⟨⟨l',upd_same⟩,by rw [mask_upd o.mem']; exact t1.scr,t1.dig⟩
  exact f.nx _ ps σT σ n1 (o1.growX .put t2) ((s1.trans .put).mask o.mem') q1
end
def spNew (K:PySem.W.Frag):Sp:=fun vs H Q _=>∃ (ps:List Addr) (ns:List Int) (v:V),(∀ p ∈ ps,H p ≠ none)∧vs=[v]∧Rep K (mask H ps) (.list (ns.map PyData.int)) v ∧
  ∀ (T:Tape) H',T.ns=ns→Same H H'→H T.p=none→H' T.p=some (tapH T 0 0)→SqL K (mask H' ps) T.q (T.ns.map V.int)→(T.b=true→0 < T.ns.length)→Q (.ref T.p) H'
abbrev liftSpN (K:PySem.W.Frag) (_:SpT):Sp:=spNew K
def sTape (i:Nat) (te:ET) (u:STC):STt:=fun DT σ=>te σ fun d=>∃ ns:List Int,d=.list (ns.map PyData.int)∧∀ T:Tape,T.ns=ns→(T.b=true→0 < T.ns.length)→u (tpD T) { nx:=fun _ _=>False,rt:=fun _ d=>DT.rt d } 0 (σ.set i (.val (tpD T)))
theorem sq_notin {K:PySem.W.Frag} {H:Hp} {ps:List Addr} {q:Addr} {xs:List V} (h:SqL K (mask H ps) q xs):(q ∉ ps∧Rd H q (.lst xs)) ∨ ∀ H',SqL K H' q xs:=by
  rcases h with h | h
  · refine .inl ⟨fun z=>?_,?_⟩
    · rcases h with h | ⟨u,h⟩
      · unfold mask at h; rw [if_pos z] at h; cases h
      · unfold mask at h; rw [if_pos z] at h; cases h
    · rcases h with h | ⟨u,h⟩
      · exact .inl (mask_le _ _ h)
      · exact .inr ⟨u,mask_le _ _ h⟩
  · exact .inr fun _=>.inr h
theorem st_tape {X:Cx} {i k:Nat} {f:Addr} {fd:FuncData} {pn:List Str} {x y:Str} {p px pos cp:Pos} {e:Expr} {te:ET} {rest:List Stmt} {u:STC} (F:FnOk X.prog X.w X.K X.mg X.base CX0 k f fd pn (spNew X.K))
    (he:PEt X e te) (hs:starEach [e] X.env=(false,eval e X.env)::starEach [] X.env) (pc:∀ {ta:TA},PA X [e] ta→PS X (.Assign [.Name y px] (.Call (.Name x p) [e] [] cp) pos) (tAsg (tCall (spNew X.K) [] E0 ta) (gName i))) (hu:PSsc X rest u) :
    PSst X (.Assign [.Name y px] (.Call (.Name x p) [e] [] cp) pos::rest) (sTape i te u):=by
  obtain ⟨ve,pe,re⟩:=he
  obtain ⟨vu,pu,ru⟩:=hu
  refine ⟨_,pss_cons (pc (pa_cons pe pa_nil hs)) pu,fun B p0 H ps σT σ DT DV o h f=>?_⟩
  refine re B p0 H ps σT σ _ _ o h fun d v H1 s1 r1 q1=>?_
  obtain ⟨ns,rfl,q1⟩:=q1
  have o1:=o.grow s1
  refine ⟨ps,ns,v,o1.live,rfl,r1,fun T H2 hns s2 hp hH hq hd=>?_⟩
  subst hns
  have o2:=o1.grow s2
  have hB:B T.p=none:=Same.free' (o.base.trans s1) hp
  have hnp:T.p ∉ ps:=fresh_notin o1.live hp
  have hm:Same (mask H1 ps) (mask H2 (T.p::ps)):=fun a u e=>by
    unfold mask at e ⊢
    by_cases ha:a ∈ ps
    · rw [if_pos ha] at e; cases e
    · rw [if_neg ha] at e
      have ne:a ≠ T.p:=fun z=>by rw [z,hp] at e; cases e
      rw [if_neg fun z=>(List.mem_cons.mp z).elim ne ha]
      exact s2 a u e
  have hqn:(T.q ∉ T.p::ps∧Rd H2 T.q (.lst (T.ns.map V.int))) ∨ ∀ H',SqL X.K H' T.q (T.ns.map V.int):=by
    rcases sq_notin hq with ⟨n1,h⟩ | h
    · refine .inl ⟨fun z=>?_,h⟩
      rcases List.mem_cons.mp z with z | z
      · rw [z] at h
        rcases h with h | ⟨u,h⟩
        · rw [hH] at h; cases h
        · rw [hH] at h; cases h
      · exact n1 z
    · exact .inr h
  have sB:Same B (fun a=>if a ∈ T.p::ps then B a else H2 a):=fun a u e=>by
    by_cases ha:a ∈ T.p::ps
    · show (if a ∈ T.p::ps then B a else H2 a)=_; rw [if_pos ha]; exact e
    · show (if a ∈ T.p::ps then B a else H2 a)=_; rw [if_neg ha]; exact o2.base a u e
  have sB1:Same (fun a=>if a ∈ T.p::ps then B a else H2 a) H2:=fun a u e=>by
    have e':(if a ∈ T.p::ps then B a else H2 a)=some u:=e
    by_cases ha:a ∈ T.p::ps
    · rw [if_pos ha] at e'; exact o2.base a u e'
    · rw [if_neg ha] at e'; exact e'
  generalize hBg:(fun a=>if a ∈ T.p::ps then B a else H2 a:Hp)=B' at sB sB1
  have hBn:∀ a,a ∈ T.p::ps→B' a=B a:=fun a ha=>by rw [← hBg]; exact if_pos ha
  have hBo:∀ a,a ∉ T.p::ps→B' a=H2 a:=fun a ha=>by rw [← hBg]; exact if_neg ha
  have oB:Ok X.K B' (T.p::p0) H2 (T.p::ps) σT σ:=by
    refine ⟨sB1,fun q hq=>?_,fun q hq=>?_,o.len,fun j d h=>?_,fun j ts h=>?_,o.dis,o1.dc.to (fun j hs kvs h=>⟨h,rfl⟩) (fun q φ a b _=>⟨List.mem_cons_of_mem _ a,(s2 _ _ b).trans b.symm⟩) (fun q φ a b c d=>⟨(hBn q (List.mem_cons_of_mem _ a)).trans c,fun z=>by
      rcases List.mem_cons.mp z with z | z
      · rw [z,hp] at b; cases b
      · exact d z⟩) hm⟩
    · rcases List.mem_cons.mp hq with z | z
      · exact z ▸ List.mem_cons_self ..
      · exact List.mem_cons_of_mem _ (o.sub q z)
    · rcases List.mem_cons.mp hq with z | z
      · rw [z,hH]; exact fun z=>nomatch z
      · exact o2.live q z
    · obtain ⟨v,h1,h2⟩:=o1.val j d h
      exact ⟨v,h1,h2.same hm⟩
    · obtain ⟨q,xs,h1,h2,h3,h4,h5,h6⟩:=o1.own j ts h
      refine ⟨q,xs,h1,List.mem_cons_of_mem _ h2,(hBn q (List.mem_cons_of_mem _ h2)).trans h3,fun z=>?_,s2 _ _ h5,h6.same hm⟩
      rcases List.mem_cons.mp z with z | z
      · rw [z,hp] at h5; cases h5
      · exact h4 z
  have sq:∀ {H':Hp} {ps':List Addr},(∀ a,a ∈ ps'→a ∈ T.p::ps)→(∀ a,a ∉ T.p::ps→H' a=H2 a)→SqL X.K (mask H' ps') T.q (T.ns.map V.int):=fun {H' ps'} h1 h2=>by
    rcases hqn with ⟨n1,h⟩ | h
    · have e:mask H' ps' T.q=H2 T.q:=by
        unfold mask
        rw [if_neg fun z=>n1 (h1 _ z),h2 _ n1]
      rcases h with h | ⟨u,h⟩
      · exact .inl (.inl (e.trans h))
      · exact .inl (.inr ⟨u,e.trans h⟩)
    · exact h _
  have hbq:SqL X.K (mask B' (T.p::p0)) T.q (T.ns.map V.int):=sq (fun a ha=>by
    rcases List.mem_cons.mp ha with z | z
    · exact z ▸ List.mem_cons_self ..
    · exact List.mem_cons_of_mem _ (o.sub a z)) hBo
  have hsc:SqL X.K (mask H2 (T.p::ps)) T.q (T.ns.map V.int):=sq (fun _ z=>z) fun _ _=>rfl
  refine ru B' (T.p::p0) H2 (T.p::ps) _ _ T 0 _ DV ⟨oB.set (rep_tp T),List.mem_cons_self ..,(hBn _ (List.mem_cons_self ..)).trans hB,⟨⟨0,hH⟩,hsc,hd⟩,hbq⟩ (q1 T rfl hd) ⟨fun _ _ _ _ _ _ _ q'=>q'.elim,fun _ _ _ _ _ _ _ q'=>q'.elim,fun _ _ _ _ _ _ _ q'=>q'.elim,fun n' d v H' s' t' r' q'=>?_⟩
  exact f.rt d v H' (sB.trans s') (r'.same (mask_sub fun q hq=>List.mem_cons_of_mem _ hq)) q'
theorem merge_tap (T:Tape):mergeK [] (tapL T 0 0)=tapL T 0 0:=by
  have h1:=kSA
  have h2:=kSL
  have h3:=kSD
  have h4:=kAL
  have h5:=kAD
  have h6:=kLD
  unfold mergeK tapL
  simp [putK,h1,h2,h3,h4,h5,h6]
theorem fnNew {P:Program} {w:World} {mg:Str→Option Value} {base:Heap} {K:PySem.W.Frag} {x qual:Str} {st:Stmt} {f:Addr} {fd:FuncData} {n1 n2:Str} {k:Nat} (F:Fun K x qual st f fd) (S:FnScope [n1,n2] [n1] (defScope st))
    (hbody:∀ (cdv:Value) (A:Around) (outer:List Env) (s:Shared) (H:Hp) (E:XK),Room k (A.deeper (envOfC qual (defScope st) s.heap.objs.size f cdv)) →
      ∃ (st1:Stmt) (e2:Expr) (pos:Pos) (te:ET),defBody st=[st1,.Return (some e2) pos]∧PSt (cxOf CX0 P w K mg base [n1,n2] qual (defScope st) f cdv A outer s H E).nox st1 (sSet 1 te) ∧
        PE (cxOf CX0 P w K mg base [n1,n2] qual (defScope st) f cdv A outer s H E).nox e2 (tDisp [(tC (.str "script"),tVar 0),(tC (.str "at"),tC (.int 0)),(tC (.str "left"),tC (.int 0)),(tC (.str "digits"),tVar 1)]) ∧
        ∀ (ns:List Int) (Q:D→Prop),(∀ b:Bool,(b=true→0 < ns.length)→Q (.bool b))→te [.val (.list (ns.map PyData.int)),.un] Q):FnOk P w K mg base CX0 (k + 1) f fd [n1] (spNew K):=by
  refine F.ok S (fun vs H Q E h=>?_) fun cdv A outer s H vs Q E hr h=>?_
  · obtain ⟨ps,ns,v,_,rfl,_⟩:=h
    rfl
  · obtain ⟨ps,ns,v,live,rfl,r,k⟩:=h
    obtain ⟨st1,e2,pos,te,hb,⟨t1,p1,r1⟩,p2,ht⟩:=hbody cdv A outer s H E hr
    rw [hb]
    refine ⟨_,pss_cons p1 (pss_one (ps_ret p2)),?_⟩
    have o:=ok_start (N:=[n1,n2]) (ds:=[.list (ns.map PyData.int)]) live (.cons r .nil)
    refine r1 H ps H ps _ _ { nx:=fun σT'=>∃ b:Bool,(b=true→0 < ns.length)∧σT'=[.val (.list (ns.map PyData.int)),.val (.bool b)],rt:=fun _=>False } _ o (ht ns _ fun b hb=>⟨b,hb,rfl⟩) ⟨fun H' ps' σT' σ' o' s' q'=>?_,fun _ _ _ _ _ _ q'=>q'.elim,fun _ _ _ _ _ _ q'=>q'.elim,fun _ _ _ _ _ q'=>q'.elim,fun _ _ _ _ _ _ _ _ _ q'=>q'.elim,fun _ _ _ _ _ _ _ _ _ _ _ _ _ _ _ _ _ _ q'=>q'.elim,fun _ _ _ _ _ _ _ _ _ _ _ _ _ _ q'=>q'.elim,True.intro⟩
    obtain ⟨b,hb,rfl⟩:=q'
    obtain ⟨v0,e0,r0⟩:=o'.val 0 _ rfl
    obtain ⟨v1,e1,r1⟩:=o'.val 1 _ rfl
    cases r1
    intro p hp
    refine ⟨v0,e0,.bl b,e1,upd_same,?_⟩
    cases r0 with
    | @list q xs _ hq rs =>
      have e:=reps_ints rs
      subst e
      refine ⟨tapL ⟨p,q,ns,b⟩ 0 0,rfl,(by show 4≤15; decide),?_⟩
      rw [merge_tap]
      have hpH:H p=none:=Same.free' o'.base hp
      refine k ⟨p,q,ns,b⟩ _ rfl (fun a u e=>?_) hpH upd_same ?_ hb
      · have ne:a ≠ p:=fun z=>by rw [z,hpH] at e; cases e
        rw [upd_ne ne,upd_ne ne]
        exact o'.base a u e
      · refine L2.Same.seq (fun a u e=>?_) hq
        unfold mask at e ⊢
        by_cases ha:a ∈ ps'
        · rw [if_pos ha] at e; cases e
        · rw [if_neg ha] at e
          have ne:a ≠ p:=fun z=>by rw [z,hp] at e; cases e
          rw [if_neg fun z=>ha (o'.sub a z),upd_ne ne,upd_ne ne]
          exact e
end TL

set_option Elab.async false
set_option linter.all false
set_option maxRecDepth 100000
namespace TL
open PySem PySem.Spec PyProof.Rows L2
section
variable {t:STt} {u:STC} {τ:D} {DC:EndsC} {n:Nat} {σ:List Sl} {i:Nat} {te:EC}
theorem cq_pure (h:sSeq t (fun _=>u τ DC n) { nx:=fun _=>True,rt:=DC.rt n,bk:=DC.bk n,ct:=DC.ct n } σ):cSeq (sP t) u τ DC n σ:=h
theorem cq_set1 (v:D) (h:∀ q:Nat→D→Prop,q n v→te τ n σ q) (k:u τ DC n (σ.set i (.val v))):cSeq (cSet i te) u τ DC n σ:=h (fun n1 d=>u τ DC n1 (σ.set i (.val d))) k
theorem cq_setR (R:Nat→D→Prop) (h:∀ q:Nat→D→Prop,(∀ m v,R m v→q m v)→te τ n σ q) (k:∀ m v,R m v→u τ DC m (σ.set i (.val v))):cSeq (cSet i te) u τ DC n σ:=h _ k
theorem cq_if1 {c:TC} {t e:STC} (b:Bool) (h:∀ q:Nat→Bool→Prop,q n b→c τ n σ q) (k1:b=true→t τ { DC with nx:=u τ DC } n σ) (k0:b=false→e τ { DC with nx:=u τ DC } n σ):cSeq (cIf c t e) u τ DC n σ:=by
  refine h _ ?_
  cases b with
  | true=>rw [if_pos rfl]; exact k1 rfl
  | false=>rw [if_neg (by decide)]; exact k0 rfl
theorem cq_ifput {c:TC} (hσ:σ[i]?=some (.val τ)) (b:Bool) (h:∀ q:Nat→Bool→Prop,q n b→c τ n σ q) (hp:∀ q:Nat→D→Prop,(∀ l:Int,q n (.int l))→te τ n σ q) (k:u τ DC n σ):cSeq (cIf c (cPutL i te) cNext) u τ DC n σ:=by
  refine cq_if1 b h (fun _=>?_) fun _=>k
  exact hp _ fun l=>⟨⟨l,rfl⟩,hσ,k⟩
theorem cq_ifset {c:TC} (C:Prop) (R:Nat→Prop) (Rv:D→Prop) (h:∀ q:Nat→Bool→Prop,(∀ m b,R m→(b=true→C)→q m b)→c τ n σ q) (d0:D) (h0:σ[i]?=some (.val d0)) (r0:Rv d0) (S:Nat→Prop) (hS:∀ m,R m→S m) (hp:∀ m,R m→C→∀ q:Nat→D→Prop,(∀ m' d,S m'→Rv d→q m' d)→te τ m σ q) (k:∀ m d,S m→Rv d→u τ DC m (σ.set i (.val d))):cSeq (cIf c (cSet i te) cNext) u τ DC n σ:=by
  refine h _ fun m b hb hC=>?_
  cases b with
  | true=>rw [if_pos rfl]; exact hp m hb (hC rfl) _ fun m' d hm hd=>k m' d hm hd
  | false =>
    rw [if_neg (by decide)]
    have e:σ.set i (.val d0)=σ:=by
      apply List.ext_getElem?
      intro j
      by_cases hj:i=j
      · subst hj
        rw [List.getElem?_set_self (List.getElem?_eq_some_iff.mp h0).1,h0]
      · rw [List.getElem?_set_ne hj]
    have:=k m d0 (hS m hb) r0
    rw [e] at this
    exact this
theorem cq_ifsetP {c:TC} {tp:ET} (C:Prop) (S:Nat→Prop) (Rv:D→Prop) (h:∀ q:Nat→Bool→Prop,(∀ m b,S m→(b=true→C)→q m b)→c τ n σ q) (d0:D) (h0:σ[i]?=some (.val d0)) (r0:Rv d0) (hp:C→∀ q:D→Prop,(∀ d,Rv d→q d)→tp σ q) (k:∀ m d,S m→Rv d→u τ DC m (σ.set i (.val d))):cSeq (cIf c (sP (sSet i tp)) cNext) u τ DC n σ:=by
  refine h _ fun m b hm hb=>?_
  cases b with
  | true=>rw [if_pos rfl]; exact hp (hb rfl) _ fun d hd=>k m d hm hd
  | false =>
    rw [if_neg (by decide)]
    have e:σ.set i (.val d0)=σ:=by
      apply List.ext_getElem?
      intro j
      by_cases hj:i=j
      · subst hj
        rw [List.getElem?_set_self (List.getElem?_eq_some_iff.mp h0).1,h0]
      · rw [List.getElem?_set_ne hj]
    have:=k m d0 hm r0
    rw [e] at this
    exact this
theorem cforx {ti:IT} {ts:List D} {g:GT} {tb:STC} (hti:Gives' ti σ ts) (P:Nat→Nat→List Sl→Prop) (h0:P 0 n σ)
    (hs:∀ (k m:Nat) (x:D) (σ':List Sl),ts[k]?=some x→P k m σ'→g x σ' fun σ2=>tb τ { DC with nx:=P (k + 1),ct:=P (k + 1),bk:=DC.nx } m σ2) (hd:∀ m σ',P ts.length m σ'→DC.nx m σ'):cFor ti g tb τ DC n σ:=hti _ ⟨P,h0,hs,hd⟩
theorem cq_for {ti:IT} {ts:List D} {g:GT} {tb:STC} (hti:Gives' ti σ ts) (P:Nat→Nat→List Sl→Prop) (h0:P 0 n σ)
    (hs:∀ (k m:Nat) (x:D) (σ':List Sl),ts[k]?=some x→P k m σ'→g x σ' fun σ2=>tb τ { DC with nx:=P (k + 1),ct:=P (k + 1),bk:=u τ DC } m σ2) (hd:∀ m σ',P ts.length m σ'→u τ DC m σ'):cSeq (cFor ti g tb) u τ DC n σ :=
  cforx (DC:={ DC with nx:=u τ DC }) hti P h0 hs hd
theorem clc_in {fr:List (Option Nat)} {ti:IT} {ts:List D} {Q:Nat→D→Prop} (hti:Gives' ti σ ts) (R:Nat→D→D→Prop) (C:Nat) (hz:ts.length≤100000)
    (ht:∀ (k m:Nat) (x:D) (q:Nat→D→Prop),ts[k]?=some x→m≤n + C * k→(∀ m' y,m'≤m + C→R k x y→q m' y)→te τ m ((inBlkT fr σ).set 0 (.val x)) q)
    (hq:∀ (m:Nat) (ys:List D),m≤n + C * ts.length→ys.length=ts.length→(∀ (k:Nat) (x y:D),ts[k]?=some x→ys[k]?=some y→R k x y)→Q m (.list ys)):cLc fr ti (gN 0) te τ n σ Q:=by
  refine hti _ ⟨hz,fun k m σ' ds=>(∀ x,σ'.set 0 (.val x)=(inBlkT fr σ).set 0 (.val x))∧m≤n + C * k∧ds.length=k∧∀ (j:Nat) (x y:D),ts[j]?=some x→ds[j]?=some y→R j x y,⟨fun _=>rfl,by omega,rfl,fun j x y _ h=>by simp at h⟩,fun k m x σ' ds hx h=>?_,fun m σ' ds h=>hq m ds h.2.1 h.2.2.1 h.2.2.2⟩
  obtain ⟨h1,h2,h3,h4⟩:=h
  show te τ m (σ'.set 0 (.val x)) _
  rw [h1 x]
  refine ht k m x _ hx h2 fun m' y hm hy=>⟨fun z=>set_set _ _ _ _,?_,by simp [h3],fun j x' y' e1 e2=>?_⟩
  · rw [Nat.mul_succ]; omega
  · by_cases hj:j < k
    · rw [List.getElem?_append_left (by omega)] at e2
      exact h4 j x' y' e1 e2
    · rw [List.getElem?_append_right (by omega)] at e2
      have:j=k:=by
        by_cases e:j=k
        · exact e
        · have:j - ds.length ≠ 0:=by omega
          cases q:j - ds.length with
          | zero=>exact absurd q this
          | succ n=>rw [q] at e2; simp at e2
      subst this
      rw [hx] at e1
      cases e1
      simp [h3] at e2
      subst e2
      exact hy
end
end TL

set_option Elab.async false
set_option linter.all false
set_option maxRecDepth 100000
namespace TL
open PySem PySem.Spec PyProof.Rows L2
section
variable {X:Cx} {pos:Pos}
def intsFrom (i:Int) (n:Nat):List D:=(List.range n).map fun k:Nat=>PyData.int (i + (k:Int))
def iRange2 (t:AT):IT:=fun σ Q=>t σ fun ds=>∃ i j:Int,ds=[.int i,.int j]∧(-(2 ^ 62)≤i∧i < 2 ^ 62∧-(2 ^ 62)≤j∧j < 2 ^ 62)∧Q (intsFrom i (j - i).toNat)
theorem it_range2 {tg a b:Expr} {t:AT} {p p':Pos} (ha:PAt X [a,b] t) (pr:∀ {ta:TA},PA X [a,b] ta→PI X tg (.Call (.Name "range" p) [a,b] [] p') (iRng2 ta)):PIt X tg (.Call (.Name "range" p) [a,b] [] p') (iRange2 t):=by
  obtain ⟨va,pa,ra⟩:=ha
  refine ⟨_,pr pa,fun B p0 H ps σT σ Q R o h k=>ra B p0 H ps σT σ _ _ o h fun ds xs H1 s1 r1 q1=>?_⟩
  obtain ⟨i,j,rfl,hb,q⟩:=q1
  cases r1 with
  | cons r1 r2 =>
    cases r2 with
    | cons r2 r3 =>
      cases r3
      cases r1
      cases r2
      refine ⟨i,j,rfl,hb,k (intsFrom i (j - i).toNat) _ H1 s1 ?_ q⟩
      have hl:(intsFrom i (j - i).toNat).length=(j - i).toNat:=by unfold intsFrom; simp
      refine ⟨fun i H _ e=>by rw [hl] at e; exact e,fun i H _ e=>by rw [hl] at e; exact e,fun m H ps y H' _ _ e hy=>?_⟩
      obtain ⟨rfl,rfl⟩:=hy
      rw [hl] at e
      refine ⟨L2.Same.refl _,.int (i + m),?_,.int _⟩
      unfold intsFrom
      rw [List.getElem?_map,List.getElem?_range e]; rfl
end
section
variable {X:Cx} {es:List Expr} {pos:Pos}
theorem OkC.setOwn {K:PySem.W.Frag} {B:Hp} {p0:List Addr} {H:Hp} {ps:List Addr} {σT:List Sl} {σ:L2.St} {T:Tape} {n:Nat} (o:OkC K B p0 H ps σT σ T n) {i:Nat} {ts:List D} {xs:List V} {p:Addr} (hp:H p=none) (r:Reps K (mask H ps) ts xs) :
    OkC K B p0 (upd H p (.lst xs)) (p::ps) (σT.set i (.own ts)) (σ.set i (some (.ref p))) T n :=
  ⟨o.ok.setOwn hp r,o.mem,o.nb,⟨let ⟨l,e⟩:=o.tp.obj; ⟨l,by rw [upd_ne (o.ne hp)]; exact e⟩,by rw [mask_new hp]; exact o.tp.scr,o.tp.dig⟩,o.bq⟩
end
end TL

set_option Elab.async false
set_option linter.all false
set_option maxRecDepth 100000
namespace HT
open PySem PySem.Spec PyProof.Rows
section
open PySem.SeqAt
open PySem.AutoSeq1 (wpAny_loadPart')
open PySem.MeetsSeq PySem.MeetsSeq2 PySem.MeetsSeq3
end
section
variable {prog:Program} {w:World} {A:Around} {E:Value→Shared→Prop} {s:Shared}
end
end HT

set_option Elab.async false
set_option linter.all false
set_option maxRecDepth 100000
namespace L2
open PySem PySem.Spec PyProof.Rows
section
variable {X:Cx}
end
end L2
namespace PySem
section
variable {prog:Program} {w:World} {A:Around} {R:Result→Shared→Prop} {I:Addr} {fp wr:List Addr} {n:Nat} {P:Nat→Value→Prop} {St:Nat→Heap→Prop}
end
section
variable {prog:Program} {w:World} {A:Around} {E:Value→Shared→Prop} {s:Shared}
end
end PySem

set_option Elab.async false
set_option linter.all false
set_option maxRecDepth 100000
namespace L2
open PySem PySem.Spec PyProof.Rows
section
variable {X:Cx}
end
end L2
namespace TL
open PySem PySem.Spec PyProof.Rows L2
section
variable {X:Cx} {e:Expr} {es:List Expr} {te:ET} {pos:Pos} {K:PySem.W.Frag} {H:Hp}
end
end TL

set_option Elab.async false
set_option linter.all false
set_option maxRecDepth 100000
namespace L2
open PySem PySem.Spec PyProof.Rows PyProof
section
variable {P:Program} {w:World} {A:Around} {E:Value→Shared→Prop} {s:Shared}
end
section
variable {X:Cx}
end
end L2
namespace TL
open PySem PySem.Spec PyProof.Rows L2
section
variable {X:Cx} {a b c e:Expr} {es:List Expr} {ta tb te:ET} {pos:Pos}
end
end TL

set_option Elab.async false
set_option linter.all false
set_option maxRecDepth 100000
namespace L2
open PySem PySem.Spec PyProof.Rows
noncomputable instance decD:DecidableEq PyData:=fun _ _=>Classical.propDecidable _
mutual
def hk:PyData→Bool
  | .none=>true
  | .int _=>true
  | .str x=>(PyData.str x).canLay0
  | .tuple xs=>hkAll xs
  | .bool _=>false
  | .list _=>false
  | .dict _=>false
def hkAll:List PyData→Bool
  | []=>true
  | x::xs=>hk x && hkAll xs
end
mutual
def hashD (w:World):PyData→Int
  | .none=>0xFCA86420
  | .int i=>hashInt i
  | .str x=>hashStr w x
  | .tuple xs=>reduceHash (Builtin.Tuple.tupleHashOf (hashDs w xs))
  | .bool _=>0
  | .list _=>0
  | .dict _=>0
def hashDs (w:World):List PyData→List Int
  | []=>[]
  | x::xs=>hashD w x::hashDs w xs
end
mutual
def hdraws:PyData→Nat
  | .tuple xs=>hdrawsAll xs + 1
  | .none=>1
  | .int _=>1
  | .str _=>1
  | .bool _=>1
  | .list _=>1
  | .dict _=>1
def hdrawsAll:List PyData→Nat
  | []=>0
  | x::xs=>hdraws x + hdrawsAll xs
end
section
variable {prog:Program} {w:World} {A:Around} {E:Value→Shared→Prop} {s:Shared}
theorem pyHash_non {Q:Int→Shared→Prop} (h:Q 0xFCA86420 { s with toks:=s.toks + 1 }):wpAny (model prog w) A (pyHash .none) Q E s:=by
  have hT:s.TypeIs .none "NoneType":=rfl
  unfold pyHash pyHashByItsType
  refine wpAny_bind (wpAny_cRoomFor_byValue rfl ?_)
  refine wpAny_bind (wpAny_specialOf hT PySem.F.slot_NoneType_hash.lookup ?_)
  show wpAny _ _ (if (some (Value.builtin "NoneType.__hash__") == some Value.none)=true then _ else _) Q E s
  rw [if_neg (by rw [beq_builtin_none]; exact Bool.false_ne_true)]
  refine wpAny_bind (wpAny_specialOf hT PySem.F.slot_NoneType_hash.lookup ?_)
  show wpAny _ _ (callSpecialIfBoundUnlessNone? .none "__hash__" _ >>= _) Q E s
  refine wpAny_bind (wpAny_callSpecialIfBoundUnlessNone?_slot hT PySem.F.slot_NoneType_hash (wpAny_call_entry PySem.F.slot_NoneType_hash hT PySem.F.entry_NoneType_hash (show wpAny _ _ (do ret (← mkInt 0xFCA86420)) _ _ s from wpAny_ret_mkInt ?_) (PySem.F.args_NoneType_hash_1 _)))
  show wpAny _ _ (if (decide (-(2:Int) ^ 63≤0xFCA86420) && decide ((0xFCA86420:Int) < 2 ^ 63))=true then _ else _) Q E _
  rw [if_pos (by decide)]
  exact wpAny_pure h
def HashAt (prog:Program) (w:World) (A:Around) (s:Shared) (d:PyData) (v:Value):Prop:=∀ (tk:Nat) (E:Value→Shared→Prop) (Q:Int→Shared→Prop),Q (hashD w d) { s with toks:=tk + hdraws d }→wpAny (model prog w) A (pyHash v) Q E { s with toks:=tk }
theorem hash_tup {xs:List PyData} {a:Addr} {o:Obj} {items:Array Value} {n:Nat} (hu:A.units < cLine) (ho:s.heap.get? a=some o) (hc:o.cls=.type "tuple") (hd:o.data=.seq items n) (hi:Paired (HashAt prog w A.in1 s) xs items.toList):HashAt prog w A s (.tuple xs) (.ref a):=by
  intro tk E Q h
  have hT:Shared.TypeIs { s with toks:=tk } (.ref a) "tuple":=⟨o,ho,hc⟩
  unfold pyHash
  first | unfold pyHashByItsType | skip
  refine wpAny_bind (wpAny_cRoomFor_or (.inr hu) ?_)
  refine wpAny_bind (wpAny_specialOf hT PySem.F.slot_tuple_hash.lookup ?_)
  show wpAny _ _ (if (some (Value.builtin "tuple.__hash__") == some Value.none)=true then _ else _) Q E _
  rw [if_neg (by rw [beq_builtin_none]; exact Bool.false_ne_true)]
  refine wpAny_bind (wpAny_specialOf hT PySem.F.slot_tuple_hash.lookup ?_)
  show wpAny _ _ (callSpecialIfBoundUnlessNone? (.ref a) "__hash__" _ >>= _) Q E _
  refine wpAny_bind (wpAny_callSpecialIfBoundUnlessNone?_slot hT PySem.F.slot_tuple_hash (wpAny_call_entry PySem.F.slot_tuple_hash hT PySem.F.entry_tuple_hash ?_ (PySem.F.args_tuple_hash_1 _)))
  show wpAny _ _ (Builtin.Tuple.tupleItemsOf (.ref a) >>= _) _ _ _
  refine wpAny_bind (wpAny_tupleItemsOf ho hd ?_)
  refine wpAny_bind ?_
  rw [← Array.forIn_toList]
  refine wpAny_forIn_list _ (fun rest (b:Array Int) s'=>∃ done left:List PyData,xs=done++left∧Paired (HashAt prog w A.in1 s) left rest∧b.toList=hashDs w done∧s'={ s with toks:=tk + hdrawsAll done }) _ ?_ ?_ _ _ ⟨[],xs,rfl,hi,rfl,rfl⟩
  · rintro x rest b s' ⟨done,left,rfl,hl,hb,rfl⟩
    cases hl with
    | @cons d _ left' _ h1 hl' =>
      have e1:∀ ys:List PyData,hashDs w (ys++[d])=hashDs w ys++[hashD w d]:=fun ys=>by
        induction ys with
        | nil=>rfl
        | cons y ys ih=>show hashD w y::hashDs w (ys++[d])=_; rw [ih]; rfl
      have e2:∀ ys:List PyData,hdrawsAll (ys++[d])=hdrawsAll ys + hdraws d:=fun ys=>by
        induction ys with
        | nil=>show hdraws d + 0=0 + hdraws d; omega
        | cons y ys ih=>show hdraws y + hdrawsAll (ys++[d])=hdraws y + hdrawsAll ys + hdraws d; rw [ih]; omega
      have fin:∃ done' left'':List PyData,done++d::left'=done'++left''∧Paired (HashAt prog w A.in1 s) left'' rest∧(b.push (hashD w d)).toList=hashDs w done'∧({ s with toks:=tk + hdrawsAll done + hdraws d }:Shared)={ s with toks:=tk + hdrawsAll done' } :=
        ⟨done++[d],left',by simp,hl',by rw [e1,Array.toList_push,hb],by rw [e2,Nat.add_assoc]⟩
      refine wpAny_bind (h1 _ _ _ ?_)
      first
        | exact wpAny_pure fin
        | exact wpAny_bind (wpAny_pure (wpAny_pure fin))
  · rintro b s' ⟨done,left,rfl,hl,hb,rfl⟩
    cases hl
    rw [List.append_nil] at h
    show wpAny _ _ (retInt (Builtin.Tuple.tupleHashOf b.toList)) _ _ _
    rw [hb]
    refine wpAny_ret_mkInt ?_
    have h':Q (reduceHash (Builtin.Tuple.tupleHashOf (hashDs w done))) { s with toks:=tk + (hdrawsAll done + 1) }:=h
    show wpAny _ _ (if (decide (-(2:Int) ^ 63≤Builtin.Tuple.tupleHashOf (hashDs w done)) && decide (Builtin.Tuple.tupleHashOf (hashDs w done) < 2 ^ 63))=true then _ else _) Q E _
    unfold reduceHash at h'
    by_cases hr:(decide (-(2:Int) ^ 63≤Builtin.Tuple.tupleHashOf (hashDs w done)) && decide (Builtin.Tuple.tupleHashOf (hashDs w done) < 2 ^ 63))=true
    · rw [if_pos hr]
      rw [if_pos hr] at h'
      exact wpAny_pure (by simpa [Nat.add_assoc] using h')
    · rw [if_neg hr]
      rw [if_neg hr] at h'
      exact wpAny_bind (wpAny_rule (wpAny_pure (by simpa [Nat.add_assoc] using h')))
mutual
theorem hash_reads (prog:Program) (w:World) (s:Shared):∀ (d:PyData) (A:Around) (v:Value) (as:List Addr),Reads s.heap v d as→hk d=true→A.units + d.depth < cLine→HashAt prog w A s d v
  | .none,A,_,_,r,_,_=>by cases r; exact fun tk E Q h=>pyHash_non h
  | .int i,A,_,_,r,_,_=>by cases r; exact fun tk E Q h=>wpAny_pyHash_int h
  | .str x,A,_,_,r,_,_=>by cases r; exact fun tk E Q h=>wpAny_pyHash_str h
  | .tuple xs,A,_,_,r,h,hu=>by
    cases r with
    | tuple h1 h2 h3 h4 =>
      have hu':A.units + (PyData.depthAll xs + 1) < cLine:=hu
      exact hash_tup (by omega) h1 h2 h3 (hash_readsAll prog w s xs A.in1 _ _ h4 h (by show A.units + 1 + _ < _; omega))
  | .bool _,_,_,_,_,h,_=>by cases h
  | .list _,_,_,_,_,h,_=>by cases h
  | .dict _,_,_,_,_,h,_=>by cases h
theorem hash_readsAll (prog:Program) (w:World) (s:Shared):∀ (xs:List PyData) (A:Around) (vs:List Value) (as:List Addr),ReadsAll s.heap vs xs as→hkAll xs=true→A.units + PyData.depthAll xs < cLine→Paired (HashAt prog w A s) xs vs
  | [],A,_,_,r,_,_=>by cases r; exact .nil
  | x::xs,A,_,_,r,h,hu=>by
    cases r with
    | cons r1 r2 =>
      have h':(hk x && hkAll xs)=true:=h
      rw [Bool.and_eq_true] at h'
      have hu':A.units + max x.depth (PyData.depthAll xs) < cLine:=hu
      exact .cons (hash_reads prog w s x A _ _ r1 h'.1 (by omega)) (hash_readsAll prog w s xs A _ _ r2 h'.2 (by omega))
end
mutual
theorem hk_lay:∀ {d:PyData},hk d=true→d.canLay0=true
  | .none,_=>rfl
  | .int _,_=>rfl
  | .str _,h=>h
  | .tuple _,h=>hk_layAll h
  | .bool _,h=>by cases h
  | .list _,h=>by cases h
  | .dict _,h=>by cases h
theorem hk_layAll:∀ {xs:List PyData},hkAll xs=true→PyData.canLayAll0 xs=true
  | [],_=>rfl
  | x::xs,h=>by
    have h':(hk x && hkAll xs)=true:=h
    rw [Bool.and_eq_true] at h'
    show (x.canLay0 && PyData.canLayAll0 xs)=true
    rw [hk_lay h'.1,hk_layAll h'.2]; rfl
end
mutual
theorem hk_eqv:∀ {d e:PyData},hk d=true→hk e=true→PyData.eqv d e=true→d=e
  | .none,.none,_,_,_=>rfl
  | .none,.int _,_,_,h=>by cases h
  | .none,.str _,_,_,h=>by cases h
  | .none,.tuple _,_,_,h=>by cases h
  | .int _,.none,_,_,h=>by cases h
  | .int i,.int j,_,_,h=>by
    have h':decide (i=j)=true:=by simpa [PyData.eqv] using h
    rw [of_decide_eq_true h']
  | .int _,.str _,_,_,h=>by cases h
  | .int _,.tuple _,_,_,h=>by cases h
  | .str _,.none,_,_,h=>by cases h
  | .str _,.int _,_,_,h=>by cases h
  | .str x,.str y,_,_,h=>by
    have h':decide (x=y)=true:=by simpa [PyData.eqv] using h
    rw [of_decide_eq_true h']
  | .str _,.tuple _,_,_,h=>by cases h
  | .tuple _,.none,_,_,h=>by cases h
  | .tuple _,.int _,_,_,h=>by cases h
  | .tuple _,.str _,_,_,h=>by cases h
  | .tuple xs,.tuple ys,h1,h2,h=>by
    have h':PyData.eqvAll xs ys=true:=by simpa [PyData.eqv] using h
    rw [hk_eqvAll h1 h2 h']
  | .bool _,_,h,_,_=>by cases h
  | .list _,_,h,_,_=>by cases h
  | .dict _,_,h,_,_=>by cases h
  | _,.bool _,_,h,_=>by cases h
  | _,.list _,_,h,_=>by cases h
  | _,.dict _,_,h,_=>by cases h
theorem hk_eqvAll:∀ {xs ys:List PyData},hkAll xs=true→hkAll ys=true→PyData.eqvAll xs ys=true→xs=ys
  | [],[],_,_,_=>rfl
  | [],_::_,_,_,h=>by cases h
  | _::_,[],_,_,h=>by cases h
  | x::xs,y::ys,h1,h2,h=>by
    have a1:(hk x && hkAll xs)=true:=h1
    have a2:(hk y && hkAll ys)=true:=h2
    rw [Bool.and_eq_true] at a1 a2
    have h':(PyData.eqv x y && PyData.eqvAll xs ys)=true:=by simpa [PyData.eqvAll] using h
    rw [Bool.and_eq_true] at h'
    rw [hk_eqv a1.1 a2.1 h'.1,hk_eqvAll a1.2 a2.2 h'.2]
end
theorem hk_eqv_is {d e:PyData} (h1:hk d=true) (h2:hk e=true):PyData.eqv d e=decide (d=e):=by
  by_cases h:d=e
  · subst h
    rw [SeqAt.eqv_refl d (hk_lay h1),decide_eq_true rfl]
  · rw [decide_eq_false h]
    cases q:PyData.eqv d e with
    | false=>rfl
    | true=>exact absurd (hk_eqv h1 h2 q) h
mutual
theorem quiet_reads (prog:Program) (w:World) (s:Shared):∀ (d:PyData) (A:Around) (E:Value→Shared→Prop) (v:Value) (as:List Addr) (n:Nat) (Q:Bool→Shared→Prop),Reads s.heap v d as→hk d=true→d.depth≤n→Q true s→wpAny (model prog w) A (eqIsQuiet n v) Q E s
  | .none,A,E,_,_,n,Q,r,_,_,q=>by cases r; rw [eqIsQuiet_byValue n rfl]; exact wpAny_pure q
  | .int i,A,E,_,_,n,Q,r,_,_,q=>by cases r; rw [eqIsQuiet_byValue n rfl]; exact wpAny_pure q
  | .str x,A,E,_,_,n,Q,r,_,_,q=>by cases r; rw [eqIsQuiet_byValue n rfl]; exact wpAny_pure q
  | .tuple xs,A,E,_,_,0,Q,r,_,hn,q=>by
    have:PyData.depthAll xs + 1≤0:=hn
    omega
  | .tuple xs,A,E,_,_,n + 1,Q,r,h,hn,q=>by
    cases r with
    | @tuple a o vs m _ _ h1 h2 h3 h4 =>
      have hT:s.TypeIs (.ref a) "tuple":=⟨o,h1,h2⟩
      have hn':PyData.depthAll xs + 1≤n + 1:=hn
      unfold eqIsQuiet
      refine wpAny_bind (wpAny_specialOf hT PySem.F.slot_tuple_eq.lookup ?_)
      show wpAny _ _ (isInstance (.ref a) (.type "tuple") >>= _) _ _ s
      refine wpAny_bind (wpAny_isInstance hT isSubtype_tuple_tuple ?_)
      simp only [Bool.not_true,Bool.false_eq_true,if_false]
      refine wpAny_bind (wpAny_seqItems h1 h3 ?_)
      refine wpAny_bind ?_
      show wpAny _ _ (forIn vs _ _) _ _ s
      rw [← Array.forIn_toList]
      refine wpAny_forIn_list _ (fun rest r s'=>r.1=none∧s'=s∧∀ v ∈ rest,∀ (Q:Bool→Shared→Prop),Q true s→wpAny (model prog w) A (eqIsQuiet n v) Q E s) _ ?_ ?_ _ _ ⟨rfl,rfl,fun v hv Q hQ=>quiet_readsAll prog w s xs A E _ _ n Q h4 h (by omega) v hv hQ⟩
      · rintro v rest r s' ⟨hr,rfl,hall⟩
        refine wpAny_bind (hall v List.mem_cons_self _ ?_)
        simp only [Bool.not_true,Bool.false_eq_true,if_false]
        exact wpAny_pure ⟨rfl,rfl,fun u hu'=>hall u (List.mem_cons_of_mem _ hu')⟩
      · rintro ⟨r1,r2⟩ s' ⟨hr,rfl,_⟩
        simp only at hr
        subst hr
        exact wpAny_pure q
  | .bool _,_,_,_,_,_,_,_,h,_,_=>by cases h
  | .list _,_,_,_,_,_,_,_,h,_,_=>by cases h
  | .dict _,_,_,_,_,_,_,_,h,_,_=>by cases h
theorem quiet_readsAll (prog:Program) (w:World) (s:Shared):∀ (xs:List PyData) (A:Around) (E:Value→Shared→Prop) (vs:List Value) (as:List Addr) (n:Nat) (Q:Bool→Shared→Prop),ReadsAll s.heap vs xs as→hkAll xs=true→PyData.depthAll xs≤n→∀ v ∈ vs,Q true s→wpAny (model prog w) A (eqIsQuiet n v) Q E s
  | [],A,E,_,_,n,Q,r,_,_,v,hv,_=>by cases r; cases hv
  | x::xs,A,E,_,_,n,Q,r,h,hn,v,hv,q=>by
    cases r with
    | cons r1 r2 =>
      have h':(hk x && hkAll xs)=true:=h
      rw [Bool.and_eq_true] at h'
      have hn':max x.depth (PyData.depthAll xs)≤n:=hn
      rcases List.mem_cons.mp hv with rfl | hv
      · exact quiet_reads prog w s x A E _ _ n Q r1 h'.1 (by omega) q
      · exact quiet_readsAll prog w s xs A E _ _ n Q r2 h'.2 (by omega) v hv q
end
mutual
theorem reads_stay {h h':Heap} (hk':∀ (b:Addr) (o:Obj) (vs:Array Value) (n:Nat),h.get? b=some o→o.data=.seq vs n→h'.get? b=some o):∀ {d:PyData} {v:Value} {as:List Addr},Reads h v d as→hk d=true→Reads h' v d as
  | .none,_,_,r,_=>by cases r; exact .none
  | .int i,_,_,r,_=>by cases r; exact .int i _
  | .str x,_,_,r,_=>by cases r; exact .str x _
  | .tuple xs,_,_,r,hh=>by
    cases r with
    | tuple h1 h2 h3 h4=>exact .tuple (hk' _ _ _ _ h1 h3) h2 h3 (reads_stayAll hk' h4 hh)
  | .bool _,_,_,_,hh=>by cases hh
  | .list _,_,_,_,hh=>by cases hh
  | .dict _,_,_,_,hh=>by cases hh
theorem reads_stayAll {h h':Heap} (hk':∀ (b:Addr) (o:Obj) (vs:Array Value) (n:Nat),h.get? b=some o→o.data=.seq vs n→h'.get? b=some o):∀ {xs:List PyData} {vs:List Value} {as:List Addr},ReadsAll h vs xs as→hkAll xs=true→ReadsAll h' vs xs as
  | [],_,_,r,_=>by cases r; exact .nil
  | x::xs,_,_,r,hh=>by
    cases r with
    | cons r1 r2 =>
      have hh':(hk x && hkAll xs)=true:=hh
      rw [Bool.and_eq_true] at hh'
      exact .cons (reads_stay hk' r1 hh'.1) (reads_stayAll hk' r2 hh'.2)
end
end
noncomputable def datKind (prog:Program) (w:World):HeapKind prog w PyData where
  is:=fun h k a=>hk k=true∧k.depth≤8∧∃ as,Reads h (.ref a) k as
  hash:=hashD w
  draws:=hdraws
  room:=fun A=>A.units + 8 < cLine
  inj:=fun ⟨h1,_,as,r1⟩ ⟨_,_,bs,r2⟩=>SeqAt.Reads.unique _ _ _ _ _ (hk_lay h1) r1 r2
  keeps:=fun ⟨h1,h2,as,r⟩ ho hd hs=>⟨h1,h2,as,reads_stay (fun b o vs n e ed=>(hs.2 b (fun z=>by
    subst z
    rw [ho] at e
    cases e
    rw [hd] at ed
    cases ed)).trans e) r h1⟩
  pyHash:=fun {A E s k a Q} hu ⟨h1,h2,as,r⟩ h=>hash_reads prog w s k A _ _ r h1 (by omega) s.toks E Q h
  eqBool:=fun {A E s x y a b Q} hu ⟨h1,h2,as,r⟩ ⟨g1,g2,bs,r'⟩ h=>SeqAt.eqAt_reads x y A s _ _ _ _ r r' (hk_lay h1) (hk_lay g1) (by omega) prog w E Q (by rw [hk_eqv_is h1 g1]; exact h)
  quiet:=fun {A E s k a Q} ⟨h1,h2,as,r⟩ h=>quiet_reads prog w s k A E _ _ 8 Q r h1 h2 h
end L2

set_option Elab.async false
set_option linter.all false
set_option maxRecDepth 100000
namespace L2
open PySem PySem.Spec PyProof.Rows TL
def KeyOk (k:D):Prop:=hk k=true∧k.depth≤8
structure DK (K:PySem.W.Frag) (w:World) (H:Hp) (es:List (Int × Addr × V)) (ks:List D):Prop where
  rep:Reps K H ks (es.map fun e=>.ref e.2.1)
  nd:ks.Nodup
  ok:∀ k ∈ ks,KeyOk k
  hs:es.map (·.1)=ks.map (hashD w)
theorem DK.same {K:PySem.W.Frag} {w:World} {H H':Hp} {es:List (Int × Addr × V)} {ks:List D} (x:DK K w H es ks) (e:Same H H'):DK K w H' es ks:=⟨x.rep.same e,x.nd,x.ok,x.hs⟩
section
variable {X:Cx} {pins:List (Addr × Obj)} {σ:St} {H:Hp} {s:Shared} {p a:Addr} {es:List (Int × Addr × V)} {ks:List D} {k:D} {A:Around} {E:Value→Shared→Prop}
theorem key_is (I:Inv X pins σ H s) (r:Rep X.K H k (.ref a)) (ok:KeyOk k):(datKind X.prog X.w).is s.heap k a:=by
  obtain ⟨as,h⟩:=Rep.reads I (noDict (hk_lay ok.1)) r (u:=.ref a) rfl
  exact ⟨ok.1,ok.2,as,h⟩
theorem key_all (I:Inv X pins σ H s):∀ {ks:List D} {as:List Addr},Reps X.K H ks (as.map V.ref)→(∀ k ∈ ks,KeyOk k)→Paired (fun k a=>(datKind X.prog X.w).is s.heap k a) ks as
  | [],[],_,_=>.nil
  | [],_::_,r,_=>by cases r
  | _::_,[],r,_=>by cases r
  | k::ks,a::as,r,h=>by
    cases r with
    | cons r1 r2=>exact .cons (key_is I r1 (h k (List.mem_cons_self ..))) (key_all I r2 fun z hz=>h z (List.mem_cons_of_mem _ hz))
abbrev EX (es:List (Int × Addr × V)) (ks:List D) (xs:List (D × Addr × Value)):Prop:=xs.map (·.1)=ks∧Paired (fun (e:Int × Addr × V) (x:D × Addr × Value)=>x.2.1=e.2.1∧RelV e.2.2 x.2.2) es xs
theorem ex_mk (w:World) (prog:Program):∀ {es:List (Int × Addr × V)} {ks:List D} {ds:List DictEntry},Paired EntR es ds→es.map (·.1)=ks.map (hashD w)→∃ xs,EX es ks xs∧ds=xs.map (entryOfKey (datKind prog w))
  | [],[],_,.nil,_=>⟨[],⟨rfl,.nil⟩,rfl⟩
  | [],_::_,_,_,h=>by simp at h
  | _::_,[],_,_,h=>by simp at h
  | e::es,k::ks,_,.cons (b:=d) r t,h=>by
    rw [List.map_cons,List.map_cons] at h
    injection h with h1 h2
    obtain ⟨xs,⟨x1,x2⟩,x3⟩:=ex_mk w prog t h2
    refine ⟨(k,e.2.1,d.val)::xs,⟨by rw [List.map_cons,x1],.cons ⟨rfl,r.2.2⟩ x2⟩,?_⟩
    rw [List.map_cons,x3]
    congr 1
    obtain ⟨r1,r2,r3⟩:=r
    show d=⟨hashD w k,.ref e.2.1,d.val⟩
    rw [← h1,← r1,← r2]
theorem ex_addr:∀ {es:List (Int × Addr × V)} {xs:List (D × Addr × Value)},Paired (fun (e:Int × Addr × V) (x:D × Addr × Value)=>x.2.1=e.2.1∧RelV e.2.2 x.2.2) es xs→xs.map (fun x=>x.2.1)=es.map fun e=>e.2.1
  | _,_,.nil=>rfl
  | _,_,.cons r t=>by rw [List.map_cons,List.map_cons,r.1,ex_addr t]
def IsD (H:Hp) (p:Addr) (es:List (Int × Addr × V)):Prop:=H p=some (dicO p es) ∨ ∃ ep,H p=some (dicF p es ep)
theorem IsD.at (I:Inv X pins σ H s) (h:IsD H p es):DicAt p es s.heap:=by
  rcases h with h | ⟨ep,h⟩
  · exact (I.hok p _ h).1
  · obtain ⟨⟨h1,h2,o,xs,h3,h4,h5,h6⟩,_⟩:=I.hok p _ h
    exact ⟨h1,h2,o,xs,ep,h3,h4,h5,h6⟩
theorem dic_of (I:Inv X pins σ H s) (h:IsD H p es) (dk:DK X.K X.w H es ks):(p == sysModules)=false∧es.length≤sizeLine∧∃ xs,EX es ks xs∧s.heap.DictOfH (datKind X.prog X.w) p xs:=by
  obtain ⟨h1,h2,o,ds,ep,h3,h4,h5,h6⟩:=IsD.at I h
  obtain ⟨xs,x1,x2⟩:=ex_mk X.w X.prog h6 dk.hs
  refine ⟨h1,h2,xs,x1,o,ds,ep,h3,h4,h5,x2,?_,by rw [x1.1]; exact dk.nd⟩
  have ka:=key_all I (as:=es.map fun e=>e.2.1) (by rw [List.map_map]; exact dk.rep) dk.ok
  have hm:=ex_addr x1.2
  rw [← hm,← x1.1] at ka
  clear hm x2 x1
  intro x hx
  induction xs with
  | nil=>cases hx
  | cons y ys ih =>
    rw [List.map_cons,List.map_cons] at ka
    cases ka with
    | cons r t =>
      rcases List.mem_cons.mp hx with rfl | hx
      · exact r
      · exact ih t hx
theorem ex_get {xs:List (D × Addr × Value)} {i:Nat} {e:Int × Addr × V} (ex:EX es ks xs) (nd:ks.Nodup) (hk':ks[i]?=some k) (he:es[i]?=some e):∃ u,atKey xs k=some u∧RelV e.2.2 u.2:=by
  obtain ⟨h1,h2⟩:=ex
  have hl:es.length=xs.length:=Paired.length h2
  have hi:i < xs.length:=by rw [← hl]; exact (List.getElem?_eq_some_iff.mp he).1
  have hx:xs[i]?=some xs[i]:=List.getElem?_eq_getElem hi
  have e1:xs[i].1=k:=by
    have:(xs.map (·.1))[i]?=some k:=by rw [h1]; exact hk'
    rw [List.getElem?_map,hx] at this
    exact Option.some.inj this
  refine ⟨xs[i].2,atKey_of_get (by rw [h1]; exact nd) (i:=i) (by rw [hx,← e1]),?_⟩
  clear hk' nd h1 e1
  induction h2 generalizing i with
  | nil=>simp at hi
  | cons r t ih =>
    cases i with
    | zero=>simp at he; subst he; exact r.2
    | succ j=>exact ih (i:=j) (by simpa using he) (by simpa using hl) (by simpa using hi) (List.getElem?_eq_getElem _)
def rDGet (K:PySem.W.Frag) (w:World):R2:=fun x y H Q=>∃ (p:Addr) (es:List (Int × Addr × V)) (ks:List D) (k:D) (i:Nat) (e:Int × Addr × V),x=.ref p∧IsD H p es∧DK K w H es ks∧Rep K H k y∧KeyOk k∧ks[i]?=some k∧es[i]?=some e∧Q e.2.2 H
theorem typ_dic (I:Inv X pins σ H s) (h:IsD H p es):s.TypeIs (.ref p) "dict":=by
  obtain ⟨_,_,o,ds,ep,h3,h4,_⟩:=IsD.at I h
  exact ⟨o,h3,h4.1⟩
theorem rep_tup_ref {K:PySem.W.Frag} {xs:List D} {v:V} (r:Rep K H (.tuple xs) v):∃ a,v=.ref a:=by cases r; exact ⟨_,rfl⟩
end
section
variable {X:Cx} {o i value:Expr} {pos pos':Pos} {td ty tv:TE}
theorem pe_dgetH (hu:X.A.units + 9 < cLine) (ho:PE X o td) (hi:PE X i ty) (hs:NoSl i):PE X (.Subscript o i pos) (fun σ H Q=>td σ H fun x H1=>ty σ H1 fun y H2=>(∃ a,y=.ref a)∧rDGet X.K X.w x y H2 Q):=by
  intro pins s σ H Q I h
  refine subD_of PySem.F.slot_dict_getitem.lookup hs (thn (ho pins s σ H _ I h) fun u s1 ⟨x,H1,I1,rx,q1⟩=>thn (hi pins s1 σ H1 _ I1 q1) fun iv s2 ⟨y,H2,I2,ry,⟨b,ey⟩,p,es,ks,k,j,e,ex,hp,dk,rk,ok,e1,e2,q2⟩=>?_)
  subst ex ey
  obtain rfl:u=Value.ref p:=rx
  obtain rfl:iv=Value.ref b:=ry
  obtain ⟨h1,h2,xs,x1,x2⟩:=dic_of I2 hp dk
  obtain ⟨v,v1,v2⟩:=ex_get x1 dk.nd e1 e2
  exact ⟨typ_dic I2 hp,wpAny_getItem_heap (show X.A.units + 1 + 8 < cLine by omega) (key_is I2 rk ok) x2 v1 ⟨_,H2,I2.tok _,v2,q2⟩⟩
noncomputable def repE:List (Int × Addr × V)→List D→D→V→List (Int × Addr × V)
  | e::es,k'::ks,k,v=>(if k'=k then (e.1,e.2.1,v) else e)::repE es ks k v
  | _,_,_,_=>[]
noncomputable def putE (w:World) (es:List (Int × Addr × V)) (ks:List D) (k:D) (a:Addr) (v:V):List (Int × Addr × V):=if k ∈ ks then repE es ks k v else es++[(hashD w k,a,v)]
noncomputable def putKs (ks:List D) (k:D):List D:=if k ∈ ks then ks else ks++[k]
end
section
variable {w:World} {prog:Program} {es:List (Int × Addr × V)} {ks:List D} {xs:List (D × Addr × Value)} {k:D} {a:Addr} {v:V} {u:Value}
theorem ent_of:∀ {es:List (Int × Addr × V)} {ks:List D} {xs:List (D × Addr × Value)},EX es ks xs→es.map (·.1)=ks.map (hashD w)→Paired EntR es (xs.map (entryOfKey (datKind prog w)))
  | [],_,_,⟨_,.nil⟩,_=>.nil
  | e::es,[],x::xs,⟨h,_⟩,_=>by simp at h
  | e::es,k::ks,x::xs,⟨h,.cons r t⟩,g=>by
    rw [List.map_cons] at h
    injection h with h1 h2
    rw [List.map_cons,List.map_cons] at g
    injection g with g1 g2
    refine .cons ⟨?_,?_,r.2⟩ (ent_of ⟨h2,t⟩ g2)
    · show hashD w x.1=e.1
      rw [h1,g1]
    · show Value.ref x.2.1=Value.ref e.2.1
      rw [r.1]
theorem rep_ex:∀ {es:List (Int × Addr × V)} {ks:List D} {xs:List (D × Addr × Value)} (k:D),EX es ks xs→RelV v u→EX (repE es ks k v) ks (xs.map (putAt k u))
  | [],ks,[],k,⟨h,.nil⟩,_=>⟨by rw [← h]; rfl,by cases ks <;> exact .nil⟩
  | e::es,[],x::xs,k,⟨h,_⟩,_=>by simp at h
  | e::es,k'::ks,x::xs,k,⟨h,.cons r t⟩,rv=>by
    rw [List.map_cons] at h
    injection h with h1 h2
    obtain ⟨i1,i2⟩:=rep_ex (es:=es) (ks:=ks) (xs:=xs) k ⟨h2,t⟩ rv
    unfold repE putAt
    rw [List.map_cons]
    refine ⟨?_,.cons ?_ ?_⟩
    · rw [List.map_cons]
      congr 1
      split <;> exact h1
    · by_cases e1:k'=k
      · rw [if_pos e1,if_pos (h1.trans e1)]; exact ⟨r.1,rv⟩
      · rw [if_neg e1,if_neg (fun z=>e1 (h1.symm.trans z))]; exact r
    · exact i2
theorem ex_put (ex:EX es ks xs) (rv:RelV v u):EX (putE w es ks k a v) (putKs ks k) (storedH xs k a u):=by
  have hk':(atKey xs k).isSome=true ↔ k ∈ ks:=by
    rw [← ex.1]
    unfold atKey
    rw [Option.isSome_map,List.find?_isSome,List.mem_map]
    exact ⟨fun ⟨x,h1,h2⟩=>⟨x,h1,of_decide_eq_true h2⟩,fun ⟨x,h1,h2⟩=>⟨x,h1,decide_eq_true h2⟩⟩
  unfold putE putKs storedH
  by_cases hm:k ∈ ks
  · rw [if_pos hm,if_pos hm,if_pos (hk'.mpr hm)]
    exact rep_ex k ex rv
  · rw [if_neg hm,if_neg hm,if_neg (fun z=>hm (hk'.mp z))]
    refine ⟨by rw [List.map_append,ex.1]; rfl,Paired.snoc ex.2 ⟨rfl,rv⟩⟩
theorem repE_fst:∀ {es:List (Int × Addr × V)} {ks:List D} (k:D),es.length=ks.length→(repE es ks k v).map (·.1)=es.map (·.1)∧(repE es ks k v).map (fun e=>e.2.1)=es.map (fun e=>e.2.1)
  | [],[],k,_=>⟨rfl,rfl⟩
  | [],_::_,k,h=>by simp at h
  | _::_,[],k,h=>by simp at h
  | e::es,k'::ks,k,h=>by
    obtain ⟨i1,i2⟩:=repE_fst (es:=es) (ks:=ks) k (by simpa using h)
    unfold repE
    refine ⟨?_,?_⟩
    · rw [List.map_cons,List.map_cons,i1]; congr 1; split <;> rfl
    · rw [List.map_cons,List.map_cons,i2]; congr 1; split <;> rfl
theorem DK.len {K:PySem.W.Frag} {H:Hp} (x:DK K w H es ks):es.length=ks.length:=by
  have:=congrArg List.length x.hs
  simpa using this
theorem DK.put {K:PySem.W.Frag} {H:Hp} (x:DK K w H es ks) (r:Rep K H k (.ref a)) (ok:KeyOk k):DK K w H (putE w es ks k a v) (putKs ks k):=by
  unfold putE putKs
  by_cases hm:k ∈ ks
  · rw [if_pos hm,if_pos hm]
    obtain ⟨h1,h2⟩:=repE_fst (v:=v) k x.len
    refine ⟨?_,x.nd,x.ok,h1.trans x.hs⟩
    have e:(repE es ks k v).map (fun e=>V.ref e.2.1)=es.map fun e=>V.ref e.2.1:=by
      have:=congrArg (List.map V.ref) h2
      rwa [List.map_map,List.map_map] at this
    rw [e]
    exact x.rep
  · rw [if_neg hm,if_neg hm]
    refine ⟨by rw [List.map_append]; exact x.rep.append (.cons r .nil),?_,fun z hz=>?_,by rw [List.map_append,List.map_append,x.hs]; rfl⟩
    · rw [List.nodup_append]
      exact ⟨x.nd,by simp,fun c hc b hb=>by rw [List.mem_singleton.mp hb]; exact fun z=>hm (z ▸ hc)⟩
    · rcases List.mem_append.mp hz with hz | hz
      · exact x.ok z hz
      · rw [List.mem_singleton.mp hz]; exact ok
theorem putE_len (h:es.length=ks.length):(putE w es ks k a v).length≤es.length + 1:=by
  unfold putE
  split
  · have:=congrArg List.length (repE_fst (v:=v) k h).1
    simp at this
    omega
  · simp
end
section
variable {X:Cx} {pins:List (Addr × Obj)} {σ:St} {H:Hp} {s:Shared} {p:Addr} {es:List (Int × Addr × V)} {ks:List D}
theorem dic_stable:∀ h1 h2:Heap,DicAt p es h1→(∀ o,h1.get? p=some o→h2.get? p=some o)→DicAt p es h2:=fun h1 h2 ⟨a,b,o,xs,ep,e,r⟩ k=>⟨a,b,o,xs,ep,k _ e,r⟩
theorem dic_ok {P:Program} {w:World} {H':Hp} {h':Heap} {xs:List (D × Addr × Value)} (hd:(p == sysModules)=false) (hl:es.length≤sizeLine) (ex:EX es ks xs) (hh:es.map (·.1)=ks.map (hashD w)) (dd:h'.DictOfH (datKind P w) p xs):ObjOk P w H' h' p (dicO p es):=by
  obtain ⟨o,ds,ep,h1,h2,h3,h4,_⟩:=dd
  exact ⟨⟨hd,hl,o,ds,ep,h1,h2,h3,by rw [h4]; exact ent_of ex hh⟩,⟨o,h1⟩,dic_stable⟩
end
section
variable {X:Cx} {o i value:Expr} {pos pos':Pos} {td ty tv:TE}
def tDNewH:TE:=fun _ H Q=>∀ p,H p=none→Q (.ref p) (upd H p (dicO p []))
theorem pe_dnewH:PE X (.Dict [] [] pos) tDNewH:=fun pins s σ H Q I h =>
  wpAny_Dict_empty ⟨.ref s.heap.objs.size,_,I.laid (a:=s.heap.objs.size) (o:=dicO s.heap.objs.size []) (t':=s.toks) (fun _ _ q=>Heap.get?_push_of_some _ q) (Nat.le_refl _)
    ⟨⟨beq_eq_false_iff_ne.mpr (Ne.symm (Nat.ne_of_lt I.big)),Nat.zero_le _,_,#[],0,Heap.get?_push_size _ rfl,⟨rfl,rfl,rfl⟩,rfl,.nil⟩,⟨_,Heap.get?_push_size _ rfl⟩,dic_stable⟩,rfl,h _ (I.hok.fresh (Nat.le_refl _))⟩
end
end L2

set_option Elab.async false
set_option linter.all false
set_option maxRecDepth 100000
namespace TL
open PySem PySem.Spec PyProof.Rows L2
noncomputable def dicD (w:World) (kvs:List (D × D)):D:=dicH (kvs.map fun kv=>hashD w kv.1) kvs
noncomputable def dicS (w:World) (kvs:List (D × D)):Sl:=.dic (kvs.map fun kv=>hashD w kv.1) kvs
noncomputable def putD (kvs:List (D × D)) (k v:D):List (D × D):=if k ∈ kvs.map (·.1) then kvs.map (fun kv=>if kv.1=k then (kv.1,v) else kv) else kvs++[(k,v)]
def KeyT (k:D):Prop:=KeyOk k∧∃ xs,k=.tuple xs
section
variable {K:PySem.W.Frag} {H H' B:Hp} {p0 ps:List Addr} {σT σT':List Sl} {σ:L2.St} {p:Addr}
theorem Ok.re (o:Ok K B p0 H ps σT σ) (hl:σT'.length=σT.length) (hv:∀ (j:Nat) (d:D),σT'[j]?=some (.val d)→σT[j]?=some (.val d)) (ho:∀ (j:Nat) (ts:List D),σT'[j]?=some (.own ts)→σT[j]?=some (.own ts)) (hd:DicOk K B p0 H ps σT' σ):Ok K B p0 H ps σT' σ where
  base:=o.base
  sub:=o.sub
  live:=o.live
  len:=hl.trans o.len
  val:=fun j d h=>o.val j d (hv j d h)
  own:=fun j ts h=>o.own j ts (ho j ts h)
  dis:=fun i j ts us q h1 h2 h3 h4=>o.dis i j ts us q (ho i ts h1) (ho j us h2) h3 h4
  dc:=hd
theorem Ok.poke (o:Ok K B p0 H ps σT σ) {φ:Heap→Prop} {u:HO} (hp:p ∈ ps) (hB:B p=none) (he:H p=some (.ext φ)) (hn:∀ (j:Nat) (hs:List Int) (kvs:List (D × D)),σT[j]? ≠ some (.dic hs kvs)):Ok K B p0 (upd H p u) ps σT σ where
  base:=fun b w e=>by
    rw [upd_ne fun z=>by rw [z,hB] at e; cases e]
    exact o.base b w e
  sub:=o.sub
  live:=fun q hq=>by
    by_cases e:q=p
    · subst e; rw [upd_same]; simp
    · rw [upd_ne e]; exact o.live q hq
  len:=o.len
  val:=fun i d h=>by rw [mask_upd hp]; exact o.val i d h
  own:=fun i ts h=>by
    rw [mask_upd hp]
    obtain ⟨q,xs,h1,h2,h3,h4,h5,h6⟩:=o.own i ts h
    exact ⟨q,xs,h1,h2,h3,h4,by rw [upd_ne fun z=>by rw [z,he] at h5; cases h5]; exact h5,h6⟩
  dis:=o.dis
  dc:=fun i hs kvs h=>absurd h (hn i hs kvs)
theorem set_val {i j:Nat} {s:Sl} {d:D} (hs:∀ d,s ≠ .val d) (h:(σT.set i s)[j]?=some (.val d)):i ≠ j∧σT[j]?=some (.val d):=by
  by_cases e:i=j
  · subst e
    have hi:i < σT.length:=by simpa using (List.getElem?_eq_some_iff.mp h).1
    rw [List.getElem?_set_self hi] at h
    exact absurd (Option.some.inj h) (hs d)
  · rw [List.getElem?_set_ne e] at h; exact ⟨e,h⟩
theorem set_own {i j:Nat} {s:Sl} {ts:List D} (hs:∀ ts,s ≠ .own ts) (h:(σT.set i s)[j]?=some (.own ts)):i ≠ j∧σT[j]?=some (.own ts):=by
  by_cases e:i=j
  · subst e
    have hi:i < σT.length:=by simpa using (List.getElem?_eq_some_iff.mp h).1
    rw [List.getElem?_set_self hi] at h
    exact absurd (Option.some.inj h) (hs ts)
  · rw [List.getElem?_set_ne e] at h; exact ⟨e,h⟩
structure DicAtS (K:PySem.W.Frag) (B:Hp) (p0:List Addr) (H:Hp) (ps:List Addr) (p:Addr) (es:List (Int × Addr × V)) (hs:List Int) (kvs:List (D × D)):Prop where
  mem:p ∈ ps
  new:B p=none
  out:p ∉ p0
  obj:H p=some (dicO p es)
  hsh:hs=es.map (·.1)
  nd:(kvs.map (·.1)).Nodup
  ks:Reps K (mask H ps) (kvs.map (·.1)) (es.map fun e=>.ref e.2.1)
  vs:Reps K (mask H ps) (kvs.map (·.2)) (es.map fun e=>e.2.2)
theorem Ok.toDic (o:Ok K B p0 H ps σT σ) {i:Nat} {es:List (Int × Addr × V)} {hs:List Int} {kvs:List (D × D)} (hσ:σ[i]?=some (some (.ref p))) (hn:∀ (j:Nat) (hs:List Int) (kvs:List (D × D)),i ≠ j→σT[j]? ≠ some (.dic hs kvs)) (x:DicAtS K B p0 H ps p es hs kvs):Ok K B p0 H ps (σT.set i (.dic hs kvs)) σ:=by
  refine o.re (by simp) (fun j d h=>(set_val (by intro _ z; cases z) h).2) (fun j ts h=>(set_own (by intro _ z; cases z) h).2) fun j hs' kws h=>?_
  have hi:i < σT.length:=by rw [o.len]; exact (List.getElem?_eq_some_iff.mp hσ).1
  have only:∀ (l:Nat) (hs'':List Int) (kws'':List (D × D)),(σT.set i (.dic hs kvs))[l]?=some (.dic hs'' kws'')→i=l:=fun l hs'' kws'' hl=>by
    by_cases e:i=l
    · exact e
    · rw [List.getElem?_set_ne e] at hl; exact absurd hl (hn l hs'' kws'' e)
  obtain rfl:=only j hs' kws h
  rw [List.getElem?_set_self hi] at h
  injection h with h
  injection h with h1 h2
  subst h1 h2
  exact ⟨⟨p,es,hσ,x.mem,x.new,x.out,x.obj,x.hsh,x.nd,x.ks,x.vs⟩,fun l hs'' kws'' hl=>only l hs'' kws'' hl⟩
theorem Ok.isDic (o:Ok K B p0 H ps σT σ) {i:Nat} {hs:List Int} {kvs:List (D × D)} (h:σT[i]?=some (.dic hs kvs)):(∃ (p:Addr) (es:List (Int × Addr × V)),σ[i]?=some (some (.ref p))∧DicAtS K B p0 H ps p es hs kvs)∧∀ (j:Nat) (hs':List Int) (kws:List (D × D)),i ≠ j→σT[j]? ≠ some (.dic hs' kws):=by
  obtain ⟨⟨p,es,a1,a2,a3,a4,a5,a6,a7,a8,a9⟩,u⟩:=o.dc i hs kvs h
  exact ⟨⟨p,es,a1,a2,a3,a4,a5,a6,a7,a8,a9⟩,fun j hs' kws ne e=>ne (u j hs' kws e)⟩
theorem Ok.forget (o:Ok K B p0 H ps σT σ) {i:Nat} {hs:List Int} {kvs:List (D × D)} (h:σT[i]?=some (.dic hs kvs)):Ok K B p0 H ps (σT.set i .un) σ∧∀ (j:Nat) (hs:List Int) (kvs:List (D × D)),(σT.set i .un)[j]? ≠ some (.dic hs kvs):=by
  have no:∀ (j:Nat) (hs:List Int) (kvs:List (D × D)),(σT.set i .un)[j]? ≠ some (.dic hs kvs):=fun j hs' kws e=>by
    obtain ⟨ne,e'⟩:=dic_set (by intro _ _ z; cases z) e
    exact (o.isDic h).2 j hs' kws ne e'
  exact ⟨o.re (by simp) (fun j d h=>(set_val (by intro _ z; cases z) h).2) (fun j ts h=>(set_own (by intro _ z; cases z) h).2) fun j hs' kws e=>absurd e (no j hs' kws),no⟩
theorem Ok.newDic (o:Ok K B p0 H ps σT σ) {i:Nat} (hi:i < σT.length) (hn:∀ (j:Nat) (hs:List Int) (kvs:List (D × D)),σT[j]? ≠ some (.dic hs kvs)) (hp:H p=none):Ok K B p0 (upd H p (dicO p [])) (p::ps) (σT.set i (.dic [] [])) (σ.set i (some (.ref p))):=by
  have o1:=(o.adopt (u:=dicO p []) hp).setUn (i:=i) (v:=.ref p)
  have hσ:(σ.set i (some (V.ref p)))[i]?=some (some (.ref p)):=List.getElem?_set_self (by rw [← o.len]; exact hi)
  have o2:=o1.toDic (i:=i) (es:=[]) (hs:=[]) (kvs:=[]) hσ (fun j hs kvs ne e=>by
    rw [List.getElem?_set_ne ne] at e; exact hn j hs kvs e) ⟨List.mem_cons_self ..,Same.free' o.base hp,fun z=>fresh_notin o.live hp (o.sub p z),upd_same,rfl,by simp,.nil,.nil⟩
  rwa [List.set_set] at o2
theorem Ok.shareD (o:Ok K B p0 H ps σT σ) {i:Nat} {hs:List Int} {kvs:List (D × D)} (hi:σT[i]?=some (.dic hs kvs)):∃ (p:Addr) (es:List (Int × Addr × V)),σ[i]?=some (some (.ref p))∧DicAtS K B p0 H ps p es hs kvs∧∀ ep,Ok K B p0 (upd H p (dicF p es ep)) (ps.filter fun q=>decide (q ≠ p)) (σT.set i (.val (dicH hs kvs))) σ∧Same (mask H ps) (mask (upd H p (dicF p es ep)) (ps.filter fun q=>decide (q ≠ p))):=by
  obtain ⟨⟨p,es,hσ,x⟩,u⟩:=o.isDic hi
  refine ⟨p,es,hσ,x,fun ep=>?_⟩
  have hil:i < σT.length:=(List.getElem?_eq_some_iff.mp hi).1
  have hpn:p ∉ ps.filter fun q=>decide (q ≠ p):=fun z=>(of_decide_eq_true (List.mem_filter.mp z).2) rfl
  have hsub:Same (mask H ps) (mask (upd H p (dicF p es ep)) (ps.filter fun q=>decide (q ≠ p))):=fun b v hb=>by
    unfold mask at hb ⊢
    by_cases hbp:b ∈ ps
    · rw [if_pos hbp] at hb; cases hb
    · rw [if_neg hbp] at hb
      have hne:b ≠ p:=fun z=>hbp (z ▸ x.mem)
      rw [if_neg fun z=>hbp (List.mem_filter.mp z).1,upd_ne hne]; exact hb
  refine ⟨⟨fun b v hb=>?_,fun q hq=>List.mem_filter.mpr ⟨o.sub q hq,decide_eq_true fun z=>x.out (z ▸ hq)⟩,fun q hq=>?_,by simpa using o.len,fun j d h=>?_,fun j us h=>?_,fun j k us ws q k1 k2 k3 k4=>?_,fun j hs' kws h=>?_⟩,hsub⟩
  · have hne:b ≠ p:=fun z=>by rw [z,x.new] at hb; cases hb
    rw [upd_ne hne]; exact o.base b v hb
  · have hne:q ≠ p:=of_decide_eq_true (List.mem_filter.mp hq).2
    rw [upd_ne hne]; exact o.live q (List.mem_filter.mp hq).1
  · by_cases e:i=j
    · subst e
      rw [List.getElem?_set_self hil] at h
      cases h
      refine ⟨_,hσ,?_⟩
      have:=Rep.dct (K:=K) (ep:=ep) (mask_at hpn (upd_same (H:=H) (o:=dicF p es ep))) x.nd (x.ks.same hsub) (x.vs.same hsub)
      rw [← x.hsh] at this
      exact this
    · rw [List.getElem?_set_ne e] at h
      obtain ⟨v,k1,k2⟩:=o.val j d h
      exact ⟨v,k1,k2.same hsub⟩
  · obtain ⟨_,h⟩:=set_own (by intro _ z; cases z) h
    obtain ⟨q,ys,k1,k2,k3,k4,k5,k6⟩:=o.own j us h
    have hne:q ≠ p:=fun z=>by rw [z,x.obj] at k5; cases k5
    exact ⟨q,ys,k1,List.mem_filter.mpr ⟨k2,decide_eq_true hne⟩,k3,k4,by rw [upd_ne hne]; exact k5,k6.same hsub⟩
  · exact o.dis j k us ws q (set_own (by intro _ z; cases z) k1).2 (set_own (by intro _ z; cases z) k2).2 k3 k4
  · obtain ⟨ne,h⟩:=dic_set (by intro _ _ z; cases z) h
    exact absurd h (u j hs' kws ne)
end
section
variable {X:Cx} {a b e n:Expr} {es:List Expr} {ta tb te tk:ET} {pos:Pos}
def sDNew (i:Nat):STt:=fun DT σ=>i < σ.length∧(∀ (j:Nat) (hs:List Int) (kvs:List (D × D)),σ[j]? ≠ some (.dic hs kvs))∧DT.nx (σ.set i (.dic [] []))
theorem st_dnew {i:Nat} {x:Str} {pos' p2:Pos} (ps':∀ {v:TE},PE X (.Dict [] [] p2) v→PS X (.Assign [.Name x pos'] (.Dict [] [] p2) pos) (tAsg v (gName i))):PSt X (.Assign [.Name x pos'] (.Dict [] [] p2) pos) (sDNew i):=by
  refine ⟨_,ps' pe_dnewH,fun B p0 H ps σT σ DT DV o h f p hp=>?_⟩
  exact f.nx _ (p::ps) _ _ (o.newDic h.1 h.2.1 hp) (by rw [mask_new hp]; exact L2.Same.refl _) h.2.2
theorem dk_of_rep {K:PySem.W.Frag} {w:World} {H:Hp} {es:List (Int × Addr × V)} {kvs:List (D × D)} (hh:kvs.map (fun kv=>hashD w kv.1)=es.map (·.1)) (nd:(kvs.map (·.1)).Nodup) (ok:∀ kv ∈ kvs,KeyOk kv.1) (r:Reps K H (kvs.map (·.1)) (es.map fun e=>.ref e.2.1)):DK K w H es (kvs.map (·.1)) :=
  ⟨r,nd,fun k hk=>by obtain ⟨kv,h1,rfl⟩:=List.mem_map.mp hk; exact ok kv h1,by rw [← hh,List.map_map]; rfl⟩
theorem vals_put {K:PySem.W.Frag} {w:World} {H:Hp} {v:D} {x:V} {a:Addr}:∀ {es:List (Int × Addr × V)} {kvs:List (D × D)} (k:D),Reps K H (kvs.map (·.2)) (es.map fun e=>e.2.2)→Rep K H v x→Reps K H ((putD kvs k v).map (·.2)) ((putE w es (kvs.map (·.1)) k a x).map fun e=>e.2.2):=by
  intro es kvs k r rv
  unfold putD putE
  by_cases hm:k ∈ kvs.map (·.1)
  · rw [if_pos hm,if_pos hm]
    clear hm
    induction kvs generalizing es with
    | nil=>cases es with
      | nil=>exact .nil
      | cons e es=>cases r
    | cons kv kvs ih=>cases es with
      | nil=>cases r
      | cons e es =>
        rw [List.map_cons,List.map_cons] at r
        cases r with
        | cons r1 r2 =>
          rw [List.map_cons,List.map_cons,List.map_cons]
          unfold repE
          rw [List.map_cons]
          refine .cons ?_ (ih r2)
          by_cases e1:kv.1=k
          · rw [if_pos e1,if_pos e1]; exact rv
          · rw [if_neg e1,if_neg e1]; exact r1
  · rw [if_neg hm,if_neg hm,List.map_append,List.map_append]
    exact r.append (.cons rv .nil)
theorem putD_keys (kvs:List (D × D)) (k v:D):(putD kvs k v).map (·.1)=putKs (kvs.map (·.1)) k:=by
  unfold putD putKs
  split
  · rw [List.map_map]
    apply List.map_congr_left
    intro kv _
    show (if kv.1=k then (kv.1,v) else kv).1=kv.1
    split <;> rfl
  · rw [List.map_append]; rfl
theorem Reps.two {K:PySem.W.Frag} {H:Hp} {i:Nat}:∀ {kvs:List (D × D)} {es:List (Int × Addr × V)} {kv:D × D},Reps K H (kvs.map (·.2)) (es.map fun e=>e.2.2)→kvs[i]?=some kv→∃ e,es[i]?=some e∧Rep K H kv.2 e.2.2:=by
  intro kvs es kv r h
  obtain ⟨v,h1,h2⟩:=r.get (i:=i) (d:=kv.2) (by rw [List.getElem?_map,h]; rfl)
  rw [List.getElem?_map] at h1
  obtain ⟨e,e1,rfl⟩:=Option.map_eq_some_iff.mp h1
  exact ⟨e,e1,h2⟩
theorem rep_dic {K:PySem.W.Frag} {H:Hp} {w:World} {kvs:List (D × D)} {v:V} (r:Rep K H (dicD w kvs) v):∃ (p:Addr) (es:List (Int × Addr × V)) (ep:Nat),v=.ref p∧H p=some (dicF p es ep)∧kvs.map (fun kv=>hashD w kv.1)=es.map (·.1)∧(kvs.map (·.1)).Nodup∧Reps K H (kvs.map (·.1)) (es.map fun e=>.ref e.2.1)∧Reps K H (kvs.map (·.2)) (es.map fun e=>e.2.2):=by
  unfold dicD dicH at r
  generalize hg:(PyData.dict ((.str "{}",.list ((kvs.map fun kv=>hashD w kv.1).map PyData.int))::kvs))=d at r
  cases r with
  | @dct p es ep kws h1 h2 h3 h4 =>
    injection hg with hg
    injection hg with hg1 hg2
    subst hg2
    injection hg1 with _ hg1
    injection hg1 with hg1
    have e:=congrArg (List.map fun d:D=>match d with | .int i=>i | _=>0) hg1
    simp only [List.map_map,Function.comp_def] at e
    exact ⟨p,es,ep,rfl,h1,e,h2,h3,h4⟩
  | addr z =>
    injection hg with hg
    injection hg with hg1 hg2
    injection hg1 with hg1 _
    injection hg1 with hg1
    exact absurd hg1 (by decide +kernel)
  | ins _ _ =>
    injection hg with hg
    injection hg with hg1 hg2
    injection hg1 with hg1 _
    injection hg1 with hg1
    exact absurd hg1 (by decide +kernel)
  | _=>cases hg
def fDGet (w:World) (d k:D) (Q:D→Prop):Prop:=∃ kvs,d=dicD w kvs∧KeyT k∧(∀ kv ∈ kvs,KeyOk kv.1)∧∃ v,(k,v) ∈ kvs∧Q v
theorem et_dget (hu:X.A.units + 9 < cLine) (ha:PEt X a ta) (hb:PEt X b tb) (hs:NoSl b:=by intro _ _; rfl):PEt X (.Subscript a b pos) (eOp (fDGet X.w) ta tb):=by
  obtain ⟨va,pa,ra⟩:=ha
  obtain ⟨vb,pb,rb⟩:=hb
  refine ⟨_,pe_dgetH hu pa pb hs,fun B p0 H ps σT σ Q QV o h k=>ra B p0 H ps σT σ _ _ o h fun d x H1 s1 r1 q1=>?_⟩
  refine rb B p0 H1 ps σT σ _ _ (o.grow s1) q1 fun kd z H2 s2 r2 q2=>?_
  obtain ⟨kvs,rfl,⟨kok,ys,rfl⟩,hok,v,hm,q⟩:=q2
  obtain ⟨c,rfl⟩:=rep_tup_ref r2
  obtain ⟨p,es,ep,rfl,h1,h2,h3,h4,h5⟩:=rep_dic (r1.same (mask_same s2))
  obtain ⟨j,hj⟩:=List.getElem?_of_mem hm
  obtain ⟨en,e1,e2⟩:=h5.two hj
  exact ⟨⟨c,rfl⟩,p,es,kvs.map (·.1),_,j,en,rfl,.inr ⟨ep,mask_le _ _ h1⟩,(dk_of_rep (w:=X.w) h2 h3 hok h4).same mask_le,r2.same mask_le,kok,by rw [List.getElem?_map,hj]; rfl,e1,k _ _ H2 (s1.trans s2) e2 q⟩
theorem pss_ghost {sts:List Stmt} {ts:TS} (p:PSs X sts ts):PSs X sts (fun DV σ H=>∃ (a:Addr) (es:List (Int × Addr × V)),H a=some (dicO a es)∧∀ ep,ts DV σ (upd H a (dicF a es ep))):=by
  intro pins s σ H D I ⟨a,es,ha,h⟩
  obtain ⟨⟨h1,h2,o,xs,ep,h3,h4,h5,h6⟩,_⟩:=I.hok a _ ha
  refine p pins s σ _ D ?_ (h ep)
  exact I.write (x:=a) (e:=a) (h':=s.heap) (t':=s.toks) (by rw [ha]; exact True.intro) (.inl rfl) (fun b u _ z=>z) ⟨o,h3⟩ (show ObjOk X.prog X.w _ _ _ (dicF a es ep) from ⟨⟨h1,h2,o,xs,h3,h4,h5,h6⟩,⟨o,h3⟩,fun h1 h2 ⟨a,b,o,xs,e,r⟩ k=>⟨a,b,o,xs,k _ e,r⟩⟩)
def sShareD (i:Nat) (t:STt):STt:=fun DT σ=>∃ hs kvs,σ[i]?=some (.dic hs kvs)∧t DT (σ.set i (.val (dicH hs kvs)))
theorem st_shareD {sts:List Stmt} {t:STt} (i:Nat) (h:PSst X sts t):PSst X sts (sShareD i t):=by
  obtain ⟨v,p,r⟩:=h
  refine ⟨_,pss_ghost p,fun B p0 H ps σT σ DT DV o h f=>?_⟩
  obtain ⟨hs,kvs,e,h⟩:=h
  obtain ⟨a,es,_,ha,hs'⟩:=o.shareD e
  refine ⟨a,es,ha.obj,fun ep=>?_⟩
  obtain ⟨o',s'⟩:=hs' ep
  exact r B p0 _ _ _ σ DT DV o' h (f.later s')
end
end TL

set_option Elab.async false
set_option linter.all false
set_option maxRecDepth 100000
namespace L2
open PySem PySem.Spec PyProof.Rows TL
def itF (d:Addr) (i n ep:Nat) (x0 x1 k v:Value):Array Value:=#[x0,x1,.ref d,.int i 0,.int n 0,.int ep 0,k,v]
abbrev ItAt (h:Heap) (it d:Addr) (i n ep:Nat) (x0 x1 k v:Value):Prop:=h.get? it=some { cls:=.type "dict_itemiterator",dict:=none,data:=.fields (itF d i n ep x0 x1 k v),slots:=#[] }
def Gave (h:Heap) (it:Addr) (x0 x1:Value):Prop:=(x0=.none ∨ ∃ (a:Addr) (o:Obj),x0=rawInt a∧h.get? a=some o∧a ≠ it)∧∃ f,x1=.bool f
def RawD (h:Heap) (d:Addr) (xs:Array DictEntry) (ep:Nat):Prop:=∃ o,h.get? d=some o∧o.data=.dict xs ep
section
variable {prog:Program} {w:World} {A:Around} {E:Value→Shared→Prop} {s:Shared} {it d:Addr} {i ep:Nat} {xs:Array DictEntry} {x0 x1 k v:Value}
theorem alive_load {a:Addr} {o:Obj} {Q:Option Obj→Shared→Prop} (ho:s.heap.get? a=some o) (h:Q (some o) s):wpAny (model prog w) A (loadIfAlive a) Q E s:=by
  have h':Q (s.heap.get? a) s:=by rw [ho]; exact h
  exact fun _ _ _=>h'
theorem items_next {Q:Option Value→Shared→Prop} (hit:ItAt s.heap it d i xs.size ep x0 x1 k v) (hg:Gave s.heap it x0 x1) (hd:RawD s.heap d xs ep) (hlt:i < xs.size)
    (hQ:∀ (h':Heap) (y0 y1 k' v':Value),ItAt h' it d (i + 1) xs.size ep y0 y1 k' v'→Gave h' it y0 y1→(x0=.none→y0=rawInt s.heap.objs.size)→h'.get? s.heap.objs.size=some { cls:=.type "tuple",data:=.seq #[xs[i].key,xs[i].val] }→h'.objs.size=s.heap.objs.size + 1 →
      (∀ b o,b ≠ it→s.heap.get? b=some o→h'.get? b=some o)→Q (some (.ref s.heap.objs.size)) { s with heap:=h' }):wpAny (model prog w) A (pyNext (.ref it)) Q E s:=by
  obtain ⟨H,gs,dr,tk,os⟩:=s
  obtain ⟨od,hod,hdd⟩:=hd
  have hT:Shared.TypeIs ⟨H,gs,dr,tk,os⟩ (.ref it) "dict_itemiterator":=⟨_,hit,rfl⟩
  have own1:Builtin.Dict_items.ownsTuple "dict_itemiterator"=true:=by decide
  unfold pyNext
  refine wpAny_bind (wpAny_attempt (wpAny_callSpecial?_slot (name:=Str.ofString "__next__") hT PySem.F.slot_dict_itemiterator_next (wpAny_call_entry PySem.F.slot_dict_itemiterator_next hT PySem.F.entry_dict_itemiterator_next ?_ (PySem.F.args_dict_itemiterator_next_1 _))))
  refine wpAny_bind (wpAny_pure (wpAny_bind (wpAny_bind ?_)))
  first | refine wpAny_bind (wpAny_typeNameOfWhole_itemiter hT (wpAny_pure ?_)) | refine wpAny_bind (wpAny_typeNameOf_itemiter hT (wpAny_pure ?_))
  refine wpAny_bind (wpAny_fieldsOf hit rfl ?_)
  simp only [own1,if_true]
  show wpAny _ _ (if (Value.ref d == Value.none)=true then _ else _) _ _ _
  rw [if_neg (show ¬ ((Value.ref d == Value.none)=true) from Bool.false_ne_true)]
  refine wpAny_bind (wpAny_pure (wpAny_bind (wpAny_dictEntries hod hdd ?_)))
  rw [if_neg (by simp)]
  refine wpAny_bind (wpAny_pure (wpAny_bind (wpAny_dictEpoch hod hdd ?_)))
  rw [if_neg (by simp)]
  refine wpAny_pure ?_
  simp only [show ¬ ((i:Int) < 0) from by omega,if_false,Int.toNat_natCast,Array.getElem?_eq_getElem hlt]
  refine wpAny_bind ?_
  first | refine wpAny_bind (wpAny_typeNameOfWhole_itemiter hT (wpAny_pure ?_)) | refine wpAny_bind (wpAny_typeNameOf_itemiter hT (wpAny_pure ?_))
  refine wpAny_bind (wpAny_isOneOf_itemiter hT ?_)
  show wpAny _ _ (setField (.ref it) 3 (rawInt ((i:Int) + 1)) >>= _) _ _ ⟨H,gs,dr,tk,os⟩
  refine wpAny_bind (wpAny_setField_rec hit (by simp [itF]) fun H1 e1 s1=>?_)
  replace s1:Heap.SameBut it H H1:=s1
  replace e1:ItAt H1 it d (i + 1) xs.size ep x0 x1 k v:=by
    have e:((i + 1:Nat):Int)=(i:Int) + 1:=by omega
    unfold ItAt itF; rw [e]; simpa [rawInt,itF] using e1
  have hT1:Shared.TypeIs ⟨H1,gs,dr,tk,os⟩ (.ref it) "dict_itemiterator":=⟨_,e1,rfl⟩
  refine wpAny_bind (wpAny_holding (wpAny_bind (wpAny_isOneOf_itemiter hT1 (wpAny_bind (wpAny_isOneOf_itemiter hT1 ?_)))))
  show wpAny _ _ (Builtin.Dict_items.pairFromOwner (.ref it) 6 xs[i].key xs[i].val) _ _ ⟨H1,gs,dr,tk,os⟩
  unfold Builtin.Dict_items.pairFromOwner
  refine wpAny_bind (wpAny_newTuple ?_)
  generalize hH2:H1.push { cls:=.type "tuple",data:=.seq #[xs[i].key,xs[i].val] }=H2
  have e2:ItAt H2 it d (i + 1) xs.size ep x0 x1 k v:=by rw [← hH2]; exact Heap.get?_push_of_some _ e1
  have z1:H1.objs.size=H.objs.size:=s1.1
  have hil:it < H.objs.size:=Heap.lt_size hit
  have t2:H2.get? H.objs.size=some { cls:=.type "tuple",data:=.seq #[xs[i].key,xs[i].val] }:=by rw [← hH2,← z1]; exact Heap.get?_push_size _ rfl
  have z2:H2.objs.size=H.objs.size + 1:=by rw [← hH2,Heap.size_push,z1]
  have k2:∀ b o,b ≠ it→H.get? b=some o→H2.get? b=some o:=fun b o hb e=>by rw [← hH2]; exact Heap.get?_push_of_some _ (s1.extBut b o hb e)
  have hne:H.objs.size ≠ it:=Nat.ne_of_gt hil
  show wpAny _ _ (Builtin.Dict_items.ownedTupleIsFree (.ref it) >>= _) _ _ ⟨H2,gs,dr,tk,os⟩
  rw [z1]
  clear hH2 e1 s1 hT1 z1
  unfold Builtin.Dict_items.ownedTupleIsFree
  obtain ⟨hg0,f,rfl⟩:=hg
  rcases hg0 with rfl | ⟨a,oa,rfl,ha,hai⟩
  · refine wpAny_bind (wpAny_bind (wpAny_field e2 rfl (x:=.none) rfl (wpAny_pure ?_)))
    simp only [if_true]
    refine wpAny_bind (wpAny_field e2 rfl (x:=k) rfl (wpAny_bind (wpAny_field e2 rfl (x:=v) rfl ?_)))
    refine wpAny_bind (wpAny_setField_rec e2 (by simp [itF]) fun H3 e3 s3=>?_)
    replace s3:Heap.SameBut it H2 H3:=s3
    replace e3:ItAt H3 it d (i + 1) xs.size ep .none (.bool f) xs[i].key v:=e3
    refine wpAny_bind (wpAny_setField_rec e3 (by simp [itF]) fun H4 e4 s4=>?_)
    replace s4:Heap.SameBut it H3 H4:=s4
    replace e4:ItAt H4 it d (i + 1) xs.size ep .none (.bool f) xs[i].key xs[i].val:=e4
    refine wpAny_bind (wpAny_setField_rec e4 (by simp [itF]) fun H5 e5 s5=>?_)
    replace s5:Heap.SameBut it H4 H5:=s5
    replace e5:ItAt H5 it d (i + 1) xs.size ep (rawInt H.objs.size) (.bool f) xs[i].key xs[i].val:=e5
    refine wpAny_bind (wpAny_setField_rec e5 (by simp [itF]) fun H6 e6 s6=>?_)
    replace s6:Heap.SameBut it H5 H6:=s6
    replace e6:ItAt H6 it d (i + 1) xs.size ep (rawInt H.objs.size) (.bool false) xs[i].key xs[i].val:=e6
    have up:∀ b o,b ≠ it→H2.get? b=some o→H6.get? b=some o:=fun b o hb e=>s6.extBut b o hb (s5.extBut b o hb (s4.extBut b o hb (s3.extBut b o hb e)))
    exact wpAny_bind (wpAny_letGo (wpAny_pure (wpAny_pure ⟨_,rfl,wpAny_pure (hQ H6 _ _ _ _ e6 ⟨.inr ⟨_,_,rfl,up _ _ hne t2,hne⟩,_,rfl⟩ (fun _=>rfl) (up _ _ hne t2) (by rw [s6.1,s5.1,s4.1,s3.1,z2]) fun b o hb e=>up b o hb (k2 b o hb e))⟩)))
  · have fin:∀ H3:Heap,ItAt H3 it d (i + 1) xs.size ep (rawInt a) (.bool true) k v→Heap.SameBut it H2 H3→Q (some (.ref H.objs.size)) ⟨H3,gs,dr,tk,os⟩:=fun H3 e3 s3 =>
      hQ H3 _ _ _ _ e3 ⟨.inr ⟨a,oa,rfl,s3.extBut _ _ hai (k2 a oa hai ha),hai⟩,_,rfl⟩ (fun z=>by cases z) (s3.extBut _ _ hne t2) (by rw [s3.1,z2]) fun b o hb e=>s3.extBut b o hb (k2 b o hb e)
    refine wpAny_bind (wpAny_bind (wpAny_field e2 rfl (x:=rawInt a) rfl ?_))
    show wpAny _ _ (loadIfAlive ((a:Int).toNat) >>= _) _ _ _
    rw [Int.toNat_natCast]
    refine wpAny_bind (alive_load (k2 a oa hai ha) ?_)
    simp only [Option.isNone_some,Bool.false_eq_true,if_false]
    refine wpAny_bind (wpAny_field e2 rfl (x:=.bool f) rfl ?_)
    cases f with
    | true =>
      rw [if_neg (show ¬ ((Value.bool true != Value.bool true)=true) from Bool.false_ne_true)]
      refine wpAny_pure ?_
      simp only [Bool.false_eq_true,if_false]
      exact wpAny_pure (wpAny_pure ⟨_,rfl,wpAny_pure (fin H2 e2 (Heap.SameBut.refl _ _))⟩)
    | false =>
      rw [if_pos (show (Value.bool false != Value.bool true)=true from rfl)]
      refine wpAny_bind (wpAny_setField_rec e2 (by simp [itF]) fun H3 e3 s3=>?_)
      refine wpAny_pure ?_
      simp only [Bool.false_eq_true,if_false]
      exact wpAny_pure (wpAny_pure ⟨_,rfl,wpAny_pure (fin H3 e3 s3)⟩)
theorem items_end {Q:Option Value→Shared→Prop} (hh:A.handled=none) (hit:ItAt s.heap it d i xs.size ep x0 x1 k v) (hd:RawD s.heap d xs ep) (hge:xs.size≤i)
    (hQ:∀ h',Heap.ExtBut it s.heap h'→Q none { s with heap:=h' }):wpAny (model prog w) A (pyNext (.ref it)) Q E s:=by
  obtain ⟨od,hod,hdd⟩:=hd
  have hT:s.TypeIs (.ref it) "dict_itemiterator":=⟨_,hit,rfl⟩
  have own1:Builtin.Dict_items.ownsTuple "dict_itemiterator"=true:=by decide
  unfold pyNext
  refine wpAny_bind (wpAny_attempt (wpAny_callSpecial?_slot (name:=Str.ofString "__next__") hT PySem.F.slot_dict_itemiterator_next (wpAny_call_entry PySem.F.slot_dict_itemiterator_next hT PySem.F.entry_dict_itemiterator_next ?_ (PySem.F.args_dict_itemiterator_next_1 _))))
  refine wpAny_bind (wpAny_pure (wpAny_bind (wpAny_bind ?_)))
  first | refine wpAny_bind (wpAny_typeNameOfWhole_itemiter hT (wpAny_pure ?_)) | refine wpAny_bind (wpAny_typeNameOf_itemiter hT (wpAny_pure ?_))
  refine wpAny_bind (wpAny_fieldsOf hit rfl ?_)
  simp only [own1,if_true]
  show wpAny _ _ (if (Value.ref d == Value.none)=true then _ else _) _ _ s
  rw [if_neg (show ¬ ((Value.ref d == Value.none)=true) from Bool.false_ne_true)]
  refine wpAny_bind (wpAny_pure (wpAny_bind (wpAny_dictEntries hod hdd ?_)))
  rw [if_neg (by simp)]
  refine wpAny_bind (wpAny_pure (wpAny_bind (wpAny_dictEpoch hod hdd ?_)))
  rw [if_neg (by simp)]
  refine wpAny_pure ?_
  simp only [show ¬ ((i:Int) < 0) from by omega,if_false,Int.toNat_natCast,Array.getElem?_eq_none hge]
  refine wpAny_bind ?_
  first | refine wpAny_bind (wpAny_typeNameOfWhole_itemiter hT (wpAny_pure ?_)) | refine wpAny_bind (wpAny_typeNameOf_itemiter hT (wpAny_pure ?_))
  show wpAny _ _ (setField (.ref it) 2 .none >>= _) _ _ s
  refine wpAny_bind (wpAny_setField hit rfl (by simp [itF]) ?_)
  show wpAny _ _ (newExc (.type "StopIteration") [] >>= _) _ _ _
  refine wpAny_bind ?_
  simp only [newExc,newTuple]
  refine wpAny_bind (wpAny_newObj_type ?_ (by size_fits))
  refine wpAny_bind (m:=firstArgMember _ _) (wpAny_of_eq (a:=Value.none) (by first | rfl | (simp only [firstArgMember]; rfl)) ?_)
  refine wpAny_newObj_type ?_ (by size_fits)
  simp only [raiseNew]
  refine wpAny_bind (wpAny_handled ?_)
  first | rw [show A.in1.handled=none from hh] | rw [hh]
  refine wpAny_bind (wpAny_pure (wpAny_throw ?_))
  refine wpAny_bind (wpAny_isInstance (T:="StopIteration") (b:=true) ⟨_,Heap.get?_push_size _ rfl,rfl⟩ isSubtype_stop ?_)
  exact wpAny_pure (hQ _ (((Heap.SameBut.update ..).extBut.push _).push _))
theorem Gave.stay {h h':Heap} {x0 x1:Value} (g:Gave h it x0 x1) (hk:∀ b o,b ≠ it→h.get? b=some o→∃ o',h'.get? b=some o'):Gave h' it x0 x1:=by
  obtain ⟨g,f⟩:=g
  refine ⟨?_,f⟩
  rcases g with g | ⟨a,o,e,ha,hn⟩
  · exact .inl g
  · obtain ⟨o',h'⟩:=hk a o hn ha
    exact .inr ⟨a,o',e,h',hn⟩
def viewAt (v d:Addr) (h:Heap):Prop:=∃ o,h.get? v=some o∧o.cls=.type "dict_items"∧o.data=.fields #[.ref d]
theorem items_iter {vw:Addr} {Q:Value→Shared→Prop} (hv:viewAt vw d s.heap) (hd:RawD s.heap d xs ep)
    (hQ:Q (.ref s.heap.objs.size) { s with heap:=s.heap.push { cls:=.type "dict_itemiterator",data:=.fields (itF d 0 xs.size ep .none (.bool false) .none .none) } }):wpAny (model prog w) A (pyIter (.ref vw)) Q E s:=by
  obtain ⟨ov,hov,hcv,hdv⟩:=hv
  obtain ⟨o,ho,hdat⟩:=hd
  have hT:s.TypeIs (.ref vw) "dict_items":=⟨ov,hov,hcv⟩
  refine wpAny_pyIter_slot hT PySem.F.slot_dict_items_iter (wpAny_call_entry PySem.F.slot_dict_items_iter hT PySem.F.entry_dict_items_iter ?_ (PySem.F.args_dict_items_iter_1 _))
  unfold Builtin.«dict_items.__iter__»
  refine wpAny_bind (wpAny_pure (wpAny_bind ?_))
  unfold Builtin.Dict_items.dictOf
  refine wpAny_bind (wpAny_field hov hdv (x:=.ref d) rfl (wpAny_pure (wpAny_bind ?_)))
  unfold Builtin.Dict_items.newIterator
  refine wpAny_bind (wpAny_dictEntries ho hdat (wpAny_bind (wpAny_dictEpoch ho hdat ?_)))
  have own1:Builtin.Dict_items.ownsTuple "dict_itemiterator"=true:=by decide
  simp only [own1,if_true]
  refine wpAny_newObj_type (wpAny_pure ⟨_,rfl,"dict_itemiterator",_,⟨_,Heap.get?_push_size _ rfl,rfl⟩,PySem.F.slot_dict_itemiterator_next.lookup,?_⟩)
    (by simp only [sizeOk,Builtin.Dict_items.ownedTupleFields,List.size_toArray,List.length_append,List.length_cons,List.length_nil,sizeLine_eq]; omega)
  simpa [rawInt,itF,Builtin.Dict_items.ownedTupleFields] using hQ
end
section
variable {X:Cx} {pins:List (Addr × Obj)} {σ:St} {H H':Hp} {s:Shared}
def viewO (v p:Addr):HO:=.ext (viewAt v p)
theorem mt_items:MtR X "dict.items" (fun x xs H Q=>xs=[]∧∃ (p:Addr) (es:List (Int × Addr × V)),x=.ref p∧IsD H p es∧∀ v,H v=none→Q (.ref v) (upd H v (viewO v p))):=by
  intro pins s σ H x xs v us Q I rx r h
  obtain ⟨rfl,p,es,rfl,hp,q⟩:=h
  cases rx
  cases r
  have hT:=typ_dic I hp
  obtain ⟨hs,_⟩:=IsD.at I hp
  refine wpAny_call_entry PySem.F.slot_dict_items hT PySem.F.entry_dict_items ?_ (PySem.F.args_dict_items_1 _)
  unfold Builtin.«dict.items»
  refine wpAny_bind ?_
  unfold Builtin.Dict.noArgs
  refine wpAny_bind (wpAny_notOrdered_dict hT ?_)
  show wpAny _ _ (pure p) _ _ s
  refine wpAny_pure ?_
  show wpAny _ _ (Builtin.Dict.showsAll p >>= _) _ _ s
  unfold Builtin.Dict.showsAll
  rw [if_neg (by rw [hs]; exact Bool.false_ne_true)]
  refine wpAny_bind (wpAny_pure (wpAny_bind (wpAny_newObj_type (wpAny_pure ⟨_,rfl,?_⟩))))
  exact ⟨.ref s.heap.objs.size,_,I.laid (t':=s.toks) (o:=viewO s.heap.objs.size p) (fun _ _ e=>Heap.get?_push_of_some _ e) (Nat.le_refl _) ⟨⟨_,Heap.get?_push_size _ rfl,rfl,rfl⟩,⟨_,Heap.get?_push_size _ rfl⟩,fun h1 h2 ⟨o,e,r⟩ k=>⟨o,k _ e,r⟩⟩,rfl,q _ (I.hok.fresh (Nat.le_refl _))⟩
end
end L2

set_option Elab.async false
set_option linter.all false
set_option maxRecDepth 100000
namespace L2
open PySem PySem.Spec PyProof.Rows TL
section
variable {X:Cx} {o:Expr} {to:TE} {apos cpos:Pos}
theorem pe_ditems (ho:PE X o to) (hbase:attributeBase o "items" X.env (eval o X.env)=eval o X.env:=by rfl) (hline:(apos.endLine == cpos.line)=true:=by rfl) :
    PE X (.Call (.Attribute o "items" apos) [] [] cpos) (fun σ H Q=>to σ H fun x H1=>∃ (p:Addr) (es:List (Int × Addr × V)),x=.ref p∧IsD H1 p es∧∀ v,H1 v=none→Q (.ref v) (upd H1 v (viewO v p))):=by
  intro pins s σ H Q I h
  refine wpAny_Call_method0_late hbase hline (thn (ho pins s σ H _ I h) fun v s1 ⟨x,H1,I1,r1,p,es,ex,hp,q1⟩=>?_)
  subst ex
  obtain rfl:v=Value.ref p:=r1
  obtain ⟨_,_,ob,ds,ep,h3,h4,_⟩:=IsD.at I1 hp
  exact ⟨"dict","dict.items",PySem.F.plainAttrs_dict,PySem.F.slot_dict_items,PySem.F.type_dict_items,typ_dic I1 hp,fun a e=>by cases e; exact ⟨ob,h3,h4.2.1⟩,Calls.callWith_builtin rfl (PySem.evalArgs_none (mt_items pins s1 σ H1 (.ref p) [] (.ref p) [] Q I1 rfl .nil ⟨rfl,p,es,rfl,hp,q1⟩))⟩
end
section
variable {X:Cx}
theorem entR_get:∀ {es:List (Int × Addr × V)} {ds:List DictEntry} {j:Nat} {d:DictEntry},Paired EntR es ds→ds[j]?=some d→∃ e,es[j]?=some e∧EntR e d
  | _,_,_,_,.nil,h=>by simp at h
  | _,_,0,_,.cons r t,h=>by simp at h; subst h; exact ⟨_,rfl,r⟩
  | _,_,j + 1,d,.cons r t,h=>by
    obtain ⟨e,h1,h2⟩:=entR_get (j:=j) (d:=d) t (by simpa using h)
    exact ⟨e,by simpa using h1,h2⟩
end
end L2
namespace TL
open PySem PySem.Spec PyProof.Rows L2
section
variable {X:Cx} {n:Expr} {te:ET} {pos:Pos}
end
end TL

set_option Elab.async false
set_option linter.all false
set_option maxRecDepth 100000
namespace L2
open PySem PySem.Spec PyProof.Rows TL
def RawA (h:Heap) (d:Addr) (es:Array DictEntry) (ep:Nat):Prop:=∃ o,h.get? d=some o∧o.ExactDict∧o.data=.dict es ep
section
variable {prog:Program} {w:World} {A:Around} {E:Value→Shared→Prop} {s:Shared}
theorem iter_raw {d:Addr} {es:Array DictEntry} {ep:Nat} {Q:Value→Shared→Prop} (hd:(d == sysModules)=false) (hm:RawA s.heap d es ep)
    (hQ:Q (.ref s.heap.objs.size) { s with heap:=s.heap.push { cls:=.type "dict_keyiterator",data:=.fields #[.ref d,.int 0 0,.int es.size 0,.int ep 0] } }) :
    wpAny (model prog w) A (pyIter (.ref d)) Q E s:=by
  obtain ⟨o,ho,hc,hdat⟩:=id hm
  have hT:s.TypeIs (.ref d) "dict":=⟨o,ho,hc.1⟩
  refine wpAny_pyIter_slot hT PySem.F.slot_dict_iter (wpAny_call_entry PySem.F.slot_dict_iter hT PySem.F.entry_dict_iter ?_ (PySem.F.args_dict_iter_1 _))
  unfold Builtin.«dict.__iter__»
  refine wpAny_bind ?_
  unfold Builtin.Dict.dictSlotNone
  refine wpAny_bind (wpAny_notOrdered_dict hT ?_)
  show wpAny _ _ (pure (Value.ref d)) _ _ s
  refine wpAny_pure ?_
  show wpAny _ _ (Builtin.Dict.showsAll d >>= _) _ _ s
  unfold Builtin.Dict.showsAll
  rw [if_neg (by rw [hd]; exact Bool.false_ne_true)]
  refine wpAny_bind (wpAny_pure ?_)
  refine wpAny_bind (wpAny_dictEntries ho hdat ?_)
  refine wpAny_bind (wpAny_dictEpoch ho hdat ?_)
  have hsz:es.size=es.size:=rfl
  refine wpAny_bind (wpAny_newObj_type (wpAny_pure ⟨_,rfl,"dict_keyiterator",_,⟨_,Heap.get?_push_size _ rfl,rfl⟩,PySem.F.slot_dict_keyiterator_next.lookup,?_⟩))
  simpa [rawInt,hsz] using hQ

theorem next_raw {it d:Addr} {i ep:Nat} {es:Array DictEntry} {Q:Option Value→Shared→Prop} (hit:s.heap.IsKeyIter it d i es.size ep)
    (hm:RawA s.heap d es ep) (hlt':i < es.size)
    (hQ:∀ h',h'.IsKeyIter it d (i + 1) es.size ep→Heap.SameBut it s.heap h'→Q (some es[i].key) { s with heap:=h' }) :
    wpAny (model prog w) A (pyNext (.ref it)) Q E s:=by
  obtain ⟨o,ho,hc,hd⟩:=id hit
  obtain ⟨od,hod,hcd,hdd⟩:=id hm
  unfold pyNext
  refine wpAny_bind (wpAny_attempt (wpAny_callSpecial?_slot (name:=Str.ofString "__next__") hit.typeIs PySem.F.slot_dict_keyiterator_next
    (wpAny_call_entry PySem.F.slot_dict_keyiterator_next hit.typeIs PySem.F.entry_dict_keyiterator_next ?_ (PySem.F.args_dict_keyiterator_next_1 _))))
  refine wpAny_bind (wpAny_pure ?_)
  refine wpAny_bind ?_
  refine wpAny_bind ?_
  first | refine wpAny_bind (wpAny_typeNameOfWhole_keyiter hit.typeIs (wpAny_pure ?_)) | refine wpAny_bind (wpAny_typeNameOf_keyiter hit.typeIs (wpAny_pure ?_))
  refine wpAny_bind (wpAny_fieldsOf ho hd ?_)
  have hown:Builtin.Dict_items.ownsTuple "dict_keyiterator"=false:=by decide
  simp only [hown,Bool.false_eq_true,if_false]
  show wpAny _ _ (if (Value.ref d == Value.none)=true then _ else _) _ _ s
  rw [if_neg (show ¬ ((Value.ref d == Value.none)=true) from Bool.false_ne_true)]
  refine wpAny_bind (wpAny_pure ?_)
  refine wpAny_bind (wpAny_dictEntries hod hdd ?_)
  have hsz:es.size=es.size:=rfl
  rw [if_neg (by simp)]
  refine wpAny_bind (wpAny_pure ?_)
  refine wpAny_bind (wpAny_dictEpoch hod hdd ?_)
  rw [if_neg (by simp)]
  refine wpAny_pure ?_

  simp only [show ¬ ((i:Int) < 0) from by omega,if_false,Int.toNat_natCast,Array.getElem?_eq_getElem hlt']
  refine wpAny_bind ?_
  first | refine wpAny_bind (wpAny_typeNameOfWhole_keyiter hit.typeIs (wpAny_pure ?_)) | refine wpAny_bind (wpAny_typeNameOf_keyiter hit.typeIs (wpAny_pure ?_))
  refine wpAny_bind (wpAny_isOneOf_keyiter hit.typeIs ?_)
  show wpAny _ _ (setField (.ref it) 1 (rawInt ((i:Int) + 1)) >>= _) _ _ s
  refine wpAny_bind (wpAny_setField ho hd (by simp) ?_)
  have hit':(s.heap.update it (Obj.mapFields (·.setIfInBounds 1 (rawInt ((i:Int) + 1))))).IsKeyIter it d (i + 1) es.size ep :=
    ⟨_,Heap.get?_update_self _ ho (Obj.isFreed_of_fields (Obj.data_mapFields hd _)),(Obj.cls_mapFields ..).trans hc,by rw [Obj.data_mapFields hd]; simp [rawInt]⟩
  refine wpAny_bind (wpAny_holding ?_)
  refine wpAny_bind (wpAny_isOneOf_keyiter (s:={ s with heap:=s.heap.update it (Obj.mapFields (·.setIfInBounds 1 (rawInt ((i:Int) + 1)))) }) hit'.typeIs ?_)
  show wpAny _ _ (pure es[i].key) _ _ _
  exact wpAny_pure (wpAny_pure ⟨_,rfl,wpAny_pure (hQ _ hit' (Heap.SameBut.update ..))⟩)

theorem end_raw {it d:Addr} {i ep:Nat} {es:Array DictEntry} {Q:Option Value→Shared→Prop} (hh:A.handled=none) (hit:s.heap.IsKeyIter it d i es.size ep)
    (hm:RawA s.heap d es ep) (hx:es.size≤i)
    (hQ:∀ h',Heap.ExtBut it s.heap h'→Q none { s with heap:=h' }):wpAny (model prog w) A (pyNext (.ref it)) Q E s:=by
  obtain ⟨o,ho,hc,hd⟩:=id hit
  obtain ⟨od,hod,hcd,hdd⟩:=id hm
  unfold pyNext
  refine wpAny_bind (wpAny_attempt (wpAny_callSpecial?_slot (name:=Str.ofString "__next__") hit.typeIs PySem.F.slot_dict_keyiterator_next
    (wpAny_call_entry PySem.F.slot_dict_keyiterator_next hit.typeIs PySem.F.entry_dict_keyiterator_next ?_ (PySem.F.args_dict_keyiterator_next_1 _))))
  refine wpAny_bind (wpAny_pure ?_)
  refine wpAny_bind ?_
  refine wpAny_bind ?_
  first | refine wpAny_bind (wpAny_typeNameOfWhole_keyiter hit.typeIs (wpAny_pure ?_)) | refine wpAny_bind (wpAny_typeNameOf_keyiter hit.typeIs (wpAny_pure ?_))
  refine wpAny_bind (wpAny_fieldsOf ho hd ?_)
  have hown:Builtin.Dict_items.ownsTuple "dict_keyiterator"=false:=by decide
  simp only [hown,Bool.false_eq_true,if_false]
  show wpAny _ _ (if (Value.ref d == Value.none)=true then _ else _) _ _ s
  rw [if_neg (show ¬ ((Value.ref d == Value.none)=true) from Bool.false_ne_true)]
  refine wpAny_bind (wpAny_pure ?_)
  refine wpAny_bind (wpAny_dictEntries hod hdd ?_)
  have hsz:es.size=es.size:=rfl
  rw [if_neg (by simp)]
  refine wpAny_bind (wpAny_pure ?_)
  refine wpAny_bind (wpAny_dictEpoch hod hdd ?_)
  rw [if_neg (by simp)]
  refine wpAny_pure ?_
  have hge:es.size≤i:=hx
  simp only [show ¬ ((i:Int) < 0) from by omega,if_false,Int.toNat_natCast,Array.getElem?_eq_none hge]
  refine wpAny_bind ?_
  first | refine wpAny_bind (wpAny_typeNameOfWhole_keyiter hit.typeIs (wpAny_pure ?_)) | refine wpAny_bind (wpAny_typeNameOf_keyiter hit.typeIs (wpAny_pure ?_))
  show wpAny _ _ (setField (.ref it) 0 .none >>= _) _ _ s
  refine wpAny_bind (wpAny_setField ho hd (by simp) ?_)
  show wpAny _ _ (newExc (.type "StopIteration") [] >>= _) _ _ _
  refine wpAny_bind ?_
  simp only [newExc,newTuple]
  refine wpAny_bind (wpAny_newObj_type ?_ (by size_fits))
  refine wpAny_bind (m:=firstArgMember _ _) (wpAny_of_eq (a:=Value.none) (by first | rfl | (simp only [firstArgMember]; rfl)) ?_)
  refine wpAny_newObj_type ?_ (by size_fits)
  simp only [raiseNew]
  refine wpAny_bind (wpAny_handled ?_)
  rw [show A.in1.handled=none from hh]
  refine wpAny_bind (wpAny_pure (wpAny_throw ?_))
  refine wpAny_bind (wpAny_isInstance (T:="StopIteration") (b:=true) ⟨_,Heap.get?_push_size _ rfl,rfl⟩ isSubtype_stop ?_)
  exact wpAny_pure (hQ _ (((Heap.SameBut.update ..).extBut.push _).push _))
end
end L2

set_option Elab.async false
set_option linter.all false
set_option maxRecDepth 100000
namespace L2
open PySem PySem.Spec PyProof.Rows TL
section
variable {X:Cx} {tg:Expr}
end
end L2
namespace TL
open PySem PySem.Spec PyProof.Rows L2
section
variable {X:Cx} {e:Expr} {te:ET}
end
end TL

set_option Elab.async false
set_option linter.all false
set_option maxRecDepth 100000
namespace L2
open PySem PySem.Spec PyProof.Rows TL
section
variable {prog:Program} {w:World} {A:Around} {E:Value→Shared→Prop} {s:Shared} {d:Addr} {ep:Nat} {xs:Array DictEntry}
theorem walk_raw (hh:A.handled=none) (I:Addr) (hne:d ≠ I) :
    Walks prog w A I [I,d] [I] xs.size (fun i v=>∃ e,xs[i]?=some e∧v=e.key) (fun i h=>h.IsKeyIter I d i xs.size ep∧RawA h d xs ep) where
  sub:=fun b hb=>by simp at hb; simp [hb]
  frame:=fun _ _ _ st hk=>by
    obtain ⟨⟨o,ho,r⟩,⟨p,hp,q⟩⟩:=st
    exact ⟨⟨o,hk I (by simp) o ho,r⟩,⟨p,hk d (by simp) p hp,q⟩⟩
  item:=fun i s Q E hi st hQ=>by
    refine next_raw st.1 st.2 hi fun h' hit' hs'=>?_
    obtain ⟨p,hp,q⟩:=st.2
    exact hQ _ h' s.toks ⟨_,Array.getElem?_eq_getElem hi,rfl⟩ ⟨hit',⟨p,hs'.extBut d p hne hp,q⟩⟩ fun b o hb e=>hs'.extBut b o (fun h=>hb (by simp [h])) e
  done:=fun s Q E st hQ=>end_raw hh st.1 st.2 (Nat.le_refl _) fun h' he'=>hQ h' s.toks fun b o hb e=>he' b o (fun h=>hb (by simp [h])) e
  self:=fun _ _ _ _ st hQ=>wpAny_pyIter_keyiter st.1 hQ
theorem call_list_keys {Q:Value→Shared→Prop} (hh:A.handled=none) (h0:(d == sysModules)=false) (hd:RawA s.heap d xs ep) (hn:xs.size≤sizeLine)
    (hQ:∀ (h':Heap) (tk:Nat) (acc:Array Value) (c:Nat),(∀ b o,s.heap.get? b=some o→h'.get? b=some o)→h'.get? s.heap.objs.size=some { cls:=.type "list",dict:=none,data:=.seq acc c,slots:=#[] }→acc.toList=xs.toList.map (·.key)→Q (.ref s.heap.objs.size) { s with heap:=h',toks:=tk }) :
    wpAny (model prog w) A (call (.type "list") [.ref d]) Q E s:=by
  have hdl:d < s.heap.objs.size:=let ⟨_,ho,_⟩:=hd; Heap.lt_size ho
  refine callType_codes (Q₁:=fun obj s₁=>obj=.ref s.heap.objs.size∧s₁={ s with heap:=s.heap.push { cls:=.type "list",data:=.seq #[] } }) PySem.F.called_list (PySem.F.typeCall_list_1 _) PySem.F.entry_list_init (code_list_new _ ⟨rfl,rfl⟩) fun obj s₁ h₁=>?_
  obtain ⟨rfl,rfl⟩:=h₁
  generalize hG1:s.heap.push { cls:=.type "list",data:=.seq #[] }=G1
  have hS:G1.get? s.heap.objs.size=some { cls:=.type "list",data:=.seq #[] }:=by rw [← hG1]; exact Heap.get?_push_size _ rfl
  have k1:∀ b o,s.heap.get? b=some o→G1.get? b=some o:=fun b o e=>by rw [← hG1]; exact Heap.get?_push_of_some _ e
  have z1:G1.objs.size=s.heap.objs.size + 1:=by rw [← hG1,Heap.size_push]
  generalize hSz:s.heap.objs.size=S at *
  refine ⟨⟨_,hS,rfl⟩,PySem.F.args_list_init_2 _ _,?_⟩
  show wpAny _ _ (do let old ← Builtin.List.listItems (.ref S); Builtin.List.listUpdate (.ref S) (fun _=>#[]); letGo old.toList.reverse; Builtin.List.listExtendWith (.ref S) (.ref d) .none) _ _ _
  refine wpAny_bind ?_
  unfold Builtin.List.listItems
  refine wpAny_bind (wpAny_seqItems hS rfl (wpAny_pure ?_))
  show wpAny _ _ (updateSeq S (fun _=>#[]) >>= fun _=>letGo (#[]:Array Value).toList.reverse >>= fun _=>Builtin.List.listExtendWith (.ref S) (.ref d) .none) _ _ _
  refine wpAny_bind (wpAny_updateSeq hS rfl ?_)
  have hS2:=Heap.get?_update_self (Obj.mapSeq (fun _=>(#[]:Array Value))) hS rfl
  generalize hG2:G1.update S (Obj.mapSeq (fun _=>(#[]:Array Value)))=G2 at hS2
  have k2:∀ b o,b ≠ S→G1.get? b=some o→G2.get? b=some o:=fun b o hb e=>by rw [← hG2]; exact (Heap.get?_update_other _ _ (Ne.symm hb)).trans e
  have z2:G2.objs.size=S + 1:=by rw [← hG2,Heap.size_update,z1]
  have hd2:RawA G2 d xs ep:=let ⟨o,h1,h2⟩:=hd; ⟨o,k2 d o (Nat.ne_of_lt hdl) (k1 d o h1),h2⟩
  refine wpAny_bind (wpAny_letGo ?_)
  unfold Builtin.List.listExtendWith
  have hT2:Shared.TypeIs { s with heap:=G2 } (.ref d) "dict":=let ⟨o,h1,h2,_⟩:=hd2; ⟨o,h1,h2.1⟩
  refine wpAny_bind (wpAny_typeOf hT2 ?_)
  have b1:Builtin.List.listSameRef (.ref S) (.ref d)=false:=by
    show (S == d)=false
    exact beq_eq_false_iff_ne.mpr (Nat.ne_of_gt hdl)
  have b2:(Value.type "dict" == Value.type "list")=false:=by decide
  have b3:(Value.type "dict" == Value.type "tuple")=false:=by decide
  simp only [b1,b2,b3,Bool.or_false,Bool.false_eq_true,if_false]
  refine wpAny_bind (iter_raw (s:={ s with heap:=G2 }) h0 hd2 ?_)
  show wpAny _ _ _ _ _ { s with heap:=G2.push _ }
  generalize hG3:G2.push { cls:=.type "dict_keyiterator",data:=.fields #[.ref d,.int 0 0,.int xs.size 0,.int ep 0] }=G3
  have k3:∀ b o,G2.get? b=some o→G3.get? b=some o:=fun b o e=>by rw [← hG3]; exact Heap.get?_push_of_some _ e
  have hI3:G3.get? (S + 1)=some { cls:=.type "dict_keyiterator",data:=.fields #[.ref d,.int 0 0,.int xs.size 0,.int ep 0] }:=by rw [← hG3,← z2]; exact Heap.get?_push_size _ rfl
  have z3:G3.objs.size=S + 2:=by rw [← hG3,Heap.size_push,z2]
  have hT3:Shared.TypeIs { s with heap:=G3 } (.ref d) "dict":=let ⟨o,h1,h2⟩:=hT2; ⟨o,k3 _ _ h1,h2⟩
  have neSI:S + 1 ≠ S:=Nat.ne_of_gt (Nat.lt_succ_self _)
  have hdI:d ≠ S + 1:=Nat.ne_of_lt (Nat.lt_succ_of_lt hdl)
  have hLf:S ∉ [S + 1,d]:=by
    simp only [List.mem_cons,List.not_mem_nil,or_false,not_or]
    exact ⟨Ne.symm neSI,Nat.ne_of_gt hdl⟩
  have key:∀ (h:Heap) (c tk:Nat),(∀ b o,b ≠ S→G3.get? b=some o→h.get? b=some o)→h.get? S=some { cls:=.type "list",dict:=none,data:=.seq #[] c,slots:=#[] } →
      codeAny (model prog w) A.in1 (.builtin "list.extend.loop" ⟨[.ref S,.ref (S + 1),.none],[]⟩) (wants (fun r s₂=>r=Value.none∧Q (.ref S) s₂) E) { s with heap:=h,toks:=tk }:=fun h c tk kk hSh=>by
    have W:=(walk_raw (prog:=prog) (w:=w) (A:=A.in1.in1) (d:=d) (xs:=xs) (ep:=ep) (by simp [hh]) (S + 1) hdI).toS
    have st:h.IsKeyIter (S + 1) d 0 xs.size ep∧RawA h d xs ep:=⟨⟨_,kk _ _ neSI hI3,rfl,rfl⟩,let ⟨o,h1,h2⟩:=hd2; ⟨o,kk d o (Nat.ne_of_lt hdl) (k3 _ _ h1),h2⟩⟩
    refine codeAny_extend_loopS W hn S hLf .none xs.size 0 _ #[] c rfl (Nat.zero_le _) st hSh (ItemsOf.nil _) fun s' acc c' hm hL' hit=>⟨rfl,?_⟩
    obtain ⟨h',g',d',tk',os'⟩:=s'
    have eg:g'=s.gens:=hm.gens
    have ed:d'=s.drawn:=hm.drawn
    have eo:os'=s.os:=hm.os
    subst eg; subst ed; subst eo
    refine hQ h' tk' acc c' (fun b o e=>?_) hL' ?_
    · have hb:b < S:=by rw [← hSz]; exact Heap.lt_size e
      refine hm.heap b o ?_ (kk b o (Nat.ne_of_lt hb) (k3 b o (k2 b o (Nat.ne_of_lt hb) (k1 b o e))))
      simp only [List.mem_cons,List.not_mem_nil,or_false,not_or]
      exact ⟨Nat.ne_of_lt hb,Nat.ne_of_lt (Nat.lt_succ_of_lt hb)⟩
    · apply List.ext_getElem?
      intro i
      rw [List.getElem?_map,Array.getElem?_toList,Array.getElem?_toList]
      by_cases hi:i < xs.size
      · have hia:i < acc.size:=by have:=hit.1; omega
        obtain ⟨x,hx,hv⟩:=hit.2 i acc[i] (Array.getElem?_eq_getElem hia)
        rw [Array.getElem?_eq_getElem hia,hx,hv]; rfl
      · rw [Array.getElem?_eq_none (by have:=hit.1; omega),Array.getElem?_eq_none (by omega)]; rfl
  refine wpAny_bind (wpAny_holding (PySem.W.kdl_hint_dict hT3 ?_))
  dsimp only
  rw [z2]
  refine wpAny_ite_split (fun _=>?_) (fun _=>wpAny_pure ⟨plainId_quiet PySem.F.plain_extend_loop _,key _ _ _ (fun b o _ e=>e) (k3 _ _ hS2)⟩)
  have hS3:=k3 _ _ hS2
  refine wpAny_bind (wpAny_rule (wpAny_bind ?_))
  show wpAny _ _ (updateSeq S (·.push .none) >>= fun _=>updateSeq S (·.pop)) _ _ _
  refine wpAny_bind (wpAny_updateSeq hS3 rfl ?_)
  have hS4:=Heap.get?_update_self (Obj.mapSeq (·.push Value.none)) hS3 rfl
  refine wpAny_updateSeq (hz:=by seq_fits) hS4 rfl ?_
  have hS5:=Heap.get?_update_self (Obj.mapSeq (·.pop)) hS4 rfl
  exact wpAny_pure ⟨plainId_quiet PySem.F.plain_extend_loop _,key _ _ _ (fun b o hb e=>(Heap.get?_update_other _ _ (Ne.symm hb)).trans ((Heap.get?_update_other _ _ (Ne.symm hb)).trans e)) hS5⟩
end
end L2
namespace L2
open PySem PySem.Spec PyProof.Rows TL
theorem keys_vals:∀ {es:List (Int × Addr × V)} {ds:List DictEntry},Paired EntR es ds→Vals (es.map fun e=>V.ref e.2.1) (ds.map (·.key))
  | _,_,.nil=>.nil
  | _,_,.cons r t=>.cons (show _=_ from r.2.1) (keys_vals t)
section
variable {X:Cx}
theorem call_list_keysR (hc:X.calm=true):CallR X (.type "list") (fun xs H Q=>∃ (p:Addr) (es:List (Int × Addr × V)),xs=[.ref p]∧IsD H p es∧∀ l,H l=none→Q (.ref l) (upd H l (.lst (es.map fun e=>.ref e.2.1)))):=by
  intro pins s σ H xs us Q I r h
  obtain ⟨p,es,rfl,hp,q⟩:=h
  obtain ⟨u,rfl,rx⟩:=vals1 r
  cases rx
  obtain ⟨h1,h2,o,ds,ep,h3,h4,h5,h6⟩:=IsD.at I hp
  have hsz:es.length=ds.size:=by rw [← Array.length_toList]; exact Paired.length h6
  refine call_list_keys (I.ok.hd hc) h1 ⟨o,h3,h4,h5⟩ (by omega) fun h' tk acc c kk hS hacc=>?_
  refine ⟨.ref _,_,I.laid (t':=tk) (o:=.lst (es.map fun e=>.ref e.2.1)) kk (Nat.le_refl _) ?_,rfl,q _ (I.hok.fresh (Nat.le_refl _))⟩
  exact ⟨by rw [List.length_map]; exact h2,acc.toList,c,by rw [hacc]; exact keys_vals h6,by simpa using hS⟩
end
end L2
namespace TL
open PySem PySem.Spec PyProof.Rows L2
section
variable {X:Cx} {e:Expr} {te:ET} {pos:Pos}
def eKeysL (w:World) (te:ET):ET:=fun σ Q=>te σ fun d=>∃ kvs,d=dicD w kvs∧Q (.list (kvs.map (·.1)))
theorem et_ldict {g:Expr} (he:PEt X e te) (hs:starEach [e] X.env=(false,eval e X.env)::starEach [] X.env:=by rfl)
    (pc:∀ {v:TE},PA X [e] (tCons v tNil)→PE X (.Call g [e] [] pos) (tCB (fun xs H Q=>∃ (p:Addr) (es:List (Int × Addr × V)),xs=[.ref p]∧IsD H p es∧∀ l,H l=none→Q (.ref l) (upd H l (.lst (es.map fun e=>.ref e.2.1)))) (tCons v tNil))) :
    PEt X (.Call g [e] [] pos) (eKeysL X.w te):=by
  obtain ⟨v,pe,re⟩:=he
  refine ⟨_,pc (pa_cons pe pa_nil hs),fun B p0 H ps σT σ Q QV o h k=>re B p0 H ps σT σ _ _ o h fun d x H1 s1 r1 q1=>?_⟩
  obtain ⟨kvs,rfl,q⟩:=q1
  obtain ⟨p,es,ep,rfl,h1,h2,h3,h4,h5⟩:=rep_dic r1
  exact ⟨p,es,rfl,.inr ⟨ep,mask_le _ _ h1⟩,fun l hl=>k _ _ _ (s1.trans (same_new hl)) (rep_lst (o.grow s1).live hl h4) q⟩
end
end TL

set_option Elab.async false
set_option linter.all false
set_option maxRecDepth 100000
namespace L2
open PySem PySem.Spec PyProof.Rows TL
def Itdn (lo:Int) (n:Nat):It:=⟨fun i _=>i < n,fun i H x H'=>H'=H∧x=.int (lo - i),fun i _=>n≤i⟩
theorem turn_down {P:Program} {w:World} {K:PySem.W.Frag} {tg:Expr} (it:Addr) (lo:Int) (n:Nat):Turn P w K tg (Itdn lo n) [it] it (fun i h=>IsRangeIter h it (lo + (i:Nat) * (-1)) ((n:Int) - (i:Nat)) (-1)) where
  mem:=by simp
  obj:=fun i h st b hb=>by
    have e:b=it:=by simpa using hb
    subst e
    exact ⟨_,st,fun v z=>by
      have z':Data.fields _=Data.cell v:=z
      cases z'⟩
  keep:=fun i h h' st k=>k it (by simp) _ st
  item:=by
    intro X hP hw hK hc i pins s σ H E I hf st hg
    subst hP hw hK
    obtain ⟨f0,f1,f2,f3,f4,f5⟩:=hf it (by simp)
    have W:=Walks.range (prog:=X.prog) (w:=X.w) (I.ok.hd hc) it lo (-1) n
    refine W.item i s _ _ hg st fun v h' tk hv st' kk=>?_
    obtain ⟨t,rfl⟩:=hv
    have I1:Inv X pins σ H { s with heap:=h',toks:=tk }:=I.turned (fun b o hb e=>kk b o (by simpa using hb) e) f0 f1 f3 f4 f5
    refine ⟨_,rfl,go_of (s:={ s with heap:=h',toks:=tk }) (n:="range_iterator") st' rfl rfl (by decide) ⟨.int (lo - i),H,I1,⟨t,?_⟩,⟨rfl,rfl⟩,st',fun b hb=>(hf b hb).1⟩⟩
    have e:lo + (i:Int) * (-1)=lo - i:=by omega
    rw [e]
  done:=by
    intro X hP hw hK hc i pins s σ H E I hf st hg
    subst hP hw hK
    obtain ⟨f0,f1,f2,f3,f4,f5⟩:=hf it (by simp)
    exact wpAny_pyNext_range_end (I.ok.hd hc) st (by have:n≤i:=hg; omega) fun h' eb=>⟨rfl,I.turned (t':=s.toks) (fun b o hb e=>eb b o hb e) f0 f1 f3 f4 f5⟩
  self:=fun _ _ _ _ _ st h=>wpAny_pyIter_rangeiter st h
section
variable {X:Cx} {tg:Expr}
end
end L2
namespace TL
open PySem PySem.Spec PyProof.Rows L2
section
variable {X:Cx} {e:Expr} {te:ET}
end
end TL

set_option Elab.async false
set_option linter.all false
set_option maxRecDepth 100000
namespace L2
open PySem PySem.Spec PyProof.Rows TL
section
variable {X:Cx}
end
end L2
namespace TL
open PySem PySem.Spec PyProof.Rows L2
section
variable {X:Cx} {n e e1 e2:Expr} {te t1 t2:ET} {pos:Pos}
end
end TL
namespace TL
open PySem PySem.Spec PyProof.Rows L2
theorem et_dgetW {X:Cx} {a b:Expr} {pos:Pos} {ta tb:ET} {w:World} (hw:X.w=w) (hu:X.A.units + 9 < cLine) (ha:PEt X a ta) (hb:PEt X b tb) (hs:NoSl b:=by intro _ _; rfl):PEt X (.Subscript a b pos) (eOp (fDGet w) ta tb):=by
  subst hw; exact et_dget hu ha hb hs
end TL

set_option Elab.async false
set_option linter.all false
set_option maxRecDepth 100000
namespace L2
open PySem PySem.Spec PyProof.Rows TL
section
variable {X:Cx} {tg:Expr}
theorem down_size0 {lo:Int} (h1:0≤lo) (h2:lo≤100000):Builtin.Range.rangeSize lo 0 (-1)=lo∧Builtin.Range.small lo 0 (-1)=true:=by
  have e:Builtin.Range.rangeSize lo 0 (-1)=lo:=by
    unfold Builtin.Range.rangeSize
    simp only [show ¬ ((-1:Int) > 0) by decide,if_false,Int.neg_neg,Int.ediv_one]
    split <;> omega
  refine ⟨e,?_⟩
  unfold Builtin.Range.small
  rw [e]
  simp only [Builtin.Range.rangeFitsLong,Bool.and_eq_true,Bool.or_eq_true,decide_eq_true_eq,beq_iff_eq,show ¬ ((-1:Int) > 0) by decide,if_false]
  omega
def iDown0 (ta:TA):TI:=fun σ H R=>ta σ H fun vs H1=>∃ i:Int,vs=[.int i,.int 0,.int (-1)]∧0≤i∧i≤100000∧R (Itdn i i.toNat) H1
theorem pi_down0 {a b c:Expr} {ta:TA} {p pos:Pos} (hg:Gl X "range") (hm:X.mg "range"=none) (ha:PA X [a,b,c] ta) (hs:starEach [a,b,c] X.env=[(false,eval a X.env),(false,eval b X.env),(false,eval c X.env)]:=by rfl) (hs2:starEach [b,c] X.env=[(false,eval b X.env),(false,eval c X.env)]:=by rfl) :
    PI X tg (.Call (.Name "range" p) [a,b,c] [] pos) (iDown0 ta):=by
  intro pins s σ H R I h
  refine Call_ (ld_blt I hg hm boot_range (PyProof.Rows.callWith_type1 (thn (ha pos pins s σ H _ I h) fun us s1 ⟨vs,H1,I1,r1,q1⟩=>?_) (by rw [hs,hs2]) (by rw [hs2]; rfl)))
  obtain ⟨i,e,g1,g2,q⟩:=q1
  subst e
  cases r1 with
  | cons r rr =>
    cases rr with
    | cons r' rr =>
      cases rr with
      | cons r'' rr =>
        cases rr
        obtain ⟨t,rfl⟩:=r
        obtain ⟨t',rfl⟩:=r'
        obtain ⟨t'',rfl⟩:=r''
        obtain ⟨z1,z2⟩:=down_size0 g1 g2
        refine call_range_3 (by decide) ?_ (.inl (PyProof.noPylong_small (by omega)))
        refine wpAny_pyIter_range (IsRange.new ..) z2 ?_
        have I2:Inv X pins σ H1 { s1 with heap:=s1.heap.push { cls:=.type "range",data:=.fields #[.int i t,.int 0 t',.int (-1) t''] },toks:=s1.toks }:=I1.kept fun b o e=>Heap.get?_push_of_some _ e
        refine ⟨(s1.heap.push { cls:=.type "range",data:=.fields #[.int i t,.int 0 t',.int (-1) t''] }).objs.size,[(s1.heap.push { cls:=.type "range",data:=.fields #[.int i t,.int 0 t',.int (-1) t''] }).objs.size],_,_,H1,rfl,
          I2.kept (t':=s1.toks) fun b o e=>Heap.get?_push_of_some _ e,turn_down _ i i.toNat,?_,fun b hb=>?_,q⟩
        · have e1:i + ((0:Nat):Int) * (-1)=i:=by simp
          have e2:((i.toNat:Nat):Int) - ((0:Nat):Int)=Builtin.Range.rangeSize i 0 (-1):=by rw [z1]; omega
          show IsRangeIter _ _ (i + ((0:Nat):Int) * (-1)) (((i.toNat:Nat):Int) - ((0:Nat):Int)) (-1)
          rw [e1,e2]
          exact Heap.get?_push_size _ rfl
        · have e:b=(s1.heap.push { cls:=.type "range",data:=.fields #[.int i t,.int 0 t',.int (-1) t''] }).objs.size:=by simpa using hb
          subst e
          exact I2.fpOk (Nat.le_refl _) (I2.hok.fresh (Nat.le_refl _))
end
end L2
namespace TL
open PySem PySem.Spec PyProof.Rows L2
section
variable {X:Cx} {e:Expr} {te:ET}
def downD0 (i:Int):List D:=(List.range i.toNat).map fun (k:Nat)=>PyData.int (i - (k:Int))
def iDown0T (t:AT):IT:=fun σ Q=>t σ fun ds=>∃ i:Int,ds=[.int i,.int 0,.int (-1)]∧0≤i∧i≤100000∧Q (downD0 i)
theorem it_down0 {tg a b c:Expr} {t:AT} {p p':Pos} (ha:PAt X [a,b,c] t) (pr:∀ {ta:TA},PA X [a,b,c] ta→PI X tg (.Call (.Name "range" p) [a,b,c] [] p') (iDown0 ta)):PIt X tg (.Call (.Name "range" p) [a,b,c] [] p') (iDown0T t):=by
  obtain ⟨va,pa,ra⟩:=ha
  refine ⟨_,pr pa,fun B p0 H ps σT σ Q R o h k=>ra B p0 H ps σT σ _ _ o h fun ds xs H1 s1 r1 q1=>?_⟩
  obtain ⟨i,rfl,g1,g2,q⟩:=q1
  cases r1 with
  | cons r1 r2 =>
    cases r2 with
    | cons r2 r3 =>
      cases r3 with
      | cons r3 r4 =>
        cases r4
        cases r1
        cases r2
        cases r3
        refine ⟨i,rfl,g1,g2,k (downD0 i) _ H1 s1 ?_ q⟩
        have hl:(downD0 i).length=i.toNat:=by unfold downD0; simp
        refine ⟨fun j H _ e=>by rw [hl] at e; exact e,fun j H _ e=>by rw [hl] at e; exact e,fun j H ps y H' _ _ e hy=>?_⟩
        obtain ⟨rfl,rfl⟩:=hy
        refine ⟨L2.Same.refl _,.int (i - j),?_,.int _⟩
        rw [hl] at e
        unfold downD0
        rw [List.getElem?_map,List.getElem?_range e]; rfl
end
end TL

set_option Elab.async false
set_option linter.all false
set_option maxRecDepth 100000
namespace TL
open PySem PySem.Spec PyProof.Rows L2
def methOf (s:Stmt) (j:Nat):Stmt:=match s with
  | .ClassDef _ _ _ b _ _ _ _ _ _ _=>b.getD j (.Pass ⟨0,0,0,0⟩)
  | _=>.Pass ⟨0,0,0,0⟩
def insD (C:Addr) (ns:List Str) (ds:List D):D:=.dict [(.str "obj",.tuple [.int (C:Nat),.list (ns.map PyData.str),.list ds])]
theorem strs_inj:∀ {xs ys:List Str},xs.map PyData.str=ys.map PyData.str→xs=ys
  | [],[],_=>rfl
  | [],_::_,h=>by cases h
  | _::_,[],h=>by cases h
  | x::xs,y::ys,h=>by
    rw [List.map_cons,List.map_cons] at h
    injection h with h1 h2
    injection h1 with h1
    rw [h1,strs_inj h2]
theorem rep_ins {K:PySem.W.Frag} {H:Hp} {C:Addr} {ns:List Str} {ds:List D} {v:V} (r:Rep K H (insD C ns ds) v):∃ (p dx:Addr) (fs:List (Str × V)),v=.ref p∧H p=some (.ins C dx fs)∧fs.map (·.1)=ns∧Reps K H ds (fs.map (·.2)):=by
  unfold insD at r
  generalize hg:(PyData.dict [(.str "obj",.tuple [.int (C:Nat),.list (ns.map PyData.str),.list ds])])=d at r
  cases r with
  | @ins p C' dx fs ds' h1 h2 =>
    injection hg with hg
    injection hg with hg _
    injection hg with _ hg
    injection hg with hg
    injection hg with g1 hg
    injection hg with g2 hg
    injection hg with g3 _
    injection g1 with g1
    injection g2 with g2
    injection g3 with g3
    obtain rfl:C=C':=Int.ofNat.inj g1
    subst g3
    exact ⟨p,dx,fs,rfl,h1,(strs_inj g2).symm,h2⟩
  | @dct p es ep kvs h1 h2 h3 h4 =>
    injection hg with hg
    injection hg with hg _
    injection hg with hg _
    injection hg with hg
    exact absurd hg (by decide +kernel)
  | addr z =>
    injection hg with hg
    injection hg with hg _
    injection hg with hg _
    injection hg with hg
    exact absurd hg (by decide +kernel)
  | _=>cases hg
theorem lookup_rep {K:PySem.W.Frag} {H:Hp} {f:Str} {x:D}:∀ {fs:List (Str × V)} {ds:List D},Reps K H ds (fs.map (·.2))→((fs.map (·.1)).zip ds).lookup f=some x→∃ v,fs.lookup f=some v∧Rep K H x v
  | [],_,_,h=>by cases h
  | (g,u)::fs,ds,r,h=>by
    cases r with
    | @cons t ts _ _ r1 r2 =>
      show ∃ v,(match f == g with | true=>some u | false=>fs.lookup f)=some v∧_
      have h':(match f == g with | true=>some t | false=>((fs.map (·.1)).zip ts).lookup f)=some x:=h
      cases hb:f == g with
      | true =>
        rw [hb] at h'
        cases h'
        exact ⟨u,rfl,r1⟩
      | false =>
        rw [hb] at h'
        exact lookup_rep r2 h'
theorem lookup_none {f:Str}:∀ {fs:List (Str × V)},f ∉ fs.map (·.1)→fs.lookup f=none
  | [],_=>rfl
  | (g,u)::fs,h=>by
    have hg:(f == g)=false:=beq_eq_false_iff_ne.mpr fun z=>h (by rw [z]; exact List.mem_cons_self ..)
    show (match f == g with | true=>some u | false=>fs.lookup f)=none
    rw [hg]
    exact lookup_none fun z=>h (List.mem_cons_of_mem _ z)
section
variable {X:Cx} {o e:Expr} {es:List Expr} {te:ET} {pos apos:Pos}
def eFld (K:PySem.W.Frag) (f:Str) (te:ET):ET:=fun σ Q=>te σ fun d=>∃ (C:Addr) (ns:List Str) (ds:List D) (x:D),d=insD C ns ds∧Cls K C∧NoAttr K C f∧(ns.zip ds).lookup f=some x∧Q x
theorem et_fld {K:PySem.W.Frag} {f:Str} (hK:X.K=K) (he:PEt X e te) (hb:attributeBase e f X.env (eval e X.env)=eval e X.env:=by rfl):PEt X (.Attribute e f pos) (eFld K f te):=by
  subst hK
  obtain ⟨v,p,r⟩:=he
  refine ⟨_,pe_fld p hb,fun B p0 H ps σT σ Q QV o h k=>r B p0 H ps σT σ _ _ o h fun d x H1 s1 r1 q1=>?_⟩
  obtain ⟨C,ns,ds,y,rfl,hc,hn,hl,q⟩:=q1
  obtain ⟨a,dx,fs,rfl,h1,rfl,h2⟩:=rep_ins r1
  obtain ⟨w,hw,rw'⟩:=lookup_rep h2 hl
  exact ⟨a,C,dx,fs,w,rfl,mask_le _ _ h1,hc,hn,hw,k _ _ H1 s1 rw' q⟩
def eMethO (C:Addr) (m:Str) (sp:SpT) (te:ET) (t:AT):ET:=fun σ Q=>te σ fun d=>∃ (ns:List Str) (ds:List D),d=insD C ns ds∧m ∉ ns∧t σ fun as=>sp (d::as) Q
theorem et_methO {C:Addr} {m:Str} {sp:SpT} {t:AT} (he:PEt X o te) (ha:PAt X (e::es) t)
    (pc:∀ {v:TE} {ta:TA},PE X o v→PA X (e::es) ta→PE X (.Call (.Attribute o m apos) (e::es) [] pos) (tMeth C m (liftSp X.K sp) [] E0 v ta)):PEt X (.Call (.Attribute o m apos) (e::es) [] pos) (eMethO C m sp te t):=by
  obtain ⟨v,pe,re⟩:=he
  obtain ⟨va,pa,ra⟩:=ha
  refine ⟨_,pc pe pa,fun B p0 H ps σT σ Q QV o h k=>re B p0 H ps σT σ _ _ o h fun d x H1 s1 r1 q1=>?_⟩
  obtain ⟨ns,ds,rfl,hm,q1⟩:=q1
  obtain ⟨a,dx,fs,rfl,h1,rfl,h2⟩:=rep_ins r1
  refine ⟨a,dx,fs,rfl,mask_le _ _ h1,lookup_none hm,ra B p0 H1 ps σT σ _ _ (o.grow s1) q1 fun as xs H2 s2 r2 q2=>?_⟩
  show liftSp X.K sp (.ref a::(xs++[])) H2 QV E0
  rw [List.append_nil]
  exact ⟨ps,insD C (fs.map (·.1)) ds::as,Q,((o.grow s1).grow s2).live,.cons (r1.same (mask_same s2)) r2,q2,fun d v H' s' r' q'=>k d v H' (s1.trans (s2.trans s')) r' q'⟩
end
end TL

set_option Elab.async false
set_option linter.all false
set_option maxRecDepth 100000
namespace TL
open PySem PySem.Spec PyProof.Rows L2
section
variable {K:PySem.W.Frag} {B B' H:Hp} {p0 ps:List Addr} {σT:List Sl} {σ:L2.St}
theorem Ok.less (o:Ok K B p0 H ps σT σ) (hs:Same B' B):Ok K B' p0 H ps σT σ where
  base:=hs.trans o.base
  sub:=o.sub
  live:=o.live
  len:=o.len
  val:=o.val
  own:=fun i ts h=>let ⟨p,xs,h1,h2,h3,h4⟩:=o.own i ts h; ⟨p,xs,h1,h2,Same.free' hs h3,h4⟩
  dis:=o.dis
  dc:=o.dc.to (fun _ _ _ h=>⟨h,rfl⟩) (fun _ _ a _ _=>⟨a,rfl⟩) (fun _ _ _ _ a b=>⟨Same.free' hs a,b⟩) (L2.Same.refl _)
theorem Ok.pokeI (o:Ok K B p0 H ps σT σ) {p C dx:Addr} {fs:List (Str × V)} {u:HO} (hp:p ∈ ps) (hB:B p=none) (he:H p=some (.ins C dx fs)) (hn:∀ (j:Nat) (hs:List Int) (kvs:List (D × D)),σT[j]? ≠ some (.dic hs kvs)):Ok K B p0 (upd H p u) ps σT σ where
  base:=fun b w e=>by
    rw [upd_ne fun z=>by rw [z,hB] at e; cases e]
    exact o.base b w e
  sub:=o.sub
  live:=fun q hq=>by
    by_cases e:q=p
    · subst e; rw [upd_same]; simp
    · rw [upd_ne e]; exact o.live q hq
  len:=o.len
  val:=fun i d h=>by rw [mask_upd hp]; exact o.val i d h
  own:=fun i ts h=>by
    rw [mask_upd hp]
    obtain ⟨q,xs,h1,h2,h3,h4,h5,h6⟩:=o.own i ts h
    exact ⟨q,xs,h1,h2,h3,h4,by rw [upd_ne fun z=>by rw [z,he] at h5; cases h5]; exact h5,h6⟩
  dis:=o.dis
  dc:=fun i hs kvs h=>absurd h (hn i hs kvs)
theorem putF_new {f:Str} {y:V}:∀ {fs:List (Str × V)},f ∉ fs.map (·.1)→putF f y fs=fs++[(f,y)]
  | [],_=>rfl
  | (g,x)::r,h=>by
    have hg:¬ g=f:=fun z=>h (by rw [← z]; exact List.mem_cons_self ..)
    show (if g=f then (g,y)::r else (g,x)::putF f y r)=_
    rw [if_neg hg,putF_new fun z=>h (List.mem_cons_of_mem _ z)]
    rfl
theorem start_nodic {N:List Str} {ds:List D} (j:Nat) (hs:List Int) (kvs:List (D × D)):(startT N ds)[j]? ≠ some (.dic hs kvs):=fun h=>by
  have hm:=List.mem_of_getElem? h
  unfold startT at hm
  rcases List.mem_append.mp hm with hm | hm
  · obtain ⟨_,_,z⟩:=List.mem_map.mp hm; cases z
  · have z:=(List.mem_replicate.mp hm).2; cases z
end
abbrev SpI:=List D→(List D→Prop)→Prop
def liftSpI (C:Addr) (ns:List Str) (K:PySem.W.Frag) (sp:SpI):Sp:=fun vs H Q _=>∃ (x dx:Addr) (rest:List V) (ps:List Addr) (ds:List D) (QD:List D→Prop),vs=.ref x::rest∧x ∈ ps∧H x=some (.ins C dx [])∧(∀ p ∈ ps,H p ≠ none)∧Reps K (mask H ps) ds rest∧sp ds QD ∧
  ∀ (dsF:List D) (fs:List (Str × V)) (H':Hp),Same (mask H [x]) H'→H' x=some (.ins C dx fs)→fs.map (·.1)=ns→Reps K (mask H' ps) dsF (fs.map (·.2))→QD dsF→Q .non H'
abbrev NT:=(List (Str × D)→Prop)→List (Str × D)→List Sl→Prop
def PNt (X:Cx) (C:Addr) (st:List Stmt) (t:NT):Prop:=∃ ts:TS,PSs X st ts∧∀ (B:Hp) (p0:List Addr) (H:Hp) (ps:List Addr) (σT:List Sl) (σ:L2.St) (p dx:Addr) (fs:List (Str × V)) (fd:List (Str × D)) (Q:List (Str × D)→Prop) (DV:Ends),
  Ok X.K B p0 H ps σT σ→(∀ (j:Nat) (hs:List Int) (kvs:List (D × D)),σT[j]? ≠ some (.dic hs kvs))→σ[0]?=some (some (.ref p))→p ∈ ps→B p=none→H p=some (.ins C dx fs)→fs.map (·.1)=fd.map (·.1)→Reps X.K (mask H ps) (fd.map (·.2)) (fs.map (·.2))→t Q fd σT →
  (∀ (H':Hp) (fs':List (Str × V)) (fd':List (Str × D)),Same B H'→H' p=some (.ins C dx fs')→fs'.map (·.1)=fd'.map (·.1)→Reps X.K (mask H' ps) (fd'.map (·.2)) (fs'.map (·.2))→Q fd'→DV.nx σ H')→ts DV σ H
section
variable {X:Cx} {o e value:Expr} {es:List Expr} {te:ET} {pos pos':Pos} {C:Addr} {rest:List Stmt} {r:NT} {f:Str}
def nNil:NT:=fun Q fd _=>Q fd
theorem nt_nil:PNt X C [] nNil:=⟨_,pss_nil,fun _ _ H _ _ _ _ _ fs fd _ _ o _ _ _ _ hi hk rs h k=>k H fs fd o.base hi hk rs h⟩
def nFld (f:Str) (te:ET) (r:NT):NT:=fun Q fd σ=>te σ fun d=>fd.length≤100∧f ∉ fd.map (·.1)∧r Q (fd++[(f,d)]) σ
theorem nt_cons (c:Cls X.K C) (hna:NoAttr X.K C f) (ho:PE X o (tVar 0)) (hv:PEt X value te) (h2:PNt X C rest r) (hs:swapsWith value (some (.Attribute o f pos')) pos.line X.env=pure false:=by rfl) :
    PNt X C (.Assign [.Attribute o f pos'] value pos::rest) (nFld f te r):=by
  obtain ⟨vv,pv,rv⟩:=hv
  obtain ⟨v2,p2,r2⟩:=h2
  refine ⟨_,pss_cons (ps_fld ho pv hs) p2,fun B p0 H ps σT σ p dx fs fd Q DV o hn h0 hp hB hi hk rs h k=>?_⟩
  refine rv B p0 H ps σT σ _ _ o h fun d y H1 s1 r1 q1=>⟨.ref p,h0,p,C,dx,fs,rfl,s1 _ _ hi,c,hna,?_,?_⟩
  · have:=congrArg List.length hk
    rw [List.length_map,List.length_map] at this
    have:=q1.1
    omega
  · have hf:f ∉ fs.map (·.1):=by rw [hk]; exact q1.2.1
    have o2:=(o.grow s1).pokeI (u:=.ins C dx (putF f y fs)) hp hB (s1 _ _ hi) hn
    have hm:mask (upd H1 p (.ins C dx (putF f y fs))) ps=mask H1 ps:=mask_upd hp
    refine r2 B p0 _ ps σT σ p dx (putF f y fs) (fd++[(f,d)]) Q DV o2 hn h0 hp hB upd_same ?_ ?_ q1.2.2 k
    · rw [putF_new hf,List.map_append,List.map_append,hk]; rfl
    · rw [hm,putF_new hf,List.map_append,List.map_append]
      exact (rs.same (mask_same s1)).append (.cons r1 .nil)
theorem fnI {P:Program} {w:World} {K:PySem.W.Frag} {mg:Str→Option Value} {base:Heap} {x qual:Str} {st:Stmt} {f:Addr} {fd:FuncData} {N pn:List Str} {k:Nat} {sp:SpI} {ns:List Str} (F:Fun K x qual st f fd) (S:FnScope N pn (defScope st)) (len:∀ ds Q,sp ds Q→ds.length + 1=pn.length)
    (hbody:∀ (cdv:Value) (A:Around) (outer:List Env) (s:Shared) (H:Hp) (E:XK),Room k (A.deeper (envOfC qual (defScope st) s.heap.objs.size f cdv))→∀ (z:D) (ds:List D) (Q:List D→Prop),sp ds Q →
      ∃ t,PNt (cxOf CX0 P w K mg base N qual (defScope st) f cdv A outer s H E).nox C (defBody st) t∧t (fun fd=>fd.map (·.1)=ns∧Q (fd.map (·.2))) [] (startT N (z::ds))):FnOk P w K mg base CX0 (k + 1) f fd pn (liftSpI C ns K sp):=by
  refine F.ok S (fun vs H Q E h=>?_) fun cdv A outer s H vs Q E hr h=>?_
  · obtain ⟨x,dx,rest,ps,ds,QD,rfl,_,_,_,r,q,_⟩:=h
    rw [List.length_cons,← r.length]; exact len ds QD q
  · obtain ⟨x,dx,rest,ps,ds,QD,rfl,hx,hi,live,r,q,k⟩:=h
    obtain ⟨t,⟨ts,p,rd⟩,h⟩:=hbody cdv A outer s H E hr (.dict [(.str "@",.list [.int (x:Nat)])]) ds QD q
    have o0:Ok K H ps H ps (startT N (.dict [(.str "@",.list [.int (x:Nat)])]::ds)) (L2.start N (.ref x::rest)):=ok_start live (.cons (.addr []) r)
    refine ⟨ts,p,rd (mask H [x]) ps H ps _ _ x dx [] [] _ _ (o0.less mask_le) start_nodic rfl hx (if_pos (List.mem_cons_self ..)) hi rfl .nil h fun H' fs' fd' s' hi' hk' rs' q'=>?_⟩
    exact k _ fs' H' s' hi' (hk'.trans q'.1) rs' q'.2
def eMake (C:Addr) (ns:List Str) (sp:SpI) (t:AT):ET:=fun σ Q=>t σ fun ds=>sp ds fun fs=>Q (insD C ns fs)
theorem et_make {ns:List Str} {sp:SpI} {x:Str} {p:Pos} {t:AT} (ha:PAt X (e::es) t) (pc:∀ {ta:TA},PA X (e::es) ta→PE X (.Call (.Name x p) (e::es) [] pos) (tMake C (liftSpI C ns X.K sp) [] E0 ta)):PEt X (.Call (.Name x p) (e::es) [] pos) (eMake C ns sp t):=by
  obtain ⟨v,pa,ra⟩:=ha
  refine ⟨_,pc pa,fun B p0 H ps σT σ Q QV o h k=>ra B p0 H ps σT σ _ _ o h fun ds xs H1 s1 r1 q1=>fun x dx hx hdx hne=>?_⟩
  show liftSpI C ns X.K sp (.ref x::(xs++[])) _ _ E0
  rw [List.append_nil]
  have live:=(o.grow s1).live
  have hxps:x ∉ ps:=fresh_notin live hx
  have h1x:upd H1 dx (.own x) x=none:=by rw [upd_ne (Ne.symm hne)]; exact hx
  have hm:mask (upd (upd H1 dx (.own x)) x (.ins C dx [])) (x::ps)=mask (upd H1 dx (.own x)) ps:=mask_new h1x
  refine ⟨x,dx,xs,x::ps,ds,_,rfl,List.mem_cons_self ..,upd_same,fun q hq=>?_,?_,q1,fun dsF fs H' s' hx' hns rs qf=>⟨rfl,?_⟩⟩
  · by_cases e:q=x
    · subst e; rw [upd_same]; simp
    · rw [upd_ne e]
      rcases List.mem_cons.mp hq with z | z
      · exact absurd z e
      · by_cases e2:q=dx
        · subst e2; rw [upd_same]; simp
        · rw [upd_ne e2]; exact live q z
  · rw [hm]; exact r1.same (mask_same (same_new hdx))
  · subst hns
    refine k _ _ H' (s1.trans fun b u eb=>s' b u ?_) (.ins (mask_at hxps hx') (rs.same (mask_sub fun q hq=>List.mem_cons_of_mem _ hq))) qf
    have nx:b ≠ x:=fun z=>by rw [z,hx] at eb; cases eb
    have nd:b ≠ dx:=fun z=>by rw [z,hdx] at eb; cases eb
    unfold mask
    rw [if_neg (by simpa using nx),upd_ne nx,upd_ne nd]; exact eb
end
section
variable {X:Cx}
def gP4 (i j k l:Nat):GT:=fun d σ Q=>∃ a b c e,d=.tuple [a,b,c,e]∧Q ((((σ.set i (.val a)).set j (.val b)).set k (.val c)).set l (.val e))
theorem gt_quad {i j k l:Nat} {t:Expr} (h:PG X t (gTup X.K 4 (gCons (gName i) (gCons (gName j) (gCons (gName k) (gCons (gName l) gNil)))))):PGt X t (gP4 i j k l) :=
  ⟨_,h,fun B p0 H ps σT σ d v Q QV o r h k=>by
    obtain ⟨a,b,c,e,rfl,h⟩:=h
    cases r with
    | @tuple p xs _ hq r =>
      cases r with
      | cons ra r =>
        cases r with
        | cons rb r =>
          cases r with
          | cons rc r =>
            cases r with
            | cons re r =>
              cases r
              exact ⟨_,_,rfl,Same.seqT mask_le hq,rfl,_,_,rfl,_,_,rfl,_,_,rfl,_,_,rfl,rfl,k _ _ ((((o.set ra).set rb).set rc).set re) (fun n=>noOwn_set (noOwn_set (noOwn_set (noOwn_set n _ _) _ _) _ _) _ _) h⟩⟩
end
end TL

set_option Elab.async false
set_option linter.all false
set_option maxRecDepth 100000
namespace L2
open PySem PySem.Spec PyProof.Rows TL
def ItRv (K:PySem.W.Frag) (l:Addr) (n:Nat):It :=
  ⟨fun i H=>i < n∧∃ xs,SqL K H l xs∧xs.length=n,fun i H v H'=>H'=H∧∀ xs,SqL K H l xs→xs[n - 1 - i]?=some v,fun i _=>n≤i⟩
theorem turn_rev {P:Program} {w:World} {K:PySem.W.Frag} {tg:Expr} (it l:Addr) (n:Nat):Turn P w K tg (ItRv K l n) [it] it (fun i h=>i≤n∧h.IsRevIter it l ((n:Int) - 1 - (i:Int))) where
  mem:=by simp
  obj:=fun i h st b hb=>by
    have e:b=it:=by simpa using hb
    subst e
    obtain ⟨_,o,e,c,d⟩:=st
    exact ⟨o,e,fun v z=>by rw [d] at z; cases z⟩
  keep:=fun i h h' st k=>⟨st.1,st.2.at fun o x=>k it (by simp) o x⟩
  item:=by
    intro X hP hw hK hc i pins s σ H E I hf st hg
    subst hP hw hK
    obtain ⟨hi,xs,hq,hn⟩:=hg
    obtain ⟨hle,hit⟩:=st
    obtain ⟨its,rv,p,hz⟩:=I.list hq
    obtain ⟨f0,f1,f2,f3,f4,f5⟩:=hf it (by simp)
    have hx:xs[n - 1 - i]?=some (xs[n - 1 - i]'(by omega)):=List.getElem?_eq_getElem (by omega)
    obtain ⟨u,hu,ru⟩:=rv.get hx
    have e:(n:Int) - 1 - (i:Int)=((n - 1 - i:Nat):Int):=by omega
    rw [e] at hit
    refine wpAny_pyNext_rev_item hit p.isList (x:=u) (by simpa using hu) fun h' st' sb=>?_
    have I1:Inv X pins σ H { s with heap:=h' }:=I.turned (t':=s.toks) (fun b o hb e=>(sb.2 b hb).trans e) f0 f1 f3 f4 f5
    have e2:((n - 1 - i:Nat):Int) - 1=(n:Int) - 1 - ((i + 1:Nat):Int):=by omega
    rw [e2] at st'
    obtain ⟨o',e',c',d'⟩:=id st'
    exact ⟨_,rfl,go_of (s:={ s with heap:=h' }) e' c' d' (by decide) ⟨_,H,I1,ru,⟨rfl,fun ys hy=>by rw [I.list_inj hy hq]; exact hx⟩,⟨by omega,st'⟩,fun b hb=>(hf b hb).1⟩⟩
  done:=by
    intro X hP hw hK hc i pins s σ H E I hf st hg
    subst hP hw hK
    obtain ⟨hle,hit⟩:=st
    have hi:i=n:=Nat.le_antisymm hle hg
    subst hi
    obtain ⟨f0,f1,f2,f3,f4,f5⟩:=hf it (by simp)
    have e:(i:Int) - 1 - (i:Int)=-1:=by omega
    rw [e] at hit
    exact wpAny_pyNext_rev_end (I.ok.hd hc) hit fun h' eb=>⟨rfl,I.turned (t':=s.toks) (fun b o hb e=>eb b o hb e) f0 f1 f3 f4 f5⟩
  self:=fun _ _ _ _ _ st h=>wpAny_pyIter_revIter st.2 h
theorem boot_reversed:bootBuiltins "reversed"=some (.type "reversed"):=by decide +kernel
def iRevL (K:PySem.W.Frag) (ta:TA):TI:=fun σ H R=>ta σ H fun vs H1=>∃ l xs,vs=[.ref l]∧SqL K H1 l xs∧R (ItRv K l xs.length) H1
section
variable {X:Cx} {tg:Expr}
theorem pi_rev {a:Expr} {ta:TA} {p pos:Pos} (hg:Gl X "reversed") (hm:X.mg "reversed"=none) (ha:PA X [a] ta) (hs:starEach [a] X.env=[(false,eval a X.env)]:=by rfl) :
    PI X tg (.Call (.Name "reversed" p) [a] [] pos) (iRevL X.K ta):=by
  intro pins s σ H R I h
  refine Call_ (ld_blt I hg hm boot_reversed (PyProof.Rows.callWith_type1 (thn (ha pos pins s σ H _ I h) fun us s1 ⟨vs,H1,I1,r1,q1⟩=>?_) (by rw [hs]; rfl) (by rfl)))
  obtain ⟨l,xs,rfl,hq,q⟩:=q1
  cases r1 with
  | cons r rr =>
    cases rr
    cases r
    obtain ⟨us1,rv1,p1,hz1⟩:=I1.list hq
    have hl:=rv1.length
    refine call_reversed_list p1.isList ?_
    have hit:(s1.heap.push (revObj l ((us1.toArray.size:Int) - 1))).IsRevIter s1.heap.objs.size l ((xs.length:Int) - 1 - ((0:Nat):Int)):=⟨_,Heap.get?_push_size _ rfl,rfl,by rw [hl]; simp [revObj]⟩
    refine wpAny_pyIter_revIter (s:={ s1 with heap:=_ }) hit ?_
    refine ⟨s1.heap.objs.size,[s1.heap.objs.size],_,_,H1,rfl,I1.kept (t':=s1.toks) fun b o e=>Heap.get?_push_of_some _ e,turn_rev _ l xs.length,⟨Nat.zero_le _,hit⟩,fun b hb=>?_,q⟩
    have e:b=s1.heap.objs.size:=by simpa using hb
    subst e
    exact I1.fpOk (Nat.le_refl _) (I1.hok.fresh (Nat.le_refl _))
end
def Itm (p:Addr) (es:List (Int × Addr × V)) (ep:Nat):It:=⟨fun i H=>H p=some (dicF p es ep)∧i < es.length,fun i H x H'=>∃ q e,H q=none∧x=.ref q∧H'=upd H q (.tup [.ref e.2.1,e.2.2])∧es[i]?=some e,fun i H=>H p=some (dicF p es ep)∧es.length≤i⟩
theorem go_items {prog:Program} {w:World} {A:Around} {E:Value→Shared→Prop} {s:Shared} {elts:List Expr} {z:Nat} {pos:Pos} {it d:Addr} {i n ep:Nat} {x1 k v:Value} {u:Addr} {Q:Unit→Shared→Prop} (hit:ItAt s.heap it d i n ep (rawInt u) x1 k v)
    (hQ:∀ h',ItAt h' it d i n ep .none x1 k v→Heap.SameBut it s.heap h'→Q () { s with heap:=h' }):wpAny (model prog w) A (letOwnedTupleGo (.Tuple elts z pos) (.ref it) (.ref u)) Q E s:=by
  unfold letOwnedTupleGo
  refine wpAny_bind (wpAny_load hit ?_)
  show wpAny _ _ (if (["enumerate","zip","dict_itemiterator","dict_reverseitemiterator","odict_iterator","itertools.zip_longest","itertools.pairwise"].contains "dict_itemiterator" && (itF d i n ep (rawInt u) x1 k v)[0]? == some (rawInt u))=true then _ else _) Q E s
  rw [if_pos (by simp [itF])]
  refine wpAny_bind (wpAny_rule ?_)
  show wpAny _ _ (setField (.ref it) 0 .none) Q E s
  exact wpAny_setField_rec hit (by simp [itF]) fun h' he' hs'=>hQ h' he' hs'
theorem turn_items {P:Program} {w:World} {K:PySem.W.Frag} {elts:List Expr} {z:Nat} {pos:Pos} (p it:Addr) (es:List (Int × Addr × V)) (ep:Nat):Turn P w K (.Tuple elts z pos) (Itm p es ep) [it] it (fun i h=>∃ (f:Bool) (k v:Value),ItAt h it p i es.length ep .none (.bool f) k v) where
  mem:=by simp
  obj:=fun i h st b hb=>by
    have e:b=it:=by simpa using hb
    subst e
    obtain ⟨f,k,v,e⟩:=st
    exact ⟨_,e,fun v z=>by cases z⟩
  keep:=fun i h h' st kk=>by
    obtain ⟨f,k,v,e⟩:=st
    exact ⟨f,k,v,kk it (by simp) _ e⟩
  item:=by
    intro X hP hw hK hc i pins s σ H E I hf st hg
    subst hP hw hK
    obtain ⟨hp,hi⟩:=hg
    obtain ⟨f,k,v,hit⟩:=st
    obtain ⟨⟨h1,h2,o,xs,h3,h4,h5,h6⟩,_⟩:=I.hok p _ hp
    have hsz:es.length=xs.size:=by rw [← Array.length_toList]; exact Paired.length h6
    have hix:i < xs.size:=by omega
    rw [hsz] at hit
    have hitl:it < s.heap.objs.size:=Heap.lt_size hit
    refine items_next hit ⟨.inl rfl,_,rfl⟩ ⟨o,h3,h5⟩ hix fun h' y0 y1 k' v' hit' hg' hy ht hz hkp=>⟨_,rfl,?_⟩
    obtain rfl:=hy rfl
    obtain ⟨_,f',rfl⟩:=hg'
    refine go_items (s:={ s with heap:=h' }) hit' fun h2' hit2 sb=>?_
    have kk:∀ c o,c ∉ [it]→s.heap.get? c=some o→h2'.get? c=some o:=fun c o hc' x=>by
      have hc2:c ≠ it:=by simpa using hc'
      exact sb.extBut _ _ hc2 (hkp c o hc2 x)
    obtain ⟨en,e1,e2⟩:=entR_get (j:=i) (d:=xs[i]) h6 (by simp [hix])
    have hT:=sb.extBut _ _ (Nat.ne_of_gt hitl) ht
    have I1:Inv X pins σ (upd H s.heap.objs.size (.tup [.ref en.2.1,en.2.2])) { s with heap:=h2' }:=I.turnedNew (t':=s.toks) hf kk (Nat.le_refl _) ⟨(by show 2≤sizeLine; decide),[xs[i].key,xs[i].val],.cons e2.2.1 (.cons e2.2.2 .nil),⟨_,hT,rfl,_,rfl,rfl⟩⟩
    rw [← hsz] at hit2
    refine ⟨.ref s.heap.objs.size,_,I1,rfl,⟨_,en,I.hok.fresh (Nat.le_refl _),rfl,rfl,e1⟩,⟨f',k',v',hit2⟩,fun c hc'=>?_⟩
    have e:c=it:=by simpa using hc'
    subst e
    rw [upd_ne (Nat.ne_of_lt hitl)]
    exact (hf c hc').1
  done:=by
    intro X hP hw hK hc i pins s σ H E I hf st hg
    subst hP hw hK
    obtain ⟨hp,hi⟩:=hg
    obtain ⟨f,k,v,hit⟩:=st
    obtain ⟨⟨h1,h2,o,xs,h3,h4,h5,h6⟩,_⟩:=I.hok p _ hp
    have hsz:es.length=xs.size:=by rw [← Array.length_toList]; exact Paired.length h6
    obtain ⟨f0,f1,f2,f3,f4,f5⟩:=hf it (by simp)
    rw [hsz] at hit
    exact items_end (I.ok.hd hc) hit ⟨o,h3,h5⟩ (by omega) fun h' eb=>⟨rfl,I.turned (t':=s.toks) (fun b o hb e=>eb b o hb e) f0 f1 f3 f4 f5⟩
  self:=fun _ i _ _ _ st h=>by
    obtain ⟨f,k,v,e⟩:=st
    have hT:Shared.TypeIs _ (.ref it) "dict_itemiterator":=⟨_,e,rfl⟩
    refine wpAny_pyIter_slot hT PySem.F.slot_dict_itemiterator_iter (wpAny_call_entry PySem.F.slot_dict_itemiterator_iter hT PySem.W.kcp_entry ?_ (PySem.F.args_dict_itemiterator_iter_1 _))
    show wpAny _ _ (ret (.ref it)) _ _ _
    exact wpAny_pure ⟨_,rfl,"dict_itemiterator",_,hT,PySem.F.slot_dict_itemiterator_next.lookup,h⟩
section
variable {X:Cx}
def qItm (R:It→Hp→Prop):VK:=fun y H2=>∃ (v p:Addr) (es:List (Int × Addr × V)) (ep:Nat),y=.ref v∧H2 v=some (viewO v p)∧H2 p=some (dicF p es ep)∧R (Itm p es ep) H2
def iItm (tl:TE):TI:=fun σ H R=>tl σ H fun x H1=>∃ (p:Addr) (es:List (Int × Addr × V)),x=.ref p∧IsD H1 p es∧∀ v,H1 v=none→qItm R (.ref v) (upd H1 v (viewO v p))
theorem pi_items {l:Expr} {tl:TE} {elts:List Expr} {z:Nat} {tpos ap cp:Pos} (hl:PE X l tl) (hbase:attributeBase l "items" X.env (eval l X.env)=eval l X.env:=by rfl) (hline:(ap.endLine == cp.line)=true:=by rfl) :
    PI X (.Tuple elts z tpos) (.Call (.Attribute l "items" ap) [] [] cp) (iItm tl):=by
  intro pins s σ H R I h
  refine thn (pe_ditems hl hbase hline pins s σ H (qItm R) I h) fun v s1 ⟨x,H1,I1,r1,q1⟩=>?_
  obtain ⟨vw,p,es,ep,rfl,hv,hp,q⟩:=q1
  obtain rfl:v=Value.ref vw:=r1
  obtain ⟨⟨h1,h2,o,xs,h3,h4,h5,h6⟩,_⟩:=I1.hok p _ hp
  have hsz:es.length=xs.size:=by rw [← Array.length_toList]; exact Paired.length h6
  refine items_iter (I1.hok vw _ hv).1 ⟨o,h3,h5⟩ ?_
  refine ⟨s1.heap.objs.size,[s1.heap.objs.size],_,_,H1,rfl,I1.kept (t':=s1.toks) fun b o e=>Heap.get?_push_of_some _ e,turn_items p _ es ep,⟨false,.none,.none,by rw [hsz]; exact Heap.get?_push_size _ rfl⟩,fun b hb=>?_,q⟩
  have e:b=s1.heap.objs.size:=by simpa using hb
  subst e
  exact I1.fpOk (Nat.le_refl _) (I1.hok.fresh (Nat.le_refl _))
end
section
variable {prog:Program} {w:World} {A:Around} {E:Value→Shared→Prop} {s:Shared}
theorem call_len_raw {d:Addr} {xs:Array DictEntry} {ep:Nat} {Q:Value→Shared→Prop} (hd:(d == sysModules)=false) (hm:RawA s.heap d xs ep) (hfit:(xs.size:Int) < 2 ^ 63)
    (h:Q (.int xs.size (s.toks + 1)) { s with toks:=s.toks + 1 + 1 }):wpAny (model prog w) A (call (.builtin "len") [.ref d]) Q E s:=by
  obtain ⟨o,ho,hc,hdat⟩:=hm
  have hT:s.TypeIs (.ref d) "dict":=⟨o,ho,hc.1⟩
  have hme:MeetsIn prog w (Builtin.«dict.__len__» ⟨[.ref d],[]⟩) (fun _ R s=>(∃ o,s.heap.get? d=some o∧o.data=.dict xs ep)∧R (.ok (.ret (.int xs.size s.toks))) { s with toks:=s.toks + 1 }) :=
    .of_wp fun A R s ⟨⟨o,ho,hdat⟩,h⟩=>by
      show wpAny _ _ (dictSize d >>= _) _ _ s
      unfold dictSize
      refine wpAny_bind (wpAny_bind (wpAny_dictEntries ho hdat (wpAny_pure ?_)))
      show wpAny _ _ (Builtin.Dict.pendingCount d >>= _) _ _ s
      refine wpAny_bind (wpAny_pendingCount_other hd ?_)
      refine wpAny_ret_mkInt ?_
      rw [Nat.add_zero]; exact h
  refine Calls.call_function_entry PySem.kind_len PySem.plain_len PySem.entry_len (PySem.args_len1 _) ?_
  unfold Builtin.«len»
  refine wpAny_bind (m:=oneArg "len" _) (wpAny_pure ?_)
  refine wpAny_bind (m:=callSpecial? (.ref d) (Str.ofString "__len__")) (wpAny_callSpecial?_slot (name:=Str.ofString "__len__") hT PySem.F.slot_dict_len
    (call_meetsIn PySem.F.slot_dict_len hT PySem.F.entry_dict_len (PySem.F.args_dict_len_1 _) hme ⟨⟨o,ho,hdat⟩,?_⟩))
  show wpAny _ _ _ _ _ { s with toks:=s.toks + 1 }
  refine wpAny_bind (wpAny_holding (wpAny_pure ?_))
  refine wpAny_bind (wpAny_letGo ?_)
  show wpAny _ _ (if ((xs.size:Nat):Int) < 0 then _ else _) _ _ _
  rw [if_neg (by omega)]
  show wpAny _ _ (if ((xs.size:Nat):Int) ≥ 2 ^ 63 then _ else _) _ _ _
  rw [if_neg (by omega)]
  exact wpAny_bind (wpAny_mkInt (wpAny_pure ⟨_,rfl,h⟩))
end
section
variable {X:Cx}
theorem call_lenD:CallR X (.builtin "len") (fun xs H Q=>∃ (p:Addr) (es:List (Int × Addr × V)),xs=[.ref p]∧IsD H p es∧Q (.int es.length) H):=by
  intro pins s σ H xs us Q I r h
  obtain ⟨p,es,rfl,hp,hQ⟩:=h
  obtain ⟨u,rfl,rx⟩:=vals1 r
  cases rx
  obtain ⟨h1,h2,o,ds,ep,h3,h4,h5,h6⟩:=IsD.at I hp
  have hsz:es.length=ds.size:=by rw [← Array.length_toList]; exact Paired.length h6
  have hL:sizeLine=2 ^ 24:=rfl
  refine call_len_raw h1 ⟨o,h3,h4,h5⟩ (by omega) ?_
  rw [← hsz]
  exact ⟨.int _,H,I.tok _,⟨_,rfl⟩,hQ⟩
end
section
variable {X:Cx} {o i value:Expr} {pos pos':Pos} {td ty tv:TE}
def sDPutG (K:PySem.W.Frag) (w:World) (td ty tv:TE):TS:=fun D' σ H=>tv σ H fun v H1=>td σ H1 fun x H2=>ty σ H2 fun y H3=>∃ (p a:Addr) (es:List (Int × Addr × V)) (ks:List D) (k:D) (ep:Nat),x=.ref p∧y=.ref a∧H3 p=some (dicF p es ep)∧DK K w H3 es ks∧Rep K H3 k (.ref a)∧KeyOk k∧es.length < sizeLine∧D'.nx σ (upd H3 p (dicO p (putE w es ks k a v)))
theorem ps_dputG (hu:X.A.units + 9 < cLine) (ho:PE X o td) (hi:PE X i ty) (hv:PE X value tv) (hs:swapsWith value (some (.Subscript o i pos')) pos.line X.env=pure false) :
    PS X (.Assign [.Subscript o i pos'] value pos) (sDPutG X.K X.w td ty tv):=by
  intro pins s σ H D' I h
  refine wpAny_Assign_Subscript (thn (hv pins s σ H _ I h) fun r s1 ⟨v,H1,I1,rv,q1⟩=>thn (ho pins s1 σ H1 _ I1 q1) fun u s2 ⟨x,H2,I2,rx,q2⟩=>thn (hi pins s2 σ H2 _ I2 q2) fun iv s3 ⟨y,H3,I3,ry,p,a,es,ks,k,ep,ex,ey,hp,dk,rk,ok,hl,q3⟩=>?_) hs
  subst ex ey
  obtain rfl:u=Value.ref p:=rx
  obtain rfl:iv=Value.ref a:=ry
  obtain ⟨h1,h2,xs,x1,x2⟩:=dic_of I3 (.inr ⟨ep,hp⟩) dk
  refine wpAny_setItem_heap (hsz:=by rw [← Paired.length x1.2]; exact h2) (show X.A.units + 1 + 8 < cLine by omega) (key_is I3 rk ok) x2 fun h' dd' hs'=>⟨σ,_,?_,q3⟩
  have hq:∃ q,h'.get? p=some q:=let ⟨q,_,_,e,_⟩:=dd'; ⟨q,e⟩
  have:=putE_len (w:=X.w) (k:=k) (a:=a) (v:=v) dk.len
  exact I3.write (x:=p) (e:=p) (by rw [hp]; exact True.intro) (.inl rfl) (fun b q hb z=>(hs'.2 b hb).trans z) hq (dic_ok (ks:=putKs ks k) h1 (by omega) (ex_put x1 rv) (dk.put rk ok).hs dd')
theorem ps_ghost {st:Stmt} {ts:TS} (p:PS X st ts):PS X st (fun DV σ H=>∃ (a:Addr) (es:List (Int × Addr × V)),H a=some (dicO a es)∧∀ ep,ts DV σ (upd H a (dicF a es ep))):=by
  intro pins s σ H D I ⟨a,es,ha,h⟩
  obtain ⟨⟨h1,h2,o,xs,ep,h3,h4,h5,h6⟩,_⟩:=I.hok a _ ha
  refine p pins s σ _ D ?_ (h ep)
  exact I.write (x:=a) (e:=a) (h':=s.heap) (t':=s.toks) (by rw [ha]; exact True.intro) (.inl rfl) (fun b u _ z=>z) ⟨o,h3⟩ (show ObjOk X.prog X.w _ _ _ (dicF a es ep) from ⟨⟨h1,h2,o,xs,h3,h4,h5,h6⟩,⟨o,h3⟩,fun h1 h2 ⟨a,b,o,xs,e,r⟩ k=>⟨a,b,o,xs,k _ e,r⟩⟩)
end
end L2
namespace TL
open PySem PySem.Spec PyProof.Rows L2
section
variable {K:PySem.W.Frag} {H H':Hp}
theorem seq_nd {a:Addr} {xs:List V} (e:∀ b o,H b=some o→(∃ φ,o=HO.ext φ) ∨ H' b=some o) (h:SqL K H a xs):SqL K H' a xs:=by
  rcases h with (h | ⟨o,h⟩) | h
  · rcases e _ _ h with ⟨_,z⟩ | z
    · cases z
    · exact .inl (.inl z)
  · rcases e _ _ h with ⟨_,z⟩ | z
    · cases z
    · exact .inl (.inr ⟨o,z⟩)
  · exact .inr h
theorem seqT_nd {a:Addr} {xs:List V} (e:∀ b o,H b=some o→(∃ φ,o=HO.ext φ) ∨ H' b=some o) (h:SqT K H a xs):SqT K H' a xs:=by
  rcases h with (h | ⟨o,h⟩) | h
  · rcases e _ _ h with ⟨_,z⟩ | z
    · cases z
    · exact .inl (.inl z)
  · rcases e _ _ h with ⟨_,z⟩ | z
    · cases z
    · exact .inl (.inr ⟨o,z⟩)
  · exact .inr h
mutual
theorem Rep.nd (e:∀ b o,H b=some o→(∃ φ,o=HO.ext φ) ∨ H' b=some o):∀ {d:D} {v:V},d.hasDict=false→Rep K H d v→Rep K H' d v
  | _,_,_,.none=>.none
  | _,_,_,.bool b=>.bool b
  | _,_,_,.int i=>.int i
  | _,_,_,.str x=>.str x
  | _,_,h,.list q r=>.list (seq_nd e q) (Reps.nd e (by simpa only [PyData.hasDict] using h) r)
  | _,_,h,.tuple q r=>.tuple (seqT_nd e q) (Reps.nd e (by simpa only [PyData.hasDict] using h) r)
  | _,_,h,.wild _=>by simp [PyData.hasDict] at h
  | _,_,h,.exc _ _=>by simp [PyData.hasDict] at h
  | _,_,h,.excA _ _ _=>by simp [PyData.hasDict] at h
  | _,_,h,.tape _ _=>by simp [PyData.hasDict] at h
  | _,_,h,.dct _ _ _ _=>by simp [PyData.hasDict] at h
  | _,_,h,.addr _=>by simp [PyData.hasDict] at h
  | _,_,h,.ins _ _=>by simp [PyData.hasDict] at h
theorem Reps.nd (e:∀ b o,H b=some o→(∃ φ,o=HO.ext φ) ∨ H' b=some o):∀ {ds:List D} {vs:List V},PyData.hasDictAll ds=false→Reps K H ds vs→Reps K H' ds vs
  | _,_,_,.nil=>.nil
  | _,_,h,.cons r s=>by
    simp only [PyData.hasDictAll,Bool.or_eq_false_iff] at h
    exact .cons (Rep.nd e h.1 r) (Reps.nd e h.2 s)
end
end
section
variable {X:Cx} {a b e n:Expr} {es:List Expr} {ta tb te tk:ET} {pos:Pos}
def iRevT (t:AT):IT:=fun σ Q=>t σ fun ds=>∃ as,ds=[.list as]∧Q as.reverse
theorem it_rev {tg:Expr} {t:AT} {p p':Pos} (ha:PAt X [a] t) (pz:∀ {ta:TA},PA X [a] ta→PI X tg (.Call (.Name "reversed" p) [a] [] p') (iRevL X.K ta)):PIt X tg (.Call (.Name "reversed" p) [a] [] p') (iRevT t):=by
  obtain ⟨va,pa,ra⟩:=ha
  refine ⟨_,pz pa,fun B p0 H ps σT σ Q R o h k=>ra B p0 H ps σT σ _ _ o h fun ds xs H1 s1 r1 q1=>?_⟩
  obtain ⟨as,rfl,q⟩:=q1
  cases r1 with
  | cons r1 r2 =>
    cases r2
    cases r1 with
    | @list p1 us _ hq1 rs1 =>
      have n1:=rs1.length
      refine ⟨p1,us,rfl,L2.Same.seq mask_le hq1,k _ _ H1 s1 ⟨fun i H e hl=>?_,fun i H e hl=>?_,fun i H ps' y H' live e hl hy=>?_⟩ q⟩
      · rw [List.length_reverse] at hl
        show us.length≤i
        omega
      · rw [List.length_reverse] at hl
        exact ⟨by omega,us,L2.Same.seq e hq1,rfl⟩
      · obtain ⟨rfl,h1⟩:=hy
        obtain ⟨d1,g1,t1⟩:=rs1.get' (h1 us (L2.Same.seq (e.trans mask_le) hq1))
        rw [List.length_reverse] at hl
        refine ⟨L2.Same.refl _,d1,?_,t1.same e⟩
        rw [List.getElem?_reverse hl,n1]; exact g1
def iItems (w:World) (te:ET):IT:=fun σ Q=>te σ fun d=>∃ kvs,d=dicD w kvs∧Q (kvs.map fun kv=>.tuple [kv.1,kv.2])
theorem it_items {elts:List Expr} {z:Nat} {tpos ap cp:Pos} (he:PEt X e te) (pz:∀ {v:TE},PE X e v→PI X (.Tuple elts z tpos) (.Call (.Attribute e "items" ap) [] [] cp) (iItm v)):PIt X (.Tuple elts z tpos) (.Call (.Attribute e "items" ap) [] [] cp) (iItems X.w te):=by
  obtain ⟨ve,pe,re⟩:=he
  refine ⟨_,pz pe,fun B p0 H ps σT σ Q R o h k=>re B p0 H ps σT σ _ _ o h fun d x H1 s1 r1 q1=>?_⟩
  obtain ⟨kvs,rfl,q⟩:=q1
  obtain ⟨p,es,ep,rfl,h1,h2,h3,h4,h5⟩:=rep_dic r1
  have hp:=mask_le _ _ h1
  have live:=(o.grow s1).live
  refine ⟨p,es,rfl,.inr ⟨ep,hp⟩,fun vw hvw=>⟨vw,p,es,ep,rfl,upd_same,(by rw [upd_ne (ne_of_none hp hvw)]; exact hp),k _ _ _ (s1.trans (same_new hvw)) ?_ q⟩⟩
  have hms:=mask_same (ps:=ps) (same_new (o:=viewO vw p) hvw)
  have hlen:kvs.length=es.length:=by
    have:=congrArg List.length h2
    simpa using this
  refine ⟨fun i H e hi=>⟨e _ _ (hms _ _ h1),by rw [List.length_map] at hi; omega⟩,fun i H e hi=>⟨e _ _ (hms _ _ h1),by rw [List.length_map] at hi; omega⟩,fun i H qs y H' live' e hi hy=>?_⟩
  obtain ⟨q,en,hq,rfl,rfl,e1⟩:=hy
  rw [List.length_map] at hi
  have k1:kvs[i]?=some kvs[i]:=List.getElem?_eq_getElem hi
  have ms:=hms.trans e
  obtain ⟨x1,y1,y2⟩:=(h4.same ms).get (i:=i) (d:=kvs[i].1) (by rw [List.getElem?_map,k1]; rfl)
  obtain ⟨x2,z1,z2⟩:=(h5.same ms).get (i:=i) (d:=kvs[i].2) (by rw [List.getElem?_map,k1]; rfl)
  rw [List.getElem?_map,e1] at y1 z1
  cases y1
  cases z1
  exact ⟨same_new hq,_,by rw [List.getElem?_map,k1]; rfl,rep_tup live' hq (.cons y2 (.cons z2 .nil))⟩
def eDLenO (i:Nat):ET:=fun σ Q=>∃ hs kvs,σ[i]?=some (.dic hs kvs)∧Q (.int (kvs.length:Nat))
theorem et_dlenO {i:Nat} {g:Expr} (pc:PE X (.Call g [n] [] pos) (tCB (fun xs H Q=>∃ (p:Addr) (es:List (Int × Addr × V)),xs=[.ref p]∧IsD H p es∧Q (.int es.length) H) (tCons (tVar i) tNil))):PEt X (.Call g [n] [] pos) (eDLenO i):=by
  refine ⟨_,pc,fun B p0 H ps σT σ Q QV o h k=>?_⟩
  obtain ⟨hs,kvs,hi,q⟩:=h
  obtain ⟨⟨p,es,hσ,x⟩,u⟩:=o.isDic hi
  have hl:es.length=kvs.length:=by
    have:=x.vs.length
    simpa using this.symm
  exact ⟨.ref p,hσ,p,es,rfl,.inl x.obj,k _ _ H (L2.Same.refl H) (by rw [hl]; exact .int _) q⟩
noncomputable def sDPutB (w:World) (i:Nat) (tk tv:ET):STt:=fun DT σ=>∃ kvs,σ[i]?=some (dicS w kvs)∧tv (σ.set i (.val (dicD w kvs))) fun v=>v.hasDict=false∧tk (σ.set i (.val (dicD w kvs))) fun k=>KeyT k∧(∀ kv ∈ kvs,KeyOk kv.1)∧kvs.length≤100000∧DT.nx (σ.set i (dicS w (putD kvs k v)))
theorem st_dputB {i:Nat} {p2:Pos} {value:Expr} {tv:ET} (hu:X.A.units + 9 < cLine) (hn:PE X n (tVar i)) (hk':PEt X e tk) (hv:PEt X value tv) (hs:swapsWith value (some (.Subscript n e p2)) pos.line X.env=pure false:=by rfl) :
    PSt X (.Assign [.Subscript n e p2] value pos) (sDPutB X.w i tk tv):=by
  obtain ⟨vv,pv',rv⟩:=hv
  obtain ⟨vk,pk,rk⟩:=hk'
  refine ⟨_,ps_ghost (ps_dputG hu hn pk pv' hs),fun B p0 H ps σT σ DT DV o h f=>?_⟩
  obtain ⟨kvs,hi,h⟩:=h
  obtain ⟨p,es,hσ,x,hsh⟩:=o.shareD hi
  obtain ⟨_,u⟩:=o.isDic hi
  refine ⟨p,es,x.obj,fun ep=>?_⟩
  obtain ⟨o1,s0⟩:=hsh ep
  refine rv B p0 _ _ _ σ _ _ o1 h fun v y H1 s1 r1 q1=>⟨.ref p,hσ,?_⟩
  obtain ⟨hvn,q1⟩:=q1
  refine rk B p0 H1 _ _ σ _ _ (o1.grow s1) q1 fun k z H2 s2 r2 q2=>?_
  obtain ⟨⟨kok,ys,rfl⟩,hok,hlen,q⟩:=q2
  obtain ⟨a,rfl⟩:=rep_tup_ref r2
  have s12:=s1.trans s2
  have hp2:H2 p=some (dicF p es ep):=s12 _ _ upd_same
  -- the dict is the def's own again
  have back:∀ b u,mask H2 (ps.filter fun q=>decide (q ≠ p)) b=some u→(∃ φ,u=HO.ext φ) ∨ mask (upd H2 p (dicO p es)) ps b=some u:=fun b u hb=>by
    by_cases e:b=p
    · subst e
      have:=mask_le _ _ hb
      rw [hp2] at this
      cases this
      exact .inl ⟨_,rfl⟩
    · refine .inr ?_
      unfold mask at hb ⊢
      by_cases hbp:b ∈ ps
      · rw [if_pos (List.mem_filter.mpr ⟨hbp,decide_eq_true e⟩)] at hb; cases hb
      · rw [if_neg fun z=>hbp (List.mem_filter.mp z).1] at hb
        rw [if_neg hbp,upd_ne e]; exact hb
  have sO:Same H (upd H2 p (dicO p es)):=fun b u hb=>by
    by_cases e:b=p
    · subst e; rw [upd_same,← hb]; exact x.obj.symm
    · rw [upd_ne e]; exact s12 _ _ (by rw [upd_ne e]; exact hb)
  have o2:=o.grow sO
  have hm:=mask_same (ps:=ps) sO
  have ks2:=x.ks.same hm
  have vs2:=x.vs.same hm
  have ob2:upd H2 p (dicO p es) p=some (dicO p es):=upd_same
  have dk2:=dk_of_rep (w:=X.w) x.hsh x.nd hok ks2
  have hl:es.length=kvs.length:=by
    have:=congrArg List.length x.hsh
    simpa using this.symm
  have hL:sizeLine=2 ^ 24:=rfl
  have r2':Rep X.K (mask (upd H2 p (dicO p es)) ps) (.tuple ys) (.ref a):=r2.nd back (noDict (hk_lay kok.1))
  have r1':Rep X.K (mask (upd H2 p (dicO p es)) ps) v y:=(r1.same (mask_same s2)).nd back hvn
  have dk3:=dk2.put (v:=y) r2' kok
  have dkF:DK X.K X.w H2 es (kvs.map (·.1)):=dk_of_rep (w:=X.w) x.hsh x.nd hok ((x.ks.same s0).same ((mask_same s12).trans mask_le))
  refine ⟨p,a,es,kvs.map (·.1),_,ep,rfl,rfl,hp2,dkF,r2.same mask_le,kok,by omega,?_⟩
  have eU:upd H2 p (dicO p (putE X.w es (kvs.map (·.1)) (.tuple ys) a y))=upd (upd H2 p (dicO p es)) p (dicO p (putE X.w es (kvs.map (·.1)) (.tuple ys) a y)):=by
    funext b
    by_cases e:b=p
    · subst e; rw [upd_same,upd_same]
    · rw [upd_ne e,upd_ne e,upd_ne e]
  rw [eU]
  obtain ⟨o3,no3⟩:=o2.forget (i:=i) hi
  have o4:=o3.poke (u:=dicO p (putE X.w es (kvs.map (·.1)) (.tuple ys) a y)) x.mem x.new ob2 no3
  have hm4:mask (upd (upd H2 p (dicO p es)) p (dicO p (putE X.w es (kvs.map (·.1)) (.tuple ys) a y))) ps=mask (upd H2 p (dicO p es)) ps:=mask_upd x.mem
  have o5:=o4.toDic (i:=i) (es:=putE X.w es (kvs.map (·.1)) (.tuple ys) a y) (hs:=(putD kvs (.tuple ys) v).map fun kv=>hashD X.w kv.1) (kvs:=putD kvs (.tuple ys) v) hσ (fun j hs kws _=>no3 j hs kws)
    ⟨x.mem,x.new,x.out,upd_same,?_,?_,?_,?_⟩
  · rw [List.set_set] at o5
    exact f.nx _ ps _ σ o5 (by rw [hm4]; exact hm) q
  · rw [dk3.hs,← putD_keys kvs _ v,List.map_map]; rfl
  · rw [putD_keys]; exact dk3.nd
  · rw [hm4,putD_keys]; exact dk3.rep
  · rw [hm4]; exact vals_put _ vs2 r1'
end
end TL

set_option Elab.async false
set_option linter.all false
set_option maxRecDepth 100000
namespace L2
open PySem PySem.Spec PyProof.Rows
open AutoSeq1 (wpAny_loadPart')
section
variable {prog:Program} {w:World} {A:Around} {E:Value→Shared→Prop} {s:Shared}
theorem collect_rng {Q:List Value→Shared→Prop} {r:Addr} {a b c:Int} {t u v:Tok} {n:Nat} (hh:A.handled=none) (hr:IsRange s.heap r a b c t u v) (hsmall:Builtin.Range.small a b c=true) (hn:Builtin.Range.rangeSize a b c=n) (hlen:n≤2 ^ 24)
    (hQ:∀ h' tk acc,(∀ b o,s.heap.get? b=some o→h'.get? b=some o)→ItemsOf (fun i v=>∃ t,v=.int (a + i * c) t) acc n→Q acc.toList { s with heap:=h',toks:=tk }):wpAny (model prog w) A (collect (.ref r)) Q E s:=by
  unfold collect
  refine wpAny_bind (wpAny_runValue (codeAny_builtin PySem.F.entry_proto_collect ?_))
  rw [Around.under_plainId PySem.F.plain_proto_collect _]
  show wpAny _ A.in1 (newList [] >>= fun l=>again (.builtin "list.__iadd__" ⟨[l,.ref r],[]⟩)) _ _ s
  refine wpAny_bind (wpAny_newObj_type ?_)
  refine wpAny_pure ⟨plainId_quiet PySem.F.plain_list_iadd _,codeAny_builtin PySem.F.entry_list_iadd ?_⟩
  rw [Around.under_plainId PySem.F.plain_list_iadd _]
  have hS:(s.heap.push { cls:=.type "list",data:=.seq ([]:List Value).toArray }).get? s.heap.objs.size=some { cls:=.type "list",data:=.seq #[] }:=Heap.get?_push_size _ rfl
  show wpAny _ A.in1 (Builtin.List.listExtendWith (.ref s.heap.objs.size) (.ref r) (.ref s.heap.objs.size)) _ _ _
  refine wpAny_mono (wpAny_extend_range (A:=A) (R:=fun r s'=>r=.ok (.ret (.ref s.heap.objs.size))∧∃ h' tk acc c',s'={ s with heap:=h',toks:=tk }∧(∀ b o,b ≠ s.heap.objs.size→(s.heap.push { cls:=.type "list",data:=.seq ([]:List Value).toArray }).get? b=some o→h'.get? b=some o)∧h'.get? s.heap.objs.size=some { cls:=.type "list",dict:=none,data:=.seq acc c',slots:=#[] }∧ItemsOf (fun i v=>∃ t,v=.int (a + i * c) t) acc n)
    (s:={ s with heap:=s.heap.push { cls:=.type "list",data:=.seq ([]:List Value).toArray } }) hh (Heap.get?_push_of_some _ hr) hsmall hn hlen s.heap.objs.size (.ref s.heap.objs.size) 0 hS fun h' tk acc c' hk hS' hacc=>⟨rfl,h',tk,acc,c',rfl,hk,hS',hacc⟩) (fun fin s' h=>?_) (fun e s' h=>absurd h.1 (by simp))
  cases fin with
  | done f =>
    obtain ⟨e,h',tk,acc,c',rfl,hk,hS',hacc⟩:=h
    cases e
    (show wpAny _ A (load s.heap.objs.size >>= _) _ _ _; exact wpAny_bind (wpAny_load hS' (wpAny_pure (hQ h' tk acc (fun b o e=>hk b o (Nat.ne_of_lt (Heap.lt_size e)) (Heap.get?_push_of_some _ e)) hacc))))
  | again c' =>
    exact ⟨h.1,codeAny_mono h.2 fun r s'' hr=>by
      obtain ⟨rfl,h',tk,acc,c'',rfl,hk,hS',hacc⟩:=hr
      (show wpAny _ A (load s.heap.objs.size >>= _) _ _ _; exact wpAny_bind (wpAny_load hS' (wpAny_pure (hQ h' tk acc (fun b o e=>hk b o (Nat.ne_of_lt (Heap.lt_size e)) (Heap.get?_push_of_some _ e)) hacc))))⟩
theorem meets_tuple_rng (r:Addr) (a b c:Int) (t u v:Tok) (n:Nat) (hsmall:Builtin.Range.small a b c=true) (hn:Builtin.Range.rangeSize a b c=n) (hlen:n≤2 ^ 24) :
    Meets (Builtin.«tuple.__new__» ⟨[.type "tuple",.ref r],[]⟩)
      (fun A R s=>A.handled=none∧IsRange s.heap r a b c t u v∧∀ (h':Heap) (tk:Nat) (acc:Array Value),(∀ b o,s.heap.get? b=some o→h'.get? b=some o)→ItemsOf (fun i v=>∃ t,v=.int (a + i * c) t) acc n →
        R (.ok (.ret (.ref h'.objs.size))) { s with heap:=h'.push { cls:=.type "tuple",data:=.seq acc },toks:=tk }) :=
  .of_wp fun prog w A R s h=>by
    obtain ⟨hh,hr,h⟩:=h
    have hsub:=sub_tuple_self
    have hinit:=init_tuple_lookup
    have hmh:=madeHere_tuple
    have hT:s.TypeIs (.ref r) "range":=⟨_,hr,rfl⟩
    have hh1:A.in1.handled=none:=hh
    wp_walk using wpAny_loadPart' hr,wpAny_typeOf hT,collect_rng (A:=A.in1) hh1 hr hsmall hn hlen
    intro h' tk acc hk hacc
    show wpAny _ _ (Builtin.Tuple.tupleExact acc.toList.toArray >>= fun v=>ret v) _ _ _
    unfold Builtin.Tuple.tupleExact
    refine wpAny_bind (wpAny_newObj_type ?_ (show acc.toList.toArray.size≤sizeLine by simp only [Array.toArray_toList]; rw [hacc.1,sizeLine_eq]; omega))
    refine wpAny_pure ⟨_,rfl,?_⟩
    have e:acc.toList.toArray=acc:=by simp
    rw [e]
    exact h h' tk acc hk hacc
end
section
variable {X:Cx}
theorem call_tuple_rng (hc:X.calm=true):CallR X (.type "tuple") (fun xs H Q=>∃ (r:Addr) (j:Int),xs=[.ref r]∧H r=some (.ext (rngAt r j))∧0≤j∧j≤100000∧∀ p,H p=none→Q (.ref p) (upd H p (.tup ((List.range j.toNat).map fun (k:Nat)=>V.int (k:Int))))):=by
  intro pins s σ H xs us Q I r h
  obtain ⟨r',j,rfl,hr,h0,h1,q⟩:=h
  obtain ⟨u,rfl,ru⟩:=vals1 r
  cases ru
  obtain ⟨⟨t,u,v,hR⟩,_,_⟩:ObjOk X.prog X.w H s.heap r' (.ext (rngAt r' j)):=I.hok r' _ hr
  have hL:sizeLine=2 ^ 24:=rfl
  have hn:Builtin.Range.rangeSize 0 j 1=((j.toNat:Nat):Int):=by rw [rangeSize_one]; split <;> omega
  refine callType_new PySem.F.called_tuple (by decide) (PySem.F.typeCall_tuple_1 _) (PySem.F.newCall_tuple_1 _) (fun obj=>PySem.F.args_object_init_2 obj _) PySem.F.entry_tuple_new
    (meets_tuple_rng r' 0 j 1 t u v j.toNat (small_one (by decide) (by decide) (by omega) (by omega)) hn (by omega)) ⟨I.ok.hd hc,hR,fun h' tk acc hk hit=>⟨⟨_,Heap.get?_push_size _ rfl,rfl⟩,?_⟩⟩
  have I1:Inv X pins σ H { s with heap:=h',toks:=tk }:=I.kept (t':=tk) hk
  refine ⟨.ref h'.objs.size,_,I1.laid (t':=tk) (o:=.tup ((List.range j.toNat).map fun (k:Nat)=>V.int (k:Int))) (fun b o e=>Heap.get?_push_of_some _ e) (Nat.le_refl _) ?_,rfl,q _ (I1.hok.fresh (Nat.le_refl _))⟩
  refine ⟨by rw [List.length_map,List.length_range]; omega,acc.toList,?_,by simpa using TupN.new h' acc⟩
  rw [List.range_eq_range']
  refine vals_rng j.toNat 0 acc.toList (by rw [Array.length_toList]; exact hit.1) fun i v hv=>?_
  obtain ⟨t,ht⟩:=hit.2 i v (by simpa using hv)
  exact ⟨t,by rw [ht]; congr 1; omega⟩
end
end L2
namespace TL
open PySem PySem.Spec PyProof.Rows L2
section
variable {X:Cx} {a:Expr}
def eTRng (t:AT):ET:=fun σ Q=>t σ fun ds=>∃ n:Int,ds=[.int n]∧0≤n∧n≤100000∧Q (.tuple (intsTo n.toNat))
theorem et_trng {t:AT} {q1 q2 q3 q4:Pos} (ha:PAt X [a] t) (pc:∀ {ta:TA},PA X [a] ta→PE X (.Call (.Name "tuple" q1) [.Call (.Name "range" q2) [a] [] q3] [] q4) (tCB (fun xs H Q=>∃ (r:Addr) (j:Int),xs=[.ref r]∧H r=some (.ext (rngAt r j))∧0≤j∧j≤100000∧∀ p,H p=none→Q (.ref p) (upd H p (.tup ((List.range j.toNat).map fun (k:Nat)=>V.int (k:Int))))) (tCons (tCB (fun xs H Q=>∃ j:Int,xs=[.int j]∧∀ r,H r=none→Q (.ref r) (upd H r (.ext (rngAt r j)))) ta) tNil))):PEt X (.Call (.Name "tuple" q1) [.Call (.Name "range" q2) [a] [] q3] [] q4) (eTRng t):=by
  obtain ⟨va,pa,ra⟩:=ha
  refine ⟨_,pc pa,fun B p0 H ps σT σ Q QV o h k=>ra B p0 H ps σT σ _ _ o h fun ds xs H1 s1 r1 q1=>?_⟩
  obtain ⟨n,rfl,h0,h1,q⟩:=q1
  cases r1 with
  | cons r2 r3 =>
    cases r3
    cases r2
    refine ⟨n,rfl,fun r hr=>⟨r,n,rfl,upd_same,h0,h1,fun p hp=>?_⟩⟩
    have o1:=(o.grow s1).grow (same_new (o:=.ext (rngAt r n)) hr)
    exact k _ _ _ ((s1.trans (same_new hr)).trans (same_new hp)) (rep_tup o1.live hp (reps_rng _)) q
end
end TL

set_option Elab.async false
set_option linter.all false
set_option maxRecDepth 100000
namespace TL
open PySem PySem.Spec PyProof.Rows L2
section
variable {X:Cx} {e:Expr} {es:List Expr} {te:ET} {x:Str} {pos pos' p:Pos}
theorem ss (i:Nat) (hN:X.N.Nodup) (h:PEt X e te) (hi:X.N[i]?=some x:=by rfl) (hx:Loc X.env.scope x:=by first | exact Or.inl rfl | exact Or.inr rfl) (hs:swapsWith e (some (.Name x pos')) pos.line X.env=pure false:=by rfl)
    (hf:X.fn x=true ∨ X.env.scope.names.lookup x=some .local:=by first | exact .inl rfl | exact .inr rfl):PSt X (.Assign [.Name x pos'] e pos) (sSet i te):=st_set (i:=i) h fun h=>ps_set hN hi hx h hs hf
theorem pn (i:Nat) (hN:X.N.Nodup) (hi:X.N[i]?=some x:=by rfl) (hx:Loc X.env.scope x:=by first | exact Or.inl rfl | exact Or.inr rfl) (hf:X.fn x=true ∨ X.env.scope.names.lookup x=some .local:=by first | exact .inl rfl | exact .inr rfl):PG X (.Name x pos) (gName i):=pg_name hN hi hx hf
theorem ca {k:Nat} {f:Addr} {fd:FuncData} {pn:List Str} {sp:SpT} {t:AT} (F:FnOk X.prog X.w X.K X.mg X.base CX0 k f fd pn (liftSp X.K sp)) (hm:X.mg x=some (.ref f)) (hk:PySem.W.keepIn X.K (.ref f)=true) (hb:Binds X.K fd pn []) (hr:Room k X.A) (ha:PAt X (e::es) t)
    (hg:Gl X x:=by rfl) (hdb:(x == ("__debug__":Str))=false:=by decide) (he:starEach (e::es) X.env=(false,eval e X.env)::starEach es X.env:=by rfl) (hpl:(backTo pos (starEach es X.env)).any (·.1)=false:=by rfl):PEt X (.Call (.Name x p) (e::es) [] pos) (eCall sp t) :=
  et_call F hm hk hb hr ha fun h=>pe_call F hr hg hm hk hb .nil pass0 h hdb he hpl
theorem fsc {N P:List Str} {sc:Scope} (h1:sc.kind=.function:=by rfl) (h2:sc.isCoroutine=false:=by rfl) (h3:sc.isGenerator=false:=by rfl) (h4:N.Nodup:=by decide +kernel) (h5:N.take P.length=P:=by rfl) (h6:∀ x ∈ P,sc.names.lookup x=some .local ∨ sc.names.lookup x=some .cell:=by decide +kernel) (h7:∀ y ∈ sc.names,y.2 ≠ .free:=by decide +kernel):FnScope N P sc:=⟨h1,h2,h3,h4,h5,h6,h7⟩
end
end TL

set_option Elab.async false
set_option linter.all false
set_option maxRecDepth 100000
namespace K35
open PySem L2 TL
def top (i:Nat):Stmt:=PySem.Challenge.pw_leafjudge_k35_least_of_all_gone_through.main.body.getD i (.Pass ⟨0,0,0,0⟩)
set_option genInjectivity false in
set_option genSizeOf false in
structure Adr where
  a_0:Addr
  f_0:FuncData
  a_1:Addr
  f_1:FuncData
  a_2:Addr
  f_2:FuncData
  a_3:Addr
  f_3:FuncData
  a_4:Addr
  f_4:FuncData
  a_5:Addr
  f_5:FuncData
  a_6:Addr
  f_6:FuncData
  a_7:Addr
  f_7:FuncData
  a_8:Addr
  f_8:FuncData
  a_9:Addr
  f_9:FuncData
  a_10:Addr
  f_10:FuncData
  a_11:Addr
  f_11:FuncData
  a_12:Addr
  f_12:FuncData
  a_13:Addr
  f_13:FuncData
  a_14:Addr
  f_14:FuncData
  a_15:Addr
  f_15:FuncData
  a_16:Addr
  f_16:FuncData
  a_17:Addr
  f_17:FuncData
  a_18:Addr
  f_18:FuncData
  a_19:Addr
  f_19:FuncData
  a_20:Addr
  f_20:FuncData
  a_21:Addr
  f_21:FuncData
  a_22:Addr
  f_22:FuncData
  a_23:Addr
  f_23:FuncData
  a_24:Addr
  f_24:FuncData
  a_25:Addr
  f_25:FuncData
  a_26:Addr
  f_26:FuncData
  a_27:Addr
  f_27:FuncData
  a_28:Addr
  f_28:FuncData
  a_29:Addr
  f_29:FuncData
  a_30:Addr
  f_30:FuncData
  a_31:Addr
  f_31:FuncData
  a_32:Addr
  f_32:FuncData
  a_33:Addr
  f_33:FuncData
  a_34:Addr
  f_34:FuncData
  a_35:Addr
  f_35:FuncData
  a_law:Addr
  f_law:FuncData
  c_RowSets:Addr
  t_SIDES:Addr
  t_MOST_SETS:Tok
structure Txt (K:PySem.W.Frag) (mg:Str→Option Value) (A:Adr):Prop where
  k_0:PySem.W.keepIn K (.ref A.a_0)=true
  F_0:Fun K "__init__" "RowSets.__init__" (methOf (top 17) 0) A.a_0 A.f_0
  d_0:Binds K A.f_0 ["self","form","rows","prices"] []
  k_1:PySem.W.keepIn K (.ref A.a_1)=true
  F_1:Fun K "leaf_of" "RowSets.leaf_of" (methOf (top 17) 1) A.a_1 A.f_1
  d_1:Binds K A.f_1 ["self","numbers"] []
  k_2:PySem.W.keepIn K (.ref A.a_2)=true
  F_2:Fun K "partings" "RowSets.partings" (methOf (top 17) 2) A.a_2 A.f_2
  d_2:Binds K A.f_2 ["self","numbers"] []
  m_3:mg "counted"=some (.ref A.a_3)
  k_3:PySem.W.keepIn K (.ref A.a_3)=true
  F_3:Fun K "counted" "counted" (top 4) A.a_3 A.f_3
  d_3:Binds K A.f_3 ["form","rows"] []
  m_4:mg "first_answer"=some (.ref A.a_4)
  k_4:PySem.W.keepIn K (.ref A.a_4)=true
  F_4:Fun K "first_answer" "first_answer" (top 5) A.a_4 A.f_4
  d_4:Binds K A.f_4 ["form","rows"] []
  m_5:mg "questions_of"=some (.ref A.a_5)
  k_5:PySem.W.keepIn K (.ref A.a_5)=true
  F_5:Fun K "questions_of" "questions_of" (top 8) A.a_5 A.f_5
  d_5:Binds K A.f_5 ["form"] []
  m_6:mg "questions_on"=some (.ref A.a_6)
  k_6:PySem.W.keepIn K (.ref A.a_6)=true
  F_6:Fun K "questions_on" "questions_on" (top 9) A.a_6 A.f_6
  d_6:Binds K A.f_6 ["field"] []
  m_7:mg "choices_of"=some (.ref A.a_7)
  k_7:PySem.W.keepIn K (.ref A.a_7)=true
  F_7:Fun K "choices_of" "choices_of" (top 10) A.a_7 A.f_7
  d_7:Binds K A.f_7 ["form"] []
  m_8:mg "side_of"=some (.ref A.a_8)
  k_8:PySem.W.keepIn K (.ref A.a_8)=true
  F_8:Fun K "side_of" "side_of" (top 11) A.a_8 A.f_8
  d_8:Binds K A.f_8 ["form","question","stray","case"] []
  m_9:mg "field_asked"=some (.ref A.a_9)
  k_9:PySem.W.keepIn K (.ref A.a_9)=true
  F_9:Fun K "field_asked" "field_asked" (top 12) A.a_9 A.f_9
  d_9:Binds K A.f_9 ["form","question"] []
  m_10:mg "entries_to_yes"=some (.ref A.a_10)
  k_10:PySem.W.keepIn K (.ref A.a_10)=true
  F_10:Fun K "entries_to_yes" "entries_to_yes" (top 13) A.a_10 A.f_10
  d_10:Binds K A.f_10 ["question","stray","field"] []
  m_11:mg "values_held"=some (.ref A.a_11)
  k_11:PySem.W.keepIn K (.ref A.a_11)=true
  F_11:Fun K "values_held" "values_held" (top 14) A.a_11 A.f_11
  d_11:Binds K A.f_11 ["question","field"] []
  m_12:mg "is_proper"=some (.ref A.a_12)
  k_12:PySem.W.keepIn K (.ref A.a_12)=true
  F_12:Fun K "is_proper" "is_proper" (top 15) A.a_12 A.f_12
  d_12:Binds K A.f_12 ["sides","fewest"] []
  m_13:mg "sides_of_rows"=some (.ref A.a_13)
  k_13:PySem.W.keepIn K (.ref A.a_13)=true
  F_13:Fun K "sides_of_rows" "sides_of_rows" (top 18) A.a_13 A.f_13
  d_13:Binds K A.f_13 ["form","choice","rows"] []
  m_14:mg "least"=some (.ref A.a_14)
  k_14:PySem.W.keepIn K (.ref A.a_14)=true
  F_14:Fun K "least" "least" (top 21) A.a_14 A.f_14
  d_14:Binds K A.f_14 ["form","rows","deep","prices"] []
  m_15:mg "known_trees"=some (.ref A.a_15)
  k_15:PySem.W.keepIn K (.ref A.a_15)=true
  F_15:Fun K "known_trees" "known_trees" (top 22) A.a_15 A.f_15
  d_15:Binds K A.f_15 ["sets","numbers","deep"] []
  m_16:mg "sets_met"=some (.ref A.a_16)
  k_16:PySem.W.keepIn K (.ref A.a_16)=true
  F_16:Fun K "sets_met" "sets_met" (top 23) A.a_16 A.f_16
  d_16:Binds K A.f_16 ["sets","numbers","deep"] []
  m_17:mg "sides_of_all"=some (.ref A.a_17)
  k_17:PySem.W.keepIn K (.ref A.a_17)=true
  F_17:Fun K "sides_of_all" "sides_of_all" (top 24) A.a_17 A.f_17
  d_17:Binds K A.f_17 ["sets","level"] []
  m_18:mg "cheapest"=some (.ref A.a_18)
  k_18:PySem.W.keepIn K (.ref A.a_18)=true
  F_18:Fun K "cheapest" "cheapest" (top 25) A.a_18 A.f_18
  d_18:Binds K A.f_18 ["sets","known","numbers","deep"] []
  m_19:mg "tree_for"=some (.ref A.a_19)
  k_19:PySem.W.keepIn K (.ref A.a_19)=true
  F_19:Fun K "tree_for" "tree_for" (top 26) A.a_19 A.f_19
  d_19:Binds K A.f_19 ["sets","known","numbers","deep"] []
  m_20:mg "_law_tape"=some (.ref A.a_20)
  k_20:PySem.W.keepIn K (.ref A.a_20)=true
  F_20:Fun K "_law_tape" "_law_tape" (top 28) A.a_20 A.f_20
  d_20:Binds K A.f_20 ["_law_script"] []
  m_21:mg "_law_draw"=some (.ref A.a_21)
  k_21:PySem.W.keepIn K (.ref A.a_21)=true
  F_21:Fun K "_law_draw" "_law_draw" (top 29) A.a_21 A.f_21
  d_21:Binds K A.f_21 ["_law_tape_here","_law_many"] []
  m_22:mg "_law_names"=some (.ref A.a_22)
  k_22:PySem.W.keepIn K (.ref A.a_22)=true
  F_22:Fun K "_law_names" "_law_names" (top 30) A.a_22 A.f_22
  d_22:Binds K A.f_22 ["_law_tape_here","_law_many"] []
  m_23:mg "_law_form"=some (.ref A.a_23)
  k_23:PySem.W.keepIn K (.ref A.a_23)=true
  F_23:Fun K "_law_form" "_law_form" (top 31) A.a_23 A.f_23
  d_23:Binds K A.f_23 ["_law_tape_here","_law_fields","_law_values"] []
  m_24:mg "_law_case"=some (.ref A.a_24)
  k_24:PySem.W.keepIn K (.ref A.a_24)=true
  F_24:Fun K "_law_case" "_law_case" (top 32) A.a_24 A.f_24
  d_24:Binds K A.f_24 ["_law_tape_here","_law_form_here"] []
  m_25:mg "_law_rows"=some (.ref A.a_25)
  k_25:PySem.W.keepIn K (.ref A.a_25)=true
  F_25:Fun K "_law_rows" "_law_rows" (top 33) A.a_25 A.f_25
  d_25:Binds K A.f_25 ["_law_tape_here","_law_form_here","_law_many"] []
  m_26:mg "_law_questions"=some (.ref A.a_26)
  k_26:PySem.W.keepIn K (.ref A.a_26)=true
  F_26:Fun K "_law_questions" "_law_questions" (top 34) A.a_26 A.f_26
  d_26:Binds K A.f_26 ["_law_form_here"] []
  m_27:mg "_law_side"=some (.ref A.a_27)
  k_27:PySem.W.keepIn K (.ref A.a_27)=true
  F_27:Fun K "_law_side" "_law_side" (top 35) A.a_27 A.f_27
  d_27:Binds K A.f_27 ["_law_form_here","_law_question","_law_stray","_law_case_here"] []
  m_28:mg "_law_parts"=some (.ref A.a_28)
  k_28:PySem.W.keepIn K (.ref A.a_28)=true
  F_28:Fun K "_law_parts" "_law_parts" (top 36) A.a_28 A.f_28
  d_28:Binds K A.f_28 ["_law_form_here","_law_question","_law_stray","_law_rows_here"] []
  m_29:mg "_law_counts"=some (.ref A.a_29)
  k_29:PySem.W.keepIn K (.ref A.a_29)=true
  F_29:Fun K "_law_counts" "_law_counts" (top 37) A.a_29 A.f_29
  d_29:Binds K A.f_29 ["_law_form_here","_law_rows_here"] []
  m_30:mg "_law_first"=some (.ref A.a_30)
  k_30:PySem.W.keepIn K (.ref A.a_30)=true
  F_30:Fun K "_law_first" "_law_first" (top 38) A.a_30 A.f_30
  d_30:Binds K A.f_30 ["_law_form_here","_law_rows_here"] []
  m_31:mg "_law_knots"=some (.ref A.a_31)
  k_31:PySem.W.keepIn K (.ref A.a_31)=true
  F_31:Fun K "_law_knots" "_law_knots" (top 39) A.a_31 A.f_31
  d_31:Binds K A.f_31 ["_law_tree"] []
  m_32:mg "_law_slips"=some (.ref A.a_32)
  k_32:PySem.W.keepIn K (.ref A.a_32)=true
  F_32:Fun K "_law_slips" "_law_slips" (top 40) A.a_32 A.f_32
  d_32:Binds K A.f_32 ["_law_form_here","_law_tree","_law_rows_here"] []
  m_33:mg "_law_prices"=some (.ref A.a_33)
  k_33:PySem.W.keepIn K (.ref A.a_33)=true
  F_33:Fun K "_law_prices" "_law_prices" (top 41) A.a_33 A.f_33
  d_33:Binds K A.f_33 ["_law_tape_here"] []
  m_34:mg "_law_all_least"=some (.ref A.a_34)
  k_34:PySem.W.keepIn K (.ref A.a_34)=true
  F_34:Fun K "_law_all_least" "_law_all_least" (top 42) A.a_34 A.f_34
  d_34:Binds K A.f_34 ["_law_form_here","_law_rows_here","_law_deep","_law_prices_here"] []
  m_35:mg "_law_is_tree"=some (.ref A.a_35)
  k_35:PySem.W.keepIn K (.ref A.a_35)=true
  F_35:Fun K "_law_is_tree" "_law_is_tree" (top 43) A.a_35 A.f_35
  d_35:Binds K A.f_35 ["_law_form_here","_law_tree","_law_deep"] []
  m_law:mg "law"=some (.ref A.a_law)
  k_law:PySem.W.keepIn K (.ref A.a_law)=true
  F_law:Fun K "law" "law" (top 44) A.a_law A.f_law
  d_law:Binds K A.f_law ["_law_script"] []
  c_SIDES:mg "SIDES"=some (.ref A.t_SIDES)
  t_SIDES:KTup K A.t_SIDES ["yes","no"]
  c_MOST_SETS:mg "MOST_SETS"=some (.int 400 A.t_MOST_SETS)
  x_RowSets:mg "RowSets"=some (.ref A.c_RowSets)
  C_RowSets:Cls K A.c_RowSets
  K_RowSets:Mk K A.c_RowSets A.a_0
  n_RowSets_form:NoAttr K A.c_RowSets "form"
  n_RowSets_kept:NoAttr K A.c_RowSets "kept"
  n_RowSets_slip:NoAttr K A.c_RowSets "slip"
  n_RowSets_knot:NoAttr K A.c_RowSets "knot"
  n_RowSets_choices:NoAttr K A.c_RowSets "choices"
  M_1:Meth K A.c_RowSets "leaf_of" A.a_1
  M_2:Meth K A.c_RowSets "partings" A.a_2
  b_ValueError:mg "ValueError"=none
  b_bool:mg "bool"=none
  b_int:mg "int"=none
  b_isinstance:mg "isinstance"=none
  b_len:mg "len"=none
  b_list:mg "list"=none
  b_max:mg "max"=none
  b_min:mg "min"=none
  b_range:mg "range"=none
  b_reversed:mg "reversed"=none
  b_tuple:mg "tuple"=none
def letters:Str:="abcdefghijklmnopqrstuvwxyz"
def sgn (c:Nat):Bool:=Txt.contains letters ⟨#[c]⟩
def nmS (z:Str):Bool:=decide (1≤z.length) && decide (z.length≤8) && z.cps.toList.all sgn
def nm:D→Bool
  | .str z=>nmS z
  | _=>false
def txt:D→Str
  | .str z=>z
  | _=>""
def nms (d:D) (lo hi:Int):Bool:=match d with | .tuple ts=>decide (lo≤ts.length) && decide ((ts.length:Int)≤hi) && ts.all nm && decide ((ts.map txt).Nodup) | _=>false
def fld:D→Bool
  | .tuple [n,vs]=>nm n && nms vs 2 5
  | _=>false
def fst:D→D
  | .tuple (n::_)=>n
  | _=>.none
def Nms (n:Nat) (ys:List Str):Prop:=ys.length=n∧(∀ y ∈ ys,nmS y=true)∧ys.Nodup
def fldD (f:Str × List Str):D:=.tuple [.str f.1,.tuple (f.2.map PyData.str)]
def frmD (fs:List (Str × List Str)) (an:List Str):D:=.tuple [.tuple (fs.map fldD),.tuple (an.map PyData.str)]
structure Form (fs:List (Str × List Str)) (an:List Str):Prop where
  n1:1≤fs.length
  n5:fs.length≤5
  nd:Nms fs.length (fs.map (·.1))
  vs:∀ f ∈ fs,2≤f.2.length∧f.2.length≤5∧Nms f.2.length f.2
  a2:2≤an.length
  a4:an.length≤4
  an:Nms an.length an
def sp_20:SpT:=fun _ _=>False
def sp_21:SpC:=fun _ n ds Q=>∃ m:Int,ds=[.int m]∧0 < m∧m≤100000∧n < 1099511627776∧∀ r:Int,0≤r→r < m→Q (n + 1) (.int r)
def sp_22:SpC:=fun _ n ds Q=>∃ m:Nat,ds=[.int m]∧1≤m∧m≤5∧n < 1000000000000∧∀ n' ys,n'≤n + 12→Nms m ys→Q n' (.tuple (ys.map PyData.str))
def sp_23:SpC:=fun _ n ds Q=>∃ f v:Nat,ds=[.int f,.int v]∧1≤f∧f≤5∧2≤v∧v≤5∧n < 900000000000∧∀ n' fs an,n'≤n + 100→Form fs an→fs.length=f→(∀ x ∈ fs,x.2.length≤v)→Q n' (frmD fs an)
theorem atI_in {α:Type} {xs:List α} {i:Int} (h0:0≤i) (h1:i < xs.length):∃ a,a ∈ xs∧L2.atI xs i=some a∧xs[i.toNat]?=some a:=by
  have hi:i.toNat < xs.length:=by omega
  refine ⟨xs[i.toNat],List.getElem_mem hi,?_,List.getElem?_eq_getElem hi⟩
  have:=L2.atI_nat (xs:=xs) (j:=i.toNat) (v:=xs[i.toNat]) (List.getElem?_eq_getElem hi)
  rwa [show ((i.toNat:Nat):Int)=i by omega] at this
theorem intsTo_len (n:Nat):(intsTo n).length=n:=by unfold intsTo; simp
theorem intsTo_get {n k:Nat} {x:D} (h:(intsTo n)[k]?=some x):k < n∧x=.int k:=by
  unfold intsTo at h
  rw [List.getElem?_map] at h
  by_cases hk:k < n
  · rw [List.getElem?_range hk] at h
    cases h
    exact ⟨hk,rfl⟩
  · rw [List.getElem?_eq_none (by simpa using hk)] at h
    cases h
theorem cut_ns {α:Type} (xs:List α) (j:Nat):cutD xs none (some (j:Int))=xs.take j:=by
  unfold cutD
  rw [HT.sIx_none,HT.sIx_nat,List.drop_zero,Nat.sub_zero]
  by_cases h:j≤xs.length
  · rw [Nat.min_eq_left h]
  · rw [Nat.min_eq_right (by omega),List.take_length,List.take_of_length_le (by omega)]
theorem cut_sn {α:Type} (xs:List α) (i:Nat):cutD xs (some (i:Int)) none=xs.drop i:=by
  unfold cutD
  rw [HT.sIx_none,HT.sIx_nat]
  by_cases h:i≤xs.length
  · rw [Nat.min_eq_left h,List.take_of_length_le (by rw [List.length_drop]; omega)]
  · rw [Nat.min_eq_right (by omega),List.drop_eq_nil_of_le (Nat.le_refl _),List.drop_eq_nil_of_le (by omega)]
    simp
theorem cut_map {α β:Type} (f:α→β) (xs:List α) (lo hi:Option Int):cutD (xs.map f) lo hi=(cutD xs lo hi).map f:=by
  unfold cutD
  rw [List.length_map,List.map_take,List.map_drop]
theorem nmS_of {z:Str} (h1:1≤z.cps.toList.length) (h2:z.cps.toList.length≤8) (h3:∀ c ∈ z.cps.toList,c ∈ letters.cps.toList):nmS z=true:=by
  have e:z.length=z.cps.toList.length:=by simp [Str.length]
  unfold nmS
  rw [e,decide_eq_true h1,decide_eq_true h2]
  simp only [Bool.true_and,List.all_eq_true]
  intro c hc
  unfold sgn
  rw [in_one]
  exact decide_eq_true (h3 c hc)
theorem nmS_iff {z:Str} (h:nmS z=true):1≤z.length∧z.length≤8∧∀ c ∈ z.cps.toList,c ∈ letters.cps.toList:=by
  unfold nmS at h
  simp only [Bool.and_eq_true,decide_eq_true_eq,List.all_eq_true] at h
  refine ⟨h.1.1,h.1.2,fun c hc=>?_⟩
  have:=h.2 c hc
  unfold sgn at this
  rw [in_one] at this
  exact of_decide_eq_true this
theorem nodup_range {α:Type} {n:Nat} (F:Nat→α) (inj:∀ i j,i < n→j < n→F i=F j→i=j):((List.range n).map F).Nodup:=by
  rw [List.Nodup,List.pairwise_map]
  have:(List.range n).Nodup:=List.nodup_range
  refine List.Pairwise.imp_of_mem (fun {a b} ha hb hab e=>?_) this
  exact hab (inj a b (by simpa using ha) (by simpa using hb) e)
theorem letters_nd:letters.cps.toList.Nodup:=by decide +kernel
theorem letters_len:letters.cps.toList.length=26:=by decide +kernel
theorem nth_inj {xs:List Nat} (nd:xs.Nodup) {i j:Nat} {c:Nat} (h1:xs[i]?=some c) (h2:xs[j]?=some c):i=j:=by
  obtain ⟨a1,a2⟩:=List.getElem?_eq_some_iff.mp h1
  obtain ⟨b1,b2⟩:=List.getElem?_eq_some_iff.mp h2
  exact (List.getElem_inj nd).mp (a2.trans b2.symm)
theorem signs_of:∀ {ys:List D},(∀ y ∈ ys,∃ c,c ∈ letters.cps.toList∧y=.str ⟨#[c]⟩)→∃ cs:List Nat,ys=cs.map (fun c=>PyData.str ⟨#[c]⟩)∧∀ c ∈ cs,c ∈ letters.cps.toList
  | [],_=>⟨[],rfl,fun c h=>by simp at h⟩
  | y::ys,h=>by
    obtain ⟨c,hc,rfl⟩:=h y (List.mem_cons_self ..)
    obtain ⟨cs,rfl,h2⟩:=signs_of (ys:=ys) fun y hy=>h y (List.mem_cons_of_mem _ hy)
    refine ⟨c::cs,rfl,fun d hd=>?_⟩
    rcases List.mem_cons.mp hd with rfl | hd
    · exact hc
    · exact h2 d hd
theorem join_signs (cs:List Nat):(Txt.join ⟨#[]⟩ (cs.map fun c=>⟨#[c]⟩)).cps.toList=cs:=by
  rw [join_codes,List.map_map]
  induction cs with
  | nil=>rfl
  | cons c cs ih=>rw [List.map_cons,List.flatten_cons,ih]; rfl
theorem atI_strs {ys:List Str} {k:Nat} (h:k < ys.length):L2.atI (ys.map PyData.str) (k:Int)=some (.str ys[k]):=L2.atI_nat (by rw [List.getElem?_map,List.getElem?_eq_getElem h]; rfl)
theorem seq_ifsetC {c:TTt} {te:ET} {u:STt} {DT:EndsT} {σ:List Sl} {i:Nat} (C:Prop) (R:D→Prop) (h:∀ q:Bool→Prop,(∀ b,(b=true→C)→q b)→c σ q) (h1:C→∀ q:D→Prop,(∀ d,R d→q d)→te σ q) (d0:D) (h0:σ[i]?=some (.val d0)) (r0:R d0) (k:∀ d,R d→u DT (σ.set i (.val d))):sSeq (sIf c (sSet i te) sNext) u DT σ:=by
  refine h _ fun b hb=>?_
  cases b with
  | true =>
    rw [if_pos rfl]
    exact h1 (hb rfl) _ k
  | false =>
    rw [if_neg (by decide)]
    have e:σ.set i (.val d0)=σ:=by
      apply List.ext_getElem?
      intro j
      by_cases hj:i=j
      · subst hj
        rw [List.getElem?_set_self (List.getElem?_eq_some_iff.mp h0).1,h0]
      · rw [List.getElem?_set_ne hj]
    have:=k d0 r0
    rw [e] at this
    exact this
theorem nms_rangeN {n:Nat} (F:Nat→Str) (h:∀ i,i < n→nmS (F i)=true) (inj:∀ i j,i < n→j < n→F i=F j→i=j):Nms n ((List.range n).map F) :=
  ⟨by simp,fun y hy=>by
    obtain ⟨i,hi,rfl⟩:=List.mem_map.mp hy
    exact h i (by simpa using hi),nodup_range F inj⟩
theorem nms_turnN {n:Nat} {ys:List Str} (h:Nms n ys) (t:Nat) {m:Nat} (hm:m≤n):Nms m ((ys.drop t++ys.take t).take m):=by
  have hp:(ys.drop t++ys.take t).Perm ys:=by
    have:(ys.take t++ys.drop t).Perm ys:=by rw [List.take_append_drop]
    exact List.perm_append_comm.trans this
  refine ⟨?_,fun y hy=>h.2.1 y (hp.mem_iff.mp (List.mem_of_mem_take hy)),(hp.nodup_iff.mpr h.2.2).sublist (List.take_sublist _ _)⟩
  rw [List.length_take,hp.length_eq,h.1]
  omega
theorem nms_turnW {n:Nat} {ys:List Str} (h:Nms n ys) (t:Nat):Nms n (ys.drop t++ys.take t):=by
  have e:=nms_turnN h t (Nat.le_refl n)
  rwa [List.take_of_length_le] at e
  rw [List.length_append,List.length_drop,List.length_take,h.1]
  omega
theorem atI_modI {ns:List Int} (h:0 < ns.length) (i:Int):∃ x:Int,L2.atI (ns.map PyData.int) (i % ((ns.map PyData.int).length:Nat))=some (.int x):=by
  rw [List.length_map]
  obtain ⟨a,hm,ha,_⟩:=atI_in (xs:=ns.map PyData.int) (i:=i % (ns.length:Nat)) (Int.emod_nonneg _ (by omega)) (by rw [List.length_map]; exact Int.emod_lt_of_pos _ (by omega))
  obtain ⟨b,hb,rfl⟩:=List.mem_map.mp hm
  exact ⟨b,ha⟩
@[irreducible] def cAt (i:Nat):Nat:=letters.cps.toList.getD i 0
theorem cAt_get {i:Nat} (h:i < 26):letters.cps.toList[i]?=some (cAt i):=by
  have hl:i < letters.cps.toList.length:=by rw [letters_len]; exact h
  unfold cAt
  rw [List.getD_eq_getElem?_getD,List.getElem?_eq_getElem hl]; rfl

theorem cAt_mem {i:Nat} (h:i < 26):cAt i ∈ letters.cps.toList:=List.mem_of_getElem? (cAt_get h)
theorem nth_injA {α:Type} {xs:List α} (nd:xs.Nodup) {i j:Nat} {c:α} (h1:xs[i]?=some c) (h2:xs[j]?=some c):i=j:=by
  obtain ⟨a1,a2⟩:=List.getElem?_eq_some_iff.mp h1
  obtain ⟨b1,b2⟩:=List.getElem?_eq_some_iff.mp h2
  exact (List.getElem_inj nd).mp (a2.trans b2.symm)
def words10:List Str:=["say","ask","is","upto","yes","no","all","in","none","a"]
theorem words10_nd:words10.Nodup:=by decide +kernel
theorem words10_nm:∀ y ∈ words10,nmS y=true:=by decide +kernel
@[irreducible] def wAt (i:Nat):Str:=words10.getD i ""
theorem wAt_get {i:Nat} (h:i < 10):words10[i]?=some (wAt i):=by
  have hl:i < words10.length:=h
  unfold wAt
  rw [List.getD_eq_getElem?_getD,List.getElem?_eq_getElem hl]; rfl
theorem nms_words10 {s m:Nat} (hm:m≤10):Nms m ((List.range m).map fun j:Nat=>wAt ((s + 3 * j) % 10)):=by
  refine nms_rangeN _ (fun i hi=>words10_nm _ (List.mem_of_getElem? (wAt_get (Nat.mod_lt _ (by decide))))) fun i j hi hj h=>?_
  have l1:=wAt_get (i:=(s + 3 * i) % 10) (Nat.mod_lt _ (by decide))
  have l2:=wAt_get (i:=(s + 3 * j) % 10) (Nat.mod_lt _ (by decide))
  have h':wAt ((s + 3 * i) % 10)=wAt ((s + 3 * j) % 10):=h
  rw [← h'] at l2
  have:=nth_injA words10_nd l1 l2
  omega
theorem nms_pref {z:Str} (hz7:z.cps.toList.length=7) (hzl:∀ c ∈ z.cps.toList,c ∈ letters.cps.toList) {m:Nat} (hm:m≤7):Nms m ((List.range m).map fun j:Nat=>Txt.slice z none (some ((j:Int) + 1))):=by
  have e:∀ j:Nat,(Txt.slice z none (some ((j:Int) + 1))).cps.toList=z.cps.toList.take (j + 1):=fun j=>by
    rw [slice_codes]; exact cut_ns _ (j + 1)
  refine nms_rangeN _ (fun i hi=>?_) fun i j hi hj h=>?_
  · refine nmS_of ?_ ?_ fun c hc=>?_
    · rw [e,List.length_take]; omega
    · rw [e,List.length_take]; omega
    · rw [e] at hc; exact hzl c (List.mem_of_mem_take hc)
  · have e1:=e i
    rw [h,e j] at e1
    have:=congrArg List.length e1
    rw [List.length_take,List.length_take] at this
    omega
def insAt (z:Str) (t c:Nat):Str:=Txt.slice z none (some (t:Int))++⟨#[c]⟩++Txt.slice z (some (t:Int)) none
theorem insAt_codes (z:Str) (t c:Nat):(insAt z t c).cps.toList=z.cps.toList.take t++(c::z.cps.toList.drop t):=by
  unfold insAt
  rw [app_codes,app_codes,slice_codes,slice_codes,cut_sn,cut_ns]
  simp
theorem nms_ins {z:Str} (hz7:z.cps.toList.length=7) (hzl:∀ c ∈ z.cps.toList,c ∈ letters.cps.toList) {t s m:Nat} (hm:m≤26):Nms m ((List.range m).map fun j:Nat=>insAt z t (cAt ((s + 7 * j) % 26))):=by
  refine nms_rangeN _ (fun i hi=>?_) fun i j hi hj h=>?_
  · have e:=insAt_codes z t (cAt ((s + 7 * i) % 26))
    refine nmS_of ?_ ?_ fun c hc=>?_
    · rw [e,List.length_append,List.length_cons]; omega
    · rw [e,List.length_append,List.length_cons,List.length_take,List.length_drop]; omega
    · rw [e] at hc
      rcases List.mem_append.mp hc with hc | hc
      · exact hzl c (List.mem_of_mem_take hc)
      · rcases List.mem_cons.mp hc with rfl | hc
        · exact cAt_mem (Nat.mod_lt _ (by decide))
        · exact hzl c (List.mem_of_mem_drop hc)
  · have e1:=insAt_codes z t (cAt ((s + 7 * i) % 26))
    have h':insAt z t (cAt ((s + 7 * i) % 26))=insAt z t (cAt ((s + 7 * j) % 26)):=h
    rw [h',insAt_codes] at e1
    have e2:=List.append_cancel_left e1
    have e3:cAt ((s + 7 * j) % 26)=cAt ((s + 7 * i) % 26):=(List.cons.inj e2).1
    have l1:=cAt_get (i:=(s + 7 * i) % 26) (Nat.mod_lt _ (by decide))
    have l2:=cAt_get (i:=(s + 7 * j) % 26) (Nat.mod_lt _ (by decide))
    rw [e3] at l2
    have:=nth_inj letters_nd l1 l2
    omega
theorem insAt_len (z:Str) (hz7:z.cps.toList.length=7) (t c:Nat):(Txt.slice z none (some (t:Int))).length + 1≤100000∧(Txt.slice z none (some (t:Int))++(⟨#[c]⟩:Str)).length + (Txt.slice z (some (t:Int)) none).length≤100000:=by
  have a1:=Txt.slice_le z none (some (t:Int))
  have a2:=Txt.slice_le z (some (t:Int)) none
  have a3:z.length=z.cps.toList.length:=by simp [Str.length]
  have a4:(Txt.slice z none (some (t:Int))++(⟨#[c]⟩:Str)).length=(Txt.slice z none (some (t:Int))).length + 1:=by
    show ((Txt.slice z none (some (t:Int))).cps++#[_]).size=_
    rw [Array.size_append]; rfl
  rw [a4]
  omega
theorem natOf {r:Int} (h:0≤r):∃ t:Nat,r=(t:Int):=⟨r.toNat,(Int.toNat_of_nonneg h).symm⟩
theorem flds_of {Pv:List Str→Prop}:∀ (ns:List Str) (ys:List D),ys.length=ns.length→(∀ (k:Nat) (x y:D),(ns.map PyData.str)[k]?=some x→ys[k]?=some y→∃ nm vs,x=.str nm∧y=fldD (nm,vs)∧Pv vs)→∃ fs:List (Str × List Str),ys=fs.map fldD∧fs.map (·.1)=ns∧∀ f ∈ fs,Pv f.2
  | [],ys,hl,_=>⟨[],List.length_eq_zero_iff.mp hl,rfl,fun f hf=>by simp at hf⟩
  | n::ns,[],hl,_=>by simp at hl
  | n::ns,y::ys,hl,h=>by
    obtain ⟨nm,vs,e1,e2,hp⟩:=h 0 (.str n) y rfl rfl
    cases e1
    obtain ⟨fs,h1,h2,h3⟩:=flds_of ns ys (by simpa using hl) fun k x y hx hy=>h (k + 1) x y (by simpa using hx) (by simpa using hy)
    refine ⟨(n,vs)::fs,by rw [e2,h1]; rfl,by rw [List.map_cons,h2],fun f hf=>?_⟩
    rcases List.mem_cons.mp hf with rfl | hf
    · exact hp
    · exact h3 f hf
def okV (f:Str × List Str) (d:D):Bool:=match d with | .none=>true | .str z=>decide (z ∈ f.2) | _=>false
def isAns (an:List Str) (d:D):Bool:=match d with | .str z=>decide (z ∈ an) | _=>false
structure Cd (d:D):Prop where
  lay:d.canLay0=true
  dep:d.depth≤60
structure Th (n m:Nat) (d:D):Prop where
  bulk:d.bulk≤n
  fit:d.leavesShort 110=true
  shw:d.showable=true
  nodict:d.hasDict=false
  depth:d.depth≤m
  lay:d.canLay0=true
theorem Th.mono {n n' m m':Nat} {d:D} (h:Th n m d) (hn:n≤n') (hm:m≤m'):Th n' m' d:=⟨Nat.le_trans h.bulk hn,h.fit,h.shw,h.nodict,Nat.le_trans h.depth hm,h.lay⟩
theorem th_all {n m:Nat}:∀ {ts:List D},(∀ t ∈ ts,Th n m t)→PyData.bulkAll ts≤ts.length * (n + 1)∧PyData.leavesShortAll 110 ts=true∧PyData.showableAll ts=true∧PyData.hasDictAll ts=false∧PyData.depthAll ts≤m∧PyData.canLayAll0 ts=true
  | [],_=>⟨Nat.zero_le _,rfl,rfl,rfl,Nat.zero_le _,rfl⟩
  | t::ts,h=>by
    have a:=h t (List.mem_cons_self ..)
    obtain ⟨b1,b2,b3,b4,b5,b6⟩:=th_all (ts:=ts) fun x hx=>h x (List.mem_cons_of_mem _ hx)
    refine ⟨?_,?_,?_,?_,?_,?_⟩
    · show t.bulk + 1 + PyData.bulkAll ts≤(ts.length + 1) * (n + 1)
      have:=a.bulk
      rw [Nat.add_mul,Nat.one_mul]
      omega
    · show (t.leavesShort 110 && PyData.leavesShortAll 110 ts)=true
      rw [a.fit,b2]; rfl
    · show (t.showable && PyData.showableAll ts)=true
      rw [a.shw,b3]; rfl
    · show (t.hasDict || PyData.hasDictAll ts)=false
      rw [a.nodict,b4]; rfl
    · show max t.depth (PyData.depthAll ts)≤m
      exact Nat.max_le.mpr ⟨a.depth,b5⟩
    · show (t.canLay0 && PyData.canLayAll0 ts)=true
      rw [a.lay,b6]; rfl
theorem th_tup (n m k:Nat) {N M:Nat} {ts:List D} (h:∀ t ∈ ts,Th n m t) (hl:ts.length≤k) (hN:k * (n + 1)≤N) (hM:m + 1≤M):Th N M (.tuple ts):=by
  obtain ⟨b1,b2,b3,b4,b5,b6⟩:=th_all h
  have:ts.length * (n + 1)≤k * (n + 1):=Nat.mul_le_mul_right _ hl
  exact ⟨by show PyData.bulkAll ts≤N; omega,b2,b3,b4,by show PyData.depthAll ts + 1≤M; omega,b6⟩
theorem th_lst (n m k:Nat) {N M:Nat} {ts:List D} (h:∀ t ∈ ts,Th n m t) (hl:ts.length≤k) (hN:k * (n + 1)≤N) (hM:m + 1≤M):Th N M (.list ts):=by
  obtain ⟨b1,b2,b3,b4,b5,b6⟩:=th_all h
  have:ts.length * (n + 1)≤k * (n + 1):=Nat.mul_le_mul_right _ hl
  exact ⟨by show PyData.bulkAll ts≤N; omega,b2,b3,b4,by show PyData.depthAll ts + 1≤M; omega,b6⟩
theorem th_none {n m:Nat}:Th n m .none:=⟨Nat.zero_le _,rfl,rfl,rfl,Nat.zero_le _,rfl⟩
theorem strOk_small {z:Str} (hc:∀ c ∈ z.cps.toList,c < 1000):PyData.strOk z=true:=by
  unfold PyData.strOk
  rw [← Array.all_toList,List.all_eq_true]
  intro c h1
  have:=hc c h1
  exact decide_eq_true (by omega)
theorem th_str {n m:Nat} {z:Str} (h:z.length≤n) (hc:∀ c ∈ z.cps.toList,c < 1000):Th n m (.str z):=by
  refine ⟨h,?_,rfl,rfl,Nat.zero_le _,strOk_small hc⟩
  show (z.cps.toList.all fun c=>decide (c < 16 ^ 8))=true
  rw [List.all_eq_true]
  intro c h1
  have:=hc c h1
  exact decide_eq_true (by omega)
theorem let_small {c:Nat} (h:c ∈ letters.cps.toList):c < 128:=by
  have:∀ c ∈ letters.cps.toList,c < 128:=by decide +kernel
  exact this c h
theorem nm_small {y:Str} (h:nmS y=true):y.length≤8∧∀ c ∈ y.cps.toList,c < 128:=⟨(nmS_iff h).2.1,fun c hc=>let_small ((nmS_iff h).2.2 c hc)⟩
theorem th_name {y:Str} (h:nmS y=true) {n m:Nat} (hn:8≤n):Th n m (.str y):=th_str (Nat.le_trans (nm_small h).1 hn) fun c hc=>by have:=(nm_small h).2 c hc; omega
theorem th_strs {ys:List Str} (h:∀ y ∈ ys,nmS y=true) {n m:Nat} (hn:8≤n):∀ t ∈ ys.map PyData.str,Th n m t:=fun t ht=>by
  obtain ⟨y,hy,rfl⟩:=List.mem_map.mp ht
  exact th_name (h y hy) hn
theorem all_nil {n m:Nat}:∀ t ∈ ([]:List D),Th n m t:=fun t h=>by simp at h
theorem all_cons {n m:Nat} {a:D} {ts:List D} (h:Th n m a) (hs:∀ t ∈ ts,Th n m t):∀ t ∈ a::ts,Th n m t:=fun t ht=>by
  rcases List.mem_cons.mp ht with rfl | ht
  · exact h
  · exact hs t ht
theorem all_app {n m:Nat} {as bs:List D} (h:∀ t ∈ as,Th n m t) (hs:∀ t ∈ bs,Th n m t):∀ t ∈ as++bs,Th n m t:=fun t ht=>(List.mem_append.mp ht).elim (h t) (hs t)
theorem Th.cd {n m:Nat} {d:D} (h:Th n m d) (hm:m≤60):Cd d:=⟨h.lay,Nat.le_trans h.depth hm⟩
section
variable {fs:List (Str × List Str)} {an:List Str}
theorem Form.name (F:Form fs an) {f:Str × List Str} (h:f ∈ fs):nmS f.1=true:=F.nd.2.1 _ (List.mem_map.mpr ⟨f,h,rfl⟩)
theorem Form.vals (F:Form fs an) {f:Str × List Str} (h:f ∈ fs):∀ y ∈ f.2,nmS y=true:=(F.vs f h).2.2.2.1
end
theorem fIn2_tup {x:D} {ts:List D} {Q:D→Prop} (h1:okIn x (.tuple ts)) (h2:Q (.bool (inD x (.tuple ts)))):fIn2 x (.tuple ts) Q:=by
  cases x <;> exact ⟨h1,h2⟩
theorem any_strs (d:D) (ys:List Str):((ys.map PyData.str).any fun z=>PyData.eqv z d)=isAns ys d:=by
  induction ys with
  | nil=>cases d <;> rfl
  | cons y ys ih =>
    rw [List.map_cons,List.any_cons,ih]
    cases d with
    | str z =>
      show ((y == z) || decide (z ∈ ys))=decide (z ∈ y::ys)
      rw [Bool.eq_iff_iff]
      simp only [Bool.or_eq_true,beq_iff_eq,decide_eq_true_eq,List.mem_cons]
      exact ⟨fun h=>h.imp Eq.symm id,fun h=>h.imp Eq.symm id⟩
    | _=>rfl
theorem ok_strs {ys:List Str} (h:∀ y ∈ ys,nmS y=true) {d:D} (hd:Cd d):okIn d (.tuple (ys.map PyData.str)):=by
  obtain ⟨_,_,_,_,b5,b6⟩:=th_all (th_strs h (Nat.le_refl 8) (m:=0))
  exact ⟨b6,hd.lay,by have:=hd.dep; omega⟩
theorem ok_entries {ys:List Str} (h:∀ y ∈ ys,nmS y=true) {d:D} (hd:Cd d):okIn d (.tuple (ys.map PyData.str++[.none])):=by
  obtain ⟨_,_,_,_,b5,b6⟩:=th_all (all_app (th_strs h (Nat.le_refl 8) (m:=0)) (all_cons th_none all_nil))
  exact ⟨b6,hd.lay,by have:=hd.dep; omega⟩
theorem idx_min:∀ {ys:List Str} {z:Str} {m:Nat},m < ys.idxOf z→ys[m]? ≠ some z
  | [],z,m,h=>by simp at h
  | y::ys,z,m,h=>by
    rw [List.idxOf_cons] at h
    by_cases e:y=z
    · subst e
      simp at h
    · have e':(y == z)=false:=by simpa using e
      rw [e'] at h
      simp only [cond_false] at h
      cases m with
      | zero=>simpa using e
      | succ m =>
        rw [List.getElem?_cons_succ]
        exact idx_min (by omega)
theorem seq_unp {te:ET} {u:STt} {DT:EndsT} {σ:List Sl} {i j:Nat} {a b:D} (h:∀ q:D→Prop,q (.tuple [a,b])→te σ q) (k:u DT ((σ.set i (.val a)).set j (.val b))):sSeq (sUnp i j te) u DT σ:=h _ ⟨a,b,rfl,k⟩
theorem seq_setF {t:FT} {u:STt} {DT:EndsT} {σ:List Sl} {i:Nat} (ts:List D) (h:∀ q:List D→Prop,q ts→t σ q) (k:u DT (σ.set i (.own ts))):sSeq (sSetF i t) u DT σ:=h _ k
def isCase (fs:List (Str × List Str)) (d:D):Bool:=match d with | .tuple ts=>decide (ts.length=fs.length) && (fs.zip ts).all (fun p=>okV p.1 p.2) | _=>false
section
variable {fs:List (Str × List Str)} {an:List Str}
theorem case_get {cs:List D} (h:isCase fs (.tuple cs)=true):cs.length=fs.length∧∀ (k:Nat) f c,fs[k]?=some f→cs[k]?=some c→okV f c=true:=by
  unfold isCase at h
  simp only [Bool.and_eq_true,decide_eq_true_eq,List.all_eq_true] at h
  refine ⟨h.1,fun k f c h1 h2=>?_⟩
  exact h.2 (f,c) (List.mem_of_getElem? ((List.getElem?_zip_eq_some (z:=(f,c))).mpr ⟨h1,h2⟩))
theorem case_of {cs:List D} (hl:cs.length=fs.length) (h:∀ (k:Nat) f c,fs[k]?=some f→cs[k]?=some c→okV f c=true):isCase fs (.tuple cs)=true:=by
  unfold isCase
  simp only [Bool.and_eq_true,decide_eq_true_eq,List.all_eq_true]
  refine ⟨hl,fun p hp=>?_⟩
  obtain ⟨k,hk⟩:=List.getElem?_of_mem hp
  obtain ⟨h1,h2⟩:=List.getElem?_zip_eq_some.mp hk
  exact h k p.1 p.2 h1 h2
theorem case_items (F:Form fs an) {cs:List D} (h:isCase fs (.tuple cs)=true) {n m:Nat} (hn:8≤n):∀ c ∈ cs,Th n m c:=fun c hc=>by
  obtain ⟨hl,hv⟩:=case_get h
  obtain ⟨k,hk⟩:=List.getElem?_of_mem hc
  have hk':k < fs.length:=by rw [← hl]; exact (List.getElem?_eq_some_iff.mp hk).1
  have:=hv k fs[k] c (List.getElem?_eq_getElem hk') hk
  cases c with
  | none=>exact th_none
  | str z=>exact th_name (F.vals (List.getElem_mem hk') z (of_decide_eq_true this)) hn
  | _=>cases this
end
def rowD (r:List D × Str):D:=.tuple [.tuple r.1,.str r.2]
def RowOk (fs:List (Str × List Str)) (an:List Str) (r:List D × Str):Prop:=isCase fs (.tuple r.1)=true∧r.2 ∈ an
def RowsOk (fs:List (Str × List Str)) (an:List Str) (rs:List (List D × Str)):Prop:=∀ r ∈ rs,RowOk fs an r
theorem th_row {fs:List (Str × List Str)} {an:List Str} (F:Form fs an) {r:List D × Str} (h:RowOk fs an r):Th 92 2 (rowD r):=by
  have n5:=F.n5
  exact th_tup 45 1 2 (all_cons (th_tup 8 0 5 (case_items F h.1 (Nat.le_refl 8)) (by rw [(case_get h.1).1]; exact n5) (by decide) (by decide)) (all_cons (th_name (F.an.2.1 _ h.2) (by decide)) all_nil)) (Nat.le_of_ble_eq_true rfl) (by decide) (by decide)
theorem th_rows {fs:List (Str × List Str)} {an:List Str} (F:Form fs an) {rs:List (List D × Str)} (h:RowsOk fs an rs) (hl:rs.length≤60):Th 6000 3 (.list (rs.map rowD)) :=
  th_lst 92 2 60 (fun t ht=>by
    obtain ⟨r,hr,rfl⟩:=List.mem_map.mp ht
    exact th_row F (h r hr)) (by rw [List.length_map]; exact hl) (by decide) (by decide)
def qOk (f:Str × List Str) (k v:D):Bool:=match k,v with
  | .str kk,.str z=>decide (z ∈ f.2) && (decide (kk="is") || (decide (kk="upto") && decide (f.2.idxOf z + 1 < f.2.length)))
  | _,_=>false
def isN (n:D) (f:Str × List Str):Bool:=match n with | .str z=>decide (f.1=z) | _=>false
def isQ (fs:List (Str × List Str)) (d:D):Bool:=match d with
  | .tuple [k,n,v]=>fs.any fun f=>isN n f && qOk f k v
  | _=>false
def mkQ (k:Str) (f:Str × List Str) (z:Str):D:=.tuple [.str k,.str f.1,.str z]
def qSel (f:Str × List Str):List Str:=if f.2.length=2 then f.2.take 1 else f.2
def qMid (f:Str × List Str):List Str:=(f.2.drop 1).take (f.2.length - 3)
def qOf (f:Str × List Str):List D:=(qSel f).map (mkQ "is" f)++(qMid f).map (mkQ "upto" f)
def toChoose (fs:List (Str × List Str)):List D:=(fs.map qOf).flatten
def sp_5:SpF:=fun ds Q=>∃ (fs:List (Str × List Str)) (an:List Str),ds=[frmD fs an]∧Form fs an∧Q (toChoose fs)
theorem idx_le {ys:List Str} {z:Str} {j:Nat} (h:ys[j]?=some z):ys.idxOf z≤j:=by
  by_cases q:ys.idxOf z≤j
  · exact q
  · exact absurd h (idx_min (by omega))
theorem mid_ix {f:Str × List Str} {z:Str} (h:z ∈ qMid f):z ∈ f.2∧f.2.idxOf z + 1 < f.2.length:=by
  unfold qMid at h
  have h1:z ∈ f.2:=List.mem_of_mem_drop (List.mem_of_mem_take h)
  refine ⟨h1,?_⟩
  obtain ⟨i,hi⟩:=List.getElem?_of_mem h
  have hl:=(List.getElem?_eq_some_iff.mp hi).1
  rw [List.length_take,List.length_drop] at hl
  rw [List.getElem?_take,if_pos (by omega),List.getElem?_drop] at hi
  have:=idx_le hi
  omega
theorem isQ_mk {fs:List (Str × List Str)} {f:Str × List Str} {k:Str} {z:Str} (hf:f ∈ fs) (h:qOk f (.str k) (.str z)=true):isQ fs (mkQ k f z)=true:=by
  show (fs.any fun g=>isN (.str f.1) g && qOk g (.str k) (.str z))=true
  rw [List.any_eq_true]
  refine ⟨f,hf,?_⟩
  show (decide (f.1=f.1) && qOk f (.str k) (.str z))=true
  rw [h,decide_eq_true rfl]; rfl
theorem choose_mem {fs:List (Str × List Str)} {d:D} (h:d ∈ toChoose fs):∃ f ∈ fs,(∃ z ∈ f.2,d=mkQ "is" f z) ∨ (∃ z,z ∈ f.2∧f.2.idxOf z + 1 < f.2.length∧d=mkQ "upto" f z):=by
  unfold toChoose at h
  obtain ⟨l,hl,hd⟩:=List.mem_flatten.mp h
  obtain ⟨f,hf,rfl⟩:=List.mem_map.mp hl
  refine ⟨f,hf,?_⟩
  unfold qOf at hd
  rcases List.mem_append.mp hd with q | q
  · obtain ⟨z,hz,rfl⟩:=List.mem_map.mp q
    refine .inl ⟨z,?_,rfl⟩
    unfold qSel at hz
    split at hz
    · exact List.mem_of_mem_take hz
    · exact hz
  · obtain ⟨z,hz,rfl⟩:=List.mem_map.mp q
    exact .inr ⟨z,(mid_ix hz).1,(mid_ix hz).2,rfl⟩
theorem choose_isQ {fs:List (Str × List Str)} {d:D} (h:d ∈ toChoose fs):isQ fs d=true:=by
  obtain ⟨f,hf,⟨z,hz,rfl⟩ | ⟨z,hz,hi,rfl⟩⟩:=choose_mem h
  · refine isQ_mk hf ?_
    show (decide (z ∈ f.2) && (decide (("is":Str)="is") || _))=true
    rw [decide_eq_true hz]; rfl
  · refine isQ_mk hf ?_
    show (decide (z ∈ f.2) && (decide (("upto":Str)="is") || (decide (("upto":Str)="upto") && decide (f.2.idxOf z + 1 < f.2.length))))=true
    rw [decide_eq_true hz,decide_eq_true hi,decide_eq_true (rfl:("upto":Str)="upto")]; simp
theorem nm_is:nmS "is"=true:=by decide +kernel
theorem nm_upto:nmS "upto"=true:=by decide +kernel
theorem th_mkQ {fs:List (Str × List Str)} {an:List Str} (F:Form fs an) {k:Str} (hk:nmS k=true) {f:Str × List Str} (hf:f ∈ fs) {z:Str} (hz:z ∈ f.2):Th 27 1 (mkQ k f z) :=
  th_tup 8 0 3 (all_cons (th_name hk (Nat.le_refl _)) (all_cons (th_name (F.name hf) (Nat.le_refl _)) (all_cons (th_name (F.vals hf z hz) (Nat.le_refl _)) all_nil))) (Nat.le_of_ble_eq_true rfl) (by decide) (by decide)
theorem th_choose {fs:List (Str × List Str)} {an:List Str} (F:Form fs an):∀ d ∈ toChoose fs,Th 27 1 d:=fun d h=>by
  obtain ⟨f,hf,⟨z,hz,rfl⟩ | ⟨z,hz,hi,rfl⟩⟩:=choose_mem h
  · exact th_mkQ F nm_is hf hz
  · exact th_mkQ F nm_upto hf hz
theorem choose_len {fs:List (Str × List Str)} {an:List Str} (F:Form fs an):∀ gs:List (Str × List Str),(∀ g ∈ gs,g ∈ fs)→(toChoose gs).length≤10 * gs.length
  | [],_=>Nat.le_refl _
  | g::gs,h=>by
    have ih:=choose_len F gs fun x hx=>h x (List.mem_cons_of_mem _ hx)
    obtain ⟨_,v5,_⟩:=F.vs g (h g (List.mem_cons_self ..))
    show ((qOf g::gs.map qOf).flatten).length≤_
    rw [List.flatten_cons,List.length_append]
    have h1:(qOf g).length≤10:=by
      unfold qOf qSel qMid
      rw [List.length_append,List.length_map,List.length_map,List.length_take,List.length_drop]
      split
      · rw [List.length_take]; omega
      · omega
    have:(toChoose gs).length=((gs.map qOf).flatten).length:=rfl
    rw [List.length_cons]
    omega
theorem okIx_strs {ys:List Str} (hy:∀ y ∈ ys,nmS y=true) {z:Str} (hz:z ∈ ys):okIx (ys.map PyData.str) (.str z) (ys.idxOf z):=by
  have hzi:ys.idxOf z < ys.length:=List.idxOf_lt_length_iff.mpr hz
  obtain ⟨_,_,_,_,d5,d6⟩:=th_all (th_strs hy (Nat.le_refl 8) (m:=0))
  refine ⟨d6,(th_name (hy z hz) (Nat.le_refl 8) (m:=0)).lay,by omega,⟨.str z,?_,?_⟩,fun m t hm ht=>?_⟩
  · rw [List.getElem?_map,List.getElem?_eq_getElem hzi,List.getElem_idxOf hzi]; rfl
  · show (z == z)=true
    simp
  · rw [List.getElem?_map] at ht
    cases e2:ys[m]? with
    | none=>rw [e2] at ht; cases ht
    | some y =>
      rw [e2] at ht
      cases ht
      show (y == z)=false
      have:y ≠ z:=fun q=>by
        subst q
        exact idx_min hm e2
      simpa using this
inductive Tr | say (a:Str) | ask (k n v s:Str) (y m:Tr)
def trD:Tr→D
  | .say a=>.tuple [.str "say",.str a]
  | .ask k n v s y m=>.tuple [.str "ask",.tuple [.str k,.str n,.str v],.str s,trD y,trD m]
def Tr.dep:Tr→Nat
  | .say _=>0
  | .ask _ _ _ _ y m=>max y.dep m.dep + 1
def Tr.kn:Tr→Nat
  | .say _=>0
  | .ask _ _ _ _ y m=>y.kn + m.kn + 1
def TrOk (fs:List (Str × List Str)) (an:List Str):Tr→Prop
  | .say a=>a ∈ an
  | .ask k n v s y m=>isQ fs (.tuple [.str k,.str n,.str v])=true∧(s="yes" ∨ s="no")∧TrOk fs an y∧TrOk fs an m
theorem isQ_str {fs:List (Str × List Str)} {k n v:Str} (h:isQ fs (.tuple [.str k,.str n,.str v])=true):∃ f ∈ fs,f.1=n∧v ∈ f.2∧(k="is" ∨ (k="upto"∧f.2.idxOf v + 1 < f.2.length)):=by
  obtain ⟨f,hf,hq⟩:=List.any_eq_true.mp (h:(fs.any fun f=>isN (.str n) f && qOk f (.str k) (.str v))=true)
  rw [Bool.and_eq_true] at hq
  have h2:(decide (v ∈ f.2) && (decide (k="is") || (decide (k="upto") && decide (f.2.idxOf v + 1 < f.2.length))))=true:=hq.2
  simp only [Bool.and_eq_true,Bool.or_eq_true,decide_eq_true_eq] at h2
  exact ⟨f,hf,of_decide_eq_true hq.1,h2.1,h2.2⟩
theorem nm_yes:nmS "yes"=true:=by decide +kernel
theorem nm_no:nmS "no"=true:=by decide +kernel
theorem nm_say:nmS "say"=true:=by decide +kernel
theorem nm_ask:nmS "ask"=true:=by decide +kernel
theorem th_q {fs:List (Str × List Str)} {an:List Str} (F:Form fs an) {k n v:Str} (h:isQ fs (.tuple [.str k,.str n,.str v])=true):Th 27 1 (.tuple [.str k,.str n,.str v]):=by
  obtain ⟨f,hf,rfl,hv,hk⟩:=isQ_str h
  refine th_mkQ F ?_ hf hv
  rcases hk with rfl | ⟨rfl,_⟩
  · exact nm_is
  · exact nm_upto
theorem th_tree {fs:List (Str × List Str)} {an:List Str} (F:Form fs an):∀ t:Tr,TrOk fs an t→Th (68 * t.kn + 18) (t.dep + 1) (trD t)
  | .say a,h=>th_tup 8 0 2 (all_cons (th_name nm_say (Nat.le_refl _)) (all_cons (th_name (F.an.2.1 a h) (Nat.le_refl _)) all_nil)) (Nat.le_of_ble_eq_true rfl) (by show 2 * (8 + 1)≤68 * 0 + 18; decide) (Nat.le_refl _)
  | .ask k n v s y m,h=>by
    obtain ⟨hq,hs,hy,hm⟩:=h
    have iy:=th_tree F y hy
    have im:=th_tree F m hm
    have q:=th_q F hq
    have sn:nmS s=true:=by
      rcases hs with rfl | rfl
      · exact nm_yes
      · exact nm_no
    have sl:=th_name sn (n:=8) (m:=0) (Nat.le_refl _)
    have al:=th_name nm_ask (n:=8) (m:=0) (Nat.le_refl _)
    have e1:PyData.bulk (trD (.ask k n v s y m))=(PyData.str "ask").bulk + 1 + ((PyData.tuple [.str k,.str n,.str v]).bulk + 1 + ((PyData.str s).bulk + 1 + ((trD y).bulk + 1 + ((trD m).bulk + 1 + 0)))):=rfl
    have e2:PyData.depth (trD (.ask k n v s y m))=max (PyData.str "ask").depth (max (PyData.tuple [.str k,.str n,.str v]).depth (max (PyData.str s).depth (max (trD y).depth (max (trD m).depth 0)))) + 1:=rfl
    refine ⟨?_,?_,?_,?_,?_,?_⟩
    · rw [e1]
      have a1:=iy.bulk
      have a2:=im.bulk
      have a3:=q.bulk
      have a4:=sl.bulk
      have a5:=al.bulk
      show _≤68 * (y.kn + m.kn + 1) + 18
      omega
    · show ((PyData.str "ask").leavesShort 110 && ((PyData.tuple [.str k,.str n,.str v]).leavesShort 110 && ((PyData.str s).leavesShort 110 && ((trD y).leavesShort 110 && ((trD m).leavesShort 110 && true)))))=true
      rw [al.fit,q.fit,sl.fit,iy.fit,im.fit]; rfl
    · show ((PyData.str "ask").showable && ((PyData.tuple [.str k,.str n,.str v]).showable && ((PyData.str s).showable && ((trD y).showable && ((trD m).showable && true)))))=true
      rw [al.shw,q.shw,sl.shw,iy.shw,im.shw]; rfl
    · show ((PyData.str "ask").hasDict || ((PyData.tuple [.str k,.str n,.str v]).hasDict || ((PyData.str s).hasDict || ((trD y).hasDict || ((trD m).hasDict || false)))))=false
      rw [al.nodict,q.nodict,sl.nodict,iy.nodict,im.nodict]; rfl
    · rw [e2]
      have a1:=iy.depth
      have a2:=im.depth
      have a3:=q.depth
      have a4:=sl.depth
      have a5:=al.depth
      show _≤max y.dep m.dep + 1 + 1
      omega
    · show ((PyData.str "ask").canLay0 && ((PyData.tuple [.str k,.str n,.str v]).canLay0 && ((PyData.str s).canLay0 && ((trD y).canLay0 && ((trD m).canLay0 && true)))))=true
      rw [al.lay,q.lay,sl.lay,iy.lay,im.lay]; rfl
theorem Tr.kn_dep:∀ t:Tr,t.kn < 2 ^ t.dep
  | .say _=>by show 0 < 2 ^ 0; decide
  | .ask _ _ _ _ y m=>by
    have:=kn_dep y
    have:=kn_dep m
    show y.kn + m.kn + 1 < 2 ^ (max y.dep m.dep + 1)
    have h1:2 ^ y.dep≤2 ^ (max y.dep m.dep):=Nat.pow_le_pow_right (by decide) (Nat.le_max_left ..)
    have h2:2 ^ m.dep≤2 ^ (max y.dep m.dep):=Nat.pow_le_pow_right (by decide) (Nat.le_max_right ..)
    rw [Nat.pow_succ]
    omega
theorem cut_mid (ys:List Str) (h:2≤ys.length):cutD ys (some 1) (some (-2))=(ys.drop 1).take (ys.length - 3):=by
  unfold cutD
  have e1:HT.sIx ys.length 0 (some 1)=1:=by
    show (if (1:Int) < 0 then ((1:Int) + (ys.length:Int)).toNat else min (1:Int).toNat ys.length)=_
    rw [if_neg (by decide)]
    show min 1 ys.length=1
    omega
  have e2:HT.sIx ys.length ys.length (some (-2))=ys.length - 2:=by
    show (if (-2:Int) < 0 then ((-2:Int) + (ys.length:Int)).toNat else min (-2:Int).toNat ys.length)=_
    rw [if_pos (by decide)]
    omega
  rw [e1,e2]
  congr 1
theorem cut_one (ys:List Str) (h:2≤ys.length):cutD ys none (some 1)=ys.take 1:=cut_ns ys 1
def sp_6:SpF:=fun ds Q=>∃ f:Str × List Str,ds=[fldD f]∧2≤f.2.length∧f.2.length≤5∧Q (qOf f)
abbrev Rw:=List D × Str
def cnt (rs:List Rw) (a:Str):Nat:=rs.countP fun r=>decide (r.2=a)
def cnts (an:List Str) (rs:List Rw):List Int:=an.map fun a=>(cnt rs a:Int)
def First (an:List Str) (rs:List Rw) (a:Str):Prop:=∃ k,an[k]?=some a∧(∀ (j:Nat) b,an[j]?=some b→cnt rs b≤cnt rs a)∧∀ (j:Nat) b,j < k→an[j]?=some b→cnt rs b < cnt rs a
def sp_3:SpF:=fun ds Q=>∃ (fs:List (Str × List Str)) (an:List Str) (rs:List Rw),ds=[frmD fs an,.list (rs.map rowD)]∧Form fs an∧RowsOk fs an rs∧rs.length≤60∧Q ((cnts an rs).map PyData.int)
def sp_4:SpT:=fun ds Q=>∃ (fs:List (Str × List Str)) (an:List Str) (rs:List Rw),ds=[frmD fs an,.list (rs.map rowD)]∧Form fs an∧RowsOk fs an rs∧rs.length≤60∧∀ a,First an rs a→Q (.str a)
theorem first_of {α:Type} [DecidableEq α]:∀ (l:List α) (x:α),x ∈ l→∃ k:Nat,l[k]?=some x∧∀ j:Nat,j < k→l[j]? ≠ some x
  | y::l,x,h=>by
    by_cases e:y=x
    · exact ⟨0,by rw [e]; rfl,fun j hj=>by omega⟩
    · obtain ⟨k,h1,h2⟩:=first_of l x ((List.mem_cons.mp h).resolve_left fun z=>e z.symm)
      refine ⟨k + 1,h1,fun j hj=>?_⟩
      cases j with
      | zero=>exact fun z=>e (Option.some.inj z)
      | succ j=>exact h2 j (by omega)
def unlike (a:Str) (x:D):Bool:=match x with | .tuple [_,.str b]=>!decide (b=a) | _=>false
def sideOf (f:Str × List Str) (k v st:Str) (c:D):Str:=match c with
  | .none=>st
  | .str z=>if k="is" then (if z=v then "yes" else "no") else if f.2.idxOf z≤f.2.idxOf v then "yes" else "no"
  | _=>""
def sideS (fs:List (Str × List Str)) (k n v st:Str) (cs:List D):Str:=match fs[(fs.map (·.1)).idxOf n]?,cs[(fs.map (·.1)).idxOf n]? with
  | some f,some c=>sideOf f k v st c
  | _,_=>""
def sp_8:SpT:=fun ds Q=>∃ (fs:List (Str × List Str)) (an:List Str) (k n v st:Str) (cs:List D),ds=[frmD fs an,.tuple [.str k,.str n,.str v],.str st,.tuple cs]∧Form fs an∧isQ fs (.tuple [.str k,.str n,.str v])=true∧(st="yes" ∨ st="no")∧isCase fs (.tuple cs)=true∧Q (.str (sideS fs k n v st cs))
def sp_27:SpT:=sp_8
def onSide (fs:List (Str × List Str)) (k n v st:Str) (rs:List (List D × Str)) (w:Str) (x:D):Bool:=match x with
  | .int i=>match L2.atI rs i with | some r=>decide (sideS fs k n v st r.1=w) | none=>false
  | _=>false
theorem name_at {fs:List (Str × List Str)} {an:List Str} (F:Form fs an) {j:Nat} {f:Str × List Str} (h:fs[j]?=some f):(fs.map (·.1)).idxOf f.1=j:=by
  have hm:f.1 ∈ fs.map (·.1):=List.mem_map.mpr ⟨f,List.mem_of_getElem? h,rfl⟩
  have hi:(fs.map (·.1)).idxOf f.1 < (fs.map (·.1)).length:=List.idxOf_lt_length_iff.mpr hm
  have h1:(fs.map (·.1))[(fs.map (·.1)).idxOf f.1]?=some f.1:=by rw [List.getElem?_eq_getElem hi,List.getElem_idxOf hi]
  have h2:(fs.map (·.1))[j]?=some f.1:=by rw [List.getElem?_map,h]; rfl
  exact (List.getElem?_inj hi F.nd.2.2).mp (h1.trans h2.symm)
theorem sideS_at {fs:List (Str × List Str)} {an:List Str} (F:Form fs an) {k n v st:Str} {cs:List D} {j:Nat} {f:Str × List Str} {c:D} (h1:fs[j]?=some f) (h2:cs[j]?=some c) (hn:f.1=n):sideS fs k n v st cs=sideOf f k v st c:=by
  subst hn
  unfold sideS
  rw [name_at F h1,h1,h2]
theorem one_extL {te:ET} {DT:EndsT} {σ:List Sl} {i:Nat} {ts us:List D} (ho:σ[i]?=some (.own ts)) (hz:ts.length + us.length≤100000) (h:∀ q:D→Prop,q (.list us)→te σ q) (k:DT.nx (σ.set i (.own (ts++us)))):sExtL i te DT σ:=⟨ts,ho,h _ ⟨us,rfl,hz,k⟩⟩
theorem onSide_at {fs:List (Str × List Str)} {k n v st:Str} {rs:List (List D × Str)} {w:Str} {j:Nat} {r:List D × Str} (h:rs[j]?=some r):onSide fs k n v st rs w (.int (j:Int))=decide (sideS fs k n v st r.1=w):=by
  show (match L2.atI rs (j:Int) with | some r=>decide (sideS fs k n v st r.1=w) | none=>false)=_
  rw [L2.atI_nat h]
def held (k v:Str) (f:Str × List Str):List Str:=if k="is" then [v] else f.2.take (f.2.idxOf v + 1)
def sp_11:SpT:=fun ds Q=>∃ (k n v:Str) (f:Str × List Str),ds=[.tuple [.str k,.str n,.str v],fldD f]∧(∀ y ∈ f.2,nmS y=true)∧v ∈ f.2∧f.2.length≤5∧Q (.tuple ((held k v f).map PyData.str))
theorem held_side {f:Str × List Str} {k v st z:Str} (hz:z ∈ f.2):(if isAns (held k v f) (.str z)=true then ("yes":Str) else "no")=sideOf f k v st (.str z):=by
  show (if decide (z ∈ held k v f)=true then ("yes":Str) else "no")=if k="is" then (if z=v then ("yes":Str) else "no") else if f.2.idxOf z≤f.2.idxOf v then ("yes":Str) else "no"
  unfold held
  by_cases hk:k="is"
  · rw [if_pos hk,if_pos hk]
    by_cases e:z=v
    · rw [if_pos e,if_pos (decide_eq_true (List.mem_singleton.mpr e))]
    · rw [if_neg e,if_neg (fun q=>e (List.mem_singleton.mp (of_decide_eq_true q)))]
  · rw [if_neg hk,if_neg hk]
    have hi:f.2.idxOf z < f.2.length:=List.idxOf_lt_length_iff.mpr hz
    by_cases e:f.2.idxOf z≤f.2.idxOf v
    · rw [if_pos e,if_pos]
      refine decide_eq_true (List.mem_of_getElem? (i:=f.2.idxOf z) ?_)
      rw [List.getElem?_take,if_pos (by omega),List.getElem?_eq_getElem hi,List.getElem_idxOf hi]
    · rw [if_neg e,if_neg]
      intro q
      obtain ⟨i,hi'⟩:=List.getElem?_of_mem (of_decide_eq_true q)
      have hl:=(List.getElem?_eq_some_iff.mp hi').1
      rw [List.length_take] at hl
      rw [List.getElem?_take,if_pos (by omega)] at hi'
      have:=idx_le hi'
      omega
theorem held_mem {f:Str × List Str} {k v y:Str} (hv:v ∈ f.2) (h:y ∈ held k v f):y ∈ f.2:=by
  unfold held at h
  split at h
  · rw [List.mem_singleton.mp h]; exact hv
  · exact List.mem_of_mem_take h
def toYes (k v st:Str) (f:Str × List Str):List D:=(held k v f).map PyData.str++(if st="yes" then [PyData.none] else [])
def sp_10:SpT:=fun ds Q=>∃ (k n v st:Str) (f:Str × List Str),ds=[.tuple [.str k,.str n,.str v],.str st,fldD f]∧(∀ y ∈ f.2,nmS y=true)∧v ∈ f.2∧f.2.length≤5∧Q (.tuple (toYes k v st f))
def sp_9:SpT:=fun ds Q=>∃ (fs:List (Str × List Str)) (an:List Str) (k n v:Str) (f:Str × List Str) (j:Nat),ds=[frmD fs an,.tuple [.str k,.str n,.str v]]∧Form fs an∧fs[j]?=some f∧f.1=n∧Q (.int (j:Int))
theorem held_len {k v:Str} {f:Str × List Str} (h:f.2.length≤5):(held k v f).length≤5:=by
  unfold held
  split
  · show 1≤5; decide
  · rw [List.length_take]; omega
theorem in_toYes {k v st:Str} {f:Str × List Str} (hst:st="yes" ∨ st="no") {c:D} (hc:okV f c=true):(if inD c (.tuple (toYes k v st f))=true then ("yes":Str) else "no")=sideOf f k v st c:=by
  have e:inD c (.tuple (toYes k v st f))=(isAns (held k v f) c || ((if st="yes" then [PyData.none] else []).any fun z=>PyData.eqv z c)):=by
    show ((toYes k v st f).any fun z=>PyData.eqv z c)=_
    unfold toYes
    rw [List.any_append,any_strs]
  cases c with
  | none =>
    rw [e]
    rcases hst with rfl | rfl <;> rfl
  | str z =>
    have hz:z ∈ f.2:=of_decide_eq_true hc
    have e2:((if st="yes" then [PyData.none] else []).any fun x=>PyData.eqv x (.str z))=false:=by
      rcases hst with rfl | rfl <;> rfl
    rw [e,e2,Bool.or_false]
    exact held_side hz
  | _=>cases hc
theorem ok_toYes {k v st:Str} {f:Str × List Str} (hf:∀ y ∈ f.2,nmS y=true) (hv:v ∈ f.2) {d:D} (hd:Cd d):okIn d (.tuple (toYes k v st f)):=by
  unfold toYes
  split
  · exact ok_entries (fun y hy=>hf y (held_mem hv hy)) hd
  · rw [List.append_nil]; exact ok_strs (fun y hy=>hf y (held_mem hv hy)) hd
def cntD (rs:List Rw) (x:D):D:=match x with | .str a=>.int ((cnt rs a:Nat):Int) | _=>.none
theorem told_count (rs:List Rw) (a:Str):((rs.map fun r=>PyData.str r.2).countP fun t=>PyData.eqv t (.str a))=cnt rs a:=by
  rw [List.countP_map]
  unfold cnt
  congr 1
theorem lay_strs:∀ {ys:List Str},(∀ y ∈ ys,nmS y=true)→PyData.canLayAll0 (ys.map PyData.str)=true∧PyData.depthAll (ys.map PyData.str)≤0:=fun h=>by
  obtain ⟨_,_,_,_,b5,b6⟩:=th_all (th_strs h (Nat.le_refl 8) (m:=0))
  exact ⟨b6,b5⟩
theorem lay_ints:∀ ns:List Int,PyData.canLayAll0 (ns.map PyData.int)=true∧PyData.depthAll (ns.map PyData.int)=0
  | []=>⟨rfl,rfl⟩
  | n::ns=>by
    have:=lay_ints ns
    refine ⟨?_,?_⟩
    · show (true && PyData.canLayAll0 (ns.map PyData.int))=true
      rw [this.1]; rfl
    · show max 0 (PyData.depthAll (ns.map PyData.int))=0
      rw [this.2]; rfl
theorem okIx_ints {ns:List Int} {m:Int} {j:Nat} (h:ns[j]?=some m) (hno:∀ i:Nat,i < j→ns[i]? ≠ some m):okIx (ns.map PyData.int) (.int m) j:=by
  obtain ⟨h1,h2⟩:=lay_ints ns
  refine ⟨h1,rfl,by rw [h2]; omega,⟨.int m,by rw [List.getElem?_map,h]; rfl,?_⟩,fun i t hi ht=>?_⟩
  · show (m == m)=true
    simp
  · rw [List.getElem?_map] at ht
    cases e:ns[i]? with
    | none=>rw [e] at ht; cases ht
    | some n =>
      rw [e] at ht
      cases ht
      show (n == m)=false
      have:n ≠ m:=fun z=>hno i hi (by rw [e,z])
      simpa using this
def sndT (x:D):D:=match x with | .tuple [_,b]=>b | _=>x
def sidesT (fs:List (Str × List Str)):Tr→List D→List Str
  | .say _,_=>[]
  | .ask k n v s y m,cs=>sideS fs k n v s cs::(if sideS fs k n v s cs="yes" then sidesT fs y cs else sidesT fs m cs)
def ansT (fs:List (Str × List Str)):Tr→List D→Str
  | .say a,_=>a
  | .ask k n v s y m,cs=>if sideS fs k n v s cs="yes" then ansT fs y cs else ansT fs m cs
section
variable {fs:List (Str × List Str)} {an:List Str}
theorem side_yn (F:Form fs an) {k n v st:Str} {cs:List D} (hq:isQ fs (.tuple [.str k,.str n,.str v])=true) (hst:st="yes" ∨ st="no") (hc:isCase fs (.tuple cs)=true):sideS fs k n v st cs="yes" ∨ sideS fs k n v st cs="no":=by
  obtain ⟨f,hf,hfn,hv,hk⟩:=isQ_str hq
  obtain ⟨j,hj⟩:=List.getElem?_of_mem hf
  obtain ⟨hcl,hcv⟩:=case_get hc
  have hjl:=(List.getElem?_eq_some_iff.mp hj).1
  have hcj:cs[j]?=some cs[j]:=List.getElem?_eq_getElem (by omega)
  generalize cs[j]=c at hcj
  rw [sideS_at F hj hcj hfn]
  have hok:=hcv j f c hj hcj
  cases c with
  | none=>exact hst
  | str z =>
    show (if k="is" then (if z=v then ("yes":Str) else "no") else if f.2.idxOf z≤f.2.idxOf v then ("yes":Str) else "no")="yes" ∨ _
    by_cases h1:k="is"
    · by_cases h2:z=v
      · exact .inl (by rw [if_pos h1,if_pos h2])
      · exact .inr (by show (if k="is" then (if z=v then ("yes":Str) else "no") else if f.2.idxOf z≤f.2.idxOf v then ("yes":Str) else "no")="no"; rw [if_pos h1,if_neg h2])
    · by_cases h2:f.2.idxOf z≤f.2.idxOf v
      · exact .inl (by rw [if_neg h1,if_pos h2])
      · exact .inr (by show (if k="is" then (if z=v then ("yes":Str) else "no") else if f.2.idxOf z≤f.2.idxOf v then ("yes":Str) else "no")="no"; rw [if_neg h1,if_neg h2])
  | _=>cases hok
end
def there (fs:List (Str × List Str)) (t:Tr) (rs:List (List D × Str)) (pl:List Str) (x:D):Bool:=match x with
  | .int i=>(match L2.atI rs i with | some r=>decide ((sidesT fs t r.1).take pl.length=pl) | none=>false)
  | _=>false
def sp_law:SpT:=fun ds Q=>∃ ns:List Int,ds=[.list (ns.map PyData.int)]∧ns.length≤63∧Q (.bool true)
section
variable {fs:List (Str × List Str)} {an:List Str} {t:Tr} {rs:List (List D × Str)} {pl:List Str}
end
def sp_24:SpC:=fun _ n ds Q=>∃ (fs:List (Str × List Str)) (an:List Str),ds=[frmD fs an]∧Form fs an∧n < 800000000000∧∀ n' cs,n'≤n + 5→isCase fs (.tuple cs)=true→Q n' (.tuple cs)
def sp_25:SpC:=fun _ n ds Q=>∃ (fs:List (Str × List Str)) (an:List Str) (m:Nat),ds=[frmD fs an,.int m]∧Form fs an∧m≤60∧n < 700000000000∧∀ n' rs,n'≤n + 10 * m→RowsOk fs an rs→rs.length=m→Q n' (.list (rs.map rowD))
def sp_33:SpC:=fun _ n ds Q=>ds=[]∧n < 900000000000∧∀ n' (a b:Int),n'≤n + 3→0≤a→a≤1000000→0≤b→b≤1000000→Q n' (.tuple [.int a,.int b])
def sp_knots_in_lt (n:Nat):SpT:=fun ds Q=>∃ t:Tr,ds=[trD t]∧t.kn≤600∧t.dep < n∧Q (.int t.kn)
theorem never_knots_in {ds:List D} {Q:D→Prop} (h:sp_knots_in_lt 0 ds Q):False:=by
  obtain ⟨_,_,_,h,_⟩:=h
  omega
def slipN (fs:List (Str × List Str)) (t:Tr) (rs:List (List D × Str)):Nat:=(rs.filter fun r=>!decide (ansT fs t r.1=r.2)).length
def onY (fs:List (Str × List Str)) (k n v st:Str) (r:List D × Str):Bool:=decide (sideS fs k n v st r.1="yes")
theorem slip_ask {fs:List (Str × List Str)} (k n v s:Str) (y m:Tr):∀ rs:List (List D × Str),slipN fs (.ask k n v s y m) rs=slipN fs y (rs.filter (onY fs k n v s)) + slipN fs m (rs.filter fun r=>!onY fs k n v s r)
  | []=>rfl
  | r::rs=>by
    have ih:=slip_ask (fs:=fs) k n v s y m rs
    have e:ansT fs (.ask k n v s y m) r.1=if sideS fs k n v s r.1="yes" then ansT fs y r.1 else ansT fs m r.1:=rfl
    unfold slipN at ih ⊢
    by_cases hy:sideS fs k n v s r.1="yes"
    · have h1:onY fs k n v s r=true:=decide_eq_true hy
      rw [List.filter_cons (p:=onY fs k n v s),if_pos h1,List.filter_cons (p:=fun r=>!onY fs k n v s r),if_neg (by rw [h1]; decide)]
      rw [if_pos hy] at e
      by_cases ha:ansT fs y r.1=r.2
      · rw [List.filter_cons,if_neg (by rw [e]; simp [ha]),List.filter_cons (x:=r),if_neg (by simp [ha])]
        exact ih
      · rw [List.filter_cons,if_pos (by rw [e]; simp [ha]),List.filter_cons (x:=r),if_pos (by simp [ha]),List.length_cons,List.length_cons,ih]
        omega
    · have h1:onY fs k n v s r=false:=decide_eq_false hy
      rw [List.filter_cons (p:=onY fs k n v s),if_neg (by rw [h1]; decide),List.filter_cons (p:=fun r=>!onY fs k n v s r),if_pos (by rw [h1]; rfl)]
      rw [if_neg hy] at e
      by_cases ha:ansT fs m r.1=r.2
      · rw [List.filter_cons,if_neg (by rw [e]; simp [ha]),List.filter_cons (x:=r),if_neg (by simp [ha])]
        exact ih
      · rw [List.filter_cons,if_pos (by rw [e]; simp [ha]),List.filter_cons (x:=r),if_pos (by simp [ha]),List.length_cons,List.length_cons,ih]
        omega
def sp_28:SpT:=fun ds Q=>∃ (fs:List (Str × List Str)) (an:List Str) (k n v st:Str) (rs:List (List D × Str)),ds=[frmD fs an,.tuple [.str k,.str n,.str v],.str st,.list (rs.map rowD)]∧Form fs an∧isQ fs (.tuple [.str k,.str n,.str v])=true∧(st="yes" ∨ st="no")∧RowsOk fs an rs∧rs.length≤60∧Q (.tuple [.list ((rs.filter (onY fs k n v st)).map rowD),.list ((rs.filter fun r=>!onY fs k n v st r).map rowD)])
def sp_31_lt (n:Nat):SpT:=sp_knots_in_lt n
def sp_31:SpT:=sp_31_lt 7
theorem never_31 {ds:List D} {Q:D→Prop} (h:sp_31_lt 0 ds Q):False:=never_knots_in h
def sp_32_lt (d:Nat):SpT:=fun ds Q=>∃ (fs:List (Str × List Str)) (an:List Str) (t:Tr) (rs:List (List D × Str)),ds=[frmD fs an,trD t,.list (rs.map rowD)]∧Form fs an∧TrOk fs an t∧t.dep < d∧RowsOk fs an rs∧rs.length≤60∧Q (.int (slipN fs t rs:Nat))
def sp_32:SpT:=sp_32_lt 7
theorem never_32 {ds:List D} {Q:D→Prop} (h:sp_32_lt 0 ds Q):False:=by
  obtain ⟨_,_,_,_,_,_,_,h,_⟩:=h
  omega
theorem RowsOk.filt {fs:List (Str × List Str)} {an:List Str} {rs:List (List D × Str)} (h:RowsOk fs an rs) (p:List D × Str→Bool):RowsOk fs an (rs.filter p):=fun r hr=>h r (List.mem_filter.mp hr).1
def FA (fs:List (Str × List Str)) (an:List Str) (fa:List (List D × Str)→Str):Prop:=∀ rs,RowsOk fs an rs→First an rs (fa rs)
theorem First.uniq {an:List Str} {rs:List (List D × Str)} {a b:Str} (h:First an rs a) (g:First an rs b):a=b:=by
  obtain ⟨i,h1,h2,h3⟩:=h
  obtain ⟨j,g1,g2,g3⟩:=g
  have e1:=h2 j b g1
  have e2:=g2 i a h1
  rcases Nat.lt_trichotomy i j with z | z | z
  · have:=g3 i a z h1; omega
  · subst z
    rw [h1] at g1
    exact Option.some.inj g1
  · have:=h3 j b z g1; omega
def rowNo (rs:List (List D × Str)) (x:D):D:=match x with | .int i=>(match L2.atI rs i with | some r=>rowD r | none=>.none) | _=>.none
def sp_29:SpT:=fun ds Q=>∃ (fs:List (Str × List Str)) (an:List Str) (rs:List (List D × Str)),ds=[frmD fs an,.list (rs.map rowD)]∧Form fs an∧RowsOk fs an rs∧rs.length≤60∧Q (.list ((cnts an rs).map PyData.int))
def sp_30:SpT:=sp_4
theorem first_ex {an:List Str} (h:0 < an.length) (rs:List (List D × Str)):∃ a,First an rs a:=by
  have key:∀ (l:List Str),0 < l.length→∃ k a,l[k]?=some a∧(∀ (j:Nat) b,l[j]?=some b→cnt rs b≤cnt rs a)∧∀ (j:Nat) b,j < k→l[j]?=some b→cnt rs b < cnt rs a:=fun l=>by
    induction l with
    | nil=>intro h; exact absurd h (by decide)
    | cons x l ih =>
      intro _
      cases l with
      | nil=>exact ⟨0,x,rfl,fun j b hb=>by
          cases j with
          | zero=>cases hb; exact Nat.le_refl _
          | succ j=>simp at hb,fun j b hj _=>absurd hj (Nat.not_lt_zero _)⟩
      | cons y l =>
        obtain ⟨k,a,h1,h2,h3⟩:=ih (by simp)
        by_cases hx:cnt rs a≤cnt rs x
        · refine ⟨0,x,rfl,fun j b hb=>?_,fun j b hj _=>absurd hj (Nat.not_lt_zero _)⟩
          cases j with
          | zero=>cases hb; exact Nat.le_refl _
          | succ j=>exact Nat.le_trans (h2 j b (by simpa using hb)) hx
        · refine ⟨k + 1,a,by simpa using h1,fun j b hb=>?_,fun j b hj hb=>?_⟩
          · cases j with
            | zero=>cases hb; omega
            | succ j=>exact h2 j b (by simpa using hb)
          · cases j with
            | zero=>cases hb; omega
            | succ j=>exact h3 j b (by omega) (by simpa using hb)
  obtain ⟨k,a,h1,h2,h3⟩:=key an h
  exact ⟨a,k,h1,h2,h3⟩
theorem fa_ex {fs:List (Str × List Str)} {an:List Str} (F:Form fs an):∃ fa,FA fs an fa :=
  ⟨fun rs=>(first_ex (an:=an) (by have:=F.a2; omega) rs).choose,fun rs _=>(first_ex (an:=an) (by have:=F.a2; omega) rs).choose_spec⟩

abbrev Fs:=List (Str × List Str)
abbrev Qn:=Str × Str × Str
abbrev Ch:=Qn × Str
def qD (q:Qn):D:=.tuple [.str q.1,.str q.2.1,.str q.2.2]
def tq (d:D):Qn:=match d with | .tuple [.str k,.str n,.str v]=>(k,n,v) | _=>("","","")
def qs (fs:Fs):List Qn:=(toChoose fs).map tq
theorem qs_data (fs:Fs):(qs fs).map qD=toChoose fs:=by
  unfold qs
  rw [List.map_map]
  have:∀ d ∈ toChoose fs,(qD ∘ tq) d=id d:=fun d hd=>by
    obtain ⟨f,hf,⟨z,hz,rfl⟩ | ⟨z,hz,hi,rfl⟩⟩:=choose_mem hd <;> rfl
  rw [List.map_congr_left this,List.map_id]
theorem qs_isQ {fs:Fs} {q:Qn} (h:q ∈ qs fs):isQ fs (.tuple [.str q.1,.str q.2.1,.str q.2.2])=true:=by
  have:qD q ∈ (qs fs).map qD:=List.mem_map.mpr ⟨q,h,rfl⟩
  rw [qs_data] at this
  exact choose_isQ this
def twoC (q:Qn):List Ch:=[(q,"yes"),(q,"no")]
def chs (fs:Fs):List Ch:=(qs fs).flatMap twoC
theorem chs_ok {fs:Fs} {c:Ch} (h:c ∈ chs fs):c.1 ∈ qs fs∧(c.2="yes" ∨ c.2="no"):=by
  obtain ⟨q,hq,hc⟩:=List.mem_flatMap.mp h
  simp only [twoC,List.mem_cons,List.not_mem_nil,or_false] at hc
  rcases hc with rfl | rfl
  · exact ⟨hq,.inl rfl⟩
  · exact ⟨hq,.inr rfl⟩
theorem chs_len (fs:Fs):(chs fs).length=2 * (toChoose fs).length:=by
  unfold chs qs
  generalize (toChoose fs)=l
  induction l with
  | nil=>rfl
  | cons x l ih =>
    rw [List.map_cons,List.flatMap_cons,List.length_append,ih]
    show 2 + _=2 * (l.length + 1)
    omega
def onC (fs:Fs) (c:Ch) (r:Rw):Bool:=onY fs c.1.1 c.1.2.1 c.1.2.2 c.2 r
abbrev yR (fs:Fs) (c:Ch) (R:List Rw):List Rw:=R.filter (onC fs c)
abbrev nR (fs:Fs) (c:Ch) (R:List Rw):List Rw:=R.filter fun r=>!onC fs c r
def proper (fs:Fs) (R:List Rw) (c:Ch):Bool:=!(yR fs c R).isEmpty && !(nR fs c R).isEmpty
def leafV (fs:Fs) (fa:List Rw→Str) (a:Int) (R:List Rw):Int × Tr:=(a * (slipN fs (.say (fa R)) R:Nat),.say (fa R))
def stepB (b:Int) (c:Ch) (x y told:Int × Tr):Int × Tr:=if b + x.1 + y.1 < told.1 then (b + x.1 + y.1,.ask c.1.1 c.1.2.1 c.1.2.2 c.2 x.2 y.2) else told
def best (fs:Fs) (fa:List Rw→Str) (a b:Int):Nat→List Rw→Int × Tr
  | 0,R=>leafV fs fa a R
  | d + 1,R=>((chs fs).filter (proper fs R)).foldl (fun told c=>stepB b c (best fs fa a b d (yR fs c R)) (best fs fa a b d (nR fs c R)) told) (leafV fs fa a R)
theorem fold_inv {α β:Type} {P:β→Prop} {f:β→α→β}:∀ {cs:List α} {x:β},P x→(∀ c ∈ cs,∀ y,P y→P (f y c))→P (cs.foldl f x)
  | [],_,h,_=>h
  | c::cs,x,h,k=>fold_inv (cs:=cs) (k c (List.mem_cons_self ..) x h) fun d hd=>k d (List.mem_cons_of_mem _ hd)
theorem fold_le {α:Type} {g:α→Int × Tr→Int × Tr} (dn:∀ c y,(g c y).1≤y.1):∀ (cs:List α) (x:Int × Tr),(cs.foldl (fun t c=>g c t) x).1≤x.1
  | [],_=>Int.le_refl _
  | c::cs,x=>Int.le_trans (fold_le dn cs (g c x)) (dn c x)
theorem fold_at {α:Type} {g:α→Int × Tr→Int × Tr} (dn:∀ c y,(g c y).1≤y.1) {m:α→Int} (hm:∀ c y,(g c y).1≤m c):∀ (cs:List α) (x:Int × Tr) (c:α),c ∈ cs→(cs.foldl (fun t c=>g c t) x).1≤m c
  | c'::cs,x,c,h=>by
    rcases List.mem_cons.mp h with rfl | h
    · exact Int.le_trans (fold_le dn cs (g c x)) (hm c x)
    · exact fold_at dn hm cs (g c' x) c h
section
variable {fs:Fs} {fa:List Rw→Str} {a b:Int}
theorem step_dn (c:Ch) (x y t:Int × Tr):(stepB b c x y t).1≤t.1:=by
  unfold stepB
  split
  · rename_i h; exact Int.le_of_lt h
  · exact Int.le_refl _
theorem step_le (c:Ch) (x y t:Int × Tr):(stepB b c x y t).1≤b + x.1 + y.1:=by
  unfold stepB
  split
  · exact Int.le_refl _
  · rename_i h; exact Int.not_lt.mp h
abbrev cC (fs:Fs) (fa:List Rw→Str) (a b:Int) (d:Nat) (R:List Rw) (c:Ch):Int:=b + (best fs fa a b d (yR fs c R)).1 + (best fs fa a b d (nR fs c R)).1
theorem best_leaf (d:Nat) (R:List Rw):(best fs fa a b d R).1≤(leafV fs fa a R).1:=by
  cases d with
  | zero=>exact Int.le_refl _
  | succ d=>exact fold_le (g:=fun c t=>stepB b c (best fs fa a b d (yR fs c R)) (best fs fa a b d (nR fs c R)) t) (fun c y=>step_dn c _ _ y) _ _
theorem best_c {d:Nat} {R:List Rw} {c:Ch} (hc:c ∈ chs fs) (hp:proper fs R c=true):(best fs fa a b (d + 1) R).1≤cC fs fa a b d R c :=
  fold_at (g:=fun c t=>stepB b c (best fs fa a b d (yR fs c R)) (best fs fa a b d (nR fs c R)) t) (m:=cC fs fa a b d R) (fun c y=>step_dn c _ _ y) (fun c y=>step_le c _ _ y) _ _ c (List.mem_filter.mpr ⟨hc,hp⟩)
theorem best_is (d:Nat) (R:List Rw):(best fs fa a b (d + 1) R).1=(leafV fs fa a R).1 ∨ ∃ c ∈ chs fs,proper fs R c=true∧(best fs fa a b (d + 1) R).1=cC fs fa a b d R c:=by
  refine fold_inv (P:=fun t:Int × Tr=>t.1=(leafV fs fa a R).1 ∨ ∃ c ∈ chs fs,proper fs R c=true∧t.1=cC fs fa a b d R c) (.inl rfl) fun c hc y hy=>?_
  obtain ⟨h1,h2⟩:=List.mem_filter.mp hc
  unfold stepB
  split
  · exact .inr ⟨c,h1,h2,rfl⟩
  · exact hy
theorem best_nn (ha:0≤a) (hb:0≤b):∀ (d:Nat) (R:List Rw),0≤(best fs fa a b d R).1
  | 0,R=>Int.mul_nonneg ha (Int.natCast_nonneg _)
  | d + 1,R=>by
    rcases best_is (fs:=fs) (fa:=fa) (a:=a) (b:=b) d R with h | ⟨c,_,_,h⟩
    · rw [h]; exact Int.mul_nonneg ha (Int.natCast_nonneg _)
    · rw [h]
      have h1:=best_nn ha hb d (yR fs c R)
      have h2:=best_nn ha hb d (nR fs c R)
      show 0≤b + _ + _
      omega
theorem best_mono:∀ (d:Nat) (R:List Rw),(best fs fa a b (d + 1) R).1≤(best fs fa a b d R).1
  | 0,R=>best_leaf 1 R
  | d + 1,R=>by
    rcases best_is (fs:=fs) (fa:=fa) (a:=a) (b:=b) d R with h | ⟨c,hc,hp,h⟩
    · rw [h]; exact best_leaf _ R
    · rw [h]
      refine Int.le_trans (best_c hc hp) ?_
      have h1:=best_mono d (yR fs c R)
      have h2:=best_mono d (nR fs c R)
      show b + _ + _≤b + _ + _
      omega
theorem parts_im {R:List Rw} {c:Ch} (h:proper fs R c=false):(yR fs c R=[]∧nR fs c R=R) ∨ (yR fs c R=R∧nR fs c R=[]):=by
  unfold proper at h
  rw [Bool.and_eq_false_iff] at h
  rcases h with h | h
  · have hy:yR fs c R=[]:=by simpa using h
    refine .inl ⟨hy,List.filter_eq_self.mpr fun r hr=>?_⟩
    have:=List.filter_eq_nil_iff.mp hy r hr
    simpa using this
  · have hy:nR fs c R=[]:=by simpa using h
    refine .inr ⟨List.filter_eq_self.mpr fun r hr=>?_,hy⟩
    have:=List.filter_eq_nil_iff.mp hy r hr
    simpa using this
theorem best_all (ha:0≤a) (hb:0≤b) (d:Nat) (R:List Rw) {c:Ch} (hc:c ∈ chs fs):(best fs fa a b (d + 1) R).1≤cC fs fa a b d R c:=by
  cases hp:proper fs R c with
  | true=>exact best_c hc hp
  | false =>
    have h0:=best_nn (fs:=fs) (fa:=fa) ha hb d []
    have h1:=best_mono (fs:=fs) (fa:=fa) (a:=a) (b:=b) d R
    unfold cC
    rcases parts_im hp with ⟨e1,e2⟩ | ⟨e1,e2⟩
    · rw [e1,e2]; omega
    · rw [e1,e2]; omega
def othN (R:List Rw) (z:Str):Nat:=(R.filter fun r=>!decide (r.2=z)).length
theorem oth_cnt (R:List Rw) (z:Str):othN R z + cnt R z=R.length:=by
  unfold othN cnt
  induction R with
  | nil=>rfl
  | cons r R ih =>
    rw [List.filter_cons,List.countP_cons,List.length_cons]
    by_cases e:r.2=z
    · rw [if_neg (by simp [e]),if_pos (decide_eq_true e)]; omega
    · rw [if_pos (by simp [e]),if_neg (by simp [e]),List.length_cons]; omega
theorem slip_oth (R:List Rw) (z:Str):slipN fs (.say z) R=othN R z:=by
  unfold slipN othN
  congr 1
  apply List.filter_congr
  intro r _
  show (!decide (z=r.2))=!decide (r.2=z)
  congr 1
  exact decide_eq_decide.mpr ⟨Eq.symm,Eq.symm⟩
theorem leaf_is {an:List Str} {R:List Rw} (hf:First an R (fa R)) (ha:0≤a):(leafV fs fa a R).1 ∈ an.map (fun z=>a * (othN R z:Nat))∧∀ m ∈ an.map (fun z=>a * ((othN R z:Nat):Int)),(leafV fs fa a R).1≤m:=by
  obtain ⟨k,h1,h2,_⟩:=hf
  have e:(leafV fs fa a R).1=a * (othN R (fa R):Nat):=by show a * _=_; rw [slip_oth]
  refine ⟨by rw [e]; exact List.mem_map.mpr ⟨_,List.mem_of_getElem? h1,rfl⟩,fun m hm=>?_⟩
  obtain ⟨z,hz,rfl⟩:=List.mem_map.mp hm
  obtain ⟨j,hj⟩:=List.getElem?_of_mem hz
  have h3:=h2 j z hj
  have h4:=oth_cnt R z
  have h5:=oth_cnt R (fa R)
  rw [e]
  exact Int.mul_le_mul_of_nonneg_left (by omega) ha
theorem best_min {an:List Str} {R:List Rw} (hf:First an R (fa R)) (ha:0≤a) (hb:0≤b) (d:Nat) {m:Int} (hm:m ∈ an.map (fun z=>a * ((othN R z:Nat):Int))++(chs fs).map (cC fs fa a b d R)) (hl:∀ n ∈ an.map (fun z=>a * ((othN R z:Nat):Int))++(chs fs).map (cC fs fa a b d R),m≤n):m=(best fs fa a b (d + 1) R).1:=by
  obtain ⟨l1,l2⟩:=leaf_is (fs:=fs) hf ha
  have h1:(best fs fa a b (d + 1) R).1≤m:=by
    rcases List.mem_append.mp hm with h | h
    · exact Int.le_trans (best_leaf _ _) (l2 m h)
    · obtain ⟨c,hc,rfl⟩:=List.mem_map.mp h
      exact best_all ha hb d R hc
  have h2:m≤(best fs fa a b (d + 1) R).1:=by
    rcases best_is (fs:=fs) (fa:=fa) (a:=a) (b:=b) d R with h | ⟨c,hc,_,h⟩
    · rw [h]; exact hl _ (List.mem_append_left _ l1)
    · rw [h]; exact hl _ (List.mem_append_right _ (List.mem_map.mpr ⟨c,hc,rfl⟩))
  omega
theorem best_min0 {an:List Str} {R:List Rw} (hf:First an R (fa R)) (ha:0≤a) {m:Int} (hm:m ∈ an.map (fun z=>a * ((othN R z:Nat):Int))) (hl:∀ n ∈ an.map (fun z=>a * ((othN R z:Nat):Int)),m≤n):m=(best fs fa a b 0 R).1:=by
  obtain ⟨l1,l2⟩:=leaf_is (fs:=fs) hf ha
  have h1:=l2 m hm
  have h2:=hl _ l1
  show m=(leafV fs fa a R).1
  omega
def TrC (fs:Fs) (an:List Str):Nat→Tr→Prop
  | _,.say z=>z ∈ an
  | 0,.ask _ _ _ _ _ _=>False
  | d + 1,.ask k n v s y m=>(k,n,v) ∈ qs fs∧(s="yes" ∨ s="no")∧TrC fs an d y∧TrC fs an d m
theorem TrC.ok {an:List Str}:∀ {d:Nat} {t:Tr},TrC fs an d t→TrOk fs an t∧t.dep≤d
  | 0,.say z,h=>⟨h,Nat.zero_le _⟩
  | d + 1,.say z,h=>⟨h,Nat.zero_le _⟩
  | 0,.ask _ _ _ _ _ _,h=>h.elim
  | d + 1,.ask k n v s y m,⟨h1,h2,h3,h4⟩=>by
    obtain ⟨a1,a2⟩:=h3.ok
    obtain ⟨b1,b2⟩:=h4.ok
    refine ⟨⟨qs_isQ h1,h2,a1,b1⟩,?_⟩
    show max y.dep m.dep + 1≤d + 1
    omega
theorem TrC.up {an:List Str}:∀ {d:Nat} {t:Tr},TrC fs an d t→TrC fs an (d + 1) t
  | 0,.say z,h=>h
  | d + 1,.say z,h=>h
  | 0,.ask _ _ _ _ _ _,h=>h.elim
  | d + 1,.ask k n v s y m,⟨h1,h2,h3,h4⟩=>⟨h1,h2,h3.up,h4.up⟩
theorem best_tree {an:List Str} (hfa:FA fs an fa):∀ (d:Nat) (R:List Rw),RowsOk fs an R→TrC fs an d (best fs fa a b d R).2∧(best fs fa a b d R).1=a * (slipN fs (best fs fa a b d R).2 R:Nat) + b * ((best fs fa a b d R).2.kn:Nat)
  | 0,R,hR=>by
    obtain ⟨k,h1,_⟩:=hfa R hR
    refine ⟨List.mem_of_getElem? h1,?_⟩
    show a * _=a * _ + b * ((0:Nat):Int)
    rw [show ((0:Nat):Int)=0 from rfl,Int.mul_zero,Int.add_zero]; rfl
  | d + 1,R,hR=>by
    refine fold_inv (P:=fun t:Int × Tr=>TrC fs an (d + 1) t.2∧t.1=a * (slipN fs t.2 R:Nat) + b * (t.2.kn:Nat)) ?_ fun c hc y hy=>?_
    · obtain ⟨k,h1,_⟩:=hfa R hR
      refine ⟨List.mem_of_getElem? h1,?_⟩
      show a * _=a * _ + b * ((0:Nat):Int)
      rw [show ((0:Nat):Int)=0 from rfl,Int.mul_zero,Int.add_zero]; rfl
    · obtain ⟨h1,h2⟩:=List.mem_filter.mp hc
      obtain ⟨hq,hs⟩:=chs_ok h1
      unfold stepB
      split
      · obtain ⟨t1,c1⟩:=best_tree hfa d (yR fs c R) (hR.filt _)
        obtain ⟨t2,c2⟩:=best_tree hfa d (nR fs c R) (hR.filt _)
        refine ⟨⟨hq,hs,t1,t2⟩,?_⟩
        have e:=slip_ask (fs:=fs) c.1.1 c.1.2.1 c.1.2.2 c.2 (best fs fa a b d (yR fs c R)).2 (best fs fa a b d (nR fs c R)).2 R
        have ek:(Tr.ask c.1.1 c.1.2.1 c.1.2.2 c.2 (best fs fa a b d (yR fs c R)).2 (best fs fa a b d (nR fs c R)).2).kn=(best fs fa a b d (yR fs c R)).2.kn + (best fs fa a b d (nR fs c R)).2.kn + 1:=rfl
        show b + (best fs fa a b d (yR fs c R)).1 + (best fs fa a b d (nR fs c R)).1=a * (slipN fs (Tr.ask c.1.1 c.1.2.1 c.1.2.2 c.2 (best fs fa a b d (yR fs c R)).2 (best fs fa a b d (nR fs c R)).2) R:Nat) + b * ((Tr.ask c.1.1 c.1.2.1 c.1.2.2 c.2 (best fs fa a b d (yR fs c R)).2 (best fs fa a b d (nR fs c R)).2).kn:Nat)
        rw [e,ek,c1,c2,Int.natCast_add,Int.natCast_add,Int.natCast_add,Int.mul_add,Int.mul_add,Int.mul_add]
        show b + (a * ((slipN fs (best fs fa a b d (yR fs c R)).2 (yR fs c R):Nat):Int) + _) + (a * ((slipN fs (best fs fa a b d (nR fs c R)).2 (nR fs c R):Nat):Int) + _)=a * ((slipN fs (best fs fa a b d (yR fs c R)).2 (yR fs c R):Nat):Int) + a * ((slipN fs (best fs fa a b d (nR fs c R)).2 (nR fs c R):Nat):Int) + (_ + _ + b * ((1:Nat):Int))
        rw [show ((1:Nat):Int)=1 from rfl,Int.mul_one]
        omega
      · exact hy
end
def numD (ns:List Nat):D:=.tuple (ns.map fun (i:Nat)=>PyData.int (i:Int))
def rowsAt (rs:List Rw) (ns:List Nat):List Rw:=ns.filterMap fun i=>rs[i]?
def onN (fs:Fs) (rs:List Rw) (c:Ch) (i:Nat):Bool:=match rs[i]? with | some r=>onC fs c r | none=>false
abbrev yN (fs:Fs) (rs:List Rw) (c:Ch) (ns:List Nat):List Nat:=ns.filter (onN fs rs c)
abbrev nN (fs:Fs) (rs:List Rw) (c:Ch) (ns:List Nat):List Nat:=ns.filter fun i=>!onN fs rs c i
abbrev NsOk (rs:List Rw) (ns:List Nat):Prop:=ns.Sublist (List.range rs.length)
theorem NsOk.lt {rs:List Rw} {ns:List Nat} (h:NsOk rs ns) {i:Nat} (hi:i ∈ ns):i < rs.length:=List.mem_range.mp (h.subset hi)
theorem NsOk.len {rs:List Rw} {ns:List Nat} (h:NsOk rs ns):ns.length≤rs.length:=by
  have:=h.length_le
  rwa [List.length_range] at this
theorem NsOk.filt {rs:List Rw} {ns:List Nat} (h:NsOk rs ns) (p:Nat→Bool):NsOk rs (ns.filter p):=List.filter_sublist.trans h
theorem rows_y {fs:Fs} {rs:List Rw} {c:Ch}:∀ {ns:List Nat},(∀ i ∈ ns,i < rs.length)→rowsAt rs (yN fs rs c ns)=yR fs c (rowsAt rs ns)∧rowsAt rs (nN fs rs c ns)=nR fs c (rowsAt rs ns)
  | [],_=>⟨rfl,rfl⟩
  | i::ns,h=>by
    have hi:=h i (List.mem_cons_self ..)
    obtain ⟨e1,e2⟩:=rows_y (fs:=fs) (rs:=rs) (c:=c) (ns:=ns) fun j hj=>h j (List.mem_cons_of_mem _ hj)
    have er:rs[i]?=some rs[i]:=List.getElem?_eq_getElem hi
    have eo:onN fs rs c i=onC fs c rs[i]:=by unfold onN; rw [er]
    have eR:rowsAt rs (i::ns)=rs[i]::rowsAt rs ns:=by unfold rowsAt; rw [List.filterMap_cons,er]
    have eR':∀ l:List Nat,rowsAt rs (i::l)=rs[i]::rowsAt rs l:=fun l=>by unfold rowsAt; rw [List.filterMap_cons,er]
    unfold yN nN yR nR at *
    rw [eR,List.filter_cons,List.filter_cons,List.filter_cons,List.filter_cons,eo]
    cases onC fs c rs[i] with
    | true=>exact ⟨by rw [if_pos rfl,if_pos rfl,eR',e1],by rw [if_neg (by decide),if_neg (by decide),e2]⟩
    | false=>exact ⟨by rw [if_neg (by decide),if_neg (by decide),e1],by rw [if_pos (by decide),if_pos (by decide),eR',e2]⟩
theorem rows_len {rs:List Rw}:∀ {ns:List Nat},(∀ i ∈ ns,i < rs.length)→(rowsAt rs ns).length=ns.length
  | [],_=>rfl
  | i::ns,h=>by
    have er:rs[i]?=some (rs[i]'(h i (List.mem_cons_self ..))):=List.getElem?_eq_getElem _
    have ih:=rows_len (rs:=rs) (ns:=ns) fun j hj=>h j (List.mem_cons_of_mem _ hj)
    unfold rowsAt at ih ⊢
    rw [List.filterMap_cons,er,List.length_cons,ih]; rfl
theorem rows_mem {rs:List Rw} {ns:List Nat} {r:Rw} (h:r ∈ rowsAt rs ns):r ∈ rs:=by
  obtain ⟨i,_,e⟩:=List.mem_filterMap.mp h
  exact List.mem_of_getElem? e
theorem rows_ok {fs:Fs} {an:List Str} {rs:List Rw} (h:RowsOk fs an rs) (ns:List Nat):RowsOk fs an (rowsAt rs ns):=fun r hr=>h r (rows_mem hr)
theorem rows_all (rs:List Rw):rowsAt rs (List.range rs.length)=rs:=by
  unfold rowsAt
  apply List.ext_getElem?
  intro i
  have:∀ n,n≤rs.length→(List.range n).filterMap (fun i=>rs[i]?)=rs.take n:=fun n=>by
    induction n with
    | zero=>intro _; simp
    | succ n ih =>
      intro hn
      rw [List.range_succ,List.filterMap_append,ih (by omega),List.take_add_one]
      congr 1
  rw [this rs.length (Nat.le_refl _),List.take_length]
theorem num_inj:∀ {xs ys:List Nat},numD xs=numD ys→xs=ys:=fun {xs ys} h=>by
  have h:PyData.tuple _=PyData.tuple _:=h
  injection h with h
  have:=congrArg (List.map fun d:D=>match d with | .int i=>i.toNat | _=>0) h
  simpa only [List.map_map,Function.comp_def,Int.toNat_natCast,List.map_id'] using this
def valD (p:Int × Tr):D:=.tuple [.int p.1,trD p.2]
def keyD (ns:List Nat) (d:Nat):D:=.tuple [numD ns,.int (d:Nat)]
def chQ (c:Ch):D:=.tuple [qD c.1,.str c.2]
def sidD (fs:Fs) (rs:List Rw) (c:Ch):D:=.list (rs.map fun r=>PyData.str (sideS fs c.1.1 c.1.2.1 c.1.2.2 c.2 r.1))
def chD (fs:Fs) (rs:List Rw) (c:Ch):D:=.tuple [qD c.1,.str c.2,sidD fs rs c]
def ns_RowSets:List Str:=["form","kept","slip","knot","choices"]
def setD (C:Addr) (fs:Fs) (an:List Str) (rs:List Rw) (a b:Int):D:=insD C ns_RowSets [frmD fs an,.list (rs.map rowD),.int a,.int b,.list ((chs fs).map (chD fs rs))]
def prtD (fs:Fs) (rs:List Rw) (ns:List Nat) (c:Ch):D:=.tuple [qD c.1,.str c.2,numD (yN fs rs c ns),numD (nN fs rs c ns)]
structure SetOk (fs:Fs) (an:List Str) (fa:List Rw→Str) (rs:List Rw) (a b:Int):Prop where
  F:Form fs an
  fa:FA fs an fa
  R:RowsOk fs an rs
  l:rs.length≤60
  a0:0≤a
  a1:a≤1000000
  b0:0≤b
  b1:b≤1000000
def sp_7:SpT:=fun ds Q=>∃ (fs:Fs) (an:List Str),ds=[frmD fs an]∧Form fs an∧Q (.list ((chs fs).map chQ))
def sp_13:SpT:=fun ds Q=>∃ (fs:Fs) (an:List Str) (c:Ch) (rs:List Rw),ds=[frmD fs an,chQ c,.list (rs.map rowD)]∧Form fs an∧c ∈ chs fs∧RowsOk fs an rs∧rs.length≤60∧Q (sidD fs rs c)
def sp_12:SpT:=fun ds Q=>∃ xs ys:List Nat,ds=[.tuple [numD xs,numD ys],.int 1]∧Q (.bool (!xs.isEmpty && !ys.isEmpty))
def sp_0:SpI:=fun ds Q=>∃ (fs:Fs) (an:List Str) (rs:List Rw) (a b:Int),ds=[frmD fs an,.list (rs.map rowD),.tuple [.int a,.int b]]∧Form fs an∧RowsOk fs an rs∧rs.length≤60∧Q [frmD fs an,.list (rs.map rowD),.int a,.int b,.list ((chs fs).map (chD fs rs))]
def sp_1 (w:World) (C:Addr):SpT:=fun ds Q=>∃ (fs:Fs) (an:List Str) (fa:List Rw→Str) (rs:List Rw) (a b:Int) (ns:List Nat),ds=[setD C fs an rs a b,numD ns]∧SetOk fs an fa rs a b∧NsOk rs ns∧Q (valD (leafV fs fa a (rowsAt rs ns)))
def sp_2 (w:World) (C:Addr):SpT:=fun ds Q=>∃ (fs:Fs) (an:List Str) (fa:List Rw→Str) (rs:List Rw) (a b:Int) (ns:List Nat),ds=[setD C fs an rs a b,numD ns]∧SetOk fs an fa rs a b∧NsOk rs ns∧Q (.list (((chs fs).filter (proper fs (rowsAt rs ns))).map (prtD fs rs ns)))
def sp_19 (w:World) (C:Addr):SpT:=fun ds Q=>∃ (fs:Fs) (an:List Str) (fa:List Rw→Str) (rs:List Rw) (a b:Int) (kvs:List (D × D)) (ns:List Nat) (d:Nat),ds=[setD C fs an rs a b,dicD w kvs,numD ns,.int (d:Nat)]∧SetOk fs an fa rs a b∧NsOk rs ns∧(∀ kv ∈ kvs,KeyOk kv.1)∧(d=0 ∨ (keyD ns d,valD (best fs fa a b d (rowsAt rs ns))) ∈ kvs)∧Q (valD (best fs fa a b d (rowsAt rs ns)))
def InK (fs:Fs) (fa:List Rw→Str) (rs:List Rw) (a b:Int) (kvs:List (D × D)) (d:Nat) (ns:List Nat):Prop:=d=0 ∨ (keyD ns d,valD (best fs fa a b d (rowsAt rs ns))) ∈ kvs
def sp_18 (w:World) (C:Addr):SpT:=fun ds Q=>∃ (fs:Fs) (an:List Str) (fa:List Rw→Str) (rs:List Rw) (a b:Int) (kvs:List (D × D)) (ns:List Nat) (d:Nat),ds=[setD C fs an rs a b,dicD w kvs,numD ns,.int ((d + 1:Nat):Int)]∧SetOk fs an fa rs a b∧NsOk rs ns∧(∀ kv ∈ kvs,KeyOk kv.1)∧(∀ c ∈ chs fs,proper fs (rowsAt rs ns) c=true→InK fs fa rs a b kvs d (yN fs rs c ns)∧InK fs fa rs a b kvs d (nN fs rs c ns))∧Q (valD (best fs fa a b (d + 1) (rowsAt rs ns)))
def sp_17 (w:World) (C:Addr):SpT:=fun ds Q=>∃ (fs:Fs) (an:List Str) (fa:List Rw→Str) (rs:List Rw) (a b:Int) (lv:List (List Nat)),ds=[setD C fs an rs a b,.list (lv.map numD)]∧SetOk fs an fa rs a b∧lv.length≤400∧(∀ x ∈ lv,NsOk rs x)∧∀ ls:List (List Nat),ls.Nodup→ls.length≤2 * (chs fs).length * lv.length→(∀ x ∈ ls,NsOk rs x) →
  (∀ ns ∈ lv,∀ c ∈ chs fs,proper fs (rowsAt rs ns) c=true→yN fs rs c ns ∈ ls∧nN fs rs c ns ∈ ls)→Q (.list (ls.map numD))
def keyP (x:List Nat × Nat):D:=keyD x.1 x.2
def Fed (fs:Fs) (rs:List Rw) (ks:List (List Nat × Nat)):Prop:=∀ (i:Nat) (x:List Nat) (d:Nat),ks[i]?=some (x,d + 2)→∀ c ∈ chs fs,proper fs (rowsAt rs x) c=true→(∃ j,i < j∧ks[j]?=some (yN fs rs c x,d + 1))∧∃ j,i < j∧ks[j]?=some (nN fs rs c x,d + 1)
def sp_16 (w:World) (C:Addr):SpT:=fun ds Q=>∃ (fs:Fs) (an:List Str) (fa:List Rw→Str) (rs:List Rw) (a b:Int) (ns:List Nat) (dp:Nat),ds=[setD C fs an rs a b,numD ns,.int (dp:Nat)]∧SetOk fs an fa rs a b∧NsOk rs ns∧dp≤2∧(chs fs).length≤40∧∀ ks:List (List Nat × Nat),ks.Nodup→ks.length≤400 →
  (∀ x ∈ ks,NsOk rs x.1∧1≤x.2∧x.2≤2)→(0 < dp→(ns,dp) ∈ ks)→Fed fs rs ks→Q (.list (ks.map keyP))
def sp_15 (w:World) (C:Addr):SpT:=fun ds Q=>∃ (fs:Fs) (an:List Str) (fa:List Rw→Str) (rs:List Rw) (a b:Int) (ns:List Nat) (dp:Nat),ds=[setD C fs an rs a b,numD ns,.int (dp:Nat)]∧SetOk fs an fa rs a b∧NsOk rs ns∧dp≤2∧(chs fs).length≤40∧∀ ks:List (List Nat × Nat),ks.length≤400→(0 < dp→(ns,dp) ∈ ks) →
  Q (dicD w (ks.map fun x=>(keyP x,valD (best fs fa a b x.2 (rowsAt rs x.1)))))
def sp_14 (w:World) (C:Addr):SpT:=fun ds Q=>∃ (fs:Fs) (an:List Str) (fa:List Rw→Str) (rs:List Rw) (a b:Int) (dp:Nat),ds=[frmD fs an,.list (rs.map rowD),.int (dp:Nat),.tuple [.int a,.int b]]∧SetOk fs an fa rs a b∧dp≤2∧(chs fs).length≤40∧∀ tb:List D,Q (.tuple [trD (best fs fa a b dp rs).2,.int (best fs fa a b dp rs).1,.list tb])
def sp_34_lt (n:Nat):SpT:=fun ds Q=>∃ (fs:Fs) (an:List Str) (fa:List Rw→Str) (rs:List Rw) (a b:Int) (d:Nat),ds=[frmD fs an,.list (rs.map rowD),.int (d:Nat),.tuple [.int a,.int b]]∧SetOk fs an fa rs a b∧d < n∧d≤2∧Q (.int (best fs fa a b d rs).1)
def sp_34:SpT:=sp_34_lt 3
theorem never_34 {ds:List D} {Q:D→Prop} (h:sp_34_lt 0 ds Q):False:=by
  obtain ⟨_,_,_,_,_,_,_,_,_,h,_⟩:=h
  omega
def sp_35_lt (n:Nat):SpT:=fun ds Q=>∃ (fs:Fs) (an:List Str) (t:Tr) (d:Nat),ds=[frmD fs an,trD t,.int (d:Nat)]∧Form fs an∧TrC fs an d t∧d < n∧d≤2∧Q (.bool true)
def sp_35:SpT:=sp_35_lt 3
theorem never_35 {ds:List D} {Q:D→Prop} (h:sp_35_lt 0 ds Q):False:=by
  obtain ⟨_,_,_,_,_,_,_,h,_⟩:=h
  omega
def sp_26:SpT:=fun ds Q=>∃ (fs:Fs) (an:List Str),ds=[frmD fs an]∧Form fs an∧Q (.list ((qs fs).map qD))
theorem seq_dnew {w:World} {u:STt} {DT:EndsT} {σ:List Sl} {i:Nat} (hi:i < σ.length) (hn:∀ (j:Nat) (hs:List Int) (kvs:List (D × D)),σ[j]? ≠ some (.dic hs kvs)) (k:u DT (σ.set i (dicS w []))):sSeq (sDNew i) u DT σ:=⟨hi,hn,k⟩
theorem one_dputB {w:World} {tk tv:ET} {DT:EndsT} {σ:List Sl} {i:Nat} {kvs:List (D × D)} (k v:D) (h:σ[i]?=some (dicS w kvs)) (hv:∀ q:D→Prop,q v→tv (σ.set i (.val (dicD w kvs))) q) (hd:v.hasDict=false) (hk:∀ q:D→Prop,q k→tk (σ.set i (.val (dicD w kvs))) q) (h1:KeyT k) (h2:∀ kv ∈ kvs,KeyOk kv.1) (h3:kvs.length≤100000) (kk:DT.nx (σ.set i (dicS w (putD kvs k v)))):sDPutB w i tk tv DT σ:=⟨kvs,h,hv _ ⟨hd,hk _ ⟨h1,h2,h3,kk⟩⟩⟩
theorem seq_dputB {u:STt} {w:World} {tk tv:ET} {DT:EndsT} {σ:List Sl} {i:Nat} {kvs:List (D × D)} (k v:D) (h:σ[i]?=some (dicS w kvs)) (hv:∀ q:D→Prop,q v→tv (σ.set i (.val (dicD w kvs))) q) (hd:v.hasDict=false) (hk:∀ q:D→Prop,q k→tk (σ.set i (.val (dicD w kvs))) q) (h1:KeyT k) (h2:∀ kv ∈ kvs,KeyOk kv.1) (h3:kvs.length≤100000) (kk:u DT (σ.set i (dicS w (putD kvs k v)))):sSeq (sDPutB w i tk tv) u DT σ:=⟨kvs,h,hv _ ⟨hd,hk _ ⟨h1,h2,h3,kk⟩⟩⟩
theorem hk_ints:∀ ns:List Nat,hkAll (ns.map fun (i:Nat)=>PyData.int (i:Int))=true∧PyData.depthAll (ns.map fun (i:Nat)=>PyData.int (i:Int))=0
  | []=>⟨rfl,rfl⟩
  | n::ns=>by
    have:=hk_ints ns
    refine ⟨?_,?_⟩
    · show (true && hkAll (ns.map fun (i:Nat)=>PyData.int (i:Int)))=true
      rw [this.1]; rfl
    · show max 0 (PyData.depthAll (ns.map fun (i:Nat)=>PyData.int (i:Int)))=0
      rw [this.2]; rfl
theorem key_num (ns:List Nat):KeyT (numD ns):=by
  obtain ⟨h1,h2⟩:=hk_ints ns
  refine ⟨⟨h1,?_⟩,_,rfl⟩
  show PyData.depthAll _ + 1≤8
  rw [h2]; decide
theorem key_key (ns:List Nat) (d:Nat):KeyT (keyD ns d):=by
  obtain ⟨h1,h2⟩:=hk_ints ns
  refine ⟨⟨?_,?_⟩,_,rfl⟩
  · show (hkAll (ns.map fun (i:Nat)=>PyData.int (i:Int)) && true)=true
    rw [h1]; rfl
  · show max (PyData.depthAll _ + 1) (max 0 0) + 1≤8
    rw [h2]; decide
theorem key_inj {xs ys:List Nat} {d e:Nat} (h:keyD xs d=keyD ys e):xs=ys∧d=e:=by
  have h:PyData.tuple _=PyData.tuple _:=h
  injection h with h
  injection h with h1 h
  injection h with h2 _
  injection h2 with h2
  exact ⟨num_inj h1,Int.ofNat.inj h2⟩
theorem tr_nd:∀ t:Tr,(trD t).hasDict=false
  | .say _=>rfl
  | .ask k n v s y m=>by
    show (PyData.hasDict (.str "ask") || (PyData.hasDict (.tuple [.str k,.str n,.str v]) || (PyData.hasDict (.str s) || (PyData.hasDict (trD y) || (PyData.hasDict (trD m) || false)))))=false
    rw [tr_nd y,tr_nd m]; rfl
theorem val_nd (p:Int × Tr):(valD p).hasDict=false:=by
  show (false || (PyData.hasDict (trD p.2) || false))=false
  rw [tr_nd]; rfl
theorem look5 (d1 d2 d3 d4 d5:D):(ns_RowSets.zip [d1,d2,d3,d4,d5]).lookup ("form":Str)=some d1∧(ns_RowSets.zip [d1,d2,d3,d4,d5]).lookup ("kept":Str)=some d2∧(ns_RowSets.zip [d1,d2,d3,d4,d5]).lookup ("slip":Str)=some d3∧(ns_RowSets.zip [d1,d2,d3,d4,d5]).lookup ("knot":Str)=some d4∧(ns_RowSets.zip [d1,d2,d3,d4,d5]).lookup ("choices":Str)=some d5:=by
  have n1:(("kept":Str) == "form")=false:=by decide +kernel
  have n2:(("slip":Str) == "form")=false:=by decide +kernel
  have n3:(("slip":Str) == "kept")=false:=by decide +kernel
  have n4:(("knot":Str) == "form")=false:=by decide +kernel
  have n5:(("knot":Str) == "kept")=false:=by decide +kernel
  have n6:(("knot":Str) == "slip")=false:=by decide +kernel
  have n7:(("choices":Str) == "form")=false:=by decide +kernel
  have n8:(("choices":Str) == "kept")=false:=by decide +kernel
  have n9:(("choices":Str) == "slip")=false:=by decide +kernel
  have n0:(("choices":Str) == "knot")=false:=by decide +kernel
  unfold ns_RowSets
  simp only [List.zip_cons_cons,List.lookup_cons,beq_self_eq_true,n1,n2,n3,n4,n5,n6,n7,n8,n9,n0,and_self]
theorem rows_no {rs:List Rw}:∀ {ns:List Nat},(∀ i ∈ ns,i < rs.length)→(ns.map fun (i:Nat)=>PyData.int (i:Int)).map (rowNo rs)=(rowsAt rs ns).map rowD
  | [],_=>rfl
  | i::ns,h=>by
    have hi:=h i (List.mem_cons_self ..)
    have ih:=rows_no (rs:=rs) (ns:=ns) fun j hj=>h j (List.mem_cons_of_mem _ hj)
    have er:rs[i]?=some rs[i]:=List.getElem?_eq_getElem hi
    have eR:rowsAt rs (i::ns)=rs[i]::rowsAt rs ns:=by unfold rowsAt; rw [List.filterMap_cons,er]
    rw [List.map_cons,List.map_cons,ih,eR,List.map_cons]
    congr 1
    show (match L2.atI rs (i:Int) with | some r=>rowD r | none=>PyData.none)=_
    rw [L2.atI_nat er]
theorem side_w {fs:Fs} {an:List Str} {rs:List Rw} {c:Ch} (F:Form fs an) (hc:c ∈ chs fs) (hR:RowsOk fs an rs):∀ {ns:List Nat},(∀ i ∈ ns,i < rs.length) →
    (ns.map fun (i:Nat)=>PyData.int (i:Int)).filter (onSide fs c.1.1 c.1.2.1 c.1.2.2 c.2 rs "yes")=(yN fs rs c ns).map (fun (i:Nat)=>PyData.int (i:Int)) ∧
    (ns.map fun (i:Nat)=>PyData.int (i:Int)).filter (onSide fs c.1.1 c.1.2.1 c.1.2.2 c.2 rs "no")=(nN fs rs c ns).map (fun (i:Nat)=>PyData.int (i:Int))
  | [],_=>⟨rfl,rfl⟩
  | i::ns,h=>by
    have hi:=h i (List.mem_cons_self ..)
    obtain ⟨e1,e2⟩:=side_w F hc hR (ns:=ns) fun j hj=>h j (List.mem_cons_of_mem _ hj)
    have er:rs[i]?=some rs[i]:=List.getElem?_eq_getElem hi
    have eo:onN fs rs c i=onC fs c rs[i]:=by unfold onN; rw [er]
    obtain ⟨hq,hs⟩:=chs_ok hc
    have hyn:=side_yn F (qs_isQ hq) hs (hR _ (List.getElem_mem hi)).1
    have o1:∀ w,onSide fs c.1.1 c.1.2.1 c.1.2.2 c.2 rs w (.int (i:Int))=decide (sideS fs c.1.1 c.1.2.1 c.1.2.2 c.2 rs[i].1=w):=fun w=>by
      show (match L2.atI rs (i:Int) with | some r=>decide (sideS fs c.1.1 c.1.2.1 c.1.2.2 c.2 r.1=w) | none=>false)=_
      rw [L2.atI_nat er]
    have oc:onC fs c rs[i]=decide (sideS fs c.1.1 c.1.2.1 c.1.2.2 c.2 rs[i].1="yes"):=rfl
    unfold yN nN at *
    rw [List.map_cons,List.filter_cons,List.filter_cons,List.filter_cons,List.filter_cons,eo,oc,o1,o1,e1,e2]
    rcases hyn with e | e
    · rw [e]
      have d1:decide (("yes":Str)="yes")=true:=by decide +kernel
      have d2:decide (("yes":Str)="no")=false:=by decide +kernel
      rw [d1,d2]
      exact ⟨rfl,rfl⟩
    · rw [e]
      have d1:decide (("no":Str)="yes")=false:=by decide +kernel
      have d2:decide (("no":Str)="no")=true:=by decide +kernel
      rw [d1,d2]
      exact ⟨rfl,rfl⟩
theorem proper_n {fs:Fs} {rs:List Rw} {c:Ch} {ns:List Nat} (h:∀ i ∈ ns,i < rs.length):proper fs (rowsAt rs ns) c=(!(yN fs rs c ns).isEmpty && !(nN fs rs c ns).isEmpty):=by
  obtain ⟨e1,e2⟩:=rows_y (fs:=fs) (rs:=rs) (c:=c) h
  have em:∀ l:List Nat,(∀ i ∈ l,i < rs.length)→(rowsAt rs l).isEmpty=l.isEmpty:=fun l hl=>by
    have:=rows_len hl
    rw [Bool.eq_iff_iff,List.isEmpty_iff_length_eq_zero,List.isEmpty_iff_length_eq_zero,this]
  unfold proper
  rw [← e1,← e2,em _ fun i hi=>h i (List.mem_filter.mp hi).1,em _ fun i hi=>h i (List.mem_filter.mp hi).1]
theorem max_cnt {an:List Str} {R:List Rw} {z:Str} (hf:First an R z) {m:Int} (hm:m ∈ cnts an R) (hx:∀ n ∈ cnts an R,n≤m):m=(cnt R z:Int):=by
  obtain ⟨k,h1,h2,_⟩:=hf
  have g1:=hx _ (List.mem_map.mpr ⟨z,List.mem_of_getElem? h1,rfl⟩)
  obtain ⟨y,hy,rfl⟩:=List.mem_map.mp hm
  obtain ⟨j,hj⟩:=List.getElem?_of_mem hy
  have g2:=h2 j y hj
  omega
def insL {α:Type} [DecidableEq α] (ls:List α) (x:α):List α:=if x ∈ ls then ls else ls++[x]
theorem ins_mem {α:Type} [DecidableEq α] {ls:List α} {x y:α}:y ∈ insL ls x ↔ y ∈ ls ∨ y=x:=by
  unfold insL
  split
  · rename_i h
    exact ⟨.inl,fun z=>z.elim id fun e=>by rw [e]; exact h⟩
  · rw [List.mem_append,List.mem_singleton]
theorem ins_nd {α:Type} [DecidableEq α] {ls:List α} {x:α} (h:ls.Nodup):(insL ls x).Nodup:=by
  unfold insL
  split
  · exact h
  · rename_i hx
    rw [List.nodup_append]
    exact ⟨h,by simp,fun a ha b hb=>by rw [List.mem_singleton.mp hb]; exact fun e=>hx (e ▸ ha)⟩
theorem ins_len {α:Type} [DecidableEq α] (ls:List α) (x:α):(insL ls x).length≤ls.length + 1:=by
  unfold insL
  split
  · omega
  · rw [List.length_append]; exact Nat.le_refl _
def tabD {α:Type} (kf:α→D) (ls:List α):List (D × D):=ls.map fun y=>(kf y,.bool true)
theorem tab_keys {α:Type} (kf:α→D) (ls:List α):(tabD kf ls).map (·.1)=ls.map kf:=by
  unfold tabD
  rw [List.map_map]; rfl
theorem put_tab {α:Type} [DecidableEq α] {kf:α→D} (inj:∀ x y,kf x=kf y→x=y) (ls:List α) (x:α):putD (tabD kf ls) (kf x) (.bool true)=tabD kf (insL ls x):=by
  have hm:kf x ∈ (tabD kf ls).map (·.1) ↔ x ∈ ls:=by
    rw [tab_keys,List.mem_map]
    exact ⟨fun ⟨y,hy,e⟩=>inj y x e ▸ hy,fun h=>⟨x,h,rfl⟩⟩
  unfold putD insL
  by_cases h:x ∈ ls
  · rw [if_pos (hm.mpr h),if_pos h]
    unfold tabD
    rw [List.map_map]
    apply List.map_congr_left
    intro y _
    show (if kf y=kf x then (kf y,PyData.bool true) else (kf y,PyData.bool true))=_
    split <;> rfl
  · rw [if_neg (fun z=>h (hm.mp z)),if_neg h]
    unfold tabD
    rw [List.map_append]; rfl
theorem tab_ok {α:Type} {kf:α→D} (hk:∀ x,KeyOk (kf x)) (ls:List α):∀ kv ∈ tabD kf ls,KeyOk kv.1:=fun kv h=>by
  obtain ⟨y,_,rfl⟩:=List.mem_map.mp h
  exact hk y
theorem keyP_inj (x y:List Nat × Nat) (h:keyP x=keyP y):x=y:=Prod.ext (key_inj h).1 (key_inj h).2
theorem ins_new {α:Type} [DecidableEq α] {ls:List α} {x:α} (h:x ∉ ls):insL ls x=ls++[x]:=if_neg h
theorem put_new {kvs:List (D × D)} {k v:D} (h:k ∉ kvs.map (·.1)):putD kvs k v=kvs++[(k,v)]:=if_neg h
structure MInv (fs:Fs) (rs:List Rw) (ns:List Nat) (dp k:Nat) (ks:List (List Nat × Nat)) (lv:List (List Nat)):Prop where
  nd:ks.Nodup
  nl:lv.Nodup
  lo:∀ x ∈ lv,NsOk rs x
  ko:∀ x ∈ ks,NsOk rs x.1∧dp < x.2 + k∧x.2≤dp∧1≤x.2
  z0:k=0→lv=[ns]∧ks=[]
  z1:0 < k→(ns,dp) ∈ ks
  fed:∀ (i:Nat) (x:List Nat) (d:Nat),ks[i]?=some (x,d + 2)→∀ c ∈ chs fs,proper fs (rowsAt rs x) c=true→((∃ j,i < j∧ks[j]?=some (yN fs rs c x,d + 1)) ∨ (d + 1 + k=dp∧yN fs rs c x ∈ lv))∧((∃ j,i < j∧ks[j]?=some (nN fs rs c x,d + 1)) ∨ (d + 1 + k=dp∧nN fs rs c x ∈ lv))
theorem MInv.step {fs:Fs} {rs:List Rw} {ns:List Nat} {dp k:Nat} {ks:List (List Nat × Nat)} {lv lv':List (List Nat)} (m:MInv fs rs ns dp k ks lv) (hk:k < dp) (nl:lv'.Nodup) (lo:∀ x ∈ lv',NsOk rs x)
    (hs:k + 1 < dp→∀ x ∈ lv,∀ c ∈ chs fs,proper fs (rowsAt rs x) c=true→yN fs rs c x ∈ lv'∧nN fs rs c x ∈ lv'):MInv fs rs ns dp (k + 1) (ks++lv.map fun x=>(x,dp - k)) lv':=by
  have at2:∀ s,s ∈ lv→∀ i,i < ks.length→∃ j,i < j∧(ks++lv.map fun x=>(x,dp - k))[j]?=some (s,dp - k):=fun s hs i hi=>by
    obtain ⟨j,hj⟩:=List.getElem?_of_mem hs
    refine ⟨ks.length + j,by omega,?_⟩
    rw [List.getElem?_append_right (by omega),List.getElem?_map,show ks.length + j - ks.length=j by omega,hj]; rfl
  refine ⟨?_,nl,lo,fun x hx=>?_,fun z=>absurd z (Nat.succ_ne_zero _),fun _=>?_,fun i x d hi c hc hp=>?_⟩
  · rw [List.nodup_append]
    refine ⟨m.nd,?_,fun a ha b hb=>?_⟩
    · exact List.Pairwise.map _ (fun a b (h:a ≠ b) e=>h (congrArg Prod.fst e)) m.nl
    · obtain ⟨y,_,rfl⟩:=List.mem_map.mp hb
      rintro rfl
      have:=(m.ko _ ha).2.1
      dsimp only at this
      omega
  · rcases List.mem_append.mp hx with hx | hx
    · obtain ⟨h1,h2,h3,h4⟩:=m.ko x hx
      exact ⟨h1,by omega,h3,h4⟩
    · obtain ⟨y,hy,rfl⟩:=List.mem_map.mp hx
      exact ⟨m.lo y hy,by dsimp only; omega,by dsimp only; omega,by dsimp only; omega⟩
  · by_cases h0:k=0
    · obtain ⟨e1,e2⟩:=m.z0 h0
      rw [e1,e2,h0]
      exact List.mem_singleton.mpr rfl
    · exact List.mem_append_left _ (m.z1 (by omega))
  · by_cases hl:i < ks.length
    · rw [List.getElem?_append_left hl] at hi
      obtain ⟨f1,f2⟩:=m.fed i x d hi c hc hp
      have go:∀ s,((∃ j,i < j∧ks[j]?=some (s,d + 1)) ∨ (d + 1 + k=dp∧s ∈ lv))→(∃ j,i < j∧(ks++lv.map fun x=>(x,dp - k))[j]?=some (s,d + 1)) ∨ (d + 1 + (k + 1)=dp∧s ∈ lv'):=fun s h=>by
        rcases h with ⟨j,h1,h2⟩ | ⟨h1,h2⟩
        · exact .inl ⟨j,h1,by rw [List.getElem?_append_left (List.getElem?_eq_some_iff.mp h2).1]; exact h2⟩
        · obtain ⟨j,g1,g2⟩:=at2 s h2 i hl
          exact .inl ⟨j,g1,by rw [g2]; congr 2; omega⟩
      exact ⟨go _ f1,go _ f2⟩
    · rw [List.getElem?_append_right (by omega),List.getElem?_map] at hi
      obtain ⟨y,hy,e⟩:=Option.map_eq_some_iff.mp hi
      injection e with e1 e2
      subst e1
      obtain ⟨g1,g2⟩:=hs (by omega) y (List.mem_of_getElem? hy) c hc hp
      exact ⟨.inr ⟨by omega,g1⟩,.inr ⟨by omega,g2⟩⟩
theorem MInv.fin {fs:Fs} {rs:List Rw} {ns:List Nat} {dp:Nat} {ks:List (List Nat × Nat)} {lv:List (List Nat)} (m:MInv fs rs ns dp dp ks lv):Fed fs rs ks:=fun i x d hi c hc hp=>by
  obtain ⟨f1,f2⟩:=m.fed i x d hi c hc hp
  exact ⟨f1.elim id fun h=>absurd h.1 (by omega),f2.elim id fun h=>absurd h.1 (by omega)⟩
theorem th_leaf:("leaf_of":Str) ∉ ns_RowSets:=by decide +kernel
theorem th_part:("partings":Str) ∉ ns_RowSets:=by decide +kernel
theorem _root_.L2.Room.u9 {k:Nat} {A:Around} (r:Room k A):A.units + 9 < cLine:=by have:=r.un; omega
theorem one_setR {te:ET} {DT:EndsT} {σ:List Sl} {i:Nat} (R:D→Prop) (h:∀ q:D→Prop,(∀ v,R v→q v)→te σ q) (k:∀ v,R v→DT.nx (σ.set i (.val v))):sSet i te DT σ:=h _ k
theorem SetOk.filt {fs:Fs} {an:List Str} {fa:List Rw→Str} {rs:List Rw} {a b:Int} (S:SetOk fs an fa rs a b) (p:Rw→Bool):SetOk fs an fa (rs.filter p) a b :=
  ⟨S.F,S.fa,S.R.filt p,Nat.le_trans (List.length_filter_le _ _) S.l,S.a0,S.a1,S.b0,S.b1⟩
def midF (f:Str × List Str) (x:D):D:=match x with | .int i=>(match L2.atI (f.2.map PyData.str) i with | some d=>PyData.tuple [.str "upto",.str f.1,d] | none=>.none) | _=>.none
theorem mid_ints {f:Str × List Str} (h:2≤f.2.length):(TL.intsFrom 1 (((f.2.map PyData.str).length:Int) - 2 - 1).toNat).map (midF f)=(qMid f).map (mkQ "upto" f):=by
  have hn:(((f.2.map PyData.str).length:Int) - 2 - 1).toNat=f.2.length - 3:=by rw [List.length_map]; omega
  rw [hn]
  unfold TL.intsFrom qMid
  apply List.ext_getElem?
  intro m
  rw [List.getElem?_map,List.getElem?_map,List.getElem?_map]
  by_cases hm:m < f.2.length - 3
  · rw [List.getElem?_range hm,List.getElem?_take,if_pos hm,List.getElem?_drop,List.getElem?_eq_getElem (show 1 + m < f.2.length by omega)]
    have e:(1:Int) + (m:Int)=((1 + m:Nat):Int):=by omega
    unfold midF
    show some (match L2.atI (f.2.map PyData.str) ((1:Int) + (m:Int)) with | some d=>PyData.tuple [.str "upto",.str f.1,d] | none=>.none)=some (mkQ "upto" f (f.2[1 + m]'(by omega)))
    rw [e,atI_strs (by omega)]; rfl
  · rw [List.getElem?_eq_none (by rw [List.length_range]; omega),List.getElem?_eq_none (by rw [List.length_take,List.length_drop]; omega)]; rfl
theorem in_qs {fs:Fs} {an:List Str} (F:Form fs an) {q:Qn} (h:q ∈ qs fs):okIn (qD q) (.list ((qs fs).map qD))∧inD (qD q) (.list ((qs fs).map qD))=true:=by
  have hm:qD q ∈ toChoose fs:=by rw [← qs_data]; exact List.mem_map.mpr ⟨q,h,rfl⟩
  have t:=th_choose F _ hm
  obtain ⟨_,_,_,_,b5,b6⟩:=th_all (th_choose F)
  rw [qs_data]
  refine ⟨⟨b6,t.lay,by omega⟩,?_⟩
  show ((toChoose fs).any fun z=>PyData.eqv z (qD q))=true
  rw [List.any_eq_true]
  exact ⟨qD q,hm,PySem.SeqAt.eqv_refl _ t.lay⟩
theorem yn_nm:∀ y ∈ (["yes","no"]:List Str),nmS y=true:=by decide +kernel
theorem cd_nm {z:Str} (h:nmS z=true):Cd (.str z):=(th_name h (n:=8) (m:=0) (Nat.le_refl _)).cd (by decide)
theorem in_two {s:Str} (h:s="yes" ∨ s="no"):okIn (.str s) (.tuple [.str "yes",.str "no"])∧inD (.str s) (.tuple [.str "yes",.str "no"])=true:=by
  have hm:s ∈ (["yes","no"]:List Str):=by rcases h with rfl | rfl <;> decide +kernel
  refine ⟨ok_strs yn_nm (cd_nm (yn_nm s hm)),?_⟩
  show (((["yes","no"]:List Str).map PyData.str).any fun y=>PyData.eqv y (.str s))=true
  rw [any_strs]; exact decide_eq_true hm
theorem seq_unp3 {te:ET} {u:STt} {DT:EndsT} {σ:List Sl} {i j l:Nat} {a b c:D} (h:∀ q:D→Prop,q (.tuple [a,b,c])→te σ q) (k:u DT (((σ.set i (.val a)).set j (.val b)).set l (.val c))):sSeq (sUnpG te (gP3 i j l)) u DT σ:=h _ ⟨a,b,c,rfl,k⟩

end K35

namespace K35
open PySem L2 TL

section
variable {P:Program} {w:World} {K:PySem.W.Frag} {mg:Str→Option Value} {base:Heap} {A:Adr}
theorem sc_3:FnScope ["form","rows","told"] ["form","rows"] (defScope (top 4)):=fsc
set_option maxHeartbeats 4000000 in
theorem ok_3 (T:Txt K mg A):FnOk P w K mg base CX0 1 A.a_3 A.f_3 ["form","rows"] (liftSpF K sp_3):=by
  refine fnF T.F_3 sc_3 (fun ds Q h=>by obtain ⟨fs,an,rs,rfl,F,hok,hrl,h⟩:=h; rfl) fun cdv Ar outer s H E hr ds Q h=>?_
  obtain ⟨fs,an,rs,rfl,F,hok,hrl,h⟩:=h
  have nd:=sc_3.nd
  refine ⟨_,(st_cons (ss 2 nd (et_lc (fr:=[none]) (N':=["row"]) (it_val (et_v 1)) (fun b=>⟨(gt_name (pn 0 (show List.Nodup (["row"]:List Str) from by decide +kernel))),if_nil,(et_ix ix_seq o_ix (et_v 0) et_int)⟩) (fun hi hY=>pe_lcc (show lcChk _ (defScope (top 4)) ["form","rows","told"] ["row"] [none]=true from by decide +kernel) rfl hi hY)))
  (st_one (st_retF (ft_lc (fr:=[none,some 2]) (N':=["answer","told"]) (it_val (et_ix ix_seq o_ix (et_v 0) et_int)) (fun b=>⟨(gt_name (pn 0 (show List.Nodup (["answer","told"]:List Str) from by decide +kernel))),if_nil,(et_lcount (et_v 1) (at_cons (et_v 0) at_nil) (fun h ha=>pe_bm PySem.F.plainAttrs_list PySem.F.slot_list_count PySem.F.type_list_count (mt_lcount hr) h ha))⟩) (fun hi hY=>pe_lcc (show lcChk _ (defScope (top 4)) ["form","rows","told"] ["answer","told"] [none,some 2]=true from by decide +kernel) rfl hi hY))))),?_⟩
  show sSeq _ _ _ [.val (frmD fs an),.val (.list (rs.map rowD)),.un]
  have a4:=F.a4
  refine seq_set (.list (rs.map fun r=>PyData.str r.2)) (fun q hq=>?_) ?_
  · refine lcx_map (ts:=rs.map rowD) (fun R h=>⟨_,rfl,_,rfl,h⟩) sndT (by rw [List.length_map]; omega) (fun x q hx hq=>?_) ?_
    · obtain ⟨r,hr,rfl⟩:=List.mem_map.mp hx
      exact ⟨_,rfl,_,rfl,hq⟩
    · rw [List.map_map]; exact hq
  have ll:=lay_strs (ys:=rs.map fun r=>r.2) fun y hy=>by
    obtain ⟨r,hr,rfl⟩:=List.mem_map.mp hy
    exact F.an.2.1 _ (hok r hr).2
  rw [List.map_map] at ll
  refine fLc_of (lcx_map (ts:=an.map PyData.str) (fun R h=>⟨_,rfl,_,rfl,_,rfl,h⟩) (cntD rs) (by rw [List.length_map]; omega) (fun x q hx hq=>?_) ?_)
  · obtain ⟨a,ha,rfl⟩:=List.mem_map.mp hx
    have hA:=th_name (F.an.2.1 a ha) (n:=8) (m:=0) (Nat.le_refl _)
    refine ⟨_,rfl,_,rfl,_,rfl,_,rfl,⟨ll.1,hA.lay,by have:=hA.depth; omega⟩,?_⟩
    rw [told_count]; exact hq
  · show Q _
    have e:(an.map PyData.str).map (cntD rs)=(cnts an rs).map PyData.int:=by
      unfold cnts
      rw [List.map_map,List.map_map]; rfl
    rw [e]; exact h

theorem sc_4:FnScope ["form","rows","counts"] ["form","rows"] (defScope (top 5)):=fsc
set_option maxHeartbeats 4000000 in
theorem ok_4 (T:Txt K mg A)
    (F_3:FnOk P w K mg base CX0 1 A.a_3 A.f_3 ["form","rows"] (liftSpF K sp_3)):FnOk P w K mg base CX0 2 A.a_4 A.f_4 ["form","rows"] (liftSp K sp_4):=by
  refine fnT T.F_4 sc_4 (fun ds Q h=>by obtain ⟨fs,an,rs,rfl,F,hok,hrl,h⟩:=h; rfl) fun cdv Ar outer s H E hr ds Q h=>?_
  obtain ⟨fs,an,rs,rfl,F,hok,hrl,h⟩:=h
  have nd:=sc_4.nd
  refine ⟨_,(st_cons (ss 2 nd (et_fr (ft_call F_3 T.m_3 T.k_3 T.d_3 (hr.mono (by decide)) (at_cons (et_v 0) (at_cons (et_v 1) at_nil)) (fun h=>pe_call F_3 (hr.mono (by decide)) rfl T.m_3 T.k_3 T.d_3 .nil pass0 h))))
  (st_one (st_ret (et_ix ix_seq o_ix (et_ix ix_seq o_ix (et_v 0) et_int) (et_lindex (et_v 2) (at_cons (et_cb c_max (at_cons (et_v 2) at_nil) (fun h=>pe_callB (call_max_ints rfl) rfl T.b_max bl_max h)) at_nil) (fun h ha=>pe_bm PySem.F.plainAttrs_list PySem.F.slot_list_index PySem.F.type_list_index (mt_lindex hr) h ha)))))),?_⟩
  show sSeq _ _ _ [.val (frmD fs an),.val (.list (rs.map rowD)),.un]
  have a2:=F.a2
  refine seq_set (.list ((cnts an rs).map PyData.int)) (fun q hq=>⟨_,rfl,_,rfl,fs,an,rs,rfl,F,hok,hrl,hq⟩) ?_
  have hne:cnts an rs ≠ []:=fun z=>by
    have:=congrArg List.length z
    unfold cnts at this
    rw [List.length_map] at this
    simp at this
    rw [this] at a2
    simp at a2
  refine ⟨_,rfl,_,rfl,_,rfl,_,rfl,_,rfl,_,rfl,hne,fun m hm hmax=>?_⟩
  obtain ⟨j,hj,hno⟩:=first_of (cnts an rs) m hm
  have hjl:=(List.getElem?_eq_some_iff.mp hj).1
  have hal:(cnts an rs).length=an.length:=by unfold cnts; rw [List.length_map]
  have a4:=F.a4
  have haj:an[j]?=some an[j]:=List.getElem?_eq_getElem (by omega)
  have hcj:(cnts an rs)[j]?=some ((cnt rs an[j]:Nat):Int):=by unfold cnts; rw [List.getElem?_map,haj]; rfl
  rw [hj] at hcj
  have em:m=((cnt rs an[j]:Nat):Int):=Option.some.inj hcj
  refine ⟨_,j,rfl,okIx_ints hj hno,by omega,_,L2.atI_nat (by rw [List.getElem?_map,haj]; rfl),h _ ⟨j,haj,fun i b hb=>?_,fun i b hi hb=>?_⟩⟩
  · have:=hmax ((cnt rs b:Nat):Int) (List.mem_of_getElem? (i:=i) (by unfold cnts; rw [List.getElem?_map,hb]; rfl))
    omega
  · have hcb:(cnts an rs)[i]?=some ((cnt rs b:Nat):Int):=by unfold cnts; rw [List.getElem?_map,hb]; rfl
    have h1:=hmax _ (List.mem_of_getElem? hcb)
    have h2:((cnt rs b:Nat):Int) ≠ m:=fun z=>hno i hi (by rw [hcb,z])
    omega

theorem sc_6:FnScope ["field","name","values","told_by_is","told_by_upto"] ["field"] (defScope (top 9)):=fsc
set_option maxHeartbeats 4000000 in
theorem ok_6 (T:Txt K mg A):FnOk P w K mg base CX0 1 A.a_6 A.f_6 ["field"] (liftSpF K sp_6):=by
  refine fnF T.F_6 sc_6 (fun ds Q h=>by obtain ⟨f,rfl,h2,h5,h⟩:=h; rfl) fun cdv Ar outer s H E hr ds Q h=>?_
  obtain ⟨f,rfl,h2,h5,h⟩:=h
  have nd:=sc_6.nd
  refine ⟨_,(st_cons (ss 1 nd (et_ix ix_seq o_ix (et_v 0) et_int))
  (st_cons (ss 2 nd (et_ix ix_seq o_ix (et_v 0) et_int))
  (st_cons (ss 3 nd (et_if (tt_cmp op_eq o_eq (et_cb c_len (at_cons (et_v 2) at_nil) (fun h=>pe_callB call_lenAny rfl T.b_len bl_len h)) et_int) (et_slice sl_any o_sl (et_v 2) ot_none (ot_some et_int)) (et_v 2)))
  (st_cons (ss 4 nd (et_slice sl_any o_sl (et_v 2) (ot_some et_int) (ot_some (et_neg et_int))))
  (st_one (st_retF (ft_add (et_lc (fr:=[none,some 1]) (N':=["value","name"]) (it_val (et_v 3)) (fun b=>⟨(gt_name (pn 0 (show List.Nodup (["value","name"]:List Str) from by decide +kernel))),if_nil,(et_tup (at_cons et_str (at_cons (et_v 1) (at_cons (et_v 0) at_nil))))⟩) (fun hi hY=>pe_lcc (show lcChk _ (defScope (top 9)) ["field","name","values","told_by_is","told_by_upto"] ["value","name"] [none,some 1]=true from by decide +kernel) rfl hi hY)) (et_lc (fr:=[none,some 1]) (N':=["value","name"]) (it_val (et_v 4)) (fun b=>⟨(gt_name (pn 0 (show List.Nodup (["value","name"]:List Str) from by decide +kernel))),if_nil,(et_tup (at_cons et_str (at_cons (et_v 1) (at_cons (et_v 0) at_nil))))⟩) (fun hi hY=>pe_lcc (show lcChk _ (defScope (top 9)) ["field","name","values","told_by_is","told_by_upto"] ["value","name"] [none,some 1]=true from by decide +kernel) rfl hi hY))))))))),?_⟩
  show sSeq _ _ _ [.val (fldD f),.un,.un,.un,.un]
  refine seq_set (.str f.1) (fun q hq=>⟨_,rfl,_,rfl,hq⟩) ?_
  refine seq_set (.tuple (f.2.map PyData.str)) (fun q hq=>⟨_,rfl,_,rfl,hq⟩) ?_
  refine seq_set (.tuple ((qSel f).map PyData.str)) (fun q hq=>⟨_,rfl,?_⟩) ?_
  · show (if decide (((f.2.map PyData.str).length:Int)=2)=true then _ else _)
    unfold qSel at hq
    rw [List.length_map]
    by_cases e:f.2.length=2
    · rw [if_pos (decide_eq_true (by omega))]
      rw [if_pos e] at hq
      refine ⟨_,rfl,?_⟩
      show q (.tuple (cutD (f.2.map PyData.str) none (some 1)))
      rw [cut_map,cut_one _ h2]; exact hq
    · rw [if_neg (by simpa using (by omega:¬ (f.2.length:Int)=2))]
      rw [if_neg e] at hq
      exact ⟨_,rfl,hq⟩
  refine seq_set (.tuple ((qMid f).map PyData.str)) (fun q hq=>⟨_,rfl,?_⟩) ?_
  · show q (.tuple (cutD (f.2.map PyData.str) (some 1) (some (-2))))
    rw [cut_map,cut_mid _ h2]; exact hq
  have s5:(qSel f).length≤5:=by
    unfold qSel
    split
    · rw [List.length_take]; omega
    · omega
  have m5:(qMid f).length≤5:=by
    unfold qMid
    rw [List.length_take,List.length_drop]; omega
  dsimp only [sRetF,fAddL]
  refine lcx_map (ts:=(qSel f).map PyData.str) (fun R h=>⟨_,rfl,_,rfl,h⟩) (fun x=>.tuple [.str "is",.str f.1,x]) (by rw [List.length_map]; omega) (fun x q hx hq=>⟨_,rfl,_,rfl,Nat.le_of_ble_eq_true rfl,hq⟩) ?_
  refine lcx_map (ts:=(qMid f).map PyData.str) (fun R h=>⟨_,rfl,_,rfl,h⟩) (fun x=>.tuple [.str "upto",.str f.1,x]) (by rw [List.length_map]; omega) (fun x q hx hq=>⟨_,rfl,_,rfl,Nat.le_of_ble_eq_true rfl,hq⟩) ?_
  refine ⟨_,_,rfl,rfl,by simp only [List.length_map]; omega,?_⟩
  rw [List.map_map,List.map_map]
  exact h

theorem sc_5:FnScope ["form","questions","field"] ["form"] (defScope (top 8)):=fsc
set_option maxHeartbeats 4000000 in
theorem ok_5 (T:Txt K mg A)
    (F_6:FnOk P w K mg base CX0 1 A.a_6 A.f_6 ["field"] (liftSpF K sp_6)):FnOk P w K mg base CX0 2 A.a_5 A.f_5 ["form"] (liftSpF K sp_5):=by
  refine fnF T.F_5 sc_5 (fun ds Q h=>by obtain ⟨fs,an,rfl,F,h⟩:=h; rfl) fun cdv Ar outer s H E hr ds Q h=>?_
  obtain ⟨fs,an,rfl,F,h⟩:=h
  have nd:=sc_5.nd
  refine ⟨_,(st_cons (st_own (i:=1) at_nil (fun h=>ps_set (i:=1) nd rfl (by first | exact Or.inl rfl | exact Or.inr rfl) h))
  (st_cons (st_for (it_val (et_ix ix_seq o_ix (et_v 0) et_int)) (gt_name (pn 2 nd))
  (st_one (st_extL (i:=1) (pv 1) (et_fr (ft_call F_6 T.m_6 T.k_6 T.d_6 (hr.mono (by decide)) (at_cons (et_v 2) at_nil) (fun h=>pe_call F_6 (hr.mono (by decide)) rfl T.m_6 T.k_6 T.d_6 .nil pass0 h))) (pb:=fun h=>ps_expr (pe_bm PySem.F.plainAttrs_list PySem.F.slot_list_extend PySem.F.type_list_extend mt_extL (pv 1) h)))) (fun hi hg hb=>ps_for PassesOwn.never rfl hi hg hb))
  (st_one (st_retOwn (pv 1))))),?_⟩
  show sSeq _ _ _ [.val (frmD fs an),.un,.un]
  have n5:=F.n5
  refine seq_own [] (by decide) (fun q hq=>hq) ?_
  refine seq_for (ts:=fs.map fldD) (fun R h=>⟨_,rfl,_,rfl,_,rfl,h⟩)
    (fun k σ=>∃ s2:Sl,σ=[.val (frmD fs an),.own (toChoose (fs.take k)),s2]) ⟨_,rfl⟩ (fun k x σ' hx hP=>?_) fun σ' hP=>?_
  · obtain ⟨s2,rfl⟩:=hP
    rw [List.getElem?_map] at hx
    obtain ⟨f,hfk,rfl⟩:=Option.map_eq_some_iff.mp hx
    have hf:f ∈ fs:=List.mem_of_getElem? hfk
    obtain ⟨v2,v5,hvv⟩:=F.vs f hf
    have hcl:=choose_len F (fs.take k) fun g hg=>List.mem_of_mem_take hg
    have hkl:(fs.take k).length≤5:=by rw [List.length_take]; omega
    have hql:(qOf f).length≤10:=by
      unfold qOf qSel qMid
      rw [List.length_append,List.length_map,List.length_map,List.length_take,List.length_drop]
      split
      · rw [List.length_take]; omega
      · omega
    refine one_extL (ts:=toChoose (fs.take k)) (us:=qOf f) rfl (by omega) (fun q hq=>⟨_,rfl,f,rfl,v2,v5,hq⟩) ⟨.val (fldD f),?_⟩
    have e:toChoose (fs.take (k + 1))=toChoose (fs.take k)++qOf f:=by
      unfold toChoose
      rw [List.take_add_one,hfk,List.map_append,List.flatten_append]
      show _++[qOf f].flatten=_
      rw [List.flatten_singleton]
    rw [e]; rfl
  · obtain ⟨s2,rfl⟩:=hP
    rw [List.length_map,List.take_length]
    exact ⟨_,rfl,h⟩

theorem sc_7:FnScope ["form","choices","question"] ["form"] (defScope (top 10)):=fsc
set_option maxHeartbeats 4000000 in
theorem ok_7 (T:Txt K mg A)
    (F_5:FnOk P w K mg base CX0 2 A.a_5 A.f_5 ["form"] (liftSpF K sp_5)):FnOk P w K mg base CX0 3 A.a_7 A.f_7 ["form"] (liftSp K sp_7):=by
  refine fnT T.F_7 sc_7 (fun ds Q h=>by obtain ⟨fs,an,rfl,F,h⟩:=h; rfl) fun cdv Ar outer s H E hr ds Q h=>?_
  obtain ⟨fs,an,rfl,F,h⟩:=h
  have nd:=sc_7.nd
  refine ⟨_,(st_cons (st_own (i:=1) at_nil (fun h=>ps_set (i:=1) nd rfl (by first | exact Or.inl rfl | exact Or.inr rfl) h))
  (st_cons (st_for (it_val (et_fr (ft_call F_5 T.m_5 T.k_5 T.d_5 (hr.mono (by decide)) (at_cons (et_v 0) at_nil) (fun h=>pe_call F_5 (hr.mono (by decide)) rfl T.m_5 T.k_5 T.d_5 .nil pass0 h)))) (gt_name (pn 2 nd))
  (st_one (st_extL (i:=1) (pv 1) (et_lc (fr:=[none,some 2]) (N':=["stray","question"]) (it_val (et_gtup rfl T.c_SIDES T.t_SIDES)) (fun b=>⟨(gt_name (pn 0 (show List.Nodup (["stray","question"]:List Str) from by decide +kernel))),if_nil,(et_tup (at_cons (et_v 1) (at_cons (et_v 0) at_nil)))⟩) (fun hi hY=>pe_lcc (show lcChk _ (defScope (top 10)) ["form","choices","question"] ["stray","question"] [none,some 2]=true from by decide +kernel) rfl hi hY)) (pb:=fun h=>ps_expr (pe_bm PySem.F.plainAttrs_list PySem.F.slot_list_extend PySem.F.type_list_extend mt_extL (pv 1) h)))) (fun hi hg hb=>ps_for PassesOwn.never rfl hi hg hb))
  (st_share 1 (st_one (st_ret (et_v 1)))))),?_⟩
  show sSeq _ _ _ [.val (frmD fs an),.un,.un]
  have n5:=F.n5
  have hcl:=choose_len F fs fun g hg=>hg
  have hql:(qs fs).length=(toChoose fs).length:=by rw [← qs_data,List.length_map]
  refine seq_own [] (by decide) (fun q hq=>hq) ?_
  refine seq_for (ts:=(qs fs).map qD) (fun R h=>⟨_,rfl,fs,an,rfl,F,_,rfl,by rw [← qs_data]; exact h⟩)
    (fun k σ=>∃ s2:Sl,σ=[.val (frmD fs an),.own ((((qs fs).take k).flatMap twoC).map chQ),s2]) ⟨_,rfl⟩ (fun k x σ' hx hP=>?_) fun σ' hP=>?_
  · obtain ⟨s2,rfl⟩:=hP
    rw [List.getElem?_map] at hx
    obtain ⟨q,hqk,rfl⟩:=Option.map_eq_some_iff.mp hx
    have hlen:((((qs fs).take k).flatMap twoC).map chQ).length=2 * ((qs fs).take k).length:=by
      rw [List.length_map]
      generalize (qs fs).take k=l
      induction l with
      | nil=>rfl
      | cons x l ih=>rw [List.flatMap_cons,List.length_append,ih,List.length_cons]; show 2 + _=_; omega
    have hk2:((qs fs).take k).length≤50:=by rw [List.length_take]; omega
    refine one_extL (us:=[chQ (q,"yes"),chQ (q,"no")]) rfl (by rw [hlen]; show _ + 2≤_; omega) (fun r hr=>?_) ⟨.val (qD q),?_⟩
    · refine lcx_map (ts:=[.str "yes",.str "no"]) (fun R h=>⟨_,rfl,h⟩) (fun x=>.tuple [qD q,x]) (by decide) (fun x r' hx hr'=>⟨_,rfl,_,rfl,(Nat.le_of_ble_eq_true rfl),hr'⟩) hr
    · rw [List.take_add_one,hqk]
      show _=[_,Sl.own (((((qs fs).take k)++[q]).flatMap twoC).map chQ),_]
      rw [List.flatMap_append,List.map_append]; rfl
  · obtain ⟨s2,rfl⟩:=hP
    rw [List.length_map,List.take_length]
    exact ⟨_,rfl,_,rfl,h⟩

theorem sc_11:FnScope ["question","field"] ["question","field"] (defScope (top 14)):=fsc
set_option maxHeartbeats 4000000 in
theorem ok_11 (T:Txt K mg A):FnOk P w K mg base CX0 1 A.a_11 A.f_11 ["question","field"] (liftSp K sp_11):=by
  refine fnT T.F_11 sc_11 (fun ds Q h=>by obtain ⟨k,n,v,f,rfl,hn,hv,hl,h⟩:=h; rfl) fun cdv Ar outer s H E hr ds Q h=>?_
  obtain ⟨k,n,v,f,rfl,hn,hv,hl,h⟩:=h
  have nd:=sc_11.nd
  refine ⟨_,(st_cons (st_if (tt_cmp op_eq o_eq (et_ix ix_seq o_ix (et_v 0) et_int) et_str)
  (st_one (st_ret (et_tup (at_cons (et_ix ix_seq o_ix (et_v 0) et_int) at_nil))))
  st_nil)
  (st_one (st_ret (et_slice sl_any o_sl (et_ix ix_seq o_ix (et_v 1) et_int) ot_none (ot_some (et_op op_addAny o_add (et_index (et_ix ix_seq o_ix (et_v 1) et_int) (at_cons (et_ix ix_seq o_ix (et_v 0) et_int) at_nil) (fun h ha=>pe_bm PySem.F.plainAttrs_tuple PySem.F.slot_tuple_index PySem.F.type_tuple_index (mt_index hr) h ha)) et_int)))))),?_⟩
  show sSeq _ _ _ [.val (.tuple [.str k,.str n,.str v]),.val (fldD f)]
  unfold held at h
  refine seq_if (fun b=>b=decide (k="is")) (fun q hq=>⟨_,rfl,_,rfl,hq _ rfl⟩) (fun hT=>?_) fun hF=>?_
  · rw [if_pos (of_decide_eq_true hT.symm)] at h
    exact ⟨_,rfl,_,rfl,Nat.le_of_ble_eq_true rfl,h⟩
  · try unfold sNext
    dsimp only
    rw [if_neg (of_decide_eq_false hF.symm)] at h
    refine ⟨_,rfl,_,rfl,_,rfl,_,rfl,_,rfl,_,rfl,_,rfl,_,_,rfl,okIx_strs hn hv,?_⟩
    show Q (.tuple (cutD (f.2.map PyData.str) none (some ((f.2.idxOf v:Int) + 1))))
    have e:((f.2.idxOf v:Nat):Int) + 1=((f.2.idxOf v + 1:Nat):Int):=rfl
    rw [e,cut_map,cut_ns]; exact h

theorem sc_9:FnScope ["form","question"] ["form","question"] (defScope (top 12)):=fsc
set_option maxHeartbeats 4000000 in
theorem ok_9 (T:Txt K mg A):FnOk P w K mg base CX0 1 A.a_9 A.f_9 ["form","question"] (liftSp K sp_9):=by
  refine fnT T.F_9 sc_9 (fun ds Q h=>by obtain ⟨fs,an,k,n,v,f0,j,rfl,F,hj,hfn,h⟩:=h; rfl) fun cdv Ar outer s H E hr ds Q h=>?_
  obtain ⟨fs,an,k,n,v,f0,j,rfl,F,hj,hfn,h⟩:=h
  have nd:=sc_9.nd
  refine ⟨_,(st_one (st_ret (et_lindex (et_lc (fr:=[none]) (N':=["field"]) (it_val (et_ix ix_seq o_ix (et_v 0) et_int)) (fun b=>⟨(gt_name (pn 0 (show List.Nodup (["field"]:List Str) from by decide +kernel))),if_nil,(et_ix ix_seq o_ix (et_v 0) et_int)⟩) (fun hi hY=>pe_lcc (show lcChk _ (defScope (top 12)) ["form","question"] ["field"] [none]=true from by decide +kernel) rfl hi hY)) (at_cons (et_ix ix_seq o_ix (et_v 1) et_int) at_nil) (fun h ha=>pe_bm PySem.F.plainAttrs_list PySem.F.slot_list_index PySem.F.type_list_index (mt_lindex hr) h ha)))),?_⟩
  have n5:=F.n5
  have hjl:=(List.getElem?_eq_some_iff.mp hj).1
  have ej:(fs.map (·.1)).idxOf n=j:=by rw [← hfn]; exact name_at F hj
  have hnm:n ∈ fs.map (·.1):=List.mem_map.mpr ⟨f0,List.mem_of_getElem? hj,hfn⟩
  show eLIndex _ _ _ Q
  dsimp only [eLIndex]
  refine lcx_map (ts:=fs.map fldD) (fun R h=>⟨_,rfl,_,rfl,_,rfl,h⟩) fst (by rw [List.length_map]; omega) (fun x q hx hq=>?_) ?_
  · obtain ⟨f,hf,rfl⟩:=List.mem_map.mp hx
    exact ⟨_,rfl,_,rfl,hq⟩
  · have e:(fs.map fldD).map fst=(fs.map (·.1)).map PyData.str:=by rw [List.map_map,List.map_map]; rfl
    rw [e]
    have:=okIx_strs F.nd.2.1 hnm
    rw [ej] at this
    exact ⟨_,rfl,_,rfl,_,rfl,_,j,rfl,this,by omega,h⟩

theorem sc_10:FnScope ["question","stray","field"] ["question","stray","field"] (defScope (top 13)):=fsc
set_option maxHeartbeats 4000000 in
theorem ok_10 (T:Txt K mg A)
    (F_11:FnOk P w K mg base CX0 1 A.a_11 A.f_11 ["question","field"] (liftSp K sp_11)):FnOk P w K mg base CX0 2 A.a_10 A.f_10 ["question","stray","field"] (liftSp K sp_10):=by
  refine fnT T.F_10 sc_10 (fun ds Q h=>by obtain ⟨k,n,v,st,f,rfl,hn,hv,hl,h⟩:=h; rfl) fun cdv Ar outer s H E hr ds Q h=>?_
  obtain ⟨k,n,v,st,f,rfl,hn,hv,hl,h⟩:=h
  have nd:=sc_10.nd
  refine ⟨_,(st_one (st_ret (et_op op_addAny o_add (ca F_11 T.m_11 T.k_11 T.d_11 (hr.mono (by decide)) (at_cons (et_v 0) (at_cons (et_v 2) at_nil))) (et_if (tt_cmp op_eq o_eq (et_v 1) et_str) (et_tup (at_cons et_non at_nil)) (et_tup at_nil))))),?_⟩
  have hhl:=held_len (k:=k) (v:=v) hl
  refine ⟨_,rfl,_,rfl,k,n,v,f,rfl,hn,hv,hl,_,rfl,?_⟩
  unfold toYes at h
  show (if decide (st="yes")=true then _ else _)
  by_cases e:st="yes"
  · rw [if_pos (decide_eq_true e)]
    rw [if_pos e] at h
    exact ⟨Nat.le_of_ble_eq_true rfl,by rw [List.length_map]; show _ + 1≤_; omega,h⟩
  · rw [if_neg (by simpa using e)]
    rw [if_neg e] at h
    exact ⟨Nat.le_of_ble_eq_true rfl,by rw [List.length_map]; show _ + 0≤_; omega,h⟩

theorem sc_8:FnScope ["form","question","stray","case","number"] ["form","question","stray","case"] (defScope (top 11)):=fsc
set_option maxHeartbeats 4000000 in
theorem ok_8 (T:Txt K mg A)
    (F_10:FnOk P w K mg base CX0 2 A.a_10 A.f_10 ["question","stray","field"] (liftSp K sp_10))
    (F_9:FnOk P w K mg base CX0 1 A.a_9 A.f_9 ["form","question"] (liftSp K sp_9)):FnOk P w K mg base CX0 3 A.a_8 A.f_8 ["form","question","stray","case"] (liftSp K sp_8):=by
  refine fnT T.F_8 sc_8 (fun ds Q h=>by obtain ⟨fs,an,k,n,v,st,cs,rfl,F,hq,hst,hc,h⟩:=h; rfl) fun cdv Ar outer s H E hr ds Q h=>?_
  obtain ⟨fs,an,k,n,v,st,cs,rfl,F,hq,hst,hc,h⟩:=h
  have nd:=sc_8.nd
  refine ⟨_,(st_cons (ss 4 nd (ca F_9 T.m_9 T.k_9 T.d_9 (hr.mono (by decide)) (at_cons (et_v 0) (at_cons (et_v 1) at_nil))))
  (st_one (st_ret (et_if (tt_cmp (op_in2 hr) o_in2 (et_ix ix_seq o_ix (et_v 3) (et_v 4)) (ca F_10 T.m_10 T.k_10 T.d_10 (hr.mono (by decide)) (at_cons (et_v 1) (at_cons (et_v 2) (at_cons (et_ix ix_seq o_ix (et_ix ix_seq o_ix (et_v 0) et_int) (et_v 4)) at_nil))))) et_str et_str)))),?_⟩
  show sSeq _ _ _ [.val (frmD fs an),.val (.tuple [.str k,.str n,.str v]),.val (.str st),.val (.tuple cs),.un]
  obtain ⟨hcl,hcv⟩:=case_get hc
  obtain ⟨f0,hf0,hfn,hv0,hk0⟩:=isQ_str hq
  obtain ⟨j,hj⟩:=List.getElem?_of_mem hf0
  have hjl:=(List.getElem?_eq_some_iff.mp hj).1
  have hcj:cs[j]?=some cs[j]:=List.getElem?_eq_getElem (by omega)
  generalize hcc:cs[j]=c at hcj
  have hca:L2.atI cs (j:Int)=some c:=L2.atI_nat hcj
  have hfa:L2.atI (fs.map fldD) (j:Int)=some (fldD f0):=L2.atI_nat (by rw [List.getElem?_map,hj]; rfl)
  have hok:=hcv j f0 c hj hcj
  rw [sideS_at F hj hcj hfn] at h
  have hcd:Cd c:=by
    cases c with
    | none=>exact (th_none (n:=8) (m:=0)).cd (by decide)
    | str z=>exact (th_name (F.vals hf0 z (of_decide_eq_true hok)) (n:=8) (m:=0) (Nat.le_refl _)).cd (by decide)
    | _=>cases hok
  refine seq_set (.int (j:Int)) (fun q hq=>⟨_,rfl,_,rfl,fs,an,k,n,v,f0,j,rfl,F,hj,hfn,hq⟩) ?_
  refine ⟨_,rfl,_,rfl,_,hca,_,rfl,_,rfl,_,rfl,_,rfl,_,rfl,_,hfa,k,n,v,st,f0,rfl,F.vals hf0,hv0,(F.vs f0 hf0).2.1,fIn2_tup (ok_toYes (F.vals hf0) hv0 hcd) ?_⟩
  rw [← in_toYes hst hok] at h
  show (if inD c (.tuple (toYes k v st f0))=true then _ else _)
  cases hb:inD c (.tuple (toYes k v st f0)) with
  | true=>rw [if_pos rfl]; rw [hb,if_pos rfl] at h; exact h
  | false=>rw [if_neg (by decide)]; rw [hb,if_neg (by decide)] at h; exact h

theorem sc_12:FnScope ["sides","fewest"] ["sides","fewest"] (defScope (top 15)):=fsc
set_option maxHeartbeats 4000000 in
theorem ok_12 (T:Txt K mg A):FnOk P w K mg base CX0 1 A.a_12 A.f_12 ["sides","fewest"] (liftSp K sp_12):=by
  refine fnT T.F_12 sc_12 (fun ds Q h=>by obtain ⟨xs,ys,rfl,h⟩:=h; rfl) fun cdv Ar outer s H E hr ds Q h=>?_
  obtain ⟨xs,ys,rfl,h⟩:=h
  have nd:=sc_12.nd
  refine ⟨_,(st_one (st_ret (et_and (et_cmp op_ge o_B0 (et_cb c_len (at_cons (et_ix ix_seq o_ix (et_v 0) et_int) at_nil) (fun h=>pe_callB call_lenAny rfl T.b_len bl_len h)) (et_v 1)) (et_one (et_cmp op_ge o_B0 (et_cb c_len (at_cons (et_ix ix_seq o_ix (et_v 0) et_int) at_nil) (fun h=>pe_callB call_lenAny rfl T.b_len bl_len h)) (et_v 1)))))),?_⟩
  show sRet _ _ [.val (.tuple [numD xs,numD ys]),.val (.int 1)]
  have e:∀ zs:List Nat,decide ((1:Int)≤((zs.map fun (i:Nat)=>PyData.int (i:Int)).length:Int))=!zs.isEmpty:=fun zs=>by
    cases zs with
    | nil=>rfl
    | cons z zs=>rw [List.length_map]; exact decide_eq_true (by simp only [List.length_cons]; omega)
  refine ⟨_,rfl,_,rfl,_,rfl,?_⟩
  show (if decide ((1:Int)≤((xs.map fun (i:Nat)=>PyData.int (i:Int)).length:Int))=true then _ else _)
  rw [e xs]
  cases xs with
  | nil=>rw [if_neg (by decide)]; exact h
  | cons x xs =>
    rw [if_pos (by rfl)]
    refine ⟨_,rfl,_,rfl,_,rfl,?_⟩
    show Q (.bool (decide ((1:Int)≤((ys.map fun (i:Nat)=>PyData.int (i:Int)).length:Int))))
    rw [e ys]; exact h

theorem sc_13:FnScope ["form","choice","rows"] ["form","choice","rows"] (defScope (top 18)):=fsc
set_option maxHeartbeats 4000000 in
theorem ok_13 (T:Txt K mg A)
    (F_8:FnOk P w K mg base CX0 3 A.a_8 A.f_8 ["form","question","stray","case"] (liftSp K sp_8)):FnOk P w K mg base CX0 4 A.a_13 A.f_13 ["form","choice","rows"] (liftSp K sp_13):=by
  refine fnT T.F_13 sc_13 (fun ds Q h=>by obtain ⟨fs,an,c,rs,rfl,F,hc,hrs,hl,h⟩:=h; rfl) fun cdv Ar outer s H E hr ds Q h=>?_
  obtain ⟨fs,an,c,rs,rfl,F,hc,hrs,hl,h⟩:=h
  have nd:=sc_13.nd
  refine ⟨_,(st_one (st_ret (et_lc (fr:=[none,some 0,some 1]) (N':=["row","form","choice"]) (it_val (et_v 2)) (fun b=>⟨(gt_name (pn 0 (show List.Nodup (["row","form","choice"]:List Str) from by decide +kernel))),if_nil,(ca F_8 T.m_8 T.k_8 T.d_8 (hr.mono (by decide)) (at_cons (et_v 1) (at_cons (et_ix ix_seq o_ix (et_v 2) et_int) (at_cons (et_ix ix_seq o_ix (et_v 2) et_int) (at_cons (et_ix ix_seq o_ix (et_v 0) et_int) at_nil)))))⟩) (fun hi hY=>pe_lcc (show lcChk _ (defScope (top 18)) ["form","choice","rows"] ["row","form","choice"] [none,some 0,some 1]=true from by decide +kernel) rfl hi hY)))),?_⟩
  show sRet _ _ [.val (frmD fs an),.val (chQ c),.val (.list (rs.map rowD))]
  obtain ⟨hq,hs⟩:=chs_ok hc
  refine lcx_map (ts:=rs.map rowD) (fun R h=>⟨_,rfl,_,rfl,h⟩) (fun x=>match x with | .tuple [.tuple cs,_]=>.str (sideS fs c.1.1 c.1.2.1 c.1.2.2 c.2 cs) | _=>.none) (by rw [List.length_map]; omega) (fun x q' hx hq'=>?_) ?_
  · obtain ⟨r,hr',rfl⟩:=List.mem_map.mp hx
    exact ⟨_,rfl,_,rfl,_,rfl,_,rfl,_,rfl,_,rfl,_,rfl,fs,an,c.1.1,c.1.2.1,c.1.2.2,c.2,r.1,rfl,F,qs_isQ hq,hs,(hrs r hr').1,hq'⟩
  · rw [List.map_map]; exact h

theorem sc_0:FnScope ["self","form","rows","prices"] ["self","form","rows","prices"] (defScope (methOf (top 17) 0)):=fsc
set_option maxHeartbeats 4000000 in
theorem ok_0 (T:Txt K mg A)
    (F_7:FnOk P w K mg base CX0 3 A.a_7 A.f_7 ["form"] (liftSp K sp_7))
    (F_13:FnOk P w K mg base CX0 4 A.a_13 A.f_13 ["form","choice","rows"] (liftSp K sp_13)):FnOk P w K mg base CX0 5 A.a_0 A.f_0 ["self","form","rows","prices"] (liftSpI A.c_RowSets ns_RowSets K sp_0):=by
  refine fnI T.F_0 sc_0 (fun ds Q h=>by obtain ⟨fs,an,rs,a,b,rfl,F,hrs,hl,h⟩:=h; rfl) fun cdv Ar outer s H E hr zz ds Q h=>?_
  obtain ⟨fs,an,rs,a,b,rfl,F,hrs,hl,h⟩:=h
  have nd:=sc_0.nd
  refine ⟨_,(nt_cons T.C_RowSets T.n_RowSets_form (pv 0) (et_v 1)
  (nt_cons T.C_RowSets T.n_RowSets_kept (pv 0) (et_cb c_list (at_cons (et_v 2) at_nil) (fun h=>pe_callTy call_list_of rfl T.b_list bl_list h))
  (nt_cons T.C_RowSets T.n_RowSets_slip (pv 0) (et_ix ix_seq o_ix (et_v 3) et_int)
  (nt_cons T.C_RowSets T.n_RowSets_knot (pv 0) (et_ix ix_seq o_ix (et_v 3) et_int)
  (nt_cons T.C_RowSets T.n_RowSets_choices (pv 0) (et_lc (fr:=[none,some 1,some 2]) (N':=["choice","form","rows"]) (it_val (ca F_7 T.m_7 T.k_7 T.d_7 (hr.mono (by decide)) (at_cons (et_v 1) at_nil))) (fun b=>⟨(gt_name (pn 0 (show List.Nodup (["choice","form","rows"]:List Str) from by decide +kernel))),if_nil,(et_op op_addAny o_add (et_v 0) (et_tup (at_cons (ca F_13 T.m_13 T.k_13 T.d_13 (hr.mono (by decide)) (at_cons (et_v 1) (at_cons (et_v 0) (at_cons (et_v 2) at_nil)))) at_nil)))⟩) (fun hi hY=>pe_lcc (show lcChk _ (defScope (methOf (top 17) 0)) ["self","form","rows","prices"] ["choice","form","rows"] [none,some 1,some 2]=true from by decide +kernel) rfl hi hY))
  nt_nil))))),?_⟩
  show nFld _ _ _ _ _ [.val zz,.val (frmD fs an),.val (.list (rs.map rowD)),.val (.tuple [.int a,.int b])]
  have n5:=F.n5
  have hcl:=choose_len F fs fun g hg=>hg
  have hch:=chs_len fs
  refine ⟨_,rfl,(Nat.le_of_ble_eq_true rfl),(fun z=>nomatch z),_,rfl,(Nat.le_of_ble_eq_true rfl),(show ("kept":Str) ∉ (["form"]:List Str) from by decide +kernel),_,rfl,_,rfl,(Nat.le_of_ble_eq_true rfl),(show ("slip":Str) ∉ (["form","kept"]:List Str) from by decide +kernel),_,rfl,_,rfl,(Nat.le_of_ble_eq_true rfl),(show ("knot":Str) ∉ (["form","kept","slip"]:List Str) from by decide +kernel),?_⟩
  refine lcx_map (ts:=(chs fs).map chQ) (fun R h=>⟨_,rfl,fs,an,rfl,F,_,rfl,h⟩) (fun x=>match x with | .tuple [.tuple [.str k,.str n,.str v],.str s]=>chD fs rs ((k,n,v),s) | _=>.none) (by rw [List.length_map]; omega) (fun x q' hx hq'=>?_) ?_
  · obtain ⟨c,hc,rfl⟩:=List.mem_map.mp hx
    exact ⟨_,rfl,_,rfl,_,rfl,_,rfl,fs,an,c,rs,rfl,F,hc,hrs,hl,(Nat.le_of_ble_eq_true rfl),(Nat.le_of_ble_eq_true rfl),hq'⟩
  · rw [List.map_map]
    exact ⟨(Nat.le_of_ble_eq_true rfl),(show ("choices":Str) ∉ (["form","kept","slip","knot"]:List Str) from by decide +kernel),rfl,h⟩

theorem sc_1:FnScope ["self","numbers","rows","slips"] ["self","numbers"] (defScope (methOf (top 17) 1)):=fsc
set_option maxHeartbeats 4000000 in
theorem ok_1 (T:Txt K mg A)
    (F_3:FnOk P w K mg base CX0 1 A.a_3 A.f_3 ["form","rows"] (liftSpF K sp_3))
    (F_4:FnOk P w K mg base CX0 2 A.a_4 A.f_4 ["form","rows"] (liftSp K sp_4)):FnOk P w K mg base CX0 3 A.a_1 A.f_1 ["self","numbers"] (liftSp K (sp_1 w A.c_RowSets)):=by
  refine fnT T.F_1 sc_1 (fun ds Q h=>by obtain ⟨fs,an,fa,rs,a,b,ns,rfl,S,hns,h⟩:=h; rfl) fun cdv Ar outer s H E hr ds Q h=>?_
  obtain ⟨fs,an,fa,rs,a,b,ns,rfl,S,hns,h⟩:=h
  have nd:=sc_1.nd
  refine ⟨_,(st_cons (st_setlc (i:=2) (fr:=[none,some 0]) (N':=["number","self"]) (it_val (et_v 1)) (fun b=>⟨(gt_name (pn 0 (show List.Nodup (["number","self"]:List Str) from by decide +kernel))),if_nil,(et_ix ix_seq o_ix (et_fld (K:=K) rfl (et_v 1)) (et_v 0))⟩) (fun hi hY=>ps_setlcc (show lcChk _ (defScope (methOf (top 17) 1)) ["self","numbers","rows","slips"] ["number","self"] [none,some 0]=true from by decide +kernel) nd rfl (by first | exact Or.inl rfl | exact Or.inr rfl) rfl hi hY rfl))
  (st_cons (ss 3 nd (et_op op_sub o_I0 (et_cb c_len (at_cons (et_v 2) at_nil) (fun h=>pe_callB call_lenAny rfl T.b_len bl_len h)) (et_cb c_max (at_cons (et_fr (ft_call F_3 T.m_3 T.k_3 T.d_3 (hr.mono (by decide)) (at_cons (et_fld (K:=K) rfl (et_v 0)) (at_cons (et_v 2) at_nil)) (fun h=>pe_call F_3 (hr.mono (by decide)) rfl T.m_3 T.k_3 T.d_3 .nil pass0 h))) at_nil) (fun h=>pe_callB (call_max_ints rfl) rfl T.b_max bl_max h))))
  (st_one (st_ret (et_tup (at_cons (et_op op_mulAny o_mul (et_fld (K:=K) rfl (et_v 0)) (et_v 3)) (at_cons (et_tup (at_cons et_str (at_cons (ca F_4 T.m_4 T.k_4 T.d_4 (hr.mono (by decide)) (at_cons (et_fld (K:=K) rfl (et_v 0)) (at_cons (et_v 2) at_nil))) at_nil))) at_nil))))))),?_⟩
  show sSeq _ _ _ [.val (setD A.c_RowSets fs an rs a b),.val (numD ns),.un,.un]
  have hlt:∀ i ∈ ns,i < rs.length:=fun i hi=>hns.lt hi
  have hR:=rows_ok S.R ns
  have hl:=S.l
  have hnl:=hns.len
  have hrl:(rowsAt rs ns).length≤60:=by rw [rows_len hlt]; omega
  refine seq_set (.list ((rowsAt rs ns).map rowD)) (fun q hq=>?_) ?_
  · refine lcx_map (ts:=ns.map fun (i:Nat)=>PyData.int (i:Int)) (fun R h=>⟨_,rfl,_,rfl,h⟩) (rowNo rs) (by rw [List.length_map]; omega) (fun x q' hx hq'=>?_) (by rw [rows_no hlt]; exact hq)
    obtain ⟨i,hi,rfl⟩:=List.mem_map.mp hx
    have er:rs[i]?=some (rs[i]'(hlt i hi)):=List.getElem?_eq_getElem (hlt i hi)
    refine ⟨_,rfl,A.c_RowSets,ns_RowSets,_,_,rfl,T.C_RowSets,T.n_RowSets_kept,(look5 _ _ _ _ _).2.1,_,rfl,_,L2.atI_nat (v:=rowD (rs[i]'(hlt i hi))) (by rw [List.getElem?_map,er]; rfl),?_⟩
    have e:rowNo rs (.int (i:Int))=rowD (rs[i]'(hlt i hi)):=by
      show (match L2.atI rs (i:Int) with | some r=>rowD r | none=>PyData.none)=_
      rw [L2.atI_nat er]
    rw [e] at hq'; exact hq'
  have hf:=S.fa _ hR
  have ho:=oth_cnt (rowsAt rs ns) (fa (rowsAt rs ns))
  refine seq_set (.int (slipN fs (.say (fa (rowsAt rs ns))) (rowsAt rs ns):Nat)) (fun q hq=>?_) ?_
  · refine ⟨_,rfl,_,rfl,A.c_RowSets,ns_RowSets,_,_,rfl,T.C_RowSets,T.n_RowSets_form,(look5 _ _ _ _ _).1,_,rfl,fs,an,rowsAt rs ns,rfl,S.F,hR,hrl,cnts an (rowsAt rs ns),rfl,?_,fun m hm hx=>?_⟩
    · intro z
      have a2:=S.F.a2
      have:=congrArg List.length z
      unfold cnts at this
      rw [List.length_map,List.length_nil] at this
      omega
    · rw [max_cnt hf hm hx]
      show q (.int (((((rowsAt rs ns).map rowD).length:Nat):Int) - _))
      rw [slip_oth] at hq
      have e:((((rowsAt rs ns).map rowD).length:Nat):Int) - (cnt (rowsAt rs ns) (fa (rowsAt rs ns)):Int)=((othN (rowsAt rs ns) (fa (rowsAt rs ns)):Nat):Int):=by rw [List.length_map]; omega
      rw [e]; exact hq
  have hs:=slip_oth (fs:=fs) (rowsAt rs ns) (fa (rowsAt rs ns))
  have a0:=S.a0
  have a1:=S.a1
  refine ⟨_,rfl,A.c_RowSets,ns_RowSets,_,_,rfl,T.C_RowSets,T.n_RowSets_slip,(look5 _ _ _ _ _).2.2.1,_,rfl,.inl ⟨by omega,by omega⟩,_,rfl,A.c_RowSets,ns_RowSets,_,_,rfl,T.C_RowSets,T.n_RowSets_form,(look5 _ _ _ _ _).1,_,rfl,fs,an,rowsAt rs ns,rfl,S.F,hR,hrl,fun z hz=>?_⟩
  rw [hz.uniq hf]
  exact ⟨(Nat.le_of_ble_eq_true rfl),(Nat.le_of_ble_eq_true rfl),h⟩

theorem sc_2:FnScope ["self","numbers","told","question","stray","sides","yes","no"] ["self","numbers"] (defScope (methOf (top 17) 2)):=fsc
set_option maxHeartbeats 4000000 in
theorem ok_2 (T:Txt K mg A)
    (F_12:FnOk P w K mg base CX0 1 A.a_12 A.f_12 ["sides","fewest"] (liftSp K sp_12)):FnOk P w K mg base CX0 2 A.a_2 A.f_2 ["self","numbers"] (liftSp K (sp_2 w A.c_RowSets)):=by
  refine fnT T.F_2 sc_2 (fun ds Q h=>by obtain ⟨fs,an,fa,rs,a,b,ns,rfl,S,hns,h⟩:=h; rfl) fun cdv Ar outer s H E hr ds Q h=>?_
  obtain ⟨fs,an,fa,rs,a,b,ns,rfl,S,hns,h⟩:=h
  have nd:=sc_2.nd
  refine ⟨_,(st_cons (st_own (i:=2) at_nil (fun h=>ps_set (i:=2) nd rfl (by first | exact Or.inl rfl | exact Or.inr rfl) h))
  (st_cons (st_for (it_val (et_fld (K:=K) rfl (et_v 0))) (gt_triple (pg_tup rfl (pgs_cons (pn 3 nd) (pgs_cons (pn 4 nd) (pgs_cons (pn 5 nd) pgs_nil)))))
  (st_cons (ss 6 nd (et_cb c_tuple (at_cons (et_lc (fr:=[none,some 5]) (N':=["number","sides"]) (it_val (et_v 1)) (fun b=>⟨(gt_name (pn 0 (show List.Nodup (["number","sides"]:List Str) from by decide +kernel))),(if_one (tt_cmp op_eq o_eq (et_ix ix_seq o_ix (et_v 1) (et_v 0)) et_str)),(et_v 0)⟩) (fun hi hY=>pe_lcc (show lcChk _ (defScope (methOf (top 17) 2)) ["self","numbers","told","question","stray","sides","yes","no"] ["number","sides"] [none,some 5]=true from by decide +kernel) rfl hi hY)) at_nil) (fun h=>pe_callTy call_tuple_of rfl T.b_tuple bl_tuple h)))
  (st_cons (ss 7 nd (et_cb c_tuple (at_cons (et_lc (fr:=[none,some 5]) (N':=["number","sides"]) (it_val (et_v 1)) (fun b=>⟨(gt_name (pn 0 (show List.Nodup (["number","sides"]:List Str) from by decide +kernel))),(if_one (tt_cmp op_eq o_eq (et_ix ix_seq o_ix (et_v 1) (et_v 0)) et_str)),(et_v 0)⟩) (fun hi hY=>pe_lcc (show lcChk _ (defScope (methOf (top 17) 2)) ["self","numbers","told","question","stray","sides","yes","no"] ["number","sides"] [none,some 5]=true from by decide +kernel) rfl hi hY)) at_nil) (fun h=>pe_callTy call_tuple_of rfl T.b_tuple bl_tuple h)))
  (st_one (st_if (tt_val (ca F_12 T.m_12 T.k_12 T.d_12 (hr.mono (by decide)) (at_cons (et_tup (at_cons (et_v 6) (at_cons (et_v 7) at_nil))) (at_cons et_int at_nil))) (fun h=>pt_val h))
  (st_one (st_app (i:=2) (pv 2) (et_tup (at_cons (et_v 3) (at_cons (et_v 4) (at_cons (et_v 6) (at_cons (et_v 7) at_nil))))) (pb:=fun h=>ps_expr (pe_bm PySem.F.plainAttrs_list PySem.F.slot_list_append PySem.F.type_list_append mt_append (pv 2) h))))
  st_nil)))) (fun hi hg hb=>ps_for PassesOwn.never rfl hi hg hb))
  (st_share 2 (st_one (st_ret (et_v 2)))))),?_⟩
  show sSeq _ _ _ [.val (setD A.c_RowSets fs an rs a b),.val (numD ns),.un,.un,.un,.un,.un,.un]
  have hlt:∀ i ∈ ns,i < rs.length:=fun i hi=>hns.lt hi
  have hl:=S.l
  have hnl:=hns.len
  have n5:=S.F.n5
  have hcl:=choose_len S.F fs fun g hg=>hg
  have hch:=chs_len fs
  refine seq_own [] (by decide) (fun q hq=>hq) ?_
  refine seq_for (ts:=(chs fs).map (chD fs rs)) (fun R h=>⟨_,rfl,A.c_RowSets,ns_RowSets,_,_,rfl,T.C_RowSets,T.n_RowSets_choices,(look5 _ _ _ _ _).2.2.2.2,_,rfl,h⟩)
    (fun k σ=>∃ s3 s4 s5 s6 s7:Sl,σ=[.val (setD A.c_RowSets fs an rs a b),.val (numD ns),.own ((((chs fs).take k).filter (proper fs (rowsAt rs ns))).map (prtD fs rs ns)),s3,s4,s5,s6,s7]) ⟨_,_,_,_,_,rfl⟩ (fun k x σ' hx hP=>?_) fun σ' hP=>?_
  · obtain ⟨s3,s4,s5,s6,s7,rfl⟩:=hP
    rw [List.getElem?_map] at hx
    obtain ⟨c,hck,rfl⟩:=Option.map_eq_some_iff.mp hx
    have hc:c ∈ chs fs:=List.mem_of_getElem? hck
    obtain ⟨w1,w2⟩:=side_w S.F hc S.R hlt
    have sat:∀ x ∈ ns.map (fun (i:Nat)=>PyData.int (i:Int)),∃ (i:Nat) (r:Rw),x=.int (i:Int)∧rs[i]?=some r:=fun x hx=>by
      obtain ⟨i,hi,rfl⟩:=List.mem_map.mp hx
      exact ⟨i,_,rfl,List.getElem?_eq_getElem (hlt i hi)⟩
    refine ⟨_,_,_,rfl,?_⟩
    refine seq_set (numD (yN fs rs c ns)) (fun q hq=>?_) ?_
    · dsimp only [eCall,aCons]
      refine lcx_filt (ts:=ns.map fun (i:Nat)=>PyData.int (i:Int)) (fun R h=>⟨_,rfl,_,rfl,h⟩) (onSide fs c.1.1 c.1.2.1 c.1.2.2 c.2 rs "yes") id (by rw [List.length_map]; omega) (fun x q' hx hq'=>by
        obtain ⟨i,r,rfl,er⟩:=sat x hx
        rw [onSide_at er] at hq'
        exact ⟨_,rfl,_,rfl,_,L2.atI_nat (v:=PyData.str (sideS fs c.1.1 c.1.2.1 c.1.2.2 c.2 r.1)) (by rw [List.getElem?_map,er]; rfl),hq'⟩) (fun x q' hx hq'=>⟨_,rfl,hq'⟩) ?_
      rw [w1,List.map_id]; exact hq
    refine seq_set (numD (nN fs rs c ns)) (fun q hq=>?_) ?_
    · dsimp only [eCall,aCons]
      refine lcx_filt (ts:=ns.map fun (i:Nat)=>PyData.int (i:Int)) (fun R h=>⟨_,rfl,_,rfl,h⟩) (onSide fs c.1.1 c.1.2.1 c.1.2.2 c.2 rs "no") id (by rw [List.length_map]; omega) (fun x q' hx hq'=>by
        obtain ⟨i,r,rfl,er⟩:=sat x hx
        rw [onSide_at er] at hq'
        exact ⟨_,rfl,_,rfl,_,L2.atI_nat (v:=PyData.str (sideS fs c.1.1 c.1.2.1 c.1.2.2 c.2 r.1)) (by rw [List.getElem?_map,er]; rfl),hq'⟩) (fun x q' hx hq'=>⟨_,rfl,hq'⟩) ?_
      rw [w2,List.map_id]; exact hq
    have hp:=proper_n (fs:=fs) (c:=c) hlt
    have hlen:((((chs fs).take k).filter (proper fs (rowsAt rs ns))).map (prtD fs rs ns)).length≤100:=by
      have h1:=List.length_filter_le (proper fs (rowsAt rs ns)) ((chs fs).take k)
      have h2:((chs fs).take k).length≤(chs fs).length:=by rw [List.length_take]; omega
      rw [List.length_map]; omega
    have et:(chs fs).take (k + 1)=(chs fs).take k++[c]:=by rw [List.take_add_one,hck]; rfl
    refine one_if (fun t=>t=proper fs (rowsAt rs ns) c) (fun q hq=>⟨_,rfl,_,rfl,(Nat.le_of_ble_eq_true rfl),yN fs rs c ns,nN fs rs c ns,rfl,hq _ hp.symm⟩) (fun ht=>?_) fun hf=>?_
    · refine one_app (prtD fs rs ns c) rfl (by omega) (fun q hq=>⟨_,rfl,_,rfl,_,rfl,_,rfl,(Nat.le_of_ble_eq_true rfl),hq⟩) ⟨.val (qD c.1),.val (.str c.2),.val (sidD fs rs c),.val (numD (yN fs rs c ns)),.val (numD (nN fs rs c ns)),?_⟩
      rw [et,List.filter_append,List.map_append,List.filter_cons,if_pos ht.symm]; rfl
    · refine ⟨.val (qD c.1),.val (.str c.2),.val (sidD fs rs c),.val (numD (yN fs rs c ns)),.val (numD (nN fs rs c ns)),?_⟩
      rw [et,List.filter_append,List.map_append,List.filter_cons,if_neg (by rw [← hf]; decide)]
      show _=[_,_,Sl.own (_++[]),_,_,_,_,_]
      rw [List.append_nil]; rfl
  · obtain ⟨s3,s4,s5,s6,s7,rfl⟩:=hP
    rw [List.length_map,List.take_length]
    exact ⟨_,rfl,_,rfl,h⟩

theorem sc_19:FnScope ["sets","known","numbers","deep"] ["sets","known","numbers","deep"] (defScope (top 26)):=fsc
set_option maxHeartbeats 4000000 in
theorem ok_19 (T:Txt K mg A)
    (F_1:FnOk P w K mg base CX0 3 A.a_1 A.f_1 ["self","numbers"] (liftSp K (sp_1 w A.c_RowSets))):FnOk P w K mg base CX0 4 A.a_19 A.f_19 ["sets","known","numbers","deep"] (liftSp K (sp_19 w A.c_RowSets)):=by
  refine fnT T.F_19 sc_19 (fun ds Q h=>by obtain ⟨fs,an,fa,rs,a,b,kvs,ns,d,rfl,S,hns,hok,hin,h⟩:=h; rfl) fun cdv Ar outer s H E hr ds Q h=>?_
  obtain ⟨fs,an,fa,rs,a,b,kvs,ns,d,rfl,S,hns,hok,hin,h⟩:=h
  have nd:=sc_19.nd
  refine ⟨_,(st_one (st_ret (et_if (tt_cmp op_gt o_B0 (et_v 3) et_int) (et_dgetW (w:=w) rfl hr.u9 (et_v 1) (et_tup (at_cons (et_v 2) (at_cons (et_v 3) at_nil)))) (et_methO (et_v 0) (at_cons (et_v 2) at_nil) (fun h ha=>pe_meth h T.C_RowSets T.M_1 F_1 (hr.mono (by decide)) T.d_1 .nil pass0 ha))))),?_⟩
  show sRet _ _ [.val (setD A.c_RowSets fs an rs a b),.val (dicD w kvs),.val (numD ns),.val (.int (d:Nat))]
  refine ⟨_,rfl,?_⟩
  show (if decide ((0:Int) < ((d:Nat):Int))=true then _ else _)
  by_cases hd:d=0
  · subst hd
    rw [if_neg (by decide)]
    exact ⟨_,rfl,ns_RowSets,_,rfl,th_leaf,_,rfl,fs,an,fa,rs,a,b,ns,rfl,S,hns,h⟩
  · rw [if_pos (decide_eq_true (by omega))]
    exact ⟨_,rfl,_,rfl,_,rfl,(Nat.le_of_ble_eq_true rfl),kvs,rfl,key_key ns d,hok,_,hin.resolve_left hd,h⟩

theorem sc_18:FnScope ["sets","known","numbers","deep","told","question","stray","yes","no","one","other","cost"] ["sets","known","numbers","deep"] (defScope (top 25)):=fsc
set_option maxHeartbeats 4000000 in
theorem ok_18 (T:Txt K mg A)
    (F_1:FnOk P w K mg base CX0 3 A.a_1 A.f_1 ["self","numbers"] (liftSp K (sp_1 w A.c_RowSets)))
    (F_2:FnOk P w K mg base CX0 2 A.a_2 A.f_2 ["self","numbers"] (liftSp K (sp_2 w A.c_RowSets)))
    (F_19:FnOk P w K mg base CX0 4 A.a_19 A.f_19 ["sets","known","numbers","deep"] (liftSp K (sp_19 w A.c_RowSets))):FnOk P w K mg base CX0 5 A.a_18 A.f_18 ["sets","known","numbers","deep"] (liftSp K (sp_18 w A.c_RowSets)):=by
  refine fnT T.F_18 sc_18 (fun ds Q h=>by obtain ⟨fs,an,fa,rs,a,b,kvs,ns,d,rfl,S,hns,hok,hin,h⟩:=h; rfl) fun cdv Ar outer s H E hr ds Q h=>?_
  obtain ⟨fs,an,fa,rs,a,b,kvs,ns,d,rfl,S,hns,hok,hin,h⟩:=h
  have nd:=sc_18.nd
  refine ⟨_,(st_cons (ss 4 nd (et_methO (et_v 0) (at_cons (et_v 2) at_nil) (fun h ha=>pe_meth h T.C_RowSets T.M_1 F_1 (hr.mono (by decide)) T.d_1 .nil pass0 ha)))
  (st_cons (st_for (it_val (et_methO (et_v 0) (at_cons (et_v 2) at_nil) (fun h ha=>pe_meth h T.C_RowSets T.M_2 F_2 (hr.mono (by decide)) T.d_2 .nil pass0 ha))) (gt_quad (pg_tup rfl (pgs_cons (pn 5 nd) (pgs_cons (pn 6 nd) (pgs_cons (pn 7 nd) (pgs_cons (pn 8 nd) pgs_nil))))))
  (st_cons (ss 9 nd (ca F_19 T.m_19 T.k_19 T.d_19 (hr.mono (by decide)) (at_cons (et_v 0) (at_cons (et_v 1) (at_cons (et_v 7) (at_cons (et_op op_sub o_I0 (et_v 3) et_int) at_nil))))))
  (st_cons (ss 10 nd (ca F_19 T.m_19 T.k_19 T.d_19 (hr.mono (by decide)) (at_cons (et_v 0) (at_cons (et_v 1) (at_cons (et_v 8) (at_cons (et_op op_sub o_I0 (et_v 3) et_int) at_nil))))))
  (st_cons (ss 11 nd (et_op op_addAny o_add (et_op op_addAny o_add (et_fld (K:=K) rfl (et_v 0)) (et_ix ix_seq o_ix (et_v 9) et_int)) (et_ix ix_seq o_ix (et_v 10) et_int)))
  (st_one (st_if (tt_cmp op_lt o_B0 (et_v 11) (et_ix ix_seq o_ix (et_v 4) et_int))
  (st_one (ss 4 nd (et_tup (at_cons (et_v 11) (at_cons (et_tup (at_cons et_str (at_cons (et_v 5) (at_cons (et_v 6) (at_cons (et_ix ix_seq o_ix (et_v 9) et_int) (at_cons (et_ix ix_seq o_ix (et_v 10) et_int) at_nil)))))) at_nil)))))
  st_nil))))) (fun hi hg hb=>ps_for PassesOwn.never rfl hi hg hb))
  (st_one (st_ret (et_v 4))))),?_⟩
  show sSeq _ _ _ [.val (setD A.c_RowSets fs an rs a b),.val (dicD w kvs),.val (numD ns),.val (.int ((d + 1:Nat):Int)),.un,.un,.un,.un,.un,.un,.un,.un]
  have hlt:∀ i ∈ ns,i < rs.length:=fun i hi=>hns.lt hi
  refine seq_set (valD (leafV fs fa a (rowsAt rs ns))) (fun q hq=>⟨_,rfl,ns_RowSets,_,rfl,th_leaf,_,rfl,fs,an,fa,rs,a,b,ns,rfl,S,hns,hq⟩) ?_
  refine seq_for (ts:=((chs fs).filter (proper fs (rowsAt rs ns))).map (prtD fs rs ns)) (fun R h=>⟨_,rfl,ns_RowSets,_,rfl,th_part,_,rfl,fs,an,fa,rs,a,b,ns,rfl,S,hns,_,rfl,h⟩)
    (fun k σ=>∃ s5 s6 s7 s8 s9 s10 s11:Sl,σ=[.val (setD A.c_RowSets fs an rs a b),.val (dicD w kvs),.val (numD ns),.val (.int ((d + 1:Nat):Int)),.val (valD ((((chs fs).filter (proper fs (rowsAt rs ns))).take k).foldl (fun told c=>stepB b c (best fs fa a b d (yR fs c (rowsAt rs ns))) (best fs fa a b d (nR fs c (rowsAt rs ns))) told) (leafV fs fa a (rowsAt rs ns)))),s5,s6,s7,s8,s9,s10,s11]) ⟨_,_,_,_,_,_,_,rfl⟩ (fun k x σ' hx hP=>?_) fun σ' hP=>?_
  · obtain ⟨s5,s6,s7,s8,s9,s10,s11,rfl⟩:=hP
    rw [List.getElem?_map] at hx
    obtain ⟨c,hck,rfl⟩:=Option.map_eq_some_iff.mp hx
    obtain ⟨hc,hp⟩:=List.mem_filter.mp (List.mem_of_getElem? hck)
    obtain ⟨i1,i2⟩:=hin c hc hp
    obtain ⟨e1,e2⟩:=rows_y (fs:=fs) (rs:=rs) (c:=c) hlt
    have ed:(((d + 1:Nat):Int) - 1)=((d:Nat):Int):=by omega
    have key:∀ x:D,[setD A.c_RowSets fs an rs a b,dicD w kvs,x,PyData.int (((d + 1:Nat):Int) - 1)]=[setD A.c_RowSets fs an rs a b,dicD w kvs,x,.int (d:Nat)]:=fun x=>by rw [ed]
    have et:((chs fs).filter (proper fs (rowsAt rs ns))).take (k + 1)=((chs fs).filter (proper fs (rowsAt rs ns))).take k++[c]:=by rw [List.take_add_one,hck]; rfl
    have fin:∀ v:Int × Tr,v=stepB b c (best fs fa a b d (yR fs c (rowsAt rs ns))) (best fs fa a b d (nR fs c (rowsAt rs ns))) ((((chs fs).filter (proper fs (rowsAt rs ns))).take k).foldl (fun told c=>stepB b c (best fs fa a b d (yR fs c (rowsAt rs ns))) (best fs fa a b d (nR fs c (rowsAt rs ns))) told) (leafV fs fa a (rowsAt rs ns)))→∀ s5 s6 s7 s8 s9 s10 s11:Sl,∃ t5 t6 t7 t8 t9 t10 t11:Sl,[.val (setD A.c_RowSets fs an rs a b),.val (dicD w kvs),.val (numD ns),.val (.int ((d + 1:Nat):Int)),.val (valD v),s5,s6,s7,s8,s9,s10,s11]=[.val (setD A.c_RowSets fs an rs a b),.val (dicD w kvs),.val (numD ns),.val (.int ((d + 1:Nat):Int)),.val (valD ((((chs fs).filter (proper fs (rowsAt rs ns))).take (k + 1)).foldl (fun told c=>stepB b c (best fs fa a b d (yR fs c (rowsAt rs ns))) (best fs fa a b d (nR fs c (rowsAt rs ns))) told) (leafV fs fa a (rowsAt rs ns)))),t5,t6,t7,t8,t9,t10,t11]:=fun v hv s5 s6 s7 s8 s9 s10 s11=>by
      refine ⟨s5,s6,s7,s8,s9,s10,s11,?_⟩
      rw [et,List.foldl_append,hv]; rfl
    rw [← e1,← e2] at fin
    generalize hF:((((chs fs).filter (proper fs (rowsAt rs ns))).take k).foldl (fun told c=>stepB b c (best fs fa a b d (yR fs c (rowsAt rs ns))) (best fs fa a b d (nR fs c (rowsAt rs ns))) told) (leafV fs fa a (rowsAt rs ns)))=told at fin ⊢
    refine ⟨_,_,_,_,rfl,?_⟩
    refine seq_set (valD (best fs fa a b d (rowsAt rs (yN fs rs c ns)))) (fun q hq=>⟨_,rfl,_,rfl,_,rfl,_,rfl,fs,an,fa,rs,a,b,kvs,yN fs rs c ns,d,key _,S,hns.filt _,hok,i1,hq⟩) ?_
    refine seq_set (valD (best fs fa a b d (rowsAt rs (nN fs rs c ns)))) (fun q hq=>⟨_,rfl,_,rfl,_,rfl,_,rfl,fs,an,fa,rs,a,b,kvs,nN fs rs c ns,d,key _,S,hns.filt _,hok,i2,hq⟩) ?_
    generalize best fs fa a b d (rowsAt rs (yN fs rs c ns))=x at fin ⊢
    generalize best fs fa a b d (rowsAt rs (nN fs rs c ns))=y at fin ⊢
    refine seq_set (.int (b + x.1 + y.1)) (fun q hq=>⟨_,rfl,A.c_RowSets,ns_RowSets,_,_,rfl,T.C_RowSets,T.n_RowSets_knot,(look5 _ _ _ _ _).2.2.2.1,_,rfl,_,rfl,_,rfl,_,rfl,hq⟩) ?_
    refine one_if (fun t=>t=decide (b + x.1 + y.1 < told.1)) (fun q hq=>⟨_,rfl,_,rfl,_,rfl,hq _ rfl⟩) (fun ht=>?_) fun hf=>?_
    · refine one_set (valD (b + x.1 + y.1,.ask c.1.1 c.1.2.1 c.1.2.2 c.2 x.2 y.2)) (fun q hq=>⟨_,rfl,_,rfl,_,rfl,_,rfl,_,rfl,_,rfl,_,rfl,(Nat.le_of_ble_eq_true rfl),(Nat.le_of_ble_eq_true rfl),hq⟩) ?_
      refine fin (b + x.1 + y.1,.ask c.1.1 c.1.2.1 c.1.2.2 c.2 x.2 y.2) ?_ _ _ _ _ _ _ _
      unfold stepB
      rw [if_pos (of_decide_eq_true ht.symm)]
    · refine fin told ?_ _ _ _ _ _ _ _
      unfold stepB
      rw [if_neg (of_decide_eq_false hf.symm)]
  · obtain ⟨s5,s6,s7,s8,s9,s10,s11,rfl⟩:=hP
    rw [List.length_map,List.take_length]
    exact ⟨_,rfl,h⟩

theorem sc_17:FnScope ["sets","level","sides","numbers","question","stray","yes","no"] ["sets","level"] (defScope (top 24)):=fsc
set_option maxHeartbeats 4000000 in
theorem ok_17 (T:Txt K mg A)
    (F_2:FnOk P w K mg base CX0 2 A.a_2 A.f_2 ["self","numbers"] (liftSp K (sp_2 w A.c_RowSets))):FnOk P w K mg base CX0 3 A.a_17 A.f_17 ["sets","level"] (liftSp K (sp_17 w A.c_RowSets)):=by
  refine fnT T.F_17 sc_17 (fun ds Q h=>by obtain ⟨fs,an,fa,rs,a,b,lv,rfl,S,hlv,hlo,h⟩:=h; rfl) fun cdv Ar outer s H E hr ds Q h=>?_
  obtain ⟨fs,an,fa,rs,a,b,lv,rfl,S,hlv,hlo,h⟩:=h
  have nd:=sc_17.nd
  refine ⟨_,(st_cons (st_dnew (i:=2) (fun h=>ps_set (i:=2) nd rfl (by first | exact Or.inl rfl | exact Or.inr rfl) h))
  (st_cons (st_for (it_val (et_v 1)) (gt_name (pn 3 nd))
  (st_one (st_for (it_val (et_methO (et_v 0) (at_cons (et_v 3) at_nil) (fun h ha=>pe_meth h T.C_RowSets T.M_2 F_2 (hr.mono (by decide)) T.d_2 .nil pass0 ha))) (gt_quad (pg_tup rfl (pgs_cons (pn 4 nd) (pgs_cons (pn 5 nd) (pgs_cons (pn 6 nd) (pgs_cons (pn 7 nd) pgs_nil))))))
  (st_cons (st_dputB (i:=2) hr.u9 (pv 2) (et_v 6) et_bl)
  (st_one (st_dputB (i:=2) hr.u9 (pv 2) (et_v 7) et_bl))) (fun hi hg hb=>ps_for PassesOwn.never rfl hi hg hb))) (fun hi hg hb=>ps_for PassesOwn.never rfl hi hg hb))
  (st_shareD 2 (st_one (st_ret (et_ldict (et_v 2) (pc:=fun h=>pe_callTy (call_list_keysR rfl) rfl T.b_list bl_list h))))))),?_⟩
  show sSeq _ _ _ [.val (setD A.c_RowSets fs an rs a b),.val (.list (lv.map numD)),.un,.un,.un,.un,.un,.un]
  have kok:∀ ls:List (List Nat),∀ kv ∈ tabD numD ls,KeyOk kv.1:=fun ls=>tab_ok (fun x=>(key_num x).1) ls
  have n5:=S.F.n5
  have hcl:=choose_len S.F fs fun g hg=>hg
  have hch:=chs_len fs
  have hN:(chs fs).length≤100:=by omega
  refine seq_dnew (w:=w) (show 2 < 8 by decide) (fun j hs kvs hj=>?_) ?_
  · rcases j with _ | _ | _ | _ | _ | _ | _ | _ | j <;> simp at hj
  refine seq_for (ts:=lv.map numD) (fun R h=>⟨_,rfl,_,rfl,h⟩)
    (fun k σ=>∃ (ls:List (List Nat)) (s3 s4 s5 s6 s7:Sl),σ=[.val (setD A.c_RowSets fs an rs a b),.val (.list (lv.map numD)),dicS w (tabD numD ls),s3,s4,s5,s6,s7]∧ls.Nodup∧ls.length≤2 * (chs fs).length * k∧(∀ x ∈ ls,NsOk rs x)∧∀ (j:Nat) (ns:List Nat),j < k→lv[j]?=some ns→∀ c ∈ chs fs,proper fs (rowsAt rs ns) c=true→yN fs rs c ns ∈ ls∧nN fs rs c ns ∈ ls)
    ⟨[],_,_,_,_,_,rfl,List.nodup_nil,by simp,(fun x hx=>by simp at hx),fun j ns hj=>absurd hj (Nat.not_lt_zero _)⟩ (fun k x σ' hx hP=>?_) fun σ' hP=>?_
  · obtain ⟨ls,s3,s4,s5,s6,s7,rfl,hnd,hlen,hok,hall⟩:=hP
    rw [List.getElem?_map] at hx
    obtain ⟨ns,hnk,rfl⟩:=Option.map_eq_some_iff.mp hx
    have hns:=hlo ns (List.mem_of_getElem? hnk)
    have hkl:k < lv.length:=(List.getElem?_eq_some_iff.mp hnk).1
    have hpl:=List.length_filter_le (proper fs (rowsAt rs ns)) (chs fs)
    have hkk:2 * (chs fs).length * k≤2 * 100 * 400:=Nat.mul_le_mul (Nat.mul_le_mul (Nat.le_refl 2) hN) (by omega)
    refine forx (ts:=((chs fs).filter (proper fs (rowsAt rs ns))).map (prtD fs rs ns)) (fun R h=>⟨_,rfl,ns_RowSets,_,rfl,th_part,_,rfl,fs,an,fa,rs,a,b,ns,rfl,S,hns,_,rfl,h⟩)
      (fun i σ=>∃ (l2:List (List Nat)) (s4 s5 s6 s7:Sl),σ=[.val (setD A.c_RowSets fs an rs a b),.val (.list (lv.map numD)),dicS w (tabD numD l2),.val (numD ns),s4,s5,s6,s7]∧l2.Nodup∧l2.length≤2 * (chs fs).length * k + 2 * i∧(∀ x ∈ l2,NsOk rs x)∧(∀ x ∈ ls,x ∈ l2)∧∀ (j:Nat) (c:Ch),j < i→((chs fs).filter (proper fs (rowsAt rs ns)))[j]?=some c→yN fs rs c ns ∈ l2∧nN fs rs c ns ∈ l2)
      ⟨ls,_,_,_,_,rfl,hnd,hlen,hok,fun x hx=>hx,fun j c hj=>absurd hj (Nat.not_lt_zero _)⟩ (fun i x σ' hx hP=>?_) fun σ' hP=>?_
    · obtain ⟨l2,s4,s5,s6,s7,rfl,hn2,hlen2,hok2,hsub,hall2⟩:=hP
      rw [List.getElem?_map] at hx
      obtain ⟨c,hck,rfl⟩:=Option.map_eq_some_iff.mp hx
      have hil:i < ((chs fs).filter (proper fs (rowsAt rs ns))).length:=(List.getElem?_eq_some_iff.mp hck).1
      have e1:=ins_len l2 (yN fs rs c ns)
      have e2:=ins_len (insL l2 (yN fs rs c ns)) (nN fs rs c ns)
      have tl:∀ l:List (List Nat),(tabD numD l).length=l.length:=fun l=>by unfold tabD; rw [List.length_map]
      refine ⟨_,_,_,_,rfl,?_⟩
      refine seq_dputB (w:=w) (numD (yN fs rs c ns)) (.bool true) rfl (fun q hq=>hq) rfl (fun q hq=>⟨_,rfl,hq⟩) (key_num _) (kok _) (by rw [tl]; omega) ?_
      rw [put_tab (fun x y=>num_inj)]
      refine one_dputB (w:=w) (numD (nN fs rs c ns)) (.bool true) rfl (fun q hq=>hq) rfl (fun q hq=>⟨_,rfl,hq⟩) (key_num _) (kok _) (by rw [tl]; omega) ?_
      rw [put_tab (fun x y=>num_inj)]
      refine ⟨insL (insL l2 (yN fs rs c ns)) (nN fs rs c ns),_,_,_,_,rfl,ins_nd (ins_nd hn2),by omega,fun x hx=>?_,fun x hx=>ins_mem.mpr (.inl (ins_mem.mpr (.inl (hsub x hx)))),fun j c' hj hc'=>?_⟩
      · rcases ins_mem.mp hx with hx | rfl
        · rcases ins_mem.mp hx with hx | rfl
          · exact hok2 x hx
          · exact hns.filt _
        · exact hns.filt _
      · by_cases hji:j < i
        · obtain ⟨g1,g2⟩:=hall2 j c' hji hc'
          exact ⟨ins_mem.mpr (.inl (ins_mem.mpr (.inl g1))),ins_mem.mpr (.inl (ins_mem.mpr (.inl g2)))⟩
        · have:j=i:=by omega
          subst this
          rw [hck] at hc'
          cases hc'
          exact ⟨ins_mem.mpr (.inl (ins_mem.mpr (.inr rfl))),ins_mem.mpr (.inr rfl)⟩
    · obtain ⟨l2,s4,s5,s6,s7,rfl,hn2,hlen2,hok2,hsub,hall2⟩:=hP
      rw [List.length_map] at hlen2 hall2
      refine ⟨l2,_,_,_,_,_,rfl,hn2,?_,hok2,fun j ns' hj hns' c hc hp=>?_⟩
      · have:2 * (chs fs).length * (k + 1)=2 * (chs fs).length * k + 2 * (chs fs).length:=Nat.mul_succ _ _
        omega
      · by_cases hjk:j < k
        · obtain ⟨g1,g2⟩:=hall j ns' hjk hns' c hc hp
          exact ⟨hsub _ g1,hsub _ g2⟩
        · have:j=k:=by omega
          subst this
          rw [hnk] at hns'
          cases hns'
          obtain ⟨i,hi⟩:=List.getElem?_of_mem (List.mem_filter.mpr ⟨hc,hp⟩)
          exact hall2 i c (List.getElem?_eq_some_iff.mp hi).1 hi
  · obtain ⟨ls,s3,s4,s5,s6,s7,rfl,hnd,hlen,hok,hall⟩:=hP
    rw [List.length_map] at hlen hall
    refine ⟨_,_,rfl,_,rfl,tabD numD ls,rfl,?_⟩
    rw [tab_keys]
    refine h ls hnd hlen hok fun ns hns c hc hp=>?_
    obtain ⟨j,hj⟩:=List.getElem?_of_mem hns
    exact hall j ns (List.getElem?_eq_some_iff.mp hj).1 hj c hc hp

theorem sc_16:FnScope ["sets","numbers","deep","met","level","left","found"] ["sets","numbers","deep"] (defScope (top 23)):=fsc
set_option maxHeartbeats 4000000 in
theorem ok_16 (T:Txt K mg A)
    (F_17:FnOk P w K mg base CX0 3 A.a_17 A.f_17 ["sets","level"] (liftSp K (sp_17 w A.c_RowSets))):FnOk P w K mg base CX0 4 A.a_16 A.f_16 ["sets","numbers","deep"] (liftSp K (sp_16 w A.c_RowSets)):=by
  refine fnT T.F_16 sc_16 (fun ds Q h=>by obtain ⟨fs,an,fa,rs,a,b,ns,dp,rfl,S,hns,hdp,hch,h⟩:=h; rfl) fun cdv Ar outer s H E hr ds Q h=>?_
  obtain ⟨fs,an,fa,rs,a,b,ns,dp,rfl,S,hns,hdp,hch,h⟩:=h
  have nd:=sc_16.nd
  refine ⟨_,(st_cons (st_dnew (i:=3) (fun h=>ps_set (i:=3) nd rfl (by first | exact Or.inl rfl | exact Or.inr rfl) h))
  (st_cons (ss 4 nd (et_lst (at_cons (et_v 1) at_nil)))
  (st_cons (st_for (it_down0 (at_cons (et_v 2) (at_cons et_int (at_cons (et_neg et_int) at_nil))) (fun h=>pi_down0 rfl T.b_range h)) (gt_name (pn 5 nd))
  (st_cons (st_for (it_val (et_v 4)) (gt_name (pn 6 nd))
  (st_one (st_dputB (i:=3) hr.u9 (pv 3) (et_tup (at_cons (et_v 6) (at_cons (et_v 5) at_nil))) et_bl)) (fun hi hg hb=>ps_for PassesOwn.never rfl hi hg hb))
  (st_cons (st_if (tt_cmp op_gt o_B0 (et_dlenO (i:=3) (pe_callB call_lenD rfl T.b_len bl_len (pa_cons (pv 3) pa_nil))) (et_gint rfl T.c_MOST_SETS))
  (st_one st_no)
  st_nil)
  (st_one (ss 4 nd (et_if (tt_cmp op_gt o_B0 (et_v 5) et_int) (ca F_17 T.m_17 T.k_17 T.d_17 (hr.mono (by decide)) (at_cons (et_v 0) (at_cons (et_v 4) at_nil))) (et_lst at_nil)))))) (fun hi hg hb=>ps_for PassesOwn.never rfl hi hg hb))
  (st_shareD 3 (st_one (st_ret (et_ldict (et_v 3) (pc:=fun h=>pe_callTy (call_list_keysR rfl) rfl T.b_list bl_list h)))))))),?_⟩
  show sSeq _ _ _ [.val (setD A.c_RowSets fs an rs a b),.val (numD ns),.val (.int (dp:Nat)),.un,.un,.un,.un]
  have kok:∀ ks:List (List Nat × Nat),∀ kv ∈ tabD keyP ks,KeyOk kv.1:=fun ks=>tab_ok (kf:=keyP) (fun x=>(key_key x.1 x.2).1) ks
  have tl:∀ l:List (List Nat × Nat),(tabD keyP l).length=l.length:=fun l=>by unfold tabD; rw [List.length_map]
  refine seq_dnew (w:=w) (show 3 < 7 by decide) (fun j hs kvs hj=>?_) ?_
  · rcases j with _ | _ | _ | _ | _ | _ | _ | j <;> simp at hj
  refine seq_set (.list [numD ns]) (fun q hq=>⟨_,rfl,(Nat.le_of_ble_eq_true rfl),hq⟩) ?_
  have hd:∀ k x,(downD0 ((dp:Nat):Int))[k]?=some x→k < dp∧x=.int ((dp - k:Nat):Int):=fun k x hx=>by
    unfold downD0 at hx
    rw [List.getElem?_map] at hx
    obtain ⟨j,hj,rfl⟩:=Option.map_eq_some_iff.mp hx
    have hl:=(List.getElem?_eq_some_iff.mp hj).1
    rw [List.length_range] at hl
    rw [List.getElem?_range hl] at hj
    cases hj
    exact ⟨by omega,by congr 1; omega⟩
  have hdl:(downD0 ((dp:Nat):Int)).length=dp:=by unfold downD0; rw [List.length_map,List.length_range]; omega
  refine seq_for (ts:=downD0 ((dp:Nat):Int)) (fun R h=>⟨_,rfl,((dp:Nat):Int),rfl,by omega,by omega,h⟩)
    (fun k σ=>∃ (ks:List (List Nat × Nat)) (lv:List (List Nat)) (s5 s6:Sl),σ=[.val (setD A.c_RowSets fs an rs a b),.val (numD ns),.val (.int (dp:Nat)),dicS w (tabD keyP ks),.val (.list (lv.map numD)),s5,s6]∧MInv fs rs ns dp k ks lv∧lv.length≤80∧(k=0→lv.length≤1)∧ks.length≤81 * k∧(k=1→ks.length≤1))
    ⟨[],[ns],_,_,rfl,⟨List.nodup_nil,by simp,(fun x hx=>by rw [List.mem_singleton.mp hx]; exact hns),(fun x hx=>by simp at hx),fun _=>⟨rfl,rfl⟩,(fun z=>absurd z (by omega)),(fun i x d hi=>by simp at hi)⟩,(Nat.le_of_ble_eq_true rfl),(fun _=>(Nat.le_of_ble_eq_true rfl)),(Nat.le_of_ble_eq_true rfl),fun z=>by cases z⟩ (fun k x σ' hx hP=>?_) fun σ' hP=>?_
  · obtain ⟨ks,lv,s5,s6,rfl,M,hl80,hl1,hk81,hk1⟩:=hP
    obtain ⟨hkd,rfl⟩:=hd k x hx
    have hnew:∀ y ∈ lv,(y,dp - k) ∉ ks:=fun y _ hm=>by
      have:=(M.ko _ hm).2.1
      dsimp only at this
      omega
    have hks0:k=0→ks=[]:=fun z=>(M.z0 z).2
    have hksl:ks.length + lv.length≤81:=by
      rcases (show k=0 ∨ k=1 by omega) with rfl | rfl
      · rw [hks0 rfl]; show 0 + _≤81; omega
      · have:=hk1 rfl; omega
    refine seq_for (ts:=lv.map numD) (fun R h=>⟨_,rfl,_,rfl,h⟩)
      (fun i σ=>∃ s6:Sl,σ=[.val (setD A.c_RowSets fs an rs a b),.val (numD ns),.val (.int (dp:Nat)),dicS w (tabD keyP (ks++(lv.take i).map fun x=>(x,dp - k))),.val (.list (lv.map numD)),.val (.int ((dp - k:Nat):Int)),s6]) ⟨s6,by simp⟩ (fun i x σ' hx hP=>?_) fun σ' hP=>?_
    · obtain ⟨s6,rfl⟩:=hP
      rw [List.getElem?_map] at hx
      obtain ⟨y,hy,rfl⟩:=Option.map_eq_some_iff.mp hx
      have hym:=List.mem_of_getElem? hy
      have hnot:(y,dp - k) ∉ ks++(lv.take i).map fun x=>(x,dp - k):=fun z=>by
        rcases List.mem_append.mp z with z | z
        · exact hnew y hym z
        · obtain ⟨y',hy',e⟩:=List.mem_map.mp z
          injection e with e _
          subst e
          obtain ⟨j,hj⟩:=List.getElem?_of_mem hy'
          have hjl:=(List.getElem?_eq_some_iff.mp hj).1
          rw [List.length_take] at hjl
          rw [List.getElem?_take,if_pos (by omega)] at hj
          have:=nth_injA M.nl hj hy
          omega
      have hle:(ks++(lv.take i).map fun x=>(x,dp - k)).length≤81:=by rw [List.length_append,List.length_map,List.length_take]; omega
      refine one_dputB (w:=w) (keyP (y,dp - k)) (.bool true) rfl (fun q hq=>hq) rfl (fun q hq=>⟨_,rfl,_,rfl,(Nat.le_of_ble_eq_true rfl),hq⟩) (key_key _ _) (kok _) (by rw [tl]; omega) ?_
      rw [put_tab keyP_inj,ins_new hnot]
      refine ⟨.val (numD y),?_⟩
      rw [List.take_add_one,hy]
      show _=[_,_,_,dicS w (tabD keyP (ks++(lv.take i++[y]).map fun x=>(x,dp - k))),_,_,_]
      rw [List.map_append,← List.append_assoc]; rfl
    · obtain ⟨s6,rfl⟩:=hP
      rw [List.length_map,List.take_length]
      have hkl2:(ks++lv.map fun x=>(x,dp - k)).length≤81:=by rw [List.length_append,List.length_map]; omega
      refine seq_if (fun t=>t=false) (fun q hq=>⟨_,_,rfl,?_⟩) (fun hT=>by cases hT) fun _=>?_
      · refine hq _ (decide_eq_false ?_)
        rw [tl]; omega
      try unfold sNext
      dsimp only
      have M0:∀ lv',lv'.Nodup→(∀ x ∈ lv',NsOk rs x)→(k + 1 < dp→∀ x ∈ lv,∀ c ∈ chs fs,proper fs (rowsAt rs x) c=true→yN fs rs c x ∈ lv'∧nN fs rs c x ∈ lv')→MInv fs rs ns dp (k + 1) (ks++lv.map fun x=>(x,dp - k)) lv':=fun lv' h1 h2 h3=>M.step hkd h1 h2 h3
      have hk11:k + 1=1→(ks++lv.map fun x=>(x,dp - k)).length≤1:=fun z=>by
        have z0:k=0:=by omega
        rw [List.length_append,List.length_map,hks0 z0]
        have:=hl1 z0
        show 0 + _≤1
        omega
      refine one_setR (fun v=>∃ lv':List (List Nat),v=.list (lv'.map numD)∧MInv fs rs ns dp (k + 1) (ks++lv.map fun x=>(x,dp - k)) lv'∧lv'.length≤80) (fun q hq=>⟨_,rfl,?_⟩) ?_
      · show (if decide ((1:Int) < ((dp - k:Nat):Int))=true then _ else _)
        by_cases hg:1 < dp - k
        · rw [if_pos (decide_eq_true (by omega))]
          refine ⟨_,rfl,_,rfl,fs,an,fa,rs,a,b,lv,rfl,S,by omega,M.lo,fun ls g1 g2 g3 g4=>hq _ ⟨ls,rfl,M0 ls g1 g3 fun _=>g4,?_⟩⟩
          have z0:k=0:=by omega
          have:=hl1 z0
          have h2:2 * (chs fs).length * lv.length≤80 * 1:=Nat.mul_le_mul (by omega) this
          omega
        · rw [if_neg (fun z=>by have:=of_decide_eq_true z; omega)]
          exact ⟨(Nat.le_of_ble_eq_true rfl),hq _ ⟨[],rfl,M0 [] List.nodup_nil (fun x hx=>by simp at hx) (fun z=>absurd z (by omega)),by decide⟩⟩
      · rintro _ ⟨lv',rfl,M',hl'⟩
        exact ⟨_,lv',_,_,rfl,M',hl',(fun z=>by omega),by omega,hk11⟩
  · obtain ⟨ks,lv,s5,s6,rfl,M,hl80,hl1,hk81,hk1⟩:=hP
    rw [hdl] at M hk81
    refine ⟨_,_,rfl,_,rfl,tabD keyP ks,rfl,?_⟩
    rw [tab_keys]
    refine h ks M.nd (by omega) (fun x hx=>?_) M.z1 M.fin
    obtain ⟨h1,h2,h3,h4⟩:=M.ko x hx
    exact ⟨h1,h4,by omega⟩

theorem sc_15:FnScope ["sets","numbers","deep","known","key"] ["sets","numbers","deep"] (defScope (top 22)):=fsc
set_option maxHeartbeats 4000000 in
theorem ok_15 (T:Txt K mg A)
    (F_18:FnOk P w K mg base CX0 5 A.a_18 A.f_18 ["sets","known","numbers","deep"] (liftSp K (sp_18 w A.c_RowSets)))
    (F_16:FnOk P w K mg base CX0 4 A.a_16 A.f_16 ["sets","numbers","deep"] (liftSp K (sp_16 w A.c_RowSets))):FnOk P w K mg base CX0 6 A.a_15 A.f_15 ["sets","numbers","deep"] (liftSp K (sp_15 w A.c_RowSets)):=by
  refine fnT T.F_15 sc_15 (fun ds Q h=>by obtain ⟨fs,an,fa,rs,a,b,ns,dp,rfl,S,hns,hdp,hch,h⟩:=h; rfl) fun cdv Ar outer s H E hr ds Q h=>?_
  obtain ⟨fs,an,fa,rs,a,b,ns,dp,rfl,S,hns,hdp,hch,h⟩:=h
  have nd:=sc_15.nd
  refine ⟨_,(st_cons (st_dnew (i:=3) (fun h=>ps_set (i:=3) nd rfl (by first | exact Or.inl rfl | exact Or.inr rfl) h))
  (st_cons (st_for (it_rev (at_cons (ca F_16 T.m_16 T.k_16 T.d_16 (hr.mono (by decide)) (at_cons (et_v 0) (at_cons (et_v 1) (at_cons (et_v 2) at_nil)))) at_nil) (fun h=>pi_rev rfl T.b_reversed h)) (gt_name (pn 4 nd))
  (st_one (st_dputB (i:=3) hr.u9 (pv 3) (et_v 4) (ca F_18 T.m_18 T.k_18 T.d_18 (hr.mono (by decide)) (at_cons (et_v 0) (at_cons (et_v 3) (at_cons (et_ix ix_seq o_ix (et_v 4) et_int) (at_cons (et_ix ix_seq o_ix (et_v 4) et_int) at_nil))))))) (fun hi hg hb=>ps_for PassesOwn.never rfl hi hg hb))
  (st_shareD 3 (st_one (st_ret (et_v 3)))))),?_⟩
  show sSeq _ _ _ [.val (setD A.c_RowSets fs an rs a b),.val (numD ns),.val (.int (dp:Nat)),.un,.un]
  refine seq_dnew (w:=w) (show 3 < 5 by decide) (fun j hs kvs hj=>?_) ?_
  · rcases j with _ | _ | _ | _ | _ | j <;> simp at hj
  refine ⟨_,rfl,_,rfl,_,rfl,fs,an,fa,rs,a,b,ns,dp,rfl,S,hns,hdp,hch,fun ks hnd hlen hok hin hfed=>⟨_,rfl,?_⟩⟩
  rw [← List.map_reverse]
  have hrl:ks.reverse.length=ks.length:=List.length_reverse
  have hrn:ks.reverse.Nodup:=List.pairwise_reverse.mpr (hnd.imp fun h=>Ne.symm h)
  have kok:∀ l:List (List Nat × Nat),∀ kv ∈ l.map (fun x=>(keyP x,valD (best fs fa a b x.2 (rowsAt rs x.1)))),KeyOk kv.1:=fun l kv hkv=>by
    obtain ⟨x,_,rfl⟩:=List.mem_map.mp hkv
    exact (key_key x.1 x.2).1
  refine ⟨fun k σ=>∃ s4:Sl,σ=[.val (setD A.c_RowSets fs an rs a b),.val (numD ns),.val (.int (dp:Nat)),dicS w ((ks.reverse.take k).map (fun x=>(keyP x,valD (best fs fa a b x.2 (rowsAt rs x.1))))),s4],⟨_,rfl⟩,fun k x σ' hx hP=>?_,fun σ' hP=>?_⟩
  · obtain ⟨s4,rfl⟩:=hP
    rw [List.getElem?_map] at hx
    obtain ⟨⟨y,e⟩,hyk,rfl⟩:=Option.map_eq_some_iff.mp hx
    have hkl:k < ks.length:=by have:=(List.getElem?_eq_some_iff.mp hyk).1; omega
    have hym:(y,e) ∈ ks:=List.mem_reverse.mp (List.mem_of_getElem? hyk)
    obtain ⟨hyo,he1,he2⟩:=hok _ hym
    obtain ⟨d,rfl⟩:∃ d,e=d + 1:=⟨e - 1,by dsimp only at he1; omega⟩
    have hki:ks[ks.length - 1 - k]?=some (y,d + 1):=by rw [← List.getElem?_reverse hkl]; exact hyk
    have back:∀ (j:Nat) (z:List Nat × Nat),ks.length - 1 - k < j→ks[j]?=some z→z ∈ ks.reverse.take k:=fun j z hj hz=>by
      have hjl:=(List.getElem?_eq_some_iff.mp hz).1
      have e2:ks.reverse[ks.length - 1 - j]?=some z:=by
        rw [List.getElem?_reverse (by omega),show ks.length - 1 - (ks.length - 1 - j)=j by omega]; exact hz
      refine List.mem_of_getElem? (i:=ks.length - 1 - j) ?_
      rw [List.getElem?_take,if_pos (by omega)]; exact e2
    have hin2:∀ c ∈ chs fs,proper fs (rowsAt rs y) c=true→InK fs fa rs a b ((ks.reverse.take k).map (fun x=>(keyP x,valD (best fs fa a b x.2 (rowsAt rs x.1))))) d (yN fs rs c y)∧InK fs fa rs a b ((ks.reverse.take k).map (fun x=>(keyP x,valD (best fs fa a b x.2 (rowsAt rs x.1))))) d (nN fs rs c y):=fun c hc hp=>by
      cases d with
      | zero=>exact ⟨.inl rfl,.inl rfl⟩
      | succ d =>
        obtain ⟨⟨j1,g1,g2⟩,j2,g3,g4⟩:=hfed _ y d hki c hc hp
        exact ⟨.inr (List.mem_map.mpr ⟨_,back j1 _ g1 g2,rfl⟩),.inr (List.mem_map.mpr ⟨_,back j2 _ g3 g4,rfl⟩)⟩
    have hnot:keyP (y,d + 1) ∉ ((ks.reverse.take k).map (fun x=>(keyP x,valD (best fs fa a b x.2 (rowsAt rs x.1))))).map (·.1):=fun z=>by
      rw [List.map_map] at z
      obtain ⟨x,hx,ex⟩:=List.mem_map.mp z
      have:x=(y,d + 1):=keyP_inj _ _ ex
      subst this
      obtain ⟨j,hj⟩:=List.getElem?_of_mem hx
      have hjl:=(List.getElem?_eq_some_iff.mp hj).1
      rw [List.length_take] at hjl
      rw [List.getElem?_take,if_pos (by omega)] at hj
      have:=nth_injA hrn hj hyk
      omega
    have hle:((ks.reverse.take k).map (fun x=>(keyP x,valD (best fs fa a b x.2 (rowsAt rs x.1))))).length≤400:=by rw [List.length_map,List.length_take]; omega
    refine one_dputB (w:=w) (keyP (y,d + 1)) (valD (best fs fa a b (d + 1) (rowsAt rs y))) rfl (fun q hq=>⟨_,rfl,_,rfl,_,rfl,_,rfl,_,rfl,_,rfl,fs,an,fa,rs,a,b,_,y,d,rfl,S,hyo,kok _,hin2,hq⟩) (val_nd _) (fun q hq=>⟨_,rfl,hq⟩) (key_key _ _) (kok _) (by omega) ?_
    rw [put_new hnot]
    refine ⟨.val (keyP (y,d + 1)),?_⟩
    rw [List.take_add_one,hyk]
    show _=[_,_,_,dicS w ((ks.reverse.take k++[(y,d + 1)]).map (fun x=>(keyP x,valD (best fs fa a b x.2 (rowsAt rs x.1))))),_]
    rw [List.map_append]; rfl
  · obtain ⟨s4,rfl⟩:=hP
    rw [List.length_map,List.take_length]
    exact ⟨_,_,rfl,_,rfl,h ks.reverse (by omega) fun z=>List.mem_reverse.mpr (hin z)⟩

theorem sc_14:FnScope ["form","rows","deep","prices","sets","known","top"] ["form","rows","deep","prices"] (defScope (top 21)):=fsc
set_option maxHeartbeats 4000000 in
theorem ok_14 (T:Txt K mg A)
    (F_0:FnOk P w K mg base CX0 5 A.a_0 A.f_0 ["self","form","rows","prices"] (liftSpI A.c_RowSets ns_RowSets K sp_0))
    (F_15:FnOk P w K mg base CX0 6 A.a_15 A.f_15 ["sets","numbers","deep"] (liftSp K (sp_15 w A.c_RowSets)))
    (F_19:FnOk P w K mg base CX0 4 A.a_19 A.f_19 ["sets","known","numbers","deep"] (liftSp K (sp_19 w A.c_RowSets))):FnOk P w K mg base CX0 9 A.a_14 A.f_14 ["form","rows","deep","prices"] (liftSp K (sp_14 w A.c_RowSets)):=by
  refine fnT T.F_14 sc_14 (fun ds Q h=>by obtain ⟨fs,an,fa,rs,a,b,dp,rfl,S,hdp,hch,h⟩:=h; rfl) fun cdv Ar outer s H E hr ds Q h=>?_
  obtain ⟨fs,an,fa,rs,a,b,dp,rfl,S,hdp,hch,h⟩:=h
  have nd:=sc_14.nd
  refine ⟨_,(st_cons (ss 4 nd (et_make (at_cons (et_v 0) (at_cons (et_v 1) (at_cons (et_v 3) at_nil))) (fun h=>pe_make T.K_RowSets F_0 (hr.mono (by decide)) rfl T.x_RowSets T.d_0 .nil pass0 h)))
  (st_cons (ss 5 nd (ca F_15 T.m_15 T.k_15 T.d_15 (hr.mono (by decide)) (at_cons (et_v 4) (at_cons (et_trng (at_cons (et_cb c_len (at_cons (et_v 1) at_nil) (fun h=>pe_callB call_lenAny rfl T.b_len bl_len h)) at_nil) (fun h=>pe_callTy (call_tuple_rng rfl) rfl T.b_tuple bl_tuple (pa_cons (pe_callTy call_rangeV rfl T.b_range bl_range h) pa_nil))) (at_cons (et_v 2) at_nil)))))
  (st_cons (ss 6 nd (ca F_19 T.m_19 T.k_19 T.d_19 (hr.mono (by decide)) (at_cons (et_v 4) (at_cons (et_v 5) (at_cons (et_trng (at_cons (et_cb c_len (at_cons (et_v 1) at_nil) (fun h=>pe_callB call_lenAny rfl T.b_len bl_len h)) at_nil) (fun h=>pe_callTy (call_tuple_rng rfl) rfl T.b_tuple bl_tuple (pa_cons (pe_callTy call_rangeV rfl T.b_range bl_range h) pa_nil))) (at_cons (et_v 2) at_nil))))))
  (st_one (st_ret (et_tup (at_cons (et_ix ix_seq o_ix (et_v 6) et_int) (at_cons (et_ix ix_seq o_ix (et_v 6) et_int) (at_cons (et_lc (fr:=[none,none]) (N':=["key","found"]) (it_items (et_v 5) (fun h=>pi_items h)) (fun b=>⟨(gt_pair (pg_tup rfl (pgs_cons (pn 0 (show List.Nodup (["key","found"]:List Str) from by decide +kernel)) (pgs_cons (pn 1 (show List.Nodup (["key","found"]:List Str) from by decide +kernel)) pgs_nil)))),if_nil,(et_op op_addAny o_add (et_v 0) (et_tup (at_cons (et_ix ix_seq o_ix (et_v 1) et_int) at_nil)))⟩) (fun hi hY=>pe_lcc (show lcChk _ (defScope (top 21)) ["form","rows","deep","prices","sets","known","top"] ["key","found"] [none,none]=true from by decide +kernel) rfl hi hY)) at_nil))))))))),?_⟩
  show sSeq _ _ _ [.val (frmD fs an),.val (.list (rs.map rowD)),.val (.int (dp:Nat)),.val (.tuple [.int a,.int b]),.un,.un,.un]
  have hl:=S.l
  have hns:NsOk rs (List.range rs.length):=List.Sublist.refl _
  have hz0:(0:Int)≤(((rs.map rowD).length:Nat):Int):=Int.natCast_nonneg _
  have hz1:(((rs.map rowD).length:Nat):Int)≤100000:=by rw [List.length_map]; omega
  have en:PyData.tuple (intsTo (((rs.map rowD).length:Nat):Int).toNat)=numD (List.range rs.length):=by rw [Int.toNat_natCast,List.length_map]; rfl
  refine seq_set (setD A.c_RowSets fs an rs a b) (fun q hq=>⟨_,rfl,_,rfl,_,rfl,fs,an,rs,a,b,rfl,S.F,S.R,S.l,hq⟩) ?_
  refine seq_setR (fun v=>∃ ks:List (List Nat × Nat),v=dicD w (ks.map (fun x=>(keyP x,valD (best fs fa a b x.2 (rowsAt rs x.1)))))∧ks.length≤400∧(0 < dp→(List.range rs.length,dp) ∈ ks)) (fun q hq=>⟨_,rfl,_,rfl,_,rfl,hz0,hz1,_,rfl,fs,an,fa,rs,a,b,List.range rs.length,dp,by rw [en],S,hns,hdp,hch,fun ks h1 h2=>hq _ ⟨ks,rfl,h1,h2⟩⟩) ?_
  rintro _ ⟨ks,rfl,hkl,hin⟩
  have kok:∀ kv ∈ ks.map (fun x=>(keyP x,valD (best fs fa a b x.2 (rowsAt rs x.1)))),KeyOk kv.1:=fun kv hkv=>by
    obtain ⟨x,_,rfl⟩:=List.mem_map.mp hkv
    exact (key_key x.1 x.2).1
  have hin2:dp=0 ∨ (keyD (List.range rs.length) dp,valD (best fs fa a b dp (rowsAt rs (List.range rs.length)))) ∈ ks.map (fun x=>(keyP x,valD (best fs fa a b x.2 (rowsAt rs x.1)))):=by
    by_cases z:dp=0
    · exact .inl z
    · exact .inr (List.mem_map.mpr ⟨_,hin (by omega),rfl⟩)
  refine seq_set (valD (best fs fa a b dp rs)) (fun q hq=>⟨_,rfl,_,rfl,_,rfl,_,rfl,hz0,hz1,_,rfl,fs,an,fa,rs,a,b,_,List.range rs.length,dp,by rw [en],S,hns,kok,hin2,by rw [rows_all]; exact hq⟩) ?_
  refine ⟨_,rfl,_,rfl,_,rfl,_,rfl,?_⟩
  refine lcp_map (ts:=(ks.map (fun x=>(keyP x,valD (best fs fa a b x.2 (rowsAt rs x.1))))).map fun kv=>.tuple [kv.1,kv.2]) (fun R h=>⟨_,rfl,_,rfl,h⟩) (fun x=>match x with | .tuple [.tuple k,.tuple (c::_)]=>.tuple (k++[c]) | _=>.none) (by rw [List.length_map,List.length_map]; omega) (fun x hx=>?_) (fun u v q hx hq=>?_) ?_
  · obtain ⟨kv,_,rfl⟩:=List.mem_map.mp hx
    exact ⟨_,_,rfl⟩
  · obtain ⟨kv,hkv,e⟩:=List.mem_map.mp hx
    obtain ⟨x,_,rfl⟩:=List.mem_map.mp hkv
    injection e with e
    injection e with e1 e
    injection e with e2 _
    subst e1 e2
    exact ⟨_,rfl,_,rfl,_,rfl,(Nat.le_of_ble_eq_true rfl),(Nat.le_of_ble_eq_true rfl),hq⟩
  · exact ⟨(Nat.le_of_ble_eq_true rfl),h _⟩

theorem sc_20:FnScope ["_law_script","_law_digits"] ["_law_script"] (defScope (top 28)):=fsc
theorem ok_20 (T:Txt K mg A):FnOk P w K mg base CX0 1 A.a_20 A.f_20 ["_law_script"] (liftSpN K sp_20):=by
  refine fnNew T.F_20 sc_20 fun cdv Ar outer s H E hr=>?_
  have nd:=sc_20.nd
  refine ⟨_,_,_,_,rfl,(ss 1 nd (et_and (et_cmp op_gt o_B0 (et_cb c_len (at_cons (et_v 0) at_nil) (fun h=>pe_callB call_lenAny rfl T.b_len bl_len h)) et_int) (et_one (et_cmp op_eq o_eq (et_op op_mod o_I (et_ix ix_seq o_ix (et_v 0) et_int) et_int) et_int)))),(pe_disp (pps_cons pe_str (pv 0) (pps_cons pe_str pe_int (pps_cons pe_str pe_int (pps_cons pe_str (pv 1) pps_nil)))) rfl rfl (fun z=>nomatch z) (by decide)),fun ns Q h=>?_⟩
  refine ⟨_,rfl,?_⟩
  show (if decide (((ns.map PyData.int).length:Int) > 0)=true then _ else Q (.bool false))
  split
  · next hb =>
    have hb':((ns.map PyData.int).length:Int) > 0:=of_decide_eq_true hb
    rw [List.length_map] at hb'
    have hn:0 < ns.length:=by omega
    have e:L2.atI (ns.map PyData.int) 0=some (.int ns[0]):=L2.atI_nat (j:=0) (by rw [List.getElem?_map,List.getElem?_eq_getElem hn]; rfl)
    exact ⟨_,rfl,_,e,(show (0:Int) < 2 by decide),h _ fun _=>hn⟩
  · exact h false fun z=>by cases z

theorem sc_21:FnScope ["_law_tape_here","_law_many","_law_script","_law_at","_law_left","_law_number"] ["_law_tape_here","_law_many"] (defScope (top 29)):=fsc
set_option maxHeartbeats 4000000 in
theorem ok_21 (T:Txt K mg A):FnOk P w K mg base CX0 1 A.a_21 A.f_21 ["_law_tape_here","_law_many"] (liftSpC K sp_21):=by
  refine fnC T.F_21 sc_21 (fun τ n ds Q h=>by obtain ⟨m,rfl,hm0,hm1,hc,h⟩:=h; rfl) fun cdv Ar outer s H E hr Tp c ds Q hdig h=>?_
  obtain ⟨m,rfl,hm0,hm1,hc,h⟩:=h
  have nd:=sc_21.nd
  refine ⟨_,(sc_cons (sc_set (i:=2) (ec_getS hr (pv 0)) (fun h=>ps_set (i:=2) nd rfl (by first | exact Or.inl rfl | exact Or.inr rfl) h))
  (sc_cons (sc_set (i:=3) (ec_getA hr (pv 0)) (fun h=>ps_set (i:=3) nd rfl (by first | exact Or.inl rfl | exact Or.inr rfl) h))
  (sc_cons (sc_putA hr (pv 0) (ec_p (et_op op_addAny o_add (et_v 3) et_int)))
  (sc_cons (sc_if (tc_val (ec_getD hr (pv 0)) (fun h=>pt_val h))
  (sc_cons (sc_if (tc_p (tt_cmp op_eq o_eq (et_op op_mod o_I (et_v 3) et_int) et_int))
  (sc_one (sc_putL hr (pv 0) (ec_p (et_op op_fdiv o_I (et_ix ix_seq o_ix (et_v 2) (et_op op_mod o_I (et_op op_fdiv o_I (et_v 3) et_int) (et_cb c_len (at_cons (et_v 2) at_nil) (fun h=>pe_callB call_lenAny rfl T.b_len bl_len h)))) et_int))))
  sc_nil)
  (sc_cons (sc_set (i:=4) (ec_getL hr (pv 0)) (fun h=>ps_set (i:=4) nd rfl (by first | exact Or.inl rfl | exact Or.inr rfl) h))
  (sc_cons (sc_putL hr (pv 0) (ec_p (et_op op_fdiv o_I (et_v 4) (et_v 1))))
  (sc_one (sc_p (st_ret (et_op op_mod o_I (et_v 4) (et_v 1))))))))
  sc_nil)
  (sc_cons (sc_p (ss 5 nd (et_op op_addAny o_add (et_op op_addAny o_add (et_op op_mulAny o_mul (et_v 3) (et_v 3)) (et_op op_mulAny o_mul et_int (et_v 3))) et_int)))
  (sc_cons (sc_p (st_if (tt_cmp op_gt o_B0 (et_cb c_len (at_cons (et_v 2) at_nil) (fun h=>pe_callB call_lenAny rfl T.b_len bl_len h)) et_int)
  (st_one (ss 5 nd (et_op op_addAny o_add (et_v 5) (et_op op_mod o_I (et_ix ix_seq o_ix (et_v 2) (et_op op_mod o_I (et_v 3) (et_cb c_len (at_cons (et_v 2) at_nil) (fun h=>pe_callB call_lenAny rfl T.b_len bl_len h)))) et_int))))
  st_nil))
  (sc_cons (sc_p (ss 5 nd (et_op op_mod o_I (et_op op_mulAny o_mul (et_op op_addAny o_add (et_op op_mod o_I (et_op op_mulAny o_mul (et_v 5) et_int) et_int) (et_v 3)) et_int) et_int)))
  (sc_one (sc_p (st_ret (et_op op_mod o_I (et_op op_mod o_I (et_op op_mulAny o_mul (et_op op_addAny o_add (et_op op_mulAny o_mul (et_v 5) (et_v 5)) (et_v 3)) et_int) et_int) (et_v 1)))))))))))),?_⟩
  show cSeq _ _ _ _ _ [.val (tpD Tp),.val (.int m),.un,.un,.un,.un]
  have p50:(0:Int) < 50:=by decide
  refine cq_set1 (.list (Tp.ns.map PyData.int)) (fun q hq=>⟨rfl,hq⟩) ?_
  refine cq_set1 (.int (c:Int)) (fun q hq=>⟨rfl,hq⟩) ?_
  refine (show cSeq (cPutA _ _) _ _ _ _ _ from ⟨_,rfl,rfl,rfl,?_⟩)
  dsimp only
  refine cq_if1 Tp.b (fun q hq=>⟨rfl,hq⟩) (fun hb=>?_) fun _=>?_
  · have hn:=hdig hb
    have hp:(0:Int) < ((Tp.ns.map PyData.int).length:Nat):=by rw [List.length_map]; omega
    obtain ⟨x,hx⟩:=atI_modI hn ((c:Int) / 50)
    refine cq_ifput rfl (decide ((c:Int) % 50=0)) (fun q hq=>⟨_,rfl,p50,hq⟩) (fun q hq=>⟨_,rfl,_,rfl,⟨by decide,by decide⟩,_,rfl,hp,_,hx,⟨by decide,by decide⟩,hq _⟩) ?_
    refine (show cSeq (cSet _ _) _ _ _ _ _ from ⟨rfl,fun l=>?_⟩)
    dsimp only
    refine (show cSeq (cPutL _ _) _ _ _ _ _ from ⟨_,rfl,_,rfl,⟨hm0,by omega⟩,⟨_,rfl⟩,rfl,?_⟩)
    exact ⟨_,rfl,_,rfl,hm0,h _ (Int.emod_nonneg _ (by omega)) (Int.emod_lt_of_pos _ hm0)⟩
  · try unfold cNext
    dsimp only
    have cm:CMul (c:Int) (c:Int):=.inl ⟨by omega,by omega⟩
    refine cq_pure (seq_setR (fun d=>∃ x:Int,d=.int x) (fun q hq=>⟨_,rfl,_,rfl,cm,_,rfl,.inl ⟨by decide,by decide⟩,hq _ ⟨_,rfl⟩⟩) ?_)
    rintro _ ⟨x,rfl⟩
    refine cq_pure (seq_ifsetC (0 < Tp.ns.length) (fun d=>∃ x:Int,d=.int x) (fun q hq=>⟨_,rfl,hq _ fun hb=>?_⟩) (fun hn q hq=>?_) (.int x) rfl ⟨x,rfl⟩ ?_)
    · have hb':((Tp.ns.map PyData.int).length:Int) > 0:=of_decide_eq_true hb
      rw [List.length_map] at hb'
      omega
    · have hp:(0:Int) < ((Tp.ns.map PyData.int).length:Nat):=by rw [List.length_map]; omega
      obtain ⟨y,hy⟩:=atI_modI hn (c:Int)
      exact ⟨_,rfl,_,rfl,_,rfl,_,rfl,hp,_,hy,(show (0:Int) < 1000003 by decide),hq _ ⟨_,rfl⟩⟩
    rintro _ ⟨y,rfl⟩
    refine cq_pure (seq_setR (fun d=>∃ x:Int,d=.int x∧0≤x∧x < 65519) (fun q hq=>⟨_,rfl,.inr ⟨by decide,by decide⟩,(show (0:Int) < 999983 by decide),_,rfl,.inr ⟨by decide,by decide⟩,(show (0:Int) < 65519 by decide),hq _ ⟨_,rfl,Int.emod_nonneg _ (by decide),Int.emod_lt_of_pos _ (by decide)⟩⟩) ?_)
    rintro _ ⟨z,rfl,z0,z1⟩
    exact ⟨_,rfl,_,rfl,.inl ⟨by omega,by omega⟩,_,rfl,.inr ⟨by decide,by decide⟩,(show (0:Int) < 65521 by decide),_,rfl,hm0,h _ (Int.emod_nonneg _ (by omega)) (Int.emod_lt_of_pos _ hm0)⟩

theorem sc_22:FnScope ["_law_tape_here","_law_many","_law_way","_law_first_here","_law_letters","_law_words","_law_base","_law_names_here","_law_at"] ["_law_tape_here","_law_many"] (defScope (top 30)):=fsc
set_option maxHeartbeats 4000000 in
theorem ok_22 (T:Txt K mg A)
    (F_21:FnOk P w K mg base CX0 1 A.a_21 A.f_21 ["_law_tape_here","_law_many"] (liftSpC K sp_21)):FnOk P w K mg base CX0 2 A.a_22 A.f_22 ["_law_tape_here","_law_many"] (liftSpC K sp_22):=by
  refine fnC T.F_22 sc_22 (fun τ n ds Q h=>by obtain ⟨m,rfl,hm1,hm5,hc,h⟩:=h; rfl) fun cdv Ar outer s H E hr Tp c ds Q hdig h=>?_
  obtain ⟨m,rfl,hm1,hm5,hc,h⟩:=h
  have nd:=sc_22.nd
  refine ⟨_,(sc_cons (sc_set (i:=2) (ec_call F_21 T.m_21 T.k_21 T.d_21 (hr.mono (by decide)) (ac_cons (ec_p (et_v 0)) (ac_cons (ec_p et_int) ac_nil)) (fun h=>pe_call F_21 (hr.mono (by decide)) rfl T.m_21 T.k_21 T.d_21 .nil pass0 h)) (fun h=>ps_set (i:=2) nd rfl (by first | exact Or.inl rfl | exact Or.inr rfl) h))
  (sc_cons (sc_set (i:=3) (ec_call F_21 T.m_21 T.k_21 T.d_21 (hr.mono (by decide)) (ac_cons (ec_p (et_v 0)) (ac_cons (ec_p et_int) ac_nil)) (fun h=>pe_call F_21 (hr.mono (by decide)) rfl T.m_21 T.k_21 T.d_21 .nil pass0 h)) (fun h=>ps_set (i:=3) nd rfl (by first | exact Or.inl rfl | exact Or.inr rfl) h))
  (sc_cons (sc_p (ss 4 nd et_str))
  (sc_cons (sc_p (st_setN (i:=5) nd rfl (by first | exact Or.inl rfl | exact Or.inr rfl) (et_lst (at_consts rfl))))
  (sc_cons (sc_p (st_if (tt_cmp op_eq o_eq (et_v 2) et_int)
  (st_one (st_ret (et_cb c_tuple (at_cons (et_lc (fr:=[none,some 5,some 3]) (N':=["_law_k","_law_words","_law_first_here"]) (it_range (at_cons (et_v 1) at_nil) (fun h=>pi_range1 rfl T.b_range h)) (fun b=>⟨(gt_name (pn 0 (show List.Nodup (["_law_k","_law_words","_law_first_here"]:List Str) from by decide +kernel))),if_nil,(et_ix ix_seq o_ix (et_v 1) (et_op op_mod o_I (et_op op_addAny o_add (et_v 2) (et_op op_mulAny o_mul et_int (et_v 0))) et_int))⟩) (fun hi hY=>pe_lcc (show lcChk _ (defScope (top 30)) ["_law_tape_here","_law_many","_law_way","_law_first_here","_law_letters","_law_words","_law_base","_law_names_here","_law_at"] ["_law_k","_law_words","_law_first_here"] [none,some 5,some 3]=true from by decide +kernel) rfl hi hY)) at_nil) (fun h=>pe_callTy call_tuple_of rfl T.b_tuple bl_tuple h))))
  st_nil))
  (sc_cons (sc_set (i:=6) (ec_join et_str (ac_cons (ec_lc (fr:=[none,some 4,some 0]) (N':=["_law_k","_law_letters","_law_tape_here"]) (it_range (at_cons et_int at_nil) (fun h=>pi_range1 rfl T.b_range h)) (fun b=>⟨(gt_name (pn 0 (show List.Nodup (["_law_k","_law_letters","_law_tape_here"]:List Str) from by decide +kernel))),if_nil,(ec_ix ix_seq o_ix (ec_p (et_v 1)) (ec_call F_21 T.m_21 T.k_21 T.d_21 (hr.mono (by decide)) (ac_cons (ec_p (et_v 2)) (ac_cons (ec_p et_int) ac_nil)) (fun h=>pe_call F_21 (hr.mono (by decide)) rfl T.m_21 T.k_21 T.d_21 .nil pass0 h)))⟩) (fun hi hY=>pe_lcc (show lcChk _ (defScope (top 30)) ["_law_tape_here","_law_many","_law_way","_law_first_here","_law_letters","_law_words","_law_base","_law_names_here","_law_at"] ["_law_k","_law_letters","_law_tape_here"] [none,some 4,some 0]=true from by decide +kernel) rfl hi hY)) ac_nil) (fun h ha=>pe_bm PySem.F.plainAttrs_str PySem.F.slot_str_join PySem.F.type_str_join mt_join h ha)) (fun h=>ps_set (i:=6) nd rfl (by first | exact Or.inl rfl | exact Or.inr rfl) h))
  (sc_cons (sc_p (st_if (tt_cmp op_eq o_eq (et_v 2) et_int)
  (st_cons (st_setlc (i:=7) (fr:=[none,some 6]) (N':=["_law_k","_law_base"]) (it_range (at_cons (et_v 1) at_nil) (fun h=>pi_range1 rfl T.b_range h)) (fun b=>⟨(gt_name (pn 0 (show List.Nodup (["_law_k","_law_base"]:List Str) from by decide +kernel))),if_nil,(et_slice sl_any o_sl (et_v 1) ot_none (ot_some (et_op op_addAny o_add (et_v 0) et_int)))⟩) (fun hi hY=>ps_setlcc (show lcChk _ (defScope (top 30)) ["_law_tape_here","_law_many","_law_way","_law_first_here","_law_letters","_law_words","_law_base","_law_names_here","_law_at"] ["_law_k","_law_base"] [none,some 6]=true from by decide +kernel) nd rfl (by first | exact Or.inl rfl | exact Or.inr rfl) rfl hi hY rfl))
  (st_one (st_ret (et_cb c_tuple (at_cons (et_op op_addAny o_add (et_slice sl_any o_sl (et_v 7) (ot_some (et_op op_mod o_I (et_v 3) (et_v 1))) ot_none) (et_slice sl_any o_sl (et_v 7) ot_none (ot_some (et_op op_mod o_I (et_v 3) (et_v 1))))) at_nil) (fun h=>pe_callTy call_tuple_of rfl T.b_tuple bl_tuple h)))))
  st_nil))
  (sc_cons (sc_set (i:=8) (ec_call F_21 T.m_21 T.k_21 T.d_21 (hr.mono (by decide)) (ac_cons (ec_p (et_v 0)) (ac_cons (ec_p et_int) ac_nil)) (fun h=>pe_call F_21 (hr.mono (by decide)) rfl T.m_21 T.k_21 T.d_21 .nil pass0 h)) (fun h=>ps_set (i:=8) nd rfl (by first | exact Or.inl rfl | exact Or.inr rfl) h))
  (sc_one (sc_p (st_ret (et_cb c_tuple (at_cons (et_lc (fr:=[none,some 6,some 4,some 8,some 3]) (N':=["_law_k","_law_base","_law_letters","_law_at","_law_first_here"]) (it_range (at_cons (et_v 1) at_nil) (fun h=>pi_range1 rfl T.b_range h)) (fun b=>⟨(gt_name (pn 0 (show List.Nodup (["_law_k","_law_base","_law_letters","_law_at","_law_first_here"]:List Str) from by decide +kernel))),if_nil,(et_op op_addAny o_add (et_op op_addAny o_add (et_slice sl_any o_sl (et_v 1) ot_none (ot_some (et_v 3))) (et_ix ix_seq o_ix (et_v 2) (et_op op_mod o_I (et_op op_addAny o_add (et_v 4) (et_op op_mulAny o_mul et_int (et_v 0))) et_int))) (et_slice sl_any o_sl (et_v 1) (ot_some (et_v 3)) ot_none))⟩) (fun hi hY=>pe_lcc (show lcChk _ (defScope (top 30)) ["_law_tape_here","_law_many","_law_way","_law_first_here","_law_letters","_law_words","_law_base","_law_names_here","_law_at"] ["_law_k","_law_base","_law_letters","_law_at","_law_first_here"] [none,some 6,some 4,some 8,some 3]=true from by decide +kernel) rfl hi hY)) at_nil) (fun h=>pe_callTy call_tuple_of rfl T.b_tuple bl_tuple h))))))))))))),?_⟩
  show cSeq _ _ _ _ _ [.val (tpD Tp),.val (.int m),.un,.un,.un,.un,.un,.un,.un]
  refine cq_setR (fun n1 d=>n1=c + 1∧∃ w:Int,d=.int w) (fun q hq=>⟨_,rfl,_,rfl,3,rfl,by decide,by decide,by omega,fun r _ _=>hq _ _ ⟨rfl,r,rfl⟩⟩) ?_
  rintro c1 _ ⟨hc1,w,rfl⟩
  refine cq_setR (fun n1 d=>n1=c + 2∧∃ s:Nat,d=.int (s:Int)) (fun q hq=>⟨_,rfl,_,rfl,26,rfl,by decide,by decide,by omega,fun r h0 _=>hq _ _ ⟨by omega,(natOf h0).imp fun _ e=>by rw [e]⟩⟩) ?_
  rintro c2 _ ⟨hc2,s,rfl⟩
  refine cq_pure (seq_set (.str letters) (fun q hq=>hq) ?_)
  refine cq_pure (seq_set (.list (words10.map PyData.str)) (fun q hq=>⟨by decide,hq⟩) ?_)
  refine cq_pure (seq_if (fun _=>True) (fun q hq=>⟨_,rfl,hq _ trivial⟩) (fun _=>?_) fun _=>?_)
  · show eCall (f1 gTuple) _ _ _
    dsimp only [eCall,aCons,aNil]
    refine lcx_map (ts:=intsTo m) (fun R h=>⟨_,rfl,(m:Int),rfl,by omega,by omega,by simpa using h⟩) (fun x=>match x with | .int j=>.str (wAt ((s + 3 * j.toNat) % 10)) | _=>.none) (by rw [intsTo_len]; omega) (fun x q hx hq=>?_) ?_
    · obtain ⟨j,hj,rfl⟩:=List.mem_map.mp hx
      have hj':j < m:=by simpa using hj
      have e:((s:Int) + 3 * (j:Int)) % 10=(((s + 3 * j) % 10:Nat):Int):=by omega
      have hat:L2.atI (words10.map PyData.str) (((s:Int) + 3 * (j:Int)) % 10)=some (.str (wAt ((s + 3 * j) % 10))):=by
        rw [e]; exact L2.atI_nat (by rw [List.getElem?_map,wAt_get (Nat.mod_lt _ (by decide))]; rfl)
      exact ⟨_,rfl,_,rfl,_,rfl,.inl ⟨by decide,by decide⟩,(show (0:Int) < 10 by decide),_,hat,hq⟩
    · unfold intsTo
      rw [List.map_map]
      have:=h c2 _ (by omega) (nms_words10 (s:=s) (m:=m) (by omega))
      rw [List.map_map] at this
      exact this
  · try unfold sNext
    dsimp only
    refine cq_setR (fun n1 d=>n1≤c + 9∧∃ z:Str,d=.str z∧z.cps.toList.length=7∧∀ c ∈ z.cps.toList,c ∈ letters.cps.toList) (fun q hq=>?_) ?_
    · refine ⟨_,rfl,?_⟩
      refine clc_in (ts:=intsTo 7) (fun R h=>⟨7,rfl,by decide,by decide,h⟩) (fun _ _ y=>∃ c,c ∈ letters.cps.toList∧y=.str ⟨#[c]⟩) 1 (by decide) (fun j k x q hx hk hq=>?_) fun k ys hk hl' hy=>?_
      · rw [Nat.one_mul] at hk
        have hj:=(intsTo_get hx).1
        refine ⟨_,rfl,_,rfl,_,rfl,26,rfl,by decide,by decide,by omega,fun r h0 h1=>?_⟩
        obtain ⟨c,hc,hcc,_⟩:=atI_in (xs:=letters.cps.toList) (i:=r) h0 (by rw [letters_len]; exact h1)
        exact ⟨by decide,c,hcc,hq _ _ (Nat.le_refl _) ⟨c,hc,rfl⟩⟩
      · obtain ⟨cs,rfl,hcl⟩:=signs_of (ys:=ys) fun y hy'=>by
          obtain ⟨j,hj,rfl⟩:=List.mem_iff_getElem.mp hy'
          have hjt:j < (intsTo 7).length:=by rw [← hl']; exact hj
          exact hy j (intsTo 7)[j] _ (List.getElem?_eq_getElem hjt) (List.getElem?_eq_getElem hj)
        have hl7:cs.length=7:=by rw [List.length_map,intsTo_len] at hl'; exact hl'
        rw [intsTo_len] at hk
        refine ⟨cs.map fun c=>⟨#[c]⟩,by rw [List.map_map]; rfl,?_,hq _ _ ⟨by omega,_,rfl,?_,?_⟩⟩
        · rw [List.length_map,List.map_map,hl7]
          have:(List.map ((fun x:Str=>x.length) ∘ fun c=>(⟨#[c]⟩:Str)) cs).sum=cs.length:=by
            clear hl7 hl' hy hcl
            induction cs with
            | nil=>rfl
            | cons a l ih=>rw [List.map_cons,List.sum_cons,ih,List.length_cons]; show 1 + _=_; omega
          rw [this,hl7]
          decide
        · rw [show (Txt.join (Str.ofString "") (cs.map fun c=>⟨#[c]⟩)).cps.toList=cs from join_signs cs]; exact hl7
        · rw [show (Txt.join (Str.ofString "") (cs.map fun c=>⟨#[c]⟩)).cps.toList=cs from join_signs cs]; exact hcl
    rintro c3 _ ⟨hc3,z,rfl,hz7,hzl⟩
    have hz:z.length≤100000:=by
      have:z.length=z.cps.toList.length:=by simp [Str.length]
      omega
    refine cq_pure (seq_if (fun _=>True) (fun q hq=>⟨_,rfl,hq _ trivial⟩) (fun _=>?_) fun _=>?_)
    · refine seq_set (.list (((List.range m).map fun j:Nat=>Txt.slice z none (some ((j:Int) + 1))).map PyData.str)) (fun q hq=>?_) ?_
      · refine lcx_map (ts:=intsTo m) (fun R h=>⟨_,rfl,(m:Int),rfl,by omega,by omega,by simpa using h⟩) (fun x=>match x with | .int j=>.str (Txt.slice z none (some (j + 1))) | _=>.none) (by rw [intsTo_len]; omega) (fun x q hx hq=>?_) ?_
        · obtain ⟨j,hj,rfl⟩:=List.mem_map.mp hx
          exact ⟨_,rfl,_,rfl,hz,hq⟩
        · unfold intsTo
          rw [List.map_map]
          rw [List.map_map] at hq
          exact hq
      have hnb:=nms_pref hz7 hzl (m:=m) (by omega)
      have e:(s:Int) % (m:Int)=((s % m:Nat):Int):=by omega
      have fin:∀ ys:List Str,Nms m ys→(cutD (ys.map PyData.str) (some ((s:Int) % (m:Int))) none).length + (cutD (ys.map PyData.str) none (some ((s:Int) % (m:Int)))).length≤100000∧Q c3 (.tuple (cutD (ys.map PyData.str) (some ((s:Int) % (m:Int))) none++cutD (ys.map PyData.str) none (some ((s:Int) % (m:Int))))):=fun ys hy=>by
        have h1:=hy.1
        rw [e,cut_map,cut_map,← List.map_append,List.length_map,List.length_map,cut_sn,cut_ns,List.length_drop,List.length_take]
        exact ⟨by omega,h _ _ (by omega) (nms_turnW hy (s % m))⟩
      have hm0:(0:Int) < (m:Int):=by omega
      exact ⟨_,rfl,_,rfl,_,rfl,hm0,_,rfl,_,rfl,_,rfl,hm0,fin _ hnb⟩
    · try unfold sNext
      dsimp only
      refine cq_setR (fun n1 d=>n1≤c + 10∧∃ t:Nat,d=.int (t:Int)) (fun q hq=>⟨_,rfl,_,rfl,8,rfl,by decide,by decide,by omega,fun r h0 _=>hq _ _ ⟨by omega,(natOf h0).imp fun _ e=>by rw [e]⟩⟩) ?_
      rintro c4 _ ⟨hc4,t,rfl⟩
      show eCall (f1 gTuple) _ _ _
      dsimp only [eCall,aCons,aNil]
      refine lcx_map (ts:=intsTo m) (fun R h=>⟨_,rfl,(m:Int),rfl,by omega,by omega,by simpa using h⟩) (fun x=>match x with | .int j=>.str (insAt z t (cAt ((s + 7 * j.toNat) % 26))) | _=>.none) (by rw [intsTo_len]; omega) (fun x q hx hq=>?_) ?_
      · obtain ⟨j,hj,rfl⟩:=List.mem_map.mp hx
        have e:((s:Int) + 7 * (j:Int)) % 26=(((s + 7 * j) % 26:Nat):Int):=by omega
        have hc:=cAt_get (i:=(s + 7 * j) % 26) (Nat.mod_lt _ (by decide))
        have hca:L2.atI letters.cps.toList (((s:Int) + 7 * (j:Int)) % 26)=some (cAt ((s + 7 * j) % 26)):=by rw [e]; exact L2.atI_nat hc
        obtain ⟨w1,w2⟩:=insAt_len z hz7 t (cAt ((s + 7 * j) % 26))
        exact ⟨_,rfl,_,rfl,hz,_,rfl,_,rfl,_,rfl,.inl ⟨by decide,by decide⟩,(show (0:Int) < 26 by decide),by decide,_,hca,w1,_,rfl,_,rfl,hz,w2,hq⟩
      · unfold intsTo
        rw [List.map_map]
        have:=h c4 _ (by omega) (nms_ins hz7 hzl (t:=t) (s:=s) (m:=m) (by omega))
        rw [List.map_map] at this
        exact this

theorem sc_23:FnScope ["_law_tape_here","_law_fields","_law_values","_law_answers","_law_names_here"] ["_law_tape_here","_law_fields","_law_values"] (defScope (top 31)):=fsc
set_option maxHeartbeats 4000000 in
theorem ok_23 (T:Txt K mg A)
    (F_21:FnOk P w K mg base CX0 1 A.a_21 A.f_21 ["_law_tape_here","_law_many"] (liftSpC K sp_21))
    (F_22:FnOk P w K mg base CX0 2 A.a_22 A.f_22 ["_law_tape_here","_law_many"] (liftSpC K sp_22)):FnOk P w K mg base CX0 3 A.a_23 A.f_23 ["_law_tape_here","_law_fields","_law_values"] (liftSpC K sp_23):=by
  refine fnC T.F_23 sc_23 (fun τ n ds Q h=>by obtain ⟨f,v,rfl,hf1,hf5,hv2,hv5,hc,h⟩:=h; rfl) fun cdv Ar outer s H E hr Tp c ds Q hdig h=>?_
  obtain ⟨f,v,rfl,hf1,hf5,hv2,hv5,hc,h⟩:=h
  have nd:=sc_23.nd
  refine ⟨_,(sc_cons (sc_set (i:=3) (ec_call F_22 T.m_22 T.k_22 T.d_22 (hr.mono (by decide)) (ac_cons (ec_p (et_v 0)) (ac_cons (ec_ix ix_seq o_ix (ec_p (et_lst (at_cons et_int (at_cons et_int (at_cons et_int (at_cons et_int at_nil)))))) (ec_call F_21 T.m_21 T.k_21 T.d_21 (hr.mono (by decide)) (ac_cons (ec_p (et_v 0)) (ac_cons (ec_p et_int) ac_nil)) (fun h=>pe_call F_21 (hr.mono (by decide)) rfl T.m_21 T.k_21 T.d_21 .nil pass0 h))) ac_nil)) (fun h=>pe_call F_22 (hr.mono (by decide)) rfl T.m_22 T.k_22 T.d_22 .nil pass0 h)) (fun h=>ps_set (i:=3) nd rfl (by first | exact Or.inl rfl | exact Or.inr rfl) h))
  (sc_cons (sc_set (i:=4) (ec_call F_22 T.m_22 T.k_22 T.d_22 (hr.mono (by decide)) (ac_cons (ec_p (et_v 0)) (ac_cons (ec_p (et_v 1)) ac_nil)) (fun h=>pe_call F_22 (hr.mono (by decide)) rfl T.m_22 T.k_22 T.d_22 .nil pass0 h)) (fun h=>ps_set (i:=4) nd rfl (by first | exact Or.inl rfl | exact Or.inr rfl) h))
  (sc_one (sc_ret (ec_tup (ac_cons (ec_cb c_tuple (ac_cons (ec_lc (fr:=[none,some 0,some 2]) (N':=["_law_name","_law_tape_here","_law_values"]) (it_val (et_v 4)) (fun b=>⟨(gt_name (pn 0 (show List.Nodup (["_law_name","_law_tape_here","_law_values"]:List Str) from by decide +kernel))),if_nil,(ec_tup (ac_cons (ec_p (et_v 0)) (ac_cons (ec_call F_22 T.m_22 T.k_22 T.d_22 (hr.mono (by decide)) (ac_cons (ec_p (et_v 1)) (ac_cons (ec_op op_addAny o_add (ec_p et_int) (ec_call F_21 T.m_21 T.k_21 T.d_21 (hr.mono (by decide)) (ac_cons (ec_p (et_v 1)) (ac_cons (ec_p (et_op op_sub o_I0 (et_v 2) et_int)) ac_nil)) (fun h=>pe_call F_21 (hr.mono (by decide)) rfl T.m_21 T.k_21 T.d_21 .nil pass0 h))) ac_nil)) (fun h=>pe_call F_22 (hr.mono (by decide)) rfl T.m_22 T.k_22 T.d_22 .nil pass0 h)) ac_nil)))⟩) (fun hi hY=>pe_lcc (show lcChk _ (defScope (top 31)) ["_law_tape_here","_law_fields","_law_values","_law_answers","_law_names_here"] ["_law_name","_law_tape_here","_law_values"] [none,some 0,some 2]=true from by decide +kernel) rfl hi hY)) ac_nil) (fun h=>pe_callTy call_tuple_of rfl T.b_tuple bl_tuple h)) (ac_cons (ec_p (et_v 3)) ac_nil))))))),?_⟩
  show cSeq _ _ _ _ _ [.val (tpD Tp),.val (.int f),.val (.int v),.un,.un]
  refine cq_setR (fun n1 d=>n1≤c + 13∧∃ (m:Nat) (ys:List Str),2≤m∧m≤4∧Nms m ys∧d=.tuple (ys.map PyData.str)) (fun q hq=>⟨_,rfl,by decide,_,rfl,_,rfl,4,rfl,by decide,by decide,by omega,fun r h0 h1=>?_⟩) ?_
  · obtain ⟨d,hm,hat,_⟩:=atI_in (xs:=[PyData.int 2,.int 3,.int 2,.int 4]) (i:=r) h0 h1
    have:∃ m:Nat,d=.int (m:Int)∧2≤m∧m≤4:=by
      simp only [List.mem_cons,List.not_mem_nil,or_false] at hm
      rcases hm with rfl | rfl | rfl | rfl
      · exact ⟨2,rfl,by decide,by decide⟩
      · exact ⟨3,rfl,by decide,by decide⟩
      · exact ⟨2,rfl,by decide,by decide⟩
      · exact ⟨4,rfl,by decide,by decide⟩
    obtain ⟨m,rfl,hm2,hm4⟩:=this
    exact ⟨_,hat,_,rfl,m,rfl,by omega,by omega,by omega,fun n' ys hn hy=>hq _ _ ⟨by omega,m,ys,hm2,hm4,hy,rfl⟩⟩
  rintro c1 _ ⟨hc1,ma,an,hma2,hma4,han,rfl⟩
  refine cq_setR (fun n1 d=>n1≤c + 25∧∃ ys:List Str,Nms f ys∧d=.tuple (ys.map PyData.str)) (fun q hq=>⟨_,rfl,_,rfl,_,rfl,f,rfl,hf1,hf5,by omega,fun n' ys hn hy=>hq _ _ ⟨by omega,ys,hy,rfl⟩⟩) ?_
  rintro c2 _ ⟨hc2,ns,hns,rfl⟩
  have hnl:=hns.1
  dsimp only [cRet,cTup,cCons,cCall]
  refine clc_in (ts:=ns.map PyData.str) (fun R h=>⟨_,rfl,_,rfl,h⟩) (fun _ x y=>∃ nm vs,x=.str nm∧y=fldD (nm,vs)∧(2≤vs.length∧vs.length≤v∧Nms vs.length vs)) 13 (by rw [List.length_map]; omega) (fun j k x q hx hk hq=>?_) fun k ys hk hl' hy=>?_
  · have hj:j < ns.length:=by have:=(List.getElem?_eq_some_iff.mp hx).1; rw [List.length_map] at this; exact this
    obtain ⟨nm,_,rfl⟩:=List.mem_map.mp (List.mem_of_getElem? hx)
    refine ⟨_,rfl,_,rfl,_,rfl,_,rfl,_,rfl,(v:Int) - 1,rfl,by omega,by omega,by omega,fun r h0 h1=>?_⟩
    obtain ⟨t,rfl⟩:=natOf h0
    have e:[PyData.int (2 + (t:Int))]=[.int ((2 + t:Nat):Int)]:=by
      have:(2:Int) + (t:Int)=((2 + t:Nat):Int):=by omega
      rw [this]
    exact ⟨_,rfl,2 + t,e,by omega,by omega,by omega,fun n' vs hn hv=>⟨(Nat.le_of_ble_eq_true rfl),hq _ _ (by omega) ⟨nm,vs,rfl,rfl,by rw [hv.1]; omega,by rw [hv.1]; omega,by rw [hv.1]; exact hv⟩⟩⟩
  · rw [List.length_map] at hl' hk
    obtain ⟨fs,rfl,h1,h2⟩:=flds_of ns ys hl' hy
    have hfl:fs.length=f:=by rw [← hnl,← h1,List.length_map]
    have hal:=han.1
    refine ⟨_,rfl,(Nat.le_of_ble_eq_true rfl),h k fs an (by omega) ⟨by omega,by omega,by rw [h1,hfl]; exact hns,fun x hx=>⟨(h2 x hx).1,by have:=(h2 x hx).2.1; omega,(h2 x hx).2.2⟩,by omega,by omega,by rw [hal]; exact han⟩ hfl fun x hx=>(h2 x hx).2.1⟩

theorem sc_24:FnScope ["_law_tape_here","_law_form_here","_law_case_here","_law_name","_law_values","_law_at"] ["_law_tape_here","_law_form_here"] (defScope (top 32)):=fsc
set_option maxHeartbeats 4000000 in
theorem ok_24 (T:Txt K mg A)
    (F_21:FnOk P w K mg base CX0 1 A.a_21 A.f_21 ["_law_tape_here","_law_many"] (liftSpC K sp_21)):FnOk P w K mg base CX0 2 A.a_24 A.f_24 ["_law_tape_here","_law_form_here"] (liftSpC K sp_24):=by
  refine fnC T.F_24 sc_24 (fun τ n ds Q h=>by obtain ⟨fs,an,rfl,F,hc,h⟩:=h; rfl) fun cdv Ar outer s H E hr Tp c ds Q hdig h=>?_
  obtain ⟨fs,an,rfl,F,hc,h⟩:=h
  have nd:=sc_24.nd
  refine ⟨_,(sc_cons (sc_p (ss 2 nd (et_tup at_nil)))
  (sc_cons (sc_for (it_val (et_ix ix_seq o_ix (et_v 1) et_int)) (gt_pair (pg_tup rfl (pgs_cons (pn 3 nd) (pgs_cons (pn 4 nd) pgs_nil))))
  (sc_cons (sc_set (i:=5) (ec_call F_21 T.m_21 T.k_21 T.d_21 (hr.mono (by decide)) (ac_cons (ec_p (et_v 0)) (ac_cons (ec_p (et_op op_mulAny o_mul et_int (et_cb c_len (at_cons (et_v 4) at_nil) (fun h=>pe_callB call_lenAny rfl T.b_len bl_len h)))) ac_nil)) (fun h=>pe_call F_21 (hr.mono (by decide)) rfl T.m_21 T.k_21 T.d_21 .nil pass0 h)) (fun h=>ps_set (i:=5) nd rfl (by first | exact Or.inl rfl | exact Or.inr rfl) h))
  (sc_one (sc_p (ss 2 nd (et_op op_addAny o_add (et_v 2) (et_tup (at_cons (et_if (tt_cmp op_eq o_eq (et_op op_mod o_I (et_v 5) et_int) et_int) et_non (et_ix ix_seq o_ix (et_v 4) (et_op op_fdiv o_I (et_v 5) et_int))) at_nil))))))) (fun hi hg hb=>ps_for PassesOwn.never rfl hi hg hb))
  (sc_one (sc_p (st_ret (et_v 2)))))),?_⟩
  show cSeq _ _ _ _ _ [.val (tpD Tp),.val (frmD fs an),.un,.un,.un,.un]
  have n5:=F.n5
  refine cq_pure (seq_set (.tuple []) (fun q hq=>⟨(Nat.le_of_ble_eq_true rfl),hq⟩) ?_)
  refine cq_for (ts:=fs.map fldD) (fun R h=>⟨_,rfl,_,rfl,_,rfl,h⟩)
    (fun k m σ=>∃ (cs:List D) (s3 s4 s5:Sl),σ=[.val (tpD Tp),.val (frmD fs an),.val (.tuple cs),s3,s4,s5]∧m≤c + k∧cs.length=k∧∀ (j:Nat) f d,fs[j]?=some f→cs[j]?=some d→okV f d=true) ⟨[],_,_,_,rfl,Nat.le_refl _,rfl,fun j f d _ h=>by simp at h⟩ (fun k m x σ' hx hP=>?_) fun m σ' hP=>?_
  · obtain ⟨cs,s3,s4,s5,rfl,hm,hcl,hcv⟩:=hP
    have hk:k < fs.length:=by have:=(List.getElem?_eq_some_iff.mp hx).1; rw [List.length_map] at this; exact this
    have ex:x=fldD fs[k]:=by rw [List.getElem?_map,List.getElem?_eq_getElem hk] at hx; exact (Option.some.inj hx).symm
    subst ex
    have hfk:fs[k]?=some fs[k]:=List.getElem?_eq_getElem hk
    obtain ⟨v2,v5,hvv⟩:=F.vs _ (List.getElem_mem hk)
    generalize fs[k]=f at *
    refine ⟨.str f.1,.tuple (f.2.map PyData.str),rfl,?_⟩
    refine cq_setR (fun n1 d=>n1=m + 1∧∃ t:Nat,d=.int (t:Int)∧t < 5 * f.2.length) (fun q hq=>⟨_,rfl,_,rfl,.inl ⟨by decide,by decide⟩,_,rfl,5 * ((f.2.map PyData.str).length:Int),rfl,by rw [List.length_map]; omega,by rw [List.length_map]; omega,by omega,fun r h0 h1=>hq _ _ ⟨rfl,?_⟩⟩) ?_
    · obtain ⟨t,rfl⟩:=natOf h0
      rw [List.length_map] at h1
      exact ⟨t,rfl,by omega⟩
    rintro m1 _ ⟨hm1,t,rfl,ht⟩
    have e5:((t:Int) / 5)=((t / 5:Nat):Int):=by omega
    have hat:L2.atI (f.2.map PyData.str) ((t:Int) / 5)=some (.str f.2[t / 5]):=by rw [e5]; exact atI_strs (by omega)
    have fin:∀ d,okV f d=true→∃ (cs':List D) (s3 s4 s5:Sl),[Sl.val (tpD Tp),.val (frmD fs an),.val (.tuple (cs++[d])),.val (.str f.1),.val (.tuple (f.2.map PyData.str)),.val (.int (t:Int))]=[.val (tpD Tp),.val (frmD fs an),.val (.tuple cs'),s3,s4,s5]∧m1≤c + (k + 1)∧cs'.length=k + 1∧∀ (j:Nat) f d,fs[j]?=some f→cs'[j]?=some d→okV f d=true:=fun d hd=>by
      refine ⟨cs++[d],_,_,_,rfl,by omega,by simp [hcl],fun j g e hg he=>?_⟩
      by_cases hj:j < k
      · rw [List.getElem?_append_left (by omega)] at he
        exact hcv j g e hg he
      · rw [List.getElem?_append_right (by omega)] at he
        have:j=k:=by
          by_cases z:j=k
          · exact z
          · have:j - cs.length ≠ 0:=by omega
            cases q:j - cs.length with
            | zero=>exact absurd q this
            | succ n=>rw [q] at he; simp at he
        subst this
        rw [hfk] at hg
        cases hg
        simp [hcl] at he
        subst he
        exact hd
    by_cases hz:(t:Int) % 5=4
    · refine one_set (.tuple (cs++[.none])) (fun q hq=>⟨_,rfl,_,rfl,(show (0:Int) < 5 by decide),by
        show (if decide ((t:Int) % 5=4)=true then _ else _)
        rw [if_pos (decide_eq_true hz)]
        exact ⟨(Nat.le_of_ble_eq_true rfl),by show cs.length + 1≤_; omega,hq⟩⟩) ?_
      dsimp only
      exact fin .none rfl
    · refine one_set (.tuple (cs++[.str f.2[t / 5]])) (fun q hq=>⟨_,rfl,_,rfl,(show (0:Int) < 5 by decide),by
        show (if decide ((t:Int) % 5=4)=true then _ else _)
        rw [if_neg (by simpa using hz)]
        exact ⟨_,rfl,_,rfl,⟨by decide,by decide⟩,_,hat,(Nat.le_of_ble_eq_true rfl),by show cs.length + 1≤_; omega,hq⟩⟩) ?_
      dsimp only
      have hmem:f.2[t / 5] ∈ f.2:=List.getElem_mem _
      exact fin (.str f.2[t / 5]) (decide_eq_true hmem)
  · obtain ⟨cs,s3,s4,s5,rfl,hm,hcl,hcv⟩:=hP
    rw [List.length_map] at hm hcl
    exact ⟨_,rfl,h m cs (by omega) (case_of hcl hcv)⟩

theorem sc_25:FnScope ["_law_tape_here","_law_form_here","_law_many","_law_rows_here","_law_k","_law_case_here","_law_at","_law_row"] ["_law_tape_here","_law_form_here","_law_many"] (defScope (top 33)):=fsc
set_option maxHeartbeats 4000000 in
theorem ok_25 (T:Txt K mg A)
    (F_24:FnOk P w K mg base CX0 2 A.a_24 A.f_24 ["_law_tape_here","_law_form_here"] (liftSpC K sp_24))
    (F_21:FnOk P w K mg base CX0 1 A.a_21 A.f_21 ["_law_tape_here","_law_many"] (liftSpC K sp_21)):FnOk P w K mg base CX0 3 A.a_25 A.f_25 ["_law_tape_here","_law_form_here","_law_many"] (liftSpC K sp_25):=by
  refine fnC T.F_25 sc_25 (fun τ n ds Q h=>by obtain ⟨fs,an,m,rfl,F,hm60,hc,h⟩:=h; rfl) fun cdv Ar outer s H E hr Tp c ds Q hdig h=>?_
  obtain ⟨fs,an,m,rfl,F,hm60,hc,h⟩:=h
  have nd:=sc_25.nd
  refine ⟨_,(sc_cons (sc_p (st_own (i:=3) at_nil (fun h=>ps_set (i:=3) nd rfl (by first | exact Or.inl rfl | exact Or.inr rfl) h)))
  (sc_cons (sc_for (it_range (at_cons (et_v 2) at_nil) (fun h=>pi_range1 rfl T.b_range h)) (gt_name (pn 4 nd))
  (sc_cons (sc_set (i:=5) (ec_call F_24 T.m_24 T.k_24 T.d_24 (hr.mono (by decide)) (ac_cons (ec_p (et_v 0)) (ac_cons (ec_p (et_v 1)) ac_nil)) (fun h=>pe_call F_24 (hr.mono (by decide)) rfl T.m_24 T.k_24 T.d_24 .nil pass0 h)) (fun h=>ps_set (i:=5) nd rfl (by first | exact Or.inl rfl | exact Or.inr rfl) h))
  (sc_cons (sc_set (i:=6) (ec_call F_21 T.m_21 T.k_21 T.d_21 (hr.mono (by decide)) (ac_cons (ec_p (et_v 0)) (ac_cons (ec_p (et_cb c_len (at_cons (et_ix ix_seq o_ix (et_v 1) et_int) at_nil) (fun h=>pe_callB call_lenAny rfl T.b_len bl_len h))) ac_nil)) (fun h=>pe_call F_21 (hr.mono (by decide)) rfl T.m_21 T.k_21 T.d_21 .nil pass0 h)) (fun h=>ps_set (i:=6) nd rfl (by first | exact Or.inl rfl | exact Or.inr rfl) h))
  (sc_cons (sc_if (wc_pt (wc_and (tc_p (tt_cmp op_isNot2 o_isNot2 (et_ix ix_seq o_ix (et_v 5) et_int) et_non)) (wc_and1 (tc_cmp op_eq o_eq (ec_call F_21 T.m_21 T.k_21 T.d_21 (hr.mono (by decide)) (ac_cons (ec_p (et_v 0)) (ac_cons (ec_p et_int) ac_nil)) (fun h=>pe_call F_21 (hr.mono (by decide)) rfl T.m_21 T.k_21 T.d_21 .nil pass0 h)) (ec_p et_int)))))
  (sc_one (sc_p (ss 6 nd (et_op op_mod o_I (et_index (et_ix ix_seq o_ix (et_ix ix_seq o_ix (et_ix ix_seq o_ix (et_v 1) et_int) et_int) et_int) (at_cons (et_ix ix_seq o_ix (et_v 5) et_int) at_nil) (fun h ha=>pe_bm PySem.F.plainAttrs_tuple PySem.F.slot_tuple_index PySem.F.type_tuple_index (mt_index hr) h ha)) (et_cb c_len (at_cons (et_ix ix_seq o_ix (et_v 1) et_int) at_nil) (fun h=>pe_callB call_lenAny rfl T.b_len bl_len h))))))
  sc_nil)
  (sc_cons (sc_p (ss 7 nd (et_tup (at_cons (et_v 5) (at_cons (et_ix ix_seq o_ix (et_ix ix_seq o_ix (et_v 1) et_int) (et_v 6)) at_nil)))))
  (sc_cons (sc_if (wc_pt (wc_and (tc_p (tt_cmp op_gt o_B0 (et_v 4) et_int)) (wc_and1 (tc_cmp op_eq o_eq (ec_call F_21 T.m_21 T.k_21 T.d_21 (hr.mono (by decide)) (ac_cons (ec_p (et_v 0)) (ac_cons (ec_p et_int) ac_nil)) (fun h=>pe_call F_21 (hr.mono (by decide)) rfl T.m_21 T.k_21 T.d_21 .nil pass0 h)) (ec_p et_int)))))
  (sc_one (sc_set (i:=7) (ec_ixOwn (i:=3) (pv 3) (ec_call F_21 T.m_21 T.k_21 T.d_21 (hr.mono (by decide)) (ac_cons (ec_p (et_v 0)) (ac_cons (ec_p (et_v 4)) ac_nil)) (fun h=>pe_call F_21 (hr.mono (by decide)) rfl T.m_21 T.k_21 T.d_21 .nil pass0 h))) (fun h=>ps_set (i:=7) nd rfl (by first | exact Or.inl rfl | exact Or.inr rfl) h)))
  sc_nil)
  (sc_one (sc_p (st_app (i:=3) (pv 3) (et_v 7) (pb:=fun h=>ps_expr (pe_bm PySem.F.plainAttrs_list PySem.F.slot_list_append PySem.F.type_list_append mt_append (pv 3) h)))))))))) (fun hi hg hb=>ps_for PassesOwn.never rfl hi hg hb))
  (sc_share 3 (sc_one (sc_p (st_ret (et_v 3))))))),?_⟩
  show cSeq _ _ _ _ _ [.val (tpD Tp),.val (frmD fs an),.val (.int m),.un,.un,.un,.un,.un]
  have n1:=F.n1
  have a2:=F.a2
  have a4:=F.a4
  refine cq_pure (seq_own [] (by decide) (fun q hq=>hq) ?_)
  refine cq_for (ts:=intsTo m) (fun R h=>⟨_,rfl,(m:Int),rfl,by omega,by omega,by simpa using h⟩)
    (fun k c1 σ=>∃ (rs:List (List D × Str)) (s4 s5 s6 s7:Sl),σ=[.val (tpD Tp),.val (frmD fs an),.val (.int m),.own (rs.map rowD),s4,s5,s6,s7]∧c1≤c + 10 * k∧rs.length=k∧RowsOk fs an rs) ⟨[],_,_,_,_,rfl,by omega,rfl,fun r hr=>by simp at hr⟩ (fun k c1 x σ' hx hP=>?_) fun c1 σ' hP=>?_
  · obtain ⟨hk,rfl⟩:=intsTo_get hx
    obtain ⟨rs,s4,s5,s6,s7,rfl,hc1,hrl,hrs⟩:=hP
    refine cq_setR (fun n1 d=>n1≤c1 + 5∧∃ cs,isCase fs (.tuple cs)=true∧d=.tuple cs) (fun q hq=>⟨_,rfl,_,rfl,_,rfl,fs,an,rfl,F,by omega,fun n' cs hn hcs=>hq _ _ ⟨hn,cs,hcs,rfl⟩⟩) ?_
    rintro c2 _ ⟨hc2,cs,hcs,rfl⟩
    have hal:((an.map PyData.str).length:Int)=(an.length:Int):=by rw [List.length_map]
    refine cq_setR (fun n1 d=>n1=c2 + 1∧∃ t:Nat,d=.int (t:Int)∧t < an.length) (fun q hq=>⟨_,rfl,_,rfl,_,rfl,_,rfl,((an.map PyData.str).length:Int),rfl,by omega,by omega,by omega,fun r h0 h1=>hq _ _ ⟨rfl,?_⟩⟩) ?_
    · obtain ⟨t,rfl⟩:=natOf h0
      exact ⟨t,rfl,by omega⟩
    rintro c3 _ ⟨hc3,t,rfl,ht⟩
    obtain ⟨hcl,hcv⟩:=case_get hcs
    obtain ⟨f0,hf0⟩:∃ f,fs[0]?=some f:=⟨_,List.getElem?_eq_getElem (by omega)⟩
    obtain ⟨d0,hd0⟩:∃ d,cs[0]?=some d:=⟨_,List.getElem?_eq_getElem (by omega)⟩
    have hok:=hcv 0 f0 d0 hf0 hd0
    have hca:L2.atI cs 0=some d0:=L2.atI_nat (j:=0) hd0
    have hfa:L2.atI (fs.map fldD) 0=some (fldD f0):=L2.atI_nat (j:=0) (by rw [List.getElem?_map,hf0]; rfl)
    have hfm:=List.mem_of_getElem? hf0
    refine cq_ifsetP (∃ z:Str,d0=.str z∧z ∈ f0.2) (fun c4=>c4≤c3 + 1) (fun d=>∃ t:Nat,d=.int (t:Int)∧t < an.length) (fun q hq=>⟨_,rfl,_,hca,?_⟩) (.int (t:Int)) rfl ⟨t,rfl,ht⟩ (fun hC q hq=>?_) ?_
    · show (if (!isNoneD d0)=true then _ else q c3 false)
      cases hn:isNoneD d0 with
      | true=>rw [if_neg (by decide)]; exact hq _ _ (by omega) fun z=>by cases z
      | false =>
        rw [if_pos (by decide)]
        have hstr:∃ z:Str,d0=.str z∧z ∈ f0.2:=by
          cases d0 with
          | none=>cases hn
          | str z=>exact ⟨z,rfl,of_decide_eq_true hok⟩
          | _=>cases hok
        exact ⟨_,rfl,_,rfl,2,rfl,by decide,by decide,by omega,fun r h0 h1=>hq _ _ (Nat.le_refl _) fun _=>hstr⟩
    · obtain ⟨z,rfl,hz⟩:=hC
      have hx:=okIx_strs (F.vals hfm) hz
      have hp:(0:Int) < ((an.map PyData.str).length:Int):=by omega
      refine ⟨_,rfl,_,rfl,_,hfa,_,rfl,_,rfl,_,rfl,_,hca,_,_,rfl,hx,_,rfl,_,rfl,hp,hq _ ⟨(f0.2.idxOf z) % an.length,?_,Nat.mod_lt _ (by omega)⟩⟩
      show PyData.int (((f0.2.idxOf z:Nat):Int) % ((an.map PyData.str).length:Int))=_
      rw [hal]
      rfl
    rintro c4 _ hc4 ⟨t2,rfl,ht2⟩
    have haa:L2.atI (an.map PyData.str) (t2:Int)=some (.str an[t2]):=atI_strs ht2
    refine cq_pure (seq_set (rowD (cs,an[t2])) (fun q hq=>⟨_,rfl,_,rfl,_,rfl,_,rfl,_,haa,(Nat.le_of_ble_eq_true rfl),hq⟩) ?_)
    have hrow:RowOk fs an (cs,an[t2]):=⟨hcs,List.getElem_mem _⟩
    refine cq_ifset (0 < k) (fun c5=>c5≤c4 + 1) (fun d=>∃ r,RowOk fs an r∧d=rowD r) (fun q hq=>⟨_,rfl,?_⟩) (rowD (cs,an[t2])) rfl ⟨_,hrow,rfl⟩ (fun c6=>c6≤c4 + 2) (fun _ z=>by omega) (fun c5 hc5 hk0 q hq=>⟨rs.map rowD,rfl,_,rfl,_,rfl,_,rfl,(k:Int),rfl,by omega,by omega,by omega,fun r h0 h1=>?_⟩) ?_
    · show (if decide ((k:Int) > 0)=true then _ else q c4 false)
      by_cases hk0:(k:Int) > 0
      · rw [if_pos (decide_eq_true hk0)]
        exact ⟨_,rfl,_,rfl,8,rfl,by decide,by decide,by omega,fun r h0 h1=>hq _ _ (Nat.le_refl _) fun _=>by omega⟩
      · rw [if_neg (by simpa using hk0)]
        exact hq _ _ (by omega) fun z=>by cases z
    · obtain ⟨d,hdm,hda,_⟩:=atI_in (xs:=rs.map rowD) (i:=r) h0 (by rw [List.length_map,hrl]; exact h1)
      obtain ⟨r',hr',rfl⟩:=List.mem_map.mp hdm
      exact ⟨r,_,rfl,hda,hq _ _ (by omega) ⟨r',hrs r' hr',rfl⟩⟩
    rintro c6 _ hc6 ⟨r,hr,rfl⟩
    refine one_app (ts:=rs.map rowD) (rowD r) rfl (by rw [List.length_map]; omega) (fun q hq=>⟨_,rfl,hq⟩) ?_
    refine ⟨rs++[r],_,_,_,_,by rw [List.map_append]; rfl,by omega,by simp [hrl],fun r' hr'=>?_⟩
    rcases List.mem_append.mp hr' with z | z
    · exact hrs r' z
    · rw [List.mem_singleton.mp z]; exact hr
  · obtain ⟨rs,s4,s5,s6,s7,rfl,hc1,hrl,hrs⟩:=hP
    rw [intsTo_len] at hc1 hrl
    exact ⟨_,rfl,_,rfl,h c1 rs hc1 hrs hrl⟩

theorem sc_26:FnScope ["_law_form_here","_law_found","_law_name","_law_values","_law_some"] ["_law_form_here"] (defScope (top 34)):=fsc
set_option maxHeartbeats 4000000 in
theorem ok_26 (T:Txt K mg A):FnOk P w K mg base CX0 1 A.a_26 A.f_26 ["_law_form_here"] (liftSp K sp_26):=by
  refine fnT T.F_26 sc_26 (fun ds Q h=>by obtain ⟨fs,an,rfl,F,h⟩:=h; rfl) fun cdv Ar outer s H E hr ds Q h=>?_
  obtain ⟨fs,an,rfl,F,h⟩:=h
  have nd:=sc_26.nd
  refine ⟨_,(st_cons (ss 1 nd (et_lst at_nil))
  (st_cons (st_for (it_val (et_ix ix_seq o_ix (et_v 0) et_int)) (gt_pair (pg_tup rfl (pgs_cons (pn 2 nd) (pgs_cons (pn 3 nd) pgs_nil))))
  (st_cons (ss 4 nd (et_if (tt_cmp op_eq o_eq (et_cb c_len (at_cons (et_v 3) at_nil) (fun h=>pe_callB call_lenAny rfl T.b_len bl_len h)) et_int) (et_slice sl_any o_sl (et_v 3) ot_none (ot_some et_int)) (et_v 3)))
  (st_cons (ss 1 nd (et_op op_addAny o_add (et_v 1) (et_lc (fr:=[none,some 2]) (N':=["_law_value","_law_name"]) (it_val (et_v 4)) (fun b=>⟨(gt_name (pn 0 (show List.Nodup (["_law_value","_law_name"]:List Str) from by decide +kernel))),if_nil,(et_tup (at_cons et_str (at_cons (et_v 1) (at_cons (et_v 0) at_nil))))⟩) (fun hi hY=>pe_lcc (show lcChk _ (defScope (top 34)) ["_law_form_here","_law_found","_law_name","_law_values","_law_some"] ["_law_value","_law_name"] [none,some 2]=true from by decide +kernel) rfl hi hY))))
  (st_one (ss 1 nd (et_op op_addAny o_add (et_v 1) (et_lc (fr:=[none,some 2,some 3]) (N':=["_law_k","_law_name","_law_values"]) (it_range2 (at_cons et_int (at_cons (et_op op_sub o_I0 (et_cb c_len (at_cons (et_v 3) at_nil) (fun h=>pe_callB call_lenAny rfl T.b_len bl_len h)) et_int) at_nil)) (fun h=>pi_range2 rfl T.b_range h)) (fun b=>⟨(gt_name (pn 0 (show List.Nodup (["_law_k","_law_name","_law_values"]:List Str) from by decide +kernel))),if_nil,(et_tup (at_cons et_str (at_cons (et_v 1) (at_cons (et_ix ix_seq o_ix (et_v 2) (et_v 0)) at_nil))))⟩) (fun hi hY=>pe_lcc (show lcChk _ (defScope (top 34)) ["_law_form_here","_law_found","_law_name","_law_values","_law_some"] ["_law_k","_law_name","_law_values"] [none,some 2,some 3]=true from by decide +kernel) rfl hi hY))))))) (fun hi hg hb=>ps_for PassesOwn.never rfl hi hg hb))
  (st_one (st_ret (et_v 1))))),?_⟩
  show sSeq _ _ _ [.val (frmD fs an),.un,.un,.un,.un]
  have n5:=F.n5
  refine seq_set (.list []) (fun q hq=>⟨(Nat.le_of_ble_eq_true rfl),hq⟩) ?_
  refine seq_for (ts:=fs.map fldD) (fun R h=>⟨_,rfl,_,rfl,_,rfl,h⟩)
    (fun i σ=>∃ s2 s3 s4:Sl,σ=[.val (frmD fs an),.val (.list (toChoose (fs.take i))),s2,s3,s4]) ⟨_,_,_,rfl⟩ (fun i x σ' hx hP=>?_) fun σ' hP=>?_
  · obtain ⟨s2,s3,s4,rfl⟩:=hP
    rw [List.getElem?_map] at hx
    obtain ⟨f,hfk,rfl⟩:=Option.map_eq_some_iff.mp hx
    have hf:=List.mem_of_getElem? hfk
    obtain ⟨v2,v5,hvv⟩:=F.vs f hf
    have hcl:=choose_len F (fs.take i) fun g hg=>List.mem_of_mem_take hg
    have hkl:(fs.take i).length≤5:=by rw [List.length_take]; omega
    refine ⟨.str f.1,.tuple (f.2.map PyData.str),rfl,?_⟩
    dsimp only
    refine seq_set (.tuple ((qSel f).map PyData.str)) (fun q hq=>⟨_,rfl,?_⟩) ?_
    · show (if decide (((f.2.map PyData.str).length:Int)=2)=true then _ else _)
      unfold qSel at hq
      rw [List.length_map]
      by_cases e:f.2.length=2
      · rw [if_pos (decide_eq_true (by omega))]
        rw [if_pos e] at hq
        refine ⟨_,rfl,?_⟩
        show q (.tuple (cutD (f.2.map PyData.str) none (some 1)))
        rw [cut_map,cut_one _ v2]; exact hq
      · rw [if_neg (by simpa using (by omega:¬ (f.2.length:Int)=2))]
        rw [if_neg e] at hq
        exact ⟨_,rfl,hq⟩
    have s5:(qSel f).length≤5:=by
      unfold qSel
      split
      · rw [List.length_take]; omega
      · omega
    refine seq_set (.list (toChoose (fs.take i)++(qSel f).map (mkQ "is" f))) (fun q hq=>⟨_,rfl,?_⟩) ?_
    · refine lcx_map (ts:=(qSel f).map PyData.str) (fun R h=>⟨_,rfl,_,rfl,h⟩) (fun x=>.tuple [.str "is",.str f.1,x]) (by rw [List.length_map]; omega) (fun x q hx hq=>⟨_,rfl,_,rfl,(Nat.le_of_ble_eq_true rfl),hq⟩) ?_
      rw [List.map_map]
      exact ⟨by rw [List.length_map]; omega,hq⟩
    have hlF:(TL.intsFrom 1 (((f.2.map PyData.str).length:Int) - 2 - 1).toNat).length≤5:=by
      unfold TL.intsFrom
      rw [List.length_map,List.length_range,List.length_map]
      omega
    refine (show sSet _ _ _ _ from ⟨_,rfl,?_⟩)
    refine lcx_map (ts:=TL.intsFrom 1 (((f.2.map PyData.str).length:Int) - 2 - 1).toNat) (fun R h=>⟨_,rfl,1,((f.2.map PyData.str).length:Int) - 2,rfl,⟨by decide,by decide,by rw [List.length_map]; omega,by rw [List.length_map]; omega⟩,h⟩) (midF f) (by omega) (fun x q hx hq=>?_) ?_
    · obtain ⟨m,hm,rfl⟩:=List.mem_map.mp hx
      have hm':m < (((f.2.map PyData.str).length:Int) - 2 - 1).toNat:=by simpa using hm
      rw [List.length_map] at hm'
      have e:(1:Int) + (m:Int)=((m + 1:Nat):Int):=by omega
      have hat:L2.atI (f.2.map PyData.str) (1 + (m:Int))=some (.str (f.2[m + 1]'(by omega))):=by rw [e]; exact atI_strs (by omega)
      have hq2:q (.tuple [.str "upto",.str f.1,.str (f.2[m + 1]'(by omega))]):=by
        have e2:midF f (.int (1 + (m:Int)))=.tuple [.str "upto",.str f.1,.str (f.2[m + 1]'(by omega))]:=by unfold midF; dsimp only; rw [hat]
        rw [← e2]; exact hq
      exact ⟨_,rfl,_,rfl,_,rfl,_,hat,(Nat.le_of_ble_eq_true rfl),hq2⟩
    · rw [mid_ints v2]
      have ql:(qMid f).length≤5:=by unfold qMid; rw [List.length_take,List.length_drop]; omega
      refine ⟨by rw [List.length_append,List.length_map,List.length_map]; omega,.val (.str f.1),.val (.tuple (f.2.map PyData.str)),.val (.tuple ((qSel f).map PyData.str)),?_⟩
      rw [List.append_assoc]
      have e:toChoose (fs.take (i + 1))=toChoose (fs.take i)++qOf f:=by
        unfold toChoose
        rw [List.take_add_one,hfk,List.map_append,List.flatten_append]
        show _++[qOf f].flatten=_
        rw [List.flatten_singleton]
      rw [e]; rfl
  · obtain ⟨s2,s3,s4,rfl⟩:=hP
    rw [List.length_map,List.take_length]
    exact ⟨_,rfl,by rw [← qs_data]; exact h⟩

theorem sc_27:FnScope ["_law_form_here","_law_question","_law_stray","_law_case_here","_law_kind","_law_name","_law_value","_law_values","_law_mine","_law_k","_law_far"] ["_law_form_here","_law_question","_law_stray","_law_case_here"] (defScope (top 35)):=fsc
set_option maxHeartbeats 4000000 in
theorem ok_27 (T:Txt K mg A):FnOk P w K mg base CX0 1 A.a_27 A.f_27 ["_law_form_here","_law_question","_law_stray","_law_case_here"] (liftSp K sp_27):=by
  refine fnT T.F_27 sc_27 (fun ds Q h=>by obtain ⟨fs,an,k,n,v,st,cs,rfl,F,hq,hst,hcs,h⟩:=h; rfl) fun cdv Ar outer s H E hr ds Q h=>?_
  obtain ⟨fs,an,k,n,v,st,cs,rfl,F,hq,hst,hcs,h⟩:=h
  have nd:=sc_27.nd
  refine ⟨_,(st_cons (st_unpG (et_v 1) (gt_triple (pg_tup rfl (pgs_cons (pn 4 nd) (pgs_cons (pn 5 nd) (pgs_cons (pn 6 nd) pgs_nil))))) (fun he hg=>ps_asg he hg))
  (st_cons (ss 7 nd (et_tup at_nil))
  (st_cons (ss 8 nd et_non)
  (st_cons (st_for (it_range (at_cons (et_cb c_len (at_cons (et_ix ix_seq o_ix (et_v 0) et_int) at_nil) (fun h=>pe_callB call_lenAny rfl T.b_len bl_len h)) at_nil) (fun h=>pi_range1 rfl T.b_range h)) (gt_name (pn 9 nd))
  (st_one (st_if (tt_cmp op_eq o_eq (et_ix ix_seq o_ix (et_ix ix_seq o_ix (et_ix ix_seq o_ix (et_v 0) et_int) (et_v 9)) et_int) (et_v 5))
  (st_cons (ss 7 nd (et_ix ix_seq o_ix (et_ix ix_seq o_ix (et_ix ix_seq o_ix (et_v 0) et_int) (et_v 9)) et_int))
  (st_one (ss 8 nd (et_ix ix_seq o_ix (et_v 3) (et_v 9)))))
  st_nil)) (fun hi hg hb=>ps_for PassesOwn.never rfl hi hg hb))
  (st_cons (st_if (tt_cmp op_is2 o_is2 (et_v 8) et_non)
  (st_one (st_ret (et_v 2)))
  st_nil)
  (st_cons (ss 10 nd (et_op op_sub o_I0 (et_index (et_v 7) (at_cons (et_v 8) at_nil) (fun h ha=>pe_bm PySem.F.plainAttrs_tuple PySem.F.slot_tuple_index PySem.F.type_tuple_index (mt_index hr) h ha)) (et_index (et_v 7) (at_cons (et_v 6) at_nil) (fun h ha=>pe_bm PySem.F.plainAttrs_tuple PySem.F.slot_tuple_index PySem.F.type_tuple_index (mt_index hr) h ha))))
  (st_one (st_ret (et_if (tw_pt (tw_or (tt_cmp op_eq o_eq (et_v 10) et_int) (tw_or1 (tw_pt (tw_and (tt_cmp op_eq o_eq (et_v 4) et_str) (tw_and1 (tt_cmp op_lt o_B0 (et_v 10) et_int))))))) et_str et_str))))))))),?_⟩
  show sSeq _ _ _ [.val (frmD fs an),.val (.tuple [.str k,.str n,.str v]),.val (.str st),.val (.tuple cs),.un,.un,.un,.un,.un,.un,.un]
  have n5:=F.n5
  obtain ⟨f,hf,hfn,hv,hk⟩:=isQ_str hq
  obtain ⟨j,hj⟩:=List.getElem?_of_mem hf
  have hjl:=(List.getElem?_eq_some_iff.mp hj).1
  obtain ⟨hcl,hcv⟩:=case_get hcs
  obtain ⟨c0,hc0⟩:∃ d,cs[j]?=some d:=⟨_,List.getElem?_eq_getElem (by omega)⟩
  have hok:=hcv j f c0 hj hc0
  have hfl:((fs.map fldD).length:Int)=(fs.length:Int):=by rw [List.length_map]
  refine (show sSeq (sUnpG _ _) _ _ _ from ⟨_,rfl,_,_,_,rfl,?_⟩)
  dsimp only
  refine seq_set (.tuple []) (fun q hq=>⟨(Nat.le_of_ble_eq_true rfl),hq⟩) ?_
  refine seq_set .none (fun q hq=>hq) ?_
  refine seq_for (ts:=intsTo fs.length) (fun R h=>⟨_,rfl,_,rfl,((fs.map fldD).length:Int),rfl,by omega,by omega,by rw [hfl]; simpa using h⟩)
    (fun i σ=>∃ s9:Sl,σ=[.val (frmD fs an),.val (.tuple [.str k,.str n,.str v]),.val (.str st),.val (.tuple cs),.val (.str k),.val (.str n),.val (.str v),.val (if j < i then .tuple (f.2.map PyData.str) else .tuple []),.val (if j < i then c0 else .none),s9,.un]) ⟨_,by rw [if_neg (by omega),if_neg (by omega)]; rfl⟩ (fun i x σ' hx hP=>?_) fun σ' hP=>?_
  · obtain ⟨hi,rfl⟩:=intsTo_get hx
    obtain ⟨s9,rfl⟩:=hP
    have hfi:L2.atI (fs.map fldD) (i:Int)=some (fldD fs[i]):=L2.atI_nat (by rw [List.getElem?_map,List.getElem?_eq_getElem hi]; rfl)
    have hci:L2.atI cs (i:Int)=some cs[i]:=L2.atI_nat (List.getElem?_eq_getElem (by omega))
    by_cases hij:i=j
    · subst hij
      have e1:fs[i]=f:=by rw [List.getElem?_eq_getElem hi] at hj; exact Option.some.inj hj
      have e2:cs[i]=c0:=by rw [List.getElem?_eq_getElem (by omega)] at hc0; exact Option.some.inj hc0
      rw [e1] at hfi
      rw [e2] at hci
      refine one_if (fun b=>b=true) (fun q hq=>⟨_,rfl,_,rfl,_,rfl,_,hfi,_,rfl,_,rfl,hq _ (decide_eq_true hfn)⟩) (fun _=>?_) fun hF=>by cases hF
      refine seq_set (.tuple (f.2.map PyData.str)) (fun q hq=>⟨_,rfl,_,rfl,_,rfl,_,hfi,_,rfl,hq⟩) ?_
      refine one_set c0 (fun q hq=>⟨_,rfl,_,rfl,_,hci,hq⟩) ?_
      refine ⟨.val (.int (i:Int)),?_⟩
      rw [if_pos (Nat.lt_succ_self i),if_pos (Nat.lt_succ_self i)]; rfl
    · have hne:¬ fs[i].1=n:=fun e=>hij (by
        have h1:=name_at F (List.getElem?_eq_getElem hi)
        have h2:=name_at F hj
        rw [e] at h1
        rw [hfn] at h2
        omega)
      refine one_if (fun b=>b=false) (fun q hq=>⟨_,rfl,_,rfl,_,rfl,_,hfi,_,rfl,_,rfl,hq _ (decide_eq_false hne)⟩) (fun hT=>by cases hT) fun _=>?_
      try unfold sNext
      dsimp only
      refine ⟨.val (.int (i:Int)),?_⟩
      by_cases hl:j < i
      · rw [if_pos hl,if_pos hl,if_pos (Nat.lt_succ_of_lt hl),if_pos (Nat.lt_succ_of_lt hl)]; rfl
      · rw [if_neg hl,if_neg hl,if_neg (show ¬ j < i + 1 by omega),if_neg (show ¬ j < i + 1 by omega)]; rfl
  · obtain ⟨s9,rfl⟩:=hP
    rw [intsTo_len,if_pos hjl,if_pos hjl]
    rw [sideS_at F hj hc0 hfn] at h
    cases c0 with
    | none =>
      refine seq_if (fun b=>b=true) (fun q hq=>⟨_,rfl,hq _ rfl⟩) (fun _=>⟨_,rfl,h⟩) fun hF=>by cases hF
    | str z =>
      have hz:z ∈ f.2:=of_decide_eq_true hok
      refine seq_if (fun b=>b=false) (fun q hq=>⟨_,rfl,hq _ rfl⟩) (fun hT=>by cases hT) fun _=>?_
      try unfold sNext
      dsimp only
      have x1:=okIx_strs (F.vals hf) hz
      have x2:=okIx_strs (F.vals hf) hv
      refine seq_set (.int ((f.2.idxOf z:Nat) - (f.2.idxOf v:Nat):Int)) (fun q hq=>⟨_,rfl,_,rfl,_,rfl,_,_,rfl,x1,_,rfl,_,rfl,_,rfl,_,_,rfl,x2,hq⟩) ?_
      have hinj:f.2.idxOf z=f.2.idxOf v→z=v:=fun e=>by
        have a1:=List.getElem_idxOf (List.idxOf_lt_length_iff.mpr hz)
        have a2:=List.getElem_idxOf (List.idxOf_lt_length_iff.mpr hv)
        rw [← a1,← a2]
        congr 1
      refine ⟨_,rfl,?_⟩
      show (if decide (((f.2.idxOf z:Nat) - (f.2.idxOf v:Nat):Int)=0)=true then _ else _)
      by_cases e0:f.2.idxOf z=f.2.idxOf v
      · rw [if_pos (decide_eq_true (by omega))]
        have hs:sideOf f k v st (.str z)="yes":=by
          show (if k="is" then (if z=v then ("yes":Str) else "no") else if f.2.idxOf z≤f.2.idxOf v then ("yes":Str) else "no")=_
          rw [if_pos (hinj e0),if_pos (show f.2.idxOf z≤f.2.idxOf v by omega)]
          exact ite_self _
        rw [hs] at h
        exact h
      · rw [if_neg (by rw [decide_eq_false (by omega)]; decide)]
        refine ⟨_,rfl,?_⟩
        show (if decide (k="upto")=true then _ else _)
        have hzv:¬ z=v:=fun e=>e0 (by rw [e])
        rcases hk with rfl | ⟨rfl,_⟩
        · have hs:sideOf f "is" v st (.str z)="no":=by
            show (if ("is":Str)="is" then (if z=v then ("yes":Str) else "no") else if f.2.idxOf z≤f.2.idxOf v then ("yes":Str) else "no")=_
            rw [if_pos rfl,if_neg hzv]
          rw [hs] at h
          rw [if_neg (by decide +kernel)]
          exact h
        · rw [if_pos (by decide +kernel)]
          refine ⟨_,rfl,?_⟩
          have hs:sideOf f "upto" v st (.str z)=if f.2.idxOf z≤f.2.idxOf v then ("yes":Str) else "no":=by
            show (if ("upto":Str)="is" then (if z=v then ("yes":Str) else "no") else if f.2.idxOf z≤f.2.idxOf v then ("yes":Str) else "no")=_
            rw [if_neg (by decide +kernel)]
          rw [hs] at h
          show (if decide (((f.2.idxOf z:Nat) - (f.2.idxOf v:Nat):Int) < 0)=true then _ else _)
          by_cases hl:f.2.idxOf z < f.2.idxOf v
          · rw [if_pos (decide_eq_true (by omega))]
            rw [if_pos (by omega)] at h
            exact h
          · rw [if_neg (by rw [decide_eq_false (by omega)]; decide)]
            rw [if_neg (by omega)] at h
            exact h
    | _=>cases hok

theorem sc_28:FnScope ["_law_form_here","_law_question","_law_stray","_law_rows_here","_law_ones","_law_others","_law_row"] ["_law_form_here","_law_question","_law_stray","_law_rows_here"] (defScope (top 36)):=fsc
set_option maxHeartbeats 4000000 in
theorem ok_28 (T:Txt K mg A)
    (F_27:FnOk P w K mg base CX0 1 A.a_27 A.f_27 ["_law_form_here","_law_question","_law_stray","_law_case_here"] (liftSp K sp_27)):FnOk P w K mg base CX0 2 A.a_28 A.f_28 ["_law_form_here","_law_question","_law_stray","_law_rows_here"] (liftSp K sp_28):=by
  refine fnT T.F_28 sc_28 (fun ds Q h=>by obtain ⟨fs,an,k,n,v,st,rs,rfl,F,hq,hst,hrs,hl,h⟩:=h; rfl) fun cdv Ar outer s H E hr ds Q h=>?_
  obtain ⟨fs,an,k,n,v,st,rs,rfl,F,hq,hst,hrs,hl,h⟩:=h
  have nd:=sc_28.nd
  refine ⟨_,(st_cons (st_own (i:=4) at_nil (fun h=>ps_set (i:=4) nd rfl (by first | exact Or.inl rfl | exact Or.inr rfl) h))
  (st_cons (st_own (i:=5) at_nil (fun h=>ps_set (i:=5) nd rfl (by first | exact Or.inl rfl | exact Or.inr rfl) h))
  (st_cons (st_for (it_val (et_v 3)) (gt_name (pn 6 nd))
  (st_one (st_if (tt_cmp op_eq o_eq (ca F_27 T.m_27 T.k_27 T.d_27 (hr.mono (by decide)) (at_cons (et_v 0) (at_cons (et_v 1) (at_cons (et_v 2) (at_cons (et_ix ix_seq o_ix (et_v 6) et_int) at_nil))))) et_str)
  (st_one (st_app (i:=4) (pv 4) (et_v 6) (pb:=fun h=>ps_expr (pe_bm PySem.F.plainAttrs_list PySem.F.slot_list_append PySem.F.type_list_append mt_append (pv 4) h))))
  (st_one (st_app (i:=5) (pv 5) (et_v 6) (pb:=fun h=>ps_expr (pe_bm PySem.F.plainAttrs_list PySem.F.slot_list_append PySem.F.type_list_append mt_append (pv 5) h)))))) (fun hi hg hb=>ps_for PassesOwn.never rfl hi hg hb))
  (st_share 5 (st_share 4 (st_one (st_ret (et_tup (at_cons (et_v 4) (at_cons (et_v 5) at_nil)))))))))),?_⟩
  show sSeq _ _ _ [.val (frmD fs an),.val (.tuple [.str k,.str n,.str v]),.val (.str st),.val (.list (rs.map rowD)),.un,.un,.un]
  refine seq_own [] (by decide) (fun q hq=>hq) ?_
  refine seq_own [] (by decide) (fun q hq=>hq) ?_
  refine seq_for (ts:=rs.map rowD) (fun R h=>⟨_,rfl,_,rfl,h⟩)
    (fun i σ=>∃ s6:Sl,σ=[.val (frmD fs an),.val (.tuple [.str k,.str n,.str v]),.val (.str st),.val (.list (rs.map rowD)),.own (((rs.take i).filter (onY fs k n v st)).map rowD),.own (((rs.take i).filter fun r=>!onY fs k n v st r).map rowD),s6]) ⟨_,rfl⟩ (fun i x σ' hx hP=>?_) fun σ' hP=>?_
  · obtain ⟨s6,rfl⟩:=hP
    have hi:i < rs.length:=by have:=(List.getElem?_eq_some_iff.mp hx).1; rw [List.length_map] at this; exact this
    have ex:x=rowD rs[i]:=by rw [List.getElem?_map,List.getElem?_eq_getElem hi] at hx; exact (Option.some.inj hx).symm
    subst ex
    have et:rs.take (i + 1)=rs.take i++[rs[i]]:=by rw [List.take_add_one,List.getElem?_eq_getElem hi]; rfl
    have hr:=hrs rs[i] (List.getElem_mem hi)
    have l1:(((rs.take i).filter (onY fs k n v st)).map rowD).length≤60:=by
      rw [List.length_map]
      have:=List.length_filter_le (onY fs k n v st) (rs.take i)
      rw [List.length_take] at this
      omega
    have l2:(((rs.take i).filter fun r=>!onY fs k n v st r).map rowD).length≤60:=by
      rw [List.length_map]
      have:=List.length_filter_le (fun r=>!onY fs k n v st r) (rs.take i)
      rw [List.length_take] at this
      omega
    generalize rs[i]=r at *
    by_cases hy:sideS fs k n v st r.1="yes"
    · have hb:onY fs k n v st r=true:=decide_eq_true hy
      refine one_if (fun b=>b=true) (fun q hq'=>⟨_,rfl,_,rfl,_,rfl,_,rfl,_,rfl,fs,an,k,n,v,st,r.1,rfl,F,hq,hst,hr.1,hq' _ (decide_eq_true hy)⟩) (fun _=>?_) fun hF=>by cases hF
      refine one_app (ts:=((rs.take i).filter (onY fs k n v st)).map rowD) (rowD r) rfl (by omega) (fun q hq=>⟨_,rfl,hq⟩) ?_
      refine ⟨.val (rowD r),?_⟩
      rw [et,List.filter_append,List.filter_append,List.map_append,List.map_append,List.filter_cons (p:=onY fs k n v st),if_pos hb,List.filter_cons (p:=fun r=>!onY fs k n v st r),if_neg (by rw [hb]; decide),List.filter_nil,List.filter_nil,List.map_nil,List.append_nil]
      rfl
    · have hb:onY fs k n v st r=false:=decide_eq_false hy
      refine one_if (fun b=>b=false) (fun q hq'=>⟨_,rfl,_,rfl,_,rfl,_,rfl,_,rfl,fs,an,k,n,v,st,r.1,rfl,F,hq,hst,hr.1,hq' _ (decide_eq_false hy)⟩) (fun hT=>by cases hT) fun _=>?_
      refine one_app (ts:=((rs.take i).filter fun r=>!onY fs k n v st r).map rowD) (rowD r) rfl (by omega) (fun q hq=>⟨_,rfl,hq⟩) ?_
      refine ⟨.val (rowD r),?_⟩
      rw [et,List.filter_append,List.filter_append,List.map_append,List.map_append,List.filter_cons (p:=onY fs k n v st),if_neg (by rw [hb]; decide),List.filter_cons (p:=fun r=>!onY fs k n v st r),if_pos (by rw [hb]; rfl),List.filter_nil,List.filter_nil,List.map_nil,List.append_nil]
      rfl
  · obtain ⟨s6,rfl⟩:=hP
    rw [List.length_map,List.take_length]
    exact ⟨_,rfl,_,rfl,_,rfl,_,rfl,(Nat.le_of_ble_eq_true rfl),h⟩

theorem sc_29:FnScope ["_law_form_here","_law_rows_here","_law_told"] ["_law_form_here","_law_rows_here"] (defScope (top 37)):=fsc
set_option maxHeartbeats 4000000 in
theorem ok_29 (T:Txt K mg A):FnOk P w K mg base CX0 1 A.a_29 A.f_29 ["_law_form_here","_law_rows_here"] (liftSp K sp_29):=by
  refine fnT T.F_29 sc_29 (fun ds Q h=>by obtain ⟨fs,an,rs,rfl,F,hok,hrl,h⟩:=h; rfl) fun cdv Ar outer s H E hr ds Q h=>?_
  obtain ⟨fs,an,rs,rfl,F,hok,hrl,h⟩:=h
  have nd:=sc_29.nd
  refine ⟨_,(st_cons (ss 2 nd (et_lc (fr:=[none]) (N':=["_law_row"]) (it_val (et_v 1)) (fun b=>⟨(gt_name (pn 0 (show List.Nodup (["_law_row"]:List Str) from by decide +kernel))),if_nil,(et_ix ix_seq o_ix (et_v 0) et_int)⟩) (fun hi hY=>pe_lcc (show lcChk _ (defScope (top 37)) ["_law_form_here","_law_rows_here","_law_told"] ["_law_row"] [none]=true from by decide +kernel) rfl hi hY)))
  (st_one (st_ret (et_lc (fr:=[none,some 2]) (N':=["_law_answer","_law_told"]) (it_val (et_ix ix_seq o_ix (et_v 0) et_int)) (fun b=>⟨(gt_name (pn 0 (show List.Nodup (["_law_answer","_law_told"]:List Str) from by decide +kernel))),if_nil,(et_lcount (et_v 1) (at_cons (et_v 0) at_nil) (fun h ha=>pe_bm PySem.F.plainAttrs_list PySem.F.slot_list_count PySem.F.type_list_count (mt_lcount hr) h ha))⟩) (fun hi hY=>pe_lcc (show lcChk _ (defScope (top 37)) ["_law_form_here","_law_rows_here","_law_told"] ["_law_answer","_law_told"] [none,some 2]=true from by decide +kernel) rfl hi hY))))),?_⟩
  show sSeq _ _ _ [.val (frmD fs an),.val (.list (rs.map rowD)),.un]
  have a4:=F.a4
  refine seq_set (.list (rs.map fun r=>PyData.str r.2)) (fun q hq=>?_) ?_
  · refine lcx_map (ts:=rs.map rowD) (fun R h=>⟨_,rfl,_,rfl,h⟩) sndT (by rw [List.length_map]; omega) (fun x q hx hq=>?_) ?_
    · obtain ⟨r,hr,rfl⟩:=List.mem_map.mp hx
      exact ⟨_,rfl,_,rfl,hq⟩
    · rw [List.map_map]; exact hq
  have ll:=lay_strs (ys:=rs.map fun r=>r.2) fun y hy=>by
    obtain ⟨r,hr,rfl⟩:=List.mem_map.mp hy
    exact F.an.2.1 _ (hok r hr).2
  rw [List.map_map] at ll
  refine (lcx_map (ts:=an.map PyData.str) (fun R h=>⟨_,rfl,_,rfl,_,rfl,h⟩) (cntD rs) (by rw [List.length_map]; omega) (fun x q hx hq=>?_) ?_)
  · obtain ⟨a,ha,rfl⟩:=List.mem_map.mp hx
    have hA:=th_name (F.an.2.1 a ha) (n:=8) (m:=0) (Nat.le_refl _)
    refine ⟨_,rfl,_,rfl,_,rfl,_,rfl,⟨ll.1,hA.lay,by have:=hA.depth; omega⟩,?_⟩
    rw [told_count]; exact hq
  · show Q _
    have e:(an.map PyData.str).map (cntD rs)=(cnts an rs).map PyData.int:=by
      unfold cnts
      rw [List.map_map,List.map_map]; rfl
    rw [e]; exact h

theorem sc_30:FnScope ["_law_form_here","_law_rows_here","_law_counts_here"] ["_law_form_here","_law_rows_here"] (defScope (top 38)):=fsc
set_option maxHeartbeats 4000000 in
theorem ok_30 (T:Txt K mg A)
    (F_29:FnOk P w K mg base CX0 1 A.a_29 A.f_29 ["_law_form_here","_law_rows_here"] (liftSp K sp_29)):FnOk P w K mg base CX0 2 A.a_30 A.f_30 ["_law_form_here","_law_rows_here"] (liftSp K sp_30):=by
  refine fnT T.F_30 sc_30 (fun ds Q h=>by obtain ⟨fs,an,rs,rfl,F,hok,hrl,h⟩:=h; rfl) fun cdv Ar outer s H E hr ds Q h=>?_
  obtain ⟨fs,an,rs,rfl,F,hok,hrl,h⟩:=h
  have nd:=sc_30.nd
  refine ⟨_,(st_cons (ss 2 nd (ca F_29 T.m_29 T.k_29 T.d_29 (hr.mono (by decide)) (at_cons (et_v 0) (at_cons (et_v 1) at_nil))))
  (st_one (st_ret (et_ix ix_seq o_ix (et_ix ix_seq o_ix (et_v 0) et_int) (et_lindex (et_v 2) (at_cons (et_cb c_max (at_cons (et_v 2) at_nil) (fun h=>pe_callB (call_max_ints rfl) rfl T.b_max bl_max h)) at_nil) (fun h ha=>pe_bm PySem.F.plainAttrs_list PySem.F.slot_list_index PySem.F.type_list_index (mt_lindex hr) h ha)))))),?_⟩
  show sSeq _ _ _ [.val (frmD fs an),.val (.list (rs.map rowD)),.un]
  have a2:=F.a2
  refine seq_set (.list ((cnts an rs).map PyData.int)) (fun q hq=>⟨_,rfl,_,rfl,fs,an,rs,rfl,F,hok,hrl,hq⟩) ?_
  have hne:cnts an rs ≠ []:=fun z=>by
    have:=congrArg List.length z
    unfold cnts at this
    rw [List.length_map] at this
    simp at this
    rw [this] at a2
    simp at a2
  refine ⟨_,rfl,_,rfl,_,rfl,_,rfl,_,rfl,_,rfl,hne,fun m hm hmax=>?_⟩
  obtain ⟨j,hj,hno⟩:=first_of (cnts an rs) m hm
  have hjl:=(List.getElem?_eq_some_iff.mp hj).1
  have hal:(cnts an rs).length=an.length:=by unfold cnts; rw [List.length_map]
  have a4:=F.a4
  have haj:an[j]?=some an[j]:=List.getElem?_eq_getElem (by omega)
  have hcj:(cnts an rs)[j]?=some ((cnt rs an[j]:Nat):Int):=by unfold cnts; rw [List.getElem?_map,haj]; rfl
  rw [hj] at hcj
  have em:m=((cnt rs an[j]:Nat):Int):=Option.some.inj hcj
  refine ⟨_,j,rfl,okIx_ints hj hno,by omega,_,L2.atI_nat (by rw [List.getElem?_map,haj]; rfl),h _ ⟨j,haj,fun i b hb=>?_,fun i b hi hb=>?_⟩⟩
  · have:=hmax ((cnt rs b:Nat):Int) (List.mem_of_getElem? (i:=i) (by unfold cnts; rw [List.getElem?_map,hb]; rfl))
    omega
  · have hcb:(cnts an rs)[i]?=some ((cnt rs b:Nat):Int):=by unfold cnts; rw [List.getElem?_map,hb]; rfl
    have h1:=hmax _ (List.mem_of_getElem? hcb)
    have h2:((cnt rs b:Nat):Int) ≠ m:=fun z=>hno i hi (by rw [hcb,z])
    omega

theorem sc_31:FnScope ["_law_tree"] ["_law_tree"] (defScope (top 39)):=fsc
set_option maxHeartbeats 4000000 in
theorem step_31 (dd:Nat) (T:Txt K mg A)
    (F_31:FnOk P w K mg base CX0 (0 + dd) A.a_31 A.f_31 ["_law_tree"] (liftSp K (sp_31_lt dd))):FnOk P w K mg base CX0 (0 + dd + 1) A.a_31 A.f_31 ["_law_tree"] (liftSp K (sp_31_lt (dd + 1))):=by
  refine fnT T.F_31 sc_31 (fun ds Q h=>by obtain ⟨t,rfl,hk,hd,h⟩:=h; rfl) fun cdv Ar outer s H E hr ds Q h=>?_
  obtain ⟨t,rfl,hk,hd,h⟩:=h
  have nd:=sc_31.nd
  refine ⟨_,(st_cons (st_if (tt_cmp op_eq o_eq (et_ix ix_seq o_ix (et_v 0) et_int) et_str)
  (st_one (st_ret et_int))
  st_nil)
  (st_one (st_ret (et_op op_addAny o_add (et_op op_addAny o_add et_int (ca F_31 T.m_31 T.k_31 T.d_31 (hr.mono (by omega)) (at_cons (et_ix ix_seq o_ix (et_v 0) et_int) at_nil))) (ca F_31 T.m_31 T.k_31 T.d_31 (hr.mono (by omega)) (at_cons (et_ix ix_seq o_ix (et_v 0) et_int) at_nil)))))),?_⟩
  show sSeq _ _ _ [.val (trD t)]
  cases t with
  | say a=>exact seq_if (fun b=>b=true) (fun q hq=>⟨_,rfl,_,rfl,hq _ (by decide +kernel)⟩) (fun _=>h) fun hF=>by cases hF
  | ask k n v s y m =>
    have e1:(Tr.ask k n v s y m).dep=max y.dep m.dep + 1:=rfl
    have e2:(Tr.ask k n v s y m).kn=y.kn + m.kn + 1:=rfl
    rw [e1] at hd
    rw [e2] at hk
    refine seq_if (fun b=>b=false) (fun q hq=>⟨_,rfl,_,rfl,hq _ (by decide +kernel)⟩) (fun hT=>by cases hT) fun _=>?_
    try unfold sNext
    dsimp only
    refine ⟨_,rfl,_,rfl,y,rfl,by omega,by omega,_,rfl,_,rfl,m,rfl,by omega,by omega,?_⟩
    have e3:(1:Int) + (y.kn:Int) + (m.kn:Int)=(((Tr.ask k n v s y m).kn:Nat):Int):=by
      rw [e2]; omega
    show Q (.int (1 + (y.kn:Int) + (m.kn:Int)))
    rw [e3]; exact h

theorem ok_31 (T:Txt K mg A):FnOk P w K mg base CX0 7 A.a_31 A.f_31 ["_law_tree"] (liftSp K sp_31):=by
  have h:∀ dd:Nat,FnOk P w K mg base CX0 (0 + dd) A.a_31 A.f_31 ["_law_tree"] (liftSp K (sp_31_lt dd)):=fun dd=>by
    induction dd with
    | zero=>exact fn_imp fn_never fun ds Q h=>never_31 h
    | succ dd ih=>exact step_31 dd T ih
  exact h 7
theorem sc_32:FnScope ["_law_form_here","_law_tree","_law_rows_here","_law_ones","_law_others"] ["_law_form_here","_law_tree","_law_rows_here"] (defScope (top 40)):=fsc
set_option maxHeartbeats 4000000 in
theorem step_32 (dd:Nat) (T:Txt K mg A)
    (F_28:FnOk P w K mg base CX0 2 A.a_28 A.f_28 ["_law_form_here","_law_question","_law_stray","_law_rows_here"] (liftSp K sp_28))
    (F_32:FnOk P w K mg base CX0 (2 + dd) A.a_32 A.f_32 ["_law_form_here","_law_tree","_law_rows_here"] (liftSp K (sp_32_lt dd))):FnOk P w K mg base CX0 (2 + dd + 1) A.a_32 A.f_32 ["_law_form_here","_law_tree","_law_rows_here"] (liftSp K (sp_32_lt (dd + 1))):=by
  refine fnT T.F_32 sc_32 (fun ds Q h=>by obtain ⟨fs,an,t,rs,rfl,F,ht,hd,hrs,hl,h⟩:=h; rfl) fun cdv Ar outer s H E hr ds Q h=>?_
  obtain ⟨fs,an,t,rs,rfl,F,ht,hd,hrs,hl,h⟩:=h
  have nd:=sc_32.nd
  refine ⟨_,(st_cons (st_if (tt_cmp op_eq o_eq (et_ix ix_seq o_ix (et_v 1) et_int) et_str)
  (st_one (st_ret (et_cb c_len (at_cons (et_lc (fr:=[none,some 1]) (N':=["_law_row","_law_tree"]) (it_val (et_v 2)) (fun b=>⟨(gt_name (pn 0 (show List.Nodup (["_law_row","_law_tree"]:List Str) from by decide +kernel))),(if_one (tt_cmp op_ne o_ne (et_ix ix_seq o_ix (et_v 0) et_int) (et_ix ix_seq o_ix (et_v 1) et_int))),(et_v 0)⟩) (fun hi hY=>pe_lcc (show lcChk _ (defScope (top 40)) ["_law_form_here","_law_tree","_law_rows_here","_law_ones","_law_others"] ["_law_row","_law_tree"] [none,some 1]=true from by decide +kernel) rfl hi hY)) at_nil) (fun h=>pe_callB call_lenAny rfl T.b_len bl_len h))))
  st_nil)
  (st_cons (st_unp (g:=fun _ _ _ _=>True) (ca F_28 T.m_28 T.k_28 T.d_28 (hr.mono (by omega)) (at_cons (et_v 0) (at_cons (et_ix ix_seq o_ix (et_v 1) et_int) (at_cons (et_ix ix_seq o_ix (et_v 1) et_int) (at_cons (et_v 2) at_nil))))) (gt_pair (pg_tup rfl (pgs_cons (pn 3 nd) (pgs_cons (pn 4 nd) pgs_nil)))) (fun he hg=>ps_asg he hg))
  (st_one (st_ret (et_op op_addAny o_add (ca F_32 T.m_32 T.k_32 T.d_32 (hr.mono (by omega)) (at_cons (et_v 0) (at_cons (et_ix ix_seq o_ix (et_v 1) et_int) (at_cons (et_v 3) at_nil)))) (ca F_32 T.m_32 T.k_32 T.d_32 (hr.mono (by omega)) (at_cons (et_v 0) (at_cons (et_ix ix_seq o_ix (et_v 1) et_int) (at_cons (et_v 4) at_nil))))))))),?_⟩
  show sSeq _ _ _ [.val (frmD fs an),.val (trD t),.val (.list (rs.map rowD)),.un,.un]
  cases t with
  | say a =>
    refine seq_if (fun b=>b=true) (fun q hq=>⟨_,rfl,_,rfl,hq _ (by decide +kernel)⟩) (fun _=>?_) fun hF=>by cases hF
    show eCall (f1 gLen) _ _ _
    dsimp only [eCall,aCons,aNil]
    refine lcx_filt (ts:=rs.map rowD) (fun R h=>⟨_,rfl,_,rfl,h⟩) (fun x=>match x with | .tuple [_,.str b]=>!decide (b=a) | _=>false) id (by rw [List.length_map]; omega) (fun x q hx hq=>?_) (fun x q hx hq=>⟨_,rfl,hq⟩) ?_
    · obtain ⟨r,hr,rfl⟩:=List.mem_map.mp hx
      exact ⟨_,rfl,_,rfl,_,rfl,_,rfl,hq⟩
    · rw [List.map_id,List.filter_map]
      show Q (.int ((List.map rowD _).length:Nat))
      rw [List.length_map]
      have e:slipN fs (.say a) rs=(rs.filter ((fun x:D=>match x with | .tuple [_,.str b]=>!decide (b=a) | _=>false) ∘ rowD)).length:=by
        unfold slipN
        congr 1
        refine List.filter_congr fun r _=>?_
        show (!decide (a=r.2))=(!decide (r.2=a))
        congr 1
        rw [decide_eq_decide]
        exact eq_comm
      rw [e] at h
      exact h
  | ask k n v s y m =>
    have e1:(Tr.ask k n v s y m).dep=max y.dep m.dep + 1:=rfl
    rw [e1] at hd
    obtain ⟨hq,hs,hy,hm⟩:=ht
    refine seq_if (fun b=>b=false) (fun q hq=>⟨_,rfl,_,rfl,hq _ (by decide +kernel)⟩) (fun hT=>by cases hT) fun _=>?_
    try unfold sNext
    dsimp only
    refine seq_unp (a:=.list ((rs.filter (onY fs k n v s)).map rowD)) (b:=.list ((rs.filter fun r=>!onY fs k n v s r).map rowD)) (fun q hq'=>⟨_,rfl,_,rfl,_,rfl,_,rfl,_,rfl,_,rfl,fs,an,k,n,v,s,rs,rfl,F,hq,hs,hrs,hl,hq'⟩) ?_
    have l1:=List.length_filter_le (onY fs k n v s) rs
    have l2:=List.length_filter_le (fun r=>!onY fs k n v s r) rs
    refine ⟨_,rfl,_,rfl,_,rfl,_,rfl,fs,an,y,_,rfl,F,hy,by omega,hrs.filt _,by omega,_,rfl,_,rfl,_,rfl,_,rfl,fs,an,m,_,rfl,F,hm,by omega,hrs.filt _,by omega,?_⟩
    rw [slip_ask] at h
    exact h

theorem ok_32 (T:Txt K mg A)
    (F_28:FnOk P w K mg base CX0 2 A.a_28 A.f_28 ["_law_form_here","_law_question","_law_stray","_law_rows_here"] (liftSp K sp_28)):FnOk P w K mg base CX0 9 A.a_32 A.f_32 ["_law_form_here","_law_tree","_law_rows_here"] (liftSp K sp_32):=by
  have h:∀ dd:Nat,FnOk P w K mg base CX0 (2 + dd) A.a_32 A.f_32 ["_law_form_here","_law_tree","_law_rows_here"] (liftSp K (sp_32_lt dd)):=fun dd=>by
    induction dd with
    | zero=>exact fn_imp fn_never fun ds Q h=>never_32 h
    | succ dd ih=>exact step_32 dd T F_28 ih
  exact h 7
theorem sc_33:FnScope ["_law_tape_here","_law_some"] ["_law_tape_here"] (defScope (top 41)):=fsc
set_option maxHeartbeats 4000000 in
theorem ok_33 (T:Txt K mg A)
    (F_21:FnOk P w K mg base CX0 1 A.a_21 A.f_21 ["_law_tape_here","_law_many"] (liftSpC K sp_21)):FnOk P w K mg base CX0 2 A.a_33 A.f_33 ["_law_tape_here"] (liftSpC K sp_33):=by
  refine fnC T.F_33 sc_33 (fun τ n ds Q h=>by obtain ⟨rfl,hc,h⟩:=h; rfl) fun cdv Ar outer s H E hr Tp c ds Q hdig h=>?_
  obtain ⟨rfl,hc,h⟩:=h
  have nd:=sc_33.nd
  refine ⟨_,(sc_cons (sc_p (st_setN (i:=1) nd rfl (by first | exact Or.inl rfl | exact Or.inr rfl) (et_lst (at_cons (et_tup (at_cons et_int (at_cons et_int at_nil))) (at_cons (et_tup (at_cons et_int (at_cons et_int at_nil))) (at_cons (et_tup (at_cons et_int (at_cons et_int at_nil))) (at_cons (et_tup (at_cons et_int (at_cons et_int at_nil))) (at_cons (et_tup (at_cons et_int (at_cons et_int at_nil))) (at_cons (et_tup (at_cons et_int (at_cons et_int at_nil))) (at_cons (et_tup (at_cons (et_op op_pow o_I et_int et_int) (at_cons et_int at_nil))) (at_cons (et_tup (at_cons et_int (at_cons (et_op op_pow o_I et_int et_int) at_nil))) at_nil)))))))))))
  (sc_cons (sc_set (i:=1) (ec_op op_addAny o_add (ec_p (et_v 1)) (ec_lst (ac_cons (ec_tup (ac_cons (ec_call F_21 T.m_21 T.k_21 T.d_21 (hr.mono (by decide)) (ac_cons (ec_p (et_v 0)) (ac_cons (ec_p et_int) ac_nil)) (fun h=>pe_call F_21 (hr.mono (by decide)) rfl T.m_21 T.k_21 T.d_21 .nil pass0 h)) (ac_cons (ec_call F_21 T.m_21 T.k_21 T.d_21 (hr.mono (by decide)) (ac_cons (ec_p (et_v 0)) (ac_cons (ec_p et_int) ac_nil)) (fun h=>pe_call F_21 (hr.mono (by decide)) rfl T.m_21 T.k_21 T.d_21 .nil pass0 h)) ac_nil))) (ac_cons (ec_p (et_tup (at_cons et_int (at_cons et_int at_nil)))) ac_nil)))) (fun h=>ps_set (i:=1) nd rfl (by first | exact Or.inl rfl | exact Or.inr rfl) h))
  (sc_one (sc_ret (ec_ix ix_seq o_ix (ec_p (et_v 1)) (ec_call F_21 T.m_21 T.k_21 T.d_21 (hr.mono (by decide)) (ac_cons (ec_p (et_v 0)) (ac_cons (ec_p et_int) ac_nil)) (fun h=>pe_call F_21 (hr.mono (by decide)) rfl T.m_21 T.k_21 T.d_21 .nil pass0 h))))))),?_⟩
  show cSeq _ _ _ _ _ [.val (tpD Tp),.un]
  have pw:CPow 10 6:=by unfold CPow; decide
  refine cq_pure (seq_set (.list ([(1,0),(0,1),(3,1),(1,1),(2,3),(0,0),(10 ^ 6,1),(1,10 ^ 6)].map fun p:Int × Int=>.tuple [.int p.1,.int p.2])) (fun q hq=>⟨(Nat.le_of_ble_eq_true rfl),(Nat.le_of_ble_eq_true rfl),(Nat.le_of_ble_eq_true rfl),(Nat.le_of_ble_eq_true rfl),(Nat.le_of_ble_eq_true rfl),(Nat.le_of_ble_eq_true rfl),pw,(Nat.le_of_ble_eq_true rfl),pw,(Nat.le_of_ble_eq_true rfl),(Nat.le_of_ble_eq_true rfl),hq⟩) ?_)
  refine cq_setR (fun n1 d=>n1=c + 2∧∃ ps:List (Int × Int),ps.length=10∧(∀ p ∈ ps,(0≤p.1∧p.1≤1000000)∧0≤p.2∧p.2≤1000000)∧d=.list (ps.map fun p:Int × Int=>.tuple [.int p.1,.int p.2])) (fun q hq=>⟨_,rfl,_,rfl,_,rfl,12,rfl,by decide,by decide,by omega,fun r h0 h1=>⟨_,rfl,_,rfl,6,rfl,by decide,by decide,by omega,fun s g0 g1=>⟨(Nat.le_of_ble_eq_true rfl),(Nat.le_of_ble_eq_true rfl),(Nat.le_of_ble_eq_true rfl),(Nat.le_of_ble_eq_true rfl),hq _ _ ⟨rfl,[(1,0),(0,1),(3,1),(1,1),(2,3),(0,0),(10 ^ 6,1),(1,10 ^ 6),(r,s),(7,2)],rfl,fun p hp=>?_,rfl⟩⟩⟩⟩) ?_
  · simp only [List.mem_cons,List.not_mem_nil,or_false] at hp
    rcases hp with rfl | rfl | rfl | rfl | rfl | rfl | rfl | rfl | rfl | rfl <;> (refine ⟨⟨?_,?_⟩,?_,?_⟩ <;> first | decide | (show (0:Int)≤r; exact h0) | (show r≤1000000; omega) | (show (0:Int)≤s; exact g0) | (show s≤1000000; omega))
  rintro c1 _ ⟨hc1,ps,hl,hp,rfl⟩
  refine ⟨_,rfl,_,rfl,_,rfl,10,rfl,by decide,by decide,by omega,fun r h0 h1=>?_⟩
  obtain ⟨d,hdm,hda,_⟩:=atI_in (xs:=ps.map fun p:Int × Int=>PyData.tuple [.int p.1,.int p.2]) (i:=r) h0 (by rw [List.length_map,hl]; exact h1)
  obtain ⟨p,hpm,rfl⟩:=List.mem_map.mp hdm
  exact ⟨_,hda,h _ p.1 p.2 (by omega) (hp p hpm).1.1 (hp p hpm).1.2 (hp p hpm).2.1 (hp p hpm).2.2⟩

theorem sc_34:FnScope ["_law_form_here","_law_rows_here","_law_deep","_law_prices_here","_law_costs","_law_question","_law_stray","_law_ones","_law_others","_law_one"] ["_law_form_here","_law_rows_here","_law_deep","_law_prices_here"] (defScope (top 42)):=fsc
set_option maxHeartbeats 4000000 in
theorem step_34 (dd:Nat) (T:Txt K mg A)
    (F_28:FnOk P w K mg base CX0 2 A.a_28 A.f_28 ["_law_form_here","_law_question","_law_stray","_law_rows_here"] (liftSp K sp_28))
    (F_26:FnOk P w K mg base CX0 1 A.a_26 A.f_26 ["_law_form_here"] (liftSp K sp_26))
    (F_34:FnOk P w K mg base CX0 (2 + dd) A.a_34 A.f_34 ["_law_form_here","_law_rows_here","_law_deep","_law_prices_here"] (liftSp K (sp_34_lt dd))):FnOk P w K mg base CX0 (2 + dd + 1) A.a_34 A.f_34 ["_law_form_here","_law_rows_here","_law_deep","_law_prices_here"] (liftSp K (sp_34_lt (dd + 1))):=by
  refine fnT T.F_34 sc_34 (fun ds Q h=>by obtain ⟨fs,an,fa,rs,a,b,e,rfl,S,hdn,hd2,h⟩:=h; rfl) fun cdv Ar outer s H E hr ds Q h=>?_
  obtain ⟨fs,an,fa,rs,a,b,e,rfl,S,hdn,hd2,h⟩:=h
  have nd:=sc_34.nd
  refine ⟨_,(st_cons (st_setlcF (i:=4) (fr:=[none,some 3,some 1]) (N':=["_law_answer","_law_prices_here","_law_rows_here"]) (it_val (et_ix ix_seq o_ix (et_v 0) et_int)) (fun b=>⟨(gt_name (pn 0 (show List.Nodup (["_law_answer","_law_prices_here","_law_rows_here"]:List Str) from by decide +kernel))),if_nil,(et_op op_mulAny o_mul (et_ix ix_seq o_ix (et_v 1) et_int) (et_cb c_len (at_cons (et_lc (fr:=[none,some 0]) (N':=["_law_row","_law_answer"]) (it_val (et_v 2)) (fun b=>⟨(gt_name (pn 0 (show List.Nodup (["_law_row","_law_answer"]:List Str) from by decide +kernel))),(if_one (tt_cmp op_ne o_ne (et_ix ix_seq o_ix (et_v 0) et_int) (et_v 1))),(et_v 0)⟩) (fun hi hY=>pe_lcc (show lcChk _ (relab _ (defScope (top 42))) ["_law_answer","_law_prices_here","_law_rows_here"] ["_law_row","_law_answer"] [none,some 0]=true from by decide +kernel) rfl hi hY)) at_nil) (fun h=>pe_callB call_lenAny rfl T.b_len bl_len h)))⟩) (fun hi hY=>ps_setlcc (show lcChk _ (defScope (top 42)) ["_law_form_here","_law_rows_here","_law_deep","_law_prices_here","_law_costs","_law_question","_law_stray","_law_ones","_law_others","_law_one"] ["_law_answer","_law_prices_here","_law_rows_here"] [none,some 3,some 1]=true from by decide +kernel) nd rfl (by first | exact Or.inl rfl | exact Or.inr rfl) rfl hi hY rfl))
  (st_cons (st_if (tt_cmp op_gt o_B0 (et_v 2) et_int)
  (st_one (st_for (it_val (ca F_26 T.m_26 T.k_26 T.d_26 (hr.mono (by omega)) (at_cons (et_v 0) at_nil))) (gt_name (pn 5 nd))
  (st_one (st_for (it_val (et_tup (at_cons et_str (at_cons et_str at_nil)))) (gt_name (pn 6 nd))
  (st_cons (st_unp (g:=fun _ _ _ _=>True) (ca F_28 T.m_28 T.k_28 T.d_28 (hr.mono (by omega)) (at_cons (et_v 0) (at_cons (et_v 5) (at_cons (et_v 6) (at_cons (et_v 1) at_nil))))) (gt_pair (pg_tup rfl (pgs_cons (pn 7 nd) (pgs_cons (pn 8 nd) pgs_nil)))) (fun he hg=>ps_asg he hg))
  (st_cons (ss 9 nd (ca F_34 T.m_34 T.k_34 T.d_34 (hr.mono (by omega)) (at_cons (et_v 0) (at_cons (et_v 7) (at_cons (et_op op_sub o_I0 (et_v 2) et_int) (at_cons (et_v 3) at_nil))))))
  (st_one (st_app (i:=4) (pv 4) (et_op op_addAny o_add (et_op op_addAny o_add (et_ix ix_seq o_ix (et_v 3) et_int) (et_v 9)) (ca F_34 T.m_34 T.k_34 T.d_34 (hr.mono (by omega)) (at_cons (et_v 0) (at_cons (et_v 8) (at_cons (et_op op_sub o_I0 (et_v 2) et_int) (at_cons (et_v 3) at_nil)))))) (pb:=fun h=>ps_expr (pe_bm PySem.F.plainAttrs_list PySem.F.slot_list_append PySem.F.type_list_append mt_append (pv 4) h)))))) (fun hi hg hb=>ps_for PassesOwn.never rfl hi hg hb))) (fun hi hg hb=>ps_for PassesOwn.never rfl hi hg hb)))
  st_nil)
  (st_share 4 (st_one (st_ret (et_cb c_min (at_cons (et_v 4) at_nil) (fun h=>pe_callB (call_min_ints rfl) rfl T.b_min bl_min h))))))),?_⟩
  show sSeq _ _ _ [.val (frmD fs an),.val (.list (rs.map rowD)),.val (.int (e:Nat)),.val (.tuple [.int a,.int b]),.un,.un,.un,.un,.un,.un]
  have hl:=S.l
  have a0:=S.a0
  have a1:=S.a1
  have a4:=S.F.a4
  have a2:=S.F.a2
  have n5:=S.F.n5
  have hcl:=choose_len S.F fs fun g hg=>hg
  have hql:(qs fs).length=(toChoose fs).length:=by rw [← qs_data,List.length_map]
  have hf:=S.fa rs S.R
  refine seq_setF ((an.map fun z=>a * ((othN rs z:Nat):Int)).map PyData.int) (fun q hq=>fLc_of ?_) ?_
  · refine lcx_map (ts:=an.map PyData.str) (fun R h=>⟨_,rfl,_,rfl,_,rfl,h⟩) (fun x=>match x with | .str z=>.int (a * ((othN rs z:Nat):Int)) | _=>.none) (by rw [List.length_map]; omega) (fun x q' hx hq'=>?_) ?_
    · obtain ⟨z,hz,rfl⟩:=List.mem_map.mp hx
      refine ⟨_,rfl,_,rfl,?_⟩
      dsimp only [eCall,aCons,aNil]
      refine lcx_filt (ts:=rs.map rowD) (fun R h=>⟨_,rfl,_,rfl,h⟩) (fun x=>match x with | .tuple [_,.str b]=>!decide (b=z) | _=>false) id (by rw [List.length_map]; omega) (fun x q hx hq=>?_) (fun x q hx hq=>⟨_,rfl,hq⟩) ?_
      · obtain ⟨r,hr,rfl⟩:=List.mem_map.mp hx
        exact ⟨_,rfl,_,rfl,_,rfl,hq⟩
      · rw [List.map_id,List.filter_map]
        have e:(((rs.filter ((fun x:D=>match x with | .tuple [_,.str b]=>!decide (b=z) | _=>false) ∘ rowD)).map rowD).length:Int)=((othN rs z:Nat):Int):=by rw [List.length_map]; rfl
        show fMul (.int a) (.int (((rs.filter ((fun x:D=>match x with | .tuple [_,.str b]=>!decide (b=z) | _=>false) ∘ rowD)).map rowD).length:Int)) q'
        rw [e]
        have:=oth_cnt rs z
        exact ⟨.inl ⟨by omega,by omega⟩,hq'⟩
    · rw [List.map_map] at hq ⊢
      exact hq
  refine seq_if (fun t=>t=decide ((0:Int) < (e:Int))) (fun q hq=>⟨_,rfl,hq _ rfl⟩) (fun ht=>?_) fun hf'=>?_
  · obtain ⟨d,rfl⟩:∃ d,e=d + 1:=⟨e - 1,by have:=of_decide_eq_true ht.symm; omega⟩
    have ed:(((d + 1:Nat):Int) - 1)=((d:Nat):Int):=by omega
    have key:∀ R:List Rw,[frmD fs an,PyData.list (R.map rowD),PyData.int (((d + 1:Nat):Int) - 1),.tuple [.int a,.int b]]=[frmD fs an,PyData.list (R.map rowD),.int (d:Nat),.tuple [.int a,.int b]]:=fun R=>by rw [ed]
    have hCl:∀ l:List Ch,((an.map fun z=>a * ((othN rs z:Nat):Int))++l.map (cC fs fa a b d rs)).length=an.length + l.length:=fun l=>by rw [List.length_append,List.length_map,List.length_map]
    refine forx (ts:=(qs fs).map qD) (fun R h=>⟨_,rfl,fs,an,rfl,S.F,_,rfl,h⟩)
      (fun k σ=>∃ s5 s6 s7 s8 s9:Sl,σ=[.val (frmD fs an),.val (.list (rs.map rowD)),.val (.int ((d + 1:Nat):Int)),.val (.tuple [.int a,.int b]),.own (((an.map fun z=>a * ((othN rs z:Nat):Int))++(((qs fs).take k).flatMap twoC).map (cC fs fa a b d rs)).map PyData.int),s5,s6,s7,s8,s9]) ⟨.un,.un,.un,.un,.un,by simp⟩ (fun k x σ' hx hP=>?_) fun σ' hP=>?_
    · obtain ⟨s5,s6,s7,s8,s9,rfl⟩:=hP
      rw [List.getElem?_map] at hx
      obtain ⟨q0,hqk,rfl⟩:=Option.map_eq_some_iff.mp hx
      have hqm:q0 ∈ qs fs:=List.mem_of_getElem? hqk
      have hfl:(((qs fs).take k).flatMap twoC).length≤100:=by
        have hkl:((qs fs).take k).length≤50:=by rw [List.length_take]; omega
        have:∀ l:List Qn,(l.flatMap twoC).length=2 * l.length:=fun l=>by
          induction l with
          | nil=>rfl
          | cons x l ih=>rw [List.flatMap_cons,List.length_append,ih]; show 2 + _=2 * (l.length + 1); omega
        rw [this]; omega
      generalize hL:((qs fs).take k).flatMap twoC=L at hfl ⊢
      refine forx (ts:=[.str "yes",.str "no"]) (fun R h=>⟨(Nat.le_of_ble_eq_true rfl),_,rfl,h⟩)
        (fun i σ=>∃ s6 s7 s8 s9:Sl,σ=[.val (frmD fs an),.val (.list (rs.map rowD)),.val (.int ((d + 1:Nat):Int)),.val (.tuple [.int a,.int b]),.own (((an.map fun z=>a * ((othN rs z:Nat):Int))++(L++(twoC q0).take i).map (cC fs fa a b d rs)).map PyData.int),.val (qD q0),s6,s7,s8,s9]) ⟨s6,s7,s8,s9,by simp⟩ (fun i x σ' hx hP=>?_) fun σ' hP=>?_
      · obtain ⟨s6,s7,s8,s9,rfl⟩:=hP
        have hi:i < 2:=(List.getElem?_eq_some_iff.mp hx).1
        obtain ⟨st,hst,htk,rfl⟩:∃ st:Str,(st="yes" ∨ st="no")∧(twoC q0)[i]?=some (q0,st)∧x=.str st:=by
          rcases (show i=0 ∨ i=1 by omega) with rfl | rfl
          · cases hx; exact ⟨"yes",.inl rfl,rfl,rfl⟩
          · cases hx; exact ⟨"no",.inr rfl,rfl,rfl⟩
        have htl:((twoC q0).take i).length≤2:=by rw [List.length_take]; show min i 2≤2; omega
        refine seq_unp (a:=.list ((yR fs (q0,st) rs).map rowD)) (b:=.list ((nR fs (q0,st) rs).map rowD)) (fun q hq'=>⟨_,rfl,_,rfl,_,rfl,_,rfl,fs,an,q0.1,q0.2.1,q0.2.2,st,rs,rfl,S.F,qs_isQ hqm,hst,S.R,S.l,hq'⟩) ?_
        refine seq_set (.int (best fs fa a b d (yR fs (q0,st) rs)).1) (fun q hq'=>⟨_,rfl,_,rfl,_,rfl,_,rfl,fs,an,fa,yR fs (q0,st) rs,a,b,d,key _,S.filt _,by omega,by omega,hq'⟩) ?_
        refine one_app (.int (cC fs fa a b d rs (q0,st))) rfl (by rw [List.length_map,hCl,List.length_append]; omega) (fun q hq'=>⟨_,rfl,_,rfl,_,rfl,_,rfl,_,rfl,_,rfl,_,rfl,fs,an,fa,nR fs (q0,st) rs,a,b,d,key _,S.filt _,by omega,by omega,hq'⟩) ⟨.val (.str st),.val (.list ((yR fs (q0,st) rs).map rowD)),.val (.list ((nR fs (q0,st) rs).map rowD)),.val (.int (best fs fa a b d (yR fs (q0,st) rs)).1),?_⟩
        rw [List.take_add_one,htk]
        show _=[_,_,_,_,Sl.own (((an.map fun z=>a * ((othN rs z:Nat):Int))++(L++((twoC q0).take i++[(q0,st)])).map (cC fs fa a b d rs)).map PyData.int),_,_,_,_,_]
        rw [← List.append_assoc,List.map_append (l₁:=L++_),← List.append_assoc,List.map_append (l₁:=_++_)]; rfl
      · obtain ⟨s6,s7,s8,s9,rfl⟩:=hP
        refine ⟨.val (qD q0),s6,s7,s8,s9,?_⟩
        rw [List.take_add_one,hqk]
        show _=[_,_,_,_,Sl.own (((an.map fun z=>a * ((othN rs z:Nat):Int))++(((qs fs).take k++[q0]).flatMap twoC).map (cC fs fa a b d rs)).map PyData.int),_,_,_,_,_]
        rw [List.flatMap_append,hL]; rfl
    · obtain ⟨s5,s6,s7,s8,s9,rfl⟩:=hP
      rw [List.length_map,List.take_length]
      refine ⟨_,rfl,_,rfl,(an.map fun z=>a * ((othN rs z:Nat):Int))++(chs fs).map (cC fs fa a b d rs),rfl,?_,fun m hm hx=>?_⟩
      · intro z
        have:=congrArg List.length z
        rw [hCl,List.length_nil] at this
        omega
      · rw [best_min hf a0 S.b0 d hm hx]; exact h
  · obtain rfl:e=0:=by have:=of_decide_eq_false hf'.symm; omega
    refine ⟨_,rfl,_,rfl,(an.map fun z=>a * ((othN rs z:Nat):Int)),rfl,?_,fun m hm hx=>?_⟩
    · intro z
      have:=congrArg List.length z
      rw [List.length_map,List.length_nil] at this
      omega
    · rw [best_min0 (b:=b) hf a0 hm hx]; exact h

theorem ok_34 (T:Txt K mg A)
    (F_28:FnOk P w K mg base CX0 2 A.a_28 A.f_28 ["_law_form_here","_law_question","_law_stray","_law_rows_here"] (liftSp K sp_28))
    (F_26:FnOk P w K mg base CX0 1 A.a_26 A.f_26 ["_law_form_here"] (liftSp K sp_26)):FnOk P w K mg base CX0 5 A.a_34 A.f_34 ["_law_form_here","_law_rows_here","_law_deep","_law_prices_here"] (liftSp K sp_34):=by
  have h:∀ dd:Nat,FnOk P w K mg base CX0 (2 + dd) A.a_34 A.f_34 ["_law_form_here","_law_rows_here","_law_deep","_law_prices_here"] (liftSp K (sp_34_lt dd)):=fun dd=>by
    induction dd with
    | zero=>exact fn_imp fn_never fun ds Q h=>never_34 h
    | succ dd ih=>exact step_34 dd T F_28 F_26 ih
  exact h 3
theorem sc_35:FnScope ["_law_form_here","_law_tree","_law_deep"] ["_law_form_here","_law_tree","_law_deep"] (defScope (top 43)):=fsc
set_option maxHeartbeats 4000000 in
theorem step_35 (dd:Nat) (T:Txt K mg A)
    (F_26:FnOk P w K mg base CX0 1 A.a_26 A.f_26 ["_law_form_here"] (liftSp K sp_26))
    (F_35:FnOk P w K mg base CX0 (1 + dd) A.a_35 A.f_35 ["_law_form_here","_law_tree","_law_deep"] (liftSp K (sp_35_lt dd))):FnOk P w K mg base CX0 (1 + dd + 1) A.a_35 A.f_35 ["_law_form_here","_law_tree","_law_deep"] (liftSp K (sp_35_lt (dd + 1))):=by
  refine fnT T.F_35 sc_35 (fun ds Q h=>by obtain ⟨fs,an,t,d,rfl,F,ht,hdn,hd2,h⟩:=h; rfl) fun cdv Ar outer s H E hr ds Q h=>?_
  obtain ⟨fs,an,t,d,rfl,F,ht,hdn,hd2,h⟩:=h
  have nd:=sc_35.nd
  refine ⟨_,(st_cons (st_if (tw_pt (tw_or (tt_not (tt_val (et_isi (kit_tuple _) (et_v 1) (fun h=>pe_callB call_isi rfl T.b_isinstance bl_isinstance (pa_cons h (pa_cons (pe_bltn rfl T.b_tuple bl_tuple rfl) pa_nil)))) (fun h=>pt_val h))) (tw_or1 (tt_cmp op_lt o_B0 (et_cb c_len (at_cons (et_v 1) at_nil) (fun h=>pe_callB call_lenAny rfl T.b_len bl_len h)) et_int))))
  (st_one (st_ret et_bl))
  st_nil)
  (st_cons (st_if (tt_cmp op_eq o_eq (et_ix ix_seq o_ix (et_v 1) et_int) et_str)
  (st_one (st_ret (et_and (et_cmp op_eq o_eq (et_cb c_len (at_cons (et_v 1) at_nil) (fun h=>pe_callB call_lenAny rfl T.b_len bl_len h)) et_int) (et_one (et_cmp (op_in2 hr) o_in2 (et_ix ix_seq o_ix (et_v 1) et_int) (et_ix ix_seq o_ix (et_v 0) et_int))))))
  st_nil)
  (st_cons (st_if (tw_pt (tw_or (tt_cmp op_eq o_eq (et_v 2) et_int) (tw_or (tt_cmp op_ne o_ne (et_ix ix_seq o_ix (et_v 1) et_int) et_str) (tw_or (tt_cmp op_ne o_ne (et_cb c_len (at_cons (et_v 1) at_nil) (fun h=>pe_callB call_lenAny rfl T.b_len bl_len h)) et_int) (tw_or1 (tt_cmp (op_notInData hr) o_data (et_ix ix_seq o_ix (et_v 1) et_int) (et_tup (at_cons et_str (at_cons et_str at_nil)))))))))
  (st_one (st_ret et_bl))
  st_nil)
  (st_cons (st_if (tt_cmp (op_notInData hr) o_data (et_ix ix_seq o_ix (et_v 1) et_int) (ca F_26 T.m_26 T.k_26 T.d_26 (hr.mono (by omega)) (at_cons (et_v 0) at_nil)))
  (st_one (st_ret et_bl))
  st_nil)
  (st_one (st_ret (et_and (ca F_35 T.m_35 T.k_35 T.d_35 (hr.mono (by omega)) (at_cons (et_v 0) (at_cons (et_ix ix_seq o_ix (et_v 1) et_int) (at_cons (et_op op_sub o_I0 (et_v 2) et_int) at_nil)))) (et_one (ca F_35 T.m_35 T.k_35 T.d_35 (hr.mono (by omega)) (at_cons (et_v 0) (at_cons (et_ix ix_seq o_ix (et_v 1) et_int) (at_cons (et_op op_sub o_I0 (et_v 2) et_int) at_nil)))))))))))),?_⟩
  show sSeq _ _ _ [.val (frmD fs an),.val (trD t),.val (.int (d:Nat))]
  have ff:¬ (false=true):=Bool.false_ne_true
  cases t with
  | say z =>
    have hz:z ∈ an:=by cases d <;> exact ht
    refine seq_if (fun b=>b=false) (fun q hq=>⟨_,rfl,Eq.mpr (if_neg (t:=q true) (c:=(!isT "tuple" (trD (.say z)))=true) ff) ⟨_,rfl,hq _ rfl⟩⟩) (fun hT=>by cases hT) fun _=>?_
    try unfold sNext
    dsimp only
    refine seq_if (fun b=>b=true) (fun q hq=>⟨_,rfl,_,rfl,hq _ (by decide +kernel)⟩) (fun _=>?_) fun hF=>by cases hF
    refine ⟨_,rfl,?_⟩
    show (if decide ((2:Int)=2)=true then _ else Q (.bool false))
    rw [if_pos (by decide)]
    refine ⟨_,rfl,_,rfl,_,rfl,_,rfl,fIn2_tup (ok_strs F.an.2.1 (cd_nm (F.an.2.1 z hz))) ?_⟩
    have e:inD (.str z) (.tuple (an.map PyData.str))=true:=by
      show ((an.map PyData.str).any fun y=>PyData.eqv y (.str z))=true
      rw [any_strs]; exact decide_eq_true hz
    rw [e]; exact h
  | ask k n v st y m =>
    cases d with
    | zero=>exact ht.elim
    | succ d =>
    obtain ⟨hq,hs,hy,hm⟩:=ht
    have ed:(((d + 1:Nat):Int) - 1)=((d:Nat):Int):=by omega
    have key:∀ x:D,[frmD fs an,x,PyData.int (((d + 1:Nat):Int) - 1)]=[frmD fs an,x,.int (d:Nat)]:=fun x=>by rw [ed]
    refine seq_if (fun b=>b=false) (fun q hq=>⟨_,rfl,Eq.mpr (if_neg (t:=q true) (c:=(!isT "tuple" (trD (.ask k n v st y m)))=true) ff) ⟨_,rfl,hq _ rfl⟩⟩) (fun hT=>by cases hT) fun _=>?_
    try unfold sNext
    dsimp only
    refine seq_if (fun b=>b=false) (fun q hq=>⟨_,rfl,_,rfl,hq _ (by decide +kernel)⟩) (fun hT=>by cases hT) fun _=>?_
    try unfold sNext
    dsimp only
    refine seq_if (fun b=>b=false) (fun q hq=>⟨_,rfl,?_⟩) (fun hT=>by cases hT) fun _=>?_
    · show (if decide (((d + 1:Nat):Int)=0)=true then q true else _)
      rw [if_neg (fun z=>by have:=of_decide_eq_true z; omega)]
      refine ⟨_,rfl,_,rfl,?_⟩
      show (if (!decide (("ask":Str)="ask"))=true then q true else _)
      rw [if_neg (by decide +kernel)]
      refine ⟨_,rfl,Eq.mpr (if_neg (t:=q true) (c:=(!decide ((5:Int)=5))=true) ff) ?_⟩
      refine ⟨_,rfl,_,rfl,(Nat.le_of_ble_eq_true rfl),(in_two hs).1,?_⟩
      show q (!inD (.str st) (.tuple [.str "yes",.str "no"]))
      rw [(in_two hs).2]; exact hq _ rfl
    try unfold sNext
    dsimp only
    obtain ⟨o1,o2⟩:=in_qs F hq
    refine seq_if (fun b=>b=false) (fun q hq=>⟨_,rfl,_,rfl,_,rfl,fs,an,rfl,F,o1,hq _ (by show (!inD (qD (k,n,v)) (.list ((qs fs).map qD)))=false; rw [o2]; rfl)⟩) (fun hT=>by cases hT) fun _=>?_
    try unfold sNext
    dsimp only
    refine ⟨_,rfl,_,rfl,_,rfl,_,rfl,fs,an,y,d,key _,F,hy,by omega,by omega,?_⟩
    show (if true=true then _ else Q (.bool false))
    rw [if_pos rfl]
    exact ⟨_,rfl,_,rfl,_,rfl,_,rfl,fs,an,m,d,key _,F,hm,by omega,by omega,h⟩

theorem ok_35 (T:Txt K mg A)
    (F_26:FnOk P w K mg base CX0 1 A.a_26 A.f_26 ["_law_form_here"] (liftSp K sp_26)):FnOk P w K mg base CX0 4 A.a_35 A.f_35 ["_law_form_here","_law_tree","_law_deep"] (liftSp K sp_35):=by
  have h:∀ dd:Nat,FnOk P w K mg base CX0 (1 + dd) A.a_35 A.f_35 ["_law_form_here","_law_tree","_law_deep"] (liftSp K (sp_35_lt dd)):=fun dd=>by
    induction dd with
    | zero=>exact fn_imp fn_never fun ds Q h=>never_35 h
    | succ dd ih=>exact step_35 dd T F_26 ih
  exact h 3
theorem sc_law:FnScope ["_law_script","_law_tape_here","_law_form_here","_law_rows_here","_law_deep","_law_prices_here","_law_handed","_law_found","_law_tree","_law_cost","_law_table"] ["_law_script"] (defScope (top 44)):=fsc
set_option maxHeartbeats 4000000 in
theorem ok_law (T:Txt K mg A)
    (F_34:FnOk P w K mg base CX0 5 A.a_34 A.f_34 ["_law_form_here","_law_rows_here","_law_deep","_law_prices_here"] (liftSp K sp_34))
    (F_21:FnOk P w K mg base CX0 1 A.a_21 A.f_21 ["_law_tape_here","_law_many"] (liftSpC K sp_21))
    (F_30:FnOk P w K mg base CX0 2 A.a_30 A.f_30 ["_law_form_here","_law_rows_here"] (liftSp K sp_30))
    (F_23:FnOk P w K mg base CX0 3 A.a_23 A.f_23 ["_law_tape_here","_law_fields","_law_values"] (liftSpC K sp_23))
    (F_35:FnOk P w K mg base CX0 4 A.a_35 A.f_35 ["_law_form_here","_law_tree","_law_deep"] (liftSp K sp_35))
    (F_31:FnOk P w K mg base CX0 7 A.a_31 A.f_31 ["_law_tree"] (liftSp K sp_31))
    (F_33:FnOk P w K mg base CX0 2 A.a_33 A.f_33 ["_law_tape_here"] (liftSpC K sp_33))
    (F_25:FnOk P w K mg base CX0 3 A.a_25 A.f_25 ["_law_tape_here","_law_form_here","_law_many"] (liftSpC K sp_25))
    (F_32:FnOk P w K mg base CX0 9 A.a_32 A.f_32 ["_law_form_here","_law_tree","_law_rows_here"] (liftSp K sp_32))
    (F_20:FnOk P w K mg base CX0 1 A.a_20 A.f_20 ["_law_script"] (liftSpN K sp_20))
    (F_14:FnOk P w K mg base CX0 9 A.a_14 A.f_14 ["form","rows","deep","prices"] (liftSp K (sp_14 w A.c_RowSets))):FnOk P w K mg base CX0 10 A.a_law A.f_law ["_law_script"] (liftSp K sp_law):=by
  refine fnT T.F_law sc_law (fun ds Q h=>by obtain ⟨ns,rfl,hl63,h⟩:=h; rfl) fun cdv Ar outer s H E hr ds Q h=>?_
  obtain ⟨ns,rfl,hl63,h⟩:=h
  have nd:=sc_law.nd
  refine ⟨_,(st_tape (i:=1) F_20 (et_v 0) rfl (fun h=>ps_set (i:=1) nd rfl (by first | exact Or.inl rfl | exact Or.inr rfl) (pe_call F_20 (hr.mono (by decide)) rfl T.m_20 T.k_20 T.d_20 .nil pass0 h)) (sc_cons (sc_set (i:=2) (ec_call F_23 T.m_23 T.k_23 T.d_23 (hr.mono (by decide)) (ac_cons (ec_p (et_v 1)) (ac_cons (ec_op op_addAny o_add (ec_p et_int) (ec_call F_21 T.m_21 T.k_21 T.d_21 (hr.mono (by decide)) (ac_cons (ec_p (et_v 1)) (ac_cons (ec_p et_int) ac_nil)) (fun h=>pe_call F_21 (hr.mono (by decide)) rfl T.m_21 T.k_21 T.d_21 .nil pass0 h))) (ac_cons (ec_op op_addAny o_add (ec_p et_int) (ec_call F_21 T.m_21 T.k_21 T.d_21 (hr.mono (by decide)) (ac_cons (ec_p (et_v 1)) (ac_cons (ec_p et_int) ac_nil)) (fun h=>pe_call F_21 (hr.mono (by decide)) rfl T.m_21 T.k_21 T.d_21 .nil pass0 h))) ac_nil))) (fun h=>pe_call F_23 (hr.mono (by decide)) rfl T.m_23 T.k_23 T.d_23 .nil pass0 h)) (fun h=>ps_set (i:=2) nd rfl (by first | exact Or.inl rfl | exact Or.inr rfl) h))
  (sc_cons (sc_set (i:=3) (ec_call F_25 T.m_25 T.k_25 T.d_25 (hr.mono (by decide)) (ac_cons (ec_p (et_v 1)) (ac_cons (ec_p (et_v 2)) (ac_cons (ec_op op_addAny o_add (ec_p et_int) (ec_call F_21 T.m_21 T.k_21 T.d_21 (hr.mono (by decide)) (ac_cons (ec_p (et_v 1)) (ac_cons (ec_p et_int) ac_nil)) (fun h=>pe_call F_21 (hr.mono (by decide)) rfl T.m_21 T.k_21 T.d_21 .nil pass0 h))) ac_nil))) (fun h=>pe_call F_25 (hr.mono (by decide)) rfl T.m_25 T.k_25 T.d_25 .nil pass0 h)) (fun h=>ps_set (i:=3) nd rfl (by first | exact Or.inl rfl | exact Or.inr rfl) h))
  (sc_cons (sc_set (i:=4) (ec_ix ix_seq o_ix (ec_p (et_lst (at_cons et_int (at_cons et_int (at_cons et_int (at_cons et_int at_nil)))))) (ec_call F_21 T.m_21 T.k_21 T.d_21 (hr.mono (by decide)) (ac_cons (ec_p (et_v 1)) (ac_cons (ec_p et_int) ac_nil)) (fun h=>pe_call F_21 (hr.mono (by decide)) rfl T.m_21 T.k_21 T.d_21 .nil pass0 h))) (fun h=>ps_set (i:=4) nd rfl (by first | exact Or.inl rfl | exact Or.inr rfl) h))
  (sc_cons (sc_set (i:=5) (ec_call F_33 T.m_33 T.k_33 T.d_33 (hr.mono (by decide)) (ac_cons (ec_p (et_v 1)) ac_nil) (fun h=>pe_call F_33 (hr.mono (by decide)) rfl T.m_33 T.k_33 T.d_33 .nil pass0 h)) (fun h=>ps_set (i:=5) nd rfl (by first | exact Or.inl rfl | exact Or.inr rfl) h))
  (sc_cons (sc_p (ss 6 nd (et_cb c_list (at_cons (et_v 3) at_nil) (fun h=>pe_callTy call_list_of rfl T.b_list bl_list h))))
  (sc_cons (sc_p (ss 7 nd (ca F_14 T.m_14 T.k_14 T.d_14 (hr.mono (by decide)) (at_cons (et_v 2) (at_cons (et_v 6) (at_cons (et_v 4) (at_cons (et_v 5) at_nil)))))))
  (sc_cons (sc_p (st_if (tw_pt (tw_or (tt_not (tt_val (et_isi (kit_tuple _) (et_v 7) (fun h=>pe_callB call_isi rfl T.b_isinstance bl_isinstance (pa_cons h (pa_cons (pe_bltn rfl T.b_tuple bl_tuple rfl) pa_nil)))) (fun h=>pt_val h))) (tw_or (tt_cmp (op_neD hr) o_data (et_cb c_len (at_cons (et_v 7) at_nil) (fun h=>pe_callB call_lenAny rfl T.b_len bl_len h)) et_int) (tw_or1 (tt_cmp (op_neD hr) o_data (et_v 6) (et_v 3))))))
  (st_one (st_ret et_bl))
  st_nil))
  (sc_cons (sc_p (st_unpG (et_v 7) (gt_triple (pg_tup rfl (pgs_cons (pn 8 nd) (pgs_cons (pn 9 nd) (pgs_cons (pn 10 nd) pgs_nil))))) (fun he hg=>ps_asg he hg)))
  (sc_cons (sc_p (st_if (tw_pt (tw_or (tt_not (tt_val (et_isi (kit_int _) (et_v 9) (fun h=>pe_callB call_isi rfl T.b_isinstance bl_isinstance (pa_cons h (pa_cons (pe_bltn rfl T.b_int bl_int rfl) pa_nil)))) (fun h=>pt_val h))) (tw_or (tt_val (et_isi (kit_bool _) (et_v 9) (fun h=>pe_callB call_isi rfl T.b_isinstance bl_isinstance (pa_cons h (pa_cons (pe_bltn rfl T.b_bool bl_bool rfl) pa_nil)))) (fun h=>pt_val h)) (tw_or1 (tt_not (tt_val (ca F_35 T.m_35 T.k_35 T.d_35 (hr.mono (by decide)) (at_cons (et_v 2) (at_cons (et_v 8) (at_cons (et_v 4) at_nil)))) (fun h=>pt_val h)))))))
  (st_one (st_ret et_bl))
  st_nil))
  (sc_cons (sc_p (st_if (tw_pt (tw_and (tt_cmp op_eq o_eq (et_v 4) et_int) (tw_and1 (tt_cmp (op_neD hr) o_data (et_v 8) (et_tup (at_cons et_str (at_cons (ca F_30 T.m_30 T.k_30 T.d_30 (hr.mono (by decide)) (at_cons (et_v 2) (at_cons (et_v 3) at_nil))) at_nil)))))))
  (st_one (st_ret et_bl))
  st_nil))
  (sc_cons (sc_p (st_if (tt_cmp (op_neD hr) o_data (et_v 9) (ca F_34 T.m_34 T.k_34 T.d_34 (hr.mono (by decide)) (at_cons (et_v 2) (at_cons (et_v 3) (at_cons (et_v 4) (at_cons (et_v 5) at_nil))))))
  (st_one (st_ret et_bl))
  st_nil))
  (sc_one (sc_p (st_ret (et_cmp op_eq o_eq (et_v 9) (et_op op_addAny o_add (et_op op_mulAny o_mul (et_ix ix_seq o_ix (et_v 5) et_int) (ca F_32 T.m_32 T.k_32 T.d_32 (hr.mono (by decide)) (at_cons (et_v 2) (at_cons (et_v 8) (at_cons (et_v 3) at_nil))))) (et_op op_mulAny o_mul (et_ix ix_seq o_ix (et_v 5) et_int) (ca F_31 T.m_31 T.k_31 T.d_31 (hr.mono (by decide)) (at_cons (et_v 8) at_nil)))))))))))))))))))),?_⟩
  show sTape _ _ _ _ [.val (.list (ns.map PyData.int)),.un,.un,.un,.un,.un,.un,.un,.un,.un,.un]
  refine ⟨_,rfl,ns,rfl,fun Tp _ _=>?_⟩
  show cSeq _ _ _ _ _ [.val (.list (ns.map PyData.int)),.val (tpD Tp),.un,.un,.un,.un,.un,.un,.un,.un,.un]
  refine cq_setR (fun m d=>m≤200∧∃ fs an,Form fs an∧fs.length≤2∧d=frmD fs an) (fun q hq=>⟨_,rfl,_,rfl,_,rfl,2,rfl,by decide,by decide,by decide,fun r h0 h1=>⟨_,rfl,_,rfl,3,rfl,by decide,by decide,by decide,fun r2 g0 g1=>?_⟩⟩) ?_
  · refine ⟨_,rfl,(1 + r).toNat,(2 + r2).toNat,by rw [Int.toNat_of_nonneg (by omega),Int.toNat_of_nonneg (by omega)],by omega,by omega,by omega,by omega,by decide,fun n' fs an hn F hfl _=>hq _ _ ⟨by omega,fs,an,F,by omega,rfl⟩⟩
  rintro c1 _ ⟨hc1,fs,an,F,hfl,rfl⟩
  refine cq_setR (fun m d=>m≤400∧∃ rs,RowsOk fs an rs∧rs.length≤7∧d=.list (rs.map rowD)) (fun q hq=>⟨_,rfl,_,rfl,_,rfl,_,rfl,7,rfl,by decide,by decide,by omega,fun r h0 h1=>?_⟩) ?_
  · refine ⟨_,rfl,fs,an,(1 + r).toNat,by rw [Int.toNat_of_nonneg (by omega)],F,by omega,by omega,fun n' rs hn hrs hrl=>hq _ _ ⟨by omega,rs,hrs,by omega,rfl⟩⟩
  rintro c2 _ ⟨hc2,rs,hrs,hrl,rfl⟩
  refine cq_setR (fun m d=>m≤401∧∃ dp:Nat,dp≤2∧d=.int (dp:Nat)) (fun q hq=>⟨(Nat.le_of_ble_eq_true rfl),_,rfl,_,rfl,4,rfl,by decide,by decide,by omega,fun r h0 h1=>?_⟩) ?_
  · rcases (show r=0 ∨ r=1 ∨ r=2 ∨ r=3 by omega) with rfl | rfl | rfl | rfl
    · exact ⟨_,rfl,hq _ _ ⟨by omega,2,by decide,rfl⟩⟩
    · exact ⟨_,rfl,hq _ _ ⟨by omega,1,by decide,rfl⟩⟩
    · exact ⟨_,rfl,hq _ _ ⟨by omega,2,by decide,rfl⟩⟩
    · exact ⟨_,rfl,hq _ _ ⟨by omega,0,by decide,rfl⟩⟩
  rintro c3 _ ⟨hc3,dp,hdp,rfl⟩
  refine cq_setR (fun m' d=>∃ a b:Int,0≤a∧a≤1000000∧0≤b∧b≤1000000∧d=.tuple [.int a,.int b]) (fun q hq=>⟨_,rfl,_,rfl,rfl,by omega,fun n' a b hn a0 a1 b0 b1=>hq _ _ ⟨a,b,a0,a1,b0,b1,rfl⟩⟩) ?_
  rintro c4 _ ⟨a,b,a0,a1,b0,b1,rfl⟩
  obtain ⟨fa,hfa⟩:=fa_ex F
  have S:SetOk fs an fa rs a b:=⟨F,hfa,hrs,by omega,a0,a1,b0,b1⟩
  have hcl:=choose_len F fs fun g hg=>hg
  have hch:(chs fs).length≤40:=by rw [chs_len]; omega
  obtain ⟨hT,hC⟩:=best_tree (a:=a) (b:=b) hfa dp rs hrs
  obtain ⟨hto,htd⟩:=hT.ok
  have hB:dp=0→(best fs fa a b dp rs).2=.say (fa rs):=fun z=>by subst z; rfl
  have hR:=th_rows F hrs (by omega)
  refine cq_pure (seq_set (.list (rs.map rowD)) (fun q hq=>⟨_,rfl,hq⟩) ?_)
  refine cq_pure (seq_setR (fun v=>∃ tb:List D,v=.tuple [trD (best fs fa a b dp rs).2,.int (best fs fa a b dp rs).1,.list tb]) (fun q hq=>⟨_,rfl,_,rfl,_,rfl,_,rfl,fs,an,fa,rs,a,b,dp,rfl,S,hdp,hch,fun tb=>hq _ ⟨tb,rfl⟩⟩) ?_)
  rintro _ ⟨tb,rfl⟩
  generalize hg:best fs fa a b dp rs=bt at *
  obtain ⟨c,t⟩:=bt
  dsimp only at hT hC hto htd hB ⊢
  have htk:t.kn≤600:=by
    have:=t.kn_dep
    have:2 ^ t.dep≤2 ^ 2:=Nat.pow_le_pow_right (by decide) (by omega)
    omega
  have hth:=th_tree F t hto
  have ff:¬ (false=true):=Bool.false_ne_true
  have er:PyData.eqv (.list (rs.map rowD)) (.list (rs.map rowD))=true:=PySem.SeqAt.eqv_refl _ hR.lay
  refine cq_pure (seq_if (fun b=>b=false) (fun q hq=>⟨_,rfl,Eq.mpr (if_neg (t:=q true) (c:=(!isT "tuple" (.tuple [trD t,.int c,.list tb]))=true) ff) ⟨_,rfl,⟨rfl,rfl,(Nat.le_of_ble_eq_true rfl)⟩,Eq.mpr (if_neg (t:=q true) (c:=(!PyData.eqv (.int 3) (.int 3))=true) (by decide)) ⟨_,rfl,_,rfl,⟨hR.lay,hR.lay,by have:=hR.depth; omega⟩,hq _ (by show (!PyData.eqv (.list (rs.map rowD)) (.list (rs.map rowD)))=false; rw [er]; rfl)⟩⟩⟩) (fun hT=>by cases hT) fun _=>?_)
  try unfold sNext
  dsimp only
  refine cq_pure (seq_unp3 (fun q hq=>⟨_,rfl,hq⟩) ?_)
  refine cq_pure (seq_if (fun b=>b=false) (fun q hq=>⟨_,rfl,Eq.mpr (if_neg (t:=q true) (c:=(!isT "int" (.int c))=true) ff) ⟨_,rfl,Eq.mpr (if_neg (t:=q true) (c:=isT "bool" (.int c)=true) ff) ⟨_,rfl,_,rfl,_,rfl,fs,an,t,dp,rfl,F,hT,by omega,hdp,hq _ rfl⟩⟩⟩) (fun hT=>by cases hT) fun _=>?_)
  try unfold sNext
  dsimp only
  refine cq_pure (seq_if (fun b=>b=false) (fun q hq=>⟨_,rfl,?_⟩) (fun hT=>by cases hT) fun _=>?_)
  · show (if decide (((dp:Nat):Int)=0)=true then _ else q false)
    by_cases hd0:dp=0
    · rw [if_pos (decide_eq_true (by omega))]
      have et:=hB hd0
      refine ⟨_,rfl,_,rfl,_,rfl,fs,an,rs,rfl,F,hrs,by omega,fun z hz=>?_⟩
      rw [hz.uniq (hfa rs hrs)]
      have hl2:=hth.lay
      have hde:=hth.depth
      rw [et] at hl2 hde
      refine ⟨(Nat.le_of_ble_eq_true rfl),?_⟩
      rw [et]
      exact ⟨⟨hl2,hl2,by have:(trD (Tr.say (fa rs))).depth≤1:=hde; show min _ _≤60; omega⟩,hq _ (by show (!PyData.eqv (trD (.say (fa rs))) (trD (.say (fa rs))))=false; rw [PySem.SeqAt.eqv_refl _ hl2]; rfl)⟩
    · rw [if_neg (fun z=>hd0 (by have:=of_decide_eq_true z; omega))]
      exact hq _ rfl
  try unfold sNext
  dsimp only
  have ec:PyData.eqv (.int c) (.int c)=true:=PySem.SeqAt.eqv_refl _ rfl
  refine cq_pure (seq_if (fun b=>b=false) (fun q hq=>⟨_,rfl,_,rfl,_,rfl,_,rfl,_,rfl,fs,an,fa,rs,a,b,dp,rfl,S,by omega,hdp,⟨rfl,rfl,Nat.le_of_ble_eq_true rfl⟩,hq _ ?_⟩) (fun hT=>by cases hT) fun _=>?_)
  · rw [hg]
    show (!PyData.eqv (.int c) (.int c))=false
    rw [ec]; rfl
  try unfold sNext
  dsimp only
  have hsl:slipN fs t rs≤60:=Nat.le_trans (List.length_filter_le _ _) (by omega)
  refine ⟨_,rfl,_,rfl,_,rfl,_,rfl,_,rfl,_,rfl,fs,an,t,rs,rfl,F,hto,by omega,hrs,by omega,.inl ⟨by omega,by omega⟩,_,rfl,_,rfl,_,rfl,t,rfl,htk,by omega,.inl ⟨by omega,by omega⟩,?_⟩
  show Q (.bool (decide (c=a * ((slipN fs t rs:Nat):Int) + b * ((t.kn:Nat):Int))))
  rw [decide_eq_true hC]; exact h

theorem len1 {α:Type} {P:List α→Prop} (h:∀ a0,P [a0]):∀ us:List α,us.length=1→P us
  | [a0],_=>h a0
theorem len2 {α:Type} {P:List α→Prop} (h:∀ a0 a1,P [a0,a1]):∀ us:List α,us.length=2→P us
  | [a0,a1],_=>h a0 a1
theorem len3 {α:Type} {P:List α→Prop} (h:∀ a0 a1 a2,P [a0,a1,a2]):∀ us:List α,us.length=3→P us
  | [a0,a1,a2],_=>h a0 a1 a2
theorem len4 {α:Type} {P:List α→Prop} (h:∀ a0 a1 a2 a3,P [a0,a1,a2,a3]):∀ us:List α,us.length=4→P us
  | [a0,a1,a2,a3],_=>h a0 a1 a2 a3
abbrev fO (x q:Str) (st:Stmt) (kV dc pm:Value) (an:Option Addr) (cd ct:Value):FuncData:=PySem.W.fnOf x q (defArgs st) (defBody st) (defScope st) .none kV dc pm an cd ct
set_option autoImplicit true in
set_option relaxedAutoImplicit true in
open PySem.W in
set_option maxHeartbeats 4000000 in
theorem all_mk {l:PySem.W.OpenLaw} {w:World} {K:PySem.W.Frag} {h:Heap} {mg:Str→Option Value} {fa:Addr} (X:K.In h) (G:h.Ns mainGlobals mg) (hfa:mg "law"=some (.ref fa))
    {C_RowSets f_0 f_1 f_2:Addr}
    (ax_RowSets:PySem.W.nsIn K mainGlobals "RowSets"=some (some (.ref C_RowSets)))
    (a_0:PySem.W.findIn K (.ref C_RowSets) "__init__"=some (some (.ref f_0)))
    (a_1:PySem.W.findIn K (.ref C_RowSets) "leaf_of"=some (some (.ref f_1)))
    (a_2:PySem.W.findIn K (.ref C_RowSets) "partings"=some (some (.ref f_2)))
    (pg_RowSets:PySem.W.plainGet K C_RowSets Str.empty=true)
    (hd_RowSets:PySem.W.hasDictIn K C_RowSets=true)
    (po_RowSets:PySem.W.plainOver K C_RowSets=true)
    (sa_RowSets:PySem.W.findIn K (.ref C_RowSets) "__setattr__"=some (some (.builtin "object.__setattr__")))
    (mk_RowSets:PySem.W.makesIn K C_RowSets=true)
    (kc_RowSets:PySem.W.keepIn K (.ref C_RowSets)=true)
    (n_RowSets_form:PySem.W.findIn K (.ref C_RowSets) "form"=some none)
    (n_RowSets_kept:PySem.W.findIn K (.ref C_RowSets) "kept"=some none)
    (n_RowSets_slip:PySem.W.findIn K (.ref C_RowSets) "slip"=some none)
    (n_RowSets_knot:PySem.W.findIn K (.ref C_RowSets) "knot"=some none)
    (n_RowSets_choices:PySem.W.findIn K (.ref C_RowSets) "choices"=some none)
    (l_0:K.lookup f_0=some ⟨oc_0,od_0,.func (fO "__init__" "RowSets.__init__" (methOf (top 17) 0) kV_0 dc_0 pm_0 an_0 cd_0 ct_0),sl_0⟩) (c_0:codeIn K cd_0 "RowSets.__init__"=true) (k_0:keepIn K (.ref f_0)=true) (i_0:isFn K (.ref f_0)=true)
    (l_1:K.lookup f_1=some ⟨oc_1,od_1,.func (fO "leaf_of" "RowSets.leaf_of" (methOf (top 17) 1) kV_1 dc_1 pm_1 an_1 cd_1 ct_1),sl_1⟩) (c_1:codeIn K cd_1 "RowSets.leaf_of"=true) (k_1:keepIn K (.ref f_1)=true) (i_1:isFn K (.ref f_1)=true)
    (l_2:K.lookup f_2=some ⟨oc_2,od_2,.func (fO "partings" "RowSets.partings" (methOf (top 17) 2) kV_2 dc_2 pm_2 an_2 cd_2 ct_2),sl_2⟩) (c_2:codeIn K cd_2 "RowSets.partings"=true) (k_2:keepIn K (.ref f_2)=true) (i_2:isFn K (.ref f_2)=true)
    (a_3:nsIn K mainGlobals "counted"=some (some (.ref f_3))) (l_3:K.lookup f_3=some ⟨oc_3,od_3,.func (fO "counted" "counted" (top 4) kV_3 dc_3 pm_3 an_3 cd_3 ct_3),sl_3⟩) (c_3:codeIn K cd_3 "counted"=true) (k_3:keepIn K (.ref f_3)=true)
    (a_4:nsIn K mainGlobals "first_answer"=some (some (.ref f_4))) (l_4:K.lookup f_4=some ⟨oc_4,od_4,.func (fO "first_answer" "first_answer" (top 5) kV_4 dc_4 pm_4 an_4 cd_4 ct_4),sl_4⟩) (c_4:codeIn K cd_4 "first_answer"=true) (k_4:keepIn K (.ref f_4)=true)
    (a_5:nsIn K mainGlobals "questions_of"=some (some (.ref f_5))) (l_5:K.lookup f_5=some ⟨oc_5,od_5,.func (fO "questions_of" "questions_of" (top 8) kV_5 dc_5 pm_5 an_5 cd_5 ct_5),sl_5⟩) (c_5:codeIn K cd_5 "questions_of"=true) (k_5:keepIn K (.ref f_5)=true)
    (a_6:nsIn K mainGlobals "questions_on"=some (some (.ref f_6))) (l_6:K.lookup f_6=some ⟨oc_6,od_6,.func (fO "questions_on" "questions_on" (top 9) kV_6 dc_6 pm_6 an_6 cd_6 ct_6),sl_6⟩) (c_6:codeIn K cd_6 "questions_on"=true) (k_6:keepIn K (.ref f_6)=true)
    (a_7:nsIn K mainGlobals "choices_of"=some (some (.ref f_7))) (l_7:K.lookup f_7=some ⟨oc_7,od_7,.func (fO "choices_of" "choices_of" (top 10) kV_7 dc_7 pm_7 an_7 cd_7 ct_7),sl_7⟩) (c_7:codeIn K cd_7 "choices_of"=true) (k_7:keepIn K (.ref f_7)=true)
    (a_8:nsIn K mainGlobals "side_of"=some (some (.ref f_8))) (l_8:K.lookup f_8=some ⟨oc_8,od_8,.func (fO "side_of" "side_of" (top 11) kV_8 dc_8 pm_8 an_8 cd_8 ct_8),sl_8⟩) (c_8:codeIn K cd_8 "side_of"=true) (k_8:keepIn K (.ref f_8)=true)
    (a_9:nsIn K mainGlobals "field_asked"=some (some (.ref f_9))) (l_9:K.lookup f_9=some ⟨oc_9,od_9,.func (fO "field_asked" "field_asked" (top 12) kV_9 dc_9 pm_9 an_9 cd_9 ct_9),sl_9⟩) (c_9:codeIn K cd_9 "field_asked"=true) (k_9:keepIn K (.ref f_9)=true)
    (a_10:nsIn K mainGlobals "entries_to_yes"=some (some (.ref f_10))) (l_10:K.lookup f_10=some ⟨oc_10,od_10,.func (fO "entries_to_yes" "entries_to_yes" (top 13) kV_10 dc_10 pm_10 an_10 cd_10 ct_10),sl_10⟩) (c_10:codeIn K cd_10 "entries_to_yes"=true) (k_10:keepIn K (.ref f_10)=true)
    (a_11:nsIn K mainGlobals "values_held"=some (some (.ref f_11))) (l_11:K.lookup f_11=some ⟨oc_11,od_11,.func (fO "values_held" "values_held" (top 14) kV_11 dc_11 pm_11 an_11 cd_11 ct_11),sl_11⟩) (c_11:codeIn K cd_11 "values_held"=true) (k_11:keepIn K (.ref f_11)=true)
    (a_12:nsIn K mainGlobals "is_proper"=some (some (.ref f_12))) (l_12:K.lookup f_12=some ⟨oc_12,od_12,.func (fO "is_proper" "is_proper" (top 15) kV_12 dc_12 pm_12 an_12 cd_12 ct_12),sl_12⟩) (c_12:codeIn K cd_12 "is_proper"=true) (k_12:keepIn K (.ref f_12)=true)
    (a_13:nsIn K mainGlobals "sides_of_rows"=some (some (.ref f_13))) (l_13:K.lookup f_13=some ⟨oc_13,od_13,.func (fO "sides_of_rows" "sides_of_rows" (top 18) kV_13 dc_13 pm_13 an_13 cd_13 ct_13),sl_13⟩) (c_13:codeIn K cd_13 "sides_of_rows"=true) (k_13:keepIn K (.ref f_13)=true)
    (a_14:nsIn K mainGlobals "least"=some (some (.ref f_14))) (l_14:K.lookup f_14=some ⟨oc_14,od_14,.func (fO "least" "least" (top 21) kV_14 dc_14 pm_14 an_14 cd_14 ct_14),sl_14⟩) (c_14:codeIn K cd_14 "least"=true) (k_14:keepIn K (.ref f_14)=true)
    (a_15:nsIn K mainGlobals "known_trees"=some (some (.ref f_15))) (l_15:K.lookup f_15=some ⟨oc_15,od_15,.func (fO "known_trees" "known_trees" (top 22) kV_15 dc_15 pm_15 an_15 cd_15 ct_15),sl_15⟩) (c_15:codeIn K cd_15 "known_trees"=true) (k_15:keepIn K (.ref f_15)=true)
    (a_16:nsIn K mainGlobals "sets_met"=some (some (.ref f_16))) (l_16:K.lookup f_16=some ⟨oc_16,od_16,.func (fO "sets_met" "sets_met" (top 23) kV_16 dc_16 pm_16 an_16 cd_16 ct_16),sl_16⟩) (c_16:codeIn K cd_16 "sets_met"=true) (k_16:keepIn K (.ref f_16)=true)
    (a_17:nsIn K mainGlobals "sides_of_all"=some (some (.ref f_17))) (l_17:K.lookup f_17=some ⟨oc_17,od_17,.func (fO "sides_of_all" "sides_of_all" (top 24) kV_17 dc_17 pm_17 an_17 cd_17 ct_17),sl_17⟩) (c_17:codeIn K cd_17 "sides_of_all"=true) (k_17:keepIn K (.ref f_17)=true)
    (a_18:nsIn K mainGlobals "cheapest"=some (some (.ref f_18))) (l_18:K.lookup f_18=some ⟨oc_18,od_18,.func (fO "cheapest" "cheapest" (top 25) kV_18 dc_18 pm_18 an_18 cd_18 ct_18),sl_18⟩) (c_18:codeIn K cd_18 "cheapest"=true) (k_18:keepIn K (.ref f_18)=true)
    (a_19:nsIn K mainGlobals "tree_for"=some (some (.ref f_19))) (l_19:K.lookup f_19=some ⟨oc_19,od_19,.func (fO "tree_for" "tree_for" (top 26) kV_19 dc_19 pm_19 an_19 cd_19 ct_19),sl_19⟩) (c_19:codeIn K cd_19 "tree_for"=true) (k_19:keepIn K (.ref f_19)=true)
    (a_20:nsIn K mainGlobals "_law_tape"=some (some (.ref f_20))) (l_20:K.lookup f_20=some ⟨oc_20,od_20,.func (fO "_law_tape" "_law_tape" (top 28) kV_20 dc_20 pm_20 an_20 cd_20 ct_20),sl_20⟩) (c_20:codeIn K cd_20 "_law_tape"=true) (k_20:keepIn K (.ref f_20)=true)
    (a_21:nsIn K mainGlobals "_law_draw"=some (some (.ref f_21))) (l_21:K.lookup f_21=some ⟨oc_21,od_21,.func (fO "_law_draw" "_law_draw" (top 29) kV_21 dc_21 pm_21 an_21 cd_21 ct_21),sl_21⟩) (c_21:codeIn K cd_21 "_law_draw"=true) (k_21:keepIn K (.ref f_21)=true)
    (a_22:nsIn K mainGlobals "_law_names"=some (some (.ref f_22))) (l_22:K.lookup f_22=some ⟨oc_22,od_22,.func (fO "_law_names" "_law_names" (top 30) kV_22 dc_22 pm_22 an_22 cd_22 ct_22),sl_22⟩) (c_22:codeIn K cd_22 "_law_names"=true) (k_22:keepIn K (.ref f_22)=true)
    (a_23:nsIn K mainGlobals "_law_form"=some (some (.ref f_23))) (l_23:K.lookup f_23=some ⟨oc_23,od_23,.func (fO "_law_form" "_law_form" (top 31) kV_23 dc_23 pm_23 an_23 cd_23 ct_23),sl_23⟩) (c_23:codeIn K cd_23 "_law_form"=true) (k_23:keepIn K (.ref f_23)=true)
    (a_24:nsIn K mainGlobals "_law_case"=some (some (.ref f_24))) (l_24:K.lookup f_24=some ⟨oc_24,od_24,.func (fO "_law_case" "_law_case" (top 32) kV_24 dc_24 pm_24 an_24 cd_24 ct_24),sl_24⟩) (c_24:codeIn K cd_24 "_law_case"=true) (k_24:keepIn K (.ref f_24)=true)
    (a_25:nsIn K mainGlobals "_law_rows"=some (some (.ref f_25))) (l_25:K.lookup f_25=some ⟨oc_25,od_25,.func (fO "_law_rows" "_law_rows" (top 33) kV_25 dc_25 pm_25 an_25 cd_25 ct_25),sl_25⟩) (c_25:codeIn K cd_25 "_law_rows"=true) (k_25:keepIn K (.ref f_25)=true)
    (a_26:nsIn K mainGlobals "_law_questions"=some (some (.ref f_26))) (l_26:K.lookup f_26=some ⟨oc_26,od_26,.func (fO "_law_questions" "_law_questions" (top 34) kV_26 dc_26 pm_26 an_26 cd_26 ct_26),sl_26⟩) (c_26:codeIn K cd_26 "_law_questions"=true) (k_26:keepIn K (.ref f_26)=true)
    (a_27:nsIn K mainGlobals "_law_side"=some (some (.ref f_27))) (l_27:K.lookup f_27=some ⟨oc_27,od_27,.func (fO "_law_side" "_law_side" (top 35) kV_27 dc_27 pm_27 an_27 cd_27 ct_27),sl_27⟩) (c_27:codeIn K cd_27 "_law_side"=true) (k_27:keepIn K (.ref f_27)=true)
    (a_28:nsIn K mainGlobals "_law_parts"=some (some (.ref f_28))) (l_28:K.lookup f_28=some ⟨oc_28,od_28,.func (fO "_law_parts" "_law_parts" (top 36) kV_28 dc_28 pm_28 an_28 cd_28 ct_28),sl_28⟩) (c_28:codeIn K cd_28 "_law_parts"=true) (k_28:keepIn K (.ref f_28)=true)
    (a_29:nsIn K mainGlobals "_law_counts"=some (some (.ref f_29))) (l_29:K.lookup f_29=some ⟨oc_29,od_29,.func (fO "_law_counts" "_law_counts" (top 37) kV_29 dc_29 pm_29 an_29 cd_29 ct_29),sl_29⟩) (c_29:codeIn K cd_29 "_law_counts"=true) (k_29:keepIn K (.ref f_29)=true)
    (a_30:nsIn K mainGlobals "_law_first"=some (some (.ref f_30))) (l_30:K.lookup f_30=some ⟨oc_30,od_30,.func (fO "_law_first" "_law_first" (top 38) kV_30 dc_30 pm_30 an_30 cd_30 ct_30),sl_30⟩) (c_30:codeIn K cd_30 "_law_first"=true) (k_30:keepIn K (.ref f_30)=true)
    (a_31:nsIn K mainGlobals "_law_knots"=some (some (.ref f_31))) (l_31:K.lookup f_31=some ⟨oc_31,od_31,.func (fO "_law_knots" "_law_knots" (top 39) kV_31 dc_31 pm_31 an_31 cd_31 ct_31),sl_31⟩) (c_31:codeIn K cd_31 "_law_knots"=true) (k_31:keepIn K (.ref f_31)=true)
    (a_32:nsIn K mainGlobals "_law_slips"=some (some (.ref f_32))) (l_32:K.lookup f_32=some ⟨oc_32,od_32,.func (fO "_law_slips" "_law_slips" (top 40) kV_32 dc_32 pm_32 an_32 cd_32 ct_32),sl_32⟩) (c_32:codeIn K cd_32 "_law_slips"=true) (k_32:keepIn K (.ref f_32)=true)
    (a_33:nsIn K mainGlobals "_law_prices"=some (some (.ref f_33))) (l_33:K.lookup f_33=some ⟨oc_33,od_33,.func (fO "_law_prices" "_law_prices" (top 41) kV_33 dc_33 pm_33 an_33 cd_33 ct_33),sl_33⟩) (c_33:codeIn K cd_33 "_law_prices"=true) (k_33:keepIn K (.ref f_33)=true)
    (a_34:nsIn K mainGlobals "_law_all_least"=some (some (.ref f_34))) (l_34:K.lookup f_34=some ⟨oc_34,od_34,.func (fO "_law_all_least" "_law_all_least" (top 42) kV_34 dc_34 pm_34 an_34 cd_34 ct_34),sl_34⟩) (c_34:codeIn K cd_34 "_law_all_least"=true) (k_34:keepIn K (.ref f_34)=true)
    (a_35:nsIn K mainGlobals "_law_is_tree"=some (some (.ref f_35))) (l_35:K.lookup f_35=some ⟨oc_35,od_35,.func (fO "_law_is_tree" "_law_is_tree" (top 43) kV_35 dc_35 pm_35 an_35 cd_35 ct_35),sl_35⟩) (c_35:codeIn K cd_35 "_law_is_tree"=true) (k_35:keepIn K (.ref f_35)=true)
    (a_law:nsIn K mainGlobals "law"=some (some (.ref f_law))) (l_law:K.lookup f_law=some ⟨oc_law,od_law,.func (fO "law" "law" (top 44) kV_law dc_law pm_law an_law cd_law ct_law),sl_law⟩) (c_law:codeIn K cd_law "law"=true) (k_law:keepIn K (.ref f_law)=true)
    {t_SIDES:Addr} {n_SIDES:Nat} {s_SIDES:Array (Option Value)} {k_SIDES_0 k_SIDES_1:Tok} (e_SIDES:PySem.W.nsIn K mainGlobals "SIDES"=some (some (.ref t_SIDES))) (l_SIDES:K.lookup t_SIDES=some ⟨.type "tuple",none,.seq #[.str "yes" k_SIDES_0,.str "no" k_SIDES_1] n_SIDES,s_SIDES⟩)
    {t_MOST_SETS:Tok} (e_MOST_SETS:PySem.W.nsIn K mainGlobals "MOST_SETS"=some (some (.int 400 t_MOST_SETS)))
    (z_ValueError:PySem.W.nsIn K mainGlobals "ValueError"=some none)
    (z_bool:PySem.W.nsIn K mainGlobals "bool"=some none)
    (z_int:PySem.W.nsIn K mainGlobals "int"=some none)
    (z_isinstance:PySem.W.nsIn K mainGlobals "isinstance"=some none)
    (z_len:PySem.W.nsIn K mainGlobals "len"=some none)
    (z_list:PySem.W.nsIn K mainGlobals "list"=some none)
    (z_max:PySem.W.nsIn K mainGlobals "max"=some none)
    (z_min:PySem.W.nsIn K mainGlobals "min"=some none)
    (z_range:PySem.W.nsIn K mainGlobals "range"=some none)
    (z_reversed:PySem.W.nsIn K mainGlobals "reversed"=some none)
    (z_tuple:PySem.W.nsIn K mainGlobals "tuple"=some none) :
    ∃ fd:FuncData,(∀ (s:Shared) (v:Value),BindsTo s fd ⟨[v],[]⟩ [("_law_script",v)])∧∀ base:Heap,K.In base→base.Ns mainGlobals mg→FnOk l.prog w K mg base CX0 10 fa fd ["_law_script"] (liftSp K sp_law):=by
  have e:=hfa.symm.trans (PySem.W.mg_of X G a_law)
  cases e
  have F_0:=fun_mk (st:=(methOf (top 17) 0)) l_0 c_0 k_0
  have F_1:=fun_mk (st:=(methOf (top 17) 1)) l_1 c_1 k_1
  have F_2:=fun_mk (st:=(methOf (top 17) 2)) l_2 c_2 k_2
  have F_3:=fun_mk (st:=(top 4)) l_3 c_3 k_3
  have F_4:=fun_mk (st:=(top 5)) l_4 c_4 k_4
  have F_5:=fun_mk (st:=(top 8)) l_5 c_5 k_5
  have F_6:=fun_mk (st:=(top 9)) l_6 c_6 k_6
  have F_7:=fun_mk (st:=(top 10)) l_7 c_7 k_7
  have F_8:=fun_mk (st:=(top 11)) l_8 c_8 k_8
  have F_9:=fun_mk (st:=(top 12)) l_9 c_9 k_9
  have F_10:=fun_mk (st:=(top 13)) l_10 c_10 k_10
  have F_11:=fun_mk (st:=(top 14)) l_11 c_11 k_11
  have F_12:=fun_mk (st:=(top 15)) l_12 c_12 k_12
  have F_13:=fun_mk (st:=(top 18)) l_13 c_13 k_13
  have F_14:=fun_mk (st:=(top 21)) l_14 c_14 k_14
  have F_15:=fun_mk (st:=(top 22)) l_15 c_15 k_15
  have F_16:=fun_mk (st:=(top 23)) l_16 c_16 k_16
  have F_17:=fun_mk (st:=(top 24)) l_17 c_17 k_17
  have F_18:=fun_mk (st:=(top 25)) l_18 c_18 k_18
  have F_19:=fun_mk (st:=(top 26)) l_19 c_19 k_19
  have F_20:=fun_mk (st:=(top 28)) l_20 c_20 k_20
  have F_21:=fun_mk (st:=(top 29)) l_21 c_21 k_21
  have F_22:=fun_mk (st:=(top 30)) l_22 c_22 k_22
  have F_23:=fun_mk (st:=(top 31)) l_23 c_23 k_23
  have F_24:=fun_mk (st:=(top 32)) l_24 c_24 k_24
  have F_25:=fun_mk (st:=(top 33)) l_25 c_25 k_25
  have F_26:=fun_mk (st:=(top 34)) l_26 c_26 k_26
  have F_27:=fun_mk (st:=(top 35)) l_27 c_27 k_27
  have F_28:=fun_mk (st:=(top 36)) l_28 c_28 k_28
  have F_29:=fun_mk (st:=(top 37)) l_29 c_29 k_29
  have F_30:=fun_mk (st:=(top 38)) l_30 c_30 k_30
  have F_31:=fun_mk (st:=(top 39)) l_31 c_31 k_31
  have F_32:=fun_mk (st:=(top 40)) l_32 c_32 k_32
  have F_33:=fun_mk (st:=(top 41)) l_33 c_33 k_33
  have F_34:=fun_mk (st:=(top 42)) l_34 c_34 k_34
  have F_35:=fun_mk (st:=(top 43)) l_35 c_35 k_35
  have F_law:=fun_mk (st:=(top 44)) l_law c_law k_law
  have T:Txt K mg { a_0:=f_0,f_0:=fO "__init__" "RowSets.__init__" (methOf (top 17) 0) kV_0 dc_0 pm_0 an_0 cd_0 ct_0,a_1:=f_1,f_1:=fO "leaf_of" "RowSets.leaf_of" (methOf (top 17) 1) kV_1 dc_1 pm_1 an_1 cd_1 ct_1,a_2:=f_2,f_2:=fO "partings" "RowSets.partings" (methOf (top 17) 2) kV_2 dc_2 pm_2 an_2 cd_2 ct_2,a_3:=f_3,f_3:=fO "counted" "counted" (top 4) kV_3 dc_3 pm_3 an_3 cd_3 ct_3,a_4:=f_4,f_4:=fO "first_answer" "first_answer" (top 5) kV_4 dc_4 pm_4 an_4 cd_4 ct_4,a_5:=f_5,f_5:=fO "questions_of" "questions_of" (top 8) kV_5 dc_5 pm_5 an_5 cd_5 ct_5,a_6:=f_6,f_6:=fO "questions_on" "questions_on" (top 9) kV_6 dc_6 pm_6 an_6 cd_6 ct_6,a_7:=f_7,f_7:=fO "choices_of" "choices_of" (top 10) kV_7 dc_7 pm_7 an_7 cd_7 ct_7,a_8:=f_8,f_8:=fO "side_of" "side_of" (top 11) kV_8 dc_8 pm_8 an_8 cd_8 ct_8,a_9:=f_9,f_9:=fO "field_asked" "field_asked" (top 12) kV_9 dc_9 pm_9 an_9 cd_9 ct_9,a_10:=f_10,f_10:=fO "entries_to_yes" "entries_to_yes" (top 13) kV_10 dc_10 pm_10 an_10 cd_10 ct_10,a_11:=f_11,f_11:=fO "values_held" "values_held" (top 14) kV_11 dc_11 pm_11 an_11 cd_11 ct_11,a_12:=f_12,f_12:=fO "is_proper" "is_proper" (top 15) kV_12 dc_12 pm_12 an_12 cd_12 ct_12,a_13:=f_13,f_13:=fO "sides_of_rows" "sides_of_rows" (top 18) kV_13 dc_13 pm_13 an_13 cd_13 ct_13,a_14:=f_14,f_14:=fO "least" "least" (top 21) kV_14 dc_14 pm_14 an_14 cd_14 ct_14,a_15:=f_15,f_15:=fO "known_trees" "known_trees" (top 22) kV_15 dc_15 pm_15 an_15 cd_15 ct_15,a_16:=f_16,f_16:=fO "sets_met" "sets_met" (top 23) kV_16 dc_16 pm_16 an_16 cd_16 ct_16,a_17:=f_17,f_17:=fO "sides_of_all" "sides_of_all" (top 24) kV_17 dc_17 pm_17 an_17 cd_17 ct_17,a_18:=f_18,f_18:=fO "cheapest" "cheapest" (top 25) kV_18 dc_18 pm_18 an_18 cd_18 ct_18,a_19:=f_19,f_19:=fO "tree_for" "tree_for" (top 26) kV_19 dc_19 pm_19 an_19 cd_19 ct_19,a_20:=f_20,f_20:=fO "_law_tape" "_law_tape" (top 28) kV_20 dc_20 pm_20 an_20 cd_20 ct_20,a_21:=f_21,f_21:=fO "_law_draw" "_law_draw" (top 29) kV_21 dc_21 pm_21 an_21 cd_21 ct_21,a_22:=f_22,f_22:=fO "_law_names" "_law_names" (top 30) kV_22 dc_22 pm_22 an_22 cd_22 ct_22,a_23:=f_23,f_23:=fO "_law_form" "_law_form" (top 31) kV_23 dc_23 pm_23 an_23 cd_23 ct_23,a_24:=f_24,f_24:=fO "_law_case" "_law_case" (top 32) kV_24 dc_24 pm_24 an_24 cd_24 ct_24,a_25:=f_25,f_25:=fO "_law_rows" "_law_rows" (top 33) kV_25 dc_25 pm_25 an_25 cd_25 ct_25,a_26:=f_26,f_26:=fO "_law_questions" "_law_questions" (top 34) kV_26 dc_26 pm_26 an_26 cd_26 ct_26,a_27:=f_27,f_27:=fO "_law_side" "_law_side" (top 35) kV_27 dc_27 pm_27 an_27 cd_27 ct_27,a_28:=f_28,f_28:=fO "_law_parts" "_law_parts" (top 36) kV_28 dc_28 pm_28 an_28 cd_28 ct_28,a_29:=f_29,f_29:=fO "_law_counts" "_law_counts" (top 37) kV_29 dc_29 pm_29 an_29 cd_29 ct_29,a_30:=f_30,f_30:=fO "_law_first" "_law_first" (top 38) kV_30 dc_30 pm_30 an_30 cd_30 ct_30,a_31:=f_31,f_31:=fO "_law_knots" "_law_knots" (top 39) kV_31 dc_31 pm_31 an_31 cd_31 ct_31,a_32:=f_32,f_32:=fO "_law_slips" "_law_slips" (top 40) kV_32 dc_32 pm_32 an_32 cd_32 ct_32,a_33:=f_33,f_33:=fO "_law_prices" "_law_prices" (top 41) kV_33 dc_33 pm_33 an_33 cd_33 ct_33,a_34:=f_34,f_34:=fO "_law_all_least" "_law_all_least" (top 42) kV_34 dc_34 pm_34 an_34 cd_34 ct_34,a_35:=f_35,f_35:=fO "_law_is_tree" "_law_is_tree" (top 43) kV_35 dc_35 pm_35 an_35 cd_35 ct_35,a_law:=f_law,f_law:=fO "law" "law" (top 44) kV_law dc_law pm_law an_law cd_law ct_law,t_SIDES:=t_SIDES,t_MOST_SETS:=t_MOST_SETS,c_RowSets:=C_RowSets }:={ k_0:=k_0,F_0:=F_0,d_0:=F_0.binds fun _ _ _ _ _ _=>len4 fun _ _ _ _=>rfl,k_1:=k_1,F_1:=F_1,d_1:=F_1.binds fun _ _ _ _ _ _=>len2 fun _ _=>rfl,k_2:=k_2,F_2:=F_2,d_2:=F_2.binds fun _ _ _ _ _ _=>len2 fun _ _=>rfl,m_3:=PySem.W.mg_of X G a_3,k_3:=k_3,F_3:=F_3,d_3:=F_3.binds fun _ _ _ _ _ _=>len2 fun _ _=>rfl,m_4:=PySem.W.mg_of X G a_4,k_4:=k_4,F_4:=F_4,d_4:=F_4.binds fun _ _ _ _ _ _=>len2 fun _ _=>rfl,m_5:=PySem.W.mg_of X G a_5,k_5:=k_5,F_5:=F_5,d_5:=F_5.binds fun _ _ _ _ _ _=>len1 fun _=>rfl,m_6:=PySem.W.mg_of X G a_6,k_6:=k_6,F_6:=F_6,d_6:=F_6.binds fun _ _ _ _ _ _=>len1 fun _=>rfl,m_7:=PySem.W.mg_of X G a_7,k_7:=k_7,F_7:=F_7,d_7:=F_7.binds fun _ _ _ _ _ _=>len1 fun _=>rfl,m_8:=PySem.W.mg_of X G a_8,k_8:=k_8,F_8:=F_8,d_8:=F_8.binds fun _ _ _ _ _ _=>len4 fun _ _ _ _=>rfl,m_9:=PySem.W.mg_of X G a_9,k_9:=k_9,F_9:=F_9,d_9:=F_9.binds fun _ _ _ _ _ _=>len2 fun _ _=>rfl,m_10:=PySem.W.mg_of X G a_10,k_10:=k_10,F_10:=F_10,d_10:=F_10.binds fun _ _ _ _ _ _=>len3 fun _ _ _=>rfl,m_11:=PySem.W.mg_of X G a_11,k_11:=k_11,F_11:=F_11,d_11:=F_11.binds fun _ _ _ _ _ _=>len2 fun _ _=>rfl,m_12:=PySem.W.mg_of X G a_12,k_12:=k_12,F_12:=F_12,d_12:=F_12.binds fun _ _ _ _ _ _=>len2 fun _ _=>rfl,m_13:=PySem.W.mg_of X G a_13,k_13:=k_13,F_13:=F_13,d_13:=F_13.binds fun _ _ _ _ _ _=>len3 fun _ _ _=>rfl,m_14:=PySem.W.mg_of X G a_14,k_14:=k_14,F_14:=F_14,d_14:=F_14.binds fun _ _ _ _ _ _=>len4 fun _ _ _ _=>rfl,m_15:=PySem.W.mg_of X G a_15,k_15:=k_15,F_15:=F_15,d_15:=F_15.binds fun _ _ _ _ _ _=>len3 fun _ _ _=>rfl,m_16:=PySem.W.mg_of X G a_16,k_16:=k_16,F_16:=F_16,d_16:=F_16.binds fun _ _ _ _ _ _=>len3 fun _ _ _=>rfl,m_17:=PySem.W.mg_of X G a_17,k_17:=k_17,F_17:=F_17,d_17:=F_17.binds fun _ _ _ _ _ _=>len2 fun _ _=>rfl,m_18:=PySem.W.mg_of X G a_18,k_18:=k_18,F_18:=F_18,d_18:=F_18.binds fun _ _ _ _ _ _=>len4 fun _ _ _ _=>rfl,m_19:=PySem.W.mg_of X G a_19,k_19:=k_19,F_19:=F_19,d_19:=F_19.binds fun _ _ _ _ _ _=>len4 fun _ _ _ _=>rfl,m_20:=PySem.W.mg_of X G a_20,k_20:=k_20,F_20:=F_20,d_20:=F_20.binds fun _ _ _ _ _ _=>len1 fun _=>rfl,m_21:=PySem.W.mg_of X G a_21,k_21:=k_21,F_21:=F_21,d_21:=F_21.binds fun _ _ _ _ _ _=>len2 fun _ _=>rfl,m_22:=PySem.W.mg_of X G a_22,k_22:=k_22,F_22:=F_22,d_22:=F_22.binds fun _ _ _ _ _ _=>len2 fun _ _=>rfl,m_23:=PySem.W.mg_of X G a_23,k_23:=k_23,F_23:=F_23,d_23:=F_23.binds fun _ _ _ _ _ _=>len3 fun _ _ _=>rfl,m_24:=PySem.W.mg_of X G a_24,k_24:=k_24,F_24:=F_24,d_24:=F_24.binds fun _ _ _ _ _ _=>len2 fun _ _=>rfl,m_25:=PySem.W.mg_of X G a_25,k_25:=k_25,F_25:=F_25,d_25:=F_25.binds fun _ _ _ _ _ _=>len3 fun _ _ _=>rfl,m_26:=PySem.W.mg_of X G a_26,k_26:=k_26,F_26:=F_26,d_26:=F_26.binds fun _ _ _ _ _ _=>len1 fun _=>rfl,m_27:=PySem.W.mg_of X G a_27,k_27:=k_27,F_27:=F_27,d_27:=F_27.binds fun _ _ _ _ _ _=>len4 fun _ _ _ _=>rfl,m_28:=PySem.W.mg_of X G a_28,k_28:=k_28,F_28:=F_28,d_28:=F_28.binds fun _ _ _ _ _ _=>len4 fun _ _ _ _=>rfl,m_29:=PySem.W.mg_of X G a_29,k_29:=k_29,F_29:=F_29,d_29:=F_29.binds fun _ _ _ _ _ _=>len2 fun _ _=>rfl,m_30:=PySem.W.mg_of X G a_30,k_30:=k_30,F_30:=F_30,d_30:=F_30.binds fun _ _ _ _ _ _=>len2 fun _ _=>rfl,m_31:=PySem.W.mg_of X G a_31,k_31:=k_31,F_31:=F_31,d_31:=F_31.binds fun _ _ _ _ _ _=>len1 fun _=>rfl,m_32:=PySem.W.mg_of X G a_32,k_32:=k_32,F_32:=F_32,d_32:=F_32.binds fun _ _ _ _ _ _=>len3 fun _ _ _=>rfl,m_33:=PySem.W.mg_of X G a_33,k_33:=k_33,F_33:=F_33,d_33:=F_33.binds fun _ _ _ _ _ _=>len1 fun _=>rfl,m_34:=PySem.W.mg_of X G a_34,k_34:=k_34,F_34:=F_34,d_34:=F_34.binds fun _ _ _ _ _ _=>len4 fun _ _ _ _=>rfl,m_35:=PySem.W.mg_of X G a_35,k_35:=k_35,F_35:=F_35,d_35:=F_35.binds fun _ _ _ _ _ _=>len3 fun _ _ _=>rfl,m_law:=PySem.W.mg_of X G a_law,k_law:=k_law,F_law:=F_law,d_law:=F_law.binds fun _ _ _ _ _ _=>len1 fun _=>rfl,c_SIDES:=PySem.W.mg_of X G e_SIDES,t_SIDES:=⟨_,_,_,l_SIDES,rfl,rfl,rfl,(by show 2≤sizeLine; decide),.cons ⟨_,rfl⟩ (.cons ⟨_,rfl⟩ (.nil))⟩,c_MOST_SETS:=PySem.W.mg_of X G e_MOST_SETS,x_RowSets:=PySem.W.mg_of X G ax_RowSets,C_RowSets:=⟨pg_RowSets,hd_RowSets,po_RowSets,sa_RowSets⟩,K_RowSets:=⟨mk_RowSets,a_0,i_0,kc_RowSets⟩,n_RowSets_form:=n_RowSets_form,n_RowSets_kept:=n_RowSets_kept,n_RowSets_slip:=n_RowSets_slip,n_RowSets_knot:=n_RowSets_knot,n_RowSets_choices:=n_RowSets_choices,M_1:=⟨a_1,i_1,k_1⟩,M_2:=⟨a_2,i_2,k_2⟩,b_ValueError:=PySem.W.mg_none_of X G z_ValueError,b_bool:=PySem.W.mg_none_of X G z_bool,b_int:=PySem.W.mg_none_of X G z_int,b_isinstance:=PySem.W.mg_none_of X G z_isinstance,b_len:=PySem.W.mg_none_of X G z_len,b_list:=PySem.W.mg_none_of X G z_list,b_max:=PySem.W.mg_none_of X G z_max,b_min:=PySem.W.mg_none_of X G z_min,b_range:=PySem.W.mg_none_of X G z_range,b_reversed:=PySem.W.mg_none_of X G z_reversed,b_tuple:=PySem.W.mg_none_of X G z_tuple }
  refine ⟨fO "law" "law" (top 44) kV_law dc_law pm_law an_law cd_law ct_law,fun s v=>.of_eq rfl,fun base _ _=>?_⟩
  have O_27:=ok_27 (P:=l.prog) (w:=w) (base:=base) T
  have O_28:=ok_28 (P:=l.prog) (w:=w) (base:=base) T O_27
  have O_26:=ok_26 (P:=l.prog) (w:=w) (base:=base) T
  have O_34:=ok_34 (P:=l.prog) (w:=w) (base:=base) T O_28 O_26
  have O_21:=ok_21 (P:=l.prog) (w:=w) (base:=base) T
  have O_29:=ok_29 (P:=l.prog) (w:=w) (base:=base) T
  have O_30:=ok_30 (P:=l.prog) (w:=w) (base:=base) T O_29
  have O_22:=ok_22 (P:=l.prog) (w:=w) (base:=base) T O_21
  have O_23:=ok_23 (P:=l.prog) (w:=w) (base:=base) T O_21 O_22
  have O_35:=ok_35 (P:=l.prog) (w:=w) (base:=base) T O_26
  have O_31:=ok_31 (P:=l.prog) (w:=w) (base:=base) T
  have O_33:=ok_33 (P:=l.prog) (w:=w) (base:=base) T O_21
  have O_24:=ok_24 (P:=l.prog) (w:=w) (base:=base) T O_21
  have O_25:=ok_25 (P:=l.prog) (w:=w) (base:=base) T O_24 O_21
  have O_32:=ok_32 (P:=l.prog) (w:=w) (base:=base) T O_28
  have O_20:=ok_20 (P:=l.prog) (w:=w) (base:=base) T
  have O_6:=ok_6 (P:=l.prog) (w:=w) (base:=base) T
  have O_5:=ok_5 (P:=l.prog) (w:=w) (base:=base) T O_6
  have O_7:=ok_7 (P:=l.prog) (w:=w) (base:=base) T O_5
  have O_11:=ok_11 (P:=l.prog) (w:=w) (base:=base) T
  have O_10:=ok_10 (P:=l.prog) (w:=w) (base:=base) T O_11
  have O_9:=ok_9 (P:=l.prog) (w:=w) (base:=base) T
  have O_8:=ok_8 (P:=l.prog) (w:=w) (base:=base) T O_10 O_9
  have O_13:=ok_13 (P:=l.prog) (w:=w) (base:=base) T O_8
  have O_0:=ok_0 (P:=l.prog) (w:=w) (base:=base) T O_7 O_13
  have O_3:=ok_3 (P:=l.prog) (w:=w) (base:=base) T
  have O_4:=ok_4 (P:=l.prog) (w:=w) (base:=base) T O_3
  have O_1:=ok_1 (P:=l.prog) (w:=w) (base:=base) T O_3 O_4
  have O_12:=ok_12 (P:=l.prog) (w:=w) (base:=base) T
  have O_2:=ok_2 (P:=l.prog) (w:=w) (base:=base) T O_12
  have O_19:=ok_19 (P:=l.prog) (w:=w) (base:=base) T O_1
  have O_18:=ok_18 (P:=l.prog) (w:=w) (base:=base) T O_1 O_2 O_19
  have O_17:=ok_17 (P:=l.prog) (w:=w) (base:=base) T O_2
  have O_16:=ok_16 (P:=l.prog) (w:=w) (base:=base) T O_17
  have O_15:=ok_15 (P:=l.prog) (w:=w) (base:=base) T O_18 O_16
  have O_14:=ok_14 (P:=l.prog) (w:=w) (base:=base) T O_0 O_15 O_19
  have O_law:=ok_law (P:=l.prog) (w:=w) (base:=base) T O_34 O_21 O_30 O_23 O_35 O_31 O_33 O_25 O_32 O_20 O_14
  exact O_law
theorem mask_nil {H:Hp}:Same H (mask H []):=fun b o e=>by
  unfold mask
  rw [if_neg (by simp)]
  exact e
theorem ints_reps {K:PySem.W.Frag} {H:Hp}:∀ ns:List Int,Reps K H (ns.map PyData.int) (ns.map V.int)
  | []=>.nil
  | n::ns=>.cons (.int n) (ints_reps ns)
theorem walk {l:PySem.W.OpenLaw} {q:Program} {loose:List Str} {XP:(Str→Option Value)→Heap→Prop} {YP:World→Heap→Prop} {d:DefRec} {K:Params→PySem.W.Frag} (hn:l.most=some 63) (hdf:d.params.defaults=[])
    (hY:∀ (w:World) (h:Heap),YP w h→(K w.params).In h)
    (F:∀ (w:World) (mg:Str→Option Value) (fa:Addr) (h:Heap),(K w.params).In h→h.Ns mainGlobals mg→mg d.name=some (.ref fa) →
      ∃ fd:FuncData,(∀ (s:Shared) (u:Value),BindsTo s fd ⟨[u],[]⟩ [("_law_script",u)])∧∀ base:Heap,(K w.params).In base→base.Ns mainGlobals mg→FnOk l.prog w (K w.params) mg base CX0 10 fa fd ["_law_script"] (liftSp (K w.params) sp_law)) :
    PySem.W.WalkO q loose XP YP l.row.toRowW d [] (fun f vs=>PySem.call f vs) :=
  L2.walk_of (n:=63) (k:=10) (x:="_law_script") (CX:=fun _=>CX0) (sp:=fun w=>liftSp (K w.params) sp_law) hn (by decide) hdf ⟨rfl,by decide,by decide,rfl⟩ hY F
    (fun w H a ns hl _ hS=>⟨[],[.list (ns.map PyData.int)],fun d=>d=.bool true,fun p hp=>by simp at hp,.cons (.list (L2.Same.seq mask_nil hS) (ints_reps ns)) .nil,⟨ns,rfl,hl,rfl⟩,fun d v H' _ r q=>by subst q; cases r; rfl⟩) fun _ _ _ _ _ z=>z
end
end K35
def PySem.W.Fast.tw15192848365869214329:Nat:=0
def PySem.W.Fast.tw18165309287108447839:Nat:=0
def PySem.W.Fast.tw15470227509821252916:Nat:=0
def PySem.W.Fast.tw4401013591952601399:Nat:=0
def PySem.W.Fast.tw12522661468703159347:Nat:=0
def PySem.W.Fast.tw743693192051770226:Nat:=0
def PySem.W.Fast.tw297448923994670452:Nat:=0
open PySem PySem.W PyProof.Rows
set_option maxRecDepth 100000 in
set_option maxHeartbeats 0 in
theorem PySem.Challenge.cw_leafjudge_k35_least_of_all_gone_through_holds : PySem.Challenge.rw_leafjudge_k35_least_of_all_gone_through.Holds := by
  w_on; o_law; k_head; (case hw => w_witness2)
  k_fill
  refine K35.walk (l := PySem.Challenge.rw_leafjudge_k35_least_of_all_gone_through) rfl rfl (fun w h Y => PySem.W.kIn_of Y) ?F
  case F =>
    intro w mg fa h KX G hmg
    refine' K35.all_mk KX G hmg ?ax_RowSets ?a_0 ?a_1 ?a_2 ?pg_RowSets ?hd_RowSets ?po_RowSets ?sa_RowSets ?mk_RowSets ?kc_RowSets ?n_RowSets_form ?n_RowSets_kept ?n_RowSets_slip ?n_RowSets_knot ?n_RowSets_choices ?l_0 ?c_0 ?k_0 ?i_0 ?l_1 ?c_1 ?k_1 ?i_1 ?l_2 ?c_2 ?k_2 ?i_2 ?a_3 ?l_3 ?c_3 ?k_3 ?a_4 ?l_4 ?c_4 ?k_4 ?a_5 ?l_5 ?c_5 ?k_5 ?a_6 ?l_6 ?c_6 ?k_6 ?a_7 ?l_7 ?c_7 ?k_7 ?a_8 ?l_8 ?c_8 ?k_8 ?a_9 ?l_9 ?c_9 ?k_9 ?a_10 ?l_10 ?c_10 ?k_10 ?a_11 ?l_11 ?c_11 ?k_11 ?a_12 ?l_12 ?c_12 ?k_12 ?a_13 ?l_13 ?c_13 ?k_13 ?a_14 ?l_14 ?c_14 ?k_14 ?a_15 ?l_15 ?c_15 ?k_15 ?a_16 ?l_16 ?c_16 ?k_16 ?a_17 ?l_17 ?c_17 ?k_17 ?a_18 ?l_18 ?c_18 ?k_18 ?a_19 ?l_19 ?c_19 ?k_19 ?a_20 ?l_20 ?c_20 ?k_20 ?a_21 ?l_21 ?c_21 ?k_21 ?a_22 ?l_22 ?c_22 ?k_22 ?a_23 ?l_23 ?c_23 ?k_23 ?a_24 ?l_24 ?c_24 ?k_24 ?a_25 ?l_25 ?c_25 ?k_25 ?a_26 ?l_26 ?c_26 ?k_26 ?a_27 ?l_27 ?c_27 ?k_27 ?a_28 ?l_28 ?c_28 ?k_28 ?a_29 ?l_29 ?c_29 ?k_29 ?a_30 ?l_30 ?c_30 ?k_30 ?a_31 ?l_31 ?c_31 ?k_31 ?a_32 ?l_32 ?c_32 ?k_32 ?a_33 ?l_33 ?c_33 ?k_33 ?a_34 ?l_34 ?c_34 ?k_34 ?a_35 ?l_35 ?c_35 ?k_35 ?a_law ?l_law ?c_law ?k_law ?e_SIDES ?e_MOST_SETS ?l_SIDES ?z_ValueError ?z_bool ?z_int ?z_isinstance ?z_len ?z_list ?z_max ?z_min ?z_range ?z_reversed ?z_tuple
    (case ax_RowSets | a_0 | a_1 | a_2 | pg_RowSets | hd_RowSets | po_RowSets | sa_RowSets | mk_RowSets | kc_RowSets | n_RowSets_form | n_RowSets_kept | n_RowSets_slip | n_RowSets_knot | n_RowSets_choices | l_0 | c_0 | k_0 | i_0 | l_1 | c_1 | k_1 | i_1 | l_2 | c_2 | k_2 | i_2 | a_3 | l_3 | c_3 | k_3 | a_4 | l_4 | c_4 | k_4 | a_5 | l_5 | c_5 | k_5 | a_6 | l_6 | c_6 | k_6 | a_7 | l_7 | c_7 | k_7 | a_8 | l_8 | c_8 | k_8 | a_9 | l_9 | c_9 | k_9 | a_10 | l_10 | c_10 | k_10 | a_11 | l_11 | c_11 | k_11 | a_12 | l_12 | c_12 | k_12 | a_13 | l_13 | c_13 | k_13 | a_14 | l_14 | c_14 | k_14 | a_15 | l_15 | c_15 | k_15 | a_16 | l_16 | c_16 | k_16 | a_17 | l_17 | c_17 | k_17 | a_18 | l_18 | c_18 | k_18 | a_19 | l_19 | c_19 | k_19 | a_20 | l_20 | c_20 | k_20 | a_21 | l_21 | c_21 | k_21 | a_22 | l_22 | c_22 | k_22 | a_23 | l_23 | c_23 | k_23 | a_24 | l_24 | c_24 | k_24 | a_25 | l_25 | c_25 | k_25 | a_26 | l_26 | c_26 | k_26 | a_27 | l_27 | c_27 | k_27 | a_28 | l_28 | c_28 | k_28 | a_29 | l_29 | c_29 | k_29 | a_30 | l_30 | c_30 | k_30 | a_31 | l_31 | c_31 | k_31 | a_32 | l_32 | c_32 | k_32 | a_33 | l_33 | c_33 | k_33 | a_34 | l_34 | c_34 | k_34 | a_35 | l_35 | c_35 | k_35 | a_law | l_law | c_law | k_law | e_SIDES | e_MOST_SETS | l_SIDES | z_ValueError | z_bool | z_int | z_isinstance | z_len | z_list | z_max | z_min | z_range | z_reversed | z_tuple => k_is)
