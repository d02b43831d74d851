import PyProof.Rows.All
import Wide.All
import OpenK.AllK
import Wide.FinOn
import Lean
import PyProof.EqAt
import PyProof.EqKinds
import PyProof.TupleCall
import PyProof.P3In
import PyProof.NeData
import PySem.Challenge.RW_leafjudge_k41_whole_steps_of_prices
set_option Elab.async false
set_option linter.all false
set_option maxRecDepth 100000
namespace L2
open PySem PySem.Spec PyProof.Rows

abbrev Key:=Sum Int Str
def keyIs:Key→Value→Bool
  | .inl k,v=>Value.isInt k v
  | .inr x,v=>Value.isStrOf x v
def keyH (w:World):Key→Int
  | .inl k=>hashInt k
  | .inr x=>hashStr w x
theorem keyIs_shape:∀ {k:Key} {v:Value},keyIs k v=true→(∃ i t,k=Sum.inl i∧v=Value.int i t) ∨ (∃ x t,k=Sum.inr x∧v=Value.str x t)
  | .inl i,v,h=>by
    obtain ⟨t,e⟩:=Value.isInt_shape (k:=i) (v:=v) h
    exact .inl ⟨i,t,rfl,e⟩
  | .inr x,v,h=>by
    obtain ⟨t,e⟩:=Value.isStrOf_shape (x:=x) (v:=v) h
    exact .inr ⟨x,t,rfl,e⟩
theorem keyIs_int (i:Int) (t:Tok):keyIs (.inl i) (.int i t)=true:=by simp [keyIs,Value.isInt]
theorem keyIs_str (x:Str) (t:Tok):keyIs (.inr x) (.str x t)=true:=by simp [keyIs,Value.isStrOf]
theorem key_ll (a b:Int):decide ((Sum.inl a:Key)=Sum.inl b)=(a == b):=by
  by_cases e:a=b
  · subst e; simp
  · have h:¬ (Sum.inl a:Key)=Sum.inl b:=fun q=>e (Sum.inl.inj q)
    rw [decide_eq_false h]
    exact (beq_eq_false_iff_ne.mpr e).symm
theorem key_rr (a b:Str):decide ((Sum.inr a:Key)=Sum.inr b)=decide (a=b):=by
  by_cases e:a=b
  · subst e; simp
  · have h:¬ (Sum.inr a:Key)=Sum.inr b:=fun q=>e (Sum.inr.inj q)
    rw [decide_eq_false h,decide_eq_false e]
theorem key_lr (a:Int) (b:Str):decide ((Sum.inl a:Key)=Sum.inr b)=false:=decide_eq_false (fun q=>nomatch q)
theorem key_rl (a:Str) (b:Int):decide ((Sum.inr a:Key)=Sum.inl b)=false:=decide_eq_false (fun q=>nomatch q)

def mixKind (prog:Program) (w:World):PySem.KeyKind prog w Key where
  is:=keyIs
  hash:=keyH w
  inj:=fun v a b ha hb=>by
    rcases keyIs_shape ha with ⟨i,t,rfl,rfl⟩ | ⟨x,t,rfl,rfl⟩
    · rcases keyIs_shape hb with ⟨j,u,rfl,e⟩ | ⟨y,u,rfl,e⟩
      · injection e with e1 _; rw [e1]
      · exact nomatch e
    · rcases keyIs_shape hb with ⟨j,u,rfl,e⟩ | ⟨y,u,rfl,e⟩
      · exact nomatch e
      · injection e with e1 _; rw [e1]
  byValue:=fun k v h=>by
    rcases keyIs_shape h with ⟨i,t,rfl,rfl⟩ | ⟨x,t,rfl,rfl⟩ <;> rfl
  pyHash:=fun hv h=>by
    rcases keyIs_shape hv with ⟨i,t,rfl,rfl⟩ | ⟨x,t,rfl,rfl⟩
    · exact wpAny_pyHash_int h
    · exact wpAny_pyHash_str h
  eqBool:=fun hu hv h=>by
    rcases keyIs_shape hu with ⟨i,t,rfl,rfl⟩ | ⟨x,t,rfl,rfl⟩
    · rcases keyIs_shape hv with ⟨j,u,rfl,rfl⟩ | ⟨y,u,rfl,rfl⟩
      · rw [key_ll] at h; exact wpAny_eqBool_int h
      · rw [key_lr] at h; exact SeqAt.EqAt.int_str i t y u _ _ _ _ h
    · rcases keyIs_shape hv with ⟨j,u,rfl,rfl⟩ | ⟨y,u,rfl,rfl⟩
      · rw [key_rl] at h; exact SeqAt.EqAt.str_int x t j u _ _ _ _ h
      · rw [key_rr] at h; exact wpAny_eqBool_str h
  «strs»:=fun k x t v h=>by
    rcases keyIs_shape h with ⟨i,u,rfl,e⟩ | ⟨y,u,rfl,e⟩
    · exact nomatch e
    · injection e with e1 _
      subst e1
      cases v <;> rfl

theorem mixKind_int (prog:Program) (w:World) (i:Int) (t:Tok):(mixKind prog w).is (.inl i) (.int i t)=true:=keyIs_int i t
theorem mixKind_str (prog:Program) (w:World) (x:Str) (t:Tok):(mixKind prog w).is (.inr x) (.str x t)=true:=keyIs_str x t
end L2

namespace L2
open PySem PySem.Spec PyProof.Rows

inductive V where
  | non | bl (b:Bool) | int (i:Int) | str (x:Str) | byt (b:Array UInt8) | flt (b:UInt64) | ref (a:Addr) | ty (n:String)
  deriving DecidableEq

def RelV:V→Value→Prop
  | .non,u=>u=Value.none
  | .bl b,u=>u=Value.bool b
  | .int i,u=>∃ t,u=Value.int i t
  | .str x,u=>∃ t,u=Value.str x t
  | .byt b,u=>∃ t,u=Value.bytes b t
  | .flt b,u=>∃ t,u=Value.float b t
  | .ref a,u=>u=Value.ref a
  | .ty n,u=>u=Value.type n

abbrev Vals:List V→List Value→Prop:=Paired RelV
theorem Vals.length {xs:List V} {us:List Value} (r:Vals xs us):xs.length=us.length:=Paired.length r
theorem Vals.get:∀ {xs:List V} {us:List Value} {i:Nat} {x:V},Vals xs us→xs[i]?=some x→∃ u,us[i]?=some u∧RelV x u
  | _,_,_,_,.nil,e=>by simp at e
  | _,_,0,_,.cons r _,e=>by simp at e; subst e; exact ⟨_,rfl,r⟩
  | _,_,i + 1,x,.cons _ t,e=>by
    obtain ⟨u,h1,h2⟩:=Vals.get (i:=i) (x:=x) t (by simpa using e)
    exact ⟨u,by simpa using h1,h2⟩
theorem Vals.set {x:V} {u:Value} (r:RelV x u):∀ {xs:List V} {us:List Value} (i:Nat),Vals xs us→Vals (xs.set i x) (us.set i u)
  | _,_,_,.nil=>.nil
  | _,_,0,.cons _ t=>.cons r t
  | _,_,i + 1,.cons q t=>.cons q (Vals.set r i t)
theorem Vals.append:∀ {xs ys:List V} {us ws:List Value},Vals xs us→Vals ys ws→Vals (xs++ys) (us++ws)
  | _,_,_,_,.nil,s=>s
  | _,_,_,_,.cons r t,s=>.cons r (Vals.append t s)
theorem Vals.take:∀ {xs:List V} {us:List Value} (n:Nat),Vals xs us→Vals (xs.take n) (us.take n)
  | _,_,0,_=>.nil
  | _,_,_ + 1,.nil=>.nil
  | _,_,n + 1,.cons r t=>.cons r (Vals.take n t)
theorem Vals.drop:∀ {xs:List V} {us:List Value} (n:Nat),Vals xs us→Vals (xs.drop n) (us.drop n)
  | _,_,0,r=>r
  | _,_,_ + 1,.nil=>.nil
  | _,_,n + 1,.cons _ t=>Vals.drop n t
def RelO:Option V→Option Value→Prop
  | some v,some u=>RelV v u
  | none,none=>True
  | _,_=>False
def KV {κ:Type}:List (κ × V)→List (κ × Value)→Prop:=Paired fun (p:κ × V) (q:κ × Value)=>p.1=q.1∧RelV p.2 q.2

def kV:Key→V
  | .inl i=>.int i
  | .inr x=>.str x

inductive HO where
  /-- a list -/
  | lst (xs:List V)
  /-- a tuple (never changes) -/
  | tup (xs:List V)
  /-- a dict whose keys are ints and texts; one whose keys are tuples of ints and texts (the empty one is both) -/
  | dK (kvs:List (Key × V)) | dT (kvs:List (List Key × V))
  /-- a set of ints: its members,its size -/
  | set (S:Int→Bool) (n:Nat)
  /-- an instance of the class at C,its dict at dx,its attributes -/
  | ins (C dx:Addr) (fs:List (Str × V))
  /-- the dict of the instance at x -/
  | own (x:Addr)
  /-- the dict of an exception -/
  | xd (fs:List (Str × V))
  /-- a bound method,f of x -/
  | met (f x:Addr)
  /-- a range object lo,lo + 1,.. below hi -/
  | rng (lo hi:Int)
  /-- a thing that is known to the object (the script; a dict while a loop walks it): read,never written while it is so -/
  | frz (o:Obj) (u:HO)
  /-- a code object's table -/
  | tbl (ps:Array Value)
  /-- any other thing,by what is true of its one object (a def of one's own: SetO a S n:=HO.ext fun h=>..) -/
  | ext (φ:Heap→Prop)

abbrev Hp:=Addr→Option HO
def upd (H:Hp) (a:Addr) (o:HO):Hp:=fun b=>if b=a then some o else H b
theorem upd_same {H:Hp} {a:Addr} {o:HO}:upd H a o a=some o:=by unfold upd; rw [if_pos rfl]
theorem upd_ne {H:Hp} {a b:Addr} {o:HO} (h:b ≠ a):upd H a o b=H b:=by unfold upd; rw [if_neg h]
theorem ne_of {H:Hp} {a b:Addr} {o u:HO} (h:H a=some o) (h':H b=some u) (d:o ≠ u):a ≠ b:=by
  intro e; subst e; rw [h] at h'; exact d (Option.some.inj h')
theorem ne_of_none {H:Hp} {a b:Addr} {o:HO} (h:H a=some o) (h':H b=none):a ≠ b:=by
  intro e; subst e; rw [h] at h'; cases h'

section
variable (P:Program) (w:World)
def TupN (h:Heap) (a:Addr) (items:Array Value):Prop:=∃ o,h.get? a=some o∧o.cls=.type "tuple"∧∃ n,o.data=.seq items n∧o.dict=none
theorem TupN.tup {h:Heap} {a:Addr} {items:Array Value} (x:TupN h a items):IsTup h a items:=let ⟨o,e,c,n,d,_⟩:=x; ⟨o,e,c,n,d⟩
theorem TupN.lt {h:Heap} {a:Addr} {items:Array Value} (x:TupN h a items):a < h.objs.size:=x.tup.lt
theorem TupN.new (h:Heap) (items:Array Value):TupN (h.push { cls:=.type "tuple",data:=.seq items }) h.objs.size items:=⟨_,Heap.get?_push_size _ rfl,rfl,_,rfl,rfl⟩
def ObjOk (H:Hp) (h:Heap) (a:Addr):HO→Prop
  | .lst xs=>xs.length≤sizeLine∧∃ (its:List Value) (n:Nat),Vals xs its∧h.get? a=some { cls:=.type "list",data:=.seq its.toArray n }
  | .tup xs=>xs.length≤sizeLine∧∃ its:List Value,Vals xs its∧TupN h a its.toArray
  | .dK kvs=>kvs.length≤sizeLine∧(a == sysModules)=false∧∃ vs,KV kvs vs∧h.DictOf (mixKind P w) a vs
  | .dT kvs=>kvs.length≤sizeLine∧(a == sysModules)=false∧∃ xs:List (List Key × Addr × Value),
      Paired (fun (p:List Key × V) (q:List Key × Addr × Value)=>p.1=q.1∧H q.2.1=some (.tup (p.1.map kV))∧RelV p.2 q.2.2) kvs xs ∧
      ∃ o es ep,h.get? a=some o∧o.ExactDict∧o.data=.dict es ep∧es.toList=xs.map (entryOfKey (tupleKind (mixKind P w)))∧(xs.map (·.1)).Nodup
  | .set S n=>h.SetOf (intKind P w) a S n
  | .ins C dx fs=>H dx=some (.own a)∧fs.length≤1000∧dx ≠ a∧h.get? a=some (PySem.W.instObj C dx) ∧
      ∃ mA,h.Ns1 dx mA∧(∀ f,RelO (fs.lookup f) (mA f))∧PySem.Within mA (fs.map (·.1))
  | .own _=>∃ o,h.get? a=some o
  | .xd fs=>∃ mA,h.Ns1 a mA∧∀ f,RelO (fs.lookup f) (mA f)
  | .rng lo hi=>∃ t u v,h.get? a=some { cls:=.type "range",data:=.fields #[.int lo t,.int hi u,.int 1 v] }
  | .frz o u=>h.get? a=some o∧ObjOk H h a u
  | .tbl ps=>h.get? a=some { cls:=.none,data:=.fields ps }
  | .met f x=>h.get? a=some (PySem.W.methodObj (.ref f) (.ref x))
  | .ext φ=>φ h∧(∃ o,h.get? a=some o)∧∀ h1 h2:Heap,φ h1→(∀ o,h1.get? a=some o→h2.get? a=some o)→φ h2
def HOk (H:Hp) (h:Heap):Prop:=∀ a o,H a=some o→ObjOk P w H h a o
end

section
variable {P:Program} {w:World} {H H':Hp} {h h':Heap} {a:Addr} {o:HO}
theorem ObjOk.lt (x:ObjOk P w H h a o):a < h.objs.size:=by
  cases o with
  | lst xs=>obtain ⟨_,_,_,_,e⟩:=x; exact Heap.lt_size e
  | tup xs=>obtain ⟨_,_,_,p⟩:=x; exact p.lt
  | dK kvs=>obtain ⟨_,_,_,_,o,_,_,e,_⟩:=x; exact Heap.lt_size e
  | dT kvs=>obtain ⟨_,_,_,_,o,_,_,e,_⟩:=x; exact Heap.lt_size e
  | set S n=>obtain ⟨o,_,_,_,e,_⟩:=x; exact Heap.lt_size e
  | ins C dx fs=>obtain ⟨_,_,_,e,_⟩:=x; exact Heap.lt_size e
  | own y=>obtain ⟨_,e⟩:=x; exact Heap.lt_size e
  | xd fs=>obtain ⟨_,⟨_,_,_,e,_⟩,_⟩:=x; exact Heap.lt_size e
  | rng lo hi=>obtain ⟨_,_,_,e⟩:=x; exact Heap.lt_size e
  | frz ob u=>obtain ⟨e,_⟩:=x; exact Heap.lt_size e
  | tbl ps=>exact Heap.lt_size (show h.get? a=some _ from x)
  | met f y=>exact Heap.lt_size (show h.get? a=some _ from x)
  | ext φ=>obtain ⟨_,⟨_,e⟩,_⟩:=x; exact Heap.lt_size e
theorem Paired.mapP {α β:Type} {F G:α→β→Prop}:∀ {l₁:List α} {l₂:List β},Paired F l₁ l₂→(∀ a b,F a b→G a b)→Paired G l₁ l₂
  | _,_,.nil,_=>.nil
  | _,_,.cons r t,f=>.cons (f _ _ r) (Paired.mapP t f)
theorem ObjOk.stay (x:ObjOk P w H h a o) (k:∀ b u,(b=a ∨ H b=some (.own a))→h.get? b=some u→h'.get? b=some u)
    (ho:∀ b,H b=some (.own a)→H' b=some (.own a)) (ht:∀ b xs,H b=some (.tup xs)→H' b=some (.tup xs)):ObjOk P w H' h' a o:=by
  induction o with
  | lst xs=>obtain ⟨z,its,n,r,e⟩:=x; exact ⟨z,its,n,r,k _ _ (.inl rfl) e⟩
  | tup xs=>obtain ⟨z,its,r,ob,e,c⟩:=x; exact ⟨z,its,r,ob,k _ _ (.inl rfl) e,c⟩
  | dK kvs=>obtain ⟨z,y,vs,r,ob,es,ep,e,c⟩:=x; exact ⟨z,y,vs,r,ob,es,ep,k _ _ (.inl rfl) e,c⟩
  | dT kvs =>
    obtain ⟨z,y,xs,r,ob,es,ep,e,c⟩:=x
    exact ⟨z,y,xs,Paired.mapP r fun p q z=>⟨z.1,ht _ _ z.2.1,z.2.2⟩,ob,es,ep,k _ _ (.inl rfl) e,c⟩
  | set S n=>obtain ⟨ob,es,ep,t,e,c⟩:=x; exact ⟨ob,es,ep,t,k _ _ (.inl rfl) e,c⟩
  | ins C dx fs =>
    obtain ⟨d,z,ne,e,mA,⟨od,es,ep,e2,c⟩,r⟩:=x
    exact ⟨ho _ d,z,ne,k _ _ (.inl rfl) e,mA,⟨od,es,ep,k _ _ (.inr d) e2,c⟩,r⟩
  | own y=>obtain ⟨ob,e⟩:=x; exact ⟨ob,k _ _ (.inl rfl) e⟩
  | xd fs=>obtain ⟨mA,⟨od,es,ep,e,c⟩,r⟩:=x; exact ⟨mA,⟨od,es,ep,k _ _ (.inl rfl) e,c⟩,r⟩
  | rng lo hi=>obtain ⟨t,u,v,e⟩:=x; exact ⟨t,u,v,k _ _ (.inl rfl) e⟩
  | frz ob u ih=>obtain ⟨e,q⟩:=x; exact ⟨k _ _ (.inl rfl) e,ih q⟩
  | tbl ps =>
    have e:h.get? a=some { cls:=.none,data:=.fields ps }:=x
    show h'.get? a=some { cls:=.none,data:=.fields ps }
    exact k a _ (.inl rfl) e
  | met f y =>
    have e:h.get? a=some (PySem.W.methodObj (.ref f) (.ref y)):=x
    show h'.get? a=some (PySem.W.methodObj (.ref f) (.ref y))
    exact k a _ (.inl rfl) e
  | ext φ=>obtain ⟨p,⟨o,e⟩,st⟩:=x; exact ⟨st _ _ p fun o q=>k _ _ (.inl rfl) q,⟨o,k _ _ (.inl rfl) e⟩,st⟩
theorem HOk.lt (x:HOk P w H h) (e:H a=some o):a < h.objs.size:=(x a o e).lt
theorem HOk.fresh (x:HOk P w H h) (e:h.objs.size≤a):H a=none:=by
  cases q:H a with
  | none=>rfl
  | some u=>exact absurd (Nat.lt_of_lt_of_le (x.lt q) e) (Nat.lt_irrefl _)
theorem HOk.kept (x:HOk P w H h) (k:∀ b u,h.get? b=some u→h'.get? b=some u):HOk P w H h':=fun a o e =>
  (x a o e).stay (fun b u _ q=>k b u q) (fun _ q=>q) fun _ _ q=>q
theorem HOk.laid (x:HOk P w H h) (k:∀ b u,h.get? b=some u→h'.get? b=some u) (hp:h.objs.size≤a) (new:ObjOk P w (upd H a o) h' a o):HOk P w (upd H a o) h':=fun b u e=>by
  have hn:=x.fresh hp
  by_cases hb:b=a
  · subst hb; rw [upd_same] at e; cases e; exact new
  · rw [upd_ne hb] at e
    exact (x b u e).stay (fun c v _ q=>k c v q) (fun c q=>by rw [upd_ne (ne_of_none q hn)]; exact q) fun c xs q=>by rw [upd_ne (ne_of_none q hn)]; exact q
end

def Rd (H:Hp) (a:Addr) (u:HO):Prop:=H a=some u ∨ ∃ o,H a=some (.frz o u)
theorem Rd.of {H:Hp} {a:Addr} {u:HO} (h:H a=some u):Rd H a u:=.inl h
theorem Rd.ok {P:Program} {w:World} {H:Hp} {h:Heap} {a:Addr} {u:HO} (r:Rd H a u) (x:HOk P w H h):ObjOk P w H h a u:=by
  rcases r with r | ⟨o,r⟩
  · exact x a u r
  · obtain ⟨_,q⟩:=x a _ r
    exact q
def Mut:Option HO→Prop
  | some (.lst _)=>True
  | some (.dK _)=>True
  | some (.dT _)=>True
  | some (.set _ _)=>True
  | some (.ins _ _ _)=>True
  | some (.ext _)=>True
  | _=>False
section
variable {P:Program} {w:World} {H:Hp} {h h':Heap} {x e:Addr} {o':HO}
theorem HOk.write (ok:HOk P w H h) (mu:Mut (H x)) (he:e=x ∨ H e=some (.own x)) (k:∀ b u,b ≠ e→h.get? b=some u→h'.get? b=some u) (heo:∃ u,h'.get? e=some u)
    (new:ObjOk P w (upd H x o') h' x o'):HOk P w (upd H x o') h':=fun b u q=>by
  have nown:∀ c y,H c=some (.own y)→c ≠ x:=fun c y r z=>by subst z; rw [r] at mu; exact mu
  have ntup:∀ c xs,H c=some (.tup xs)→c ≠ x:=fun c xs r z=>by subst z; rw [r] at mu; exact mu
  by_cases hb:b=x
  · subst hb; rw [upd_same] at q; cases q; exact new
  · rw [upd_ne hb] at q
    by_cases hbe:b=e
    · have q':H b=some (.own x):=by
        rcases he with z | z
        · exact absurd (hbe.trans z) hb
        · rw [hbe]; exact z
      rw [q] at q'; cases q'
      obtain ⟨v,hv⟩:=heo
      exact ⟨v,by rw [hbe]; exact hv⟩
    · refine (ok b u q).stay (fun c v hc r=>k c v ?_ r) (fun c r=>by rw [upd_ne (nown c b r)]; exact r) fun c xs r=>by rw [upd_ne (ntup c xs r)]; exact r
      rcases hc with rfl | hc
      · exact hbe
      · rintro rfl
        rcases he with z | z
        · exact nown c b hc z
        · rw [hc] at z; cases z; exact hb rfl
end

structure Un (fs ex:List Addr) (H H':Hp) (h h':Heap):Prop where
  keep:∀ b o,h.get? b=some o→H b=none→b ∉ fs→b ∉ ex→h'.get? b=some o
  slot:∀ b o,h.get? b=some o→H b=none→b ∈ fs→b ∉ ex→∃ sl,h'.get? b=some { o with slots:=sl }
  free:∀ b o,h.get? b=some o→H b=none→b ∉ ex→H' b=none
  there:∀ b o,h.get? b=some o→b ∉ ex→∃ o',h'.get? b=some o'
  tups:∀ b xs,H b=some (.tup xs)→H' b=some (.tup xs)
  frzs:∀ b o u,H b=some (.frz o u)→H' b=some (.frz o u)
  tbls:∀ b ps,H b=some (.tbl ps)→∃ more,H' b=some (.tbl (ps++more))
section
variable {fs fs' ex ex':List Addr} {H H1 H2:Hp} {h h1 h2 h':Heap} {a x e:Addr} {o:HO}
theorem Un.any (u:Un fs ex H H1 h h1) {b:Addr} {ob:Obj} (q:h.get? b=some ob) (n:H b=none) (hx:b ∉ ex):∃ sl,h1.get? b=some { ob with slots:=sl }:=by
  by_cases hb:b ∈ fs
  · exact u.slot b ob q n hb hx
  · exact ⟨ob.slots,u.keep b ob q n hb hx⟩
theorem Un.trans (a:Un fs ex H H1 h h1) (b:Un fs ex H1 H2 h1 h2):Un fs ex H H2 h h2 where
  keep:=fun c ob q n hc hx=>b.keep c ob (a.keep c ob q n hc hx) (a.free c ob q n hx) hc hx
  slot:=fun c ob q n hc hx=>by
    obtain ⟨sl,e1⟩:=a.slot c ob q n hc hx
    obtain ⟨sl',e2⟩:=b.slot c _ e1 (a.free c ob q n hx) hc hx
    exact ⟨sl',e2⟩
  free:=fun c ob q n hx=>by
    obtain ⟨o',e1⟩:=a.there c ob q hx
    exact b.free c o' e1 (a.free c ob q n hx) hx
  there:=fun c ob q hx=>by
    obtain ⟨o',e1⟩:=a.there c ob q hx
    exact b.there c o' e1 hx
  tups:=fun c xs q=>b.tups c xs (a.tups c xs q)
  frzs:=fun c ob xs q=>b.frzs c ob xs (a.frzs c ob xs q)
  tbls:=fun c ps q=>by
    obtain ⟨m1,e1⟩:=a.tbls c ps q
    obtain ⟨m2,e2⟩:=b.tbls c _ e1
    exact ⟨m1++m2,by rw [e2,Array.append_assoc]⟩
theorem Un.kept (k:∀ b u,h.get? b=some u→h'.get? b=some u):Un fs ex H H h h' :=
  ⟨fun b ob q _ _ _=>k b ob q,fun b ob q _ _ _=>⟨ob.slots,k b ob q⟩,fun _ _ _ n _=>n,fun b ob q _=>⟨ob,k b ob q⟩,fun _ _ q=>q,fun _ _ _ q=>q,fun _ ps q=>⟨#[],by rw [q]; simp⟩⟩
theorem Un.refl:Un fs ex H H h h:=Un.kept fun _ _ q=>q
theorem Un.laid (k:∀ b u,h.get? b=some u→h'.get? b=some u) (hp:h.objs.size≤a) (hn:H a=none):Un fs ex H (upd H a o) h h' where
  keep:=fun b u q _ _ _=>k b u q
  slot:=fun b u q _ _ _=>⟨u.slots,k b u q⟩
  free:=fun b u q n _=>by rw [upd_ne (Nat.ne_of_lt (Nat.lt_of_lt_of_le (Heap.lt_size q) hp))]; exact n
  there:=fun b u q _=>⟨u,k b u q⟩
  tups:=fun b xs q=>by rw [upd_ne (ne_of_none q hn)]; exact q
  frzs:=fun b u xs q=>by rw [upd_ne (ne_of_none q hn)]; exact q
  tbls:=fun b ps q=>⟨#[],by rw [upd_ne (ne_of_none q hn),q]; simp⟩
theorem Un.write (mu:Mut (H x)) (he:e=x ∨ H e=some (.own x)) (k:∀ b u,b ≠ e→h.get? b=some u→h'.get? b=some u) (heo:∃ u,h'.get? e=some u):Un fs ex H (upd H x o) h h':=by
  have hx:∀ b,H b=none→b ≠ x:=fun b n z=>by subst z; rw [n] at mu; exact mu
  have hb:∀ b,H b=none→b ≠ e:=fun b n z=>by
    subst z
    rcases he with r | r
    · exact hx b n r
    · rw [n] at r; cases r
  have hm:∀ b u,H b=some u→¬ Mut (some u)→b ≠ x:=fun b u q nm z=>by subst z; rw [q] at mu; exact nm mu
  refine ⟨fun b u q n _ _=>k b u (hb b n) q,fun b u q n _ _=>⟨u.slots,k b u (hb b n) q⟩,fun b u q n _=>by rw [upd_ne (hx b n)]; exact n,fun b u q _=>?_,
    fun b xs q=>by rw [upd_ne (hm b _ q fun z=>z)]; exact q,fun b u xs q=>by rw [upd_ne (hm b _ q fun z=>z)]; exact q,fun b ps q=>⟨#[],by rw [upd_ne (hm b _ q fun z=>z),q]; simp⟩⟩
  by_cases hbe:b=e
  · subst hbe; exact heo
  · exact ⟨u,k b u hbe q⟩
theorem Un.mono (u:Un fs ex H H1 h h1) (hs:∀ b ∈ fs,b ∈ fs') (hx:∀ b ∈ ex,b ∈ ex'):Un fs' ex' H H1 h h1 :=
  ⟨fun b ob q n hb he=>u.keep b ob q n (fun z=>hb (hs b z)) fun z=>he (hx b z),fun _ _ q n _ he=>u.any q n fun z=>he (hx _ z),fun b ob q n he=>u.free b ob q n fun z=>he (hx b z),fun b ob q he=>u.there b ob q fun z=>he (hx b z),u.tups,u.frzs,u.tbls⟩
end

def trk (h:Heap) (H:Hp):List Addr:=(List.range h.objs.size).filter fun a=>(H a).isSome
def hidT (h:Heap) (H:Hp):Heap:=PySem.W.hideAll h (trk h H)
theorem hidT_size (h:Heap) (H:Hp):(hidT h H).objs.size=h.objs.size:=PySem.W.hideAll_size _ _
theorem hidT_get {h:Heap} {H:Hp} {b:Addr} {o:Obj} (e:h.get? b=some o) (n:H b=none):(hidT h H).get? b=some o :=
  PySem.W.hideAll_get _ e fun hm=>by
    have q:(H b).isSome=true:=(List.mem_filter.mp hm).2
    rw [n] at q; simp at q
theorem of_hidT {h:Heap} {H:Hp} {b:Addr} {o:Obj} (e:(hidT h H).get? b=some o):h.get? b=some o∧H b=none:=by
  have e':h.get? b=some o:=PySem.W.of_hideAll (trk h H) e
  refine ⟨e',?_⟩
  cases q:H b with
  | none=>rfl
  | some x =>
    have hm:b ∈ trk h H:=List.mem_filter.mpr ⟨List.mem_range.mpr (Heap.lt_size e'),by simp [q]⟩
    have z:(hidT h H).get? b=none:=PySem.W.hideAll_none (trk h H) hm
    rw [z] at e; cases e

def allNews (g h:Heap) (L:Addr):List (Addr × Obj):=(List.range h.objs.size).filterMap fun a=>if a=L ∨ (g.get? a).isSome=true then none else (h.get? a).map fun o=>(a,o)
def rest (g h:Heap) (L d:Addr):List (Addr × Obj):=(allNews g h L).filter fun p=>decide (p.1 ≠ d)
end L2

namespace L2
open PySem PySem.Spec PyProof.Rows

structure Mod (K:PySem.W.Frag) (mg:Str→Option Value) (base:Heap):Prop where
  kin:K.In base
  glob:base.Ns mainGlobals mg
  blt:∃ mb,base.Ns builtinsNs mb∧∀ x:Str,x ≠ "__name__"→mb x=bootBuiltins x
  nolimit:base.NoLimit

structure Cx where
  prog:Program
  w:World
  K:PySem.W.Frag
  mg:Str→Option Value
  base:Heap
  A:Around
  N:List Str
  s₀:Shared
  H₀:Hp
  env:Env
  outer:List Env
  stack:List Env
  ex:List Addr
  fn:Str→Bool
  calm:Bool
  pn:List (Addr × Obj)
  xe:Value→Shared→Prop
def frs (l:List Env):List Addr:=l.filterMap (·.frame)
abbrev Cx.fs (X:Cx):List Addr:=frs X.outer

def Vis (sc:Scope) (x:Str):Prop:=sc.names.lookup x=some .local ∨ sc.names.lookup x=some .cell ∨ sc.names.lookup x=some .free
def Loc (sc:Scope) (x:Str):Prop:=sc.names.lookup x=some .local ∨ sc.names.lookup x=some .cell
def Look (env:Env) (h:Heap) (m:Str→Option Value) (x:Str) (u:Value):Prop :=
  (env.kindOf x=some .local∧m x=some u) ∨ ((env.kindOf x=some .cell ∨ env.kindOf x=some .free)∧∃ c,env.cells.lookup x=some c∧h.IsCell c (some u))

structure Cx.Ok (X:Cx):Prop where
  mod:Mod X.K X.mg X.base
  kind:X.env.scope.kind=.function
  glob:X.env.globals=mainGlobals
  blt:X.env.builtins=builtinsNs
  above:X.s₀.heap.objs.size≤X.env.locals
  inj:∀ x y c,X.env.cells.lookup x=some c→X.env.cells.lookup y=some c→x=y
  has:∀ x,(X.env.kindOf x=some .cell ∨ X.env.kindOf x=some .free)→∃ c,X.env.cells.lookup x=some c
  cab:∀ x c,X.fn x=true→X.env.cells.lookup x=some c→X.s₀.heap.objs.size≤c
  hd:X.calm=true→X.A.handled=none
  frames:X.A.frames=some X.stack
  stk:X.stack=X.outer ∨ (X.stack=X.env::X.outer∧X.env.frame=some X.env.locals)
  exf:∀ b ∈ X.ex,b ≠ X.env.locals∧∀ x c,X.env.cells.lookup x=some c→c ≠ b
  bs:∀ b o,X.base.get? b=some o→X.s₀.heap.get? b=some o∧X.H₀ b=none
  bsz:X.base.objs.size≤X.s₀.heap.objs.size
  noex:∀ b o,X.base.get? b=some o→b ∉ X.ex
  exfs:∀ b ∈ X.ex,b ∉ X.fs
  funs:X.s₀.heap.FunFrames X.base X.outer
  frf:∀ b ∈ X.fs,X.H₀ b=none

structure Inv (X:Cx) (pins:List (Addr × Obj)) (σ:List (Option V)) (H:Hp) (s:Shared):Prop where
  ok:X.Ok
  os:s.os=X.s₀.os
  bare:AllBare s.gens
  base:Un X.fs X.ex X.H₀ H X.s₀.heap s.heap
  loc:∃ m,s.heap.Ns X.env.locals m∧∀ (i:Nat) (x:Str) (v:V),X.N[i]?=some x→σ[i]?=some (some v)→Vis X.env.scope x→∃ u,RelV v u∧Look X.env s.heap m x u
  cell:∀ x c,X.env.cells.lookup x=some c→∃ v,s.heap.IsCell c v
  free:H X.env.locals=none
  freeC:∀ x c,X.env.cells.lookup x=some c→H c=none
  pin:∀ p ∈ X.pn++pins,s.heap.get? p.1=some p.2∧H p.1=none∧p.1 ≠ X.env.locals∧p.1 ∉ X.fs∧∀ v,p.2.data ≠ .cell v
  hok:HOk X.prog X.w H s.heap
  len:σ.length=X.N.length

section
variable {X:Cx} {pins:List (Addr × Obj)} {σ:List (Option V)} {H H':Hp} {s:Shared} {h':Heap}

theorem Cx.Ok.nofr (ok:X.Ok) {b:Addr} {o:Obj} (e:X.base.get? b=some o):b ∉ X.fs:=fun hb=>by
  have:=(ok.funs.mem hb).1
  rw [e] at this; cases this
theorem Inv.bs (I:Inv X pins σ H s):∀ b o,X.base.get? b=some o→s.heap.get? b=some o∧H b=none:=fun b o e =>
  ⟨I.base.keep b o (I.ok.bs b o e).1 (I.ok.bs b o e).2 (I.ok.nofr e) (I.ok.noex b o e),I.base.free b o (I.ok.bs b o e).1 (I.ok.bs b o e).2 (I.ok.noex b o e)⟩
theorem Inv.bk (I:Inv X pins σ H s):∀ b o,X.base.get? b=some o→s.heap.get? b=some o:=fun b o e=>(I.bs b o e).1
theorem Inv.mod (I:Inv X pins σ H s):Mod X.K X.mg X.base:=I.ok.mod
theorem Inv.kIn (I:Inv X pins σ H s):X.K.In s.heap:=I.ok.mod.kin.keeps I.bk
theorem Inv.nolimit (I:Inv X pins σ H s):s.heap.NoLimit:=I.ok.mod.nolimit.keeps I.bk
theorem Inv.fr (I:Inv X pins σ H s):∃ m,Fr X.base X.env.locals s.heap m :=
  let ⟨m,hn,_⟩:=I.loc
  ⟨m,hn,I.bk,Nat.le_trans I.ok.bsz I.ok.above⟩
theorem Inv.lt (I:Inv X pins σ H s):X.env.locals < s.heap.objs.size:=let ⟨_,hn,_⟩:=I.loc; hn.lt
theorem Inv.sz (I:Inv X pins σ H s):X.s₀.heap.objs.size≤s.heap.objs.size:=Nat.le_trans I.ok.above (Nat.le_of_lt I.lt)
theorem Inv.nofs (I:Inv X pins σ H s) {a:Addr} (h:s.heap.objs.size≤a):a ∉ X.fs:=fun hb=>by
  obtain ⟨_,o,ho,_⟩:=I.ok.funs.mem hb
  exact absurd (Nat.lt_of_lt_of_le (Heap.lt_size ho) (Nat.le_trans I.sz h)) (Nat.lt_irrefl _)
theorem Inv.cne (I:Inv X pins σ H s):∀ x c,X.env.cells.lookup x=some c→c ≠ X.env.locals:=fun x c e z=>by
  obtain ⟨v,o,ho,hd⟩:=I.cell x c e
  obtain ⟨m,⟨o',es,ep,ho',hd',_⟩,_⟩:=I.loc
  rw [z,ho'] at ho; cases ho; rw [hd'] at hd; cases hd
theorem Inv.funs (I:Inv X pins σ H s):s.heap.FunFrames X.base X.outer:=by
  have all:∀ (l:List Env),(∀ b ∈ frs l,b ∈ X.fs)→X.s₀.heap.FunFrames X.base l→s.heap.FunFrames X.base l:=by
    intro l
    induction l with
    | nil=>intro _ _; trivial
    | cons env r ih =>
      intro hs hl
      obtain ⟨hk,⟨L,o,hf,hn,ho,hd⟩,hr⟩:=hl
      have hL:L ∈ X.fs:=hs L (by unfold frs; rw [List.filterMap_cons,hf]; exact List.mem_cons_self)
      obtain ⟨sl,e⟩:=I.base.slot L o ho (I.ok.frf L hL) hL fun z=>I.ok.exfs L z hL
      exact ⟨hk,⟨L,_,hf,hn,e,hd⟩,ih (fun b hb=>hs b (by unfold frs; rw [List.filterMap_cons,hf]; exact List.mem_cons_of_mem _ hb)) hr⟩
  exact all X.outer (fun _ hb=>hb) I.ok.funs

theorem Inv.stack (I:Inv X pins σ H s):s.heap.FunFrames X.base X.stack:=by
  rcases I.ok.stk with e | ⟨e,hf⟩
  · rw [e]; exact I.funs
  · rw [e]
    obtain ⟨m,hn,_⟩:=I.loc
    refine .cons (by rw [I.ok.kind]; decide) hf hn ?_ I.funs
    exact Heap.get?_none_of_le (Nat.le_trans I.ok.bsz I.ok.above)
theorem Inv.stkSub (I:Inv X pins σ H s):∀ b ∈ frs X.stack,b ∈ X.env.locals::X.fs:=fun b hb=>by
  rcases I.ok.stk with e | ⟨e,hf⟩
  · rw [e] at hb; exact List.mem_cons_of_mem _ hb
  · rw [e] at hb
    unfold frs at hb
    rw [List.filterMap_cons,hf] at hb
    exact hb
theorem Inv.stkFree (I:Inv X pins σ H s):∀ b ∈ frs X.stack,H b=none:=fun b hb=>by
  rcases List.mem_cons.mp (I.stkSub b hb) with e | hb
  · rw [e]; exact I.free
  · obtain ⟨_,o,ho,_⟩:=I.ok.funs.mem hb
    exact I.base.free b o ho (I.ok.frf b hb) fun z=>I.ok.exfs b z hb

theorem Inv.step {g':Array GenState} {t':Nat} {d':Drawn} {ch:List Addr} (I:Inv X pins σ H s)
    (hch:∀ b ∈ ch,(b ∈ X.ex ∨ X.s₀.heap.objs.size≤b)∧b ≠ X.env.locals∧(∀ x c,X.env.cells.lookup x=some c→c ≠ b)∧∀ p ∈ X.pn++pins,p.1 ≠ b)
    (keep:∀ b o,b ≠ X.env.locals→b ∉ X.fs→b ∉ ch→s.heap.get? b=some o→H b=none→h'.get? b=some o)
    (slot:∀ b o,b ≠ X.env.locals→b ∈ X.fs→b ∉ ch→s.heap.get? b=some o→H b=none→∃ sl,h'.get? b=some { o with slots:=sl }) (free:∀ b o,b ∉ ch→s.heap.get? b=some o→H b=none→H' b=none)
    (there:∀ b o,b ∉ ch→s.heap.get? b=some o→∃ o',h'.get? b=some o')
    (tups:∀ b xs,H b=some (.tup xs)→H' b=some (.tup xs)) (frzs:∀ b o u,H b=some (.frz o u)→H' b=some (.frz o u)) (tbls:∀ b ps,H b=some (.tbl ps)→∃ more,H' b=some (.tbl (ps++more)))
    (ns:∀ m,s.heap.Ns X.env.locals m→h'.Ns X.env.locals m) (hok:HOk X.prog X.w H' h') (hg:AllBare g') :
    Inv X pins σ H' { s with heap:=h',gens:=g',drawn:=d',toks:=t' }:=by
  have neL:∀ b o,X.s₀.heap.get? b=some o→b ≠ X.env.locals:=fun b o e=>Nat.ne_of_lt (Nat.lt_of_lt_of_le (Heap.lt_size e) I.ok.above)
  have neC:∀ b o,X.s₀.heap.get? b=some o→b ∉ X.ex→b ∉ ch:=fun b o e hx hb=>by
    rcases (hch b hb).1 with z | z
    · exact hx z
    · exact absurd (Nat.lt_of_lt_of_le (Heap.lt_size e) z) (Nat.lt_irrefl _)
  have cellK:∀ x c,X.env.cells.lookup x=some c→∀ v,s.heap.IsCell c v→h'.IsCell c v:=fun x c e v ⟨o,ho,hd⟩=>by
    have nch:c ∉ ch:=fun z=>(hch c z).2.2.1 x c e rfl
    by_cases hc:c ∈ X.fs
    · obtain ⟨sl,q⟩:=slot c o (I.cne x c e) hc nch ho (I.freeC x c e)
      exact ⟨_,q,hd⟩
    · exact ⟨o,keep c o (I.cne x c e) hc nch ho (I.freeC x c e),hd⟩
  refine ⟨I.ok,I.os,hg,⟨fun b o e n hb hx=>?_,fun b o e n hb hx=>?_,fun b o e n hx=>?_,fun b o e hx=>?_,fun b xs e=>tups b xs (I.base.tups b xs e),fun b o xs e=>frzs b o xs (I.base.frzs b o xs e),fun b ps e=>?_⟩,?_,fun x c e=>?_,?_,fun x c e=>?_,fun p hp=>?_,hok,I.len⟩
  · exact keep b o (neL b o e) hb (neC b o e hx) (I.base.keep b o e n hb hx) (I.base.free b o e n hx)
  · obtain ⟨sl,e1⟩:=I.base.slot b o e n hb hx
    obtain ⟨sl',e2⟩:=slot b _ (neL b o e) hb (neC b o e hx) e1 (I.base.free b o e n hx)
    exact ⟨sl',e2⟩
  · obtain ⟨o',e1⟩:=I.base.there b o e hx
    exact free b o' (neC b o e hx) e1 (I.base.free b o e n hx)
  · obtain ⟨o',e1⟩:=I.base.there b o e hx
    exact there b o' (neC b o e hx) e1
  · obtain ⟨m1,e1⟩:=I.base.tbls b ps e
    obtain ⟨m2,e2⟩:=tbls b _ e1
    exact ⟨m1++m2,by rw [e2,Array.append_assoc]⟩
  · obtain ⟨m,hn,hl⟩:=I.loc
    refine ⟨m,ns m hn,fun i x v e1 e2 e3=>?_⟩
    obtain ⟨u,r,l⟩:=hl i x v e1 e2 e3
    refine ⟨u,r,?_⟩
    rcases l with l | ⟨k,c,e,z⟩
    · exact .inl l
    · exact .inr ⟨k,c,e,cellK x c e _ z⟩
  · obtain ⟨v,z⟩:=I.cell x c e
    exact ⟨v,cellK x c e v z⟩
  · obtain ⟨m,⟨o,_,_,ho,_⟩,_⟩:=I.loc
    exact free _ o (fun z=>(hch _ z).2.1 rfl) ho I.free
  · obtain ⟨v,o,ho,hd⟩:=I.cell x c e
    exact free c o (fun z=>(hch c z).2.2.1 x c e rfl) ho (I.freeC x c e)
  · obtain ⟨e,n,ne,nf,d⟩:=I.pin p hp
    have nch:p.1 ∉ ch:=fun z=>(hch p.1 z).2.2.2 p hp rfl
    exact ⟨keep p.1 p.2 ne nf nch e n,free p.1 p.2 nch e n,ne,nf,d⟩
theorem Inv.un {t':Nat} (I:Inv X pins σ H s) (u:Un X.fs [] H H' s.heap h') (hok:HOk X.prog X.w H' h'):Inv X pins σ H' { s with heap:=h',toks:=t' }:=by
  obtain ⟨m,⟨o,es,ep,ho,r⟩,_⟩:=id I.loc
  obtain ⟨sl,hL⟩:=u.any ho I.free (by simp)
  exact I.step (g':=s.gens) (d':=s.drawn) (ch:=[]) (fun _ z=>nomatch z) (fun b o _ hb _ e n=>u.keep b o e n hb (by simp)) (fun b o _ hb _ e n=>u.slot b o e n hb (by simp)) (fun b o _ e n=>u.free b o e n (by simp)) (fun b o _ e=>u.there b o e (by simp)) u.tups u.frzs u.tbls (fun m' hm=>by
    obtain ⟨o',es',ep',ho',r'⟩:=hm
    rw [ho] at ho'; cases ho'
    exact ⟨_,es',ep',hL,r'⟩) hok I.bare
theorem Inv.call {g':Array GenState} {t':Nat} {d':Drawn} {ch:List Addr} (I:Inv X pins σ H s) (u:Un (frs X.stack) ch H H' s.heap h') (hok:HOk X.prog X.w H' h') (hg:AllBare g')
    (hch:∀ b ∈ ch,(b ∈ X.ex ∨ X.s₀.heap.objs.size≤b)∧b ≠ X.env.locals∧(∀ x c,X.env.cells.lookup x=some c→c ≠ b)∧∀ p ∈ X.pn++pins,p.1 ≠ b) :
    Inv X pins σ H' { s with heap:=h',gens:=g',drawn:=d',toks:=t' }:=by
  obtain ⟨m,⟨o,es,ep,ho,r⟩,_⟩:=id I.loc
  obtain ⟨sl,hL⟩:=u.any ho I.free fun z=>(hch _ z).2.1 rfl
  exact I.step (ch:=ch) hch (fun b o hL hb hc e n=>u.keep b o e n (fun z=>(List.mem_cons.mp (I.stkSub b z)).elim hL hb) hc) (fun b o _ _ hc e n=>u.any e n hc) (fun b o hc e n=>u.free b o e n hc) (fun b o hc e=>u.there b o e hc) u.tups u.frzs u.tbls (fun m' hm=>by
    obtain ⟨o',es',ep',ho',r'⟩:=hm
    rw [ho] at ho'; cases ho'
    exact ⟨_,es',ep',hL,r'⟩) hok hg
theorem Inv.turned {t':Nat} {it:Addr} (I:Inv X pins σ H s) (k:∀ b o,b ≠ it→s.heap.get? b=some o→h'.get? b=some o) (hn:H it=none) (hL:it ≠ X.env.locals)
    (h1:it ∈ X.ex ∨ X.s₀.heap.objs.size≤it) (h2:∀ x c,X.env.cells.lookup x=some c→c ≠ it) (h3:∀ p ∈ X.pn++pins,p.1 ≠ it):Inv X pins σ H { s with heap:=h',toks:=t' }:=by
  have nit:∀ b u,H b=some u→b ≠ it:=fun b u e z=>by rw [z,hn] at e; cases e
  refine I.step (g':=s.gens) (d':=s.drawn) (ch:=[it]) (fun b hb=>?_) (fun b o _ _ hc e _=>k b o (fun z=>hc (by simp [z])) e) (fun b o _ _ hc e _=>⟨o.slots,k b o (fun z=>hc (by simp [z])) e⟩) (fun _ _ _ _ n=>n)
    (fun b o hc e=>⟨o,k b o (fun z=>hc (by simp [z])) e⟩) (fun _ _ e=>e) (fun _ _ _ e=>e) (fun b ps e=>⟨#[],by rw [e]; simp⟩) (fun m hm=>?_) (fun b u e=>?_) I.bare
  · have e:b=it:=by simpa using hb
    subst e
    exact ⟨h1,hL,h2,h3⟩
  · obtain ⟨o,es,ep,ho,r⟩:=hm
    exact ⟨o,es,ep,k _ o (Ne.symm hL) ho,r⟩
  · refine (I.hok b u e).stay (fun c v hc q=>k c v ?_ q) (fun _ q=>q) fun _ _ q=>q
    rcases hc with z | z
    · rw [z]; exact nit b u e
    · exact nit c _ z
theorem Inv.tok (I:Inv X pins σ H s) (t:Nat):Inv X pins σ H { s with toks:=t }:=I.un (h':=s.heap) (t':=t) Un.refl I.hok
theorem Inv.kept {t':Nat} (I:Inv X pins σ H s) (k:∀ b u,s.heap.get? b=some u→h'.get? b=some u):Inv X pins σ H { s with heap:=h',toks:=t' }:=I.un (Un.kept k) (I.hok.kept k)
theorem Inv.laid {a:Addr} {o:HO} {t':Nat} (I:Inv X pins σ H s) (k:∀ b u,s.heap.get? b=some u→h'.get? b=some u) (hp:s.heap.objs.size≤a) (new:ObjOk X.prog X.w (upd H a o) h' a o) :
    Inv X pins σ (upd H a o) { s with heap:=h',toks:=t' }:=I.un (Un.laid k hp (I.hok.fresh hp)) (I.hok.laid k hp new)
theorem Inv.write {x e:Addr} {o:HO} {t':Nat} (I:Inv X pins σ H s) (mu:Mut (H x)) (he:e=x ∨ H e=some (.own x)) (k:∀ b u,b ≠ e→s.heap.get? b=some u→h'.get? b=some u) (heo:∃ u,h'.get? e=some u)
    (new:ObjOk X.prog X.w (upd H x o) h' x o):Inv X pins σ (upd H x o) { s with heap:=h',toks:=t' }:=I.un (Un.write mu he k heo) (I.hok.write mu he k heo new)
theorem Inv.pins_of {pins':List (Addr × Obj)} (I:Inv X pins σ H s) (h:∀ p ∈ pins',s.heap.get? p.1=some p.2∧H p.1=none∧p.1 ≠ X.env.locals∧p.1 ∉ X.fs∧∀ v,p.2.data ≠ .cell v):Inv X pins' σ H s :=
  ⟨I.ok,I.os,I.bare,I.base,I.loc,I.cell,I.free,I.freeC,fun p hp=>(List.mem_append.mp hp).elim (fun z=>I.pin p (List.mem_append_left _ z)) (h p),I.hok,I.len⟩

theorem nodup_ix {N:List Str} (hN:N.Nodup) {i j:Nat} {x:Str} (a:N[i]?=some x) (b:N[j]?=some x):i=j:=by
  obtain ⟨h1,e1⟩:=List.getElem?_eq_some_iff.mp a
  obtain ⟨h2,e2⟩:=List.getElem?_eq_some_iff.mp b
  exact (List.getElem_inj hN).mp (e1.trans e2.symm)

theorem store_ok2 {M:Model} {A:Around} {E:Value→Shared→Prop} {i:Nat} {x:Str} {v:V} {u:Value} {Q:Unit→Shared→Prop} (I:Inv X pins σ H s) (hN:X.N.Nodup) (hi:X.N[i]?=some x) (hx:Loc X.env.scope x) (r:RelV v u)
    (h:∀ s',Inv X pins (σ.set i (some v)) H s'→(∃ a,Heap.SameBut a s.heap s'.heap∧(a=X.env.locals ∨ X.env.cells.lookup x=some a))→Q () s') (hf:X.fn x=true ∨ X.env.scope.names.lookup x=some .local:=by first | exact .inl rfl | exact .inr rfl | assumption):wpAny M A (storeName X.env x u) Q E s:=by
  obtain ⟨m,hn,hl⟩:=id I.loc
  have hcls:(X.env.scope.kind == .class || (X.env.scope.kind == .module && X.env.locals != X.env.globals))=false:=by rw [I.ok.kind]; rfl
  have hiσ:i < σ.length:=by rw [I.len]; exact (List.getElem?_eq_some_iff.mp hi).1
  have cne:=I.cne
  have tracked:∀ {a:Addr} {h':Heap},(∃ o,s.heap.get? a=some o∧H a=none)→Heap.SameBut a s.heap h'→HOk X.prog X.w H h':=fun {a h'} ha hs b ob e=>by
    obtain ⟨_,_,hfree⟩:=ha
    refine (I.hok b ob e).stay (fun c w' hc q=>(hs.2 c ?_).trans q) (fun _ q=>q) fun _ _ q=>q
    rintro rfl
    rcases hc with rfl | hc
    · rw [hfree] at e; cases e
    · rw [hfree] at hc; cases hc
  rcases hx with hk | hk
  · refine wpAny_storeName_local hk hn (fun h' hn' hs=>?_) hcls
    obtain ⟨oL,_,_,hoL,_⟩:=id hn
    refine h _ ⟨I.ok,I.os,I.bare,⟨fun b o e n hb hx=>?_,fun b o e n hb hx=>?_,I.base.free,fun b o e hx=>?_,I.base.tups,I.base.frzs,I.base.tbls⟩,⟨_,hn',fun j y v' e1 e2 e3=>?_⟩,fun y c e=>?_,I.free,I.freeC,fun p hp=>?_,tracked ⟨oL,hoL,I.free⟩ hs,by simpa using I.len⟩ ⟨_,hs,.inl rfl⟩
    · exact (hs.2 b (Nat.ne_of_lt (Nat.lt_of_lt_of_le (Heap.lt_size e) I.ok.above))).trans (I.base.keep b o e n hb hx)
    · obtain ⟨sl,e1⟩:=I.base.slot b o e n hb hx
      exact ⟨sl,(hs.2 b (Nat.ne_of_lt (Nat.lt_of_lt_of_le (Heap.lt_size e) I.ok.above))).trans e1⟩
    · obtain ⟨o',e1⟩:=I.base.there b o e hx
      exact ⟨o',(hs.2 b (Nat.ne_of_lt (Nat.lt_of_lt_of_le (Heap.lt_size e) I.ok.above))).trans e1⟩
    · by_cases hj:j=i
      · subst hj
        rw [hi] at e1; cases e1
        rw [List.getElem?_set_self hiσ] at e2
        cases e2
        exact ⟨u,r,.inl ⟨hk,by simp⟩⟩
      · rw [List.getElem?_set_ne (Ne.symm hj)] at e2
        obtain ⟨u',r',q⟩:=hl j y v' e1 e2 e3
        refine ⟨u',r',?_⟩
        rcases q with ⟨k,e⟩ | ⟨k,c,e,z⟩
        · refine .inl ⟨k,?_⟩
          have:y ≠ x:=fun e=>hj (nodup_ix hN e1 (e ▸ hi))
          simp [this,e]
        · exact .inr ⟨k,c,e,z.sameBut hs (cne y c e)⟩
    · obtain ⟨w',z⟩:=I.cell y c e
      exact ⟨w',z.sameBut hs (cne y c e)⟩
    · obtain ⟨e,n,ne,nf,d⟩:=I.pin p hp
      exact ⟨(hs.2 p.1 ne).trans e,n,ne,nf,d⟩
  · have hfn:X.fn x=true:=by
      rcases hf with z | z
      · exact z
      · rw [z] at hk; cases hk
    obtain ⟨c,hc⟩:=I.ok.has x (.inl hk)
    obtain ⟨w',z⟩:=I.cell x c hc
    refine wpAny_storeName_cell I.ok.kind hk hc z (fun h' hc' hs=>?_)
    obtain ⟨oc,hoc,hocd⟩:=id z
    refine h { s with heap:=h' } ⟨I.ok,I.os,I.bare,⟨fun b o e n hb hx=>?_,fun b o e n hb hx=>?_,I.base.free,fun b o e hx=>?_,I.base.tups,I.base.frzs,I.base.tbls⟩,⟨m,hn.sameBut hs (Ne.symm (cne x c hc)),fun j y v' e1 e2 e3=>?_⟩,fun y c' e=>?_,I.free,I.freeC,fun p hp=>?_,tracked ⟨oc,hoc,I.freeC x c hc⟩ hs,by simpa using I.len⟩ ⟨c,hs,.inr hc⟩
    · exact (hs.2 b (Nat.ne_of_lt (Nat.lt_of_lt_of_le (Heap.lt_size e) (I.ok.cab x c hfn hc)))).trans (I.base.keep b o e n hb hx)
    · obtain ⟨sl,e1⟩:=I.base.slot b o e n hb hx
      exact ⟨sl,(hs.2 b (Nat.ne_of_lt (Nat.lt_of_lt_of_le (Heap.lt_size e) (I.ok.cab x c hfn hc)))).trans e1⟩
    · obtain ⟨o',e1⟩:=I.base.there b o e hx
      exact ⟨o',(hs.2 b (Nat.ne_of_lt (Nat.lt_of_lt_of_le (Heap.lt_size e) (I.ok.cab x c hfn hc)))).trans e1⟩
    · by_cases hj:j=i
      · subst hj
        rw [hi] at e1; cases e1
        rw [List.getElem?_set_self hiσ] at e2
        cases e2
        exact ⟨u,r,.inr ⟨.inl hk,c,hc,hc'⟩⟩
      · rw [List.getElem?_set_ne (Ne.symm hj)] at e2
        obtain ⟨u',r',q⟩:=hl j y v' e1 e2 e3
        refine ⟨u',r',?_⟩
        rcases q with q | ⟨k,c',e,z'⟩
        · exact .inl q
        · refine .inr ⟨k,c',e,z'.sameBut hs ?_⟩
          rintro rfl
          exact hj (nodup_ix hN e1 (I.ok.inj _ _ _ e hc ▸ hi))
    · by_cases hcc:c'=c
      · subst hcc; exact ⟨_,hc'⟩
      · obtain ⟨w2,z2⟩:=I.cell y c' e
        exact ⟨w2,z2.sameBut hs hcc⟩
    · obtain ⟨e,n,ne,nf,d⟩:=I.pin p hp
      refine ⟨(hs.2 p.1 ?_).trans e,n,ne,nf,d⟩
      intro q
      rw [q,hoc] at e
      have q':oc=p.2:=Option.some.inj e
      exact d w' (by rw [← q']; exact hocd)
theorem store_ok {M:Model} {A:Around} {E:Value→Shared→Prop} {i:Nat} {x:Str} {v:V} {u:Value} {Q:Unit→Shared→Prop} (I:Inv X pins σ H s) (hN:X.N.Nodup) (hi:X.N[i]?=some x) (hx:Loc X.env.scope x) (r:RelV v u)
    (h:∀ s',Inv X pins (σ.set i (some v)) H s'→Q () s') (hf:X.fn x=true ∨ X.env.scope.names.lookup x=some .local:=by first | exact .inl rfl | exact .inr rfl | assumption):wpAny M A (storeName X.env x u) Q E s :=
  store_ok2 I hN hi hx r (fun s' I' _=>h s' I') hf
theorem Inv.call' {s':Shared} {ch:List Addr} (I:Inv X pins σ H s) (ho:s'.os=s.os) (u:Un (frs X.stack) ch H H' s.heap s'.heap) (hok:HOk X.prog X.w H' s'.heap) (hg:AllBare s'.gens)
    (hch:∀ b ∈ ch,(b ∈ X.ex ∨ X.s₀.heap.objs.size≤b)∧b ≠ X.env.locals∧(∀ x c,X.env.cells.lookup x=some c→c ≠ b)∧∀ p ∈ X.pn++pins,p.1 ≠ b):Inv X pins σ H' s':=by
  obtain ⟨h',g',d',t',o'⟩:=s'
  have e:o'=s.os:=ho
  subst e
  exact I.call (g':=g') (t':=t') (d':=d') u hok hg hch
end

abbrev XK:=Value→Option Addr→Hp→Prop
abbrev St:=List (Option V)
abbrev VK:=V→Hp→Prop
abbrev TE:=St→Hp→VK→Prop
abbrev TT:=St→Hp→(Bool→Hp→Prop)→Prop
abbrev TA:=St→Hp→(List V→Hp→Prop)→Prop
structure Ends where
  nx:St→Hp→Prop
  rt:VK
  bk:St→Hp→Prop:=fun _ _=>False
  ct:St→Hp→Prop:=fun _ _=>False
abbrev TS:=Ends→St→Hp→Prop

def EP (X:Cx) (pins:List (Addr × Obj)) (σ:St) (Q:VK) (u:Value) (s':Shared):Prop:=∃ v H',Inv X pins σ H' s'∧RelV v u∧Q v H'
def TP (X:Cx) (pins:List (Addr × Obj)) (σ:St) (Q:Bool→Hp→Prop) (b:Bool) (s':Shared):Prop:=∃ H',Inv X pins σ H' s'∧Q b H'
def AP (X:Cx) (pins:List (Addr × Obj)) (σ:St) (Q:List V→Hp→Prop) (us:List Value) (s':Shared):Prop:=∃ vs H',Inv X pins σ H' s'∧Vals vs us∧Q vs H'
def SP (X:Cx) (pins:List (Addr × Obj)) (D:Ends) (f:Flow) (s':Shared):Prop :=
  match f with
  | .next=>∃ σ' H',Inv X pins σ' H' s'∧D.nx σ' H'
  | .brk=>∃ σ' H',Inv X pins σ' H' s'∧D.bk σ' H'
  | .cont=>∃ σ' H',Inv X pins σ' H' s'∧D.ct σ' H'
  | .ret u=>∃ v σ' H',Inv X pins σ' H' s'∧RelV v u∧D.rt v H'

def PE (X:Cx) (e:Expr) (t:TE):Prop :=
  ∀ (pins:List (Addr × Obj)) (s:Shared) (σ:St) (H:Hp) (Q:VK),Inv X pins σ H s→t σ H Q→wpAny (model X.prog X.w) X.A (eval e X.env) (EP X pins σ Q) X.xe s
def PT (X:Cx) (e:Expr) (t:TT):Prop :=
  ∀ (pins:List (Addr × Obj)) (s:Shared) (σ:St) (H:Hp) (Q:Bool→Hp→Prop),Inv X pins σ H s→t σ H Q→wpAny (model X.prog X.w) X.A (isTrue e X.env (eval e X.env)) (TP X pins σ Q) X.xe s
def PW (X:Cx) (e:Expr) (t:TT):Prop :=
  ∀ (whole:Sem Value) (pins:List (Addr × Obj)) (s:Shared) (σ:St) (H:Hp) (Q:Bool→Hp→Prop),Inv X pins σ H s→t σ H Q→wpAny (model X.prog X.w) X.A (isTrue e X.env whole) (TP X pins σ Q) X.xe s
theorem PW.pt {X:Cx} {e:Expr} {t:TT} (h:PW X e t):PT X e t:=h _
def PA (X:Cx) (es:List Expr) (t:TA):Prop :=
  ∀ (pos:Pos) (pins:List (Addr × Obj)) (s:Shared) (σ:St) (H:Hp) (Q:List V→Hp→Prop),Inv X pins σ H s→t σ H Q→wpAny (model X.prog X.w) X.A (spliced (backTo pos (starEach es X.env))) (AP X pins σ Q) X.xe s
def PS (X:Cx) (st:Stmt) (t:TS):Prop :=
  ∀ (pins:List (Addr × Obj)) (s:Shared) (σ:St) (H:Hp) (D:Ends),Inv X pins σ H s→t D σ H→wpAny (model X.prog X.w) X.A (exec st X.env) (SP X pins D) X.xe s
def PSs (X:Cx) (st:List Stmt) (t:TS):Prop :=
  ∀ (pins:List (Addr × Obj)) (s:Shared) (σ:St) (H:Hp) (D:Ends),Inv X pins σ H s→t D σ H→wpAny (model X.prog X.w) X.A (execs st X.env) (SP X pins D) X.xe s
theorem thn {α:Type} {t:Sem α} {Q Q':α→Shared→Prop} {M:Model} {A:Around} {E:Value→Shared→Prop} {s:Shared} (h:wpAny M A t Q E s) (hQ:∀ a s,Q a s→Q' a s):wpAny M A t Q' E s:=wpAny_mono h hQ fun _ _ x=>x
end L2

namespace L2
open PySem PySem.Spec PyProof.Rows
section
variable {X:Cx}

def tVar (i:Nat):TE:=fun σ H Q=>∃ v,σ[i]?=some (some v)∧Q v H
def tC (v:V):TE:=fun _ H Q=>Q v H
theorem pe_var {i:Nat} {x:Str} {pos:Pos} (hN:X.N[i]?=some x) (hv:Vis X.env.scope x) (hd:(x == ("__debug__":Str))=false:=by decide) (hcd:(x == ("__classdict__":Str))=false:=by decide):PE X (.Name x pos) (tVar i):=by
  intro pins s σ H Q I h
  obtain ⟨v,e,h⟩:=h
  obtain ⟨m,hn,hl⟩:=I.loc
  obtain ⟨u,r,l⟩:=hl i x v hN e hv
  have fin:EP X pins σ Q u s:=⟨v,H,I,r,h⟩
  rcases l with ⟨hk,hm⟩ | ⟨hk,c,hc,hcell⟩
  · exact wpAny_Name (wpAny_loadName_local I.ok.kind hk hn hm fin) hd
  · rcases hk with hk | hk
    · exact wpAny_Name (wpAny_loadName_cell I.ok.kind hk hc hcell fin) hd
    · exact wpAny_Name (wpAny_loadName_free I.ok.kind hk hc hcell fin hcd) hd
theorem pe_int {i j pos}:PE X (.Constant (.int i) j pos) (tC (.int i)):=fun _ _ _ H _ I h=>wpAny_Constant_int ⟨.int i,H,I.tok _,⟨_,rfl⟩,h⟩
theorem pe_bl {b j pos}:PE X (.Constant (.bool b) j pos) (tC (.bl b)):=fun _ _ _ H _ I h=>Constant_bool ⟨.bl b,H,I,rfl,h⟩
theorem pe_non {j pos}:PE X (.Constant .none j pos) (tC .non):=fun _ _ _ H _ I h=>Constant_none ⟨.non,H,I,rfl,h⟩
theorem pe_str {x j pos}:PE X (.Constant (.str x) j pos) (tC (.str x)):=fun _ _ _ H _ I h=>Calls.Constant_str ⟨.str x,H,I.tok _,⟨_,rfl⟩,h⟩

def Gl (X:Cx) (x:Str):Prop:=X.env.kindOf x=some .globalImplicit
theorem ld_glob {E:Value→Shared→Prop} {pins:List (Addr × Obj)} {s:Shared} {σ:St} {H:Hp} {x:Str} {u:Value} {pos:Pos} {Q:Value→Shared→Prop} (I:Inv X pins σ H s) (hg:Gl X x) (hm:X.mg x=some u) (h:Q u s)
    (hd:(x == ("__debug__":Str))=false:=by decide):wpAny (model X.prog X.w) X.A (eval (.Name x pos) X.env) Q E s :=
  Calls.Name_function_global I.ok.kind hg (Calls.loadGlobal_global (by rw [I.ok.glob]; exact I.mod.glob.keeps I.bk) hm h) hd
theorem ld_blt {E:Value→Shared→Prop} {pins:List (Addr × Obj)} {s:Shared} {σ:St} {H:Hp} {x:Str} {u:Value} {pos:Pos} {Q:Value→Shared→Prop} (I:Inv X pins σ H s) (hg:Gl X x) (hm:X.mg x=none) (hv:bootBuiltins x=some u) (h:Q u s)
    (hn:x ≠ "__name__":=by decide) (hd:(x == ("__debug__":Str))=false:=by decide):wpAny (model X.prog X.w) X.A (eval (.Name x pos) X.env) Q E s:=by
  obtain ⟨mb,h1,h2⟩:=I.mod.blt
  exact Calls.Name_function_global I.ok.kind hg (Calls.loadGlobal_builtin (by rw [I.ok.glob]; exact I.mod.glob.keeps I.bk) hm (by rw [I.ok.blt]; exact h1.keeps I.bk) ((h2 x hn).trans hv) h) hd
theorem pe_glob {x:Str} {v:V} {u:Value} {pos:Pos} (hg:Gl X x) (hm:X.mg x=some u) (r:RelV v u) (hd:(x == ("__debug__":Str))=false:=by decide):PE X (.Name x pos) (tC v) :=
  fun _ _ _ H _ I h=>ld_glob I hg hm ⟨v,H,I,r,h⟩ hd
theorem pe_bltn {x:Str} {v:V} {u:Value} {pos:Pos} (hg:Gl X x) (hm:X.mg x=none) (hv:bootBuiltins x=some u) (r:RelV v u) (hn:x ≠ "__name__":=by decide) (hd:(x == ("__debug__":Str))=false:=by decide):PE X (.Name x pos) (tC v) :=
  fun _ _ _ H _ I h=>ld_blt I hg hm hv ⟨v,H,I,r,h⟩ hn hd

variable {a b:Expr} {ta tb:TE} {pos:Pos}
def tB (t:TE):TT:=fun σ H Q=>t σ H fun x H1=>∃ c,x=.bl c∧Q c H1
theorem pt_val {e:Expr} {t:TE} (h:PE X e t) (he:∀ whole,isTrue e X.env whole=(do let v ← whole; standAt e.pos; holding [v] (truthy v)):=by intro _; rfl):PT X e (tB t):=by
  intro pins s σ H Q I hw
  refine isTrue_plain (thn (h pins s σ H _ I hw) fun v s1 ⟨x,H1,I1,r1,q1⟩=>?_) (he _)
  obtain ⟨d,rfl,q⟩:=q1
  cases r1
  exact wpAny_truthy_bool ⟨H1,I1,q⟩

variable {tA tB':TT} {rest:List Expr}
def tAnd (t u:TT):TT:=fun σ H Q=>t σ H fun c H1=>if c=true then u σ H1 Q else Q false H1
def tOr (t u:TT):TT:=fun σ H Q=>t σ H fun c H1=>if c=true then Q true H1 else u σ H1 Q
def tNot (t:TT):TT:=fun σ H Q=>t σ H fun c H1=>Q (!c) H1
theorem pw_and1 (ha:PT X a tA):PW X (.BoolOp .And [a] pos) tA:=by
  intro wh pins s σ H Q I h
  refine isTrue_and (thn (ha pins s σ H Q I h) fun c s1 e=>?_)
  cases c with
  | true=>exact isTrue_and_nil e
  | false=>exact e
theorem pw_or1 (ha:PT X a tA):PW X (.BoolOp .Or [a] pos) tA:=by
  intro wh pins s σ H Q I h
  refine isTrue_or (thn (ha pins s σ H Q I h) fun c s1 e=>?_)
  cases c with
  | false=>exact isTrue_or_nil e
  | true=>exact e
theorem pw_and (ha:PT X a tA) (hb:PW X (.BoolOp .And (b::rest) pos) tB'):PW X (.BoolOp .And (a::b::rest) pos) (tAnd tA tB'):=by
  intro wh pins s σ H Q I h
  refine isTrue_and (thn (ha pins s σ H _ I h) fun c s1 ⟨H1,I1,q1⟩=>?_)
  cases c with
  | true=>exact hb wh pins s1 σ H1 Q I1 q1
  | false=>exact ⟨H1,I1,q1⟩
theorem pw_or (ha:PT X a tA) (hb:PW X (.BoolOp .Or (b::rest) pos) tB'):PW X (.BoolOp .Or (a::b::rest) pos) (tOr tA tB'):=by
  intro wh pins s σ H Q I h
  refine isTrue_or (thn (ha pins s σ H _ I h) fun c s1 ⟨H1,I1,q1⟩=>?_)
  cases c with
  | true=>exact ⟨H1,I1,q1⟩
  | false=>exact hb wh pins s1 σ H1 Q I1 q1
theorem pt_not (ha:PT X a tA):PT X (.UnaryOp .Not a pos) (tNot tA):=by
  intro pins s σ H Q I h
  exact isTrue_not (ha pins s σ H (fun c H1=>Q (!c) H1) I h)
def tAndV (ta tb:TE):TE:=fun σ H Q=>ta σ H fun x H1=>∃ c,x=.bl c∧if c=true then tb σ H1 Q else Q (.bl false) H1
theorem pe_one {op} {t:TE} (h:PE X a t):PE X (.BoolOp op [a] pos) t:=fun pins s σ H Q I hw=>BoolOp_one (h pins s σ H Q I hw)
theorem pe_and (ha:PE X a ta) (hb:PE X (.BoolOp .And (b::rest) pos) tb):PE X (.BoolOp .And (a::b::rest) pos) (tAndV ta tb):=by
  intro pins s σ H Q I h
  refine BoolOp_and (thn (ha pins s σ H _ I h) fun v s1 ⟨x,H1,I1,r1,q1⟩=>?_)
  obtain ⟨c,rfl,q1⟩:=q1
  cases r1
  refine wpAny_truthy_bool ?_
  cases c with
  | true=>exact hb pins s1 σ H1 Q I1 q1
  | false=>exact ⟨.bl false,H1,I1,rfl,q1⟩
def tIf (t:TT) (ta tb:TE):TE:=fun σ H Q=>t σ H fun c H1=>if c=true then ta σ H1 Q else tb σ H1 Q
theorem pe_ifExp {c:Expr} (hc:PT X c tA) (ha:PE X a ta) (hb:PE X b tb):PE X (.IfExp c a b pos) (tIf tA ta tb):=by
  intro pins s σ H Q I h
  refine wpAny_IfExp (thn (hc pins s σ H _ I h) fun d s1 ⟨H1,I1,q1⟩=>?_)
  cases d with
  | true=>exact ha pins s1 σ H1 Q I1 q1
  | false=>exact hb pins s1 σ H1 Q I1 q1
end
end L2

namespace L2
open PySem PySem.Spec PyProof.Rows

def SqL (K:PySem.W.Frag) (H:Hp) (a:Addr) (xs:List V):Prop :=
  Rd H a (.lst xs) ∨
    ∃ (o:Obj) (its:Array Value) (n:Nat),K.lookup a=some o∧o.cls=.type "list"∧o.dict=none∧o.data=.seq its n∧its.size≤sizeLine∧Vals xs its.toList
def SqT (K:PySem.W.Frag) (H:Hp) (a:Addr) (xs:List V):Prop :=
  Rd H a (.tup xs) ∨
    ∃ (o:Obj) (its:Array Value) (n:Nat),K.lookup a=some o∧o.cls=.type "tuple"∧o.dict=none∧o.data=.seq its n∧its.size≤sizeLine∧Vals xs its.toList
def absV:Value→Option V
  | .none=>some .non
  | .bool b=>some (.bl b)
  | .int i _=>some (.int i)
  | .str x _=>some (.str x)
  | .bytes b _=>some (.byt b)
  | .float b _=>some (.flt b)
  | .ref a=>some (.ref a)
  | .type n=>some (.ty n)
  | _=>none
theorem RelV.abs {x:V} {u:Value} (r:RelV x u):absV u=some x:=by
  cases x with
  | non=>cases r; rfl
  | bl _=>cases r; rfl
  | int _=>obtain ⟨t,rfl⟩:=r; rfl
  | str _=>obtain ⟨t,rfl⟩:=r; rfl
  | byt _=>obtain ⟨t,rfl⟩:=r; rfl
  | flt _=>obtain ⟨t,rfl⟩:=r; rfl
  | ref _=>cases r; rfl
  | ty _=>cases r; rfl
theorem RelV.inj {x y:V} {u:Value} (r:RelV x u) (q:RelV y u):x=y:=Option.some.inj (r.abs.symm.trans q.abs)
theorem Vals.inj:∀ {xs ys:List V} {us:List Value},Vals xs us→Vals ys us→xs=ys
  | _,_,_,.nil,.nil=>rfl
  | _,_,_,.cons r t,.cons r' t'=>by rw [r.inj r',Vals.inj t t']
section
variable {X:Cx} {pins:List (Addr × Obj)} {σ:St} {H:Hp} {s:Shared} {a:Addr} {xs ys:List V}
theorem SqL.of {K:PySem.W.Frag} (h:H a=some (.lst xs)):SqL K H a xs:=.inl (.inl h)
theorem SqT.of {K:PySem.W.Frag} (h:H a=some (.tup xs)):SqT K H a xs:=.inl (.inl h)
theorem Inv.list (I:Inv X pins σ H s) (h:SqL X.K H a xs):∃ its:List Value,Vals xs its∧PlainL s.heap a its.toArray∧xs.length≤sizeLine:=by
  rcases h with h | ⟨o,its,n,hk,hc,hd,hs,hz,r⟩
  · obtain ⟨z,its,n,r,e⟩:=h.ok I.hok
    exact ⟨its,r,⟨_,n,e,rfl,rfl,rfl⟩,z⟩
  · refine ⟨its.toList,r,⟨o,n,I.kIn a o hk,hc,hd,by simpa using hs⟩,?_⟩
    have e:=r.length
    simp only [Array.length_toList] at e
    omega
theorem Inv.tuple (I:Inv X pins σ H s) (h:SqT X.K H a xs):∃ its:List Value,Vals xs its∧IsTup s.heap a its.toArray∧xs.length≤sizeLine:=by
  rcases h with h | ⟨o,its,n,hk,hc,_,hs,hz,r⟩
  · obtain ⟨z,its,r,p⟩:=h.ok I.hok
    exact ⟨its,r,p.tup,z⟩
  · refine ⟨its.toList,r,⟨o,I.kIn a o hk,hc,n,by simpa using hs⟩,?_⟩
    have e:=r.length
    simp only [Array.length_toList] at e
    omega
theorem Inv.tupleN (I:Inv X pins σ H s) (h:SqT X.K H a xs):∃ o,s.heap.get? a=some o∧o.cls=.type "tuple"∧o.dict=none:=by
  rcases h with h | ⟨o,its,n,hk,hc,hd,_⟩
  · obtain ⟨z,its,r,⟨o,e,c,n,_,d⟩⟩:=h.ok I.hok
    exact ⟨o,e,c,d⟩
  · exact ⟨o,I.kIn a o hk,hc,hd⟩
theorem Inv.list_inj (I:Inv X pins σ H s) (h:SqL X.K H a xs) (h':SqL X.K H a ys):xs=ys:=by
  obtain ⟨its,r,⟨o,n,e,_,_,d⟩,_⟩:=I.list h
  obtain ⟨its',r',⟨o',n',e',_,_,d'⟩,_⟩:=I.list h'
  rw [e] at e'; cases e'
  rw [d] at d'
  injection d' with d1 _
  have:its=its':=by simpa using congrArg Array.toList d1
  subst this
  exact r.inj r'
theorem Inv.tuple_inj (I:Inv X pins σ H s) (h:SqT X.K H a xs) (h':SqT X.K H a ys):xs=ys:=by
  obtain ⟨its,r,⟨o,e,_,n,d⟩,_⟩:=I.tuple h
  obtain ⟨its',r',⟨o',e',_,n',d'⟩,_⟩:=I.tuple h'
  rw [e] at e'; cases e'
  rw [d] at d'
  injection d' with d1 _
  have:its=its':=by simpa using congrArg Array.toList d1
  subst this
  exact r.inj r'
end

abbrev Cx.wish (X:Cx) (E:Value→Shared→Prop):Cx:={ X with xe:=E }
abbrev Cx.nox (X:Cx):Cx:=X.wish fun _ _=>False
theorem Cx.Ok.wish {X:Cx} (ok:X.Ok) (E:Value→Shared→Prop):(X.wish E).Ok :=
  ⟨ok.mod,ok.kind,ok.glob,ok.blt,ok.above,ok.inj,ok.has,ok.cab,ok.hd,ok.frames,ok.stk,ok.exf,ok.bs,ok.bsz,ok.noex,ok.exfs,ok.funs,ok.frf⟩
theorem Cx.Ok.unwish {X:Cx} {E:Value→Shared→Prop} (ok:(X.wish E).Ok):X.Ok :=
  ⟨ok.mod,ok.kind,ok.glob,ok.blt,ok.above,ok.inj,ok.has,ok.cab,ok.hd,ok.frames,ok.stk,ok.exf,ok.bs,ok.bsz,ok.noex,ok.exfs,ok.funs,ok.frf⟩
section
variable {X:Cx} {pins:List (Addr × Obj)} {σ:St} {H:Hp} {s:Shared} {E:Value→Shared→Prop}
theorem Inv.wish (I:Inv X pins σ H s) (E:Value→Shared→Prop):Inv (X.wish E) pins σ H s:=⟨I.ok.wish E,I.os,I.bare,I.base,I.loc,I.cell,I.free,I.freeC,I.pin,I.hok,I.len⟩
theorem Inv.unwish (I:Inv (X.wish E) pins σ H s):Inv X pins σ H s:=⟨I.ok.unwish,I.os,I.bare,I.base,I.loc,I.cell,I.free,I.freeC,I.pin,I.hok,I.len⟩
theorem SP.unwish {D:Ends} {f:Flow} {s':Shared} (h:SP (X.wish E) pins D f s'):SP X pins D f s':=by
  cases f with
  | next=>obtain ⟨σ',H',I,q⟩:=h; exact ⟨σ',H',I.unwish,q⟩
  | brk=>obtain ⟨σ',H',I,q⟩:=h; exact ⟨σ',H',I.unwish,q⟩
  | cont=>obtain ⟨σ',H',I,q⟩:=h; exact ⟨σ',H',I.unwish,q⟩
  | ret u=>obtain ⟨v,σ',H',I,r,q⟩:=h; exact ⟨v,σ',H',I.unwish,r,q⟩
theorem PE.nox {e:Expr} {t:TE} (h:PE X.nox e t):PE X e t:=fun pins s σ H Q I hw =>
  wpAny_mono (h pins s σ H Q (I.wish _) hw) (fun _ _ ⟨v,H',I',r,q⟩=>⟨v,H',I'.unwish,r,q⟩) fun _ _ z=>False.elim z
theorem PT.nox {e:Expr} {t:TT} (h:PT X.nox e t):PT X e t:=fun pins s σ H Q I hw =>
  wpAny_mono (h pins s σ H Q (I.wish _) hw) (fun _ _ ⟨H',I',q⟩=>⟨H',I'.unwish,q⟩) fun _ _ z=>False.elim z
theorem PSs.nox {st:List Stmt} {t:TS} (h:PSs X.nox st t):PSs X st t:=fun pins s σ H D I hw =>
  wpAny_mono (h pins s σ H D (I.wish _) hw) (fun _ _ q=>q.unwish) fun _ _ z=>False.elim z
end

section
variable {X:Cx} {st:Stmt} {rest:List Stmt} {t u:TS} {e:Expr} {te:TE} {pos:Pos}
def tNext:TS:=fun D σ H=>D.nx σ H
def tSeq (t u:TS):TS:=fun D σ H=>t { D with nx:=u D } σ H
theorem pss_nil:PSs X [] tNext:=fun _ _ σ H _ I h=>wpAny_execs_nil ⟨σ,H,I,h⟩
theorem pss_cons (h1:PS X st t) (h2:PSs X rest u):PSs X (st::rest) (tSeq t u):=by
  intro pins s σ H D I h
  refine wpAny_execs_cons (thn (h1 pins s σ H { D with nx:=u D } I h) fun f s1 q=>?_)
  cases f with
  | next =>
    obtain ⟨σ',H',I',q⟩:=q
    exact h2 pins s1 σ' H' D I' q
  | ret v=>exact q
  | brk=>exact q
  | cont=>exact q
theorem pss_one (h1:PS X st t):PSs X [st] t:=by
  intro pins s σ H D I h
  refine wpAny_execs_cons (thn (h1 pins s σ H D I h) fun f s1 q=>?_)
  cases f with
  | next=>exact wpAny_execs_nil q
  | ret v=>exact q
  | brk=>exact q
  | cont=>exact q
theorem Inv.quiet {pins:List (Addr × Obj)} {σ:St} {H:Hp} {s:Shared} (I:Inv X pins σ H s):interactive X.env=false:=by simp [interactive,I.ok.kind]
def tDrop (te:TE):TS:=fun D σ H=>te σ H fun _ H1=>D.nx σ H1
theorem ps_expr (he:PE X e te) (hs:swapsWith e none pos.line X.env=pure false:=by rfl):PS X (.Expr e pos) (tDrop te):=by
  intro pins s σ H D I h
  exact wpAny_Expr_any (thn (he pins s σ H _ I h) fun v s1 ⟨x,H1,I1,r1,q1⟩=>⟨σ,H1,I1,q1⟩) I.quiet hs
def tRet (te:TE):TS:=fun D σ H=>te σ H D.rt
theorem ps_ret (he:PE X e te):PS X (.Return (some e) pos) (tRet te):=by
  intro pins s σ H D I h
  exact wpAny_Return_some (thn (he pins s σ H _ I h) fun v s1 ⟨x,H1,I1,r1,q1⟩=>⟨x,σ,H1,I1,r1,q1⟩)
def tIfS (c:TT) (t u:TS):TS:=fun D σ H=>c σ H fun b H1=>if b=true then t D σ H1 else u D σ H1
theorem ps_if {c:Expr} {a b:List Stmt} {tc:TT} (hc:PT X c tc) (ha:PSs X a t) (hb:PSs X b u):PS X (.If c a b pos) (tIfS tc t u):=by
  intro pins s σ H D I h
  refine wpAny_If (thn (hc pins s σ H _ I h) fun d s1 ⟨H1,I1,q1⟩=>?_)
  cases d with
  | true=>exact ha pins s1 σ H1 D I1 q1
  | false=>exact hb pins s1 σ H1 D I1 q1
end

abbrev TG:=V→St→Hp→(St→Hp→Prop)→Prop
abbrev TGs:=List V→St→Hp→(St→Hp→Prop)→Prop
def PG (X:Cx) (target:Expr) (t:TG):Prop :=
  ∀ (pins:List (Addr × Obj)) (s:Shared) (σ:St) (H:Hp) (v:V) (u:Value) (Q:St→Hp→Prop),Inv X pins σ H s→RelV v u→t v σ H Q →
    wpAny (model X.prog X.w) X.A (assign target X.env u) (fun _ s'=>∃ σ' H',Inv X pins σ' H' s'∧Q σ' H') X.xe s
def PGs (X:Cx) (ts:List Expr) (t:TGs):Prop :=
  ∀ (pins:List (Addr × Obj)) (s:Shared) (σ:St) (H:Hp) (vs:List V) (us:List Value) (Q:St→Hp→Prop),Inv X pins σ H s→Vals vs us→t vs σ H Q →
    wpAny (model X.prog X.w) X.A (assignInOrder ((assignEach ts X.env).map (·.2)) us) (fun _ s'=>∃ σ' H',Inv X pins σ' H' s'∧Q σ' H') X.xe s
section
variable {X:Cx} {pos:Pos}
def gName (i:Nat):TG:=fun v σ H Q=>Q (σ.set i (some v)) H
theorem pg_name {i:Nat} {x:Str} (hN:X.N.Nodup) (hi:X.N[i]?=some x) (hx:Loc X.env.scope x) (hf:X.fn x=true ∨ X.env.scope.names.lookup x=some .local:=by first | exact .inl rfl | exact .inr rfl | assumption):PG X (.Name x pos) (gName i):=by
  intro pins s σ H v u Q I r h
  exact wpAny_assign_Name (store_ok I hN hi hx r (fun s' I'=>⟨_,H,I',h⟩) hf)
def gNil:TGs:=fun vs σ H Q=>vs=[]∧Q σ H
def gCons (t:TG) (u:TGs):TGs:=fun vs σ H Q=>∃ v r,vs=v::r∧t v σ H fun σ' H'=>u r σ' H' Q
theorem pgs_nil:PGs X [] gNil:=by
  intro pins s σ H vs us Q I r h
  obtain ⟨e,h⟩:=h
  subst e
  cases r
  exact assignInOrder_nil ⟨σ,H,I,h⟩
theorem pgs_cons {e:Expr} {es:List Expr} {t:TG} {u:TGs} (h1:PG X e t) (h2:PGs X es u)
    (hs:(assignEach (e::es) X.env).map (·.2)=assign e X.env::(assignEach es X.env).map (·.2):=by rfl):PGs X (e::es) (gCons t u):=by
  intro pins s σ H vs us Q I r h
  obtain ⟨v,vr,e1,h⟩:=h
  subst e1
  cases r with
  | cons r rr =>
    rw [hs]
    refine assignInOrder_cons (thn (h1 pins s σ H _ _ _ I r h) fun _ s1 ⟨σ1,H1,I1,q1⟩=>?_)
    exact h2 pins s1 σ1 H1 _ _ Q I1 rr q1
def gTup (K:PySem.W.Frag) (n:Nat) (t:TGs):TG:=fun v σ H Q=>∃ a xs,v=.ref a∧SqT K H a xs∧xs.length=n∧t xs σ H Q
theorem pg_tup {es:List Expr} {k:Nat} {t:TGs} {n:Nat} (hc:X.calm=true) (h:PGs X es t)
    (hn:(assignEach es X.env).length=n:=by rfl) (hst:(assignEach es X.env).findIdx? (·.1)=none:=by rfl):PG X (.Tuple es k pos) (gTup X.K n t):=by
  intro pins s σ H v u Q I r hw
  obtain ⟨a,xs,e1,hq,hl,hw⟩:=hw
  subst e1
  cases r
  obtain ⟨its,rv,ht,hz⟩:=I.tuple hq
  refine assign_Tuple_tuple (I.ok.hd hc) ht (by simp [hn,← hl,rv.length]) hst fun h' hx=>?_
  have I1:Inv X pins σ H { s with heap:=h' }:=I.kept (t':=s.toks) fun b o e=>hx b o (Nat.ne_of_lt (Heap.lt_size e)) e
  exact h pins _ σ H xs _ Q I1 (by simpa using rv) hw
def tAsg (te:TE) (g:TG):TS:=fun D σ H=>te σ H fun x H1=>g x σ H1 D.nx
theorem ps_asg {tg e:Expr} {te:TE} {g:TG} (he:PE X e te) (hg:PG X tg g) (hs:swapsWithSole [tg] e pos.line X.env=pure false:=by rfl) (hw:swappedStores [tg] e X.env=pure none:=by rfl)
    (h1:(assignEach [tg] X.env).map (·.2)=[assign tg X.env]:=by rfl):PS X (.Assign [tg] e pos) (tAsg te g):=by
  intro pins s σ H D I h
  refine wpAny_Assign_stores (thn (he pins s σ H _ I h) fun v s1 ⟨x,H1,I1,r1,q1⟩=>?_) hs hw
  rw [h1]
  exact thn (hg pins s1 σ H1 x v _ I1 r1 q1) fun _ s2 q=>q
theorem ps_set {i:Nat} {x:Str} {e:Expr} {te:TE} {pos':Pos} (hN:X.N.Nodup) (hi:X.N[i]?=some x) (hx:Loc X.env.scope x) (he:PE X e te) (hs:swapsWith e (some (.Name x pos')) pos.line X.env=pure false:=by rfl) (hf:X.fn x=true ∨ X.env.scope.names.lookup x=some .local:=by first | exact .inl rfl | exact .inr rfl | assumption) :
    PS X (.Assign [.Name x pos'] e pos) (tAsg te (gName i)):=by
  intro pins s σ H D I h
  refine wpAny_Assign_Name (thn (he pins s σ H _ I h) fun v s1 ⟨y,H1,I1,r1,q1⟩=>?_) hs
  exact store_ok I1 hN hi hx r1 (fun s2 I2=>⟨_,H1,I2,q1⟩) hf
def tPar (i j:Nat) (ta:TA):TS:=fun D σ H=>ta σ H fun vs H1=>∃ v w,vs=[v,w]∧D.nx ((σ.set i (some v)).set j (some w)) H1
theorem ps_par {i j:Nat} {x y:Str} {a b:Expr} {ta:TA} {px py pt:Pos} {kt k2 pt2} (hc:X.calm=true) (hN:X.N.Nodup) (hi:X.N[i]?=some x) (hj:X.N[j]?=some y) (hij:i ≠ j)
    (hx:X.env.scope.names.lookup x=some .local) (hy:X.env.scope.names.lookup y=some .local) (ha:PA X [a,b] ta)
    (hw:swappedStores [.Tuple [.Name x px,.Name y py] kt pt] (.Tuple [a,b] k2 pt2) X.env=pure (some [x,y]))
    (hs:swapsWithSole [.Tuple [.Name x px,.Name y py] kt pt] (.Tuple [a,b] k2 pt2) pos.line X.env=pure false:=by rfl) :
    PS X (.Assign [.Tuple [.Name x px,.Name y py] kt pt] (.Tuple [a,b] k2 pt2) pos) (tPar i j ta):=by
  intro pins s σ H D I h
  rw [exec_Assign_arm]
  refine wpAny_bind (wpAny_standAt ?_)
  rw [hs]
  refine wpAny_bind (wpAny_pure ?_)
  rw [if_neg (by decide)]
  refine wpAny_bind (Tuple_ (thn (ha _ pins s σ H _ I h) fun us s1 ⟨vs,H1,I1,r1,q1⟩=>?_))
  obtain ⟨v,w,e1,q1⟩:=q1
  subst e1
  obtain ⟨u1,u2,rfl,rv,rw'⟩:∃ u1 u2,us=[u1,u2]∧RelV v u1∧RelV w u2:=by
    cases r1 with
    | cons p q =>
      cases q with
      | cons p' q' =>
        cases q'
        exact ⟨_,_,rfl,p,p'⟩
  refine wpAny_newObj_type ?_ (by show 2≤sizeLine; decide)
  have I2:Inv X pins σ H1 { s1 with heap:=s1.heap.push { cls:=.type "tuple",data:=.seq [u1,u2].toArray } }:=I1.kept (t':=s1.toks) fun b o e=>Heap.get?_push_of_some _ e
  rw [hw]
  refine wpAny_bind (wpAny_pure ?_)
  show wpAny (model X.prog X.w) X.A (do rule "assign.swapped-stores"; let items ← unpackItems (.ref s1.heap.objs.size) 2 none; assignInOrder [fun v=>bindName X.env y v,fun v=>bindName X.env x v] items.reverse; pure Flow.next) _ _ _
  refine wpAny_bind (wpAny_rule (wpAny_bind (unpackItems_tuple (items:=#[u1,u2]) (I.ok.hd hc) (IsTup.new s1.heap _) fun h' hx'=>?_)))
  have I3:=I2.kept (h':=h') (t':=s1.toks) fun b o e=>hx' b o (Nat.ne_of_lt (Heap.lt_size e)) e
  show wpAny _ _ (assignInOrder [fun v=>bindName X.env y v,fun v=>bindName X.env x v] [u2,u1] >>= fun _=>pure Flow.next) _ _ _
  refine wpAny_bind (assignInOrder_cons (wpAny_bindName (store_ok I3 hN hj (.inl hy) rw' (fun s2 I4=>?_) (.inr hy))))
  refine assignInOrder_cons (wpAny_bindName (store_ok I4 hN hi (.inl hx) rv (fun s3 I5=>assignInOrder_nil (wpAny_pure ?_)) (.inr hx)))
  rw [List.set_comm _ _ (Ne.symm hij)] at I5
  exact ⟨_,H1,I5,q1⟩
end

section
variable {X:Cx} {pos:Pos}
def tWhile (c:TT) (tb:TS):TS:=fun D σ H=>∃ W:Nat→St→Hp→Prop,(∃ m,W m σ H)∧∀ m σ H,W m σ H →
  c σ H fun b H1=>if b=true then ∃ N:St→Hp→Prop,(∀ σ' H',N σ' H'→∃ m',m' < m∧W m' σ' H')∧tb { D with nx:=N,ct:=N,bk:=D.nx } σ H1 else D.nx σ H1
theorem ps_while {c:Expr} {body:List Stmt} {tc:TT} {tb:TS} (hp:PassesOwn (model X.prog X.w) X.A X.env X.xe) (hc:PT X c tc) (hb:PSs X body tb):PS X (.While c body [] pos) (tWhile tc tb):=by
  intro pins s σ H D I h
  obtain ⟨W,⟨m0,w0⟩,turn⟩:=h
  refine wpAny_While (codeAny_whileLoop (fun n s'=>∃ σ' H',Inv X pins σ' H' s'∧W n σ' H') ?_ m0 ⟨σ,H,I,w0⟩)
  rintro n s1 ⟨σ1,H1,I1,w1⟩
  refine wpAny_passesOwn hp (thn (hc pins s1 σ1 H1 _ I1 (turn n σ1 H1 w1)) fun b s2 ⟨H2,I2,q2⟩=>?_)
  cases b with
  | true =>
    obtain ⟨N,hN,q2⟩:=q2
    rw [if_pos rfl]
    refine wpAny_passesOwn hp (thn (hb pins s2 σ1 H2 _ I2 q2) fun f s3 q3=>?_)
    cases f with
    | next =>
      obtain ⟨σ3,H3,I3,n3⟩:=q3
      obtain ⟨m',hm,w3⟩:=hN σ3 H3 n3
      exact ⟨m',hm,σ3,H3,I3,w3⟩
    | cont =>
      obtain ⟨σ3,H3,I3,n3⟩:=q3
      obtain ⟨m',hm,w3⟩:=hN σ3 H3 n3
      exact ⟨m',hm,σ3,H3,I3,w3⟩
    | brk=>exact q3
    | ret v=>exact q3
  | false =>
    rw [if_neg Bool.false_ne_true]
    exact wpAny_execs_nil ⟨σ1,H2,I2,q2⟩
end

structure It where
  go:Nat→Hp→Prop
  yld:Nat→Hp→V→Hp→Prop
  stop:Nat→Hp→Prop
def FpOk (X:Cx) (pins:List (Addr × Obj)) (H:Hp) (b:Addr):Prop :=
  H b=none∧b ≠ X.env.locals∧b ∉ X.fs∧(b ∈ X.ex ∨ X.s₀.heap.objs.size≤b)∧(∀ x c,X.env.cells.lookup x=some c→c ≠ b)∧∀ p ∈ X.pn++pins,p.1 ≠ b
theorem Inv.fpOk {X:Cx} {pins:List (Addr × Obj)} {σ:St} {H H':Hp} {s:Shared} {b:Addr} (I:Inv X pins σ H s) (hb:s.heap.objs.size≤b) (hn:H' b=none):FpOk X pins H' b:=by
  refine ⟨hn,Nat.ne_of_gt (Nat.lt_of_lt_of_le I.lt hb),I.nofs hb,.inr (Nat.le_trans I.sz hb),fun x c e z=>?_,fun p hp z=>?_⟩
  · obtain ⟨v,q⟩:=I.cell x c e
    exact absurd (Nat.lt_of_lt_of_le q.lt (by rw [z]; exact hb)) (Nat.lt_irrefl _)
  · exact absurd (Nat.lt_of_lt_of_le (Heap.lt_size (I.pin p hp).1) (by rw [z]; exact hb)) (Nat.lt_irrefl _)
structure Turn (P:Program) (w:World) (K:PySem.W.Frag) (tg:Expr) (J:It) (fp:List Addr) (it:Addr) (tn:Nat→Heap→Prop):Prop where
  mem:it ∈ fp
  obj:∀ i h,tn i h→∀ b ∈ fp,∃ o,h.get? b=some o∧∀ v,o.data ≠ .cell v
  keep:∀ i h h',tn i h→(∀ b ∈ fp,∀ o,h.get? b=some o→h'.get? b=some o)→tn i h'
  item:∀ (X:Cx),X.prog=P→X.w=w→X.K=K→X.calm=true→∀ (i:Nat) (pins:List (Addr × Obj)) (s:Shared) (σ:St) (H:Hp) (E:Value→Shared→Prop),Inv X pins σ H s→(∀ b ∈ fp,FpOk X pins H b)→tn i s.heap→J.go i H →
    wpAny (model P w) X.A (pyNext (.ref it)) (fun r s1=>∃ u,r=some u ∧
      wpAny (model P w) X.A (letOwnedTupleGo tg (.ref it) u) (fun _ s2=>∃ x H',Inv X pins σ H' s2∧RelV x u∧J.yld i H x H'∧tn (i + 1) s2.heap∧∀ b ∈ fp,H' b=none) E s1) E s
  done:∀ (X:Cx),X.prog=P→X.w=w→X.K=K→X.calm=true→∀ (i:Nat) (pins:List (Addr × Obj)) (s:Shared) (σ:St) (H:Hp) (E:Value→Shared→Prop),Inv X pins σ H s→(∀ b ∈ fp,FpOk X pins H b)→tn i s.heap→J.stop i H →
    wpAny (model P w) X.A (pyNext (.ref it)) (fun r s1=>r=none∧Inv X pins σ H s1) E s
  self:∀ (A:Around) (i:Nat) (s:Shared) (Q:Value→Shared→Prop) (E:Value→Shared→Prop),tn i s.heap→Q (.ref it) s→wpAny (model P w) A (pyIter (.ref it)) Q E s
abbrev TI:=St→Hp→(It→Hp→Prop)→Prop
def PIE (X:Cx) (pins:List (Addr × Obj)) (σ:St) (tg:Expr) (R:It→Hp→Prop) (itv:Value) (s2:Shared):Prop :=
  ∃ (it:Addr) (fp:List Addr) (tn:Nat→Heap→Prop) (J:It) (H':Hp),itv=.ref it∧Inv X pins σ H' s2∧Turn X.prog X.w X.K tg J fp it tn∧tn 0 s2.heap∧(∀ b ∈ fp,FpOk X pins H' b)∧R J H'
def PI (X:Cx) (tg iter:Expr) (wi:TI):Prop :=
  ∀ (pins:List (Addr × Obj)) (s:Shared) (σ:St) (H:Hp) (R:It→Hp→Prop),Inv X pins σ H s→wi σ H R →
    wpAny (model X.prog X.w) X.A (eval iter X.env) (fun v s1=>wpAny (model X.prog X.w) X.A (pyIter v) (PIE X pins σ tg R) X.xe s1) X.xe s

theorem go_of {M:Model} {A:Around} {E:Value→Shared→Prop} {s:Shared} {tg:Expr} {it:Addr} {u:Value} {o:Obj} {n:String} {vs:Array Value} {Q:Unit→Shared→Prop} (ho:s.heap.get? it=some o) (hc:o.cls=.type n) (hd:o.data=.fields vs)
    (hn:["enumerate","zip","dict_itemiterator","dict_reverseitemiterator","odict_iterator","itertools.zip_longest","itertools.pairwise"].contains n=false) (hQ:Q () s):wpAny M A (letOwnedTupleGo tg (.ref it) u) Q E s:=by
  unfold letOwnedTupleGo
  cases tg <;> first
    | exact wpAny_pure hQ
    | (cases u <;> first
        | exact wpAny_pure hQ
        | (refine wpAny_bind (wpAny_load ho ?_)
           rw [hc,hd]
           show wpAny M A (if (["enumerate","zip","dict_itemiterator","dict_reverseitemiterator","odict_iterator","itertools.zip_longest","itertools.pairwise"].contains n && vs[0]? == some (rawInt _))=true then _ else _) Q E s
           rw [if_neg (by intro h; rw [hn,Bool.false_and] at h; cases h)]
           exact wpAny_pure hQ))

def Itl (K:PySem.W.Frag) (a:Addr):It :=
  ⟨fun i H=>∃ xs x,SqL K H a xs∧xs[i]?=some x,fun i H x H'=>H'=H∧∀ xs,SqL K H a xs→xs[i]?=some x,fun i H=>∃ xs,SqL K H a xs∧xs.length≤i⟩
def Itt (K:PySem.W.Frag) (a:Addr):It :=
  ⟨fun i H=>∃ xs x,SqT K H a xs∧xs[i]?=some x,fun i H x H'=>H'=H∧∀ xs,SqT K H a xs→xs[i]?=some x,fun i H=>∃ xs,SqT K H a xs∧xs.length≤i⟩
def Itr (lo:Int) (n:Nat):It:=⟨fun i _=>i < n,fun i H x H'=>H'=H∧x=.int (lo + i),fun i _=>n≤i⟩
theorem turn_list {P:Program} {w:World} {K:PySem.W.Frag} {tg:Expr} (a it:Addr):Turn P w K tg (Itl K a) [it] it (fun i h=>h.IsListIter it a i) where
  mem:=by simp
  obj:=fun i h st b hb=>by
    have e:b=it:=by simpa using hb
    subst e
    obtain ⟨o,e,c,d⟩:=st
    exact ⟨o,e,fun v z=>by rw [d] at z; cases z⟩
  keep:=fun i h h' st k=>st.at fun o e=>k it (by simp) o e
  item:=by
    intro X hP hw hK hc i pins s σ H E I hf st hg
    subst hP hw hK
    obtain ⟨xs,x,hq,hx⟩:=hg
    obtain ⟨its,rv,p,hz⟩:=I.list hq
    obtain ⟨u,hu,ru⟩:=rv.get hx
    obtain ⟨f0,f1,f2,f3,f4,f5⟩:=hf it (by simp)
    refine wpAny_pyNext_list_item st p.isList (x:=u) (by simpa using hu) fun h' st' sb=>?_
    have I1:Inv X pins σ H { s with heap:=h' }:=I.turned (t':=s.toks) (fun b o hb e=>(sb.2 b hb).trans e) f0 f1 f3 f4 f5
    obtain ⟨o,e,c,d⟩:=id st'
    exact ⟨u,rfl,go_of (s:={ s with heap:=h' }) e c d (by decide) ⟨x,H,I1,ru,⟨rfl,fun ys hy=>by rw [I.list_inj hy hq]; exact hx⟩,st',fun b hb=>(hf b hb).1⟩⟩
  done:=by
    intro X hP hw hK hc i pins s σ H E I hf st hg
    subst hP hw hK
    obtain ⟨xs,hq,hx⟩:=hg
    obtain ⟨its,rv,p,hz⟩:=I.list hq
    obtain ⟨f0,f1,f2,f3,f4,f5⟩:=hf it (by simp)
    have hl:=rv.length
    exact wpAny_pyNext_list_end (I.ok.hd hc) st p.isList (by simp; omega) fun h' eb=>⟨rfl,I.turned (t':=s.toks) (fun b o hb e=>eb b o hb e) f0 f1 f3 f4 f5⟩
  self:=fun _ _ _ _ _ st h=>wpAny_pyIter_listiter st h
theorem turn_tuple {P:Program} {w:World} {K:PySem.W.Frag} {tg:Expr} (a it:Addr):Turn P w K tg (Itt K a) [it] it (fun i h=>h.IsTupleIter it a i) where
  mem:=by simp
  obj:=fun i h st b hb=>by
    have e:b=it:=by simpa using hb
    subst e
    obtain ⟨o,e,c,d⟩:=st
    exact ⟨o,e,fun v z=>by rw [d] at z; cases z⟩
  keep:=fun i h h' st k=>st.at fun o e=>k it (by simp) o e
  item:=by
    intro X hP hw hK hc i pins s σ H E I hf st hg
    subst hP hw hK
    obtain ⟨xs,x,hq,hx⟩:=hg
    obtain ⟨its,rv,p,hz⟩:=I.tuple hq
    obtain ⟨u,hu,ru⟩:=rv.get hx
    obtain ⟨f0,f1,f2,f3,f4,f5⟩:=hf it (by simp)
    refine wpAny_pyNext_tuple_item st (show s.heap.IsTuple a its.toArray from p) (x:=u) (by simpa using hu) fun h' st' sb=>?_
    have I1:Inv X pins σ H { s with heap:=h' }:=I.turned (t':=s.toks) (fun b o hb e=>(sb.2 b hb).trans e) f0 f1 f3 f4 f5
    obtain ⟨o,e,c,d⟩:=id st'
    exact ⟨u,rfl,go_of (s:={ s with heap:=h' }) e c d (by decide) ⟨x,H,I1,ru,⟨rfl,fun ys hy=>by rw [I.tuple_inj hy hq]; exact hx⟩,st',fun b hb=>(hf b hb).1⟩⟩
  done:=by
    intro X hP hw hK hc i pins s σ H E I hf st hg
    subst hP hw hK
    obtain ⟨xs,hq,hx⟩:=hg
    obtain ⟨its,rv,p,hz⟩:=I.tuple hq
    obtain ⟨f0,f1,f2,f3,f4,f5⟩:=hf it (by simp)
    have hl:=rv.length
    exact wpAny_pyNext_tuple_end (I.ok.hd hc) st (show s.heap.IsTuple a its.toArray from p) (by simp; omega) fun h' eb=>⟨rfl,I.turned (t':=s.toks) (fun b o hb e=>eb b o hb e) f0 f1 f3 f4 f5⟩
  self:=fun _ _ _ _ _ st h=>wpAny_pyIter_tupleiter st h
theorem turn_range {P:Program} {w:World} {K:PySem.W.Frag} {tg:Expr} (it:Addr) (lo:Int) (n:Nat):Turn P w K tg (Itr lo n) [it] it (fun i h=>IsRangeIter h it (lo + (i:Nat) * 1) ((n:Int) - (i:Nat)) 1) where
  mem:=by simp
  obj:=fun i h st b hb=>by
    have e:b=it:=by simpa using hb
    subst e
    exact ⟨_,st,fun v z=>by
      have z':Data.fields _=Data.cell v:=z
      cases z'⟩
  keep:=fun i h h' st k=>k it (by simp) _ st
  item:=by
    intro X hP hw hK hc i pins s σ H E I hf st hg
    subst hP hw hK
    obtain ⟨f0,f1,f2,f3,f4,f5⟩:=hf it (by simp)
    have W:=Walks.range (prog:=X.prog) (w:=X.w) (I.ok.hd hc) it lo 1 n
    refine W.item i s _ _ hg st fun v h' tk hv st' kk=>?_
    obtain ⟨t,rfl⟩:=hv
    have I1:Inv X pins σ H { s with heap:=h',toks:=tk }:=I.turned (fun b o hb e=>kk b o (by simpa using hb) e) f0 f1 f3 f4 f5
    refine ⟨_,rfl,go_of (s:={ s with heap:=h',toks:=tk }) (n:="range_iterator") st' rfl rfl (by decide) ⟨.int (lo + i),H,I1,⟨t,?_⟩,⟨rfl,rfl⟩,st',fun b hb=>(hf b hb).1⟩⟩
    rw [Int.mul_one]
  done:=by
    intro X hP hw hK hc i pins s σ H E I hf st hg
    subst hP hw hK
    obtain ⟨f0,f1,f2,f3,f4,f5⟩:=hf it (by simp)
    exact wpAny_pyNext_range_end (I.ok.hd hc) st (by have:n≤i:=hg; omega) fun h' eb=>⟨rfl,I.turned (t':=s.toks) (fun b o hb e=>eb b o hb e) f0 f1 f3 f4 f5⟩
  self:=fun _ _ _ _ _ st h=>wpAny_pyIter_rangeiter st h
end L2

namespace L2
open PySem PySem.Spec PyProof.Rows
section
variable {X:Cx} {tg:Expr}
theorem range_it {pins:List (Addr × Obj)} {σ:St} {H:Hp} {s:Shared} {R:It→Hp→Prop} {E:Value→Shared→Prop} {lo hi:Int} {t u v:Tok} {tk:Nat} (I:Inv X pins σ H s) (h1:-(2 ^ 62)≤lo) (h2:lo < 2 ^ 62) (h3:-(2 ^ 62)≤hi) (h4:hi < 2 ^ 62)
    (q:R (Itr lo (hi - lo).toNat) H):wpAny (model X.prog X.w) X.A (pyIter (.ref s.heap.objs.size)) (PIE X pins σ tg R) E { s with heap:=s.heap.push { cls:=.type "range",data:=.fields #[.int lo t,.int hi u,.int 1 v] },toks:=tk }:=by
  refine wpAny_pyIter_range (IsRange.new ..) (small_one h1 h2 h3 h4) ?_
  have I1:Inv X pins σ H { s with heap:=s.heap.push { cls:=.type "range",data:=.fields #[.int lo t,.int hi u,.int 1 v] },toks:=tk }:=I.kept fun b o e=>Heap.get?_push_of_some _ e
  refine ⟨(s.heap.push { cls:=.type "range",data:=.fields #[.int lo t,.int hi u,.int 1 v] }).objs.size,[(s.heap.push { cls:=.type "range",data:=.fields #[.int lo t,.int hi u,.int 1 v] }).objs.size],_,_,H,rfl,
    I1.kept (t':=tk) fun b o e=>Heap.get?_push_of_some _ e,turn_range _ lo (hi - lo).toNat,?_,fun b hb=>?_,q⟩
  · have e1:lo + ((0:Nat):Int) * 1=lo:=by simp
    have e2:(((hi - lo).toNat:Nat):Int) - ((0:Nat):Int)=Builtin.Range.rangeSize lo hi 1:=by rw [rangeSize_one]; split <;> omega
    show IsRangeIter _ _ (lo + ((0:Nat):Int) * 1) ((((hi - lo).toNat:Nat):Int) - ((0:Nat):Int)) 1
    rw [e1,e2]
    exact Heap.get?_push_size _ rfl
  · have e:b=(s.heap.push { cls:=.type "range",data:=.fields #[.int lo t,.int hi u,.int 1 v] }).objs.size:=by simpa using hb
    subst e
    exact I1.fpOk (Nat.le_refl _) (I1.hok.fresh (Nat.le_refl _))
def iRng1 (ta:TA):TI:=fun σ H R=>ta σ H fun vs H1=>∃ j:Int,vs=[.int j]∧-(2 ^ 62)≤j∧j < 2 ^ 62∧R (Itr 0 j.toNat) H1
theorem pi_range1 {a:Expr} {ta:TA} {p pos:Pos} (hg:Gl X "range") (hm:X.mg "range"=none) (ha:PA X [a] ta) (hs:starEach [a] X.env=[(false,eval a X.env)]:=by rfl):PI X tg (.Call (.Name "range" p) [a] [] pos) (iRng1 ta):=by
  intro pins s σ H R I h
  refine Call_ (ld_blt I hg hm boot_range (PyProof.Rows.callWith_type1 (thn (ha pos pins s σ H _ I h) fun us s1 ⟨vs,H1,I1,r1,q1⟩=>?_) hs rfl))
  obtain ⟨j,e,q1,q2,q⟩:=q1
  subst e
  cases r1 with
  | cons r rr =>
    cases rr
    obtain ⟨t,rfl⟩:=r
    exact call_range_1 (range_it I1 (by omega) (by omega) q1 q2 (by simpa using q))
def tFor (wi:TI) (g:TG) (tb:TS):TS:=fun D σ H=>wi σ H fun J H1=>∃ W:Nat→Nat→St→Hp→Prop,(∃ m,W 0 m σ H1)∧∀ i m σ H,W i m σ H →
  (J.stop i H∧D.nx σ H) ∨ (J.go i H∧∃ N:St→Hp→Prop,(∀ σ' H',N σ' H'→∃ m',m' < m∧W (i + 1) m' σ' H')∧∀ x H',J.yld i H x H'→g x σ H' fun σ2 H2=>tb { D with nx:=N,ct:=N,bk:=D.nx } σ2 H2)
def pinsAt (fp:List Addr) (h:Heap):List (Addr × Obj):=fp.filterMap fun b=>(h.get? b).map fun o=>(b,o)
theorem mem_pinsAt {fp:List Addr} {h:Heap} {b:Addr} {o:Obj} (hb:b ∈ fp) (e:h.get? b=some o):(b,o) ∈ pinsAt fp h:=List.mem_filterMap.mpr ⟨b,hb,by rw [e]; rfl⟩
theorem of_pinsAt {fp:List Addr} {h:Heap} {p:Addr × Obj} (hp:p ∈ pinsAt fp h):p.1 ∈ fp∧h.get? p.1=some p.2:=by
  obtain ⟨b,hb,e⟩:=List.mem_filterMap.mp hp
  cases q:h.get? b with
  | none=>rw [q] at e; cases e
  | some o =>
    rw [q] at e
    have e':(b,o)=p:=Option.some.inj e
    subst e'
    exact ⟨hb,q⟩
theorem Inv.pinned {pins:List (Addr × Obj)} {σ:St} {H:Hp} {s:Shared} {fp:List Addr} (I:Inv X pins σ H s) (hf:∀ b ∈ fp,FpOk X pins H b) (ho:∀ b ∈ fp,∃ o,s.heap.get? b=some o∧∀ v,o.data ≠ .cell v):Inv X (pins++pinsAt fp s.heap) σ H s :=
  I.pins_of fun p hp=>(List.mem_append.mp hp).elim (fun z=>I.pin p (List.mem_append_right _ z)) fun z=>by
    obtain ⟨hb,e⟩:=of_pinsAt z
    obtain ⟨f0,f1,f2,_⟩:=hf p.1 hb
    obtain ⟨o,e',d⟩:=ho p.1 hb
    rw [e] at e'; cases e'
    exact ⟨e,f0,f1,f2,d⟩
theorem Inv.unpinned {pins pl:List (Addr × Obj)} {σ:St} {H:Hp} {s:Shared} (I:Inv X (pins++pl) σ H s):Inv X pins σ H s:=I.pins_of fun p hp=>I.pin p (List.mem_append_right _ (List.mem_append_left _ hp))
theorem ps_for {iter:Expr} {body:List Stmt} {wi:TI} {g:TG} {tb:TS} {pos:Pos} (hp:PassesOwn (model X.prog X.w) X.A X.env X.xe) (hc:X.calm=true) (hi:PI X tg iter wi) (hg:PG X tg g) (hb:PSs X body tb)
    (hs:∀ x,foldedSetIterable iter X.env x=pure x:=by intro _; rfl):PS X (.For tg iter body [] pos) (tFor wi g tb):=by
  intro pins s σ H D I h
  refine wpAny_For (thn (hi pins s σ H _ I h) fun v s1 h1=>thn h1 fun itv s2 h2=>?_) hs
  obtain ⟨it,fp,tn,J,H2,e,I2,T,st2,f2,W,⟨m0,w0⟩,turn⟩:=h2
  subst e
  -- what stays true of the iterator's objects through the loop
  have stat:∀ {H':Hp},(∀ b ∈ fp,H' b=none)→∀ b ∈ fp,FpOk X pins H' b:=fun hn b hb=>⟨hn b hb,(f2 b hb).2⟩
  refine codeAny_forLoop_any (fun n s'=>∃ i σ' H',Inv X pins σ' H' s'∧tn i s'.heap∧(∀ b ∈ fp,H' b=none)∧W i n σ' H') ?_ m0 ⟨0,σ,H2,I2,st2,fun b hb=>(f2 b hb).1,w0⟩
  rintro n s3 ⟨i,σ3,H3,I3,st3,fr3,w3⟩
  rcases turn i n σ3 H3 w3 with ⟨stop,qn⟩ | ⟨go,N,hN,step⟩
  · refine wpAny_passesOwn hp (thn (T.done X rfl rfl rfl hc i pins s3 σ3 H3 X.xe I3 (stat fr3) st3 stop) fun r s4 ⟨hr,I4⟩=>?_)
    subst hr
    exact wpAny_execs_nil ⟨σ3,H3,I4,qn⟩
  · refine wpAny_passesOwn hp (thn (T.item X rfl rfl rfl hc i pins s3 σ3 H3 X.xe I3 (stat fr3) st3 go) fun r s4 ⟨u,hr,h4⟩=>?_)
    subst hr
    refine wpAny_passesOwn hp (thn h4 fun _ s5 ⟨x,H5,I5,r5,y5,st5,fr5⟩=>?_)
    have I5':=I5.pinned (stat fr5) (T.obj _ _ st5)
    refine wpAny_passesOwn hp (thn (hg _ s5 σ3 H5 x u _ I5' r5 (step x H5 y5)) fun _ s6 ⟨σ6,H6,I6,q6⟩=>?_)
    refine wpAny_passesOwn hp (thn (hb _ s6 σ6 H6 _ I6 q6) fun f s7 q7=>?_)
    have again:∀ {σ7:St} {H7:Hp},Inv X (pins++pinsAt fp s5.heap) σ7 H7 s7→N σ7 H7→∃ m,m < n∧∃ i σ' H',Inv X pins σ' H' s7∧tn i s7.heap∧(∀ b ∈ fp,H' b=none)∧W i m σ' H':=fun {σ7 H7} I7 n7=>by
      obtain ⟨m',hm,w7⟩:=hN σ7 H7 n7
      refine ⟨m',hm,i + 1,σ7,H7,I7.unpinned,T.keep _ _ _ st5 fun b hb o e=>(I7.pin (b,o) (List.mem_append_right _ (List.mem_append_right _ (mem_pinsAt hb e)))).1,fun b hb=>?_,w7⟩
      obtain ⟨o,e,d⟩:=T.obj _ _ st5 b hb
      exact (I7.pin (b,o) (List.mem_append_right _ (List.mem_append_right _ (mem_pinsAt hb e)))).2.1
    cases f with
    | next=>obtain ⟨σ7,H7,I7,n7⟩:=q7; exact again I7 n7
    | cont=>obtain ⟨σ7,H7,I7,n7⟩:=q7; exact again I7 n7
    | brk=>obtain ⟨σ7,H7,I7,q7⟩:=q7; exact ⟨σ7,H7,I7.unpinned,q7⟩
    | ret v=>obtain ⟨x7,σ7,H7,I7,r7,q7⟩:=q7; exact ⟨x7,σ7,H7,I7.unpinned,r7,q7⟩
end

end L2

namespace L2
open PySem PySem.Spec PyProof.Rows

abbrev R2:=V→V→Hp→VK→Prop
def OpR (X:Cx) (f:Value→Value→Sem Value) (r:R2):Prop :=
  ∀ (pins:List (Addr × Obj)) (s:Shared) (σ:St) (H:Hp) (x y:V) (v u:Value) (Q:VK),Inv X pins σ H s→RelV x v→RelV y u→r x y H Q →
    wpAny (model X.prog X.w) X.A (f v u) (EP X pins σ Q) X.xe s
def UnR (X:Cx) (f:Value→Sem Value) (r:V→Hp→VK→Prop):Prop :=
  ∀ (pins:List (Addr × Obj)) (s:Shared) (σ:St) (H:Hp) (x:V) (v:Value) (Q:VK),Inv X pins σ H s→RelV x v→r x H Q →
    wpAny (model X.prog X.w) X.A (f v) (EP X pins σ Q) X.xe s
def CallR (X:Cx) (f:Value) (r:List V→Hp→VK→Prop):Prop :=
  ∀ (pins:List (Addr × Obj)) (s:Shared) (σ:St) (H:Hp) (xs:List V) (us:List Value) (Q:VK),Inv X pins σ H s→Vals xs us→r xs H Q →
    wpAny (model X.prog X.w) X.A (call f us) (EP X pins σ Q) X.xe s
def tOp (r:R2) (ta tb:TE):TE:=fun σ H Q=>ta σ H fun x H1=>tb σ H1 fun y H2=>r x y H2 Q
def tUn (r:V→Hp→VK→Prop) (ta:TE):TE:=fun σ H Q=>ta σ H fun x H1=>r x H1 Q
def rI (C:Int→Int→Prop) (g:Int→Int→V):R2:=fun x y H Q=>∃ i j,x=.int i∧y=.int j∧C i j∧Q (g i j) H
def rI0 (g:Int→Int→V):R2:=fun x y H Q=>∃ i j,x=.int i∧y=.int j∧Q (g i j) H
def rU (g:Int→V):V→Hp→VK→Prop:=fun x H Q=>∃ i,x=.int i∧Q (g i) H

section
variable {X:Cx} {a b c:Expr} {ta tb tc:TE} {pos:Pos}

theorem binT (ha:PE X a ta) (hb:PE X b tb) {pins:List (Addr × Obj)} {s:Shared} {σ:St} {H:Hp} {R:V→V→Hp→Prop} (I:Inv X pins σ H s)
    (h:ta σ H fun x H1=>tb σ H1 fun y H2=>R x y H2) {Q:Value→Shared→Prop} {f:Value→Value→Sem Value}
    (hf:∀ v u s2 x y H2,Inv X pins σ H2 s2→RelV x v→RelV y u→R x y H2→wpAny (model X.prog X.w) X.A (f v u) Q X.xe s2) :
    wpAny (model X.prog X.w) X.A (eval a X.env) (fun v s₁=>wpAny (model X.prog X.w) X.A (eval b X.env) (fun u s₂=>wpAny (model X.prog X.w) X.A (f v u) Q X.xe s₂) X.xe s₁) X.xe s:=by
  refine thn (ha pins s σ H _ I h) fun v s1 ⟨x,H1,I1,r1,q1⟩=>?_
  refine thn (hb pins s1 σ H1 _ I1 q1) fun u s2 ⟨y,H2,I2,r2,q2⟩=>?_
  exact hf v u s2 x y H2 I2 r1 r2 q2

theorem pe_op {op:Operator} {r:R2} (ho:OpR X (binaryOp op) r) (ha:PE X a ta) (hb:PE X b tb):PE X (.BinOp a op b pos) (tOp r ta tb):=by
  intro pins s σ H Q I h
  exact wpAny_BinOp (binT ha hb I h fun v u s2 x y H2 I2 rx ry q=>ho pins s2 σ H2 x y v u Q I2 rx ry q)
theorem pe_un {op:UnaryOp} {r:V→Hp→VK→Prop} (ho:UnR X (unaryOp op) r) (ha:PE X a ta):PE X (.UnaryOp op a pos) (tUn r ta):=by
  intro pins s σ H Q I h
  exact UnaryOp_ (thn (ha pins s σ H _ I h) fun v s1 ⟨x,H1,I1,r1,q1⟩=>ho pins s1 σ H1 x v Q I1 r1 q1)
theorem opI {f:Value→Value→Sem Value} {C:Int→Int→Prop} {g:Int→Int→Int}
    (rule:∀ (i j:Int) (t u:Tok) (s:Shared) (Q:Value→Shared→Prop) (E:Value→Shared→Prop),C i j→Q (.int (g i j) s.toks) { s with toks:=s.toks + 1 }→wpAny (model X.prog X.w) X.A (f (.int i t) (.int j u)) Q E s) :
    OpR X f (rI C fun i j=>.int (g i j)):=by
  intro pins s σ H x y v u Q I rx ry h
  obtain ⟨i,j,rfl,rfl,hc,q⟩:=h
  obtain ⟨t,rfl⟩:=rx
  obtain ⟨t',rfl⟩:=ry
  exact rule i j t t' s _ _ hc ⟨.int (g i j),H,I.tok _,⟨_,rfl⟩,q⟩
theorem opI0 {f:Value→Value→Sem Value} {g:Int→Int→Int}
    (rule:∀ (i j:Int) (t u:Tok) (s:Shared) (Q:Value→Shared→Prop) (E:Value→Shared→Prop),Q (.int (g i j) s.toks) { s with toks:=s.toks + 1 }→wpAny (model X.prog X.w) X.A (f (.int i t) (.int j u)) Q E s) :
    OpR X f (rI0 fun i j=>.int (g i j)):=by
  intro pins s σ H x y v u Q I rx ry h
  obtain ⟨i,j,rfl,rfl,q⟩:=h
  obtain ⟨t,rfl⟩:=rx
  obtain ⟨t',rfl⟩:=ry
  exact rule i j t t' s _ _ ⟨.int (g i j),H,I.tok _,⟨_,rfl⟩,q⟩
theorem opB0 {f:Value→Value→Sem Value} {g:Int→Int→Bool}
    (rule:∀ (i j:Int) (t u:Tok) (s:Shared) (Q:Value→Shared→Prop) (E:Value→Shared→Prop),Q (.bool (g i j)) s→wpAny (model X.prog X.w) X.A (f (.int i t) (.int j u)) Q E s) :
    OpR X f (rI0 fun i j=>.bl (g i j)):=by
  intro pins s σ H x y v u Q I rx ry h
  obtain ⟨i,j,rfl,rfl,q⟩:=h
  obtain ⟨t,rfl⟩:=rx
  obtain ⟨t',rfl⟩:=ry
  exact rule i j t t' s _ _ ⟨.bl (g i j),H,I,rfl,q⟩

def CDiv (i j:Int):Prop:=0 < j∧j < 1073741824
def CPow (i j:Int):Prop:=0≤j∧j≤1000000∧i.natAbs < 2 ^ 64
def CMul (i j:Int):Prop:=(-(2 ^ 64) < i∧i < 2 ^ 64) ∨ (-(2 ^ 64) < j∧j < 2 ^ 64)
theorem CMul.ok {i j:Int} (h:CMul i j):IntMulOk i j:=by
  rcases h with ⟨h1,h2⟩ | ⟨h1,h2⟩
  · exact .of_left (intBits_le_64 h1 h2)
  · exact .of_right (intBits_le_64 h1 h2)
theorem op_add:OpR X (binaryOp .Add) (rI0 fun i j=>.int (i + j)):=opI0 fun _ _ _ _ _ _ _ q=>add_int q
theorem op_sub:OpR X (binaryOp .Sub) (rI0 fun i j=>.int (i - j)):=opI0 fun _ _ _ _ _ _ _ q=>sub_int q
theorem op_mul:OpR X (binaryOp .Mult) (rI CMul fun i j=>.int (i * j)):=opI fun _ _ _ _ _ _ _ hc q=>mul_int q hc.ok
theorem op_fdiv:OpR X (binaryOp .FloorDiv) (rI CDiv fun i j=>.int (i / j)):=opI fun i j _ _ _ _ _ hc q=>by
  have h1:(0:Int) < j:=hc.1
  have h2:j < 1073741824:=hc.2
  exact floordiv_int (by omega) (by rw [Int.fdiv_eq_ediv_of_nonneg i (by omega)]; exact q) (.inl (PyProof.noPylong_small (by omega)))
theorem op_mod:OpR X (binaryOp .Mod) (rI (fun _ j=>0 < j) fun i j=>.int (i % j)):=opI fun i j _ _ _ _ _ hc q=>by
  have h1:(0:Int) < j:=hc
  exact mod_int' (by omega) (by rw [Int.fmod_eq_emod_of_nonneg i (by omega)]; exact q)
theorem op_pow:OpR X (binaryOp .Pow) (rI CPow fun i j=>.int (i ^ j.toNat)):=opI fun _ _ _ _ _ _ _ hc q=>pow_int_small hc.1 hc.2.1 hc.2.2 q
theorem unI {f:Value→Sem Value} {g:Int→Int}
    (rule:∀ (i:Int) (t:Tok) (s:Shared) (Q:Value→Shared→Prop) (E:Value→Shared→Prop),Q (.int (g i) s.toks) { s with toks:=s.toks + 1 }→wpAny (model X.prog X.w) X.A (f (.int i t)) Q E s) :
    UnR X f (rU fun i=>.int (g i)):=by
  intro pins s σ H x v Q I rx h
  obtain ⟨i,rfl,q⟩:=h
  obtain ⟨t,rfl⟩:=rx
  exact rule i t s _ _ ⟨.int (g i),H,I.tok _,⟨_,rfl⟩,q⟩
theorem un_neg:UnR X (unaryOp .USub) (rU fun i=>.int (-i)):=unI fun _ _ _ _ _ q=>neg_int q
end

def scal:V→V→Bool
  | .non,.non=>true | .non,.int _=>true | .int _,.non=>true | .non,.bl _=>true | .bl _,.non=>true | .non,.str _=>true | .str _,.non=>true
  | .int _,.int _=>true | .bl _,.bl _=>true | .str _,.str _=>true | .byt _,.byt _=>true
  | .int _,.str _=>true | .str _,.int _=>true | .bl _,.str _=>true | .str _,.bl _=>true
  | _,_=>false
def rEq:R2:=fun x y H Q=>scal x y=true∧Q (.bl (decide (x=y))) H
def rNe:R2:=fun x y H Q=>scal x y=true∧Q (.bl (!decide (x=y))) H

theorem dec_int {i j:Int}:decide (V.int i=V.int j)=(i == j):=by
  rw [Bool.eq_iff_iff]
  simp
theorem dec_bl {i j:Bool}:decide (V.bl i=V.bl j)=(i == j):=by
  rw [Bool.eq_iff_iff]
  simp
theorem dec_str {i j:Str}:decide (V.str i=V.str j)=(i == j):=by
  rw [Bool.eq_iff_iff]
  simp
theorem dec_byt {i j:Array UInt8}:decide (V.byt i=V.byt j)=(i.toList == j.toList):=by
  rw [Bool.eq_iff_iff]
  cases i
  cases j
  simp

section
variable {X:Cx} {a b c:Expr} {ta tb tc:TE} {pos:Pos}
theorem fin_bl {pins:List (Addr × Obj)} {σ:St} {H:Hp} {s:Shared} {Q:VK} {k k':Bool} (I:Inv X pins σ H s) (q:Q (.bl k) H) (e:k=k'):EP X pins σ Q (.bool k') s:=by
  subst e
  exact ⟨.bl k,H,I,rfl,q⟩
theorem op_eq:OpR X (compareOp .Eq) rEq:=by
  intro pins s σ H x y v u Q I rx ry h
  obtain ⟨hs,q⟩:=h
  cases x with
  | non =>
    cases rx
    cases y with
    | non=>cases ry; exact PySem.EqNone.eq_none_none (fin_bl I q (by simp))
    | bl j=>cases ry; exact PySem.EqNone.eq_none_bool (fin_bl I q (by simp))
    | int j=>obtain ⟨t',rfl⟩:=ry; exact PySem.EqNone.eq_none_int (fin_bl I q (by simp))
    | str j=>obtain ⟨t',rfl⟩:=ry; exact PySem.EqNone.eq_none_str (fin_bl I q (by simp))
    | _=>exact absurd (show false=true from hs) Bool.false_ne_true
  | bl i =>
    cases rx
    cases y with
    | non=>cases ry; exact PySem.EqNone.eq_bool_none (fin_bl I q (by simp))
    | bl j=>cases ry; exact eq_bool (fin_bl I q dec_bl)
    | str j=>obtain ⟨t',rfl⟩:=ry; exact PySem.EqMixed.eq_bool_str (fin_bl I q (by simp))
    | _=>exact absurd (show false=true from hs) Bool.false_ne_true
  | int i =>
    obtain ⟨t,rfl⟩:=rx
    cases y with
    | non=>cases ry; exact PySem.EqNone.eq_int_none (fin_bl I q (by simp))
    | int j=>obtain ⟨t',rfl⟩:=ry; exact eq_int (fin_bl I q dec_int)
    | str j=>obtain ⟨t',rfl⟩:=ry; exact PySem.EqMixed.eq_int_str (fin_bl I q (by simp))
    | _=>exact absurd (show false=true from hs) Bool.false_ne_true
  | str i =>
    obtain ⟨t,rfl⟩:=rx
    cases y with
    | non=>cases ry; exact PySem.EqNone.eq_str_none (fin_bl I q (by simp))
    | bl j=>cases ry; exact PySem.EqMixed.eq_str_bool (fin_bl I q (by simp))
    | int j=>obtain ⟨t',rfl⟩:=ry; exact PySem.EqMixed.eq_str_int (fin_bl I q (by simp))
    | str j=>obtain ⟨t',rfl⟩:=ry; exact eq_str (fin_bl I q dec_str)
    | _=>exact absurd (show false=true from hs) Bool.false_ne_true
  | byt i =>
    obtain ⟨t,rfl⟩:=rx
    cases y with
    | byt j=>obtain ⟨t',rfl⟩:=ry; exact PySem.W.eq_bytes (fin_bl I q dec_byt)
    | _=>exact absurd (show false=true from hs) Bool.false_ne_true
  | _=>cases y <;> exact absurd (show false=true from hs) Bool.false_ne_true
theorem op_ne:OpR X (compareOp .NotEq) rNe:=by
  intro pins s σ H x y v u Q I rx ry h
  obtain ⟨hs,q⟩:=h
  cases x with
  | non =>
    cases rx
    cases y with
    | non=>cases ry; exact PySem.EqNone.ne_none_none (fin_bl I q (by simp))
    | bl j=>cases ry; exact PySem.EqNone.ne_none_bool (fin_bl I q (by simp))
    | int j=>obtain ⟨t',rfl⟩:=ry; exact PySem.EqNone.ne_none_int (fin_bl I q (by simp))
    | str j=>obtain ⟨t',rfl⟩:=ry; exact PySem.EqNone.ne_none_str (fin_bl I q (by simp))
    | _=>exact absurd (show false=true from hs) Bool.false_ne_true
  | bl i =>
    cases rx
    cases y with
    | non=>cases ry; exact PySem.EqNone.ne_bool_none (fin_bl I q (by simp))
    | bl j=>cases ry; exact ne_bool (fin_bl I q (congrArg not dec_bl))
    | str j=>obtain ⟨t',rfl⟩:=ry; exact PySem.EqMixed.ne_bool_str (fin_bl I q (by simp))
    | _=>exact absurd (show false=true from hs) Bool.false_ne_true
  | int i =>
    obtain ⟨t,rfl⟩:=rx
    cases y with
    | non=>cases ry; exact PySem.EqNone.ne_int_none (fin_bl I q (by simp))
    | int j=>obtain ⟨t',rfl⟩:=ry; exact ne_int (fin_bl I q (congrArg not dec_int))
    | str j=>obtain ⟨t',rfl⟩:=ry; exact PySem.EqMixed.ne_int_str (fin_bl I q (by simp))
    | _=>exact absurd (show false=true from hs) Bool.false_ne_true
  | str i =>
    obtain ⟨t,rfl⟩:=rx
    cases y with
    | non=>cases ry; exact PySem.EqNone.ne_str_none (fin_bl I q (by simp))
    | bl j=>cases ry; exact PySem.EqMixed.ne_str_bool (fin_bl I q (by simp))
    | int j=>obtain ⟨t',rfl⟩:=ry; exact PySem.EqMixed.ne_str_int (fin_bl I q (by simp))
    | str j=>obtain ⟨t',rfl⟩:=ry; exact ne_str (fin_bl I q (congrArg not dec_str))
    | _=>exact absurd (show false=true from hs) Bool.false_ne_true
  | byt i =>
    obtain ⟨t,rfl⟩:=rx
    cases y with
    | byt j=>obtain ⟨t',rfl⟩:=ry; exact PySem.W.ne_bytes (fin_bl I q (congrArg not dec_byt))
    | _=>exact absurd (show false=true from hs) Bool.false_ne_true
  | _=>cases y <;> exact absurd (show false=true from hs) Bool.false_ne_true

theorem op_lt:OpR X (compareOp .Lt) (rI0 fun i j=>.bl (decide (i < j))):=opB0 fun _ _ _ _ _ _ _ q=>lt_int q
theorem op_le:OpR X (compareOp .LtE) (rI0 fun i j=>.bl (decide (i≤j))):=opB0 fun _ _ _ _ _ _ _ q=>le_int q
theorem op_gt:OpR X (compareOp .Gt) (rI0 fun i j=>.bl (decide (j < i))):=opB0 fun _ _ _ _ _ _ _ q=>gt_int q
theorem op_ge:OpR X (compareOp .GtE) (rI0 fun i j=>.bl (decide (j≤i))):=opB0 fun _ _ _ _ _ _ _ q=>ge_int q
theorem op_in_str:OpR X (compareOp .In) (fun x y H Q=>∃ i j,x=.str i∧y=.str j∧Q (.bl (!(Builtin.Str.occurrences j i 0 j.length 1).isEmpty)) H):=by
  intro pins s σ H x y v u Q I rx ry h
  obtain ⟨i,j,rfl,rfl,q⟩:=h
  obtain ⟨t,rfl⟩:=rx
  obtain ⟨t',rfl⟩:=ry
  exact in_str (fin_bl I q rfl)

theorem op_isN:OpR X (compareOp .Is) (fun x y H Q=>y=.non∧Q (.bl (decide (x=.non))) H):=by
  intro pins s σ H x y v u Q I rx ry h
  obtain ⟨rfl,q⟩:=h
  cases ry
  refine is_none_gen (fin_bl I q ?_)
  cases x <;> first
    | (cases rx; rfl)
    | (obtain ⟨t,rfl⟩:=rx; rfl)
theorem op_notN:OpR X (compareOp .IsNot) (fun x y H Q=>y=.non∧Q (.bl (!decide (x=.non))) H):=by
  intro pins s σ H x y v u Q I rx ry h
  obtain ⟨rfl,q⟩:=h
  cases ry
  refine isnot_none_gen (fin_bl I q ?_)
  cases x <;> first
    | (cases rx; rfl)
    | (obtain ⟨t,rfl⟩:=rx; rfl)

theorem OpR.or {f:Value→Value→Sem Value} {r r':R2} (h:OpR X f r) (h':OpR X f r'):OpR X f (fun x y H Q=>r x y H Q ∨ r' x y H Q):=by
  intro pins s σ H x y v u Q I rx ry q
  rcases q with q | q
  · exact h pins s σ H x y v u Q I rx ry q
  · exact h' pins s σ H x y v u Q I rx ry q

theorem nomark (b:Expr) {op:CmpOp} (h:op ≠ .In:=by decide) (h2:op ≠ .NotIn:=by decide):behindInMarks op b=false:=by
  have e1:(op == CmpOp.In)=false:=by cases op <;> first | rfl | exact absurd rfl h
  have e2:(op == CmpOp.NotIn)=false:=by cases op <;> first | rfl | exact absurd rfl h2
  cases b <;> simp [behindInMarks,e1,e2]
theorem pe_cmpR {op:CmpOp} {r:R2} (ho:OpR X (compareOp op) r) (ha:PE X a ta) (hb:PE X b tb) (hm:behindInMarks op b=false):PE X (.Compare a [op] [b] pos) (tOp r ta tb):=by
  intro pins s σ H Q I h
  exact wpAny_Compare1 (binT ha hb I h fun v u s2 x y H2 I2 rx ry q=>ho pins s2 σ H2 x y v u Q I2 rx ry q) hm
def tTest (t:TE):TT:=fun σ H Q=>t σ H fun x H'=>∃ k,x=.bl k∧Q k H'
theorem pt_cmpR {op:CmpOp} {r:R2} (ho:OpR X (compareOp op) r) (ha:PE X a ta) (hb:PE X b tb) (hm:behindInMarks op b=false):PT X (.Compare a [op] [b] pos) (tTest (tOp r ta tb)):=by
  intro pins s σ H Q I h
  refine wpAny_isTrue_Compare1 (thn (ha pins s σ H _ I h) fun v s1 ⟨x,H1,I1,r1,q1⟩=>thn (hb pins s1 σ H1 _ I1 q1) fun u s2 ⟨y,H2,I2,r2,q2⟩ =>
    thn (ho pins s2 σ H2 x y v u _ I2 r1 r2 q2) fun c s3 ⟨z,H3,I3,r3,k,e,q3⟩=>?_) hm
  subst e
  cases r3
  exact wpAny_truthy_bool ⟨H3,I3,q3⟩
theorem line63:(sizeLine:Nat) < 2 ^ 63:=by rw [sizeLine_eq]; decide
theorem op_add_str:OpR X (binaryOp .Add) (fun x y H Q=>∃ i j,x=.str i∧y=.str j∧i.length + j.length≤sizeLine∧Q (.str (i++j)) H):=by
  intro pins s σ H x y v u Q I rx ry h
  obtain ⟨i,j,rfl,rfl,hz,q⟩:=h
  obtain ⟨t,rfl⟩:=rx
  obtain ⟨t',rfl⟩:=ry
  exact add_str (fun t' tk=>⟨.str (i++j),H,I.tok _,⟨_,rfl⟩,q⟩) hz
theorem vals1 {x:V} {us:List Value} (r:Vals [x] us):∃ u,us=[u]∧RelV x u:=by
  cases r with
  | cons r1 r2=>cases r2; exact ⟨_,rfl,r1⟩
theorem vals2 {x y:V} {us:List Value} (r:Vals [x,y] us):∃ u w',us=[u,w']∧RelV x u∧RelV y w':=by
  cases r with
  | cons r1 r2 =>
    cases r2 with
    | cons r3 r4=>cases r4; exact ⟨_,_,rfl,r1,r3⟩
end
end L2

namespace L2
open PySem PySem.Spec PyProof.Rows

structure ObjM (h:Heap) (x dx C:Addr) (mA:Str→Option Value):Prop where
  obj:h.get? x=some (PySem.W.instObj C dx)
  ns:h.Ns1 dx mA
  ne:dx ≠ x

theorem lookIn_ns {h:Heap} {dx:Addr} {mA:Str→Option Value} (n:h.Ns1 dx mA):∃ od,h.get? dx=some od∧∀ name,PySem.W.lookIn name od=some (mA name):=by
  obtain ⟨o,es,ep,ho,hd,hk,_,hm⟩:=n
  refine ⟨o,ho,fun name=>?_⟩
  have e:=hm name
  unfold nsFind findBy at e
  rw [← Array.find?_toList] at e
  unfold PySem.W.lookIn
  rw [hd]
  dsimp only
  split
  · rename_i y q
    rw [q] at e
    exact congrArg some e
  · rename_i q
    rw [q] at e
    have a:es.toList.any (·.refKey)=false:=by
      rw [List.any_eq_false]
      intro y hy
      obtain ⟨z,t,hkey⟩:=hk y (Array.mem_toList_iff.mp hy)
      simp [DictEntry.refKey,hkey]
    have a':¬ es.toList.any (·.refKey)=true:=by rw [a]; exact Bool.false_ne_true
    rw [if_neg a']
    exact congrArg some e

theorem ObjM.look {h:Heap} {x dx C:Addr} {mA:Str→Option Value} (I:ObjM h x dx C mA):∃ od,PySem.W.InstAt h x (PySem.W.instObj C dx) C (some od)∧∀ name,PySem.W.lookIn name od=some (mA name) :=
  let ⟨od,ho,hl⟩:=lookIn_ns I.ns
  ⟨od,⟨I.obj,rfl,rfl,ho⟩,hl⟩

section
variable {prog:Program} {w:World} {A:Around} {E:Value→Shared→Prop} {s:Shared} {K:PySem.W.Frag} {x dx C f:Addr} {mA:Str→Option Value} {name:Str} {v:Value}

end

theorem RelO.some_of {v:V} {o:Option Value} (r:RelO (some v) o):∃ u,o=some u∧RelV v u:=by
  cases o with
  | none=>exact (show False from r).elim
  | some u=>exact ⟨u,rfl,r⟩
section
variable {P:Program} {w:World} {H H':Hp} {h h':Heap} {a C dx:Addr} {fs fs':List (Str × V)}
theorem ins_get (hok:HOk P w H h) (e:H a=some (.ins C dx fs)):∃ mA,ObjM h a dx C mA∧(∀ f,RelO (fs.lookup f) (mA f))∧PySem.Within mA (fs.map (·.1))∧fs.length≤1000∧H dx=some (.own a):=by
  obtain ⟨d,z,ne,ob,mA,n,r,q⟩:=(show ObjOk P w H h a (.ins C dx fs) from hok a _ e)
  exact ⟨mA,⟨ob,n,ne⟩,r,q,z,d⟩
end

structure Cls (K:PySem.W.Frag) (C:Addr):Prop where
  pg:PySem.W.plainGet K C Str.empty=true
  hd:PySem.W.hasDictIn K C=true
  po:PySem.W.plainOver K C=true
  sa:PySem.W.findIn K (.ref C) "__setattr__"=some (some (.builtin "object.__setattr__"))
theorem Cls.get {K:PySem.W.Frag} {C:Addr} (c:Cls K C) (f:Str):PySem.W.plainGet K C f=true:=c.pg
section
variable {X:Cx} {pins:List (Addr × Obj)} {σ:St} {H:Hp} {s:Shared} {a C dx:Addr} {fs:List (Str × V)} {f:Str} {v:V} {A:Around} {E:Value→Shared→Prop}

theorem Inv.made (I:Inv X pins σ H s):Inv X pins σ (upd (upd H s.heap.objs.size (.own (s.heap.objs.size + 1))) (s.heap.objs.size + 1) (.ins C s.heap.objs.size []))
    { s with heap:=(s.heap.push PySem.W.emptyDict).push (PySem.W.instObj C s.heap.objs.size) }:=by
  have e1:(s.heap.push PySem.W.emptyDict).get? s.heap.objs.size=some PySem.W.emptyDict:=Heap.get?_push_size s.heap rfl
  have e2:((s.heap.push PySem.W.emptyDict).push (PySem.W.instObj C s.heap.objs.size)).get? (s.heap.objs.size + 1)=some (PySem.W.instObj C s.heap.objs.size):=by
    have:=Heap.get?_push_size (s.heap.push PySem.W.emptyDict) (o:=PySem.W.instObj C s.heap.objs.size) rfl
    rwa [Heap.size_push] at this
  have e3:(s.heap.push PySem.W.emptyDict).Ns s.heap.objs.size (fun _=>none):=⟨PySem.W.emptyDict,#[],_,e1,rfl,(fun e he=>absurd he (by simp)),fun _=>rfl⟩
  have I1:=I.laid (a:=s.heap.objs.size) (o:=.own (s.heap.objs.size + 1)) (h':=s.heap.push PySem.W.emptyDict) (t':=s.toks) (fun b u q=>Heap.get?_push_of_some _ q) (Nat.le_refl _) ⟨_,e1⟩
  refine I1.laid (a:=s.heap.objs.size + 1) (o:=.ins C s.heap.objs.size []) (t':=s.toks) (fun b u q=>Heap.get?_push_of_some _ q) (Nat.le_of_eq (Heap.size_push _ _)) ?_
  have ne:s.heap.objs.size ≠ s.heap.objs.size + 1:=Nat.ne_of_lt (Nat.lt_succ_self _)
  refine ⟨by rw [upd_ne ne,upd_same],Nat.zero_le _,ne,e2,fun _=>none,(Heap.Ns1.of_empty e3).at fun o q=>Heap.get?_push_of_some _ q,fun _=>True.intro,fun y hy=>absurd rfl hy⟩

end

section
variable {X:Cx} {o e value:Expr} {f:Str} {pos pos' tpos:Pos} {ta tv:TE}
end

section
variable {X:Cx} {pins:List (Addr × Obj)} {σ:St} {H:Hp} {s:Shared} {A:Around} {E:Value→Shared→Prop} {Q:Value→Shared→Prop} {c:Value} {b:Bool}
inductive TyOf (K:PySem.W.Frag) (H:Hp):V→Value→Prop where
  | non:TyOf K H .non (.type "NoneType")
  | bl (x:Bool):TyOf K H (.bl x) (.type "bool")
  | int (i:Int):TyOf K H (.int i) (.type "int")
  | str (x:Str):TyOf K H (.str x) (.type "str")
  | flt (x:UInt64):TyOf K H (.flt x) (.type "float")
  | lst {a:Addr} {xs:List V} (e:H a=some (.lst xs)):TyOf K H (.ref a) (.type "list")
  | frz {a:Addr} {o:Obj} {xs:List V} (e:H a=some (.frz o (.lst xs))):TyOf K H (.ref a) (.type "list")
  | tup {a:Addr} {xs:List V} (e:H a=some (.tup xs)):TyOf K H (.ref a) (.type "tuple")
  | dK {a:Addr} {kvs:List (Key × V)} (e:H a=some (.dK kvs)):TyOf K H (.ref a) (.type "dict")
  | dT {a:Addr} {kvs:List (List Key × V)} (e:H a=some (.dT kvs)):TyOf K H (.ref a) (.type "dict")
  | ins {a C dx:Addr} {fs:List (Str × V)} (e:H a=some (.ins C dx fs)) (cl:Cls K C) (ha:PySem.W.findIn K (.ref C) "__class__"=some (some (.builtin "object.__class__")))
      (hn:PySem.W.specialIn K (.builtin "object.__class__") "__get__"=some (some (.builtin "getset_descriptor.__get__"))) (htk:PySem.W.takesIn K (.builtin "object.__class__")=some true)
      (hm:PySem.W.mroIn K C (.type "object")=some true):TyOf K H (.ref a) (.ref C)
theorem isinst_ok {x:V} {u t:Value} (I:Inv X pins σ H s) (rx:RelV x u) (ty:TyOf X.K H x t) (e:PySem.W.kitOne X.K t c=some b) (h:∀ tk,Q (.bool b) { s with toks:=tk }) :
    wpAny (model X.prog X.w) A (call (.builtin "isinstance") [u,c]) Q E s:=by
  cases ty with
  | non=>cases (show u=Value.none from rx); exact PySem.W.kia_one PySem.W.kitx_none I.kIn True.intro e (fun z=>nomatch z) h
  | bl y=>cases (show u=Value.bool y from rx); exact PySem.W.kia_one PySem.W.kitx_bool I.kIn True.intro e (fun z=>nomatch z) h
  | int i=>obtain ⟨t,q⟩:=(show ∃ t,u=Value.int i t from rx); cases q; exact PySem.W.kia_one PySem.W.kitx_int I.kIn True.intro e (fun z=>nomatch z) h
  | str y=>obtain ⟨t,q⟩:=(show ∃ t,u=Value.str y t from rx); cases q; exact PySem.W.kia_one PySem.W.kitx_str I.kIn True.intro e (fun z=>nomatch z) h
  | flt y=>obtain ⟨t,q⟩:=(show ∃ t,u=Value.float y t from rx); cases q; exact PySem.W.kia_one PySem.W.kitx_float I.kIn True.intro e (fun z=>nomatch z) h
  | @lst a xs ea =>
    cases (show u=Value.ref a from rx)
    obtain ⟨_,_,n,_,h1⟩:=(show ObjOk X.prog X.w H s.heap a (.lst xs) from I.hok a _ ea)
    exact PySem.W.kia_one PySem.W.kitx_list I.kIn ⟨_,h1,rfl⟩ e (fun z=>nomatch z) h
  | @frz a ob xs ea =>
    cases (show u=Value.ref a from rx)
    obtain ⟨_,_,_,n,_,h1⟩:=(show ObjOk X.prog X.w H s.heap a (.frz ob (.lst xs)) from I.hok a _ ea)
    exact PySem.W.kia_one PySem.W.kitx_list I.kIn ⟨_,h1,rfl⟩ e (fun z=>nomatch z) h
  | @tup a xs ea =>
    cases (show u=Value.ref a from rx)
    obtain ⟨_,_,_,p⟩:=(show ObjOk X.prog X.w H s.heap a (.tup xs) from I.hok a _ ea)
    obtain ⟨o,h1,h2,_⟩:=p
    exact PySem.W.kia_one PySem.W.kitx_tuple I.kIn ⟨o,h1,h2⟩ e (fun z=>nomatch z) h
  | @dK a kvs ea =>
    cases (show u=Value.ref a from rx)
    obtain ⟨_,_,vs,_,p⟩:=(show ObjOk X.prog X.w H s.heap a (.dK kvs) from I.hok a _ ea)
    obtain ⟨o,es,ep,h1,h2,_⟩:=p
    exact PySem.W.kia_one PySem.W.kitx_dict I.kIn ⟨o,h1,h2.1⟩ e (fun z=>nomatch z) h
  | @dT a kvs ea =>
    cases (show u=Value.ref a from rx)
    obtain ⟨_,_,xs,_,o,es,ep,h1,h2,_⟩:=(show ObjOk X.prog X.w H s.heap a (.dT kvs) from I.hok a _ ea)
    exact PySem.W.kia_one PySem.W.kitx_dict I.kIn ⟨o,h1,h2.1⟩ e (fun z=>nomatch z) h
  | @ins a C dx fs ea cl ha hn htk hm =>
    cases (show u=Value.ref a from rx)
    obtain ⟨mA,O,_⟩:=ins_get I.hok ea
    obtain ⟨od,J,_⟩:=O.look
    exact PySem.W.kia_one (PySem.W.kitx_own (cl.get _) cl.hd ha hn htk hm) I.kIn J e (fun z=>nomatch z) h
end
end L2

namespace L2
open PySem PySem.Spec PyProof.Rows

structure Room (k:Nat) (A:Around):Prop where
  hd:A.handled=none
  dp:A.depth + 3 * k + 5 < recursionLimit
  un:A.units + 16 * k + 200 < cLine
  gd:A.guards=some []
theorem Room.mono {j k:Nat} {A:Around} (r:Room k A) (h:j≤k):Room j A:=⟨r.hd,by have:=r.dp; omega,by have:=r.un; omega,r.gd⟩
theorem Room.deeper {k:Nat} {A:Around} (r:Room (k + 1) A) (env:Env):Room k (A.deeper env) :=
  ⟨r.hd,by have:=r.dp; show A.depth + 1 + 3 * k + 5 < _; omega,by have:=r.un; show A.units + 3 + 16 * k + 200 < _; omega,r.gd⟩
theorem Room.in1 {k:Nat} {A:Around} (r:Room (k + 1) A):Room k A.in1 :=
  ⟨r.hd,by have:=r.dp; show A.depth + 3 * k + 5 < _; omega,by have:=r.un; show A.units + 1 + 16 * k + 200 < _; omega,r.gd⟩
theorem make_depth {A:Around} {C:Addr} {us:List Value} {kw:List (Str × Value)}:(A.under (.builtin "type.__call__" ⟨.ref C::us,kw⟩)).depth=A.depth + 1:=by
  first | rfl | simp [Around.under,Code.weight,Code.isCreation,Code.isGuard,Code.isCaller,Code.frames,Code.isFrame,guardIds]
theorem make_units {A:Around} {C:Addr} {us:List Value} {kw:List (Str × Value)}:(A.under (.builtin "type.__call__" ⟨.ref C::us,kw⟩)).units=A.units + 1:=by
  first | rfl | simp [Around.under,Code.cUnits,Code.frames,Code.isFrame]
theorem Room.make {k:Nat} {A:Around} (r:Room (k + 1) A) (C:Addr) (us:List Value) (kw:List (Str × Value)):Room k (A.under (.builtin "type.__call__" ⟨.ref C::us,kw⟩)) :=
  ⟨r.hd,by have:=r.dp; rw [make_depth]; omega,by have:=r.un; rw [make_units]; omega,by first | exact r.gd | (simp [Around.under,Code.isGuard,guardIds]; exact r.gd)⟩
theorem Room.depth {k:Nat} {A:Around} (r:Room k A):A.depth < recursionLimit:=by have:=r.dp; omega
theorem Room.units {k:Nat} {A:Around} (r:Room k A):A.units + 64 < cLine:=by have:=r.un; omega
def tNil:TA:=fun _ H Q=>Q [] H
def tCons (ta:TE) (tr:TA):TA:=fun σ H Q=>ta σ H fun x H1=>tr σ H1 fun xs H2=>Q (x::xs) H2
section
variable {X:Cx} {e:Expr} {es:List Expr} {te:TE} {t:TA} {pos:Pos}
theorem pa_nil:PA X [] tNil:=fun _ _ _ _ H Q I h=>Calls.spliced_nil ⟨[],H,I,.nil,h⟩
theorem pa_cons (ha:PE X e te) (hr:PA X es t) (hs:starEach (e::es) X.env=(false,eval e X.env)::starEach es X.env:=by rfl):PA X (e::es) (tCons te t):=by
  intro pos pins s σ H Q I h
  rw [hs]
  show wpAny _ _ (spliced ((false,eval e X.env)::backTo pos (starEach es X.env))) _ _ s
  refine Calls.spliced_cons (thn (ha pins s σ H _ I h) fun u s1 ⟨x,H1,I1,r1,q1⟩=>?_)
  exact thn (hr pos pins s1 σ H1 _ I1 q1) fun us s2 ⟨xs,H2,I2,r2,q2⟩=>⟨x::xs,H2,I2,.cons r1 r2,q2⟩

def tTup (t:TA):TE:=fun σ H Q=>t σ H fun xs H1=>xs.length≤sizeLine∧∀ p,H1 p=none→Q (.ref p) (upd H1 p (.tup xs))
def tLst (t:TA):TE:=fun σ H Q=>t σ H fun xs H1=>xs.length≤sizeLine∧∀ p,H1 p=none→Q (.ref p) (upd H1 p (.lst xs))
theorem pe_tup {x1} (h:PA X es t):PE X (.Tuple es x1 pos) (tTup t):=by
  intro pins s σ H Q I hq
  refine wpAny_Tuple_spliced (thn (h pos pins s σ H _ I hq) fun us s1 ⟨xs,H1,I1,r,z,q⟩=>⟨by rw [← r.length]; exact z,?_⟩)
  have hf:H1 s1.heap.objs.size=none:=I1.hok.fresh (Nat.le_refl _)
  refine ⟨.ref s1.heap.objs.size,upd H1 s1.heap.objs.size (.tup xs),I1.laid (t':=s1.toks) (fun b u e=>Heap.get?_push_of_some _ e) (Nat.le_refl _) ?_,rfl,q _ hf⟩
  exact ⟨z,us,r,⟨_,Heap.get?_push_size _ rfl,rfl,_,rfl,rfl⟩⟩
theorem pe_lst (h:PA X es t):PE X (.List es pos) (tLst t):=by
  intro pins s σ H Q I hq
  refine wpAny_List_spliced (thn (h pos pins s σ H _ I hq) fun us s1 ⟨xs,H1,I1,r,z,q⟩=>⟨by rw [← r.length]; exact z,?_⟩)
  have hf:H1 s1.heap.objs.size=none:=I1.hok.fresh (Nat.le_refl _)
  refine ⟨.ref s1.heap.objs.size,upd H1 s1.heap.objs.size (.lst xs),I1.laid (t':=s1.toks) (fun b u e=>Heap.get?_push_of_some _ e) (Nat.le_refl _) ?_,rfl,q _ hf⟩
  exact ⟨z,us,0,r,Heap.get?_push_size _ rfl⟩
end

abbrev Sp:=List V→Hp→VK→XK→Prop
abbrev CXT:=List Env→Hp→Shared→XK→Value→Shared→Prop

structure Env0 (P:Program) (w:World) (K:PySem.W.Frag) (mg:Str→Option Value) (base:Heap) (A:Around) (outer:List Env) (s:Shared) (H:Hp):Prop where
  frames:A.frames=some outer
  mod:Mod K mg base
  bs:∀ b o,base.get? b=some o→s.heap.get? b=some o∧H b=none
  bsz:base.objs.size≤s.heap.objs.size
  funs:s.heap.FunFrames base outer
  frf:∀ b ∈ frs outer,H b=none
  hok:HOk P w H s.heap
  bare:AllBare s.gens
def CE (outer:List Env) (P:Program) (w:World) (H:Hp) (s:Shared) (Q:VK) (u:Value) (s':Shared):Prop :=
  ∃ v H',s'.os=s.os∧AllBare s'.gens∧Un (frs outer) [] H H' s.heap s'.heap∧HOk P w H' s'.heap∧RelV v u∧Q v H'
def CR (CX:CXT) (outer:List Env) (P:Program) (w:World) (H:Hp) (s:Shared) (Q:VK) (E:XK) (r:Result) (s':Shared):Prop :=
  match r with
  | .ok (.ret u)=>CE outer P w H s Q u s'
  | .ok _=>False
  | .error e=>CX outer H s E e s'
structure FnOk (P:Program) (w:World) (K:PySem.W.Frag) (mg:Str→Option Value) (base:Heap) (CX:CXT) (k:Nat) (f:Addr) (fd:FuncData) (ps:List Str) (sp:Sp):Prop where
  len:∀ vs H Q E,sp vs H Q E→vs.length=ps.length
  run:∀ (A:Around) (outer:List Env) (s:Shared) (H:Hp) (args:Args) (us:List Value) (vs:List V) (Q:VK) (E:XK),Room k A→Env0 P w K mg base A outer s H→BindsTo s fd args (ps.zip us)→Vals vs us→sp vs H Q E →
    codeAny (model P w) A (.call (.ref f) args) (CR CX outer P w H s Q E) s
theorem FnOk.mono {P:Program} {w:World} {K:PySem.W.Frag} {mg:Str→Option Value} {base:Heap} {CX:CXT} {j k:Nat} {f:Addr} {fd:FuncData} {ps:List Str} {sp:Sp} (F:FnOk P w K mg base CX j f fd ps sp) (h:j≤k) :
    FnOk P w K mg base CX k f fd ps sp:=⟨F.len,fun A outer s H args us vs Q E hr=>F.run A outer s H args us vs Q E (hr.mono h)⟩
theorem FnOk.imp {P:Program} {w:World} {K:PySem.W.Frag} {mg:Str→Option Value} {base:Heap} {CX:CXT} {k:Nat} {f:Addr} {fd:FuncData} {ps:List Str} {sp sp':Sp} (F:FnOk P w K mg base CX k f fd ps sp)
    (h:∀ vs H Q E,sp' vs H Q E→sp vs H Q E):FnOk P w K mg base CX k f fd ps sp' :=
  ⟨fun vs H Q E q=>F.len vs H Q E (h _ _ _ _ q),fun A outer s H args us vs Q E hr he hb hv hs=>F.run A outer s H args us vs Q E hr he hb hv (h _ _ _ _ hs)⟩

theorem Env0.make {P:Program} {w:World} {K:PySem.W.Frag} {mg:Str→Option Value} {base:Heap} {A:Around} {outer:List Env} {s:Shared} {H:Hp} (e:Env0 P w K mg base A outer s H) (C:Addr) (us:List Value) (kw:List (Str × Value)) :
    Env0 P w K mg base (A.under (.builtin "type.__call__" ⟨.ref C::us,kw⟩)) outer s H:=⟨by first | exact e.frames | (simpa [Around.under,Code.envs,Code.isFrame,pushEnvs] using e.frames),e.mod,e.bs,e.bsz,e.funs,e.frf,e.hok,e.bare⟩
theorem Env0.in1 {P:Program} {w:World} {K:PySem.W.Frag} {mg:Str→Option Value} {base:Heap} {A:Around} {outer:List Env} {s:Shared} {H:Hp} (e:Env0 P w K mg base A outer s H) :
    Env0 P w K mg base A.in1 outer s H:=⟨e.frames,e.mod,e.bs,e.bsz,e.funs,e.frf,e.hok,e.bare⟩

section
variable {X:Cx} {pins:List (Addr × Obj)} {σ:St} {H:Hp} {s s':Shared}
theorem Inv.env0 (I:Inv X pins σ H s):Env0 X.prog X.w X.K X.mg X.base X.A X.stack s H :=
  ⟨I.ok.frames,I.ok.mod,I.bs,Nat.le_trans I.ok.bsz I.sz,I.stack,I.stkFree,I.hok,I.bare⟩
theorem Inv.after {Q:VK} {u:Value} (I:Inv X pins σ H s) (h:CE X.stack X.prog X.w H s Q u s'):EP X pins σ Q u s':=by
  obtain ⟨v,H',os,bare,un,hok,r,q⟩:=h
  obtain ⟨hh,g,d,t,os'⟩:=s'
  obtain rfl:os'=s.os:=os
  exact ⟨v,H',I.call (h':=hh) (g':=g) (d':=d) (t':=t) (ch:=[]) un hok bare (fun b z=>absurd z (by simp)),r,q⟩
end

def tCall (sp:Sp) (dvs:List V) (E:XK) (t:TA):TE:=fun σ H Q=>t σ H fun vs H1=>sp (vs++dvs) H1 Q E
def Binds (K:PySem.W.Frag) (fd:FuncData) (ps:List Str) (ds:List Value):Prop :=
  ∀ (s:Shared) (us:List Value),K.In s.heap→(us++ds).length=ps.length→BindsTo s fd ⟨us,[]⟩ (ps.zip (us++ds))
theorem Binds.all {K:PySem.W.Frag} {fd:FuncData} {ps:List Str} (h:∀ us:List Value,us.length=ps.length→bindArgs fd ⟨us,[]⟩=pure (ps.zip us)):Binds K fd ps []:=fun s us _ hl=>by
  rw [List.append_nil] at hl ⊢
  exact .of_eq (h us hl)

def Passes (CX:CXT) (X:Cx) (E:XK):Prop:=∀ (pins:List (Addr × Obj)) (σ:St) (H:Hp) (s:Shared) (e:Value) (s':Shared),Inv X pins σ H s→CX X.stack H s E e s'→X.xe e s'

section
variable {X:Cx} {CX:CXT} {k:Nat} {f C:Addr} {fd:FuncData} {ps:List Str} {sp:Sp} {dvs:List V} {ds:List Value} {E:XK} {x m:Str} {p pos apos:Pos} {e o:Expr} {es:List Expr} {ta:TE} {t:TA}

theorem run_fn {pins:List (Addr × Obj)} {σ:St} {H:Hp} {s:Shared} {Q:VK} {us:List Value} {vs:List V} (F:FnOk X.prog X.w X.K X.mg X.base CX k f fd ps sp) (hr:Room k X.A) (hb:Binds X.K fd ps ds) (hd:Vals dvs ds) (hx:Passes CX X E)
    (I:Inv X pins σ H s) (r:Vals vs us) (h:sp (vs++dvs) H Q E):wpAny (model X.prog X.w) X.A (call (.ref f) us) (EP X pins σ Q) X.xe s:=by
  have r2:Vals (vs++dvs) (us++ds):=r.append hd
  have hl:(us++ds).length=ps.length:=by rw [← r2.length]; exact F.len _ _ _ _ h
  refine wpAny_call (codeAny_mono (F.run X.A X.stack s H ⟨us,[]⟩ (us++ds) (vs++dvs) Q E hr I.env0 (hb s us I.kIn hl) r2 h) fun r s' hq=>?_)
  cases r with
  | error e=>exact hx pins σ H s e s' I hq
  | ok fl =>
    cases fl with
    | ret u=>exact I.after hq
    | next=>exact False.elim hq
    | brk=>exact False.elim hq
    | cont=>exact False.elim hq

theorem pe_call (F:FnOk X.prog X.w X.K X.mg X.base CX k f fd ps sp) (hr:Room k X.A) (hg:Gl X x) (hm:X.mg x=some (.ref f)) (hk:PySem.W.keepIn X.K (.ref f)=true) (hb:Binds X.K fd ps ds) (hd:Vals dvs ds) (hx:Passes CX X E)
    (ha:PA X (e::es) t) (hdb:(x == ("__debug__":Str))=false:=by decide) (he:starEach (e::es) X.env=(false,eval e X.env)::starEach es X.env:=by rfl) (hpl:(backTo pos (starEach es X.env)).any (·.1)=false:=by rfl) :
    PE X (.Call (.Name x p) (e::es) [] pos) (tCall sp dvs E t):=by
  intro pins s σ H Q I h
  refine wpAny_Call_Name_kw (ld_glob I hg hm ?_ hdb)
  refine PySem.W.callWith_K (h₀:=X.base) I.ok.mod.kin hk (thn (ha pos pins s σ H _ I h) fun us s1 ⟨vs,H1,I1,r,q⟩=>⟨I1.kIn,?_⟩) he hpl
  exact run_fn F hr hb hd hx I1 r q
end

section
variable {X:Cx} {CX:CXT} {k:Nat} {f C:Addr} {fd:FuncData} {ps ks:List Str} {sp:Sp} {E:XK} {x m:Str} {p pos apos kpos:Pos} {e o:Expr} {es:List Expr} {kws:List Keyword} {te ta:TE} {t tk:TA} {nm:Option Str}
variable {g:List Value→List Value→List Value} {gV:List V→List V→List V}
end

structure FnScope (N P:List Str) (sc:Scope):Prop where
  kind:sc.kind=.function
  co:sc.isCoroutine=false
  gen:sc.isGenerator=false
  nd:N.Nodup
  pre:N.take P.length=P
  par:∀ x ∈ P,sc.names.lookup x=some .local ∨ sc.names.lookup x=some .cell
  nofree:∀ y ∈ sc.names,y.2 ≠ .free

theorem bindL_out {kindOf:Str→Option NameKind} {x:Str}:∀ {binds:List (Str × Value)} {m:Str→Option Value},(∀ v,(x,v) ∉ binds)→bindL kindOf binds m x=m x
  | [],_,_=>rfl
  | (n,v)::r,m,h=>by
    unfold bindL
    rw [bindL_out fun w hw=>h w (List.mem_cons_of_mem _ hw)]
    split
    · have:x ≠ n:=by rintro rfl; exact h v List.mem_cons_self
      simp [this]
    · rfl
theorem bindC_out {kindOf:Str→Option NameKind} {x:Str}:∀ {binds:List (Str × Value)} {m:Str→Option Value},(∀ v,(x,v) ∉ binds)→bindC kindOf binds m x=m x
  | [],_,_=>rfl
  | (n,v)::r,m,h=>by
    unfold bindC
    rw [bindC_out fun w hw=>h w (List.mem_cons_of_mem _ hw)]
    split
    · rfl
    · have:x ≠ n:=by rintro rfl; exact h v List.mem_cons_self
      simp [this]
theorem bindL_get {kindOf:Str→Option NameKind} {x:Str} {v:Value}:∀ {P:List Str} {vs:List Value} {i:Nat} {m:Str→Option Value},P.Nodup→P[i]?=some x→vs[i]?=some v→kindOf x=some .local →
    bindL kindOf (P.zip vs) m x=some v
  | [],_,_,_,_,h,_,_=>by simp at h
  | _::_,[],_,_,_,_,h,_=>by simp at h
  | p::P,w::vs,0,m,nd,h1,h2,hk=>by
    simp at h1 h2; subst h1; subst h2
    show bindL kindOf ((p,w)::P.zip vs) m p=_
    unfold bindL
    rw [bindL_out fun v hv=>(List.nodup_cons.mp nd).1 (List.of_mem_zip hv).1,if_pos hk]
    simp
  | p::P,w::vs,i + 1,m,nd,h1,h2,hk=>by
    show bindL kindOf ((p,w)::P.zip vs) m x=_
    unfold bindL
    exact bindL_get (i:=i) (List.nodup_cons.mp nd).2 (by simpa using h1) (by simpa using h2) hk
theorem bindC_get {kindOf:Str→Option NameKind} {x:Str} {v:Value}:∀ {P:List Str} {vs:List Value} {i:Nat} {m:Str→Option Value},P.Nodup→P[i]?=some x→vs[i]?=some v→kindOf x ≠ some .local →
    bindC kindOf (P.zip vs) m x=some v
  | [],_,_,_,_,h,_,_=>by simp at h
  | _::_,[],_,_,_,_,h,_=>by simp at h
  | p::P,w::vs,0,m,nd,h1,h2,hk=>by
    simp at h1 h2; subst h1; subst h2
    show bindC kindOf ((p,w)::P.zip vs) m p=_
    unfold bindC
    rw [bindC_out fun v hv=>(List.nodup_cons.mp nd).1 (List.of_mem_zip hv).1,if_neg hk]
    simp
  | p::P,w::vs,i + 1,m,nd,h1,h2,hk=>by
    show bindC kindOf ((p,w)::P.zip vs) m x=_
    unfold bindC
    exact bindC_get (i:=i) (List.nodup_cons.mp nd).2 (by simpa using h1) (by simpa using h2) hk

def start (N:List Str) (vs:List V):St:=vs.map some++List.replicate (N.length - vs.length) none

def cxOf (CX:CXT) (P:Program) (w:World) (K:PySem.W.Frag) (mg:Str→Option Value) (base:Heap) (N:List Str) (qual:Str) (scope:Scope) (f:Addr) (cd:Value) (A:Around) (outer:List Env) (s:Shared) (H:Hp) (E:XK):Cx where
  prog:=P
  w:=w
  K:=K
  mg:=mg
  base:=base
  A:=A.deeper (envOfC qual scope s.heap.objs.size f cd)
  N:=N
  s₀:=s
  H₀:=H
  env:=envOfC qual scope s.heap.objs.size f cd
  outer:=outer
  stack:=envOfC qual scope s.heap.objs.size f cd::outer
  ex:=[]
  calm:=true
  fn:=fun _=>true
  pn:=[]
  xe:=fun e s'=>wpAny (model P w) (A.deeper (envOfC qual scope s.heap.objs.size f cd)) (leaving (envOfC qual scope s.heap.objs.size f cd) e) (fun _ s''=>CX outer H s E e s'') (fun e' s''=>CX outer H s E e' s'') s'

theorem cell_has {sc:Scope} {n:Nat} {x:Str} (h:sc.names.lookup x=some .cell):∃ c,(cellsFrom n sc.names []).lookup x=some c:=by
  have q:=PySem.W.cellsFrom_some sc.names n [] (.inl h)
  exact Option.isSome_iff_exists.mp q

theorem inv_start {CX:CXT} {P:Program} {w:World} {K:PySem.W.Frag} {mg:Str→Option Value} {base:Heap} {N ps:List Str} {qual:Str} {scope:Scope} {f:Addr} {cd:Value} {A:Around} {outer:List Env} {s s1:Shared} {H:Hp} {E:XK} {us:List Value} {vs:List V}
    (S:FnScope N ps scope) (hd:A.handled=none) (e0:Env0 P w K mg base A outer s H) (hl:vs.length=ps.length) (r:Vals vs us)
    (x:InCallC s s.heap.objs.size (bindL (envOfC qual scope s.heap.objs.size f cd).kindOf (ps.zip us) fun _=>none) (cellsFrom (s.heap.objs.size + 1) scope.names []) (bindC (envOfC qual scope s.heap.objs.size f cd).kindOf (ps.zip us) fun _=>none) s1) :
    Inv (cxOf CX P w K mg base N qual scope f cd A outer s H E) [] (start N vs) H s1:=by
  have hpl:ps.length≤N.length:=by have:=congrArg List.length S.pre; rw [List.length_take] at this; omega
  obtain ⟨h1,tk,rfl,hk⟩:=x.done
  have noA:∀ b:Addr,b ∉ (cxOf CX P w K mg base N qual scope f cd A outer s H E).ex:=fun b z=>absurd (show b ∈ ([]:List Addr) from z) (by simp)
  refine ⟨⟨e0.mod,S.kind,rfl,rfl,Nat.le_refl _,fun y z c h1 h2=>?_,fun y hy=>?_,fun y c _ h=>?_,fun _=>hd,Around.frames_deeper e0.frames,.inr ⟨rfl,rfl⟩,fun b z=>absurd z (noA b),e0.bs,e0.bsz,fun b _ _=>noA b,fun b z=>absurd z (noA b),e0.funs,e0.frf⟩,
    rfl,e0.bare,Un.kept hk,⟨_,x.toInCall.ns,fun i y v h1 h2 h3=>?_⟩,fun y c h=>⟨_,x.cell y c h⟩,e0.hok.fresh (Nat.le_refl _),fun y c h=>?_,fun p hp=>absurd (show p ∈ ([]:List (Addr × Obj)) from hp) (by simp),e0.hok.kept hk,?_⟩
  · exact name_of_addr x.apart (PySem.mem_of_lookup h1) (PySem.mem_of_lookup h2)
  · have hy:scope.names.lookup y=some .cell ∨ scope.names.lookup y=some .free:=hy
    rcases hy with hy | hy
    · exact cell_has hy
    · exact absurd rfl (S.nofree _ (PySem.mem_of_lookup hy))
  · exact Nat.le_of_lt (x.above y c (PySem.mem_of_lookup h))
  · have hi:i < vs.length:=by
      unfold start at h2
      by_cases hi:i < vs.length
      · exact hi
      · rw [List.getElem?_append_right (by simpa using hi)] at h2
        rw [List.getElem?_replicate] at h2
        split at h2 <;> cases h2
    have ha:vs[i]?=some v:=by
      unfold start at h2
      rw [List.getElem?_append_left (by simpa using hi),List.getElem?_map] at h2
      cases e:vs[i]? with
      | none=>rw [e] at h2; cases h2
      | some a=>rw [e] at h2; cases h2; rfl
    obtain ⟨u,hu,rv⟩:=r.get ha
    have hp:ps[i]?=some y:=by
      rw [← S.pre,List.getElem?_take_of_lt (by omega)]; exact h1
    have ndP:ps.Nodup:=by rw [← S.pre]; exact S.nd.sublist (List.take_sublist _ _)
    refine ⟨u,rv,?_⟩
    rcases S.par y (List.mem_of_getElem? hp) with k | k
    · exact .inl ⟨k,bindL_get ndP hp hu k⟩
    · obtain ⟨c,e⟩:=cell_has (n:=s.heap.objs.size + 1) k
      refine .inr ⟨.inl k,c,e,?_⟩
      have q:=x.cell y c e
      rw [bindC_get ndP hp hu (by show scope.names.lookup y ≠ _; rw [k]; decide)] at q
      exact q
  · exact e0.hok.fresh (Nat.le_of_lt (x.above y c (PySem.mem_of_lookup h)))
  · unfold start
    show _=N.length
    rw [List.length_append,List.length_map,List.length_replicate]
    omega

theorem fn_of {CX:CXT} {P:Program} {w:World} {K:PySem.W.Frag} {mg:Str→Option Value} {base:Heap} {k:Nat} {f:Addr} {name qual:Str} {params:Arguments} {body:List Stmt} {scope:Scope} {dV kV doc pm cdv ct oc:Value} {an od:Option Addr}
    {osl:Array (Option Value)} {N ps:List Str} {sp:Sp} (lk:K.lookup f=some ⟨oc,od,.func (PySem.W.fnOf name qual params body scope dV kV doc pm an cdv ct),osl⟩) (hcd:PySem.W.codeIn K cdv qual=true) (S:FnScope N ps scope)
    (len:∀ vs H Q E,sp vs H Q E→vs.length=ps.length)
    (hbody:∀ (A:Around) (outer:List Env) (s:Shared) (H:Hp) (vs:List V) (Q:VK) (E:XK),Room k (A.deeper (envOfC qual scope s.heap.objs.size f cdv))→sp vs H Q E →
      ∃ t,PSs (cxOf CX P w K mg base N qual scope f cdv A outer s H E) body t∧t { nx:=fun _ H'=>Q .non H',rt:=Q } (start N vs) H) :
    FnOk P w K mg base CX (k + 1) f (PySem.W.fnOf name qual params body scope dV kV doc pm an cdv ct) ps sp:=by
  refine ⟨len,fun A outer s H args us vs Q E hr e0 hb r hsp=>?_⟩
  have hl:=len _ _ _ _ hsp
  have KX:K.In s.heap:=e0.mod.kin.keeps fun b o e=>(e0.bs b o e).1
  have lim:s.heap.NoLimit:=e0.mod.nolimit.keeps fun b o e=>(e0.bs b o e).1
  have hkind:∀ y ∈ ps.zip us,scope.names.lookup y.1=some .local ∨ (scope.names.lookup y.1=some .cell∧((cellsFrom (s.heap.objs.size + 1) scope.names []).lookup y.1).isSome=true):=fun ⟨n,v⟩ hy=>by
    rcases S.par n (List.of_mem_zip hy).1 with q | q
    · exact .inl q
    · exact .inr ⟨q,PySem.W.cellsFrom_some _ _ _ (.inl q)⟩
  refine codeAny_call_function hr.depth (KX _ _ lk) rfl S.co S.gen rfl (PySem.W.codeRec_of KX hcd) (hb _ _ _ _ ?_)
  refine wpAny_newFunctionEnv_cells S.kind hkind fun env he s1 x=>?_
  subst he
  refine ⟨lim.keeps x.toInCall.keep,codeAny_func ?_⟩
  obtain ⟨t,ht,hq⟩:=hbody A outer s H vs Q E (hr.deeper _) hsp
  have I:Inv (cxOf CX P w K mg base N qual scope f cdv A outer s H E) [] (start N vs) H s1:=inv_start S hr.hd e0 hl r x
  refine wpAny_mono (ht [] s1 (start N vs) H _ I hq) (fun fl s' hs=>?_) fun e s' hs=>hs
  have fin:∀ {σ':St} {H':Hp} {v:V} {u:Value},Inv (cxOf CX P w K mg base N qual scope f cdv A outer s H E) [] σ' H' s'→RelV v u→Q v H'→CE outer P w H s Q u s' :=
    fun {σ' H' v u} J rv q=>⟨v,H',J.os,J.bare,J.base,J.hok,rv,q⟩
  cases fl with
  | ret u =>
    obtain ⟨v,σ',H',J,rv,q⟩:=hs
    exact fin J rv q
  | next =>
    obtain ⟨σ',H',J,q⟩:=hs
    exact fin (v:=V.non) (u:=Value.none) J rfl q
  | brk =>
    obtain ⟨_,_,_,q⟩:=hs
    exact False.elim q
  | cont =>
    obtain ⟨_,_,_,q⟩:=hs
    exact False.elim q
end L2

namespace L2
open PySem PySem.Spec PyProof.Rows
section
variable {X:Cx} {x:Str} {p pos:Pos} {e:Expr} {es:List Expr} {t:TA} {id T:String} {r:List V→Hp→VK→Prop}

def tCB (r:List V→Hp→VK→Prop) (t:TA):TE:=fun σ H Q=>t σ H fun vs H1=>r vs H1 Q
theorem pe_callB (hc:CallR X (.builtin id) r) (hg:Gl X x) (hm:X.mg x=none) (hv:bootBuiltins x=some (.builtin id)) (ha:PA X (e::es) t) (hn:x ≠ "__name__":=by decide) (hdb:(x == ("__debug__":Str))=false:=by decide)
    (he:starEach (e::es) X.env=(false,eval e X.env)::starEach es X.env:=by rfl) (hpl:(backTo pos (starEach es X.env)).any (·.1)=false:=by rfl):PE X (.Call (.Name x p) (e::es) [] pos) (tCB r t):=by
  intro pins s σ H Q I h
  refine wpAny_Call_Name_kw (ld_blt I hg hm hv ?_ hn hdb)
  exact PyProof.Rows.callWith_builtin1 (thn (ha pos pins s σ H _ I h) fun us s1 ⟨vs,H1,I1,r1,q1⟩=>hc pins s1 σ H1 vs us Q I1 r1 q1) he hpl
theorem pe_callTy (hc:CallR X (.type T) r) (hg:Gl X x) (hm:X.mg x=none) (hv:bootBuiltins x=some (.type T)) (ha:PA X (e::es) t) (hn:x ≠ "__name__":=by decide) (hdb:(x == ("__debug__":Str))=false:=by decide)
    (he:starEach (e::es) X.env=(false,eval e X.env)::starEach es X.env:=by rfl) (hpl:(backTo pos (starEach es X.env)).any (·.1)=false:=by rfl):PE X (.Call (.Name x p) (e::es) [] pos) (tCB r t):=by
  intro pins s σ H Q I h
  refine wpAny_Call_Name_kw (ld_blt I hg hm hv ?_ hn hdb)
  exact PyProof.Rows.callWith_type1 (thn (ha pos pins s σ H _ I h) fun us s1 ⟨vs,H1,I1,r1,q1⟩=>hc pins s1 σ H1 vs us Q I1 r1 q1) he hpl
end
end L2

namespace HT
open PySem PyProof.Rows

def lexLt:List Int→List Int→Bool
  | [],[]=>false
  | [],_::_=>true
  | _::_,[]=>false
  | x::xs,y::ys=>if x=y then lexLt xs ys else decide (x < y)
theorem lexLt_cons (x y:Int) (xs ys:List Int):lexLt (x::xs) (y::ys)=if x=y then lexLt xs ys else decide (x < y):=rfl
theorem lexLt_nil_nil:lexLt [] []=false:=rfl
theorem lexLt_nil_cons (y:Int) (ys:List Int):lexLt [] (y::ys)=true:=rfl
theorem lexLt_cons_nil (x:Int) (xs:List Int):lexLt (x::xs) []=false:=rfl

theorem eqAt_int (A:Around) (s:Shared) (a:Int) (t:Tok) (c:Int) (u:Tok):∃ e,SeqAt.EqAt A s (.int a t) (.int c u) e∧(e=true ↔ a=c) :=
  ⟨(a == c),SeqAt.EqAt.int_int a t c u,by simp⟩
theorem rcLt_int (A:Around) (s:Shared) (a:Int) (t:Tok) (c:Int) (u:Tok) (prog:Program) (w:World) (E:Value→Shared→Prop) (Q:Value→Shared→Prop) (h:Q (.bool (decide (a < c))) s) :
    wpAny (model prog w) A (richCompare .Lt (.int a t) (.int c u)) Q E s :=
  (PyProof.Rows.lt_int h:wpAny (model prog w) A (compareOp .Lt (.int a t) (.int c u)) Q E s)

section
open PySem.SeqAt
open PySem.AutoSeq1 (wpAny_loadPart')
open PySem.MeetsSeq PySem.MeetsSeq2 PySem.MeetsSeq3

theorem tuple_lt_ints (l b:Addr) (items items2:Array Value) (n n2:Nat) (dd dd2:Option Addr) (sl sl2:Array (Option Value)) (ns ms:List Int) (hi:IntsAre items.toList ns) (hj:IntsAre items2.toList ms) :
    Meets (Builtin.«tuple.__lt__» ⟨[.ref l,.ref b],[]⟩)
      (fun _ R s=>s.heap.get? l=some { cls:=.type "tuple",dict:=dd,data:=.seq items n,slots:=sl }∧s.heap.get? b=some { cls:=.type "tuple",dict:=dd2,data:=.seq items2 n2,slots:=sl2 } ∧
        R (.ok (.ret (.bool (lexLt ns ms)))) s) :=
  .of_wp fun prog w A R s h=>by
    obtain ⟨hp,g,d,tk,os⟩:=s; obtain ⟨hl,hb,h⟩:=h
    have f2:=AutoSeq1.sub_tuple_tuple
    have z1:items.size=ns.length:=by rw [← hi.length]; simp
    have z2:items2.size=ms.length:=by rw [← hj.length]; simp
    wp_walk using wpAny_loadPart' hl,wpAny_loadPart' hb,wpAny_forIn_list _ (fun rest b s'=>b.1=none∧s'=⟨hp,g,d,tk,os⟩∧∃ (vs ws:List Value) (ns' ms':List Int),rest=vs.zip ws ∧
      IntsAre vs ns'∧IntsAre ws ms'∧ns'.length + items2.size=ms'.length + items.size∧R (.ok (.ret (.bool (lexLt ns' ms')))) ⟨hp,g,d,tk,os⟩) _
    case turn =>
      rintro ⟨y,x⟩ rest b s' ⟨hb',rfl,vs,ws,ns',ms',hz,hvi,hwi,hlen,hR⟩
      cases hvi with
      | nil=>rw [List.zip_nil_left] at hz; cases hz
      | cons a t hvi' =>
        cases hwi with
        | nil=>rw [List.zip_nil_right] at hz; cases hz
        | cons c u hwi' =>
          rw [List.zip_cons_cons] at hz
          injection hz with hyx hrest
          injection hyx with hy hx
          subst hy hx
          rw [lexLt_cons] at hR
          simp only [List.length_cons] at hlen
          obtain ⟨e,he,hiff⟩:=eqAt_int A.in1 ⟨hp,g,d,tk,os⟩ a t c u
          refine wpAny_bind (he prog w _ _ ?_)
          cases e with
          | true =>
            rw [if_pos (hiff.mp rfl)] at hR
            wp_walk
            exact ⟨rfl,rfl,_,_,_,_,hrest,hvi',hwi',by omega,hR⟩
          | false =>
            rw [if_neg (fun q=>absurd (hiff.mpr q) Bool.false_ne_true)] at hR
            have hri:=rcLt_int A.in1 ⟨hp,g,d,tk,os⟩ a t c u prog w
            wp_walk using hri
            exact ⟨_,rfl,by simpa using hR⟩
    case fin =>
      rintro ⟨b1,b2⟩ s' ⟨hb',rfl,vs,ws,ns',ms',hz,hvi,hwi,hlen,hR⟩
      simp only at hb'
      subst hb'
      have hv:lexLt ns' ms'=decide (items.size < items2.size):=by
        cases hvi with
        | nil =>
          cases hwi with
          | nil =>
            simp only [List.length_nil] at hlen
            rw [lexLt_nil_nil]
            exact (decide_eq_false (by omega)).symm
          | cons c u hw =>
            simp only [List.length_nil,List.length_cons] at hlen
            rw [lexLt_nil_cons]
            exact (decide_eq_true (by omega)).symm
        | cons a t hv =>
          cases hwi with
          | nil =>
            simp only [List.length_nil,List.length_cons] at hlen
            rw [lexLt_cons_nil]
            exact (decide_eq_false (by omega)).symm
          | cons c u hw =>
            rw [List.zip_cons_cons] at hz
            cases hz
      rw [hv] at hR
      wp_walk
      exact ⟨_,rfl,by simpa [Builtin.Tuple.tupleCompareSizes] using hR⟩
    case h =>
      exact ⟨rfl,rfl,items.toList,items2.toList,ns,ms,rfl,hi,hj,by omega,h⟩
end

section
variable {prog:Program} {w:World} {A:Around} {E:Value→Shared→Prop} {s:Shared}

theorem lt_tupInts {l b:Addr} {items items2:Array Value} {ns ms:List Int} {Q:Value→Shared→Prop} (hl:IsTup s.heap l items) (hb:IsTup s.heap b items2) (hi:IntsAre items.toList ns) (hj:IntsAre items2.toList ms)
    (hu:A.units < cLine) (h:Q (.bool (lexLt ns ms)) s):wpAny (model prog w) A (compareOp .Lt (.ref l) (.ref b)) Q E s:=by
  obtain ⟨⟨cls,dd,data,sl⟩,ho,hc,n,hd⟩:=id hl
  obtain ⟨⟨cls2,dd2,data2,sl2⟩,ho2,hc2,n2,hd2⟩:=id hb
  simp only at hc hd hc2 hd2
  subst hc hd hc2 hd2
  exact richCompare_meets_room (op:=.Lt) ⟨_,ho,rfl⟩ ⟨_,ho2,rfl⟩ PySem.F.slot_tuple_lt PySem.F.entry_tuple_lt (PySem.F.args_tuple_lt_2 _ _) (tuple_lt_ints l b items items2 n n2 dd dd2 sl sl2 ns ms hi hj)
    ⟨ho,ho2,show Value.bool (lexLt ns ms) ≠ Value.notImplemented∧Q (.bool (lexLt ns ms)) s from ⟨(fun x=>nomatch x),h⟩⟩ hu

theorem cat_tup {t b:Addr} {vs ws:List Value} {Q:Value→Shared→Prop} (ht:IsTup s.heap t vs.toArray) (hb:IsTup s.heap b ws.toArray) (hv:vs ≠ [])
    (h1:ws=[]→Q (.ref t) s) (h2:ws ≠ []→Q (.ref s.heap.objs.size) { s with heap:=s.heap.push { cls:=.type "tuple",data:=.seq (vs++ws).toArray } })
    (hsz:vs.length + ws.length≤sizeLine):wpAny (model prog w) A (binaryOp .Add (.ref t) (.ref b)) Q E s:=by
  obtain ⟨⟨cls,dd,data,sl⟩,ho,hc,n,hd⟩:=id ht
  obtain ⟨⟨cls2,dd2,data2,sl2⟩,ho2,hc2,n2,hd2⟩:=id hb
  simp only at hc hd hc2 hd2
  subst hc hd hc2 hd2
  have e:vs.toArray++ws.toArray=(vs++ws).toArray:=by simp
  by_cases hw:ws=[]
  · exact concat_meets ⟨_,ho,rfl⟩ ⟨_,ho2,rfl⟩ noFill_tuple_add seq_tuple_add PySem.F.slot_tuple_add PySem.F.entry_tuple_add (PySem.F.args_tuple_add_2 _ _)
      (tuple_addW1 t b vs.toArray ws.toArray n n2 dd dd2 sl sl2 (by simpa using hv) (by simp [hw])) ⟨ho,ho2,h1 hw⟩
  · refine concat_meets ⟨_,ho,rfl⟩ ⟨_,ho2,rfl⟩ noFill_tuple_add seq_tuple_add PySem.F.slot_tuple_add PySem.F.entry_tuple_add (PySem.F.args_tuple_add_2 _ _)
      (tuple_addW2 t b vs.toArray ws.toArray n n2 dd dd2 sl sl2 (by simpa using hv) (by simpa using hw) (by rw [List.size_toArray,List.size_toArray]; exact hsz)) ⟨ho,ho2,?_⟩
    rw [e]
    exact h2 hw

def sIx (n d:Nat):Option Int→Nat
  | none=>d
  | some v=>if v < 0 then (v + (n:Int)).toNat else min v.toNat n
theorem sIx_none (n d:Nat):sIx n d none=d:=rfl
theorem sIx_nat (n d k:Nat):sIx n d (some (k:Int))=min k n:=by
  show (if (k:Int) < 0 then ((k:Int) + (n:Int)).toNat else min (k:Int).toNat n)=min k n
  rw [if_neg (by omega),Int.toNat_natCast]
theorem sIx_le (n d:Nat) (hd:d≤n) (o:Option Int):sIx n d o≤n:=by
  cases o with
  | none=>exact hd
  | some v =>
    show (if v < 0 then (v + (n:Int)).toNat else min v.toNat n)≤n
    by_cases hv:v < 0
    · rw [if_pos hv]; omega
    · rw [if_neg hv]; exact Nat.min_le_right _ _
theorem clip_eq (v:Int) (n d:Nat):(if v < 0 then max (v + (n:Int)) 0 else min v (n:Int))=((sIx n d (some v):Nat):Int):=by
  show (if v < 0 then max (v + (n:Int)) 0 else min v (n:Int))=(((if v < 0 then (v + (n:Int)).toNat else min v.toNat n):Nat):Int)
  by_cases hv:v < 0
  · simp only [if_pos hv]; omega
  · simp only [if_neg hv]; omega
theorem adjust_gen (lo hi:Option Int) (n:Nat):Builtin.Slice.sliceAdjust lo hi 1 (n:Int)=(((sIx n 0 lo:Nat):Int),((sIx n n hi:Nat):Int)):=by
  have h1:¬ ((1:Int) < 0):=by omega
  unfold Builtin.Slice.sliceAdjust
  simp only [h1,if_false]
  refine Prod.ext ?_ ?_
  · cases lo with
    | none=>rfl
    | some v=>exact clip_eq v n 0
  · cases hi with
    | none=>rfl
    | some v=>exact clip_eq v n n
theorem places_gen (i j:Nat):Builtin.Slice.slicePlaces (i:Int) (j:Int) 1=j - i:=by
  unfold Builtin.Slice.slicePlaces
  have h1:(1:Int) > 0:=by omega
  simp only [h1,if_true,Int.ediv_one]
  split <;> omega
theorem slicePart_ {v:Value} {o:Option Int} {Q:Option Int→Shared→Prop} (p:IsPart v o) (h:Q o s):wpAny (model prog w) A (Builtin.Slice.slicePartIndex v) Q E s:=by
  cases p with
  | none=>exact slicePart_none h
  | int i t=>exact slicePart_int h
theorem sliceApplied_gen {sl:Addr} {vl vu:Value} {lo hi:Option Int} {n:Nat} {Q:Int × Int × Nat→Shared→Prop} (hs:s.heap.IsSliceOf sl vl vu .none) (pl:IsPart vl lo) (pu:IsPart vu hi)
    (h:Q (((sIx n 0 lo:Nat):Int),1,sIx n n hi - sIx n 0 lo) s):wpAny (model prog w) A (Builtin.Slice.sliceApplied (.ref sl) (pure (n:Int))) Q E s:=by
  obtain ⟨os,hos,hcs,hds⟩:=id hs
  unfold Builtin.Slice.sliceApplied Builtin.Slice.sliceFields
  refine wpAny_bind (wpAny_bind (wpAny_field hos hds (x:=vl) rfl (wpAny_bind (wpAny_field hos hds (x:=vu) rfl (wpAny_bind (wpAny_field hos hds (x:=.none) rfl (wpAny_pure ?_)))))))
  refine wpAny_bind (slicePart_none ?_)
  show wpAny _ _ (if ((1:Int) == 0)=true then _ else _) _ _ s
  rw [if_neg (by decide)]
  refine wpAny_bind (slicePart_ pl (wpAny_bind (slicePart_ pu (wpAny_bind (wpAny_pure ?_)))))
  show wpAny _ _ (match Builtin.Slice.sliceAdjust lo hi 1 (n:Int) with | (lo,hi)=>pure (lo,(1:Int),Builtin.Slice.slicePlaces lo hi 1)) _ _ s
  rw [adjust_gen lo hi n]
  show wpAny _ _ (pure (((sIx n 0 lo:Nat):Int),(1:Int),Builtin.Slice.slicePlaces ((sIx n 0 lo:Nat):Int) ((sIx n n hi:Nat):Int) 1)) _ _ s
  rw [places_gen]
  exact wpAny_pure h
theorem pick_gen (xs:Array Value) (i k:Nat):((List.range k).filterMap fun (m:Nat)=>xs[((i:Int) + (m:Int) * 1).toNat]?).toArray=((xs.toList.drop i).take k).toArray:=by
  have e:(fun (m:Nat)=>xs[((i:Int) + (m:Int) * 1).toNat]?)=fun m=>xs[i + m]?:=by
    funext m
    have:((i:Int) + (m:Int) * 1).toNat=i + m:=by omega
    rw [this]
  rw [e]
  have:=pick_run xs i k
  rw [List.filterMap_map] at this
  have e2:((fun x=>xs[x]?) ∘ fun x=>i + x)=fun m=>xs[i + m]?:=rfl
  rw [e2] at this
  rw [this]

theorem getItem_tuple_cut {t sl:Addr} {items:Array Value} {vl vu:Value} {lo hi:Option Int} {Q:Value→Shared→Prop} (ht:IsTup s.heap t items) (hs:s.heap.IsSliceOf sl vl vu .none) (pl:IsPart vl lo) (pu:IsPart vu hi)
    (hw:¬ (sIx items.size 0 lo=0∧sIx items.size items.size hi=items.size))
    (h:Q (.ref s.heap.objs.size) { s with heap:=s.heap.push { cls:=.type "tuple",data:=.seq ((items.toList.drop (sIx items.size 0 lo)).take (sIx items.size items.size hi - sIx items.size 0 lo)).toArray } })
    (hsz:items.size≤sizeLine):wpAny (model prog w) A (getItem (.ref t) (.ref sl)) Q E s:=by
  have htake:sizeOk (.seq ((items.toList.drop (sIx items.size 0 lo)).take (sIx items.size items.size hi - sIx items.size 0 lo)).toArray):=by
    show ((items.toList.drop (sIx items.size 0 lo)).take (sIx items.size items.size hi - sIx items.size 0 lo)).toArray.size≤sizeLine
    rw [List.size_toArray,List.length_take,List.length_drop,Array.length_toList]
    omega
  have hj:sIx items.size items.size hi≤items.size:=sIx_le _ _ (Nat.le_refl _) hi
  obtain ⟨os,hos,hcs,hds⟩:=id hs
  have hTs:s.TypeIs (.ref sl) "slice":=⟨os,hos,hcs⟩
  unfold getItem
  try with_reducible refine wpAny_holding ?_
  first | refine wpAny_bind (wpAny_pure ?_) | skip
  refine wpAny_bind (wpAny_sequenceKey ht.typeIs (by decide) ?_)
  refine wpAny_bind (wpAny_callSpecial?_slot (name:=Str.ofString "__getitem__") ht.typeIs PyProof.Rows.slot_tuple_getitem
    (wpAny_call_entry PyProof.Rows.slot_tuple_getitem ht.typeIs entry_tuple_getitem ?_ (args_tuple_getitem _ _)))
  show wpAny _ _ (Builtin.Tuple.tupleItemsOf (.ref t) >>= _) _ _ s
  refine wpAny_bind (tupleItemsOf_ ht ?_)
  refine wpAny_bind (wpAny_typeOf hTs ?_)
  rw [if_pos (by decide)]
  refine wpAny_bind (sliceApplied_gen hs pl pu ?_)
  have hno:¬ ((((sIx items.size 0 lo:Nat):Int) == 0 && (1:Int) == 1 && (sIx items.size items.size hi - sIx items.size 0 lo) == items.size)=true):=by
    intro q
    rw [Bool.and_eq_true,Bool.and_eq_true] at q
    have q1:((sIx items.size 0 lo:Nat):Int)=0:=eq_of_beq q.1.1
    have q2:sIx items.size items.size hi - sIx items.size 0 lo=items.size:=eq_of_beq q.2
    exact hw ⟨by omega,by omega⟩
  show wpAny _ _ (if (((sIx items.size 0 lo:Nat):Int) == 0 && (1:Int) == 1 && (sIx items.size items.size hi - sIx items.size 0 lo) == items.size)=true then _ else _) _ _ s
  rw [if_neg hno,pick_gen]
  first
    | exact wpAny_bind (m:=Builtin.Tuple.tupleExact _) (wpAny_newObj_type (wpAny_pure ⟨_,rfl,wpAny_pure h⟩) htake)
    | exact wpAny_bind (m:=Builtin.Tuple.tupleExact _) (wpAny_newObj_type (wpAny_bind (wpAny_pure (wpAny_pure ⟨_,rfl,wpAny_pure h⟩))) htake)
    | exact wpAny_bind (wpAny_bind (m:=Builtin.Tuple.tupleExact _) (wpAny_newObj_type (wpAny_pure (wpAny_pure ⟨_,rfl,wpAny_pure h⟩)) htake))
    | exact wpAny_bind (wpAny_bind (m:=Builtin.Tuple.tupleExact _) (wpAny_newObj_type (wpAny_pure ⟨_,rfl,wpAny_pure h⟩) htake))
end
end HT

namespace L2
open PySem PySem.Spec PyProof.Rows

abbrev TO:=St→Hp→(Option Int→Hp→Prop)→Prop
def PO (X:Cx) (e:Option Expr) (t:TO):Prop :=
  ∀ (pins:List (Addr × Obj)) (s:Shared) (σ:St) (H:Hp) (Q:Option Int→Hp→Prop),Inv X pins σ H s→t σ H Q →
    wpAny (model X.prog X.w) X.A (evalPart e X.env) (fun u s'=>∃ o H',Inv X pins σ H' s'∧IsPart u o∧Q o H') X.xe s
def tNoPart:TO:=fun _ H Q=>Q none H
def tPart (t:TE):TO:=fun σ H Q=>t σ H fun x H1=>∃ i,x=.int i∧Q (some i) H1

theorem intsAre_of {ns:List Int}:∀ {us:List Value},Vals (ns.map V.int) us→IntsAre us ns:=by
  induction ns with
  | nil=>intro us r; rw [List.map_nil] at r; cases r; exact .nil
  | cons n ns ih =>
    intro us r
    rw [List.map_cons] at r
    cases r with
    | cons r1 r2 =>
      obtain ⟨t,e⟩:=r1
      subst e
      exact .cons n t (ih r2)

section
variable {X:Cx} {e:Expr} {te:TE} {lo hi:Option Expr} {tl th:TO} {pos p2:Pos}

theorem po_none:PO X none tNoPart:=by
  intro pins s σ H Q I h
  rw [evalPart_none]
  exact wpAny_pure ⟨none,H,I,.none,h⟩
theorem po_some (h:PE X e te):PO X (some e) (tPart te):=by
  intro pins s σ H Q I hw
  rw [evalPart_some]
  refine thn (h pins s σ H _ I hw) fun u s1 ⟨x,H1,I1,r1,q1⟩=>?_
  obtain ⟨i,rfl,q⟩:=q1
  obtain ⟨t,rfl⟩:=r1
  exact ⟨some i,H1,I1,.int i t,q⟩

def SlR (X:Cx) (r:V→Option Int→Option Int→Hp→VK→Prop):Prop :=
  ∀ (pins:List (Addr × Obj)) (s:Shared) (σ:St) (H:Hp) (x:V) (v vl vu:Value) (lo hi:Option Int) (sl:Addr) (Q:VK),Inv X pins σ H s→RelV x v→s.heap.IsSliceOf sl vl vu .none→IsPart vl lo→IsPart vu hi→r x lo hi H Q →
    ∃ T id,typeLookup (.type T) "__getitem__"=pure (some (.builtin id))∧s.TypeIs v T∧wpAny (model X.prog X.w) X.A (getItem v (.ref sl)) (EP X pins σ Q) X.xe s
theorem SlR.or {r r':V→Option Int→Option Int→Hp→VK→Prop} (h:SlR X r) (h':SlR X r'):SlR X (fun x lo hi H Q=>r x lo hi H Q ∨ r' x lo hi H Q):=by
  intro pins s σ H x v vl vu lo hi sl Q I rx hs pl pu q
  rcases q with q | q
  · exact h pins s σ H x v vl vu lo hi sl Q I rx hs pl pu q
  · exact h' pins s σ H x v vl vu lo hi sl Q I rx hs pl pu q
def tSl (r:V→Option Int→Option Int→Hp→VK→Prop) (te:TE) (tl th:TO):TE:=fun σ H Q=>te σ H fun x H1=>tl σ H1 fun l H2=>th σ H2 fun u H3=>r x l u H3 Q
theorem pe_slice {r:V→Option Int→Option Int→Hp→VK→Prop} (hr:SlR X r) (he:PE X e te) (hl:PO X lo tl) (hu:PO X hi th):PE X (.Subscript e (.Slice lo hi none p2) pos) (tSl r te tl th):=by
  intro pins s σ H Q I h
  refine Subscript_ (thn (he pins s σ H _ I h) fun v s1 ⟨x,H1,I1,r1,q1⟩=>?_)
  refine wpAny_Slice (thn (hl pins s1 σ H1 _ I1 q1) fun vl s2 ⟨l,H2,I2,pl,q2⟩=>thn (hu pins s2 σ H2 _ I2 q2) fun vu s3 ⟨u,H3,I3,pu,q3⟩=>?_)
  rw [evalPart_none]
  refine wpAny_pure ?_
  have I4:Inv X pins σ H3 { s3 with heap:=s3.heap.push { cls:=.type "slice",data:=.fields #[vl,vu,.none] } }:=I3.kept (t':=s3.toks) fun b ob q=>Heap.get?_push_of_some _ q
  obtain ⟨T,id,hT,ht,hg⟩:=hr pins { s3 with heap:=s3.heap.push { cls:=.type "slice",data:=.fields #[vl,vu,.none] } } σ H3 x v vl vu l u s3.heap.objs.size Q I4 r1 (Heap.IsSliceOf.new ..) pl pu q3
  show wpAny (model X.prog X.w) X.A (subscriptTail e (.Slice lo hi none p2) v (.ref s3.heap.objs.size)) (EP X pins σ Q) X.xe { s3 with heap:=s3.heap.push { cls:=.type "slice",data:=.fields #[vl,vu,.none] } }
  exact tail_any (ops:=[.ref s3.heap.objs.size,v]) ht hT hg (by with_unfolding_all rfl)

def cutV (xs:List V) (lo hi:Option Int):List V:=(xs.drop (HT.sIx xs.length 0 lo)).take (HT.sIx xs.length xs.length hi - HT.sIx xs.length 0 lo)
theorem cutV_length (xs:List V) (lo hi:Option Int):(cutV xs lo hi).length≤xs.length:=by
  unfold cutV
  rw [List.length_take,List.length_drop]
  omega
def rSlT (K:PySem.W.Frag):V→Option Int→Option Int→Hp→VK→Prop:=fun x lo hi H Q=>∃ a xs,x=.ref a∧SqT K H a xs ∧
  ¬ (HT.sIx xs.length 0 lo=0∧HT.sIx xs.length xs.length hi=xs.length)∧∀ p,H p=none→Q (.ref p) (upd H p (.tup (cutV xs lo hi)))
theorem sl_tup:SlR X (rSlT X.K):=by
  intro pins s σ H x v vl vu lo hi sl Q I rx hs pl pu h
  obtain ⟨a,xs,rfl,hx,hw,q⟩:=h
  cases rx
  obtain ⟨its,r,ht,hz⟩:=I.tuple hx
  have hlen:its.toArray.size=xs.length:=by rw [List.size_toArray]; exact r.length.symm
  refine ⟨"tuple",_,PyProof.Rows.slot_tuple_getitem.lookup,ht.typeIs,?_⟩
  refine HT.getItem_tuple_cut ht hs pl pu (by rw [hlen]; exact hw) ?_ (by rw [hlen]; exact hz)
  rw [hlen]
  refine ⟨.ref s.heap.objs.size,_,I.laid (t':=s.toks) (o:=.tup (cutV xs lo hi)) (fun b ob q=>Heap.get?_push_of_some _ q) (Nat.le_refl _) ?_,rfl,q _ (I.hok.fresh (Nat.le_refl _))⟩
  exact ⟨Nat.le_trans (cutV_length xs lo hi) hz,_,(r.drop (HT.sIx xs.length 0 lo)).take (HT.sIx xs.length xs.length hi - HT.sIx xs.length 0 lo),TupN.new _ _⟩

def rCatT (K:PySem.W.Frag):R2:=fun x y H Q=>∃ a b xs ys,x=.ref a∧y=.ref b∧SqT K H a xs∧SqT K H b ys∧xs ≠ []∧xs.length + ys.length≤sizeLine ∧
  (ys=[]→Q (.ref a) H)∧(ys ≠ []→∀ p,H p=none→Q (.ref p) (upd H p (.tup (xs++ys))))
theorem Vals.nil_iff {xs:List V} {us:List Value} (r:Vals xs us):us=[] ↔ xs=[]:=by
  cases r with
  | nil=>simp
  | cons _ _=>simp
theorem op_catT:OpR X (binaryOp .Add) (rCatT X.K):=by
  intro pins s σ H x y v u Q I rx ry h
  obtain ⟨a,b,xs,ys,rfl,rfl,ha,hb,hx,hz,q1,q2⟩:=h
  cases rx
  cases ry
  obtain ⟨its,r1,p1,_⟩:=I.tuple ha
  obtain ⟨its2,r2,p2,_⟩:=I.tuple hb
  refine HT.cat_tup p1 p2 (fun z=>hx (r1.nil_iff.mp z)) (fun z=>⟨.ref a,H,I,rfl,q1 (r2.nil_iff.mp z)⟩) (fun z=>?_) (by rw [← r1.length,← r2.length]; exact hz)
  refine ⟨.ref s.heap.objs.size,_,I.laid (t':=s.toks) (o:=.tup (xs++ys)) (fun b ob q=>Heap.get?_push_of_some _ q) (Nat.le_refl _) ?_,rfl,q2 (fun w=>z (r2.nil_iff.mpr w)) _ (I.hok.fresh (Nat.le_refl _))⟩
  exact ⟨by rw [List.length_append]; exact hz,_,r1.append r2,TupN.new _ _⟩
end
end L2

namespace L2
open PySem PySem.Spec PyProof.Rows

def ixN (n:Nat) (i:Int):Option Nat:=if 0≤i then (if i < n then some i.toNat else none) else if -(n:Int)≤i then some (i + n).toNat else none
def atI {α:Type} (xs:List α) (i:Int):Option α:=(ixN xs.length i).bind fun j=>xs[j]?
theorem ixN_seq {n:Nat} {i:Int} {j:Nat} (h:ixN n i=some j):seqIndex? i n=some j∧j < n∧-(n:Int)≤i∧i < n:=by
  unfold ixN at h
  by_cases h0:0≤i
  · rw [if_pos h0] at h
    by_cases h1:i < n
    · rw [if_pos h1] at h
      have e:i.toNat=j:=Option.some.inj h
      exact ⟨by rw [seqIndex_of h0 h1,e],by omega,by omega,h1⟩
    · rw [if_neg h1] at h; cases h
  · rw [if_neg h0] at h
    by_cases h1:-(n:Int)≤i
    · rw [if_pos h1] at h
      have e:(i + n).toNat=j:=Option.some.inj h
      exact ⟨by rw [seqIndex_neg (by omega) h1,e],by omega,h1,by omega⟩
    · rw [if_neg h1] at h; cases h
theorem atI_get {α:Type} {xs:List α} {i:Int} {v:α} (h:atI xs i=some v):∃ j,seqIndex? i xs.length=some j∧xs[j]?=some v∧j < xs.length∧-(xs.length:Int)≤i∧i < xs.length:=by
  unfold atI at h
  cases e:ixN xs.length i with
  | none=>rw [e] at h; cases h
  | some j =>
    rw [e] at h
    obtain ⟨h1,h2,h3,h4⟩:=ixN_seq e
    exact ⟨j,h1,h,h2,h3,h4⟩
theorem atI_nat {α:Type} {xs:List α} {j:Nat} {v:α} (h:xs[j]?=some v):atI xs (j:Int)=some v:=by
  have hj:j < xs.length:=(List.getElem?_eq_some_iff.mp h).1
  have e:ixN xs.length (j:Int)=some j:=by
    unfold ixN
    rw [if_pos (by omega),if_pos (by omega)]; simp
  unfold atI; rw [e]; exact h
theorem atI_last {α:Type} (xs:List α) (v:α):atI (xs++[v]) (-1)=some v:=by
  have hl:(xs++[v]).length=xs.length + 1:=by simp
  have e:ixN (xs++[v]).length (-1)=some xs.length:=by
    unfold ixN
    rw [hl,if_neg (by decide),if_pos (by omega)]
    congr 1
    omega
  unfold atI
  rw [e]
  show (xs++[v])[xs.length]?=some v
  simp

def PlainIx (b:Expr):Prop:=∀ o i,subscripted b false o i=operate [o,i] (getItem o i)
def IxR (X:Cx) (r:R2):Prop :=
  ∀ (value slice:Expr) (pins:List (Addr × Obj)) (s:Shared) (σ:St) (H:Hp) (x y:V) (v u:Value) (Q:VK),Inv X pins σ H s→RelV x v→RelV y u→r x y H Q →
    subscripted slice false v u=operate [v,u] (getItem v u)→wpAny (model X.prog X.w) X.A (subscriptTail value slice v u) (EP X pins σ Q) X.xe s
def MtR (X:Cx) (id:String) (r:V→List V→Hp→VK→Prop):Prop :=
  ∀ (pins:List (Addr × Obj)) (s:Shared) (σ:St) (H:Hp) (x:V) (xs:List V) (v:Value) (us:List Value) (Q:VK),Inv X pins σ H s→RelV x v→Vals xs us→r x xs H Q →
    wpAny (model X.prog X.w) X.A (call (.builtin id) (v::us)) (EP X pins σ Q) X.xe s
section
variable {X:Cx} {a b:Expr} {ta tb:TE} {pos:Pos}
theorem IxR.or {r r':R2} (h:IxR X r) (h':IxR X r'):IxR X (fun x y H Q=>r x y H Q ∨ r' x y H Q):=by
  intro value slice pins s σ H x y v u Q I rx ry q hs
  rcases q with q | q
  · exact h value slice pins s σ H x y v u Q I rx ry q hs
  · exact h' value slice pins s σ H x y v u Q I rx ry q hs
theorem MtR.or {id:String} {r r':V→List V→Hp→VK→Prop} (h:MtR X id r) (h':MtR X id r'):MtR X id (fun x xs H Q=>r x xs H Q ∨ r' x xs H Q):=by
  intro pins s σ H x xs v us Q I rx rs q
  rcases q with q | q
  · exact h pins s σ H x xs v us Q I rx rs q
  · exact h' pins s σ H x xs v us Q I rx rs q
theorem pe_ix {r:R2} (hr:IxR X r) (ha:PE X a ta) (hb:PE X b tb) (hs:PlainIx b):PE X (.Subscript a b pos) (tOp r ta tb):=by
  intro pins s σ H Q I h
  exact Subscript_ (binT ha hb I h fun v u s2 x y H2 I2 rx ry q=>hr a b pins s2 σ H2 x y v u Q I2 rx ry q (hs _ _))

def rIxL (K:PySem.W.Frag):R2:=fun x y H Q=>∃ p xs i v,x=.ref p∧y=.int i∧SqL K H p xs∧atI xs i=some v∧Q v H
def rIxT (K:PySem.W.Frag):R2:=fun x y H Q=>∃ p xs i v,x=.ref p∧y=.int i∧SqT K H p xs∧atI xs i=some v∧Q v H
def rIxS:R2:=fun x y H Q=>∃ z i c,x=.str z∧y=.int i∧z.length≤sizeLine∧atI z.cps.toList i=some c∧Q (.str ⟨#[c]⟩) H
theorem ix_list:IxR X (rIxL X.K):=by
  intro value slice pins s σ H x y v u Q I rx ry h hs
  obtain ⟨p,xs,i,z,rfl,rfl,hq,he,q⟩:=h
  cases rx
  obtain ⟨t,rfl⟩:=ry
  obtain ⟨its,r,pl,hz⟩:=I.list hq
  obtain ⟨j,h1,h2,h3,h4,h5⟩:=atI_get he
  obtain ⟨w,ew,rw'⟩:=r.get h2
  have hl:=r.length
  have hn:=line63
  have fin:EP X pins σ Q w s:=⟨z,H,I,rw',q⟩
  by_cases h0:0≤i
  · have hj:i.toNat=j:=by
      rw [seqIndex_of h0 h5] at h1
      exact Option.some.inj h1
    exact item_listR pl.isList h0 (by omega) (by rw [hj]; simpa using ew) fin hs
  · have hj:(i + (its.toArray.size:Int)).toNat=j:=by
      rw [seqIndex_neg (by omega) h4] at h1
      rw [List.size_toArray,← hl]
      exact Option.some.inj h1
    exact subscriptTail_builtinR (x:=w) pl.isList.typeIs slot_list_getitem.lookup
      (wpAny_getItem_list_neg (Q:=fun r s'=>r=w∧EP X pins σ Q r s') pl.isList (by omega) (by rw [List.size_toArray] <;> omega) (by omega) (by rw [hj]; simpa using ew) ⟨rfl,fin⟩) hs
theorem ix_tup:IxR X (rIxT X.K):=by
  intro value slice pins s σ H x y v u Q I rx ry h hs
  obtain ⟨p,xs,i,z,rfl,rfl,hq,he,q⟩:=h
  cases rx
  obtain ⟨t,rfl⟩:=ry
  obtain ⟨its,r,pl,hz⟩:=I.tuple hq
  obtain ⟨j,h1,h2,h3,h4,h5⟩:=atI_get he
  obtain ⟨w,ew,rw'⟩:=r.get h2
  have hl:=r.length
  have hn:=line63
  have fin:EP X pins σ Q w s:=⟨z,H,I,rw',q⟩
  exact subscriptTail_builtinR (x:=w) pl.typeIs slot_tuple_getitem.lookup
    (getItem_tuple (j:=j) (Q:=fun r s'=>r=w∧EP X pins σ Q r s') pl (by omega) (by omega) (by rw [List.size_toArray,← hl]; exact h1) (by simpa using ew) ⟨rfl,fin⟩) hs
theorem ix_str:IxR X rIxS:=by
  intro value slice pins s σ H x y v u Q I rx ry h hs
  obtain ⟨z,i,c,rfl,rfl,hz,he,q⟩:=h
  obtain ⟨t,rfl⟩:=rx
  obtain ⟨t',rfl⟩:=ry
  obtain ⟨j,h1,h2,h3,h4,h5⟩:=atI_get he
  have hl:z.cps.toList.length=z.length:=by simp [Str.length]
  rw [hl] at h1 h4 h5
  have hn:=line63
  exact tail_any (typeIs_str s z t) slot_str_getitem.lookup (getItem_str (c:=c) (by
    have e1:decide (i < -(2 ^ 63:Int))=false:=decide_eq_false (by omega)
    have e2:decide (i ≥ 2 ^ 63)=false:=decide_eq_false (by omega)
    rw [e1,e2,Bool.or_false]) (by rw [h1]; simpa using h2) ⟨.str ⟨#[c]⟩,H,I.tok _,⟨_,rfl⟩,q⟩) hs
def rIx (K:PySem.W.Frag):R2:=fun x y H Q=>rIxL K x y H Q ∨ rIxT K x y H Q ∨ rIxS x y H Q
theorem ix_seq:IxR X (rIx X.K):=ix_list.or (ix_tup.or ix_str)

theorem Inv.lst {pins:List (Addr × Obj)} {σ:St} {H:Hp} {s:Shared} {p:Addr} {xs:List V} (I:Inv X pins σ H s) (h:H p=some (.lst xs)) :
    ∃ (its:List Value) (n:Nat),Vals xs its∧s.heap.get? p=some { cls:=.type "list",data:=.seq its.toArray n }∧xs.length≤sizeLine:=by
  obtain ⟨z,its,n,r,e⟩:=I.hok p _ h
  exact ⟨its,n,r,e,z⟩
theorem slice_bounds (lo hi:Option Int) (n:Nat):(sliceBounds lo hi none n).1=((HT.sIx n 0 lo:Nat):Int)∧(sliceBounds lo hi none n).2.1=((HT.sIx n n hi:Nat):Int)∧(sliceBounds lo hi none n).2.2=1:=by
  refine ⟨?_,?_,rfl⟩
  · cases lo with
    | none=>simp [sliceBounds,HT.sIx]
    | some i =>
      simp only [sliceBounds,HT.sIx,Option.getD_none,show (1:Int) > 0 by decide,if_true]
      by_cases h:i < 0
      · simp only [h,if_true] <;> omega
      · simp only [h,if_false] <;> omega
  · cases hi with
    | none=>simp [sliceBounds,HT.sIx]
    | some i =>
      simp only [sliceBounds,HT.sIx,Option.getD_none,show (1:Int) > 0 by decide,if_true]
      by_cases h:i < 0
      · simp only [h,if_true] <;> omega
      · simp only [h,if_false] <;> omega
theorem slicePick_cut (its:List Value) (lo hi:Option Int):slicePick its.toArray lo hi none=((its.drop (HT.sIx its.length 0 lo)).take (HT.sIx its.length its.length hi - HT.sIx its.length 0 lo)).toArray:=by
  obtain ⟨h1,h2,h3⟩:=slice_bounds lo hi its.toArray.size
  unfold slicePick
  rw [h1,h2,h3]
  simp only [sliceRange_one,pick_run,List.size_toArray] <;> rfl
def rSlL (K:PySem.W.Frag):V→Option Int→Option Int→Hp→VK→Prop:=fun x lo hi H Q=>∃ a xs,x=.ref a∧SqL K H a xs∧∀ p,H p=none→Q (.ref p) (upd H p (.lst (cutV xs lo hi)))
theorem sl_list:SlR X (rSlL X.K):=by
  intro pins s σ H x v vl vu lo hi sl Q I rx hs pl pu h
  obtain ⟨a,xs,rfl,hx,q⟩:=h
  cases rx
  obtain ⟨its,r,ht,hz⟩:=I.list hx
  have hlen:=r.length
  refine ⟨"list",_,slot_list_getitem.lookup,ht.isList.typeIs,?_⟩
  refine wpAny_getItem_list_slice ht.isList hs pl pu .none (by simp) ?_ (by rw [List.size_toArray] <;> omega)
  rw [slicePick_cut,← hlen]
  refine ⟨.ref s.heap.objs.size,_,I.laid (t':=s.toks) (o:=.lst (cutV xs lo hi)) (fun b ob q=>Heap.get?_push_of_some _ q) (Nat.le_refl _) ?_,rfl,q _ (I.hok.fresh (Nat.le_refl _))⟩
  exact ⟨Nat.le_trans (cutV_length xs lo hi) hz,_,0,(r.drop (HT.sIx xs.length 0 lo)).take (HT.sIx xs.length xs.length hi - HT.sIx xs.length 0 lo),Heap.get?_push_size _ rfl⟩

theorem call_len_seq:CallR X (.builtin "len") (fun xs H Q=>∃ p ys,xs=[.ref p]∧(SqL X.K H p ys ∨ SqT X.K H p ys)∧Q (.int ys.length) H):=by
  intro pins s σ H xs us Q I r h
  obtain ⟨p,ys,rfl,hq,q⟩:=h
  obtain ⟨u,rfl,rx⟩:=vals1 r
  cases rx
  have hn:=line63
  rcases hq with hq | hq
  · obtain ⟨its,r',pl,hz⟩:=I.list hq
    have hlen:=r'.length
    exact Calls.call_len_list pl.isList (by simp only [List.size_toArray] <;> omega) ⟨.int ys.length,H,I.tok _,⟨s.toks + 1,by rw [List.size_toArray,hlen]⟩,q⟩
  · obtain ⟨its,r',pl,hz⟩:=I.tuple hq
    have hlen:=r'.length
    exact len_tuple pl (by simp only [List.size_toArray] <;> omega) ⟨.int ys.length,H,I.tok _,⟨s.toks + 1,by rw [List.size_toArray,hlen]⟩,q⟩
theorem call_len_str:CallR X (.builtin "len") (fun xs H Q=>∃ z,xs=[.str z]∧z.length≤sizeLine∧Q (.int z.length) H):=by
  intro pins s σ H xs us Q I r h
  obtain ⟨z,rfl,hz,q⟩:=h
  obtain ⟨u,rfl,t,rfl⟩:=vals1 r
  have hn:=line63
  exact len_str (by omega) ⟨.int z.length,H,I.tok _,⟨_,rfl⟩,q⟩
theorem CallR.or {f:Value} {r r':List V→Hp→VK→Prop} (h:CallR X f r) (h':CallR X f r'):CallR X f (fun xs H Q=>r xs H Q ∨ r' xs H Q):=by
  intro pins s σ H xs us Q I rs q
  rcases q with q | q
  · exact h pins s σ H xs us Q I rs q
  · exact h' pins s σ H xs us Q I rs q
theorem call_list_of:CallR X (.type "list") (fun xs H Q=>∃ p ys,xs=[.ref p]∧(SqL X.K H p ys ∨ SqT X.K H p ys)∧∀ l,H l=none→Q (.ref l) (upd H l (.lst ys))):=by
  intro pins s σ H xs us Q I r h
  obtain ⟨p,ys,rfl,hq,q⟩:=h
  obtain ⟨u,rfl,rx⟩:=vals1 r
  cases rx
  have fin:∀ (its:List Value),Vals ys its→ys.length≤sizeLine→∀ (h':Heap) (c':Nat),(∀ b o',s.heap.get? b=some o'→h'.get? b=some o') →
      h'.get? s.heap.objs.size=some { cls:=.type "list",dict:=none,data:=.seq its.toArray c',slots:=#[] }→EP X pins σ Q (.ref s.heap.objs.size) { s with heap:=h' }:=fun its r' hz h' c' kp e =>
    ⟨.ref s.heap.objs.size,_,I.laid (t':=s.toks) kp (Nat.le_refl _) (show ObjOk X.prog X.w _ h' _ (.lst ys) from ⟨hz,its,c',r',e⟩),rfl,q _ (I.hok.fresh (Nat.le_refl _))⟩
  rcases hq with hq | hq
  · obtain ⟨its,r',pl,hz⟩:=I.list hq
    have hlen:=r'.length
    obtain ⟨o,ho,hc,n,hd⟩:=pl.isList
    exact call_list_seq p (.inl rfl) ho hc hd (fun h' c' kp e=>fin its r' hz h' c' kp e) (by simp only [List.size_toArray] <;> omega)
  · obtain ⟨its,r',pl,hz⟩:=I.tuple hq
    have hlen:=r'.length
    obtain ⟨o,ho,hc,n,hd⟩:=pl
    exact call_list_seq p (.inr rfl) ho hc hd (fun h' c' kp e=>fin its r' hz h' c' kp e) (by simp only [List.size_toArray] <;> omega)
theorem call_tuple_of:CallR X (.type "tuple") (fun xs H Q=>∃ p ys,xs=[.ref p]∧((SqL X.K H p ys∧∀ l,H l=none→Q (.ref l) (upd H l (.tup ys))) ∨ (SqT X.K H p ys∧Q (.ref p) H))):=by
  intro pins s σ H xs us Q I r h
  obtain ⟨p,ys,rfl,h⟩:=h
  obtain ⟨u,rfl,rx⟩:=vals1 r
  cases rx
  rcases h with ⟨hq,q⟩ | ⟨hq,q⟩
  · obtain ⟨its,r',pl,hz⟩:=I.list hq
    have hlen:=r'.length
    refine call_tuple_list pl.isList (fun h' kp=>?_) (by simp only [List.size_toArray] <;> omega)
    have I1:Inv X pins σ H { s with heap:=h' }:=I.kept (t':=s.toks) kp
    have I2:Inv X pins σ (upd H h'.objs.size (.tup ys)) { s with heap:=h'.push { cls:=.type "tuple",data:=.seq its.toArray } } :=
      I1.laid (t':=s.toks) (fun b o e=>Heap.get?_push_of_some _ e) (Nat.le_refl _) (show ObjOk X.prog X.w _ _ _ (.tup ys) from ⟨hz,its,r',TupN.new _ _⟩)
    exact ⟨.ref h'.objs.size,_,I2,rfl,q _ (I1.hok.fresh (Nat.le_refl _))⟩
  · obtain ⟨its,r',pl,hz⟩:=I.tuple hq
    exact call_tuple_same pl ⟨.ref p,H,I,rfl,q⟩

def tyV (K:PySem.W.Frag) (T:String) (x:V) (H:Hp):Prop:=match x with
  | .str _=>T="str"
  | .int _=>T="int"
  | .ref p=>(T="list"∧∃ xs,SqL K H p xs) ∨ (T="tuple"∧((∃ o,K.lookup p=some o∧o.cls=.type "tuple"∧o.dict=none) ∨ ∃ xs,SqT K H p xs)) ∨
      (T="dict"∧((∃ kvs,H p=some (.dK kvs)) ∨ ∃ kvs,H p=some (.dT kvs))) ∨ (T="set"∧∃ S n,H p=some (.set S n))
  | _=>False
theorem tyV_is {pins:List (Addr × Obj)} {σ:St} {H:Hp} {s:Shared} {T:String} {x:V} {v:Value} (I:Inv X pins σ H s) (r:RelV x v) (ty:tyV X.K T x H) :
    s.TypeIs v T∧∀ a,v=.ref a→∃ ob,s.heap.get? a=some ob∧ob.dict=none:=by
  cases x with
  | str z =>
    obtain ⟨t,rfl⟩:=r
    cases (show T="str" from ty)
    exact ⟨typeIs_str s z t,fun _ e=>nomatch e⟩
  | int i =>
    obtain ⟨t,rfl⟩:=r
    cases (show T="int" from ty)
    exact ⟨typeIs_int s i t,fun _ e=>nomatch e⟩
  | ref p =>
    cases r
    rcases ty with ⟨rfl,xs,hq⟩ | ⟨rfl,⟨o,hk,hc,hd⟩ | ⟨xs,hq⟩⟩ | ⟨rfl,hk⟩ | ⟨rfl,S,n,hk⟩
    · obtain ⟨its,_,pl,_⟩:=I.list hq
      refine ⟨pl.isList.typeIs,fun a e=>?_⟩
      cases e
      obtain ⟨o,n,e,c,hd,_⟩:=pl
      exact ⟨o,e,hd⟩
    · refine ⟨⟨o,I.kIn p o hk,hc⟩,fun a e=>?_⟩
      cases e
      exact ⟨o,I.kIn _ o hk,hd⟩
    · obtain ⟨o,e,hc,hd⟩:=I.tupleN hq
      refine ⟨⟨o,e,hc⟩,fun a e2=>?_⟩
      cases e2
      exact ⟨o,e,hd⟩
    · have z:∃ o,s.heap.get? p=some o∧o.ExactDict:=by
        rcases hk with ⟨kvs,hk⟩ | ⟨kvs,hk⟩
        · obtain ⟨_,_,_,_,o,_,_,e,ex,_⟩:=I.hok p _ hk
          exact ⟨o,e,ex⟩
        · obtain ⟨_,_,_,_,o,_,_,e,ex,_⟩:=I.hok p _ hk
          exact ⟨o,e,ex⟩
      obtain ⟨o,e,ex⟩:=z
      refine ⟨⟨o,e,ex.1⟩,fun a e2=>?_⟩
      cases e2
      exact ⟨o,e,ex.2.1⟩
    · obtain ⟨o,_,_,_,e,ex,_⟩:=I.hok p _ hk
      refine ⟨⟨o,e,ex.1⟩,fun a e2=>?_⟩
      cases e2
      exact ⟨o,e,ex.2.1⟩
  | _=>exact False.elim ty
def tBM0 (K:PySem.W.Frag) (T:String) (r:V→List V→Hp→VK→Prop) (to:TE):TE:=fun σ H Q=>to σ H fun x H1=>tyV K T x H1∧r x [] H1 Q
def tBM (K:PySem.W.Frag) (T:String) (r:V→List V→Hp→VK→Prop) (to:TE) (t:TA):TE:=fun σ H Q=>to σ H fun x H1=>tyV K T x H1∧t σ H1 fun xs H2=>r x xs H2 Q
variable {o e:Expr} {es:List Expr} {to:TE} {t:TA} {name:Str} {apos cpos:Pos} {T id:String} {r:V→List V→Hp→VK→Prop}
theorem pe_bm0 (pa:PlainAttrs T) (slot:Slot T name id) (hty:typeOf (.builtin id)=pure (.type "method_descriptor")) (hm:MtR X id r) (ho:PE X o to)
    (hbase:attributeBase o name X.env (eval o X.env)=eval o X.env:=by rfl) (hline:(apos.endLine == cpos.line)=true:=by rfl):PE X (.Call (.Attribute o name apos) [] [] cpos) (tBM0 X.K T r to):=by
  intro pins s σ H Q I h
  refine wpAny_Call_method0_late hbase hline (thn (ho pins s σ H _ I h) fun v s1 ⟨x,H1,I1,r1,ty,q1⟩=>?_)
  obtain ⟨h1,h2⟩:=tyV_is I1 r1 ty
  exact ⟨T,id,pa,slot,hty,h1,h2,Calls.callWith_builtin rfl (PySem.evalArgs_none (hm pins s1 σ H1 x [] v [] Q I1 r1 .nil q1))⟩
theorem pe_bm (pa:PlainAttrs T) (slot:Slot T name id) (hty:typeOf (.builtin id)=pure (.type "method_descriptor")) (hm:MtR X id r) (ho:PE X o to) (ha:PA X (e::es) t)
    (hbase:attributeBase o name X.env (eval o X.env)=eval o X.env:=by rfl)
    (hfew:((backTo cpos (starEach (e::es) X.env)).all (fun x=>!x.1) && (backToKw cpos (keywordEach [] X.env)).all (fun x=>x.1.isSome)
      && decide ((e::es).length + ([]:List Keyword).length + (if ([]:List Keyword).isEmpty then 0 else 1) < 30))=true:=by rfl)
    (hline:(apos.endLine == cpos.line)=true:=by rfl) (hs:starEach (e::es) X.env=(false,eval e X.env)::starEach es X.env:=by rfl) (hplain:(backTo cpos (starEach es X.env)).any (·.1)=false:=by rfl) :
    PE X (.Call (.Attribute o name apos) (e::es) [] cpos) (tBM X.K T r to t):=by
  intro pins s σ H Q I h
  refine wpAny_Call_method_late hbase hfew hline rfl (thn (ho pins s σ H _ I h) fun v s1 ⟨x,H1,I1,r1,ty,q1⟩=>?_)
  obtain ⟨h1,h2⟩:=tyV_is I1 r1 ty
  refine ⟨T,id,pa,slot,hty,h1,h2,?_⟩
  have hA:=ha cpos pins s1 σ H1 _ I1 q1
  rw [hs] at hA ⊢
  refine Calls.callWith_builtin (by show (false || (backTo cpos (starEach es X.env)).any (·.1))=false; rw [hplain] <;> rfl) (Calls.evalArgs_plain ?_)
  exact thn hA fun us s2 ⟨vs,H2,I2,r2,q2⟩=>hm pins s2 σ H2 x vs v us Q I2 r1 r2 q2
/- xs.append(e),list.index on a module's tuple .. are MtR facts of 06m -/
end
end L2

namespace L2
open PySem PySem.Spec PyProof.Rows

def MtM (X:Cx) (id:String) (r:V→List V→Hp→VK→Prop):Prop :=
  ∀ (pins:List (Addr × Obj)) (s:Shared) (σ:St) (H:Hp) (x:V) (xs:List V) (v:Value) (us:List Value) (Q:VK),Inv X pins σ H s→RelV x v→Vals xs us→r x xs H Q →
    wpAny (model X.prog X.w) X.A (call (.builtin id) (v::us)) (EP X pins σ Q) X.xe s

theorem Vals.one:∀ {x:V} {us:List Value},Vals [x] us→∃ u,us=[u]∧RelV x u
  | _,_,.cons r .nil=>⟨_,rfl,r⟩
theorem Vals.two:∀ {x y:V} {us:List Value},Vals [x,y] us→∃ u v,us=[u,v]∧RelV x u∧RelV y v
  | _,_,_,.cons r (.cons q .nil)=>⟨_,_,rfl,r,q⟩
theorem Vals.zero:∀ {us:List Value},Vals [] us→us=[]
  | _,.nil=>rfl
theorem Vals.dropLast {xs:List V} {us:List Value} (h:Vals xs us):Vals xs.dropLast us.dropLast:=by
  induction h with
  | nil=>exact .nil
  | cons r t ih =>
    cases t with
    | nil=>exact .nil
    | cons q t'=>exact .cons r ih
theorem Vals.reverse {xs:List V} {us:List Value} (h:Vals xs us):Vals xs.reverse us.reverse:=by
  induction h with
  | nil=>exact .nil
  | cons r t ih=>rw [List.reverse_cons,List.reverse_cons]; exact Vals.append ih (.cons r .nil)
section
variable {X:Cx} {pins:List (Addr × Obj)} {σ:St} {H:Hp} {s:Shared} {l b:Addr} {xs ys zs:List V}

theorem Inv.lset {its its':List Value} {n:Nat} {f:Array Value→Array Value} {t':Nat} (I:Inv X pins σ H s) (hH:H l=some (.lst xs))
    (e:s.heap.get? l=some { cls:=.type "list",data:=.seq its.toArray n }) (hf:f its.toArray=its'.toArray) (hv:Vals ys its') (hz:ys.length≤sizeLine) :
    Inv X pins σ (upd H l (.lst ys)) { s with heap:=s.heap.update l (Obj.mapSeq f),toks:=t' }:=by
  have q:=PySem.IsL.update e f
  rw [hf] at q
  refine I.write (x:=l) (e:=l) (by rw [hH]; exact trivial) (.inl rfl) (fun b' u hb hu=>(Heap.get?_update_other s.heap (Obj.mapSeq f) (Ne.symm hb)).trans hu) ⟨_,q⟩ ?_
  exact ⟨hz,its',_,hv,q⟩
theorem Inv.lnew {its:List Value} {t':Nat} (I:Inv X pins σ H s) (hv:Vals ys its) (hz:ys.length≤sizeLine) :
    Inv X pins σ (upd H s.heap.objs.size (.lst ys)) { s with heap:=s.heap.push { cls:=.type "list",data:=.seq its.toArray },toks:=t' } :=
  I.laid (fun _ _ q=>Heap.get?_push_of_some _ q) (Nat.le_refl _) ⟨hz,its,0,hv,Heap.get?_push_size _ rfl⟩
theorem Inv.fresh (I:Inv X pins σ H s):H s.heap.objs.size=none:=I.hok.fresh (Nat.le_refl _)
theorem Inv.lstM (I:Inv X pins σ H s) (hH:H l=some (.lst xs)):xs.length≤sizeLine∧∃ (its:List Value) (n:Nat),Vals xs its∧xs.length=its.length∧s.heap.get? l=some { cls:=.type "list",data:=.seq its.toArray n }:=by
  obtain ⟨z,its,n,r,e⟩:=I.hok l _ hH
  exact ⟨z,its,n,r,r.length,e⟩

end

section
variable {X:Cx}

def rAppend:V→List V→Hp→VK→Prop:=fun x vs H Q=>∃ l xs y,x=.ref l∧vs=[y]∧H l=some (.lst xs)∧xs.length < sizeLine∧Q .non (upd H l (.lst (xs++[y])))
theorem mt_append:MtM X "list.append" rAppend:=by
  intro pins s σ H x vs v us Q I rx rv h
  obtain ⟨l,xs,y,rfl,rfl,hH,hz,q⟩:=h
  cases rx
  obtain ⟨u,rfl,ru⟩:=rv.one
  obtain ⟨z,its,n,r,hl,e⟩:=I.lstM hH
  refine call_meets F.slot_list_append ⟨_,e,rfl⟩ F.entry_list_append (F.args_list_append_2 _ _) (PySem.list_append l its.toArray n u (by rw [List.size_toArray]; omega)) ⟨e,?_⟩
  refine ⟨.non,_,I.lset (its':=its++[u]) hH e (by simp) (r.append (.cons ru .nil)) ?_,rfl,q⟩
  rw [List.length_append,List.length_singleton]
  omega

def rClear:V→List V→Hp→VK→Prop:=fun x vs H Q=>∃ l xs,x=.ref l∧vs=[]∧H l=some (.lst xs)∧Q .non (upd H l (.lst []))
theorem mt_clear:MtM X "list.clear" rClear:=by
  intro pins s σ H x vs v us Q I rx rv h
  obtain ⟨l,xs,rfl,rfl,hH,q⟩:=h
  cases rx
  have hus:=rv.zero
  subst hus
  obtain ⟨z,its,n,r,hl,e⟩:=I.lstM hH
  refine call_meets F.slot_list_clear ⟨_,e,rfl⟩ F.entry_list_clear (F.args_list_clear_1 _) (AutoSeq1.list_clear_list_0 l its.toArray n (by rw [List.size_toArray]; omega)) ⟨e,?_⟩
  exact ⟨.non,_,I.lset (its':=[]) (ys:=[]) hH e rfl .nil (Nat.zero_le _),rfl,q⟩

end

section
variable {prog:Program} {w:World} {A:Around} {E:Value→Shared→Prop} {s:Shared}
end

section
variable {X:Cx}
end
end L2

namespace Att
open PySem PySem.W PySem.Calls PyProof.Rows

theorem ints_of_wellAll {P:Params} {h:Heap}:∀ (ns:List Int) (vs:List Value),WellAll P h vs (ns.map WData.int)→IntsAre vs ns:=by
  intro ns
  induction ns with
  | nil =>
    intro vs w
    rw [List.map_nil] at w
    cases w
    exact .nil
  | cons n ns ih =>
    intro vs w
    rw [List.map_cons] at w
    cases w with
    | cons a b =>
      cases a
      exact .cons _ _ (ih _ b)

theorem script_of {l:OpenLaw} {n:Nat} (hn:l.most=some n) {P:Params} {h:Heap} {args:List WData} {vals:List Value}
    (hpre:l.row.toRowW.claim.pre args=true) (hwl:WellAll P h vals args) :
    ∃ a vs ns,vals=[Value.ref a]∧args=[WData.list (ns.map WData.int)]∧h.get? a=some { cls:=.type "list",data:=.seq vs.toArray }∧IntsAre vs ns∧ns.length≤n:=by
  have hsh:WShape.hasAll [] args [.list .int]=true:=(pre_splitW hpre).1
  have hc:l.pre.holds [] { args:=args }=true:=(pre_splitW hpre).2
  obtain ⟨d,r,rfl,h1,h2⟩:=hasAllW_cons hsh
  obtain rfl:=hasAllW_nil h2
  obtain ⟨xs,rfl,h3⟩:=hasW_list h1
  obtain ⟨ns,rfl⟩:=items_int h3
  have hlen:ns.length≤n:=by
    unfold OpenLaw.pre at hc
    have h4:(WTm.not (.lt (.lit (.int (n:Int))) (.len (.arg 0)))).holds [] { args:=[.list (ns.map .int)] }=true:=by
      have h4:=(holds_andW hc).1
      rw [hn] at h4
      exact h4
    have h5:=condW_of h4 (w_not (w_lt w_lit (w_len_list (w_arg rfl))))
    rw [List.length_map] at h5
    refine Nat.le_of_not_lt fun q=>?_
    have q':(n:Int) < ((ns.length:Nat):Int):=by omega
    first
      | (rw [decide_eq_true q'] at h5; exact absurd h5 (by decide))
      | (simp at h5; omega)
  cases hwl with
  | cons w1 w2 =>
    cases w2
    cases w1 with
    | list ho hall=>exact ⟨_,_,ns,rfl,rfl,ho,ints_of_wellAll ns _ hall,hlen⟩

theorem post_true (l:OpenLaw) (args:List WData):l.row.toRowW.claim.post args (.bool true) args=true :=
  postW_of (r:=l.row.toRowW) (X:=(true == true))
    (show WShape.has [] (.bool true) .bool=true by first | rfl | decide | simp [WShape.has,WShape.arms,WShape.armsAll])
    (show (WTm.eq .res (.lit (.bool true))).value [] { args:=args,res:=some (.bool true),after:=args }=some (.bool (true == true)) from w_eq_bool (w_res rfl) w_lit) rfl

theorem attach_call {l:OpenLaw} {n:Nat} {q:Program} {loose:List Str} {XP:(Str→Option Value)→Heap→Prop} {YP:World→Heap→Prop} {d:DefRec}
    (hn:l.most=some n) (hdf:d.params.defaults=[])
    (call:∀ (w:World) (s₀ s₁:Shared) (mg mb:Str→Option Value) (fa:Addr) (o:Obj) (pm cd doc:Value) (a:Addr) (vs:List Value) (ns:List Int),
      Ground q loose [] XP w s₀ mg mb s₁.heap→YP w s₁.heap →
      s₁.heap.get? fa=some o→o.data=.func (docDef d.name d.params d.body d.scope pm cd doc)→s₁.heap.CodeRec cd d.name→mg d.name=some (.ref fa) →
      s₁.heap.get? a=some { cls:=.type "list",data:=.seq vs.toArray }→IntsAre vs ns→ns.length≤n→s₁.gens=#[] →
      codeAny (model l.prog w) callerA (.call (.ref fa) ⟨[.ref a],[]⟩) (fun r s'=>r=.ok (.ret (.bool true))∧OldK s₁.heap s'.heap∧s'.os=s₁.os∧AllBare s'.gens) s₁) :
    WalkO q loose XP YP l.row.toRowW d [] (fun f vs=>PySem.call f vs):=by
  intro w s₀ s₁ mg mb G Y fa o pm cd doc dV kV ho hd hcd hD hmg hg args vals as hpre hlay hrd hwl hlo
  obtain rfl:dV=.none:=Dflts.none hD hdf
  obtain rfl:kV=.none:=Dflts.noKw hD
  obtain ⟨a,vs,ns,rfl,rfl,hobj,hints,hlen⟩:=script_of hn hpre hwl
  refine enter_call (codeAny_mono (call w s₀ s₁ mg mb fa o pm cd doc a vs ns G Y ho (fd_plain hd) hcd hmg hobj hints hlen hg) fun r s' hq=>?_)
  obtain ⟨rfl,h2,h3,h4⟩:=hq
  exact ⟨.inl ⟨.bool true,.bool true,[],rfl,fun _=>rfl,.bool true,post_true l _,fun _=>⟨List.Pairwise.nil,fun _ hm=>(nomatch hm)⟩⟩,h2,h3,h4⟩

section
variable {prog:Program} {w:World} {A:Around} {E:Value→Shared→Prop} {s:Shared} {K:Frag}

def ledger (h:Heap) (L d:Addr):List (Addr × Obj):=(List.range h.objs.size).filterMap fun a=>if a=L ∨ a=d then none else (h.get? a).map fun o=>(a,o)
end
end Att

namespace L2
open PySem PySem.Spec PyProof.Rows

theorem vals_ints:∀ {vs:List Value} {ns:List Int},IntsAre vs ns→Vals (ns.map V.int) vs
  | _,_,.nil=>.nil
  | _,_,.cons n t h=>.cons ⟨t,rfl⟩ (vals_ints h)

def Only (H:Hp):Prop:=∀ b,H b=none ∨ ∃ o xs,H b=some (.frz o (.lst xs))

theorem law_call {P:Program} {w:World} {K:PySem.W.Frag} {mg mb:Str→Option Value} {CX:CXT} {k:Nat} {fa a:Addr} {fd:FuncData} {x:Str} {sp:Sp} {s₁:Shared} {vs:List Value} {ns:List Int}
    (KX:K.In s₁.heap) (hns:s₁.heap.Ns mainGlobals mg) (hb:s₁.heap.Ns builtinsNs mb) (hbb:∀ x:Str,x ≠ "__name__"→mb x=bootBuiltins x) (hlim:s₁.heap.NoLimit) (hg:s₁.gens=#[])
    (ha:s₁.heap.get? a=some { cls:=.type "list",data:=.seq vs.toArray }) (hi:IntsAre vs ns) (hl:ns.length≤sizeLine) (hr:Room k callerA)
    (F:∀ base:Heap,K.In base→base.Ns mainGlobals mg→FnOk P w K mg base CX k fa fd [x] sp) (hbind:∀ (s:Shared) (u:Value),BindsTo s fd ⟨[u],[]⟩ [(x,u)])
    (hsp:∀ H:Hp,Only H→SqL K H a (ns.map V.int)→sp [.ref a] H (fun v _=>v=.bl true) fun _ _ _=>False)
    (hCX:∀ H e s',CX [] H s₁ (fun _ _ _=>False) e s'→False) :
    codeAny (model P w) callerA (.call (.ref fa) ⟨[.ref a],[]⟩) (fun r s'=>r=.ok (.ret (.bool true))∧OldK s₁.heap s'.heap∧s'.os=s₁.os∧AllBare s'.gens) s₁:=by
  have rv:=vals_ints hi
  have lenV:=hi.length
  -- from an abstract heap in which nothing but the script may be tracked
  have core:∀ H:Hp,Only H→SqL K H a (ns.map V.int)→HOk P w H s₁.heap→(∀ b,H b ≠ none→b=a)→(H a ≠ none→K.lookup a=none) →
      codeAny (model P w) callerA (.call (.ref fa) ⟨[.ref a],[]⟩) (fun r s'=>r=.ok (.ret (.bool true))∧OldK s₁.heap s'.heap∧s'.os=s₁.os∧AllBare s'.gens) s₁:=by
    intro H hO hS hok hA hK
    have base_of:∀ {b:Addr} {o:Obj},s₁.heap.get? b=some o→H b=none→(hidT s₁.heap H).get? b=some o:=fun e n=>hidT_get e n
    have noA:∀ {b:Addr} {o:Obj} {es:Array DictEntry} {ep:Nat},s₁.heap.get? b=some o→o.data=.dict es ep→H b=none:=fun {b o es ep} e d=>by
      cases q:H b with
      | none=>rfl
      | some u =>
        have e':b=a:=hA b (by rw [q]; simp)
        subst e'
        rw [ha] at e; cases e
        have d':Data.seq vs.toArray _=Data.dict es ep:=d
        cases d'
    have nsK:∀ {b:Addr} {m:Str→Option Value},s₁.heap.Ns b m→(hidT s₁.heap H).Ns b m:=fun {b m} ⟨o,es,ep,e,d,r⟩=>⟨o,es,ep,base_of e (noA e d),d,r⟩
    have hKb:K.In (hidT s₁.heap H):=fun b o e=>base_of (KX b o e) (by
      cases q:H b with
      | none=>rfl
      | some u =>
        have e':b=a:=hA b (by rw [q]; simp)
        subst e'
        rw [hK (by rw [q]; simp)] at e; cases e)
    have hM:Mod K mg (hidT s₁.heap H):=⟨hKb,nsK hns,⟨mb,nsK hb,hbb⟩,let ⟨mc,h1,h2⟩:=hlim; ⟨mc,nsK h1,h2⟩⟩
    have e0:Env0 P w K mg (hidT s₁.heap H) callerA [] s₁ H:=⟨rfl,hM,fun b o e=>of_hidT e,Nat.le_of_eq (hidT_size _ _),trivial,fun b hb=>absurd (show b ∈ ([]:List Addr) from hb) (by simp),hok,.of_eq hg⟩
    refine codeAny_mono ((F _ hKb (nsK hns)).run callerA [] s₁ H ⟨[.ref a],[]⟩ [.ref a] [.ref a] _ _ hr e0 (hbind s₁ (.ref a)) (.cons rfl .nil) (hsp H hO hS)) fun r s' h=>?_
    cases r with
    | error e=>exact (hCX H e s' h).elim
    | ok fl =>
      cases fl with
      | next=>exact False.elim h
      | brk=>exact False.elim h
      | cont=>exact False.elim h
      | ret u =>
        obtain ⟨v,H',os,bare,un,hok',r',q⟩:=h
        have q':v=.bl true:=q
        subst q'
        obtain rfl:u=Value.bool true:=r'
        refine ⟨rfl,OldK.of_keep fun b o e=>?_,os,bare⟩
        cases q:H b with
        | none=>exact un.keep b o e q (by intro z; exact absurd (show b ∈ ([]:List Addr) from z) (by simp)) (by simp)
        | some u =>
          rcases hO b with z | ⟨ob,xs,z⟩
          · rw [q] at z; cases z
          · have z2:=un.frzs b ob _ z
            obtain ⟨e1,_⟩:=hok b _ z
            obtain ⟨e2,_⟩:=hok' b _ z2
            rw [e] at e1; cases e1
            exact e2
  cases hk:K.lookup a with
  | some o =>
    -- the script is one of the module's own objects
    have e:=KX a o hk
    rw [ha] at e
    cases e
    refine core (fun _=>none) (fun _=>.inl rfl) (.inr ⟨_,vs.toArray,_,hk,rfl,rfl,rfl,by rw [List.size_toArray,lenV]; exact hl,by simpa using rv⟩) (fun b u z=>by have z':(none:Option HO)=some u:=z; cases z') (fun b z=>absurd rfl z) fun z=>absurd rfl z
  | none =>
    refine core (fun b=>if b=a then some (.frz { cls:=.type "list",data:=.seq vs.toArray } (.lst (ns.map V.int))) else none) (fun b=>?_) (.inl (.inr ⟨{ cls:=.type "list",data:=.seq vs.toArray },if_pos rfl⟩)) (fun b u z=>?_) (fun b z=>?_) fun _=>hk
    · by_cases hb:b=a
      · exact .inr ⟨_,_,if_pos hb⟩
      · exact .inl (if_neg hb)
    · by_cases hb:b=a
      · have z':=(if_pos hb).symm.trans z
        cases z'
        subst hb
        exact ⟨ha,by rw [List.length_map]; exact hl,vs,_,rv,ha⟩
      · have z':=(if_neg hb).symm.trans z
        cases z'
    · by_cases hb:b=a
      · exact hb
      · exact absurd (if_neg hb) z
end L2

namespace L2
open PySem PySem.Spec PyProof.Rows

abbrev KOf {K:PySem.W.Frag} {h:Heap} (_:K.In h):PySem.W.Frag:=K

theorem walk_of {l:PySem.W.OpenLaw} {n k:Nat} {q:Program} {loose:List Str} {XP:(Str→Option Value)→Heap→Prop} {YP:World→Heap→Prop} {d:DefRec} {K:Params→PySem.W.Frag} {CX:World→CXT} {sp:World→Sp} {x:Str}
    (hn:l.most=some n) (hn2:n≤sizeLine) (hdf:d.params.defaults=[]) (hr:Room k callerA)
    (hY:∀ (w:World) (h:Heap),YP w h→(K w.params).In h)
    (F:∀ (w:World) (mg:Str→Option Value) (fa:Addr) (h:Heap),(K w.params).In h→h.Ns mainGlobals mg→mg d.name=some (.ref fa) →
      ∃ fd:FuncData,(∀ (s:Shared) (u:Value),BindsTo s fd ⟨[u],[]⟩ [(x,u)]) ∧
        ∀ base:Heap,(K w.params).In base→base.Ns mainGlobals mg→FnOk l.prog w (K w.params) mg base (CX w) k fa fd [x] (sp w))
    (hsp:∀ (w:World) (H:Hp) (a:Addr) (ns:List Int),ns.length≤n→Only H→SqL (K w.params) H a (ns.map V.int)→sp w [.ref a] H (fun v _=>v=.bl true) fun _ _ _=>False)
    (hCX:∀ (w:World) (H:Hp) (s:Shared) (e:Value) (s':Shared),CX w [] H s (fun _ _ _=>False) e s'→False) :
    PySem.W.WalkO q loose XP YP l.row.toRowW d [] (fun f vs=>PySem.call f vs):=by
  refine Att.attach_call hn hdf fun w s₀ s₁ mg mb fa o pm cd doc a vs ns G Y ho hd hcd hmg hobj hints hlen hg=>?_
  have KX:=hY w _ Y
  obtain ⟨fd,hb,hF⟩:=F w mg fa _ KX G.T.g hmg
  exact law_call KX G.T.g G.T.b G.T.builtins G.T.nolimit hg hobj hints (Nat.le_trans hlen hn2) hr hF hb (fun H hO hS=>hsp w H a ns hlen hO hS) fun H e s'=>hCX w H s₁ e s'
end L2

/- THE LAST THEOREM (shape; LID,My.* are yours):
   My.Adr: a structure of the addresses that your layer names (classes,functions); My.Txt K t: a structure (Prop) of the equations over K;
   My.txt_mk:{K} {implicit addresses ..} (e1:nsIn K mainGlobals "law"=some (some (.ref f))) (e2:K.lookup f=some ⟨oc,od,.func (fnOf "law" "law" params body scope dV kV doc pm an cdv ct),sl⟩) (e3:codeIn K cdv "law"=true) ..:∃ t,My.Txt K t

set_option maxRecDepth 100000 in
set_option maxHeartbeats 0 in
theorem PySem.Challenge.cw_LID_holds:PySem.Challenge.rw_LID.Holds:=by
  w_on; o_law; k_head; (case hw=>w_witness2)
  k_fill
  refine L2.walk_of (l:=PySem.Challenge.rw_LID) (n:=63) (k:=40) (x:="script") (CX:=fun w=>..) (sp:=fun _=>My.sp_law) rfl (by decide) rfl ⟨rfl,by decide,by decide⟩ (fun w h Y=>PySem.W.kIn_of Y) ?F ?S ?C
  case F =>
    intro w mg fa h KX G hmg
    have T:∃ t,My.Txt (L2.KOf KX) t:=by
      dsimp only [L2.KOf]                          -- K must stand as «<heap const> w.params» for k_is
      refine' My.txt_mk ?e1 ?e2 ?e3 ..
      (case e1=>PySem.W.k_is)                    -- in the order: a name -> its address -> its object -> its parts
      (case e2=>PySem.W.k_is)
      ..
    obtain ⟨t,T⟩:=T
    have e0:=hmg.symm.trans (PySem.W.mg_of KX G T.law)
    cases e0                                       -- fa is the law's own address
    exact ⟨_,fun s u=>.of_eq rfl,fun base kb nb=>My.law_fn T kb nb⟩     -- if «.of_eq rfl» comes too early: refine' ⟨_,?b,fun base kb nb=>My.law_fn T kb nb⟩; exact fun s u=>.of_eq rfl
  case S=>exact fun w H a ns hl hO hS=>..
  case C=>exact ..
(the tactic k_is has no namespace: write k_is) -/

namespace L2
open PySem PySem.Spec PyProof.Rows

def defArgs (s:Stmt):Arguments:=match s with
  | .FunctionDef _ a _ _ _ _ _ _ _ _=>a
  | _=>{ posonlyargs:=[],args:=[],vararg:=none,kwonlyargs:=[],kw_defaults:=[],kwarg:=none,defaults:=[] }
def defBody (s:Stmt):List Stmt:=match s with
  | .FunctionDef _ _ b _ _ _ _ _ _ _=>b
  | _=>[]
def defScope (s:Stmt):Scope:=match s with
  | .FunctionDef _ _ _ _ _ _ sc _ _ _=>sc
  | _=>{ kind:=.function,names:=[],isGenerator:=false,isCoroutine:=false }

abbrev CX0:CXT:=fun _ _ _ _ _ _=>False
abbrev E0:XK:=fun _ _ _=>False
theorem pass0 {X:Cx}:Passes CX0 X E0:=fun _ _ _ _ _ _ _ h=>h.elim

structure Fun (K:PySem.W.Frag) (x qual:Str) (st:Stmt) (f:Addr) (fd:FuncData):Prop where
  ex:∃ (oc:Value) (od:Option Addr) (kV doc pm:Value) (an:Option Addr) (cdv ct:Value) (osl:Array (Option Value)),
    fd=PySem.W.fnOf x qual (defArgs st) (defBody st) (defScope st) .none kV doc pm an cdv ct∧K.lookup f=some ⟨oc,od,.func fd,osl⟩∧PySem.W.codeIn K cdv qual=true
  kp:PySem.W.keepIn K (.ref f)=true
section
variable {P:Program} {w:World} {K:PySem.W.Frag} {mg:Str→Option Value} {base:Heap}
theorem Fun.ok {x qual:Str} {st:Stmt} {f:Addr} {fd:FuncData} {N ps:List Str} {k:Nat} {sp:Sp} (F:Fun K x qual st f fd) (S:FnScope N ps (defScope st)) (len:∀ vs H Q E,sp vs H Q E→vs.length=ps.length)
    (hbody:∀ (cdv:Value) (A:Around) (outer:List Env) (s:Shared) (H:Hp) (vs:List V) (Q:VK) (E:XK),Room k (A.deeper (envOfC qual (defScope st) s.heap.objs.size f cdv))→sp vs H Q E →
      ∃ t,PSs (cxOf CX0 P w K mg base N qual (defScope st) f cdv A outer s H E).nox (defBody st) t∧t { nx:=fun _ H'=>Q .non H',rt:=Q } (start N vs) H):FnOk P w K mg base CX0 (k + 1) f fd ps sp:=by
  obtain ⟨oc,od,kV,doc,pm,an,cdv,ct,osl,rfl,lk,hcd⟩:=F.ex
  refine fn_of lk hcd S len fun A outer s H vs Q E hr hsp=>?_
  obtain ⟨t,h,q⟩:=hbody cdv A outer s H vs Q E hr hsp
  exact ⟨t,h.nox,q⟩
theorem Fun.binds {x qual:Str} {st:Stmt} {f:Addr} {fd:FuncData} {ps:List Str} (F:Fun K x qual st f fd)
    (h:∀ (kV doc pm:Value) (an:Option Addr) (cdv ct:Value) (us:List Value),us.length=ps.length→bindArgs (PySem.W.fnOf x qual (defArgs st) (defBody st) (defScope st) .none kV doc pm an cdv ct) ⟨us,[]⟩=pure (ps.zip us)):Binds K fd ps []:=by
  obtain ⟨oc,od,kV,doc,pm,an,cdv,ct,osl,rfl,lk,hcd⟩:=F.ex
  exact .all (h kV doc pm an cdv ct)
theorem fun_mk {x qual:Str} {st:Stmt} {f:Addr} {oc:Value} {od an:Option Addr} {osl:Array (Option Value)} {kV doc pm cdv ct:Value} (l:K.lookup f=some ⟨oc,od,.func (PySem.W.fnOf x qual (defArgs st) (defBody st) (defScope st) .none kV doc pm an cdv ct),osl⟩)
    (c:PySem.W.codeIn K cdv qual=true) (k:PySem.W.keepIn K (.ref f)=true):Fun K x qual st f (PySem.W.fnOf x qual (defArgs st) (defBody st) (defScope st) .none kV doc pm an cdv ct):=⟨⟨oc,od,kV,doc,pm,an,cdv,ct,osl,rfl,l,c⟩,k⟩
end
theorem small1000 {n:Nat} (h:n≤1000):n < sizeLine:=Nat.lt_of_le_of_lt h (by decide)

section
variable {X:Cx}
theorem pv (i:Nat) {x:Str} {pos:Pos} (hN:X.N[i]?=some x:=by rfl) (hv:Vis X.env.scope x:=by first | exact Or.inl rfl | exact Or.inr (Or.inl rfl) | exact Or.inr (Or.inr rfl)) (hd:(x == ("__debug__":Str))=false:=by decide)
    (hcd:(x == ("__classdict__":Str))=false:=by decide):PE X (.Name x pos) (tVar i):=pe_var hN hv hd hcd
end

def Same (H H':Hp):Prop:=∀ b o,H b=some o→H' b=some o
theorem Same.refl (H:Hp):Same H H:=fun _ _ h=>h
theorem Same.trans {H H1 H2:Hp} (a:Same H H1) (b:Same H1 H2):Same H H2:=fun c o h=>b c o (a c o h)
theorem Same.free {H H':Hp} (e:Same H H') {l:Addr} (h:H' l=Option.none):H l=Option.none:=by
  cases q:H l with
  | none=>rfl
  | some o =>
    rw [e l o q] at h
    cases h
theorem Same.seq {K:PySem.W.Frag} {H H':Hp} {a:Addr} {xs:List V} (e:Same H H') (h:SqL K H a xs):SqL K H' a xs:=by
  rcases h with (h | ⟨o,h⟩) | h
  · exact .inl (.inl (e _ _ h))
  · exact .inl (.inr ⟨o,e _ _ h⟩)
  · exact .inr h

end L2

set_option Elab.async false
set_option linter.all false
set_option maxRecDepth 100000
namespace L2
open PySem PySem.Spec PyProof.Rows

theorem go_sign {M:Model} {A:Around} {E:Value→Shared→Prop} {s:Shared} {tg:Expr} {it:Value} {z:Str} {t:Tok} {Q:Unit→Shared→Prop} (hQ:Q () s) :
    wpAny M A (letOwnedTupleGo tg it (.str z t)) Q E s:=by
  unfold letOwnedTupleGo
  cases tg <;> first
    | exact wpAny_pure hQ
    | (cases it <;> exact wpAny_pure hQ)
def Its (z:Str):It:=⟨fun i _=>i < z.cps.size,fun i H x H'=>H'=H∧∃ c,z.cps[i]?=some c∧x=.str ⟨#[c]⟩,fun i _=>z.cps.size≤i⟩
theorem turn_sign {P:Program} {w:World} {K:PySem.W.Frag} {tg:Expr} {ty:String} (it:Addr) (z:Str) (t:Tok)
    (W:∀ A:Around,A.handled=none→Walks P w A it [it] [it] z.cps.size (SignAt z) (fun i h=>h.IsStrIter it ty z t i))
    (S:∀ (A:Around) (i:Nat) (s:Shared) (Q:Value→Shared→Prop) (E:Value→Shared→Prop),s.heap.IsStrIter it ty z t i→Q (.ref it) s→wpAny (model P w) A (pyIter (.ref it)) Q E s) :
    Turn P w K tg (Its z) [it] it (fun i h=>i≤z.cps.size∧h.IsStrIter it ty z t i) where
  mem:=by simp
  obj:=fun i h st b hb=>by
    obtain rfl:b=it:=by simpa using hb
    obtain ⟨_,o,e,c,d⟩:=st
    exact ⟨o,e,fun v q=>by rw [d] at q; cases q⟩
  keep:=fun i h h' st k=>by
    obtain ⟨l,o,e,r⟩:=st
    exact ⟨l,o,k it (by simp) o e,r⟩
  item:=by
    intro X hP hw hK hc i pins s σ H E I hf st hg
    subst hP hw hK
    obtain ⟨f0,f1,f2,f3,f4,f5⟩:=hf it (by simp)
    refine (W X.A (I.ok.hd hc)).item i s _ _ hg st.2 fun v h' tk hv st' kk=>?_
    obtain ⟨c,u,hx,rfl⟩:=hv
    have I1:Inv X pins σ H { s with heap:=h',toks:=tk }:=I.turned (fun b o hb e=>kk b o (by simpa using hb) e) f0 f1 f3 f4 f5
    exact ⟨_,rfl,go_sign ⟨.str ⟨#[c]⟩,H,I1,⟨u,rfl⟩,⟨rfl,c,hx,rfl⟩,⟨hg,st'⟩,fun b hb=>(hf b hb).1⟩⟩
  done:=by
    intro X hP hw hK hc i pins s σ H E I hf st hg
    subst hP hw hK
    obtain ⟨f0,f1,f2,f3,f4,f5⟩:=hf it (by simp)
    have e:i=z.cps.size:=Nat.le_antisymm st.1 hg
    subst e
    exact (W X.A (I.ok.hd hc)).done s _ _ st.2 fun h' tk kk=>⟨rfl,I.turned (fun b o hb e=>kk b o (by simpa using hb) e) f0 f1 f3 f4 f5⟩
  self:=fun A i s Q E st h=>S A i s Q E st.2 h

def iAny (K:PySem.W.Frag) (tl:TE):TI:=fun σ H R=>tl σ H fun x H1=>(∃ a,x=.ref a∧(∃ xs,SqL K H1 a xs)∧R (Itl K a) H1) ∨ (∃ a,x=.ref a∧(∃ xs,SqT K H1 a xs)∧R (Itt K a) H1) ∨ ∃ z,x=.str z∧R (Its z) H1
theorem pi_any {X:Cx} {tg l:Expr} {tl:TE} (hl:PE X l tl):PI X tg l (iAny X.K tl):=by
  intro pins s σ H R I h
  refine thn (hl pins s σ H _ I h) fun v s1 ⟨x,H1,I1,r1,q1⟩=>?_
  rcases q1 with ⟨a,rfl,⟨xs,hq⟩,q⟩ | ⟨a,rfl,⟨xs,hq⟩,q⟩ | ⟨z,rfl,q⟩
  · cases r1
    obtain ⟨its,rv,p,hz⟩:=I1.list hq
    refine wpAny_pyIter_list p.isList ⟨s1.heap.objs.size,[s1.heap.objs.size],_,_,H1,rfl,I1.kept (t':=s1.toks) fun b o e=>Heap.get?_push_of_some _ e,turn_list a _,⟨_,Heap.get?_push_size _ rfl,rfl,rfl⟩,fun b hb=>?_,q⟩
    obtain rfl:b=s1.heap.objs.size:=by simpa using hb
    exact I1.fpOk (Nat.le_refl _) (I1.hok.fresh (Nat.le_refl _))
  · cases r1
    obtain ⟨its,rv,p,hz⟩:=I1.tuple hq
    refine wpAny_pyIter_tuple (show s1.heap.IsTuple a its.toArray from p) ⟨s1.heap.objs.size,[s1.heap.objs.size],_,_,H1,rfl,I1.kept (t':=s1.toks) fun b o e=>Heap.get?_push_of_some _ e,turn_tuple a _,⟨_,Heap.get?_push_size _ rfl,rfl,rfl⟩,fun b hb=>?_,q⟩
    obtain rfl:b=s1.heap.objs.size:=by simpa using hb
    exact I1.fpOk (Nat.le_refl _) (I1.hok.fresh (Nat.le_refl _))
  · obtain ⟨t,rfl⟩:=r1
    have fin:∀ (o:Obj) (ty:String),(∀ A:Around,A.handled=none→Walks X.prog X.w A s1.heap.objs.size [s1.heap.objs.size] [s1.heap.objs.size] z.cps.size (SignAt z) (fun i h=>h.IsStrIter s1.heap.objs.size ty z t i)) →
        (∀ (A:Around) (i:Nat) (s:Shared) (Q:Value→Shared→Prop) (E:Value→Shared→Prop),s.heap.IsStrIter s1.heap.objs.size ty z t i→Q (.ref s1.heap.objs.size) s→wpAny (model X.prog X.w) A (pyIter (.ref s1.heap.objs.size)) Q E s) →
        (s1.heap.push o).IsStrIter s1.heap.objs.size ty z t 0→PIE X pins σ tg R (.ref s1.heap.objs.size) { s1 with heap:=s1.heap.push o }:=fun o ty W S st=>by
      refine ⟨s1.heap.objs.size,[s1.heap.objs.size],_,Its z,H1,rfl,I1.kept (t':=s1.toks) fun b o e=>Heap.get?_push_of_some _ e,turn_sign _ z t W S,⟨Nat.zero_le _,st⟩,fun b hb=>?_,q⟩
      obtain rfl:b=s1.heap.objs.size:=by simpa using hb
      exact I1.fpOk (Nat.le_refl _) (I1.hok.fresh (Nat.le_refl _))
    cases ha:z.cps.all (· < 128)
    · exact wpAny_pyIter_wide ha (fin _ "str_iterator" (fun A hA=>Walks.strWide hA _ z t) (fun _ _ _ _ _ st h=>wpAny_pyIter_striter_wide st h) ⟨_,Heap.get?_push_size _ rfl,rfl,rfl⟩)
    · exact wpAny_pyIter_ascii ha (fin _ "str_ascii_iterator" (fun A hA=>Walks.strAscii hA _ z t) (fun _ _ _ _ _ st h=>wpAny_pyIter_striter_ascii st h) ⟨_,Heap.get?_push_size _ rfl,rfl,rfl⟩)

structure BP where
  cl:List (Str × Addr)
  C:Addr
  s3:Shared
  H3:Hp
  ex:List Addr
  pn:List (Addr × Obj)
def blk (X:Cx) (scope:Scope) (N':List Str) (b:BP):Cx where
  prog:=X.prog
  w:=X.w
  K:=X.K
  mg:=X.mg
  base:=X.base
  A:=X.A
  N:=N'
  s₀:=b.s3
  H₀:=b.H3
  env:=compEnvC scope b.cl b.C X.env
  outer:=X.stack
  stack:=X.stack
  ex:=b.ex
  fn:=fun _=>false
  calm:=X.calm
  pn:=b.pn
  xe:=fun _ _=>False

theorem closure_go {env:Env}:∀ (names:List (Str × NameKind)) (acc:List (Str × Addr)),(∀ x ∈ names,x.2=.free→∃ c,env.cells.lookup x.1=some c) →
    (∀ n c,acc.lookup n=some c→env.cells.lookup n=some c) →
    ∃ cl:List (Str × Addr),(forIn names acc (fun x cs=>match x with | (name,kind)=>if kind == .free then do let a ← cellOf env name; pure (ForInStep.yield ((name,a)::cs)) else pure (ForInStep.yield cs)):Sem (List (Str × Addr)))=pure cl ∧
      (∀ n c,cl.lookup n=some c→env.cells.lookup n=some c)∧(∀ n,((∃ c,acc.lookup n=some c) ∨ (n,NameKind.free) ∈ names)→∃ c,cl.lookup n=some c)
  | [],acc,_,ha=>⟨acc,rfl,ha,fun n h=>h.elim id fun z=>absurd z (by simp)⟩
  | (n,k)::r,acc,h,ha=>by
    by_cases hk:k=.free
    · subst hk
      obtain ⟨c,hc⟩:=h (n,.free) (List.mem_cons_self ..) rfl
      obtain ⟨cl,e,h1,h2⟩:=closure_go r ((n,c)::acc) (fun x hx=>h x (List.mem_cons_of_mem _ hx)) (fun m d hm=>by
        rw [List.lookup_cons] at hm
        cases hb:m == n with
        | true =>
          rw [hb] at hm
          obtain rfl:m=n:=by simpa using hb
          cases hm; exact hc
        | false=>rw [hb] at hm; exact ha m d hm)
      refine ⟨cl,?_,h1,fun m hm=>h2 m ?_⟩
      · rw [List.forIn_cons]
        have ec:cellOf env n=pure c:=by unfold cellOf; rw [hc]
        simp only [beq_self_eq_true,if_true,ec]
        exact e
      · rcases hm with ⟨d,hd⟩ | hm
        · left
          rw [List.lookup_cons]
          cases hb:m == n with
          | true=>exact ⟨c,rfl⟩
          | false=>exact ⟨d,hd⟩
        · rcases List.mem_cons.mp hm with z | z
          · left
            cases z
            exact ⟨c,by simp [List.lookup_cons]⟩
          · exact .inr z
    · obtain ⟨cl,e,h1,h2⟩:=closure_go r acc (fun x hx=>h x (List.mem_cons_of_mem _ hx)) ha
      refine ⟨cl,?_,h1,fun m hm=>h2 m (hm.imp id fun z=>?_)⟩
      · rw [List.forIn_cons]
        have eb:(k == NameKind.free)=false:=by simpa using hk
        simp only [eb,Bool.false_eq_true,if_false]
        exact e
      · rcases List.mem_cons.mp z with z | z
        · cases z; exact absurd rfl hk
        · exact z
theorem closure_of {env:Env} {scope:Scope} (h:∀ x ∈ scope.names,x.2=.free→∃ c,env.cells.lookup x.1=some c) :
    ∃ cl,closureFor scope env=pure cl∧(∀ n c,cl.lookup n=some c→env.cells.lookup n=some c)∧∀ n,(n,NameKind.free) ∈ scope.names→∃ c,cl.lookup n=some c:=by
  obtain ⟨cl,e,h1,h2⟩:=closure_go (env:=env) scope.names [] h (fun n c z=>by simp at z)
  refine ⟨cl,?_,h1,fun n z=>h2 n (.inr z)⟩
  unfold closureFor
  refine Eq.trans ?_ (congrArg (fun m=>m >>= fun r=>(pure r:Sem (List (Str × Addr)))) e)
  rfl

theorem relabel_back {env:Env} {x:Str} {k:NameKind}:∀ {names:List (Str × NameKind)},
    (names.map fun (n,k)=>if (k == NameKind.free && env.scope.kind == .function && env.kindOf n == some .cell) then (n,NameKind.cell) else (n,k)).lookup x=some k →
    ∃ k0,(x,k0) ∈ names∧(k0=k ∨ (k0=.free∧k=.cell))
  | [],h=>by simp at h
  | (n,j)::r,h=>by
    rw [List.map_cons,List.lookup_cons] at h
    dsimp only at h
    by_cases hc:(j == NameKind.free && env.scope.kind == .function && env.kindOf n == some .cell)=true
    · rw [if_pos hc] at h
      dsimp only at h
      cases hb:x == n with
      | true =>
        rw [hb] at h
        obtain rfl:x=n:=by simpa using hb
        cases h
        have hj:j=.free:=by simp only [Bool.and_eq_true,beq_iff_eq] at hc; exact hc.1.1
        exact ⟨j,List.mem_cons_self ..,.inr ⟨hj,rfl⟩⟩
      | false =>
        rw [hb] at h
        obtain ⟨k0,h1,h2⟩:=relabel_back (names:=r) h
        exact ⟨k0,List.mem_cons_of_mem _ h1,h2⟩
    · rw [if_neg hc] at h
      dsimp only at h
      cases hb:x == n with
      | true =>
        rw [hb] at h
        obtain rfl:x=n:=by simpa using hb
        cases h
        exact ⟨_,List.mem_cons_self ..,.inl rfl⟩
      | false =>
        rw [hb] at h
        obtain ⟨k0,h1,h2⟩:=relabel_back (names:=r) h
        exact ⟨k0,List.mem_cons_of_mem _ h1,h2⟩
theorem relabel_free {env:Env} {x:Str}:∀ {names:List (Str × NameKind)},names.lookup x=some .free →
    (names.map fun (n,k)=>if (k == NameKind.free && env.scope.kind == .function && env.kindOf n == some .cell) then (n,NameKind.cell) else (n,k)).lookup x=some .cell ∨
    (names.map fun (n,k)=>if (k == NameKind.free && env.scope.kind == .function && env.kindOf n == some .cell) then (n,NameKind.cell) else (n,k)).lookup x=some .free
  | [],h=>by simp at h
  | (n,j)::r,h=>by
    rw [List.lookup_cons] at h
    rw [List.map_cons,List.lookup_cons]
    dsimp only
    cases hb:x == n with
    | true =>
      rw [hb] at h
      cases h
      by_cases hc:(NameKind.free == NameKind.free && env.scope.kind == .function && env.kindOf n == some .cell)=true
      · rw [if_pos hc]; dsimp only; rw [hb]; exact .inl rfl
      · rw [if_neg hc]; dsimp only; rw [hb]; exact .inr rfl
    | false =>
      rw [hb] at h
      have ih:=relabel_free (env:=env) (names:=r) h
      by_cases hc:(j == NameKind.free && env.scope.kind == .function && env.kindOf n == some .cell)=true
      · rw [if_pos hc]; dsimp only; rw [hb]; exact ih
      · rw [if_neg hc]; dsimp only; rw [hb]; exact ih

def frChk (names outer:List (Str × NameKind)) (Nx:List Str):List Str→List (Option Nat)→Bool
  | [],[]=>true
  | x::r,none::f=>frChk names outer Nx r f
  | x::r,some j::f=>(names.lookup x == some .free) && (Nx[j]? == some x) && (outer.lookup x == some .cell) && frChk names outer Nx r f
  | _,_=>false
theorem frChk_get {names outer:List (Str × NameKind)} {Nx:List Str}:∀ {N':List Str} {fr:List (Option Nat)},frChk names outer Nx N' fr=true →
    N'.length=fr.length∧∀ (i:Nat) (x:Str) (j:Nat),N'[i]?=some x→fr[i]?=some (some j)→names.lookup x=some .free∧Nx[j]?=some x∧outer.lookup x=some .cell
  | [],[],_=>⟨rfl,fun i x j h=>by simp at h⟩
  | x::r,none::f,h=>by
    obtain ⟨h1,h2⟩:=frChk_get (N':=r) (fr:=f) h
    refine ⟨by simp [h1],fun i y j e1 e2=>?_⟩
    cases i with
    | zero=>simp at e2
    | succ i=>exact h2 i y j (by simpa using e1) (by simpa using e2)
  | x::r,some k::f,h=>by
    simp only [frChk,Bool.and_eq_true,beq_iff_eq] at h
    obtain ⟨⟨⟨a1,a2⟩,a3⟩,h⟩:=h
    obtain ⟨h1,h2⟩:=frChk_get (N':=r) (fr:=f) h
    refine ⟨by simp [h1],fun i y j e1 e2=>?_⟩
    cases i with
    | zero =>
      simp at e1 e2
      subst e1; subst e2
      exact ⟨a1,a2,a3⟩
    | succ i=>exact h2 i y j (by simpa using e1) (by simpa using e2)
  | [],_::_,h=>by simp [frChk] at h
  | _::_,[],h=>by simp [frChk] at h
def inBlk (fr:List (Option Nat)) (σ:St):St:=fr.map fun o=>o.bind fun j=>(σ[j]?).join

theorem HOk.but {P:Program} {w:World} {H:Hp} {h h':Heap} {a:Addr} (ok:HOk P w H h) (n:H a=none) (sb:Heap.SameBut a h h'):HOk P w H h':=fun b ob e=>by
  refine (ok b ob e).stay (fun c u hc q=>(sb.2 c ?_).trans q) (fun _ q=>q) fun _ _ q=>q
  rintro rfl
  rcases hc with rfl | hc
  · rw [n] at e; cases e
  · rw [n] at hc; cases hc

def PIf (X:Cx) (ifs:List Expr) (tt:TT):Prop :=
  ∀ (pins:List (Addr × Obj)) (s:Shared) (σ:St) (H:Hp) (Q:Bool→Hp→Prop),Inv X pins σ H s→tt σ H Q →
    wpAny (model X.prog X.w) X.A (forIn ifs true fun c r=>if r=true then do let ok ← isTrue c X.env (eval c X.env); pure (ForInStep.yield ok) else pure (ForInStep.yield r)) (TP X pins σ Q) X.xe s
def tAlways:TT:=fun _ H Q=>Q true H
theorem pif_nil {X:Cx}:PIf X [] tAlways:=fun _ _ _ H _ I h=>wpAny_tests_nil ⟨H,I,h⟩
theorem pif_one {X:Cx} {c:Expr} {tt:TT} (h:PT X c tt):PIf X [c] tt:=fun pins s σ H Q I q=>wpAny_tests_one (h pins s σ H Q I q)

def tLc (fr:List (Option Nat)) (wi:TI) (g:BP→TG) (tt:BP→TT) (te:BP→TE):TE:=fun σ H Q=>wi σ H fun J H1=>∀ (bp:BP) (acc:Addr),H1 acc=none→∃ W:Nat→Nat→St→Hp→Prop,
  (∃ m,W 0 m (inBlk fr σ) (upd H1 acc (.lst [])))∧∀ i m σ' H',W i m σ' H' →
    (J.stop i H'∧Q (.ref acc) H') ∨ (J.go i H'∧∀ x H2,J.yld i H' x H2→g bp x σ' H2 fun σ2 H3=>tt bp σ2 H3 fun b H4 =>
      if b=true then te bp σ2 H4 fun y H5=>∃ ys,H5 acc=some (.lst ys)∧ys.length < sizeLine∧∃ m',m' < m∧W (i + 1) m' σ2 (upd H5 acc (.lst (ys++[y])))
      else ∃ m',m' < m∧W (i + 1) m' σ2 H4)

section
variable {X:Cx}
theorem comp_loop {prog:Program} {w:World} {A:Around} {R:Result→Shared→Prop} {s:Shared} {elt target iter:Expr} {ifs:List Expr} {scope:Scope} {pos:Pos} {it acc:Value} {env:Env} (I:Nat→Shared→Prop)
    (turn:∀ n s,I n s→wpAny (model prog w) A (pyNext it) (fun r s₁=>match r with
      | none=>R (.ok .next) s₁
      | some v=>wpAny (model prog w) A (letOwnedTupleGo target it v) (fun _ s1=>wpAny (model prog w) A (assign target env v) (fun _ s₂ =>
          wpAny (model prog w) A (forIn ifs true fun c r=>if r=true then do let ok ← isTrue c env (eval c env); pure (ForInStep.yield ok) else pure (ForInStep.yield r)) (fun ok s₃ =>
            if ok=true then wpAny (model prog w) A (eval elt env) (fun x s₄=>wpAny (model prog w) A (call (.builtin "list.append") [acc,x]) (fun _ s₅=>∃ m,m < n∧I m s₅) (fun _ _=>False) s₄) (fun _ _=>False) s₃
            else ∃ m,m < n∧I m s₃) (fun _ _=>False) s₂) (fun _ _=>False) s1) (fun _ _=>False) s₁) (fun _ _=>False) s)
    (n:Nat) (h:I n s):codeAny (model prog w) A (.compLoop (.ListComp elt [⟨target,iter,ifs,0⟩] scope pos) 0 it acc env) R s:=by
  refine codeAny_loop rfl I (fun n s hI=>?_) n h
  show wpAny _ A ((compTurn (.ListComp elt [⟨target,iter,ifs,0⟩] scope pos) 0 it acc env).onRaise (fun x=>do noteFrame x env; theTreesLotGoes x)) _ _ s
  refine wpAny_noted ?_
  rw [compTurn_list]
  have no:∀ {E:Value→Shared→Prop} (e:Value) (s:Shared),False→E e s:=fun _ _ z=>z.elim
  refine wpAny_bind (wpAny_standAt (wpAny_bind (wpAny_mono (turn n s hI) (fun r s₁ h₁=>?_) no)))
  cases r with
  | none=>exact wpAny_pure h₁
  | some v =>
    refine wpAny_bind (wpAny_mono h₁ (fun _ s1 h1=>wpAny_bind (wpAny_mono h1 (fun _ s₂ h₂=>wpAny_bind (wpAny_mono h₂ (fun ok s₃ h₃=>?_) no)) no)) no)
    cases ok with
    | false=>exact wpAny_pure ⟨rfl,h₃⟩
    | true=>exact wpAny_bind (wpAny_bind (wpAny_mono h₃ (fun x s₄ h₄=>wpAny_bind (wpAny_mono h₄ (fun _ s₅ h₅=>wpAny_pure (wpAny_pure ⟨rfl,h₅⟩)) no)) no))

variable {elt iter tg:Expr} {ifs:List Expr} {scope:Scope} {pos:Pos} {N':List Str} {fr:List (Option Nat)} {wi:TI} {g:BP→TG} {tt:BP→TT} {te:BP→TE}
theorem lc_block {pins:List (Addr × Obj)} {σ:St} {H2:Hp} {s2:Shared} {it:Addr} {fp:List Addr} {tn:Nat→Heap→Prop} {J:It} {Q:VK} {RR:Value→Addr→Result→Shared→Prop} {cl:List (Str × Addr)} {E:Value→Shared→Prop}
    (hcalm:X.calm=true) (hkind:scope.kind=.function) (hcell:∀ y ∈ scope.names,y.2 ≠ .cell) (hfr:frChk scope.names X.env.scope.names X.N N' fr=true)
    (hcl1:∀ n c,cl.lookup n=some c→X.env.cells.lookup n=some c) (hcl2:∀ n,(n,NameKind.free) ∈ scope.names→∃ c,cl.lookup n=some c)
    (hY:∀ b:BP,PG (blk X scope N' b) tg (g b)∧PIf (blk X scope N' b) ifs (tt b)∧PE (blk X scope N' b) elt (te b))
    (I2:Inv X pins σ H2 s2) (T:Turn X.prog X.w X.K tg J fp it tn) (st2:tn 0 s2.heap) (f2:∀ b ∈ fp,FpOk X pins H2 b)
    (q:∀ (bp:BP) (acc:Addr),H2 acc=none→∃ W:Nat→Nat→St→Hp→Prop,(∃ m,W 0 m (inBlk fr σ) (upd H2 acc (.lst [])))∧∀ i m σ' H',W i m σ' H' →
      (J.stop i H'∧Q (.ref acc) H') ∨ (J.go i H'∧∀ x H2,J.yld i H' x H2→g bp x σ' H2 fun σ2 H3=>tt bp σ2 H3 fun b H4 =>
        if b=true then te bp σ2 H4 fun y H5=>∃ ys,H5 acc=some (.lst ys)∧ys.length < sizeLine∧∃ m',m' < m∧W (i + 1) m' σ2 (upd H5 acc (.lst (ys++[y])))
        else ∃ m',m' < m∧W (i + 1) m' σ2 H4))
    (hRR:∀ acc C s' HY m,Inv X pins σ HY s'→FpOk X pins HY C→s'.heap.Ns C m→Q (.ref acc) HY→RR (.ref acc) C (.ok .next) s') :
    wpAny (model X.prog X.w) X.A (newList []) (fun acc s₃=>wpAny (model X.prog X.w) X.A (newFunctionEnv scope X.env.globals cl [] X.env.qual none .none (some X.env)) (fun cenv s₄ =>
      codeAny (model X.prog X.w) X.A (.compStart (.ListComp elt [⟨tg,iter,ifs,0⟩] scope pos) 0 (.ref it) acc { cenv with scope:=relabel scope X.env }) (RR acc cenv.locals) s₄) E s₃) E s2:=by
  obtain ⟨hfl,hfg⟩:=frChk_get hfr
  have hacc:H2 s2.heap.objs.size=none:=I2.hok.fresh (Nat.le_refl _)
  refine wpAny_newObj_type ?_ (by show 0≤sizeLine; exact Nat.zero_le _)
  generalize hs3:({ s2 with heap:=s2.heap.push { cls:=.type "list",dict:=none,data:=.seq ([]:List Value).toArray } }:Shared)=s3
  have I3:Inv X pins σ (upd H2 s2.heap.objs.size (.lst [])) s3:=by
    rw [← hs3]
    exact I2.laid (t':=s2.toks) (fun b u e=>Heap.get?_push_of_some _ e) (Nat.le_refl _) ⟨Nat.zero_le _,[],0,.nil,Heap.get?_push_size _ rfl⟩
  have hfp:∀ b ∈ fp,b < s3.heap.objs.size:=fun b hb=>by
    obtain ⟨o,e,_⟩:=T.obj 0 _ st2 b hb
    rw [← hs3]
    exact Heap.lt_size (Heap.get?_push_of_some _ e)
  have st3:tn 0 s3.heap:=T.keep 0 _ _ st2 fun b _ o e=>by rw [← hs3]; exact Heap.get?_push_of_some _ e
  have f3:∀ b ∈ fp,FpOk X pins (upd H2 s2.heap.objs.size (.lst [])) b:=fun b hb=>⟨by
    obtain ⟨o,e,_⟩:=T.obj 0 _ st2 b hb
    rw [upd_ne (Nat.ne_of_lt (Heap.lt_size e))]
    exact (f2 b hb).1,(f2 b hb).2⟩
  refine wpAny_newFunctionEnv hcell (fun y hy=>by simp at hy) (fun h₁ hns hsb=>?_) hkind
  generalize hH3:upd H2 s2.heap.objs.size (.lst [])=H3 at *
  generalize hac:s2.heap.objs.size=ac at *
  generalize hC:s3.heap.objs.size=C at *
  obtain ⟨W,⟨m0,w0⟩,turn⟩:=q ⟨cl,C,s3,H3,fp,X.pn++pins⟩ ac hacc
  rw [hH3] at w0
  have keep:∀ b o,s3.heap.get? b=some o→h₁.get? b=some o:=fun b o e=>hsb.extBut b o (by rw [← hC]; exact Nat.ne_of_lt (Heap.lt_size e)) (Heap.get?_push_of_some _ e)
  have hCfp:∀ b ∈ fp,b ≠ C:=fun b hb=>by exact Nat.ne_of_lt (hfp b hb)
  have hCl:X.env.locals < C:=by rw [← hC]; exact I3.lt
  have hstk:∀ b ∈ frs X.stack,b ≠ C∧H3 b=none:=fun b hb=>⟨by
    rintro rfl
    rcases List.mem_cons.mp (I3.stkSub b hb) with z | z
    · rw [z] at hCl; exact absurd hCl (Nat.lt_irrefl _)
    · exact I3.nofs (by rw [hC]; exact Nat.le_refl _) z,I3.stkFree b hb⟩
  have cellNe:∀ x c,X.env.cells.lookup x=some c→c ≠ C:=fun x c e z=>by
    obtain ⟨v,o,ho,_⟩:=I3.cell x c e
    have:=Heap.lt_size ho
    rw [z,hC] at this
    exact absurd this (Nat.lt_irrefl _)
  -- the block's context
  have okY:(blk X scope N' ⟨cl,C,s3,H3,fp,X.pn++pins⟩).Ok:=by
    refine ⟨I3.ok.mod,hkind,I3.ok.glob,I3.ok.blt,Nat.le_of_eq hC,fun x y c h1 h2=>I3.ok.inj x y c (hcl1 x c h1) (hcl1 y c h2),fun x hx=>?_,fun x c z=>absurd z (by intro z; cases z),fun _=>I3.ok.hd hcalm,I3.ok.frames,.inl rfl,
      fun b hb=>⟨hCfp b hb,fun x c h=>(f3 b hb).2.2.2.2.1 x c (hcl1 x c h)⟩,fun b o e=>I3.bs b o e,?_,fun b o e hb=>?_,fun b hb hs=>?_,I3.stack,fun b hb=>(hstk b hb).2⟩
    · have back:∀ k,(relabel scope X.env).names.lookup x=some k→(k=.cell ∨ k=.free)→∃ c,cl.lookup x=some c:=fun k h hk=>by
        obtain ⟨k0,h1,h2⟩:=relabel_back h
        have hk0:k0=.free:=by
          rcases h2 with rfl | ⟨rfl,_⟩
          · rcases hk with rfl | rfl
            · exact absurd rfl (hcell _ h1)
            · rfl
          · rfl
        subst hk0
        exact hcl2 x h1
      rcases hx with hx | hx
      · exact back _ hx (.inl rfl)
      · exact back _ hx (.inr rfl)
    · exact Nat.le_trans I3.ok.bsz (Nat.le_trans I3.sz (Nat.le_refl _))
    · rcases (f3 b hb).2.2.2.1 with z | z
      · exact I3.ok.noex b o e z
      · exact absurd (Nat.lt_of_lt_of_le (Heap.lt_size (I3.ok.bs b o e).1) z) (Nat.lt_irrefl _)
    · rcases List.mem_cons.mp (I3.stkSub b hs) with z | z
      · exact (f3 b hb).2.1 z
      · exact (f3 b hb).2.2.1 z
  have hH3C:H3 C=none:=I3.hok.fresh (Nat.le_of_eq hC)
  have IY:Inv (blk X scope N' ⟨cl,C,s3,H3,fp,X.pn++pins⟩) [] (inBlk fr σ) H3 { s3 with heap:=h₁,toks:=s3.toks + ([]:List (Str × Value)).length }:=by
    refine ⟨okY,rfl,I3.bare,Un.kept keep,⟨_,hns,fun i x v h1 h2 _=>?_⟩,fun x c e=>?_,hH3C,fun x c e=>I3.freeC x c (hcl1 x c e),fun p hp=>?_,I3.hok.kept keep,?_⟩
    · have e:∃ j,fr[i]?=some (some j)∧σ[j]?=some (some v):=by
        unfold inBlk at h2
        rw [List.getElem?_map] at h2
        cases hf:fr[i]? with
        | none=>rw [hf] at h2; cases h2
        | some o =>
          rw [hf] at h2
          cases o with
          | none=>cases h2
          | some j =>
            refine ⟨j,rfl,?_⟩
            have h2':(σ[j]?).join=some v:=by simpa using h2
            cases hj:σ[j]? with
            | none=>rw [hj] at h2'; cases h2'
            | some o=>rw [hj] at h2'; rw [show o=some v from h2']
      obtain ⟨j,e1,e2⟩:=e
      obtain ⟨a1,a2,a3⟩:=hfg i x j h1 e1
      obtain ⟨m,hn,hl⟩:=I3.loc
      obtain ⟨u,r,l⟩:=hl j x v a2 e2 (.inr (.inl a3))
      refine ⟨u,r,.inr ⟨relabel_free a1,?_⟩⟩
      rcases l with ⟨k,_⟩ | ⟨_,c,hc,o,ho,hd⟩
      · have k':X.env.scope.names.lookup x=some .local:=k
        rw [a3] at k'; cases k'
      · obtain ⟨c',hc'⟩:=hcl2 x (PySem.mem_of_lookup a1)
        have z:=hcl1 x c' hc'
        rw [hc] at z; cases z
        exact ⟨c,hc',o,keep c o ho,hd⟩
    · obtain ⟨v,o,ho,hd⟩:=I3.cell x c (hcl1 x c e)
      exact ⟨v,o,keep c o ho,hd⟩
    · obtain ⟨e,n,ne,nf,d⟩:=I3.pin p (by have hp':p ∈ (X.pn++pins)++[]:=hp; simpa using hp')
      refine ⟨keep _ _ e,n,?_,fun z=>?_,d⟩
      · have:=Heap.lt_size e
        rw [hC] at this
        exact Nat.ne_of_lt this
      · rcases List.mem_cons.mp (I3.stkSub p.1 z) with z | z
        · exact ne z
        · exact nf z
    · unfold inBlk
      rw [List.length_map]
      exact hfl.symm
  have stat:∀ {H':Hp},(∀ b ∈ fp,H' b=none)→∀ b ∈ fp,FpOk (blk X scope N' ⟨cl,C,s3,H3,fp,X.pn++pins⟩) [] H' b:=fun {H'} hn b hb =>
    ⟨hn b hb,hCfp b hb,fun z=>by
      rcases List.mem_cons.mp (I3.stkSub b z) with z | z
      · exact (f3 b hb).2.1 z
      · exact (f3 b hb).2.2.1 z,.inl hb,fun x c e=>(f3 b hb).2.2.2.2.1 x c (hcl1 x c e),fun p hp=>(f3 b hb).2.2.2.2.2 p (by have hp':p ∈ (X.pn++pins)++[]:=hp; simpa using hp')⟩
  obtain ⟨hg,ht,he⟩:=hY ⟨cl,C,s3,H3,fp,X.pn++pins⟩
  have loop:codeAny (model X.prog X.w) X.A (.compLoop (.ListComp elt [⟨tg,iter,ifs,0⟩] scope pos) 0 (.ref it) (.ref ac) (compEnvC scope cl C X.env)) (RR (.ref ac) C) { s3 with heap:=h₁,toks:=s3.toks + ([]:List (Str × Value)).length }:=by
    refine comp_loop (fun n s'=>∃ i σ' H',Inv (blk X scope N' ⟨cl,C,s3,H3,fp,X.pn++pins⟩) [] σ' H' s'∧tn i s'.heap∧(∀ b ∈ fp,H' b=none)∧W i n σ' H') ?_ m0
      ⟨0,inBlk fr σ,H3,IY,T.keep 0 _ _ st3 fun b _ o e=>keep b o e,fun b hb=>(f3 b hb).1,w0⟩
    rintro n s4 ⟨i,σ4,H4,I4,st4,fr4,w4⟩
    rcases turn i n σ4 H4 w4 with ⟨stop,qn⟩ | ⟨go,step⟩
    · refine thn (T.done (blk X scope N' ⟨cl,C,s3,H3,fp,X.pn++pins⟩) rfl rfl rfl hcalm i [] s4 σ4 H4 _ I4 (stat fr4) st4 stop) fun r s5 ⟨hr,I5⟩=>?_
      subst hr
      obtain ⟨m,hn,_⟩:=I5.loc
      have IX:Inv X pins σ H4 s5:=I3.call' I5.os I5.base I5.hok I5.bare fun b hb=>⟨(f3 b hb).2.2.2.1,(f3 b hb).2.1,(f3 b hb).2.2.2.2.1,(f3 b hb).2.2.2.2.2⟩
      exact hRR ac C s5 H4 m IX (I3.fpOk (Nat.le_of_eq hC) I5.free) hn qn
    · refine thn (T.item (blk X scope N' ⟨cl,C,s3,H3,fp,X.pn++pins⟩) rfl rfl rfl hcalm i [] s4 σ4 H4 (fun _ _=>False) I4 (stat fr4) st4 go) fun r s5 ⟨u,hr,h5⟩=>?_
      subst hr
      refine thn h5 fun _ s6 ⟨x,H6,I6,r6,y6,st6,fr6⟩=>?_
      have I6':=I6.pinned (stat fr6) (T.obj _ _ st6)
      refine thn (hg _ s6 σ4 H6 x u _ I6' r6 (step x H6 y6)) fun _ s7 ⟨σ7,H7,I7,q7⟩=>?_
      refine thn (ht _ s7 σ7 H7 _ I7 q7) fun ok s8 ⟨H8,I8,q8⟩=>?_
      have again:∀ {s9:Shared} {σ9:St} {H9:Hp} {m':Nat},Inv (blk X scope N' ⟨cl,C,s3,H3,fp,X.pn++pins⟩) ([]++pinsAt fp s6.heap) σ9 H9 s9→m' < n→W (i + 1) m' σ9 H9 →
          ∃ m,m < n∧∃ i σ' H',Inv (blk X scope N' ⟨cl,C,s3,H3,fp,X.pn++pins⟩) [] σ' H' s9∧tn i s9.heap∧(∀ b ∈ fp,H' b=none)∧W i m σ' H':=fun {s9 σ9 H9 m'} I9 hm w9=>by
        refine ⟨m',hm,i + 1,σ9,H9,I9.unpinned,T.keep _ _ _ st6 fun b hb o e=>(I9.pin (b,o) (List.mem_append_right _ (List.mem_append_right _ (mem_pinsAt hb e)))).1,fun b hb=>?_,w9⟩
        obtain ⟨o,e,d⟩:=T.obj _ _ st6 b hb
        exact (I9.pin (b,o) (List.mem_append_right _ (List.mem_append_right _ (mem_pinsAt hb e)))).2.1
      cases ok with
      | false =>
        obtain ⟨m',hm,w8⟩:=q8
        exact again I8 hm w8
      | true =>
        refine thn (he _ s8 σ7 H8 _ I8 q8) fun y s9 ⟨yv,H9,I9,r9,ys,hys,hz,m',hm,w9⟩=>?_
        refine thn (mt_append (X:=blk X scope N' ⟨cl,C,s3,H3,fp,X.pn++pins⟩) _ s9 σ7 H9 (.ref ac) [yv] (.ref ac) [y] (fun _ H'=>H'=upd H9 ac (.lst (ys++[yv]))) I9 rfl (.cons r9 .nil) ⟨ac,ys,yv,rfl,rfl,hys,hz,rfl⟩) fun _ s10 ⟨_,H10,I10,_,e10⟩=>?_
        subst e10
        exact again I10 hm w9
  exact codeAny_compStart_list loop (T.self _ 0 _ _ _ (T.keep 0 _ _ st3 fun b _ o e=>keep b o e) loop)

theorem pe_lc (hcalm:X.calm=true) (hkind:scope.kind=.function) (hcell:∀ y ∈ scope.names,y.2 ≠ .cell) (hfr:frChk scope.names X.env.scope.names X.N N' fr=true)
    (hfree:∀ y ∈ scope.names,y.2=.free→X.env.scope.names.lookup y.1=some .cell) (hnames:∀ x ∈ scope.names,x.2=.local→scope.names.lookup x.1=some .local) (hi:PI X tg iter wi)
    (hY:∀ b:BP,PG (blk X scope N' b) tg (g b)∧PIf (blk X scope N' b) ifs (tt b)∧PE (blk X scope N' b) elt (te b))
    (hs:∀ x,foldedSetIterable iter X.env x=pure x:=by intro _; rfl):PE X (.ListComp elt [⟨tg,iter,ifs,0⟩] scope pos) (tLc fr wi g tt te):=by
  intro pins s σ H Q I h
  obtain ⟨cl,hclos,hcl1,hcl2⟩:=closure_of (env:=X.env) (scope:=scope) fun y hy hk=>I.ok.has y.1 (.inl (hfree y hy hk))
  rw [eval_ListComp]
  refine wpAny_comprehension_free (use:=none) rfl hs hclos hkind hnames (thn (hi pins s σ H _ I h) fun v s1 h1=>thn h1 fun itv s2 h2=>?_)
  obtain ⟨it,fp,tn,J,H2,rfl,I2,T,st2,f2,q⟩:=h2
  refine lc_block (RR:=fun acc C=>compPost (model X.prog X.w) X.A X.xe none (EP X pins σ Q) acc C) hcalm hkind hcell hfr hcl1 hcl2 hY I2 T st2 f2 q fun acc C s' HY m I' f' hn q'=>?_
  exact ⟨m,hn,fun h' sb=>⟨.ref acc,HY,I'.turned (t':=s'.toks) (fun b o hb e=>(sb.2 b hb).trans e) f'.1 f'.2.1 f'.2.2.2.1 f'.2.2.2.2.1 f'.2.2.2.2.2,rfl,q'⟩⟩
theorem ps_setlc {i:Nat} {x:Str} {px spos:Pos} (hN:X.N.Nodup) (hix:X.N[i]?=some x) (hx:Loc X.env.scope x) (hcalm:X.calm=true) (hkind:scope.kind=.function) (hcell:∀ y ∈ scope.names,y.2 ≠ .cell) (hfr:frChk scope.names X.env.scope.names X.N N' fr=true)
    (hfree:∀ y ∈ scope.names,y.2=.free→X.env.scope.names.lookup y.1=some .cell) (hnames:∀ x ∈ scope.names,x.2=.local→scope.names.lookup x.1=some .local) (hi:PI X tg iter wi)
    (hY:∀ b:BP,PG (blk X scope N' b) tg (g b)∧PIf (blk X scope N' b) ifs (tt b)∧PE (blk X scope N' b) elt (te b))
    (hsw:swapsWith (.ListComp elt [⟨tg,iter,ifs,0⟩] scope pos) (some (.Name x px)) spos.line X.env=pure true)
    (hs:∀ x,foldedSetIterable iter X.env x=pure x:=by intro _; rfl) (hf:X.fn x=true ∨ X.env.scope.names.lookup x=some .local:=by first | exact .inl rfl | exact .inr rfl | assumption) :
    PS X (.Assign [.Name x px] (.ListComp elt [⟨tg,iter,ifs,0⟩] scope pos) spos) (tAsg (tLc fr wi g tt te) (gName i)):=by
  intro pins s σ H D I h
  obtain ⟨cl,hclos,hcl1,hcl2⟩:=closure_of (env:=X.env) (scope:=scope) fun y hy hk=>I.ok.has y.1 (.inl (hfree y hy hk))
  rw [exec_Assign_Name_used _ _ _ _ hsw]
  refine wpAny_bind (wpAny_standAt (wpAny_bind ?_))
  show wpAny _ _ (do let _ ← comprehension (.ListComp elt [⟨tg,iter,ifs,0⟩] scope pos) scope X.env _ (newList []) false (eval iter X.env) (some (assign (.Name x px) X.env))) _ _ s
  refine wpAny_bind (wpAny_mono (wpAny_comprehension_free (use:=some (assign (.Name x px) X.env)) (Q:=fun _ s'=>SP X pins D .next s') rfl hs hclos hkind hnames
    (thn (hi pins s σ H _ I h) fun v s1 h1=>thn h1 fun itv s2 h2=>?_)) (fun _ s' hq=>wpAny_pure (wpAny_pure hq)) fun _ _ e=>e)
  obtain ⟨it,fp,tn,J,H2,rfl,I2,T,st2,f2,q⟩:=h2
  refine lc_block (RR:=fun acc C=>compPost (model X.prog X.w) X.A X.xe (some (assign (.Name x px) X.env)) (fun _ s'=>SP X pins D .next s') acc C) (Q:=fun x H1=>gName i x σ H1 D.nx) hcalm hkind hcell hfr hcl1 hcl2 hY I2 T st2 f2 q fun acc C s' HY m I' f' hn q'=>?_
  show wpAny _ _ (assign (.Name x px) X.env (.ref acc)) _ _ _
  refine wpAny_assign_Name (store_ok2 I' hN hix hx (v:=.ref acc) rfl (fun s2' I2' hch=>?_) hf)
  obtain ⟨a,sb,ha⟩:=hch
  have hCa:C ≠ a:=by
    rcases ha with z | z
    · rw [z]; exact f'.2.1
    · exact fun e=>f'.2.2.2.2.1 x a z e.symm
  exact ⟨m,hn.sameBut sb hCa,fun h' sb'=>⟨_,HY,I2'.turned (t':=s2'.toks) (fun b o hb e=>(sb'.2 b hb).trans e) f'.1 f'.2.1 f'.2.2.2.1 f'.2.2.2.2.1 f'.2.2.2.2.2,q'⟩⟩
end
end L2

set_option Elab.async false
set_option linter.all false
set_option maxRecDepth 100000
namespace L2
open PySem PySem.Spec PyProof.Rows
section
variable {prog:Program} {w:World} {A:Around} {E:Value→Shared→Prop} {h:Heap} {g:Array GenState} {d:Drawn} {t:Nat} {os:OsState} {a C:Addr} {ox:Obj} {od:Option Obj} {K:PySem.W.Frag}
structure XCls (K:PySem.W.Frag) (C:Addr):Prop where
  ga:PySem.W.findIn K (.ref C) "__getattribute__"=some (some (.builtin "BaseException.__getattribute__"))
  gt:PySem.W.findIn K (.ref C) "__getattr__"=some none
  cl:PySem.W.findIn K (.ref C) "__class__"=some (some (.builtin "object.__class__"))
  ob:PySem.W.mroIn K C (.type "object")=some true
  be:PySem.W.mroIn K C (.type "BaseException")=some true
def XOk (K:PySem.W.Frag) (C:Addr):Prop:=XCls K C∧∀ T ∈ ["int","str","list","tuple","bool"],PySem.W.kitOne K (.ref C) (.type T)=some false
theorem check_gaK {M:Model} {nameV:Value} {Q:Unit→Shared→Prop} (X:K.In h) (c:XCls K C) (I:PySem.W.InstAt h a ox C od) (hq:Q () ⟨h,g,d,t,os⟩):wpAny M A (checkBuiltinCall "BaseException.__getattribute__" ⟨[.ref a,nameV],[]⟩) Q E ⟨h,g,d,t,os⟩:=by
  have hk:builtinKind "BaseException.__getattribute__"=some .slot:=by decide +kernel
  have hsplit:splitId "BaseException.__getattribute__"=some ("BaseException","__getattribute__"):=by decide +kernel
  have ha:=F.args_bexc_ga (.ref a) nameV
  have L0:=I.type (M:=M)
  have L1:=PySem.W.looks_mroIn (M:=M) X c.be
  simp only [checkBuiltinCall,hk,hsplit]
  refine wpAny_bind ?_
  unfold isInstance
  refine wpAny_bind (L0.at (L1.at ?_))
  repeat (first | exact hq | wp_step)
theorem class_entryK {tk:Tok} {Q:Fin→Shared→Prop} (X:K.In h) (c:XCls K C) (I:PySem.W.InstAt h a ox C od) (hq:Q (.done (.ret (.ref C))) ⟨h,g,d,t,os⟩) :
    wpAny (model prog w) A (Builtin.«object.__getattribute__» ⟨[.ref a,.str "__class__" tk],[]⟩) Q E ⟨h,g,d,t,os⟩:=by
  have hT5:(⟨h,g,d,t,os⟩:Shared).TypeIs (.builtin "object.__class__") "getset_descriptor":=F.typeOf_object_class
  have f5:=F.typeOf_object_class
  have f6:=F.slot_gs_get.lookup
  have f7:=F.slot_gs_set.lookup
  have L0:=I.type (M:=model prog w)
  have L1:=PySem.W.looks_findIn (M:=model prog w) X c.cl
  repeat (any_goals (first | assumption | with_reducible refine L0.at ?_ | with_reducible refine L1.at ?_ | wp_step))
  refine PySem.W.class_get (s:=⟨h,g,d,t,os⟩) X I c.ob ?_
  repeat (any_goals (first | assumption | wp_step))
theorem class_callK {tk:Tok} {R:Result→Shared→Prop} (X:K.In h) (c:XCls K C) (I:PySem.W.InstAt h a ox C od) (hq:R (.ok (.ret (.ref C))) ⟨h,g,d,t,os⟩) :
    codeAny (model prog w) A (.call (.builtin "BaseException.__getattribute__") ⟨[.ref a,.str "__class__" tk],[]⟩) R ⟨h,g,d,t,os⟩ :=
  codeAny_call_builtin F.excAttr_ValueError.ga.plain F.entry_bexc_ga (check_gaK X c I (class_entryK X c I hq))
theorem class_byK {tk:Tok} {Q:Value→Shared→Prop} (X:K.In h) (c:XCls K C) (I:PySem.W.InstAt h a ox C od) (hq:Q (.ref C) ⟨h,g,d,t,os⟩):wpAny (model prog w) A (getAttrBy (.ref a) (.str "__class__" tk) false) Q E ⟨h,g,d,t,os⟩:=by
  have f3:=F.excAttr_ValueError.ga.bind (.ref a)
  have hx2:(Value.builtin "BaseException.__getattribute__" == Value.builtin "object.__getattribute__")=false:=by decide +kernel
  have hx1:(onTheHeap (Value.ref C) && Value.builtin "BaseException.__getattribute__" == Value.builtin "object.__getattribute__")=false:=by rw [hx2]; rfl
  have L0:=I.type (M:=model prog w)
  have L1:=PySem.W.looks_findIn (M:=model prog w) X c.ga
  have L2':=PySem.W.looks_findIn (M:=model prog w) X c.gt
  repeat (any_goals (first | assumption | with_reducible refine L0.at ?_ | with_reducible refine L1.at ?_ | with_reducible refine L2'.at ?_ | wp_step))
  refine class_callK X c I ?_
  repeat (any_goals (first | assumption | wp_step))
theorem class_attrK {Q:Option Value→Shared→Prop} (X:K.In h) (c:XCls K C) (I:PySem.W.InstAt h a ox C od) (hq:Q (some (.ref C)) ⟨h,g,d,t + 1,os⟩):wpAny (model prog w) A (getAttr? (.ref a) "__class__") Q E ⟨h,g,d,t,os⟩:=by
  unfold getAttr? getAttrBy?
  repeat (any_goals (first | assumption | with_reducible apply class_byK X c I | wp_step))
theorem kitx_exc (c:XCls K C):PySem.W.KitX K (.ref a) (.ref C) (fun h=>∃ ox od,PySem.W.InstAt h a ox C od) where
  ty:=fun _ _ _ ⟨_,_,I⟩=>I.type
  it:=fun _ _ X _=>by
    obtain ⟨cd,hc,_⟩:=Option.bind_eq_some_iff.mp c.ob
    unfold PySem.W.clsIn at hc
    split at hc
    · rename_i c' d' cd' sl' ho
      intro A' Q' E' s' k q
      unfold isType loadHead
      exact wpAny_bind (wpAny_loadPart (k _ _ (X _ _ ho)) (wpAny_pure q))
    · cases hc
  ne:=fun h tp dd its n sl X htp=>by
    obtain ⟨cd,hc,_⟩:=Option.bind_eq_some_iff.mp c.ob
    refine Bool.eq_false_iff.mpr fun q=>?_
    have e:C=tp:=Value.ref.inj (beq_iff_eq.mp q)
    subst e
    unfold PySem.W.clsIn at hc
    split at hc
    · rename_i c' d' cd' sl' ho
      have z:=(X _ _ ho).symm.trans htp
      cases z
    · cases hc
  ca:=fun {_ _ _ _ _ s} X ⟨_,_,I⟩ k=>by
    obtain ⟨hh,g,d,t,os⟩:=s
    exact class_attrK X c I k
end
end L2

set_option Elab.async false
set_option linter.all false
set_option maxRecDepth 100000
namespace L2
open PySem PySem.Spec PyProof.Rows
structure RoomH (k:Nat) (A:Around):Prop where
  dp:A.depth + 3 * k + 5 < recursionLimit
  un:A.units + 16 * k + 200 < cLine
  gd:A.guards=some []
theorem Room.h {k:Nat} {A:Around} (r:Room k A):RoomH k A:=⟨r.dp,r.un,r.gd⟩
theorem RoomH.mono {j k:Nat} {A:Around} (r:RoomH k A) (h:j≤k):RoomH j A:=⟨by have:=r.dp; omega,by have:=r.un; omega,r.gd⟩
theorem RoomH.deeper {k:Nat} {A:Around} (r:RoomH (k + 1) A) (env:Env):RoomH k (A.deeper env):=⟨by have:=r.dp; show A.depth + 1 + 3 * k + 5 < _; omega,by have:=r.un; show A.units + 3 + 16 * k + 200 < _; omega,r.gd⟩
theorem RoomH.depth {k:Nat} {A:Around} (r:RoomH k A):A.depth < recursionLimit:=by have:=r.dp; omega
section
variable {X:Cx} {CX:CXT} {k:Nat} {f C:Addr} {fd:FuncData} {ps:List Str} {sp:Sp} {dvs:List V} {ds:List Value} {E:XK} {x m:Str} {p pos apos:Pos} {e o:Expr} {es:List Expr} {ta:TE} {t:TA}
end
section
variable {P:Program} {w:World} {K:PySem.W.Frag} {mg:Str→Option Value} {base:Heap}
end
end L2

set_option Elab.async false
set_option linter.all false
set_option maxRecDepth 100000
namespace TL
open PySem PySem.Spec PyProof.Rows L2
abbrev D:=PySem.PyData
def numsAt (p:Addr) (h:Heap):Prop:=∃ (its:List Value) (n:Nat),h.get? p=some { cls:=.type "list",data:=.seq its.toArray n }∧its.length≤1000∧∀ v ∈ its,∃ (i:Int) (t:Tok),v=.int i t∧0≤i∧i < 4096
def excAt (p C:Addr) (dx:Option Addr) (h:Heap):Prop:=∃ o vs,h.get? p=some o∧o.cls=.ref C∧o.dict=dx∧o.data=.fields vs
def tapeAt (p q:Addr) (h:Heap):Prop:=∃ (a b c:Int) (ta tb tc:Tok) (n:Nat),h.get? p=some { cls:=.type "list",data:=.seq [Value.ref q,.int a ta,.int b tb,.int c tc].toArray n }∧0≤a∧(c=0 ∨ c=1)
mutual
inductive Rep (K:PySem.W.Frag) (H:Hp):D→V→Prop
  | none:Rep K H .none .non
  | bool (b:Bool):Rep K H (.bool b) (.bl b)
  | int (i:Int):Rep K H (.int i) (.int i)
  | str (x:Str):Rep K H (.str x) (.str x)
  | list {p:Addr} {xs:List V} {ts:List D}:SqL K H p xs→Reps K H ts xs→Rep K H (.list ts) (.ref p)
  | tuple {p:Addr} {xs:List V} {ts:List D}:SqT K H p xs→Reps K H ts xs→Rep K H (.tuple ts) (.ref p)
  | wild {p:Addr}:H p=some (.ext (numsAt p))→Rep K H (.dict []) (.ref p)
  | exc {p C:Addr}:XOk K C→H p=some (.ext (excAt p C Option.none))→Rep K H (.dict [(.int (C:Nat),.none)]) (.ref p)
  | excA {p C dx:Addr} {n:Int}:XOk K C→H p=some (.ext (excAt p C (some dx)))→H dx=some (.xd [("at",.int n)])→Rep K H (.dict [(.int (C:Nat),.int n)]) (.ref p)
  | tape {p q:Addr} {ns:List Int}:H p=some (.ext (tapeAt p q))→SqL K H q (ns.map V.int)→Rep K H (.dict [(.none,.list (ns.map PyData.int))]) (.ref p)
  | addr {p:Addr} (z:List D):Rep K H (.dict [(.str "@",.list (.int (p:Nat)::z))]) (.ref p)
inductive Reps (K:PySem.W.Frag) (H:Hp):List D→List V→Prop
  | nil:Reps K H [] []
  | cons {t:D} {ts:List D} {x:V} {xs:List V}:Rep K H t x→Reps K H ts xs→Reps K H (t::ts) (x::xs)
end
variable {K:PySem.W.Frag} {H H' H1 H2:Hp}
theorem Same.seqT {a:Addr} {xs:List V} (e:Same H H') (h:SqT K H a xs):SqT K H' a xs:=by
  rcases h with (h | ⟨o,h⟩) | h
  · exact .inl (.inl (e _ _ h))
  · exact .inl (.inr ⟨o,e _ _ h⟩)
  · exact .inr h
mutual
theorem Rep.same (e:Same H H'):∀ {d:D} {v:V},Rep K H d v→Rep K H' d v
  | _,_,.none=>.none
  | _,_,.bool b=>.bool b
  | _,_,.int i=>.int i
  | _,_,.str x=>.str x
  | _,_,.list q r=>.list (L2.Same.seq e q) (Reps.same e r)
  | _,_,.tuple q r=>.tuple (Same.seqT e q) (Reps.same e r)
  | _,_,.wild h=>.wild (e _ _ h)
  | _,_,.exc x h=>.exc x (e _ _ h)
  | _,_,.excA x h g=>.excA x (e _ _ h) (e _ _ g)
  | _,_,.tape h g=>.tape (e _ _ h) (L2.Same.seq e g)
  | _,_,.addr z=>.addr z
theorem Reps.same (e:Same H H'):∀ {ds:List D} {vs:List V},Reps K H ds vs→Reps K H' ds vs
  | _,_,.nil=>.nil
  | _,_,.cons r s=>.cons (Rep.same e r) (Reps.same e s)
end
theorem Reps.length:∀ {ds:List D} {vs:List V},Reps K H ds vs→ds.length=vs.length
  | _,_,.nil=>rfl
  | _,_,.cons _ s=>by simp [Reps.length s]
theorem Reps.get:∀ {ds:List D} {vs:List V} {i:Nat} {d:D},Reps K H ds vs→ds[i]?=some d→∃ v,vs[i]?=some v∧Rep K H d v
  | _,_,_,_,.nil,e=>by simp at e
  | _,_,0,_,.cons r _,e=>by simp at e; subst e; exact ⟨_,rfl,r⟩
  | _,_,i + 1,d,.cons _ s,e=>by
    obtain ⟨v,h1,h2⟩:=Reps.get (i:=i) (d:=d) s (by simpa using e)
    exact ⟨v,by simpa using h1,h2⟩
theorem Reps.get':∀ {ds:List D} {vs:List V} {i:Nat} {v:V},Reps K H ds vs→vs[i]?=some v→∃ d,ds[i]?=some d∧Rep K H d v
  | _,_,_,_,.nil,e=>by simp at e
  | _,_,0,_,.cons r _,e=>by simp at e; subst e; exact ⟨_,rfl,r⟩
  | _,_,i + 1,d,.cons _ s,e=>by
    obtain ⟨v,h1,h2⟩:=Reps.get' (i:=i) (v:=d) s (by simpa using e)
    exact ⟨v,by simpa using h1,h2⟩
theorem Reps.append:∀ {ds es:List D} {vs us:List V},Reps K H ds vs→Reps K H es us→Reps K H (ds++es) (vs++us)
  | _,_,_,_,.nil,s=>s
  | _,_,_,_,.cons r t,s=>.cons r (Reps.append t s)
theorem Reps.take:∀ {ds:List D} {vs:List V} (n:Nat),Reps K H ds vs→Reps K H (ds.take n) (vs.take n)
  | _,_,0,_=>.nil
  | _,_,_ + 1,.nil=>.nil
  | _,_,n + 1,.cons r t=>.cons r (Reps.take n t)
theorem Reps.drop:∀ {ds:List D} {vs:List V} (n:Nat),Reps K H ds vs→Reps K H (ds.drop n) (vs.drop n)
  | _,_,0,r=>r
  | _,_,_ + 1,.nil=>.nil
  | _,_,n + 1,.cons _ t=>Reps.drop n t
theorem Reps.reverse {ds:List D} {vs:List V} (r:Reps K H ds vs):Reps K H ds.reverse vs.reverse:=by
  induction ds generalizing vs with
  | nil=>cases r; exact .nil
  | cons d ds ih =>
    cases r with
    | cons r s =>
      rw [List.reverse_cons,List.reverse_cons]
      exact (ih s).append (.cons r .nil)

def mask (H:Hp) (ps:List Addr):Hp:=fun b=>if b ∈ ps then none else H b
theorem mask_same {ps:List Addr} (e:Same H H'):Same (mask H ps) (mask H' ps):=fun b o h=>by
  unfold mask at h ⊢
  by_cases hb:b ∈ ps
  · rw [if_pos hb] at h; cases h
  · rw [if_neg hb] at h ⊢; exact e b o h
theorem mask_sub {ps ps':List Addr} (h:∀ p ∈ ps',p ∈ ps):Same (mask H ps) (mask H ps'):=fun b o e=>by
  unfold mask at e ⊢
  by_cases hb:b ∈ ps
  · rw [if_pos hb] at e; cases e
  · rw [if_neg hb] at e
    rw [if_neg fun z=>hb (h b z)]
    exact e
theorem mask_le {ps:List Addr}:Same (mask H ps) H:=fun b o e=>by
  unfold mask at e
  by_cases hb:b ∈ ps
  · rw [if_pos hb] at e; cases e
  · rw [if_neg hb] at e; exact e
theorem mask_new {ps:List Addr} {p:Addr} {o:HO} (h:H p=none):mask (upd H p o) (p::ps)=mask H ps:=by
  funext b
  unfold mask
  by_cases hb:b=p
  · subst hb
    rw [if_pos (List.mem_cons_self ..),h]
    by_cases z:b ∈ ps <;> simp [z]
  · rw [upd_ne hb]
    by_cases z:b ∈ ps
    · rw [if_pos (List.mem_cons_of_mem _ z),if_pos z]
    · rw [if_neg (fun q=>(List.mem_cons.mp q).elim hb z),if_neg z]
theorem mask_upd {ps:List Addr} {p:Addr} {o:HO} (h:p ∈ ps):mask (upd H p o) ps=mask H ps:=by
  funext b
  unfold mask
  by_cases hb:b=p
  · subst hb; rw [if_pos h,if_pos h]
  · rw [upd_ne hb]
theorem same_new {p:Addr} {o:HO} (h:H p=none):Same H (upd H p o):=fun b u q=>by rw [upd_ne (ne_of_none q h)]; exact q
theorem mask_at {ps:List Addr} {p:Addr} {o:HO} (h:p ∉ ps) (e:H p=some o):mask H ps p=some o:=by
  unfold mask; rw [if_neg h]; exact e
theorem fresh_notin {ps:List Addr} {p:Addr} (live:∀ q ∈ ps,H q ≠ none) (h:H p=none):p ∉ ps:=fun z=>live p z h

inductive Sl where
  | un | val (d:D) | own (ts:List D)
structure Ok (K:PySem.W.Frag) (B:Hp) (p0:List Addr) (H:Hp) (ps:List Addr) (σT:List Sl) (σ:L2.St):Prop where
  base:Same B H
  sub:∀ p ∈ p0,p ∈ ps
  live:∀ p ∈ ps,H p ≠ none
  len:σT.length=σ.length
  val:∀ (i:Nat) (d:D),σT[i]?=some (.val d)→∃ v,σ[i]?=some (some v)∧Rep K (mask H ps) d v
  own:∀ (i:Nat) (ts:List D),σT[i]?=some (.own ts)→∃ p xs,σ[i]?=some (some (.ref p))∧p ∈ ps∧B p=none∧p ∉ p0∧H p=some (.lst xs)∧Reps K (mask H ps) ts xs
  dis:∀ (i j:Nat) (ts us:List D) (p:Addr),σT[i]?=some (.own ts)→σT[j]?=some (.own us)→σ[i]?=some (some (.ref p))→σ[j]?=some (some (.ref p))→i=j
variable {B:Hp} {p0 ps:List Addr} {σT:List Sl} {σ:L2.St}
theorem Ok.grow (o:Ok K B p0 H ps σT σ) (e:Same H H'):Ok K B p0 H' ps σT σ where
  base:=o.base.trans e
  sub:=o.sub
  live:=fun p hp z=>by
    cases q:H p with
    | none=>exact o.live p hp q
    | some u=>rw [e p u q] at z; cases z
  len:=o.len
  val:=fun i d h=>let ⟨v,h1,h2⟩:=o.val i d h; ⟨v,h1,h2.same (mask_same e)⟩
  own:=fun i ts h=>let ⟨p,xs,h1,h2,h3,h4,h5,h6⟩:=o.own i ts h; ⟨p,xs,h1,h2,h3,h4,e _ _ h5,h6.same (mask_same e)⟩
  dis:=o.dis
theorem Ok.set (o:Ok K B p0 H ps σT σ) {i:Nat} {d:D} {v:V} (r:Rep K (mask H ps) d v):Ok K B p0 H ps (σT.set i (.val d)) (σ.set i (some v)) where
  base:=o.base
  sub:=o.sub
  live:=o.live
  len:=by simpa using o.len
  val:=fun j d' h=>by
    by_cases e:i=j
    · subst e
      have hi:i < σT.length:=by
        have:=(List.getElem?_eq_some_iff.mp h).1
        simpa using this
      rw [List.getElem?_set_self hi] at h
      cases h
      exact ⟨v,by rw [List.getElem?_set_self (by rw [← o.len]; exact hi)],r⟩
    · rw [List.getElem?_set_ne e] at h ⊢
      exact o.val j d' h
  own:=fun j ts h=>by
    by_cases e:i=j
    · subst e
      have hi:i < σT.length:=by
        have:=(List.getElem?_eq_some_iff.mp h).1
        simpa using this
      rw [List.getElem?_set_self hi] at h
      cases h
    · rw [List.getElem?_set_ne e] at h ⊢
      exact o.own j ts h
  dis:=fun j k ts us p h1 h2 h3 h4=>by
    have ne:∀ {l:Nat} {ts:List D},(σT.set i (.val d))[l]?=some (.own ts)→i ≠ l:=fun {l ts} h e=>by
      subst e
      have hi:i < σT.length:=by
        have:=(List.getElem?_eq_some_iff.mp h).1
        simpa using this
      rw [List.getElem?_set_self hi] at h
      cases h
    have e1:=ne h1
    have e2:=ne h2
    rw [List.getElem?_set_ne e1] at h1 h3
    rw [List.getElem?_set_ne e2] at h2 h4
    exact o.dis j k ts us p h1 h2 h3 h4
theorem Ok.setOwn (o:Ok K B p0 H ps σT σ) {i:Nat} {ts:List D} {xs:List V} {p:Addr} (hp:H p=none) (r:Reps K (mask H ps) ts xs):Ok K B p0 (upd H p (.lst xs)) (p::ps) (σT.set i (.own ts)) (σ.set i (some (.ref p))):=by
  have hm:mask (upd H p (.lst xs)) (p::ps)=mask H ps:=mask_new hp
  have hps:p ∉ ps:=fresh_notin o.live hp
  have hn:∀ {l:Nat} {us:List D},i ≠ l→σT[l]?=some (.own us)→σ[l]? ≠ some (some (.ref p)):=fun {l us} _ h z=>by
    obtain ⟨q,_,h1,h2,_⟩:=o.own l us h
    rw [z] at h1
    cases h1
    exact hps h2
  refine ⟨o.base.trans (same_new hp),fun q hq=>List.mem_cons_of_mem _ (o.sub q hq),fun q hq=>?_,by simpa using o.len,fun j d h=>?_,fun j us h=>?_,fun j k us ws q h1 h2 h3 h4=>?_⟩
  · by_cases e:q=p
    · subst e; rw [upd_same]; simp
    · rw [upd_ne e]
      rcases List.mem_cons.mp hq with z | z
      · exact absurd z e
      · exact o.live q z
  · rw [hm]
    by_cases e:i=j
    · subst e
      have hi:i < σT.length:=by simpa using (List.getElem?_eq_some_iff.mp h).1
      rw [List.getElem?_set_self hi] at h
      cases h
    · rw [List.getElem?_set_ne e] at h ⊢
      exact o.val j d h
  · rw [hm]
    by_cases e:i=j
    · subst e
      have hi:i < σT.length:=by simpa using (List.getElem?_eq_some_iff.mp h).1
      rw [List.getElem?_set_self hi] at h
      cases h
      refine ⟨p,xs,by rw [List.getElem?_set_self (by rw [← o.len]; exact hi)],List.mem_cons_self ..,?_,fun z=>hps (o.sub p z),upd_same,r⟩
      cases q:B p with
      | none=>rfl
      | some u=>rw [o.base p u q] at hp; cases hp
    · rw [List.getElem?_set_ne e] at h ⊢
      obtain ⟨q,ys,h1,h2,h3,h4,h5,h6⟩:=o.own j us h
      refine ⟨q,ys,h1,List.mem_cons_of_mem _ h2,h3,h4,?_,h6⟩
      rw [upd_ne (fun z:q=p=>hps (z ▸ h2))]
      exact h5
  · by_cases e1:i=j
    · by_cases e2:i=k
      · exact e1.symm.trans e2
      · subst e1
        have hi:i < σT.length:=by simpa using (List.getElem?_eq_some_iff.mp h1).1
        rw [List.getElem?_set_self (by rw [← o.len]; exact hi)] at h3
        cases h3
        rw [List.getElem?_set_ne e2] at h2 h4
        exact absurd h4 (hn e2 h2)
    · by_cases e2:i=k
      · subst e2
        have hi:i < σT.length:=by simpa using (List.getElem?_eq_some_iff.mp h2).1
        rw [List.getElem?_set_self (by rw [← o.len]; exact hi)] at h4
        cases h4
        rw [List.getElem?_set_ne e1] at h1 h3
        exact absurd h3 (hn e1 h1)
      · rw [List.getElem?_set_ne e1] at h1 h3
        rw [List.getElem?_set_ne e2] at h2 h4
        exact o.dis j k us ws q h1 h2 h3 h4
theorem Ok.write (o:Ok K B p0 H ps σT σ) {i:Nat} {ts us:List D} {ys:List V} {p:Addr} (hi:σT[i]?=some (.own ts)) (hσ:σ[i]?=some (some (.ref p))) (r:Reps K (mask H ps) us ys) :
    Ok K B p0 (upd H p (.lst ys)) ps (σT.set i (.own us)) σ:=by
  obtain ⟨q,zs,h1,h2,h3,h4,h5,h6⟩:=o.own i ts hi
  rw [hσ] at h1
  cases h1
  have hm:mask (upd H p (.lst ys)) ps=mask H ps:=mask_upd h2
  have hil:i < σT.length:=(List.getElem?_eq_some_iff.mp hi).1
  refine ⟨fun b u e=>?_,o.sub,fun q hq=>?_,by simpa using o.len,fun j d h=>?_,fun j ws h=>?_,fun j k vs ws q k1 k2 k3 k4=>?_⟩
  · have ne:b ≠ p:=fun z=>by rw [z,h3] at e; cases e
    rw [upd_ne ne]; exact o.base b u e
  · by_cases e:q=p
    · subst e; rw [upd_same]; simp
    · rw [upd_ne e]; exact o.live q hq
  · rw [hm]
    by_cases e:i=j
    · subst e
      rw [List.getElem?_set_self hil] at h
      cases h
    · rw [List.getElem?_set_ne e] at h
      exact o.val j d h
  · rw [hm]
    by_cases e:i=j
    · subst e
      rw [List.getElem?_set_self hil] at h
      cases h
      exact ⟨p,ys,hσ,h2,h3,h4,upd_same,r⟩
    · rw [List.getElem?_set_ne e] at h
      obtain ⟨q,vs,k1,k2,k3,k4,k5,k6⟩:=o.own j ws h
      refine ⟨q,vs,k1,k2,k3,k4,?_,k6⟩
      rw [upd_ne (fun z:q=p=>e (o.dis i j ts ws p hi h hσ (z ▸ k1)))]
      exact k5
  · have back:∀ {l:Nat} {vs:List D},(σT.set i (.own us))[l]?=some (.own vs)→∃ vs',σT[l]?=some (.own vs'):=fun {l vs} h=>by
      by_cases e:i=l
      · subst e; exact ⟨ts,hi⟩
      · rw [List.getElem?_set_ne e] at h; exact ⟨vs,h⟩
    obtain ⟨vs',k1⟩:=back k1
    obtain ⟨ws',k2⟩:=back k2
    exact o.dis j k vs' ws' q k1 k2 k3 k4
theorem Ok.share (o:Ok K B p0 H ps σT σ) {i:Nat} {ts:List D} (hi:σT[i]?=some (.own ts)):∃ ps',Ok K B p0 H ps' (σT.set i (.val (.list ts))) σ∧Same (mask H ps) (mask H ps'):=by
  obtain ⟨p,xs,h1,h2,h3,h4,h5,h6⟩:=o.own i ts hi
  have hil:i < σT.length:=(List.getElem?_eq_some_iff.mp hi).1
  have hsub:Same (mask H ps) (mask H (ps.filter fun q=>decide (q ≠ p))):=mask_sub fun q hq=>(List.mem_filter.mp hq).1
  have hpn:p ∉ ps.filter fun q=>decide (q ≠ p):=fun z=>(of_decide_eq_true (List.mem_filter.mp z).2) rfl
  refine ⟨ps.filter fun q=>decide (q ≠ p),⟨o.base,fun q hq=>List.mem_filter.mpr ⟨o.sub q hq,decide_eq_true fun z=>h4 (z ▸ hq)⟩,fun q hq=>o.live q (List.mem_filter.mp hq).1,by simpa using o.len,fun j d h=>?_,fun j us h=>?_,fun j k us ws q k1 k2 k3 k4=>?_⟩,hsub⟩
  · by_cases e:i=j
    · subst e
      rw [List.getElem?_set_self hil] at h
      cases h
      exact ⟨_,h1,.list (SqL.of (mask_at hpn h5)) (h6.same hsub)⟩
    · rw [List.getElem?_set_ne e] at h
      obtain ⟨v,k1,k2⟩:=o.val j d h
      exact ⟨v,k1,k2.same hsub⟩
  · by_cases e:i=j
    · subst e
      rw [List.getElem?_set_self hil] at h
      cases h
    · rw [List.getElem?_set_ne e] at h
      obtain ⟨q,ys,k1,k2,k3,k4,k5,k6⟩:=o.own j us h
      exact ⟨q,ys,k1,List.mem_filter.mpr ⟨k2,decide_eq_true fun z=>e (o.dis i j ts us p hi h h1 (z ▸ k1))⟩,k3,k4,k5,k6.same hsub⟩
  · have back:∀ {l:Nat} {vs:List D},(σT.set i (.val (.list ts)))[l]?=some (.own vs)→σT[l]?=some (.own vs):=fun {l vs} h=>by
      by_cases e:i=l
      · subst e; rw [List.getElem?_set_self hil] at h; cases h
      · rw [List.getElem?_set_ne e] at h; exact h
    exact o.dis j k us ws q (back k1) (back k2) k3 k4

abbrev ET:=List Sl→(D→Prop)→Prop
abbrev TTt:=List Sl→(Bool→Prop)→Prop
abbrev AT:=List Sl→(List D→Prop)→Prop
def PEt (X:Cx) (e:Expr) (t:ET):Prop:=∃ te:TE,PE X e te∧∀ (B:Hp) (p0:List Addr) (H:Hp) (ps:List Addr) (σT:List Sl) (σ:L2.St) (Q:D→Prop) (QV:VK),Ok X.K B p0 H ps σT σ→t σT Q →
  (∀ d v H',Same H H'→Rep X.K (mask H' ps) d v→Q d→QV v H')→te σ H QV
def PTt (X:Cx) (e:Expr) (t:TTt):Prop:=∃ tt:TT,PT X e tt∧∀ (B:Hp) (p0:List Addr) (H:Hp) (ps:List Addr) (σT:List Sl) (σ:L2.St) (Q:Bool→Prop) (QV:Bool→Hp→Prop),Ok X.K B p0 H ps σT σ→t σT Q →
  (∀ b H',Same H H'→Q b→QV b H')→tt σ H QV
def PWt (X:Cx) (e:Expr) (t:TTt):Prop:=∃ tt:TT,PW X e tt∧∀ (B:Hp) (p0:List Addr) (H:Hp) (ps:List Addr) (σT:List Sl) (σ:L2.St) (Q:Bool→Prop) (QV:Bool→Hp→Prop),Ok X.K B p0 H ps σT σ→t σT Q →
  (∀ b H',Same H H'→Q b→QV b H')→tt σ H QV
def PAt (X:Cx) (es:List Expr) (t:AT):Prop:=∃ ta:TA,PA X es ta∧∀ (B:Hp) (p0:List Addr) (H:Hp) (ps:List Addr) (σT:List Sl) (σ:L2.St) (Q:List D→Prop) (QV:List V→Hp→Prop),Ok X.K B p0 H ps σT σ→t σT Q →
  (∀ ds vs H',Same H H'→Reps X.K (mask H' ps) ds vs→Q ds→QV vs H')→ta σ H QV
structure EndsT where
  nx:List Sl→Prop
  rt:D→Prop
  bk:List Sl→Prop:=fun _=>False
  ct:List Sl→Prop:=fun _=>False
  ro:List D→Prop:=fun _=>False
  rp:List D→List D→Prop:=fun _ _=>False
  xB:Hp→Prop:=fun _=>True
abbrev STt:=EndsT→List Sl→Prop
structure Fits (K:PySem.W.Frag) (B:Hp) (p0:List Addr) (H:Hp) (ps:List Addr) (DT:EndsT) (DV:Ends):Prop where
  nx:∀ H' ps' σT' σ',Ok K B p0 H' ps' σT' σ'→Same (mask H ps) (mask H' ps')→DT.nx σT'→DV.nx σ' H'
  bk:∀ H' ps' σT' σ',Ok K B p0 H' ps' σT' σ'→Same (mask H ps) (mask H' ps')→DT.bk σT'→DV.bk σ' H'
  ct:∀ H' ps' σT' σ',Ok K B p0 H' ps' σT' σ'→Same (mask H ps) (mask H' ps')→DT.ct σT'→DV.ct σ' H'
  rt:∀ d v H',Same B H'→Rep K (mask H' p0) d v→DT.rt d→DV.rt v H'
  ro:∀ ts p xs H',Same B H'→B p=none→p ∉ p0→H' p=some (.lst xs)→Reps K (mask H' (p::p0)) ts xs→DT.ro ts→DV.rt (.ref p) H'
  rp:∀ as bs r p q xs ys H',Same B H'→B r=none→B p=none→B q=none→p ≠ q→H' r=some (.tup [.ref p,.ref q])→H' p=some (.lst xs)→H' q=some (.lst ys)→Reps K (mask H' (p::q::p0)) as xs→Reps K (mask H' (p::q::p0)) bs ys→DT.rp as bs→DV.rt (.ref r) H'
  xb:DT.xB B
theorem Fits.later {DT:EndsT} {DV:Ends} {ps':List Addr} (f:Fits K B p0 H ps DT DV) (e:Same (mask H ps) (mask H' ps')):Fits K B p0 H' ps' DT DV :=
  ⟨fun _ _ _ _ o s q=>f.nx _ _ _ _ o (e.trans s) q,fun _ _ _ _ o s q=>f.bk _ _ _ _ o (e.trans s) q,fun _ _ _ _ o s q=>f.ct _ _ _ _ o (e.trans s) q,f.rt,f.ro,f.rp,f.xb⟩
def PSt (X:Cx) (st:Stmt) (t:STt):Prop:=∃ ts:TS,PS X st ts∧∀ (B:Hp) (p0:List Addr) (H:Hp) (ps:List Addr) (σT:List Sl) (σ:L2.St) (DT:EndsT) (DV:Ends),Ok X.K B p0 H ps σT σ→t DT σT→Fits X.K B p0 H ps DT DV→ts DV σ H
def PSst (X:Cx) (st:List Stmt) (t:STt):Prop:=∃ ts:TS,PSs X st ts∧∀ (B:Hp) (p0:List Addr) (H:Hp) (ps:List Addr) (σT:List Sl) (σ:L2.St) (DT:EndsT) (DV:Ends),Ok X.K B p0 H ps σT σ→t DT σT→Fits X.K B p0 H ps DT DV→ts DV σ H
def Op2 (X:Cx) (r:R2) (f:D→D→(D→Prop)→Prop):Prop:=∀ (H:Hp) (ps:List Addr) (d1 d2:D) (x y:V) (Q:D→Prop) (QV:VK),(∀ p ∈ ps,H p ≠ none)→Rep X.K (mask H ps) d1 x→Rep X.K (mask H ps) d2 y→f d1 d2 Q →
  (∀ d v H',Same H H'→Rep X.K (mask H' ps) d v→Q d→QV v H')→r x y H QV
def CallT (X:Cx) (r:List V→Hp→VK→Prop) (f:List D→(D→Prop)→Prop):Prop:=∀ (H:Hp) (ps:List Addr) (ds:List D) (xs:List V) (Q:D→Prop) (QV:VK),(∀ p ∈ ps,H p ≠ none)→Reps X.K (mask H ps) ds xs→f ds Q →
  (∀ d v H',Same H H'→Rep X.K (mask H' ps) d v→Q d→QV v H')→r xs H QV
section
variable {X:Cx} {a b e:Expr} {es:List Expr} {ta tb te:ET} {pos:Pos}

inductive VarAt (σ:List Sl) (i:Nat) (Q:D→Prop):Prop
  | mk (d:D) (h:σ[i]?=some (.val d)) (k:Q d):VarAt σ i Q
theorem VarAt_iff {σ:List Sl} {i:Nat} {Q:D→Prop}:VarAt σ i Q ↔ ∃ d,σ[i]?=some (.val d)∧Q d:=⟨fun ⟨d,h,k⟩=>⟨d,h,k⟩,fun ⟨d,h,k⟩=>⟨d,h,k⟩⟩
def eVar (i:Nat):ET:=fun σ Q=>VarAt σ i Q
def eC (d:D):ET:=fun _ Q=>Q d
theorem et_v (i:Nat) {x:Str} {pos:Pos} (hN:X.N[i]?=some x:=by rfl) (hv:Vis X.env.scope x:=by first | exact Or.inl rfl | exact Or.inr (Or.inl rfl) | exact Or.inr (Or.inr rfl)) (hd:(x == ("__debug__":Str))=false:=by decide)
    (hcd:(x == ("__classdict__":Str))=false:=by decide):PEt X (.Name x pos) (eVar i) :=
  ⟨_,pe_var hN hv hd hcd,fun B p0 H ps σT σ Q QV o h k=>by
    obtain ⟨d,e,q⟩:=h
    obtain ⟨v,e1,r⟩:=o.val i d e
    exact ⟨v,e1,k d v H (L2.Same.refl H) r q⟩⟩
theorem et_int {i j pos}:PEt X (.Constant (.int i) j pos) (eC (.int i)):=⟨_,pe_int,fun _ _ H _ _ _ _ _ _ h k=>k _ _ H (L2.Same.refl H) (.int i) h⟩
theorem et_bl {b j pos}:PEt X (.Constant (.bool b) j pos) (eC (.bool b)):=⟨_,pe_bl,fun _ _ H _ _ _ _ _ _ h k=>k _ _ H (L2.Same.refl H) (.bool b) h⟩
theorem et_non {j pos}:PEt X (.Constant .none j pos) (eC .none):=⟨_,pe_non,fun _ _ H _ _ _ _ _ _ h k=>k _ _ H (L2.Same.refl H) .none h⟩
theorem et_str {x j pos}:PEt X (.Constant (.str x) j pos) (eC (.str x)):=⟨_,pe_str,fun _ _ H _ _ _ _ _ _ h k=>k _ _ H (L2.Same.refl H) (.str x) h⟩
def eOp (f:D→D→(D→Prop)→Prop) (ta tb:ET):ET:=fun σ Q=>ta σ fun x=>tb σ fun y=>f x y Q
theorem op_read {r:R2} {f:D→D→(D→Prop)→Prop} (h2:Op2 X r f) {va vb:TE}
    (ha:∀ (B:Hp) (p0:List Addr) (H:Hp) (ps:List Addr) (σT:List Sl) (σ:L2.St) (Q:D→Prop) (QV:VK),Ok X.K B p0 H ps σT σ→ta σT Q→(∀ d v H',Same H H'→Rep X.K (mask H' ps) d v→Q d→QV v H')→va σ H QV)
    (hb:∀ (B:Hp) (p0:List Addr) (H:Hp) (ps:List Addr) (σT:List Sl) (σ:L2.St) (Q:D→Prop) (QV:VK),Ok X.K B p0 H ps σT σ→tb σT Q→(∀ d v H',Same H H'→Rep X.K (mask H' ps) d v→Q d→QV v H')→vb σ H QV)
    (B:Hp) (p0:List Addr) (H:Hp) (ps:List Addr) (σT:List Sl) (σ:L2.St) (Q:D→Prop) (QV:VK) (o:Ok X.K B p0 H ps σT σ) (h:eOp f ta tb σT Q) (k:∀ d v H',Same H H'→Rep X.K (mask H' ps) d v→Q d→QV v H'):tOp r va vb σ H QV:=by
  refine ha B p0 H ps σT σ _ _ o h fun d1 x H1 s1 r1 q1=>?_
  refine hb B p0 H1 ps σT σ _ _ (o.grow s1) q1 fun d2 y H2 s2 r2 q2=>?_
  exact h2 H2 ps d1 d2 x y Q QV ((o.grow s1).grow s2).live (r1.same (mask_same s2)) r2 q2 fun d v H' s' r' q'=>k d v H' (s1.trans (s2.trans s')) r' q'
theorem et_op {op:Operator} {r:R2} {f:D→D→(D→Prop)→Prop} (ho:OpR X (binaryOp op) r) (h2:Op2 X r f) (ha:PEt X a ta) (hb:PEt X b tb):PEt X (.BinOp a op b pos) (eOp f ta tb):=by
  obtain ⟨va,pa,ra⟩:=ha
  obtain ⟨vb,pb,rb⟩:=hb
  exact ⟨_,pe_op ho pa pb,op_read h2 ra rb⟩
theorem et_cmp {op:CmpOp} {r:R2} {f:D→D→(D→Prop)→Prop} (ho:OpR X (compareOp op) r) (h2:Op2 X r f) (ha:PEt X a ta) (hb:PEt X b tb) (hm:behindInMarks op b=false:=by first | exact nomark _ | rfl):PEt X (.Compare a [op] [b] pos) (eOp f ta tb):=by
  obtain ⟨va,pa,ra⟩:=ha
  obtain ⟨vb,pb,rb⟩:=hb
  exact ⟨_,pe_cmpR ho pa pb hm,op_read h2 ra rb⟩
theorem et_ix {r:R2} {f:D→D→(D→Prop)→Prop} (ho:IxR X r) (h2:Op2 X r f) (ha:PEt X a ta) (hb:PEt X b tb) (hs:PlainIx b:=by intro _ _; rfl):PEt X (.Subscript a b pos) (eOp f ta tb):=by
  obtain ⟨va,pa,ra⟩:=ha
  obtain ⟨vb,pb,rb⟩:=hb
  exact ⟨_,pe_ix ho pa pb hs,op_read h2 ra rb⟩
def eNeg (ta:ET):ET:=fun σ Q=>ta σ fun x=>match x with | .int i=>Q (.int (-i)) | _=>False
theorem et_neg (ha:PEt X a ta):PEt X (.UnaryOp .USub a pos) (eNeg ta):=by
  obtain ⟨va,pa,ra⟩:=ha
  refine ⟨_,pe_un un_neg pa,fun B p0 H ps σT σ Q QV o h k=>ra B p0 H ps σT σ _ _ o h fun d x H1 s1 r1 q1=>?_⟩
  cases r1 with
  | int i=>exact ⟨i,rfl,k _ _ H1 s1 (.int _) q1⟩
  | _=>exact q1.elim
def aNil:AT:=fun _ Q=>Q []
def aCons (t:ET) (r:AT):AT:=fun σ Q=>t σ fun x=>r σ fun xs=>Q (x::xs)
theorem at_nil:PAt X [] aNil:=⟨_,pa_nil,fun _ _ H _ _ _ _ _ _ h k=>k _ _ H (L2.Same.refl H) .nil h⟩
theorem at_cons {tr:AT} (ha:PEt X e te) (hr:PAt X es tr) (hs:starEach (e::es) X.env=(false,eval e X.env)::starEach es X.env:=by rfl):PAt X (e::es) (aCons te tr):=by
  obtain ⟨va,pa,ra⟩:=ha
  obtain ⟨vr,pr,rr⟩:=hr
  refine ⟨_,pa_cons pa pr hs,fun B p0 H ps σT σ Q QV o h k=>ra B p0 H ps σT σ _ _ o h fun d x H1 s1 r1 q1=>?_⟩
  refine rr B p0 H1 ps σT σ _ _ (o.grow s1) q1 fun ds xs H2 s2 r2 q2=>?_
  exact k _ _ H2 (s1.trans s2) (.cons (r1.same (mask_same s2)) r2) q2
def eTup (t:AT):ET:=fun σ Q=>t σ fun ds=>ds.length≤1000∧Q (.tuple ds)
def eLst (t:AT):ET:=fun σ Q=>t σ fun ds=>ds.length≤1000∧Q (.list ds)
theorem rep_tup {ps:List Addr} {p:Addr} {ds:List D} {xs:List V} (live:∀ q ∈ ps,H q ≠ none) (hp:H p=none) (r:Reps K (mask H ps) ds xs):Rep K (mask (upd H p (.tup xs)) ps) (.tuple ds) (.ref p) :=
  .tuple (SqT.of (mask_at (fresh_notin live hp) upd_same)) (r.same (mask_same (same_new hp)))
theorem rep_lst {ps:List Addr} {p:Addr} {ds:List D} {xs:List V} (live:∀ q ∈ ps,H q ≠ none) (hp:H p=none) (r:Reps K (mask H ps) ds xs):Rep K (mask (upd H p (.lst xs)) ps) (.list ds) (.ref p) :=
  .list (SqL.of (mask_at (fresh_notin live hp) upd_same)) (r.same (mask_same (same_new hp)))
theorem le_line {n:Nat} (h:n≤1000):n≤sizeLine:=Nat.le_of_lt (small1000 h)
theorem et_tup {x1} {t:AT} (h:PAt X es t):PEt X (.Tuple es x1 pos) (eTup t):=by
  obtain ⟨v,p,r⟩:=h
  refine ⟨_,pe_tup p,fun B p0 H ps σT σ Q QV o h k=>r B p0 H ps σT σ _ _ o h fun ds xs H1 s1 r1 q1=>⟨le_line (by rw [← r1.length]; exact q1.1),fun q hq=>?_⟩⟩
  exact k _ _ _ (s1.trans (same_new hq)) (rep_tup (o.grow s1).live hq r1) q1.2
theorem et_lst {t:AT} (h:PAt X es t):PEt X (.List es pos) (eLst t):=by
  obtain ⟨v,p,r⟩:=h
  refine ⟨_,pe_lst p,fun B p0 H ps σT σ Q QV o h k=>r B p0 H ps σT σ _ _ o h fun ds xs H1 s1 r1 q1=>⟨le_line (by rw [← r1.length]; exact q1.1),fun q hq=>?_⟩⟩
  exact k _ _ _ (s1.trans (same_new hq)) (rep_lst (o.grow s1).live hq r1) q1.2
def eCall (f:List D→(D→Prop)→Prop) (t:AT):ET:=fun σ Q=>t σ fun ds=>f ds Q
abbrev SpT:=List D→(D→Prop)→Prop
def liftSp (K:PySem.W.Frag) (sp:SpT):Sp:=fun vs H Q _=>∃ (ps:List Addr) (ds:List D) (QD:D→Prop),(∀ p ∈ ps,H p ≠ none)∧Reps K (mask H ps) ds vs∧sp ds QD∧∀ d v H',Same H H'→Rep K (mask H' ps) d v→QD d→Q v H'
theorem et_call {k:Nat} {f:Addr} {fd:FuncData} {pn:List Str} {sp:SpT} {x:Str} {p:Pos} {t:AT} (F:FnOk X.prog X.w X.K X.mg X.base CX0 k f fd pn (liftSp X.K sp)) (hm:X.mg x=some (.ref f)) (hk:PySem.W.keepIn X.K (.ref f)=true) (hb:Binds X.K fd pn [])
    (hr:Room k X.A) (ha:PAt X (e::es) t) (pc:∀ {ta:TA},PA X (e::es) ta→PE X (.Call (.Name x p) (e::es) [] pos) (tCall (liftSp X.K sp) [] E0 ta)):PEt X (.Call (.Name x p) (e::es) [] pos) (eCall sp t):=by
  obtain ⟨v,pa,ra⟩:=ha
  refine ⟨_,pc pa,fun B p0 H ps σT σ Q QV o h k=>ra B p0 H ps σT σ _ _ o h fun ds xs H1 s1 r1 q1=>?_⟩
  show liftSp X.K sp (xs++[]) H1 QV E0
  rw [List.append_nil]
  exact ⟨ps,ds,Q,(o.grow s1).live,r1,q1,fun d v H' s' r' q'=>k d v H' (s1.trans s') r' q'⟩
def cTest (t:ET):TTt:=fun σ Q=>t σ fun x=>match x with | .bool b=>Q b | _=>False
theorem tt_val (h:PEt X e te) (pt:∀ {t:TE},PE X e t→PT X e (tB t)):PTt X e (cTest te):=by
  obtain ⟨v,p,r⟩:=h
  refine ⟨_,pt p,fun B p0 H ps σT σ Q QV o h k=>r B p0 H ps σT σ _ _ o h fun d x H1 s1 r1 q1=>?_⟩
  cases r1 with
  | bool c=>exact ⟨c,rfl,k c H1 s1 q1⟩
  | _=>exact q1.elim
theorem tt_cmp {op:CmpOp} {r:R2} {f:D→D→(D→Prop)→Prop} (ho:OpR X (compareOp op) r) (h2:Op2 X r f) (ha:PEt X a ta) (hb:PEt X b tb) (hm:behindInMarks op b=false:=by first | exact nomark _ | rfl):PTt X (.Compare a [op] [b] pos) (cTest (eOp f ta tb)):=by
  obtain ⟨va,pa,ra⟩:=ha
  obtain ⟨vb,pb,rb⟩:=hb
  refine ⟨_,pt_cmpR ho pa pb hm,fun B p0 H ps σT σ Q QV o h k=>?_⟩
  refine op_read h2 ra rb B p0 H ps σT σ (fun x=>match x with | .bool b=>Q b | _=>False) _ o h fun d v H' s' r' q'=>?_
  cases r' with
  | bool c=>exact ⟨c,rfl,k c H' s' q'⟩
  | _=>exact q'.elim
def cNot (t:TTt):TTt:=fun σ Q=>t σ fun b=>Q (!b)
def cAnd (t u:TTt):TTt:=fun σ Q=>t σ fun b=>if b=true then u σ Q else Q false
def cOr (t u:TTt):TTt:=fun σ Q=>t σ fun b=>if b=true then Q true else u σ Q
variable {tA tB':TTt} {rest:List Expr}
theorem tt_not (h:PTt X a tA):PTt X (.UnaryOp .Not a pos) (cNot tA):=by
  obtain ⟨v,p,r⟩:=h
  exact ⟨_,pt_not p,fun B p0 H ps σT σ Q QV o h k=>r B p0 H ps σT σ _ _ o h fun b H' s' q'=>k _ H' s' q'⟩
theorem tw_pt (h:PWt X e tA):PTt X e tA:=by
  obtain ⟨v,p,r⟩:=h
  exact ⟨_,p.pt,r⟩
theorem tw_and1 (h:PTt X a tA):PWt X (.BoolOp .And [a] pos) tA:=by
  obtain ⟨v,p,r⟩:=h
  exact ⟨_,pw_and1 p,r⟩
theorem tw_or1 (h:PTt X a tA):PWt X (.BoolOp .Or [a] pos) tA:=by
  obtain ⟨v,p,r⟩:=h
  exact ⟨_,pw_or1 p,r⟩
theorem tw_and (ha:PTt X a tA) (hb:PWt X (.BoolOp .And (b::rest) pos) tB'):PWt X (.BoolOp .And (a::b::rest) pos) (cAnd tA tB'):=by
  obtain ⟨va,pa,ra⟩:=ha
  obtain ⟨vb,pb,rb⟩:=hb
  refine ⟨_,pw_and pa pb,fun B p0 H ps σT σ Q QV o h k=>ra B p0 H ps σT σ _ _ o h fun c H1 s1 q1=>?_⟩
  cases c with
  | true=>exact rb B p0 H1 ps σT σ Q _ (o.grow s1) q1 fun b H' s' q'=>k b H' (s1.trans s') q'
  | false=>exact k _ H1 s1 q1
theorem tw_or (ha:PTt X a tA) (hb:PWt X (.BoolOp .Or (b::rest) pos) tB'):PWt X (.BoolOp .Or (a::b::rest) pos) (cOr tA tB'):=by
  obtain ⟨va,pa,ra⟩:=ha
  obtain ⟨vb,pb,rb⟩:=hb
  refine ⟨_,pw_or pa pb,fun B p0 H ps σT σ Q QV o h k=>ra B p0 H ps σT σ _ _ o h fun c H1 s1 q1=>?_⟩
  cases c with
  | true=>exact k _ H1 s1 q1
  | false=>exact rb B p0 H1 ps σT σ Q _ (o.grow s1) q1 fun b H' s' q'=>k b H' (s1.trans s') q'
def eAnd (ta tb:ET):ET:=fun σ Q=>ta σ fun x=>match x with | .bool c=>if c=true then tb σ Q else Q (.bool false) | _=>False
def eOr (ta tb:ET):ET:=fun σ Q=>ta σ fun x=>match x with | .bool c=>if c=true then Q (.bool true) else tb σ Q | _=>False
theorem et_one {op} (h:PEt X a ta):PEt X (.BoolOp op [a] pos) ta:=by
  obtain ⟨v,p,r⟩:=h
  exact ⟨_,pe_one p,r⟩
theorem et_and (ha:PEt X a ta) (hb:PEt X (.BoolOp .And (b::rest) pos) tb):PEt X (.BoolOp .And (a::b::rest) pos) (eAnd ta tb):=by
  obtain ⟨va,pa,ra⟩:=ha
  obtain ⟨vb,pb,rb⟩:=hb
  refine ⟨_,pe_and pa pb,fun B p0 H ps σT σ Q QV o h k=>ra B p0 H ps σT σ _ _ o h fun d x H1 s1 r1 q1=>?_⟩
  cases r1 with
  | bool c =>
    refine ⟨c,rfl,?_⟩
    cases c with
    | true=>exact rb B p0 H1 ps σT σ Q _ (o.grow s1) q1 fun d v H' s' r' q'=>k d v H' (s1.trans s') r' q'
    | false=>exact k _ _ H1 s1 (.bool false) q1
  | _=>exact q1.elim
def eChain (f g:D→D→(D→Prop)→Prop) (ta tb tc:ET):ET:=fun σ Q=>ta σ fun x=>tb σ fun y=>f x y fun z=>match z with | .bool c=>if c=true then tc σ fun w=>g y w Q else Q (.bool false) | _=>False
end
end TL

set_option Elab.async false
set_option linter.all false
set_option maxRecDepth 100000
namespace TL
open PySem PySem.Spec PyProof.Rows L2
variable {K:PySem.W.Frag} {H H' H1 H2:Hp} {B:Hp} {p0 ps:List Addr} {σT:List Sl} {σ:L2.St}
section
variable {X:Cx} {a b c e:Expr} {es:List Expr} {ta tb tc te:ET} {pos:Pos}
abbrev OT:=List Sl→(Option Int→Prop)→Prop
def POt (X:Cx) (e:Option Expr) (t:OT):Prop:=∃ to:TO,PO X e to∧∀ (B:Hp) (p0:List Addr) (H:Hp) (ps:List Addr) (σT:List Sl) (σ:L2.St) (Q:Option Int→Prop) (QV:Option Int→Hp→Prop),Ok X.K B p0 H ps σT σ→t σT Q →
  (∀ i H',Same H H'→Q i→QV i H')→to σ H QV
def oNone:OT:=fun _ Q=>Q none
def oSome (t:ET):OT:=fun σ Q=>t σ fun x=>match x with | .int i=>Q (some i) | _=>False
theorem ot_none:POt X none oNone:=⟨_,po_none,fun _ _ H _ _ _ _ _ _ h k=>k _ H (L2.Same.refl H) h⟩
theorem ot_some (h:PEt X e te):POt X (some e) (oSome te):=by
  obtain ⟨v,p,r⟩:=h
  refine ⟨_,po_some p,fun B p0 H ps σT σ Q QV o h k=>r B p0 H ps σT σ _ _ o h fun d x H1 s1 r1 q1=>?_⟩
  cases r1 with
  | int i=>exact ⟨i,rfl,k _ H1 s1 q1⟩
  | _=>exact q1.elim
def SlT (X:Cx) (r:V→Option Int→Option Int→Hp→VK→Prop) (f:D→Option Int→Option Int→(D→Prop)→Prop):Prop:=∀ (H:Hp) (ps:List Addr) (d:D) (x:V) (lo hi:Option Int) (Q:D→Prop) (QV:VK),(∀ p ∈ ps,H p ≠ none)→Rep X.K (mask H ps) d x→f d lo hi Q →
  (∀ d v H',Same H H'→Rep X.K (mask H' ps) d v→Q d→QV v H')→r x lo hi H QV
def eSl (f:D→Option Int→Option Int→(D→Prop)→Prop) (t:ET) (tl th:OT):ET:=fun σ Q=>t σ fun x=>tl σ fun l=>th σ fun u=>f x l u Q
theorem et_slice {r:V→Option Int→Option Int→Hp→VK→Prop} {f:D→Option Int→Option Int→(D→Prop)→Prop} {lo hi:Option Expr} {tl th:OT} {p2:Pos} (hr:SlR X r) (h2:SlT X r f) (he:PEt X e te) (hl:POt X lo tl) (hu:POt X hi th) :
    PEt X (.Subscript e (.Slice lo hi none p2) pos) (eSl f te tl th):=by
  obtain ⟨ve,pe,re⟩:=he
  obtain ⟨vl,pl,rl⟩:=hl
  obtain ⟨vu,pu,ru⟩:=hu
  refine ⟨_,pe_slice hr pe pl pu,fun B p0 H ps σT σ Q QV o h k=>re B p0 H ps σT σ _ _ o h fun d x H1 s1 r1 q1=>?_⟩
  refine rl B p0 H1 ps σT σ _ _ (o.grow s1) q1 fun l H2 s2 q2=>?_
  refine ru B p0 H2 ps σT σ _ _ ((o.grow s1).grow s2) q2 fun u H3 s3 q3=>?_
  exact h2 H3 ps d x l u Q QV (((o.grow s1).grow s2).grow s3).live ((r1.same (mask_same s2)).same (mask_same s3)) q3 fun d v H' s' r' q'=>k d v H' (s1.trans (s2.trans (s3.trans s'))) r' q'

variable {st:Stmt} {rest:List Stmt} {t u:STt}
def sNext:STt:=fun DT σ=>DT.nx σ
def sSeq (t u:STt):STt:=fun DT σ=>t { DT with nx:=u DT } σ
theorem st_nil:PSst X [] sNext:=⟨_,pss_nil,fun B p0 H ps σT σ DT DV o h f=>f.nx H ps σT σ o (L2.Same.refl _) h⟩
theorem st_cons (h1:PSt X st t) (h2:PSst X rest u):PSst X (st::rest) (sSeq t u):=by
  obtain ⟨v1,p1,r1⟩:=h1
  obtain ⟨v2,p2,r2⟩:=h2
  refine ⟨_,pss_cons p1 p2,fun B p0 H ps σT σ DT DV o h f=>r1 B p0 H ps σT σ { DT with nx:=u DT } { DV with nx:=v2 DV } o h ⟨fun H' ps' σT' σ' o' s' q'=>?_,f.bk,f.ct,f.rt,f.ro,f.rp,f.xb⟩⟩
  exact r2 B p0 H' ps' σT' σ' DT DV o' q' (f.later s')
theorem st_one (h1:PSt X st t):PSst X [st] t:=by
  obtain ⟨v1,p1,r1⟩:=h1
  exact ⟨_,pss_one p1,r1⟩
def sShare (i:Nat) (t:STt):STt:=fun DT σ=>∃ ts,σ[i]?=some (.own ts)∧t DT (σ.set i (.val (.list ts)))
theorem st_share {sts:List Stmt} (i:Nat) (h:PSst X sts t):PSst X sts (sShare i t):=by
  obtain ⟨v,p,r⟩:=h
  refine ⟨_,p,fun B p0 H ps σT σ DT DV o h f=>?_⟩
  obtain ⟨ts,e,h⟩:=h
  obtain ⟨ps',o',s'⟩:=o.share e
  exact r B p0 H ps' _ σ DT DV o' h (f.later s')
def sRet (te:ET):STt:=fun DT σ=>te σ DT.rt
theorem st_ret (h:PEt X e te):PSt X (.Return (some e) pos) (sRet te):=by
  obtain ⟨v,p,r⟩:=h
  refine ⟨_,ps_ret p,fun B p0 H ps σT σ DT DV o h f=>r B p0 H ps σT σ _ _ o h fun d x H' s' r' q'=>?_⟩
  exact f.rt d x H' (o.base.trans s') (r'.same (mask_sub o.sub)) q'
def sIf (c:TTt) (t u:STt):STt:=fun DT σ=>c σ fun b=>if b=true then t DT σ else u DT σ
theorem st_if {c:Expr} {a b:List Stmt} {tc:TTt} (hc:PTt X c tc) (ha:PSst X a t) (hb:PSst X b u):PSt X (.If c a b pos) (sIf tc t u):=by
  obtain ⟨vc,pc,rc⟩:=hc
  obtain ⟨va,pa,ra⟩:=ha
  obtain ⟨vb,pb,rb⟩:=hb
  refine ⟨_,ps_if pc pa pb,fun B p0 H ps σT σ DT DV o h f=>rc B p0 H ps σT σ _ _ o h fun d H1 s1 q1=>?_⟩
  cases d with
  | true=>exact ra B p0 H1 ps σT σ DT DV (o.grow s1) q1 (f.later (mask_same s1))
  | false=>exact rb B p0 H1 ps σT σ DT DV (o.grow s1) q1 (f.later (mask_same s1))
def sSet (i:Nat) (te:ET):STt:=fun DT σ=>te σ fun d=>DT.nx (σ.set i (.val d))
theorem st_set {i:Nat} {x:Str} {pos':Pos} (h:PEt X e te) (ps':∀ {v:TE},PE X e v→PS X (.Assign [.Name x pos'] e pos) (tAsg v (gName i))):PSt X (.Assign [.Name x pos'] e pos) (sSet i te):=by
  obtain ⟨v,p,r⟩:=h
  refine ⟨_,ps' p,fun B p0 H ps σT σ DT DV o h f=>r B p0 H ps σT σ _ _ o h fun d x H' s' r' q'=>?_⟩
  exact f.nx H' ps _ _ ((o.grow s').set r') (mask_same s') q'
def sOwn (i:Nat) (t:AT):STt:=fun DT σ=>t σ fun ds=>ds.length≤1000∧DT.nx (σ.set i (.own ds))
theorem st_own {i:Nat} {x:Str} {pos' p2:Pos} {t:AT} (h:PAt X es t) (ps':∀ {v:TE},PE X (.List es p2) v→PS X (.Assign [.Name x pos'] (.List es p2) pos) (tAsg v (gName i))):PSt X (.Assign [.Name x pos'] (.List es p2) pos) (sOwn i t):=by
  obtain ⟨v,p,r⟩:=h
  refine ⟨_,ps' (pe_lst p),fun B p0 H ps σT σ DT DV o h f=>r B p0 H ps σT σ _ _ o h fun ds xs H1 s1 r1 q1=>⟨le_line (by rw [← r1.length]; exact q1.1),fun q hq=>?_⟩⟩
  exact f.nx _ (q::ps) _ _ ((o.grow s1).setOwn hq r1) ((mask_same s1).trans (by rw [mask_new hq]; exact L2.Same.refl _)) q1.2
def sApp (i:Nat) (te:ET):STt:=fun DT σ=>∃ ts,σ[i]?=some (.own ts)∧te σ fun d=>ts.length≤100000∧DT.nx (σ.set i (.own (ts++[d])))
theorem st_app {i:Nat} {n e:Expr} {te:ET} {ap cp:Pos} (hn:PE X n (tVar i)) (he:PEt X e te) (hs:starEach [e] X.env=(false,eval e X.env)::starEach [] X.env:=by rfl)
    (pb:∀ {ta:TA},PA X [e] ta→PS X (.Expr (.Call (.Attribute n "append" ap) [e] [] cp) pos) (tDrop (tBM X.K "list" rAppend (tVar i) ta))):PSt X (.Expr (.Call (.Attribute n "append" ap) [e] [] cp) pos) (sApp i te):=by
  obtain ⟨v,p,r⟩:=he
  refine ⟨_,pb (pa_cons p pa_nil hs),fun B p0 H ps σT σ DT DV o h f=>?_⟩
  obtain ⟨ts,e,h⟩:=h
  obtain ⟨q,xs,h1,h2,h3,h4,h5,h6⟩:=o.own i ts e
  refine ⟨.ref q,h1,.inl ⟨rfl,xs,SqL.of h5⟩,r B p0 H ps σT σ _ _ o h fun d x H1 s1 r1 q1=>?_⟩
  refine ⟨q,xs,x,rfl,rfl,s1 _ _ h5,?_,?_⟩
  · rw [← h6.length]
    have:sizeLine=2 ^ 24:=rfl
    omega
  · have o1:=o.grow s1
    have hr:Reps X.K (mask H1 ps) (ts++[d]) (xs++[x]):=(h6.same (mask_same s1)).append (.cons r1 .nil)
    exact f.nx _ ps _ σ (o1.write (ys:=xs++[x]) e h1 hr) ((mask_same s1).trans (by rw [mask_upd h2]; exact L2.Same.refl _)) q1.2

def signs (x:Str):List D:=x.cps.toList.map fun c=>.str ⟨#[c]⟩
def itemsOf:D→Option (List D)
  | .list ts=>some ts
  | .tuple ts=>some ts
  | .str x=>some (signs x)
  | _=>none
def noOwn (σ:List Sl):Prop:=∀ (i:Nat) (ts:List D),σ[i]? ≠ some (.own ts)
theorem noOwn_set {σ:List Sl} (h:noOwn σ) (i:Nat) (d:D):noOwn (σ.set i (.val d)):=fun j ts e=>by
  by_cases z:i=j
  · subst z
    have hi:i < σ.length:=by simpa using (List.getElem?_eq_some_iff.mp e).1
    rw [List.getElem?_set_self hi] at e; cases e
  · rw [List.getElem?_set_ne z] at e; exact h j ts e
abbrev GT:=D→List Sl→(List Sl→Prop)→Prop
def PGt (X:Cx) (tg:Expr) (g:GT):Prop:=∃ gv:TG,PG X tg gv∧∀ (B:Hp) (p0:List Addr) (H:Hp) (ps:List Addr) (σT:List Sl) (σ:L2.St) (d:D) (v:V) (Q:List Sl→Prop) (QV:L2.St→Hp→Prop),Ok X.K B p0 H ps σT σ→Rep X.K (mask H ps) d v→g d σT Q →
  (∀ σT' σ',Ok X.K B p0 H ps σT' σ'→(noOwn σT→noOwn σT')→Q σT'→QV σ' H)→gv v σ H QV
def gN (i:Nat):GT:=fun d σ Q=>Q (σ.set i (.val d))
theorem gt_name {i:Nat} {x:Str} {p:Pos} (h:PG X (.Name x p) (gName i)):PGt X (.Name x p) (gN i) :=
  ⟨_,h,fun B p0 H ps σT σ d v Q QV o r h k=>k _ _ (o.set r) (fun n=>noOwn_set n _ _) h⟩
def gP (i j:Nat):GT:=fun d σ Q=>∃ a b,d=.tuple [a,b]∧Q ((σ.set i (.val a)).set j (.val b))
theorem gt_pair {i j:Nat} {t:Expr} (h:PG X t (gTup X.K 2 (gCons (gName i) (gCons (gName j) gNil)))):PGt X t (gP i j) :=
  ⟨_,h,fun B p0 H ps σT σ d v Q QV o r h k=>by
    obtain ⟨a,b,rfl,h⟩:=h
    cases r with
    | @tuple p xs _ hq r =>
      cases r with
      | cons ra r =>
        cases r with
        | cons rb r =>
          cases r
          exact ⟨_,_,rfl,Same.seqT mask_le hq,rfl,_,_,rfl,_,_,rfl,rfl,k _ _ ((o.set ra).set rb) (fun n=>noOwn_set (noOwn_set n _ _) _ _) h⟩⟩
structure Runs (K:PySem.W.Frag) (Hs:Hp) (ts:List D) (J:It):Prop where
  stop:∀ (i:Nat) (H:Hp),Same Hs H→ts.length≤i→J.stop i H
  go:∀ (i:Nat) (H:Hp),Same Hs H→i < ts.length→J.go i H
  yld:∀ (i:Nat) (H:Hp) (ps:List Addr) (y:V) (H':Hp),(∀ p ∈ ps,H p ≠ none)→Same Hs (mask H ps)→i < ts.length→J.yld i H y H'→Same H H'∧∃ dx,ts[i]?=some dx∧Rep K (mask H' ps) dx y
abbrev IT:=List Sl→(List D→Prop)→Prop
def PIt (X:Cx) (tg iter:Expr) (t:IT):Prop:=∃ wi:TI,PI X tg iter wi∧∀ (B:Hp) (p0:List Addr) (H:Hp) (ps:List Addr) (σT:List Sl) (σ:L2.St) (Q:List D→Prop) (R:It→Hp→Prop),Ok X.K B p0 H ps σT σ→t σT Q →
  (∀ ts J H',Same H H'→Runs X.K (mask H' ps) ts J→Q ts→R J H')→wi σ H R
def iVal (te:ET):IT:=fun σ Q=>te σ fun d=>∃ ts,itemsOf d=some ts∧Q ts
theorem runs_of {x:V} {d:D} {ts:List D} {Hs:Hp} (r:Rep K Hs d x) (hi:itemsOf d=some ts) {R:It→Hp→Prop} (hs:Same Hs H1) (h:∀ J:It,Runs K Hs ts J→R J H1) :
    (∃ a,x=.ref a∧(∃ xs,SqL K H1 a xs)∧R (Itl K a) H1) ∨ (∃ a,x=.ref a∧(∃ xs,SqT K H1 a xs)∧R (Itt K a) H1) ∨ ∃ z,x=.str z∧R (Its z) H1:=by
  cases r with
  | @list p xs us q rs =>
    obtain rfl:us=ts:=Option.some.inj hi
    refine .inl ⟨p,rfl,⟨xs,L2.Same.seq hs q⟩,h _ ⟨fun i H e hl=>⟨xs,L2.Same.seq e q,by rw [← rs.length]; exact hl⟩,fun i H e hl=>?_,fun i H ps y H' _ e hl hy=>?_⟩⟩
    · obtain ⟨v,hv,_⟩:=rs.get (List.getElem?_eq_getElem hl)
      exact ⟨xs,v,L2.Same.seq e q,hv⟩
    · obtain ⟨rfl,hy⟩:=hy
      obtain ⟨dx,h1,h2⟩:=rs.get' (hy xs (L2.Same.seq (e.trans mask_le) q))
      exact ⟨L2.Same.refl _,dx,h1,h2.same e⟩
  | @tuple p xs us q rs =>
    obtain rfl:us=ts:=Option.some.inj hi
    refine .inr (.inl ⟨p,rfl,⟨xs,Same.seqT hs q⟩,h _ ⟨fun i H e hl=>⟨xs,Same.seqT e q,by rw [← rs.length]; exact hl⟩,fun i H e hl=>?_,fun i H ps y H' _ e hl hy=>?_⟩⟩)
    · obtain ⟨v,hv,_⟩:=rs.get (List.getElem?_eq_getElem hl)
      exact ⟨xs,v,Same.seqT e q,hv⟩
    · obtain ⟨rfl,hy⟩:=hy
      obtain ⟨dx,h1,h2⟩:=rs.get' (hy xs (Same.seqT (e.trans mask_le) q))
      exact ⟨L2.Same.refl _,dx,h1,h2.same e⟩
  | str z =>
    obtain rfl:signs z=ts:=Option.some.inj hi
    have hl:(signs z).length=z.cps.size:=by unfold signs; simp
    refine .inr (.inr ⟨z,rfl,h _ ⟨fun i H _ e=>by rw [hl] at e; exact e,fun i H _ e=>by rw [hl] at e; exact e,fun i H ps y H' _ _ e hy=>?_⟩⟩)
    obtain ⟨rfl,c,h2,rfl⟩:=hy
    refine ⟨L2.Same.refl _,.str ⟨#[c]⟩,?_,.str _⟩
    unfold signs
    rw [List.getElem?_map]
    have:z.cps.toList[i]?=some c:=by simpa using h2
    rw [this]; rfl
  | _=>cases hi
theorem it_val {tg:Expr} (he:PEt X e te):PIt X tg e (iVal te):=by
  obtain ⟨ve,pe,re⟩:=he
  refine ⟨_,pi_any pe,fun B p0 H ps σT σ Q R o h k=>re B p0 H ps σT σ _ _ o h fun d x H1 s1 r1 q1=>?_⟩
  obtain ⟨ts,hi,q⟩:=q1
  exact runs_of r1 hi mask_le fun J rj=>k ts J H1 s1 rj q
def intsTo (n:Nat):List D:=(List.range n).map fun (k:Nat)=>PyData.int (k:Int)
def iRange (t:AT):IT:=fun σ Q=>t σ fun ds=>∃ n:Int,ds=[.int n]∧-(2 ^ 62)≤n∧n < 2 ^ 62∧Q (intsTo n.toNat)
theorem it_range {tg e:Expr} {t:AT} {p p':Pos} (ha:PAt X [e] t) (pr:∀ {ta:TA},PA X [e] ta→PI X tg (.Call (.Name "range" p) [e] [] p') (iRng1 ta)):PIt X tg (.Call (.Name "range" p) [e] [] p') (iRange t):=by
  obtain ⟨va,pa,ra⟩:=ha
  refine ⟨_,pr pa,fun B p0 H ps σT σ Q R o h k=>ra B p0 H ps σT σ _ _ o h fun ds xs H1 s1 r1 q1=>?_⟩
  obtain ⟨n,rfl,h1,h2,q⟩:=q1
  cases r1 with
  | cons r1 r2 =>
    cases r2
    cases r1
    refine ⟨n,rfl,h1,h2,k (intsTo n.toNat) _ H1 s1 ?_ q⟩
    have hl:(intsTo n.toNat).length=n.toNat:=by unfold intsTo; simp
    refine ⟨fun i H _ e=>by rw [hl] at e; exact e,fun i H _ e=>by rw [hl] at e; exact e,fun i H ps y H' _ _ e hy=>?_⟩
    obtain ⟨rfl,rfl⟩:=hy
    have ei:(0:Int) + (i:Int)=(i:Int):=by omega
    rw [ei]
    rw [hl] at e
    refine ⟨L2.Same.refl _,.int i,?_,.int _⟩
    unfold intsTo
    rw [List.getElem?_map,List.getElem?_range e]; rfl
def sFor (ti:IT) (g:GT) (tb:STt):STt:=fun DT σ=>ti σ fun ts=>∃ P:Nat→List Sl→Prop,P 0 σ ∧
  (∀ (k:Nat) (x:D) (σ':List Sl),ts[k]?=some x→P k σ'→g x σ' fun σ2=>tb { DT with nx:=P (k + 1),ct:=P (k + 1),bk:=DT.nx } σ2)∧∀ σ',P ts.length σ'→DT.nx σ'
theorem st_for {tg iter:Expr} {body:List Stmt} {g:GT} {tb:STt} {ti:IT} (he:PIt X tg iter ti) (hg:PGt X tg g) (hb:PSst X body tb)
    (pf:∀ {wi:TI} {gv:TG} {bv:TS},PI X tg iter wi→PG X tg gv→PSs X body bv→PS X (.For tg iter body [] pos) (tFor wi gv bv)):PSt X (.For tg iter body [] pos) (sFor ti g tb):=by
  obtain ⟨ve,pe,re⟩:=he
  obtain ⟨gv,pg,rg⟩:=hg
  obtain ⟨vb,pb,rb⟩:=hb
  refine ⟨_,pf pe pg pb,fun B p0 H ps σT σ DT DV o h f=>re B p0 H ps σT σ _ _ o h fun ts J H1 s1 rj q1=>?_⟩
  obtain ⟨P,h0,hs,hd⟩:=q1
  refine ⟨fun i m σ' H'=>m=ts.length - i∧i≤ts.length∧∃ ps' σT',Ok X.K B p0 H' ps' σT' σ'∧Same (mask H1 ps) (mask H' ps')∧P i σT',⟨_,rfl,Nat.zero_le _,ps,σT,o.grow s1,L2.Same.refl _,h0⟩,?_⟩
  rintro i m σ' H' ⟨rfl,hle,ps',σT',o',s',p'⟩
  have sH:Same (mask H1 ps) H':=s'.trans mask_le
  have f':Fits X.K B p0 H' ps' DT DV:=f.later ((mask_same s1).trans s')
  by_cases hlt:i < ts.length
  · refine .inr ⟨rj.go i H' sH hlt,fun σ2 H2=>∃ ps2 σT2,Ok X.K B p0 H2 ps2 σT2 σ2∧Same (mask H1 ps) (mask H2 ps2)∧P (i + 1) σT2,fun σ2 H2 z=>⟨ts.length - (i + 1),by omega,rfl,hlt,z⟩,fun y H2 hy'=>?_⟩
    obtain ⟨s2,dx,hx,rx⟩:=rj.yld i H' ps' y H2 o'.live s' hlt hy'
    have f2:=f'.later (mask_same (ps:=ps') s2)
    have s'':Same (mask H1 ps) (mask H2 ps'):=s'.trans (mask_same s2)
    refine rg B p0 H2 ps' σT' σ' dx y _ _ (o'.grow s2) rx (hs i dx σT' hx p') fun σT3 σ3 o3 _ q3=>?_
    exact rb B p0 H2 ps' σT3 σ3 _ _ o3 q3 ⟨fun H4 ps4 σT4 σ4 o4 s4 q4=>⟨ps4,σT4,o4,s''.trans s4,q4⟩,fun H4 ps4 σT4 σ4 o4 s4 q4=>f2.nx H4 ps4 σT4 σ4 o4 s4 q4,fun H4 ps4 σT4 σ4 o4 s4 q4=>⟨ps4,σT4,o4,s''.trans s4,q4⟩,f2.rt,f2.ro,f2.rp,f2.xb⟩
  · obtain rfl:i=ts.length:=by omega
    exact .inl ⟨rj.stop _ H' sH (Nat.le_refl _),f'.nx H' ps' σT' σ' o' (L2.Same.refl _) (hd σT' p')⟩

def blkSl (σ:List Sl):Option Nat→Sl
  | none=>.un
  | some j=>match σ[j]? with | some (.val d)=>.val d | _=>.un
def inBlkT (fr:List (Option Nat)) (σ:List Sl):List Sl:=fr.map (blkSl σ)
theorem blkSl_val {σ:List Sl} {q:Option Nat} {d:D} (h:blkSl σ q=.val d):∃ j,q=some j∧σ[j]?=some (.val d):=by
  cases q with
  | none=>cases h
  | some j =>
    refine ⟨j,rfl,?_⟩
    unfold blkSl at h
    dsimp only at h
    split at h
    · next e=>cases h; exact e
    · cases h
theorem blkSl_own {σ:List Sl} {q:Option Nat} {ts:List D}:blkSl σ q ≠ .own ts:=fun h=>by
  cases q with
  | none=>cases h
  | some j =>
    unfold blkSl at h
    dsimp only at h
    split at h <;> cases h
theorem noOwn_blk (fr:List (Option Nat)) (σ:List Sl):noOwn (inBlkT fr σ):=fun i ts h=>by
  unfold inBlkT at h
  rw [List.getElem?_map] at h
  cases hf:fr[i]? with
  | none=>rw [hf] at h; cases h
  | some q =>
    rw [hf] at h
    exact blkSl_own (Option.some.inj h)
theorem Ok.blk (o:Ok K B p0 H ps σT σ) (fr:List (Option Nat)):Ok K B p0 H ps (inBlkT fr σT) (inBlk fr σ) where
  base:=o.base
  sub:=o.sub
  live:=o.live
  len:=by unfold inBlkT inBlk; simp
  val:=fun i d h=>by
    unfold inBlkT at h
    rw [List.getElem?_map] at h
    cases hf:fr[i]? with
    | none=>rw [hf] at h; cases h
    | some q =>
      rw [hf] at h
      obtain ⟨j,rfl,e⟩:=blkSl_val (Option.some.inj h)
      obtain ⟨v,h1,h2⟩:=o.val j d e
      refine ⟨v,?_,h2⟩
      unfold inBlk
      rw [List.getElem?_map,hf]
      simp [h1]
  own:=fun i ts h=>absurd h (noOwn_blk fr σT i ts)
  dis:=fun i j ts us p h=>absurd h (noOwn_blk fr σT i ts)
theorem Ok.adopt (o:Ok K B p0 H ps σT σ) {p:Addr} {u:HO} (hp:H p=none):Ok K B p0 (upd H p u) (p::ps) σT σ:=by
  have hm:mask (upd H p u) (p::ps)=mask H ps:=mask_new hp
  refine ⟨o.base.trans (same_new hp),fun q hq=>List.mem_cons_of_mem _ (o.sub q hq),fun q hq=>?_,o.len,fun i d h=>by rw [hm]; exact o.val i d h,fun i ts h=>?_,o.dis⟩
  · by_cases e:q=p
    · subst e; rw [upd_same]; simp
    · rw [upd_ne e]
      rcases List.mem_cons.mp hq with z | z
      · exact absurd z e
      · exact o.live q z
  · rw [hm]
    obtain ⟨q,xs,h1,h2,h3,h4,h5,h6⟩:=o.own i ts h
    exact ⟨q,xs,h1,List.mem_cons_of_mem _ h2,h3,h4,by rw [upd_ne fun z=>by rw [z,hp] at h5; cases h5]; exact h5,h6⟩
theorem Ok.aside (o:Ok K B p0 H ps σT σ) {q:Addr} {u:HO} (hp:q ∈ ps) (hB:B q=none) (hn:noOwn σT):Ok K B p0 (upd H q u) ps σT σ where
  base:=fun b w e=>by
    rw [upd_ne fun z=>by rw [z,hB] at e; cases e]
    exact o.base b w e
  sub:=o.sub
  live:=fun p hp'=>by
    by_cases e:p=q
    · subst e; rw [upd_same]; simp
    · rw [upd_ne e]; exact o.live p hp'
  len:=o.len
  val:=fun i d h=>by rw [mask_upd hp]; exact o.val i d h
  own:=fun i ts h=>absurd h (hn i ts)
  dis:=fun i j ts us p h=>absurd h (hn i ts)
def PIft (X:Cx) (ifs:List Expr) (t:TTt):Prop:=∃ tt:TT,PIf X ifs tt∧∀ (B:Hp) (p0:List Addr) (H:Hp) (ps:List Addr) (σT:List Sl) (σ:L2.St) (Q:Bool→Prop) (QV:Bool→Hp→Prop),Ok X.K B p0 H ps σT σ→t σT Q →
  (∀ b H',Same H H'→Q b→QV b H')→tt σ H QV
def cTrue:TTt:=fun _ Q=>Q true
theorem if_nil:PIft X [] cTrue:=⟨_,pif_nil,fun _ _ H _ _ _ _ _ _ h k=>k _ H (L2.Same.refl H) h⟩
theorem if_one {t:TTt} (h:PTt X e t):PIft X [e] t:=by
  obtain ⟨v,p,r⟩:=h
  exact ⟨_,pif_one p,r⟩
def eLc (fr:List (Option Nat)) (ti:IT) (g:GT) (tt:TTt) (te:ET):ET:=fun σ Q=>ti σ fun ts=>ts.length≤100000∧∃ P:Nat→List Sl→List D→Prop,P 0 (inBlkT fr σ) [] ∧
  (∀ (k:Nat) (x:D) (σ':List Sl) (ds:List D),ts[k]?=some x→P k σ' ds→g x σ' fun σ2=>tt σ2 fun b=>if b=true then te σ2 fun y=>P (k + 1) σ2 (ds++[y]) else P (k + 1) σ2 ds)∧∀ σ' ds,P ts.length σ' ds→Q (.list ds)
theorem lc_read {fr:List (Option Nat)} {ti:IT} {g:GT} {tt:TTt} {te:ET} {wi:TI} {gv:BP→TG} {vt:BP→TT} {ve:BP→TE}
    (ri:∀ (B:Hp) (p0:List Addr) (H:Hp) (ps:List Addr) (σT:List Sl) (σ:L2.St) (Q:List D→Prop) (R:It→Hp→Prop),Ok X.K B p0 H ps σT σ→ti σT Q→(∀ ts J H',Same H H'→Runs X.K (mask H' ps) ts J→Q ts→R J H')→wi σ H R)
    (rg:∀ (bp:BP) (B:Hp) (p0:List Addr) (H:Hp) (ps:List Addr) (σT:List Sl) (σ:L2.St) (d:D) (v:V) (Q:List Sl→Prop) (QV:L2.St→Hp→Prop),Ok X.K B p0 H ps σT σ→Rep X.K (mask H ps) d v→g d σT Q→(∀ σT' σ',Ok X.K B p0 H ps σT' σ'→(noOwn σT→noOwn σT')→Q σT'→QV σ' H)→gv bp v σ H QV)
    (rt:∀ (bp:BP) (B:Hp) (p0:List Addr) (H:Hp) (ps:List Addr) (σT:List Sl) (σ:L2.St) (Q:Bool→Prop) (QV:Bool→Hp→Prop),Ok X.K B p0 H ps σT σ→tt σT Q→(∀ b H',Same H H'→Q b→QV b H')→vt bp σ H QV)
    (re:∀ (bp:BP) (B:Hp) (p0:List Addr) (H:Hp) (ps:List Addr) (σT:List Sl) (σ:L2.St) (Q:D→Prop) (QV:VK),Ok X.K B p0 H ps σT σ→te σT Q→(∀ d v H',Same H H'→Rep X.K (mask H' ps) d v→Q d→QV v H')→ve bp σ H QV)
    (B:Hp) (p0:List Addr) (H:Hp) (ps:List Addr) (σT:List Sl) (σ:L2.St) (Q:D→Prop) (QV:VK) (o:Ok X.K B p0 H ps σT σ) (h:eLc fr ti g tt te σT Q) (k:∀ d v H',Same H H'→Rep X.K (mask H' ps) d v→Q d→QV v H'):tLc fr wi gv vt ve σ H QV:=by
  refine ri B p0 H ps σT σ _ _ o h fun ts J H1 s1 rj q1=>?_
  obtain ⟨hz,P,h0,hs,hd⟩:=q1
  intro bp acc hacc
  have hBacc:B acc=none:=by
    cases q:B acc with
    | none=>rfl
    | some u=>rw [(o.grow s1).base acc u q] at hacc; cases hacc
  have hnps:acc ∉ ps:=fresh_notin (o.grow s1).live hacc
  refine ⟨fun i m σ' H'=>m=ts.length - i∧i≤ts.length∧∃ σT' ds ys,Ok X.K B p0 H' (acc::ps) σT' σ'∧noOwn σT'∧H' acc=some (.lst ys)∧ds.length≤i∧Reps X.K (mask H' (acc::ps)) ds ys∧Same (mask H1 ps) (mask H' (acc::ps))∧Same H1 H'∧P i σT' ds,
    ⟨_,rfl,Nat.zero_le _,inBlkT fr σT,[],[],((o.grow s1).blk fr).adopt hacc,noOwn_blk fr σT,upd_same,Nat.le_refl _,.nil,by rw [mask_new hacc]; exact L2.Same.refl _,same_new hacc,h0⟩,?_⟩
  rintro i m σ' H' ⟨rfl,hle,σT',ds,ys,o',n',ha,hl,hr,s',sF,p'⟩
  have hL:sizeLine=2 ^ 24:=rfl
  by_cases hlt:i < ts.length
  · refine .inr ⟨rj.go i H' (s'.trans mask_le) hlt,fun y H2 hy=>?_⟩
    obtain ⟨s2,dx,hx,rx⟩:=rj.yld i H' (acc::ps) y H2 o'.live s' hlt hy
    refine rg bp B p0 H2 (acc::ps) σT' σ' dx y _ _ (o'.grow s2) rx (hs i dx σT' ds hx p') fun σT3 σ3 o3 n3 q3=>?_
    refine rt bp B p0 H2 (acc::ps) σT3 σ3 _ _ o3 q3 fun b H4 s4 q4=>?_
    have s24:=s2.trans s4
    cases b with
    | false =>
      exact ⟨ts.length - (i + 1),by omega,rfl,hlt,σT3,ds,ys,o3.grow s4,n3 n',s24 _ _ ha,by omega,hr.same (mask_same s24),s'.trans (mask_same s24),sF.trans s24,q4⟩
    | true =>
      refine re bp B p0 H4 (acc::ps) σT3 σ3 _ _ (o3.grow s4) q4 fun d v H5 s5 r5 q5=>?_
      have s25:=s24.trans s5
      have hm:mask (upd H5 acc (.lst (ys++[v]))) (acc::ps)=mask H5 (acc::ps):=mask_upd (List.mem_cons_self ..)
      refine ⟨ys,s25 _ _ ha,by rw [← hr.length]; omega,ts.length - (i + 1),by omega,rfl,hlt,σT3,ds++[d],ys++[v],((o3.grow s4).grow s5).aside (List.mem_cons_self ..) hBacc (n3 n'),n3 n',upd_same,by rw [List.length_append,List.length_singleton]; omega,?_,?_,?_,q5⟩
      · rw [hm]; exact (hr.same (mask_same s25)).append (.cons r5 .nil)
      · rw [hm]; exact s'.trans (mask_same s25)
      · intro b u e
        have ne:b ≠ acc:=fun z=>by rw [z,hacc] at e; cases e
        rw [upd_ne ne]; exact (sF.trans s25) b u e
  · obtain rfl:i=ts.length:=by omega
    refine .inl ⟨rj.stop _ H' (s'.trans mask_le) (Nat.le_refl _),k (.list ds) _ H' (s1.trans sF) (.list (SqL.of (mask_at hnps ha)) (hr.same (mask_sub fun p hp=>List.mem_cons_of_mem _ hp))) (hd σT' ds p')⟩
theorem lc_all {elt iter tg:Expr} {ifs:List Expr} {scope:Scope} {fr:List (Option Nat)} {N':List Str} {ti:IT} {g:GT} {tt:TTt} {te:ET} (hi:PIt X tg iter ti)
    (hY:∀ b:BP,PGt (blk X scope N' b) tg g∧PIft (blk X scope N' b) ifs tt∧PEt (blk X scope N' b) elt te) {M:(TE)→Prop}
    (fin:∀ {wi:TI} {gv:BP→TG} {vt:BP→TT} {ve:BP→TE},PI X tg iter wi→(∀ b:BP,PG (blk X scope N' b) tg (gv b)∧PIf (blk X scope N' b) ifs (vt b)∧PE (blk X scope N' b) elt (ve b))→M (tLc fr wi gv vt ve)) :
    ∃ v:TE,M v∧∀ (B:Hp) (p0:List Addr) (H:Hp) (ps:List Addr) (σT:List Sl) (σ:L2.St) (Q:D→Prop) (QV:VK),Ok X.K B p0 H ps σT σ→eLc fr ti g tt te σT Q →
      (∀ d v H',Same H H'→Rep X.K (mask H' ps) d v→Q d→QV v H')→v σ H QV:=by
  obtain ⟨wi,pi,ri⟩:=hi
  refine ⟨_,fin (gv:=fun b=>Classical.choose (hY b).1) (vt:=fun b=>Classical.choose (hY b).2.1) (ve:=fun b=>Classical.choose (hY b).2.2) pi fun b=>⟨(Classical.choose_spec (hY b).1).1,(Classical.choose_spec (hY b).2.1).1,(Classical.choose_spec (hY b).2.2).1⟩,?_⟩
  exact lc_read ri (fun b=>(Classical.choose_spec (hY b).1).2) (fun b=>(Classical.choose_spec (hY b).2.1).2) fun b=>(Classical.choose_spec (hY b).2.2).2
theorem et_lc {elt iter tg:Expr} {ifs:List Expr} {scope:Scope} {fr:List (Option Nat)} {N':List Str} {ti:IT} {g:GT} {tt:TTt} {te:ET} (hi:PIt X tg iter ti)
    (hY:∀ b:BP,PGt (blk X scope N' b) tg g∧PIft (blk X scope N' b) ifs tt∧PEt (blk X scope N' b) elt te)
    (pl:∀ {wi:TI} {gv:BP→TG} {vt:BP→TT} {ve:BP→TE},PI X tg iter wi→(∀ b:BP,PG (blk X scope N' b) tg (gv b)∧PIf (blk X scope N' b) ifs (vt b)∧PE (blk X scope N' b) elt (ve b))→PE X (.ListComp elt [⟨tg,iter,ifs,0⟩] scope pos) (tLc fr wi gv vt ve)) :
    PEt X (.ListComp elt [⟨tg,iter,ifs,0⟩] scope pos) (eLc fr ti g tt te):=lc_all hi hY pl
theorem st_setlc {i:Nat} {x:Str} {px spos:Pos} {elt iter tg:Expr} {ifs:List Expr} {scope:Scope} {fr:List (Option Nat)} {N':List Str} {ti:IT} {g:GT} {tt:TTt} {te:ET} (hi:PIt X tg iter ti)
    (hY:∀ b:BP,PGt (blk X scope N' b) tg g∧PIft (blk X scope N' b) ifs tt∧PEt (blk X scope N' b) elt te)
    (pl:∀ {wi:TI} {gv:BP→TG} {vt:BP→TT} {ve:BP→TE},PI X tg iter wi→(∀ b:BP,PG (blk X scope N' b) tg (gv b)∧PIf (blk X scope N' b) ifs (vt b)∧PE (blk X scope N' b) elt (ve b)) →
      PS X (.Assign [.Name x px] (.ListComp elt [⟨tg,iter,ifs,0⟩] scope pos) spos) (tAsg (tLc fr wi gv vt ve) (gName i))) :
    PSt X (.Assign [.Name x px] (.ListComp elt [⟨tg,iter,ifs,0⟩] scope pos) spos) (sSet i (eLc fr ti g tt te)):=by
  obtain ⟨v,p,r⟩:=lc_all (M:=fun v=>PS X (.Assign [.Name x px] (.ListComp elt [⟨tg,iter,ifs,0⟩] scope pos) spos) (tAsg v (gName i))) (fr:=fr) hi hY pl
  refine ⟨_,p,fun B p0 H ps σT σ DT DV o h f=>r B p0 H ps σT σ _ _ o h fun d x H' s' r' q'=>?_⟩
  exact f.nx H' ps _ _ ((o.grow s').set r') (mask_same s') q'

def startT (N:List Str) (ds:List D):List Sl:=ds.map Sl.val++List.replicate (N.length - ds.length) .un
theorem ok_start {N:List Str} {ds:List D} {vs:List V} (live:∀ p ∈ ps,H p ≠ none) (r:Reps K (mask H ps) ds vs):Ok K H ps H ps (startT N ds) (L2.start N vs):=by
  have hl:=r.length
  refine ⟨L2.Same.refl _,fun _ h=>h,live,?_,fun i d h=>?_,fun i ts h=>?_,fun i j ts us p h=>?_⟩
  · unfold startT L2.start; simp [hl]
  · unfold startT at h
    by_cases hi:i < ds.length
    · rw [List.getElem?_append_left (by simpa using hi),List.getElem?_map] at h
      cases hd:ds[i]? with
      | none=>rw [hd] at h; cases h
      | some d' =>
        rw [hd] at h
        cases h
        obtain ⟨v,h1,h2⟩:=r.get hd
        refine ⟨v,?_,h2⟩
        unfold L2.start
        rw [List.getElem?_append_left (by rw [List.length_map,← hl]; exact hi),List.getElem?_map,h1]; rfl
    · rw [List.getElem?_append_right (by simpa using hi),List.getElem?_replicate] at h
      split at h <;> cases h
  · unfold startT at h
    by_cases hi:i < ds.length
    · rw [List.getElem?_append_left (by simpa using hi),List.getElem?_map] at h
      cases hd:ds[i]? with
      | none=>rw [hd] at h; cases h
      | some d'=>rw [hd] at h; cases h
    · rw [List.getElem?_append_right (by simpa using hi),List.getElem?_replicate] at h
      split at h <;> cases h
  · unfold startT at h
    by_cases hi:i < ds.length
    · rw [List.getElem?_append_left (by simpa using hi),List.getElem?_map] at h
      cases hd:ds[i]? with
      | none=>rw [hd] at h; cases h
      | some d'=>rw [hd] at h; cases h
    · rw [List.getElem?_append_right (by simpa using hi),List.getElem?_replicate] at h
      split at h <;> cases h
theorem fnT {P:Program} {w:World} {mg:Str→Option Value} {base:Heap} {x qual:Str} {st:Stmt} {f:Addr} {fd:FuncData} {N pn:List Str} {k:Nat} {sp:SpT} (F:Fun K x qual st f fd) (S:FnScope N pn (defScope st)) (len:∀ ds Q,sp ds Q→ds.length=pn.length)
    (hbody:∀ (cdv:Value) (A:Around) (outer:List Env) (s:Shared) (H:Hp) (E:XK),Room k (A.deeper (envOfC qual (defScope st) s.heap.objs.size f cdv))→∀ (ds:List D) (Q:D→Prop),sp ds Q →
      ∃ t,PSst (cxOf CX0 P w K mg base N qual (defScope st) f cdv A outer s H E).nox (defBody st) t∧t { nx:=fun _=>Q .none,rt:=Q } (startT N ds)):FnOk P w K mg base CX0 (k + 1) f fd pn (liftSp K sp):=by
  refine F.ok S (fun vs H Q E h=>?_) fun cdv A outer s H vs Q E hr h=>?_
  · obtain ⟨ps,ds,QD,_,r,q,_⟩:=h
    rw [← r.length]; exact len ds QD q
  · obtain ⟨ps,ds,QD,live,r,q,k⟩:=h
    obtain ⟨t,⟨ts,p,rd⟩,h⟩:=hbody cdv A outer s H E hr ds QD q
    refine ⟨ts,p,rd H ps H ps _ _ _ _ (ok_start live r) h ⟨fun H' ps' σT' σ' o' s' q'=>?_,fun _ _ _ _ _ _ q'=>q'.elim,fun _ _ _ _ _ _ q'=>q'.elim,fun d v H' s' r' q'=>k d v H' s' r' q',fun _ _ _ _ _ _ _ _ _ q'=>q'.elim,fun _ _ _ _ _ _ _ _ _ _ _ _ _ _ _ _ _ _ q'=>q'.elim,True.intro⟩⟩
    exact k _ _ H' o'.base .none q'
end
end TL

set_option Elab.async false
set_option linter.all false
set_option maxRecDepth 100000
namespace HT
open PySem PySem.Spec PyProof.Rows
section
variable {prog:Program} {w:World} {A:Around} {E:Value→Shared→Prop} {s:Shared}
theorem getItem_tuple_all {t sl:Addr} {items:Array Value} {vl vu:Value} {lo hi:Option Int} {Q:Value→Shared→Prop} (ht:IsTup s.heap t items) (hs:s.heap.IsSliceOf sl vl vu .none) (pl:IsPart vl lo) (pu:IsPart vu hi)
    (hw:sIx items.size 0 lo=0∧sIx items.size items.size hi=items.size) (h:Q (.ref t) s):wpAny (model prog w) A (getItem (.ref t) (.ref sl)) Q E s:=by
  obtain ⟨os,hos,hcs,hds⟩:=id hs
  have hTs:s.TypeIs (.ref sl) "slice":=⟨os,hos,hcs⟩
  unfold getItem
  try with_reducible refine wpAny_holding ?_
  first | refine wpAny_bind (wpAny_pure ?_) | skip
  refine wpAny_bind (wpAny_sequenceKey ht.typeIs (by decide) ?_)
  refine wpAny_bind (wpAny_callSpecial?_slot (name:=Str.ofString "__getitem__") ht.typeIs PyProof.Rows.slot_tuple_getitem
    (wpAny_call_entry PyProof.Rows.slot_tuple_getitem ht.typeIs entry_tuple_getitem ?_ (args_tuple_getitem _ _)))
  show wpAny _ _ (Builtin.Tuple.tupleItemsOf (.ref t) >>= _) _ _ s
  refine wpAny_bind (tupleItemsOf_ ht ?_)
  refine wpAny_bind (wpAny_typeOf hTs ?_)
  rw [if_pos (by decide)]
  refine wpAny_bind (sliceApplied_gen hs pl pu ?_)
  have hyes:(((sIx items.size 0 lo:Nat):Int) == 0 && (1:Int) == 1 && (sIx items.size items.size hi - sIx items.size 0 lo) == items.size)=true:=by
    rw [hw.1,hw.2]; simp
  show wpAny _ _ (if (((sIx items.size 0 lo:Nat):Int) == 0 && (1:Int) == 1 && (sIx items.size items.size hi - sIx items.size 0 lo) == items.size)=true then _ else _) _ _ s
  rw [if_pos hyes]
  unfold Builtin.Tuple.tupleIsExact
  refine wpAny_bind (wpAny_bind (wpAny_typeOf ht.typeIs (wpAny_pure ?_)))
  rw [if_pos (by decide)]
  first
    | exact wpAny_bind (wpAny_rule (wpAny_bind (wpAny_pure (wpAny_pure ⟨_,rfl,wpAny_pure h⟩))))
    | exact wpAny_bind (wpAny_rule (wpAny_pure ⟨_,rfl,wpAny_pure h⟩))
    | exact wpAny_bind (wpAny_rule (wpAny_bind (wpAny_pure ⟨_,rfl,wpAny_pure h⟩)))
end
end HT

namespace L2
open PySem PySem.Spec PyProof.Rows
section
variable {X:Cx}
def rSlS:V→Option Int→Option Int→Hp→VK→Prop:=fun x lo hi H Q=>∃ z,x=.str z∧z.length≤sizeLine∧Q (.str (Txt.slice z lo hi)) H
theorem sl_str:SlR X rSlS:=by
  intro pins s σ H x v vl vu lo hi sl Q I rx hs pl pu h
  obtain ⟨z,rfl,hz,q⟩:=h
  obtain ⟨t,rfl⟩:=rx
  refine ⟨"str",_,PySem.F.slot_str_getitem.lookup,typeIs_str _ _ _,?_⟩
  have fin:∀ lo hi:Option Int,Q (.str (Txt.slice z lo hi)) H→(Txt.slice z lo hi).length≤sizeLine∧∀ (t':Tok) (k:Nat),EP X pins σ Q (.str (Txt.slice z lo hi) t') { s with toks:=k }:=fun lo hi q =>
    ⟨Nat.le_trans (Txt.slice_le z _ _) hz,fun t' k=>⟨.str _,H,I.tok k,⟨t',rfl⟩,q⟩⟩
  cases pl with
  | none =>
    cases pu with
    | none=>exact wpAny_getItem_str_slice (l:=none) (u:=none) (st:=none) hs rfl (post_val_or_str (fin none none q))
    | int j uj=>exact wpAny_getItem_str_slice (l:=none) (u:=some (j,uj)) (st:=none) hs rfl (post_val_or_str (fin none (some j) q))
  | int i ui =>
    cases pu with
    | none=>exact wpAny_getItem_str_slice (l:=some (i,ui)) (u:=none) (st:=none) hs rfl (post_val_or_str (fin (some i) none q))
    | int j uj=>exact wpAny_getItem_str_slice (l:=some (i,ui)) (u:=some (j,uj)) (st:=none) hs rfl (post_val_or_str (fin (some i) (some j) q))
def rSlT2 (K:PySem.W.Frag):V→Option Int→Option Int→Hp→VK→Prop:=fun x lo hi H Q=>∃ a xs,x=.ref a∧SqT K H a xs ∧
  ((HT.sIx xs.length 0 lo=0∧HT.sIx xs.length xs.length hi=xs.length)→Q (.ref a) H)∧(¬ (HT.sIx xs.length 0 lo=0∧HT.sIx xs.length xs.length hi=xs.length)→∀ p,H p=none→Q (.ref p) (upd H p (.tup (cutV xs lo hi))))
theorem sl_tup2:SlR X (rSlT2 X.K):=by
  intro pins s σ H x v vl vu lo hi sl Q I rx hs pl pu h
  obtain ⟨a,xs,rfl,hx,q1,q2⟩:=h
  by_cases hw:HT.sIx xs.length 0 lo=0∧HT.sIx xs.length xs.length hi=xs.length
  · cases rx
    obtain ⟨its,r,ht,hz⟩:=I.tuple hx
    have hlen:its.toArray.size=xs.length:=by rw [List.size_toArray]; exact r.length.symm
    exact ⟨"tuple",_,PyProof.Rows.slot_tuple_getitem.lookup,ht.typeIs,HT.getItem_tuple_all ht hs pl pu (by rw [hlen]; exact hw) ⟨.ref a,H,I,rfl,q1 hw⟩⟩
  · exact sl_tup pins s σ H (.ref a) v vl vu lo hi sl Q I rx hs pl pu ⟨a,xs,rfl,hx,hw,q2 hw⟩
def rSlAny (K:PySem.W.Frag):V→Option Int→Option Int→Hp→VK→Prop:=fun x lo hi H Q=>rSlL K x lo hi H Q ∨ rSlT2 K x lo hi H Q ∨ rSlS x lo hi H Q
theorem sl_any:SlR X (rSlAny X.K):=sl_list.or (sl_tup2.or sl_str)
def rCatT2 (K:PySem.W.Frag):R2:=fun x y H Q=>∃ a b xs ys,x=.ref a∧y=.ref b∧SqT K H a xs∧SqT K H b ys∧xs.length + ys.length≤sizeLine ∧
  (xs=[]→Q (.ref b) H)∧(xs ≠ []→ys=[]→Q (.ref a) H)∧(xs ≠ []→ys ≠ []→∀ p,H p=none→Q (.ref p) (upd H p (.tup (xs++ys))))
theorem op_catT2:OpR X (binaryOp .Add) (rCatT2 X.K):=by
  intro pins s σ H x y v u Q I rx ry h
  obtain ⟨a,b,xs,ys,rfl,rfl,ha,hb,hz,q0,q1,q2⟩:=h
  by_cases hx:xs=[]
  · cases rx
    cases ry
    obtain ⟨its,r1,p1,_⟩:=I.tuple ha
    obtain ⟨its2,r2,p2,_⟩:=I.tuple hb
    obtain ⟨⟨cls,dd,data,sl⟩,ho,hc,n,hd⟩:=id p1
    obtain ⟨⟨cls2,dd2,data2,sl2⟩,ho2,hc2,n2,hd2⟩:=id p2
    simp only at hc hd hc2 hd2
    subst hc hd hc2 hd2
    have he:its=[]:=r1.nil_iff.mpr hx
    exact concat_meets ⟨_,ho,rfl⟩ ⟨_,ho2,rfl⟩ noFill_tuple_add seq_tuple_add PySem.F.slot_tuple_add PySem.F.entry_tuple_add (PySem.F.args_tuple_add_2 _ _) (tuple_addW0 a b its.toArray its2.toArray n n2 dd dd2 sl sl2 (by simp [he])) ⟨ho,ho2,⟨.ref b,H,I,rfl,q0 hx⟩⟩
  · exact op_catT pins s σ H (.ref a) (.ref b) v u Q I rx ry ⟨a,b,xs,ys,rfl,rfl,ha,hb,hx,hz,q1 hx,q2 hx⟩
def rCatL (K:PySem.W.Frag):R2:=fun x y H Q=>∃ l b xs zs,x=.ref l∧y=.ref b∧SqL K H l xs∧SqL K H b zs∧xs.length + zs.length≤sizeLine∧∀ p,H p=none→Q (.ref p) (upd H p (.lst (xs++zs)))
theorem op_catL:OpR X (binaryOp .Add) (rCatL X.K):=by
  intro pins s σ H x y v u Q I rx ry h
  obtain ⟨l,b,xs,zs,rfl,rfl,ha,hb,hz,q⟩:=h
  cases rx
  cases ry
  obtain ⟨its,r1,⟨⟨cls,dd,data,sl⟩,n,ho,hc,hdd,hd⟩,_⟩:=I.list ha
  obtain ⟨its2,r2,⟨⟨cls2,dd2,data2,sl2⟩,n2,ho2,hc2,hdd2,hd2⟩,_⟩:=I.list hb
  simp only at hc hd hc2 hd2
  subst hc hd hc2 hd2
  have hz':its.toArray.size + its2.toArray.size≤sizeLine:=by rw [List.size_toArray,List.size_toArray,← r1.length,← r2.length]; exact hz
  refine concat_meets ⟨_,ho,rfl⟩ ⟨_,ho2,rfl⟩ noFill_list_add seq_list_add PySem.F.slot_list_add PySem.F.entry_list_add (PySem.F.args_list_add_2 _ _) (list_addW l b its.toArray its2.toArray n n2 dd dd2 sl sl2 hz') ⟨ho,ho2,?_⟩
  have ea:its.toArray++its2.toArray=(its++its2).toArray:=by simp
  rw [ea]
  exact ⟨.ref _,_,I.lnew (t':=s.toks) (r1.append r2) (by rw [List.length_append]; exact hz),rfl,q _ I.fresh⟩
def rAddAny (K:PySem.W.Frag):R2:=fun x y H Q=>(rI0 fun i j=>.int (i + j)) x y H Q ∨ (∃ i j,x=.str i∧y=.str j∧i.length + j.length≤sizeLine∧Q (.str (i++j)) H) ∨ rCatT2 K x y H Q ∨ rCatL K x y H Q
theorem op_addAny:OpR X (binaryOp .Add) (rAddAny X.K):=op_add.or (op_add_str.or (op_catT2.or op_catL))
def rMulAny:R2:=fun x y H Q=>(rI CMul fun i j=>.int (i * j)) x y H Q ∨ ∃ z n,x=.str z∧y=.int n∧z.length≤1000∧0≤n∧n≤1000∧Q (.str (Txt.mul z n)) H
theorem op_mul_str:OpR X (binaryOp .Mult) (fun x y H Q=>∃ z n,x=.str z∧y=.int n∧z.length≤1000∧0≤n∧n≤1000∧Q (.str (Txt.mul z n)) H):=by
  intro pins s σ H x y v u Q I rx ry h
  obtain ⟨z,n,rfl,rfl,hz,h0,h1,q⟩:=h
  obtain ⟨t,rfl⟩:=rx
  obtain ⟨t',rfl⟩:=ry
  refine SB.mul ⟨by simp; omega,fun a _=>?_,fun _ _=>?_⟩ fun t'' k=>⟨.str _,H,I.tok k,⟨t'',rfl⟩,q⟩
  · have hn:1≤n:=by omega
    have:(1000:Int)≤(2 ^ 63 - 1) / n:=by
      rw [Int.le_ediv_iff_mul_le (by omega)]
      omega
    omega
  · have:z.length * n.toNat≤1000 * 1000:=Nat.mul_le_mul hz (by omega)
    unfold Builtin.Str.tooLong
    have hL:sizeLine=2 ^ 24:=rfl
    simp only [decide_eq_false_iff_not]
    omega
theorem op_mulAny:OpR X (binaryOp .Mult) rMulAny:=op_mul.or op_mul_str
def rIsB:R2:=fun x y H Q=>∃ b,y=.bl b∧Q (.bl (decide (x=.bl b))) H
def rIsNotB:R2:=fun x y H Q=>∃ b,y=.bl b∧Q (.bl (!decide (x=.bl b))) H
theorem is_bl {x:V} {v:Value} {b:Bool} (r:RelV x v):plainIs v (.bool b)=true∧(v == Value.bool b)=decide (x=.bl b):=by
  cases x with
  | non=>cases r; exact ⟨rfl,rfl⟩
  | bl c=>cases r; cases b <;> cases c <;> exact ⟨rfl,rfl⟩
  | int _=>obtain ⟨t,rfl⟩:=r; exact ⟨rfl,rfl⟩
  | str _=>obtain ⟨t,rfl⟩:=r; exact ⟨rfl,rfl⟩
  | byt _=>obtain ⟨t,rfl⟩:=r; exact ⟨rfl,rfl⟩
  | flt _=>obtain ⟨t,rfl⟩:=r; exact ⟨rfl,rfl⟩
  | ref _=>cases r; exact ⟨rfl,rfl⟩
  | ty _=>cases r; exact ⟨rfl,rfl⟩
theorem op_isNotB:OpR X (compareOp .IsNot) rIsNotB:=by
  intro pins s σ H x y v u Q I rx ry h
  obtain ⟨b,rfl,q⟩:=h
  cases ry
  obtain ⟨h1,h2⟩:=is_bl (b:=b) rx
  refine wpAny_isNot_plain h1 ?_
  rw [h2]
  exact ⟨.bl _,H,I,rfl,q⟩
theorem op_isB:OpR X (compareOp .Is) rIsB:=by
  intro pins s σ H x y v u Q I rx ry h
  obtain ⟨b,rfl,q⟩:=h
  cases ry
  obtain ⟨h1,h2⟩:=is_bl (b:=b) rx
  refine wpAny_is_plain h1 ?_
  rw [h2]
  exact ⟨.bl _,H,I,rfl,q⟩
theorem strs_of:∀ {ys:List Str} {us:List Value},Vals (ys.map V.str) us→StrsAre us ys
  | [],_,r=>by rw [List.map_nil] at r; cases r; exact .nil
  | y::ys,us,r=>by
    rw [List.map_cons] at r
    cases r with
    | cons r1 r2 =>
      obtain ⟨t,rfl⟩:=r1
      exact .cons y t (strs_of r2)
theorem mt_join:MtR X "str.join" (fun x xs H Q=>∃ z p ys,x=.str z∧xs=[.ref p]∧SqL X.K H p (ys.map V.str)∧(ys.map (·.length)).sum + ys.length * z.length≤16777216∧Q (.str (Txt.join z ys)) H):=by
  intro pins s σ H x xs v us Q I rx r h
  obtain ⟨z,p,ys,rfl,rfl,hq,hz,q⟩:=h
  obtain ⟨t,rfl⟩:=rx
  obtain ⟨u,rfl,ru⟩:=vals1 r
  cases ru
  obtain ⟨its,rv,pl,_⟩:=I.list hq
  exact PyProof.Rows.join_list pl.isList (by simpa using strs_of rv) hz fun t' k=>⟨.str _,H,I.tok k,⟨t',rfl⟩,q⟩
def tyName (K:PySem.W.Frag) (H:Hp):V→String→Prop
  | .non,T=>T="NoneType"
  | .bl _,T=>T="bool"
  | .int _,T=>T="int"
  | .str _,T=>T="str"
  | .ref p,T=>(T="list"∧∃ xs,SqL K H p xs) ∨ (T="tuple"∧∃ xs,SqT K H p xs) ∨ (T="list"∧∃ P,H p=some (.ext P)∧∀ h:Heap,P h→∃ o,h.get? p=some o∧o.cls=.type "list")
  | _,_=>False
theorem isinst2 {pins:List (Addr × Obj)} {σ:L2.St} {H:Hp} {s:Shared} {A:Around} {E:Value→Shared→Prop} {Q:Value→Shared→Prop} {x:V} {u c:Value} {T:String} {b:Bool} (I:Inv X pins σ H s) (rx:RelV x u) (ty:tyName X.K H x T)
    (e:PySem.W.kitOne X.K (.type T) c=some b) (h:∀ tk,Q (.bool b) { s with toks:=tk }):wpAny (model X.prog X.w) A (call (.builtin "isinstance") [u,c]) Q E s:=by
  cases x with
  | non=>cases (show T="NoneType" from ty); exact isinst_ok I rx .non e h
  | bl y=>cases (show T="bool" from ty); exact isinst_ok I rx (.bl y) e h
  | int i=>cases (show T="int" from ty); exact isinst_ok I rx (.int i) e h
  | str y=>cases (show T="str" from ty); exact isinst_ok I rx (.str y) e h
  | ref p =>
    cases rx
    rcases ty with ⟨rfl,xs,hq⟩ | ⟨rfl,xs,hq⟩ | ⟨rfl,P,hq,hP⟩
    · obtain ⟨its,_,pl,_⟩:=I.list hq
      obtain ⟨o,n,ho,hc,_⟩:=pl
      exact PySem.W.kia_one PySem.W.kitx_list I.kIn ⟨o,ho,hc⟩ e (fun z=>nomatch z) h
    · obtain ⟨its,_,pl,_⟩:=I.tuple hq
      obtain ⟨o,ho,hc,_⟩:=pl
      exact PySem.W.kia_one PySem.W.kitx_tuple I.kIn ⟨o,ho,hc⟩ e (fun z=>nomatch z) h
    · obtain ⟨o,ho,hc⟩:=hP _ (I.hok p _ hq).1
      exact PySem.W.kia_one PySem.W.kitx_list I.kIn ⟨o,ho,hc⟩ e (fun z=>nomatch z) h
  | _=>exact False.elim ty
def rRepr (K:PySem.W.Frag) (R:Hp→PySem.PyData→V→Prop):List V→Hp→VK→Prop:=fun xs H Q=>∃ (x:V) (d:PySem.PyData),xs=[x]∧R H d x∧d.showable=true∧d.hasDict=false∧d.depth≤60∧d.shown.length≤sizeLine∧Q (.str d.shown) H
theorem call_repr {k:Nat} {R:Hp→PySem.PyData→V→Prop} (hr:Room k X.A)
    (hR:∀ {pins:List (Addr × Obj)} {σ:L2.St} {H:Hp} {s:Shared} {d:PySem.PyData} {x:V} {u:Value},Inv X pins σ H s→R H d x→RelV x u→∃ as,Reads s.heap u d as):CallR X (.builtin "repr") (rRepr X.K R):=by
  intro pins s σ H xs us Q I r h
  obtain ⟨x,d,rfl,rx,hs,hd,hdep,hz,q⟩:=h
  obtain ⟨u,rfl,ru⟩:=vals1 r
  obtain ⟨as,rd⟩:=hR I rx ru
  have hun:=hr.un
  cases rd with
  | none=>exact PySem.P.repr_of_none ⟨.str _,H,I.tok _,⟨_,rfl⟩,q⟩
  | bool b=>exact PySem.P.repr_of_bool ⟨.str _,H,I.tok _,⟨_,rfl⟩,q⟩
  | int i t=>exact PySem.P.repr_of_int (by simpa [PyData.showable] using hs) ⟨.str _,H,I.tok _,⟨_,rfl⟩,q⟩
  | str z t=>exact PySem.P.repr_of_str ⟨.str _,H,I.tok _,⟨_,rfl⟩,q⟩ hz
  | list h1 h2 h3 h4 =>
    exact repr_of_reads' (.list h1 h2 h3 h4) hs (fun z=>by rw [hd] at z; cases z) hr.gd (by omega) (fun _ _ e=>e) (fun h' u' tk hk=>⟨.str _,H,I.kept hk,⟨u',rfl⟩,q⟩) hz
  | tuple h1 h2 h3 h4 =>
    exact repr_of_reads' (.tuple h1 h2 h3 h4) hs (fun z=>by rw [hd] at z; cases z) hr.gd (by omega) (fun _ _ e=>e) (fun h' u' tk hk=>⟨.str _,H,I.kept hk,⟨u',rfl⟩,q⟩) hz
  | dict=>simp [PyData.hasDict] at hd
end
end L2

set_option Elab.async false
set_option linter.all false
set_option maxRecDepth 100000
namespace L2
open PySem PySem.Spec PyProof.Rows
def dstep (l:List Str) (y:Str):List Str:=if y ∈ l then l else l++[y]
def dd (ys:List Str):List Str:=ys.foldl dstep []
section
variable {prog:Program} {w:World} {A:Around}
end
section
variable {X:Cx}
end
end L2

set_option Elab.async false
set_option linter.all false
set_option maxRecDepth 100000
namespace TL
open PySem PySem.Spec PyProof.Rows L2
variable {K:PySem.W.Frag} {H H' H1 H2:Hp} {B:Hp} {p0 ps:List Addr} {σT:List Sl} {σ:L2.St}
section
variable {X:Cx} {a b c e:Expr} {es:List Expr} {ta tb tc te:ET} {pos p:Pos}
def fI (C:Int→Int→Prop) (g:Int→Int→Int):D→D→(D→Prop)→Prop
  | .int i,.int j,Q=>C i j∧Q (.int (g i j))
  | _,_,_=>False
def fI0 (g:Int→Int→Int):D→D→(D→Prop)→Prop
  | .int i,.int j,Q=>Q (.int (g i j))
  | _,_,_=>False
def fB0 (g:Int→Int→Bool):D→D→(D→Prop)→Prop
  | .int i,.int j,Q=>Q (.bool (g i j))
  | _,_,_=>False
theorem o_I {C:Int→Int→Prop} {g:Int→Int→Int}:Op2 X (rI C fun i j=>.int (g i j)) (fI C g):=by
  intro H ps d1 d2 x y Q QV live r1 r2 h k
  cases r1 with
  | int i =>
    cases r2 with
    | int j=>exact ⟨i,j,rfl,rfl,h.1,k _ _ H (L2.Same.refl H) (.int _) h.2⟩
    | _=>exact h.elim
  | _=>exact h.elim
theorem o_I0 {g:Int→Int→Int}:Op2 X (rI0 fun i j=>.int (g i j)) (fI0 g):=by
  intro H ps d1 d2 x y Q QV live r1 r2 h k
  cases r1 with
  | int i =>
    cases r2 with
    | int j=>exact ⟨i,j,rfl,rfl,k _ _ H (L2.Same.refl H) (.int _) h⟩
    | _=>exact h.elim
  | _=>exact h.elim
theorem o_B0 {g:Int→Int→Bool}:Op2 X (rI0 fun i j=>.bl (g i j)) (fB0 g):=by
  intro H ps d1 d2 x y Q QV live r1 r2 h k
  cases r1 with
  | int i =>
    cases r2 with
    | int j=>exact ⟨i,j,rfl,rfl,k _ _ H (L2.Same.refl H) (.bool _) h⟩
    | _=>exact h.elim
  | _=>exact h.elim
def fAdd:D→D→(D→Prop)→Prop
  | .int i,.int j,Q=>Q (.int (i + j))
  | .str x,.str y,Q=>x.length + y.length≤100000∧Q (.str (x++y))
  | .tuple x,.tuple y,Q=>x.length + y.length≤100000∧Q (.tuple (x++y))
  | .list x,.list y,Q=>x.length + y.length≤100000∧Q (.list (x++y))
  | _,_,_=>False
theorem line5 {n:Nat} (h:n≤100000):n≤sizeLine:=by have:sizeLine=2 ^ 24:=rfl; omega
theorem o_add:Op2 X (rAddAny X.K) fAdd:=by
  intro H ps d1 d2 x y Q QV live r1 r2 h k
  cases r1 with
  | int i =>
    cases r2 with
    | int j=>exact .inl ⟨i,j,rfl,rfl,k _ _ H (L2.Same.refl H) (.int _) h⟩
    | _=>exact h.elim
  | str i =>
    cases r2 with
    | str j=>exact .inr (.inl ⟨i,j,rfl,rfl,line5 h.1,k _ _ H (L2.Same.refl H) (.str _) h.2⟩)
    | _=>exact h.elim
  | tuple q1 s1 =>
    cases r2 with
    | tuple q2 s2 =>
      refine .inr (.inr (.inl ⟨_,_,_,_,rfl,rfl,Same.seqT mask_le q1,Same.seqT mask_le q2,line5 (by rw [← s1.length,← s2.length]; exact h.1),fun z=>?_,fun z1 z2=>?_,fun z1 z2 p hp=>?_⟩))
      · subst z
        cases s1
        exact k _ _ H (L2.Same.refl H) (.tuple q2 s2) h.2
      · subst z2
        cases s2
        have e:=h.2
        rw [List.append_nil] at e
        exact k _ _ H (L2.Same.refl H) (.tuple q1 s1) e
      · exact k _ _ _ (same_new hp) (rep_tup live hp (s1.append s2)) h.2
    | _=>exact h.elim
  | list q1 s1 =>
    cases r2 with
    | list q2 s2 =>
      exact .inr (.inr (.inr ⟨_,_,_,_,rfl,rfl,L2.Same.seq mask_le q1,L2.Same.seq mask_le q2,line5 (by rw [← s1.length,← s2.length]; exact h.1),fun p hp=>k _ _ _ (same_new hp) (rep_lst live hp (s1.append s2)) h.2⟩))
    | _=>exact h.elim
  | _=>exact h.elim
def fMul:D→D→(D→Prop)→Prop
  | .int i,.int j,Q=>CMul i j∧Q (.int (i * j))
  | .str z,.int n,Q=>z.length≤1000∧0≤n∧n≤1000∧Q (.str (Txt.mul z n))
  | _,_,_=>False
theorem o_mul:Op2 X rMulAny fMul:=by
  intro H ps d1 d2 x y Q QV live r1 r2 h k
  cases r1 with
  | int i =>
    cases r2 with
    | int j=>exact .inl ⟨i,j,rfl,rfl,h.1,k _ _ H (L2.Same.refl H) (.int _) h.2⟩
    | _=>exact h.elim
  | str z =>
    cases r2 with
    | int n=>exact .inr ⟨z,n,rfl,rfl,h.1,h.2.1,h.2.2.1,k _ _ H (L2.Same.refl H) (.str _) h.2.2.2⟩
    | _=>exact h.elim
  | _=>exact h.elim
def eqF:D→D→Option Bool
  | .none,.none=>some true
  | .bool x,.bool y=>some (decide (x=y))
  | .int x,.int y=>some (decide (x=y))
  | .str x,.str y=>some (decide (x=y))
  | .str _,.none | .none,.str _=>some false
  | _,_=>none
def fEq (x y:D) (Q:D→Prop):Prop:=match eqF x y with | some c=>Q (.bool c) | none=>False
def fNe (x y:D) (Q:D→Prop):Prop:=match eqF x y with | some c=>Q (.bool (!c)) | none=>False
theorem eqF_scal {x y:D} {u v:V} {c:Bool} (r1:Rep K H x u) (r2:Rep K H y v) (h:eqF x y=some c):scal u v=true∧decide (u=v)=c:=by
  cases r1 <;> cases r2 <;> simp [eqF] at h <;> subst h <;> exact ⟨rfl,by simp⟩
theorem o_eq:Op2 X rEq fEq:=by
  intro H ps d1 d2 x y Q QV live r1 r2 h k
  unfold fEq at h
  cases e:eqF d1 d2 with
  | none=>rw [e] at h; exact h.elim
  | some c =>
    rw [e] at h
    obtain ⟨h1,h2⟩:=eqF_scal r1 r2 e
    refine ⟨h1,?_⟩
    rw [h2]
    exact k _ _ H (L2.Same.refl H) (.bool c) h
theorem o_ne:Op2 X rNe fNe:=by
  intro H ps d1 d2 x y Q QV live r1 r2 h k
  unfold fNe at h
  cases e:eqF d1 d2 with
  | none=>rw [e] at h; exact h.elim
  | some c =>
    rw [e] at h
    obtain ⟨h1,h2⟩:=eqF_scal r1 r2 e
    refine ⟨h1,?_⟩
    rw [h2]
    exact k _ _ H (L2.Same.refl H) (.bool (!c)) h
def isTrueD (b:Bool):D→Bool
  | .bool c=>decide (c=b)
  | _=>false
def fIsNot (x y:D) (Q:D→Prop):Prop:=match y with | .bool b=>Q (.bool (!isTrueD b x)) | _=>False
theorem Reps.atI {ds:List D} {vs:List V} {i:Int} {d:D} (r:Reps K H ds vs) (h:atI ds i=some d):∃ v,atI vs i=some v∧Rep K H d v:=by
  unfold L2.atI at h ⊢
  rw [← r.length]
  cases e:ixN ds.length i with
  | none=>rw [e] at h; cases h
  | some j =>
    rw [e] at h
    exact r.get h
inductive ItemAt (ts:List D) (i:Int) (Q:D→Prop):Prop
  | mk (d:D) (h:atI ts i=some d) (k:Q d):ItemAt ts i Q
theorem ItemAt_iff {ts:List D} {i:Int} {Q:D→Prop}:ItemAt ts i Q ↔ ∃ d,atI ts i=some d∧Q d:=⟨fun ⟨d,h,k⟩=>⟨d,h,k⟩,fun ⟨d,h,k⟩=>⟨d,h,k⟩⟩
def fIx (x y:D) (Q:D→Prop):Prop:=match x,y with
  | .list ts,.int i=>ItemAt ts i Q
  | .tuple ts,.int i=>ItemAt ts i Q
  | .str z,.int i=>z.length≤100000∧∃ c,atI z.cps.toList i=some c∧Q (.str ⟨#[c]⟩)
  | _,_=>False
theorem o_ix:Op2 X (rIx X.K) fIx:=by
  intro H ps d1 d2 x y Q QV live r1 r2 h k
  cases r2 with
  | int i =>
    cases r1 with
    | list q s =>
      obtain ⟨d,e,h⟩:=h
      obtain ⟨v,e',r⟩:=s.atI e
      exact .inl ⟨_,_,i,v,rfl,rfl,L2.Same.seq mask_le q,e',k _ _ H (L2.Same.refl H) r h⟩
    | tuple q s =>
      obtain ⟨d,e,h⟩:=h
      obtain ⟨v,e',r⟩:=s.atI e
      exact .inr (.inl ⟨_,_,i,v,rfl,rfl,Same.seqT mask_le q,e',k _ _ H (L2.Same.refl H) r h⟩)
    | str z =>
      obtain ⟨hz,c,e,h⟩:=h
      exact .inr (.inr ⟨z,i,c,rfl,rfl,line5 hz,e,k _ _ H (L2.Same.refl H) (.str _) h⟩)
    | _=>exact h.elim
  | _=>cases d1 <;> exact h.elim
def cutD {α:Type} (xs:List α) (lo hi:Option Int):List α:=(xs.drop (HT.sIx xs.length 0 lo)).take (HT.sIx xs.length xs.length hi - HT.sIx xs.length 0 lo)
def fSl (x:D) (lo hi:Option Int) (Q:D→Prop):Prop:=match x with
  | .list ts=>Q (.list (cutD ts lo hi))
  | .tuple ts=>Q (.tuple (cutD ts lo hi))
  | .str z=>z.length≤100000∧Q (.str (Txt.slice z lo hi))
  | _=>False
theorem Reps.cut {ds:List D} {vs:List V} (r:Reps K H ds vs) (lo hi:Option Int):Reps K H (cutD ds lo hi) (cutV vs lo hi):=by
  unfold cutD cutV
  rw [r.length]
  exact (r.drop _).take _
theorem o_sl:SlT X (rSlAny X.K) fSl:=by
  intro H ps d x lo hi Q QV live r h k
  cases r with
  | list q s=>exact .inl ⟨_,_,rfl,L2.Same.seq mask_le q,fun p hp=>k _ _ _ (same_new hp) (rep_lst live hp (s.cut lo hi)) h⟩
  | @tuple p xs ts q s =>
    refine .inr (.inl ⟨_,_,rfl,Same.seqT mask_le q,fun z=>?_,fun _ p hp=>k _ _ _ (same_new hp) (rep_tup live hp (s.cut lo hi)) h⟩)
    have e:cutD ts lo hi=ts:=by
      unfold cutD
      rw [s.length,z.1,z.2,Nat.sub_zero,List.drop_zero,← s.length,List.take_length]
    have h':Q (.tuple (cutD ts lo hi)):=h
    rw [e] at h'
    exact k _ _ H (L2.Same.refl H) (.tuple q s) h'
  | str z=>exact .inr (.inr ⟨z,rfl,line5 h.1,k _ _ H (L2.Same.refl H) (.str _) h.2⟩)
  | _=>exact h.elim
def fIn (x y:D) (Q:D→Prop):Prop:=match x,y with
  | .str z,.str y=>Q (.bool (Txt.contains y z))
  | .str z,.list ts=>∃ ys:List Str,ts=ys.map .str∧Q (.bool (decide (z ∈ ys)))
  | .str z,.tuple ts=>∃ ys:List Str,ts=ys.map .str∧Q (.bool (decide (z ∈ ys)))
  | _,_=>False
theorem reps_strs:∀ {ys:List Str} {vs:List V},Reps K H (ys.map PyData.str) vs→vs=ys.map V.str
  | [],_,r=>by rw [List.map_nil] at r; cases r; rfl
  | y::ys,vs,r=>by
    rw [List.map_cons] at r
    cases r with
    | cons r1 r2 =>
      cases r1
      rw [List.map_cons,reps_strs r2]
def fNotIn (x y:D) (Q:D→Prop):Prop:=match x,y with
  | .str z,.list ts=>∃ ys:List Str,ts=ys.map .str∧Q (.bool (!decide (z ∈ ys)))
  | .str z,.tuple ts=>∃ ys:List Str,ts=ys.map .str∧Q (.bool (!decide (z ∈ ys)))
  | _,_=>False
theorem et_cb {r:List V→Hp→VK→Prop} {f:List D→(D→Prop)→Prop} {t:AT} {g:Expr} (hf:CallT X r f) (ha:PAt X (e::es) t) (pc:∀ {ta:TA},PA X (e::es) ta→PE X (.Call g (e::es) [] pos) (tCB r ta)):PEt X (.Call g (e::es) [] pos) (eCall f t):=by
  obtain ⟨v,pa,ra⟩:=ha
  refine ⟨_,pc pa,fun B p0 H ps σT σ Q QV o h k=>ra B p0 H ps σT σ _ _ o h fun ds xs H1 s1 r1 q1=>?_⟩
  exact hf H1 ps ds xs Q QV (o.grow s1).live r1 q1 fun d v H' s' r' q'=>k d v H' (s1.trans s') r' q'
def f1 (f:D→(D→Prop)→Prop):List D→(D→Prop)→Prop
  | [d],Q=>f d Q
  | _,_=>False
theorem c1 {r:List V→Hp→VK→Prop} {f:D→(D→Prop)→Prop} (h:∀ (H:Hp) (ps:List Addr) (d:D) (x:V) (Q:D→Prop) (QV:VK),(∀ p ∈ ps,H p ≠ none)→Rep X.K (mask H ps) d x→f d Q →
    (∀ d v H',Same H H'→Rep X.K (mask H' ps) d v→Q d→QV v H')→r [x] H QV):CallT X r (f1 f):=by
  intro H ps ds xs Q QV live rs hf k
  cases rs with
  | nil=>exact hf.elim
  | cons r1 r2 =>
    cases r2 with
    | nil=>exact h H ps _ _ Q QV live r1 hf k
    | cons _ _=>exact hf.elim
def gLen (d:D) (Q:D→Prop):Prop:=match d with
  | .list ts=>Q (.int ts.length)
  | .tuple ts=>Q (.int ts.length)
  | .str z=>z.length≤100000∧Q (.int z.length)
  | _=>False
theorem call_lenAny:CallR X (.builtin "len") (fun xs H Q=>(∃ p ys,xs=[.ref p]∧(SqL X.K H p ys ∨ SqT X.K H p ys)∧Q (.int ys.length) H) ∨ ∃ z,xs=[.str z]∧z.length≤sizeLine∧Q (.int z.length) H):=call_len_seq.or call_len_str
theorem c_len:CallT X (fun xs H Q=>(∃ p ys,xs=[.ref p]∧(SqL X.K H p ys ∨ SqT X.K H p ys)∧Q (.int ys.length) H) ∨ ∃ z,xs=[.str z]∧z.length≤sizeLine∧Q (.int z.length) H) (f1 gLen):=c1 fun H ps d x Q QV live r h k=>by
  cases r with
  | list q s =>
    refine .inl ⟨_,_,rfl,.inl (L2.Same.seq mask_le q),?_⟩
    rw [← s.length]
    exact k _ _ H (L2.Same.refl H) (.int _) h
  | tuple q s =>
    refine .inl ⟨_,_,rfl,.inr (Same.seqT mask_le q),?_⟩
    rw [← s.length]
    exact k _ _ H (L2.Same.refl H) (.int _) h
  | str z=>exact .inr ⟨z,rfl,line5 h.1,k _ _ H (L2.Same.refl H) (.int _) h.2⟩
  | _=>exact h.elim
def gTuple (d:D) (Q:D→Prop):Prop:=match d with
  | .list ts=>Q (.tuple ts)
  | .tuple ts=>Q (.tuple ts)
  | _=>False
theorem c_tuple:CallT X (fun xs H Q=>∃ p ys,xs=[.ref p]∧((SqL X.K H p ys∧∀ l,H l=none→Q (.ref l) (upd H l (.tup ys))) ∨ (SqT X.K H p ys∧Q (.ref p) H))) (f1 gTuple):=c1 fun H ps d x Q QV live r h k=>by
  cases r with
  | list q s=>exact ⟨_,_,rfl,.inl ⟨L2.Same.seq mask_le q,fun l hl=>k _ _ _ (same_new hl) (rep_tup live hl s) h⟩⟩
  | tuple q s=>exact ⟨_,_,rfl,.inr ⟨Same.seqT mask_le q,k _ _ H (L2.Same.refl H) (.tuple q s) h⟩⟩
  | _=>exact h.elim
def gList (d:D) (Q:D→Prop):Prop:=match d with
  | .list ts=>Q (.list ts)
  | .tuple ts=>Q (.list ts)
  | _=>False
theorem c_list:CallT X (fun xs H Q=>∃ p ys,xs=[.ref p]∧(SqL X.K H p ys ∨ SqT X.K H p ys)∧∀ l,H l=none→Q (.ref l) (upd H l (.lst ys))) (f1 gList):=c1 fun H ps d x Q QV live r h k=>by
  cases r with
  | list q s=>exact ⟨_,_,rfl,.inl (L2.Same.seq mask_le q),fun l hl=>k _ _ _ (same_new hl) (rep_lst live hl s) h⟩
  | tuple q s=>exact ⟨_,_,rfl,.inr (Same.seqT mask_le q),fun l hl=>k _ _ _ (same_new hl) (rep_lst live hl s) h⟩
  | _=>exact h.elim
theorem reps_ints:∀ {ys:List Int} {vs:List V},Reps K H (ys.map PyData.int) vs→vs=ys.map V.int
  | [],_,r=>by rw [List.map_nil] at r; cases r; rfl
  | y::ys,vs,r=>by
    rw [List.map_cons] at r
    cases r with
    | cons r1 r2 =>
      cases r1
      rw [List.map_cons,reps_ints r2]
def gAll (d:D) (Q:D→Prop):Prop:=∃ bs:List Bool,d=.list (bs.map PyData.bool)∧Q (.bool (bs.all id))
def gMin (d:D) (Q:D→Prop):Prop:=∃ ns:List Int,d=.list (ns.map PyData.int)∧ns ≠ []∧∀ m,m ∈ ns→(∀ n ∈ ns,m≤n)→Q (.int m)
def f2 (f:D→D→(D→Prop)→Prop):List D→(D→Prop)→Prop
  | [d,d'],Q=>f d d' Q
  | _,_=>False
def gMin2 (x y:D) (Q:D→Prop):Prop:=match x,y with | .int i,.int j=>Q (.int (if j < i then j else i)) | _,_=>False
def eLenSet (te:ET):ET:=fun σ Q=>te σ fun d=>∃ ys:List Str,d=.tuple (ys.map PyData.str)∧ys.length≤1000∧Q (.int (dd ys).length)
def tyD:D→String
  | .none=>"NoneType"
  | .bool _=>"bool"
  | .int _=>"int"
  | .str _=>"str"
  | .list _=>"list"
  | .tuple _=>"tuple"
  | .dict []=>"list"
  | .dict [(.none,_)]=>"list"
  | .dict _=>"dict"
def isT (T:String) (d:D):Bool:=(tyD d == T) || (T == "int" && tyD d == "bool")
theorem isT_exc {T:String} {i:Int} {x:D} (h:T ∈ ["int","str","list","tuple","bool"]):isT T (.dict [(.int i,x)])=false:=by
  simp only [List.mem_cons,List.not_mem_nil,or_false] at h
  rcases h with rfl | rfl | rfl | rfl | rfl <;> rfl
def isiQ (T:String) (d:D) (Q:D→Prop):Prop:=match d with | .dict [(.str _,_)]=>False | d=>Q (.bool (isT T d))
theorem isiQ_of {T:String} {d:D} {Q:D→Prop} (h:∀ x y,d ≠ .dict [(.str x,y)]) (q:isiQ T d Q):Q (.bool (isT T d)):=by
  unfold isiQ at q
  split at q
  · exact q.elim
  · exact q
def eIsi (T:String) (te:ET):ET:=fun σ Q=>te σ fun d=>isiQ T d Q
def KitOk (K:PySem.W.Frag) (T:String):Prop:=∀ tn ∈ ["NoneType","bool","int","str","list","tuple"],PySem.W.kitOne K (.type tn) (.type T)=some ((tn == T) || (T == "int" && tn == "bool"))
def rIsi (K:PySem.W.Frag) (T:String):List V→Hp→VK→Prop:=fun xs H Q=>∃ x b,xs=[x,.ty T]∧((∃ Tn,tyName K H x Tn∧PySem.W.kitOne K (.type Tn) (.type T)=some b) ∨ (∃ p C dx,x=.ref p∧H p=some (.ext (excAt p C dx))∧(∀ d,dx=some d→∃ fs,H d=some (.xd fs))∧XCls K C∧PySem.W.kitOne K (.ref C) (.type T)=some b))∧Q (.bl b) H
theorem isinst_exc {pins:List (Addr × Obj)} {s:Shared} {σ:L2.St} {H:Hp} {A:Around} {E:Value→Shared→Prop} {Q:Value→Shared→Prop} {p C:Addr} {dx:Option Addr} {c:Value} {b:Bool} (I:Inv X pins σ H s) (hp:H p=some (.ext (excAt p C dx))) (hd:∀ d,dx=some d→∃ fs,H d=some (.xd fs)) (x:XCls X.K C)
    (e:PySem.W.kitOne X.K (.ref C) c=some b) (h:∀ tk,Q (.bool b) { s with toks:=tk }):wpAny (model X.prog X.w) A (call (.builtin "isinstance") [.ref p,c]) Q E s:=by
  refine PySem.W.kia_one (kitx_exc x) I.kIn ?_ e (fun z=>nomatch z) h
  obtain ⟨⟨o,vs,h1,h2,h3,h4⟩,_⟩:=I.hok p _ hp
  have hn:PySem.W.notCls o=true:=by unfold PySem.W.notCls; rw [h4]
  cases dx with
  | none=>exact ⟨o,none,h1,h2,hn,by rw [h3]; trivial⟩
  | some d =>
    obtain ⟨fs,hf⟩:=hd d rfl
    obtain ⟨mA,⟨od,es,ep,he,_⟩,_⟩:=I.hok d _ hf
    exact ⟨o,some od,h1,h2,hn,by rw [h3]; exact he⟩
theorem call_isi {T:String}:CallR X (.builtin "isinstance") (rIsi X.K T):=by
  intro pins s σ H xs us Q I r h
  obtain ⟨x,b,rfl,⟨Tn,ht,hk⟩ | ⟨p,C,dx,rfl,hp,hd,hx,hk⟩,q⟩:=h
  · obtain ⟨u,w,rfl,ru,rw'⟩:=vals2 r
    cases rw'
    exact isinst2 I ru ht hk fun tk=>⟨.bl b,H,I.tok tk,rfl,q⟩
  · obtain ⟨u,w,rfl,ru,rw'⟩:=vals2 r
    cases rw'
    cases ru
    exact isinst_exc I hp hd hx hk fun tk=>⟨.bl b,H,I.tok tk,rfl,q⟩
theorem et_isi {T:String} {g1 g2:Expr} (hk:KitOk X.K T) (he:PEt X e te)
    (pc:∀ {v:TE},PE X e v→PE X (.Call g1 [e,g2] [] pos) (tCB (rIsi X.K T) (tCons v (tCons (tC (.ty T)) tNil))))
    (hT:T ∈ ["int","str","list","tuple","bool"]:=by decide):PEt X (.Call g1 [e,g2] [] pos) (eIsi T te):=by
  obtain ⟨v,pe,re⟩:=he
  refine ⟨_,pc pe,fun B p0 H ps σT σ Q QV o h k=>re B p0 H ps σT σ _ _ o h fun d x H1 s1 r1 q1=>?_⟩
  have fin:∀ tn,tn ∈ ["NoneType","bool","int","str","list","tuple"]→tyD d=tn→tyName X.K H1 x tn→rIsi X.K T [x,V.ty T] H1 QV:=fun tn hm ht hn=>by
    refine ⟨x,_,rfl,.inl ⟨tn,hn,hk tn hm⟩,?_⟩
    have q:Q (.bool (isT T d)):=isiQ_of (fun x y z=>by subst z; have z2:("dict":String)=tn:=ht; subst z2; exact absurd hm (by decide)) q1
    unfold isT at q
    rw [ht] at q
    exact k _ _ H1 s1 (.bool _) q
  cases r1 with
  | none=>exact fin "NoneType" (by simp) rfl rfl
  | bool b=>exact fin "bool" (by simp) rfl rfl
  | int i=>exact fin "int" (by simp) rfl rfl
  | str z=>exact fin "str" (by simp) rfl rfl
  | list q s=>exact fin "list" (by simp) rfl (.inl ⟨rfl,_,L2.Same.seq mask_le q⟩)
  | tuple q s=>exact fin "tuple" (by simp) rfl (.inr (.inl ⟨rfl,_,Same.seqT mask_le q⟩))
  | wild h=>exact fin "list" (by simp) rfl (.inr (.inr ⟨rfl,_,mask_le _ _ h,fun _ ⟨_,_,e,_⟩=>⟨_,e,rfl⟩⟩))
  | tape h _=>exact fin "list" (by simp) rfl (.inr (.inr ⟨rfl,_,mask_le _ _ h,fun _ ⟨_,_,_,_,_,_,_,e,_⟩=>⟨_,e,rfl⟩⟩))
  | exc x h =>
    refine ⟨_,false,rfl,.inr ⟨_,_,_,rfl,mask_le _ _ h,(fun _ z=>nomatch z),x.1,x.2 T hT⟩,?_⟩
    have q2:Q (.bool (isT T (.dict _))):=q1
    rw [isT_exc hT] at q2
    exact k _ _ H1 s1 (.bool _) q2
  | excA x h g =>
    refine ⟨_,false,rfl,.inr ⟨_,_,_,rfl,mask_le _ _ h,fun _ z=>by cases z; exact ⟨_,mask_le _ _ g⟩,x.1,x.2 T hT⟩,?_⟩
    have q2:Q (.bool (isT T (.dict _))):=q1
    rw [isT_exc hT] at q2
    exact k _ _ H1 s1 (.bool _) q2
  | addr z=>exact (show False from q1).elim
def eMeth (f:Str→List D→(D→Prop)→Prop) (te:ET) (t:AT):ET:=fun σ Q=>te σ fun d=>∃ z,d=.str z∧t σ fun ds=>f z ds Q
def gFind (z:Str) (ds:List D) (Q:D→Prop):Prop:=match ds with | [.str y]=>Q (.int (Txt.find z y)) | _=>False
def gJoin (z:Str) (ds:List D) (Q:D→Prop):Prop:=match ds with | [.list ts]=>∃ ys:List Str,ts=ys.map PyData.str∧(ys.map (·.length)).sum + ys.length * z.length≤16777216∧Q (.str (Txt.join z ys)) | _=>False
def eUpper (te:ET):ET:=fun σ Q=>te σ fun d=>∃ z,d=.str z∧Builtin.Str.tooLong (Txt.upper z).length=false∧Q (.str (Txt.upper z))
def sUnp (i j:Nat) (te:ET):STt:=fun DT σ=>te σ fun d=>gP i j d σ DT.nx
theorem st_unp {i j:Nat} {tg:Expr} {g:TG} (he:PEt X e te) (hg:PGt X tg (gP i j)) (pa:∀ {v:TE} {gv:TG},PE X e v→PG X tg gv→PS X (.Assign [tg] e pos) (tAsg v gv)):PSt X (.Assign [tg] e pos) (sUnp i j te):=by
  obtain ⟨v,pe,re⟩:=he
  obtain ⟨gv,pg,rg⟩:=hg
  refine ⟨_,pa pe pg,fun B p0 H ps σT σ DT DV o h f=>re B p0 H ps σT σ _ _ o h fun d x H1 s1 r1 q1=>?_⟩
  exact rg B p0 H1 ps σT σ d x _ _ (o.grow s1) r1 q1 fun σT' σ' o' _ q'=>f.nx H1 ps _ _ o' (mask_same s1) q'
mutual
theorem Rep.reads {pins:List (Addr × Obj)} {s:Shared} {σ:L2.St} (I:Inv X pins σ H s):∀ {d:D} {x:V} {u:Value},d.hasDict=false→Rep X.K H d x→RelV x u→∃ as,Reads s.heap u d as
  | _,_,_,_,.none,r=>by cases r; exact ⟨_,.none⟩
  | _,_,_,_,.bool b,r=>by cases r; exact ⟨_,.bool b⟩
  | _,_,_,_,.int i,r=>by obtain ⟨t,rfl⟩:=r; exact ⟨_,.int i t⟩
  | _,_,_,_,.str z,r=>by obtain ⟨t,rfl⟩:=r; exact ⟨_,.str z t⟩
  | _,_,_,hd,.list q rs,r=>by
    cases r
    obtain ⟨its,rv,⟨o,n,h1,h2,_,h3⟩,_⟩:=I.list q
    obtain ⟨as,h4⟩:=Reps.reads I hd rs rv
    exact ⟨_,.list h1 h2 h3 (by simpa using h4)⟩
  | _,_,_,hd,.tuple q rs,r=>by
    cases r
    obtain ⟨its,rv,⟨o,h1,h2,n,h3⟩,_⟩:=I.tuple q
    obtain ⟨as,h4⟩:=Reps.reads I hd rs rv
    exact ⟨_,.tuple h1 h2 h3 (by simpa using h4)⟩
  | _,_,_,hd,.wild _,_=>by cases hd
  | _,_,_,hd,.exc _ _,_=>by cases hd
  | _,_,_,hd,.excA _ _ _,_=>by cases hd
  | _,_,_,hd,.tape _ _,_=>by cases hd
  | _,_,_,hd,.addr _,_=>by cases hd
theorem Reps.reads {pins:List (Addr × Obj)} {s:Shared} {σ:L2.St} (I:Inv X pins σ H s):∀ {ds:List D} {xs:List V} {us:List Value},PyData.hasDictAll ds=false→Reps X.K H ds xs→Vals xs us→∃ as,ReadsAll s.heap us ds as
  | _,_,_,_,.nil,r=>by cases r; exact ⟨_,.nil⟩
  | d::ds,_,_,hd,.cons r1 r2,r=>by
    have hd':(d.hasDict || PyData.hasDictAll ds)=false:=hd
    rw [Bool.or_eq_false_iff] at hd'
    cases r with
    | cons v1 v2 =>
      obtain ⟨as,h1⟩:=Rep.reads I hd'.1 r1 v1
      obtain ⟨bs,h2⟩:=Reps.reads I hd'.2 r2 v2
      exact ⟨_,.cons h1 h2⟩
end
theorem call_reprT {k:Nat} (hr:Room k X.A):CallR X (.builtin "repr") (rRepr X.K fun H d x=>Rep X.K H d x∧d.hasDict=false):=call_repr hr fun I r rv=>Rep.reads I r.2 r.1 rv
def gRepr (d:D) (Q:D→Prop):Prop:=d.showable=true∧d.hasDict=false∧d.depth≤60∧d.shown.length≤sizeLine∧Q (.str d.shown)
theorem c_repr:CallT X (rRepr X.K fun H d x=>Rep X.K H d x∧d.hasDict=false) (f1 gRepr):=c1 fun H ps d x Q QV live r h k=>by
  obtain ⟨h1,h2,h3,h4,h⟩:=h
  exact ⟨x,d,rfl,⟨r.same mask_le,h2⟩,h1,h2,h3,h4,k _ _ H (L2.Same.refl H) (.str _) h⟩
def eRev (te:ET):ET:=fun σ Q=>te σ fun d=>match d with | .tuple ts=>Q (.tuple ts.reverse) | _=>False
end
end TL

set_option Elab.async false
set_option linter.all false
set_option maxRecDepth 100000
namespace TL
open PySem PySem.Spec PyProof.Rows L2
def lcChk (sc out:Scope) (Nx N':List Str) (fr:List (Option Nat)):Bool :=
  decide (sc.kind=.function) && sc.names.all (fun y=>decide (y.2 ≠ .cell)) && sc.names.all (fun y=>decide (y.2 ≠ .free) || decide (out.names.lookup y.1=some .cell)) && sc.names.all (fun y=>decide (y.2 ≠ .local) || decide (sc.names.lookup y.1=some .local)) && frChk sc.names out.names Nx N' fr
section
variable {X:Cx} {elt iter tg a:Expr} {ifs:List Expr} {scope:Scope} {pos:Pos} {N':List Str} {fr:List (Option Nat)} {wi:TI} {g:BP→TG} {tt:BP→TT} {te:BP→TE}
theorem lcChk_all {out:Scope} {Nx:List Str} (h:lcChk scope out Nx N' fr=true):scope.kind=.function∧(∀ y ∈ scope.names,y.2 ≠ .cell)∧(∀ y ∈ scope.names,y.2=.free→out.names.lookup y.1=some .cell)∧(∀ y ∈ scope.names,y.2=.local→scope.names.lookup y.1=some .local)∧frChk scope.names out.names Nx N' fr=true:=by
  unfold lcChk at h
  simp only [Bool.and_eq_true,List.all_eq_true,Bool.or_eq_true,decide_eq_true_eq] at h
  obtain ⟨⟨⟨⟨h1,h2⟩,h3⟩,h4⟩,h5⟩:=h
  exact ⟨h1,h2,fun y hy e=>(h3 y hy).elim (fun z=>absurd e z) id,fun y hy e=>(h4 y hy).elim (fun z=>absurd e z) id,h5⟩
theorem pe_lcc (h:lcChk scope X.env.scope X.N N' fr=true) (hcalm:X.calm=true) (hi:PI X tg iter wi)
    (hY:∀ b:BP,PG (blk X scope N' b) tg (g b)∧PIf (blk X scope N' b) ifs (tt b)∧PE (blk X scope N' b) elt (te b)) (hs:∀ x,foldedSetIterable iter X.env x=pure x:=by intro _; rfl):PE X (.ListComp elt [⟨tg,iter,ifs,0⟩] scope pos) (tLc fr wi g tt te):=by
  obtain ⟨h1,h2,h3,h4,h5⟩:=lcChk_all h
  exact pe_lc hcalm h1 h2 h5 h3 h4 hi hY hs
theorem ps_setlcc {i:Nat} {x:Str} {px spos:Pos} (h:lcChk scope X.env.scope X.N N' fr=true) (hN:X.N.Nodup) (hix:X.N[i]?=some x) (hx:Loc X.env.scope x) (hcalm:X.calm=true) (hi:PI X tg iter wi)
    (hY:∀ b:BP,PG (blk X scope N' b) tg (g b)∧PIf (blk X scope N' b) ifs (tt b)∧PE (blk X scope N' b) elt (te b))
    (hsw:swapsWith (.ListComp elt [⟨tg,iter,ifs,0⟩] scope pos) (some (.Name x px)) spos.line X.env=pure true) (hs:∀ x,foldedSetIterable iter X.env x=pure x:=by intro _; rfl) (hf:X.fn x=true ∨ X.env.scope.names.lookup x=some .local:=by first | exact .inl rfl | exact .inr rfl) :
    PS X (.Assign [.Name x px] (.ListComp elt [⟨tg,iter,ifs,0⟩] scope pos) spos) (tAsg (tLc fr wi g tt te) (gName i)):=by
  obtain ⟨h1,h2,h3,h4,h5⟩:=lcChk_all h
  exact ps_setlc hN hix hx hcalm h1 h2 h5 h3 h4 hi hY hsw hs hf
def eInOwn (i:Nat) (ta:ET):ET:=fun σ Q=>ta σ fun x=>∃ ts,σ[i]?=some (.own ts)∧fIn x (.list ts) Q
end
theorem bl_min:bootBuiltins "min"=some (.builtin "min"):=by decide +kernel
theorem bl_max:bootBuiltins "max"=some (.builtin "max"):=by decide +kernel
theorem bl_repr:bootBuiltins "repr"=some (.builtin "repr"):=by decide +kernel
theorem bl_isinstance:bootBuiltins "isinstance"=some (.builtin "isinstance"):=by decide +kernel
theorem bl_len:bootBuiltins "len"=some (.builtin "len"):=by decide +kernel
theorem bl_tuple:bootBuiltins "tuple"=some (.type "tuple"):=by decide +kernel
theorem bl_list:bootBuiltins "list"=some (.type "list"):=by decide +kernel
theorem bl_bool:bootBuiltins "bool"=some (.type "bool"):=by decide +kernel
theorem bl_int:bootBuiltins "int"=some (.type "int"):=by decide +kernel
theorem kit_tuple (K:PySem.W.Frag):KitOk K "tuple":=by
  intro tn h
  simp only [List.mem_cons,List.not_mem_nil,or_false] at h
  rcases h with rfl | rfl | rfl | rfl | rfl | rfl <;> first | rfl | (with_unfolding_all rfl) | decide +kernel
theorem kit_bool (K:PySem.W.Frag):KitOk K "bool":=by
  intro tn h
  simp only [List.mem_cons,List.not_mem_nil,or_false] at h
  rcases h with rfl | rfl | rfl | rfl | rfl | rfl <;> first | rfl | (with_unfolding_all rfl) | decide +kernel
theorem kit_int (K:PySem.W.Frag):KitOk K "int":=by
  intro tn h
  simp only [List.mem_cons,List.not_mem_nil,or_false] at h
  rcases h with rfl | rfl | rfl | rfl | rfl | rfl <;> first | rfl | (with_unfolding_all rfl) | decide +kernel
theorem kit_list (K:PySem.W.Frag):KitOk K "list":=by
  intro tn h
  simp only [List.mem_cons,List.not_mem_nil,or_false] at h
  rcases h with rfl | rfl | rfl | rfl | rfl | rfl <;> first | rfl | (with_unfolding_all rfl) | decide +kernel

theorem set_set {α:Type} (l:List α) (i:Nat) (a b:α):(l.set i a).set i b=l.set i b:=by
  apply List.ext_getElem?
  intro j
  by_cases h:i=j
  · subst h
    by_cases hl:i < l.length
    · rw [List.getElem?_set_self (by simpa using hl),List.getElem?_set_self hl]
    · rw [List.getElem?_eq_none (by simpa using hl),List.getElem?_eq_none (by simpa using hl)]
  · rw [List.getElem?_set_ne h,List.getElem?_set_ne h,List.getElem?_set_ne h]
theorem lc_in {ts:List D} {σb:List Sl} {te:ET} {Q:D→Prop} (R:Nat→D→D→Prop) (hz:ts.length≤100000)
    (ht:∀ (k:Nat) (x:D) (q:D→Prop),ts[k]?=some x→(∀ y,R k x y→q y)→te (σb.set 0 (.val x)) q)
    (hq:∀ ys:List D,ys.length=ts.length→(∀ (k:Nat) (x y:D),ts[k]?=some x→ys[k]?=some y→R k x y)→Q (.list ys)) :
    ts.length≤100000∧∃ P:Nat→List Sl→List D→Prop,P 0 σb [] ∧
      (∀ (k:Nat) (x:D) (σ':List Sl) (ds:List D),ts[k]?=some x→P k σ' ds→gN 0 x σ' fun σ2=>cTrue σ2 fun b=>if b=true then te σ2 fun y=>P (k + 1) σ2 (ds++[y]) else P (k + 1) σ2 ds)∧∀ σ' ds,P ts.length σ' ds→Q (.list ds):=by
  refine ⟨hz,fun k σ' ds=>(∀ x,σ'.set 0 (.val x)=σb.set 0 (.val x))∧ds.length=k∧∀ (j:Nat) (x y:D),ts[j]?=some x→ds[j]?=some y→R j x y,⟨fun _=>rfl,rfl,fun j x y _ h=>by simp at h⟩,fun k x σ' ds hx h=>?_,fun σ' ds h=>hq ds h.2.1 h.2.2⟩
  obtain ⟨h1,h2,h3⟩:=h
  show te (σ'.set 0 (.val x)) _
  rw [h1 x]
  refine ht k x _ hx fun y hy=>⟨fun z=>set_set _ _ _ _,by simp [h2],fun j x' y' e1 e2=>?_⟩
  by_cases hj:j < k
  · rw [List.getElem?_append_left (by omega)] at e2
    exact h3 j x' y' e1 e2
  · rw [List.getElem?_append_right (by omega)] at e2
    have:j=k:=by
      by_cases e:j=k
      · exact e
      · have:j - ds.length ≠ 0:=by omega
        cases q:j - ds.length with
        | zero=>exact absurd q this
        | succ n=>rw [q] at e2; simp at e2
    subst this
    rw [hx] at e1
    cases e1
    simp [h2] at e2
    subst e2
    exact hy
theorem lc_map {ts:List D} {σb:List Sl} {te:ET} {Q:D→Prop} (f:D→D) (hz:ts.length≤100000) (ht:∀ (x:D) (q:D→Prop),x ∈ ts→q (f x)→te (σb.set 0 (.val x)) q) (hq:Q (.list (ts.map f))) :
    ts.length≤100000∧∃ P:Nat→List Sl→List D→Prop,P 0 σb [] ∧
      (∀ (k:Nat) (x:D) (σ':List Sl) (ds:List D),ts[k]?=some x→P k σ' ds→gN 0 x σ' fun σ2=>cTrue σ2 fun b=>if b=true then te σ2 fun y=>P (k + 1) σ2 (ds++[y]) else P (k + 1) σ2 ds)∧∀ σ' ds,P ts.length σ' ds→Q (.list ds):=by
  refine lc_in (fun k x y=>y=f x) hz (fun k x q hx h=>ht x q (List.mem_of_getElem? hx) (h _ rfl)) fun ys hl h=>?_
  have e:ys=ts.map f:=by
    apply List.ext_getElem?
    intro i
    rw [List.getElem?_map]
    cases hx:ts[i]? with
    | none =>
      rw [List.getElem?_eq_none (by rw [hl]; exact List.getElem?_eq_none_iff.mp hx)]; rfl
    | some x =>
      have hi:i < ys.length:=by rw [hl]; exact (List.getElem?_eq_some_iff.mp hx).1
      have:=h i x ys[i] hx (List.getElem?_eq_getElem hi)
      rw [List.getElem?_eq_getElem hi,this]; rfl
  rw [e]; exact hq
theorem lc_filt {ts:List D} {σb:List Sl} {tt:TTt} {te:ET} {Q:D→Prop} (p:D→Bool) (f:D→D) (hz:ts.length≤100000) (hp:∀ (x:D) (q:Bool→Prop),x ∈ ts→q (p x)→tt (σb.set 0 (.val x)) q)
    (ht:∀ (x:D) (q:D→Prop),x ∈ ts→q (f x)→te (σb.set 0 (.val x)) q) (hq:Q (.list ((ts.filter p).map f))) :
    ts.length≤100000∧∃ P:Nat→List Sl→List D→Prop,P 0 σb [] ∧
      (∀ (k:Nat) (x:D) (σ':List Sl) (ds:List D),ts[k]?=some x→P k σ' ds→gN 0 x σ' fun σ2=>tt σ2 fun b=>if b=true then te σ2 fun y=>P (k + 1) σ2 (ds++[y]) else P (k + 1) σ2 ds)∧∀ σ' ds,P ts.length σ' ds→Q (.list ds):=by
  refine ⟨hz,fun k σ' ds=>(∀ x,σ'.set 0 (.val x)=σb.set 0 (.val x))∧ds=((ts.take k).filter p).map f,⟨fun _=>rfl,rfl⟩,fun k x σ' ds hx h=>?_,fun σ' ds h=>?_⟩
  · obtain ⟨h1,rfl⟩:=h
    have hm:x ∈ ts:=List.mem_of_getElem? hx
    show tt (σ'.set 0 (.val x)) _
    rw [h1 x]
    refine hp x _ hm ?_
    have e:ts.take (k + 1)=ts.take k++[x]:=by rw [List.take_add_one,hx]; rfl
    cases hb:p x with
    | true =>
      rw [if_pos rfl]
      refine ht x _ hm ⟨fun z=>set_set _ _ _ _,?_⟩
      rw [e,List.filter_append,List.map_append]
      simp [hb]
    | false =>
      rw [if_neg (by decide)]
      refine ⟨fun z=>set_set _ _ _ _,?_⟩
      rw [e,List.filter_append,List.map_append]
      simp [hb]
  · obtain ⟨_,rfl⟩:=h
    rw [List.take_length]
    exact hq

section
variable {fr:List (Option Nat)} {ti:IT} {tt:TTt} {te:ET} {σ:List Sl} {Q:D→Prop} {ts:List D}
abbrev Gives' (ti:IT) (σ:List Sl) (ts:List D):Prop:=∀ R:List D→Prop,R ts→ti σ R
theorem lcx_map (hti:Gives' ti σ ts) (f:D→D) (hz:ts.length≤100000) (ht:∀ (x:D) (q:D→Prop),x ∈ ts→q (f x)→te ((inBlkT fr σ).set 0 (.val x)) q) (hq:Q (.list (ts.map f))):eLc fr ti (gN 0) cTrue te σ Q :=
  hti _ (lc_map (te:=te) (Q:=Q) f hz ht hq)
theorem lcx_in (hti:Gives' ti σ ts) (R:Nat→D→D→Prop) (hz:ts.length≤100000)
    (ht:∀ (k:Nat) (x:D) (q:D→Prop),ts[k]?=some x→(∀ y,R k x y→q y)→te ((inBlkT fr σ).set 0 (.val x)) q)
    (hq:∀ ys:List D,ys.length=ts.length→(∀ (k:Nat) (x y:D),ts[k]?=some x→ys[k]?=some y→R k x y)→Q (.list ys)):eLc fr ti (gN 0) cTrue te σ Q :=
  hti _ (lc_in (te:=te) (Q:=Q) R hz ht hq)
theorem lcx_filt (hti:Gives' ti σ ts) (p:D→Bool) (f:D→D) (hz:ts.length≤100000) (hp:∀ (x:D) (q:Bool→Prop),x ∈ ts→q (p x)→tt ((inBlkT fr σ).set 0 (.val x)) q)
    (ht:∀ (x:D) (q:D→Prop),x ∈ ts→q (f x)→te ((inBlkT fr σ).set 0 (.val x)) q) (hq:Q (.list ((ts.filter p).map f))):eLc fr ti (gN 0) tt te σ Q :=
  hti _ (lc_filt (tt:=tt) (te:=te) (Q:=Q) p f hz hp ht hq)
theorem forx {g:GT} {tb:STt} {DT:EndsT} (hti:Gives' ti σ ts) (P:Nat→List Sl→Prop) (h0:P 0 σ)
    (hs:∀ (k:Nat) (x:D) (σ':List Sl),ts[k]?=some x→P k σ'→g x σ' fun σ2=>tb { DT with nx:=P (k + 1),ct:=P (k + 1),bk:=DT.nx } σ2) (hd:∀ σ',P ts.length σ'→DT.nx σ'):sFor ti g tb DT σ:=hti _ ⟨P,h0,hs,hd⟩
end
end TL

set_option Elab.async false
set_option linter.all false
set_option maxRecDepth 100000
namespace TL
open PySem PySem.Spec PyProof.Rows L2
theorem app_codes (x y:Str):(x++y).cps.toList=x.cps.toList++y.cps.toList:=by
  show (x.cps++y.cps).toList=_
  simp
theorem pick_codes (xs:Array Nat) (a k:Nat):(List.range k).filterMap (fun m=>xs[a + m]?)=(xs.toList.drop a).take k:=by
  induction k with
  | zero=>simp
  | succ k ih =>
    rw [List.range_succ,List.filterMap_append,ih,List.take_add_one,List.getElem?_drop]
    congr 1
    simp only [List.filterMap_cons,List.filterMap_nil]
    rw [Array.getElem?_toList]
    cases xs[a + k]? <;> rfl
theorem clip_ix (v:Option Int) (n d:Nat) (hd:d≤n):(match v with | none=>(d:Int) | some i=>max 0 (min (if i < 0 then i + (n:Int) else i) (n:Int)))=((HT.sIx n d v:Nat):Int):=by
  cases v with
  | none=>rfl
  | some i =>
    have:=HT.clip_eq i n d
    rw [← this]
    dsimp only
    split <;> omega
theorem clip_ix0 (v:Option Int) (n:Nat):(match v with | none=>(0:Int) | some i=>max 0 (min (if i < 0 then i + (n:Int) else i) (n:Int)))=((HT.sIx n 0 v:Nat):Int):=clip_ix v n 0 (Nat.zero_le _)
theorem sr_congr {a a' b b':Int} (h1:a=a') (h2:b=b'):sliceRange a b 1=sliceRange a' b' 1:=by rw [h1,h2]
theorem slice_codes (z:Str) (lo hi:Option Int):(Txt.slice z lo hi).cps.toList=cutD z.cps.toList lo hi:=by
  have hn:z.cps.toList.length=z.length:=by simp [Str.length]
  have ha:=HT.sIx_le z.length 0 (Nat.zero_le _) lo
  have hb:=HT.sIx_le z.length z.length (Nat.le_refl _) hi
  have hI:Builtin.Str.strSliceIndices lo hi 1 z.length=(List.range (HT.sIx z.length z.length hi - HT.sIx z.length 0 lo)).map (fun k=>HT.sIx z.length 0 lo + k):=by
    unfold Builtin.Str.strSliceIndices
    simp only [show (1:Int) > 0 by decide,if_true]
    refine (sr_congr (clip_ix0 lo z.length) (clip_ix hi z.length z.length (Nat.le_refl _))).trans ?_
    unfold sliceRange
    simp only [show (1:Int) > 0 by decide,if_true]
    generalize HT.sIx z.length 0 lo=a
    generalize HT.sIx z.length z.length hi=b
    have ec:(if (a:Int) < (b:Int) then ((b:Int) - a + 1 - 1) / 1 else 0).toNat=b - a:=by split <;> omega
    rw [ec]
    apply List.map_congr_left
    intro k _
    omega
  unfold Txt.slice cutD
  rw [hn,hI]
  generalize HT.sIx z.length 0 lo=a at *
  generalize HT.sIx z.length z.length hi=b at *
  split
  · next h =>
    simp only [beq_self_eq_true,Bool.true_and,beq_iff_eq,List.length_map,List.length_range] at h
    have h1:a=0:=by omega
    have h2:b - a=z.cps.toList.length:=by rw [hn]; exact h
    rw [h2,h1,List.drop_zero,List.take_length]
  · rw [List.filterMap_map]
    exact pick_codes z.cps a (b - a)
theorem join_codes:∀ ys:List Str,(Txt.join ⟨#[]⟩ ys).cps.toList=(ys.map (·.cps.toList)).flatten:=by
  intro ys
  show (Builtin.Str.glued ⟨#[]⟩ ys).cps.toList=_
  rw [StrLaws.glued_eq_join]
  induction ys with
  | nil=>rfl
  | cons x ys ih =>
    cases ys with
    | nil=>simp [Str.join]
    | cons y r =>
      show (x++⟨#[]⟩++Str.join ⟨#[]⟩ (y::r)).cps.toList=_
      rw [app_codes,app_codes,ih]
      simp
theorem in_one (x:Str) (c:Nat):Txt.contains x ⟨#[c]⟩=decide (c ∈ x.cps.toList):=StrLaws.found_one x c
section
variable {te:ET} {u t e:STt} {c:TTt} {DT:EndsT} {σ:List Sl} {i:Nat}
theorem seq_set (v:D) (h:∀ q:D→Prop,q v→te σ q) (k:u DT (σ.set i (.val v))):sSeq (sSet i te) u DT σ:=h _ k
theorem seq_setR (R:D→Prop) (h:∀ q:D→Prop,(∀ v,R v→q v)→te σ q) (k:∀ v,R v→u DT (σ.set i (.val v))):sSeq (sSet i te) u DT σ:=h _ k
theorem seq_if (R:Bool→Prop) (h:∀ q:Bool→Prop,(∀ b,R b→q b)→c σ q) (k1:R true→t { DT with nx:=u DT } σ) (k0:R false→e { DT with nx:=u DT } σ):sSeq (sIf c t e) u DT σ:=by
  refine h _ fun b hb=>?_
  cases b with
  | true=>rw [if_pos rfl]; exact k1 hb
  | false=>rw [if_neg (by decide)]; exact k0 hb
theorem one_if (R:Bool→Prop) (h:∀ q:Bool→Prop,(∀ b,R b→q b)→c σ q) (k1:R true→t DT σ) (k0:R false→e DT σ):sIf c t e DT σ:=by
  refine h _ fun b hb=>?_
  cases b with
  | true=>rw [if_pos rfl]; exact k1 hb
  | false=>rw [if_neg (by decide)]; exact k0 hb
theorem seq_for {ti:IT} {ts:List D} {g:GT} {tb:STt} (hti:Gives' ti σ ts) (P:Nat→List Sl→Prop) (h0:P 0 σ)
    (hs:∀ (k:Nat) (x:D) (σ':List Sl),ts[k]?=some x→P k σ'→g x σ' fun σ2=>tb { DT with nx:=P (k + 1),ct:=P (k + 1),bk:=u DT } σ2) (hd:∀ σ',P ts.length σ'→u DT σ'):sSeq (sFor ti g tb) u DT σ :=
  forx (DT:={ DT with nx:=u DT }) hti P h0 hs hd
theorem seq_own {t:AT} (ds:List D) (hz:ds.length≤1000) (h:∀ q:List D→Prop,q ds→t σ q) (k:u DT (σ.set i (.own ds))):sSeq (sOwn i t) u DT σ:=h _ ⟨hz,k⟩
theorem seq_app {ts:List D} (v:D) (ho:σ[i]?=some (.own ts)) (hz:ts.length≤100000) (h:∀ q:D→Prop,q v→te σ q) (k:u DT (σ.set i (.own (ts++[v])))):sSeq (sApp i te) u DT σ:=⟨ts,ho,h _ ⟨hz,k⟩⟩
theorem one_app {ts:List D} (v:D) (ho:σ[i]?=some (.own ts)) (hz:ts.length≤100000) (h:∀ q:D→Prop,q v→te σ q) (k:DT.nx (σ.set i (.own (ts++[v])))):sApp i te DT σ:=⟨ts,ho,h _ ⟨hz,k⟩⟩
theorem one_set (v:D) (h:∀ q:D→Prop,q v→te σ q) (k:DT.nx (σ.set i (.val v))):sSet i te DT σ:=h _ k
end
end TL

set_option Elab.async false
set_option linter.all false
set_option maxRecDepth 100000
namespace TL
open PySem PySem.Spec PyProof.Rows L2
mutual
theorem noDict:∀ {d:D},d.canLay0=true→d.hasDict=false
  | .none,_=>rfl
  | .bool _,_=>rfl
  | .int _,_=>rfl
  | .str _,_=>rfl
  | .list _,h=>noDictAll h
  | .tuple _,h=>noDictAll h
  | .dict _,h=>by cases h
theorem noDictAll:∀ {ds:List D},PyData.canLayAll0 ds=true→PyData.hasDictAll ds=false
  | [],_=>rfl
  | d::ds,h=>by
    have h':(d.canLay0 && PyData.canLayAll0 ds)=true:=h
    rw [Bool.and_eq_true] at h'
    show (d.hasDict || PyData.hasDictAll ds)=false
    rw [noDict h'.1,noDictAll h'.2]; rfl
end
section
variable {X:Cx} {a b e:Expr} {es:List Expr} {te:ET} {pos:Pos}
def rData (K:PySem.W.Frag) (ok:D→D→Prop) (f:D→D→Bool):R2:=fun x y H Q=>∃ d1 d2,Rep K H d1 x∧Rep K H d2 y∧ok d1 d2∧Q (.bl (f d1 d2)) H
def fData (ok:D→D→Prop) (f:D→D→Bool) (x y:D) (Q:D→Prop):Prop:=ok x y∧Q (.bool (f x y))
theorem o_data {ok:D→D→Prop} {f:D→D→Bool}:Op2 X (rData X.K ok f) (fData ok f):=by
  intro H ps d1 d2 x y Q QV live r1 r2 h k
  exact ⟨d1,d2,r1.same mask_le,r2.same mask_le,h.1,k _ _ H (L2.Same.refl H) (.bool _) h.2⟩
def okEq (d1 d2:D):Prop:=d1.canLay0=true∧d2.canLay0=true∧min d1.depth d2.depth≤60
theorem op_eqD {k:Nat} (hr:Room k X.A):OpR X (compareOp .Eq) (rData X.K okEq PyData.eqv):=by
  intro pins s σ H x y v u Q I rx ry h
  obtain ⟨d1,d2,r1,r2,⟨c1,c2,hm⟩,q⟩:=h
  obtain ⟨as,h1⟩:=Rep.reads I (noDict c1) r1 rx
  obtain ⟨bs,h2⟩:=Rep.reads I (noDict c2) r2 ry
  exact SeqAt.compareEq_reads h1 h2 c1 c2 (by have:=hr.un; omega) ⟨.bl _,H,I,rfl,q⟩
theorem op_neD {k:Nat} (hr:Room k X.A):OpR X (compareOp .NotEq) (rData X.K okEq fun x y=>!PyData.eqv x y):=by
  intro pins s σ H x y v u Q I rx ry h
  obtain ⟨d1,d2,r1,r2,⟨c1,c2,hm⟩,q⟩:=h
  obtain ⟨as,h1⟩:=Rep.reads I (noDict c1) r1 rx
  obtain ⟨bs,h2⟩:=Rep.reads I (noDict c2) r2 ry
  exact SeqAt.compareNe_reads h1 h2 c1 c2 (by have:=hr.un; omega) ⟨.bl _,H,I,rfl,q⟩
def okIn (x y:D):Prop:=match y with
  | .list ts=>PyData.canLayAll0 ts=true∧x.canLay0=true∧min (PyData.depthAll ts) x.depth≤60
  | .tuple ts=>PyData.canLayAll0 ts=true∧x.canLay0=true∧min (PyData.depthAll ts) x.depth≤60
  | _=>False
def inD (x y:D):Bool:=match y with
  | .list ts=>ts.any fun z=>PyData.eqv z x
  | .tuple ts=>ts.any fun z=>PyData.eqv z x
  | _=>false
theorem op_inData {k:Nat} (hr:Room k X.A):OpR X (compareOp .In) (rData X.K okIn inD):=by
  intro pins s σ H x y v u Q I rx ry h
  obtain ⟨d1,d2,r1,r2,ho,q⟩:=h
  have hd:d1.hasDict=false∧d2.hasDict=false:=by
    cases d2 with
    | list ts=>exact ⟨noDict ho.2.1,noDictAll ho.1⟩
    | tuple ts=>exact ⟨noDict ho.2.1,noDictAll ho.1⟩
    | _=>exact ho.elim
  obtain ⟨as,h1⟩:=Rep.reads I hd.1 r1 rx
  obtain ⟨bs,h2⟩:=Rep.reads I hd.2 r2 ry
  cases d2 with
  | list ts=>exact SeqAt.in_list_reads h2 h1 ho.1 ho.2.1 (by have:=hr.un; have:=ho.2.2; omega) ⟨.bl _,H,I,rfl,q⟩
  | tuple ts=>exact SeqAt.in_tuple_reads h2 h1 ho.1 ho.2.1 (by have:=hr.un; have:=ho.2.2; omega) ⟨.bl _,H,I,rfl,q⟩
  | _=>exact ho.elim
theorem op_notInData {k:Nat} (hr:Room k X.A):OpR X (compareOp .NotIn) (rData X.K okIn fun x y=>!inD x y):=by
  intro pins s σ H x y v u Q I rx ry h
  obtain ⟨d1,d2,r1,r2,ho,q⟩:=h
  have hd:d1.hasDict=false∧d2.hasDict=false:=by
    cases d2 with
    | list ts=>exact ⟨noDict ho.2.1,noDictAll ho.1⟩
    | tuple ts=>exact ⟨noDict ho.2.1,noDictAll ho.1⟩
    | _=>exact ho.elim
  obtain ⟨as,h1⟩:=Rep.reads I hd.1 r1 rx
  obtain ⟨bs,h2⟩:=Rep.reads I hd.2 r2 ry
  cases d2 with
  | list ts=>exact SeqAt.notIn_list_reads h2 h1 ho.1 ho.2.1 (by have:=hr.un; have:=ho.2.2; omega) ⟨.bl _,H,I,rfl,q⟩
  | tuple ts=>exact SeqAt.notIn_tuple_reads h2 h1 ho.1 ho.2.1 (by have:=hr.un; have:=ho.2.2; omega) ⟨.bl _,H,I,rfl,q⟩
  | _=>exact ho.elim
def fIn2 (x y:D) (Q:D→Prop):Prop:=match x,y with
  | .str z,.str y=>Q (.bool (Txt.contains y z))
  | x,y=>okIn x y∧Q (.bool (inD x y))
theorem op_in2 {k:Nat} (hr:Room k X.A):OpR X (compareOp .In) (fun x y H Q=>(∃ i j,x=.str i∧y=.str j∧Q (.bl (!(Builtin.Str.occurrences j i 0 j.length 1).isEmpty)) H) ∨ rData X.K okIn inD x y H Q):=op_in_str.or (op_inData hr)
theorem o_in2:Op2 X (fun x y H Q=>(∃ i j,x=.str i∧y=.str j∧Q (.bl (!(Builtin.Str.occurrences j i 0 j.length 1).isEmpty)) H) ∨ rData X.K okIn inD x y H Q) fIn2:=by
  intro H ps d1 d2 x y Q QV live r1 r2 h k
  have gen:okIn d1 d2∧Q (.bool (inD d1 d2))→_:=fun h=>(.inr ⟨d1,d2,r1.same mask_le,r2.same mask_le,h.1,k _ _ H (L2.Same.refl H) (.bool _) h.2⟩:(∃ i j,x=.str i∧y=.str j∧QV (.bl (!(Builtin.Str.occurrences j i 0 j.length 1).isEmpty)) H) ∨ rData X.K okIn inD x y H QV)
  cases r1 with
  | str z =>
    cases r2 with
    | str w=>exact .inl ⟨z,w,rfl,rfl,k _ _ H (L2.Same.refl H) (.bool _) h⟩
    | _=>exact gen h
  | _=>exact gen h
def isNoneD:D→Bool
  | .none=>true
  | _=>false
def fIs (x y:D) (Q:D→Prop):Prop:=match y with | .bool b=>Q (.bool (isTrueD b x)) | .none=>Q (.bool (isNoneD x)) | _=>False
def fIsNot2 (x y:D) (Q:D→Prop):Prop:=match y with | .bool b=>Q (.bool (!isTrueD b x)) | .none=>Q (.bool (!isNoneD x)) | _=>False
theorem op_is2:OpR X (compareOp .Is) (fun x y H Q=>rIsB x y H Q ∨ (y=.non∧Q (.bl (decide (x=.non))) H)):=op_isB.or op_isN
theorem op_isNot2:OpR X (compareOp .IsNot) (fun x y H Q=>rIsNotB x y H Q ∨ (y=.non∧Q (.bl (!decide (x=.non))) H)):=op_isNotB.or op_notN
theorem o_is2:Op2 X (fun x y H Q=>rIsB x y H Q ∨ (y=.non∧Q (.bl (decide (x=.non))) H)) fIs:=by
  intro H ps d1 d2 x y Q QV live r1 r2 h k
  cases r2 with
  | bool b =>
    refine .inl ⟨b,rfl,?_⟩
    have e:(decide (x=V.bl b))=isTrueD b d1:=by cases r1 <;> simp [isTrueD]
    rw [e]
    exact k _ _ H (L2.Same.refl H) (.bool _) h
  | none =>
    refine .inr ⟨rfl,?_⟩
    have e:(decide (x=V.non))=isNoneD d1:=by cases r1 <;> simp [isNoneD]
    rw [e]
    exact k _ _ H (L2.Same.refl H) (.bool _) h
  | _=>exact h.elim
theorem o_isNot2:Op2 X (fun x y H Q=>rIsNotB x y H Q ∨ (y=.non∧Q (.bl (!decide (x=.non))) H)) fIsNot2:=by
  intro H ps d1 d2 x y Q QV live r1 r2 h k
  cases r2 with
  | bool b =>
    refine .inl ⟨b,rfl,?_⟩
    have e:(!decide (x=V.bl b))=!isTrueD b d1:=by cases r1 <;> simp [isTrueD]
    rw [e]
    exact k _ _ H (L2.Same.refl H) (.bool _) h
  | none =>
    refine .inr ⟨rfl,?_⟩
    have e:(!decide (x=V.non))=!isNoneD d1:=by cases r1 <;> simp [isNoneD]
    rw [e]
    exact k _ _ H (L2.Same.refl H) (.bool _) h
  | _=>exact h.elim
end
end TL

set_option Elab.async false
set_option linter.all false
set_option maxRecDepth 100000
namespace L2
open PySem PySem.Spec PyProof.Rows
section
variable {P:Program} {w:World} {A:Around} {E:Value→Shared→Prop} {s:Shared}
end
section
variable {P:Program} {w:World} {A:Around} {E:Value→Shared→Prop} {s:Shared} {z TI TO i1 i2 l1 l2:Addr} {st1 st2:Nat→Heap→Prop} {src1 src2:Array Value→Heap→Prop} {k:Nat} {xs ys:Array Value} {a b:Value}
end
section
variable {X:Cx} {pins:List (Addr × Obj)} {σ:St} {H:Hp} {s:Shared} {h':Heap}
theorem Inv.turnedL {t':Nat} {ch:List Addr} (I:Inv X pins σ H s) (hf:∀ b ∈ ch,FpOk X pins H b) (k:∀ b o,b ∉ ch→s.heap.get? b=some o→h'.get? b=some o):Inv X pins σ H { s with heap:=h',toks:=t' }:=by
  have nit:∀ b u,H b=some u→b ∉ ch:=fun b u e z=>by rw [(hf b z).1] at e; cases e
  have hL:X.env.locals ∉ ch:=fun z=>(hf _ z).2.1 rfl
  refine I.step (g':=s.gens) (d':=s.drawn) (ch:=ch) (fun b hb=>?_) (fun b o _ _ hc e _=>k b o hc e) (fun b o _ _ hc e _=>⟨o.slots,k b o hc e⟩) (fun _ _ _ _ n=>n)
    (fun b o hc e=>⟨o,k b o hc e⟩) (fun _ _ e=>e) (fun _ _ _ e=>e) (fun b ps e=>⟨#[],by rw [e]; simp⟩) (fun m hm=>?_) (fun b u e=>?_) I.bare
  · obtain ⟨f0,f1,f2,f3,f4,f5⟩:=hf b hb
    exact ⟨f3,f1,f4,f5⟩
  · obtain ⟨o,es,ep,ho,r⟩:=hm
    exact ⟨o,es,ep,k _ o hL ho,r⟩
  · refine (I.hok b u e).stay (fun c v hc q=>k c v ?_ q) (fun _ q=>q) fun _ _ q=>q
    rcases hc with z | z
    · rw [z]; exact nit b u e
    · exact nit c _ z
theorem Inv.turnedNew {t':Nat} {ch:List Addr} {T:Addr} {o:HO} (I:Inv X pins σ H s) (hf:∀ b ∈ ch,FpOk X pins H b) (k:∀ b u,b ∉ ch→s.heap.get? b=some u→h'.get? b=some u) (hp:s.heap.objs.size≤T) (new:ObjOk X.prog X.w (upd H T o) h' T o) :
    Inv X pins σ (upd H T o) { s with heap:=h',toks:=t' }:=by
  have nit:∀ b u,H b=some u→b ∉ ch:=fun b u e z=>by rw [(hf b z).1] at e; cases e
  have hL:X.env.locals ∉ ch:=fun z=>(hf _ z).2.1 rfl
  have hn:H T=none:=I.hok.fresh hp
  have ne:∀ b u,H b=some u→(upd H T o) b=some u:=fun b u e=>by rw [upd_ne (ne_of_none e hn)]; exact e
  have ne2:∀ b u,s.heap.get? b=some u→b ≠ T:=fun b u e z=>by
    exact absurd (Nat.lt_of_lt_of_le (Heap.lt_size e) hp) (by rw [z]; exact Nat.lt_irrefl _)
  refine I.step (g':=s.gens) (d':=s.drawn) (ch:=ch) (fun b hb=>?_) (fun b o _ _ hc e _=>k b o hc e) (fun b o _ _ hc e _=>⟨o.slots,k b o hc e⟩) (fun b u _ e n=>by rw [upd_ne (ne2 b u e)]; exact n)
    (fun b o hc e=>⟨o,k b o hc e⟩) (fun b xs e=>ne _ _ e) (fun b u v e=>ne _ _ e) (fun b ps e=>⟨#[],by rw [ne _ _ e]; simp⟩) (fun m hm=>?_) (fun b u e=>?_) I.bare
  · obtain ⟨f0,f1,f2,f3,f4,f5⟩:=hf b hb
    exact ⟨f3,f1,f4,f5⟩
  · obtain ⟨o,es,ep,ho,r⟩:=hm
    exact ⟨o,es,ep,k _ o hL ho,r⟩
  · by_cases hb:b=T
    · subst hb; rw [upd_same] at e; cases e; exact new
    · rw [upd_ne hb] at e
      refine (I.hok b u e).stay (fun c v hc q=>k c v ?_ q) (fun c q=>ne _ _ q) fun c xs q=>ne _ _ q
      rcases hc with z | z
      · rw [z]; exact nit b u e
      · exact nit c _ z
end
end L2
namespace L2
open PySem PySem.Spec PyProof.Rows
section
variable {P:Program} {w:World} {A:Around} {E:Value→Shared→Prop} {s:Shared}
end
section
variable {X:Cx}
end
end L2
namespace TL
open PySem PySem.Spec PyProof.Rows L2
variable {K:PySem.W.Frag}
def zipD (as bs:List D):List D:=(as.zip bs).map fun p=>.tuple [p.1,p.2]
theorem zipD_len (as bs:List D):(zipD as bs).length=min as.length bs.length:=by unfold zipD; simp
section
variable {X:Cx} {a b:Expr} {pos:Pos}
end
section
variable {fr:List (Option Nat)} {ti:IT} {tt:TTt} {te:ET} {σ:List Sl} {Q:D→Prop} {ts:List D}
theorem set2_set2 {α:Type} (l:List α) (a b c d:α):(((l.set 0 a).set 1 b).set 0 c).set 1 d=(l.set 0 c).set 1 d:=by
  match l with
  | []=>rfl
  | [_]=>rfl
  | _::_::_=>rfl
theorem lcp_map (hti:Gives' ti σ ts) (f:D→D) (hz:ts.length≤100000) (hp:∀ x ∈ ts,∃ a b,x=.tuple [a,b]) (ht:∀ (a b:D) (q:D→Prop),.tuple [a,b] ∈ ts→q (f (.tuple [a,b]))→te (((inBlkT fr σ).set 0 (.val a)).set 1 (.val b)) q) (hq:Q (.list (ts.map f))):eLc fr ti (gP 0 1) cTrue te σ Q:=by
  refine hti _ ⟨hz,fun k σ' ds=>(∀ x y,(σ'.set 0 (.val x)).set 1 (.val y)=((inBlkT fr σ).set 0 (.val x)).set 1 (.val y))∧ds=(ts.take k).map f,⟨fun _ _=>rfl,rfl⟩,fun k x σ' ds hx h=>?_,fun σ' ds h=>?_⟩
  · obtain ⟨h1,rfl⟩:=h
    have hm:x ∈ ts:=List.mem_of_getElem? hx
    obtain ⟨a,b,rfl⟩:=hp x hm
    refine ⟨a,b,rfl,?_⟩
    show te ((σ'.set 0 (.val a)).set 1 (.val b)) _
    rw [h1 a b]
    refine ht a b _ hm ⟨fun x y=>set2_set2 _ _ _ _ _,?_⟩
    rw [List.take_add_one,hx,List.map_append]; rfl
  · obtain ⟨_,rfl⟩:=h
    rw [List.take_length]; exact hq
end
end TL

set_option Elab.async false
set_option linter.all false
set_option maxRecDepth 100000
namespace L2
open PySem PySem.Spec PyProof.Rows PySem.SeqAt
open AutoSeq1 (wpAny_loadPart')
theorem tuple_indexAt (l:Addr) (items:Array Value) (n:Nat) (dd:Option Addr) (sl:Array (Option Value)) (x:Value) (e:Value→Bool) (j:Nat) (hj:j < items.size) (hit:e items[j]=true) (hno:∀ m (hm:m < items.size),m < j→e items[m]=false) :
    Meets (Builtin.«tuple.index» ⟨[.ref l,x],[]⟩)
      (fun A R s=>s.heap.get? l=some { cls:=.type "tuple",dict:=dd,data:=.seq items n,slots:=sl }∧(∀ y,y ∈ items→EqAt A.in1 s y x (e y))∧R (.ok (.ret (.int j s.toks))) { s with toks:=s.toks + 1 }):=by
  intro prog w A R s h
  obtain ⟨hp,g,d,tk,os⟩:=s; obtain ⟨hl,he,h⟩:=h
  unfold Builtin.«tuple.index»
  simp only [Std.Legacy.Range.forIn_eq_forIn_range']
  wp_walk using wpAny_loadPart' hl
  have hN:([:min items.size items.size]:Std.Legacy.Range).size=items.size:=by simp [Std.Legacy.Range.size]
  rw [hN]
  show wpAny _ _ (forIn (List.range' 0 items.size) (none,()) _) _ _ _
  refine wpAny_forIn_list _ (fun rest b s'=>b=(none,())∧s'=⟨hp,g,d,tk,os⟩∧∃ k,rest=List.range' k (items.size - k)∧k≤j) _ (fun i rest b s' h1=>?_) (fun b s' h1=>?_) _ _ ⟨rfl,rfl,0,by simp,Nat.zero_le _⟩
  · obtain ⟨rfl,rfl,k,hr,hk⟩:=h1
    have hkN:k < items.size:=by omega
    have e1:items.size - k=(items.size - (k + 1)) + 1:=by omega
    rw [e1,List.range'_succ] at hr
    obtain ⟨rfl,rfl⟩:=List.cons.inj hr
    have hi:items[i]?=some items[i]:=by simp [hkN]
    rw [hi]
    refine wpAny_bind (he _ (Array.getElem_mem hkN) prog w _ _ ?_)
    by_cases hij:i=j
    · subst hij
      rw [hit,if_pos rfl]
      wp_walk
      exact h
    · have hlt:i < j:=by omega
      rw [hno i hkN hlt,if_neg (by decide)]
      exact wpAny_pure ⟨rfl,rfl,i + 1,rfl,hlt⟩
  · obtain ⟨_,_,k,hr,hk⟩:=h1
    have:=congrArg List.length hr
    simp at this
    omega
section
variable {X:Cx}
end
end L2
namespace TL
open PySem PySem.Spec PyProof.Rows L2 PySem.SeqAt
section
variable {X:Cx} {a b e:Expr} {es:List Expr} {te ta tb:ET} {pos:Pos}
def okIx (ts:List D) (d:D) (j:Nat):Prop:=PyData.canLayAll0 ts=true∧d.canLay0=true∧min (PyData.depthAll ts) d.depth≤60∧(∃ t,ts[j]?=some t∧PyData.eqv t d=true)∧∀ (m:Nat) t,m < j→ts[m]?=some t→PyData.eqv t d=false
def rIndex (K:PySem.W.Frag):V→List V→Hp→VK→Prop:=fun x xs H Q=>∃ (y:V) (ts:List D) (d:D) (j:Nat),xs=[y]∧Rep K H (.tuple ts) x∧Rep K H d y∧okIx ts d j∧Q (.int j) H
theorem mt_indexU (hu:X.A.units + 200 < cLine):MtR X "tuple.index" (rIndex X.K):=by
  intro pins s σ H x xs v us Q I rx rv h
  obtain ⟨y,ts,d,j,rfl,r1,r2,⟨c1,c2,hm,⟨t,ht,he⟩,hno⟩,q⟩:=h
  obtain ⟨u,rfl,ru⟩:=rv.one
  obtain ⟨as,h1⟩:=Rep.reads I (show (PyData.tuple ts).hasDict=false from noDictAll c1) r1 rx
  obtain ⟨bs,h2⟩:=Rep.reads I (noDict c2) r2 ru
  cases h1 with
  | @tuple l o items n _ as' h3 h4 h5 h6 =>
    have hmap:=readsAll_map ts items.toList _ c1 h6
    have hlen:items.size=ts.length:=by rw [← hmap,List.length_map,Array.length_toList]
    have hjl:j < ts.length:=(List.getElem?_eq_some_iff.mp ht).1
    have hj:j < items.size:=by omega
    have rd:∀ (m:Nat) (hm:m < items.size),ts[m]?=some (readOf s.heap items[m]):=fun m hm=>by
      rw [← hmap,List.getElem?_map]
      simp [hm]
    obtain ⟨oc,od,odt,osl⟩:=o
    cases h4
    cases h5
    refine call_meets F.slot_tuple_index ⟨_,h3,rfl⟩ F.entry_tuple_index (F.args_tuple_index_2 _ _) (tuple_indexAt _ items _ od osl u (fun y=>PyData.eqv (readOf s.heap y) d) j hj ?_ ?_) ⟨h3,items_eqAt h6 h2 c1 c2 (by have:=hu; omega),?_⟩
    · have:=rd j hj
      rw [ht] at this
      rw [← Option.some.inj this]; exact he
    · intro m hm' hlt
      exact hno m _ hlt (rd m hm')
    · exact ⟨.int j,H,I.tok _,⟨_,rfl⟩,q⟩
theorem mt_index {k:Nat} (hr:Room k X.A):MtR X "tuple.index" (rIndex X.K):=mt_indexU (by have:=hr.un; omega)
def eIndex (te:ET) (t:AT):ET:=fun σ Q=>te σ fun d=>∃ ts,d=.tuple ts∧t σ fun ds=>∃ (x:D) (j:Nat),ds=[x]∧okIx ts x j∧Q (.int j)
theorem et_index {n:Expr} {ap:Pos} {t:AT} (hn:PEt X n te) (ha:PAt X (e::es) t)
    (pc:∀ {v:TE} {ta:TA},PE X n v→PA X (e::es) ta→PE X (.Call (.Attribute n "index" ap) (e::es) [] pos) (tBM X.K "tuple" (rIndex X.K) v ta)):PEt X (.Call (.Attribute n "index" ap) (e::es) [] pos) (eIndex te t):=by
  obtain ⟨v,pe,re⟩:=hn
  obtain ⟨va,pa,ra⟩:=ha
  refine ⟨_,pc pe pa,fun B p0 H ps σT σ Q QV o h k=>re B p0 H ps σT σ _ _ o h fun d x H1 s1 r1 q1=>?_⟩
  obtain ⟨ts,rfl,q1⟩:=q1
  cases r1 with
  | @tuple p xs _ hq rs =>
    refine ⟨.inr (.inl ⟨rfl,.inr ⟨_,Same.seqT mask_le hq⟩⟩),ra B p0 H1 ps σT σ _ _ (o.grow s1) q1 fun ds ys H2 s2 r2 q2=>?_⟩
    obtain ⟨d,j,rfl,hok,q⟩:=q2
    cases r2 with
    | cons r3 r4 =>
      cases r4
      exact ⟨_,ts,d,j,rfl,(Rep.tuple hq rs).same ((mask_same s2).trans mask_le),r3.same mask_le,hok,k _ _ H2 (s1.trans s2) (.int _) q⟩
end
end TL

set_option Elab.async false
set_option linter.all false
set_option maxRecDepth 100000
namespace TL
open PySem PySem.Spec PyProof.Rows L2
section
variable {K:PySem.W.Frag} {H H':Hp} {B:Hp} {p0 ps:List Addr} {σT:List Sl} {σ:L2.St}
def flatD:D→Bool
  | .none=>true
  | .bool _=>true
  | .int _=>true
  | .str _=>true
  | _=>false
theorem Rep.flat {d:D} {v:V} (r:Rep K H d v) (h:flatD d=true):Rep K H' d v:=by
  cases r with
  | none=>exact .none
  | bool b=>exact .bool b
  | int i=>exact .int i
  | str x=>exact .str x
  | _=>cases h
theorem Reps.snoc:∀ {ts:List D} {d:D} {xs:List V},Reps K H (ts++[d]) xs→∃ ys y,xs=ys++[y]∧Reps K H ts ys∧Rep K H d y
  | [],d,_,r=>by
    rw [List.nil_append] at r
    cases r with
    | cons r1 r2=>cases r2; exact ⟨[],_,rfl,.nil,r1⟩
  | t::ts,d,_,r=>by
    rw [List.cons_append] at r
    cases r with
    | cons r1 r2 =>
      obtain ⟨ys,y,rfl,h1,h2⟩:=Reps.snoc r2
      exact ⟨_::ys,y,rfl,.cons r1 h1,h2⟩
theorem Reps.put:∀ {ts:List D} {xs:List V} (n:Nat) {d:D} {v:V},Reps K H ts xs→Rep K H d v→Reps K H (ts.set n d) (xs.set n v)
  | _,_,_,_,_,.nil,_=>.nil
  | _,_,0,_,_,.cons _ t,r=>.cons r t
  | _,_,n + 1,_,_,.cons s t,r=>.cons s (Reps.put n t r)
def without (H:Hp) (p:Addr):Hp:=fun b=>if b=p then none else H b
theorem without_mask {p:Addr}:mask (without H p) ps=mask H (p::ps):=by
  funext b
  unfold mask without
  by_cases h1:b=p
  · simp [h1]
  · by_cases h2:b ∈ ps <;> simp [h1,h2]
theorem without_same {p:Addr} (s:Same H H') (hp:H p=none):Same H (without H' p):=fun b o e=>by
  unfold without
  rw [if_neg fun z=>by rw [z,hp] at e; cases e]
  exact s b o e
theorem without_upd {p:Addr} {u:HO} (hx:H p=some u):upd (without H p) p u=H:=by
  funext b
  by_cases h:b=p
  · subst h; rw [upd_same,hx]
  · rw [upd_ne h]
    unfold without
    rw [if_neg h]
theorem Same.free' (s:Same H H') {p:Addr} (h:H' p=none):H p=none:=by
  cases q:H p with
  | none=>rfl
  | some u=>rw [s p u q] at h; cases h
theorem Ok.takeOwn (o:Ok K B p0 H ps σT σ) {i:Nat} {ts:List D} {xs:List V} {p:Addr} (s:Same H H') (hp:H p=none) (hx:H' p=some (.lst xs)) (r:Reps K (mask H' (p::ps)) ts xs) :
    Ok K B p0 H' (p::ps) (σT.set i (.own ts)) (σ.set i (some (.ref p))):=by
  have o1:=o.grow (without_same s hp)
  have hn:without H' p p=none:=by unfold without; rw [if_pos rfl]
  have:=o1.setOwn (i:=i) (ts:=ts) (xs:=xs) hn (by rw [without_mask]; exact r)
  rwa [without_upd hx] at this
end
section
variable {X:Cx} {a b c e:Expr} {es:List Expr} {ta tb te:ET} {pos:Pos}
def cBorrow (i:Nat) (t:TTt):TTt:=fun σ Q=>∃ ts,σ[i]?=some (.own ts)∧t (σ.set i (.val (.list ts))) Q
theorem tt_borrow (i:Nat) {t:TTt} (h:PTt X e t):PTt X e (cBorrow i t):=by
  obtain ⟨v,p,r⟩:=h
  refine ⟨_,p,fun B p0 H ps σT σ Q QV o h k=>?_⟩
  obtain ⟨ts,e,h⟩:=h
  obtain ⟨ps',o',s'⟩:=o.share e
  exact r B p0 H ps' _ σ _ _ o' h k
abbrev FT:=List Sl→(List D→Prop)→Prop
def PFt (X:Cx) (e:Expr) (t:FT):Prop:=∃ te:TE,PE X e te∧∀ (B:Hp) (p0:List Addr) (H:Hp) (ps:List Addr) (σT:List Sl) (σ:L2.St) (Q:List D→Prop) (QV:VK),Ok X.K B p0 H ps σT σ→t σT Q →
  (∀ ts p xs H',Same H H'→H p=none→H' p=some (.lst xs)→Reps X.K (mask H' (p::ps)) ts xs→Q ts→QV (.ref p) H')→te σ H QV
def eFr (t:FT):ET:=fun σ Q=>t σ fun ts=>Q (.list ts)
theorem et_fr {t:FT} (h:PFt X e t):PEt X e (eFr t):=by
  obtain ⟨v,p,r⟩:=h
  refine ⟨_,p,fun B p0 H ps σT σ Q QV o h k=>r B p0 H ps σT σ _ _ o h fun ts p xs H' s hp hx rs q=>k _ _ H' s ?_ q⟩
  exact .list (SqL.of (mask_at (fresh_notin o.live hp) hx)) (rs.same (mask_sub fun q hq=>List.mem_cons_of_mem _ hq))
def fLc (fr:List (Option Nat)) (ti:IT) (g:GT) (tt:TTt) (te:ET):FT:=fun σ Q=>ti σ fun ts=>ts.length≤100000∧∃ P:Nat→List Sl→List D→Prop,P 0 (inBlkT fr σ) [] ∧
  (∀ (k:Nat) (x:D) (σ':List Sl) (ds:List D),ts[k]?=some x→P k σ' ds→g x σ' fun σ2=>tt σ2 fun b=>if b=true then te σ2 fun y=>P (k + 1) σ2 (ds++[y]) else P (k + 1) σ2 ds)∧∀ σ' ds,P ts.length σ' ds→Q ds
def asL (Q:List D→Prop) (d:D):Prop:=match d with | .list ds=>Q ds | _=>False
theorem fLc_of {fr:List (Option Nat)} {ti:IT} {g:GT} {tt:TTt} {te:ET} {σ:List Sl} {Q:List D→Prop} (h:eLc fr ti g tt te σ (asL Q)):fLc fr ti g tt te σ Q:=h
theorem lc_readF {fr:List (Option Nat)} {ti:IT} {g:GT} {tt:TTt} {te:ET} {wi:TI} {gv:BP→TG} {vt:BP→TT} {ve:BP→TE}
    (ri:∀ (B:Hp) (p0:List Addr) (H:Hp) (ps:List Addr) (σT:List Sl) (σ:L2.St) (Q:List D→Prop) (R:It→Hp→Prop),Ok X.K B p0 H ps σT σ→ti σT Q→(∀ ts J H',Same H H'→Runs X.K (mask H' ps) ts J→Q ts→R J H')→wi σ H R)
    (rg:∀ (bp:BP) (B:Hp) (p0:List Addr) (H:Hp) (ps:List Addr) (σT:List Sl) (σ:L2.St) (d:D) (v:V) (Q:List Sl→Prop) (QV:L2.St→Hp→Prop),Ok X.K B p0 H ps σT σ→Rep X.K (mask H ps) d v→g d σT Q→(∀ σT' σ',Ok X.K B p0 H ps σT' σ'→(noOwn σT→noOwn σT')→Q σT'→QV σ' H)→gv bp v σ H QV)
    (rt:∀ (bp:BP) (B:Hp) (p0:List Addr) (H:Hp) (ps:List Addr) (σT:List Sl) (σ:L2.St) (Q:Bool→Prop) (QV:Bool→Hp→Prop),Ok X.K B p0 H ps σT σ→tt σT Q→(∀ b H',Same H H'→Q b→QV b H')→vt bp σ H QV)
    (re:∀ (bp:BP) (B:Hp) (p0:List Addr) (H:Hp) (ps:List Addr) (σT:List Sl) (σ:L2.St) (Q:D→Prop) (QV:VK),Ok X.K B p0 H ps σT σ→te σT Q→(∀ d v H',Same H H'→Rep X.K (mask H' ps) d v→Q d→QV v H')→ve bp σ H QV)
    (B:Hp) (p0:List Addr) (H:Hp) (ps:List Addr) (σT:List Sl) (σ:L2.St) (Q:List D→Prop) (QV:VK) (o:Ok X.K B p0 H ps σT σ) (h:fLc fr ti g tt te σT Q) (k:∀ ts p xs H',Same H H'→H p=none→H' p=some (.lst xs)→Reps X.K (mask H' (p::ps)) ts xs→Q ts→QV (.ref p) H'):tLc fr wi gv vt ve σ H QV:=by
  refine ri B p0 H ps σT σ _ _ o h fun ts J H1 s1 rj q1=>?_
  obtain ⟨hz,P,h0,hs,hd⟩:=q1
  intro bp acc hacc
  have hBacc:B acc=none:=Same.free' (o.grow s1).base hacc
  refine ⟨fun i m σ' H'=>m=ts.length - i∧i≤ts.length∧∃ σT' ds ys,Ok X.K B p0 H' (acc::ps) σT' σ'∧noOwn σT'∧H' acc=some (.lst ys)∧ds.length≤i∧Reps X.K (mask H' (acc::ps)) ds ys∧Same (mask H1 ps) (mask H' (acc::ps))∧Same H1 H'∧P i σT' ds,
    ⟨_,rfl,Nat.zero_le _,inBlkT fr σT,[],[],((o.grow s1).blk fr).adopt hacc,noOwn_blk fr σT,upd_same,Nat.le_refl _,.nil,by rw [mask_new hacc]; exact L2.Same.refl _,same_new hacc,h0⟩,?_⟩
  rintro i m σ' H' ⟨rfl,hle,σT',ds,ys,o',n',ha,hl,hr,s',sF,p'⟩
  have hL:sizeLine=2 ^ 24:=rfl
  by_cases hlt:i < ts.length
  · refine .inr ⟨rj.go i H' (s'.trans mask_le) hlt,fun y H2 hy=>?_⟩
    obtain ⟨s2,dx,hx,rx⟩:=rj.yld i H' (acc::ps) y H2 o'.live s' hlt hy
    refine rg bp B p0 H2 (acc::ps) σT' σ' dx y _ _ (o'.grow s2) rx (hs i dx σT' ds hx p') fun σT3 σ3 o3 n3 q3=>?_
    refine rt bp B p0 H2 (acc::ps) σT3 σ3 _ _ o3 q3 fun b H4 s4 q4=>?_
    have s24:=s2.trans s4
    cases b with
    | false =>
      exact ⟨ts.length - (i + 1),by omega,rfl,hlt,σT3,ds,ys,o3.grow s4,n3 n',s24 _ _ ha,by omega,hr.same (mask_same s24),s'.trans (mask_same s24),sF.trans s24,q4⟩
    | true =>
      refine re bp B p0 H4 (acc::ps) σT3 σ3 _ _ (o3.grow s4) q4 fun d v H5 s5 r5 q5=>?_
      have s25:=s24.trans s5
      have hm:mask (upd H5 acc (.lst (ys++[v]))) (acc::ps)=mask H5 (acc::ps):=mask_upd (List.mem_cons_self ..)
      refine ⟨ys,s25 _ _ ha,by rw [← hr.length]; omega,ts.length - (i + 1),by omega,rfl,hlt,σT3,ds++[d],ys++[v],((o3.grow s4).grow s5).aside (List.mem_cons_self ..) hBacc (n3 n'),n3 n',upd_same,by rw [List.length_append,List.length_singleton]; omega,?_,?_,?_,q5⟩
      · rw [hm]; exact (hr.same (mask_same s25)).append (.cons r5 .nil)
      · rw [hm]; exact s'.trans (mask_same s25)
      · intro b u e
        have ne:b ≠ acc:=fun z=>by rw [z,hacc] at e; cases e
        rw [upd_ne ne]; exact (sF.trans s25) b u e
  · obtain rfl:i=ts.length:=by omega
    exact .inl ⟨rj.stop _ H' (s'.trans mask_le) (Nat.le_refl _),k ds acc ys H' (s1.trans sF) (Same.free' s1 hacc) ha hr (hd σT' ds p')⟩
theorem lc_allF {elt iter tg:Expr} {ifs:List Expr} {scope:Scope} {fr:List (Option Nat)} {N':List Str} {ti:IT} {g:GT} {tt:TTt} {te:ET} (hi:PIt X tg iter ti)
    (hY:∀ b:BP,PGt (blk X scope N' b) tg g∧PIft (blk X scope N' b) ifs tt∧PEt (blk X scope N' b) elt te) {M:(TE)→Prop}
    (fin:∀ {wi:TI} {gv:BP→TG} {vt:BP→TT} {ve:BP→TE},PI X tg iter wi→(∀ b:BP,PG (blk X scope N' b) tg (gv b)∧PIf (blk X scope N' b) ifs (vt b)∧PE (blk X scope N' b) elt (ve b))→M (tLc fr wi gv vt ve)) :
    ∃ v:TE,M v∧∀ (B:Hp) (p0:List Addr) (H:Hp) (ps:List Addr) (σT:List Sl) (σ:L2.St) (Q:List D→Prop) (QV:VK),Ok X.K B p0 H ps σT σ→fLc fr ti g tt te σT Q →
      (∀ ts p xs H',Same H H'→H p=none→H' p=some (.lst xs)→Reps X.K (mask H' (p::ps)) ts xs→Q ts→QV (.ref p) H')→v σ H QV:=by
  obtain ⟨wi,pi,ri⟩:=hi
  refine ⟨_,fin (gv:=fun b=>Classical.choose (hY b).1) (vt:=fun b=>Classical.choose (hY b).2.1) (ve:=fun b=>Classical.choose (hY b).2.2) pi fun b=>⟨(Classical.choose_spec (hY b).1).1,(Classical.choose_spec (hY b).2.1).1,(Classical.choose_spec (hY b).2.2).1⟩,?_⟩
  exact lc_readF ri (fun b=>(Classical.choose_spec (hY b).1).2) (fun b=>(Classical.choose_spec (hY b).2.1).2) fun b=>(Classical.choose_spec (hY b).2.2).2
theorem ft_lc {elt iter tg:Expr} {ifs:List Expr} {scope:Scope} {fr:List (Option Nat)} {N':List Str} {ti:IT} {g:GT} {tt:TTt} {te:ET} (hi:PIt X tg iter ti)
    (hY:∀ b:BP,PGt (blk X scope N' b) tg g∧PIft (blk X scope N' b) ifs tt∧PEt (blk X scope N' b) elt te)
    (pl:∀ {wi:TI} {gv:BP→TG} {vt:BP→TT} {ve:BP→TE},PI X tg iter wi→(∀ b:BP,PG (blk X scope N' b) tg (gv b)∧PIf (blk X scope N' b) ifs (vt b)∧PE (blk X scope N' b) elt (ve b))→PE X (.ListComp elt [⟨tg,iter,ifs,0⟩] scope pos) (tLc fr wi gv vt ve)) :
    PFt X (.ListComp elt [⟨tg,iter,ifs,0⟩] scope pos) (fLc fr ti g tt te):=lc_allF hi hY pl
abbrev SpF:=List D→(List D→Prop)→Prop
def liftSpF (K:PySem.W.Frag) (sp:SpF):Sp:=fun vs H Q _=>∃ (ps:List Addr) (ds:List D) (QD:List D→Prop),(∀ p ∈ ps,H p ≠ none)∧Reps K (mask H ps) ds vs∧sp ds QD ∧
  ∀ ts p xs H',Same H H'→H p=none→H' p=some (.lst xs)→Reps K (mask H' (p::ps)) ts xs→QD ts→Q (.ref p) H'
def fCall (sp:SpF) (t:AT):FT:=fun σ Q=>t σ fun ds=>sp ds Q
theorem ft_call {k:Nat} {f:Addr} {fd:FuncData} {pn:List Str} {sp:SpF} {x:Str} {p:Pos} {t:AT} (F:FnOk X.prog X.w X.K X.mg X.base CX0 k f fd pn (liftSpF X.K sp)) (hm:X.mg x=some (.ref f)) (hk:PySem.W.keepIn X.K (.ref f)=true) (hb:Binds X.K fd pn [])
    (hr:Room k X.A) (ha:PAt X (e::es) t) (pc:∀ {ta:TA},PA X (e::es) ta→PE X (.Call (.Name x p) (e::es) [] pos) (tCall (liftSpF X.K sp) [] E0 ta)):PFt X (.Call (.Name x p) (e::es) [] pos) (fCall sp t):=by
  obtain ⟨v,pa,ra⟩:=ha
  refine ⟨_,pc pa,fun B p0 H ps σT σ Q QV o h k=>ra B p0 H ps σT σ _ _ o h fun ds xs H1 s1 r1 q1=>?_⟩
  show liftSpF X.K sp (xs++[]) H1 QV E0
  rw [List.append_nil]
  exact ⟨ps,ds,Q,(o.grow s1).live,r1,q1,fun ts p xs' H' s' hp hx rs q=>k ts p xs' H' (s1.trans s') (Same.free' s1 hp) hx rs q⟩
theorem fnF {P:Program} {w:World} {K:PySem.W.Frag} {mg:Str→Option Value} {base:Heap} {x qual:Str} {st:Stmt} {f:Addr} {fd:FuncData} {N pn:List Str} {k:Nat} {sp:SpF} (F:Fun K x qual st f fd) (S:FnScope N pn (defScope st)) (len:∀ ds Q,sp ds Q→ds.length=pn.length)
    (hbody:∀ (cdv:Value) (A:Around) (outer:List Env) (s:Shared) (H:Hp) (E:XK),Room k (A.deeper (envOfC qual (defScope st) s.heap.objs.size f cdv))→∀ (ds:List D) (Q:List D→Prop),sp ds Q →
      ∃ t,PSst (cxOf CX0 P w K mg base N qual (defScope st) f cdv A outer s H E).nox (defBody st) t∧t { nx:=fun _=>False,rt:=fun _=>False,ro:=Q } (startT N ds)):FnOk P w K mg base CX0 (k + 1) f fd pn (liftSpF K sp):=by
  refine F.ok S (fun vs H Q E h=>?_) fun cdv A outer s H vs Q E hr h=>?_
  · obtain ⟨ps,ds,QD,_,r,q,_⟩:=h
    rw [← r.length]; exact len ds QD q
  · obtain ⟨ps,ds,QD,live,r,q,k⟩:=h
    obtain ⟨t,⟨ts,p,rd⟩,h⟩:=hbody cdv A outer s H E hr ds QD q
    exact ⟨ts,p,rd H ps H ps _ _ _ _ (ok_start live r) h ⟨fun _ _ _ _ _ _ q'=>q'.elim,fun _ _ _ _ _ _ q'=>q'.elim,fun _ _ _ _ _ _ q'=>q'.elim,fun _ _ _ _ _ q'=>q'.elim,fun ts p xs H' s' hB hp hx rs q'=>k ts p xs H' s' hB hx rs q',fun _ _ _ _ _ _ _ _ _ _ _ _ _ _ _ _ _ _ q'=>q'.elim,True.intro⟩⟩
def sSetF (i:Nat) (t:FT):STt:=fun DT σ=>t σ fun ts=>DT.nx (σ.set i (.own ts))
theorem setF_read {i:Nat} {t:FT} {v:TE} (r:∀ (B:Hp) (p0:List Addr) (H:Hp) (ps:List Addr) (σT:List Sl) (σ:L2.St) (Q:List D→Prop) (QV:VK),Ok X.K B p0 H ps σT σ→t σT Q →
      (∀ ts p xs H',Same H H'→H p=none→H' p=some (.lst xs)→Reps X.K (mask H' (p::ps)) ts xs→Q ts→QV (.ref p) H')→v σ H QV)
    (B:Hp) (p0:List Addr) (H:Hp) (ps:List Addr) (σT:List Sl) (σ:L2.St) (DT:EndsT) (DV:Ends) (o:Ok X.K B p0 H ps σT σ) (h:sSetF i t DT σT) (f:Fits X.K B p0 H ps DT DV):tAsg v (gName i) DV σ H:=by
  refine r B p0 H ps σT σ _ _ o h fun ts p xs H' s hp hx rs q=>?_
  exact f.nx H' (p::ps) _ _ (o.takeOwn s hp hx rs) (by rw [← without_mask]; exact mask_same (without_same s hp)) q
theorem st_setF {i:Nat} {x:Str} {pos':Pos} {t:FT} (h:PFt X e t) (ps':∀ {v:TE},PE X e v→PS X (.Assign [.Name x pos'] e pos) (tAsg v (gName i))):PSt X (.Assign [.Name x pos'] e pos) (sSetF i t):=by
  obtain ⟨v,p,r⟩:=h
  exact ⟨_,ps' p,setF_read r⟩
def sRetF (t:FT):STt:=fun DT σ=>t σ DT.ro
theorem st_retF {t:FT} (h:PFt X e t):PSt X (.Return (some e) pos) (sRetF t):=by
  obtain ⟨v,p,r⟩:=h
  refine ⟨_,ps_ret p,fun B p0 H ps σT σ DT DV o h f=>r B p0 H ps σT σ _ _ o h fun ts p xs H' s hp hx rs q=>?_⟩
  refine f.ro ts p xs H' (o.base.trans s) (Same.free' o.base hp) (fun z=>fresh_notin o.live hp (o.sub p z)) hx (rs.same (mask_sub fun q hq=>?_)) q
  rcases List.mem_cons.mp hq with rfl | hq
  · exact List.mem_cons_self ..
  · exact List.mem_cons_of_mem _ (o.sub q hq)
def sRetOwn (i:Nat):STt:=fun DT σ=>∃ ts,σ[i]?=some (.own ts)∧DT.ro ts
theorem st_retOwn {i:Nat} {n:Expr} (hn:PE X n (tVar i)):PSt X (.Return (some n) pos) (sRetOwn i):=by
  refine ⟨_,ps_ret hn,fun B p0 H ps σT σ DT DV o h f=>?_⟩
  obtain ⟨ts,e,h⟩:=h
  obtain ⟨q,xs,h1,h2,h3,h4,h5,h6⟩:=o.own i ts e
  refine ⟨.ref q,h1,f.ro ts q xs H o.base h3 h4 h5 (h6.same (mask_sub fun z hz=>?_)) h⟩
  rcases List.mem_cons.mp hz with rfl | hz
  · exact h2
  · exact o.sub z hz
def sWhile (c:TTt) (tb:STt):STt:=fun DT σ=>∃ P:Nat→List Sl→Prop,(∃ n,P n σ)∧∀ n σ',P n σ'→c σ' fun b=>if b=true then tb { DT with nx:=fun σ2=>∃ m,m < n∧P m σ2,ct:=fun σ2=>∃ m,m < n∧P m σ2,bk:=DT.nx } σ' else DT.nx σ'
theorem st_while {c:Expr} {body:List Stmt} {tc:TTt} {tb:STt} (hc:PTt X c tc) (hb:PSst X body tb) (pw:∀ {vc:TT} {vb:TS},PT X c vc→PSs X body vb→PS X (.While c body [] pos) (tWhile vc vb)):PSt X (.While c body [] pos) (sWhile tc tb):=by
  obtain ⟨vc,pc,rc⟩:=hc
  obtain ⟨vb,pb,rb⟩:=hb
  refine ⟨_,pw pc pb,fun B p0 H ps σT σ DT DV o h f=>?_⟩
  obtain ⟨P,⟨n0,h0⟩,hs⟩:=h
  refine ⟨fun n σ' H'=>∃ ps' σT',Ok X.K B p0 H' ps' σT' σ'∧Same (mask H ps) (mask H' ps')∧P n σT',⟨n0,ps,σT,o,L2.Same.refl _,h0⟩,?_⟩
  rintro n σ' H' ⟨ps',σT',o',s',p'⟩
  refine rc B p0 H' ps' σT' σ' _ _ o' (hs n σT' p') fun b H1 s1 q1=>?_
  have f':Fits X.K B p0 H1 ps' DT DV:=(f.later s').later (mask_same s1)
  have s'':Same (mask H ps) (mask H1 ps'):=s'.trans (mask_same s1)
  cases b with
  | true =>
    rw [if_pos rfl] at q1 ⊢
    refine ⟨fun σ2 H2=>∃ m,m < n∧∃ ps2 σT2,Ok X.K B p0 H2 ps2 σT2 σ2∧Same (mask H ps) (mask H2 ps2)∧P m σT2,fun σ2 H2 z=>z,?_⟩
    exact rb B p0 H1 ps' σT' σ' _ _ (o'.grow s1) q1 ⟨fun H4 ps4 σT4 σ4 o4 s4 ⟨m,hm,q4⟩=>⟨m,hm,ps4,σT4,o4,s''.trans s4,q4⟩,fun H4 ps4 σT4 σ4 o4 s4 q4=>f'.nx H4 ps4 σT4 σ4 o4 s4 q4,fun H4 ps4 σT4 σ4 o4 s4 ⟨m,hm,q4⟩=>⟨m,hm,ps4,σT4,o4,s''.trans s4,q4⟩,f'.rt,f'.ro,f'.rp,f'.xb⟩
  | false =>
    rw [if_neg (by decide)] at q1 ⊢
    exact f'.nx H1 ps' σT' σ' (o'.grow s1) (L2.Same.refl _) q1
def sPar (i j:Nat) (t:AT):STt:=fun DT σ=>t σ fun ds=>∃ x y,ds=[x,y]∧DT.nx ((σ.set i (.val x)).set j (.val y))
theorem st_par {i j:Nat} {t:AT} {tg v:Expr} (ha:PAt X [a,b] t) (pp:∀ {ta:TA},PA X [a,b] ta→PS X (.Assign [tg] v pos) (tPar i j ta)):PSt X (.Assign [tg] v pos) (sPar i j t):=by
  obtain ⟨va,pa,ra⟩:=ha
  refine ⟨_,pp pa,fun B p0 H ps σT σ DT DV o h f=>ra B p0 H ps σT σ _ _ o h fun ds xs H1 s1 r1 q1=>?_⟩
  obtain ⟨x,y,rfl,q⟩:=q1
  cases r1 with
  | cons r1 r2 =>
    cases r2 with
    | cons r3 r4 =>
      cases r4
      exact ⟨_,_,rfl,f.nx H1 ps _ _ (((o.grow s1).set r1).set r3) (mask_same s1) q⟩
def gP3 (i j k:Nat):GT:=fun d σ Q=>∃ a b c,d=.tuple [a,b,c]∧Q (((σ.set i (.val a)).set j (.val b)).set k (.val c))
theorem gt_triple {i j k:Nat} {t:Expr} (h:PG X t (gTup X.K 3 (gCons (gName i) (gCons (gName j) (gCons (gName k) gNil))))):PGt X t (gP3 i j k) :=
  ⟨_,h,fun B p0 H ps σT σ d v Q QV o r h k=>by
    obtain ⟨a,b,c,rfl,h⟩:=h
    cases r with
    | @tuple p xs _ hq r =>
      cases r with
      | cons ra r =>
        cases r with
        | cons rb r =>
          cases r with
          | cons rc r =>
            cases r
            exact ⟨_,_,rfl,Same.seqT mask_le hq,rfl,_,_,rfl,_,_,rfl,_,_,rfl,rfl,k _ _ (((o.set ra).set rb).set rc) (fun n=>noOwn_set (noOwn_set (noOwn_set n _ _) _ _) _ _) h⟩⟩
def sUnpG (te:ET) (g:GT):STt:=fun DT σ=>te σ fun d=>g d σ DT.nx
theorem st_unpG {tg:Expr} {g:GT} (he:PEt X e te) (hg:PGt X tg g) (pa:∀ {v:TE} {gv:TG},PE X e v→PG X tg gv→PS X (.Assign [tg] e pos) (tAsg v gv)):PSt X (.Assign [tg] e pos) (sUnpG te g):=by
  obtain ⟨v,pe,re⟩:=he
  obtain ⟨gv,pg,rg⟩:=hg
  refine ⟨_,pa pe pg,fun B p0 H ps σT σ DT DV o h f=>re B p0 H ps σT σ _ _ o h fun d x H1 s1 r1 q1=>?_⟩
  exact rg B p0 H1 ps σT σ d x _ _ (o.grow s1) r1 q1 fun σT' σ' o' _ q'=>f.nx H1 ps _ _ o' (mask_same s1) q'
def eIf (c:TTt) (ta tb:ET):ET:=fun σ Q=>c σ fun b=>if b=true then ta σ Q else tb σ Q
theorem et_if {tc:TTt} (hc:PTt X c tc) (ha:PEt X a ta) (hb:PEt X b tb):PEt X (.IfExp c a b pos) (eIf tc ta tb):=by
  obtain ⟨vc,pc,rc⟩:=hc
  obtain ⟨va,pa,ra⟩:=ha
  obtain ⟨vb,pb,rb⟩:=hb
  refine ⟨_,pe_ifExp pc pa pb,fun B p0 H ps σT σ Q QV o h k=>rc B p0 H ps σT σ _ _ o h fun d H1 s1 q1=>?_⟩
  cases d with
  | true =>
    rw [if_pos rfl] at q1 ⊢
    exact ra B p0 H1 ps σT σ Q _ (o.grow s1) q1 fun d v H' s' r' q'=>k d v H' (s1.trans s') r' q'
  | false =>
    rw [if_neg (by decide)] at q1 ⊢
    exact rb B p0 H1 ps σT σ Q _ (o.grow s1) q1 fun d v H' s' r' q'=>k d v H' (s1.trans s') r' q'
end
end TL

set_option Elab.async false
set_option linter.all false
set_option maxRecDepth 100000
namespace L2
open PySem PySem.Spec PyProof.Rows PySem.SeqAt
open AutoSeq1 (wpAny_loadPart')
section
variable {X:Cx} {pins:List (Addr × Obj)} {σ:St} {H:Hp} {s:Shared} {p:Addr}
end
section
variable {X:Cx}
end
end L2
namespace TL
open PySem PySem.Spec PyProof.Rows L2
section
variable {X:Cx} {a b c e:Expr} {es:List Expr} {ta tb te:ET} {pos:Pos}
theorem fn_never {P:Program} {w:World} {K:PySem.W.Frag} {mg:Str→Option Value} {base:Heap} {k:Nat} {f:Addr} {fd:FuncData} {pn:List Str}:FnOk P w K mg base CX0 k f fd pn (liftSp K fun _ _=>False) :=
  ⟨fun vs H Q E ⟨_,_,_,_,_,h,_⟩=>h.elim,fun A outer s H args us vs Q E _ _ _ _ ⟨_,_,_,_,_,h,_⟩=>h.elim⟩
theorem fn_imp {P:Program} {w:World} {K:PySem.W.Frag} {mg:Str→Option Value} {base:Heap} {k:Nat} {f:Addr} {fd:FuncData} {pn:List Str} {sp sp':SpT} (F:FnOk P w K mg base CX0 k f fd pn (liftSp K sp)) (h:∀ ds Q,sp' ds Q→sp ds Q):FnOk P w K mg base CX0 k f fd pn (liftSp K sp') :=
  F.imp fun vs H Q E ⟨ps,ds,QD,h1,h2,h3,h4⟩=>⟨ps,ds,QD,h1,h2,h ds QD h3,h4⟩
def gMax (d:D) (Q:D→Prop):Prop:=∃ ns:List Int,d=.list (ns.map PyData.int)∧ns ≠ []∧∀ m,m ∈ ns→(∀ n ∈ ns,n≤m)→Q (.int m)
end
end TL

set_option Elab.async false
set_option linter.all false
set_option maxRecDepth 100000
namespace L2
open PySem PySem.Spec PyProof.Rows
section
variable {X:Cx}
theorem call_max_ints (hc:X.calm=true):CallR X (.builtin "max") (fun xs H Q=>∃ (p:Addr) (ns:List Int),xs=[.ref p]∧SqL X.K H p (ns.map V.int)∧ns ≠ []∧∀ m,m ∈ ns→(∀ n ∈ ns,n≤m)→Q (.int m) H):=by
  intro pins s σ H xs us Q I r h
  obtain ⟨p,ns,rfl,hq,hne0,q⟩:=h
  obtain ⟨u,rfl,rx⟩:=vals1 r
  cases rx
  obtain ⟨its,rv,pl,hz⟩:=I.list hq
  have hlen:=rv.length
  rw [List.length_map] at hlen
  have hpos:0 < ns.length:=List.length_pos_iff.mpr hne0
  have hne:p ≠ s.heap.objs.size:=by
    obtain ⟨o,ho,_⟩:=pl.isList
    exact Nat.ne_of_lt (Heap.lt_size ho)
  have hl1:=pl.isList
  have hplt:p < s.heap.objs.size:=by
    obtain ⟨o,ho,_⟩:=hl1
    exact Heap.lt_size ho
  have hval:∀ (i:Nat) (v:Value),its.toArray[i]?=some v→∃ t,v=.int ((ns[i]?).getD 0) t:=fun i v hP=>by
    have hv:its[i]?=some v:=by simpa using hP
    have hi:i < its.length:=(List.getElem?_eq_some_iff.mp hv).1
    have hb:i < ns.length:=by omega
    obtain ⟨w',h1,h2⟩:=rv.get (i:=i) (x:=.int ns[i]) (by rw [List.getElem?_map,List.getElem?_eq_getElem hb]; rfl)
    rw [hv] at h1
    cases h1
    rw [List.getElem?_eq_getElem hb]
    exact h2
  refine call_max_walk (wpAny_pyIter_list hl1 ?_)
  refine ⟨_,_,_,_,_,_,_,rfl,Walks.list (A:=X.A.in1) (I.ok.hd hc) _ p hne its.toArray,⟨⟨_,Heap.get?_push_size _ rfl,rfl,rfl⟩,hl1.push _⟩,fun b hb=>?_,by rw [List.size_toArray]; omega,CmpOf.ints_gt (fun i=>(ns[i]?).getD 0) hval,fun v h' tk hP hk=>?_⟩
  · show b < (s.heap.push _).objs.size
    rw [Heap.size_push]
    have:b=s.heap.objs.size ∨ b=p:=by simpa using hb
    rcases this with rfl | rfl
    · exact Nat.lt_succ_self _
    · exact Nat.lt_succ_of_lt hplt
  · obtain ⟨t,rfl⟩:=hval _ _ hP
    have hb:=argBest_gt (fun i=>(ns[i]?).getD 0) (its.toArray.size - 1)
    have hsz:its.toArray.size=ns.length:=by rw [List.size_toArray]; omega
    have hi:argBest (fun i j=>decide ((ns[i]?).getD 0 > (ns[j]?).getD 0)) (its.toArray.size - 1) < ns.length:=by have:=hb.1; omega
    refine ⟨.int _,H,I.kept fun b o e=>hk b o ?_ (Heap.get?_push_of_some _ e),⟨t,rfl⟩,q _ ?_ fun n hn=>?_⟩
    · intro z
      have:b=s.heap.objs.size:=by simpa using z
      exact absurd (Heap.lt_size e) (by rw [this]; exact Nat.lt_irrefl _)
    · rw [List.getElem?_eq_getElem hi]
      exact List.getElem_mem hi
    · obtain ⟨j,hj,rfl⟩:=List.mem_iff_getElem.mp hn
      have:=hb.2 j (by omega)
      rw [List.getElem?_eq_getElem hj] at this
      exact this

def CDivB (_ j:Int):Prop:=0 < j∧j < 2 ^ 200
theorem op_fdivB:OpR X (binaryOp .FloorDiv) (rI CDivB fun i j=>.int (i / j)):=opI fun i j _ _ _ _ _ hc q=>by
  have h1:(0:Int) < j:=hc.1
  have h2:j < 2 ^ 200:=hc.2
  have h3:j.natAbs < 2 ^ 200:=by omega
  have h4:j.natAbs.log2 < 200:=(Nat.log2_lt (by omega)).mpr h3
  exact floordiv_int (by omega) (by rw [Int.fdiv_eq_ediv_of_nonneg i (by omega)]; exact q) (.inl (PyProof.noPylong_of_log2 (by omega)))
end
end L2
namespace TL
open PySem PySem.Spec PyProof.Rows L2
section
variable {X:Cx} {a b c e:Expr} {es:List Expr} {ta tb te:ET} {pos:Pos}
theorem c_max:CallT X (fun xs H Q=>∃ (p:Addr) (ns:List Int),xs=[.ref p]∧SqL X.K H p (ns.map V.int)∧ns ≠ []∧∀ m,m ∈ ns→(∀ n ∈ ns,n≤m)→Q (.int m) H) (f1 gMax):=c1 fun H ps d x Q QV live r h k=>by
  obtain ⟨ns,rfl,hne,h⟩:=h
  cases r with
  | list q s =>
    have e:=reps_ints s
    subst e
    exact ⟨_,ns,rfl,L2.Same.seq mask_le q,hne,fun m hm hn=>k _ _ H (L2.Same.refl H) (.int _) (h m hm hn)⟩
end
end TL

set_option Elab.async false
set_option linter.all false
set_option maxRecDepth 100000
namespace TL
open PySem PySem.Spec PyProof.Rows L2
section
variable {X:Cx} {a b c e:Expr} {es:List Expr} {ta tb te:ET} {pos:Pos}
abbrev PTm:=List Sl→(List D→List D→Prop)→Prop
def PPt (X:Cx) (e:Expr) (t:PTm):Prop:=∃ te:TE,PE X e te∧∀ (B:Hp) (p0:List Addr) (H:Hp) (ps:List Addr) (σT:List Sl) (σ:L2.St) (Q:List D→List D→Prop) (QV:VK),Ok X.K B p0 H ps σT σ→t σT Q →
  (∀ as bs r p q xs ys H',Same H H'→H r=none→H p=none→H q=none→p ≠ q→H' r=some (.tup [.ref p,.ref q])→H' p=some (.lst xs)→H' q=some (.lst ys)→Reps X.K (mask H' (p::q::ps)) as xs→Reps X.K (mask H' (p::q::ps)) bs ys→Q as bs→QV (.ref r) H')→te σ H QV
abbrev SpP:=List D→(List D→List D→Prop)→Prop
def liftSpP (K:PySem.W.Frag) (sp:SpP):Sp:=fun vs H Q _=>∃ (ps:List Addr) (ds:List D) (QD:List D→List D→Prop),(∀ p ∈ ps,H p ≠ none)∧Reps K (mask H ps) ds vs∧sp ds QD ∧
  ∀ as bs r p q xs ys H',Same H H'→H r=none→H p=none→H q=none→p ≠ q→H' r=some (.tup [.ref p,.ref q])→H' p=some (.lst xs)→H' q=some (.lst ys)→Reps K (mask H' (p::q::ps)) as xs→Reps K (mask H' (p::q::ps)) bs ys→QD as bs→Q (.ref r) H'
def pCall (sp:SpP) (t:AT):PTm:=fun σ Q=>t σ fun ds=>sp ds Q
theorem ppt_call {k:Nat} {f:Addr} {fd:FuncData} {pn:List Str} {sp:SpP} {x:Str} {p:Pos} {t:AT} (F:FnOk X.prog X.w X.K X.mg X.base CX0 k f fd pn (liftSpP X.K sp)) (hm:X.mg x=some (.ref f)) (hk:PySem.W.keepIn X.K (.ref f)=true) (hb:Binds X.K fd pn [])
    (hr:Room k X.A) (ha:PAt X (e::es) t) (pc:∀ {ta:TA},PA X (e::es) ta→PE X (.Call (.Name x p) (e::es) [] pos) (tCall (liftSpP X.K sp) [] E0 ta)):PPt X (.Call (.Name x p) (e::es) [] pos) (pCall sp t):=by
  obtain ⟨v,pa,ra⟩:=ha
  refine ⟨_,pc pa,fun B p0 H ps σT σ Q QV o h k=>ra B p0 H ps σT σ _ _ o h fun ds xs H1 s1 r1 q1=>?_⟩
  show liftSpP X.K sp (xs++[]) H1 QV E0
  rw [List.append_nil]
  exact ⟨ps,ds,Q,(o.grow s1).live,r1,q1,fun as bs r p q xs ys H' s' h1 h2 h3 h4 h5 h6 h7 ra rb q=>k as bs r p _ xs ys H' (s1.trans s') (Same.free' s1 h1) (Same.free' s1 h2) (Same.free' s1 h3) h4 h5 h6 h7 ra rb q⟩
theorem fnP {P:Program} {w:World} {K:PySem.W.Frag} {mg:Str→Option Value} {base:Heap} {x qual:Str} {st:Stmt} {f:Addr} {fd:FuncData} {N pn:List Str} {k:Nat} {sp:SpP} (F:Fun K x qual st f fd) (S:FnScope N pn (defScope st)) (len:∀ ds Q,sp ds Q→ds.length=pn.length)
    (hbody:∀ (cdv:Value) (A:Around) (outer:List Env) (s:Shared) (H:Hp) (E:XK),Room k (A.deeper (envOfC qual (defScope st) s.heap.objs.size f cdv))→∀ (ds:List D) (Q:List D→List D→Prop),sp ds Q →
      ∃ t,PSst (cxOf CX0 P w K mg base N qual (defScope st) f cdv A outer s H E).nox (defBody st) t∧t { nx:=fun _=>False,rt:=fun _=>False,rp:=Q } (startT N ds)):FnOk P w K mg base CX0 (k + 1) f fd pn (liftSpP K sp):=by
  refine F.ok S (fun vs H Q E h=>?_) fun cdv A outer s H vs Q E hr h=>?_
  · obtain ⟨ps,ds,QD,_,r,q,_⟩:=h
    rw [← r.length]; exact len ds QD q
  · obtain ⟨ps,ds,QD,live,r,q,k⟩:=h
    obtain ⟨t,⟨ts,p,rd⟩,h⟩:=hbody cdv A outer s H E hr ds QD q
    exact ⟨ts,p,rd H ps H ps _ _ _ _ (ok_start live r) h ⟨fun _ _ _ _ _ _ q'=>q'.elim,fun _ _ _ _ _ _ q'=>q'.elim,fun _ _ _ _ _ _ q'=>q'.elim,fun _ _ _ _ _ q'=>q'.elim,fun _ _ _ _ _ _ _ _ _ q'=>q'.elim,fun as bs r p q xs ys H' s' h1 h2 h3 h4 h5 h6 h7 ra rb q'=>k as bs r p q xs ys H' s' h1 h2 h3 h4 h5 h6 h7 ra rb q',True.intro⟩⟩
def ePr (t:PTm):ET:=fun σ Q=>t σ fun as bs=>Q (.tuple [.list as,.list bs])
theorem et_pr {t:PTm} (h:PPt X e t):PEt X e (ePr t):=by
  obtain ⟨v,p,r⟩:=h
  refine ⟨_,p,fun B p0 H ps σT σ Q QV o h k=>r B p0 H ps σT σ _ _ o h fun as bs r p q xs ys H' s1 hr0 hp0 hq0 hpq hr1 hp1 hq1 rA rB q1=>?_⟩
  have fr:∀ {z:Addr},H z=none→z ∉ ps:=fun hz=>fresh_notin o.live hz
  have sub:∀ z ∈ ps,z ∈ p::q::ps:=fun z hz=>List.mem_cons_of_mem _ (List.mem_cons_of_mem _ hz)
  exact k _ _ H' s1 (.tuple (SqT.of (mask_at (fr hr0) hr1)) (.cons (.list (SqL.of (mask_at (fr hp0) hp1)) (rA.same (mask_sub sub))) (.cons (.list (SqL.of (mask_at (fr hq0) hq1)) (rB.same (mask_sub sub))) .nil))) q1
end
end TL

set_option Elab.async false
set_option linter.all false
set_option maxRecDepth 100000
namespace L2
open PySem PySem.Spec PyProof.Rows PySem.SeqAt
section
variable {X:Cx}
end
theorem enumerate_new' (l:Addr) (items:Array Value) :
    Meets (Builtin.«enumerate.__new__» ⟨[.type "enumerate",.ref l],[]⟩) (fun _ R s=>s.heap.IsList l items ∧
      R (.ok (.ret (.ref (s.heap.push { cls:=.type "list_iterator",data:=.fields #[.ref l,.int 0 0] }).objs.size)))
        { s with heap:=(s.heap.push { cls:=.type "list_iterator",data:=.fields #[.ref l,.int 0 0] }).push { cls:=.type "enumerate",data:=.fields #[.none,.bool false,.ref s.heap.objs.size,rawInt 0,.none,.none] } }) :=
  .of_wp fun prog w A R s h=>by
    obtain ⟨hp,g,d,tk,os⟩:=s; obtain ⟨hl,h⟩:=h
    have hsub:=sub_enumerate
    have hL:Heap.IsList (Shared.heap ⟨hp,g,d,tk,os⟩) l items:=hl
    wp_walk
    refine wpAny_stack_any fun st=>wpAny_pure ?_
    split
    · rename_i c _ _ _ _ _
      cases (c == Value.type "enumerate")
      · wp_walk using wpAny_pyIter_list hL
        exact ⟨_,rfl,h⟩
      · wp_walk using wpAny_pyIter_list hL
        exact ⟨_,rfl,h⟩
    · wp_walk using wpAny_pyIter_list hL
      exact ⟨_,rfl,h⟩
section
variable {P:Program} {w:World} {A:Around} {E:Value→Shared→Prop} {s:Shared}
theorem call_enumerate' {l:Addr} {items:Array Value} {Q:Value→Shared→Prop} (hl:s.heap.IsList l items)
    (h:∀ h',IsEnum h' (s.heap.objs.size + 1) s.heap.objs.size 0 .none→h'.IsListIter s.heap.objs.size l 0→h'.objs.size=s.heap.objs.size + 2 →
      (∀ b o,s.heap.get? b=some o→h'.get? b=some o)→Q (.ref (s.heap.objs.size + 1)) { s with heap:=h' }) :
    wpAny (model P w) A (call (.type "enumerate") [.ref l]) Q E s:=by
  refine callType_new F.called_enumerate (by decide) (F.typeCall_enumerate_1 _) (F.newCall_enumerate_1 _) (fun obj=>F.args_object_init_2 obj _) F.entry_enumerate_new
    (enumerate_new' l items) ⟨hl,?_⟩
  have hz:(s.heap.push { cls:=.type "list_iterator",data:=.fields #[.ref l,.int 0 0] }).objs.size=s.heap.objs.size + 1:=Heap.size_push ..
  show _∧_
  rw [hz]
  have he:IsEnum ((s.heap.push { cls:=.type "list_iterator",data:=.fields #[.ref l,.int 0 0] }).push
      { cls:=.type "enumerate",data:=.fields #[.none,.bool false,.ref s.heap.objs.size,rawInt 0,.none,.none] }) (s.heap.objs.size + 1) s.heap.objs.size 0 .none:=by
    have:=Heap.get?_push_size (s.heap.push { cls:=.type "list_iterator",data:=.fields #[.ref l,.int 0 0] })
      (o:={ cls:=.type "enumerate",data:=.fields #[.none,.bool false,.ref s.heap.objs.size,rawInt 0,.none,.none] }) rfl
    rw [hz] at this; exact this
  exact ⟨⟨_,he,rfl⟩,h _ he ⟨_,Heap.get?_push_of_some _ (Heap.get?_push_size _ rfl),rfl,rfl⟩ (by rw [Heap.size_push,hz]) fun b o x=>Heap.get?_push_of_some _ (Heap.get?_push_of_some _ x)⟩
end
def Ite (K:PySem.W.Frag) (a:Addr):It :=
  ⟨fun i H=>∃ xs x,SqL K H a xs∧xs[i]?=some x,
   fun i H v H'=>∃ p x,H p=none∧v=.ref p∧H'=upd H p (.tup [.int (i:Int),x])∧∀ xs,SqL K H a xs→xs[i]?=some x,
   fun i H=>∃ xs,SqL K H a xs∧xs.length≤i⟩
theorem turn_enum {P:Program} {w:World} {K:PySem.W.Frag} {elts:List Expr} {x1:Nat} {pos:Pos} {e it l:Addr} (hei:e ≠ it) :
    Turn P w K (.Tuple elts x1 pos) (Ite K l) [e,it] e (fun i h=>(∃ old,IsEnum h e it (i:Int) old)∧h.IsListIter it l i) where
  mem:=by simp
  obj:=fun i h st b hb=>by
    obtain ⟨⟨old,he⟩,hit⟩:=st
    simp only [List.mem_cons,List.not_mem_nil,or_false] at hb
    rcases hb with rfl | rfl
    · exact ⟨_,he,fun v q=>by cases q⟩
    · obtain ⟨o,e,c,d⟩:=hit
      exact ⟨o,e,fun v z=>by rw [d] at z; cases z⟩
  keep:=fun i h h' st k=>by
    obtain ⟨⟨old,he⟩,hit⟩:=st
    exact ⟨⟨old,k e (by simp) _ he⟩,hit.at fun o x=>k it (by simp) o x⟩
  item:=by
    intro X hP hw hK hc i pins s σ H E I hf st hg
    subst hP hw hK
    obtain ⟨⟨old,he⟩,hit⟩:=st
    obtain ⟨xs,x,hq,hx⟩:=hg
    obtain ⟨its,rv,p,hz⟩:=I.list hq
    obtain ⟨u,hu,ru⟩:=rv.get hx
    refine wpAny_pyNext_enum_item he hit p.isList (x:=u) (by simpa using hu) hei fun h' a1 a2 a3 a4 a5=>⟨_,rfl,?_⟩
    refine wpAny_letOwnedTupleGo_enum (s:={ s with heap:=h',toks:=s.toks + 1 }) a1 fun h2 b1 sb=>?_
    have helt:e < s.heap.objs.size:=Heap.lt_size he
    have kk:∀ c o,c ∉ [e,it]→s.heap.get? c=some o→h2.get? c=some o:=fun c o hc' x=>by
      simp only [List.mem_cons,List.not_mem_nil,or_false,not_or] at hc'
      exact sb.extBut _ _ hc'.1 (a5 c o hc'.1 hc'.2 x)
    have hT:=sb.extBut _ _ (Nat.ne_of_gt helt) a3
    have I1:Inv X pins σ (upd H s.heap.objs.size (.tup [.int (i:Int),x])) { s with heap:=h2,toks:=s.toks + 1 }:=I.turnedNew (t':=s.toks + 1) hf kk (Nat.le_refl _) ⟨(by show 2≤sizeLine; decide),[.int i s.toks,u],.cons ⟨_,rfl⟩ (.cons ru .nil),⟨_,hT,rfl,_,rfl,rfl⟩⟩
    refine ⟨.ref s.heap.objs.size,_,I1,rfl,⟨_,x,I.hok.fresh (Nat.le_refl _),rfl,rfl,fun ys hy=>by rw [I.list_inj hy hq]; exact hx⟩,?_,fun c hc'=>?_⟩
    · exact ⟨⟨_,by rw [Int.natCast_add]; exact b1⟩,a2.at fun o x=>sb.extBut _ _ (Ne.symm hei) x⟩
    · have hne:c ≠ s.heap.objs.size:=by
        simp only [List.mem_cons,List.not_mem_nil,or_false] at hc'
        rcases hc' with rfl | rfl
        · exact Nat.ne_of_lt helt
        · obtain ⟨o,z,_⟩:=hit; exact Nat.ne_of_lt (Heap.lt_size z)
      rw [upd_ne hne]
      exact (hf c hc').1
  done:=by
    intro X hP hw hK hc i pins s σ H E I hf st hg
    subst hP hw hK
    obtain ⟨⟨old,he⟩,hit⟩:=st
    obtain ⟨xs,hq,hx⟩:=hg
    obtain ⟨its,rv,p,hz⟩:=I.list hq
    have hl:=rv.length
    refine wpAny_pyNext_enum_end (I.ok.hd hc) he hit p.isList (by simp; omega) fun h' eb=>⟨rfl,I.turnedL (t':=s.toks) hf fun c o hc' x=>?_⟩
    simp only [List.mem_cons,List.not_mem_nil,or_false,not_or] at hc'
    exact eb c o hc'.2 x
  self:=fun A i s Q E st h=>by
    obtain ⟨⟨old,he⟩,_⟩:=st
    exact wpAny_pyIter_enum he h
theorem boot_enumerate:bootBuiltins "enumerate"=some (.type "enumerate"):=by decide +kernel
def iEnum (K:PySem.W.Frag) (ta:TA):TI:=fun σ H R=>ta σ H fun vs H1=>∃ l xs,vs=[.ref l]∧SqL K H1 l xs∧R (Ite K l) H1
section
variable {X:Cx}
theorem pi_enum {a:Expr} {ta:TA} {p pos tpos:Pos} {elts:List Expr} {x1:Nat} (hg:Gl X "enumerate") (hm:X.mg "enumerate"=none) (ha:PA X [a] ta) (hs:starEach [a] X.env=[(false,eval a X.env)]:=by rfl) :
    PI X (.Tuple elts x1 tpos) (.Call (.Name "enumerate" p) [a] [] pos) (iEnum X.K ta):=by
  intro pins s σ H R I h
  refine Call_ (ld_blt I hg hm boot_enumerate (PyProof.Rows.callWith_type1 (thn (ha pos pins s σ H _ I h) fun us s1 ⟨vs,H1,I1,r1,q1⟩=>?_) (by rw [hs]; rfl) (by rfl)))
  obtain ⟨l,xs,rfl,hq,q⟩:=q1
  cases r1 with
  | cons r rr =>
    cases rr
    cases r
    obtain ⟨us1,rv1,p1,hz1⟩:=I1.list hq
    refine call_enumerate' p1.isList fun h' he hit hsz hk=>wpAny_pyIter_enum (s:={ s1 with heap:=h' }) he ?_
    refine ⟨_,[s1.heap.objs.size + 1,s1.heap.objs.size],_,_,H1,rfl,I1.kept (t':=s1.toks) hk,turn_enum (e:=s1.heap.objs.size + 1) (it:=s1.heap.objs.size) (l:=l) (Nat.succ_ne_self _),⟨⟨_,he⟩,hit⟩,fun c hc=>?_,q⟩
    simp only [List.mem_cons,List.not_mem_nil,or_false] at hc
    have le:s1.heap.objs.size≤c:=by rcases hc with rfl | rfl <;> first | exact Nat.le_refl _ | exact Nat.le_add_right _ _
    exact I1.fpOk le (I1.hok.fresh le)
end
end L2
namespace TL
open PySem PySem.Spec PyProof.Rows L2 PySem.SeqAt
variable {K:PySem.W.Frag}
def KTup (K:PySem.W.Frag) (a:Addr) (ys:List Str):Prop:=∃ (o:Obj) (its:Array Value) (n:Nat),K.lookup a=some o∧o.cls=.type "tuple"∧o.dict=none∧o.data=.seq its n∧its.size≤sizeLine∧Vals (ys.map V.str) its.toList
theorem reps_strs' {H:Hp}:∀ ys:List Str,Reps K H (ys.map PyData.str) (ys.map V.str)
  | []=>.nil
  | y::ys=>.cons (.str y) (reps_strs' ys)
def enumD (as:List D):List D:=zipD (intsTo as.length) as
theorem enumD_len (as:List D):(enumD as).length=as.length:=by unfold enumD; rw [zipD_len]; unfold intsTo; simp
theorem enumD_get {as:List D} {i:Nat} {a:D} (h:as[i]?=some a):(enumD as)[i]?=some (.tuple [.int (i:Int),a]):=by
  have hi:=(List.getElem?_eq_some_iff.mp h).1
  unfold enumD zipD intsTo
  rw [List.getElem?_map,(List.getElem?_zip_eq_some (z:=(PyData.int (i:Int),a))).mpr ⟨by rw [List.getElem?_map,List.getElem?_range hi]; rfl,h⟩]; rfl
def iEnumT (t:AT):IT:=fun σ Q=>t σ fun ds=>∃ as,ds=[.list as]∧Q (enumD as)
section
variable {X:Cx} {a b c e:Expr} {es:List Expr} {ta tb te:ET} {pos:Pos}
theorem et_gtup {x:Str} {p:Addr} {ys:List Str} {pos:Pos} (hg:Gl X x) (hm:X.mg x=some (.ref p)) (hk:KTup X.K p ys) (hd:(x == ("__debug__":Str))=false:=by decide):PEt X (.Name x pos) (eC (.tuple (ys.map PyData.str))) :=
  ⟨_,pe_glob (v:=.ref p) hg hm rfl hd,fun _ _ H _ _ _ _ _ _ h k=>k _ _ H (L2.Same.refl H) (.tuple (.inr hk) (reps_strs' ys)) h⟩
theorem it_enum {t:AT} {p p' tpos:Pos} {elts:List Expr} {x1:Nat} (ha:PAt X [a] t) (pz:∀ {ta:TA},PA X [a] ta→PI X (.Tuple elts x1 tpos) (.Call (.Name "enumerate" p) [a] [] p') (iEnum X.K ta)):PIt X (.Tuple elts x1 tpos) (.Call (.Name "enumerate" p) [a] [] p') (iEnumT t):=by
  obtain ⟨va,pa,ra⟩:=ha
  refine ⟨_,pz pa,fun B p0 H ps σT σ Q R o h k=>ra B p0 H ps σT σ _ _ o h fun ds xs H1 s1 r1 q1=>?_⟩
  obtain ⟨as,rfl,q⟩:=q1
  cases r1 with
  | cons r1 r2 =>
    cases r2
    cases r1 with
    | @list p1 us _ hq1 rs1 =>
      have n1:=rs1.length
      refine ⟨p1,us,rfl,L2.Same.seq mask_le hq1,k _ _ H1 s1 ⟨fun i H e hl=>?_,fun i H e hl=>?_,fun i H ps' y H' live e hl hy=>?_⟩ q⟩
      · rw [enumD_len] at hl
        exact ⟨us,L2.Same.seq e hq1,by omega⟩
      · rw [enumD_len] at hl
        exact ⟨us,us[i],L2.Same.seq e hq1,List.getElem?_eq_getElem (by omega)⟩
      · obtain ⟨p,x,hp,rfl,rfl,h1⟩:=hy
        obtain ⟨d1,g1,t1⟩:=rs1.get' (h1 us (L2.Same.seq (e.trans mask_le) hq1))
        exact ⟨same_new hp,.tuple [.int (i:Int),d1],enumD_get g1,rep_tup live hp (.cons (.int _) (.cons (t1.same e) .nil))⟩
def rLIndex (K:PySem.W.Frag):V→List V→Hp→VK→Prop:=fun x xs H Q=>∃ (y:V) (ts:List D) (d:D) (j:Nat),xs=[y]∧Rep K H (.list ts) x∧Rep K H d y∧okIx ts d j∧j < 1000000∧Q (.int j) H
theorem mt_lindexU (hu:X.A.units + 200 < cLine):MtR X "list.index" (rLIndex X.K):=by
  intro pins s σ H x xs v us Q I rx rv h
  obtain ⟨y,ts,d,j,rfl,r1,r2,⟨c1,c2,hm,⟨t,ht,he⟩,hno⟩,hj0,q⟩:=h
  obtain ⟨u,rfl,ru⟩:=rv.one
  obtain ⟨as,h1⟩:=Rep.reads I (show (PyData.list ts).hasDict=false from noDictAll c1) r1 rx
  obtain ⟨bs,h2⟩:=Rep.reads I (noDict c2) r2 ru
  cases h1 with
  | @list l o items n _ as' h3 h4 h5 h6 =>
    have hmap:=readsAll_map ts items.toList _ c1 h6
    have hlen:items.size=ts.length:=by rw [← hmap,List.length_map,Array.length_toList]
    have hjl:j < ts.length:=(List.getElem?_eq_some_iff.mp ht).1
    have hj:j < items.size:=by omega
    have rd:∀ (m:Nat) (hm:m < items.size),ts[m]?=some (readOf s.heap items[m]):=fun m hm=>by
      rw [← hmap,List.getElem?_map]
      simp [hm]
    obtain ⟨oc,od,odt,osl⟩:=o
    cases h4
    cases h5
    refine call_meets F.slot_list_index ⟨_,h3,rfl⟩ F.entry_list_index (F.args_list_index_2 _ _) (list_indexAt _ items _ od osl u (fun y=>PyData.eqv (readOf s.heap y) d) j hj (by omega) ?_ ?_) ⟨h3,items_eqAt h6 h2 c1 c2 (by have:=hu; omega),?_⟩
    · have:=rd j hj
      rw [ht] at this
      rw [← Option.some.inj this]; exact he
    · intro m hm' hlt
      exact hno m _ hlt (rd m hm')
    · exact ⟨.int j,H,I.tok _,⟨_,rfl⟩,q⟩
theorem mt_lindex {k:Nat} (hr:Room k X.A):MtR X "list.index" (rLIndex X.K):=mt_lindexU (by have:=hr.un; omega)
def eLIndex (te:ET) (t:AT):ET:=fun σ Q=>te σ fun d=>∃ ts,d=.list ts∧t σ fun ds=>∃ (x:D) (j:Nat),ds=[x]∧okIx ts x j∧j < 1000000∧Q (.int j)
theorem et_lindex {n:Expr} {ap:Pos} {t:AT} (hn:PEt X n te) (ha:PAt X (e::es) t)
    (pc:∀ {v:TE} {ta:TA},PE X n v→PA X (e::es) ta→PE X (.Call (.Attribute n "index" ap) (e::es) [] pos) (tBM X.K "list" (rLIndex X.K) v ta)):PEt X (.Call (.Attribute n "index" ap) (e::es) [] pos) (eLIndex te t):=by
  obtain ⟨v,pe,re⟩:=hn
  obtain ⟨va,pa,ra⟩:=ha
  refine ⟨_,pc pe pa,fun B p0 H ps σT σ Q QV o h k=>re B p0 H ps σT σ _ _ o h fun d x H1 s1 r1 q1=>?_⟩
  obtain ⟨ts,rfl,q1⟩:=q1
  cases r1 with
  | @list p xs _ hq rs =>
    refine ⟨.inl ⟨rfl,_,L2.Same.seq mask_le hq⟩,ra B p0 H1 ps σT σ _ _ (o.grow s1) q1 fun ds ys H2 s2 r2 q2=>?_⟩
    obtain ⟨d,j,rfl,hok,hj,q⟩:=q2
    cases r2 with
    | cons r3 r4 =>
      cases r4
      exact ⟨_,ts,d,j,rfl,(Rep.list hq rs).same ((mask_same s2).trans mask_le),r3.same mask_le,hok,hj,k _ _ H2 (s1.trans s2) (.int _) q⟩
def okCt (ts:List D) (d:D):Prop:=PyData.canLayAll0 ts=true∧d.canLay0=true∧min (PyData.depthAll ts) d.depth≤60
def rLCount (K:PySem.W.Frag):V→List V→Hp→VK→Prop:=fun x xs H Q=>∃ (y:V) (ts:List D) (d:D),xs=[y]∧Rep K H (.list ts) x∧Rep K H d y∧okCt ts d∧Q (.int ((ts.countP fun t=>PyData.eqv t d:Nat):Int)) H
theorem mt_lcountU (hu:X.A.units + 200 < cLine):MtR X "list.count" (rLCount X.K):=by
  intro pins s σ H x xs v us Q I rx rv h
  obtain ⟨y,ts,d,rfl,r1,r2,⟨c1,c2,hm⟩,q⟩:=h
  obtain ⟨u,rfl,ru⟩:=rv.one
  obtain ⟨as,h1⟩:=Rep.reads I (show (PyData.list ts).hasDict=false from noDictAll c1) r1 rx
  obtain ⟨bs,h2⟩:=Rep.reads I (noDict c2) r2 ru
  cases h1 with
  | @list l o items n _ as' h3 h4 h5 h6 =>
    have hmap:=readsAll_map ts items.toList _ c1 h6
    obtain ⟨oc,od,odt,osl⟩:=o
    cases h4
    cases h5
    refine call_meets F.slot_list_count ⟨_,h3,rfl⟩ F.entry_list_count (F.args_list_count_2 _ _) (list_countAt _ items _ od osl u (fun y=>PyData.eqv (readOf s.heap y) d)) ⟨h3,items_eqAt h6 h2 c1 c2 (by have:=hu; omega),?_⟩
    refine ⟨.int _,H,I.tok _,⟨_,rfl⟩,?_⟩
    have e:(items.toList.countP fun y=>PyData.eqv (readOf s.heap y) d)=ts.countP fun t=>PyData.eqv t d:=by
      rw [← hmap,List.countP_map]; rfl
    rw [e]; exact q
theorem mt_lcount {k:Nat} (hr:Room k X.A):MtR X "list.count" (rLCount X.K):=mt_lcountU (by have:=hr.un; omega)
def eLCount (te:ET) (t:AT):ET:=fun σ Q=>te σ fun d=>∃ ts,d=.list ts∧t σ fun ds=>∃ x:D,ds=[x]∧okCt ts x∧Q (.int ((ts.countP fun t=>PyData.eqv t x:Nat):Int))
theorem et_lcount {n:Expr} {ap:Pos} {t:AT} (hn:PEt X n te) (ha:PAt X (e::es) t)
    (pc:∀ {v:TE} {ta:TA},PE X n v→PA X (e::es) ta→PE X (.Call (.Attribute n "count" ap) (e::es) [] pos) (tBM X.K "list" (rLCount X.K) v ta)):PEt X (.Call (.Attribute n "count" ap) (e::es) [] pos) (eLCount te t):=by
  obtain ⟨v,pe,re⟩:=hn
  obtain ⟨va,pa,ra⟩:=ha
  refine ⟨_,pc pe pa,fun B p0 H ps σT σ Q QV o h k=>re B p0 H ps σT σ _ _ o h fun d x H1 s1 r1 q1=>?_⟩
  obtain ⟨ts,rfl,q1⟩:=q1
  cases r1 with
  | @list p xs _ hq rs =>
    refine ⟨.inl ⟨rfl,_,L2.Same.seq mask_le hq⟩,ra B p0 H1 ps σT σ _ _ (o.grow s1) q1 fun ds ys H2 s2 r2 q2=>?_⟩
    obtain ⟨d,rfl,hok,q⟩:=q2
    cases r2 with
    | cons r3 r4 =>
      cases r4
      exact ⟨_,ts,d,rfl,(Rep.list hq rs).same ((mask_same s2).trans mask_le),r3.same mask_le,hok,k _ _ H2 (s1.trans s2) (.int _) q⟩
def sRetPairF (ta tb:FT):STt:=fun DT σ=>ta σ fun as=>tb σ fun bs=>DT.rp as bs
theorem st_retPairF {n m:Expr} {x1} {p2:Pos} {ta tb:FT} (hn:PFt X n ta) (hm:PFt X m tb) (hs:starEach [n,m] X.env=(false,eval n X.env)::starEach [m] X.env:=by rfl) (hs2:starEach [m] X.env=(false,eval m X.env)::starEach [] X.env:=by rfl):PSt X (.Return (some (.Tuple [n,m] x1 p2)) pos) (sRetPairF ta tb):=by
  obtain ⟨va,pa,ra⟩:=hn
  obtain ⟨vb,pb,rb⟩:=hm
  refine ⟨_,ps_ret (pe_tup (pa_cons pa (pa_cons pb pa_nil hs2) hs)),fun B p0 H ps σT σ DT DV o h f=>?_⟩
  refine ra B p0 H ps σT σ _ _ o h fun as p xs H1 s1 hp hx rs q1=>?_
  have o1:Ok X.K B p0 H1 (p::ps) σT σ:=by
    have o2:=o.grow (without_same s1 hp)
    have hn:without H1 p p=none:=by unfold without; rw [if_pos rfl]
    have o3:=o2.adopt (u:=.lst xs) hn
    rwa [without_upd hx] at o3
  refine rb B p0 H1 (p::ps) σT σ _ _ o1 q1 fun bs q ys H2 s2 hq hy rs2 q2=>?_
  refine ⟨Nat.le_of_ble_eq_true rfl,fun r hr=>?_⟩
  have hp2:=s2 _ _ hx
  have hpq:p ≠ q:=fun z=>by rw [z,hq] at hx; cases hx
  have nrp:p ≠ r:=fun z=>by rw [z,hr] at hp2; cases hp2
  have nrq:q ≠ r:=fun z=>by rw [z,hr] at hy; cases hy
  have bn:∀ {z:Addr},H z=none→B z=none:=fun hz=>Same.free' o.base hz
  have live:∀ z ∈ p0,H z ≠ none:=fun z hz=>o.live z (o.sub z hz)
  have m1:Same (mask H1 (p::ps)) (mask (upd H2 r (.tup [.ref p,.ref q])) (p::q::p0)):=fun b u hb=>by
    unfold mask at hb ⊢
    by_cases hbp:b ∈ p::ps
    · rw [if_pos hbp] at hb; cases hb
    · rw [if_neg hbp] at hb
      have h2:=s2 _ _ hb
      have hbr:b ≠ r:=fun z=>by rw [z,hr] at h2; cases h2
      have hbq:b ≠ q:=fun z=>by rw [z,hq] at hb; cases hb
      rw [if_neg,upd_ne hbr]
      · exact h2
      · intro z
        rcases List.mem_cons.mp z with z | z
        · exact hbp (z ▸ List.mem_cons_self ..)
        · rcases List.mem_cons.mp z with z | z
          · exact hbq z
          · exact hbp (List.mem_cons_of_mem _ (o.sub b z))
  have m2:Same (mask H2 (q::p::ps)) (mask (upd H2 r (.tup [.ref p,.ref q])) (p::q::p0)):=(mask_same (same_new hr)).trans (mask_sub fun z hz=>by
    rcases List.mem_cons.mp hz with rfl | hz
    · exact List.mem_cons_of_mem _ (List.mem_cons_self ..)
    · rcases List.mem_cons.mp hz with rfl | hz
      · exact List.mem_cons_self ..
      · exact List.mem_cons_of_mem _ (List.mem_cons_of_mem _ (o.sub z hz)))
  exact f.rp as bs r p q xs ys _ (o.base.trans (s1.trans (s2.trans (same_new hr)))) (Same.free' (o.base.trans (s1.trans s2)) hr) (bn hp) (Same.free' (o.base.trans s1) hq) hpq upd_same (by rw [upd_ne nrp]; exact hp2) (by rw [upd_ne nrq]; exact hy) (rs.same m1) (rs2.same m2) q2
end
end TL
namespace TL
open PySem
end TL
namespace TL
open PySem PySem.Spec PyProof.Rows L2
section
variable {fr:List (Option Nat)} {ti:IT} {tt:TTt} {te:ET} {σ:List Sl} {Q:D→Prop} {ts:List D}
theorem lcp_filt (hti:Gives' ti σ ts) (p:D→Bool) (f:D→D) (hz:ts.length≤100000) (h2:∀ x ∈ ts,∃ a b,x=.tuple [a,b])
    (hp:∀ (a b:D) (q:Bool→Prop),.tuple [a,b] ∈ ts→q (p (.tuple [a,b]))→tt (((inBlkT fr σ).set 0 (.val a)).set 1 (.val b)) q)
    (ht:∀ (a b:D) (q:D→Prop),.tuple [a,b] ∈ ts→q (f (.tuple [a,b]))→te (((inBlkT fr σ).set 0 (.val a)).set 1 (.val b)) q) (hq:Q (.list ((ts.filter p).map f))):eLc fr ti (gP 0 1) tt te σ Q:=by
  refine hti _ ⟨hz,fun k σ' ds=>(∀ x y,(σ'.set 0 (.val x)).set 1 (.val y)=((inBlkT fr σ).set 0 (.val x)).set 1 (.val y))∧ds=((ts.take k).filter p).map f,⟨fun _ _=>rfl,rfl⟩,fun k x σ' ds hx h=>?_,fun σ' ds h=>?_⟩
  · obtain ⟨h1,rfl⟩:=h
    have hm:x ∈ ts:=List.mem_of_getElem? hx
    obtain ⟨a,b,rfl⟩:=h2 x hm
    refine ⟨a,b,rfl,?_⟩
    show tt ((σ'.set 0 (.val a)).set 1 (.val b)) _
    rw [h1 a b]
    refine hp a b _ hm ?_
    have e:ts.take (k + 1)=ts.take k++[.tuple [a,b]]:=by rw [List.take_add_one,hx]; rfl
    cases hb:p (.tuple [a,b]) with
    | true =>
      rw [if_pos rfl]
      refine ht a b _ hm ⟨fun x y=>set2_set2 _ _ _ _ _,?_⟩
      rw [e,List.filter_append,List.map_append]
      simp [hb]
    | false =>
      rw [if_neg (by decide)]
      refine ⟨fun x y=>set2_set2 _ _ _ _ _,?_⟩
      rw [e,List.filter_append,List.map_append]
      simp [hb]
  · obtain ⟨_,rfl⟩:=h
    rw [List.take_length]; exact hq
end
end TL

set_option Elab.async false
set_option linter.all false
namespace TL
open PySem PySem.Builtin PySem.Builtin.Str PySem.StrLaws
end TL

set_option Elab.async false
set_option linter.all false
set_option maxRecDepth 100000
namespace L2
open PySem PySem.Spec PyProof.Rows PySem.Builtin.Str
section
variable {X:Cx}
end
end L2
namespace TL
open PySem PySem.Spec PyProof.Rows L2
section
variable {X:Cx} {a b c e:Expr} {es:List Expr} {ta tb te:ET} {pos:Pos}
theorem st_no {s:Stmt}:PSt X s (fun _ _=>False):=⟨fun _ _ _=>False,fun _ _ _ _ _ _ h=>h.elim,fun _ _ _ _ _ _ _ _ _ h _=>h.elim⟩
end
end TL

set_option Elab.async false
set_option linter.all false
set_option maxRecDepth 100000
namespace L2
open PySem PySem.Spec PyProof.Rows PySem.Builtin
section
variable {X:Cx} {e:Expr} {pos:Pos}
end
end L2
namespace TL
open PySem PySem.Spec PyProof.Rows L2
section
variable {X:Cx} {a b c e:Expr} {es:List Expr} {ta tb te:ET} {pos:Pos}
end
end TL

set_option Elab.async false
set_option linter.all false
set_option maxRecDepth 100000
namespace L2
open PySem PySem.Spec PyProof.Rows
section
variable {X:Cx} {pins:List (Addr × Obj)} {σ:St} {H:Hp} {s:Shared} {p q:Addr}
end
end L2
namespace TL
open PySem PySem.Spec PyProof.Rows L2
section
variable {X:Cx} {a b c e:Expr} {es:List Expr} {ta tb te:ET} {pos:Pos}
end
end TL
namespace TL
open PySem PySem.Spec PyProof.Rows L2
section
variable {X:Cx} {a b c e:Expr} {es:List Expr} {ta tb te:ET} {pos:Pos}
def constSs:List Expr→Option (List Str)
  | []=>some []
  | .Constant (.str z) _ _::es=>(constSs es).map (z::·)
  | _=>none
theorem at_consts:∀ {es:List Expr} {zs:List Str},constSs es=some zs→PAt X es (fun _ Q=>Q (zs.map PyData.str))
  | [],zs,h=>by
    cases h
    exact at_nil
  | .Constant (.str z) k p::es,zs,h=>by
    have h':(constSs es).map (z::·)=some zs:=h
    obtain ⟨ys,hy,rfl⟩:=Option.map_eq_some_iff.mp h'
    exact at_cons et_str (at_consts hy)
theorem st_setN {i:Nat} {x:Str} {pos':Pos} (hN:X.N.Nodup) (hi:X.N[i]?=some x) (hx:Loc X.env.scope x) (he:PEt X e te) (hs:swapsWith e (some (.Name x pos')) pos.line X.env=pure false:=by rfl) (hf:X.fn x=true ∨ X.env.scope.names.lookup x=some .local:=by first | exact .inl rfl | exact .inr rfl | assumption) :
    PSt X (.Assign [.Name x pos'] e pos) (sSet i te):=st_set he fun h=>ps_set hN hi hx h hs hf
end
end TL

set_option Elab.async false
set_option linter.all false
set_option maxRecDepth 100000
namespace L2
open PySem PySem.Spec PyProof.Rows
section
variable {P:Program} {w:World} {A:Around} {E:Value→Shared→Prop} {s:Shared}
end
section
variable {X:Cx}
end
end L2
namespace TL
open PySem PySem.Spec PyProof.Rows L2
section
variable {X:Cx} {a b:Expr} {pos:Pos}
end
end TL

set_option Elab.async false
set_option linter.all false
set_option maxRecDepth 100000
namespace L2
open PySem PySem.Spec PyProof.Rows

section
variable {κ:Type} [DecidableEq κ]
def valV (kvs:List (κ × V)) (k:κ):Option V:=(kvs.find? fun kv=>decide (kv.1=k)).map (·.2)
def putK (kvs:List (κ × V)) (k:κ) (v:V):List (κ × V) :=
  if (kvs.any fun kv=>decide (kv.1=k))=true then kvs.map (fun kv=>if kv.1=k then (kv.1,v) else kv) else kvs++[(k,v)]
def dropK (kvs:List (κ × V)) (k:κ):List (κ × V):=kvs.filter fun kv=>decide (kv.1 ≠ k)

theorem valV_pos {p:κ × V} {r:List (κ × V)} {k:κ} (e:p.1=k):valV (p::r) k=some p.2:=by simp [valV,List.find?_cons,e]
theorem valV_neg {p:κ × V} {r:List (κ × V)} {k:κ} (e:¬ p.1=k):valV (p::r) k=valV r k:=by simp [valV,List.find?_cons,e]
theorem valV_any (k:κ):∀ kvs:List (κ × V),(kvs.any fun kv=>decide (kv.1=k))=(valV kvs k).isSome
  | []=>rfl
  | p::r=>by
    rw [List.any_cons]
    by_cases e:p.1=k
    · simp only [valV_pos e,decide_eq_true e,Bool.true_or,Option.isSome_some]
    · rw [valV_neg e,decide_eq_false e,Bool.false_or]; exact valV_any k r
theorem length_putK (kvs:List (κ × V)) (k:κ) (v:V):(putK kvs k v).length≤kvs.length + 1:=by
  unfold putK
  split
  · rw [List.length_map]; omega
  · rw [List.length_append,List.length_cons,List.length_nil]; omega
theorem RelO.isSome_eq {o:Option V} {u:Option Value} (r:RelO o u):o.isSome=u.isSome:=by
  cases o with
  | none=>cases u with
    | none=>rfl
    | some _=>exact (show False from r).elim
  | some _=>cases u with
    | none=>exact (show False from r).elim
    | some _=>rfl
theorem RelO.getD {o:Option V} {u:Option Value} {d:V} {d':Value} (r:RelO o u) (rd:RelV d d'):RelV (o.getD d) (u.getD d'):=by
  cases o with
  | none=>cases u with
    | none=>exact rd
    | some _=>exact (show False from r).elim
  | some _=>cases u with
    | none=>exact (show False from r).elim
    | some _=>exact r

theorem KV.val {kvs:List (κ × V)} {vs:List (κ × Value)} (r:KV kvs vs) (k:κ):RelO (valV kvs k) (valueAt vs k):=by
  unfold KV at r
  induction r with
  | nil=>exact True.intro
  | @cons p q ps qs h t ih =>
    obtain ⟨h1,h2⟩:=h
    by_cases e:p.1=k
    · have e':q.1=k:=h1.symm.trans e
      have b:valueAt (q::qs) k=some q.2:=by simp [valueAt,List.find?_cons,e']
      rw [valV_pos e,b]; exact h2
    · have e':¬ q.1=k:=fun z=>e (h1.trans z)
      have b:valueAt (q::qs) k=valueAt qs k:=by simp [valueAt,List.find?_cons,e']
      rw [valV_neg e,b]; exact ih
theorem KV.any {kvs:List (κ × V)} {vs:List (κ × Value)} (r:KV kvs vs) (k:κ):(kvs.any fun kv=>decide (kv.1=k))=vs.any fun kv=>decide (kv.1=k):=by
  unfold KV at r
  induction r with
  | nil=>rfl
  | cons h t ih=>rw [List.any_cons,List.any_cons,ih,h.1]
theorem KV.repl {kvs:List (κ × V)} {vs:List (κ × Value)} (r:KV kvs vs) (k:κ) {y:V} {u:Value} (ry:RelV y u) :
    KV (kvs.map fun kv=>if kv.1=k then (kv.1,y) else kv) (vs.map fun kv=>if kv.1=k then (kv.1,u) else kv):=by
  unfold KV at r ⊢
  induction r with
  | nil=>exact .nil
  | @cons p q ps qs h t ih =>
    rw [List.map_cons,List.map_cons]
    refine .cons ?_ ih
    obtain ⟨h1,h2⟩:=h
    by_cases e:p.1=k
    · rw [if_pos e,if_pos (h1.symm.trans e)]; exact ⟨h1,ry⟩
    · rw [if_neg e,if_neg (fun z=>e (h1.trans z))]; exact ⟨h1,h2⟩
theorem KV.put {kvs:List (κ × V)} {vs:List (κ × Value)} (r:KV kvs vs) (k:κ) {y:V} {u:Value} (ry:RelV y u):KV (putK kvs k y) (stored vs k u):=by
  unfold putK stored
  rw [r.any k]
  by_cases e:(vs.any fun kv=>decide (kv.1=k))=true
  · rw [if_pos e,if_pos e]; exact r.repl k ry
  · rw [if_neg e,if_neg e]; exact Paired.snoc r ⟨rfl,ry⟩
theorem KV.drop {kvs:List (κ × V)} {vs:List (κ × Value)} (r:KV kvs vs) (k:κ):KV (dropK kvs k) (without vs k):=by
  unfold KV at r ⊢
  unfold dropK without
  induction r with
  | nil=>exact .nil
  | @cons p q ps qs h t ih =>
    obtain ⟨h1,h2⟩:=h
    rw [List.filter_cons,List.filter_cons]
    by_cases e:p.1=k
    · have a:¬ decide (p.1 ≠ k)=true:=by simp [e]
      have b:¬ decide (q.1 ≠ k)=true:=by simp [h1.symm.trans e]
      rw [if_neg a,if_neg b]; exact ih
    · have e':¬ q.1=k:=fun z=>e (h1.trans z)
      have a:decide (p.1 ≠ k)=true:=by simp [e]
      have b:decide (q.1 ≠ k)=true:=by simp [e']
      rw [if_pos a,if_pos b]; exact .cons ⟨h1,h2⟩ ih
theorem KV.keys {kvs:List (κ × V)} {vs:List (κ × Value)} (r:KV kvs vs):kvs.map (·.1)=vs.map (·.1):=by
  unfold KV at r
  induction r with
  | nil=>rfl
  | cons h t ih=>rw [List.map_cons,List.map_cons,ih,h.1]
theorem KV.length {kvs:List (κ × V)} {vs:List (κ × Value)} (r:KV kvs vs):kvs.length=vs.length:=Paired.length r
end


theorem kV_is {P:Program} {w:World} {k:Key} {u:Value} (r:RelV (kV k) u):(mixKind P w).is k u=true:=by
  cases k with
  | inl i=>obtain ⟨t,e⟩:=(show ∃ t,u=Value.int i t from r); subst e; exact mixKind_int P w i t
  | inr x=>obtain ⟨t,e⟩:=(show ∃ t,u=Value.str x t from r); subst e; exact mixKind_str P w x t
theorem items_are {P:Program} {w:World}:∀ {ks:List Key} {us:List Value},Vals (ks.map kV) us→ItemsAre (mixKind P w) ks us
  | [],_,r=>by rw [List.map_nil] at r; cases r; exact .nil
  | k::ks,_,r=>by
    rw [List.map_cons] at r
    cases r with
    | cons h t=>exact .cons (kV_is h) (items_are t)

abbrev KT (H:Hp):List (List Key × V)→List (List Key × Addr × Value)→Prop:=Paired fun p q=>p.1=q.1∧H q.2.1=some (.tup (p.1.map kV))∧RelV p.2 q.2.2
theorem KT.val {H:Hp} {kvs:List (List Key × V)} {xs:List (List Key × Addr × Value)} (r:KT H kvs xs) (k:List Key):RelO (valV kvs k) ((atKey xs k).map (·.2)):=by
  induction r with
  | nil=>exact True.intro
  | @cons p q ps qs h t ih =>
    obtain ⟨h1,_,h2⟩:=h
    by_cases e:p.1=k
    · have e':q.1=k:=h1.symm.trans e
      have b:atKey (q::qs) k=some q.2:=by simp [atKey,List.find?_cons,e']
      rw [valV_pos e,b]; exact h2
    · have e':¬ q.1=k:=fun z=>e (h1.trans z)
      have b:atKey (q::qs) k=atKey qs k:=by simp [atKey,List.find?_cons,e']
      rw [valV_neg e,b]; exact ih
theorem KT.repl {H:Hp} {kvs:List (List Key × V)} {xs:List (List Key × Addr × Value)} (r:KT H kvs xs) (k:List Key) {y:V} {u:Value} (ry:RelV y u) :
    KT H (kvs.map fun kv=>if kv.1=k then (kv.1,y) else kv) (xs.map (putAt k u)):=by
  induction r with
  | nil=>exact .nil
  | @cons p q ps qs h t ih =>
    rw [List.map_cons,List.map_cons]
    refine .cons ?_ ih
    obtain ⟨h1,h2,h3⟩:=h
    unfold putAt
    by_cases e:p.1=k
    · rw [if_pos e,if_pos (h1.symm.trans e)]; exact ⟨h1,h2,ry⟩
    · rw [if_neg e,if_neg (fun z=>e (h1.trans z))]; exact ⟨h1,h2,h3⟩
theorem KT.put {H:Hp} {kvs:List (List Key × V)} {xs:List (List Key × Addr × Value)} (r:KT H kvs xs) (k:List Key) {b:Addr} {y:V} {u:Value} (hb:H b=some (.tup (k.map kV))) (ry:RelV y u) :
    KT H (putK kvs k y) (storedH xs k b u):=by
  have e:(kvs.any fun kv=>decide (kv.1=k))=(atKey xs k).isSome:=by
    rw [valV_any,(r.val k).isSome_eq,Option.isSome_map]
  unfold putK storedH
  rw [e]
  by_cases q:(atKey xs k).isSome=true
  · rw [if_pos q,if_pos q]; exact r.repl k ry
  · rw [if_neg q,if_neg q]; exact Paired.snoc r ⟨rfl,hb,ry⟩
theorem KT.keeps {H H':Hp} {kvs:List (List Key × V)} {xs:List (List Key × Addr × Value)} (r:KT H kvs xs) (ht:∀ b ys,H b=some (.tup ys)→H' b=some (.tup ys)):KT H' kvs xs :=
  Paired.mapP r fun _ _ z=>⟨z.1,ht _ _ z.2.1,z.2.2⟩

section
variable {P:Program} {w:World} {H:Hp} {h:Heap} {a:Addr}
theorem rd_of {u:HO} (ok:HOk P w H h) (e:Rd H a u):ObjOk P w H h a u:=e.ok ok
theorem dk_rd {kvs:List (Key × V)} (ok:HOk P w H h) (e:Rd H a (.dK kvs)):kvs.length≤sizeLine∧(a == sysModules)=false∧∃ vs,KV kvs vs∧h.DictOf (mixKind P w) a vs :=
  show ObjOk P w H h a (.dK kvs) from rd_of ok e
theorem dk_of {kvs:List (Key × V)} (ok:HOk P w H h) (e:H a=some (.dK kvs)):kvs.length≤sizeLine∧(a == sysModules)=false∧∃ vs,KV kvs vs∧h.DictOf (mixKind P w) a vs:=dk_rd ok (.inl e)
theorem key_of {ks:List Key} (ok:HOk P w H h) (e:H a=some (.tup (ks.map kV))):(tupleKind (mixKind P w)).is h ks a:=by
  obtain ⟨_,its,r,o,h1,h2,n,h3,_⟩:=(show ObjOk P w H h a (.tup (ks.map kV)) from ok a _ e)
  exact ⟨o,its.toArray,n,h1,h2,h3,by simpa using items_are r⟩
theorem dt_rd {kvs:List (List Key × V)} (ok:HOk P w H h) (e:Rd H a (.dT kvs)):kvs.length≤sizeLine∧(a == sysModules)=false ∧
    ∃ xs,KT H kvs xs∧h.DictOfH (tupleKind (mixKind P w)) a xs:=by
  obtain ⟨z,y,xs,r,o,es,ep,h1,h2,h3,h4,h5⟩:=(show ObjOk P w H h a (.dT kvs) from rd_of ok e)
  refine ⟨z,y,xs,r,o,es,ep,h1,h2,h3,h4,fun x hx=>?_,h5⟩
  have all:∀ {l:List (List Key × V)} {m:List (List Key × Addr × Value)},KT H l m→∀ x ∈ m,(tupleKind (mixKind P w)).is h x.1 x.2.1:=by
    intro l m q
    induction q with
    | nil=>intro x hx; exact nomatch hx
    | @cons p q ps qs hq t ih =>
      intro x hx
      rcases List.mem_cons.mp hx with e | hx
      · subst e
        exact key_of ok (by rw [← hq.1]; exact hq.2.1)
      · exact ih x hx
  exact all r x hx
theorem dt_of {kvs:List (List Key × V)} (ok:HOk P w H h) (e:H a=some (.dT kvs)):kvs.length≤sizeLine∧(a == sysModules)=false ∧
    ∃ xs,KT H kvs xs∧h.DictOfH (tupleKind (mixKind P w)) a xs:=dt_rd ok (.inl e)
end

def DGet (H:Hp) (a:Addr) (y:V) (r:Option V):Prop :=
  (∃ kvs k,Rd H a (.dK kvs)∧y=kV k∧r=valV kvs k) ∨ ∃ kvs k b,Rd H a (.dT kvs)∧y=.ref b∧H b=some (.tup (k.map kV))∧r=valV kvs k
def DPut (H:Hp) (a:Addr) (y v:V) (H':Hp):Prop :=
  (∃ kvs k,H a=some (.dK kvs)∧y=kV k∧kvs.length < sizeLine∧H'=upd H a (.dK (putK kvs k v))) ∨
  ∃ kvs k b,H a=some (.dT kvs)∧y=.ref b∧H b=some (.tup (k.map kV))∧kvs.length < sizeLine∧H'=upd H a (.dT (putK kvs k v))
theorem DGet.k {H:Hp} {a:Addr} {kvs:List (Key × V)} {k:Key} (e:H a=some (.dK kvs)):DGet H a (kV k) (valV kvs k):=.inl ⟨kvs,k,.inl e,rfl,rfl⟩
theorem DGet.t {H:Hp} {a b:Addr} {kvs:List (List Key × V)} {k:List Key} (e:H a=some (.dT kvs)) (eb:H b=some (.tup (k.map kV))):DGet H a (.ref b) (valV kvs k):=.inr ⟨kvs,k,b,.inl e,rfl,eb,rfl⟩
theorem DPut.k {H:Hp} {a:Addr} {kvs:List (Key × V)} {k:Key} {v:V} (e:H a=some (.dK kvs)) (hl:kvs.length < sizeLine):DPut H a (kV k) v (upd H a (.dK (putK kvs k v))):=.inl ⟨kvs,k,e,rfl,hl,rfl⟩
theorem DPut.t {H:Hp} {a b:Addr} {kvs:List (List Key × V)} {k:List Key} {v:V} (e:H a=some (.dT kvs)) (eb:H b=some (.tup (k.map kV))) (hl:kvs.length < sizeLine) :
    DPut H a (.ref b) v (upd H a (.dT (putK kvs k v))):=.inr ⟨kvs,k,b,e,rfl,eb,hl,rfl⟩


section
variable {X:Cx} {pins:List (Addr × Obj)} {σ:St} {H:Hp} {s:Shared} {a:Addr} {y v:V} {u r:Value} {o:Option V} {A:Around} {E:Value→Shared→Prop}

theorem Inv.big (I:Inv X pins σ H s):sysModules < s.heap.objs.size:=by
  have h:mainGlobals < s.heap.objs.size:=(I.mod.glob.keeps I.bk).lt
  exact Nat.lt_trans (by decide) h

theorem d_getItem {Q:Value→Shared→Prop} (hu:A.units + 1 < cLine) (I:Inv X pins σ H s) (g:DGet H a y (some v)) (ry:RelV y u) (h:∀ w' s',Inv X pins σ H s'→RelV v w'→Q w' s') :
    wpAny (model X.prog X.w) A (getItem (.ref a) u) Q E s:=by
  rcases g with ⟨kvs,k,e,ey,l⟩ | ⟨kvs,k,b,e,ey,eb,l⟩
  · subst ey
    obtain ⟨z,hd,vs,rel,dd⟩:=dk_rd I.hok e
    obtain ⟨w',hw,rw'⟩:=RelO.some_of (v:=v) (o:=valueAt vs k) (by rw [l]; exact rel.val k)
    exact wpAny_getItem_of (kV_is ry) dd.mapOf hw (h w' _ (I.tok _) rw')
  · subst ey
    cases (show u=Value.ref b from ry)
    obtain ⟨z,hd,xs,rel,dd⟩:=dt_rd I.hok e
    obtain ⟨w',hw,rw'⟩:=RelO.some_of (v:=v) (o:=(atKey xs k).map (·.2)) (by rw [l]; exact rel.val k)
    obtain ⟨p,hp,hp2⟩:=Option.map_eq_some_iff.mp hw
    refine wpAny_getItem_heap (tupleKind_room_in1 hu) (key_of I.hok eb) dd hp ?_
    rw [hp2]
    exact h w' _ (I.tok _) rw'
theorem d_write {h':Heap} {t':Nat} {ob:HO} (I:Inv X pins σ H s) (mu:Mut (H a)) (hs:Heap.SameBut a s.heap h') (he:∃ q,h'.get? a=some q) (new:ObjOk X.prog X.w (upd H a ob) h' a ob) :
    Inv X pins σ (upd H a ob) { s with heap:=h',toks:=t' } :=
  I.write (x:=a) (e:=a) mu (.inl rfl) (fun b q hb z=>(hs.2 b hb).trans z) he new
theorem dk_new {P:Program} {w:World} {H':Hp} {h':Heap} {kvs:List (Key × V)} {vs:List (Key × Value)} (z:kvs.length≤sizeLine) (hd:(a == sysModules)=false) (rel:KV kvs vs) (dd:h'.DictOf (mixKind P w) a vs) :
    ObjOk P w H' h' a (.dK kvs):=⟨z,hd,vs,rel,dd⟩
theorem d_setItem {H':Hp} {Q:Unit→Shared→Prop} (hu:A.units + 1 < cLine) (I:Inv X pins σ H s) (g:DPut H a y v H') (ry:RelV y u) (rv:RelV v r) (h:∀ s',Inv X pins σ H' s'→Q () s') :
    wpAny (model X.prog X.w) A (setItem (.ref a) u r) Q E s:=by
  rcases g with ⟨kvs,k,e,ey,l,eH⟩ | ⟨kvs,k,b,e,ey,eb,l,eH⟩
  · subst ey eH
    obtain ⟨z,hd,vs,rel,dd⟩:=dk_of I.hok e
    have hz:vs.length≤sizeLine:=by rw [← rel.length]; exact z
    have hl:(putK kvs k v).length≤sizeLine:=by have:=length_putK kvs k v; omega
    refine wpAny_setItem_pairs (hsz:=hz) (kV_is ry) dd fun h' dd' hs=>h _ ?_
    have he:∃ q,h'.get? a=some q:=let ⟨q,_,_,hq,_⟩:=dd'; ⟨q,hq⟩
    exact d_write I (by rw [e]; exact True.intro) hs he (dk_new hl hd (rel.put k rv) dd')
  · subst ey eH
    cases (show u=Value.ref b from ry)
    obtain ⟨z,hd,xs,rel,dd⟩:=dt_of I.hok e
    have hz:xs.length≤sizeLine:=by rw [← Paired.length rel]; exact z
    have hl:(putK kvs k v).length≤sizeLine:=by have:=length_putK kvs k v; omega
    refine wpAny_setItem_heap (hsz:=hz) (tupleKind_room_in1 hu) (key_of I.hok eb) dd fun h' dd' hs=>h _ ?_
    obtain ⟨q,es,ep,hq,h2,h3,h4,_,h5⟩:=dd'
    refine d_write I (by rw [e]; exact True.intro) hs ⟨q,hq⟩ ⟨hl,hd,_,(rel.put k eb rv).keeps fun c ys ec=>?_,q,es,ep,hq,h2,h3,h4,h5⟩
    rw [upd_ne (ne_of ec e (fun z=>nomatch z))]
    exact ec
end

section
variable {X:Cx} {pins:List (Addr × Obj)} {σ:St} {H:Hp} {s:Shared} {a:Addr} {kvs:List (Key × V)} {k:Key} {u:Value} {A:Around} {E:Value→Shared→Prop}
end


def NoSl (i:Expr):Prop:=∀ ov iv,subscripted i false ov iv=operate [ov,iv] (getItem ov iv)
theorem subD_of {prog:Program} {w:World} {A:Around} {E:Value→Shared→Prop} {s:Shared} {env:Env} {value slice:Expr} {pos:Pos} {T id:String} {Q:Value→Shared→Prop}
    (hl:typeLookup (.type T) "__getitem__"=pure (some (.builtin id))) (hs:NoSl slice)
    (h:wpAny (model prog w) A (eval value env) (fun o s₁=>wpAny (model prog w) A (eval slice env) (fun i s₂=>s₂.TypeIs o T∧wpAny (model prog w) A (getItem o i) Q E s₂) E s₁) E s) :
    wpAny (model prog w) A (eval (.Subscript value slice pos) env) Q E s:=by
  refine Subscript_ (wpAny_mono h (fun o s₁ h₁=>wpAny_mono h₁ (fun i s₂ h₂=>?_) fun _ _ x=>x) fun _ _ x=>x)
  obtain ⟨hT,h₂⟩:=h₂
  unfold subscriptTail
  refine wpAny_bind ?_
  rw [getitemInPython_of_ne hT.not_modules]
  refine wpAny_bind (wpAny_specialOf hT hl ?_)
  have fin:wpAny (model prog w) A (subscripted slice false o i) (fun r s₃=>wpAny (model prog w) A (letTemporaryGo value o r >>= fun _=>pure r) Q E s₃) E s₂:=by
    rw [hs o i]
    exact wpAny_operating (wpAny_mono h₂ (fun r s₃ h₃=>wpAny_bind (wpAny_letTemporaryGo (wpAny_pure h₃))) fun _ _ x=>x)
  first
    | exact wpAny_pure (wpAny_bind fin)
    | exact wpAny_bind (wpAny_pure (wpAny_bind fin))
    | exact wpAny_bind fin

theorem dict_typeIs {X:Cx} {pins:List (Addr × Obj)} {σ:St} {H:Hp} {s:Shared} {a:Addr} {y:V} {o:Option V} (I:Inv X pins σ H s) (g:DGet H a y o):s.TypeIs (.ref a) "dict":=by
  rcases g with ⟨kvs,k,e,_,_⟩ | ⟨kvs,k,b,e,_,_,_⟩
  · obtain ⟨_,_,vs,_,dd⟩:=dk_rd I.hok e
    exact dd.typeIs
  · obtain ⟨_,_,xs,_,dd⟩:=dt_rd I.hok e
    exact dd.typeIs
def tDGet (td ty:TE):TE:=fun σ H Q=>td σ H fun x H1=>ty σ H1 fun y H2=>∃ a v,x=.ref a∧DGet H2 a y (some v)∧Q v H2
def sDPut (td ty tv:TE):TS:=fun D σ H=>tv σ H fun v H1=>td σ H1 fun x H2=>ty σ H2 fun y H3=>∃ a H4,x=.ref a∧DPut H3 a y v H4∧D.nx σ H4
section
variable {X:Cx} {o i e value:Expr} {pos pos' tpos:Pos} {td ty tv:TE}
theorem pe_dget (hu:X.A.units + 1 < cLine) (ho:PE X o td) (hi:PE X i ty) (hs:NoSl i):PE X (.Subscript o i pos) (tDGet td ty):=by
  intro pins s σ H Q I h
  refine subD_of PySem.F.slot_dict_getitem.lookup hs (thn (ho pins s σ H _ I h) fun u s1 ⟨x,H1,I1,rx,q1⟩=>thn (hi pins s1 σ H1 _ I1 q1) fun iv s2 ⟨y,H2,I2,ry,a,v,ex,g,q2⟩=>?_)
  subst ex
  obtain rfl:u=Value.ref a:=rx
  exact ⟨dict_typeIs I2 g,d_getItem hu I2 g ry fun w' s3 I3 rw'=>⟨v,H2,I3,rw',q2⟩⟩
theorem ps_dput (hu:X.A.units + 1 < cLine) (ho:PE X o td) (hi:PE X i ty) (hv:PE X value tv) (hs:swapsWith value (some (.Subscript o i pos')) pos.line X.env=pure false) :
    PS X (.Assign [.Subscript o i pos'] value pos) (sDPut td ty tv):=by
  intro pins s σ H D I h
  refine wpAny_Assign_Subscript (thn (hv pins s σ H _ I h) fun r s1 ⟨v,H1,I1,rv,q1⟩=>thn (ho pins s1 σ H1 _ I1 q1) fun u s2 ⟨x,H2,I2,rx,q2⟩=>thn (hi pins s2 σ H2 _ I2 q2) fun iv s3 ⟨y,H3,I3,ry,a,H4,ex,g,q3⟩=>?_) hs
  subst ex
  obtain rfl:u=Value.ref a:=rx
  exact d_setItem hu I3 g ry rv fun s4 I4=>⟨σ,H4,I4,q3⟩
end


theorem dk_empty {P:Program} {w:World} {H:Hp} (h:Heap) (hb:sysModules < h.objs.size):ObjOk P w H (h.push { cls:=.type "dict",data:=.dict #[] }) h.objs.size (.dK []) :=
  ⟨Nat.zero_le _,beq_eq_false_iff_ne.mpr (Ne.symm (Nat.ne_of_lt hb)),[],.nil,Heap.DictOf.new h⟩
section
variable {X:Cx} {pos:Pos}
end

def tPairs:List (TE × TE)→St→Hp→(List (V × V)→Hp→Prop)→Prop
  | [],_,H,Q=>Q [] H
  | (tk,tv)::r,σ,H,Q=>tk σ H fun x H1=>tv σ H1 fun y H2=>tPairs r σ H2 fun ps H3=>Q ((x,y)::ps) H3
abbrev VV:List (V × V)→List (Value × Value)→Prop:=Paired fun p q=>RelV p.1 q.1∧RelV p.2 q.2
def PPs (X:Cx) (pos:Pos) (keys:List (Option Expr)) (values:List Expr) (trs:List (TE × TE)):Prop :=
  ∀ (pins:List (Addr × Obj)) (s:Shared) (σ:St) (H:Hp) (Q:List (V × V)→Hp→Prop),Inv X pins σ H s→tPairs trs σ H Q →
    wpAny (model X.prog X.w) X.A (evalPairs (pairTrees keys values X.env pos)) (fun vs s'=>∃ ps H',Inv X pins σ H' s'∧VV ps vs∧Q ps H') X.xe s
theorem pps_nil {X:Cx} {pos:Pos}:PPs X pos [] [] []:=fun pins s σ H Q I h=>pairTrees_nil_walk ⟨[],H,I,.nil,h⟩
theorem pps_cons {X:Cx} {pos:Pos} {k v:Expr} {ks:List (Option Expr)} {vs:List Expr} {tk tv:TE} {trs:List (TE × TE)} (hk:PE X k tk) (hv:PE X v tv) (hr:PPs X pos ks vs trs) :
    PPs X pos (some k::ks) (v::vs) ((tk,tv)::trs):=fun pins s σ H Q I h =>
  pairTrees_cons_walk (thn (hk pins s σ H _ I h) fun u s1 ⟨x,H1,I1,rx,q1⟩=>thn (hv pins s1 σ H1 _ I1 q1) fun w2 s2 ⟨y,H2,I2,ry,q2⟩ =>
    thn (hr pins s2 σ H2 _ I2 q2) fun ws s3 ⟨ps,H3,I3,rel,q3⟩=>⟨(x,y)::ps,H3,I3,.cons ⟨rx,ry⟩ rel,q3⟩)

def mergeK (kvs more:List (Key × V)):List (Key × V):=more.foldl (fun acc kv=>putK acc kv.1 kv.2) kvs
theorem KV.merge:∀ {more:List (Key × V)} {rs:List (Key × Value)} {kvs:List (Key × V)} {vs:List (Key × Value)},KV more rs→KV kvs vs→KV (mergeK kvs more) (merged vs rs):=by
  intro more rs kvs vs r
  unfold KV at r
  induction r generalizing kvs vs with
  | nil=>intro q; exact q
  | @cons p q ps qs h t ih =>
    intro r0
    have e:KV (putK kvs p.1 p.2) (stored vs q.1 q.2):=by
      have:=r0.put p.1 h.2
      rw [← h.1]; exact this
    exact ih e
theorem length_mergeK:∀ (more kvs:List (Key × V)),(mergeK kvs more).length≤kvs.length + more.length
  | [],kvs=>by show kvs.length≤kvs.length + 0; omega
  | p::r,kvs=>by
    have h1:=length_mergeK r (putK kvs p.1 p.2)
    have h2:=length_putK kvs p.1 p.2
    show (mergeK (putK kvs p.1 p.2) r).length≤_
    rw [List.length_cons]; omega
theorem carries_of {P:Program} {w:World}:∀ {kvs:List (Key × V)} {ws:List (Value × Value)},VV (kvs.map fun kv=>(kV kv.1,kv.2)) ws→∃ rs,Carries (mixKind P w) ws rs∧KV kvs rs
  | [],_,r=>by rw [List.map_nil] at r; cases r; exact ⟨[],True.intro,.nil⟩
  | p::kvs,_,r=>by
    rw [List.map_cons] at r
    cases r with
    | @cons a b as bs h t =>
      obtain ⟨rs,c,q⟩:=carries_of (P:=P) (w:=w) t
      obtain ⟨b1,b2⟩:=b
      exact ⟨(p.1,b2)::rs,⟨kV_is h.1,rfl,c⟩,.cons ⟨rfl,h.2⟩ q⟩
def tDisp (trs:List (TE × TE)):TE:=fun σ H Q=>∀ p,H p=none→tPairs trs σ (upd H p (.dK [])) fun ps H2=>H2 p=some (.dK [])∧∃ kvs:List (Key × V),ps=kvs.map (fun kv=>(kV kv.1,kv.2))∧kvs.length≤15∧Q (.ref p) (upd H2 p (.dK (mergeK [] kvs)))
theorem pe_disp {X:Cx} {pos:Pos} {keys:List (Option Expr)} {values:List Expr} {trs:List (TE × TE)} (h:PPs X pos keys values trs) (hall:keys.all (·.isSome)=true) (hl:keys.length=values.length) (h0:keys ≠ [])
    (h15:keys.length≤15):PE X (.Dict keys values pos) (tDisp trs):=by
  intro pins s σ H Q I q
  have hn:=I.hok.fresh (Nat.le_refl s.heap.objs.size)
  have I1:=I.laid (a:=s.heap.objs.size) (o:=.dK []) (h':=s.heap.push { cls:=.type "dict",data:=.dict #[] }) (t':=s.toks) (fun _ _ q=>Heap.get?_push_of_some _ q) (Nat.le_refl _) (dk_empty s.heap I.big)
  refine wpAny_Dict_walk (knd:=mixKind X.prog X.w) hall hl h0 h15 (thn (h pins _ σ _ _ I1 (q _ hn)) fun ws s2 ⟨ps,H2,I2,rel,e,kvs,ep,lk,q2⟩=>?_)
  subst ep
  obtain ⟨rs,c,rk⟩:=carries_of (P:=X.prog) (w:=X.w) rel
  obtain ⟨z,hd,vs0,r0,dd⟩:=dk_of I2.hok e
  cases r0
  refine ⟨rs,c,dd,fun h' dd' hs=>⟨.ref s.heap.objs.size,_,?_,rfl,q2⟩⟩
  have hz:(mergeK [] kvs).length≤sizeLine:=by
    have h1:=length_mergeK kvs []
    rw [List.length_nil] at h1
    rw [sizeLine_eq]; omega
  have he:∃ q,h'.get? s.heap.objs.size=some q:=let ⟨q,_,_,hq,_⟩:=dd'; ⟨q,hq⟩
  exact d_write I2 (by rw [e]; exact True.intro) hs he (dk_new hz hd (rk.merge .nil) dd')



end L2

set_option Elab.async false
set_option linter.all false
set_option maxRecDepth 100000
namespace TL
open PySem PySem.Spec PyProof.Rows L2
structure Tape where
  p:Addr
  q:Addr
  ns:List Int
  b:Bool
def tapH (T:Tape) (n:Nat) (l:Int):HO:=.dK [(.inr "script",.ref T.q),(.inr "at",.int n),(.inr "left",.int l),(.inr "digits",.bl T.b)]
def tpD (T:Tape):D:=.dict [(.str "@",.list [.int (T.p:Nat),.int (T.q:Nat),.bool T.b,.list (T.ns.map PyData.int)])]
theorem rep_tp {K:PySem.W.Frag} {H:Hp} (T:Tape):Rep K H (tpD T) (.ref T.p):=.addr _
theorem rep_tp_inv {K:PySem.W.Frag} {H:Hp} {T:Tape} {v:V} (r:Rep K H (tpD T) v):v=.ref T.p:=by
  unfold tpD at r
  generalize hg:(PyData.dict [(.str "@",.list [.int (T.p:Nat),.int (T.q:Nat),.bool T.b,.list (T.ns.map PyData.int)])])=d at r
  cases r with
  | @addr p z =>
    injection hg with hg
    injection hg with hg _
    injection hg with _ hg
    injection hg with hg
    injection hg with hg _
    injection hg with hg
    rw [Int.ofNat.inj hg]
  | _=>cases hg
section
variable {K:PySem.W.Frag} {H H' H1 H2 B:Hp} {p0 ps:List Addr} {σT:List Sl} {σ:L2.St} {T:Tape} {n n':Nat} {p:Addr}
def SameX (p:Addr) (H H':Hp):Prop:=∀ a o,a ≠ p→H a=some o→H' a=some o
theorem SameX.of (s:Same H H'):SameX p H H':=fun a o _ e=>s a o e
theorem SameX.refl:SameX p H H:=fun _ _ _ e=>e
theorem SameX.trans (s:SameX p H H1) (t:SameX p H1 H2):SameX p H H2:=fun a o n e=>t a o n (s a o n e)
theorem SameX.mask (hp:p ∈ ps) (s:SameX p H H'):Same (mask H ps) (mask H' ps):=fun a o e=>by
  unfold TL.mask at e ⊢
  by_cases ha:a ∈ ps
  · rw [if_pos ha] at e; cases e
  · rw [if_neg ha] at e ⊢
    exact s a o (fun z=>ha (z ▸ hp)) e
structure TpAt (K:PySem.W.Frag) (H:Hp) (ps:List Addr) (T:Tape) (n:Nat):Prop where
  obj:∃ l,H T.p=some (tapH T n l)
  scr:SqL K (mask H ps) T.q (T.ns.map V.int)
  dig:T.b=true→0 < T.ns.length
theorem TpAt.grow (t:TpAt K H ps T n) (s:Same H H'):TpAt K H' ps T n:=⟨let ⟨l,e⟩:=t.obj; ⟨l,s _ _ e⟩,L2.Same.seq (mask_same s) t.scr,t.dig⟩
structure OkC (K:PySem.W.Frag) (B:Hp) (p0:List Addr) (H:Hp) (ps:List Addr) (σT:List Sl) (σ:L2.St) (T:Tape) (n:Nat):Prop where
  ok:Ok K B p0 H ps σT σ
  mem:T.p ∈ p0
  nb:B T.p=none
  tp:TpAt K H ps T n
  bq:SqL K (mask B p0) T.q (T.ns.map V.int)
theorem OkC.mem' (o:OkC K B p0 H ps σT σ T n):T.p ∈ ps:=o.ok.sub _ o.mem
theorem OkC.grow (o:OkC K B p0 H ps σT σ T n) (s:Same H H'):OkC K B p0 H' ps σT σ T n:=⟨o.ok.grow s,o.mem,o.nb,o.tp.grow s,o.bq⟩
theorem Ok.growX (o:Ok K B p0 H ps σT σ) (hp:p ∈ p0) (hB:B p=none) (s:SameX p H H') (hl:H' p ≠ none):Ok K B p0 H' ps σT σ where
  base:=fun a u e=>s a u (fun z=>by rw [z,hB] at e; cases e) (o.base a u e)
  sub:=o.sub
  live:=fun q hq z=>by
    by_cases e:q=p
    · subst e; exact hl z
    · cases h:H q with
      | none=>exact o.live q hq h
      | some u=>rw [s q u e h] at z; cases z
  len:=o.len
  val:=fun i d h=>let ⟨v,h1,h2⟩:=o.val i d h; ⟨v,h1,h2.same (s.mask (o.sub p hp))⟩
  own:=fun i ts h=>let ⟨q,xs,h1,h2,h3,h4,h5,h6⟩:=o.own i ts h; ⟨q,xs,h1,h2,h3,h4,s q _ (fun z=>h4 (z ▸ hp)) h5,h6.same (s.mask (o.sub p hp))⟩
  dis:=o.dis
theorem OkC.growX (o:OkC K B p0 H ps σT σ T n) (s:SameX T.p H H') (t:TpAt K H' ps T n'):OkC K B p0 H' ps σT σ T n' :=
  ⟨o.ok.growX o.mem o.nb s (by obtain ⟨l,e⟩:=t.obj; rw [e]; exact fun z=>nomatch z),o.mem,o.nb,t,o.bq⟩
theorem OkC.set (o:OkC K B p0 H ps σT σ T n) {i:Nat} {d:D} {v:V} (r:Rep K (mask H ps) d v):OkC K B p0 H ps (σT.set i (.val d)) (σ.set i (some v)) T n:=⟨o.ok.set r,o.mem,o.nb,o.tp,o.bq⟩
end
abbrev EC:=D→Nat→List Sl→(Nat→D→Prop)→Prop
abbrev AC:=D→Nat→List Sl→(Nat→List D→Prop)→Prop
abbrev TC:=D→Nat→List Sl→(Nat→Bool→Prop)→Prop
def PEc (X:Cx) (e:Expr) (t:EC):Prop:=∃ te:TE,PE X e te∧∀ (B:Hp) (p0:List Addr) (H:Hp) (ps:List Addr) (σT:List Sl) (σ:L2.St) (T:Tape) (n:Nat) (Q:Nat→D→Prop) (QV:VK),OkC X.K B p0 H ps σT σ T n→t (tpD T) n σT Q →
  (∀ n' d v H',SameX T.p H H'→TpAt X.K H' ps T n'→Rep X.K (mask H' ps) d v→Q n' d→QV v H')→te σ H QV
def PAc (X:Cx) (es:List Expr) (t:AC):Prop:=∃ ta:TA,PA X es ta∧∀ (B:Hp) (p0:List Addr) (H:Hp) (ps:List Addr) (σT:List Sl) (σ:L2.St) (T:Tape) (n:Nat) (Q:Nat→List D→Prop) (QV:List V→Hp→Prop),OkC X.K B p0 H ps σT σ T n→t (tpD T) n σT Q →
  (∀ n' ds vs H',SameX T.p H H'→TpAt X.K H' ps T n'→Reps X.K (mask H' ps) ds vs→Q n' ds→QV vs H')→ta σ H QV
def PTc (X:Cx) (e:Expr) (t:TC):Prop:=∃ tt:TT,PT X e tt∧∀ (B:Hp) (p0:List Addr) (H:Hp) (ps:List Addr) (σT:List Sl) (σ:L2.St) (T:Tape) (n:Nat) (Q:Nat→Bool→Prop) (QV:Bool→Hp→Prop),OkC X.K B p0 H ps σT σ T n→t (tpD T) n σT Q →
  (∀ n' b H',SameX T.p H H'→TpAt X.K H' ps T n'→Q n' b→QV b H')→tt σ H QV
def PWc (X:Cx) (e:Expr) (t:TC):Prop:=∃ tt:TT,PW X e tt∧∀ (B:Hp) (p0:List Addr) (H:Hp) (ps:List Addr) (σT:List Sl) (σ:L2.St) (T:Tape) (n:Nat) (Q:Nat→Bool→Prop) (QV:Bool→Hp→Prop),OkC X.K B p0 H ps σT σ T n→t (tpD T) n σT Q →
  (∀ n' b H',SameX T.p H H'→TpAt X.K H' ps T n'→Q n' b→QV b H')→tt σ H QV
section
variable {X:Cx} {a b e:Expr} {es:List Expr} {ta tb te:EC} {pos:Pos}
def cE (t:ET):EC:=fun _ n σ Q=>t σ (Q n)
theorem ec_p {t:ET} (h:PEt X e t):PEc X e (cE t):=by
  obtain ⟨v,p,r⟩:=h
  exact ⟨v,p,fun B p0 H ps σT σ T n Q QV o h k=>r B p0 H ps σT σ (Q n) QV o.ok h fun d v H' s rr q=>k n d v H' (.of s) (o.tp.grow s) rr q⟩
def cT (t:TTt):TC:=fun _ n σ Q=>t σ (Q n)
theorem tc_p {t:TTt} (h:PTt X e t):PTc X e (cT t):=by
  obtain ⟨v,p,r⟩:=h
  exact ⟨v,p,fun B p0 H ps σT σ T n Q QV o h k=>r B p0 H ps σT σ (Q n) QV o.ok h fun b H' s q=>k n b H' (.of s) (o.tp.grow s) q⟩
def cOp (f:D→D→(D→Prop)→Prop) (ta tb:EC):EC:=fun τ n σ Q=>ta τ n σ fun n1 x=>tb τ n1 σ fun n2 y=>f x y (Q n2)
theorem opc_read {r:R2} {f:D→D→(D→Prop)→Prop} (h2:Op2 X r f) {va vb:TE}
    (ha:∀ (B:Hp) (p0:List Addr) (H:Hp) (ps:List Addr) (σT:List Sl) (σ:L2.St) (T:Tape) (n:Nat) (Q:Nat→D→Prop) (QV:VK),OkC X.K B p0 H ps σT σ T n→ta (tpD T) n σT Q→(∀ n' d v H',SameX T.p H H'→TpAt X.K H' ps T n'→Rep X.K (mask H' ps) d v→Q n' d→QV v H')→va σ H QV)
    (hb:∀ (B:Hp) (p0:List Addr) (H:Hp) (ps:List Addr) (σT:List Sl) (σ:L2.St) (T:Tape) (n:Nat) (Q:Nat→D→Prop) (QV:VK),OkC X.K B p0 H ps σT σ T n→tb (tpD T) n σT Q→(∀ n' d v H',SameX T.p H H'→TpAt X.K H' ps T n'→Rep X.K (mask H' ps) d v→Q n' d→QV v H')→vb σ H QV)
    (B:Hp) (p0:List Addr) (H:Hp) (ps:List Addr) (σT:List Sl) (σ:L2.St) (T:Tape) (n:Nat) (Q:Nat→D→Prop) (QV:VK) (o:OkC X.K B p0 H ps σT σ T n) (h:cOp f ta tb (tpD T) n σT Q) (k:∀ n' d v H',SameX T.p H H'→TpAt X.K H' ps T n'→Rep X.K (mask H' ps) d v→Q n' d→QV v H'):tOp r va vb σ H QV:=by
  refine ha B p0 H ps σT σ T n _ _ o h fun n1 d1 x H1 s1 t1 r1 q1=>?_
  have o1:=o.growX s1 t1
  refine hb B p0 H1 ps σT σ T n1 _ _ o1 q1 fun n2 d2 y H2 s2 t2 r2 q2=>?_
  have o2:=o1.growX s2 t2
  exact h2 H2 ps d1 d2 x y (Q n2) QV o2.ok.live (r1.same (s2.mask o.mem')) r2 q2 fun d v H' s' r' q'=>k n2 d v H' ((s1.trans s2).trans (.of s')) (t2.grow s') r' q'
theorem ec_op {op:Operator} {r:R2} {f:D→D→(D→Prop)→Prop} (ho:OpR X (binaryOp op) r) (h2:Op2 X r f) (ha:PEc X a ta) (hb:PEc X b tb):PEc X (.BinOp a op b pos) (cOp f ta tb):=by
  obtain ⟨va,pa,ra⟩:=ha
  obtain ⟨vb,pb,rb⟩:=hb
  exact ⟨_,pe_op ho pa pb,opc_read h2 ra rb⟩
theorem ec_ix {r:R2} {f:D→D→(D→Prop)→Prop} (ho:IxR X r) (h2:Op2 X r f) (ha:PEc X a ta) (hb:PEc X b tb) (hs:PlainIx b:=by intro _ _; rfl):PEc X (.Subscript a b pos) (cOp f ta tb):=by
  obtain ⟨va,pa,ra⟩:=ha
  obtain ⟨vb,pb,rb⟩:=hb
  exact ⟨_,pe_ix ho pa pb hs,opc_read h2 ra rb⟩
def cIxOwn (i:Nat) (tb:EC):EC:=fun τ n σ Q=>∃ ts,σ[i]?=some (.own ts)∧tb τ n σ fun n1 y=>∃ (j:Int) (d:D),y=.int j∧atI ts j=some d∧Q n1 d
def cNil:AC:=fun _ n _ Q=>Q n []
def cCons (t:EC) (r:AC):AC:=fun τ n σ Q=>t τ n σ fun n1 x=>r τ n1 σ fun n2 xs=>Q n2 (x::xs)
theorem ac_nil:PAc X [] cNil:=⟨_,pa_nil,fun _ _ H _ _ _ _ _ _ _ o h k=>k _ _ _ H .refl o.tp .nil h⟩
theorem ac_cons {tr:AC} (ha:PEc X e te) (hr:PAc X es tr) (hs:starEach (e::es) X.env=(false,eval e X.env)::starEach es X.env:=by rfl):PAc X (e::es) (cCons te tr):=by
  obtain ⟨va,pa,ra⟩:=ha
  obtain ⟨vr,pr,rr⟩:=hr
  refine ⟨_,pa_cons pa pr hs,fun B p0 H ps σT σ T n Q QV o h k=>ra B p0 H ps σT σ T n _ _ o h fun n1 d x H1 s1 t1 r1 q1=>?_⟩
  refine rr B p0 H1 ps σT σ T n1 _ _ (o.growX s1 t1) q1 fun n2 ds xs H2 s2 t2 r2 q2=>?_
  exact k _ _ _ H2 (s1.trans s2) t2 (.cons (r1.same (s2.mask o.mem')) r2) q2
def cTup (t:AC):EC:=fun τ n σ Q=>t τ n σ fun n1 ds=>ds.length≤1000∧Q n1 (.tuple ds)
theorem ec_tup {x1} {t:AC} (h:PAc X es t):PEc X (.Tuple es x1 pos) (cTup t):=by
  obtain ⟨v,p,r⟩:=h
  refine ⟨_,pe_tup p,fun B p0 H ps σT σ T n Q QV o h k=>r B p0 H ps σT σ T n _ _ o h fun n1 ds xs H1 s1 t1 r1 q1=>⟨le_line (by rw [← r1.length]; exact q1.1),fun q hq=>?_⟩⟩
  exact k _ _ _ _ (s1.trans (.of (same_new hq))) (t1.grow (same_new hq)) (rep_tup (o.growX s1 t1).ok.live hq r1) q1.2
def cCall (f:List D→(D→Prop)→Prop) (t:AC):EC:=fun τ n σ Q=>t τ n σ fun n1 ds=>f ds (Q n1)
theorem ec_cb {r:List V→Hp→VK→Prop} {f:List D→(D→Prop)→Prop} {t:AC} {g:Expr} (hf:CallT X r f) (ha:PAc X (e::es) t) (pc:∀ {ta:TA},PA X (e::es) ta→PE X (.Call g (e::es) [] pos) (tCB r ta)):PEc X (.Call g (e::es) [] pos) (cCall f t):=by
  obtain ⟨v,pa,ra⟩:=ha
  refine ⟨_,pc pa,fun B p0 H ps σT σ T n Q QV o h k=>ra B p0 H ps σT σ T n _ _ o h fun n1 ds xs H1 s1 t1 r1 q1=>?_⟩
  exact hf H1 ps ds xs (Q n1) QV (o.growX s1 t1).ok.live r1 q1 fun d v H' s' r' q'=>k n1 d v H' (s1.trans (.of s')) (t1.grow s') r' q'
abbrev SpC:=D→Nat→List D→(Nat→D→Prop)→Prop
def liftSpC (K:PySem.W.Frag) (sp:SpC):Sp:=fun vs H Q _=>∃ (ps:List Addr) (T:Tape) (n:Nat) (ds:List D) (QD:Nat→D→Prop),(∀ p ∈ ps,H p ≠ none)∧T.p ∈ ps∧TpAt K H ps T n∧Reps K (mask H ps) (tpD T::ds) vs∧sp (tpD T) n ds QD ∧
  ∀ n' d v H',SameX T.p H H'→TpAt K H' ps T n'→Rep K (mask H' ps) d v→QD n' d→Q v H'
def cDraw (sp:SpC) (t:AC):EC:=fun τ n σ Q=>t τ n σ fun n1 ds=>∃ es,ds=τ::es∧sp τ n1 es Q
theorem ec_call {k:Nat} {f:Addr} {fd:FuncData} {pn:List Str} {sp:SpC} {x:Str} {p:Pos} {t:AC} (F:FnOk X.prog X.w X.K X.mg X.base CX0 k f fd pn (liftSpC X.K sp)) (hm:X.mg x=some (.ref f)) (hk:PySem.W.keepIn X.K (.ref f)=true) (hb:Binds X.K fd pn [])
    (hr:Room k X.A) (ha:PAc X (e::es) t) (pc:∀ {ta:TA},PA X (e::es) ta→PE X (.Call (.Name x p) (e::es) [] pos) (tCall (liftSpC X.K sp) [] E0 ta)):PEc X (.Call (.Name x p) (e::es) [] pos) (cDraw sp t):=by
  obtain ⟨v,pa,ra⟩:=ha
  refine ⟨_,pc pa,fun B p0 H ps σT σ T n Q QV o h k=>ra B p0 H ps σT σ T n _ _ o h fun n1 ds xs H1 s1 t1 r1 q1=>?_⟩
  obtain ⟨es',rfl,q1⟩:=q1
  show liftSpC X.K sp (xs++[]) H1 QV E0
  rw [List.append_nil]
  exact ⟨ps,T,n1,es',Q,(o.growX s1 t1).ok.live,o.mem',t1,r1,q1,fun n' d v H' s' t' r' q'=>k n' d v H' (s1.trans s') t' r' q'⟩
def cMeth (f:Str→List D→(D→Prop)→Prop) (te:ET) (t:AC):EC:=fun τ n σ Q=>te σ fun d=>∃ z,d=.str z∧t τ n σ fun n1 ds=>f z ds (Q n1)
theorem cmeth_read {f:Str→List D→(D→Prop)→Prop} {r:V→List V→Hp→VK→Prop} {g m:Expr} {te:ET} {t:AC} (hn:PEt X m te) (ha:PAc X (e::es) t)
    (hf:∀ (H:Hp) (ps:List Addr) (z:Str) (ds:List D) (xs:List V) (Q:D→Prop) (QV:VK),Reps X.K (mask H ps) ds xs→f z ds Q→(∀ d v H',Same H H'→Rep X.K (mask H' ps) d v→Q d→QV v H')→r (.str z) xs H QV)
    (pc:∀ {v:TE} {ta:TA},PE X m v→PA X (e::es) ta→PE X (.Call g (e::es) [] pos) (tBM X.K "str" r v ta)):PEc X (.Call g (e::es) [] pos) (cMeth f te t):=by
  obtain ⟨v,pe,re⟩:=hn
  obtain ⟨va,pa,ra⟩:=ha
  refine ⟨_,pc pe pa,fun B p0 H ps σT σ T n Q QV o h k=>re B p0 H ps σT σ _ _ o.ok h fun d x H1 s1 r1 q1=>?_⟩
  obtain ⟨z,rfl,q1⟩:=q1
  cases r1
  refine ⟨rfl,ra B p0 H1 ps σT σ T n _ _ (o.grow s1) q1 fun n1 ds xs H2 s2 t2 r2 q2=>?_⟩
  exact hf H2 ps z ds xs (Q n1) QV r2 q2 fun d v H' s' r' q'=>k n1 d v H' (((SameX.of s1).trans s2).trans (.of s')) (t2.grow s') r' q'
theorem ec_join {n:Expr} {ap:Pos} {te:ET} {t:AC} (hn:PEt X n te) (ha:PAc X (e::es) t)
    (pc:∀ {v:TE} {ta:TA},PE X n v→PA X (e::es) ta→PE X (.Call (.Attribute n "join" ap) (e::es) [] pos) (tBM X.K "str" (fun x xs H Q=>∃ z p ys,x=.str z∧xs=[.ref p]∧SqL X.K H p (ys.map V.str)∧(ys.map (·.length)).sum + ys.length * z.length≤16777216∧Q (.str (Txt.join z ys)) H) v ta)):PEc X (.Call (.Attribute n "join" ap) (e::es) [] pos) (cMeth gJoin te t) :=
  cmeth_read hn ha (fun H ps z ds xs Q QV r h k=>by
    cases r with
    | nil=>exact h.elim
    | cons r1 r2 =>
      cases r2 with
      | cons _ _=>cases r1 <;> exact h.elim
      | nil =>
        cases r1 with
        | list q s =>
          obtain ⟨ys,rfl,hz,h⟩:=h
          have e:=reps_strs s
          subst e
          exact ⟨z,_,ys,rfl,rfl,L2.Same.seq mask_le q,hz,k _ _ H (L2.Same.refl H) (.str _) h⟩
        | _=>exact h.elim) pc
def cVal (t:EC):TC:=fun τ n σ Q=>t τ n σ fun n1 x=>match x with | .bool b=>Q n1 b | _=>False
theorem tc_cmp {op:CmpOp} {r:R2} {f:D→D→(D→Prop)→Prop} (ho:OpR X (compareOp op) r) (h2:Op2 X r f) (ha:PEc X a ta) (hb:PEc X b tb) (hm:behindInMarks op b=false:=by first | exact nomark _ | rfl):PTc X (.Compare a [op] [b] pos) (cVal (cOp f ta tb)):=by
  obtain ⟨va,pa,ra⟩:=ha
  obtain ⟨vb,pb,rb⟩:=hb
  refine ⟨_,pt_cmpR ho pa pb hm,fun B p0 H ps σT σ T n Q QV o h k=>?_⟩
  refine opc_read h2 ra rb B p0 H ps σT σ T n (fun n1 x=>match x with | .bool b=>Q n1 b | _=>False) _ o h fun n' d v H' s' t' r' q'=>?_
  cases r' with
  | bool c=>exact ⟨c,rfl,k n' c H' s' t' q'⟩
  | _=>exact q'.elim
variable {tA tB':TC} {rest:List Expr}
def cAndC (t u:TC):TC:=fun τ n σ Q=>t τ n σ fun n1 b=>if b=true then u τ n1 σ Q else Q n1 false
def cOrC (t u:TC):TC:=fun τ n σ Q=>t τ n σ fun n1 b=>if b=true then Q n1 true else u τ n1 σ Q
theorem wc_pt (h:PWc X e tA):PTc X e tA:=by
  obtain ⟨v,p,r⟩:=h
  exact ⟨_,p.pt,r⟩
theorem wc_and1 (h:PTc X a tA):PWc X (.BoolOp .And [a] pos) tA:=by
  obtain ⟨v,p,r⟩:=h
  exact ⟨_,pw_and1 p,r⟩
theorem wc_or1 (h:PTc X a tA):PWc X (.BoolOp .Or [a] pos) tA:=by
  obtain ⟨v,p,r⟩:=h
  exact ⟨_,pw_or1 p,r⟩
theorem wc_and (ha:PTc X a tA) (hb:PWc X (.BoolOp .And (b::rest) pos) tB'):PWc X (.BoolOp .And (a::b::rest) pos) (cAndC tA tB'):=by
  obtain ⟨va,pa,ra⟩:=ha
  obtain ⟨vb,pb,rb⟩:=hb
  refine ⟨_,pw_and pa pb,fun B p0 H ps σT σ T n Q QV o h k=>ra B p0 H ps σT σ T n _ _ o h fun n1 c H1 s1 t1 q1=>?_⟩
  cases c with
  | true=>exact rb B p0 H1 ps σT σ T n1 Q _ (o.growX s1 t1) q1 fun n' b H' s' t' q'=>k n' b H' (s1.trans s') t' q'
  | false=>exact k _ _ H1 s1 t1 q1
theorem wc_or (ha:PTc X a tA) (hb:PWc X (.BoolOp .Or (b::rest) pos) tB'):PWc X (.BoolOp .Or (a::b::rest) pos) (cOrC tA tB'):=by
  obtain ⟨va,pa,ra⟩:=ha
  obtain ⟨vb,pb,rb⟩:=hb
  refine ⟨_,pw_or pa pb,fun B p0 H ps σT σ T n Q QV o h k=>ra B p0 H ps σT σ T n _ _ o h fun n1 c H1 s1 t1 q1=>?_⟩
  cases c with
  | true=>exact k _ _ H1 s1 t1 q1
  | false=>exact rb B p0 H1 ps σT σ T n1 Q _ (o.growX s1 t1) q1 fun n' b H' s' t' q'=>k n' b H' (s1.trans s') t' q'
end
end TL

set_option Elab.async false
set_option linter.all false
set_option maxRecDepth 100000
namespace TL
open PySem PySem.Spec PyProof.Rows L2
section
variable {K:PySem.W.Frag} {H H' H1 H2 B:Hp} {p0 ps:List Addr} {σT:List Sl} {σ:L2.St} {T:Tape} {n n':Nat} {p:Addr}
theorem OkC.ne (o:OkC K B p0 H ps σT σ T n) (hp:H p=none):T.p ≠ p:=fun z=>by
  obtain ⟨l,e⟩:=o.tp.obj
  rw [z,hp] at e; cases e
theorem OkC.adopt (o:OkC K B p0 H ps σT σ T n) {u:HO} (hp:H p=none):OkC K B p0 (upd H p u) (p::ps) σT σ T n :=
  ⟨o.ok.adopt hp,o.mem,o.nb,⟨let ⟨l,e⟩:=o.tp.obj; ⟨l,by rw [upd_ne (o.ne hp)]; exact e⟩,by rw [mask_new hp]; exact o.tp.scr,o.tp.dig⟩,o.bq⟩
theorem OkC.aside (o:OkC K B p0 H ps σT σ T n) {q:Addr} {u:HO} (hq:q ∈ ps) (hB:B q=none) (hn:noOwn σT) (ne:T.p ≠ q):OkC K B p0 (upd H q u) ps σT σ T n :=
  ⟨o.ok.aside hq hB hn,o.mem,o.nb,⟨let ⟨l,e⟩:=o.tp.obj; ⟨l,by rw [upd_ne ne]; exact e⟩,by rw [mask_upd hq]; exact o.tp.scr,o.tp.dig⟩,o.bq⟩
theorem OkC.blk (o:OkC K B p0 H ps σT σ T n) (fr:List (Option Nat)):OkC K B p0 H ps (inBlkT fr σT) (inBlk fr σ) T n:=⟨o.ok.blk fr,o.mem,o.nb,o.tp,o.bq⟩
theorem OkC.with (o:OkC K B p0 H ps σT σ T n) {σT':List Sl} {σ':L2.St} (o':Ok K B p0 H ps σT' σ'):OkC K B p0 H ps σT' σ' T n:=⟨o',o.mem,o.nb,o.tp,o.bq⟩
end
section
variable {X:Cx} {a b e:Expr} {es:List Expr} {ta tb te:EC} {pos:Pos}
def cLc (fr:List (Option Nat)) (ti:IT) (g:GT) (te:EC):EC:=fun τ n σ Q=>ti σ fun ts=>ts.length≤100000∧∃ P:Nat→Nat→List Sl→List D→Prop,P 0 n (inBlkT fr σ) [] ∧
  (∀ (k m:Nat) (x:D) (σ':List Sl) (ds:List D),ts[k]?=some x→P k m σ' ds→g x σ' fun σ2=>te τ m σ2 fun m' y=>P (k + 1) m' σ2 (ds++[y]))∧∀ m σ' ds,P ts.length m σ' ds→Q m (.list ds)
theorem lcc_read {fr:List (Option Nat)} {ti:IT} {g:GT} {te:EC} {wi:TI} {gv:BP→TG} {vt:BP→TT} {ve:BP→TE}
    (ri:∀ (B:Hp) (p0:List Addr) (H:Hp) (ps:List Addr) (σT:List Sl) (σ:L2.St) (Q:List D→Prop) (R:It→Hp→Prop),Ok X.K B p0 H ps σT σ→ti σT Q→(∀ ts J H',Same H H'→Runs X.K (mask H' ps) ts J→Q ts→R J H')→wi σ H R)
    (rg:∀ (bp:BP) (B:Hp) (p0:List Addr) (H:Hp) (ps:List Addr) (σT:List Sl) (σ:L2.St) (d:D) (v:V) (Q:List Sl→Prop) (QV:L2.St→Hp→Prop),Ok X.K B p0 H ps σT σ→Rep X.K (mask H ps) d v→g d σT Q→(∀ σT' σ',Ok X.K B p0 H ps σT' σ'→(noOwn σT→noOwn σT')→Q σT'→QV σ' H)→gv bp v σ H QV)
    (rt:∀ (bp:BP) (B:Hp) (p0:List Addr) (H:Hp) (ps:List Addr) (σT:List Sl) (σ:L2.St) (Q:Bool→Prop) (QV:Bool→Hp→Prop),Ok X.K B p0 H ps σT σ→cTrue σT Q→(∀ b H',Same H H'→Q b→QV b H')→vt bp σ H QV)
    (re:∀ (bp:BP) (B:Hp) (p0:List Addr) (H:Hp) (ps:List Addr) (σT:List Sl) (σ:L2.St) (T:Tape) (n:Nat) (Q:Nat→D→Prop) (QV:VK),OkC X.K B p0 H ps σT σ T n→te (tpD T) n σT Q→(∀ n' d v H',SameX T.p H H'→TpAt X.K H' ps T n'→Rep X.K (mask H' ps) d v→Q n' d→QV v H')→ve bp σ H QV)
    (B:Hp) (p0:List Addr) (H:Hp) (ps:List Addr) (σT:List Sl) (σ:L2.St) (T:Tape) (n:Nat) (Q:Nat→D→Prop) (QV:VK) (o:OkC X.K B p0 H ps σT σ T n) (h:cLc fr ti g te (tpD T) n σT Q) (k:∀ n' d v H',SameX T.p H H'→TpAt X.K H' ps T n'→Rep X.K (mask H' ps) d v→Q n' d→QV v H'):tLc fr wi gv vt ve σ H QV:=by
  refine ri B p0 H ps σT σ _ _ o.ok h fun ts J H1 s1 rj q1=>?_
  obtain ⟨hz,P,h0,hs,hd⟩:=q1
  intro bp acc hacc
  have o1:=o.grow s1
  have hBacc:B acc=none:=Same.free' o1.ok.base hacc
  have hnps:acc ∉ ps:=fresh_notin o1.ok.live hacc
  have hne:=o1.ne hacc
  refine ⟨fun i m σ' H'=>m=ts.length - i∧i≤ts.length∧∃ c σT' ds ys,OkC X.K B p0 H' (acc::ps) σT' σ' T c∧noOwn σT'∧H' acc=some (.lst ys)∧ds.length≤i∧Reps X.K (mask H' (acc::ps)) ds ys∧Same (mask H1 ps) (mask H' (acc::ps))∧SameX T.p H1 H'∧P i c σT' ds,
    ⟨_,rfl,Nat.zero_le _,n,inBlkT fr σT,[],[],(o1.blk fr).adopt hacc,noOwn_blk fr σT,upd_same,Nat.le_refl _,.nil,by rw [mask_new hacc]; exact L2.Same.refl _,.of (same_new hacc),h0⟩,?_⟩
  rintro i m σ' H' ⟨rfl,hle,c,σT',ds,ys,o',n',ha,hl,hr,s',sF,p'⟩
  have hL:sizeLine=2 ^ 24:=rfl
  by_cases hlt:i < ts.length
  · refine .inr ⟨rj.go i H' (s'.trans mask_le) hlt,fun y H2 hy=>?_⟩
    obtain ⟨s2,dx,hx,rx⟩:=rj.yld i H' (acc::ps) y H2 o'.ok.live s' hlt hy
    have o2:=o'.grow s2
    refine rg bp B p0 H2 (acc::ps) σT' σ' dx y _ _ o2.ok rx (hs i c dx σT' ds hx p') fun σT3 σ3 o3 n3 q3=>?_
    refine rt bp B p0 H2 (acc::ps) σT3 σ3 (fun b=>b=true) _ o3 rfl fun b H4 s4 q4=>?_
    subst q4
    have o4:=(o2.with o3).grow s4
    have s24:=s2.trans s4
    refine re bp B p0 H4 (acc::ps) σT3 σ3 T c _ _ o4 q3 fun c5 d v H5 s5 t5 r5 q5=>?_
    have o5:=o4.growX s5 t5
    have m5:Same (mask H' (acc::ps)) (mask H5 (acc::ps)):=(mask_same s24).trans (s5.mask o4.mem')
    have hm:mask (upd H5 acc (.lst (ys++[v]))) (acc::ps)=mask H5 (acc::ps):=mask_upd (List.mem_cons_self ..)
    refine ⟨ys,s5 _ _ (fun z=>hne z.symm) (s24 _ _ ha),by rw [← hr.length]; omega,ts.length - (i + 1),by omega,rfl,hlt,c5,σT3,ds++[d],ys++[v],o5.aside (List.mem_cons_self ..) hBacc (n3 n') hne,n3 n',upd_same,by rw [List.length_append,List.length_singleton]; omega,?_,?_,?_,q5⟩
    · rw [hm]; exact (hr.same m5).append (.cons r5 .nil)
    · rw [hm]; exact s'.trans m5
    · intro b u nb e
      have ne:b ≠ acc:=fun z=>by rw [z,hacc] at e; cases e
      rw [upd_ne ne]
      exact s5 b u nb (s24 b u (sF b u nb e))
  · obtain rfl:i=ts.length:=by omega
    exact .inl ⟨rj.stop _ H' (s'.trans mask_le) (Nat.le_refl _),k c (.list ds) _ H' ((SameX.of s1).trans sF) ⟨o'.tp.obj,L2.Same.seq (mask_sub fun p hp=>List.mem_cons_of_mem _ hp) o'.tp.scr,o'.tp.dig⟩ (.list (SqL.of (mask_at hnps ha)) (hr.same (mask_sub fun p hp=>List.mem_cons_of_mem _ hp))) (hd c σT' ds p')⟩
theorem lcc_all {elt iter tg:Expr} {scope:Scope} {fr:List (Option Nat)} {N':List Str} {ti:IT} {g:GT} {te:EC} (hi:PIt X tg iter ti)
    (hY:∀ b:BP,PGt (blk X scope N' b) tg g∧PIft (blk X scope N' b) [] cTrue∧PEc (blk X scope N' b) elt te) {M:(TE)→Prop}
    (fin:∀ {wi:TI} {gv:BP→TG} {vt:BP→TT} {ve:BP→TE},PI X tg iter wi→(∀ b:BP,PG (blk X scope N' b) tg (gv b)∧PIf (blk X scope N' b) [] (vt b)∧PE (blk X scope N' b) elt (ve b))→M (tLc fr wi gv vt ve)) :
    ∃ v:TE,M v∧∀ (B:Hp) (p0:List Addr) (H:Hp) (ps:List Addr) (σT:List Sl) (σ:L2.St) (T:Tape) (n:Nat) (Q:Nat→D→Prop) (QV:VK),OkC X.K B p0 H ps σT σ T n→cLc fr ti g te (tpD T) n σT Q →
      (∀ n' d v H',SameX T.p H H'→TpAt X.K H' ps T n'→Rep X.K (mask H' ps) d v→Q n' d→QV v H')→v σ H QV:=by
  obtain ⟨wi,pi,ri⟩:=hi
  refine ⟨_,fin (gv:=fun b=>Classical.choose (hY b).1) (vt:=fun b=>Classical.choose (hY b).2.1) (ve:=fun b=>Classical.choose (hY b).2.2) pi fun b=>⟨(Classical.choose_spec (hY b).1).1,(Classical.choose_spec (hY b).2.1).1,(Classical.choose_spec (hY b).2.2).1⟩,?_⟩
  exact lcc_read ri (fun b=>(Classical.choose_spec (hY b).1).2) (fun b=>(Classical.choose_spec (hY b).2.1).2) fun b=>(Classical.choose_spec (hY b).2.2).2
theorem ec_lc {elt iter tg:Expr} {scope:Scope} {fr:List (Option Nat)} {N':List Str} {ti:IT} {g:GT} {te:EC} (hi:PIt X tg iter ti)
    (hY:∀ b:BP,PGt (blk X scope N' b) tg g∧PIft (blk X scope N' b) [] cTrue∧PEc (blk X scope N' b) elt te)
    (pl:∀ {wi:TI} {gv:BP→TG} {vt:BP→TT} {ve:BP→TE},PI X tg iter wi→(∀ b:BP,PG (blk X scope N' b) tg (gv b)∧PIf (blk X scope N' b) [] (vt b)∧PE (blk X scope N' b) elt (ve b))→PE X (.ListComp elt [⟨tg,iter,[],0⟩] scope pos) (tLc fr wi gv vt ve)) :
    PEc X (.ListComp elt [⟨tg,iter,[],0⟩] scope pos) (cLc fr ti g te):=lcc_all hi hY pl
end
structure EndsC where
  nx:Nat→List Sl→Prop
  rt:Nat→D→Prop
  bk:Nat→List Sl→Prop:=fun _ _=>False
  ct:Nat→List Sl→Prop:=fun _ _=>False
abbrev STC:=D→EndsC→Nat→List Sl→Prop
structure FitsC (K:PySem.W.Frag) (B:Hp) (p0:List Addr) (H:Hp) (ps:List Addr) (T:Tape) (DC:EndsC) (DV:Ends):Prop where
  nx:∀ H' ps' σT' σ' n',OkC K B p0 H' ps' σT' σ' T n'→Same (mask H ps) (mask H' ps')→DC.nx n' σT'→DV.nx σ' H'
  bk:∀ H' ps' σT' σ' n',OkC K B p0 H' ps' σT' σ' T n'→Same (mask H ps) (mask H' ps')→DC.bk n' σT'→DV.bk σ' H'
  ct:∀ H' ps' σT' σ' n',OkC K B p0 H' ps' σT' σ' T n'→Same (mask H ps) (mask H' ps')→DC.ct n' σT'→DV.ct σ' H'
  rt:∀ n' d v H',Same B H'→TpAt K H' p0 T n'→Rep K (mask H' p0) d v→DC.rt n' d→DV.rt v H'
def PSc (X:Cx) (st:Stmt) (t:STC):Prop:=∃ ts:TS,PS X st ts∧∀ (B:Hp) (p0:List Addr) (H:Hp) (ps:List Addr) (σT:List Sl) (σ:L2.St) (T:Tape) (n:Nat) (DC:EndsC) (DV:Ends),OkC X.K B p0 H ps σT σ T n→t (tpD T) DC n σT→FitsC X.K B p0 H ps T DC DV→ts DV σ H
def PSsc (X:Cx) (st:List Stmt) (t:STC):Prop:=∃ ts:TS,PSs X st ts∧∀ (B:Hp) (p0:List Addr) (H:Hp) (ps:List Addr) (σT:List Sl) (σ:L2.St) (T:Tape) (n:Nat) (DC:EndsC) (DV:Ends),OkC X.K B p0 H ps σT σ T n→t (tpD T) DC n σT→FitsC X.K B p0 H ps T DC DV→ts DV σ H
section
variable {K:PySem.W.Frag} {H H' H1 H2 B:Hp} {p0 ps:List Addr} {σT:List Sl} {σ:L2.St} {T:Tape} {n n':Nat}
theorem FitsC.later {DC:EndsC} {DV:Ends} {ps':List Addr} (f:FitsC K B p0 H ps T DC DV) (e:Same (mask H ps) (mask H' ps')):FitsC K B p0 H' ps' T DC DV :=
  ⟨fun _ _ _ _ _ o s q=>f.nx _ _ _ _ _ o (e.trans s) q,fun _ _ _ _ _ o s q=>f.bk _ _ _ _ _ o (e.trans s) q,fun _ _ _ _ _ o s q=>f.ct _ _ _ _ _ o (e.trans s) q,f.rt⟩
theorem OkC.up (o:OkC K B p0 H ps σT σ T n) {l:Int} (hl:H T.p=some (tapH T n l)):Ok K (upd B T.p (tapH T n l)) p0 H ps σT σ where
  base:=fun a u e=>by
    by_cases z:a=T.p
    · subst z
      rw [upd_same] at e
      cases e
      exact hl
    · rw [upd_ne z] at e
      exact o.ok.base a u e
  sub:=o.ok.sub
  live:=o.ok.live
  len:=o.ok.len
  val:=o.ok.val
  own:=fun i ts h=>let ⟨q,xs,h1,h2,h3,h4,h5,h6⟩:=o.ok.own i ts h; ⟨q,xs,h1,h2,by rw [upd_ne (fun z:q=T.p=>h4 (z ▸ o.mem))]; exact h3,h4,h5,h6⟩
  dis:=o.ok.dis
theorem OkC.down (o:OkC K B p0 H ps σT σ T n) {l:Int} {ps':List Addr} {σT':List Sl} {σ':L2.St} (o':Ok K (upd B T.p (tapH T n l)) p0 H' ps' σT' σ') (s:Same (mask H ps) (mask H' ps')):OkC K B p0 H' ps' σT' σ' T n where
  ok:=⟨(same_new o.nb).trans o'.base,o'.sub,o'.live,o'.len,o'.val,fun i ts h=>let ⟨q,xs,h1,h2,h3,h4,h5,h6⟩:=o'.own i ts h; ⟨q,xs,h1,h2,Same.free' (same_new o.nb) h3,h4,h5,h6⟩,o'.dis⟩
  mem:=o.mem
  nb:=o.nb
  tp:=⟨⟨l,o'.base _ _ upd_same⟩,L2.Same.seq s o.tp.scr,o.tp.dig⟩
  bq:=o.bq
theorem fits_up {DC:EndsC} {DV:Ends} (o:OkC K B p0 H ps σT σ T n) {l:Int} (f:FitsC K B p0 H ps T DC DV):Fits K (upd B T.p (tapH T n l)) p0 H ps { nx:=DC.nx n,rt:=DC.rt n,bk:=DC.bk n,ct:=DC.ct n } DV :=
  ⟨fun H' ps' σT' σ' o' s' q'=>f.nx H' ps' σT' σ' n (o.down o' s') s' q',fun H' ps' σT' σ' o' s' q'=>f.bk H' ps' σT' σ' n (o.down o' s') s' q',fun H' ps' σT' σ' o' s' q'=>f.ct H' ps' σT' σ' n (o.down o' s') s' q',
    fun d v H' s' r' q'=>f.rt n d v H' ((same_new o.nb).trans s') ⟨⟨l,s' _ _ upd_same⟩,L2.Same.seq (mask_same ((same_new o.nb).trans s')) o.bq,o.tp.dig⟩ r' q',
    fun _ _ _ _ _ _ _ _ _ q'=>q'.elim,fun _ _ _ _ _ _ _ _ _ _ _ _ _ _ _ _ _ _ q'=>q'.elim,True.intro⟩
end
section
variable {X:Cx} {a b c e:Expr} {es:List Expr} {te:EC} {pos:Pos} {st:Stmt} {rest:List Stmt} {t u:STC}
def sP (t:STt):STC:=fun _ DC n σ=>t { nx:=DC.nx n,rt:=DC.rt n,bk:=DC.bk n,ct:=DC.ct n } σ
theorem sc_p {t:STt} (h:PSt X st t):PSc X st (sP t):=by
  obtain ⟨ts,p,r⟩:=h
  refine ⟨ts,p,fun B p0 H ps σT σ T n DC DV o h f=>?_⟩
  obtain ⟨l,hl⟩:=o.tp.obj
  exact r _ p0 H ps σT σ _ DV (o.up hl) h (fits_up o f)
def cNext:STC:=fun _ DC n σ=>DC.nx n σ
def cSeq (t u:STC):STC:=fun τ DC n σ=>t τ { DC with nx:=u τ DC } n σ
theorem sc_nil:PSsc X [] cNext:=⟨_,pss_nil,fun B p0 H ps σT σ T n DC DV o h f=>f.nx H ps σT σ n o (L2.Same.refl _) h⟩
theorem sc_cons (h1:PSc X st t) (h2:PSsc X rest u):PSsc X (st::rest) (cSeq t u):=by
  obtain ⟨v1,p1,r1⟩:=h1
  obtain ⟨v2,p2,r2⟩:=h2
  refine ⟨_,pss_cons p1 p2,fun B p0 H ps σT σ T n DC DV o h f=>r1 B p0 H ps σT σ T n { DC with nx:=u (tpD T) DC } { DV with nx:=v2 DV } o h ⟨fun H' ps' σT' σ' n' o' s' q'=>?_,f.bk,f.ct,f.rt⟩⟩
  exact r2 B p0 H' ps' σT' σ' T n' DC DV o' q' (f.later s')
theorem sc_one (h1:PSc X st t):PSsc X [st] t:=by
  obtain ⟨v1,p1,r1⟩:=h1
  exact ⟨_,pss_one p1,r1⟩
def cShare (i:Nat) (t:STC):STC:=fun τ DC n σ=>∃ ts,σ[i]?=some (.own ts)∧t τ DC n (σ.set i (.val (.list ts)))
theorem sc_share {sts:List Stmt} (i:Nat) (h:PSsc X sts t):PSsc X sts (cShare i t):=by
  obtain ⟨v,p,r⟩:=h
  refine ⟨_,p,fun B p0 H ps σT σ T n DC DV o h f=>?_⟩
  obtain ⟨ts,e,h⟩:=h
  obtain ⟨ps',o',s'⟩:=o.ok.share e
  exact r B p0 H ps' _ σ T n DC DV ⟨o',o.mem,o.nb,⟨o.tp.obj,L2.Same.seq s' o.tp.scr,o.tp.dig⟩,o.bq⟩ h (f.later s')
def cRet (te:EC):STC:=fun τ DC n σ=>te τ n σ DC.rt
theorem sc_ret (h:PEc X e te):PSc X (.Return (some e) pos) (cRet te):=by
  obtain ⟨v,p,r⟩:=h
  refine ⟨_,ps_ret p,fun B p0 H ps σT σ T n DC DV o h f=>r B p0 H ps σT σ T n _ _ o h fun n' d x H' s' t' r' q'=>?_⟩
  have o':=o.growX s' t'
  exact f.rt n' d x H' o'.ok.base ⟨t'.obj,L2.Same.seq (mask_same o'.ok.base) o.bq,t'.dig⟩ (r'.same (mask_sub o.ok.sub)) q'
def cIf (c:TC) (t u:STC):STC:=fun τ DC n σ=>c τ n σ fun n1 b=>if b=true then t τ DC n1 σ else u τ DC n1 σ
theorem sc_if {c:Expr} {a b:List Stmt} {tc:TC} (hc:PTc X c tc) (ha:PSsc X a t) (hb:PSsc X b u):PSc X (.If c a b pos) (cIf tc t u):=by
  obtain ⟨vc,pc,rc⟩:=hc
  obtain ⟨va,pa,ra⟩:=ha
  obtain ⟨vb,pb,rb⟩:=hb
  refine ⟨_,ps_if pc pa pb,fun B p0 H ps σT σ T n DC DV o h f=>rc B p0 H ps σT σ T n _ _ o h fun n1 d H1 s1 t1 q1=>?_⟩
  have o1:=o.growX s1 t1
  have f1:=f.later (s1.mask o.mem')
  cases d with
  | true=>exact ra B p0 H1 ps σT σ T n1 DC DV o1 q1 f1
  | false=>exact rb B p0 H1 ps σT σ T n1 DC DV o1 q1 f1
def cSet (i:Nat) (te:EC):STC:=fun τ DC n σ=>te τ n σ fun n1 d=>DC.nx n1 (σ.set i (.val d))
theorem sc_set {i:Nat} {x:Str} {pos':Pos} (h:PEc X e te) (ps':∀ {v:TE},PE X e v→PS X (.Assign [.Name x pos'] e pos) (tAsg v (gName i))):PSc X (.Assign [.Name x pos'] e pos) (cSet i te):=by
  obtain ⟨v,p,r⟩:=h
  refine ⟨_,ps' p,fun B p0 H ps σT σ T n DC DV o h f=>r B p0 H ps σT σ T n _ _ o h fun n' d x H' s' t' r' q'=>?_⟩
  exact f.nx H' ps _ _ n' ((o.growX s' t').set r') (s'.mask o.mem') q'
def cUnp (te:EC) (g:GT):STC:=fun τ DC n σ=>te τ n σ fun n1 d=>g d σ (DC.nx n1)
theorem sc_unp {tg:Expr} {g:GT} (he:PEc X e te) (hg:PGt X tg g) (pa:∀ {v:TE} {gv:TG},PE X e v→PG X tg gv→PS X (.Assign [tg] e pos) (tAsg v gv)):PSc X (.Assign [tg] e pos) (cUnp te g):=by
  obtain ⟨v,pe,re⟩:=he
  obtain ⟨gv,pg,rg⟩:=hg
  refine ⟨_,pa pe pg,fun B p0 H ps σT σ T n DC DV o h f=>re B p0 H ps σT σ T n _ _ o h fun n1 d x H1 s1 t1 r1 q1=>?_⟩
  have o1:=o.growX s1 t1
  exact rg B p0 H1 ps σT σ d x _ _ o1.ok r1 q1 fun σT' σ' o' _ q'=>f.nx H1 ps _ _ n1 (o1.with o') (s1.mask o.mem') q'
theorem OkC.write {K:PySem.W.Frag} {B:Hp} {p0:List Addr} {H:Hp} {ps:List Addr} {σT:List Sl} {σ:L2.St} {T:Tape} {n:Nat} (o:OkC K B p0 H ps σT σ T n) {i:Nat} {ts us:List D} {ys:List V} {p:Addr} (hi:σT[i]?=some (.own ts)) (hσ:σ[i]?=some (some (.ref p))) (r:Reps K (mask H ps) us ys) :
    OkC K B p0 (upd H p (.lst ys)) ps (σT.set i (.own us)) σ T n:=by
  obtain ⟨q,xs,h1,h2,h3,h4,h5,h6⟩:=o.ok.own i ts hi
  rw [hσ] at h1
  cases h1
  have ne:T.p ≠ p:=fun z=>h4 (z ▸ o.mem)
  exact ⟨o.ok.write hi hσ r,o.mem,o.nb,⟨let ⟨l,e⟩:=o.tp.obj; ⟨l,by rw [upd_ne ne]; exact e⟩,by rw [mask_upd h2]; exact o.tp.scr,o.tp.dig⟩,o.bq⟩
def cFor (ti:IT) (g:GT) (tb:STC):STC:=fun τ DC n σ=>ti σ fun ts=>∃ P:Nat→Nat→List Sl→Prop,P 0 n σ ∧
  (∀ (k m:Nat) (x:D) (σ':List Sl),ts[k]?=some x→P k m σ'→g x σ' fun σ2=>tb τ { DC with nx:=P (k + 1),ct:=P (k + 1),bk:=DC.nx } m σ2)∧∀ m σ',P ts.length m σ'→DC.nx m σ'
theorem sc_for {tg iter:Expr} {body:List Stmt} {g:GT} {tb:STC} {ti:IT} (he:PIt X tg iter ti) (hg:PGt X tg g) (hb:PSsc X body tb)
    (pf:∀ {wi:TI} {gv:TG} {bv:TS},PI X tg iter wi→PG X tg gv→PSs X body bv→PS X (.For tg iter body [] pos) (tFor wi gv bv)):PSc X (.For tg iter body [] pos) (cFor ti g tb):=by
  obtain ⟨ve,pe,re⟩:=he
  obtain ⟨gv,pg,rg⟩:=hg
  obtain ⟨vb,pb,rb⟩:=hb
  refine ⟨_,pf pe pg pb,fun B p0 H ps σT σ T n DC DV o h f=>re B p0 H ps σT σ _ _ o.ok h fun ts J H1 s1 rj q1=>?_⟩
  obtain ⟨P,h0,hs,hd⟩:=q1
  refine ⟨fun i m σ' H'=>m=ts.length - i∧i≤ts.length∧∃ c ps' σT',OkC X.K B p0 H' ps' σT' σ' T c∧Same (mask H1 ps) (mask H' ps')∧P i c σT',⟨_,rfl,Nat.zero_le _,n,ps,σT,o.grow s1,L2.Same.refl _,h0⟩,?_⟩
  rintro i m σ' H' ⟨rfl,hle,c,ps',σT',o',s',p'⟩
  have sH:Same (mask H1 ps) H':=s'.trans mask_le
  have f':FitsC X.K B p0 H' ps' T DC DV:=f.later ((mask_same s1).trans s')
  by_cases hlt:i < ts.length
  · refine .inr ⟨rj.go i H' sH hlt,fun σ2 H2=>∃ c2 ps2 σT2,OkC X.K B p0 H2 ps2 σT2 σ2 T c2∧Same (mask H1 ps) (mask H2 ps2)∧P (i + 1) c2 σT2,fun σ2 H2 z=>⟨ts.length - (i + 1),by omega,rfl,hlt,z⟩,fun y H2 hy'=>?_⟩
    obtain ⟨s2,dx,hx,rx⟩:=rj.yld i H' ps' y H2 o'.ok.live s' hlt hy'
    have f2:=f'.later (mask_same (ps:=ps') s2)
    have s'':Same (mask H1 ps) (mask H2 ps'):=s'.trans (mask_same s2)
    have o2:=o'.grow s2
    refine rg B p0 H2 ps' σT' σ' dx y _ _ o2.ok rx (hs i c dx σT' hx p') fun σT3 σ3 o3 _ q3=>?_
    exact rb B p0 H2 ps' σT3 σ3 T c _ _ (o2.with o3) q3 ⟨fun H4 ps4 σT4 σ4 c4 o4 s4 q4=>⟨c4,ps4,σT4,o4,s''.trans s4,q4⟩,fun H4 ps4 σT4 σ4 c4 o4 s4 q4=>f2.nx H4 ps4 σT4 σ4 c4 o4 s4 q4,fun H4 ps4 σT4 σ4 c4 o4 s4 q4=>⟨c4,ps4,σT4,o4,s''.trans s4,q4⟩,f2.rt⟩
  · obtain rfl:i=ts.length:=by omega
    exact .inl ⟨rj.stop _ H' sH (Nat.le_refl _),f'.nx H' ps' σT' σ' c o' (L2.Same.refl _) (hd c σT' p')⟩
theorem ec_ixOwn {i:Nat} {m b:Expr} {tb:EC} (hn:PE X m (tVar i)) (hb:PEc X b tb) (hs:PlainIx b:=by intro _ _; rfl):PEc X (.Subscript m b pos) (cIxOwn i tb):=by
  obtain ⟨vb,pb,rb⟩:=hb
  refine ⟨_,pe_ix ix_seq hn pb hs,fun B p0 H ps σT σ T n Q QV o h k=>?_⟩
  obtain ⟨ts,e,h⟩:=h
  obtain ⟨q,xs,h1,h2,h3,h4,h5,h6⟩:=o.ok.own i ts e
  refine ⟨.ref q,h1,rb B p0 H ps σT σ T n _ _ o h fun n1 d y H1 s1 t1 r1 q1=>?_⟩
  obtain ⟨j,d',rfl,hj,q1⟩:=q1
  have ne:q ≠ T.p:=fun z=>h4 (z ▸ o.mem)
  cases r1
  obtain ⟨v,hv,rv⟩:=h6.atI hj
  exact .inl ⟨q,xs,j,v,rfl,rfl,SqL.of (s1 _ _ ne h5),hv,k n1 d' v H1 s1 t1 (rv.same (s1.mask o.mem')) q1⟩
theorem fnC {P:Program} {w:World} {mg:Str→Option Value} {base:Heap} {K:PySem.W.Frag} {x qual:Str} {st:Stmt} {f:Addr} {fd:FuncData} {N pn:List Str} {k:Nat} {sp:SpC} (F:Fun K x qual st f fd) (S:FnScope N pn (defScope st)) (len:∀ τ n ds Q,sp τ n ds Q→ds.length + 1=pn.length)
    (hbody:∀ (cdv:Value) (A:Around) (outer:List Env) (s:Shared) (H:Hp) (E:XK),Room k (A.deeper (envOfC qual (defScope st) s.heap.objs.size f cdv))→∀ (Tp:Tape) (n:Nat) (ds:List D) (Q:Nat→D→Prop),(Tp.b=true→0 < Tp.ns.length)→sp (tpD Tp) n ds Q →
      ∃ t,PSsc (cxOf CX0 P w K mg base N qual (defScope st) f cdv A outer s H E).nox (defBody st) t∧t (tpD Tp) { nx:=fun n _=>Q n .none,rt:=Q } n (startT N (tpD Tp::ds))):FnOk P w K mg base CX0 (k + 1) f fd pn (liftSpC K sp):=by
  refine F.ok S (fun vs H Q E h=>?_) fun cdv A outer s H vs Q E hr h=>?_
  · obtain ⟨ps,T,n,ds,QD,_,_,_,r,q,_⟩:=h
    rw [← r.length]; exact len _ _ ds QD q
  · obtain ⟨ps,T,n,ds,QD,live,hp,tp,r,q,k⟩:=h
    obtain ⟨t,⟨ts,p,rd⟩,h⟩:=hbody cdv A outer s H E hr T n ds QD tp.dig q
    have o:=ok_start (N:=N) live r
    have hno:∀ (i:Nat) (us:List D),(startT N (tpD T::ds))[i]? ≠ some (.own us):=fun i us e=>by
      obtain ⟨q,_,_,_,hB,_,hH,_⟩:=o.own i us e
      rw [hB] at hH; cases hH
    have sW:Same (without H T.p) H:=fun a u e=>by
      unfold without at e
      split at e
      · cases e
      · exact e
    have hx:∀ {H':Hp},Same (without H T.p) H'→SameX T.p H H':=fun s a u ne e=>s a u (by unfold without; rw [if_neg ne]; exact e)
    have o2:Ok K (without H T.p) ps H ps (startT N (tpD T::ds)) (L2.start N vs):=⟨sW,o.sub,o.live,o.len,o.val,fun i us e=>absurd e (hno i us),o.dis⟩
    have hm:mask (without H T.p) ps=mask H ps:=by
      funext a
      unfold mask without
      by_cases z:a ∈ ps
      · rw [if_pos z,if_pos z]
      · rw [if_neg z,if_neg z,if_neg (fun e:a=T.p=>z (e ▸ hp))]
    have o3:OkC K (without H T.p) ps H ps (startT N (tpD T::ds)) (L2.start N vs) T n:=⟨o2,hp,by unfold without; rw [if_pos rfl],tp,by rw [hm]; exact tp.scr⟩
    refine ⟨ts,p,rd _ ps H ps _ _ T n _ _ o3 h ⟨fun H' ps' σT' σ' n' o' s' q'=>?_,fun _ _ _ _ _ _ _ q'=>q'.elim,fun _ _ _ _ _ _ _ q'=>q'.elim,fun n' d v H' s' t' r' q'=>k n' d v H' (hx s') t' r' q'⟩⟩
    exact k n' _ _ H' (hx o'.ok.base) ⟨o'.tp.obj,L2.Same.seq (mask_sub o'.ok.sub) o'.tp.scr,o'.tp.dig⟩ .none q'
end
end TL

set_option Elab.async false
set_option linter.all false
set_option maxRecDepth 100000
namespace TL
open PySem PySem.Spec PyProof.Rows L2
def kS:Key:=.inr "script"
def kA:Key:=.inr "at"
def kL:Key:=.inr "left"
def kD:Key:=.inr "digits"
theorem kSA:¬ kS=kA:=by decide +kernel
theorem kSL:¬ kS=kL:=by decide +kernel
theorem kSD:¬ kS=kD:=by decide +kernel
theorem kAL:¬ kA=kL:=by decide +kernel
theorem kAD:¬ kA=kD:=by decide +kernel
theorem kLD:¬ kL=kD:=by decide +kernel
def tapL (T:Tape) (n:Nat) (l:Int):List (Key × V):=[(kS,.ref T.q),(kA,.int n),(kL,.int l),(kD,.bl T.b)]
section
variable {T:Tape} {n:Nat} {l:Int}
theorem get_S:valV (tapL T n l) kS=some (.ref T.q):=valV_pos rfl
theorem get_A:valV (tapL T n l) kA=some (.int n):=by
  unfold tapL
  rw [valV_neg kSA]; exact valV_pos rfl
theorem get_L:valV (tapL T n l) kL=some (.int l):=by
  unfold tapL
  rw [valV_neg kSL,valV_neg kAL]; exact valV_pos rfl
theorem get_D:valV (tapL T n l) kD=some (.bl T.b):=by
  unfold tapL
  rw [valV_neg kSD,valV_neg kAD,valV_neg kLD]; exact valV_pos rfl
theorem put_A (m:Nat):putK (tapL T n l) kA (.int m)=tapL T m l:=by
  unfold putK tapL
  have h1:=kSA
  have h2:¬ kL=kA:=fun z=>kAL z.symm
  have h3:¬ kD=kA:=fun z=>kAD z.symm
  simp [h1,h2,h3]
theorem put_L (m:Int):putK (tapL T n l) kL (.int m)=tapL T n m:=by
  unfold putK tapL
  have h1:=kSL
  have h2:=kAL
  have h3:¬ kD=kL:=fun z=>kLD z.symm
  simp [h1,h2,h3]
end
theorem reps_of_ints {K:PySem.W.Frag} {H:Hp}:∀ ns:List Int,Reps K H (ns.map PyData.int) (ns.map V.int)
  | []=>.nil
  | i::ns=>.cons (.int i) (reps_of_ints ns)
def scrD (τ:D):D:=match τ with | .dict [(_,.list [_,_,_,l])]=>l | _=>.none
def digD (τ:D):D:=match τ with | .dict [(_,.list [_,_,b,_])]=>b | _=>.none
section
variable {X:Cx} {pos:Pos} {m:Expr} {i:Nat} {kj:Nat}
theorem nosl_str {z:Str} {j:Nat} {p:Pos}:NoSl (.Constant (.str z) j p):=fun _ _=>rfl
def cGet (i:Nat) (Q':D→Nat→(Nat→D→Prop)→Prop):EC:=fun τ n σ Q=>σ[i]?=some (.val τ)∧Q' τ n Q
theorem tape_at {K:PySem.W.Frag} {B:Hp} {p0:List Addr} {H:Hp} {ps:List Addr} {σT:List Sl} {σ:L2.St} {T:Tape} {n:Nat} (o:OkC K B p0 H ps σT σ T n) (h:σT[i]?=some (.val (tpD T))):σ[i]?=some (some (.ref T.p)):=by
  obtain ⟨v,h1,h2⟩:=o.ok.val i _ h
  rw [h1,rep_tp_inv h2]
theorem ec_getS {k:Nat} {p2:Pos} (hr:Room k X.A) (hn:PE X m (tVar i)):PEc X (.Subscript m (.Constant (.str "script") kj p2) pos) (cGet i fun τ n Q=>Q n (scrD τ)):=by
  refine ⟨_,pe_dget (by have:=hr.un; omega) hn pe_str nosl_str,fun B p0 H ps σT σ T n Q QV o h k=>?_⟩
  obtain ⟨l,hl⟩:=o.tp.obj
  exact ⟨_,tape_at o h.1,T.p,_,rfl,by rw [← get_S]; exact DGet.k (k:=kS) hl,k n _ _ H .refl o.tp (.list o.tp.scr (reps_of_ints _)) h.2⟩
theorem ec_getA {k:Nat} {p2:Pos} (hr:Room k X.A) (hn:PE X m (tVar i)):PEc X (.Subscript m (.Constant (.str "at") kj p2) pos) (cGet i fun τ n Q=>Q n (.int n)):=by
  refine ⟨_,pe_dget (by have:=hr.un; omega) hn pe_str nosl_str,fun B p0 H ps σT σ T n Q QV o h k=>?_⟩
  obtain ⟨l,hl⟩:=o.tp.obj
  exact ⟨_,tape_at o h.1,T.p,_,rfl,by rw [← get_A]; exact DGet.k (k:=kA) hl,k n _ _ H .refl o.tp (.int _) h.2⟩
theorem ec_getL {k:Nat} {p2:Pos} (hr:Room k X.A) (hn:PE X m (tVar i)):PEc X (.Subscript m (.Constant (.str "left") kj p2) pos) (cGet i fun τ n Q=>∀ l:Int,Q n (.int l)):=by
  refine ⟨_,pe_dget (by have:=hr.un; omega) hn pe_str nosl_str,fun B p0 H ps σT σ T n Q QV o h k=>?_⟩
  obtain ⟨l,hl⟩:=o.tp.obj
  exact ⟨_,tape_at o h.1,T.p,_,rfl,by rw [← get_L]; exact DGet.k (k:=kL) hl,k n _ _ H .refl o.tp (.int _) (h.2 l)⟩
theorem ec_getD {k:Nat} {p2:Pos} (hr:Room k X.A) (hn:PE X m (tVar i)):PEc X (.Subscript m (.Constant (.str "digits") kj p2) pos) (cGet i fun τ n Q=>Q n (digD τ)):=by
  refine ⟨_,pe_dget (by have:=hr.un; omega) hn pe_str nosl_str,fun B p0 H ps σT σ T n Q QV o h k=>?_⟩
  obtain ⟨l,hl⟩:=o.tp.obj
  exact ⟨_,tape_at o h.1,T.p,_,rfl,by rw [← get_D]; exact DGet.k (k:=kD) hl,k n _ _ H .refl o.tp (.bool _) h.2⟩
theorem tc_val {e:Expr} {te:EC} (h:PEc X e te) (pt:∀ {t:TE},PE X e t→PT X e (tB t)):PTc X e (cVal te):=by
  obtain ⟨v,p,r⟩:=h
  refine ⟨_,pt p,fun B p0 H ps σT σ T n Q QV o h k=>r B p0 H ps σT σ T n _ _ o h fun n1 d x H1 s1 t1 r1 q1=>?_⟩
  cases r1 with
  | bool c=>exact ⟨c,rfl,k n1 c H1 s1 t1 q1⟩
  | _=>exact q1.elim
theorem SameX.put {H:Hp} {p:Addr} {u:HO}:SameX p H (upd H p u):=fun a o ne e=>by rw [upd_ne ne]; exact e
def cPutA (i:Nat) (te:EC):STC:=fun τ DC n σ=>te τ n σ fun n1 d=>d=.int ((n1:Int) + 1)∧σ[i]?=some (.val τ)∧DC.nx (n1 + 1) σ
theorem sc_putA {k:Nat} {p2 p3:Pos} {value:Expr} {te:EC} (hr:Room k X.A) (hn:PE X m (tVar i)) (hv:PEc X value te) (hs:swapsWith value (some (.Subscript m (.Constant (.str "at") kj p2) p3)) pos.line X.env=pure false:=by rfl) :
    PSc X (.Assign [.Subscript m (.Constant (.str "at") kj p2) p3] value pos) (cPutA i te):=by
  obtain ⟨v,p,r⟩:=hv
  refine ⟨_,ps_dput (by have:=hr.un; omega) hn pe_str p hs,fun B p0 H ps σT σ T n DC DV o h f=>r B p0 H ps σT σ T n _ _ o h fun n1 d x H1 s1 t1 r1 q1=>?_⟩
  obtain ⟨rfl,hi,q1⟩:=q1
  cases r1
  have o1:=o.growX s1 t1
  obtain ⟨l,hl⟩:=t1.obj
  refine ⟨_,tape_at o1 hi,T.p,_,rfl,DPut.k (k:=kA) (v:=.int (n1 + 1:Nat)) hl (by show 4 < sizeLine; decide),?_⟩
  show DV.nx σ (upd H1 T.p (.dK (putK (tapL T n1 l) kA (.int (n1 + 1:Nat)))))
  rw [put_A]
  have t2:TpAt X.K (upd H1 T.p (tapH T (n1 + 1) l)) ps T (n1 + 1):=⟨⟨l,upd_same⟩,by rw [mask_upd o.mem']; exact t1.scr,t1.dig⟩
  exact f.nx _ ps σT σ (n1 + 1) (o1.growX .put t2) ((s1.trans .put).mask o.mem') q1
def cPutL (i:Nat) (te:EC):STC:=fun τ DC n σ=>te τ n σ fun n1 d=>(∃ l:Int,d=.int l)∧σ[i]?=some (.val τ)∧DC.nx n1 σ
theorem sc_putL {k:Nat} {p2 p3:Pos} {value:Expr} {te:EC} (hr:Room k X.A) (hn:PE X m (tVar i)) (hv:PEc X value te) (hs:swapsWith value (some (.Subscript m (.Constant (.str "left") kj p2) p3)) pos.line X.env=pure false:=by rfl) :
    PSc X (.Assign [.Subscript m (.Constant (.str "left") kj p2) p3] value pos) (cPutL i te):=by
  obtain ⟨v,p,r⟩:=hv
  refine ⟨_,ps_dput (by have:=hr.un; omega) hn pe_str p hs,fun B p0 H ps σT σ T n DC DV o h f=>r B p0 H ps σT σ T n _ _ o h fun n1 d x H1 s1 t1 r1 q1=>?_⟩
  obtain ⟨⟨l',rfl⟩,hi,q1⟩:=q1
  cases r1
  have o1:=o.growX s1 t1
  obtain ⟨l,hl⟩:=t1.obj
  refine ⟨_,tape_at o1 hi,T.p,_,rfl,DPut.k (k:=kL) (v:=.int l') hl (by show 4 < sizeLine; decide),?_⟩
  show DV.nx σ (upd H1 T.p (.dK (putK (tapL T n1 l) kL (.int l'))))
  rw [put_L]
  have t2:TpAt X.K (upd H1 T.p (tapH T n1 l')) ps T n1:=⟨⟨l',upd_same⟩,by rw [mask_upd o.mem']; exact t1.scr,t1.dig⟩
  exact f.nx _ ps σT σ n1 (o1.growX .put t2) ((s1.trans .put).mask o.mem') q1
end
def spNew (K:PySem.W.Frag):Sp:=fun vs H Q _=>∃ (ps:List Addr) (ns:List Int) (v:V),(∀ p ∈ ps,H p ≠ none)∧vs=[v]∧Rep K (mask H ps) (.list (ns.map PyData.int)) v ∧
  ∀ (T:Tape) H',T.ns=ns→Same H H'→H T.p=none→H' T.p=some (tapH T 0 0)→SqL K (mask H' ps) T.q (T.ns.map V.int)→(T.b=true→0 < T.ns.length)→Q (.ref T.p) H'
abbrev liftSpN (K:PySem.W.Frag) (_:SpT):Sp:=spNew K
def sTape (i:Nat) (te:ET) (u:STC):STt:=fun DT σ=>te σ fun d=>∃ ns:List Int,d=.list (ns.map PyData.int)∧∀ T:Tape,T.ns=ns→(T.b=true→0 < T.ns.length)→u (tpD T) { nx:=fun _ _=>False,rt:=fun _ d=>DT.rt d } 0 (σ.set i (.val (tpD T)))
theorem sq_notin {K:PySem.W.Frag} {H:Hp} {ps:List Addr} {q:Addr} {xs:List V} (h:SqL K (mask H ps) q xs):(q ∉ ps∧Rd H q (.lst xs)) ∨ ∀ H',SqL K H' q xs:=by
  rcases h with h | h
  · refine .inl ⟨fun z=>?_,?_⟩
    · rcases h with h | ⟨u,h⟩
      · unfold mask at h; rw [if_pos z] at h; cases h
      · unfold mask at h; rw [if_pos z] at h; cases h
    · rcases h with h | ⟨u,h⟩
      · exact .inl (mask_le _ _ h)
      · exact .inr ⟨u,mask_le _ _ h⟩
  · exact .inr fun _=>.inr h
theorem st_tape {X:Cx} {i k:Nat} {f:Addr} {fd:FuncData} {pn:List Str} {x y:Str} {p px pos cp:Pos} {e:Expr} {te:ET} {rest:List Stmt} {u:STC} (F:FnOk X.prog X.w X.K X.mg X.base CX0 k f fd pn (spNew X.K))
    (he:PEt X e te) (hs:starEach [e] X.env=(false,eval e X.env)::starEach [] X.env) (pc:∀ {ta:TA},PA X [e] ta→PS X (.Assign [.Name y px] (.Call (.Name x p) [e] [] cp) pos) (tAsg (tCall (spNew X.K) [] E0 ta) (gName i))) (hu:PSsc X rest u) :
    PSst X (.Assign [.Name y px] (.Call (.Name x p) [e] [] cp) pos::rest) (sTape i te u):=by
  obtain ⟨ve,pe,re⟩:=he
  obtain ⟨vu,pu,ru⟩:=hu
  refine ⟨_,pss_cons (pc (pa_cons pe pa_nil hs)) pu,fun B p0 H ps σT σ DT DV o h f=>?_⟩
  refine re B p0 H ps σT σ _ _ o h fun d v H1 s1 r1 q1=>?_
  obtain ⟨ns,rfl,q1⟩:=q1
  have o1:=o.grow s1
  refine ⟨ps,ns,v,o1.live,rfl,r1,fun T H2 hns s2 hp hH hq hd=>?_⟩
  subst hns
  have o2:=o1.grow s2
  have hB:B T.p=none:=Same.free' (o.base.trans s1) hp
  have hnp:T.p ∉ ps:=fresh_notin o1.live hp
  have hm:Same (mask H1 ps) (mask H2 (T.p::ps)):=fun a u e=>by
    unfold mask at e ⊢
    by_cases ha:a ∈ ps
    · rw [if_pos ha] at e; cases e
    · rw [if_neg ha] at e
      have ne:a ≠ T.p:=fun z=>by rw [z,hp] at e; cases e
      rw [if_neg fun z=>(List.mem_cons.mp z).elim ne ha]
      exact s2 a u e
  have hqn:(T.q ∉ T.p::ps∧Rd H2 T.q (.lst (T.ns.map V.int))) ∨ ∀ H',SqL X.K H' T.q (T.ns.map V.int):=by
    rcases sq_notin hq with ⟨n1,h⟩ | h
    · refine .inl ⟨fun z=>?_,h⟩
      rcases List.mem_cons.mp z with z | z
      · rw [z] at h
        rcases h with h | ⟨u,h⟩
        · rw [hH] at h; cases h
        · rw [hH] at h; cases h
      · exact n1 z
    · exact .inr h
  have sB:Same B (fun a=>if a ∈ T.p::ps then B a else H2 a):=fun a u e=>by
    by_cases ha:a ∈ T.p::ps
    · show (if a ∈ T.p::ps then B a else H2 a)=_; rw [if_pos ha]; exact e
    · show (if a ∈ T.p::ps then B a else H2 a)=_; rw [if_neg ha]; exact o2.base a u e
  have sB1:Same (fun a=>if a ∈ T.p::ps then B a else H2 a) H2:=fun a u e=>by
    have e':(if a ∈ T.p::ps then B a else H2 a)=some u:=e
    by_cases ha:a ∈ T.p::ps
    · rw [if_pos ha] at e'; exact o2.base a u e'
    · rw [if_neg ha] at e'; exact e'
  generalize hBg:(fun a=>if a ∈ T.p::ps then B a else H2 a:Hp)=B' at sB sB1
  have hBn:∀ a,a ∈ T.p::ps→B' a=B a:=fun a ha=>by rw [← hBg]; exact if_pos ha
  have hBo:∀ a,a ∉ T.p::ps→B' a=H2 a:=fun a ha=>by rw [← hBg]; exact if_neg ha
  have oB:Ok X.K B' (T.p::p0) H2 (T.p::ps) σT σ:=by
    refine ⟨sB1,fun q hq=>?_,fun q hq=>?_,o.len,fun j d h=>?_,fun j ts h=>?_,o.dis⟩
    · rcases List.mem_cons.mp hq with z | z
      · exact z ▸ List.mem_cons_self ..
      · exact List.mem_cons_of_mem _ (o.sub q z)
    · rcases List.mem_cons.mp hq with z | z
      · rw [z,hH]; exact fun z=>nomatch z
      · exact o2.live q z
    · obtain ⟨v,h1,h2⟩:=o1.val j d h
      exact ⟨v,h1,h2.same hm⟩
    · obtain ⟨q,xs,h1,h2,h3,h4,h5,h6⟩:=o1.own j ts h
      refine ⟨q,xs,h1,List.mem_cons_of_mem _ h2,(hBn q (List.mem_cons_of_mem _ h2)).trans h3,fun z=>?_,s2 _ _ h5,h6.same hm⟩
      rcases List.mem_cons.mp z with z | z
      · rw [z,hp] at h5; cases h5
      · exact h4 z
  have sq:∀ {H':Hp} {ps':List Addr},(∀ a,a ∈ ps'→a ∈ T.p::ps)→(∀ a,a ∉ T.p::ps→H' a=H2 a)→SqL X.K (mask H' ps') T.q (T.ns.map V.int):=fun {H' ps'} h1 h2=>by
    rcases hqn with ⟨n1,h⟩ | h
    · have e:mask H' ps' T.q=H2 T.q:=by
        unfold mask
        rw [if_neg fun z=>n1 (h1 _ z),h2 _ n1]
      rcases h with h | ⟨u,h⟩
      · exact .inl (.inl (e.trans h))
      · exact .inl (.inr ⟨u,e.trans h⟩)
    · exact h _
  have hbq:SqL X.K (mask B' (T.p::p0)) T.q (T.ns.map V.int):=sq (fun a ha=>by
    rcases List.mem_cons.mp ha with z | z
    · exact z ▸ List.mem_cons_self ..
    · exact List.mem_cons_of_mem _ (o.sub a z)) hBo
  have hsc:SqL X.K (mask H2 (T.p::ps)) T.q (T.ns.map V.int):=sq (fun _ z=>z) fun _ _=>rfl
  refine ru B' (T.p::p0) H2 (T.p::ps) _ _ T 0 _ DV ⟨oB.set (rep_tp T),List.mem_cons_self ..,(hBn _ (List.mem_cons_self ..)).trans hB,⟨⟨0,hH⟩,hsc,hd⟩,hbq⟩ (q1 T rfl hd) ⟨fun _ _ _ _ _ _ _ q'=>q'.elim,fun _ _ _ _ _ _ _ q'=>q'.elim,fun _ _ _ _ _ _ _ q'=>q'.elim,fun n' d v H' s' t' r' q'=>?_⟩
  exact f.rt d v H' (sB.trans s') (r'.same (mask_sub fun q hq=>List.mem_cons_of_mem _ hq)) q'
theorem merge_tap (T:Tape):mergeK [] (tapL T 0 0)=tapL T 0 0:=by
  have h1:=kSA
  have h2:=kSL
  have h3:=kSD
  have h4:=kAL
  have h5:=kAD
  have h6:=kLD
  unfold mergeK tapL
  simp [putK,h1,h2,h3,h4,h5,h6]
theorem fnNew {P:Program} {w:World} {mg:Str→Option Value} {base:Heap} {K:PySem.W.Frag} {x qual:Str} {st:Stmt} {f:Addr} {fd:FuncData} {n1 n2:Str} {k:Nat} (F:Fun K x qual st f fd) (S:FnScope [n1,n2] [n1] (defScope st))
    (hbody:∀ (cdv:Value) (A:Around) (outer:List Env) (s:Shared) (H:Hp) (E:XK),Room k (A.deeper (envOfC qual (defScope st) s.heap.objs.size f cdv)) →
      ∃ (st1:Stmt) (e2:Expr) (pos:Pos) (te:ET),defBody st=[st1,.Return (some e2) pos]∧PSt (cxOf CX0 P w K mg base [n1,n2] qual (defScope st) f cdv A outer s H E).nox st1 (sSet 1 te) ∧
        PE (cxOf CX0 P w K mg base [n1,n2] qual (defScope st) f cdv A outer s H E).nox e2 (tDisp [(tC (.str "script"),tVar 0),(tC (.str "at"),tC (.int 0)),(tC (.str "left"),tC (.int 0)),(tC (.str "digits"),tVar 1)]) ∧
        ∀ (ns:List Int) (Q:D→Prop),(∀ b:Bool,(b=true→0 < ns.length)→Q (.bool b))→te [.val (.list (ns.map PyData.int)),.un] Q):FnOk P w K mg base CX0 (k + 1) f fd [n1] (spNew K):=by
  refine F.ok S (fun vs H Q E h=>?_) fun cdv A outer s H vs Q E hr h=>?_
  · obtain ⟨ps,ns,v,_,rfl,_⟩:=h
    rfl
  · obtain ⟨ps,ns,v,live,rfl,r,k⟩:=h
    obtain ⟨st1,e2,pos,te,hb,⟨t1,p1,r1⟩,p2,ht⟩:=hbody cdv A outer s H E hr
    rw [hb]
    refine ⟨_,pss_cons p1 (pss_one (ps_ret p2)),?_⟩
    have o:=ok_start (N:=[n1,n2]) (ds:=[.list (ns.map PyData.int)]) live (.cons r .nil)
    refine r1 H ps H ps _ _ { nx:=fun σT'=>∃ b:Bool,(b=true→0 < ns.length)∧σT'=[.val (.list (ns.map PyData.int)),.val (.bool b)],rt:=fun _=>False } _ o (ht ns _ fun b hb=>⟨b,hb,rfl⟩) ⟨fun H' ps' σT' σ' o' s' q'=>?_,fun _ _ _ _ _ _ q'=>q'.elim,fun _ _ _ _ _ _ q'=>q'.elim,fun _ _ _ _ _ q'=>q'.elim,fun _ _ _ _ _ _ _ _ _ q'=>q'.elim,fun _ _ _ _ _ _ _ _ _ _ _ _ _ _ _ _ _ _ q'=>q'.elim,True.intro⟩
    obtain ⟨b,hb,rfl⟩:=q'
    obtain ⟨v0,e0,r0⟩:=o'.val 0 _ rfl
    obtain ⟨v1,e1,r1⟩:=o'.val 1 _ rfl
    cases r1
    intro p hp
    refine ⟨v0,e0,.bl b,e1,upd_same,?_⟩
    cases r0 with
    | @list q xs _ hq rs =>
      have e:=reps_ints rs
      subst e
      refine ⟨tapL ⟨p,q,ns,b⟩ 0 0,rfl,(by show 4≤15; decide),?_⟩
      rw [merge_tap]
      have hpH:H p=none:=Same.free' o'.base hp
      refine k ⟨p,q,ns,b⟩ _ rfl (fun a u e=>?_) hpH upd_same ?_ hb
      · have ne:a ≠ p:=fun z=>by rw [z,hpH] at e; cases e
        rw [upd_ne ne,upd_ne ne]
        exact o'.base a u e
      · refine L2.Same.seq (fun a u e=>?_) hq
        unfold mask at e ⊢
        by_cases ha:a ∈ ps'
        · rw [if_pos ha] at e; cases e
        · rw [if_neg ha] at e
          have ne:a ≠ p:=fun z=>by rw [z,hp] at e; cases e
          rw [if_neg fun z=>ha (o'.sub a z),upd_ne ne,upd_ne ne]
          exact e
theorem fn_neverC {P:Program} {w:World} {K:PySem.W.Frag} {mg:Str→Option Value} {base:Heap} {k:Nat} {f:Addr} {fd:FuncData} {pn:List Str}:FnOk P w K mg base CX0 k f fd pn (liftSpC K fun _ _ _ _=>False) :=
  ⟨fun vs H Q E h=>h.choose_spec.choose_spec.choose_spec.choose_spec.choose_spec.2.2.2.2.1.elim,fun A outer s H args us vs Q E _ _ _ _ h=>h.choose_spec.choose_spec.choose_spec.choose_spec.choose_spec.2.2.2.2.1.elim⟩
theorem fn_impC {P:Program} {w:World} {K:PySem.W.Frag} {mg:Str→Option Value} {base:Heap} {k:Nat} {f:Addr} {fd:FuncData} {pn:List Str} {sp sp':SpC} (F:FnOk P w K mg base CX0 k f fd pn (liftSpC K sp)) (h:∀ τ n ds Q,sp' τ n ds Q→sp τ n ds Q):FnOk P w K mg base CX0 k f fd pn (liftSpC K sp') :=
  F.imp fun vs H Q E ⟨ps,T,n,ds,QD,h1,h2,h3,h4,h5,h6⟩=>⟨ps,T,n,ds,QD,h1,h2,h3,h4,h _ _ ds QD h5,h6⟩
end TL

set_option Elab.async false
set_option linter.all false
set_option maxRecDepth 100000
namespace TL
open PySem PySem.Spec PyProof.Rows L2
section
variable {t:STt} {u:STC} {τ:D} {DC:EndsC} {n:Nat} {σ:List Sl} {i:Nat} {te:EC}
theorem cq_pure (h:sSeq t (fun _=>u τ DC n) { nx:=fun _=>True,rt:=DC.rt n,bk:=DC.bk n,ct:=DC.ct n } σ):cSeq (sP t) u τ DC n σ:=h
theorem cq_set1 (v:D) (h:∀ q:Nat→D→Prop,q n v→te τ n σ q) (k:u τ DC n (σ.set i (.val v))):cSeq (cSet i te) u τ DC n σ:=h (fun n1 d=>u τ DC n1 (σ.set i (.val d))) k
theorem cq_setR (R:Nat→D→Prop) (h:∀ q:Nat→D→Prop,(∀ m v,R m v→q m v)→te τ n σ q) (k:∀ m v,R m v→u τ DC m (σ.set i (.val v))):cSeq (cSet i te) u τ DC n σ:=h _ k
theorem co_setR (R:Nat→D→Prop) (h:∀ q:Nat→D→Prop,(∀ m v,R m v→q m v)→te τ n σ q) (k:∀ m v,R m v→DC.nx m (σ.set i (.val v))):cSet i te τ DC n σ:=h _ k
theorem cq_unpR {g:GT} (R:Nat→D→Prop) (h:∀ q:Nat→D→Prop,(∀ m v,R m v→q m v)→te τ n σ q) (k:∀ m v,R m v→g v σ (u τ DC m)):cSeq (cUnp te g) u τ DC n σ:=h _ k
theorem cq_if1 {c:TC} {t e:STC} (b:Bool) (h:∀ q:Nat→Bool→Prop,q n b→c τ n σ q) (k1:b=true→t τ { DC with nx:=u τ DC } n σ) (k0:b=false→e τ { DC with nx:=u τ DC } n σ):cSeq (cIf c t e) u τ DC n σ:=by
  refine h _ ?_
  cases b with
  | true=>rw [if_pos rfl]; exact k1 rfl
  | false=>rw [if_neg (by decide)]; exact k0 rfl
theorem cq_ifR {c:TC} {t e:STC} (R:Nat→Bool→Prop) (h:∀ q:Nat→Bool→Prop,(∀ m b,R m b→q m b)→c τ n σ q) (k1:∀ m,R m true→t τ { DC with nx:=u τ DC } m σ) (k0:∀ m,R m false→e τ { DC with nx:=u τ DC } m σ):cSeq (cIf c t e) u τ DC n σ:=by
  refine h _ fun m b hb=>?_
  cases b with
  | true=>rw [if_pos rfl]; exact k1 m hb
  | false=>rw [if_neg (by decide)]; exact k0 m hb
theorem cq_ifput {c:TC} (hσ:σ[i]?=some (.val τ)) (b:Bool) (h:∀ q:Nat→Bool→Prop,q n b→c τ n σ q) (hp:∀ q:Nat→D→Prop,(∀ l:Int,q n (.int l))→te τ n σ q) (k:u τ DC n σ):cSeq (cIf c (cPutL i te) cNext) u τ DC n σ:=by
  refine cq_if1 b h (fun _=>?_) fun _=>k
  exact hp _ fun l=>⟨⟨l,rfl⟩,hσ,k⟩
theorem cq_ifset {c:TC} (C:Prop) (R:Nat→Prop) (Rv:D→Prop) (h:∀ q:Nat→Bool→Prop,(∀ m b,R m→(b=true→C)→q m b)→c τ n σ q) (d0:D) (h0:σ[i]?=some (.val d0)) (r0:Rv d0) (S:Nat→Prop) (hS:∀ m,R m→S m) (hp:∀ m,R m→C→∀ q:Nat→D→Prop,(∀ m' d,S m'→Rv d→q m' d)→te τ m σ q) (k:∀ m d,S m→Rv d→u τ DC m (σ.set i (.val d))):cSeq (cIf c (cSet i te) cNext) u τ DC n σ:=by
  refine h _ fun m b hb hC=>?_
  cases b with
  | true=>rw [if_pos rfl]; exact hp m hb (hC rfl) _ fun m' d hm hd=>k m' d hm hd
  | false =>
    rw [if_neg (by decide)]
    have e:σ.set i (.val d0)=σ:=by
      apply List.ext_getElem?
      intro j
      by_cases hj:i=j
      · subst hj
        rw [List.getElem?_set_self (List.getElem?_eq_some_iff.mp h0).1,h0]
      · rw [List.getElem?_set_ne hj]
    have:=k m d0 (hS m hb) r0
    rw [e] at this
    exact this
theorem cq_ifsetP {c:TC} {tp:ET} (C:Prop) (S:Nat→Prop) (Rv:D→Prop) (h:∀ q:Nat→Bool→Prop,(∀ m b,S m→(b=true→C)→q m b)→c τ n σ q) (d0:D) (h0:σ[i]?=some (.val d0)) (r0:Rv d0) (hp:C→∀ q:D→Prop,(∀ d,Rv d→q d)→tp σ q) (k:∀ m d,S m→Rv d→u τ DC m (σ.set i (.val d))):cSeq (cIf c (sP (sSet i tp)) cNext) u τ DC n σ:=by
  refine h _ fun m b hm hb=>?_
  cases b with
  | true=>rw [if_pos rfl]; exact hp (hb rfl) _ fun d hd=>k m d hm hd
  | false =>
    rw [if_neg (by decide)]
    have e:σ.set i (.val d0)=σ:=by
      apply List.ext_getElem?
      intro j
      by_cases hj:i=j
      · subst hj
        rw [List.getElem?_set_self (List.getElem?_eq_some_iff.mp h0).1,h0]
      · rw [List.getElem?_set_ne hj]
    have:=k m d0 hm r0
    rw [e] at this
    exact this
theorem cforx {ti:IT} {ts:List D} {g:GT} {tb:STC} (hti:Gives' ti σ ts) (P:Nat→Nat→List Sl→Prop) (h0:P 0 n σ)
    (hs:∀ (k m:Nat) (x:D) (σ':List Sl),ts[k]?=some x→P k m σ'→g x σ' fun σ2=>tb τ { DC with nx:=P (k + 1),ct:=P (k + 1),bk:=DC.nx } m σ2) (hd:∀ m σ',P ts.length m σ'→DC.nx m σ'):cFor ti g tb τ DC n σ:=hti _ ⟨P,h0,hs,hd⟩
theorem cq_for {ti:IT} {ts:List D} {g:GT} {tb:STC} (hti:Gives' ti σ ts) (P:Nat→Nat→List Sl→Prop) (h0:P 0 n σ)
    (hs:∀ (k m:Nat) (x:D) (σ':List Sl),ts[k]?=some x→P k m σ'→g x σ' fun σ2=>tb τ { DC with nx:=P (k + 1),ct:=P (k + 1),bk:=u τ DC } m σ2) (hd:∀ m σ',P ts.length m σ'→u τ DC m σ'):cSeq (cFor ti g tb) u τ DC n σ :=
  cforx (DC:={ DC with nx:=u τ DC }) hti P h0 hs hd
theorem clc_in {fr:List (Option Nat)} {ti:IT} {ts:List D} {Q:Nat→D→Prop} (hti:Gives' ti σ ts) (R:Nat→D→D→Prop) (C:Nat) (hz:ts.length≤100000)
    (ht:∀ (k m:Nat) (x:D) (q:Nat→D→Prop),ts[k]?=some x→m≤n + C * k→(∀ m' y,m'≤m + C→R k x y→q m' y)→te τ m ((inBlkT fr σ).set 0 (.val x)) q)
    (hq:∀ (m:Nat) (ys:List D),m≤n + C * ts.length→ys.length=ts.length→(∀ (k:Nat) (x y:D),ts[k]?=some x→ys[k]?=some y→R k x y)→Q m (.list ys)):cLc fr ti (gN 0) te τ n σ Q:=by
  refine hti _ ⟨hz,fun k m σ' ds=>(∀ x,σ'.set 0 (.val x)=(inBlkT fr σ).set 0 (.val x))∧m≤n + C * k∧ds.length=k∧∀ (j:Nat) (x y:D),ts[j]?=some x→ds[j]?=some y→R j x y,⟨fun _=>rfl,by omega,rfl,fun j x y _ h=>by simp at h⟩,fun k m x σ' ds hx h=>?_,fun m σ' ds h=>hq m ds h.2.1 h.2.2.1 h.2.2.2⟩
  obtain ⟨h1,h2,h3,h4⟩:=h
  show te τ m (σ'.set 0 (.val x)) _
  rw [h1 x]
  refine ht k m x _ hx h2 fun m' y hm hy=>⟨fun z=>set_set _ _ _ _,?_,by simp [h3],fun j x' y' e1 e2=>?_⟩
  · rw [Nat.mul_succ]; omega
  · by_cases hj:j < k
    · rw [List.getElem?_append_left (by omega)] at e2
      exact h4 j x' y' e1 e2
    · rw [List.getElem?_append_right (by omega)] at e2
      have:j=k:=by
        by_cases e:j=k
        · exact e
        · have:j - ds.length ≠ 0:=by omega
          cases q:j - ds.length with
          | zero=>exact absurd q this
          | succ n=>rw [q] at e2; simp at e2
      subst this
      rw [hx] at e1
      cases e1
      simp [h3] at e2
      subst e2
      exact hy
end
end TL

set_option Elab.async false
set_option linter.all false
set_option maxRecDepth 100000
namespace TL
open PySem PySem.Spec PyProof.Rows L2
section
variable {X:Cx} {pos:Pos}
end
section
variable {X:Cx} {es:List Expr} {pos:Pos}
theorem OkC.setOwn {K:PySem.W.Frag} {B:Hp} {p0:List Addr} {H:Hp} {ps:List Addr} {σT:List Sl} {σ:L2.St} {T:Tape} {n:Nat} (o:OkC K B p0 H ps σT σ T n) {i:Nat} {ts:List D} {xs:List V} {p:Addr} (hp:H p=none) (r:Reps K (mask H ps) ts xs) :
    OkC K B p0 (upd H p (.lst xs)) (p::ps) (σT.set i (.own ts)) (σ.set i (some (.ref p))) T n :=
  ⟨o.ok.setOwn hp r,o.mem,o.nb,⟨let ⟨l,e⟩:=o.tp.obj; ⟨l,by rw [upd_ne (o.ne hp)]; exact e⟩,by rw [mask_new hp]; exact o.tp.scr,o.tp.dig⟩,o.bq⟩
end
end TL

set_option Elab.async false
set_option linter.all false
set_option maxRecDepth 100000
namespace HT
open PySem PySem.Spec PyProof.Rows
section
open PySem.SeqAt
open PySem.AutoSeq1 (wpAny_loadPart')
open PySem.MeetsSeq PySem.MeetsSeq2 PySem.MeetsSeq3
end
section
variable {prog:Program} {w:World} {A:Around} {E:Value→Shared→Prop} {s:Shared}
end
end HT

set_option Elab.async false
set_option linter.all false
set_option maxRecDepth 100000
namespace L2
open PySem PySem.Spec PyProof.Rows
section
variable {X:Cx}
end
end L2
namespace PySem
section
variable {prog:Program} {w:World} {A:Around} {R:Result→Shared→Prop} {I:Addr} {fp wr:List Addr} {n:Nat} {P:Nat→Value→Prop} {St:Nat→Heap→Prop}
theorem min_walkG (W:Walks prog w A.in1 I fp wr n P St) (bt:Nat→Nat→Bool) (G:Heap→Prop) (S:Addr) (hSf:S ∉ fp)
    (hG:∀ h h':Heap,G h→(∀ b o,b ∉ wr→b ≠ S→h.get? b=some o→h'.get? b=some o)→G h')
    (hc:∀ i j vi vj (s:Shared) (Q E:Value→Shared→Prop),G s.heap→P i vi→P j vj→Q (.bool (bt i j)) s→wpAny (model prog w) A.in1 (richCompare .Lt vi vj) Q E s) :
    ∀ (k j:Nat) (s:Shared) (vb:Value) (c:Nat),n - (j + 1)=k→j + 1≤n→G s.heap→St (j + 1) s.heap→P (argBest bt j) vb→s.heap.get? S=some { cls:=.type "list",dict:=none,data:=.seq #[vb,vb] c,slots:=#[] } →
      (∀ v h' tk,P (argBest bt (n - 1)) v→(∀ b o,b ∉ wr→b ≠ S→s.heap.get? b=some o→h'.get? b=some o)→R (.ok (.ret v)) { s with heap:=h',toks:=tk })→codeAny (model prog w) A (.builtin "min.loop" ⟨[.ref I,.none,.ref S],[]⟩) R s:=by
  have hSw:S ∉ wr:=fun h=>hSf (W.sub _ h)
  have nm:(toString "min"++toString ".loop":String)="min.loop":=by decide
  intro k
  induction k with
  | zero =>
    intro j s vb c hk hj hg hst hPb hS hR
    have hin:j + 1=n:=by omega
    refine codeAny_builtin F.entry_min_loop ?_; rw [Around.under_plainId F.plain_min_loop _]; show wpAny _ A.in1 (seqItems? (.ref S) >>= _) _ _ s
    refine wpAny_bind (wpAny_seqItems hS rfl ?_); show wpAny _ A.in1 (tryCatch (pyNext (.ref I)) _ >>= _) _ _ s
    refine wpAny_bind (wpAny_tryCatch (W.done s _ _ (hin ▸ hst) fun h' tk hk'=>?_)); show wpAny _ A.in1 (updateSeq S (fun _=>#[]) >>= _) _ _ _
    refine wpAny_bind (wpAny_updateSeq (hk' S _ hSw hS) rfl (wpAny_bind (wpAny_letGo (wpAny_pure (hR vb _ tk (by rw [← hin]; exact hPb) fun b o hbw hbS e=>?_)))))
    exact (Heap.get?_update_other _ _ (Ne.symm hbS)).trans (hk' b o hbw e)
  | succ k ih =>
    intro j s vb c hk hj hg hst hPb hS hR
    have hlt:j + 1 < n:=by omega
    refine codeAny_builtin F.entry_min_loop ?_; rw [Around.under_plainId F.plain_min_loop _]; show wpAny _ A.in1 (seqItems? (.ref S) >>= _) _ _ s
    refine wpAny_bind (wpAny_seqItems hS rfl ?_); show wpAny _ A.in1 (tryCatch (pyNext (.ref I)) _ >>= _) _ _ s
    refine wpAny_bind (wpAny_tryCatch (W.item (j + 1) s _ _ hlt hst fun v h' tk hP hst' hk'=>?_)); have hS':=hk' S _ hSw hS
    have hg':G h':=hG _ _ hg fun b o hbw _ e=>hk' b o hbw e
    show wpAny _ A.in1 (tryCatch (holding [v,v] (richCompare .Lt v vb >>= _)) _ >>= _) _ _ _; refine wpAny_bind (wpAny_tryCatch (wpAny_holding (wpAny_bind (hc (j + 1) (argBest bt j) v vb _ _ _ hg' hP hPb ?_))))
    refine wpAny_bind (wpAny_holding (wpAny_truthy_bool ?_)); refine wpAny_bind (wpAny_letGo (wpAny_pure ?_))
    cases hb:bt (j + 1) (argBest bt j) with
    | true =>
      simp only [if_true]
      refine wpAny_bind (wpAny_updateSeq hS' rfl (wpAny_bind (wpAny_letGo ?_))); rw [nm]
      refine wpAny_pure ⟨plainId_quiet F.plain_min_loop _,ih (j + 1) _ v _ (by omega) hlt (hG _ _ hg' fun b o _ hbS e=>(Heap.get?_update_other _ _ (Ne.symm hbS)).trans e) (W.frame _ _ _ hst' fun b hbf o e=>(Heap.get?_update_other _ _ (fun h:S=b=>hSf (by rw [h]; exact hbf))).trans e)
        (by simp only [argBest,hb,if_true]; exact hP) (Heap.get?_update_self _ hS' rfl) fun v' h'' tk'' hP' hk''=>hR v' h'' tk'' hP' fun b o hbw hbS e=>hk'' b o hbw hbS ((Heap.get?_update_other _ _ (Ne.symm hbS)).trans (hk' b o hbw e))⟩
    | false =>
      simp only [Bool.false_eq_true,if_false]
      refine wpAny_bind (wpAny_letGo ?_); rw [nm]
      exact wpAny_pure ⟨plainId_quiet F.plain_min_loop _,ih (j + 1) _ vb c (by omega) hlt hg' hst' (by simp only [argBest,hb,Bool.false_eq_true,if_false]; exact hPb) hS' fun v' h'' tk'' hP' hk''=>hR v' h'' tk'' hP' fun b o hbw hbS e=>hk'' b o hbw hbS (hk' b o hbw e)⟩
theorem min_firstG (W:Walks prog w A.in1 I fp wr n P St) (bt:Nat→Nat→Bool) (G:Heap→Prop) (S:Addr) (hSf:S ∉ fp)
    (hG:∀ h h':Heap,G h→(∀ b o,b ∉ wr→b ≠ S→h.get? b=some o→h'.get? b=some o)→G h')
    (hc:∀ i j vi vj (s:Shared) (Q E:Value→Shared→Prop),G s.heap→P i vi→P j vj→Q (.bool (bt i j)) s→wpAny (model prog w) A.in1 (richCompare .Lt vi vj) Q E s) (hn:0 < n) {s:Shared} {c:Nat} (hg:G s.heap) (hst:St 0 s.heap)
    (hS:s.heap.get? S=some { cls:=.type "list",dict:=none,data:=.seq #[] c,slots:=#[] })
    (hR:∀ v h' tk,P (argBest bt (n - 1)) v→(∀ b o,b ∉ wr→b ≠ S→s.heap.get? b=some o→h'.get? b=some o)→R (.ok (.ret v)) { s with heap:=h',toks:=tk }):codeAny (model prog w) A (.builtin "min.loop" ⟨[.ref I,.none,.ref S],[]⟩) R s:=by
  have hSw:S ∉ wr:=fun h=>hSf (W.sub _ h)
  have nm:(toString "min"++toString ".loop":String)="min.loop":=by decide
  refine codeAny_builtin F.entry_min_loop ?_; rw [Around.under_plainId F.plain_min_loop _]; show wpAny _ A.in1 (seqItems? (.ref S) >>= _) _ _ s
  refine wpAny_bind (wpAny_seqItems hS rfl ?_); show wpAny _ A.in1 (tryCatch (pyNext (.ref I)) _ >>= _) _ _ s
  refine wpAny_bind (wpAny_tryCatch (W.item 0 s _ _ hn hst fun v h' tk hP hst' hk'=>?_)); have hS':=hk' S _ hSw hS
  have hg':G h':=hG _ _ hg fun b o hbw _ e=>hk' b o hbw e
  show wpAny _ A.in1 (updateSeq S (fun _=>#[v,v]) >>= _) _ _ _; refine wpAny_bind (wpAny_updateSeq hS' rfl ?_); rw [nm]
  exact wpAny_pure ⟨plainId_quiet F.plain_min_loop _,min_walkG W bt G S hSf hG hc _ 0 _ v _ rfl hn (hG _ _ hg' fun b o _ hbS e=>(Heap.get?_update_other _ _ (Ne.symm hbS)).trans e) (W.frame _ _ _ hst' fun b hbf o e=>(Heap.get?_update_other _ _ (fun h:S=b=>hSf (by rw [h]; exact hbf))).trans e) hP (Heap.get?_update_self _ hS' rfl)
    fun v' h'' tk'' hP' hk''=>hR v' h'' tk'' hP' fun b o hbw hbS e=>hk'' b o hbw hbS ((Heap.get?_update_other _ _ (Ne.symm hbS)).trans (hk' b o hbw e))⟩
end
section
variable {prog:Program} {w:World} {A:Around} {E:Value→Shared→Prop} {s:Shared}
theorem call_minG {x:Value} {Q:Value→Shared→Prop}
    (h:wpAny (model prog w) A.in1 (pyIter x) (fun it s₂=>∃ I fp wr n P St bt,∃ G:Heap→Prop,it=.ref I∧Walks prog w A.in1 I fp wr n P St∧St 0 s₂.heap∧(∀ b ∈ fp,b < s₂.heap.objs.size)∧0 < n∧G s₂.heap ∧
      (∀ h h':Heap,G h→(∀ b o,b ∉ wr→b ≠ s₂.heap.objs.size→h.get? b=some o→h'.get? b=some o)→G h') ∧
      (∀ i j vi vj (s:Shared) (Q E:Value→Shared→Prop),G s.heap→P i vi→P j vj→Q (.bool (bt i j)) s→wpAny (model prog w) A.in1 (richCompare .Lt vi vj) Q E s) ∧
      ∀ v h' tk,P (argBest bt (n - 1)) v→(∀ b o,b ∉ wr→s₂.heap.get? b=some o→h'.get? b=some o)→Q v { s₂ with heap:=h',toks:=tk }) E s):wpAny (model prog w) A (call (.builtin "min") [x]) Q E s:=by
  have nm:(toString "min"++toString ".loop":String)="min.loop":=by decide
  refine call_function_tree F.kind_min F.plain_min F.entry_min (F.args_min1 _) ?_; show wpAny _ A.in1 (Builtin.Builtins.bindParams "min" ["key","default"] 0 ⟨[],[]⟩ >>= _) _ _ s
  refine wpAny_bind (wpAny_of_eq (show Builtin.Builtins.bindParams "min" ["key","default"] 0 ⟨[],[]⟩=pure [none,none] from rfl) (wpAny_bind (wpAny_pure ?_)))
  refine wpAny_bind (wpAny_mono h (fun it s₂ ⟨I,fp,wr,n,P,St,bt,G,e1,W,hst,hfp,hn,hg,hG,hc,hQ⟩=>?_) fun _ _ e=>e)
  subst e1
  have hSf:s₂.heap.objs.size ∉ fp:=fun hm=>Nat.lt_irrefl _ (hfp _ hm)
  refine wpAny_bind (wpAny_newObj_type ?_); rw [nm]
  exact wpAny_pure ⟨plainId_quiet F.plain_min_loop _,min_firstG W bt G s₂.heap.objs.size hSf hG hc hn (hG _ _ hg fun b o _ _ e=>Heap.get?_push_of_some _ e) (W.frame _ _ _ hst fun b _ o e=>Heap.get?_push_of_some _ e) (Heap.get?_push_size _ rfl)
    fun v h' tk hP hk=>hQ v h' tk hP fun b o hbw e=>hk b o hbw (Nat.ne_of_lt (Heap.lt_size e)) (Heap.get?_push_of_some _ e)⟩
end
end PySem

set_option Elab.async false
set_option linter.all false
set_option maxRecDepth 100000
namespace L2
open PySem PySem.Spec PyProof.Rows
theorem lexLt_irr:∀ a:List Int,HT.lexLt a a=false
  | []=>rfl
  | x::xs=>by rw [HT.lexLt_cons,if_pos rfl]; exact lexLt_irr xs
theorem lexLt_tr:∀ a b c:List Int,HT.lexLt a b=true→HT.lexLt b c=true→HT.lexLt a c=true
  | [],[],_,h,_=>by cases h
  | [],_::_,[],_,h=>by cases h
  | [],_::_,_::_,_,_=>rfl
  | _::_,[],_,h,_=>by cases h
  | _::_,_::_,[],_,h=>by cases h
  | x::xs,y::ys,z::zs,h1,h2=>by
    rw [HT.lexLt_cons] at h1 h2 ⊢
    have ih:=lexLt_tr xs ys zs
    by_cases e1:x=y
    · rw [if_pos e1] at h1
      by_cases e2:y=z
      · rw [if_pos e2] at h2
        rw [if_pos (e1.trans e2)]
        exact ih h1 h2
      · rw [if_neg e2] at h2
        rw [e1,if_neg e2]; exact h2
    · rw [if_neg e1] at h1
      have l1:x < y:=of_decide_eq_true h1
      by_cases e2:y=z
      · rw [← e2,if_neg e1]; exact h1
      · rw [if_neg e2] at h2
        have l2:y < z:=of_decide_eq_true h2
        rw [if_neg (by omega)]
        exact decide_eq_true (by omega)
theorem argBest_lex (f:Nat→List Int):∀ k,argBest (fun i j=>HT.lexLt (f i) (f j)) k≤k∧∀ j,j≤k→HT.lexLt (f j) (f (argBest (fun i j=>HT.lexLt (f i) (f j)) k))=false
  | 0=>⟨Nat.le_refl _,fun j hj=>by
      obtain rfl:j=0:=by omega
      exact lexLt_irr _⟩
  | k + 1=>by
    obtain ⟨h1,h2⟩:=argBest_lex f k
    simp only [argBest]
    by_cases hc:HT.lexLt (f (k + 1)) (f (argBest (fun i j=>HT.lexLt (f i) (f j)) k))=true
    · rw [if_pos hc]
      refine ⟨Nat.le_refl _,fun j hj=>?_⟩
      by_cases hk:j=k + 1
      · subst hk; exact lexLt_irr _
      · have:=h2 j (by omega)
        cases e:HT.lexLt (f j) (f (k + 1)) with
        | false=>rfl
        | true=>rw [lexLt_tr _ _ _ e hc] at this; cases this
    · rw [if_neg hc]
      refine ⟨by omega,fun j hj=>?_⟩
      by_cases hk:j=k + 1
      · subst hk; exact Bool.eq_false_iff.mpr hc
      · exact h2 j (by omega)
theorem Room.u1 {k:Nat} {A:Around} (r:Room k A):A.units + 1 < cLine:=by have:=r.un; omega
section
variable {X:Cx}
def rMinT (K:PySem.W.Frag):List V→Hp→VK→Prop:=fun vs H Q=>∃ (p:Addr) (xs:List V) (nss:List (List Int)),vs=[.ref p]∧SqL K H p xs∧xs.length=nss.length∧(∀ (i:Nat) (ns:List Int),nss[i]?=some ns→∃ a,xs[i]?=some (.ref a)∧SqT K H a (ns.map V.int))∧nss ≠ [] ∧
  ∀ (i:Nat) (v:V) (m:List Int),xs[i]?=some v→nss[i]?=some m→(∀ n ∈ nss,HT.lexLt n m=false)→Q v H
theorem call_minT (hc:X.calm=true) (hu:X.A.units + 1 < cLine):CallR X (.builtin "min") (rMinT X.K):=by
  intro pins s σ H xs us Q I r h
  obtain ⟨p,xs,nss,rfl,hq,hxl,hat,hne0,q⟩:=h
  obtain ⟨u,rfl,rx⟩:=vals1 r
  cases rx
  obtain ⟨its,rv,pl,hz⟩:=I.list hq
  have hlen:=rv.length
  have hpos:0 < nss.length:=List.length_pos_iff.mpr hne0
  have hne:p ≠ s.heap.objs.size:=by
    obtain ⟨o,ho,_⟩:=pl.isList
    exact Nat.ne_of_lt (Heap.lt_size ho)
  have hl1:=pl.isList
  have hplt:p < s.heap.objs.size:=by
    obtain ⟨o,ho,_⟩:=hl1
    exact Heap.lt_size ho
  have hval:∀ (i:Nat) (v:Value),its.toArray[i]?=some v→∃ a vs,v=.ref a∧IsTup s.heap a vs∧IntsAre vs.toList ((nss[i]?).getD [])∧i < nss.length:=fun i v hP=>by
    have hv:its[i]?=some v:=by simpa using hP
    have hi:i < its.length:=(List.getElem?_eq_some_iff.mp hv).1
    have hb:i < nss.length:=by omega
    obtain ⟨a,ha,ht⟩:=hat i _ (List.getElem?_eq_getElem hb)
    obtain ⟨w',h1,h2⟩:=rv.get (i:=i) ha
    rw [hv] at h1
    cases h1
    cases h2
    obtain ⟨ws,r1,p1,_⟩:=I.tuple ht
    exact ⟨a,ws.toArray,rfl,p1,by rw [List.getElem?_eq_getElem hb]; exact intsAre_of r1,hb⟩
  refine call_minG (wpAny_pyIter_list hl1 ?_)
  refine ⟨_,_,_,_,_,_,fun i j=>HT.lexLt ((nss[i]?).getD []) ((nss[j]?).getD []),fun h=>∀ b o,s.heap.get? b=some o→h.get? b=some o,rfl,Walks.list (A:=X.A.in1) (I.ok.hd hc) _ p hne its.toArray,⟨⟨_,Heap.get?_push_size _ rfl,rfl,rfl⟩,hl1.push _⟩,fun b hb=>?_,by rw [List.size_toArray]; omega,fun b o e=>Heap.get?_push_of_some _ e,fun h h' hg hk b o e=>?_,fun i j vi vj s' Q' E' hg h1 h2 q'=>?_,fun v h' tk hP hk=>?_⟩
  · show b < (s.heap.push _).objs.size
    rw [Heap.size_push]
    have:b=s.heap.objs.size ∨ b=p:=by simpa using hb
    rcases this with rfl | rfl
    · exact Nat.lt_succ_self _
    · exact Nat.lt_succ_of_lt hplt
  · have hb:=Heap.lt_size e
    refine hk b o ?_ ?_ (hg b o e)
    · intro z
      have:b=s.heap.objs.size:=by simpa using z
      exact absurd hb (by rw [this]; exact Nat.lt_irrefl _)
    · intro z
      have e2:(s.heap.push { cls:=.type "list_iterator",data:=.fields #[.ref p,.int 0 0] }).objs.size=s.heap.objs.size + 1:=Heap.size_push _ _
      have:b=s.heap.objs.size + 1:=z.trans e2
      exact absurd hb (by rw [this]; exact Nat.not_lt.mpr (Nat.le_succ _))
  · obtain ⟨a,vs,rfl,⟨o1,ho1,c1⟩,i1,_⟩:=hval i vi h1
    obtain ⟨b,ws,rfl,⟨o2,ho2,c2⟩,i2,_⟩:=hval j vj h2
    have hu':X.A.in1.units < cLine:=hu
    exact (HT.lt_tupInts ⟨o1,hg _ _ ho1,c1⟩ ⟨o2,hg _ _ ho2,c2⟩ i1 i2 hu' q':wpAny _ X.A.in1 (compareOp .Lt (.ref a) (.ref b)) Q' E' s')
  · have hb:=argBest_lex (fun i=>(nss[i]?).getD []) (its.toArray.size - 1)
    have hsz:its.toArray.size=nss.length:=by rw [List.size_toArray]; omega
    have hi:argBest (fun i j=>HT.lexLt ((nss[i]?).getD []) ((nss[j]?).getD [])) (its.toArray.size - 1) < nss.length:=by have:=hb.1; omega
    obtain ⟨a,ha,ht⟩:=hat _ _ (List.getElem?_eq_getElem hi)
    obtain ⟨w',g1,g2⟩:=rv.get ha
    have hv:its[argBest (fun i j=>HT.lexLt ((nss[i]?).getD []) ((nss[j]?).getD [])) (its.toArray.size - 1)]?=some v:=by simpa using hP
    rw [hv] at g1
    cases g1
    cases g2
    refine ⟨.ref a,H,I.kept fun b o e=>hk b o ?_ (Heap.get?_push_of_some _ e),rfl,q _ _ _ ha (List.getElem?_eq_getElem hi) fun n hn=>?_⟩
    · intro z
      have:b=s.heap.objs.size:=by simpa using z
      exact absurd (Heap.lt_size e) (by rw [this]; exact Nat.lt_irrefl _)
    · obtain ⟨j,hj,rfl⟩:=List.mem_iff_getElem.mp hn
      have:=hb.2 j (by omega)
      rw [List.getElem?_eq_getElem hj,List.getElem?_eq_getElem hi] at this
      exact this
end
end L2
namespace TL
open PySem PySem.Spec PyProof.Rows L2
section
variable {X:Cx} {e:Expr} {es:List Expr} {te:ET} {pos:Pos} {K:PySem.W.Frag} {H:Hp}
def tupI (ns:List Int):D:=.tuple (ns.map PyData.int)
def gMinT (d:D) (Q:D→Prop):Prop:=∃ nss:List (List Int),d=.list (nss.map tupI)∧nss ≠ []∧∀ m,m ∈ nss→(∀ n ∈ nss,HT.lexLt n m=false)→Q (tupI m)
theorem c_minT:CallT X (rMinT X.K) (f1 gMinT):=c1 fun H ps d x Q QV live r h k=>by
  obtain ⟨nss,rfl,hne,h⟩:=h
  cases r with
  | list q s =>
    have hl:=s.length
    rw [List.length_map] at hl
    refine ⟨_,_,nss,rfl,L2.Same.seq mask_le q,hl.symm,fun i ns hi=>?_,hne,fun i v m hv hm hb=>?_⟩
    · obtain ⟨v,hv,r⟩:=s.get (i:=i) (by rw [List.getElem?_map,hi]; rfl)
      cases r with
      | tuple q1 s1 =>
        have e1:=reps_ints s1
        subst e1
        exact ⟨_,hv,Same.seqT mask_le q1⟩
    · obtain ⟨v',hv',r⟩:=s.get (i:=i) (by rw [List.getElem?_map,hm]; rfl)
      rw [hv] at hv'
      cases hv'
      exact k _ _ H (L2.Same.refl H) r (h m (List.mem_of_getElem? hm) hb)
end
end TL

set_option Elab.async false
set_option linter.all false
set_option maxRecDepth 100000
namespace TL
open PySem PySem.Spec PyProof.Rows L2
section
variable {X:Cx} {e g:Expr} {pos:Pos}
def sClear (i:Nat):STt:=fun DT σ=>∃ ts,σ[i]?=some (.own ts)∧DT.nx (σ.set i (.own []))
theorem st_clear {i:Nat} {n:Expr} {ap cp:Pos} (pb:PS X (.Expr (.Call (.Attribute n "clear" ap) [] [] cp) pos) (tDrop (tBM0 X.K "list" rClear (tVar i)))):PSt X (.Expr (.Call (.Attribute n "clear" ap) [] [] cp) pos) (sClear i):=by
  refine ⟨_,pb,fun B p0 H ps σT σ DT DV o h f=>?_⟩
  obtain ⟨ts,e,h⟩:=h
  obtain ⟨q,xs,h1,h2,h3,h4,h5,h6⟩:=o.own i ts e
  refine ⟨.ref q,h1,.inl ⟨rfl,xs,SqL.of h5⟩,q,xs,rfl,rfl,h5,?_⟩
  exact f.nx _ ps _ σ (o.write (ys:=[]) e h1 .nil) (by rw [mask_upd h2]; exact L2.Same.refl _) h
def eListOwn (i:Nat):ET:=fun σ Q=>∃ ts,σ[i]?=some (.own ts)∧Q (.list ts)
theorem et_listOwn {i:Nat} (hn:PE X e (tVar i)) (hs:starEach [e] X.env=(false,eval e X.env)::starEach [] X.env:=by rfl)
    (pc:∀ {v:TE},PA X [e] (tCons v tNil)→PE X (.Call g [e] [] pos) (tCB (fun xs H Q=>∃ p ys,xs=[.ref p]∧(SqL X.K H p ys ∨ SqT X.K H p ys)∧∀ l,H l=none→Q (.ref l) (upd H l (.lst ys))) (tCons v tNil))) :
    PEt X (.Call g [e] [] pos) (eListOwn i):=by
  refine ⟨_,pc (pa_cons hn pa_nil hs),fun B p0 H ps σT σ Q QV o h k=>?_⟩
  obtain ⟨ts,e,h⟩:=h
  obtain ⟨q,xs,h1,h2,h3,h4,h5,h6⟩:=o.own i ts e
  exact ⟨.ref q,h1,q,xs,rfl,.inl (SqL.of h5),fun l hl=>k _ _ _ (same_new hl) (rep_lst o.live hl h6) h⟩
theorem seq_setFM {i:Nat} {t:FT} {u:STt} {DT:EndsT} {σ:List Sl} (ts:List D) (h:∀ q:List D→Prop,q ts→t σ q) (k:u DT (σ.set i (.own ts))):sSeq (sSetF i t) u DT σ:=h _ k
end
end TL

set_option Elab.async false
set_option linter.all false
set_option maxRecDepth 100000
namespace K41
open PySem L2 TL
def top (i:Nat):Stmt:=PySem.Challenge.pw_leafjudge_k41_whole_steps_of_prices.main.body.getD i (.Pass ⟨0,0,0,0⟩)
set_option genInjectivity false in
set_option genSizeOf false in
structure Adr where
  a_0:Addr
  f_0:FuncData
  a_1:Addr
  f_1:FuncData
  a_2:Addr
  f_2:FuncData
  a_3:Addr
  f_3:FuncData
  a_4:Addr
  f_4:FuncData
  a_5:Addr
  f_5:FuncData
  a_6:Addr
  f_6:FuncData
  a_7:Addr
  f_7:FuncData
  a_8:Addr
  f_8:FuncData
  a_9:Addr
  f_9:FuncData
  a_10:Addr
  f_10:FuncData
  a_11:Addr
  f_11:FuncData
  a_12:Addr
  f_12:FuncData
  a_13:Addr
  f_13:FuncData
  a_14:Addr
  f_14:FuncData
  a_15:Addr
  f_15:FuncData
  a_16:Addr
  f_16:FuncData
  a_17:Addr
  f_17:FuncData
  a_18:Addr
  f_18:FuncData
  a_19:Addr
  f_19:FuncData
  a_20:Addr
  f_20:FuncData
  a_21:Addr
  f_21:FuncData
  a_22:Addr
  f_22:FuncData
  a_23:Addr
  f_23:FuncData
  a_24:Addr
  f_24:FuncData
  a_25:Addr
  f_25:FuncData
  a_26:Addr
  f_26:FuncData
  a_27:Addr
  f_27:FuncData
  a_28:Addr
  f_28:FuncData
  a_29:Addr
  f_29:FuncData
  a_30:Addr
  f_30:FuncData
  a_31:Addr
  f_31:FuncData
  a_32:Addr
  f_32:FuncData
  a_33:Addr
  f_33:FuncData
  a_34:Addr
  f_34:FuncData
  a_35:Addr
  f_35:FuncData
  a_36:Addr
  f_36:FuncData
  a_37:Addr
  f_37:FuncData
  a_38:Addr
  f_38:FuncData
  a_39:Addr
  f_39:FuncData
  a_40:Addr
  f_40:FuncData
  a_41:Addr
  f_41:FuncData
  a_42:Addr
  f_42:FuncData
  a_43:Addr
  f_43:FuncData
  a_44:Addr
  f_44:FuncData
  a_45:Addr
  f_45:FuncData
  a_46:Addr
  f_46:FuncData
  a_law:Addr
  f_law:FuncData
  t_SIDES:Addr
structure Txt (K:PySem.W.Frag) (mg:Str→Option Value) (A:Adr):Prop where
  m_0:mg "counted"=some (.ref A.a_0)
  k_0:PySem.W.keepIn K (.ref A.a_0)=true
  F_0:Fun K "counted" "counted" (top 1) A.a_0 A.f_0
  d_0:Binds K A.f_0 ["form","rows"] []
  m_1:mg "first_answer"=some (.ref A.a_1)
  k_1:PySem.W.keepIn K (.ref A.a_1)=true
  F_1:Fun K "first_answer" "first_answer" (top 2) A.a_1 A.f_1
  d_1:Binds K A.f_1 ["form","rows"] []
  m_2:mg "fraction"=some (.ref A.a_2)
  k_2:PySem.W.keepIn K (.ref A.a_2)=true
  F_2:Fun K "fraction" "fraction" (top 3) A.a_2 A.f_2
  d_2:Binds K A.f_2 ["top","bottom"] []
  m_3:mg "common_divisor"=some (.ref A.a_3)
  k_3:PySem.W.keepIn K (.ref A.a_3)=true
  F_3:Fun K "common_divisor" "common_divisor" (top 4) A.a_3 A.f_3
  d_3:Binds K A.f_3 ["one","other"] []
  m_4:mg "is_less"=some (.ref A.a_4)
  k_4:PySem.W.keepIn K (.ref A.a_4)=true
  F_4:Fun K "is_less" "is_less" (top 5) A.a_4 A.f_4
  d_4:Binds K A.f_4 ["one","other"] []
  m_5:mg "side_of"=some (.ref A.a_5)
  k_5:PySem.W.keepIn K (.ref A.a_5)=true
  F_5:Fun K "side_of" "side_of" (top 8) A.a_5 A.f_5
  d_5:Binds K A.f_5 ["form","question","stray","case"] []
  m_6:mg "field_asked"=some (.ref A.a_6)
  k_6:PySem.W.keepIn K (.ref A.a_6)=true
  F_6:Fun K "field_asked" "field_asked" (top 9) A.a_6 A.f_6
  d_6:Binds K A.f_6 ["form","question"] []
  m_7:mg "entries_to_yes"=some (.ref A.a_7)
  k_7:PySem.W.keepIn K (.ref A.a_7)=true
  F_7:Fun K "entries_to_yes" "entries_to_yes" (top 10) A.a_7 A.f_7
  d_7:Binds K A.f_7 ["question","stray","field"] []
  m_8:mg "values_held"=some (.ref A.a_8)
  k_8:PySem.W.keepIn K (.ref A.a_8)=true
  F_8:Fun K "values_held" "values_held" (top 11) A.a_8 A.f_8
  d_8:Binds K A.f_8 ["question","field"] []
  m_9:mg "parted"=some (.ref A.a_9)
  k_9:PySem.W.keepIn K (.ref A.a_9)=true
  F_9:Fun K "parted" "parted" (top 12) A.a_9 A.f_9
  d_9:Binds K A.f_9 ["form","question","stray","rows"] []
  m_10:mg "numbers_on"=some (.ref A.a_10)
  k_10:PySem.W.keepIn K (.ref A.a_10)=true
  F_10:Fun K "numbers_on" "numbers_on" (top 13) A.a_10 A.f_10
  d_10:Binds K A.f_10 ["side","sides"] []
  m_11:mg "rows_at"=some (.ref A.a_11)
  k_11:PySem.W.keepIn K (.ref A.a_11)=true
  F_11:Fun K "rows_at" "rows_at" (top 15) A.a_11 A.f_11
  d_11:Binds K A.f_11 ["rows","numbers"] []
  m_12:mg "is_leaf"=some (.ref A.a_12)
  k_12:PySem.W.keepIn K (.ref A.a_12)=true
  F_12:Fun K "is_leaf" "is_leaf" (top 20) A.a_12 A.f_12
  d_12:Binds K A.f_12 ["tree"] []
  m_13:mg "on_side"=some (.ref A.a_13)
  k_13:PySem.W.keepIn K (.ref A.a_13)=true
  F_13:Fun K "on_side" "on_side" (top 21) A.a_13 A.f_13
  d_13:Binds K A.f_13 ["knot","side"] []
  m_14:mg "knots_in"=some (.ref A.a_14)
  k_14:PySem.W.keepIn K (.ref A.a_14)=true
  F_14:Fun K "knots_in" "knots_in" (top 22) A.a_14 A.f_14
  d_14:Binds K A.f_14 ["tree"] []
  m_15:mg "way_of"=some (.ref A.a_15)
  k_15:PySem.W.keepIn K (.ref A.a_15)=true
  F_15:Fun K "way_of" "way_of" (top 23) A.a_15 A.f_15
  d_15:Binds K A.f_15 ["form","tree","case"] []
  m_16:mg "sides_of_way"=some (.ref A.a_16)
  k_16:PySem.W.keepIn K (.ref A.a_16)=true
  F_16:Fun K "sides_of_way" "sides_of_way" (top 24) A.a_16 A.f_16
  d_16:Binds K A.f_16 ["form","tree","case"] []
  m_17:mg "answer_of"=some (.ref A.a_17)
  k_17:PySem.W.keepIn K (.ref A.a_17)=true
  F_17:Fun K "answer_of" "answer_of" (top 25) A.a_17 A.f_17
  d_17:Binds K A.f_17 ["form","tree","case"] []
  m_18:mg "part_at"=some (.ref A.a_18)
  k_18:PySem.W.keepIn K (.ref A.a_18)=true
  F_18:Fun K "part_at" "part_at" (top 26) A.a_18 A.f_18
  d_18:Binds K A.f_18 ["tree","place"] []
  m_19:mg "cost_of"=some (.ref A.a_19)
  k_19:PySem.W.keepIn K (.ref A.a_19)=true
  F_19:Fun K "cost_of" "cost_of" (top 28) A.a_19 A.f_19
  d_19:Binds K A.f_19 ["form","tree","rows","prices"] []
  m_20:mg "first_leaf"=some (.ref A.a_20)
  k_20:PySem.W.keepIn K (.ref A.a_20)=true
  F_20:Fun K "first_leaf" "first_leaf" (top 30) A.a_20 A.f_20
  d_20:Binds K A.f_20 ["form","rows"] []
  m_21:mg "rows_on_sides"=some (.ref A.a_21)
  k_21:PySem.W.keepIn K (.ref A.a_21)=true
  F_21:Fun K "rows_on_sides" "rows_on_sides" (top 31) A.a_21 A.f_21
  d_21:Binds K A.f_21 ["form","knot","rows"] []
  m_22:mg "prices_at"=some (.ref A.a_22)
  k_22:PySem.W.keepIn K (.ref A.a_22)=true
  F_22:Fun K "prices_at" "prices_at" (top 32) A.a_22 A.f_22
  d_22:Binds K A.f_22 ["price"] []
  m_23:mg "least_pruning"=some (.ref A.a_23)
  k_23:PySem.W.keepIn K (.ref A.a_23)=true
  F_23:Fun K "least_pruning" "least_pruning" (top 33) A.a_23 A.f_23
  d_23:Binds K A.f_23 ["form","tree","rows","price"] []
  m_24:mg "least_with_cost"=some (.ref A.a_24)
  k_24:PySem.W.keepIn K (.ref A.a_24)=true
  F_24:Fun K "least_with_cost" "least_with_cost" (top 34) A.a_24 A.f_24
  d_24:Binds K A.f_24 ["form","tree","rows","prices"] []
  m_25:mg "steps"=some (.ref A.a_25)
  k_25:PySem.W.keepIn K (.ref A.a_25)=true
  F_25:Fun K "steps" "steps" (top 35) A.a_25 A.f_25
  d_25:Binds K A.f_25 ["form","tree","rows"] []
  m_26:mg "next_price"=some (.ref A.a_26)
  k_26:PySem.W.keepIn K (.ref A.a_26)=true
  F_26:Fun K "next_price" "next_price" (top 36) A.a_26 A.f_26
  d_26:Binds K A.f_26 ["form","tree","rows"] []
  m_27:mg "slips_and_prices"=some (.ref A.a_27)
  k_27:PySem.W.keepIn K (.ref A.a_27)=true
  F_27:Fun K "slips_and_prices" "slips_and_prices" (top 37) A.a_27 A.f_27
  d_27:Binds K A.f_27 ["form","tree","rows"] []
  m_28:mg "_law_tape"=some (.ref A.a_28)
  k_28:PySem.W.keepIn K (.ref A.a_28)=true
  F_28:Fun K "_law_tape" "_law_tape" (top 39) A.a_28 A.f_28
  d_28:Binds K A.f_28 ["_law_script"] []
  m_29:mg "_law_draw"=some (.ref A.a_29)
  k_29:PySem.W.keepIn K (.ref A.a_29)=true
  F_29:Fun K "_law_draw" "_law_draw" (top 40) A.a_29 A.f_29
  d_29:Binds K A.f_29 ["_law_tape_here","_law_many"] []
  m_30:mg "_law_names"=some (.ref A.a_30)
  k_30:PySem.W.keepIn K (.ref A.a_30)=true
  F_30:Fun K "_law_names" "_law_names" (top 41) A.a_30 A.f_30
  d_30:Binds K A.f_30 ["_law_tape_here","_law_many"] []
  m_31:mg "_law_form"=some (.ref A.a_31)
  k_31:PySem.W.keepIn K (.ref A.a_31)=true
  F_31:Fun K "_law_form" "_law_form" (top 42) A.a_31 A.f_31
  d_31:Binds K A.f_31 ["_law_tape_here","_law_fields","_law_values"] []
  m_32:mg "_law_case"=some (.ref A.a_32)
  k_32:PySem.W.keepIn K (.ref A.a_32)=true
  F_32:Fun K "_law_case" "_law_case" (top 43) A.a_32 A.f_32
  d_32:Binds K A.f_32 ["_law_tape_here","_law_form_here"] []
  m_33:mg "_law_rows"=some (.ref A.a_33)
  k_33:PySem.W.keepIn K (.ref A.a_33)=true
  F_33:Fun K "_law_rows" "_law_rows" (top 44) A.a_33 A.f_33
  d_33:Binds K A.f_33 ["_law_tape_here","_law_form_here","_law_many"] []
  m_34:mg "_law_side"=some (.ref A.a_34)
  k_34:PySem.W.keepIn K (.ref A.a_34)=true
  F_34:Fun K "_law_side" "_law_side" (top 45) A.a_34 A.f_34
  d_34:Binds K A.f_34 ["_law_form_here","_law_question","_law_stray","_law_case_here"] []
  m_35:mg "_law_parts"=some (.ref A.a_35)
  k_35:PySem.W.keepIn K (.ref A.a_35)=true
  F_35:Fun K "_law_parts" "_law_parts" (top 46) A.a_35 A.f_35
  d_35:Binds K A.f_35 ["_law_form_here","_law_question","_law_stray","_law_rows_here"] []
  m_36:mg "_law_counts"=some (.ref A.a_36)
  k_36:PySem.W.keepIn K (.ref A.a_36)=true
  F_36:Fun K "_law_counts" "_law_counts" (top 47) A.a_36 A.f_36
  d_36:Binds K A.f_36 ["_law_form_here","_law_rows_here"] []
  m_37:mg "_law_first"=some (.ref A.a_37)
  k_37:PySem.W.keepIn K (.ref A.a_37)=true
  F_37:Fun K "_law_first" "_law_first" (top 48) A.a_37 A.f_37
  d_37:Binds K A.f_37 ["_law_form_here","_law_rows_here"] []
  m_38:mg "_law_sized"=some (.ref A.a_38)
  k_38:PySem.W.keepIn K (.ref A.a_38)=true
  F_38:Fun K "_law_sized" "_law_sized" (top 49) A.a_38 A.f_38
  d_38:Binds K A.f_38 ["_law_tape_here","_law_most"] []
  m_39:mg "_law_tree"=some (.ref A.a_39)
  k_39:PySem.W.keepIn K (.ref A.a_39)=true
  F_39:Fun K "_law_tree" "_law_tree" (top 50) A.a_39 A.f_39
  d_39:Binds K A.f_39 ["_law_tape_here","_law_form_here","_law_deep"] []
  m_40:mg "_law_knots"=some (.ref A.a_40)
  k_40:PySem.W.keepIn K (.ref A.a_40)=true
  F_40:Fun K "_law_knots" "_law_knots" (top 51) A.a_40 A.f_40
  d_40:Binds K A.f_40 ["_law_tree_here"] []
  m_41:mg "_law_prunings"=some (.ref A.a_41)
  k_41:PySem.W.keepIn K (.ref A.a_41)=true
  F_41:Fun K "_law_prunings" "_law_prunings" (top 52) A.a_41 A.f_41
  d_41:Binds K A.f_41 ["_law_form_here","_law_tree_here","_law_rows_here"] []
  m_42:mg "_law_divisor"=some (.ref A.a_42)
  k_42:PySem.W.keepIn K (.ref A.a_42)=true
  F_42:Fun K "_law_divisor" "_law_divisor" (top 53) A.a_42 A.f_42
  d_42:Binds K A.f_42 ["_law_one","_law_other"] []
  m_43:mg "_law_is_fraction"=some (.ref A.a_43)
  k_43:PySem.W.keepIn K (.ref A.a_43)=true
  F_43:Fun K "_law_is_fraction" "_law_is_fraction" (top 54) A.a_43 A.f_43
  d_43:Binds K A.f_43 ["_law_price"] []
  m_44:mg "_law_least"=some (.ref A.a_44)
  k_44:PySem.W.keepIn K (.ref A.a_44)=true
  F_44:Fun K "_law_least" "_law_least" (top 55) A.a_44 A.f_44
  d_44:Binds K A.f_44 ["_law_found","_law_price"] []
  m_45:mg "_law_chain"=some (.ref A.a_45)
  k_45:PySem.W.keepIn K (.ref A.a_45)=true
  F_45:Fun K "_law_chain" "_law_chain" (top 56) A.a_45 A.f_45
  d_45:Binds K A.f_45 ["_law_tape_here","_law_form_here","_law_many"] []
  m_46:mg "_law_right"=some (.ref A.a_46)
  k_46:PySem.W.keepIn K (.ref A.a_46)=true
  F_46:Fun K "_law_right" "_law_right" (top 57) A.a_46 A.f_46
  d_46:Binds K A.f_46 ["_law_form_here","_law_tree_here","_law_rows_here","_law_found"] []
  m_law:mg "law"=some (.ref A.a_law)
  k_law:PySem.W.keepIn K (.ref A.a_law)=true
  F_law:Fun K "law" "law" (top 58) A.a_law A.f_law
  d_law:Binds K A.f_law ["_law_script"] []
  c_SIDES:mg "SIDES"=some (.ref A.t_SIDES)
  t_SIDES:KTup K A.t_SIDES ["yes","no"]
  b_ValueError:mg "ValueError"=none
  b_bool:mg "bool"=none
  b_enumerate:mg "enumerate"=none
  b_int:mg "int"=none
  b_isinstance:mg "isinstance"=none
  b_len:mg "len"=none
  b_list:mg "list"=none
  b_max:mg "max"=none
  b_min:mg "min"=none
  b_range:mg "range"=none
  b_repr:mg "repr"=none
  b_tuple:mg "tuple"=none
def letters:Str:="abcdefghijklmnopqrstuvwxyz"
def sgn (c:Nat):Bool:=Txt.contains letters ⟨#[c]⟩
def nmS (z:Str):Bool:=decide (1≤z.length) && decide (z.length≤8) && z.cps.toList.all sgn
def nm:D→Bool
  | .str z=>nmS z
  | _=>false
def txt:D→Str
  | .str z=>z
  | _=>""
def nms (d:D) (lo hi:Int):Bool:=match d with | .tuple ts=>decide (lo≤ts.length) && decide ((ts.length:Int)≤hi) && ts.all nm && decide ((ts.map txt).Nodup) | _=>false
def fld:D→Bool
  | .tuple [n,vs]=>nm n && nms vs 2 5
  | _=>false
def fst:D→D
  | .tuple (n::_)=>n
  | _=>.none
def flds:D→Bool
  | .tuple ts=>decide (1≤ts.length) && decide (ts.length≤5) && ts.all fld && decide ((ts.map fun t=>txt (fst t)).Nodup)
  | _=>false
def Bits (n:Nat) (bs:List Int):Prop:=bs.length=n∧∀ b ∈ bs,0≤b∧b < 4096
def Nms (n:Nat) (ys:List Str):Prop:=ys.length=n∧(∀ y ∈ ys,nmS y=true)∧ys.Nodup
def fldD (f:Str × List Str):D:=.tuple [.str f.1,.tuple (f.2.map PyData.str)]
def frmD (fs:List (Str × List Str)) (an:List Str):D:=.tuple [.tuple (fs.map fldD),.tuple (an.map PyData.str)]
structure Form (fs:List (Str × List Str)) (an:List Str):Prop where
  n1:1≤fs.length
  n5:fs.length≤5
  nd:Nms fs.length (fs.map (·.1))
  vs:∀ f ∈ fs,2≤f.2.length∧f.2.length≤5∧Nms f.2.length f.2
  a2:2≤an.length
  a4:an.length≤4
  an:Nms an.length an
def sp_28:SpT:=fun _ _=>False
def sp_29:SpC:=fun _ n ds Q=>∃ m:Int,ds=[.int m]∧0 < m∧m≤100000∧n < 1099511627776∧∀ r:Int,0≤r→r < m→Q (n + 1) (.int r)
def sp_30:SpC:=fun _ n ds Q=>∃ m:Nat,ds=[.int m]∧1≤m∧m≤5∧n < 1000000000000∧∀ n' ys,n'≤n + 12→Nms m ys→Q n' (.tuple (ys.map PyData.str))
def sp_31:SpC:=fun _ n ds Q=>∃ f v:Nat,ds=[.int f,.int v]∧1≤f∧f≤5∧2≤v∧v≤5∧n < 900000000000∧∀ n' fs an,n'≤n + 100→Form fs an→fs.length=f→(∀ x ∈ fs,x.2.length≤v)→Q n' (frmD fs an)
theorem atI_in {α:Type} {xs:List α} {i:Int} (h0:0≤i) (h1:i < xs.length):∃ a,a ∈ xs∧L2.atI xs i=some a∧xs[i.toNat]?=some a:=by
  have hi:i.toNat < xs.length:=by omega
  refine ⟨xs[i.toNat],List.getElem_mem hi,?_,List.getElem?_eq_getElem hi⟩
  have:=L2.atI_nat (xs:=xs) (j:=i.toNat) (v:=xs[i.toNat]) (List.getElem?_eq_getElem hi)
  rwa [show ((i.toNat:Nat):Int)=i by omega] at this
theorem intsTo_len (n:Nat):(intsTo n).length=n:=by unfold intsTo; simp
theorem intsTo_get {n k:Nat} {x:D} (h:(intsTo n)[k]?=some x):k < n∧x=.int k:=by
  unfold intsTo at h
  rw [List.getElem?_map] at h
  by_cases hk:k < n
  · rw [List.getElem?_range hk] at h
    cases h
    exact ⟨hk,rfl⟩
  · rw [List.getElem?_eq_none (by simpa using hk)] at h
    cases h
theorem cut_ns {α:Type} (xs:List α) (j:Nat):cutD xs none (some (j:Int))=xs.take j:=by
  unfold cutD
  rw [HT.sIx_none,HT.sIx_nat,List.drop_zero,Nat.sub_zero]
  by_cases h:j≤xs.length
  · rw [Nat.min_eq_left h]
  · rw [Nat.min_eq_right (by omega),List.take_length,List.take_of_length_le (by omega)]
theorem cut_sn {α:Type} (xs:List α) (i:Nat):cutD xs (some (i:Int)) none=xs.drop i:=by
  unfold cutD
  rw [HT.sIx_none,HT.sIx_nat]
  by_cases h:i≤xs.length
  · rw [Nat.min_eq_left h,List.take_of_length_le (by rw [List.length_drop]; omega)]
  · rw [Nat.min_eq_right (by omega),List.drop_eq_nil_of_le (Nat.le_refl _),List.drop_eq_nil_of_le (by omega)]
    simp
theorem cut_map {α β:Type} (f:α→β) (xs:List α) (lo hi:Option Int):cutD (xs.map f) lo hi=(cutD xs lo hi).map f:=by
  unfold cutD
  rw [List.length_map,List.map_take,List.map_drop]
theorem nmS_of {z:Str} (h1:1≤z.cps.toList.length) (h2:z.cps.toList.length≤8) (h3:∀ c ∈ z.cps.toList,c ∈ letters.cps.toList):nmS z=true:=by
  have e:z.length=z.cps.toList.length:=by simp [Str.length]
  unfold nmS
  rw [e,decide_eq_true h1,decide_eq_true h2]
  simp only [Bool.true_and,List.all_eq_true]
  intro c hc
  unfold sgn
  rw [in_one]
  exact decide_eq_true (h3 c hc)
theorem nmS_iff {z:Str} (h:nmS z=true):1≤z.length∧z.length≤8∧∀ c ∈ z.cps.toList,c ∈ letters.cps.toList:=by
  unfold nmS at h
  simp only [Bool.and_eq_true,decide_eq_true_eq,List.all_eq_true] at h
  refine ⟨h.1.1,h.1.2,fun c hc=>?_⟩
  have:=h.2 c hc
  unfold sgn at this
  rw [in_one] at this
  exact of_decide_eq_true this
theorem nodup_range {α:Type} {n:Nat} (F:Nat→α) (inj:∀ i j,i < n→j < n→F i=F j→i=j):((List.range n).map F).Nodup:=by
  rw [List.Nodup,List.pairwise_map]
  have:(List.range n).Nodup:=List.nodup_range
  refine List.Pairwise.imp_of_mem (fun {a b} ha hb hab e=>?_) this
  exact hab (inj a b (by simpa using ha) (by simpa using hb) e)
theorem letters_nd:letters.cps.toList.Nodup:=by decide +kernel
theorem letters_len:letters.cps.toList.length=26:=by decide +kernel
theorem nth_inj {xs:List Nat} (nd:xs.Nodup) {i j:Nat} {c:Nat} (h1:xs[i]?=some c) (h2:xs[j]?=some c):i=j:=by
  obtain ⟨a1,a2⟩:=List.getElem?_eq_some_iff.mp h1
  obtain ⟨b1,b2⟩:=List.getElem?_eq_some_iff.mp h2
  exact (List.getElem_inj nd).mp (a2.trans b2.symm)
theorem signs_of:∀ {ys:List D},(∀ y ∈ ys,∃ c,c ∈ letters.cps.toList∧y=.str ⟨#[c]⟩)→∃ cs:List Nat,ys=cs.map (fun c=>PyData.str ⟨#[c]⟩)∧∀ c ∈ cs,c ∈ letters.cps.toList
  | [],_=>⟨[],rfl,fun c h=>by simp at h⟩
  | y::ys,h=>by
    obtain ⟨c,hc,rfl⟩:=h y (List.mem_cons_self ..)
    obtain ⟨cs,rfl,h2⟩:=signs_of (ys:=ys) fun y hy=>h y (List.mem_cons_of_mem _ hy)
    refine ⟨c::cs,rfl,fun d hd=>?_⟩
    rcases List.mem_cons.mp hd with rfl | hd
    · exact hc
    · exact h2 d hd
theorem join_signs (cs:List Nat):(Txt.join ⟨#[]⟩ (cs.map fun c=>⟨#[c]⟩)).cps.toList=cs:=by
  rw [join_codes,List.map_map]
  induction cs with
  | nil=>rfl
  | cons c cs ih=>rw [List.map_cons,List.flatten_cons,ih]; rfl
theorem atI_strs {ys:List Str} {k:Nat} (h:k < ys.length):L2.atI (ys.map PyData.str) (k:Int)=some (.str ys[k]):=L2.atI_nat (by rw [List.getElem?_map,List.getElem?_eq_getElem h]; rfl)
theorem seq_ifsetC {c:TTt} {te:ET} {u:STt} {DT:EndsT} {σ:List Sl} {i:Nat} (C:Prop) (R:D→Prop) (h:∀ q:Bool→Prop,(∀ b,(b=true→C)→q b)→c σ q) (h1:C→∀ q:D→Prop,(∀ d,R d→q d)→te σ q) (d0:D) (h0:σ[i]?=some (.val d0)) (r0:R d0) (k:∀ d,R d→u DT (σ.set i (.val d))):sSeq (sIf c (sSet i te) sNext) u DT σ:=by
  refine h _ fun b hb=>?_
  cases b with
  | true =>
    rw [if_pos rfl]
    exact h1 (hb rfl) _ k
  | false =>
    rw [if_neg (by decide)]
    have e:σ.set i (.val d0)=σ:=by
      apply List.ext_getElem?
      intro j
      by_cases hj:i=j
      · subst hj
        rw [List.getElem?_set_self (List.getElem?_eq_some_iff.mp h0).1,h0]
      · rw [List.getElem?_set_ne hj]
    have:=k d0 r0
    rw [e] at this
    exact this
theorem nms_rangeN {n:Nat} (F:Nat→Str) (h:∀ i,i < n→nmS (F i)=true) (inj:∀ i j,i < n→j < n→F i=F j→i=j):Nms n ((List.range n).map F) :=
  ⟨by simp,fun y hy=>by
    obtain ⟨i,hi,rfl⟩:=List.mem_map.mp hy
    exact h i (by simpa using hi),nodup_range F inj⟩
theorem nms_turnN {n:Nat} {ys:List Str} (h:Nms n ys) (t:Nat) {m:Nat} (hm:m≤n):Nms m ((ys.drop t++ys.take t).take m):=by
  have hp:(ys.drop t++ys.take t).Perm ys:=by
    have:(ys.take t++ys.drop t).Perm ys:=by rw [List.take_append_drop]
    exact List.perm_append_comm.trans this
  refine ⟨?_,fun y hy=>h.2.1 y (hp.mem_iff.mp (List.mem_of_mem_take hy)),(hp.nodup_iff.mpr h.2.2).sublist (List.take_sublist _ _)⟩
  rw [List.length_take,hp.length_eq,h.1]
  omega
theorem nms_turnW {n:Nat} {ys:List Str} (h:Nms n ys) (t:Nat):Nms n (ys.drop t++ys.take t):=by
  have e:=nms_turnN h t (Nat.le_refl n)
  rwa [List.take_of_length_le] at e
  rw [List.length_append,List.length_drop,List.length_take,h.1]
  omega
theorem atI_modI {ns:List Int} (h:0 < ns.length) (i:Int):∃ x:Int,L2.atI (ns.map PyData.int) (i % ((ns.map PyData.int).length:Nat))=some (.int x):=by
  rw [List.length_map]
  obtain ⟨a,hm,ha,_⟩:=atI_in (xs:=ns.map PyData.int) (i:=i % (ns.length:Nat)) (Int.emod_nonneg _ (by omega)) (by rw [List.length_map]; exact Int.emod_lt_of_pos _ (by omega))
  obtain ⟨b,hb,rfl⟩:=List.mem_map.mp hm
  exact ⟨b,ha⟩
@[irreducible] def cAt (i:Nat):Nat:=letters.cps.toList.getD i 0
theorem cAt_get {i:Nat} (h:i < 26):letters.cps.toList[i]?=some (cAt i):=by
  have hl:i < letters.cps.toList.length:=by rw [letters_len]; exact h
  unfold cAt
  rw [List.getD_eq_getElem?_getD,List.getElem?_eq_getElem hl]; rfl

theorem cAt_mem {i:Nat} (h:i < 26):cAt i ∈ letters.cps.toList:=List.mem_of_getElem? (cAt_get h)
theorem nth_injA {α:Type} {xs:List α} (nd:xs.Nodup) {i j:Nat} {c:α} (h1:xs[i]?=some c) (h2:xs[j]?=some c):i=j:=by
  obtain ⟨a1,a2⟩:=List.getElem?_eq_some_iff.mp h1
  obtain ⟨b1,b2⟩:=List.getElem?_eq_some_iff.mp h2
  exact (List.getElem_inj nd).mp (a2.trans b2.symm)
def words10:List Str:=["say","ask","is","upto","yes","no","all","in","none","a"]
theorem words10_nd:words10.Nodup:=by decide +kernel
theorem words10_nm:∀ y ∈ words10,nmS y=true:=by decide +kernel
@[irreducible] def wAt (i:Nat):Str:=words10.getD i ""
theorem wAt_get {i:Nat} (h:i < 10):words10[i]?=some (wAt i):=by
  have hl:i < words10.length:=h
  unfold wAt
  rw [List.getD_eq_getElem?_getD,List.getElem?_eq_getElem hl]; rfl
theorem nms_words10 {s m:Nat} (hm:m≤10):Nms m ((List.range m).map fun j:Nat=>wAt ((s + 3 * j) % 10)):=by
  refine nms_rangeN _ (fun i hi=>words10_nm _ (List.mem_of_getElem? (wAt_get (Nat.mod_lt _ (by decide))))) fun i j hi hj h=>?_
  have l1:=wAt_get (i:=(s + 3 * i) % 10) (Nat.mod_lt _ (by decide))
  have l2:=wAt_get (i:=(s + 3 * j) % 10) (Nat.mod_lt _ (by decide))
  have h':wAt ((s + 3 * i) % 10)=wAt ((s + 3 * j) % 10):=h
  rw [← h'] at l2
  have:=nth_injA words10_nd l1 l2
  omega
theorem nms_pref {z:Str} (hz7:z.cps.toList.length=7) (hzl:∀ c ∈ z.cps.toList,c ∈ letters.cps.toList) {m:Nat} (hm:m≤7):Nms m ((List.range m).map fun j:Nat=>Txt.slice z none (some ((j:Int) + 1))):=by
  have e:∀ j:Nat,(Txt.slice z none (some ((j:Int) + 1))).cps.toList=z.cps.toList.take (j + 1):=fun j=>by
    rw [slice_codes]; exact cut_ns _ (j + 1)
  refine nms_rangeN _ (fun i hi=>?_) fun i j hi hj h=>?_
  · refine nmS_of ?_ ?_ fun c hc=>?_
    · rw [e,List.length_take]; omega
    · rw [e,List.length_take]; omega
    · rw [e] at hc; exact hzl c (List.mem_of_mem_take hc)
  · have e1:=e i
    rw [h,e j] at e1
    have:=congrArg List.length e1
    rw [List.length_take,List.length_take] at this
    omega
def insAt (z:Str) (t c:Nat):Str:=Txt.slice z none (some (t:Int))++⟨#[c]⟩++Txt.slice z (some (t:Int)) none
theorem insAt_codes (z:Str) (t c:Nat):(insAt z t c).cps.toList=z.cps.toList.take t++(c::z.cps.toList.drop t):=by
  unfold insAt
  rw [app_codes,app_codes,slice_codes,slice_codes,cut_sn,cut_ns]
  simp
theorem nms_ins {z:Str} (hz7:z.cps.toList.length=7) (hzl:∀ c ∈ z.cps.toList,c ∈ letters.cps.toList) {t s m:Nat} (hm:m≤26):Nms m ((List.range m).map fun j:Nat=>insAt z t (cAt ((s + 7 * j) % 26))):=by
  refine nms_rangeN _ (fun i hi=>?_) fun i j hi hj h=>?_
  · have e:=insAt_codes z t (cAt ((s + 7 * i) % 26))
    refine nmS_of ?_ ?_ fun c hc=>?_
    · rw [e,List.length_append,List.length_cons]; omega
    · rw [e,List.length_append,List.length_cons,List.length_take,List.length_drop]; omega
    · rw [e] at hc
      rcases List.mem_append.mp hc with hc | hc
      · exact hzl c (List.mem_of_mem_take hc)
      · rcases List.mem_cons.mp hc with rfl | hc
        · exact cAt_mem (Nat.mod_lt _ (by decide))
        · exact hzl c (List.mem_of_mem_drop hc)
  · have e1:=insAt_codes z t (cAt ((s + 7 * i) % 26))
    have h':insAt z t (cAt ((s + 7 * i) % 26))=insAt z t (cAt ((s + 7 * j) % 26)):=h
    rw [h',insAt_codes] at e1
    have e2:=List.append_cancel_left e1
    have e3:cAt ((s + 7 * j) % 26)=cAt ((s + 7 * i) % 26):=(List.cons.inj e2).1
    have l1:=cAt_get (i:=(s + 7 * i) % 26) (Nat.mod_lt _ (by decide))
    have l2:=cAt_get (i:=(s + 7 * j) % 26) (Nat.mod_lt _ (by decide))
    rw [e3] at l2
    have:=nth_inj letters_nd l1 l2
    omega
theorem insAt_len (z:Str) (hz7:z.cps.toList.length=7) (t c:Nat):(Txt.slice z none (some (t:Int))).length + 1≤100000∧(Txt.slice z none (some (t:Int))++(⟨#[c]⟩:Str)).length + (Txt.slice z (some (t:Int)) none).length≤100000:=by
  have a1:=Txt.slice_le z none (some (t:Int))
  have a2:=Txt.slice_le z (some (t:Int)) none
  have a3:z.length=z.cps.toList.length:=by simp [Str.length]
  have a4:(Txt.slice z none (some (t:Int))++(⟨#[c]⟩:Str)).length=(Txt.slice z none (some (t:Int))).length + 1:=by
    show ((Txt.slice z none (some (t:Int))).cps++#[_]).size=_
    rw [Array.size_append]; rfl
  rw [a4]
  omega
theorem natOf {r:Int} (h:0≤r):∃ t:Nat,r=(t:Int):=⟨r.toNat,(Int.toNat_of_nonneg h).symm⟩
theorem flds_of {Pv:List Str→Prop}:∀ (ns:List Str) (ys:List D),ys.length=ns.length→(∀ (k:Nat) (x y:D),(ns.map PyData.str)[k]?=some x→ys[k]?=some y→∃ nm vs,x=.str nm∧y=fldD (nm,vs)∧Pv vs)→∃ fs:List (Str × List Str),ys=fs.map fldD∧fs.map (·.1)=ns∧∀ f ∈ fs,Pv f.2
  | [],ys,hl,_=>⟨[],List.length_eq_zero_iff.mp hl,rfl,fun f hf=>by simp at hf⟩
  | n::ns,[],hl,_=>by simp at hl
  | n::ns,y::ys,hl,h=>by
    obtain ⟨nm,vs,e1,e2,hp⟩:=h 0 (.str n) y rfl rfl
    cases e1
    obtain ⟨fs,h1,h2,h3⟩:=flds_of ns ys (by simpa using hl) fun k x y hx hy=>h (k + 1) x y (by simpa using hx) (by simpa using hy)
    refine ⟨(n,vs)::fs,by rw [e2,h1]; rfl,by rw [List.map_cons,h2],fun f hf=>?_⟩
    rcases List.mem_cons.mp hf with rfl | hf
    · exact hp
    · exact h3 f hf
def okV (f:Str × List Str) (d:D):Bool:=match d with | .none=>true | .str z=>decide (z ∈ f.2) | _=>false
def isAns (an:List Str) (d:D):Bool:=match d with | .str z=>decide (z ∈ an) | _=>false
structure Cd (d:D):Prop where
  lay:d.canLay0=true
  dep:d.depth≤60
structure Th (n m:Nat) (d:D):Prop where
  bulk:d.bulk≤n
  fit:d.leavesShort 110=true
  shw:d.showable=true
  nodict:d.hasDict=false
  depth:d.depth≤m
  lay:d.canLay0=true
abbrev Thing (d:D):Prop:=Th 100000 40 d
theorem Th.mono {n n' m m':Nat} {d:D} (h:Th n m d) (hn:n≤n') (hm:m≤m'):Th n' m' d:=⟨Nat.le_trans h.bulk hn,h.fit,h.shw,h.nodict,Nat.le_trans h.depth hm,h.lay⟩
theorem th_all {n m:Nat}:∀ {ts:List D},(∀ t ∈ ts,Th n m t)→PyData.bulkAll ts≤ts.length * (n + 1)∧PyData.leavesShortAll 110 ts=true∧PyData.showableAll ts=true∧PyData.hasDictAll ts=false∧PyData.depthAll ts≤m∧PyData.canLayAll0 ts=true
  | [],_=>⟨Nat.zero_le _,rfl,rfl,rfl,Nat.zero_le _,rfl⟩
  | t::ts,h=>by
    have a:=h t (List.mem_cons_self ..)
    obtain ⟨b1,b2,b3,b4,b5,b6⟩:=th_all (ts:=ts) fun x hx=>h x (List.mem_cons_of_mem _ hx)
    refine ⟨?_,?_,?_,?_,?_,?_⟩
    · show t.bulk + 1 + PyData.bulkAll ts≤(ts.length + 1) * (n + 1)
      have:=a.bulk
      rw [Nat.add_mul,Nat.one_mul]
      omega
    · show (t.leavesShort 110 && PyData.leavesShortAll 110 ts)=true
      rw [a.fit,b2]; rfl
    · show (t.showable && PyData.showableAll ts)=true
      rw [a.shw,b3]; rfl
    · show (t.hasDict || PyData.hasDictAll ts)=false
      rw [a.nodict,b4]; rfl
    · show max t.depth (PyData.depthAll ts)≤m
      exact Nat.max_le.mpr ⟨a.depth,b5⟩
    · show (t.canLay0 && PyData.canLayAll0 ts)=true
      rw [a.lay,b6]; rfl
theorem th_tup (n m k:Nat) {N M:Nat} {ts:List D} (h:∀ t ∈ ts,Th n m t) (hl:ts.length≤k) (hN:k * (n + 1)≤N) (hM:m + 1≤M):Th N M (.tuple ts):=by
  obtain ⟨b1,b2,b3,b4,b5,b6⟩:=th_all h
  have:ts.length * (n + 1)≤k * (n + 1):=Nat.mul_le_mul_right _ hl
  exact ⟨by show PyData.bulkAll ts≤N; omega,b2,b3,b4,by show PyData.depthAll ts + 1≤M; omega,b6⟩
theorem th_lst (n m k:Nat) {N M:Nat} {ts:List D} (h:∀ t ∈ ts,Th n m t) (hl:ts.length≤k) (hN:k * (n + 1)≤N) (hM:m + 1≤M):Th N M (.list ts):=by
  obtain ⟨b1,b2,b3,b4,b5,b6⟩:=th_all h
  have:ts.length * (n + 1)≤k * (n + 1):=Nat.mul_le_mul_right _ hl
  exact ⟨by show PyData.bulkAll ts≤N; omega,b2,b3,b4,by show PyData.depthAll ts + 1≤M; omega,b6⟩
theorem th_none {n m:Nat}:Th n m .none:=⟨Nat.zero_le _,rfl,rfl,rfl,Nat.zero_le _,rfl⟩
theorem strOk_small {z:Str} (hc:∀ c ∈ z.cps.toList,c < 1000):PyData.strOk z=true:=by
  unfold PyData.strOk
  rw [← Array.all_toList,List.all_eq_true]
  intro c h1
  have:=hc c h1
  exact decide_eq_true (by omega)
theorem th_str {n m:Nat} {z:Str} (h:z.length≤n) (hc:∀ c ∈ z.cps.toList,c < 1000):Th n m (.str z):=by
  refine ⟨h,?_,rfl,rfl,Nat.zero_le _,strOk_small hc⟩
  show (z.cps.toList.all fun c=>decide (c < 16 ^ 8))=true
  rw [List.all_eq_true]
  intro c h1
  have:=hc c h1
  exact decide_eq_true (by omega)
theorem let_small {c:Nat} (h:c ∈ letters.cps.toList):c < 128:=by
  have:∀ c ∈ letters.cps.toList,c < 128:=by decide +kernel
  exact this c h
theorem nm_small {y:Str} (h:nmS y=true):y.length≤8∧∀ c ∈ y.cps.toList,c < 128:=⟨(nmS_iff h).2.1,fun c hc=>let_small ((nmS_iff h).2.2 c hc)⟩
theorem th_name {y:Str} (h:nmS y=true) {n m:Nat} (hn:8≤n):Th n m (.str y):=th_str (Nat.le_trans (nm_small h).1 hn) fun c hc=>by have:=(nm_small h).2 c hc; omega
theorem th_strs {ys:List Str} (h:∀ y ∈ ys,nmS y=true) {n m:Nat} (hn:8≤n):∀ t ∈ ys.map PyData.str,Th n m t:=fun t ht=>by
  obtain ⟨y,hy,rfl⟩:=List.mem_map.mp ht
  exact th_name (h y hy) hn
theorem th_names {ys:List Str} (h:∀ y ∈ ys,nmS y=true) (hl:ys.length≤8):Th 72 1 (.tuple (ys.map PyData.str)):=th_tup 8 0 8 (th_strs h (Nat.le_refl _)) (by rw [List.length_map]; exact hl) (by decide) (by decide)
theorem all_nil {n m:Nat}:∀ t ∈ ([]:List D),Th n m t:=fun t h=>by simp at h
theorem all_cons {n m:Nat} {a:D} {ts:List D} (h:Th n m a) (hs:∀ t ∈ ts,Th n m t):∀ t ∈ a::ts,Th n m t:=fun t ht=>by
  rcases List.mem_cons.mp ht with rfl | ht
  · exact h
  · exact hs t ht
theorem all_app {n m:Nat} {as bs:List D} (h:∀ t ∈ as,Th n m t) (hs:∀ t ∈ bs,Th n m t):∀ t ∈ as++bs,Th n m t:=fun t ht=>(List.mem_append.mp ht).elim (h t) (hs t)
theorem thing_shown {d:D} (h:Thing d):d.shown.length≤sizeLine:=by
  have h1:=PyData.shown_le_bulk 110 (by decide) d h.fit
  have h2:=h.bulk
  have hL:sizeLine=2 ^ 24:=rfl
  have h3:(110 + 2) * d.bulk≤(110 + 2) * 100000:=Nat.mul_le_mul_left _ h2
  omega
theorem Th.cd {n m:Nat} {d:D} (h:Th n m d) (hm:m≤60):Cd d:=⟨h.lay,Nat.le_trans h.depth hm⟩
theorem lay_mem:∀ {ts:List D} {t:D},PyData.canLayAll0 ts=true→t ∈ ts→t.canLay0=true
  | a::r,t,h,hm=>by
    have h':(a.canLay0 && PyData.canLayAll0 r)=true:=h
    rw [Bool.and_eq_true] at h'
    rcases List.mem_cons.mp hm with rfl | hm
    · exact h'.1
    · exact lay_mem h'.2 hm
theorem depth_mem:∀ {ts:List D} {t:D},t ∈ ts→t.depth≤PyData.depthAll ts
  | a::r,t,hm=>by
    show t.depth≤max a.depth (PyData.depthAll r)
    rcases List.mem_cons.mp hm with rfl | hm
    · exact Nat.le_max_left _ _
    · exact Nat.le_trans (depth_mem hm) (Nat.le_max_right _ _)
theorem Cd.item {ts:List D} {t:D} (h:Cd (.tuple ts)) (ht:t ∈ ts):Cd t:=⟨lay_mem h.lay ht,by
  have h1:PyData.depthAll ts + 1≤60:=h.dep
  have:=depth_mem ht
  omega⟩
section
variable {fs:List (Str × List Str)} {an:List Str}
theorem Form.name (F:Form fs an) {f:Str × List Str} (h:f ∈ fs):nmS f.1=true:=F.nd.2.1 _ (List.mem_map.mpr ⟨f,h,rfl⟩)
theorem Form.vals (F:Form fs an) {f:Str × List Str} (h:f ∈ fs):∀ y ∈ f.2,nmS y=true:=(F.vs f h).2.2.2.1
theorem Form.fld (F:Form fs an) {f:Str × List Str} (h:f ∈ fs):Th 146 2 (fldD f):=th_tup 72 1 2 (all_cons (th_name (F.name h) (by decide)) (all_cons (th_names (F.vals h) (by have:=(F.vs f h).2.1; omega)) all_nil)) (Nat.le_of_ble_eq_true rfl) (by decide) (by decide)
theorem Form.flds (F:Form fs an):Th 735 3 (.tuple (fs.map fldD)):=th_tup 146 2 5 (fun t ht=>by
  obtain ⟨f,hf,rfl⟩:=List.mem_map.mp ht
  exact F.fld hf) (by rw [List.length_map]; exact F.n5) (by decide) (by decide)
theorem Form.ans (F:Form fs an):Th 72 1 (.tuple (an.map PyData.str)):=th_names F.an.2.1 (by have:=F.a4; omega)
theorem Form.form (F:Form fs an):Th 1472 4 (frmD fs an):=th_tup 735 3 2 (all_cons F.flds (all_cons (F.ans.mono (by decide) (by decide)) all_nil)) (Nat.le_of_ble_eq_true rfl) (by decide) (by decide)
end
theorem fIn2_tup {x:D} {ts:List D} {Q:D→Prop} (h1:okIn x (.tuple ts)) (h2:Q (.bool (inD x (.tuple ts)))):fIn2 x (.tuple ts) Q:=by
  cases x <;> exact ⟨h1,h2⟩
theorem any_strs (d:D) (ys:List Str):((ys.map PyData.str).any fun z=>PyData.eqv z d)=isAns ys d:=by
  induction ys with
  | nil=>cases d <;> rfl
  | cons y ys ih =>
    rw [List.map_cons,List.any_cons,ih]
    cases d with
    | str z =>
      show ((y == z) || decide (z ∈ ys))=decide (z ∈ y::ys)
      rw [Bool.eq_iff_iff]
      simp only [Bool.or_eq_true,beq_iff_eq,decide_eq_true_eq,List.mem_cons]
      exact ⟨fun h=>h.imp Eq.symm id,fun h=>h.imp Eq.symm id⟩
    | _=>rfl
theorem ok_strs {ys:List Str} (h:∀ y ∈ ys,nmS y=true) {d:D} (hd:Cd d):okIn d (.tuple (ys.map PyData.str)):=by
  obtain ⟨_,_,_,_,b5,b6⟩:=th_all (th_strs h (Nat.le_refl 8) (m:=0))
  exact ⟨b6,hd.lay,by have:=hd.dep; omega⟩
theorem ok_entries {ys:List Str} (h:∀ y ∈ ys,nmS y=true) {d:D} (hd:Cd d):okIn d (.tuple (ys.map PyData.str++[.none])):=by
  obtain ⟨_,_,_,_,b5,b6⟩:=th_all (all_app (th_strs h (Nat.le_refl 8) (m:=0)) (all_cons th_none all_nil))
  exact ⟨b6,hd.lay,by have:=hd.dep; omega⟩
theorem idx_min:∀ {ys:List Str} {z:Str} {m:Nat},m < ys.idxOf z→ys[m]? ≠ some z
  | [],z,m,h=>by simp at h
  | y::ys,z,m,h=>by
    rw [List.idxOf_cons] at h
    by_cases e:y=z
    · subst e
      simp at h
    · have e':(y == z)=false:=by simpa using e
      rw [e'] at h
      simp only [cond_false] at h
      cases m with
      | zero=>simpa using e
      | succ m =>
        rw [List.getElem?_cons_succ]
        exact idx_min (by omega)
theorem Bits.drop {n:Nat} {bs:List Int} (h:Bits n bs) (k:Nat):Bits (n - k) (bs.drop k):=⟨by rw [List.length_drop,h.1],fun b hb=>h.2 b (List.mem_of_mem_drop hb)⟩
theorem seq_unp {te:ET} {u:STt} {DT:EndsT} {σ:List Sl} {i j:Nat} {a b:D} (h:∀ q:D→Prop,q (.tuple [a,b])→te σ q) (k:u DT ((σ.set i (.val a)).set j (.val b))):sSeq (sUnp i j te) u DT σ:=h _ ⟨a,b,rfl,k⟩
def isCase (fs:List (Str × List Str)) (d:D):Bool:=match d with | .tuple ts=>decide (ts.length=fs.length) && (fs.zip ts).all (fun p=>okV p.1 p.2) | _=>false
section
variable {fs:List (Str × List Str)} {an:List Str}
theorem case_get {cs:List D} (h:isCase fs (.tuple cs)=true):cs.length=fs.length∧∀ (k:Nat) f c,fs[k]?=some f→cs[k]?=some c→okV f c=true:=by
  unfold isCase at h
  simp only [Bool.and_eq_true,decide_eq_true_eq,List.all_eq_true] at h
  refine ⟨h.1,fun k f c h1 h2=>?_⟩
  exact h.2 (f,c) (List.mem_of_getElem? ((List.getElem?_zip_eq_some (z:=(f,c))).mpr ⟨h1,h2⟩))
theorem case_of {cs:List D} (hl:cs.length=fs.length) (h:∀ (k:Nat) f c,fs[k]?=some f→cs[k]?=some c→okV f c=true):isCase fs (.tuple cs)=true:=by
  unfold isCase
  simp only [Bool.and_eq_true,decide_eq_true_eq,List.all_eq_true]
  refine ⟨hl,fun p hp=>?_⟩
  obtain ⟨k,hk⟩:=List.getElem?_of_mem hp
  obtain ⟨h1,h2⟩:=List.getElem?_zip_eq_some.mp hk
  exact h k p.1 p.2 h1 h2
theorem case_items (F:Form fs an) {cs:List D} (h:isCase fs (.tuple cs)=true) {n m:Nat} (hn:8≤n):∀ c ∈ cs,Th n m c:=fun c hc=>by
  obtain ⟨hl,hv⟩:=case_get h
  obtain ⟨k,hk⟩:=List.getElem?_of_mem hc
  have hk':k < fs.length:=by rw [← hl]; exact (List.getElem?_eq_some_iff.mp hk).1
  have:=hv k fs[k] c (List.getElem?_eq_getElem hk') hk
  cases c with
  | none=>exact th_none
  | str z=>exact th_name (F.vals (List.getElem_mem hk') z (of_decide_eq_true this)) hn
  | _=>cases this
end
def rowD (r:List D × Str):D:=.tuple [.tuple r.1,.str r.2]
def RowOk (fs:List (Str × List Str)) (an:List Str) (r:List D × Str):Prop:=isCase fs (.tuple r.1)=true∧r.2 ∈ an
def RowsOk (fs:List (Str × List Str)) (an:List Str) (rs:List (List D × Str)):Prop:=∀ r ∈ rs,RowOk fs an r
theorem th_row {fs:List (Str × List Str)} {an:List Str} (F:Form fs an) {r:List D × Str} (h:RowOk fs an r):Th 92 2 (rowD r):=by
  have n5:=F.n5
  exact th_tup 45 1 2 (all_cons (th_tup 8 0 5 (case_items F h.1 (Nat.le_refl 8)) (by rw [(case_get h.1).1]; exact n5) (by decide) (by decide)) (all_cons (th_name (F.an.2.1 _ h.2) (by decide)) all_nil)) (Nat.le_of_ble_eq_true rfl) (by decide) (by decide)
theorem th_rows {fs:List (Str × List Str)} {an:List Str} (F:Form fs an) {rs:List (List D × Str)} (h:RowsOk fs an rs) (hl:rs.length≤60):Th 6000 3 (.list (rs.map rowD)) :=
  th_lst 92 2 60 (fun t ht=>by
    obtain ⟨r,hr,rfl⟩:=List.mem_map.mp ht
    exact th_row F (h r hr)) (by rw [List.length_map]; exact hl) (by decide) (by decide)
def qOk (f:Str × List Str) (k v:D):Bool:=match k,v with
  | .str kk,.str z=>decide (z ∈ f.2) && (decide (kk="is") || (decide (kk="upto") && decide (f.2.idxOf z + 1 < f.2.length)))
  | _,_=>false
def isN (n:D) (f:Str × List Str):Bool:=match n with | .str z=>decide (f.1=z) | _=>false
def isQ (fs:List (Str × List Str)) (d:D):Bool:=match d with
  | .tuple [k,n,v]=>fs.any fun f=>isN n f && qOk f k v
  | _=>false
def mkQ (k:Str) (f:Str × List Str) (z:Str):D:=.tuple [.str k,.str f.1,.str z]
theorem idx_le {ys:List Str} {z:Str} {j:Nat} (h:ys[j]?=some z):ys.idxOf z≤j:=by
  by_cases q:ys.idxOf z≤j
  · exact q
  · exact absurd h (idx_min (by omega))
theorem isQ_mk {fs:List (Str × List Str)} {f:Str × List Str} {k:Str} {z:Str} (hf:f ∈ fs) (h:qOk f (.str k) (.str z)=true):isQ fs (mkQ k f z)=true:=by
  show (fs.any fun g=>isN (.str f.1) g && qOk g (.str k) (.str z))=true
  rw [List.any_eq_true]
  refine ⟨f,hf,?_⟩
  show (decide (f.1=f.1) && qOk f (.str k) (.str z))=true
  rw [h,decide_eq_true rfl]; rfl
theorem nm_is:nmS "is"=true:=by decide +kernel
theorem nm_upto:nmS "upto"=true:=by decide +kernel
theorem th_mkQ {fs:List (Str × List Str)} {an:List Str} (F:Form fs an) {k:Str} (hk:nmS k=true) {f:Str × List Str} (hf:f ∈ fs) {z:Str} (hz:z ∈ f.2):Th 27 1 (mkQ k f z) :=
  th_tup 8 0 3 (all_cons (th_name hk (Nat.le_refl _)) (all_cons (th_name (F.name hf) (Nat.le_refl _)) (all_cons (th_name (F.vals hf z hz) (Nat.le_refl _)) all_nil))) (Nat.le_of_ble_eq_true rfl) (by decide) (by decide)
theorem okIx_strs {ys:List Str} (hy:∀ y ∈ ys,nmS y=true) {z:Str} (hz:z ∈ ys):okIx (ys.map PyData.str) (.str z) (ys.idxOf z):=by
  have hzi:ys.idxOf z < ys.length:=List.idxOf_lt_length_iff.mpr hz
  obtain ⟨_,_,_,_,d5,d6⟩:=th_all (th_strs hy (Nat.le_refl 8) (m:=0))
  refine ⟨d6,(th_name (hy z hz) (Nat.le_refl 8) (m:=0)).lay,by omega,⟨.str z,?_,?_⟩,fun m t hm ht=>?_⟩
  · rw [List.getElem?_map,List.getElem?_eq_getElem hzi,List.getElem_idxOf hzi]; rfl
  · show (z == z)=true
    simp
  · rw [List.getElem?_map] at ht
    cases e2:ys[m]? with
    | none=>rw [e2] at ht; cases ht
    | some y =>
      rw [e2] at ht
      cases ht
      show (y == z)=false
      have:y ≠ z:=fun q=>by
        subst q
        exact idx_min hm e2
      simpa using this
inductive Tr | say (a:Str) | ask (k n v s:Str) (y m:Tr)
def trD:Tr→D
  | .say a=>.tuple [.str "say",.str a]
  | .ask k n v s y m=>.tuple [.str "ask",.tuple [.str k,.str n,.str v],.str s,trD y,trD m]
def Tr.dep:Tr→Nat
  | .say _=>0
  | .ask _ _ _ _ y m=>max y.dep m.dep + 1
def Tr.kn:Tr→Nat
  | .say _=>0
  | .ask _ _ _ _ y m=>y.kn + m.kn + 1
def TrOk (fs:List (Str × List Str)) (an:List Str):Tr→Prop
  | .say a=>a ∈ an
  | .ask k n v s y m=>isQ fs (.tuple [.str k,.str n,.str v])=true∧(s="yes" ∨ s="no")∧TrOk fs an y∧TrOk fs an m
theorem isQ_str {fs:List (Str × List Str)} {k n v:Str} (h:isQ fs (.tuple [.str k,.str n,.str v])=true):∃ f ∈ fs,f.1=n∧v ∈ f.2∧(k="is" ∨ (k="upto"∧f.2.idxOf v + 1 < f.2.length)):=by
  obtain ⟨f,hf,hq⟩:=List.any_eq_true.mp (h:(fs.any fun f=>isN (.str n) f && qOk f (.str k) (.str v))=true)
  rw [Bool.and_eq_true] at hq
  have h2:(decide (v ∈ f.2) && (decide (k="is") || (decide (k="upto") && decide (f.2.idxOf v + 1 < f.2.length))))=true:=hq.2
  simp only [Bool.and_eq_true,Bool.or_eq_true,decide_eq_true_eq] at h2
  exact ⟨f,hf,of_decide_eq_true hq.1,h2.1,h2.2⟩
theorem nm_yes:nmS "yes"=true:=by decide +kernel
theorem nm_no:nmS "no"=true:=by decide +kernel
theorem nm_say:nmS "say"=true:=by decide +kernel
theorem nm_ask:nmS "ask"=true:=by decide +kernel
theorem th_q {fs:List (Str × List Str)} {an:List Str} (F:Form fs an) {k n v:Str} (h:isQ fs (.tuple [.str k,.str n,.str v])=true):Th 27 1 (.tuple [.str k,.str n,.str v]):=by
  obtain ⟨f,hf,rfl,hv,hk⟩:=isQ_str h
  refine th_mkQ F ?_ hf hv
  rcases hk with rfl | ⟨rfl,_⟩
  · exact nm_is
  · exact nm_upto
theorem th_tree {fs:List (Str × List Str)} {an:List Str} (F:Form fs an):∀ t:Tr,TrOk fs an t→Th (68 * t.kn + 18) (t.dep + 1) (trD t)
  | .say a,h=>th_tup 8 0 2 (all_cons (th_name nm_say (Nat.le_refl _)) (all_cons (th_name (F.an.2.1 a h) (Nat.le_refl _)) all_nil)) (Nat.le_of_ble_eq_true rfl) (by show 2 * (8 + 1)≤68 * 0 + 18; decide) (Nat.le_refl _)
  | .ask k n v s y m,h=>by
    obtain ⟨hq,hs,hy,hm⟩:=h
    have iy:=th_tree F y hy
    have im:=th_tree F m hm
    have q:=th_q F hq
    have sn:nmS s=true:=by
      rcases hs with rfl | rfl
      · exact nm_yes
      · exact nm_no
    have sl:=th_name sn (n:=8) (m:=0) (Nat.le_refl _)
    have al:=th_name nm_ask (n:=8) (m:=0) (Nat.le_refl _)
    have e1:PyData.bulk (trD (.ask k n v s y m))=(PyData.str "ask").bulk + 1 + ((PyData.tuple [.str k,.str n,.str v]).bulk + 1 + ((PyData.str s).bulk + 1 + ((trD y).bulk + 1 + ((trD m).bulk + 1 + 0)))):=rfl
    have e2:PyData.depth (trD (.ask k n v s y m))=max (PyData.str "ask").depth (max (PyData.tuple [.str k,.str n,.str v]).depth (max (PyData.str s).depth (max (trD y).depth (max (trD m).depth 0)))) + 1:=rfl
    refine ⟨?_,?_,?_,?_,?_,?_⟩
    · rw [e1]
      have a1:=iy.bulk
      have a2:=im.bulk
      have a3:=q.bulk
      have a4:=sl.bulk
      have a5:=al.bulk
      show _≤68 * (y.kn + m.kn + 1) + 18
      omega
    · show ((PyData.str "ask").leavesShort 110 && ((PyData.tuple [.str k,.str n,.str v]).leavesShort 110 && ((PyData.str s).leavesShort 110 && ((trD y).leavesShort 110 && ((trD m).leavesShort 110 && true)))))=true
      rw [al.fit,q.fit,sl.fit,iy.fit,im.fit]; rfl
    · show ((PyData.str "ask").showable && ((PyData.tuple [.str k,.str n,.str v]).showable && ((PyData.str s).showable && ((trD y).showable && ((trD m).showable && true)))))=true
      rw [al.shw,q.shw,sl.shw,iy.shw,im.shw]; rfl
    · show ((PyData.str "ask").hasDict || ((PyData.tuple [.str k,.str n,.str v]).hasDict || ((PyData.str s).hasDict || ((trD y).hasDict || ((trD m).hasDict || false)))))=false
      rw [al.nodict,q.nodict,sl.nodict,iy.nodict,im.nodict]; rfl
    · rw [e2]
      have a1:=iy.depth
      have a2:=im.depth
      have a3:=q.depth
      have a4:=sl.depth
      have a5:=al.depth
      show _≤max y.dep m.dep + 1 + 1
      omega
    · show ((PyData.str "ask").canLay0 && ((PyData.tuple [.str k,.str n,.str v]).canLay0 && ((PyData.str s).canLay0 && ((trD y).canLay0 && ((trD m).canLay0 && true)))))=true
      rw [al.lay,q.lay,sl.lay,iy.lay,im.lay]; rfl
theorem Tr.kn_dep:∀ t:Tr,t.kn < 2 ^ t.dep
  | .say _=>by show 0 < 2 ^ 0; decide
  | .ask _ _ _ _ y m=>by
    have:=kn_dep y
    have:=kn_dep m
    show y.kn + m.kn + 1 < 2 ^ (max y.dep m.dep + 1)
    have h1:2 ^ y.dep≤2 ^ (max y.dep m.dep):=Nat.pow_le_pow_right (by decide) (Nat.le_max_left ..)
    have h2:2 ^ m.dep≤2 ^ (max y.dep m.dep):=Nat.pow_le_pow_right (by decide) (Nat.le_max_right ..)
    rw [Nat.pow_succ]
    omega
theorem seq_while {c:TTt} {tb u:STt} {DT:EndsT} {σ:List Sl} (P:Nat→List Sl→Prop) (n0:Nat) (h0:P n0 σ)
    (hs:∀ n σ',P n σ'→∃ b:Bool,(∀ q:Bool→Prop,q b→c σ' q)∧(if b=true then tb { DT with nx:=fun σ2=>∃ m,m < n∧P m σ2,ct:=fun σ2=>∃ m,m < n∧P m σ2,bk:=u DT } σ' else u DT σ')):sSeq (sWhile c tb) u DT σ :=
  ⟨P,⟨n0,h0⟩,fun n σ' hp=>let ⟨_,h1,h2⟩:=hs n σ' hp; h1 _ h2⟩
def asked (k:Str) (f:Str × List Str):List Str:=if k="upto" then f.2.take (f.2.length - 1) else f.2
abbrev Rw:=List D × Str
def cnt (rs:List Rw) (a:Str):Nat:=rs.countP fun r=>decide (r.2=a)
def cnts (an:List Str) (rs:List Rw):List Int:=an.map fun a=>(cnt rs a:Int)
def lowD (a b:Nat):D:=.tuple [.int ((a / a.gcd b:Nat):Int),.int ((b / a.gcd b:Nat):Int)]
def First (an:List Str) (rs:List Rw) (a:Str):Prop:=∃ k,an[k]?=some a∧(∀ (j:Nat) b,an[j]?=some b→cnt rs b≤cnt rs a)∧∀ (j:Nat) b,j < k→an[j]?=some b→cnt rs b < cnt rs a
def sp_2:SpT:=fun ds Q=>∃ a b:Nat,ds=[.int a,.int b]∧0 < b∧a < 2 ^ 190∧b < 2 ^ 190∧Q (lowD a b)
def sp_0:SpF:=fun ds Q=>∃ (fs:List (Str × List Str)) (an:List Str) (rs:List Rw),ds=[frmD fs an,.list (rs.map rowD)]∧Form fs an∧RowsOk fs an rs∧rs.length≤60∧Q ((cnts an rs).map PyData.int)
def sp_1:SpT:=fun ds Q=>∃ (fs:List (Str × List Str)) (an:List Str) (rs:List Rw),ds=[frmD fs an,.list (rs.map rowD)]∧Form fs an∧RowsOk fs an rs∧rs.length≤60∧∀ a,First an rs a→Q (.str a)
theorem first_of {α:Type} [DecidableEq α]:∀ (l:List α) (x:α),x ∈ l→∃ k:Nat,l[k]?=some x∧∀ j:Nat,j < k→l[j]? ≠ some x
  | y::l,x,h=>by
    by_cases e:y=x
    · exact ⟨0,by rw [e]; rfl,fun j hj=>by omega⟩
    · obtain ⟨k,h1,h2⟩:=first_of l x ((List.mem_cons.mp h).resolve_left fun z=>e z.symm)
      refine ⟨k + 1,h1,fun j hj=>?_⟩
      cases j with
      | zero=>exact fun z=>e (Option.some.inj z)
      | succ j=>exact h2 j (by omega)
def unlike (a:Str) (x:D):Bool:=match x with | .tuple [_,.str b]=>!decide (b=a) | _=>false
def sideOf (f:Str × List Str) (k v st:Str) (c:D):Str:=match c with
  | .none=>st
  | .str z=>if k="is" then (if z=v then "yes" else "no") else if f.2.idxOf z≤f.2.idxOf v then "yes" else "no"
  | _=>""
def sideS (fs:List (Str × List Str)) (k n v st:Str) (cs:List D):Str:=match fs[(fs.map (·.1)).idxOf n]?,cs[(fs.map (·.1)).idxOf n]? with
  | some f,some c=>sideOf f k v st c
  | _,_=>""
def sp_5:SpT:=fun ds Q=>∃ (fs:List (Str × List Str)) (an:List Str) (k n v st:Str) (cs:List D),ds=[frmD fs an,.tuple [.str k,.str n,.str v],.str st,.tuple cs]∧Form fs an∧isQ fs (.tuple [.str k,.str n,.str v])=true∧(st="yes" ∨ st="no")∧isCase fs (.tuple cs)=true∧Q (.str (sideS fs k n v st cs))
def sp_34:SpT:=sp_5
def onSide (fs:List (Str × List Str)) (k n v st:Str) (rs:List (List D × Str)) (w:Str) (x:D):Bool:=match x with
  | .int i=>match L2.atI rs i with | some r=>decide (sideS fs k n v st r.1=w) | none=>false
  | _=>false
def sideIx (fs:List (Str × List Str)) (k n v st:Str) (rs:List (List D × Str)) (w:Str):List D:=(intsTo rs.length).filter (onSide fs k n v st rs w)
def sp_9:SpP:=fun ds Q=>∃ (fs:List (Str × List Str)) (an:List Str) (k n v st:Str) (rs:List (List D × Str)),ds=[frmD fs an,.tuple [.str k,.str n,.str v],.str st,.list (rs.map rowD)]∧Form fs an∧isQ fs (.tuple [.str k,.str n,.str v])=true∧(st="yes" ∨ st="no")∧RowsOk fs an rs∧rs.length≤60∧Q (sideIx fs k n v st rs "yes") (sideIx fs k n v st rs "no")
theorem name_at {fs:List (Str × List Str)} {an:List Str} (F:Form fs an) {j:Nat} {f:Str × List Str} (h:fs[j]?=some f):(fs.map (·.1)).idxOf f.1=j:=by
  have hm:f.1 ∈ fs.map (·.1):=List.mem_map.mpr ⟨f,List.mem_of_getElem? h,rfl⟩
  have hi:(fs.map (·.1)).idxOf f.1 < (fs.map (·.1)).length:=List.idxOf_lt_length_iff.mpr hm
  have h1:(fs.map (·.1))[(fs.map (·.1)).idxOf f.1]?=some f.1:=by rw [List.getElem?_eq_getElem hi,List.getElem_idxOf hi]
  have h2:(fs.map (·.1))[j]?=some f.1:=by rw [List.getElem?_map,h]; rfl
  exact (List.getElem?_inj hi F.nd.2.2).mp (h1.trans h2.symm)
theorem sideS_at {fs:List (Str × List Str)} {an:List Str} (F:Form fs an) {k n v st:Str} {cs:List D} {j:Nat} {f:Str × List Str} {c:D} (h1:fs[j]?=some f) (h2:cs[j]?=some c) (hn:f.1=n):sideS fs k n v st cs=sideOf f k v st c:=by
  subst hn
  unfold sideS
  rw [name_at F h1,h1,h2]
def sdD (fs:List (Str × List Str)) (k n v st:Str) (x:D):D:=match x with | .tuple [.tuple cs,_]=>.str (sideS fs k n v st cs) | _=>.none
theorem onSide_at {fs:List (Str × List Str)} {k n v st:Str} {rs:List (List D × Str)} {w:Str} {j:Nat} {r:List D × Str} (h:rs[j]?=some r):onSide fs k n v st rs w (.int (j:Int))=decide (sideS fs k n v st r.1=w):=by
  show (match L2.atI rs (j:Int) with | some r=>decide (sideS fs k n v st r.1=w) | none=>false)=_
  rw [L2.atI_nat h]
def held (k v:Str) (f:Str × List Str):List Str:=if k="is" then [v] else f.2.take (f.2.idxOf v + 1)
def sp_8:SpT:=fun ds Q=>∃ (k n v:Str) (f:Str × List Str),ds=[.tuple [.str k,.str n,.str v],fldD f]∧(∀ y ∈ f.2,nmS y=true)∧v ∈ f.2∧f.2.length≤5∧Q (.tuple ((held k v f).map PyData.str))
theorem held_side {f:Str × List Str} {k v st z:Str} (hz:z ∈ f.2):(if isAns (held k v f) (.str z)=true then ("yes":Str) else "no")=sideOf f k v st (.str z):=by
  show (if decide (z ∈ held k v f)=true then ("yes":Str) else "no")=if k="is" then (if z=v then ("yes":Str) else "no") else if f.2.idxOf z≤f.2.idxOf v then ("yes":Str) else "no"
  unfold held
  by_cases hk:k="is"
  · rw [if_pos hk,if_pos hk]
    by_cases e:z=v
    · rw [if_pos e,if_pos (decide_eq_true (List.mem_singleton.mpr e))]
    · rw [if_neg e,if_neg (fun q=>e (List.mem_singleton.mp (of_decide_eq_true q)))]
  · rw [if_neg hk,if_neg hk]
    have hi:f.2.idxOf z < f.2.length:=List.idxOf_lt_length_iff.mpr hz
    by_cases e:f.2.idxOf z≤f.2.idxOf v
    · rw [if_pos e,if_pos]
      refine decide_eq_true (List.mem_of_getElem? (i:=f.2.idxOf z) ?_)
      rw [List.getElem?_take,if_pos (by omega),List.getElem?_eq_getElem hi,List.getElem_idxOf hi]
    · rw [if_neg e,if_neg]
      intro q
      obtain ⟨i,hi'⟩:=List.getElem?_of_mem (of_decide_eq_true q)
      have hl:=(List.getElem?_eq_some_iff.mp hi').1
      rw [List.length_take] at hl
      rw [List.getElem?_take,if_pos (by omega)] at hi'
      have:=idx_le hi'
      omega
theorem held_mem {f:Str × List Str} {k v y:Str} (hv:v ∈ f.2) (h:y ∈ held k v f):y ∈ f.2:=by
  unfold held at h
  split at h
  · rw [List.mem_singleton.mp h]; exact hv
  · exact List.mem_of_mem_take h
def toYes (k v st:Str) (f:Str × List Str):List D:=(held k v f).map PyData.str++(if st="yes" then [PyData.none] else [])
def sp_7:SpT:=fun ds Q=>∃ (k n v st:Str) (f:Str × List Str),ds=[.tuple [.str k,.str n,.str v],.str st,fldD f]∧(∀ y ∈ f.2,nmS y=true)∧v ∈ f.2∧f.2.length≤5∧Q (.tuple (toYes k v st f))
def sp_6:SpT:=fun ds Q=>∃ (fs:List (Str × List Str)) (an:List Str) (k n v:Str) (f:Str × List Str) (j:Nat),ds=[frmD fs an,.tuple [.str k,.str n,.str v]]∧Form fs an∧fs[j]?=some f∧f.1=n∧Q (.int (j:Int))
theorem held_len {k v:Str} {f:Str × List Str} (h:f.2.length≤5):(held k v f).length≤5:=by
  unfold held
  split
  · show 1≤5; decide
  · rw [List.length_take]; omega
theorem in_toYes {k v st:Str} {f:Str × List Str} (hst:st="yes" ∨ st="no") {c:D} (hc:okV f c=true):(if inD c (.tuple (toYes k v st f))=true then ("yes":Str) else "no")=sideOf f k v st c:=by
  have e:inD c (.tuple (toYes k v st f))=(isAns (held k v f) c || ((if st="yes" then [PyData.none] else []).any fun z=>PyData.eqv z c)):=by
    show ((toYes k v st f).any fun z=>PyData.eqv z c)=_
    unfold toYes
    rw [List.any_append,any_strs]
  cases c with
  | none =>
    rw [e]
    rcases hst with rfl | rfl <;> rfl
  | str z =>
    have hz:z ∈ f.2:=of_decide_eq_true hc
    have e2:((if st="yes" then [PyData.none] else []).any fun x=>PyData.eqv x (.str z))=false:=by
      rcases hst with rfl | rfl <;> rfl
    rw [e,e2,Bool.or_false]
    exact held_side hz
  | _=>cases hc
theorem ok_toYes {k v st:Str} {f:Str × List Str} (hf:∀ y ∈ f.2,nmS y=true) (hv:v ∈ f.2) {d:D} (hd:Cd d):okIn d (.tuple (toYes k v st f)):=by
  unfold toYes
  split
  · exact ok_entries (fun y hy=>hf y (held_mem hv hy)) hd
  · rw [List.append_nil]; exact ok_strs (fun y hy=>hf y (held_mem hv hy)) hd
def onW (w:Str) (x:D):Bool:=match x with | .tuple [_,.str s]=>decide (s=w) | _=>false
def isAt (ss:List Str) (w:Str) (x:D):Bool:=match x with | .int i=>(match L2.atI ss i with | some s=>decide (s=w) | none=>false) | _=>false
def atS (ss:List Str) (x:D):D:=match x with | .int i=>(match L2.atI ss i with | some s=>.str s | none=>.none) | _=>.none
def fstT (x:D):D:=match x with | .tuple [a,_]=>a | _=>x
theorem enum_strs (ss:List Str):enumD (ss.map PyData.str)=(intsTo ss.length).map fun x=>.tuple [x,atS ss x]:=by
  apply List.ext_getElem?
  intro i
  cases h:ss[i]? with
  | none =>
    have hl:=List.getElem?_eq_none_iff.mp h
    rw [List.getElem?_eq_none (by rw [enumD_len,List.length_map]; exact hl),List.getElem?_eq_none (by rw [List.length_map,intsTo_len]; exact hl)]
  | some s =>
    have hl:=(List.getElem?_eq_some_iff.mp h).1
    rw [enumD_get (a:=.str s) (by rw [List.getElem?_map,h]; rfl),List.getElem?_map]
    unfold intsTo
    rw [List.getElem?_map,List.getElem?_range hl]
    show _=some (PyData.tuple [.int (i:Int),match L2.atI ss (i:Int) with | some s=>.str s | none=>.none])
    rw [L2.atI_nat h]
theorem enum_filter (ss:List Str) (w:Str):((enumD (ss.map PyData.str)).filter (onW w)).map fstT=(intsTo ss.length).filter (isAt ss w):=by
  rw [enum_strs,List.filter_map,List.map_map]
  have e1:(fstT ∘ fun x=>PyData.tuple [x,atS ss x])=id:=by funext x; rfl
  have e2:(onW w ∘ fun x=>PyData.tuple [x,atS ss x])=isAt ss w:=by
    funext x
    cases x with
    | int i =>
      show onW w (.tuple [.int i,(match L2.atI ss i with | some s=>PyData.str s | none=>.none)])=(match L2.atI ss i with | some s=>decide (s=w) | none=>false)
      cases L2.atI ss i <;> rfl
    | _=>rfl
  rw [e1,e2,List.map_id]
def sp_10:SpF:=fun ds Q=>∃ (w:Str) (ss:List Str),ds=[.str w,.list (ss.map PyData.str)]∧ss.length≤60∧Q ((intsTo ss.length).filter (isAt ss w))
theorem side_ix {fs:List (Str × List Str)} {k n v st:Str} {rs:List (List D × Str)} (w:Str):(intsTo (rs.map fun r=>sideS fs k n v st r.1).length).filter (isAt (rs.map fun r=>sideS fs k n v st r.1) w)=sideIx fs k n v st rs w:=by
  unfold sideIx
  rw [List.length_map]
  apply List.filter_congr
  intro x hx
  obtain ⟨j,hj⟩:=List.getElem?_of_mem hx
  obtain ⟨hjl,rfl⟩:=intsTo_get hj
  have hr:rs[j]?=some rs[j]:=List.getElem?_eq_getElem hjl
  rw [onSide_at hr]
  show (match L2.atI (rs.map fun r=>sideS fs k n v st r.1) (j:Int) with | some s=>decide (s=w) | none=>false)=_
  rw [L2.atI_nat (v:=sideS fs k n v st rs[j].1) (by rw [List.getElem?_map,hr]; rfl)]
def cntD (rs:List Rw) (x:D):D:=match x with | .str a=>.int ((cnt rs a:Nat):Int) | _=>.none
theorem told_count (rs:List Rw) (a:Str):((rs.map fun r=>PyData.str r.2).countP fun t=>PyData.eqv t (.str a))=cnt rs a:=by
  rw [List.countP_map]
  unfold cnt
  congr 1
theorem lay_strs:∀ {ys:List Str},(∀ y ∈ ys,nmS y=true)→PyData.canLayAll0 (ys.map PyData.str)=true∧PyData.depthAll (ys.map PyData.str)≤0:=fun h=>by
  obtain ⟨_,_,_,_,b5,b6⟩:=th_all (th_strs h (Nat.le_refl 8) (m:=0))
  exact ⟨b6,b5⟩
theorem lay_ints:∀ ns:List Int,PyData.canLayAll0 (ns.map PyData.int)=true∧PyData.depthAll (ns.map PyData.int)=0
  | []=>⟨rfl,rfl⟩
  | n::ns=>by
    have:=lay_ints ns
    refine ⟨?_,?_⟩
    · show (true && PyData.canLayAll0 (ns.map PyData.int))=true
      rw [this.1]; rfl
    · show max 0 (PyData.depthAll (ns.map PyData.int))=0
      rw [this.2]; rfl
theorem okIx_ints {ns:List Int} {m:Int} {j:Nat} (h:ns[j]?=some m) (hno:∀ i:Nat,i < j→ns[i]? ≠ some m):okIx (ns.map PyData.int) (.int m) j:=by
  obtain ⟨h1,h2⟩:=lay_ints ns
  refine ⟨h1,rfl,by rw [h2]; omega,⟨.int m,by rw [List.getElem?_map,h]; rfl,?_⟩,fun i t hi ht=>?_⟩
  · show (m == m)=true
    simp
  · rw [List.getElem?_map] at ht
    cases e:ns[i]? with
    | none=>rw [e] at ht; cases ht
    | some n =>
      rw [e] at ht
      cases ht
      show (n == m)=false
      have:n ≠ m:=fun z=>hno i hi (by rw [e,z])
      simpa using this
def sp_3:SpT:=fun ds Q=>∃ a b:Nat,ds=[.int a,.int b]∧Q (.int ((a.gcd b:Nat):Int))
def sndT (x:D):D:=match x with | .tuple [_,b]=>b | _=>x
def isSay:Tr→Bool
  | .say _=>true
  | .ask _ _ _ _ _ _=>false
def sp_12:SpT:=fun ds Q=>∃ t:Tr,ds=[trD t]∧Q (.bool (isSay t))
def wayD (fs:List (Str × List Str)):Tr→List D→List D
  | .say _,_=>[]
  | .ask k n v s y m,cs=>.tuple [.tuple [.str k,.str n,.str v],.str (sideS fs k n v s cs)]::(if sideS fs k n v s cs="yes" then wayD fs y cs else wayD fs m cs)
def sidesT (fs:List (Str × List Str)):Tr→List D→List Str
  | .say _,_=>[]
  | .ask k n v s y m,cs=>sideS fs k n v s cs::(if sideS fs k n v s cs="yes" then sidesT fs y cs else sidesT fs m cs)
def ansT (fs:List (Str × List Str)):Tr→List D→Str
  | .say a,_=>a
  | .ask k n v s y m,cs=>if sideS fs k n v s cs="yes" then ansT fs y cs else ansT fs m cs
def partT:Tr→List Str→Option Tr
  | t,[]=>some t
  | .say _,_::_=>none
  | .ask _ _ _ _ y m,s::r=>if s="yes" then partT y r else if s="no" then partT m r else none
theorem no_yes:¬ ("no":Str)="yes":=by decide +kernel
section
variable {fs:List (Str × List Str)} {an:List Str}
theorem side_yn (F:Form fs an) {k n v st:Str} {cs:List D} (hq:isQ fs (.tuple [.str k,.str n,.str v])=true) (hst:st="yes" ∨ st="no") (hc:isCase fs (.tuple cs)=true):sideS fs k n v st cs="yes" ∨ sideS fs k n v st cs="no":=by
  obtain ⟨f,hf,hfn,hv,hk⟩:=isQ_str hq
  obtain ⟨j,hj⟩:=List.getElem?_of_mem hf
  obtain ⟨hcl,hcv⟩:=case_get hc
  have hjl:=(List.getElem?_eq_some_iff.mp hj).1
  have hcj:cs[j]?=some cs[j]:=List.getElem?_eq_getElem (by omega)
  generalize cs[j]=c at hcj
  rw [sideS_at F hj hcj hfn]
  have hok:=hcv j f c hj hcj
  cases c with
  | none=>exact hst
  | str z =>
    show (if k="is" then (if z=v then ("yes":Str) else "no") else if f.2.idxOf z≤f.2.idxOf v then ("yes":Str) else "no")="yes" ∨ _
    by_cases h1:k="is"
    · by_cases h2:z=v
      · exact .inl (by rw [if_pos h1,if_pos h2])
      · exact .inr (by show (if k="is" then (if z=v then ("yes":Str) else "no") else if f.2.idxOf z≤f.2.idxOf v then ("yes":Str) else "no")="no"; rw [if_pos h1,if_neg h2])
    · by_cases h2:f.2.idxOf z≤f.2.idxOf v
      · exact .inl (by rw [if_neg h1,if_pos h2])
      · exact .inr (by show (if k="is" then (if z=v then ("yes":Str) else "no") else if f.2.idxOf z≤f.2.idxOf v then ("yes":Str) else "no")="no"; rw [if_neg h1,if_neg h2])
  | _=>cases hok
theorem way_sides:∀ (t:Tr) (cs:List D),(wayD fs t cs).map sndT=(sidesT fs t cs).map PyData.str
  | .say _,_=>rfl
  | .ask k n v s y m,cs=>by
    show (PyData.str (sideS fs k n v s cs))::(if sideS fs k n v s cs="yes" then wayD fs y cs else wayD fs m cs).map sndT=.str (sideS fs k n v s cs)::(if sideS fs k n v s cs="yes" then sidesT fs y cs else sidesT fs m cs).map PyData.str
    congr 1
    split
    · exact way_sides y cs
    · exact way_sides m cs
theorem way_pairs:∀ (t:Tr) (cs:List D),∀ x ∈ wayD fs t cs,∃ a b,x=.tuple [a,b]
  | .say _,_,x,h=>by cases h
  | .ask k n v s y m,cs,x,h=>by
    rcases List.mem_cons.mp h with rfl | h
    · exact ⟨_,_,rfl⟩
    · split at h
      · exact way_pairs y cs x h
      · exact way_pairs m cs x h
theorem way_len:∀ (t:Tr) (cs:List D),(wayD fs t cs).length≤t.dep
  | .say _,_=>Nat.le_refl _
  | .ask k n v s y m,cs=>by
    show (if sideS fs k n v s cs="yes" then wayD fs y cs else wayD fs m cs).length + 1≤max y.dep m.dep + 1
    have h1:=way_len y cs
    have h2:=way_len m cs
    split <;> omega
theorem part_sides (F:Form fs an) {cs:List D} (hc:isCase fs (.tuple cs)=true):∀ t:Tr,TrOk fs an t→partT t (sidesT fs t cs)=some (.say (ansT fs t cs))
  | .say a,_=>rfl
  | .ask k n v s y m,ht=>by
    obtain ⟨hq,hs,hy,hm⟩:=ht
    show (if sideS fs k n v s cs="yes" then partT y _ else if sideS fs k n v s cs="no" then partT m _ else none)=some (.say (if sideS fs k n v s cs="yes" then ansT fs y cs else ansT fs m cs))
    rcases side_yn F hq hs hc with e | e
    · rw [if_pos e,if_pos e,if_pos e]
      exact part_sides F hc y hy
    · have ne:¬ sideS fs k n v s cs="yes":=fun z=>no_yes (e.symm.trans z)
      rw [if_neg ne,if_pos e,if_neg ne,if_neg ne]
      exact part_sides F hc m hm
theorem part_yn:∀ {t p:Tr} {pl:List Str},partT t pl=some p→∀ s ∈ pl,s="yes" ∨ s="no"
  | t,p,[],h,x,hx=>by cases hx
  | .say a,p,s::r,h,x,hx=>by cases h
  | .ask k n v st y m,p,s::r,h,x,hx=>by
    have h':(if s="yes" then partT y r else if s="no" then partT m r else none)=some p:=h
    by_cases e1:s="yes"
    · rw [if_pos e1] at h'
      rcases List.mem_cons.mp hx with rfl | hx
      · exact .inl e1
      · exact part_yn h' x hx
    · rw [if_neg e1] at h'
      by_cases e2:s="no"
      · rw [if_pos e2] at h'
        rcases List.mem_cons.mp hx with rfl | hx
        · exact .inr e2
        · exact part_yn h' x hx
      · rw [if_neg e2] at h'; cases h'
end
def there (fs:List (Str × List Str)) (t:Tr) (rs:List (List D × Str)) (pl:List Str) (x:D):Bool:=match x with
  | .int i=>(match L2.atI rs i with | some r=>decide ((sidesT fs t r.1).take pl.length=pl) | none=>false)
  | _=>false
def sp_13:SpT:=fun ds Q=>∃ (k n v s:Str) (y m:Tr) (sd:Str),ds=[trD (.ask k n v s y m),.str sd]∧Q (trD (if sd="yes" then y else m))
def sp_15:SpF:=fun ds Q=>∃ (fs:List (Str × List Str)) (an:List Str) (t:Tr) (cs:List D),ds=[frmD fs an,trD t,.tuple cs]∧Form fs an∧TrOk fs an t∧isCase fs (.tuple cs)=true∧t.dep≤40∧Q (wayD fs t cs)
def sp_16:SpT:=fun ds Q=>∃ (fs:List (Str × List Str)) (an:List Str) (t:Tr) (cs:List D),ds=[frmD fs an,trD t,.tuple cs]∧Form fs an∧TrOk fs an t∧isCase fs (.tuple cs)=true∧t.dep≤40∧Q (.tuple ((sidesT fs t cs).map PyData.str))
def sp_17:SpT:=fun ds Q=>∃ (fs:List (Str × List Str)) (an:List Str) (t:Tr) (cs:List D),ds=[frmD fs an,trD t,.tuple cs]∧Form fs an∧TrOk fs an t∧isCase fs (.tuple cs)=true∧t.dep≤40∧Q (.str (ansT fs t cs))
def sp_18:SpT:=fun ds Q=>∃ (t p:Tr) (pl:List Str),ds=[trD t,.tuple (pl.map PyData.str)]∧partT t pl=some p∧t.dep≤40∧Q (trD p)
def sp_law:SpT:=fun ds Q=>∃ ns:List Int,ds=[.list (ns.map PyData.int)]∧ns.length≤63∧Q (.bool true)
section
variable {fs:List (Str × List Str)} {an:List Str} {t:Tr} {rs:List (List D × Str)} {pl:List Str}
end
theorem isQ_is {fs:List (Str × List Str)} {f:Str × List Str} {z:Str} (hf:f ∈ fs) (hz:z ∈ f.2):isQ fs (.tuple [.str "is",.str f.1,.str z])=true:=by
  refine isQ_mk hf ?_
  show (decide (z ∈ f.2) && (decide (("is":Str)="is") || _))=true
  rw [decide_eq_true hz]; rfl
theorem isQ_upto {fs:List (Str × List Str)} {f:Str × List Str} {z:Str} {j:Nat} (hf:f ∈ fs) (hz:f.2[j]?=some z) (hj:j + 1 < f.2.length):isQ fs (.tuple [.str "upto",.str f.1,.str z])=true:=by
  refine isQ_mk hf ?_
  have:=idx_le hz
  show (decide (z ∈ f.2) && (decide (("upto":Str)="is") || (decide (("upto":Str)="upto") && decide (f.2.idxOf z + 1 < f.2.length))))=true
  rw [decide_eq_true (List.mem_of_getElem? hz),decide_eq_true (rfl:("upto":Str)="upto"),decide_eq_true (show f.2.idxOf z + 1 < f.2.length by omega)]; simp
def sp_32:SpC:=fun _ n ds Q=>∃ (fs:List (Str × List Str)) (an:List Str),ds=[frmD fs an]∧Form fs an∧n < 800000000000∧∀ n' cs,n'≤n + 5→isCase fs (.tuple cs)=true→Q n' (.tuple cs)
def sp_33:SpC:=fun _ n ds Q=>∃ (fs:List (Str × List Str)) (an:List Str) (m:Nat),ds=[frmD fs an,.int m]∧Form fs an∧m≤60∧n < 700000000000∧∀ n' rs,n'≤n + 10 * m→RowsOk fs an rs→rs.length=m→Q n' (.list (rs.map rowD))
def sp_38:SpC:=fun _ n ds Q=>∃ m:Nat,ds=[.int m]∧3≤m∧m≤60∧n < 600000000000∧∀ n' fs an rs,n'≤n + 1000→Form fs an→RowsOk fs an rs→rs.length≤60→Q n' (.tuple [frmD fs an,.list (rs.map rowD)])
def tCost:Nat→Nat
  | 0=>6
  | k + 1=>6 + 2 * tCost k
def sp_39_lt (d:Nat):SpC:=fun _ n ds Q=>∃ (fs:List (Str × List Str)) (an:List Str) (k:Nat),ds=[frmD fs an,.int k]∧Form fs an∧k < d∧n + tCost k < 600000000000∧∀ n' t,n'≤n + tCost k→TrOk fs an t→t.dep≤k→Q n' (trD t)
def sp_39:SpC:=sp_39_lt 6
theorem never_39 {τ:D} {n:Nat} {ds:List D} {Q:Nat→D→Prop} (h:sp_39_lt 0 τ n ds Q):False:=by
  obtain ⟨_,_,_,_,_,h,_⟩:=h
  omega
def sp_14_lt (n:Nat):SpT:=fun ds Q=>∃ t:Tr,ds=[trD t]∧t.kn≤600∧t.dep < n∧Q (.int t.kn)
def sp_14:SpT:=sp_14_lt 41
theorem never_14 {ds:List D} {Q:D→Prop} (h:sp_14_lt 0 ds Q):False:=by
  obtain ⟨_,_,_,h,_⟩:=h
  omega
def slipN (fs:List (Str × List Str)) (t:Tr) (rs:List (List D × Str)):Nat:=(rs.filter fun r=>!decide (ansT fs t r.1=r.2)).length
def onY (fs:List (Str × List Str)) (k n v st:Str) (r:List D × Str):Bool:=decide (sideS fs k n v st r.1="yes")
theorem slip_ask {fs:List (Str × List Str)} (k n v s:Str) (y m:Tr):∀ rs:List (List D × Str),slipN fs (.ask k n v s y m) rs=slipN fs y (rs.filter (onY fs k n v s)) + slipN fs m (rs.filter fun r=>!onY fs k n v s r)
  | []=>rfl
  | r::rs=>by
    have ih:=slip_ask (fs:=fs) k n v s y m rs
    have e:ansT fs (.ask k n v s y m) r.1=if sideS fs k n v s r.1="yes" then ansT fs y r.1 else ansT fs m r.1:=rfl
    unfold slipN at ih ⊢
    by_cases hy:sideS fs k n v s r.1="yes"
    · have h1:onY fs k n v s r=true:=decide_eq_true hy
      rw [List.filter_cons (p:=onY fs k n v s),if_pos h1,List.filter_cons (p:=fun r=>!onY fs k n v s r),if_neg (by rw [h1]; decide)]
      rw [if_pos hy] at e
      by_cases ha:ansT fs y r.1=r.2
      · rw [List.filter_cons,if_neg (by rw [e]; simp [ha]),List.filter_cons (x:=r),if_neg (by simp [ha])]
        exact ih
      · rw [List.filter_cons,if_pos (by rw [e]; simp [ha]),List.filter_cons (x:=r),if_pos (by simp [ha]),List.length_cons,List.length_cons,ih]
        omega
    · have h1:onY fs k n v s r=false:=decide_eq_false hy
      rw [List.filter_cons (p:=onY fs k n v s),if_neg (by rw [h1]; decide),List.filter_cons (p:=fun r=>!onY fs k n v s r),if_pos (by rw [h1]; rfl)]
      rw [if_neg hy] at e
      by_cases ha:ansT fs m r.1=r.2
      · rw [List.filter_cons,if_neg (by rw [e]; simp [ha]),List.filter_cons (x:=r),if_neg (by simp [ha])]
        exact ih
      · rw [List.filter_cons,if_pos (by rw [e]; simp [ha]),List.filter_cons (x:=r),if_pos (by simp [ha]),List.length_cons,List.length_cons,ih]
        omega
def sp_19:SpT:=fun ds Q=>∃ (fs:List (Str × List Str)) (an:List Str) (t:Tr) (rs:List (List D × Str)) (a b:Int),ds=[frmD fs an,trD t,.list (rs.map rowD),.tuple [.int a,.int b]]∧Form fs an∧TrOk fs an t∧t.dep≤40∧t.kn≤600∧RowsOk fs an rs∧rs.length≤60∧0≤a∧a≤1000000000∧0≤b∧b≤1000000000∧Q (.int (a * (slipN fs t rs:Nat) + b * (t.kn:Nat)))
def sp_35:SpT:=fun ds Q=>∃ (fs:List (Str × List Str)) (an:List Str) (k n v st:Str) (rs:List (List D × Str)),ds=[frmD fs an,.tuple [.str k,.str n,.str v],.str st,.list (rs.map rowD)]∧Form fs an∧isQ fs (.tuple [.str k,.str n,.str v])=true∧(st="yes" ∨ st="no")∧RowsOk fs an rs∧rs.length≤60∧Q (.tuple [.list ((rs.filter (onY fs k n v st)).map rowD),.list ((rs.filter fun r=>!onY fs k n v st r).map rowD)])
def sp_40_lt (n:Nat):SpT:=sp_14_lt n
def sp_40:SpT:=sp_40_lt 13
theorem never_40 {ds:List D} {Q:D→Prop} (h:sp_40_lt 0 ds Q):False:=never_14 h
theorem RowsOk.filt {fs:List (Str × List Str)} {an:List Str} {rs:List (List D × Str)} (h:RowsOk fs an rs) (p:List D × Str→Bool):RowsOk fs an (rs.filter p):=fun r hr=>h r (List.mem_filter.mp hr).1
def FA (fs:List (Str × List Str)) (an:List Str) (fa:List (List D × Str)→Str):Prop:=∀ rs,RowsOk fs an rs→First an rs (fa rs)
theorem First.uniq {an:List Str} {rs:List (List D × Str)} {a b:Str} (h:First an rs a) (g:First an rs b):a=b:=by
  obtain ⟨i,h1,h2,h3⟩:=h
  obtain ⟨j,g1,g2,g3⟩:=g
  have e1:=h2 j b g1
  have e2:=g2 i a h1
  rcases Nat.lt_trichotomy i j with z | z | z
  · have:=g3 i a z h1; omega
  · subst z
    rw [h1] at g1
    exact Option.some.inj g1
  · have:=h3 j b z g1; omega
def rowNo (rs:List (List D × Str)) (x:D):D:=match x with | .int i=>(match L2.atI rs i with | some r=>rowD r | none=>.none) | _=>.none
theorem atI_app {rs:List (List D × Str)} {r:List D × Str} {i:Nat} (h:i < rs.length):L2.atI (rs++[r]) (i:Int)=L2.atI rs (i:Int):=by
  rw [L2.atI_nat (List.getElem?_eq_getElem h),L2.atI_nat (xs:=rs++[r]) (v:=rs[i]) (by rw [List.getElem?_append_left h]; exact List.getElem?_eq_getElem h)]
theorem ix_rows (fs:List (Str × List Str)) (k n v st w:Str):∀ (m:Nat) (rs:List (List D × Str)),rs.length=m→(sideIx fs k n v st rs w).map (rowNo rs)=(rs.filter fun r=>decide (sideS fs k n v st r.1=w)).map rowD
  | 0,rs,h=>by rw [List.length_eq_zero_iff.mp h]; rfl
  | m + 1,rs,h=>by
    obtain ⟨xs,r,rfl⟩:∃ xs r,rs=xs++[r]:=⟨rs.dropLast,rs.getLast (fun e=>by rw [e] at h; cases h),(List.dropLast_concat_getLast _).symm⟩
    have hl:xs.length=m:=by rw [List.length_append] at h; simpa using h
    have ih:=ix_rows fs k n v st w m xs hl
    unfold sideIx at ih ⊢
    have e1:intsTo (xs++[r]).length=intsTo xs.length++[.int (xs.length:Int)]:=by
      unfold intsTo
      rw [List.length_append,List.length_singleton,List.range_succ,List.map_append]; rfl
    have hat:L2.atI (xs++[r]) (xs.length:Int)=some r:=L2.atI_nat (by rw [List.getElem?_append_right (Nat.le_refl _),Nat.sub_self]; rfl)
    have e2:(intsTo xs.length).filter (onSide fs k n v st (xs++[r]) w)=(intsTo xs.length).filter (onSide fs k n v st xs w):=List.filter_congr fun x hx=>by
      obtain ⟨j,hj,rfl⟩:=List.mem_map.mp hx
      show (match L2.atI (xs++[r]) (j:Int) with | some r=>decide (sideS fs k n v st r.1=w) | none=>false)=match L2.atI xs (j:Int) with | some r=>decide (sideS fs k n v st r.1=w) | none=>false
      rw [atI_app (by simpa using hj)]
    have e3:((intsTo xs.length).filter (onSide fs k n v st xs w)).map (rowNo (xs++[r]))=((intsTo xs.length).filter (onSide fs k n v st xs w)).map (rowNo xs):=List.map_congr_left fun x hx=>by
      obtain ⟨j,hj,rfl⟩:=List.mem_map.mp (List.mem_filter.mp hx).1
      show (match L2.atI (xs++[r]) (j:Int) with | some r=>rowD r | none=>.none)=match L2.atI xs (j:Int) with | some r=>rowD r | none=>.none
      rw [atI_app (by simpa using hj)]
    have ho:onSide fs k n v st (xs++[r]) w (.int (xs.length:Int))=decide (sideS fs k n v st r.1=w):=by
      show (match L2.atI (xs++[r]) (xs.length:Int) with | some r=>decide (sideS fs k n v st r.1=w) | none=>false)=_
      rw [hat]
    have hr:rowNo (xs++[r]) (.int (xs.length:Int))=rowD r:=by
      show (match L2.atI (xs++[r]) (xs.length:Int) with | some r=>rowD r | none=>.none)=_
      rw [hat]
    rw [e1,List.filter_append,List.map_append,e2,e3,ih,List.filter_append,List.map_append]
    congr 1
    by_cases hs:sideS fs k n v st r.1=w
    · rw [List.filter_cons,if_pos (by rw [ho]; exact decide_eq_true hs),List.filter_cons,if_pos (decide_eq_true hs)]
      show [rowNo (xs++[r]) (.int (xs.length:Int))]=[rowD r]
      rw [hr]
    · rw [List.filter_cons,if_neg (by rw [ho,decide_eq_false hs]; decide),List.filter_cons,if_neg (by rw [decide_eq_false hs]; decide)]
      rfl
def sp_11:SpT:=fun ds Q=>∃ (fs:List (Str × List Str)) (k n v st w:Str) (rs:List (List D × Str)),ds=[.list (rs.map rowD),.list (sideIx fs k n v st rs w)]∧rs.length≤60∧Q (.list ((rs.filter fun r=>decide (sideS fs k n v st r.1=w)).map rowD))
def sp_20:SpT:=fun ds Q=>∃ (fs:List (Str × List Str)) (an:List Str) (fa:List (List D × Str)→Str) (rs:List (List D × Str)),ds=[frmD fs an,.list (rs.map rowD)]∧Form fs an∧FA fs an fa∧RowsOk fs an rs∧rs.length≤60∧Q (trD (.say (fa rs)))
def sp_21:SpT:=fun ds Q=>∃ (fs:List (Str × List Str)) (an:List Str) (k n v s:Str) (y m:Tr) (rs:List (List D × Str)),ds=[frmD fs an,trD (.ask k n v s y m),.list (rs.map rowD)]∧Form fs an∧isQ fs (.tuple [.str k,.str n,.str v])=true∧(s="yes" ∨ s="no")∧RowsOk fs an rs∧rs.length≤60∧Q (.list [.list ((rs.filter (onY fs k n v s)).map rowD),.list ((rs.filter fun r=>!onY fs k n v s r).map rowD)])
theorem no_side {fs:List (Str × List Str)} {an:List Str} (F:Form fs an) {k n v st:Str} (hq:isQ fs (.tuple [.str k,.str n,.str v])=true) (hst:st="yes" ∨ st="no") {rs:List (List D × Str)} (hrs:RowsOk fs an rs):(rs.filter fun r=>decide (sideS fs k n v st r.1="no"))=rs.filter fun r=>!onY fs k n v st r:=List.filter_congr fun r hr=>by
  unfold onY
  rcases side_yn F hq hst (hrs r hr).1 with e | e
  · rw [e]; decide +kernel
  · rw [e]; decide +kernel
def sp_36:SpT:=fun ds Q=>∃ (fs:List (Str × List Str)) (an:List Str) (rs:List (List D × Str)),ds=[frmD fs an,.list (rs.map rowD)]∧Form fs an∧RowsOk fs an rs∧rs.length≤60∧Q (.list ((cnts an rs).map PyData.int))
def sp_37:SpT:=sp_1
theorem cut3 (a b c d e:D):cutD [a,b,c,d,e] none (some 3)=[a,b,c]:=cut_ns [a,b,c,d,e] 3
theorem first_ex {an:List Str} (h:0 < an.length) (rs:List (List D × Str)):∃ a,First an rs a:=by
  have key:∀ (l:List Str),0 < l.length→∃ k a,l[k]?=some a∧(∀ (j:Nat) b,l[j]?=some b→cnt rs b≤cnt rs a)∧∀ (j:Nat) b,j < k→l[j]?=some b→cnt rs b < cnt rs a:=fun l=>by
    induction l with
    | nil=>intro h; exact absurd h (by decide)
    | cons x l ih =>
      intro _
      cases l with
      | nil=>exact ⟨0,x,rfl,fun j b hb=>by
          cases j with
          | zero=>cases hb; exact Nat.le_refl _
          | succ j=>simp at hb,fun j b hj _=>absurd hj (Nat.not_lt_zero _)⟩
      | cons y l =>
        obtain ⟨k,a,h1,h2,h3⟩:=ih (by simp)
        by_cases hx:cnt rs a≤cnt rs x
        · refine ⟨0,x,rfl,fun j b hb=>?_,fun j b hj _=>absurd hj (Nat.not_lt_zero _)⟩
          cases j with
          | zero=>cases hb; exact Nat.le_refl _
          | succ j=>exact Nat.le_trans (h2 j b (by simpa using hb)) hx
        · refine ⟨k + 1,a,by simpa using h1,fun j b hb=>?_,fun j b hj hb=>?_⟩
          · cases j with
            | zero=>cases hb; omega
            | succ j=>exact h2 j b (by simpa using hb)
          · cases j with
            | zero=>cases hb; omega
            | succ j=>exact h3 j b (by omega) (by simpa using hb)
  obtain ⟨k,a,h1,h2,h3⟩:=key an h
  exact ⟨a,k,h1,h2,h3⟩
theorem fa_ex {fs:List (Str × List Str)} {an:List Str} (F:Form fs an):∃ fa,FA fs an fa :=
  ⟨fun rs=>(first_ex (an:=an) (by have:=F.a2; omega) rs).choose,fun rs _=>(first_ex (an:=an) (by have:=F.a2; omega) rs).choose_spec⟩

def mkP (k n v s:Str) (p q:Tr × Nat × Nat):Tr × Nat × Nat:=(.ask k n v s p.1 q.1,p.2.1 + q.2.1,1 + p.2.2 + q.2.2)
def pru (fs:List (Str × List Str)) (fa:List (List D × Str)→Str):Tr→List (List D × Str)→List (Tr × Nat × Nat)
  | .say a,rs=>[(.say a,slipN fs (.say a) rs,0)]
  | .ask k n v s y m,rs=>(.say (fa rs),slipN fs (.say (fa rs)) rs,0)::(pru fs fa y (rs.filter (onY fs k n v s))).flatMap fun p=>(pru fs fa m (rs.filter fun r=>!onY fs k n v s r)).map (mkP k n v s p)
def pruD (p:Tr × Nat × Nat):D:=.tuple [trD p.1,.int (p.2.1:Nat),.int (p.2.2:Nat)]
def lw (fs:List (Str × List Str)) (fa:List (List D × Str)→Str) (a b:Int):Tr→List (List D × Str)→Int × Tr
  | .say x,rs=>(a * (slipN fs (.say x) rs:Nat),.say x)
  | .ask k n v s y m,rs =>
    if a * (slipN fs (.say (fa rs)) rs:Nat)≤b + (lw fs fa a b y (rs.filter (onY fs k n v s))).1 + (lw fs fa a b m (rs.filter fun r=>!onY fs k n v s r)).1 then (a * (slipN fs (.say (fa rs)) rs:Nat),.say (fa rs))
    else (b + (lw fs fa a b y (rs.filter (onY fs k n v s))).1 + (lw fs fa a b m (rs.filter fun r=>!onY fs k n v s r)).1,.ask k n v s (lw fs fa a b y (rs.filter (onY fs k n v s))).2 (lw fs fa a b m (rs.filter fun r=>!onY fs k n v s r)).2)
def cP (a b:Int) (p:Tr × Nat × Nat):Int:=(p.2.1:Int) * a + (p.2.2:Int) * b
def ltP (a b:Int) (p q:Tr × Nat × Nat):Prop:=cP a b p < cP a b q ∨ cP a b p=cP a b q∧p.2.2 < q.2.2
theorem cP_mk (a b:Int) (k n v s:Str) (p q:Tr × Nat × Nat):cP a b (mkP k n v s p q)=b + cP a b p + cP a b q:=by
  unfold cP
  show ((p.2.1 + q.2.1:Nat):Int) * a + ((1 + p.2.2 + q.2.2:Nat):Int) * b=_
  rw [Int.natCast_add,Int.natCast_add,Int.natCast_add,Int.add_mul,Int.add_mul,Int.add_mul]
  show (p.2.1:Int) * a + q.2.1 * a + (1 * b + p.2.2 * b + q.2.2 * b)=_
  rw [Int.one_mul]
  omega
theorem ltP_tr {a b:Int} {p q r:Tr × Nat × Nat} (h1:ltP a b p q) (h2:ltP a b q r):ltP a b p r:=by
  unfold ltP at *
  omega
theorem least_at (fs:List (Str × List Str)) (fa:List (List D × Str)→Str) (a b:Int):∀ (t:Tr) (rs:List (List D × Str)),∃ l1 x l2,pru fs fa t rs=l1++x::l2∧x.1=(lw fs fa a b t rs).2∧cP a b x=(lw fs fa a b t rs).1∧∀ q ∈ l1++l2,ltP a b x q
  | .say z,rs=>⟨[],_,[],rfl,rfl,by
      show (slipN fs (.say z) rs:Int) * a + 0 * b=a * _
      rw [Int.zero_mul,Int.add_zero,Int.mul_comm],fun q hq=>by simp at hq⟩
  | .ask k n v s y m,rs=>by
    obtain ⟨l1,x1,l2,e1,t1,c1,h1⟩:=least_at fs fa a b y (rs.filter (onY fs k n v s))
    obtain ⟨m1,x2,m2,e2,t2,c2,h2⟩:=least_at fs fa a b m (rs.filter fun r=>!onY fs k n v s r)
    have ep:pru fs fa (.ask k n v s y m) rs=(.say (fa rs),slipN fs (.say (fa rs)) rs,0)::(l1++x1::l2).flatMap fun p=>(m1++x2::m2).map (mkP k n v s p):=by rw [← e1,← e2]; rfl
    have el:lw fs fa a b (.ask k n v s y m) rs=if a * (slipN fs (.say (fa rs)) rs:Nat)≤b + cP a b x1 + cP a b x2 then (a * (slipN fs (.say (fa rs)) rs:Nat),.say (fa rs)) else (b + cP a b x1 + cP a b x2,.ask k n v s x1.1 x2.1):=by rw [t1,t2,c1,c2]; rfl
    have cl:cP a b (Tr.say (fa rs),slipN fs (.say (fa rs)) rs,0)=a * (slipN fs (.say (fa rs)) rs:Nat):=by
      show (slipN fs (.say (fa rs)) rs:Int) * a + 0 * b=a * _
      rw [Int.zero_mul,Int.add_zero,Int.mul_comm]
    have cX:=cP_mk a b k n v s x1 x2
    have es:(l1++x1::l2).flatMap (fun p=>(m1++x2::m2).map (mkP k n v s p))=(l1.flatMap (fun p=>(m1++x2::m2).map (mkP k n v s p))++m1.map (mkP k n v s x1))++mkP k n v s x1 x2::(m2.map (mkP k n v s x1)++l2.flatMap (fun p=>(m1++x2::m2).map (mkP k n v s p))):=by
      rw [List.flatMap_append,List.flatMap_cons,List.map_append,List.map_cons]
      simp only [List.append_assoc,List.cons_append]
    have both:∀ p ∈ l1++l2,∀ q ∈ m1++x2::m2,ltP a b (mkP k n v s x1 x2) (mkP k n v s p q):=fun p hp q hq=>by
      have g1:=h1 p hp
      have cq:=cP_mk a b k n v s p q
      have kX:(mkP k n v s x1 x2).2.2=1 + x1.2.2 + x2.2.2:=rfl
      have kq:(mkP k n v s p q).2.2=1 + p.2.2 + q.2.2:=rfl
      have g2:q=x2 ∨ ltP a b x2 q:=by
        rcases List.mem_append.mp hq with h | h
        · exact .inr (h2 q (List.mem_append_left _ h))
        · rcases List.mem_cons.mp h with h | h
          · exact .inl h
          · exact .inr (h2 q (List.mem_append_right _ h))
      unfold ltP at *
      rw [cX,cq,kX,kq]
      rcases g2 with rfl | g2 <;> omega
    have one:∀ q ∈ m1++m2,ltP a b (mkP k n v s x1 x2) (mkP k n v s x1 q):=fun q hq=>by
      have g1:=h2 q hq
      have cq:=cP_mk a b k n v s x1 q
      have kX:(mkP k n v s x1 x2).2.2=1 + x1.2.2 + x2.2.2:=rfl
      have kq:(mkP k n v s x1 q).2.2=1 + x1.2.2 + q.2.2:=rfl
      unfold ltP at *
      rw [cX,cq,kX,kq]
      omega
    have hprod:∀ l:List (Tr × Nat × Nat),(∀ p ∈ l,p ∈ l1++l2)→∀ q ∈ l.flatMap (fun p=>(m1++x2::m2).map (mkP k n v s p)),ltP a b (mkP k n v s x1 x2) q:=fun l hl q hq=>by
      obtain ⟨p,hp,hq⟩:=List.mem_flatMap.mp hq
      obtain ⟨r,hr,rfl⟩:=List.mem_map.mp hq
      exact both p (hl p hp) r hr
    have hA:∀ q ∈ (l1.flatMap (fun p=>(m1++x2::m2).map (mkP k n v s p))++m1.map (mkP k n v s x1)),ltP a b (mkP k n v s x1 x2) q:=fun q hq=>by
      rcases List.mem_append.mp hq with h | h
      · exact hprod l1 (fun p hp=>List.mem_append_left _ hp) q h
      · obtain ⟨r,hr,rfl⟩:=List.mem_map.mp h
        exact one r (List.mem_append_left _ hr)
    have hB:∀ q ∈ (m2.map (mkP k n v s x1)++l2.flatMap (fun p=>(m1++x2::m2).map (mkP k n v s p))),ltP a b (mkP k n v s x1 x2) q:=fun q hq=>by
      rcases List.mem_append.mp hq with h | h
      · obtain ⟨r,hr,rfl⟩:=List.mem_map.mp h
        exact one r (List.mem_append_right _ hr)
      · exact hprod l2 (fun p hp=>List.mem_append_right _ hp) q h
    rw [ep,es,el]
    generalize (l1.flatMap (fun p=>(m1++x2::m2).map (mkP k n v s p))++m1.map (mkP k n v s x1))=A at hA
    generalize (m2.map (mkP k n v s x1)++l2.flatMap (fun p=>(m1++x2::m2).map (mkP k n v s p)))=B at hB
    by_cases hle:a * (slipN fs (.say (fa rs)) rs:Nat)≤b + cP a b x1 + cP a b x2
    · rw [if_pos hle]
      have hX:ltP a b (Tr.say (fa rs),slipN fs (.say (fa rs)) rs,0) (mkP k n v s x1 x2):=by
        have kX:(mkP k n v s x1 x2).2.2=1 + x1.2.2 + x2.2.2:=rfl
        unfold ltP
        rw [cX,cl,kX]
        show _ ∨ _∧0 < _
        omega
      refine ⟨[],_,_,rfl,rfl,cl,fun q hq=>?_⟩
      rcases List.mem_append.mp hq with h | h
      · simp at h
      · rcases List.mem_append.mp h with h | h
        · exact ltP_tr hX (hA q h)
        · rcases List.mem_cons.mp h with rfl | h
          · exact hX
          · exact ltP_tr hX (hB q h)
    · rw [if_neg hle]
      refine ⟨(.say (fa rs),slipN fs (.say (fa rs)) rs,0)::A,_,B,rfl,rfl,cX,fun q hq=>?_⟩
      rcases List.mem_append.mp hq with h | h
      · rcases List.mem_cons.mp h with rfl | h
        · left
          rw [cX,cl]
          omega
        · exact hA q h
      · exact hB q h
theorem len_prod {α β:Type} (g:α→List β) (n:Nat) (h:∀ x,(g x).length=n):∀ l:List α,(l.flatMap g).length=l.length * n
  | []=>by simp
  | x::l=>by rw [List.flatMap_cons,List.length_append,h,len_prod g n h l,List.length_cons,Nat.add_mul]; omega
def pB:Nat→Nat
  | 0=>1
  | d + 1=>1 + pB d * pB d
theorem lw_ok {fs:List (Str × List Str)} {an:List Str} {fa:List (List D × Str)→Str} (hfa:FA fs an fa) (a b:Int):∀ (t:Tr) (rs:List (List D × Str)),TrOk fs an t→RowsOk fs an rs→TrOk fs an (lw fs fa a b t rs).2∧(lw fs fa a b t rs).2.dep≤t.dep
  | .say z,rs,h,_=>⟨h,Nat.le_refl _⟩
  | .ask k n v s y m,rs,h,hrs=>by
    obtain ⟨hq,hs,hy,hm⟩:=h
    obtain ⟨o1,d1⟩:=lw_ok hfa a b y (rs.filter (onY fs k n v s)) hy (hrs.filt _)
    obtain ⟨o2,d2⟩:=lw_ok hfa a b m (rs.filter fun r=>!onY fs k n v s r) hm (hrs.filt _)
    unfold lw
    split
    · obtain ⟨i,hi,_⟩:=hfa rs hrs
      exact ⟨List.mem_of_getElem? hi,Nat.zero_le _⟩
    · exact ⟨⟨hq,hs,o1,o2⟩,by show max _ _ + 1≤max y.dep m.dep + 1; omega⟩
theorem th_int {i:Int} (h0:-999999999999≤i) (h1:i≤999999999999) {m:Nat}:Th 0 m (.int i):=by
  have hz:i.natAbs < 10 ^ 12:=by omega
  refine ⟨Nat.le_refl _,?_,?_,rfl,Nat.zero_le _,rfl⟩
  · have:=PyData.shown_int_le hz
    show decide ((PyData.shown (.int i)).length≤110)=true
    exact decide_eq_true (by omega)
  · show decide (i.natAbs.log2 < 1920)=true
    refine decide_eq_true ?_
    by_cases e:i.natAbs=0
    · rw [e]; decide
    · refine (Nat.log2_lt e).mpr (Nat.lt_of_lt_of_le hz ?_)
      exact Nat.le_trans (show 10 ^ 12≤2 ^ 40 by decide) (Nat.pow_le_pow_right (Nat.le_of_ble_eq_true rfl) (Nat.le_of_ble_eq_true rfl))
theorem th_nat {n:Nat} (h:n≤999999999999) {m:Nat}:Th 0 m (.int (n:Nat)):=th_int (by omega) (by omega)
def rkI (a b:Int) (p:Tr × Nat × Nat):List Int:=[cP a b p,(p.2.2:Int)]
theorem lex2 (a b c d:Int):HT.lexLt [a,b] [c,d]=decide (a < c ∨ a=c∧b < d):=by
  rw [HT.lexLt_cons,HT.lexLt_cons,HT.lexLt_nil_nil]
  by_cases e:a=c
  · rw [if_pos e]
    by_cases f:b=d
    · rw [if_pos f]; exact (decide_eq_false (by omega)).symm
    · rw [if_neg f,decide_eq_decide]; omega
  · rw [if_neg e,decide_eq_decide]; omega
theorem rk_eqv (a b:Int) (p q:Tr × Nat × Nat) (h:ltP a b p q):PyData.eqv (tupI (rkI a b q)) (tupI (rkI a b p))=false:=by
  show ((cP a b q == cP a b p) && (((q.2.2:Int) == (p.2.2:Int)) && true))=false
  unfold ltP at h
  rw [Bool.and_true,Bool.eq_false_iff]
  intro z
  rw [Bool.and_eq_true,beq_iff_eq,beq_iff_eq] at z
  omega
section
variable {fs:List (Str × List Str)} {fa:List (List D × Str)→Str}
theorem lw_ask (a b:Int) (k n v s:Str) (y m:Tr) (rs:List (List D × Str)):lw fs fa a b (.ask k n v s y m) rs=if a * (slipN fs (.say (fa rs)) rs:Nat)≤b + (lw fs fa a b y (rs.filter (onY fs k n v s))).1 + (lw fs fa a b m (rs.filter fun r=>!onY fs k n v s r)).1 then (a * (slipN fs (.say (fa rs)) rs:Nat),.say (fa rs)) else (b + (lw fs fa a b y (rs.filter (onY fs k n v s))).1 + (lw fs fa a b m (rs.filter fun r=>!onY fs k n v s r)).1,.ask k n v s (lw fs fa a b y (rs.filter (onY fs k n v s))).2 (lw fs fa a b m (rs.filter fun r=>!onY fs k n v s r)).2):=rfl
theorem cost_ask (a b:Int) (k n v s:Str) (y m:Tr) (rs:List (List D × Str)):a * (slipN fs (.ask k n v s y m) rs:Nat) + b * ((Tr.ask k n v s y m).kn:Nat)=b + (a * (slipN fs y (rs.filter (onY fs k n v s)):Nat) + b * (y.kn:Nat)) + (a * (slipN fs m (rs.filter fun r=>!onY fs k n v s r):Nat) + b * (m.kn:Nat)):=by
  rw [slip_ask]
  show a * ((_ + _:Nat):Int) + b * ((y.kn + m.kn + 1:Nat):Int)=_
  rw [Int.natCast_add,Int.natCast_add,Int.natCast_add,Int.mul_add,Int.mul_add,Int.mul_add]
  show _ + (_ + b * 1)=_
  rw [Int.mul_one]
  omega
theorem cost_say (a b:Int) (z:Str) (rs:List (List D × Str)):a * (slipN fs (.say z) rs:Nat) + b * ((Tr.say z).kn:Nat)=a * (slipN fs (.say z) rs:Nat):=by
  show _ + b * 0=_
  rw [Int.mul_zero,Int.add_zero]
theorem lw_val (a b:Int):∀ (t:Tr) (rs:List (List D × Str)),(lw fs fa a b t rs).1=a * (slipN fs (lw fs fa a b t rs).2 rs:Nat) + b * ((lw fs fa a b t rs).2.kn:Nat)
  | .say z,rs=>(cost_say a b z rs).symm
  | .ask k n v s y m,rs=>by
    have iy:=lw_val a b y (rs.filter (onY fs k n v s))
    have im:=lw_val a b m (rs.filter fun r=>!onY fs k n v s r)
    rw [lw_ask]
    split
    · exact (cost_say a b _ rs).symm
    · show b + _ + _=_
      rw [cost_ask,← iy,← im]
theorem lw_mono (a:Int) {b b':Int} (h:b≤b'):∀ (t:Tr) (rs:List (List D × Str)),(lw fs fa a b t rs).1≤(lw fs fa a b' t rs).1
  | .say z,rs=>Int.le_refl _
  | .ask k n v s y m,rs=>by
    have iy:=lw_mono a h y (rs.filter (onY fs k n v s))
    have im:=lw_mono a h m (rs.filter fun r=>!onY fs k n v s r)
    rw [lw_ask,lw_ask]
    split
    · split
      · exact Int.le_refl _
      · dsimp only; omega
    · split
      · dsimp only; omega
      · dsimp only; omega
theorem lw_nest (a:Int) {b b':Int} (h:b≤b'):∀ (t:Tr) (rs:List (List D × Str)),lw fs fa a b' (lw fs fa a b t rs).2 rs=lw fs fa a b' t rs
  | .say z,rs=>rfl
  | .ask k n v s y m,rs=>by
    have iy:=lw_nest a h y (rs.filter (onY fs k n v s))
    have im:=lw_nest a h m (rs.filter fun r=>!onY fs k n v s r)
    have my:=lw_mono (fs:=fs) (fa:=fa) a h y (rs.filter (onY fs k n v s))
    have mm:=lw_mono (fs:=fs) (fa:=fa) a h m (rs.filter fun r=>!onY fs k n v s r)
    rw [lw_ask a b]
    split
    · rw [lw_ask,if_pos (by omega)]; rfl
    · show lw fs fa a b' (.ask k n v s _ _) rs=_
      rw [lw_ask,lw_ask,iy,im]
theorem lw_scale (a b:Int) {c:Int} (hc:0 < c):∀ (t:Tr) (rs:List (List D × Str)),lw fs fa (c * a) (c * b) t rs=(c * (lw fs fa a b t rs).1,(lw fs fa a b t rs).2)
  | .say z,rs=>by
    show (c * a * _,_)=(c * (a * _),_)
    rw [Int.mul_assoc]; rfl
  | .ask k n v s y m,rs=>by
    have iy:=lw_scale a b hc y (rs.filter (onY fs k n v s))
    have im:=lw_scale a b hc m (rs.filter fun r=>!onY fs k n v s r)
    rw [lw_ask,lw_ask,iy,im]
    dsimp only
    rw [← Int.mul_add,← Int.mul_add,Int.mul_assoc]
    by_cases hle:a * (slipN fs (.say (fa rs)) rs:Nat)≤b + (lw fs fa a b y (rs.filter (onY fs k n v s))).1 + (lw fs fa a b m (rs.filter fun r=>!onY fs k n v s r)).1
    · rw [if_pos hle,if_pos (Int.mul_le_mul_of_nonneg_left hle (by omega))]
    · rw [if_neg hle,if_neg (fun z=>hle (Int.le_of_mul_le_mul_left z hc))]
def St (fs:List (Str × List Str)) (fa:List (List D × Str)→Str) (a b:Int):Tr→List (List D × Str)→Prop
  | .say _,_=>True
  | .ask k n v s y m,rs=>b * ((Tr.ask k n v s y m).kn:Nat) + a * (slipN fs (.ask k n v s y m) rs:Nat) < a * (slipN fs (.say (fa rs)) rs:Nat)∧St fs fa a b y (rs.filter (onY fs k n v s))∧St fs fa a b m (rs.filter fun r=>!onY fs k n v s r)
theorem st_lw (a b:Int):∀ (t:Tr) (rs:List (List D × Str)),St fs fa a b (lw fs fa a b t rs).2 rs
  | .say z,rs=>trivial
  | .ask k n v s y m,rs=>by
    have iy:=st_lw a b y (rs.filter (onY fs k n v s))
    have im:=st_lw a b m (rs.filter fun r=>!onY fs k n v s r)
    have vy:=lw_val (fs:=fs) (fa:=fa) a b y (rs.filter (onY fs k n v s))
    have vm:=lw_val (fs:=fs) (fa:=fa) a b m (rs.filter fun r=>!onY fs k n v s r)
    rw [lw_ask]
    split
    · trivial
    · next hle =>
      refine ⟨?_,iy,im⟩
      have:=cost_ask (fs:=fs) a b k n v s (lw fs fa a b y (rs.filter (onY fs k n v s))).2 (lw fs fa a b m (rs.filter fun r=>!onY fs k n v s r)).2 rs
      omega
theorem lw_st (a b:Int):∀ (t:Tr) (rs:List (List D × Str)),St fs fa a b t rs→lw fs fa a b t rs=(a * (slipN fs t rs:Nat) + b * (t.kn:Nat),t)
  | .say z,rs,_=>by rw [cost_say]; rfl
  | .ask k n v s y m,rs,h=>by
    obtain ⟨h0,h1,h2⟩:=h
    have iy:=lw_st a b y (rs.filter (onY fs k n v s)) h1
    have im:=lw_st a b m (rs.filter fun r=>!onY fs k n v s r) h2
    have e:=cost_ask (fs:=fs) a b k n v s y m rs
    rw [lw_ask,iy,im]
    dsimp only
    rw [if_neg (by omega),e]
theorem lw_kn (a b:Int):∀ (t:Tr) (rs:List (List D × Str)),(lw fs fa a b t rs).2.kn≤t.kn∧((lw fs fa a b t rs).2.kn=t.kn→(lw fs fa a b t rs).2=t)
  | .say z,rs=>⟨Nat.le_refl _,fun _=>rfl⟩
  | .ask k n v s y m,rs=>by
    obtain ⟨y1,y2⟩:=lw_kn a b y (rs.filter (onY fs k n v s))
    obtain ⟨m1,m2⟩:=lw_kn a b m (rs.filter fun r=>!onY fs k n v s r)
    have e:(Tr.ask k n v s y m).kn=y.kn + m.kn + 1:=rfl
    rw [lw_ask,e]
    split
    · exact ⟨Nat.zero_le _,fun z=>by
        have z':0=y.kn + m.kn + 1:=z
        omega⟩
    · have e2:(Tr.ask k n v s (lw fs fa a b y (rs.filter (onY fs k n v s))).2 (lw fs fa a b m (rs.filter fun r=>!onY fs k n v s r)).2).kn=(lw fs fa a b y (rs.filter (onY fs k n v s))).2.kn + (lw fs fa a b m (rs.filter fun r=>!onY fs k n v s r)).2.kn + 1:=rfl
      refine ⟨by dsimp only; rw [e2]; omega,fun z=>?_⟩
      dsimp only at z ⊢
      rw [e2] at z
      rw [y2 (by omega),m2 (by omega)]
def svL (fs:List (Str × List Str)) (fa:List (List D × Str)→Str):Tr→List (List D × Str)→List (Int × Nat)
  | .say _,_=>[]
  | .ask k n v s y m,rs=>((slipN fs (.say (fa rs)) rs:Int) - (slipN fs (.ask k n v s y m) rs:Nat),(Tr.ask k n v s y m).kn)::(svL fs fa y (rs.filter (onY fs k n v s))++svL fs fa m (rs.filter fun r=>!onY fs k n v s r))
theorem st_iff (a b:Int):∀ (t:Tr) (rs:List (List D × Str)),St fs fa a b t rs ↔ ∀ p ∈ svL fs fa t rs,b * (p.2:Nat) < a * p.1
  | .say z,rs=>⟨fun _ p hp=>by simp [svL] at hp,fun _=>trivial⟩
  | .ask k n v s y m,rs=>by
    have iy:=st_iff a b y (rs.filter (onY fs k n v s))
    have im:=st_iff a b m (rs.filter fun r=>!onY fs k n v s r)
    have e:a * ((slipN fs (.say (fa rs)) rs:Int) - (slipN fs (.ask k n v s y m) rs:Nat))=a * (slipN fs (.say (fa rs)) rs:Nat) - a * (slipN fs (.ask k n v s y m) rs:Nat):=Int.mul_sub _ _ _
    constructor
    · rintro ⟨h0,h1,h2⟩ p hp
      rcases List.mem_cons.mp hp with rfl | hp
      · dsimp only
        rw [e]
        omega
      · rcases List.mem_append.mp hp with hp | hp
        · exact iy.mp h1 p hp
        · exact im.mp h2 p hp
    · intro h
      have h0:=h _ (List.mem_cons_self ..)
      dsimp only at h0
      rw [e] at h0
      exact ⟨by omega,iy.mpr fun p hp=>h p (List.mem_cons_of_mem _ (List.mem_append_left _ hp)),im.mpr fun p hp=>h p (List.mem_cons_of_mem _ (List.mem_append_right _ hp))⟩
theorem sv_bound:∀ (t:Tr) (rs:List (List D × Str)),∀ p ∈ svL fs fa t rs,p.1≤rs.length∧0 < p.2∧p.2≤t.kn
  | .say z,rs,p,hp=>by simp [svL] at hp
  | .ask k n v s y m,rs,p,hp=>by
    have e:(Tr.ask k n v s y m).kn=y.kn + m.kn + 1:=rfl
    rcases List.mem_cons.mp hp with rfl | hp
    · have h1:slipN fs (.say (fa rs)) rs≤rs.length:=List.length_filter_le _ _
      refine ⟨?_,by rw [e]; omega,Nat.le_refl _⟩
      dsimp only
      omega
    · rcases List.mem_append.mp hp with hp | hp
      · obtain ⟨h1,h2,h3⟩:=sv_bound y _ p hp
        have:=List.length_filter_le (onY fs k n v s) rs
        exact ⟨by omega,h2,by omega⟩
      · obtain ⟨h1,h2,h3⟩:=sv_bound m _ p hp
        have:=List.length_filter_le (fun r=>!onY fs k n v s r) rs
        exact ⟨by omega,h2,by omega⟩
end
section
variable {fs:List (Str × List Str)} {fa:List (List D × Str)→Str}
def pc:Tr→Nat
  | .say _=>1
  | .ask _ _ _ _ y m=>1 + pc y * pc m
theorem pc_pos:∀ t,0 < pc t
  | .say _=>Nat.one_pos
  | .ask _ _ _ _ y m=>by show 0 < 1 + _; omega
theorem pc_ask (k n v s:Str) (y m:Tr):pc (.ask k n v s y m)=1 + pc y * pc m:=rfl
theorem pc_sub (k n v s:Str) (y m:Tr):pc y < pc (.ask k n v s y m)∧pc m < pc (.ask k n v s y m):=by
  have hy:=pc_pos y
  have hm:=pc_pos m
  have h1:pc y * 1≤pc y * pc m:=Nat.mul_le_mul_left _ hm
  have h2:1 * pc m≤pc y * pc m:=Nat.mul_le_mul_right _ hy
  rw [pc_ask]
  omega
theorem pru_pc:∀ (t:Tr) (rs:List (List D × Str)),(pru fs fa t rs).length=pc t
  | .say a,rs=>rfl
  | .ask k n v s y m,rs=>by
    have i1:=pru_pc y (rs.filter (onY fs k n v s))
    have i2:=pru_pc m (rs.filter fun r=>!onY fs k n v s r)
    show (_::_:List _).length=1 + pc y * pc m
    rw [List.length_cons,len_prod _ (pru fs fa m (rs.filter fun r=>!onY fs k n v s r)).length (fun x=>by rw [List.length_map]),i1,i2]
    omega
theorem pc_dep:∀ (t:Tr) (d:Nat),t.dep≤d→pc t≤pB d
  | .say a,d,_=>by
    show 1≤pB d
    cases d with
    | zero=>exact Nat.le_refl _
    | succ d=>exact Nat.le_add_right _ _
  | .ask k n v s y m,d,h=>by
    have e1:(Tr.ask k n v s y m).dep=max y.dep m.dep + 1:=rfl
    rw [e1] at h
    obtain ⟨e,rfl⟩:∃ e,d=e + 1:=⟨d - 1,by omega⟩
    have:=Nat.mul_le_mul (pc_dep y e (by omega)) (pc_dep m e (by omega))
    show 1 + _≤1 + pB e * pB e
    omega
theorem pc_lw (a b:Int):∀ (t:Tr) (rs:List (List D × Str)),pc (lw fs fa a b t rs).2≤pc t
  | .say z,rs=>Nat.le_refl _
  | .ask k n v s y m,rs=>by
    have:=Nat.mul_le_mul (pc_lw a b y (rs.filter (onY fs k n v s))) (pc_lw a b m (rs.filter fun r=>!onY fs k n v s r))
    rw [lw_ask]
    split
    · exact pc_pos _
    · show 1 + _≤1 + _
      omega
theorem fr_tr {a b c d e f:Nat} (hd:0 < d) (h1:a * d≤c * b) (h2:c * f≤e * d):a * f≤e * b:=by
  refine Nat.le_of_mul_le_mul_right (c:=d) ?_ hd
  calc a * f * d=a * d * f:=by rw [Nat.mul_assoc,Nat.mul_comm f d,← Nat.mul_assoc]
    _≤c * b * f:=Nat.mul_le_mul_right _ h1
    _=c * f * b:=by rw [Nat.mul_assoc,Nat.mul_comm b f,← Nat.mul_assoc]
    _≤e * d * b:=Nat.mul_le_mul_right _ h2
    _=e * b * d:=by rw [Nat.mul_assoc,Nat.mul_comm d b,← Nat.mul_assoc]
def lowF (x p:Nat × Nat):Nat × Nat:=if p.1 * x.2 < x.1 * p.2 then p else x
def lowest:Nat × Nat→List (Nat × Nat)→Nat × Nat
  | x,[]=>x
  | x,p::l=>lowest (lowF x p) l
theorem lowest_mem:∀ (l:List (Nat × Nat)) (x:Nat × Nat),lowest x l=x ∨ lowest x l ∈ l
  | [],x=>.inl rfl
  | p::l,x=>by
    show lowest (lowF x p) l=x ∨ _
    rcases lowest_mem l (lowF x p) with h | h
    · rw [h]
      unfold lowF
      split
      · next h2=>right; show lowest (lowF x p) l ∈ _; rw [h]; unfold lowF; rw [if_pos h2]; exact List.mem_cons_self ..
      · exact .inl rfl
    · exact .inr (List.mem_cons_of_mem _ h)
theorem lowest_le:∀ (l:List (Nat × Nat)) (x:Nat × Nat),0 < x.2→(∀ p ∈ l,0 < p.2)→∀ p,(p=x ∨ p ∈ l)→(lowest x l).1 * p.2≤p.1 * (lowest x l).2
  | [],x,_,_,p,hp=>by
    rcases hp with rfl | hp
    · exact Nat.le_refl _
    · simp at hp
  | e::l,x,hx,hl,p,hp=>by
    show (lowest (lowF x e) l).1 * p.2≤p.1 * (lowest (lowF x e) l).2
    have he:=hl e (List.mem_cons_self ..)
    have hl':∀ p ∈ l,0 < p.2:=fun p hp=>hl p (List.mem_cons_of_mem _ hp)
    have h0:0 < (lowF x e).2:=by unfold lowF; split <;> assumption
    have ih:=lowest_le l (lowF x e) h0 hl'
    have i0:=ih (lowF x e) (.inl rfl)
    have key:∀ r:Nat × Nat,(lowF x e).1 * r.2≤r.1 * (lowF x e).2→(lowest (lowF x e) l).1 * r.2≤r.1 * (lowest (lowF x e) l).2:=fun r hr=>fr_tr h0 i0 hr
    have hxe:(lowF x e).1 * x.2≤x.1 * (lowF x e).2∧(lowF x e).1 * e.2≤e.1 * (lowF x e).2:=by
      unfold lowF
      split
      · next h=>exact ⟨Nat.le_of_lt h,Nat.le_refl _⟩
      · next h=>exact ⟨Nat.le_refl _,Nat.not_lt.mp h⟩
    rcases hp with rfl | hp
    · exact key _ hxe.1
    · rcases List.mem_cons.mp hp with rfl | hp
      · exact key _ hxe.2
      · exact ih p (.inr hp)
def redN (p:Int × Nat):Nat × Nat:=(p.1.toNat / p.1.toNat.gcd p.2,p.2 / p.1.toNat.gcd p.2)
theorem red_ok {p:Int × Nat} (h1:0 < p.1) (h2:0 < p.2):∃ g:Nat,0 < g∧p.1=((redN p).1 * g:Nat)∧p.2=(redN p).2 * g∧0 < (redN p).1∧0 < (redN p).2∧(redN p).1.gcd (redN p).2=1∧(redN p).1≤p.1.toNat∧(redN p).2≤p.2:=by
  obtain ⟨a,ha⟩:∃ a:Nat,p.1=(a:Int):=⟨p.1.toNat,(Int.toNat_of_nonneg (by omega)).symm⟩
  have ea:p.1.toNat=a:=by rw [ha]; rfl
  have hg:0 < a.gcd p.2:=Nat.gcd_pos_of_pos_right _ h2
  have ha0:0 < a:=by omega
  unfold redN
  rw [ea]
  dsimp only
  have d1:=Nat.div_mul_cancel (Nat.gcd_dvd_left a p.2)
  have d2:=Nat.div_mul_cancel (Nat.gcd_dvd_right a p.2)
  refine ⟨a.gcd p.2,hg,by rw [d1]; exact ha,d2.symm,Nat.div_pos (Nat.gcd_le_left _ ha0) hg,Nat.div_pos (Nat.gcd_le_right _ h2) hg,?_,Nat.div_le_self _ _,Nat.div_le_self _ _⟩
  exact Nat.gcd_div_gcd_div_gcd_of_pos_right h2
def isL:Tr→Bool
  | .say _=>true
  | .ask _ _ _ _ _ _=>false
def nextP (fs:List (Str × List Str)) (fa:List (List D × Str)→Str) (t:Tr) (rs:List (List D × Str)):Nat × Nat:=match (svL fs fa t rs).map redN with
  | []=>(0,1)
  | x::l=>lowest x (x::l)
theorem next_ok {a b:Int} (ha:0 < a) (hb:0≤b) {t:Tr} {rs:List (List D × Str)} (hs:St fs fa a b t rs) (ht:isL t=false) :
    0 < (nextP fs fa t rs).2∧(nextP fs fa t rs).2≤t.kn∧0 < (nextP fs fa t rs).1∧(nextP fs fa t rs).1≤rs.length∧(nextP fs fa t rs).1.gcd (nextP fs fa t rs).2=1∧b * ((nextP fs fa t rs).2:Nat) < a * ((nextP fs fa t rs).1:Nat) ∧
    (∀ a' b':Int,0 < a'→b' * ((nextP fs fa t rs).2:Nat) < a' * ((nextP fs fa t rs).1:Nat)→St fs fa a' b' t rs)∧¬ St fs fa ((nextP fs fa t rs).2:Nat) ((nextP fs fa t rs).1:Nat) t rs:=by
  have hp:∀ e ∈ svL fs fa t rs,0 < e.1∧0 < e.2:=fun e he=>by
    have h1:=(st_iff a b t rs).mp hs e he
    have h2:=(sv_bound t rs e he).2.1
    refine ⟨?_,h2⟩
    have h3:0≤b * (e.2:Nat):=Int.mul_nonneg hb (by omega)
    have h4:0 < a * e.1:=by omega
    by_cases hn:0 < e.1
    · exact hn
    · have:=Int.mul_le_mul_of_nonneg_left (show e.1≤0 by omega) (show 0≤a by omega)
      rw [Int.mul_zero] at this
      omega
  have hmem:∃ e ∈ svL fs fa t rs,nextP fs fa t rs=redN e:=by
    unfold nextP
    cases hl:svL fs fa t rs with
    | nil =>
      cases t with
      | say z=>cases ht
      | ask k n v s y m=>cases hl
    | cons x l =>
      show ∃ e ∈ x::l,lowest (redN x) ((x::l).map redN)=redN e
      rcases lowest_mem ((x::l).map redN) (redN x) with h | h
      · exact ⟨x,List.mem_cons_self ..,h⟩
      · obtain ⟨e,he,h⟩:=List.mem_map.mp h
        exact ⟨e,he,h.symm⟩
  have hle:∀ e ∈ svL fs fa t rs,(nextP fs fa t rs).1 * (redN e).2≤(redN e).1 * (nextP fs fa t rs).2:=by
    unfold nextP
    cases hl:svL fs fa t rs with
    | nil=>intro e he; simp at he
    | cons x l =>
      intro e he
      have pos:∀ p ∈ (x::l).map redN,0 < p.2:=fun p hp'=>by
        obtain ⟨e,he,rfl⟩:=List.mem_map.mp hp'
        rw [← hl] at he
        obtain ⟨_,_,_,_,_,h5,_⟩:=red_ok (hp e he).1 (hp e he).2
        exact h5
      exact lowest_le ((x::l).map redN) (redN x) (pos _ (List.mem_cons_self ..)) pos (redN e) (.inr (List.mem_map.mpr ⟨e,he,rfl⟩))
  obtain ⟨e,he,hn⟩:=hmem
  obtain ⟨g,hg,e1,e2,p1,p2,p3,p4,p5⟩:=red_ok (hp e he).1 (hp e he).2
  obtain ⟨b1,b2,b3⟩:=sv_bound t rs e he
  have hlt:=(st_iff a b t rs).mp hs e he
  rw [hn]
  refine ⟨p2,by omega,p1,by omega,p3,?_,fun a' b' ha' h'=>(st_iff a' b' t rs).mpr fun f hf=>?_,fun hst=>?_⟩
  · rw [e1,e2,Int.natCast_mul,Int.natCast_mul,← Int.mul_assoc,← Int.mul_assoc] at hlt
    exact Int.lt_of_mul_lt_mul_right hlt (by omega)
  · obtain ⟨g',hg',f1,f2,q1,q2,q3,q4,q5⟩:=red_ok (hp f hf).1 (hp f hf).2
    have hle':=hle f hf
    rw [hn] at hle'
    rw [f1,f2,Int.natCast_mul,Int.natCast_mul,← Int.mul_assoc,← Int.mul_assoc]
    refine Int.mul_lt_mul_of_pos_right ?_ (by omega)
    generalize (redN f).1=F1 at *
    generalize (redN f).2=F2 at *
    generalize (redN e).1=E1 at *
    generalize (redN e).2=E2 at *
    -- b' E2 < a' E1,E1 F2≤F1 E2:b' F2 < a' F1
    have hz:(E1:Int) * F2≤F1 * E2:=by exact_mod_cast hle'
    have s1:b' * E2 * F2 < a' * E1 * F2:=Int.mul_lt_mul_of_pos_right h' (by omega)
    have s2:a' * ((E1:Int) * F2)≤a' * (F1 * E2):=Int.mul_le_mul_of_nonneg_left hz (by omega)
    have s3:(b' * F2) * E2 < (a' * F1) * E2:=by
      have t1:(b' * F2) * E2=b' * E2 * F2:=by rw [Int.mul_assoc,Int.mul_comm (F2:Int),← Int.mul_assoc]
      have t2:a' * E1 * F2=a' * ((E1:Int) * F2):=Int.mul_assoc _ _ _
      have t3:(a' * F1) * E2=a' * ((F1:Int) * E2):=Int.mul_assoc _ _ _
      omega
    exact Int.lt_of_mul_lt_mul_right s3 (by omega)
  · have h':=(st_iff _ _ t rs).mp hst e he
    rw [e1,e2,Int.natCast_mul,Int.natCast_mul,← Int.mul_assoc,← Int.mul_assoc,Int.mul_comm ((redN e).1:Int) ((redN e).2:Int)] at h'
    exact Int.lt_irrefl _ h'
theorem lw_tree_scale (a b:Int) {c:Int} (hc:0 < c) (t:Tr) (rs:List (List D × Str)):(lw fs fa (c * a) (c * b) t rs).2=(lw fs fa a b t rs).2:=by rw [lw_scale a b hc]
theorem nestF {p q p' q':Int} (hq:0 < q) (hq':0 < q') (h:p * q'≤p' * q) (t:Tr) (rs:List (List D × Str)):(lw fs fa q' p' (lw fs fa q p t rs).2 rs).2=(lw fs fa q' p' t rs).2:=by
  have e1:=lw_tree_scale (fs:=fs) (fa:=fa) q p hq' t rs
  have e2:=lw_tree_scale (fs:=fs) (fa:=fa) q' p' hq t rs
  have e3:=lw_tree_scale (fs:=fs) (fa:=fa) q' p' hq (lw fs fa q p t rs).2 rs
  have hm:q * q'=q' * q:=Int.mul_comm _ _
  rw [← e2,← e3,← e1,hm]
  rw [lw_nest (q' * q) (by rw [Int.mul_comm q' p,Int.mul_comm q p']; exact h)]
end
section
variable {fs:List (Str × List Str)} {fa:List (List D × Str)→Str}
abbrev Stp:=(Nat × Nat) × Tr
def stD (x:Stp):D:=.tuple [.tuple [.int (x.1.1:Nat),.int (x.1.2:Nat)],trD x.2]
def stepsF (fs:List (Str × List Str)) (fa:List (List D × Str)→Str) (rs:List (List D × Str)):Nat→Nat × Nat→Tr→List Stp
  | 0,x,t=>[(x,t)]
  | n + 1,x,t=>(x,t)::if isL t=true then [] else stepsF fs fa rs n (nextP fs fa t rs) (lw fs fa ((nextP fs fa t rs).2:Nat) ((nextP fs fa t rs).1:Nat) t rs).2
def stepsT (fs:List (Str × List Str)) (fa:List (List D × Str)→Str) (T:Tr) (rs:List (List D × Str)):List Stp:=stepsF fs fa rs (lw fs fa 1 0 T rs).2.kn (0,1) (lw fs fa 1 0 T rs).2
structure OkS (fs:List (Str × List Str)) (fa:List (List D × Str)→Str) (T:Tr) (rs:List (List D × Str)) (x:Stp):Prop where
  low:x.1.1.gcd x.1.2=1
  q0:0 < x.1.2
  q1:x.1.2≤12
  p1:x.1.1≤60
  tr:x.2=(lw fs fa (x.1.2:Nat) (x.1.1:Nat) T rs).2
structure LkS (fs:List (Str × List Str)) (fa:List (List D × Str)→Str) (T:Tr) (rs:List (List D × Str)) (x y:Stp):Prop where
  up:x.1.1 * y.1.2 < y.1.1 * x.1.2
  kn:y.2.kn < x.2.kn
  tr:y.2=(lw fs fa (y.1.2:Nat) (y.1.1:Nat) x.2 rs).2
  cl:x.2=(lw fs fa ((y.1.2:Int) * 10000000) ((y.1.1:Int) * 10000000 - (y.1.2:Int)) T rs).2
def ChS (fs:List (Str × List Str)) (fa:List (List D × Str)→Str) (T:Tr) (rs:List (List D × Str)):List Stp→Prop
  | []=>False
  | x::l=>OkS fs fa T rs x∧match l with
    | []=>isL x.2=true
    | y::_=>LkS fs fa T rs x y∧ChS fs fa T rs l
theorem isL_kn:∀ {t:Tr},t.kn=0→isL t=true
  | .say _,_=>rfl
  | .ask k n v s y m,h=>by
    have e:(Tr.ask k n v s y m).kn=y.kn + m.kn + 1:=rfl
    omega
theorem steps_head (rs:List (List D × Str)):∀ (n:Nat) (x:Nat × Nat) (t:Tr),∃ l,stepsF fs fa rs n x t=(x,t)::l
  | 0,x,t=>⟨[],rfl⟩
  | n + 1,x,t=>⟨_,rfl⟩
theorem next_lk {T:Tr} {rs:List (List D × Str)} (hk:T.kn≤12) (hl:rs.length≤60) {x:Stp} (ok:OkS fs fa T rs x) (hx:isL x.2=false) :
    OkS fs fa T rs (nextP fs fa x.2 rs,(lw fs fa ((nextP fs fa x.2 rs).2:Nat) ((nextP fs fa x.2 rs).1:Nat) x.2 rs).2)∧LkS fs fa T rs x (nextP fs fa x.2 rs,(lw fs fa ((nextP fs fa x.2 rs).2:Nat) ((nextP fs fa x.2 rs).1:Nat) x.2 rs).2):=by
  obtain ⟨⟨p,q⟩,t⟩:=x
  obtain ⟨low,q0,q1,p1,tr⟩:=ok
  dsimp only at low q0 q1 p1 tr hx ⊢
  have hst:St fs fa (q:Nat) (p:Nat) t rs:=by rw [tr]; exact st_lw _ _ T rs
  have hkt:t.kn≤12:=by
    have:=(lw_kn (fs:=fs) (fa:=fa) (q:Nat) (p:Nat) T rs).1
    rw [← tr] at this
    omega
  obtain ⟨n1,n2,n3,n4,n5,n6,n7,n8⟩:=next_ok (fs:=fs) (fa:=fa) (by omega) (by omega) hst hx
  generalize hN:nextP fs fa t rs=N at *
  obtain ⟨p',q'⟩:=N
  dsimp only at n1 n2 n3 n4 n5 n6 n7 n8 ⊢
  have up:p * q' < p' * q:=by
    have:(p:Int) * q' < p' * q:=by rw [Int.mul_comm (p':Int)]; exact n6
    exact_mod_cast this
  have hnest:∀ p2 q2:Int,0 < q2→(p:Int) * q2≤p2 * q→(lw fs fa q2 p2 t rs).2=(lw fs fa q2 p2 T rs).2:=fun p2 q2 h2 h=>by
    have:=nestF (fs:=fs) (fa:=fa) (p:=(p:Int)) (q:=(q:Int)) (p':=p2) (q':=q2) (by omega) h2 h T rs
    rw [← tr] at this
    exact this
  refine ⟨⟨n5,n1,by dsimp only; omega,by dsimp only; omega,?_⟩,⟨up,?_,rfl,?_⟩⟩
  · refine hnest p' q' (by omega) ?_
    have:((p * q':Nat):Int) < ((p' * q:Nat):Int):=by exact_mod_cast up
    rw [Int.natCast_mul,Int.natCast_mul] at this
    omega
  · obtain ⟨k1,k2⟩:=lw_kn (fs:=fs) (fa:=fa) (q':Nat) (p':Nat) t rs
    dsimp only
    rcases Nat.lt_or_ge (lw fs fa (q':Nat) (p':Nat) t rs).2.kn t.kn with h | h
    · exact h
    · exact absurd (by
        have e:=k2 (by omega)
        have:=st_lw (fs:=fs) (fa:=fa) (q':Nat) (p':Nat) t rs
        rw [e] at this
        exact this) n8
  · dsimp only
    have hqq:q * q'≤12 * 12:=Nat.mul_le_mul q1 (by omega)
    have up':((p * q':Nat):Int) + 1≤((p' * q:Nat):Int):=by omega
    have hqq':((q * q':Nat):Int)≤144:=by omega
    rw [Int.natCast_mul] at hqq'
    rw [Int.natCast_mul,Int.natCast_mul] at up'
    have h1:(p:Int) * ((q':Int) * 10000000)≤((p':Int) * 10000000 - q') * q:=by
      rw [Int.sub_mul,← Int.mul_assoc,Int.mul_assoc (p':Int),Int.mul_comm (10000000:Int) (q:Int),← Int.mul_assoc,Int.mul_comm (q':Int) (q:Int)]
      omega
    rw [← hnest _ _ (by omega) h1,lw_st _ _ t rs (n7 _ _ (by omega) ?_)]
    have h2:((p':Int) * 10000000 - q') * q'=(p':Int) * q' * 10000000 - q' * q':=by
      rw [Int.sub_mul,Int.mul_assoc,Int.mul_comm (10000000:Int),← Int.mul_assoc]
    have h3:(q':Int) * 10000000 * p'=(p':Int) * q' * 10000000:=by
      rw [Int.mul_comm,← Int.mul_assoc]
    have h4:(0:Int) < (q':Int) * q':=Int.mul_pos (by omega) (by omega)
    rw [h2,h3]
    omega
theorem steps_ch {T:Tr} {rs:List (List D × Str)} (hk:T.kn≤12) (hl:rs.length≤60):∀ (n:Nat) (x:Nat × Nat) (t:Tr),OkS fs fa T rs (x,t)→t.kn≤n→ChS fs fa T rs (stepsF fs fa rs n x t)
  | 0,x,t,ok,h=>⟨ok,isL_kn (show t.kn=0 by omega)⟩
  | n + 1,x,t,ok,h=>by
    show ChS fs fa T rs ((x,t)::if isL t=true then [] else _)
    cases ht:isL t with
    | true=>rw [if_pos rfl]; exact ⟨ok,ht⟩
    | false =>
      rw [if_neg (by decide)]
      obtain ⟨o2,lk⟩:=next_lk hk hl ok ht
      have ih:=steps_ch hk hl n _ _ o2 (by have:=lk.kn; dsimp only at this ⊢; omega)
      obtain ⟨l,hl'⟩:=steps_head (fs:=fs) (fa:=fa) rs n (nextP fs fa t rs) (lw fs fa ((nextP fs fa t rs).2:Nat) ((nextP fs fa t rs).1:Nat) t rs).2
      dsimp only at ih
      rw [hl'] at ih ⊢
      exact ⟨ok,lk,ih⟩
theorem steps_okT {T:Tr} {rs:List (List D × Str)} (hk:T.kn≤12) (hl:rs.length≤60):ChS fs fa T rs (stepsT fs fa T rs) :=
  steps_ch hk hl _ _ _ ⟨show Nat.gcd 0 1=1 by decide,show 0 < 1 by decide,show 1≤12 by decide,show 0≤60 by decide,rfl⟩ (Nat.le_refl _)
theorem ch_at {T:Tr} {rs:List (List D × Str)}:∀ {L:List Stp},ChS fs fa T rs L→(∀ (k:Nat) x,L[k]?=some x→OkS fs fa T rs x)∧(∀ (k:Nat) x y,L[k]?=some x→L[k + 1]?=some y→LkS fs fa T rs x y)∧∀ x,L[L.length - 1]?=some x→isL x.2=true
  | [],h=>h.elim
  | [z],h=>⟨fun k x hx=>by
      cases k with
      | zero=>cases hx; exact h.1
      | succ k=>simp at hx,fun k x y _ hy=>by simp at hy,fun x hx=>by cases hx; exact h.2⟩
  | z::w::l,h=>by
    obtain ⟨o,lk,h'⟩:=h
    obtain ⟨i1,i2,i3⟩:=ch_at h'
    refine ⟨fun k x hx=>?_,fun k x y hx hy=>?_,fun x hx=>i3 x ?_⟩
    · cases k with
      | zero=>cases hx; exact o
      | succ k=>exact i1 k x (by simpa using hx)
    · cases k with
      | zero =>
        cases hx
        have:w=y:=by simpa using hy
        subst this
        exact lk
      | succ k=>exact i2 k x y (by simpa using hx) (by simpa using hy)
    · simpa using hx
end
def sp_22:SpT:=fun ds Q=>∃ a b:D,ds=[.tuple [a,b]]∧Q (.tuple [b,a])
def sp_24_lt (d:Nat):SpT:=fun ds Q=>∃ (fs:List (Str × List Str)) (an:List Str) (fa:List (List D × Str)→Str) (t:Tr) (rs:List (List D × Str)) (a b:Int),ds=[frmD fs an,trD t,.list (rs.map rowD),.tuple [.int a,.int b]]∧Form fs an∧FA fs an fa∧TrOk fs an t∧t.dep < d∧RowsOk fs an rs∧rs.length≤60∧0≤a∧a≤1000000000∧0≤b∧b≤1000000000∧Q (.tuple [.int (lw fs fa a b t rs).1,trD (lw fs fa a b t rs).2])
def sp_24:SpT:=sp_24_lt 13
theorem never_24 {ds:List D} {Q:D→Prop} (h:sp_24_lt 0 ds Q):False:=by
  obtain ⟨_,_,_,_,_,_,_,_,_,_,_,h,_⟩:=h
  omega
def sp_23:SpT:=fun ds Q=>∃ (fs:List (Str × List Str)) (an:List Str) (fa:List (List D × Str)→Str) (t:Tr) (rs:List (List D × Str)) (a b:Int),ds=[frmD fs an,trD t,.list (rs.map rowD),.tuple [.int b,.int a]]∧Form fs an∧FA fs an fa∧TrOk fs an t∧t.dep < 13∧RowsOk fs an rs∧rs.length≤60∧0≤a∧a≤1000000000∧0≤b∧b≤1000000000∧Q (trD (lw fs fa a b t rs).2)
def sp_41_lt (d:Nat):SpT:=fun ds Q=>∃ (fs:List (Str × List Str)) (an:List Str) (fa:List (List D × Str)→Str) (t:Tr) (rs:List (List D × Str)),ds=[frmD fs an,trD t,.list (rs.map rowD)]∧Form fs an∧FA fs an fa∧TrOk fs an t∧t.dep < d∧pc t≤30∧RowsOk fs an rs∧rs.length≤60∧Q (.list ((pru fs fa t rs).map pruD))
def sp_41:SpT:=sp_41_lt 13
theorem never_41 {ds:List D} {Q:D→Prop} (h:sp_41_lt 0 ds Q):False:=by
  obtain ⟨_,_,_,_,_,_,_,_,_,h,_⟩:=h
  omega
def sp_44:SpT:=fun ds Q=>∃ (l1:List (Tr × Nat × Nat)) (x:Tr × Nat × Nat) (l2:List (Tr × Nat × Nat)) (a b:Int),ds=[.list ((l1++x::l2).map pruD),.tuple [.int b,.int a]]∧(l1++x::l2).length≤100∧0≤a∧a≤1000000000∧0≤b∧b≤1000000000∧(∀ q ∈ l1++l2,ltP a b x q)∧Q (trD x.1)
theorem lenslip {fs:List (Str × List Str)} {rs:List (List D × Str)} {z:Str} {fr:List (Option Nat)} {ti:IT} {tt:TTt} {te:ET} {σ:List Sl} {Q:D→Prop} (hti:Gives' ti σ (rs.map rowD))
    (hp:∀ (r:List D × Str) (q:Bool→Prop),r ∈ rs→q (!decide (r.2=z))→tt ((inBlkT fr σ).set 0 (.val (rowD r))) q) (ht:∀ (r:List D × Str) (q:D→Prop),r ∈ rs→q (rowD r)→te ((inBlkT fr σ).set 0 (.val (rowD r))) q)
    (hl:rs.length≤60) (hq:Q (.int (slipN fs (.say z) rs:Nat))):eCall (f1 gLen) (aCons (eLc fr ti (gN 0) tt te) aNil) σ Q:=by
  dsimp only [eCall,aCons,aNil]
  refine lcx_filt (ts:=rs.map rowD) hti (fun x=>match x with | .tuple [_,.str b]=>!decide (b=z) | _=>false) id (by rw [List.length_map]; omega) (fun x q hx hq=>?_) (fun x q hx hq=>?_) ?_
  · obtain ⟨r,hr,rfl⟩:=List.mem_map.mp hx
    exact hp r q hr hq
  · obtain ⟨r,hr,rfl⟩:=List.mem_map.mp hx
    exact ht r q hr hq
  · rw [List.map_id,List.filter_map]
    show Q (.int ((List.map rowD _).length:Nat))
    rw [List.length_map]
    have e:slipN fs (.say z) rs=(rs.filter ((fun x:D=>match x with | .tuple [_,.str b]=>!decide (b=z) | _=>false) ∘ rowD)).length:=by
      unfold slipN
      congr 1
      refine List.filter_congr fun r _=>?_
      show (!decide (z=r.2))=(!decide (r.2=z))
      congr 1
      rw [decide_eq_decide]
      exact eq_comm
    rw [e] at hq
    exact hq
theorem mem_other {α:Type} {l1 l2:List α} {x p:α} {k:Nat} (h:(l1++x::l2)[k]?=some p) (hk:k ≠ l1.length):p ∈ l1++l2:=by
  by_cases hl:k < l1.length
  · rw [List.getElem?_append_left hl] at h
    exact List.mem_append_left _ (List.mem_of_getElem? h)
  · rw [List.getElem?_append_right (by omega)] at h
    obtain ⟨j,hj⟩:∃ j,k - l1.length=j + 1:=⟨k - l1.length - 1,by omega⟩
    rw [hj,List.getElem?_cons_succ] at h
    exact List.mem_append_right _ (List.mem_of_getElem? h)
theorem mem_here {α:Type} (l1 l2:List α) (x:α):(l1++x::l2)[l1.length]?=some x:=by
  rw [List.getElem?_append_right (Nat.le_refl _),Nat.sub_self]; rfl
section
variable {fs:List (Str × List Str)} {fa:List (List D × Str)→Str}
theorem sv_len:∀ (t:Tr) (rs:List (List D × Str)),(svL fs fa t rs).length=t.kn
  | .say _,_=>rfl
  | .ask k n v s y m,rs=>by
    show (_::_:List _).length=y.kn + m.kn + 1
    rw [List.length_cons,List.length_append,sv_len y,sv_len m]
def frD (x:Nat × Nat):D:=.tuple [.int (x.1:Nat),.int (x.2:Nat)]
theorem lowest_snoc:∀ (l:List (Nat × Nat)) (x p:Nat × Nat),lowest x (l++[p])=lowF (lowest x l) p
  | [],x,p=>rfl
  | e::l,x,p=>lowest_snoc l (lowF x e) p
theorem lw_dep (a b:Int):∀ (t:Tr) (rs:List (List D × Str)),(lw fs fa a b t rs).2.dep≤t.dep
  | .say z,rs=>Nat.le_refl _
  | .ask k n v s y m,rs=>by
    have d1:=lw_dep a b y (rs.filter (onY fs k n v s))
    have d2:=lw_dep a b m (rs.filter fun r=>!onY fs k n v s r)
    rw [lw_ask]
    split
    · exact Nat.zero_le _
    · show max _ _ + 1≤max y.dep m.dep + 1
      omega
end
def sp_4:SpT:=fun ds Q=>∃ x y:Nat × Nat,ds=[frD x,frD y]∧x.1≤1000000∧y.1≤1000000∧Q (.bool (decide (x.1 * y.2 < y.1 * x.2)))
def sp_27_lt (d:Nat):SpT:=fun ds Q=>∃ (fs:List (Str × List Str)) (an:List Str) (fa:List (List D × Str)→Str) (t:Tr) (rs:List (List D × Str)),ds=[frmD fs an,trD t,.list (rs.map rowD)]∧Form fs an∧FA fs an fa∧TrOk fs an t∧t.dep < d∧t.dep≤40∧t.kn≤100∧RowsOk fs an rs∧rs.length≤60∧(∀ e ∈ svL fs fa t rs,0≤e.1)∧Q (.tuple [.int (slipN fs t rs:Nat),.list ((svL fs fa t rs).map fun e=>frD (redN e))])
def sp_27:SpT:=sp_27_lt 13
theorem never_27 {ds:List D} {Q:D→Prop} (h:sp_27_lt 0 ds Q):False:=by
  obtain ⟨_,_,_,_,_,_,_,_,_,h,_⟩:=h
  omega
def sp_26:SpT:=fun ds Q=>∃ (fs:List (Str × List Str)) (an:List Str) (fa:List (List D × Str)→Str) (t:Tr) (rs:List (List D × Str)),ds=[frmD fs an,trD t,.list (rs.map rowD)]∧Form fs an∧FA fs an fa∧TrOk fs an t∧t.dep≤12∧t.kn≤12∧isL t=false∧RowsOk fs an rs∧rs.length≤60∧(∀ e ∈ svL fs fa t rs,0≤e.1)∧Q (frD (nextP fs fa t rs))
def sp_25:SpF:=fun ds Q=>∃ (fs:List (Str × List Str)) (an:List Str) (fa:List (List D × Str)→Str) (T:Tr) (rs:List (List D × Str)),ds=[frmD fs an,trD T,.list (rs.map rowD)]∧Form fs an∧FA fs an fa∧TrOk fs an T∧T.dep≤12∧T.kn≤12∧RowsOk fs an rs∧rs.length≤60∧Q ((stepsT fs fa T rs).map stD)
def sp_42:SpT:=sp_3
def sp_43:SpT:=fun ds Q=>∃ x:Nat × Nat,ds=[frD x]∧0 < x.2∧x.1.gcd x.2=1∧Q (.bool true)
def sp_45:SpC:=fun _ n ds Q=>∃ (fs:List (Str × List Str)) (an:List Str) (k:Nat),ds=[frmD fs an,.int (k:Nat)]∧Form fs an∧k≤12∧n < 500000000000∧∀ n' t,n'≤n + 100→TrOk fs an t→t.dep≤12→t.kn≤12→pc t≤13→Q n' (trD t)
def sp_46:SpT:=fun ds Q=>∃ (fs:List (Str × List Str)) (an:List Str) (fa:List (List D × Str)→Str) (T:Tr) (rs:List (List D × Str)),ds=[frmD fs an,trD T,.list (rs.map rowD),.list ((stepsT fs fa T rs).map stD)]∧Form fs an∧FA fs an fa∧TrOk fs an T∧T.dep≤12∧T.kn≤12∧pc T≤30∧RowsOk fs an rs∧rs.length≤60∧Q (.bool true)
theorem steps_len {fs:List (Str × List Str)} {fa:List (List D × Str)→Str} (rs:List (List D × Str)):∀ (n:Nat) (x:Nat × Nat) (t:Tr),(stepsF fs fa rs n x t).length≤n + 1
  | 0,x,t=>Nat.le_refl _
  | n + 1,x,t=>by
    show ((x,t)::(if isL t=true then [] else _)).length≤_
    split
    · show 1≤_; omega
    · have:=steps_len (fs:=fs) (fa:=fa) rs n (nextP fs fa t rs) (lw fs fa ((nextP fs fa t rs).2:Nat) ((nextP fs fa t rs).1:Nat) t rs).2
      rw [List.length_cons]
      omega
theorem lw_in {fs:List (Str × List Str)} {fa:List (List D × Str)→Str} (a b:Int) (t:Tr) (rs:List (List D × Str)):∃ p ∈ pru fs fa t rs,p.1=(lw fs fa a b t rs).2:=by
  obtain ⟨l1,x,l2,e,h1,_,_⟩:=least_at fs fa a b t rs
  exact ⟨x,by rw [e]; exact List.mem_append_right _ (List.mem_cons_self ..),h1⟩
theorem pru_okT {fs:List (Str × List Str)} {an:List Str} {fa:List (List D × Str)→Str} (hfa:FA fs an fa):∀ (t:Tr) (rs:List (List D × Str)),TrOk fs an t→RowsOk fs an rs→∀ p ∈ pru fs fa t rs,TrOk fs an p.1∧p.1.kn≤t.kn∧p.1.dep≤t.dep
  | .say a,rs,h,_,p,hp=>by
    have:p=(.say a,slipN fs (.say a) rs,0):=by simpa [pru] using hp
    rw [this]
    exact ⟨h,Nat.le_refl _,Nat.le_refl _⟩
  | .ask k n v s y m,rs,h,hrs,p,hp=>by
    obtain ⟨hq,hs,hy,hm⟩:=h
    rcases List.mem_cons.mp hp with rfl | hp
    · obtain ⟨i,hi,_⟩:=hfa rs hrs
      exact ⟨List.mem_of_getElem? hi,Nat.zero_le _,Nat.zero_le _⟩
    · obtain ⟨p1,h1,hp⟩:=List.mem_flatMap.mp hp
      obtain ⟨p2,h2,rfl⟩:=List.mem_map.mp hp
      obtain ⟨a1,a2,a3⟩:=pru_okT hfa y _ hy (hrs.filt _) p1 h1
      obtain ⟨b1,b2,b3⟩:=pru_okT hfa m _ hm (hrs.filt _) p2 h2
      exact ⟨⟨hq,hs,a1,b1⟩,by show _ + _ + 1≤y.kn + m.kn + 1; omega,by show max _ _ + 1≤max y.dep m.dep + 1; omega⟩
theorem lay_all {ts:List D} (h:∀ t ∈ ts,t.canLay0=true):PyData.canLayAll0 ts=true:=by
  induction ts with
  | nil=>rfl
  | cons a l ih =>
    show (a.canLay0 && PyData.canLayAll0 l)=true
    rw [h a (List.mem_cons_self ..),ih fun t ht=>h t (List.mem_cons_of_mem _ ht)]; rfl
theorem e7:(10:Int) ^ (7:Int).toNat=10000000:=by decide +kernel

end K41

namespace K41
open PySem L2 TL
local macro_rules | `(tactic| walk_at "rd")=>`(tactic| simp only [VarAt_iff,ItemAt_iff,sSeq,sSet,sOwn,sApp,sShare,sRet,sIf,sUnp,sNext,eVar,eC,eOp,eNeg,eTup,eLst,eCall,eSl,oNone,oSome,eAnd,eOr,eChain,eIsi,eLenSet,eMeth,eUpper,eRev,eInOwn,aNil,aCons,cTest,cNot,cAnd,cOr,gP,fI,fI0,fB0,fAdd,fMul,fEq,fNe,eqF,fIsNot,fIx,fSl,fIn,fNotIn,f1,f2,gLen,gTuple,gList,gAll,gMin,gMin2,gFind,gJoin,gRepr,startT,List.map_cons,List.map_nil,List.length_cons,List.length_nil,List.cons_append,List.nil_append,List.replicate,List.getElem?_cons_zero,List.getElem?_cons_succ,List.set_cons_zero,List.set_cons_succ,Option.some.injEq,Sl.val.injEq,Sl.own.injEq,exists_eq_left',exists_eq_left,PyData.int.injEq,PyData.bool.injEq,PyData.str.injEq,PyData.tuple.injEq,PyData.list.injEq,and_true,true_and,Bool.false_eq_true,if_true,if_false,Bool.not_true,Bool.not_false,↓reduceIte,Nat.reduceAdd,Nat.reduceSub,Nat.reduceLeDiff,Int.reduceNeg,reduceCtorEq])

section
variable {P:Program} {w:World} {K:PySem.W.Frag} {mg:Str→Option Value} {base:Heap} {A:Adr}
theorem sc_0:FnScope ["form","rows","told"] ["form","rows"] (defScope (top 1)):=⟨rfl,rfl,rfl,by decide +kernel,rfl,by decide +kernel,by decide +kernel⟩
set_option maxHeartbeats 4000000 in
theorem ok_0 (T:Txt K mg A):FnOk P w K mg base CX0 1 A.a_0 A.f_0 ["form","rows"] (liftSpF K sp_0):=by
  refine fnF T.F_0 sc_0 (fun ds Q h=>by obtain ⟨fs,an,rs,rfl,F,hok,hrl,h⟩:=h; rfl) fun cdv Ar outer s H E hr ds Q h=>?_
  obtain ⟨fs,an,rs,rfl,F,hok,hrl,h⟩:=h
  have nd:=sc_0.nd
  refine ⟨_,(st_cons (st_set (i:=2) (et_lc (fr:=[none]) (N':=["row"]) (it_val (et_v 1)) (fun b=>⟨(gt_name (pg_name (i:=0) (show List.Nodup (["row"]:List Str) from by decide +kernel) rfl (by first | exact Or.inl rfl | exact Or.inr rfl))),if_nil,(et_ix ix_seq o_ix (et_v 0) et_int)⟩) (fun hi hY=>pe_lcc (show lcChk _ (defScope (top 1)) ["form","rows","told"] ["row"] [none]=true from by decide +kernel) rfl hi hY)) (fun h=>ps_set (i:=2) nd rfl (by first | exact Or.inl rfl | exact Or.inr rfl) h))
  (st_one (st_retF (ft_lc (fr:=[none,some 2]) (N':=["answer","told"]) (it_val (et_ix ix_seq o_ix (et_v 0) et_int)) (fun b=>⟨(gt_name (pg_name (i:=0) (show List.Nodup (["answer","told"]:List Str) from by decide +kernel) rfl (by first | exact Or.inl rfl | exact Or.inr rfl))),if_nil,(et_lcount (et_v 1) (at_cons (et_v 0) at_nil) (fun h ha=>pe_bm PySem.F.plainAttrs_list PySem.F.slot_list_count PySem.F.type_list_count (mt_lcount hr) h ha))⟩) (fun hi hY=>pe_lcc (show lcChk _ (defScope (top 1)) ["form","rows","told"] ["answer","told"] [none,some 2]=true from by decide +kernel) rfl hi hY))))),?_⟩
  show sSeq _ _ _ [.val (frmD fs an),.val (.list (rs.map rowD)),.un]
  have a4:=F.a4
  refine seq_set (.list (rs.map fun r=>PyData.str r.2)) (fun q hq=>?_) ?_
  · refine lcx_map (ts:=rs.map rowD) (fun R h=>⟨_,rfl,_,rfl,h⟩) sndT (by rw [List.length_map]; omega) (fun x q hx hq=>?_) ?_
    · obtain ⟨r,hr,rfl⟩:=List.mem_map.mp hx
      exact ⟨_,rfl,_,rfl,hq⟩
    · rw [List.map_map]; exact hq
  have ll:=lay_strs (ys:=rs.map fun r=>r.2) fun y hy=>by
    obtain ⟨r,hr,rfl⟩:=List.mem_map.mp hy
    exact F.an.2.1 _ (hok r hr).2
  rw [List.map_map] at ll
  refine fLc_of (lcx_map (ts:=an.map PyData.str) (fun R h=>⟨_,rfl,_,rfl,_,rfl,h⟩) (cntD rs) (by rw [List.length_map]; omega) (fun x q hx hq=>?_) ?_)
  · obtain ⟨a,ha,rfl⟩:=List.mem_map.mp hx
    have hA:=th_name (F.an.2.1 a ha) (n:=8) (m:=0) (Nat.le_refl _)
    refine ⟨_,rfl,_,rfl,_,rfl,_,rfl,⟨ll.1,hA.lay,by have:=hA.depth; omega⟩,?_⟩
    rw [told_count]; exact hq
  · show Q _
    have e:(an.map PyData.str).map (cntD rs)=(cnts an rs).map PyData.int:=by
      unfold cnts
      rw [List.map_map,List.map_map]; rfl
    rw [e]; exact h

theorem sc_1:FnScope ["form","rows","counts"] ["form","rows"] (defScope (top 2)):=⟨rfl,rfl,rfl,by decide +kernel,rfl,by decide +kernel,by decide +kernel⟩
set_option maxHeartbeats 4000000 in
theorem ok_1 (T:Txt K mg A)
    (F_0:FnOk P w K mg base CX0 1 A.a_0 A.f_0 ["form","rows"] (liftSpF K sp_0)):FnOk P w K mg base CX0 2 A.a_1 A.f_1 ["form","rows"] (liftSp K sp_1):=by
  refine fnT T.F_1 sc_1 (fun ds Q h=>by obtain ⟨fs,an,rs,rfl,F,hok,hrl,h⟩:=h; rfl) fun cdv Ar outer s H E hr ds Q h=>?_
  obtain ⟨fs,an,rs,rfl,F,hok,hrl,h⟩:=h
  have nd:=sc_1.nd
  refine ⟨_,(st_cons (st_set (i:=2) (et_fr (ft_call F_0 T.m_0 T.k_0 T.d_0 (hr.mono (by decide)) (at_cons (et_v 0) (at_cons (et_v 1) at_nil)) (fun h=>pe_call F_0 (hr.mono (by decide)) rfl T.m_0 T.k_0 T.d_0 .nil pass0 h))) (fun h=>ps_set (i:=2) nd rfl (by first | exact Or.inl rfl | exact Or.inr rfl) h))
  (st_one (st_ret (et_ix ix_seq o_ix (et_ix ix_seq o_ix (et_v 0) et_int) (et_lindex (et_v 2) (at_cons (et_cb c_max (at_cons (et_v 2) at_nil) (fun h=>pe_callB (call_max_ints rfl) rfl T.b_max bl_max h)) at_nil) (fun h ha=>pe_bm PySem.F.plainAttrs_list PySem.F.slot_list_index PySem.F.type_list_index (mt_lindex hr) h ha)))))),?_⟩
  show sSeq _ _ _ [.val (frmD fs an),.val (.list (rs.map rowD)),.un]
  have a2:=F.a2
  refine seq_set (.list ((cnts an rs).map PyData.int)) (fun q hq=>⟨_,rfl,_,rfl,fs,an,rs,rfl,F,hok,hrl,hq⟩) ?_
  have hne:cnts an rs ≠ []:=fun z=>by
    have:=congrArg List.length z
    unfold cnts at this
    rw [List.length_map] at this
    simp at this
    rw [this] at a2
    simp at a2
  refine ⟨_,rfl,_,rfl,_,rfl,_,rfl,_,rfl,_,rfl,hne,fun m hm hmax=>?_⟩
  obtain ⟨j,hj,hno⟩:=first_of (cnts an rs) m hm
  have hjl:=(List.getElem?_eq_some_iff.mp hj).1
  have hal:(cnts an rs).length=an.length:=by unfold cnts; rw [List.length_map]
  have a4:=F.a4
  have haj:an[j]?=some an[j]:=List.getElem?_eq_getElem (by omega)
  have hcj:(cnts an rs)[j]?=some ((cnt rs an[j]:Nat):Int):=by unfold cnts; rw [List.getElem?_map,haj]; rfl
  rw [hj] at hcj
  have em:m=((cnt rs an[j]:Nat):Int):=Option.some.inj hcj
  refine ⟨_,j,rfl,okIx_ints hj hno,by omega,_,L2.atI_nat (by rw [List.getElem?_map,haj]; rfl),h _ ⟨j,haj,fun i b hb=>?_,fun i b hi hb=>?_⟩⟩
  · have:=hmax ((cnt rs b:Nat):Int) (List.mem_of_getElem? (i:=i) (by unfold cnts; rw [List.getElem?_map,hb]; rfl))
    omega
  · have hcb:(cnts an rs)[i]?=some ((cnt rs b:Nat):Int):=by unfold cnts; rw [List.getElem?_map,hb]; rfl
    have h1:=hmax _ (List.mem_of_getElem? hcb)
    have h2:((cnt rs b:Nat):Int) ≠ m:=fun z=>hno i hi (by rw [hcb,z])
    omega

theorem sc_3:FnScope ["one","other","rest"] ["one","other"] (defScope (top 4)):=⟨rfl,rfl,rfl,by decide +kernel,rfl,by decide +kernel,by decide +kernel⟩
set_option maxHeartbeats 4000000 in
theorem ok_3 (T:Txt K mg A):FnOk P w K mg base CX0 1 A.a_3 A.f_3 ["one","other"] (liftSp K sp_3):=by
  refine fnT T.F_3 sc_3 (fun ds Q h=>by obtain ⟨a,b,rfl,h⟩:=h; rfl) fun cdv Ar outer s H E hr ds Q h=>?_
  obtain ⟨a,b,rfl,h⟩:=h
  have nd:=sc_3.nd
  refine ⟨_,(st_cons (st_while (tt_cmp op_gt o_B0 (et_v 1) et_int)
  (st_cons (st_set (i:=2) (et_op op_mod o_I (et_v 0) (et_v 1)) (fun h=>ps_set (i:=2) nd rfl (by first | exact Or.inl rfl | exact Or.inr rfl) h))
  (st_cons (st_set (i:=0) (et_v 1) (fun h=>ps_set (i:=0) nd rfl (by first | exact Or.inl rfl | exact Or.inr rfl) h))
  (st_one (st_set (i:=1) (et_v 2) (fun h=>ps_set (i:=1) nd rfl (by first | exact Or.inl rfl | exact Or.inr rfl) h))))) (fun hc hb=>ps_while PassesOwn.never hc hb))
  (st_one (st_ret (et_v 0)))),?_⟩
  show sSeq _ _ _ [.val (.int a),.val (.int b),.un]
  refine seq_while (fun y σ=>∃ (x:Nat) (s2:Sl),σ=[.val (.int x),.val (.int y),s2]∧x.gcd y=a.gcd b) b ⟨a,_,rfl,rfl⟩ fun y σ' hP=>?_
  obtain ⟨x,s2,rfl,hg⟩:=hP
  refine ⟨decide (0 < y),fun q hq=>⟨_,rfl,?_⟩,?_⟩
  · show q (decide ((y:Int) > 0))
    have:decide ((y:Int) > 0)=decide (0 < y):=by rw [decide_eq_decide]; omega
    rw [this]; exact hq
  by_cases hy:0 < y
  · rw [if_pos (decide_eq_true hy)]
    refine seq_set (.int ((x % y:Nat):Int)) (fun q hq=>⟨_,rfl,_,rfl,(show (0:Int) < (y:Int) by omega),?_⟩) ?_
    · rw [← Int.natCast_emod]; exact hq
    refine seq_set (.int y) (fun q hq=>⟨_,rfl,hq⟩) ?_
    refine one_set (.int ((x % y:Nat):Int)) (fun q hq=>⟨_,rfl,hq⟩) ⟨x % y,Nat.mod_lt _ hy,y,_,rfl,?_⟩
    rw [← hg,Nat.gcd_comm x y,Nat.gcd_rec y x,Nat.gcd_comm]
  · rw [if_neg (by simpa using hy)]
    have hy0:y=0:=by omega
    subst hy0
    rw [Nat.gcd_zero_right] at hg
    subst hg
    exact ⟨_,rfl,h⟩

theorem sc_2:FnScope ["top","bottom","shared"] ["top","bottom"] (defScope (top 3)):=⟨rfl,rfl,rfl,by decide +kernel,rfl,by decide +kernel,by decide +kernel⟩
set_option maxHeartbeats 4000000 in
theorem ok_2 (T:Txt K mg A)
    (F_3:FnOk P w K mg base CX0 1 A.a_3 A.f_3 ["one","other"] (liftSp K sp_3)):FnOk P w K mg base CX0 2 A.a_2 A.f_2 ["top","bottom"] (liftSp K sp_2):=by
  refine fnT T.F_2 sc_2 (fun ds Q h=>by obtain ⟨a,b,rfl,hb,ha2,hb2,h⟩:=h; rfl) fun cdv Ar outer s H E hr ds Q h=>?_
  obtain ⟨a,b,rfl,hb,ha2,hb2,h⟩:=h
  have nd:=sc_2.nd
  refine ⟨_,(st_cons (st_set (i:=2) (et_call F_3 T.m_3 T.k_3 T.d_3 (hr.mono (by decide)) (at_cons (et_v 0) (at_cons (et_v 1) at_nil)) (fun h=>pe_call F_3 (hr.mono (by decide)) rfl T.m_3 T.k_3 T.d_3 .nil pass0 h)) (fun h=>ps_set (i:=2) nd rfl (by first | exact Or.inl rfl | exact Or.inr rfl) h))
  (st_one (st_ret (et_tup (at_cons (et_op op_fdivB o_I (et_v 0) (et_v 2)) (at_cons (et_op op_fdivB o_I (et_v 1) (et_v 2)) at_nil)))))),?_⟩
  show sSeq _ _ _ [.val (.int a),.val (.int b),.un]
  refine seq_set (.int ((a.gcd b:Nat):Int)) (fun q hq=>⟨_,rfl,_,rfl,a,b,rfl,hq⟩) ?_
  have hgp:0 < a.gcd b:=Nat.gcd_pos_of_pos_right _ hb
  have hgl:a.gcd b≤b:=Nat.gcd_le_right _ hb
  have hd:(0:Int) < ((a.gcd b:Nat):Int)∧((a.gcd b:Nat):Int) < 2 ^ 200:=⟨by omega,by
    have:(a.gcd b) < 2 ^ 190:=Nat.lt_of_le_of_lt hgl hb2
    have h2:(2 ^ 190:Nat)≤2 ^ 200:=Nat.pow_le_pow_right (by decide) (by decide)
    exact_mod_cast Nat.lt_of_lt_of_le this h2⟩
  refine ⟨_,rfl,_,rfl,hd,_,rfl,_,rfl,hd,Nat.le_of_ble_eq_true rfl,?_⟩
  show Q (.tuple [.int ((a:Int) / ((a.gcd b:Nat):Int)),.int ((b:Int) / ((a.gcd b:Nat):Int))])
  rw [← Int.natCast_ediv,← Int.natCast_ediv]
  exact h

theorem sc_4:FnScope ["one","other"] ["one","other"] (defScope (top 5)):=⟨rfl,rfl,rfl,by decide +kernel,rfl,by decide +kernel,by decide +kernel⟩
set_option maxHeartbeats 4000000 in
theorem ok_4 (T:Txt K mg A):FnOk P w K mg base CX0 1 A.a_4 A.f_4 ["one","other"] (liftSp K sp_4):=by
  refine fnT T.F_4 sc_4 (fun ds Q h=>by obtain ⟨x,y,rfl,hx,hy,h⟩:=h; rfl) fun cdv Ar outer s H E hr ds Q h=>?_
  obtain ⟨x,y,rfl,hx,hy,h⟩:=h
  have nd:=sc_4.nd
  refine ⟨_,(st_one (st_ret (et_cmp op_lt o_B0 (et_op op_mulAny o_mul (et_ix ix_seq o_ix (et_v 0) et_int) (et_ix ix_seq o_ix (et_v 1) et_int)) (et_op op_mulAny o_mul (et_ix ix_seq o_ix (et_v 1) et_int) (et_ix ix_seq o_ix (et_v 0) et_int))))),?_⟩
  show sRet _ _ [.val (frD x),.val (frD y)]
  refine ⟨_,rfl,_,rfl,_,rfl,_,rfl,.inl ⟨by omega,by omega⟩,_,rfl,_,rfl,_,rfl,_,rfl,.inl ⟨by omega,by omega⟩,?_⟩
  show Q (.bool (decide ((x.1:Int) * (y.2:Int) < (y.1:Int) * (x.2:Int))))
  have e:decide ((x.1:Int) * (y.2:Int) < (y.1:Int) * (x.2:Int))=decide (x.1 * y.2 < y.1 * x.2):=by
    rw [decide_eq_decide,← Int.natCast_mul,← Int.natCast_mul]; omega
  rw [e]; exact h

theorem sc_12:FnScope ["tree"] ["tree"] (defScope (top 20)):=⟨rfl,rfl,rfl,by decide +kernel,rfl,by decide +kernel,by decide +kernel⟩
set_option maxHeartbeats 4000000 in
theorem ok_12 (T:Txt K mg A):FnOk P w K mg base CX0 1 A.a_12 A.f_12 ["tree"] (liftSp K sp_12):=by
  refine fnT T.F_12 sc_12 (fun ds Q h=>by obtain ⟨t,rfl,h⟩:=h; rfl) fun cdv Ar outer s H E hr ds Q h=>?_
  obtain ⟨t,rfl,h⟩:=h
  have nd:=sc_12.nd
  refine ⟨_,(st_one (st_ret (et_cmp op_eq o_eq (et_ix ix_seq o_ix (et_v 0) et_int) et_str))),?_⟩
  cases t with
  | say a=>exact ⟨_,rfl,_,rfl,h⟩
  | ask k n v s y m=>exact ⟨_,rfl,_,rfl,h⟩

theorem sc_8:FnScope ["question","field"] ["question","field"] (defScope (top 11)):=⟨rfl,rfl,rfl,by decide +kernel,rfl,by decide +kernel,by decide +kernel⟩
set_option maxHeartbeats 4000000 in
theorem ok_8 (T:Txt K mg A):FnOk P w K mg base CX0 1 A.a_8 A.f_8 ["question","field"] (liftSp K sp_8):=by
  refine fnT T.F_8 sc_8 (fun ds Q h=>by obtain ⟨k,n,v,f,rfl,hn,hv,hl,h⟩:=h; rfl) fun cdv Ar outer s H E hr ds Q h=>?_
  obtain ⟨k,n,v,f,rfl,hn,hv,hl,h⟩:=h
  have nd:=sc_8.nd
  refine ⟨_,(st_cons (st_if (tt_cmp op_eq o_eq (et_ix ix_seq o_ix (et_v 0) et_int) et_str)
  (st_one (st_ret (et_tup (at_cons (et_ix ix_seq o_ix (et_v 0) et_int) at_nil))))
  st_nil)
  (st_one (st_ret (et_slice sl_any o_sl (et_ix ix_seq o_ix (et_v 1) et_int) ot_none (ot_some (et_op op_addAny o_add (et_index (et_ix ix_seq o_ix (et_v 1) et_int) (at_cons (et_ix ix_seq o_ix (et_v 0) et_int) at_nil) (fun h ha=>pe_bm PySem.F.plainAttrs_tuple PySem.F.slot_tuple_index PySem.F.type_tuple_index (mt_index hr) h ha)) et_int)))))),?_⟩
  show sSeq _ _ _ [.val (.tuple [.str k,.str n,.str v]),.val (fldD f)]
  unfold held at h
  refine seq_if (fun b=>b=decide (k="is")) (fun q hq=>⟨_,rfl,_,rfl,hq _ rfl⟩) (fun hT=>?_) fun hF=>?_
  · rw [if_pos (of_decide_eq_true hT.symm)] at h
    exact ⟨_,rfl,_,rfl,Nat.le_of_ble_eq_true rfl,h⟩
  · try unfold sNext
    dsimp only
    rw [if_neg (of_decide_eq_false hF.symm)] at h
    refine ⟨_,rfl,_,rfl,_,rfl,_,rfl,_,rfl,_,rfl,_,rfl,_,_,rfl,okIx_strs hn hv,?_⟩
    show Q (.tuple (cutD (f.2.map PyData.str) none (some ((f.2.idxOf v:Int) + 1))))
    have e:((f.2.idxOf v:Nat):Int) + 1=((f.2.idxOf v + 1:Nat):Int):=rfl
    rw [e,cut_map,cut_ns]; exact h

theorem sc_6:FnScope ["form","question"] ["form","question"] (defScope (top 9)):=⟨rfl,rfl,rfl,by decide +kernel,rfl,by decide +kernel,by decide +kernel⟩
set_option maxHeartbeats 4000000 in
theorem ok_6 (T:Txt K mg A):FnOk P w K mg base CX0 1 A.a_6 A.f_6 ["form","question"] (liftSp K sp_6):=by
  refine fnT T.F_6 sc_6 (fun ds Q h=>by obtain ⟨fs,an,k,n,v,f0,j,rfl,F,hj,hfn,h⟩:=h; rfl) fun cdv Ar outer s H E hr ds Q h=>?_
  obtain ⟨fs,an,k,n,v,f0,j,rfl,F,hj,hfn,h⟩:=h
  have nd:=sc_6.nd
  refine ⟨_,(st_one (st_ret (et_lindex (et_lc (fr:=[none]) (N':=["field"]) (it_val (et_ix ix_seq o_ix (et_v 0) et_int)) (fun b=>⟨(gt_name (pg_name (i:=0) (show List.Nodup (["field"]:List Str) from by decide +kernel) rfl (by first | exact Or.inl rfl | exact Or.inr rfl))),if_nil,(et_ix ix_seq o_ix (et_v 0) et_int)⟩) (fun hi hY=>pe_lcc (show lcChk _ (defScope (top 9)) ["form","question"] ["field"] [none]=true from by decide +kernel) rfl hi hY)) (at_cons (et_ix ix_seq o_ix (et_v 1) et_int) at_nil) (fun h ha=>pe_bm PySem.F.plainAttrs_list PySem.F.slot_list_index PySem.F.type_list_index (mt_lindex hr) h ha)))),?_⟩
  have n5:=F.n5
  have hjl:=(List.getElem?_eq_some_iff.mp hj).1
  have ej:(fs.map (·.1)).idxOf n=j:=by rw [← hfn]; exact name_at F hj
  have hnm:n ∈ fs.map (·.1):=List.mem_map.mpr ⟨f0,List.mem_of_getElem? hj,hfn⟩
  show eLIndex _ _ _ Q
  dsimp only [eLIndex]
  refine lcx_map (ts:=fs.map fldD) (fun R h=>⟨_,rfl,_,rfl,_,rfl,h⟩) fst (by rw [List.length_map]; omega) (fun x q hx hq=>?_) ?_
  · obtain ⟨f,hf,rfl⟩:=List.mem_map.mp hx
    exact ⟨_,rfl,_,rfl,hq⟩
  · have e:(fs.map fldD).map fst=(fs.map (·.1)).map PyData.str:=by rw [List.map_map,List.map_map]; rfl
    rw [e]
    have:=okIx_strs F.nd.2.1 hnm
    rw [ej] at this
    exact ⟨_,rfl,_,rfl,_,rfl,_,j,rfl,this,by omega,h⟩

theorem sc_7:FnScope ["question","stray","field"] ["question","stray","field"] (defScope (top 10)):=⟨rfl,rfl,rfl,by decide +kernel,rfl,by decide +kernel,by decide +kernel⟩
set_option maxHeartbeats 4000000 in
theorem ok_7 (T:Txt K mg A)
    (F_8:FnOk P w K mg base CX0 1 A.a_8 A.f_8 ["question","field"] (liftSp K sp_8)):FnOk P w K mg base CX0 2 A.a_7 A.f_7 ["question","stray","field"] (liftSp K sp_7):=by
  refine fnT T.F_7 sc_7 (fun ds Q h=>by obtain ⟨k,n,v,st,f,rfl,hn,hv,hl,h⟩:=h; rfl) fun cdv Ar outer s H E hr ds Q h=>?_
  obtain ⟨k,n,v,st,f,rfl,hn,hv,hl,h⟩:=h
  have nd:=sc_7.nd
  refine ⟨_,(st_one (st_ret (et_op op_addAny o_add (et_call F_8 T.m_8 T.k_8 T.d_8 (hr.mono (by decide)) (at_cons (et_v 0) (at_cons (et_v 2) at_nil)) (fun h=>pe_call F_8 (hr.mono (by decide)) rfl T.m_8 T.k_8 T.d_8 .nil pass0 h)) (et_if (tt_cmp op_eq o_eq (et_v 1) et_str) (et_tup (at_cons et_non at_nil)) (et_tup at_nil))))),?_⟩
  have hhl:=held_len (k:=k) (v:=v) hl
  refine ⟨_,rfl,_,rfl,k,n,v,f,rfl,hn,hv,hl,_,rfl,?_⟩
  unfold toYes at h
  show (if decide (st="yes")=true then _ else _)
  by_cases e:st="yes"
  · rw [if_pos (decide_eq_true e)]
    rw [if_pos e] at h
    exact ⟨Nat.le_of_ble_eq_true rfl,by rw [List.length_map]; show _ + 1≤_; omega,h⟩
  · rw [if_neg (by simpa using e)]
    rw [if_neg e] at h
    exact ⟨Nat.le_of_ble_eq_true rfl,by rw [List.length_map]; show _ + 0≤_; omega,h⟩

theorem sc_5:FnScope ["form","question","stray","case","number"] ["form","question","stray","case"] (defScope (top 8)):=⟨rfl,rfl,rfl,by decide +kernel,rfl,by decide +kernel,by decide +kernel⟩
set_option maxHeartbeats 4000000 in
theorem ok_5 (T:Txt K mg A)
    (F_7:FnOk P w K mg base CX0 2 A.a_7 A.f_7 ["question","stray","field"] (liftSp K sp_7))
    (F_6:FnOk P w K mg base CX0 1 A.a_6 A.f_6 ["form","question"] (liftSp K sp_6)):FnOk P w K mg base CX0 3 A.a_5 A.f_5 ["form","question","stray","case"] (liftSp K sp_5):=by
  refine fnT T.F_5 sc_5 (fun ds Q h=>by obtain ⟨fs,an,k,n,v,st,cs,rfl,F,hq,hst,hc,h⟩:=h; rfl) fun cdv Ar outer s H E hr ds Q h=>?_
  obtain ⟨fs,an,k,n,v,st,cs,rfl,F,hq,hst,hc,h⟩:=h
  have nd:=sc_5.nd
  refine ⟨_,(st_cons (st_set (i:=4) (et_call F_6 T.m_6 T.k_6 T.d_6 (hr.mono (by decide)) (at_cons (et_v 0) (at_cons (et_v 1) at_nil)) (fun h=>pe_call F_6 (hr.mono (by decide)) rfl T.m_6 T.k_6 T.d_6 .nil pass0 h)) (fun h=>ps_set (i:=4) nd rfl (by first | exact Or.inl rfl | exact Or.inr rfl) h))
  (st_one (st_ret (et_if (tt_cmp (op_in2 hr) o_in2 (et_ix ix_seq o_ix (et_v 3) (et_v 4)) (et_call F_7 T.m_7 T.k_7 T.d_7 (hr.mono (by decide)) (at_cons (et_v 1) (at_cons (et_v 2) (at_cons (et_ix ix_seq o_ix (et_ix ix_seq o_ix (et_v 0) et_int) (et_v 4)) at_nil))) (fun h=>pe_call F_7 (hr.mono (by decide)) rfl T.m_7 T.k_7 T.d_7 .nil pass0 h))) et_str et_str)))),?_⟩
  show sSeq _ _ _ [.val (frmD fs an),.val (.tuple [.str k,.str n,.str v]),.val (.str st),.val (.tuple cs),.un]
  obtain ⟨hcl,hcv⟩:=case_get hc
  obtain ⟨f0,hf0,hfn,hv0,hk0⟩:=isQ_str hq
  obtain ⟨j,hj⟩:=List.getElem?_of_mem hf0
  have hjl:=(List.getElem?_eq_some_iff.mp hj).1
  have hcj:cs[j]?=some cs[j]:=List.getElem?_eq_getElem (by omega)
  generalize hcc:cs[j]=c at hcj
  have hca:L2.atI cs (j:Int)=some c:=L2.atI_nat hcj
  have hfa:L2.atI (fs.map fldD) (j:Int)=some (fldD f0):=L2.atI_nat (by rw [List.getElem?_map,hj]; rfl)
  have hok:=hcv j f0 c hj hcj
  rw [sideS_at F hj hcj hfn] at h
  have hcd:Cd c:=by
    cases c with
    | none=>exact (th_none (n:=8) (m:=0)).cd (by decide)
    | str z=>exact (th_name (F.vals hf0 z (of_decide_eq_true hok)) (n:=8) (m:=0) (Nat.le_refl _)).cd (by decide)
    | _=>cases hok
  refine seq_set (.int (j:Int)) (fun q hq=>⟨_,rfl,_,rfl,fs,an,k,n,v,f0,j,rfl,F,hj,hfn,hq⟩) ?_
  refine ⟨_,rfl,_,rfl,_,hca,_,rfl,_,rfl,_,rfl,_,rfl,_,rfl,_,hfa,k,n,v,st,f0,rfl,F.vals hf0,hv0,(F.vs f0 hf0).2.1,fIn2_tup (ok_toYes (F.vals hf0) hv0 hcd) ?_⟩
  rw [← in_toYes hst hok] at h
  show (if inD c (.tuple (toYes k v st f0))=true then _ else _)
  cases hb:inD c (.tuple (toYes k v st f0)) with
  | true=>rw [if_pos rfl]; rw [hb,if_pos rfl] at h; exact h
  | false=>rw [if_neg (by decide)]; rw [hb,if_neg (by decide)] at h; exact h

theorem sc_10:FnScope ["side","sides"] ["side","sides"] (defScope (top 13)):=⟨rfl,rfl,rfl,by decide +kernel,rfl,by decide +kernel,by decide +kernel⟩
set_option maxHeartbeats 4000000 in
theorem ok_10 (T:Txt K mg A):FnOk P w K mg base CX0 1 A.a_10 A.f_10 ["side","sides"] (liftSpF K sp_10):=by
  refine fnF T.F_10 sc_10 (fun ds Q h=>by obtain ⟨w,ss,rfl,hl,h⟩:=h; rfl) fun cdv Ar outer s H E hr ds Q h=>?_
  obtain ⟨w,ss,rfl,hl,h⟩:=h
  have nd:=sc_10.nd
  refine ⟨_,(st_one (st_retF (ft_lc (fr:=[none,none,some 0]) (N':=["number","found","side"]) (it_enum (at_cons (et_v 1) at_nil) (fun h=>pi_enum rfl T.b_enumerate h)) (fun b=>⟨(gt_pair (pg_tup rfl (pgs_cons (pg_name (i:=0) (show List.Nodup (["number","found","side"]:List Str) from by decide +kernel) rfl (by first | exact Or.inl rfl | exact Or.inr rfl)) (pgs_cons (pg_name (i:=1) (show List.Nodup (["number","found","side"]:List Str) from by decide +kernel) rfl (by first | exact Or.inl rfl | exact Or.inr rfl)) pgs_nil)))),(if_one (tt_cmp op_eq o_eq (et_v 1) (et_v 2))),(et_v 0)⟩) (fun hi hY=>pe_lcc (show lcChk _ (defScope (top 13)) ["side","sides"] ["number","found","side"] [none,none,some 0]=true from by decide +kernel) rfl hi hY)))),?_⟩
  rw [← enum_filter] at h
  refine fLc_of (lcp_filt (ts:=enumD (ss.map PyData.str)) (fun R h=>⟨_,rfl,_,rfl,h⟩) (onW w) fstT (by rw [enumD_len,List.length_map]; omega) (fun x hx=>?_) (fun a b q hm hq=>?_) (fun a b q hm hq=>?_) h)
  · rw [enum_strs] at hx
    obtain ⟨y,_,rfl⟩:=List.mem_map.mp hx
    exact ⟨_,_,rfl⟩
  · obtain ⟨i,hi⟩:=List.getElem?_of_mem hm
    have hil:=(List.getElem?_eq_some_iff.mp hi).1
    rw [enumD_len,List.length_map] at hil
    rw [enumD_get (a:=.str ss[i]) (by rw [List.getElem?_map,List.getElem?_eq_getElem hil]; rfl)] at hi
    cases hi
    exact ⟨_,rfl,_,rfl,hq⟩
  · exact ⟨_,rfl,hq⟩

theorem sc_9:FnScope ["form","question","stray","rows","sides"] ["form","question","stray","rows"] (defScope (top 12)):=⟨rfl,rfl,rfl,by decide +kernel,rfl,by decide +kernel,by decide +kernel⟩
set_option maxHeartbeats 4000000 in
theorem ok_9 (T:Txt K mg A)
    (F_10:FnOk P w K mg base CX0 1 A.a_10 A.f_10 ["side","sides"] (liftSpF K sp_10))
    (F_5:FnOk P w K mg base CX0 3 A.a_5 A.f_5 ["form","question","stray","case"] (liftSp K sp_5)):FnOk P w K mg base CX0 4 A.a_9 A.f_9 ["form","question","stray","rows"] (liftSpP K sp_9):=by
  refine fnP T.F_9 sc_9 (fun ds Q h=>by obtain ⟨fs,an,k,n,v,st,rs,rfl,F,hq,hst,hok,hrl,h⟩:=h; rfl) fun cdv Ar outer s H E hr ds Q h=>?_
  obtain ⟨fs,an,k,n,v,st,rs,rfl,F,hq,hst,hok,hrl,h⟩:=h
  have nd:=sc_9.nd
  refine ⟨_,(st_cons (st_setlc (i:=4) (fr:=[none,some 0,some 1,some 2]) (N':=["row","form","question","stray"]) (it_val (et_v 3)) (fun b=>⟨(gt_name (pg_name (i:=0) (show List.Nodup (["row","form","question","stray"]:List Str) from by decide +kernel) rfl (by first | exact Or.inl rfl | exact Or.inr rfl))),if_nil,(et_call F_5 T.m_5 T.k_5 T.d_5 (hr.mono (by decide)) (at_cons (et_v 1) (at_cons (et_v 2) (at_cons (et_v 3) (at_cons (et_ix ix_seq o_ix (et_v 0) et_int) at_nil)))) (fun h=>pe_call F_5 (hr.mono (by decide)) rfl T.m_5 T.k_5 T.d_5 .nil pass0 h))⟩) (fun hi hY=>ps_setlcc (show lcChk _ (defScope (top 12)) ["form","question","stray","rows","sides"] ["row","form","question","stray"] [none,some 0,some 1,some 2]=true from by decide +kernel) nd rfl (by first | exact Or.inl rfl | exact Or.inr rfl) rfl hi hY rfl))
  (st_one (st_retPairF (ft_call F_10 T.m_10 T.k_10 T.d_10 (hr.mono (by decide)) (at_cons et_str (at_cons (et_v 4) at_nil)) (fun h=>pe_call F_10 (hr.mono (by decide)) rfl T.m_10 T.k_10 T.d_10 .nil pass0 h)) (ft_call F_10 T.m_10 T.k_10 T.d_10 (hr.mono (by decide)) (at_cons et_str (at_cons (et_v 4) at_nil)) (fun h=>pe_call F_10 (hr.mono (by decide)) rfl T.m_10 T.k_10 T.d_10 .nil pass0 h))))),?_⟩
  show sSeq _ _ _ [.val (frmD fs an),.val (.tuple [.str k,.str n,.str v]),.val (.str st),.val (.list (rs.map rowD)),.un]
  have e:(rs.map rowD).map (sdD fs k n v st)=(rs.map fun r=>sideS fs k n v st r.1).map PyData.str:=by rw [List.map_map,List.map_map]; rfl
  refine seq_set (.list ((rs.map fun r=>sideS fs k n v st r.1).map PyData.str)) (fun q hq'=>?_) ?_
  · refine lcx_map (ts:=rs.map rowD) (fun R h=>⟨_,rfl,_,rfl,h⟩) (sdD fs k n v st) (by rw [List.length_map]; omega) (fun x q hx hq'=>?_) ?_
    · obtain ⟨r,hr,rfl⟩:=List.mem_map.mp hx
      exact ⟨_,rfl,_,rfl,_,rfl,_,rfl,_,rfl,fs,an,k,n,v,st,r.1,rfl,F,hq,hst,(hok r hr).1,hq'⟩
    · rw [e]; exact hq'
  rw [← side_ix,← side_ix] at h
  exact ⟨_,rfl,"yes",_,rfl,by rw [List.length_map]; exact hrl,_,rfl,"no",_,rfl,by rw [List.length_map]; exact hrl,h⟩

theorem sc_13:FnScope ["knot","side"] ["knot","side"] (defScope (top 21)):=⟨rfl,rfl,rfl,by decide +kernel,rfl,by decide +kernel,by decide +kernel⟩
set_option maxHeartbeats 4000000 in
theorem ok_13 (T:Txt K mg A):FnOk P w K mg base CX0 1 A.a_13 A.f_13 ["knot","side"] (liftSp K sp_13):=by
  refine fnT T.F_13 sc_13 (fun ds Q h=>by obtain ⟨k,n,v,s,y,m,sd,rfl,h⟩:=h; rfl) fun cdv Ar outer s H E hr ds Q h=>?_
  obtain ⟨k,n,v,s,y,m,sd,rfl,h⟩:=h
  have nd:=sc_13.nd
  refine ⟨_,(st_one (st_ret (et_if (tt_cmp op_eq o_eq (et_v 1) et_str) (et_ix ix_seq o_ix (et_v 0) et_int) (et_ix ix_seq o_ix (et_v 0) et_int)))),?_⟩
  show sRet _ _ [.val (trD (.ask k n v s y m)),.val (.str sd)]
  refine ⟨_,rfl,?_⟩
  show (if decide (sd="yes")=true then _ else _)
  by_cases e:sd="yes"
  · rw [if_pos (decide_eq_true e)]
    rw [if_pos e] at h
    exact ⟨_,rfl,_,rfl,h⟩
  · rw [if_neg (by simpa using e)]
    rw [if_neg e] at h
    exact ⟨_,rfl,_,rfl,h⟩

theorem sc_15:FnScope ["form","tree","case","way","part","side"] ["form","tree","case"] (defScope (top 23)):=⟨rfl,rfl,rfl,by decide +kernel,rfl,by decide +kernel,by decide +kernel⟩
set_option maxHeartbeats 4000000 in
theorem ok_15 (T:Txt K mg A)
    (F_12:FnOk P w K mg base CX0 1 A.a_12 A.f_12 ["tree"] (liftSp K sp_12))
    (F_13:FnOk P w K mg base CX0 1 A.a_13 A.f_13 ["knot","side"] (liftSp K sp_13))
    (F_5:FnOk P w K mg base CX0 3 A.a_5 A.f_5 ["form","question","stray","case"] (liftSp K sp_5)):FnOk P w K mg base CX0 4 A.a_15 A.f_15 ["form","tree","case"] (liftSpF K sp_15):=by
  refine fnF T.F_15 sc_15 (fun ds Q h=>by obtain ⟨fs,an,t,cs,rfl,F,ht,hc,hd,h⟩:=h; rfl) fun cdv Ar outer s H E hr ds Q h=>?_
  obtain ⟨fs,an,t,cs,rfl,F,ht,hc,hd,h⟩:=h
  have nd:=sc_15.nd
  refine ⟨_,(st_cons (st_own (i:=3) at_nil (fun h=>ps_set (i:=3) nd rfl (by first | exact Or.inl rfl | exact Or.inr rfl) h))
  (st_cons (st_set (i:=4) (et_v 1) (fun h=>ps_set (i:=4) nd rfl (by first | exact Or.inl rfl | exact Or.inr rfl) h))
  (st_cons (st_while (tt_not (tt_val (et_call F_12 T.m_12 T.k_12 T.d_12 (hr.mono (by decide)) (at_cons (et_v 4) at_nil) (fun h=>pe_call F_12 (hr.mono (by decide)) rfl T.m_12 T.k_12 T.d_12 .nil pass0 h)) (fun h=>pt_val h)))
  (st_cons (st_set (i:=5) (et_call F_5 T.m_5 T.k_5 T.d_5 (hr.mono (by decide)) (at_cons (et_v 0) (at_cons (et_ix ix_seq o_ix (et_v 4) et_int) (at_cons (et_ix ix_seq o_ix (et_v 4) et_int) (at_cons (et_v 2) at_nil)))) (fun h=>pe_call F_5 (hr.mono (by decide)) rfl T.m_5 T.k_5 T.d_5 .nil pass0 h)) (fun h=>ps_set (i:=5) nd rfl (by first | exact Or.inl rfl | exact Or.inr rfl) h))
  (st_cons (st_app (i:=3) (pv 3) (et_tup (at_cons (et_ix ix_seq o_ix (et_v 4) et_int) (at_cons (et_v 5) at_nil))) (pb:=fun h=>ps_expr (pe_bm PySem.F.plainAttrs_list PySem.F.slot_list_append PySem.F.type_list_append mt_append (pv 3) h)))
  (st_one (st_set (i:=4) (et_call F_13 T.m_13 T.k_13 T.d_13 (hr.mono (by decide)) (at_cons (et_v 4) (at_cons (et_v 5) at_nil)) (fun h=>pe_call F_13 (hr.mono (by decide)) rfl T.m_13 T.k_13 T.d_13 .nil pass0 h)) (fun h=>ps_set (i:=4) nd rfl (by first | exact Or.inl rfl | exact Or.inr rfl) h))))) (fun hc hb=>ps_while PassesOwn.never hc hb))
  (st_one (st_retOwn (pv 3)))))),?_⟩
  show sSeq _ _ _ [.val (frmD fs an),.val (trD t),.val (.tuple cs),.un,.un,.un]
  refine seq_own [] (by decide) (fun q hq=>hq) ?_
  refine seq_set (trD t) (fun q hq=>⟨_,rfl,hq⟩) ?_
  refine seq_while (fun n σ=>∃ (p:Tr) (done:List D) (s5:Sl),σ=[.val (frmD fs an),.val (trD t),.val (.tuple cs),.own done,.val (trD p),s5]∧n=p.dep∧TrOk fs an p∧done++wayD fs p cs=wayD fs t cs∧done.length + p.dep≤40) t.dep ⟨t,[],_,rfl,rfl,ht,rfl,by show 0 + t.dep≤40; omega⟩ fun n σ' hP=>?_
  obtain ⟨p,done,s5,rfl,rfl,hp,hdn,hl⟩:=hP
  refine ⟨!isSay p,fun q hq=>⟨_,rfl,p,rfl,hq⟩,?_⟩
  cases p with
  | say a =>
    show (if false=true then _ else _)
    rw [if_neg (by decide)]
    have e:wayD fs (.say a) cs=[]:=rfl
    rw [e,List.append_nil] at hdn
    subst hdn
    exact ⟨_,rfl,h⟩
  | ask k n v s y m =>
    show (if true=true then _ else _)
    rw [if_pos rfl]
    obtain ⟨hq,hs,hy,hm⟩:=hp
    have e1:(Tr.ask k n v s y m).dep=max y.dep m.dep + 1:=rfl
    rw [e1] at hl ⊢
    refine seq_set (.str (sideS fs k n v s cs)) (fun q hq'=>⟨_,rfl,_,rfl,_,rfl,_,rfl,_,rfl,_,rfl,fs,an,k,n,v,s,cs,rfl,F,hq,hs,hc,hq'⟩) ?_
    refine seq_app (ts:=done) (.tuple [.tuple [.str k,.str n,.str v],.str (sideS fs k n v s cs)]) rfl (by omega) (fun q hq=>⟨_,rfl,_,rfl,_,rfl,Nat.le_of_ble_eq_true rfl,hq⟩) ?_
    refine one_set (trD (if sideS fs k n v s cs="yes" then y else m)) (fun q hq=>⟨_,rfl,_,rfl,k,n,v,s,y,m,_,rfl,hq⟩) ?_
    have e2:done++[.tuple [.tuple [.str k,.str n,.str v],.str (sideS fs k n v s cs)]]++(if sideS fs k n v s cs="yes" then wayD fs y cs else wayD fs m cs)=wayD fs t cs:=by
      rw [← hdn,List.append_assoc]; rfl
    refine ⟨(if sideS fs k n v s cs="yes" then y else m).dep,?_,if sideS fs k n v s cs="yes" then y else m,_,_,rfl,rfl,?_,?_,?_⟩
    · split <;> omega
    · split
      · exact hy
      · exact hm
    · rw [← e2]
      congr 1
      split <;> rfl
    · rw [List.length_append,List.length_singleton]
      split <;> omega

theorem sc_16:FnScope ["form","tree","case"] ["form","tree","case"] (defScope (top 24)):=⟨rfl,rfl,rfl,by decide +kernel,rfl,by decide +kernel,by decide +kernel⟩
set_option maxHeartbeats 4000000 in
theorem ok_16 (T:Txt K mg A)
    (F_15:FnOk P w K mg base CX0 4 A.a_15 A.f_15 ["form","tree","case"] (liftSpF K sp_15)):FnOk P w K mg base CX0 5 A.a_16 A.f_16 ["form","tree","case"] (liftSp K sp_16):=by
  refine fnT T.F_16 sc_16 (fun ds Q h=>by obtain ⟨fs,an,t,cs,rfl,F,ht,hc,hd,h⟩:=h; rfl) fun cdv Ar outer s H E hr ds Q h=>?_
  obtain ⟨fs,an,t,cs,rfl,F,ht,hc,hd,h⟩:=h
  have nd:=sc_16.nd
  refine ⟨_,(st_one (st_ret (et_cb c_tuple (at_cons (et_lc (fr:=[none,none]) (N':=["question","side"]) (it_val (et_fr (ft_call F_15 T.m_15 T.k_15 T.d_15 (hr.mono (by decide)) (at_cons (et_v 0) (at_cons (et_v 1) (at_cons (et_v 2) at_nil))) (fun h=>pe_call F_15 (hr.mono (by decide)) rfl T.m_15 T.k_15 T.d_15 .nil pass0 h)))) (fun b=>⟨(gt_pair (pg_tup rfl (pgs_cons (pg_name (i:=0) (show List.Nodup (["question","side"]:List Str) from by decide +kernel) rfl (by first | exact Or.inl rfl | exact Or.inr rfl)) (pgs_cons (pg_name (i:=1) (show List.Nodup (["question","side"]:List Str) from by decide +kernel) rfl (by first | exact Or.inl rfl | exact Or.inr rfl)) pgs_nil)))),if_nil,(et_v 1)⟩) (fun hi hY=>pe_lcc (show lcChk _ (defScope (top 24)) ["form","tree","case"] ["question","side"] [none,none]=true from by decide +kernel) rfl hi hY)) at_nil) (fun h=>pe_callTy call_tuple_of rfl T.b_tuple bl_tuple h)))),?_⟩
  show eCall (f1 gTuple) _ _ Q
  dsimp only [eCall,aCons,aNil]
  have hl:=way_len (fs:=fs) t cs
  refine lcp_map (ts:=wayD fs t cs) (fun R h=>⟨_,rfl,_,rfl,_,rfl,fs,an,t,cs,rfl,F,ht,hc,hd,_,rfl,h⟩) sndT (by omega) (way_pairs t cs) (fun a b q hm hq=>⟨_,rfl,hq⟩) ?_
  rw [way_sides]
  exact h

theorem sc_18:FnScope ["tree","place","part","side"] ["tree","place"] (defScope (top 26)):=⟨rfl,rfl,rfl,by decide +kernel,rfl,by decide +kernel,by decide +kernel⟩
set_option maxHeartbeats 4000000 in
theorem ok_18 (T:Txt K mg A)
    (F_12:FnOk P w K mg base CX0 1 A.a_12 A.f_12 ["tree"] (liftSp K sp_12))
    (F_13:FnOk P w K mg base CX0 1 A.a_13 A.f_13 ["knot","side"] (liftSp K sp_13)):FnOk P w K mg base CX0 2 A.a_18 A.f_18 ["tree","place"] (liftSp K sp_18):=by
  refine fnT T.F_18 sc_18 (fun ds Q h=>by obtain ⟨t,p,pl,rfl,hp,hd,h⟩:=h; rfl) fun cdv Ar outer s H E hr ds Q h=>?_
  obtain ⟨t,p,pl,rfl,hp,hd,h⟩:=h
  have nd:=sc_18.nd
  refine ⟨_,(st_cons (st_set (i:=2) (et_v 0) (fun h=>ps_set (i:=2) nd rfl (by first | exact Or.inl rfl | exact Or.inr rfl) h))
  (st_cons (st_for (it_val (et_v 1)) (gt_name (pg_name (i:=3) nd rfl (by first | exact Or.inl rfl | exact Or.inr rfl)))
  (st_cons (st_if (tw_pt (tw_or (tt_val (et_call F_12 T.m_12 T.k_12 T.d_12 (hr.mono (by decide)) (at_cons (et_v 2) at_nil) (fun h=>pe_call F_12 (hr.mono (by decide)) rfl T.m_12 T.k_12 T.d_12 .nil pass0 h)) (fun h=>pt_val h)) (tw_or1 (tt_cmp (op_notInData hr) o_data (et_v 3) (et_gtup rfl T.c_SIDES T.t_SIDES)))))
  (st_one st_no)
  st_nil)
  (st_one (st_set (i:=2) (et_call F_13 T.m_13 T.k_13 T.d_13 (hr.mono (by decide)) (at_cons (et_v 2) (at_cons (et_v 3) at_nil)) (fun h=>pe_call F_13 (hr.mono (by decide)) rfl T.m_13 T.k_13 T.d_13 .nil pass0 h)) (fun h=>ps_set (i:=2) nd rfl (by first | exact Or.inl rfl | exact Or.inr rfl) h)))) (fun hi hg hb=>ps_for PassesOwn.never rfl hi hg hb))
  (st_one (st_ret (et_v 2))))),?_⟩
  show sSeq _ _ _ [.val (trD t),.val (.tuple (pl.map PyData.str)),.un,.un]
  have hyn:=part_yn hp
  refine seq_set (trD t) (fun q hq=>⟨_,rfl,hq⟩) ?_
  refine seq_for (ts:=pl.map PyData.str) (fun R h=>⟨_,rfl,_,rfl,h⟩)
    (fun k σ=>∃ (x:Tr) (s3:Sl),σ=[.val (trD t),.val (.tuple (pl.map PyData.str)),.val (trD x),s3]∧partT x (pl.drop k)=some p) ⟨t,_,rfl,hp⟩ (fun k d σ' hx hP=>?_) fun σ' hP=>?_
  · obtain ⟨x,s3,rfl,hxp⟩:=hP
    rw [List.getElem?_map] at hx
    obtain ⟨sd,hsd,rfl⟩:=Option.map_eq_some_iff.mp hx
    have hkl:=(List.getElem?_eq_some_iff.mp hsd).1
    have ed:pl.drop k=sd::pl.drop (k + 1):=by
      rw [List.drop_eq_getElem_cons hkl]
      congr 1
      exact (List.getElem?_eq_some_iff.mp hsd).2
    rw [ed] at hxp
    have hs:=hyn sd (List.mem_of_getElem? hsd)
    cases x with
    | say a=>cases hxp
    | ask kk n v s y m =>
      have hxp':(if sd="yes" then partT y (pl.drop (k + 1)) else if sd="no" then partT m (pl.drop (k + 1)) else none)=some p:=hxp
      refine seq_if (fun b=>b=false) (fun q hq=>⟨_,rfl,.ask kk n v s y m,rfl,?_⟩) (fun hT=>by cases hT) fun _=>?_
      · show (if false=true then _ else _)
        rw [if_neg (by decide)]
        have hnm:nmS sd=true:=by
          rcases hs with rfl | rfl
          · exact nm_yes
          · exact nm_no
        refine ⟨_,rfl,ok_strs (ys:=["yes","no"]) (fun y hy=>?_) ((th_name hnm (n:=8) (m:=0) (Nat.le_refl _)).cd (by decide)),hq _ ?_⟩
        · rcases List.mem_cons.mp hy with rfl | hy
          · exact nm_yes
          · rw [List.mem_singleton.mp hy]; exact nm_no
        · have e:inD (.str sd) (.tuple ((["yes","no"]:List Str).map PyData.str))=isAns ["yes","no"] (.str sd):=any_strs _ _
          show (!inD (.str sd) (.tuple ((["yes","no"]:List Str).map PyData.str)))=false
          rw [e]
          have:isAns ["yes","no"] (.str sd)=true:=by
            refine decide_eq_true ?_
            rcases hs with rfl | rfl <;> simp
          rw [this]; rfl
      try unfold sNext
      dsimp only
      refine one_set (trD (if sd="yes" then y else m)) (fun q hq=>⟨_,rfl,_,rfl,kk,n,v,s,y,m,sd,rfl,hq⟩) ⟨if sd="yes" then y else m,_,rfl,?_⟩
      rcases hs with rfl | rfl
      · rw [if_pos rfl] at hxp' ⊢
        exact hxp'
      · rw [if_neg no_yes,if_pos rfl] at hxp'
        rw [if_neg no_yes]
        exact hxp'
  · obtain ⟨x,s3,rfl,hxp⟩:=hP
    rw [List.length_map,List.drop_length] at hxp
    have:x=p:=by cases x <;> exact Option.some.inj hxp
    subst this
    exact ⟨_,rfl,h⟩

theorem sc_17:FnScope ["form","tree","case"] ["form","tree","case"] (defScope (top 25)):=⟨rfl,rfl,rfl,by decide +kernel,rfl,by decide +kernel,by decide +kernel⟩
set_option maxHeartbeats 4000000 in
theorem ok_17 (T:Txt K mg A)
    (F_18:FnOk P w K mg base CX0 2 A.a_18 A.f_18 ["tree","place"] (liftSp K sp_18))
    (F_16:FnOk P w K mg base CX0 5 A.a_16 A.f_16 ["form","tree","case"] (liftSp K sp_16)):FnOk P w K mg base CX0 6 A.a_17 A.f_17 ["form","tree","case"] (liftSp K sp_17):=by
  refine fnT T.F_17 sc_17 (fun ds Q h=>by obtain ⟨fs,an,t,cs,rfl,F,ht,hc,hd,h⟩:=h; rfl) fun cdv Ar outer s H E hr ds Q h=>?_
  obtain ⟨fs,an,t,cs,rfl,F,ht,hc,hd,h⟩:=h
  have nd:=sc_17.nd
  refine ⟨_,(st_one (st_ret (et_ix ix_seq o_ix (et_call F_18 T.m_18 T.k_18 T.d_18 (hr.mono (by decide)) (at_cons (et_v 1) (at_cons (et_call F_16 T.m_16 T.k_16 T.d_16 (hr.mono (by decide)) (at_cons (et_v 0) (at_cons (et_v 1) (at_cons (et_v 2) at_nil))) (fun h=>pe_call F_16 (hr.mono (by decide)) rfl T.m_16 T.k_16 T.d_16 .nil pass0 h)) at_nil)) (fun h=>pe_call F_18 (hr.mono (by decide)) rfl T.m_18 T.k_18 T.d_18 .nil pass0 h)) et_int))),?_⟩
  exact ⟨_,rfl,_,rfl,_,rfl,_,rfl,fs,an,t,cs,rfl,F,ht,hc,hd,t,.say (ansT fs t cs),sidesT fs t cs,rfl,part_sides F hc t ht,hd,_,rfl,h⟩

theorem sc_11:FnScope ["rows","numbers"] ["rows","numbers"] (defScope (top 15)):=⟨rfl,rfl,rfl,by decide +kernel,rfl,by decide +kernel,by decide +kernel⟩
set_option maxHeartbeats 4000000 in
theorem ok_11 (T:Txt K mg A):FnOk P w K mg base CX0 1 A.a_11 A.f_11 ["rows","numbers"] (liftSp K sp_11):=by
  refine fnT T.F_11 sc_11 (fun ds Q h=>by obtain ⟨fs,k,n,v,st,w,rs,rfl,hl,h⟩:=h; rfl) fun cdv Ar outer s H E hr ds Q h=>?_
  obtain ⟨fs,k,n,v,st,w,rs,rfl,hl,h⟩:=h
  have nd:=sc_11.nd
  refine ⟨_,(st_one (st_ret (et_lc (fr:=[none,some 0]) (N':=["number","rows"]) (it_val (et_v 1)) (fun b=>⟨(gt_name (pg_name (i:=0) (show List.Nodup (["number","rows"]:List Str) from by decide +kernel) rfl (by first | exact Or.inl rfl | exact Or.inr rfl))),if_nil,(et_ix ix_seq o_ix (et_v 1) (et_v 0))⟩) (fun hi hY=>pe_lcc (show lcChk _ (defScope (top 15)) ["rows","numbers"] ["number","rows"] [none,some 0]=true from by decide +kernel) rfl hi hY)))),?_⟩
  show sRet _ _ [.val (.list (rs.map rowD)),.val (.list (sideIx fs k n v st rs w))]
  have hz:(sideIx fs k n v st rs w).length≤60:=by
    unfold sideIx
    have:=List.length_filter_le (onSide fs k n v st rs w) (intsTo rs.length)
    rw [intsTo_len] at this
    omega
  refine lcx_map (ts:=sideIx fs k n v st rs w) (fun R h=>⟨_,rfl,_,rfl,h⟩) (rowNo rs) (by omega) (fun x q hx hq=>?_) ?_
  · obtain ⟨j,hj,rfl⟩:=List.mem_map.mp (List.mem_filter.mp hx).1
    have hj':j < rs.length:=by simpa using hj
    have hat:L2.atI (rs.map rowD) (j:Int)=some (rowD rs[j]):=L2.atI_nat (by rw [List.getElem?_map,List.getElem?_eq_getElem hj']; rfl)
    have hr:rowNo rs (.int (j:Int))=rowD rs[j]:=by
      show (match L2.atI rs (j:Int) with | some r=>rowD r | none=>.none)=_
      rw [L2.atI_nat (List.getElem?_eq_getElem hj')]
    rw [hr] at hq
    exact ⟨_,rfl,_,rfl,_,hat,hq⟩
  · rw [ix_rows fs k n v st w rs.length rs rfl]
    exact h

theorem sc_20:FnScope ["form","rows"] ["form","rows"] (defScope (top 30)):=⟨rfl,rfl,rfl,by decide +kernel,rfl,by decide +kernel,by decide +kernel⟩
set_option maxHeartbeats 4000000 in
theorem ok_20 (T:Txt K mg A)
    (F_1:FnOk P w K mg base CX0 2 A.a_1 A.f_1 ["form","rows"] (liftSp K sp_1)):FnOk P w K mg base CX0 3 A.a_20 A.f_20 ["form","rows"] (liftSp K sp_20):=by
  refine fnT T.F_20 sc_20 (fun ds Q h=>by obtain ⟨fs,an,fa,rs,rfl,F,hfa,hrs,hl,h⟩:=h; rfl) fun cdv Ar outer s H E hr ds Q h=>?_
  obtain ⟨fs,an,fa,rs,rfl,F,hfa,hrs,hl,h⟩:=h
  have nd:=sc_20.nd
  refine ⟨_,(st_one (st_ret (et_tup (at_cons et_str (at_cons (et_call F_1 T.m_1 T.k_1 T.d_1 (hr.mono (by decide)) (at_cons (et_v 0) (at_cons (et_v 1) at_nil)) (fun h=>pe_call F_1 (hr.mono (by decide)) rfl T.m_1 T.k_1 T.d_1 .nil pass0 h)) at_nil))))),?_⟩
  show sRet _ _ [.val (frmD fs an),.val (.list (rs.map rowD))]
  exact ⟨_,rfl,_,rfl,fs,an,rs,rfl,F,hrs,hl,fun a ha=>by
    rw [ha.uniq (hfa rs hrs)]
    exact ⟨(Nat.le_of_ble_eq_true rfl),h⟩⟩

theorem sc_21:FnScope ["form","knot","rows"] ["form","knot","rows"] (defScope (top 31)):=⟨rfl,rfl,rfl,by decide +kernel,rfl,by decide +kernel,by decide +kernel⟩
set_option maxHeartbeats 4000000 in
theorem ok_21 (T:Txt K mg A)
    (F_9:FnOk P w K mg base CX0 4 A.a_9 A.f_9 ["form","question","stray","rows"] (liftSpP K sp_9))
    (F_11:FnOk P w K mg base CX0 1 A.a_11 A.f_11 ["rows","numbers"] (liftSp K sp_11)):FnOk P w K mg base CX0 5 A.a_21 A.f_21 ["form","knot","rows"] (liftSp K sp_21):=by
  refine fnT T.F_21 sc_21 (fun ds Q h=>by obtain ⟨fs,an,k,n,v,s,y,m,rs,rfl,F,hq,hs,hrs,hl,h⟩:=h; rfl) fun cdv Ar outer s H E hr ds Q h=>?_
  obtain ⟨fs,an,k,n,v,s,y,m,rs,rfl,F,hq,hs,hrs,hl,h⟩:=h
  have nd:=sc_21.nd
  refine ⟨_,(st_one (st_ret (et_lc (fr:=[none,some 2]) (N':=["numbers","rows"]) (it_val (et_pr (ppt_call F_9 T.m_9 T.k_9 T.d_9 (hr.mono (by decide)) (at_cons (et_v 0) (at_cons (et_ix ix_seq o_ix (et_v 1) et_int) (at_cons (et_ix ix_seq o_ix (et_v 1) et_int) (at_cons (et_v 2) at_nil)))) (fun h=>pe_call F_9 (hr.mono (by decide)) rfl T.m_9 T.k_9 T.d_9 .nil pass0 h)))) (fun b=>⟨(gt_name (pg_name (i:=0) (show List.Nodup (["numbers","rows"]:List Str) from by decide +kernel) rfl (by first | exact Or.inl rfl | exact Or.inr rfl))),if_nil,(et_call F_11 T.m_11 T.k_11 T.d_11 (hr.mono (by decide)) (at_cons (et_v 1) (at_cons (et_v 0) at_nil)) (fun h=>pe_call F_11 (hr.mono (by decide)) rfl T.m_11 T.k_11 T.d_11 .nil pass0 h))⟩) (fun hi hY=>pe_lcc (show lcChk _ (defScope (top 31)) ["form","knot","rows"] ["numbers","rows"] [none,some 2]=true from by decide +kernel) rfl hi hY)))),?_⟩
  show sRet _ _ [.val (frmD fs an),.val (trD (.ask k n v s y m)),.val (.list (rs.map rowD))]
  have e1:(rs.filter fun r=>decide (sideS fs k n v s r.1="yes"))=rs.filter (onY fs k n v s):=rfl
  refine lcx_in (ts:=[.list (sideIx fs k n v s rs "yes"),.list (sideIx fs k n v s rs "no")]) (fun R h=>⟨_,rfl,_,rfl,_,rfl,_,rfl,_,rfl,_,rfl,fs,an,k,n,v,s,rs,rfl,F,hq,hs,hrs,hl,_,rfl,h⟩) (fun i _ y=>(i=0→y=.list ((rs.filter (onY fs k n v s)).map rowD))∧(i=1→y=.list ((rs.filter fun r=>!onY fs k n v s r).map rowD))) (Nat.le_of_ble_eq_true rfl) (fun i x q hx hq'=>?_) fun ys hyl hy=>?_
  · have hi:i < 2:=(List.getElem?_eq_some_iff.mp hx).1
    rcases (show i=0 ∨ i=1 by omega) with rfl | rfl
    · cases hx
      exact ⟨_,rfl,_,rfl,fs,k,n,v,s,"yes",rs,rfl,hl,hq' _ ⟨fun _=>rfl,fun z=>by cases z⟩⟩
    · cases hx
      refine ⟨_,rfl,_,rfl,fs,k,n,v,s,"no",rs,rfl,hl,?_⟩
      rw [no_side F hq hs hrs]
      exact hq' _ ⟨(fun z=>by cases z),fun _=>rfl⟩
  · match ys,hyl,hy with
    | [a,b],_,hy =>
      have h0:=(hy 0 _ a rfl rfl).1 rfl
      have h1:=(hy 1 _ b rfl rfl).2 rfl
      rw [h0,h1]
      exact h

theorem sc_14:FnScope ["tree"] ["tree"] (defScope (top 22)):=⟨rfl,rfl,rfl,by decide +kernel,rfl,by decide +kernel,by decide +kernel⟩
set_option maxHeartbeats 4000000 in
theorem step_14 (dd:Nat) (T:Txt K mg A)
    (F_12:FnOk P w K mg base CX0 1 A.a_12 A.f_12 ["tree"] (liftSp K sp_12))
    (F_14:FnOk P w K mg base CX0 (1 + dd) A.a_14 A.f_14 ["tree"] (liftSp K (sp_14_lt dd))):FnOk P w K mg base CX0 (1 + dd + 1) A.a_14 A.f_14 ["tree"] (liftSp K (sp_14_lt (dd + 1))):=by
  refine fnT T.F_14 sc_14 (fun ds Q h=>by obtain ⟨t,rfl,hk,hd,h⟩:=h; rfl) fun cdv Ar outer s H E hr ds Q h=>?_
  obtain ⟨t,rfl,hk,hd,h⟩:=h
  have nd:=sc_14.nd
  refine ⟨_,(st_cons (st_if (tt_val (et_call F_12 T.m_12 T.k_12 T.d_12 (hr.mono (by omega)) (at_cons (et_v 0) at_nil) (fun h=>pe_call F_12 (hr.mono (by omega)) rfl T.m_12 T.k_12 T.d_12 .nil pass0 h)) (fun h=>pt_val h))
  (st_one (st_ret et_int))
  st_nil)
  (st_one (st_ret (et_op op_addAny o_add (et_op op_addAny o_add et_int (et_call F_14 T.m_14 T.k_14 T.d_14 (hr.mono (by omega)) (at_cons (et_ix ix_seq o_ix (et_v 0) et_int) at_nil) (fun h=>pe_call F_14 (hr.mono (by omega)) rfl T.m_14 T.k_14 T.d_14 .nil pass0 h))) (et_call F_14 T.m_14 T.k_14 T.d_14 (hr.mono (by omega)) (at_cons (et_ix ix_seq o_ix (et_v 0) et_int) at_nil) (fun h=>pe_call F_14 (hr.mono (by omega)) rfl T.m_14 T.k_14 T.d_14 .nil pass0 h)))))),?_⟩
  show sSeq _ _ _ [.val (trD t)]
  cases t with
  | say a=>exact seq_if (fun b=>b=true) (fun q hq=>⟨_,rfl,.say a,rfl,hq _ rfl⟩) (fun _=>h) fun hF=>by cases hF
  | ask k n v s y m =>
    have e1:(Tr.ask k n v s y m).dep=max y.dep m.dep + 1:=rfl
    have e2:(Tr.ask k n v s y m).kn=y.kn + m.kn + 1:=rfl
    rw [e1] at hd
    rw [e2] at hk
    refine seq_if (fun b=>b=false) (fun q hq=>⟨_,rfl,.ask k n v s y m,rfl,hq _ rfl⟩) (fun hT=>by cases hT) fun _=>?_
    try unfold sNext
    dsimp only
    refine ⟨_,rfl,_,rfl,y,rfl,by omega,by omega,_,rfl,_,rfl,m,rfl,by omega,by omega,?_⟩
    have e3:(1:Int) + (y.kn:Int) + (m.kn:Int)=(((Tr.ask k n v s y m).kn:Nat):Int):=by
      rw [e2]; omega
    show Q (.int (1 + (y.kn:Int) + (m.kn:Int)))
    rw [e3]; exact h

theorem ok_14 (T:Txt K mg A)
    (F_12:FnOk P w K mg base CX0 1 A.a_12 A.f_12 ["tree"] (liftSp K sp_12)):FnOk P w K mg base CX0 42 A.a_14 A.f_14 ["tree"] (liftSp K sp_14):=by
  have h:∀ dd:Nat,FnOk P w K mg base CX0 (1 + dd) A.a_14 A.f_14 ["tree"] (liftSp K (sp_14_lt dd)):=fun dd=>by
    induction dd with
    | zero=>exact fn_imp fn_never fun ds Q h=>never_14 h
    | succ dd ih=>exact step_14 dd T F_12 ih
  exact h 41
theorem sc_19:FnScope ["form","tree","rows","prices","slips"] ["form","tree","rows","prices"] (defScope (top 28)):=⟨rfl,rfl,rfl,by decide +kernel,rfl,by decide +kernel,by decide +kernel⟩
set_option maxHeartbeats 4000000 in
theorem ok_19 (T:Txt K mg A)
    (F_17:FnOk P w K mg base CX0 6 A.a_17 A.f_17 ["form","tree","case"] (liftSp K sp_17))
    (F_14:FnOk P w K mg base CX0 42 A.a_14 A.f_14 ["tree"] (liftSp K sp_14)):FnOk P w K mg base CX0 43 A.a_19 A.f_19 ["form","tree","rows","prices"] (liftSp K sp_19):=by
  refine fnT T.F_19 sc_19 (fun ds Q h=>by obtain ⟨fs,an,t,rs,a,b,rfl,F,ht,htd,htk,hrs,hl,a0,a1,b0,b1,h⟩:=h; rfl) fun cdv Ar outer s H E hr ds Q h=>?_
  obtain ⟨fs,an,t,rs,a,b,rfl,F,ht,htd,htk,hrs,hl,a0,a1,b0,b1,h⟩:=h
  have nd:=sc_19.nd
  refine ⟨_,(st_cons (st_setlc (i:=4) (fr:=[none,some 0,some 1]) (N':=["row","form","tree"]) (it_val (et_v 2)) (fun b=>⟨(gt_name (pg_name (i:=0) (show List.Nodup (["row","form","tree"]:List Str) from by decide +kernel) rfl (by first | exact Or.inl rfl | exact Or.inr rfl))),(if_one (tt_cmp op_ne o_ne (et_call F_17 T.m_17 T.k_17 T.d_17 (hr.mono (by decide)) (at_cons (et_v 1) (at_cons (et_v 2) (at_cons (et_ix ix_seq o_ix (et_v 0) et_int) at_nil))) (fun h=>pe_call F_17 (hr.mono (by decide)) rfl T.m_17 T.k_17 T.d_17 .nil pass0 h)) (et_ix ix_seq o_ix (et_v 0) et_int))),(et_v 0)⟩) (fun hi hY=>ps_setlcc (show lcChk _ (defScope (top 28)) ["form","tree","rows","prices","slips"] ["row","form","tree"] [none,some 0,some 1]=true from by decide +kernel) nd rfl (by first | exact Or.inl rfl | exact Or.inr rfl) rfl hi hY rfl))
  (st_one (st_ret (et_op op_addAny o_add (et_op op_mulAny o_mul (et_ix ix_seq o_ix (et_v 3) et_int) (et_cb c_len (at_cons (et_v 4) at_nil) (fun h=>pe_callB call_lenAny rfl T.b_len bl_len h))) (et_op op_mulAny o_mul (et_ix ix_seq o_ix (et_v 3) et_int) (et_call F_14 T.m_14 T.k_14 T.d_14 (hr.mono (by decide)) (at_cons (et_v 1) at_nil) (fun h=>pe_call F_14 (hr.mono (by decide)) rfl T.m_14 T.k_14 T.d_14 .nil pass0 h))))))),?_⟩
  show sSeq _ _ _ [.val (frmD fs an),.val (trD t),.val (.list (rs.map rowD)),.val (.tuple [.int a,.int b]),.un]
  refine seq_set (.list ((rs.filter fun r=>!decide (ansT fs t r.1=r.2)).map rowD)) (fun q hq=>?_) ?_
  · refine lcx_filt (ts:=rs.map rowD) (fun R h=>⟨_,rfl,_,rfl,h⟩) (fun x=>match x with | .tuple [.tuple cs,.str w]=>!decide (ansT fs t cs=w) | _=>false) id (by rw [List.length_map]; omega) (fun x q hx hq=>?_) (fun x q hx hq=>⟨_,rfl,hq⟩) ?_
    · obtain ⟨r,hr,rfl⟩:=List.mem_map.mp hx
      exact ⟨_,rfl,_,rfl,_,rfl,_,rfl,fs,an,t,r.1,rfl,F,ht,(hrs r hr).1,htd,_,rfl,_,rfl,hq⟩
    · rw [List.map_id,List.filter_map]
      exact hq
  refine ⟨_,rfl,_,rfl,_,rfl,.inl ⟨by omega,by omega⟩,_,rfl,_,rfl,_,rfl,t,rfl,htk,by omega,.inl ⟨by omega,by omega⟩,?_⟩
  show Q (.int (a * ((((rs.filter fun r=>!decide (ansT fs t r.1=r.2)).map rowD).length:Nat):Int) + b * (t.kn:Nat)))
  rw [List.length_map]
  exact h

theorem sc_22:FnScope ["price"] ["price"] (defScope (top 32)):=⟨rfl,rfl,rfl,by decide +kernel,rfl,by decide +kernel,by decide +kernel⟩
set_option maxHeartbeats 4000000 in
theorem ok_22 (T:Txt K mg A):FnOk P w K mg base CX0 1 A.a_22 A.f_22 ["price"] (liftSp K sp_22):=by
  refine fnT T.F_22 sc_22 (fun ds Q h=>by obtain ⟨a,b,rfl,h⟩:=h; rfl) fun cdv Ar outer s H E hr ds Q h=>?_
  obtain ⟨a,b,rfl,h⟩:=h
  have nd:=sc_22.nd
  refine ⟨_,(st_one (st_ret (et_tup (at_cons (et_ix ix_seq o_ix (et_v 0) et_int) (at_cons (et_ix ix_seq o_ix (et_v 0) et_int) at_nil))))),?_⟩
  show sRet _ _ [.val (.tuple [a,b])]
  exact ⟨_,rfl,_,rfl,_,rfl,_,rfl,(Nat.le_of_ble_eq_true rfl),h⟩

theorem sc_24:FnScope ["form","tree","rows","prices","leaf","leaf_cost","sides","yes","no","cost"] ["form","tree","rows","prices"] (defScope (top 34)):=⟨rfl,rfl,rfl,by decide +kernel,rfl,by decide +kernel,by decide +kernel⟩
set_option maxHeartbeats 4000000 in
theorem step_24 (dd:Nat) (T:Txt K mg A)
    (F_19:FnOk P w K mg base CX0 43 A.a_19 A.f_19 ["form","tree","rows","prices"] (liftSp K sp_19))
    (F_20:FnOk P w K mg base CX0 3 A.a_20 A.f_20 ["form","rows"] (liftSp K sp_20))
    (F_12:FnOk P w K mg base CX0 1 A.a_12 A.f_12 ["tree"] (liftSp K sp_12))
    (F_21:FnOk P w K mg base CX0 5 A.a_21 A.f_21 ["form","knot","rows"] (liftSp K sp_21))
    (F_24:FnOk P w K mg base CX0 (44 + dd) A.a_24 A.f_24 ["form","tree","rows","prices"] (liftSp K (sp_24_lt dd))):FnOk P w K mg base CX0 (44 + dd + 1) A.a_24 A.f_24 ["form","tree","rows","prices"] (liftSp K (sp_24_lt (dd + 1))):=by
  refine fnT T.F_24 sc_24 (fun ds Q h=>by obtain ⟨fs,an,fa,t,rs,a,b,rfl,F,hfa,ht,hd,hrs,hl,a0,a1,b0,b1,h⟩:=h; rfl) fun cdv Ar outer s H E hr ds Q h=>?_
  obtain ⟨fs,an,fa,t,rs,a,b,rfl,F,hfa,ht,hd,hrs,hl,a0,a1,b0,b1,h⟩:=h
  have nd:=sc_24.nd
  refine ⟨_,(st_cons (st_if (tt_val (et_call F_12 T.m_12 T.k_12 T.d_12 (hr.mono (by omega)) (at_cons (et_v 1) at_nil) (fun h=>pe_call F_12 (hr.mono (by omega)) rfl T.m_12 T.k_12 T.d_12 .nil pass0 h)) (fun h=>pt_val h))
  (st_one (st_ret (et_tup (at_cons (et_call F_19 T.m_19 T.k_19 T.d_19 (hr.mono (by omega)) (at_cons (et_v 0) (at_cons (et_v 1) (at_cons (et_v 2) (at_cons (et_v 3) at_nil)))) (fun h=>pe_call F_19 (hr.mono (by omega)) rfl T.m_19 T.k_19 T.d_19 .nil pass0 h)) (at_cons (et_v 1) at_nil)))))
  st_nil)
  (st_cons (st_set (i:=4) (et_call F_20 T.m_20 T.k_20 T.d_20 (hr.mono (by omega)) (at_cons (et_v 0) (at_cons (et_v 2) at_nil)) (fun h=>pe_call F_20 (hr.mono (by omega)) rfl T.m_20 T.k_20 T.d_20 .nil pass0 h)) (fun h=>ps_set (i:=4) nd rfl (by first | exact Or.inl rfl | exact Or.inr rfl) h))
  (st_cons (st_set (i:=5) (et_call F_19 T.m_19 T.k_19 T.d_19 (hr.mono (by omega)) (at_cons (et_v 0) (at_cons (et_v 4) (at_cons (et_v 2) (at_cons (et_v 3) at_nil)))) (fun h=>pe_call F_19 (hr.mono (by omega)) rfl T.m_19 T.k_19 T.d_19 .nil pass0 h)) (fun h=>ps_set (i:=5) nd rfl (by first | exact Or.inl rfl | exact Or.inr rfl) h))
  (st_cons (st_set (i:=6) (et_call F_21 T.m_21 T.k_21 T.d_21 (hr.mono (by omega)) (at_cons (et_v 0) (at_cons (et_v 1) (at_cons (et_v 2) at_nil))) (fun h=>pe_call F_21 (hr.mono (by omega)) rfl T.m_21 T.k_21 T.d_21 .nil pass0 h)) (fun h=>ps_set (i:=6) nd rfl (by first | exact Or.inl rfl | exact Or.inr rfl) h))
  (st_cons (st_set (i:=7) (et_call F_24 T.m_24 T.k_24 T.d_24 (hr.mono (by omega)) (at_cons (et_v 0) (at_cons (et_ix ix_seq o_ix (et_v 1) et_int) (at_cons (et_ix ix_seq o_ix (et_v 6) et_int) (at_cons (et_v 3) at_nil)))) (fun h=>pe_call F_24 (hr.mono (by omega)) rfl T.m_24 T.k_24 T.d_24 .nil pass0 h)) (fun h=>ps_set (i:=7) nd rfl (by first | exact Or.inl rfl | exact Or.inr rfl) h))
  (st_cons (st_set (i:=8) (et_call F_24 T.m_24 T.k_24 T.d_24 (hr.mono (by omega)) (at_cons (et_v 0) (at_cons (et_ix ix_seq o_ix (et_v 1) et_int) (at_cons (et_ix ix_seq o_ix (et_v 6) et_int) (at_cons (et_v 3) at_nil)))) (fun h=>pe_call F_24 (hr.mono (by omega)) rfl T.m_24 T.k_24 T.d_24 .nil pass0 h)) (fun h=>ps_set (i:=8) nd rfl (by first | exact Or.inl rfl | exact Or.inr rfl) h))
  (st_cons (st_set (i:=9) (et_op op_addAny o_add (et_op op_addAny o_add (et_ix ix_seq o_ix (et_v 3) et_int) (et_ix ix_seq o_ix (et_v 7) et_int)) (et_ix ix_seq o_ix (et_v 8) et_int)) (fun h=>ps_set (i:=9) nd rfl (by first | exact Or.inl rfl | exact Or.inr rfl) h))
  (st_cons (st_if (tt_cmp op_le o_B0 (et_v 5) (et_v 9))
  (st_one (st_ret (et_tup (at_cons (et_v 5) (at_cons (et_v 4) at_nil)))))
  st_nil)
  (st_one (st_ret (et_tup (at_cons (et_v 9) (at_cons (et_op op_addAny o_add (et_slice sl_any o_sl (et_v 1) ot_none (ot_some et_int)) (et_tup (at_cons (et_ix ix_seq o_ix (et_v 7) et_int) (at_cons (et_ix ix_seq o_ix (et_v 8) et_int) at_nil)))) at_nil))))))))))))),?_⟩
  show sSeq _ _ _ [.val (frmD fs an),.val (trD t),.val (.list (rs.map rowD)),.val (.tuple [.int a,.int b]),.un,.un,.un,.un,.un,.un]
  have lf:∀ z:Str,a * (slipN fs (.say z) rs:Nat) + b * (((Tr.say z).kn:Nat):Int)=a * (slipN fs (.say z) rs:Nat):=fun z=>by
    show _ + b * 0=_
    rw [Int.mul_zero,Int.add_zero]
  cases t with
  | say z =>
    refine seq_if (fun b=>b=true) (fun q hq=>⟨_,rfl,.say z,rfl,hq _ rfl⟩) (fun _=>?_) fun hF=>by cases hF
    refine ⟨_,rfl,_,rfl,_,rfl,_,rfl,fs,an,.say z,rs,a,b,rfl,F,ht,Nat.zero_le _,Nat.zero_le _,hrs,hl,a0,a1,b0,b1,_,rfl,(Nat.le_of_ble_eq_true rfl),?_⟩
    rw [lf]; exact h
  | ask k n v s y m =>
    have e1:(Tr.ask k n v s y m).dep=max y.dep m.dep + 1:=rfl
    rw [e1] at hd
    obtain ⟨hq,hs,hy,hm⟩:=ht
    have l1:=List.length_filter_le (onY fs k n v s) rs
    have l2:=List.length_filter_le (fun r=>!onY fs k n v s r) rs
    have hF2:TrOk fs an (.say (fa rs)):=by
      obtain ⟨i,hi,_⟩:=hfa rs hrs
      exact List.mem_of_getElem? hi
    refine seq_if (fun b=>b=false) (fun q hq=>⟨_,rfl,.ask k n v s y m,rfl,hq _ rfl⟩) (fun hT=>by cases hT) fun _=>?_
    try unfold sNext
    dsimp only
    refine seq_set (trD (.say (fa rs))) (fun q hq'=>⟨_,rfl,_,rfl,fs,an,fa,rs,rfl,F,hfa,hrs,hl,hq'⟩) ?_
    refine seq_set (.int (a * (slipN fs (.say (fa rs)) rs:Nat))) (fun q hq'=>⟨_,rfl,_,rfl,_,rfl,_,rfl,fs,an,.say (fa rs),rs,a,b,rfl,F,hF2,Nat.zero_le _,Nat.zero_le _,hrs,hl,a0,a1,b0,b1,by rw [lf]; exact hq'⟩) ?_
    refine seq_set (.list [.list ((rs.filter (onY fs k n v s)).map rowD),.list ((rs.filter fun r=>!onY fs k n v s r).map rowD)]) (fun q hq'=>⟨_,rfl,_,rfl,_,rfl,fs,an,k,n,v,s,y,m,rs,rfl,F,hq,hs,hrs,hl,hq'⟩) ?_
    refine seq_set (.tuple [.int (lw fs fa a b y (rs.filter (onY fs k n v s))).1,trD (lw fs fa a b y (rs.filter (onY fs k n v s))).2]) (fun q hq'=>⟨_,rfl,_,rfl,_,rfl,_,rfl,_,rfl,_,rfl,fs,an,fa,y,_,a,b,rfl,F,hfa,hy,by omega,hrs.filt _,by omega,a0,a1,b0,b1,hq'⟩) ?_
    refine seq_set (.tuple [.int (lw fs fa a b m (rs.filter fun r=>!onY fs k n v s r)).1,trD (lw fs fa a b m (rs.filter fun r=>!onY fs k n v s r)).2]) (fun q hq'=>⟨_,rfl,_,rfl,_,rfl,_,rfl,_,rfl,_,rfl,fs,an,fa,m,_,a,b,rfl,F,hfa,hm,by omega,hrs.filt _,by omega,a0,a1,b0,b1,hq'⟩) ?_
    refine seq_set (.int (b + (lw fs fa a b y (rs.filter (onY fs k n v s))).1 + (lw fs fa a b m (rs.filter fun r=>!onY fs k n v s r)).1)) (fun q hq'=>⟨_,rfl,_,rfl,_,rfl,_,rfl,_,rfl,_,rfl,hq'⟩) ?_
    have el:lw fs fa a b (.ask k n v s y m) rs=if a * (slipN fs (.say (fa rs)) rs:Nat)≤b + (lw fs fa a b y (rs.filter (onY fs k n v s))).1 + (lw fs fa a b m (rs.filter fun r=>!onY fs k n v s r)).1 then (a * (slipN fs (.say (fa rs)) rs:Nat),.say (fa rs)) else (b + (lw fs fa a b y (rs.filter (onY fs k n v s))).1 + (lw fs fa a b m (rs.filter fun r=>!onY fs k n v s r)).1,.ask k n v s (lw fs fa a b y (rs.filter (onY fs k n v s))).2 (lw fs fa a b m (rs.filter fun r=>!onY fs k n v s r)).2):=rfl
    rw [el] at h
    refine seq_if (fun z=>z=decide (a * (slipN fs (.say (fa rs)) rs:Nat)≤b + (lw fs fa a b y (rs.filter (onY fs k n v s))).1 + (lw fs fa a b m (rs.filter fun r=>!onY fs k n v s r)).1)) (fun q hq'=>⟨_,rfl,_,rfl,hq' _ rfl⟩) (fun hz=>?_) fun hz=>?_
    · rw [if_pos (of_decide_eq_true hz.symm)] at h
      exact ⟨_,rfl,_,rfl,(Nat.le_of_ble_eq_true rfl),h⟩
    · rw [if_neg (of_decide_eq_false hz.symm)] at h
      try unfold sNext
      dsimp only
      refine ⟨_,rfl,_,rfl,_,rfl,_,rfl,_,rfl,_,rfl,(Nat.le_of_ble_eq_true rfl),?_⟩
      show fAdd (.tuple (cutD [PyData.str "ask",.tuple [.str k,.str n,.str v],.str s,trD y,trD m] none (some 3))) _ _
      rw [cut3]
      exact ⟨(Nat.le_of_ble_eq_true rfl),(Nat.le_of_ble_eq_true rfl),h⟩

theorem ok_24 (T:Txt K mg A)
    (F_19:FnOk P w K mg base CX0 43 A.a_19 A.f_19 ["form","tree","rows","prices"] (liftSp K sp_19))
    (F_20:FnOk P w K mg base CX0 3 A.a_20 A.f_20 ["form","rows"] (liftSp K sp_20))
    (F_12:FnOk P w K mg base CX0 1 A.a_12 A.f_12 ["tree"] (liftSp K sp_12))
    (F_21:FnOk P w K mg base CX0 5 A.a_21 A.f_21 ["form","knot","rows"] (liftSp K sp_21)):FnOk P w K mg base CX0 57 A.a_24 A.f_24 ["form","tree","rows","prices"] (liftSp K sp_24):=by
  have h:∀ dd:Nat,FnOk P w K mg base CX0 (44 + dd) A.a_24 A.f_24 ["form","tree","rows","prices"] (liftSp K (sp_24_lt dd)):=fun dd=>by
    induction dd with
    | zero=>exact fn_imp fn_never fun ds Q h=>never_24 h
    | succ dd ih=>exact step_24 dd T F_19 F_20 F_12 F_21 ih
  exact h 13
theorem sc_23:FnScope ["form","tree","rows","price"] ["form","tree","rows","price"] (defScope (top 33)):=⟨rfl,rfl,rfl,by decide +kernel,rfl,by decide +kernel,by decide +kernel⟩
set_option maxHeartbeats 4000000 in
theorem ok_23 (T:Txt K mg A)
    (F_24:FnOk P w K mg base CX0 57 A.a_24 A.f_24 ["form","tree","rows","prices"] (liftSp K sp_24))
    (F_22:FnOk P w K mg base CX0 1 A.a_22 A.f_22 ["price"] (liftSp K sp_22)):FnOk P w K mg base CX0 58 A.a_23 A.f_23 ["form","tree","rows","price"] (liftSp K sp_23):=by
  refine fnT T.F_23 sc_23 (fun ds Q h=>by obtain ⟨fs,an,fa,t,rs,a,b,rfl,F,hfa,ht,hd,hrs,hl,a0,a1,b0,b1,h⟩:=h; rfl) fun cdv Ar outer s H E hr ds Q h=>?_
  obtain ⟨fs,an,fa,t,rs,a,b,rfl,F,hfa,ht,hd,hrs,hl,a0,a1,b0,b1,h⟩:=h
  have nd:=sc_23.nd
  refine ⟨_,(st_one (st_ret (et_ix ix_seq o_ix (et_call F_24 T.m_24 T.k_24 T.d_24 (hr.mono (by decide)) (at_cons (et_v 0) (at_cons (et_v 1) (at_cons (et_v 2) (at_cons (et_call F_22 T.m_22 T.k_22 T.d_22 (hr.mono (by decide)) (at_cons (et_v 3) at_nil) (fun h=>pe_call F_22 (hr.mono (by decide)) rfl T.m_22 T.k_22 T.d_22 .nil pass0 h)) at_nil)))) (fun h=>pe_call F_24 (hr.mono (by decide)) rfl T.m_24 T.k_24 T.d_24 .nil pass0 h)) et_int))),?_⟩
  show sRet _ _ [.val (frmD fs an),.val (trD t),.val (.list (rs.map rowD)),.val (.tuple [.int b,.int a])]
  exact ⟨_,rfl,_,rfl,_,rfl,_,rfl,_,_,rfl,fs,an,fa,t,rs,a,b,rfl,F,hfa,ht,hd,hrs,hl,a0,a1,b0,b1,_,rfl,h⟩

theorem sc_27:FnScope ["form","tree","rows","sides","yes","no","slips","saved"] ["form","tree","rows"] (defScope (top 37)):=⟨rfl,rfl,rfl,by decide +kernel,rfl,by decide +kernel,by decide +kernel⟩
set_option maxHeartbeats 4000000 in
theorem step_27 (dd:Nat) (T:Txt K mg A)
    (F_19:FnOk P w K mg base CX0 43 A.a_19 A.f_19 ["form","tree","rows","prices"] (liftSp K sp_19))
    (F_20:FnOk P w K mg base CX0 3 A.a_20 A.f_20 ["form","rows"] (liftSp K sp_20))
    (F_2:FnOk P w K mg base CX0 2 A.a_2 A.f_2 ["top","bottom"] (liftSp K sp_2))
    (F_12:FnOk P w K mg base CX0 1 A.a_12 A.f_12 ["tree"] (liftSp K sp_12))
    (F_14:FnOk P w K mg base CX0 42 A.a_14 A.f_14 ["tree"] (liftSp K sp_14))
    (F_21:FnOk P w K mg base CX0 5 A.a_21 A.f_21 ["form","knot","rows"] (liftSp K sp_21))
    (F_27:FnOk P w K mg base CX0 (44 + dd) A.a_27 A.f_27 ["form","tree","rows"] (liftSp K (sp_27_lt dd))):FnOk P w K mg base CX0 (44 + dd + 1) A.a_27 A.f_27 ["form","tree","rows"] (liftSp K (sp_27_lt (dd + 1))):=by
  refine fnT T.F_27 sc_27 (fun ds Q h=>by obtain ⟨fs,an,fa,t,rs,rfl,F,hfa,ht,hd,hd40,hkn,hrs,hl,hsv,h⟩:=h; rfl) fun cdv Ar outer s H E hr ds Q h=>?_
  obtain ⟨fs,an,fa,t,rs,rfl,F,hfa,ht,hd,hd40,hkn,hrs,hl,hsv,h⟩:=h
  have nd:=sc_27.nd
  refine ⟨_,(st_cons (st_if (tt_val (et_call F_12 T.m_12 T.k_12 T.d_12 (hr.mono (by omega)) (at_cons (et_v 1) at_nil) (fun h=>pe_call F_12 (hr.mono (by omega)) rfl T.m_12 T.k_12 T.d_12 .nil pass0 h)) (fun h=>pt_val h))
  (st_one (st_ret (et_tup (at_cons (et_call F_19 T.m_19 T.k_19 T.d_19 (hr.mono (by omega)) (at_cons (et_v 0) (at_cons (et_v 1) (at_cons (et_v 2) (at_cons (et_tup (at_cons et_int (at_cons et_int at_nil))) at_nil)))) (fun h=>pe_call F_19 (hr.mono (by omega)) rfl T.m_19 T.k_19 T.d_19 .nil pass0 h)) (at_cons (et_lst at_nil) at_nil)))))
  st_nil)
  (st_cons (st_set (i:=3) (et_call F_21 T.m_21 T.k_21 T.d_21 (hr.mono (by omega)) (at_cons (et_v 0) (at_cons (et_v 1) (at_cons (et_v 2) at_nil))) (fun h=>pe_call F_21 (hr.mono (by omega)) rfl T.m_21 T.k_21 T.d_21 .nil pass0 h)) (fun h=>ps_set (i:=3) nd rfl (by first | exact Or.inl rfl | exact Or.inr rfl) h))
  (st_cons (st_set (i:=4) (et_call F_27 T.m_27 T.k_27 T.d_27 (hr.mono (by omega)) (at_cons (et_v 0) (at_cons (et_ix ix_seq o_ix (et_v 1) et_int) (at_cons (et_ix ix_seq o_ix (et_v 3) et_int) at_nil))) (fun h=>pe_call F_27 (hr.mono (by omega)) rfl T.m_27 T.k_27 T.d_27 .nil pass0 h)) (fun h=>ps_set (i:=4) nd rfl (by first | exact Or.inl rfl | exact Or.inr rfl) h))
  (st_cons (st_set (i:=5) (et_call F_27 T.m_27 T.k_27 T.d_27 (hr.mono (by omega)) (at_cons (et_v 0) (at_cons (et_ix ix_seq o_ix (et_v 1) et_int) (at_cons (et_ix ix_seq o_ix (et_v 3) et_int) at_nil))) (fun h=>pe_call F_27 (hr.mono (by omega)) rfl T.m_27 T.k_27 T.d_27 .nil pass0 h)) (fun h=>ps_set (i:=5) nd rfl (by first | exact Or.inl rfl | exact Or.inr rfl) h))
  (st_cons (st_set (i:=6) (et_op op_addAny o_add (et_ix ix_seq o_ix (et_v 4) et_int) (et_ix ix_seq o_ix (et_v 5) et_int)) (fun h=>ps_set (i:=6) nd rfl (by first | exact Or.inl rfl | exact Or.inr rfl) h))
  (st_cons (st_set (i:=7) (et_op op_sub o_I0 (et_call F_19 T.m_19 T.k_19 T.d_19 (hr.mono (by omega)) (at_cons (et_v 0) (at_cons (et_call F_20 T.m_20 T.k_20 T.d_20 (hr.mono (by omega)) (at_cons (et_v 0) (at_cons (et_v 2) at_nil)) (fun h=>pe_call F_20 (hr.mono (by omega)) rfl T.m_20 T.k_20 T.d_20 .nil pass0 h)) (at_cons (et_v 2) (at_cons (et_tup (at_cons et_int (at_cons et_int at_nil))) at_nil)))) (fun h=>pe_call F_19 (hr.mono (by omega)) rfl T.m_19 T.k_19 T.d_19 .nil pass0 h)) (et_v 6)) (fun h=>ps_set (i:=7) nd rfl (by first | exact Or.inl rfl | exact Or.inr rfl) h))
  (st_one (st_ret (et_tup (at_cons (et_v 6) (at_cons (et_op op_addAny o_add (et_op op_addAny o_add (et_lst (at_cons (et_call F_2 T.m_2 T.k_2 T.d_2 (hr.mono (by omega)) (at_cons (et_v 7) (at_cons (et_call F_14 T.m_14 T.k_14 T.d_14 (hr.mono (by omega)) (at_cons (et_v 1) at_nil) (fun h=>pe_call F_14 (hr.mono (by omega)) rfl T.m_14 T.k_14 T.d_14 .nil pass0 h)) at_nil)) (fun h=>pe_call F_2 (hr.mono (by omega)) rfl T.m_2 T.k_2 T.d_2 .nil pass0 h)) at_nil)) (et_ix ix_seq o_ix (et_v 4) et_int)) (et_ix ix_seq o_ix (et_v 5) et_int)) at_nil))))))))))),?_⟩
  show sSeq _ _ _ [.val (frmD fs an),.val (trD t),.val (.list (rs.map rowD)),.un,.un,.un,.un,.un]
  have one:∀ z:Str,(1:Int) * (slipN fs (.say z) rs:Nat) + 0 * (((Tr.say z).kn:Nat):Int)=(slipN fs (.say z) rs:Nat):=fun z=>by rw [Int.one_mul,Int.zero_mul,Int.add_zero]
  cases t with
  | say z =>
    refine seq_if (fun b=>b=true) (fun q hq=>⟨_,rfl,.say z,rfl,hq _ rfl⟩) (fun _=>?_) fun hF=>by cases hF
    refine ⟨_,rfl,_,rfl,_,rfl,(Nat.le_of_ble_eq_true rfl),fs,an,.say z,rs,1,0,rfl,F,ht,Nat.zero_le _,Nat.zero_le _,hrs,hl,by decide,by decide,by decide,by decide,(Nat.le_of_ble_eq_true rfl),(Nat.le_of_ble_eq_true rfl),?_⟩
    rw [one]; exact h
  | ask k n v s y m =>
    have e1:(Tr.ask k n v s y m).dep=max y.dep m.dep + 1:=rfl
    have e2:(Tr.ask k n v s y m).kn=y.kn + m.kn + 1:=rfl
    have e3:svL fs fa (.ask k n v s y m) rs=((slipN fs (.say (fa rs)) rs:Int) - (slipN fs (.ask k n v s y m) rs:Nat),(Tr.ask k n v s y m).kn)::(svL fs fa y (rs.filter (onY fs k n v s))++svL fs fa m (rs.filter fun r=>!onY fs k n v s r)):=rfl
    have hTk:=ht
    obtain ⟨hq,hs,hy,hm⟩:=ht
    have l1:=List.length_filter_le (onY fs k n v s) rs
    have l2:=List.length_filter_le (fun r=>!onY fs k n v s r) rs
    have hF2:TrOk fs an (.say (fa rs)):=by
      obtain ⟨i,hi,_⟩:=hfa rs hrs
      exact List.mem_of_getElem? hi
    rw [e3] at hsv
    have hkA:=hkn
    have hdA:=hd40
    rw [e1] at hd hd40
    rw [e2] at hkn
    refine seq_if (fun b=>b=false) (fun q hq=>⟨_,rfl,.ask k n v s y m,rfl,hq _ rfl⟩) (fun hT=>by cases hT) fun _=>?_
    try unfold sNext
    dsimp only
    refine seq_set (.list [.list ((rs.filter (onY fs k n v s)).map rowD),.list ((rs.filter fun r=>!onY fs k n v s r).map rowD)]) (fun q hq'=>⟨_,rfl,_,rfl,_,rfl,fs,an,k,n,v,s,y,m,rs,rfl,F,hq,hs,hrs,hl,hq'⟩) ?_
    refine seq_set (.tuple [.int (slipN fs y (rs.filter (onY fs k n v s)):Nat),.list ((svL fs fa y (rs.filter (onY fs k n v s))).map fun e=>frD (redN e))]) (fun q hq'=>⟨_,rfl,_,rfl,_,rfl,_,rfl,_,rfl,fs,an,fa,y,_,rfl,F,hfa,hy,by omega,by omega,by omega,hrs.filt _,by omega,fun e he=>hsv e (List.mem_cons_of_mem _ (List.mem_append_left _ he)),hq'⟩) ?_
    refine seq_set (.tuple [.int (slipN fs m (rs.filter fun r=>!onY fs k n v s r):Nat),.list ((svL fs fa m (rs.filter fun r=>!onY fs k n v s r)).map fun e=>frD (redN e))]) (fun q hq'=>⟨_,rfl,_,rfl,_,rfl,_,rfl,_,rfl,fs,an,fa,m,_,rfl,F,hfa,hm,by omega,by omega,by omega,hrs.filt _,by omega,fun e he=>hsv e (List.mem_cons_of_mem _ (List.mem_append_right _ he)),hq'⟩) ?_
    refine seq_set (.int (slipN fs (.ask k n v s y m) rs:Nat)) (fun q hq'=>⟨_,rfl,_,rfl,_,rfl,_,rfl,by rw [slip_ask] at hq'; exact hq'⟩) ?_
    refine seq_set (.int ((slipN fs (.say (fa rs)) rs:Int) - (slipN fs (.ask k n v s y m) rs:Nat))) (fun q hq'=>⟨_,rfl,_,rfl,_,rfl,fs,an,fa,rs,rfl,F,hfa,hrs,hl,_,rfl,(Nat.le_of_ble_eq_true rfl),fs,an,.say (fa rs),rs,1,0,rfl,F,hF2,Nat.zero_le _,Nat.zero_le _,hrs,hl,by decide,by decide,by decide,by decide,_,rfl,by rw [one]; exact hq'⟩) ?_
    have h0:=hsv _ (List.mem_cons_self ..)
    dsimp only at h0
    have hsl:slipN fs (.say (fa rs)) rs≤60:=Nat.le_trans (List.length_filter_le _ _) hl
    have big:(1000000000000:Nat) < 2 ^ 190:=by decide +kernel
    have ec:[PyData.int ((slipN fs (.say (fa rs)) rs:Int) - (slipN fs (.ask k n v s y m) rs:Nat)),.int ((Tr.ask k n v s y m).kn:Nat)]=[.int (((slipN fs (.say (fa rs)) rs:Int) - (slipN fs (.ask k n v s y m) rs:Nat)).toNat:Nat),.int ((Tr.ask k n v s y m).kn:Nat)]:=by rw [Int.toNat_of_nonneg h0]
    have s1:=sv_len (fs:=fs) (fa:=fa) y (rs.filter (onY fs k n v s))
    have s2:=sv_len (fs:=fs) (fa:=fa) m (rs.filter fun r=>!onY fs k n v s r)
    refine ⟨_,rfl,_,rfl,_,rfl,.ask k n v s y m,rfl,by omega,by omega,_,_,ec,by omega,by omega,by omega,(Nat.le_of_ble_eq_true rfl),_,rfl,_,rfl,?_⟩
    refine ⟨by rw [List.length_map,s1]; show 1 + _≤_; omega,_,rfl,_,rfl,by rw [List.length_append,List.length_map,List.length_map,s1,s2]; show 1 + _ + _≤_; omega,(Nat.le_of_ble_eq_true rfl),?_⟩
    rw [e3,List.map_cons,List.map_append] at h
    exact h

theorem ok_27 (T:Txt K mg A)
    (F_19:FnOk P w K mg base CX0 43 A.a_19 A.f_19 ["form","tree","rows","prices"] (liftSp K sp_19))
    (F_20:FnOk P w K mg base CX0 3 A.a_20 A.f_20 ["form","rows"] (liftSp K sp_20))
    (F_2:FnOk P w K mg base CX0 2 A.a_2 A.f_2 ["top","bottom"] (liftSp K sp_2))
    (F_12:FnOk P w K mg base CX0 1 A.a_12 A.f_12 ["tree"] (liftSp K sp_12))
    (F_14:FnOk P w K mg base CX0 42 A.a_14 A.f_14 ["tree"] (liftSp K sp_14))
    (F_21:FnOk P w K mg base CX0 5 A.a_21 A.f_21 ["form","knot","rows"] (liftSp K sp_21)):FnOk P w K mg base CX0 57 A.a_27 A.f_27 ["form","tree","rows"] (liftSp K sp_27):=by
  have h:∀ dd:Nat,FnOk P w K mg base CX0 (44 + dd) A.a_27 A.f_27 ["form","tree","rows"] (liftSp K (sp_27_lt dd)):=fun dd=>by
    induction dd with
    | zero=>exact fn_imp fn_never fun ds Q h=>never_27 h
    | succ dd ih=>exact step_27 dd T F_19 F_20 F_2 F_12 F_14 F_21 ih
  exact h 13
theorem sc_26:FnScope ["form","tree","rows","prices","lowest","price"] ["form","tree","rows"] (defScope (top 36)):=⟨rfl,rfl,rfl,by decide +kernel,rfl,by decide +kernel,by decide +kernel⟩
set_option maxHeartbeats 4000000 in
theorem ok_26 (T:Txt K mg A)
    (F_4:FnOk P w K mg base CX0 1 A.a_4 A.f_4 ["one","other"] (liftSp K sp_4))
    (F_27:FnOk P w K mg base CX0 57 A.a_27 A.f_27 ["form","tree","rows"] (liftSp K sp_27)):FnOk P w K mg base CX0 58 A.a_26 A.f_26 ["form","tree","rows"] (liftSp K sp_26):=by
  refine fnT T.F_26 sc_26 (fun ds Q h=>by obtain ⟨fs,an,fa,t,rs,rfl,F,hfa,ht,hd,hk,hL,hrs,hl,hsv,h⟩:=h; rfl) fun cdv Ar outer s H E hr ds Q h=>?_
  obtain ⟨fs,an,fa,t,rs,rfl,F,hfa,ht,hd,hk,hL,hrs,hl,hsv,h⟩:=h
  have nd:=sc_26.nd
  refine ⟨_,(st_cons (st_set (i:=3) (et_ix ix_seq o_ix (et_call F_27 T.m_27 T.k_27 T.d_27 (hr.mono (by decide)) (at_cons (et_v 0) (at_cons (et_v 1) (at_cons (et_v 2) at_nil))) (fun h=>pe_call F_27 (hr.mono (by decide)) rfl T.m_27 T.k_27 T.d_27 .nil pass0 h)) et_int) (fun h=>ps_set (i:=3) nd rfl (by first | exact Or.inl rfl | exact Or.inr rfl) h))
  (st_cons (st_set (i:=4) (et_ix ix_seq o_ix (et_v 3) et_int) (fun h=>ps_set (i:=4) nd rfl (by first | exact Or.inl rfl | exact Or.inr rfl) h))
  (st_cons (st_for (it_val (et_v 3)) (gt_name (pg_name (i:=5) nd rfl (by first | exact Or.inl rfl | exact Or.inr rfl)))
  (st_one (st_if (tt_val (et_call F_4 T.m_4 T.k_4 T.d_4 (hr.mono (by decide)) (at_cons (et_v 5) (at_cons (et_v 4) at_nil)) (fun h=>pe_call F_4 (hr.mono (by decide)) rfl T.m_4 T.k_4 T.d_4 .nil pass0 h)) (fun h=>pt_val h))
  (st_one (st_set (i:=4) (et_v 5) (fun h=>ps_set (i:=4) nd rfl (by first | exact Or.inl rfl | exact Or.inr rfl) h)))
  st_nil)) (fun hi hg hb=>ps_for PassesOwn.never rfl hi hg hb))
  (st_one (st_ret (et_v 4)))))),?_⟩
  show sSeq _ _ _ [.val (frmD fs an),.val (trD t),.val (.list (rs.map rowD)),.un,.un,.un]
  have hb:∀ p ∈ (svL fs fa t rs).map redN,p.1≤60:=fun p hp=>by
    obtain ⟨e,he,rfl⟩:=List.mem_map.mp hp
    have:=(sv_bound t rs e he).1
    have h2:(redN e).1≤e.1.toNat:=Nat.div_le_self _ _
    omega
  have hn:∃ x l,(svL fs fa t rs).map redN=x::l∧nextP fs fa t rs=lowest x (x::l):=by
    cases t with
    | say z=>cases hL
    | ask k n v s y m=>exact ⟨_,_,rfl,rfl⟩
  have hlen:=sv_len (fs:=fs) (fa:=fa) t rs
  refine seq_set (.list (((svL fs fa t rs).map redN).map frD)) (fun q hq=>⟨_,rfl,_,rfl,_,rfl,fs,an,fa,t,rs,rfl,F,hfa,ht,by omega,by omega,by omega,hrs,hl,hsv,_,rfl,by rw [List.map_map] at hq; exact hq⟩) ?_
  obtain ⟨x,l,e,en⟩:=hn
  rw [en] at h
  rw [e] at hb ⊢
  have h0:L2.atI ((x::l).map frD) 0=some (frD x):=L2.atI_nat (j:=0) rfl
  refine seq_set (frD x) (fun q hq=>⟨_,rfl,_,h0,hq⟩) ?_
  refine seq_for (ts:=(x::l).map frD) (fun R h=>⟨_,rfl,_,rfl,h⟩)
    (fun i σ=>∃ s5:Sl,σ=[.val (frmD fs an),.val (trD t),.val (.list (rs.map rowD)),.val (.list ((x::l).map frD)),.val (frD (lowest x ((x::l).take i))),s5]) ⟨_,rfl⟩ (fun i d σ' hx hP=>?_) fun σ' hP=>?_
  · obtain ⟨s5,rfl⟩:=hP
    have hi:i < (x::l).length:=by have:=(List.getElem?_eq_some_iff.mp hx).1; rw [List.length_map] at this; exact this
    have ex:d=frD (x::l)[i]:=by rw [List.getElem?_map,List.getElem?_eq_getElem hi] at hx; exact (Option.some.inj hx).symm
    subst ex
    have et:(x::l).take (i + 1)=(x::l).take i++[(x::l)[i]]:=by rw [List.take_add_one,List.getElem?_eq_getElem hi]; rfl
    have hz:(lowest x ((x::l).take i)).1≤60:=by
      rcases lowest_mem ((x::l).take i) x with z | z
      · rw [z]; exact hb x (List.mem_cons_self ..)
      · exact hb _ (List.mem_of_mem_take z)
    have hp:=hb _ (List.getElem_mem hi)
    rw [et,lowest_snoc]
    generalize (x::l)[i]=p at hp
    generalize lowest x ((x::l).take i)=z at hz
    refine one_if (fun b=>b=decide (p.1 * z.2 < z.1 * p.2)) (fun q hq=>⟨_,rfl,_,rfl,p,z,rfl,by omega,by omega,hq _ rfl⟩) (fun hT=>?_) fun hF=>?_
    · refine one_set (frD p) (fun q hq=>⟨_,rfl,hq⟩) ⟨.val (frD p),?_⟩
      unfold lowF
      rw [if_pos (of_decide_eq_true hT.symm)]
      rfl
    · try unfold sNext
      dsimp only
      refine ⟨.val (frD p),?_⟩
      unfold lowF
      rw [if_neg (of_decide_eq_false hF.symm)]
      rfl
  · obtain ⟨s5,rfl⟩:=hP
    rw [List.length_map,List.take_length]
    exact ⟨_,rfl,h⟩

theorem sc_25:FnScope ["form","tree","rows","price","part","told"] ["form","tree","rows"] (defScope (top 35)):=⟨rfl,rfl,rfl,by decide +kernel,rfl,by decide +kernel,by decide +kernel⟩
set_option maxHeartbeats 4000000 in
theorem ok_25 (T:Txt K mg A)
    (F_12:FnOk P w K mg base CX0 1 A.a_12 A.f_12 ["tree"] (liftSp K sp_12))
    (F_23:FnOk P w K mg base CX0 58 A.a_23 A.f_23 ["form","tree","rows","price"] (liftSp K sp_23))
    (F_26:FnOk P w K mg base CX0 58 A.a_26 A.f_26 ["form","tree","rows"] (liftSp K sp_26)):FnOk P w K mg base CX0 59 A.a_25 A.f_25 ["form","tree","rows"] (liftSpF K sp_25):=by
  refine fnF T.F_25 sc_25 (fun ds Q h=>by obtain ⟨fs,an,fa,U,rs,rfl,F,hfa,hT,hd,hk,hrs,hl,h⟩:=h; rfl) fun cdv Ar outer s H E hr ds Q h=>?_
  obtain ⟨fs,an,fa,U,rs,rfl,F,hfa,hT,hd,hk,hrs,hl,h⟩:=h
  have nd:=sc_25.nd
  refine ⟨_,(st_cons (st_set (i:=3) (et_tup (at_cons et_int (at_cons et_int at_nil))) (fun h=>ps_set (i:=3) nd rfl (by first | exact Or.inl rfl | exact Or.inr rfl) h))
  (st_cons (st_set (i:=4) (et_call F_23 T.m_23 T.k_23 T.d_23 (hr.mono (by decide)) (at_cons (et_v 0) (at_cons (et_v 1) (at_cons (et_v 2) (at_cons (et_v 3) at_nil)))) (fun h=>pe_call F_23 (hr.mono (by decide)) rfl T.m_23 T.k_23 T.d_23 .nil pass0 h)) (fun h=>ps_set (i:=4) nd rfl (by first | exact Or.inl rfl | exact Or.inr rfl) h))
  (st_cons (st_own (i:=5) (at_cons (et_tup (at_cons (et_v 3) (at_cons (et_v 4) at_nil))) at_nil) (fun h=>ps_set (i:=5) nd rfl (by first | exact Or.inl rfl | exact Or.inr rfl) h))
  (st_cons (st_while (tt_not (tt_val (et_call F_12 T.m_12 T.k_12 T.d_12 (hr.mono (by decide)) (at_cons (et_v 4) at_nil) (fun h=>pe_call F_12 (hr.mono (by decide)) rfl T.m_12 T.k_12 T.d_12 .nil pass0 h)) (fun h=>pt_val h)))
  (st_cons (st_set (i:=3) (et_call F_26 T.m_26 T.k_26 T.d_26 (hr.mono (by decide)) (at_cons (et_v 0) (at_cons (et_v 4) (at_cons (et_v 2) at_nil))) (fun h=>pe_call F_26 (hr.mono (by decide)) rfl T.m_26 T.k_26 T.d_26 .nil pass0 h)) (fun h=>ps_set (i:=3) nd rfl (by first | exact Or.inl rfl | exact Or.inr rfl) h))
  (st_cons (st_set (i:=4) (et_call F_23 T.m_23 T.k_23 T.d_23 (hr.mono (by decide)) (at_cons (et_v 0) (at_cons (et_v 4) (at_cons (et_v 2) (at_cons (et_v 3) at_nil)))) (fun h=>pe_call F_23 (hr.mono (by decide)) rfl T.m_23 T.k_23 T.d_23 .nil pass0 h)) (fun h=>ps_set (i:=4) nd rfl (by first | exact Or.inl rfl | exact Or.inr rfl) h))
  (st_one (st_app (i:=5) (pv 5) (et_tup (at_cons (et_v 3) (at_cons (et_v 4) at_nil))) (pb:=fun h=>ps_expr (pe_bm PySem.F.plainAttrs_list PySem.F.slot_list_append PySem.F.type_list_append mt_append (pv 5) h)))))) (fun hc hb=>ps_while PassesOwn.never hc hb))
  (st_one (st_retOwn (pv 5))))))),?_⟩
  show sSeq _ _ _ [.val (frmD fs an),.val (trD U),.val (.list (rs.map rowD)),.un,.un,.un]
  have hT0:=(lw_ok hfa 1 0 U rs hT hrs).1
  have hd0:=lw_dep (fs:=fs) (fa:=fa) 1 0 U rs
  have hk0:=(lw_kn (fs:=fs) (fa:=fa) 1 0 U rs).1
  have ok0:OkS fs fa U rs ((0,1),(lw fs fa 1 0 U rs).2):=⟨show Nat.gcd 0 1=1 by decide,show 0 < 1 by decide,show 1≤12 by decide,show 0≤60 by decide,rfl⟩
  refine seq_set (frD (0,1)) (fun q hq=>⟨(Nat.le_of_ble_eq_true rfl),hq⟩) ?_
  refine seq_set (trD (lw fs fa 1 0 U rs).2) (fun q hq=>⟨_,rfl,_,rfl,_,rfl,_,rfl,fs,an,fa,U,rs,1,0,rfl,F,hfa,hT,by omega,hrs,hl,by decide,by decide,by decide,by decide,hq⟩) ?_
  refine seq_own [stD ((0,1),(lw fs fa 1 0 U rs).2)] (Nat.le_of_ble_eq_true rfl) (fun q hq=>⟨_,rfl,_,rfl,(Nat.le_of_ble_eq_true rfl),hq⟩) ?_
  have hL:stepsT fs fa U rs=stepsF fs fa rs (lw fs fa 1 0 U rs).2.kn (0,1) (lw fs fa 1 0 U rs).2:=rfl
  rw [hL] at h
  refine seq_while (fun n σ=>∃ (pre:List Stp) (x:Nat × Nat) (p:Tr),σ=[.val (frmD fs an),.val (trD U),.val (.list (rs.map rowD)),.val (frD x),.val (trD p),.own ((pre++[(x,p)]).map stD)]∧pre++stepsF fs fa rs n x p=stepsF fs fa rs (lw fs fa 1 0 U rs).2.kn (0,1) (lw fs fa 1 0 U rs).2∧OkS fs fa U rs (x,p)∧TrOk fs an p∧p.dep≤12∧p.kn≤n∧p.kn≤12∧pre.length + n≤12) (lw fs fa 1 0 U rs).2.kn ⟨[],(0,1),(lw fs fa 1 0 U rs).2,rfl,rfl,ok0,hT0,by omega,Nat.le_refl _,by omega,by show 0 + _≤12; omega⟩ fun n σ' hP=>?_
  obtain ⟨pre,x,p,rfl,heq,ok,hp,hpd,hpn,hpk,hpl⟩:=hP
  refine ⟨!isL p,fun q hq=>⟨_,rfl,p,rfl,by cases p <;> exact hq⟩,?_⟩
  cases hpl':isL p with
  | true =>
    show (if false=true then _ else _)
    rw [if_neg (by decide)]
    have e:stepsF fs fa rs n x p=[(x,p)]:=by
      cases n with
      | zero=>rfl
      | succ n=>show (x,p)::(if isL p=true then [] else _)=_; rw [if_pos hpl']
    rw [e] at heq
    rw [← heq] at h
    exact ⟨_,rfl,h⟩
  | false =>
    show (if true=true then _ else _)
    rw [if_pos rfl]
    obtain ⟨n,rfl⟩:∃ m,n=m + 1:=⟨n - 1,by
      cases n with
      | zero=>rw [isL_kn (by omega)] at hpl'; cases hpl'
      | succ n=>rfl⟩
    have e:stepsF fs fa rs (n + 1) x p=(x,p)::stepsF fs fa rs n (nextP fs fa p rs) (lw fs fa ((nextP fs fa p rs).2:Nat) ((nextP fs fa p rs).1:Nat) p rs).2:=by
      show (x,p)::(if isL p=true then [] else _)=_
      rw [if_neg (by rw [hpl']; decide)]
    obtain ⟨ok2,lk⟩:=next_lk hk hl ok hpl'
    have hst:St fs fa (x.2:Nat) (x.1:Nat) p rs:=by
      have e5:p=(lw fs fa (x.2:Nat) (x.1:Nat) U rs).2:=ok.tr
      rw [e5]; exact st_lw _ _ U rs
    have hq0:0 < x.2:=ok.q0
    have hsv:∀ e ∈ svL fs fa p rs,0≤e.1:=fun e he=>by
      have h1:=(st_iff _ _ p rs).mp hst e he
      have h3:(0:Int)≤(x.1:Nat) * (e.2:Nat):=Int.mul_nonneg (by omega) (by omega)
      by_cases hn:0≤e.1
      · exact hn
      · have:=Int.mul_le_mul_of_nonneg_left (show e.1≤0 by omega) (show (0:Int)≤(x.2:Nat) by omega)
        rw [Int.mul_zero] at this
        omega
    have q1:(nextP fs fa p rs).2≤12:=ok2.q1
    have p1:(nextP fs fa p rs).1≤60:=ok2.p1
    have hk2:(lw fs fa ((nextP fs fa p rs).2:Nat) ((nextP fs fa p rs).1:Nat) p rs).2.kn < p.kn:=lk.kn
    have hp2:=(lw_ok hfa ((nextP fs fa p rs).2:Nat) ((nextP fs fa p rs).1:Nat) p rs hp hrs)
    refine seq_set (frD (nextP fs fa p rs)) (fun q hq=>⟨_,rfl,_,rfl,_,rfl,fs,an,fa,p,rs,rfl,F,hfa,hp,hpd,hpk,hpl',hrs,hl,hsv,hq⟩) ?_
    refine seq_set (trD (lw fs fa ((nextP fs fa p rs).2:Nat) ((nextP fs fa p rs).1:Nat) p rs).2) (fun q hq=>⟨_,rfl,_,rfl,_,rfl,_,rfl,fs,an,fa,p,rs,((nextP fs fa p rs).2:Nat),((nextP fs fa p rs).1:Nat),rfl,F,hfa,hp,by omega,hrs,hl,by omega,by omega,by omega,by omega,hq⟩) ?_
    refine one_app (ts:=(pre++[(x,p)]).map stD) (stD (nextP fs fa p rs,(lw fs fa ((nextP fs fa p rs).2:Nat) ((nextP fs fa p rs).1:Nat) p rs).2)) rfl (by rw [List.length_map,List.length_append]; show _ + 1≤_; omega) (fun q hq=>⟨_,rfl,_,rfl,(Nat.le_of_ble_eq_true rfl),hq⟩) ?_
    refine ⟨n,Nat.lt_succ_self _,pre++[(x,p)],nextP fs fa p rs,(lw fs fa ((nextP fs fa p rs).2:Nat) ((nextP fs fa p rs).1:Nat) p rs).2,?_,?_,ok2,hp2.1,by omega,by omega,by omega,by rw [List.length_append]; show _ + 1 + n≤12; omega⟩
    · rw [List.map_append (l₁:=pre++[(x,p)])]; rfl
    · rw [List.append_assoc,← heq,e]; rfl

theorem sc_28:FnScope ["_law_script","_law_digits"] ["_law_script"] (defScope (top 39)):=⟨rfl,rfl,rfl,by decide +kernel,rfl,by decide +kernel,by decide +kernel⟩
theorem ok_28 (T:Txt K mg A):FnOk P w K mg base CX0 1 A.a_28 A.f_28 ["_law_script"] (liftSpN K sp_28):=by
  refine fnNew T.F_28 sc_28 fun cdv Ar outer s H E hr=>?_
  have nd:=sc_28.nd
  refine ⟨_,_,_,_,rfl,(st_set (i:=1) (et_and (et_cmp op_gt o_B0 (et_cb c_len (at_cons (et_v 0) at_nil) (fun h=>pe_callB call_lenAny rfl T.b_len bl_len h)) et_int) (et_one (et_cmp op_eq o_eq (et_op op_mod o_I (et_ix ix_seq o_ix (et_v 0) et_int) et_int) et_int))) (fun h=>ps_set (i:=1) nd rfl (by first | exact Or.inl rfl | exact Or.inr rfl) h)),(pe_disp (pps_cons pe_str (pv 0) (pps_cons pe_str pe_int (pps_cons pe_str pe_int (pps_cons pe_str (pv 1) pps_nil)))) rfl rfl (fun z=>nomatch z) (by decide)),fun ns Q h=>?_⟩
  refine ⟨_,rfl,?_⟩
  show (if decide (((ns.map PyData.int).length:Int) > 0)=true then _ else Q (.bool false))
  split
  · next hb =>
    have hb':((ns.map PyData.int).length:Int) > 0:=of_decide_eq_true hb
    rw [List.length_map] at hb'
    have hn:0 < ns.length:=by omega
    have e:L2.atI (ns.map PyData.int) 0=some (.int ns[0]):=L2.atI_nat (j:=0) (by rw [List.getElem?_map,List.getElem?_eq_getElem hn]; rfl)
    exact ⟨_,rfl,_,e,(show (0:Int) < 2 by decide),h _ fun _=>hn⟩
  · exact h false fun z=>by cases z

theorem sc_29:FnScope ["_law_tape_here","_law_many","_law_script","_law_at","_law_left","_law_number"] ["_law_tape_here","_law_many"] (defScope (top 40)):=⟨rfl,rfl,rfl,by decide +kernel,rfl,by decide +kernel,by decide +kernel⟩
set_option maxHeartbeats 4000000 in
theorem ok_29 (T:Txt K mg A):FnOk P w K mg base CX0 1 A.a_29 A.f_29 ["_law_tape_here","_law_many"] (liftSpC K sp_29):=by
  refine fnC T.F_29 sc_29 (fun τ n ds Q h=>by obtain ⟨m,rfl,hm0,hm1,hc,h⟩:=h; rfl) fun cdv Ar outer s H E hr Tp c ds Q hdig h=>?_
  obtain ⟨m,rfl,hm0,hm1,hc,h⟩:=h
  have nd:=sc_29.nd
  refine ⟨_,(sc_cons (sc_set (i:=2) (ec_getS hr (pv 0)) (fun h=>ps_set (i:=2) nd rfl (by first | exact Or.inl rfl | exact Or.inr rfl) h))
  (sc_cons (sc_set (i:=3) (ec_getA hr (pv 0)) (fun h=>ps_set (i:=3) nd rfl (by first | exact Or.inl rfl | exact Or.inr rfl) h))
  (sc_cons (sc_putA hr (pv 0) (ec_p (et_op op_addAny o_add (et_v 3) et_int)))
  (sc_cons (sc_if (tc_val (ec_getD hr (pv 0)) (fun h=>pt_val h))
  (sc_cons (sc_if (tc_p (tt_cmp op_eq o_eq (et_op op_mod o_I (et_v 3) et_int) et_int))
  (sc_one (sc_putL hr (pv 0) (ec_p (et_op op_fdiv o_I (et_ix ix_seq o_ix (et_v 2) (et_op op_mod o_I (et_op op_fdiv o_I (et_v 3) et_int) (et_cb c_len (at_cons (et_v 2) at_nil) (fun h=>pe_callB call_lenAny rfl T.b_len bl_len h)))) et_int))))
  sc_nil)
  (sc_cons (sc_set (i:=4) (ec_getL hr (pv 0)) (fun h=>ps_set (i:=4) nd rfl (by first | exact Or.inl rfl | exact Or.inr rfl) h))
  (sc_cons (sc_putL hr (pv 0) (ec_p (et_op op_fdiv o_I (et_v 4) (et_v 1))))
  (sc_one (sc_p (st_ret (et_op op_mod o_I (et_v 4) (et_v 1))))))))
  sc_nil)
  (sc_cons (sc_p (st_set (i:=5) (et_op op_addAny o_add (et_op op_addAny o_add (et_op op_mulAny o_mul (et_v 3) (et_v 3)) (et_op op_mulAny o_mul et_int (et_v 3))) et_int) (fun h=>ps_set (i:=5) nd rfl (by first | exact Or.inl rfl | exact Or.inr rfl) h)))
  (sc_cons (sc_p (st_if (tt_cmp op_gt o_B0 (et_cb c_len (at_cons (et_v 2) at_nil) (fun h=>pe_callB call_lenAny rfl T.b_len bl_len h)) et_int)
  (st_one (st_set (i:=5) (et_op op_addAny o_add (et_v 5) (et_op op_mod o_I (et_ix ix_seq o_ix (et_v 2) (et_op op_mod o_I (et_v 3) (et_cb c_len (at_cons (et_v 2) at_nil) (fun h=>pe_callB call_lenAny rfl T.b_len bl_len h)))) et_int)) (fun h=>ps_set (i:=5) nd rfl (by first | exact Or.inl rfl | exact Or.inr rfl) h)))
  st_nil))
  (sc_cons (sc_p (st_set (i:=5) (et_op op_mod o_I (et_op op_mulAny o_mul (et_op op_addAny o_add (et_op op_mod o_I (et_op op_mulAny o_mul (et_v 5) et_int) et_int) (et_v 3)) et_int) et_int) (fun h=>ps_set (i:=5) nd rfl (by first | exact Or.inl rfl | exact Or.inr rfl) h)))
  (sc_one (sc_p (st_ret (et_op op_mod o_I (et_op op_mod o_I (et_op op_mulAny o_mul (et_op op_addAny o_add (et_op op_mulAny o_mul (et_v 5) (et_v 5)) (et_v 3)) et_int) et_int) (et_v 1)))))))))))),?_⟩
  show cSeq _ _ _ _ _ [.val (tpD Tp),.val (.int m),.un,.un,.un,.un]
  have p50:(0:Int) < 50:=by decide
  refine cq_set1 (.list (Tp.ns.map PyData.int)) (fun q hq=>⟨rfl,hq⟩) ?_
  refine cq_set1 (.int (c:Int)) (fun q hq=>⟨rfl,hq⟩) ?_
  refine (show cSeq (cPutA _ _) _ _ _ _ _ from ⟨_,rfl,rfl,rfl,?_⟩)
  dsimp only
  refine cq_if1 Tp.b (fun q hq=>⟨rfl,hq⟩) (fun hb=>?_) fun _=>?_
  · have hn:=hdig hb
    have hp:(0:Int) < ((Tp.ns.map PyData.int).length:Nat):=by rw [List.length_map]; omega
    obtain ⟨x,hx⟩:=atI_modI hn ((c:Int) / 50)
    refine cq_ifput rfl (decide ((c:Int) % 50=0)) (fun q hq=>⟨_,rfl,p50,hq⟩) (fun q hq=>⟨_,rfl,_,rfl,⟨by decide,by decide⟩,_,rfl,hp,_,hx,⟨by decide,by decide⟩,hq _⟩) ?_
    refine (show cSeq (cSet _ _) _ _ _ _ _ from ⟨rfl,fun l=>?_⟩)
    dsimp only
    refine (show cSeq (cPutL _ _) _ _ _ _ _ from ⟨_,rfl,_,rfl,⟨hm0,by omega⟩,⟨_,rfl⟩,rfl,?_⟩)
    exact ⟨_,rfl,_,rfl,hm0,h _ (Int.emod_nonneg _ (by omega)) (Int.emod_lt_of_pos _ hm0)⟩
  · try unfold cNext
    dsimp only
    have cm:CMul (c:Int) (c:Int):=.inl ⟨by omega,by omega⟩
    refine cq_pure (seq_setR (fun d=>∃ x:Int,d=.int x) (fun q hq=>⟨_,rfl,_,rfl,cm,_,rfl,.inl ⟨by decide,by decide⟩,hq _ ⟨_,rfl⟩⟩) ?_)
    rintro _ ⟨x,rfl⟩
    refine cq_pure (seq_ifsetC (0 < Tp.ns.length) (fun d=>∃ x:Int,d=.int x) (fun q hq=>⟨_,rfl,hq _ fun hb=>?_⟩) (fun hn q hq=>?_) (.int x) rfl ⟨x,rfl⟩ ?_)
    · have hb':((Tp.ns.map PyData.int).length:Int) > 0:=of_decide_eq_true hb
      rw [List.length_map] at hb'
      omega
    · have hp:(0:Int) < ((Tp.ns.map PyData.int).length:Nat):=by rw [List.length_map]; omega
      obtain ⟨y,hy⟩:=atI_modI hn (c:Int)
      exact ⟨_,rfl,_,rfl,_,rfl,_,rfl,hp,_,hy,(show (0:Int) < 1000003 by decide),hq _ ⟨_,rfl⟩⟩
    rintro _ ⟨y,rfl⟩
    refine cq_pure (seq_setR (fun d=>∃ x:Int,d=.int x∧0≤x∧x < 65519) (fun q hq=>⟨_,rfl,.inr ⟨by decide,by decide⟩,(show (0:Int) < 999983 by decide),_,rfl,.inr ⟨by decide,by decide⟩,(show (0:Int) < 65519 by decide),hq _ ⟨_,rfl,Int.emod_nonneg _ (by decide),Int.emod_lt_of_pos _ (by decide)⟩⟩) ?_)
    rintro _ ⟨z,rfl,z0,z1⟩
    exact ⟨_,rfl,_,rfl,.inl ⟨by omega,by omega⟩,_,rfl,.inr ⟨by decide,by decide⟩,(show (0:Int) < 65521 by decide),_,rfl,hm0,h _ (Int.emod_nonneg _ (by omega)) (Int.emod_lt_of_pos _ hm0)⟩

theorem sc_30:FnScope ["_law_tape_here","_law_many","_law_way","_law_first_here","_law_letters","_law_words","_law_base","_law_names_here","_law_at"] ["_law_tape_here","_law_many"] (defScope (top 41)):=⟨rfl,rfl,rfl,by decide +kernel,rfl,by decide +kernel,by decide +kernel⟩
set_option maxHeartbeats 4000000 in
theorem ok_30 (T:Txt K mg A)
    (F_29:FnOk P w K mg base CX0 1 A.a_29 A.f_29 ["_law_tape_here","_law_many"] (liftSpC K sp_29)):FnOk P w K mg base CX0 2 A.a_30 A.f_30 ["_law_tape_here","_law_many"] (liftSpC K sp_30):=by
  refine fnC T.F_30 sc_30 (fun τ n ds Q h=>by obtain ⟨m,rfl,hm1,hm5,hc,h⟩:=h; rfl) fun cdv Ar outer s H E hr Tp c ds Q hdig h=>?_
  obtain ⟨m,rfl,hm1,hm5,hc,h⟩:=h
  have nd:=sc_30.nd
  refine ⟨_,(sc_cons (sc_set (i:=2) (ec_call F_29 T.m_29 T.k_29 T.d_29 (hr.mono (by decide)) (ac_cons (ec_p (et_v 0)) (ac_cons (ec_p et_int) ac_nil)) (fun h=>pe_call F_29 (hr.mono (by decide)) rfl T.m_29 T.k_29 T.d_29 .nil pass0 h)) (fun h=>ps_set (i:=2) nd rfl (by first | exact Or.inl rfl | exact Or.inr rfl) h))
  (sc_cons (sc_set (i:=3) (ec_call F_29 T.m_29 T.k_29 T.d_29 (hr.mono (by decide)) (ac_cons (ec_p (et_v 0)) (ac_cons (ec_p et_int) ac_nil)) (fun h=>pe_call F_29 (hr.mono (by decide)) rfl T.m_29 T.k_29 T.d_29 .nil pass0 h)) (fun h=>ps_set (i:=3) nd rfl (by first | exact Or.inl rfl | exact Or.inr rfl) h))
  (sc_cons (sc_p (st_set (i:=4) et_str (fun h=>ps_set (i:=4) nd rfl (by first | exact Or.inl rfl | exact Or.inr rfl) h)))
  (sc_cons (sc_p (st_setN (i:=5) nd rfl (by first | exact Or.inl rfl | exact Or.inr rfl) (et_lst (at_consts rfl))))
  (sc_cons (sc_p (st_if (tt_cmp op_eq o_eq (et_v 2) et_int)
  (st_one (st_ret (et_cb c_tuple (at_cons (et_lc (fr:=[none,some 5,some 3]) (N':=["_law_k","_law_words","_law_first_here"]) (it_range (at_cons (et_v 1) at_nil) (fun h=>pi_range1 rfl T.b_range h)) (fun b=>⟨(gt_name (pg_name (i:=0) (show List.Nodup (["_law_k","_law_words","_law_first_here"]:List Str) from by decide +kernel) rfl (by first | exact Or.inl rfl | exact Or.inr rfl))),if_nil,(et_ix ix_seq o_ix (et_v 1) (et_op op_mod o_I (et_op op_addAny o_add (et_v 2) (et_op op_mulAny o_mul et_int (et_v 0))) et_int))⟩) (fun hi hY=>pe_lcc (show lcChk _ (defScope (top 41)) ["_law_tape_here","_law_many","_law_way","_law_first_here","_law_letters","_law_words","_law_base","_law_names_here","_law_at"] ["_law_k","_law_words","_law_first_here"] [none,some 5,some 3]=true from by decide +kernel) rfl hi hY)) at_nil) (fun h=>pe_callTy call_tuple_of rfl T.b_tuple bl_tuple h))))
  st_nil))
  (sc_cons (sc_set (i:=6) (ec_join et_str (ac_cons (ec_lc (fr:=[none,some 4,some 0]) (N':=["_law_k","_law_letters","_law_tape_here"]) (it_range (at_cons et_int at_nil) (fun h=>pi_range1 rfl T.b_range h)) (fun b=>⟨(gt_name (pg_name (i:=0) (show List.Nodup (["_law_k","_law_letters","_law_tape_here"]:List Str) from by decide +kernel) rfl (by first | exact Or.inl rfl | exact Or.inr rfl))),if_nil,(ec_ix ix_seq o_ix (ec_p (et_v 1)) (ec_call F_29 T.m_29 T.k_29 T.d_29 (hr.mono (by decide)) (ac_cons (ec_p (et_v 2)) (ac_cons (ec_p et_int) ac_nil)) (fun h=>pe_call F_29 (hr.mono (by decide)) rfl T.m_29 T.k_29 T.d_29 .nil pass0 h)))⟩) (fun hi hY=>pe_lcc (show lcChk _ (defScope (top 41)) ["_law_tape_here","_law_many","_law_way","_law_first_here","_law_letters","_law_words","_law_base","_law_names_here","_law_at"] ["_law_k","_law_letters","_law_tape_here"] [none,some 4,some 0]=true from by decide +kernel) rfl hi hY)) ac_nil) (fun h ha=>pe_bm PySem.F.plainAttrs_str PySem.F.slot_str_join PySem.F.type_str_join mt_join h ha)) (fun h=>ps_set (i:=6) nd rfl (by first | exact Or.inl rfl | exact Or.inr rfl) h))
  (sc_cons (sc_p (st_if (tt_cmp op_eq o_eq (et_v 2) et_int)
  (st_cons (st_setlc (i:=7) (fr:=[none,some 6]) (N':=["_law_k","_law_base"]) (it_range (at_cons (et_v 1) at_nil) (fun h=>pi_range1 rfl T.b_range h)) (fun b=>⟨(gt_name (pg_name (i:=0) (show List.Nodup (["_law_k","_law_base"]:List Str) from by decide +kernel) rfl (by first | exact Or.inl rfl | exact Or.inr rfl))),if_nil,(et_slice sl_any o_sl (et_v 1) ot_none (ot_some (et_op op_addAny o_add (et_v 0) et_int)))⟩) (fun hi hY=>ps_setlcc (show lcChk _ (defScope (top 41)) ["_law_tape_here","_law_many","_law_way","_law_first_here","_law_letters","_law_words","_law_base","_law_names_here","_law_at"] ["_law_k","_law_base"] [none,some 6]=true from by decide +kernel) nd rfl (by first | exact Or.inl rfl | exact Or.inr rfl) rfl hi hY rfl))
  (st_one (st_ret (et_cb c_tuple (at_cons (et_op op_addAny o_add (et_slice sl_any o_sl (et_v 7) (ot_some (et_op op_mod o_I (et_v 3) (et_v 1))) ot_none) (et_slice sl_any o_sl (et_v 7) ot_none (ot_some (et_op op_mod o_I (et_v 3) (et_v 1))))) at_nil) (fun h=>pe_callTy call_tuple_of rfl T.b_tuple bl_tuple h)))))
  st_nil))
  (sc_cons (sc_set (i:=8) (ec_call F_29 T.m_29 T.k_29 T.d_29 (hr.mono (by decide)) (ac_cons (ec_p (et_v 0)) (ac_cons (ec_p et_int) ac_nil)) (fun h=>pe_call F_29 (hr.mono (by decide)) rfl T.m_29 T.k_29 T.d_29 .nil pass0 h)) (fun h=>ps_set (i:=8) nd rfl (by first | exact Or.inl rfl | exact Or.inr rfl) h))
  (sc_one (sc_p (st_ret (et_cb c_tuple (at_cons (et_lc (fr:=[none,some 6,some 4,some 8,some 3]) (N':=["_law_k","_law_base","_law_letters","_law_at","_law_first_here"]) (it_range (at_cons (et_v 1) at_nil) (fun h=>pi_range1 rfl T.b_range h)) (fun b=>⟨(gt_name (pg_name (i:=0) (show List.Nodup (["_law_k","_law_base","_law_letters","_law_at","_law_first_here"]:List Str) from by decide +kernel) rfl (by first | exact Or.inl rfl | exact Or.inr rfl))),if_nil,(et_op op_addAny o_add (et_op op_addAny o_add (et_slice sl_any o_sl (et_v 1) ot_none (ot_some (et_v 3))) (et_ix ix_seq o_ix (et_v 2) (et_op op_mod o_I (et_op op_addAny o_add (et_v 4) (et_op op_mulAny o_mul et_int (et_v 0))) et_int))) (et_slice sl_any o_sl (et_v 1) (ot_some (et_v 3)) ot_none))⟩) (fun hi hY=>pe_lcc (show lcChk _ (defScope (top 41)) ["_law_tape_here","_law_many","_law_way","_law_first_here","_law_letters","_law_words","_law_base","_law_names_here","_law_at"] ["_law_k","_law_base","_law_letters","_law_at","_law_first_here"] [none,some 6,some 4,some 8,some 3]=true from by decide +kernel) rfl hi hY)) at_nil) (fun h=>pe_callTy call_tuple_of rfl T.b_tuple bl_tuple h))))))))))))),?_⟩
  show cSeq _ _ _ _ _ [.val (tpD Tp),.val (.int m),.un,.un,.un,.un,.un,.un,.un]
  refine cq_setR (fun n1 d=>n1=c + 1∧∃ w:Int,d=.int w) (fun q hq=>⟨_,rfl,_,rfl,3,rfl,by decide,by decide,by omega,fun r _ _=>hq _ _ ⟨rfl,r,rfl⟩⟩) ?_
  rintro c1 _ ⟨hc1,w,rfl⟩
  refine cq_setR (fun n1 d=>n1=c + 2∧∃ s:Nat,d=.int (s:Int)) (fun q hq=>⟨_,rfl,_,rfl,26,rfl,by decide,by decide,by omega,fun r h0 _=>hq _ _ ⟨by omega,(natOf h0).imp fun _ e=>by rw [e]⟩⟩) ?_
  rintro c2 _ ⟨hc2,s,rfl⟩
  refine cq_pure (seq_set (.str letters) (fun q hq=>hq) ?_)
  refine cq_pure (seq_set (.list (words10.map PyData.str)) (fun q hq=>⟨by decide,hq⟩) ?_)
  refine cq_pure (seq_if (fun _=>True) (fun q hq=>⟨_,rfl,hq _ trivial⟩) (fun _=>?_) fun _=>?_)
  · show eCall (f1 gTuple) _ _ _
    dsimp only [eCall,aCons,aNil]
    refine lcx_map (ts:=intsTo m) (fun R h=>⟨_,rfl,(m:Int),rfl,by omega,by omega,by simpa using h⟩) (fun x=>match x with | .int j=>.str (wAt ((s + 3 * j.toNat) % 10)) | _=>.none) (by rw [intsTo_len]; omega) (fun x q hx hq=>?_) ?_
    · obtain ⟨j,hj,rfl⟩:=List.mem_map.mp hx
      have hj':j < m:=by simpa using hj
      have e:((s:Int) + 3 * (j:Int)) % 10=(((s + 3 * j) % 10:Nat):Int):=by omega
      have hat:L2.atI (words10.map PyData.str) (((s:Int) + 3 * (j:Int)) % 10)=some (.str (wAt ((s + 3 * j) % 10))):=by
        rw [e]; exact L2.atI_nat (by rw [List.getElem?_map,wAt_get (Nat.mod_lt _ (by decide))]; rfl)
      exact ⟨_,rfl,_,rfl,_,rfl,.inl ⟨by decide,by decide⟩,(show (0:Int) < 10 by decide),_,hat,hq⟩
    · unfold intsTo
      rw [List.map_map]
      have:=h c2 _ (by omega) (nms_words10 (s:=s) (m:=m) (by omega))
      rw [List.map_map] at this
      exact this
  · try unfold sNext
    dsimp only
    refine cq_setR (fun n1 d=>n1≤c + 9∧∃ z:Str,d=.str z∧z.cps.toList.length=7∧∀ c ∈ z.cps.toList,c ∈ letters.cps.toList) (fun q hq=>?_) ?_
    · refine ⟨_,rfl,?_⟩
      refine clc_in (ts:=intsTo 7) (fun R h=>⟨7,rfl,by decide,by decide,h⟩) (fun _ _ y=>∃ c,c ∈ letters.cps.toList∧y=.str ⟨#[c]⟩) 1 (by decide) (fun j k x q hx hk hq=>?_) fun k ys hk hl' hy=>?_
      · rw [Nat.one_mul] at hk
        have hj:=(intsTo_get hx).1
        refine ⟨_,rfl,_,rfl,_,rfl,26,rfl,by decide,by decide,by omega,fun r h0 h1=>?_⟩
        obtain ⟨c,hc,hcc,_⟩:=atI_in (xs:=letters.cps.toList) (i:=r) h0 (by rw [letters_len]; exact h1)
        exact ⟨by decide,c,hcc,hq _ _ (Nat.le_refl _) ⟨c,hc,rfl⟩⟩
      · obtain ⟨cs,rfl,hcl⟩:=signs_of (ys:=ys) fun y hy'=>by
          obtain ⟨j,hj,rfl⟩:=List.mem_iff_getElem.mp hy'
          have hjt:j < (intsTo 7).length:=by rw [← hl']; exact hj
          exact hy j (intsTo 7)[j] _ (List.getElem?_eq_getElem hjt) (List.getElem?_eq_getElem hj)
        have hl7:cs.length=7:=by rw [List.length_map,intsTo_len] at hl'; exact hl'
        rw [intsTo_len] at hk
        refine ⟨cs.map fun c=>⟨#[c]⟩,by rw [List.map_map]; rfl,?_,hq _ _ ⟨by omega,_,rfl,?_,?_⟩⟩
        · rw [List.length_map,List.map_map,hl7]
          have:(List.map ((fun x:Str=>x.length) ∘ fun c=>(⟨#[c]⟩:Str)) cs).sum=cs.length:=by
            clear hl7 hl' hy hcl
            induction cs with
            | nil=>rfl
            | cons a l ih=>rw [List.map_cons,List.sum_cons,ih,List.length_cons]; show 1 + _=_; omega
          rw [this,hl7]
          decide
        · rw [show (Txt.join (Str.ofString "") (cs.map fun c=>⟨#[c]⟩)).cps.toList=cs from join_signs cs]; exact hl7
        · rw [show (Txt.join (Str.ofString "") (cs.map fun c=>⟨#[c]⟩)).cps.toList=cs from join_signs cs]; exact hcl
    rintro c3 _ ⟨hc3,z,rfl,hz7,hzl⟩
    have hz:z.length≤100000:=by
      have:z.length=z.cps.toList.length:=by simp [Str.length]
      omega
    refine cq_pure (seq_if (fun _=>True) (fun q hq=>⟨_,rfl,hq _ trivial⟩) (fun _=>?_) fun _=>?_)
    · refine seq_set (.list (((List.range m).map fun j:Nat=>Txt.slice z none (some ((j:Int) + 1))).map PyData.str)) (fun q hq=>?_) ?_
      · refine lcx_map (ts:=intsTo m) (fun R h=>⟨_,rfl,(m:Int),rfl,by omega,by omega,by simpa using h⟩) (fun x=>match x with | .int j=>.str (Txt.slice z none (some (j + 1))) | _=>.none) (by rw [intsTo_len]; omega) (fun x q hx hq=>?_) ?_
        · obtain ⟨j,hj,rfl⟩:=List.mem_map.mp hx
          exact ⟨_,rfl,_,rfl,hz,hq⟩
        · unfold intsTo
          rw [List.map_map]
          rw [List.map_map] at hq
          exact hq
      have hnb:=nms_pref hz7 hzl (m:=m) (by omega)
      have e:(s:Int) % (m:Int)=((s % m:Nat):Int):=by omega
      have fin:∀ ys:List Str,Nms m ys→(cutD (ys.map PyData.str) (some ((s:Int) % (m:Int))) none).length + (cutD (ys.map PyData.str) none (some ((s:Int) % (m:Int)))).length≤100000∧Q c3 (.tuple (cutD (ys.map PyData.str) (some ((s:Int) % (m:Int))) none++cutD (ys.map PyData.str) none (some ((s:Int) % (m:Int))))):=fun ys hy=>by
        have h1:=hy.1
        rw [e,cut_map,cut_map,← List.map_append,List.length_map,List.length_map,cut_sn,cut_ns,List.length_drop,List.length_take]
        exact ⟨by omega,h _ _ (by omega) (nms_turnW hy (s % m))⟩
      have hm0:(0:Int) < (m:Int):=by omega
      exact ⟨_,rfl,_,rfl,_,rfl,hm0,_,rfl,_,rfl,_,rfl,hm0,fin _ hnb⟩
    · try unfold sNext
      dsimp only
      refine cq_setR (fun n1 d=>n1≤c + 10∧∃ t:Nat,d=.int (t:Int)) (fun q hq=>⟨_,rfl,_,rfl,8,rfl,by decide,by decide,by omega,fun r h0 _=>hq _ _ ⟨by omega,(natOf h0).imp fun _ e=>by rw [e]⟩⟩) ?_
      rintro c4 _ ⟨hc4,t,rfl⟩
      show eCall (f1 gTuple) _ _ _
      dsimp only [eCall,aCons,aNil]
      refine lcx_map (ts:=intsTo m) (fun R h=>⟨_,rfl,(m:Int),rfl,by omega,by omega,by simpa using h⟩) (fun x=>match x with | .int j=>.str (insAt z t (cAt ((s + 7 * j.toNat) % 26))) | _=>.none) (by rw [intsTo_len]; omega) (fun x q hx hq=>?_) ?_
      · obtain ⟨j,hj,rfl⟩:=List.mem_map.mp hx
        have e:((s:Int) + 7 * (j:Int)) % 26=(((s + 7 * j) % 26:Nat):Int):=by omega
        have hc:=cAt_get (i:=(s + 7 * j) % 26) (Nat.mod_lt _ (by decide))
        have hca:L2.atI letters.cps.toList (((s:Int) + 7 * (j:Int)) % 26)=some (cAt ((s + 7 * j) % 26)):=by rw [e]; exact L2.atI_nat hc
        obtain ⟨w1,w2⟩:=insAt_len z hz7 t (cAt ((s + 7 * j) % 26))
        exact ⟨_,rfl,_,rfl,hz,_,rfl,_,rfl,_,rfl,.inl ⟨by decide,by decide⟩,(show (0:Int) < 26 by decide),by decide,_,hca,w1,_,rfl,_,rfl,hz,w2,hq⟩
      · unfold intsTo
        rw [List.map_map]
        have:=h c4 _ (by omega) (nms_ins hz7 hzl (t:=t) (s:=s) (m:=m) (by omega))
        rw [List.map_map] at this
        exact this

theorem sc_31:FnScope ["_law_tape_here","_law_fields","_law_values","_law_answers","_law_names_here"] ["_law_tape_here","_law_fields","_law_values"] (defScope (top 42)):=⟨rfl,rfl,rfl,by decide +kernel,rfl,by decide +kernel,by decide +kernel⟩
set_option maxHeartbeats 4000000 in
theorem ok_31 (T:Txt K mg A)
    (F_29:FnOk P w K mg base CX0 1 A.a_29 A.f_29 ["_law_tape_here","_law_many"] (liftSpC K sp_29))
    (F_30:FnOk P w K mg base CX0 2 A.a_30 A.f_30 ["_law_tape_here","_law_many"] (liftSpC K sp_30)):FnOk P w K mg base CX0 3 A.a_31 A.f_31 ["_law_tape_here","_law_fields","_law_values"] (liftSpC K sp_31):=by
  refine fnC T.F_31 sc_31 (fun τ n ds Q h=>by obtain ⟨f,v,rfl,hf1,hf5,hv2,hv5,hc,h⟩:=h; rfl) fun cdv Ar outer s H E hr Tp c ds Q hdig h=>?_
  obtain ⟨f,v,rfl,hf1,hf5,hv2,hv5,hc,h⟩:=h
  have nd:=sc_31.nd
  refine ⟨_,(sc_cons (sc_set (i:=3) (ec_call F_30 T.m_30 T.k_30 T.d_30 (hr.mono (by decide)) (ac_cons (ec_p (et_v 0)) (ac_cons (ec_ix ix_seq o_ix (ec_p (et_lst (at_cons et_int (at_cons et_int (at_cons et_int (at_cons et_int at_nil)))))) (ec_call F_29 T.m_29 T.k_29 T.d_29 (hr.mono (by decide)) (ac_cons (ec_p (et_v 0)) (ac_cons (ec_p et_int) ac_nil)) (fun h=>pe_call F_29 (hr.mono (by decide)) rfl T.m_29 T.k_29 T.d_29 .nil pass0 h))) ac_nil)) (fun h=>pe_call F_30 (hr.mono (by decide)) rfl T.m_30 T.k_30 T.d_30 .nil pass0 h)) (fun h=>ps_set (i:=3) nd rfl (by first | exact Or.inl rfl | exact Or.inr rfl) h))
  (sc_cons (sc_set (i:=4) (ec_call F_30 T.m_30 T.k_30 T.d_30 (hr.mono (by decide)) (ac_cons (ec_p (et_v 0)) (ac_cons (ec_p (et_v 1)) ac_nil)) (fun h=>pe_call F_30 (hr.mono (by decide)) rfl T.m_30 T.k_30 T.d_30 .nil pass0 h)) (fun h=>ps_set (i:=4) nd rfl (by first | exact Or.inl rfl | exact Or.inr rfl) h))
  (sc_one (sc_ret (ec_tup (ac_cons (ec_cb c_tuple (ac_cons (ec_lc (fr:=[none,some 0,some 2]) (N':=["_law_name","_law_tape_here","_law_values"]) (it_val (et_v 4)) (fun b=>⟨(gt_name (pg_name (i:=0) (show List.Nodup (["_law_name","_law_tape_here","_law_values"]:List Str) from by decide +kernel) rfl (by first | exact Or.inl rfl | exact Or.inr rfl))),if_nil,(ec_tup (ac_cons (ec_p (et_v 0)) (ac_cons (ec_call F_30 T.m_30 T.k_30 T.d_30 (hr.mono (by decide)) (ac_cons (ec_p (et_v 1)) (ac_cons (ec_op op_addAny o_add (ec_p et_int) (ec_call F_29 T.m_29 T.k_29 T.d_29 (hr.mono (by decide)) (ac_cons (ec_p (et_v 1)) (ac_cons (ec_p (et_op op_sub o_I0 (et_v 2) et_int)) ac_nil)) (fun h=>pe_call F_29 (hr.mono (by decide)) rfl T.m_29 T.k_29 T.d_29 .nil pass0 h))) ac_nil)) (fun h=>pe_call F_30 (hr.mono (by decide)) rfl T.m_30 T.k_30 T.d_30 .nil pass0 h)) ac_nil)))⟩) (fun hi hY=>pe_lcc (show lcChk _ (defScope (top 42)) ["_law_tape_here","_law_fields","_law_values","_law_answers","_law_names_here"] ["_law_name","_law_tape_here","_law_values"] [none,some 0,some 2]=true from by decide +kernel) rfl hi hY)) ac_nil) (fun h=>pe_callTy call_tuple_of rfl T.b_tuple bl_tuple h)) (ac_cons (ec_p (et_v 3)) ac_nil))))))),?_⟩
  show cSeq _ _ _ _ _ [.val (tpD Tp),.val (.int f),.val (.int v),.un,.un]
  refine cq_setR (fun n1 d=>n1≤c + 13∧∃ (m:Nat) (ys:List Str),2≤m∧m≤4∧Nms m ys∧d=.tuple (ys.map PyData.str)) (fun q hq=>⟨_,rfl,by decide,_,rfl,_,rfl,4,rfl,by decide,by decide,by omega,fun r h0 h1=>?_⟩) ?_
  · obtain ⟨d,hm,hat,_⟩:=atI_in (xs:=[PyData.int 2,.int 3,.int 2,.int 4]) (i:=r) h0 h1
    have:∃ m:Nat,d=.int (m:Int)∧2≤m∧m≤4:=by
      simp only [List.mem_cons,List.not_mem_nil,or_false] at hm
      rcases hm with rfl | rfl | rfl | rfl
      · exact ⟨2,rfl,by decide,by decide⟩
      · exact ⟨3,rfl,by decide,by decide⟩
      · exact ⟨2,rfl,by decide,by decide⟩
      · exact ⟨4,rfl,by decide,by decide⟩
    obtain ⟨m,rfl,hm2,hm4⟩:=this
    exact ⟨_,hat,_,rfl,m,rfl,by omega,by omega,by omega,fun n' ys hn hy=>hq _ _ ⟨by omega,m,ys,hm2,hm4,hy,rfl⟩⟩
  rintro c1 _ ⟨hc1,ma,an,hma2,hma4,han,rfl⟩
  refine cq_setR (fun n1 d=>n1≤c + 25∧∃ ys:List Str,Nms f ys∧d=.tuple (ys.map PyData.str)) (fun q hq=>⟨_,rfl,_,rfl,_,rfl,f,rfl,hf1,hf5,by omega,fun n' ys hn hy=>hq _ _ ⟨by omega,ys,hy,rfl⟩⟩) ?_
  rintro c2 _ ⟨hc2,ns,hns,rfl⟩
  have hnl:=hns.1
  dsimp only [cRet,cTup,cCons,cCall]
  refine clc_in (ts:=ns.map PyData.str) (fun R h=>⟨_,rfl,_,rfl,h⟩) (fun _ x y=>∃ nm vs,x=.str nm∧y=fldD (nm,vs)∧(2≤vs.length∧vs.length≤v∧Nms vs.length vs)) 13 (by rw [List.length_map]; omega) (fun j k x q hx hk hq=>?_) fun k ys hk hl' hy=>?_
  · have hj:j < ns.length:=by have:=(List.getElem?_eq_some_iff.mp hx).1; rw [List.length_map] at this; exact this
    obtain ⟨nm,_,rfl⟩:=List.mem_map.mp (List.mem_of_getElem? hx)
    refine ⟨_,rfl,_,rfl,_,rfl,_,rfl,_,rfl,(v:Int) - 1,rfl,by omega,by omega,by omega,fun r h0 h1=>?_⟩
    obtain ⟨t,rfl⟩:=natOf h0
    have e:[PyData.int (2 + (t:Int))]=[.int ((2 + t:Nat):Int)]:=by
      have:(2:Int) + (t:Int)=((2 + t:Nat):Int):=by omega
      rw [this]
    exact ⟨_,rfl,2 + t,e,by omega,by omega,by omega,fun n' vs hn hv=>⟨(Nat.le_of_ble_eq_true rfl),hq _ _ (by omega) ⟨nm,vs,rfl,rfl,by rw [hv.1]; omega,by rw [hv.1]; omega,by rw [hv.1]; exact hv⟩⟩⟩
  · rw [List.length_map] at hl' hk
    obtain ⟨fs,rfl,h1,h2⟩:=flds_of ns ys hl' hy
    have hfl:fs.length=f:=by rw [← hnl,← h1,List.length_map]
    have hal:=han.1
    refine ⟨_,rfl,(Nat.le_of_ble_eq_true rfl),h k fs an (by omega) ⟨by omega,by omega,by rw [h1,hfl]; exact hns,fun x hx=>⟨(h2 x hx).1,by have:=(h2 x hx).2.1; omega,(h2 x hx).2.2⟩,by omega,by omega,by rw [hal]; exact han⟩ hfl fun x hx=>(h2 x hx).2.1⟩

theorem sc_32:FnScope ["_law_tape_here","_law_form_here","_law_case_here","_law_name","_law_values","_law_at"] ["_law_tape_here","_law_form_here"] (defScope (top 43)):=⟨rfl,rfl,rfl,by decide +kernel,rfl,by decide +kernel,by decide +kernel⟩
set_option maxHeartbeats 4000000 in
theorem ok_32 (T:Txt K mg A)
    (F_29:FnOk P w K mg base CX0 1 A.a_29 A.f_29 ["_law_tape_here","_law_many"] (liftSpC K sp_29)):FnOk P w K mg base CX0 2 A.a_32 A.f_32 ["_law_tape_here","_law_form_here"] (liftSpC K sp_32):=by
  refine fnC T.F_32 sc_32 (fun τ n ds Q h=>by obtain ⟨fs,an,rfl,F,hc,h⟩:=h; rfl) fun cdv Ar outer s H E hr Tp c ds Q hdig h=>?_
  obtain ⟨fs,an,rfl,F,hc,h⟩:=h
  have nd:=sc_32.nd
  refine ⟨_,(sc_cons (sc_p (st_set (i:=2) (et_tup at_nil) (fun h=>ps_set (i:=2) nd rfl (by first | exact Or.inl rfl | exact Or.inr rfl) h)))
  (sc_cons (sc_for (it_val (et_ix ix_seq o_ix (et_v 1) et_int)) (gt_pair (pg_tup rfl (pgs_cons (pg_name (i:=3) nd rfl (by first | exact Or.inl rfl | exact Or.inr rfl)) (pgs_cons (pg_name (i:=4) nd rfl (by first | exact Or.inl rfl | exact Or.inr rfl)) pgs_nil))))
  (sc_cons (sc_set (i:=5) (ec_call F_29 T.m_29 T.k_29 T.d_29 (hr.mono (by decide)) (ac_cons (ec_p (et_v 0)) (ac_cons (ec_p (et_op op_mulAny o_mul et_int (et_cb c_len (at_cons (et_v 4) at_nil) (fun h=>pe_callB call_lenAny rfl T.b_len bl_len h)))) ac_nil)) (fun h=>pe_call F_29 (hr.mono (by decide)) rfl T.m_29 T.k_29 T.d_29 .nil pass0 h)) (fun h=>ps_set (i:=5) nd rfl (by first | exact Or.inl rfl | exact Or.inr rfl) h))
  (sc_one (sc_p (st_set (i:=2) (et_op op_addAny o_add (et_v 2) (et_tup (at_cons (et_if (tt_cmp op_eq o_eq (et_op op_mod o_I (et_v 5) et_int) et_int) et_non (et_ix ix_seq o_ix (et_v 4) (et_op op_fdiv o_I (et_v 5) et_int))) at_nil))) (fun h=>ps_set (i:=2) nd rfl (by first | exact Or.inl rfl | exact Or.inr rfl) h))))) (fun hi hg hb=>ps_for PassesOwn.never rfl hi hg hb))
  (sc_one (sc_p (st_ret (et_v 2)))))),?_⟩
  show cSeq _ _ _ _ _ [.val (tpD Tp),.val (frmD fs an),.un,.un,.un,.un]
  have n5:=F.n5
  refine cq_pure (seq_set (.tuple []) (fun q hq=>⟨(Nat.le_of_ble_eq_true rfl),hq⟩) ?_)
  refine cq_for (ts:=fs.map fldD) (fun R h=>⟨_,rfl,_,rfl,_,rfl,h⟩)
    (fun k m σ=>∃ (cs:List D) (s3 s4 s5:Sl),σ=[.val (tpD Tp),.val (frmD fs an),.val (.tuple cs),s3,s4,s5]∧m≤c + k∧cs.length=k∧∀ (j:Nat) f d,fs[j]?=some f→cs[j]?=some d→okV f d=true) ⟨[],_,_,_,rfl,Nat.le_refl _,rfl,fun j f d _ h=>by simp at h⟩ (fun k m x σ' hx hP=>?_) fun m σ' hP=>?_
  · obtain ⟨cs,s3,s4,s5,rfl,hm,hcl,hcv⟩:=hP
    have hk:k < fs.length:=by have:=(List.getElem?_eq_some_iff.mp hx).1; rw [List.length_map] at this; exact this
    have ex:x=fldD fs[k]:=by rw [List.getElem?_map,List.getElem?_eq_getElem hk] at hx; exact (Option.some.inj hx).symm
    subst ex
    have hfk:fs[k]?=some fs[k]:=List.getElem?_eq_getElem hk
    obtain ⟨v2,v5,hvv⟩:=F.vs _ (List.getElem_mem hk)
    generalize fs[k]=f at *
    refine ⟨.str f.1,.tuple (f.2.map PyData.str),rfl,?_⟩
    refine cq_setR (fun n1 d=>n1=m + 1∧∃ t:Nat,d=.int (t:Int)∧t < 5 * f.2.length) (fun q hq=>⟨_,rfl,_,rfl,.inl ⟨by decide,by decide⟩,_,rfl,5 * ((f.2.map PyData.str).length:Int),rfl,by rw [List.length_map]; omega,by rw [List.length_map]; omega,by omega,fun r h0 h1=>hq _ _ ⟨rfl,?_⟩⟩) ?_
    · obtain ⟨t,rfl⟩:=natOf h0
      rw [List.length_map] at h1
      exact ⟨t,rfl,by omega⟩
    rintro m1 _ ⟨hm1,t,rfl,ht⟩
    have e5:((t:Int) / 5)=((t / 5:Nat):Int):=by omega
    have hat:L2.atI (f.2.map PyData.str) ((t:Int) / 5)=some (.str f.2[t / 5]):=by rw [e5]; exact atI_strs (by omega)
    have fin:∀ d,okV f d=true→∃ (cs':List D) (s3 s4 s5:Sl),[Sl.val (tpD Tp),.val (frmD fs an),.val (.tuple (cs++[d])),.val (.str f.1),.val (.tuple (f.2.map PyData.str)),.val (.int (t:Int))]=[.val (tpD Tp),.val (frmD fs an),.val (.tuple cs'),s3,s4,s5]∧m1≤c + (k + 1)∧cs'.length=k + 1∧∀ (j:Nat) f d,fs[j]?=some f→cs'[j]?=some d→okV f d=true:=fun d hd=>by
      refine ⟨cs++[d],_,_,_,rfl,by omega,by simp [hcl],fun j g e hg he=>?_⟩
      by_cases hj:j < k
      · rw [List.getElem?_append_left (by omega)] at he
        exact hcv j g e hg he
      · rw [List.getElem?_append_right (by omega)] at he
        have:j=k:=by
          by_cases z:j=k
          · exact z
          · have:j - cs.length ≠ 0:=by omega
            cases q:j - cs.length with
            | zero=>exact absurd q this
            | succ n=>rw [q] at he; simp at he
        subst this
        rw [hfk] at hg
        cases hg
        simp [hcl] at he
        subst he
        exact hd
    by_cases hz:(t:Int) % 5=4
    · refine one_set (.tuple (cs++[.none])) (fun q hq=>⟨_,rfl,_,rfl,(show (0:Int) < 5 by decide),by
        show (if decide ((t:Int) % 5=4)=true then _ else _)
        rw [if_pos (decide_eq_true hz)]
        exact ⟨(Nat.le_of_ble_eq_true rfl),by show cs.length + 1≤_; omega,hq⟩⟩) ?_
      dsimp only
      exact fin .none rfl
    · refine one_set (.tuple (cs++[.str f.2[t / 5]])) (fun q hq=>⟨_,rfl,_,rfl,(show (0:Int) < 5 by decide),by
        show (if decide ((t:Int) % 5=4)=true then _ else _)
        rw [if_neg (by simpa using hz)]
        exact ⟨_,rfl,_,rfl,⟨by decide,by decide⟩,_,hat,(Nat.le_of_ble_eq_true rfl),by show cs.length + 1≤_; omega,hq⟩⟩) ?_
      dsimp only
      have hmem:f.2[t / 5] ∈ f.2:=List.getElem_mem _
      exact fin (.str f.2[t / 5]) (decide_eq_true hmem)
  · obtain ⟨cs,s3,s4,s5,rfl,hm,hcl,hcv⟩:=hP
    rw [List.length_map] at hm hcl
    exact ⟨_,rfl,h m cs (by omega) (case_of hcl hcv)⟩

theorem sc_33:FnScope ["_law_tape_here","_law_form_here","_law_many","_law_rows_here","_law_k","_law_case_here","_law_at","_law_row"] ["_law_tape_here","_law_form_here","_law_many"] (defScope (top 44)):=⟨rfl,rfl,rfl,by decide +kernel,rfl,by decide +kernel,by decide +kernel⟩
set_option maxHeartbeats 4000000 in
theorem ok_33 (T:Txt K mg A)
    (F_32:FnOk P w K mg base CX0 2 A.a_32 A.f_32 ["_law_tape_here","_law_form_here"] (liftSpC K sp_32))
    (F_29:FnOk P w K mg base CX0 1 A.a_29 A.f_29 ["_law_tape_here","_law_many"] (liftSpC K sp_29)):FnOk P w K mg base CX0 3 A.a_33 A.f_33 ["_law_tape_here","_law_form_here","_law_many"] (liftSpC K sp_33):=by
  refine fnC T.F_33 sc_33 (fun τ n ds Q h=>by obtain ⟨fs,an,m,rfl,F,hm60,hc,h⟩:=h; rfl) fun cdv Ar outer s H E hr Tp c ds Q hdig h=>?_
  obtain ⟨fs,an,m,rfl,F,hm60,hc,h⟩:=h
  have nd:=sc_33.nd
  refine ⟨_,(sc_cons (sc_p (st_own (i:=3) at_nil (fun h=>ps_set (i:=3) nd rfl (by first | exact Or.inl rfl | exact Or.inr rfl) h)))
  (sc_cons (sc_for (it_range (at_cons (et_v 2) at_nil) (fun h=>pi_range1 rfl T.b_range h)) (gt_name (pg_name (i:=4) nd rfl (by first | exact Or.inl rfl | exact Or.inr rfl)))
  (sc_cons (sc_set (i:=5) (ec_call F_32 T.m_32 T.k_32 T.d_32 (hr.mono (by decide)) (ac_cons (ec_p (et_v 0)) (ac_cons (ec_p (et_v 1)) ac_nil)) (fun h=>pe_call F_32 (hr.mono (by decide)) rfl T.m_32 T.k_32 T.d_32 .nil pass0 h)) (fun h=>ps_set (i:=5) nd rfl (by first | exact Or.inl rfl | exact Or.inr rfl) h))
  (sc_cons (sc_set (i:=6) (ec_call F_29 T.m_29 T.k_29 T.d_29 (hr.mono (by decide)) (ac_cons (ec_p (et_v 0)) (ac_cons (ec_p (et_cb c_len (at_cons (et_ix ix_seq o_ix (et_v 1) et_int) at_nil) (fun h=>pe_callB call_lenAny rfl T.b_len bl_len h))) ac_nil)) (fun h=>pe_call F_29 (hr.mono (by decide)) rfl T.m_29 T.k_29 T.d_29 .nil pass0 h)) (fun h=>ps_set (i:=6) nd rfl (by first | exact Or.inl rfl | exact Or.inr rfl) h))
  (sc_cons (sc_if (wc_pt (wc_and (tc_p (tt_cmp op_isNot2 o_isNot2 (et_ix ix_seq o_ix (et_v 5) et_int) et_non)) (wc_and1 (tc_cmp op_eq o_eq (ec_call F_29 T.m_29 T.k_29 T.d_29 (hr.mono (by decide)) (ac_cons (ec_p (et_v 0)) (ac_cons (ec_p et_int) ac_nil)) (fun h=>pe_call F_29 (hr.mono (by decide)) rfl T.m_29 T.k_29 T.d_29 .nil pass0 h)) (ec_p et_int)))))
  (sc_one (sc_p (st_set (i:=6) (et_op op_mod o_I (et_index (et_ix ix_seq o_ix (et_ix ix_seq o_ix (et_ix ix_seq o_ix (et_v 1) et_int) et_int) et_int) (at_cons (et_ix ix_seq o_ix (et_v 5) et_int) at_nil) (fun h ha=>pe_bm PySem.F.plainAttrs_tuple PySem.F.slot_tuple_index PySem.F.type_tuple_index (mt_index hr) h ha)) (et_cb c_len (at_cons (et_ix ix_seq o_ix (et_v 1) et_int) at_nil) (fun h=>pe_callB call_lenAny rfl T.b_len bl_len h))) (fun h=>ps_set (i:=6) nd rfl (by first | exact Or.inl rfl | exact Or.inr rfl) h))))
  sc_nil)
  (sc_cons (sc_p (st_set (i:=7) (et_tup (at_cons (et_v 5) (at_cons (et_ix ix_seq o_ix (et_ix ix_seq o_ix (et_v 1) et_int) (et_v 6)) at_nil))) (fun h=>ps_set (i:=7) nd rfl (by first | exact Or.inl rfl | exact Or.inr rfl) h)))
  (sc_cons (sc_if (wc_pt (wc_and (tc_p (tt_cmp op_gt o_B0 (et_v 4) et_int)) (wc_and1 (tc_cmp op_eq o_eq (ec_call F_29 T.m_29 T.k_29 T.d_29 (hr.mono (by decide)) (ac_cons (ec_p (et_v 0)) (ac_cons (ec_p et_int) ac_nil)) (fun h=>pe_call F_29 (hr.mono (by decide)) rfl T.m_29 T.k_29 T.d_29 .nil pass0 h)) (ec_p et_int)))))
  (sc_one (sc_set (i:=7) (ec_ixOwn (i:=3) (pv 3) (ec_call F_29 T.m_29 T.k_29 T.d_29 (hr.mono (by decide)) (ac_cons (ec_p (et_v 0)) (ac_cons (ec_p (et_v 4)) ac_nil)) (fun h=>pe_call F_29 (hr.mono (by decide)) rfl T.m_29 T.k_29 T.d_29 .nil pass0 h))) (fun h=>ps_set (i:=7) nd rfl (by first | exact Or.inl rfl | exact Or.inr rfl) h)))
  sc_nil)
  (sc_one (sc_p (st_app (i:=3) (pv 3) (et_v 7) (pb:=fun h=>ps_expr (pe_bm PySem.F.plainAttrs_list PySem.F.slot_list_append PySem.F.type_list_append mt_append (pv 3) h)))))))))) (fun hi hg hb=>ps_for PassesOwn.never rfl hi hg hb))
  (sc_share 3 (sc_one (sc_p (st_ret (et_v 3))))))),?_⟩
  show cSeq _ _ _ _ _ [.val (tpD Tp),.val (frmD fs an),.val (.int m),.un,.un,.un,.un,.un]
  have n1:=F.n1
  have a2:=F.a2
  have a4:=F.a4
  refine cq_pure (seq_own [] (by decide) (fun q hq=>hq) ?_)
  refine cq_for (ts:=intsTo m) (fun R h=>⟨_,rfl,(m:Int),rfl,by omega,by omega,by simpa using h⟩)
    (fun k c1 σ=>∃ (rs:List (List D × Str)) (s4 s5 s6 s7:Sl),σ=[.val (tpD Tp),.val (frmD fs an),.val (.int m),.own (rs.map rowD),s4,s5,s6,s7]∧c1≤c + 10 * k∧rs.length=k∧RowsOk fs an rs) ⟨[],_,_,_,_,rfl,by omega,rfl,fun r hr=>by simp at hr⟩ (fun k c1 x σ' hx hP=>?_) fun c1 σ' hP=>?_
  · obtain ⟨hk,rfl⟩:=intsTo_get hx
    obtain ⟨rs,s4,s5,s6,s7,rfl,hc1,hrl,hrs⟩:=hP
    refine cq_setR (fun n1 d=>n1≤c1 + 5∧∃ cs,isCase fs (.tuple cs)=true∧d=.tuple cs) (fun q hq=>⟨_,rfl,_,rfl,_,rfl,fs,an,rfl,F,by omega,fun n' cs hn hcs=>hq _ _ ⟨hn,cs,hcs,rfl⟩⟩) ?_
    rintro c2 _ ⟨hc2,cs,hcs,rfl⟩
    have hal:((an.map PyData.str).length:Int)=(an.length:Int):=by rw [List.length_map]
    refine cq_setR (fun n1 d=>n1=c2 + 1∧∃ t:Nat,d=.int (t:Int)∧t < an.length) (fun q hq=>⟨_,rfl,_,rfl,_,rfl,_,rfl,((an.map PyData.str).length:Int),rfl,by omega,by omega,by omega,fun r h0 h1=>hq _ _ ⟨rfl,?_⟩⟩) ?_
    · obtain ⟨t,rfl⟩:=natOf h0
      exact ⟨t,rfl,by omega⟩
    rintro c3 _ ⟨hc3,t,rfl,ht⟩
    obtain ⟨hcl,hcv⟩:=case_get hcs
    obtain ⟨f0,hf0⟩:∃ f,fs[0]?=some f:=⟨_,List.getElem?_eq_getElem (by omega)⟩
    obtain ⟨d0,hd0⟩:∃ d,cs[0]?=some d:=⟨_,List.getElem?_eq_getElem (by omega)⟩
    have hok:=hcv 0 f0 d0 hf0 hd0
    have hca:L2.atI cs 0=some d0:=L2.atI_nat (j:=0) hd0
    have hfa:L2.atI (fs.map fldD) 0=some (fldD f0):=L2.atI_nat (j:=0) (by rw [List.getElem?_map,hf0]; rfl)
    have hfm:=List.mem_of_getElem? hf0
    refine cq_ifsetP (∃ z:Str,d0=.str z∧z ∈ f0.2) (fun c4=>c4≤c3 + 1) (fun d=>∃ t:Nat,d=.int (t:Int)∧t < an.length) (fun q hq=>⟨_,rfl,_,hca,?_⟩) (.int (t:Int)) rfl ⟨t,rfl,ht⟩ (fun hC q hq=>?_) ?_
    · show (if (!isNoneD d0)=true then _ else q c3 false)
      cases hn:isNoneD d0 with
      | true=>rw [if_neg (by decide)]; exact hq _ _ (by omega) fun z=>by cases z
      | false =>
        rw [if_pos (by decide)]
        have hstr:∃ z:Str,d0=.str z∧z ∈ f0.2:=by
          cases d0 with
          | none=>cases hn
          | str z=>exact ⟨z,rfl,of_decide_eq_true hok⟩
          | _=>cases hok
        exact ⟨_,rfl,_,rfl,2,rfl,by decide,by decide,by omega,fun r h0 h1=>hq _ _ (Nat.le_refl _) fun _=>hstr⟩
    · obtain ⟨z,rfl,hz⟩:=hC
      have hx:=okIx_strs (F.vals hfm) hz
      have hp:(0:Int) < ((an.map PyData.str).length:Int):=by omega
      refine ⟨_,rfl,_,rfl,_,hfa,_,rfl,_,rfl,_,rfl,_,hca,_,_,rfl,hx,_,rfl,_,rfl,hp,hq _ ⟨(f0.2.idxOf z) % an.length,?_,Nat.mod_lt _ (by omega)⟩⟩
      show PyData.int (((f0.2.idxOf z:Nat):Int) % ((an.map PyData.str).length:Int))=_
      rw [hal]
      rfl
    rintro c4 _ hc4 ⟨t2,rfl,ht2⟩
    have haa:L2.atI (an.map PyData.str) (t2:Int)=some (.str an[t2]):=atI_strs ht2
    refine cq_pure (seq_set (rowD (cs,an[t2])) (fun q hq=>⟨_,rfl,_,rfl,_,rfl,_,rfl,_,haa,(Nat.le_of_ble_eq_true rfl),hq⟩) ?_)
    have hrow:RowOk fs an (cs,an[t2]):=⟨hcs,List.getElem_mem _⟩
    refine cq_ifset (0 < k) (fun c5=>c5≤c4 + 1) (fun d=>∃ r,RowOk fs an r∧d=rowD r) (fun q hq=>⟨_,rfl,?_⟩) (rowD (cs,an[t2])) rfl ⟨_,hrow,rfl⟩ (fun c6=>c6≤c4 + 2) (fun _ z=>by omega) (fun c5 hc5 hk0 q hq=>⟨rs.map rowD,rfl,_,rfl,_,rfl,_,rfl,(k:Int),rfl,by omega,by omega,by omega,fun r h0 h1=>?_⟩) ?_
    · show (if decide ((k:Int) > 0)=true then _ else q c4 false)
      by_cases hk0:(k:Int) > 0
      · rw [if_pos (decide_eq_true hk0)]
        exact ⟨_,rfl,_,rfl,8,rfl,by decide,by decide,by omega,fun r h0 h1=>hq _ _ (Nat.le_refl _) fun _=>by omega⟩
      · rw [if_neg (by simpa using hk0)]
        exact hq _ _ (by omega) fun z=>by cases z
    · obtain ⟨d,hdm,hda,_⟩:=atI_in (xs:=rs.map rowD) (i:=r) h0 (by rw [List.length_map,hrl]; exact h1)
      obtain ⟨r',hr',rfl⟩:=List.mem_map.mp hdm
      exact ⟨r,_,rfl,hda,hq _ _ (by omega) ⟨r',hrs r' hr',rfl⟩⟩
    rintro c6 _ hc6 ⟨r,hr,rfl⟩
    refine one_app (ts:=rs.map rowD) (rowD r) rfl (by rw [List.length_map]; omega) (fun q hq=>⟨_,rfl,hq⟩) ?_
    refine ⟨rs++[r],_,_,_,_,by rw [List.map_append]; rfl,by omega,by simp [hrl],fun r' hr'=>?_⟩
    rcases List.mem_append.mp hr' with z | z
    · exact hrs r' z
    · rw [List.mem_singleton.mp z]; exact hr
  · obtain ⟨rs,s4,s5,s6,s7,rfl,hc1,hrl,hrs⟩:=hP
    rw [intsTo_len] at hc1 hrl
    exact ⟨_,rfl,_,rfl,h c1 rs hc1 hrs hrl⟩

theorem sc_34:FnScope ["_law_form_here","_law_question","_law_stray","_law_case_here","_law_kind","_law_name","_law_value","_law_values","_law_mine","_law_k","_law_far"] ["_law_form_here","_law_question","_law_stray","_law_case_here"] (defScope (top 45)):=⟨rfl,rfl,rfl,by decide +kernel,rfl,by decide +kernel,by decide +kernel⟩
set_option maxHeartbeats 4000000 in
theorem ok_34 (T:Txt K mg A):FnOk P w K mg base CX0 1 A.a_34 A.f_34 ["_law_form_here","_law_question","_law_stray","_law_case_here"] (liftSp K sp_34):=by
  refine fnT T.F_34 sc_34 (fun ds Q h=>by obtain ⟨fs,an,k,n,v,st,cs,rfl,F,hq,hst,hcs,h⟩:=h; rfl) fun cdv Ar outer s H E hr ds Q h=>?_
  obtain ⟨fs,an,k,n,v,st,cs,rfl,F,hq,hst,hcs,h⟩:=h
  have nd:=sc_34.nd
  refine ⟨_,(st_cons (st_unpG (et_v 1) (gt_triple (pg_tup rfl (pgs_cons (pg_name (i:=4) nd rfl (by first | exact Or.inl rfl | exact Or.inr rfl)) (pgs_cons (pg_name (i:=5) nd rfl (by first | exact Or.inl rfl | exact Or.inr rfl)) (pgs_cons (pg_name (i:=6) nd rfl (by first | exact Or.inl rfl | exact Or.inr rfl)) pgs_nil))))) (fun he hg=>ps_asg he hg))
  (st_cons (st_set (i:=7) (et_tup at_nil) (fun h=>ps_set (i:=7) nd rfl (by first | exact Or.inl rfl | exact Or.inr rfl) h))
  (st_cons (st_set (i:=8) et_non (fun h=>ps_set (i:=8) nd rfl (by first | exact Or.inl rfl | exact Or.inr rfl) h))
  (st_cons (st_for (it_range (at_cons (et_cb c_len (at_cons (et_ix ix_seq o_ix (et_v 0) et_int) at_nil) (fun h=>pe_callB call_lenAny rfl T.b_len bl_len h)) at_nil) (fun h=>pi_range1 rfl T.b_range h)) (gt_name (pg_name (i:=9) nd rfl (by first | exact Or.inl rfl | exact Or.inr rfl)))
  (st_one (st_if (tt_cmp op_eq o_eq (et_ix ix_seq o_ix (et_ix ix_seq o_ix (et_ix ix_seq o_ix (et_v 0) et_int) (et_v 9)) et_int) (et_v 5))
  (st_cons (st_set (i:=7) (et_ix ix_seq o_ix (et_ix ix_seq o_ix (et_ix ix_seq o_ix (et_v 0) et_int) (et_v 9)) et_int) (fun h=>ps_set (i:=7) nd rfl (by first | exact Or.inl rfl | exact Or.inr rfl) h))
  (st_one (st_set (i:=8) (et_ix ix_seq o_ix (et_v 3) (et_v 9)) (fun h=>ps_set (i:=8) nd rfl (by first | exact Or.inl rfl | exact Or.inr rfl) h))))
  st_nil)) (fun hi hg hb=>ps_for PassesOwn.never rfl hi hg hb))
  (st_cons (st_if (tt_cmp op_is2 o_is2 (et_v 8) et_non)
  (st_one (st_ret (et_v 2)))
  st_nil)
  (st_cons (st_set (i:=10) (et_op op_sub o_I0 (et_index (et_v 7) (at_cons (et_v 8) at_nil) (fun h ha=>pe_bm PySem.F.plainAttrs_tuple PySem.F.slot_tuple_index PySem.F.type_tuple_index (mt_index hr) h ha)) (et_index (et_v 7) (at_cons (et_v 6) at_nil) (fun h ha=>pe_bm PySem.F.plainAttrs_tuple PySem.F.slot_tuple_index PySem.F.type_tuple_index (mt_index hr) h ha))) (fun h=>ps_set (i:=10) nd rfl (by first | exact Or.inl rfl | exact Or.inr rfl) h))
  (st_one (st_ret (et_if (tw_pt (tw_or (tt_cmp op_eq o_eq (et_v 10) et_int) (tw_or1 (tw_pt (tw_and (tt_cmp op_eq o_eq (et_v 4) et_str) (tw_and1 (tt_cmp op_lt o_B0 (et_v 10) et_int))))))) et_str et_str))))))))),?_⟩
  show sSeq _ _ _ [.val (frmD fs an),.val (.tuple [.str k,.str n,.str v]),.val (.str st),.val (.tuple cs),.un,.un,.un,.un,.un,.un,.un]
  have n5:=F.n5
  obtain ⟨f,hf,hfn,hv,hk⟩:=isQ_str hq
  obtain ⟨j,hj⟩:=List.getElem?_of_mem hf
  have hjl:=(List.getElem?_eq_some_iff.mp hj).1
  obtain ⟨hcl,hcv⟩:=case_get hcs
  obtain ⟨c0,hc0⟩:∃ d,cs[j]?=some d:=⟨_,List.getElem?_eq_getElem (by omega)⟩
  have hok:=hcv j f c0 hj hc0
  have hfl:((fs.map fldD).length:Int)=(fs.length:Int):=by rw [List.length_map]
  refine (show sSeq (sUnpG _ _) _ _ _ from ⟨_,rfl,_,_,_,rfl,?_⟩)
  dsimp only
  refine seq_set (.tuple []) (fun q hq=>⟨(Nat.le_of_ble_eq_true rfl),hq⟩) ?_
  refine seq_set .none (fun q hq=>hq) ?_
  refine seq_for (ts:=intsTo fs.length) (fun R h=>⟨_,rfl,_,rfl,((fs.map fldD).length:Int),rfl,by omega,by omega,by rw [hfl]; simpa using h⟩)
    (fun i σ=>∃ s9:Sl,σ=[.val (frmD fs an),.val (.tuple [.str k,.str n,.str v]),.val (.str st),.val (.tuple cs),.val (.str k),.val (.str n),.val (.str v),.val (if j < i then .tuple (f.2.map PyData.str) else .tuple []),.val (if j < i then c0 else .none),s9,.un]) ⟨_,by rw [if_neg (by omega),if_neg (by omega)]; rfl⟩ (fun i x σ' hx hP=>?_) fun σ' hP=>?_
  · obtain ⟨hi,rfl⟩:=intsTo_get hx
    obtain ⟨s9,rfl⟩:=hP
    have hfi:L2.atI (fs.map fldD) (i:Int)=some (fldD fs[i]):=L2.atI_nat (by rw [List.getElem?_map,List.getElem?_eq_getElem hi]; rfl)
    have hci:L2.atI cs (i:Int)=some cs[i]:=L2.atI_nat (List.getElem?_eq_getElem (by omega))
    by_cases hij:i=j
    · subst hij
      have e1:fs[i]=f:=by rw [List.getElem?_eq_getElem hi] at hj; exact Option.some.inj hj
      have e2:cs[i]=c0:=by rw [List.getElem?_eq_getElem (by omega)] at hc0; exact Option.some.inj hc0
      rw [e1] at hfi
      rw [e2] at hci
      refine one_if (fun b=>b=true) (fun q hq=>⟨_,rfl,_,rfl,_,rfl,_,hfi,_,rfl,_,rfl,hq _ (decide_eq_true hfn)⟩) (fun _=>?_) fun hF=>by cases hF
      refine seq_set (.tuple (f.2.map PyData.str)) (fun q hq=>⟨_,rfl,_,rfl,_,rfl,_,hfi,_,rfl,hq⟩) ?_
      refine one_set c0 (fun q hq=>⟨_,rfl,_,rfl,_,hci,hq⟩) ?_
      refine ⟨.val (.int (i:Int)),?_⟩
      rw [if_pos (Nat.lt_succ_self i),if_pos (Nat.lt_succ_self i)]; rfl
    · have hne:¬ fs[i].1=n:=fun e=>hij (by
        have h1:=name_at F (List.getElem?_eq_getElem hi)
        have h2:=name_at F hj
        rw [e] at h1
        rw [hfn] at h2
        omega)
      refine one_if (fun b=>b=false) (fun q hq=>⟨_,rfl,_,rfl,_,rfl,_,hfi,_,rfl,_,rfl,hq _ (decide_eq_false hne)⟩) (fun hT=>by cases hT) fun _=>?_
      try unfold sNext
      dsimp only
      refine ⟨.val (.int (i:Int)),?_⟩
      by_cases hl:j < i
      · rw [if_pos hl,if_pos hl,if_pos (Nat.lt_succ_of_lt hl),if_pos (Nat.lt_succ_of_lt hl)]; rfl
      · rw [if_neg hl,if_neg hl,if_neg (show ¬ j < i + 1 by omega),if_neg (show ¬ j < i + 1 by omega)]; rfl
  · obtain ⟨s9,rfl⟩:=hP
    rw [intsTo_len,if_pos hjl,if_pos hjl]
    rw [sideS_at F hj hc0 hfn] at h
    cases c0 with
    | none =>
      refine seq_if (fun b=>b=true) (fun q hq=>⟨_,rfl,hq _ rfl⟩) (fun _=>⟨_,rfl,h⟩) fun hF=>by cases hF
    | str z =>
      have hz:z ∈ f.2:=of_decide_eq_true hok
      refine seq_if (fun b=>b=false) (fun q hq=>⟨_,rfl,hq _ rfl⟩) (fun hT=>by cases hT) fun _=>?_
      try unfold sNext
      dsimp only
      have x1:=okIx_strs (F.vals hf) hz
      have x2:=okIx_strs (F.vals hf) hv
      refine seq_set (.int ((f.2.idxOf z:Nat) - (f.2.idxOf v:Nat):Int)) (fun q hq=>⟨_,rfl,_,rfl,_,rfl,_,_,rfl,x1,_,rfl,_,rfl,_,rfl,_,_,rfl,x2,hq⟩) ?_
      have hinj:f.2.idxOf z=f.2.idxOf v→z=v:=fun e=>by
        have a1:=List.getElem_idxOf (List.idxOf_lt_length_iff.mpr hz)
        have a2:=List.getElem_idxOf (List.idxOf_lt_length_iff.mpr hv)
        rw [← a1,← a2]
        congr 1
      refine ⟨_,rfl,?_⟩
      show (if decide (((f.2.idxOf z:Nat) - (f.2.idxOf v:Nat):Int)=0)=true then _ else _)
      by_cases e0:f.2.idxOf z=f.2.idxOf v
      · rw [if_pos (decide_eq_true (by omega))]
        have hs:sideOf f k v st (.str z)="yes":=by
          show (if k="is" then (if z=v then ("yes":Str) else "no") else if f.2.idxOf z≤f.2.idxOf v then ("yes":Str) else "no")=_
          rw [if_pos (hinj e0),if_pos (show f.2.idxOf z≤f.2.idxOf v by omega)]
          exact ite_self _
        rw [hs] at h
        exact h
      · rw [if_neg (by rw [decide_eq_false (by omega)]; decide)]
        refine ⟨_,rfl,?_⟩
        show (if decide (k="upto")=true then _ else _)
        have hzv:¬ z=v:=fun e=>e0 (by rw [e])
        rcases hk with rfl | ⟨rfl,_⟩
        · have hs:sideOf f "is" v st (.str z)="no":=by
            show (if ("is":Str)="is" then (if z=v then ("yes":Str) else "no") else if f.2.idxOf z≤f.2.idxOf v then ("yes":Str) else "no")=_
            rw [if_pos rfl,if_neg hzv]
          rw [hs] at h
          rw [if_neg (by decide +kernel)]
          exact h
        · rw [if_pos (by decide +kernel)]
          refine ⟨_,rfl,?_⟩
          have hs:sideOf f "upto" v st (.str z)=if f.2.idxOf z≤f.2.idxOf v then ("yes":Str) else "no":=by
            show (if ("upto":Str)="is" then (if z=v then ("yes":Str) else "no") else if f.2.idxOf z≤f.2.idxOf v then ("yes":Str) else "no")=_
            rw [if_neg (by decide +kernel)]
          rw [hs] at h
          show (if decide (((f.2.idxOf z:Nat) - (f.2.idxOf v:Nat):Int) < 0)=true then _ else _)
          by_cases hl:f.2.idxOf z < f.2.idxOf v
          · rw [if_pos (decide_eq_true (by omega))]
            rw [if_pos (by omega)] at h
            exact h
          · rw [if_neg (by rw [decide_eq_false (by omega)]; decide)]
            rw [if_neg (by omega)] at h
            exact h
    | _=>cases hok

theorem sc_35:FnScope ["_law_form_here","_law_question","_law_stray","_law_rows_here","_law_ones","_law_others","_law_row"] ["_law_form_here","_law_question","_law_stray","_law_rows_here"] (defScope (top 46)):=⟨rfl,rfl,rfl,by decide +kernel,rfl,by decide +kernel,by decide +kernel⟩
set_option maxHeartbeats 4000000 in
theorem ok_35 (T:Txt K mg A)
    (F_34:FnOk P w K mg base CX0 1 A.a_34 A.f_34 ["_law_form_here","_law_question","_law_stray","_law_case_here"] (liftSp K sp_34)):FnOk P w K mg base CX0 2 A.a_35 A.f_35 ["_law_form_here","_law_question","_law_stray","_law_rows_here"] (liftSp K sp_35):=by
  refine fnT T.F_35 sc_35 (fun ds Q h=>by obtain ⟨fs,an,k,n,v,st,rs,rfl,F,hq,hst,hrs,hl,h⟩:=h; rfl) fun cdv Ar outer s H E hr ds Q h=>?_
  obtain ⟨fs,an,k,n,v,st,rs,rfl,F,hq,hst,hrs,hl,h⟩:=h
  have nd:=sc_35.nd
  refine ⟨_,(st_cons (st_own (i:=4) at_nil (fun h=>ps_set (i:=4) nd rfl (by first | exact Or.inl rfl | exact Or.inr rfl) h))
  (st_cons (st_own (i:=5) at_nil (fun h=>ps_set (i:=5) nd rfl (by first | exact Or.inl rfl | exact Or.inr rfl) h))
  (st_cons (st_for (it_val (et_v 3)) (gt_name (pg_name (i:=6) nd rfl (by first | exact Or.inl rfl | exact Or.inr rfl)))
  (st_one (st_if (tt_cmp op_eq o_eq (et_call F_34 T.m_34 T.k_34 T.d_34 (hr.mono (by decide)) (at_cons (et_v 0) (at_cons (et_v 1) (at_cons (et_v 2) (at_cons (et_ix ix_seq o_ix (et_v 6) et_int) at_nil)))) (fun h=>pe_call F_34 (hr.mono (by decide)) rfl T.m_34 T.k_34 T.d_34 .nil pass0 h)) et_str)
  (st_one (st_app (i:=4) (pv 4) (et_v 6) (pb:=fun h=>ps_expr (pe_bm PySem.F.plainAttrs_list PySem.F.slot_list_append PySem.F.type_list_append mt_append (pv 4) h))))
  (st_one (st_app (i:=5) (pv 5) (et_v 6) (pb:=fun h=>ps_expr (pe_bm PySem.F.plainAttrs_list PySem.F.slot_list_append PySem.F.type_list_append mt_append (pv 5) h)))))) (fun hi hg hb=>ps_for PassesOwn.never rfl hi hg hb))
  (st_share 5 (st_share 4 (st_one (st_ret (et_tup (at_cons (et_v 4) (at_cons (et_v 5) at_nil)))))))))),?_⟩
  show sSeq _ _ _ [.val (frmD fs an),.val (.tuple [.str k,.str n,.str v]),.val (.str st),.val (.list (rs.map rowD)),.un,.un,.un]
  refine seq_own [] (by decide) (fun q hq=>hq) ?_
  refine seq_own [] (by decide) (fun q hq=>hq) ?_
  refine seq_for (ts:=rs.map rowD) (fun R h=>⟨_,rfl,_,rfl,h⟩)
    (fun i σ=>∃ s6:Sl,σ=[.val (frmD fs an),.val (.tuple [.str k,.str n,.str v]),.val (.str st),.val (.list (rs.map rowD)),.own (((rs.take i).filter (onY fs k n v st)).map rowD),.own (((rs.take i).filter fun r=>!onY fs k n v st r).map rowD),s6]) ⟨_,rfl⟩ (fun i x σ' hx hP=>?_) fun σ' hP=>?_
  · obtain ⟨s6,rfl⟩:=hP
    have hi:i < rs.length:=by have:=(List.getElem?_eq_some_iff.mp hx).1; rw [List.length_map] at this; exact this
    have ex:x=rowD rs[i]:=by rw [List.getElem?_map,List.getElem?_eq_getElem hi] at hx; exact (Option.some.inj hx).symm
    subst ex
    have et:rs.take (i + 1)=rs.take i++[rs[i]]:=by rw [List.take_add_one,List.getElem?_eq_getElem hi]; rfl
    have hr:=hrs rs[i] (List.getElem_mem hi)
    have l1:(((rs.take i).filter (onY fs k n v st)).map rowD).length≤60:=by
      rw [List.length_map]
      have:=List.length_filter_le (onY fs k n v st) (rs.take i)
      rw [List.length_take] at this
      omega
    have l2:(((rs.take i).filter fun r=>!onY fs k n v st r).map rowD).length≤60:=by
      rw [List.length_map]
      have:=List.length_filter_le (fun r=>!onY fs k n v st r) (rs.take i)
      rw [List.length_take] at this
      omega
    generalize rs[i]=r at *
    by_cases hy:sideS fs k n v st r.1="yes"
    · have hb:onY fs k n v st r=true:=decide_eq_true hy
      refine one_if (fun b=>b=true) (fun q hq'=>⟨_,rfl,_,rfl,_,rfl,_,rfl,_,rfl,fs,an,k,n,v,st,r.1,rfl,F,hq,hst,hr.1,hq' _ (decide_eq_true hy)⟩) (fun _=>?_) fun hF=>by cases hF
      refine one_app (ts:=((rs.take i).filter (onY fs k n v st)).map rowD) (rowD r) rfl (by omega) (fun q hq=>⟨_,rfl,hq⟩) ?_
      refine ⟨.val (rowD r),?_⟩
      rw [et,List.filter_append,List.filter_append,List.map_append,List.map_append,List.filter_cons (p:=onY fs k n v st),if_pos hb,List.filter_cons (p:=fun r=>!onY fs k n v st r),if_neg (by rw [hb]; decide),List.filter_nil,List.filter_nil,List.map_nil,List.append_nil]
      rfl
    · have hb:onY fs k n v st r=false:=decide_eq_false hy
      refine one_if (fun b=>b=false) (fun q hq'=>⟨_,rfl,_,rfl,_,rfl,_,rfl,_,rfl,fs,an,k,n,v,st,r.1,rfl,F,hq,hst,hr.1,hq' _ (decide_eq_false hy)⟩) (fun hT=>by cases hT) fun _=>?_
      refine one_app (ts:=((rs.take i).filter fun r=>!onY fs k n v st r).map rowD) (rowD r) rfl (by omega) (fun q hq=>⟨_,rfl,hq⟩) ?_
      refine ⟨.val (rowD r),?_⟩
      rw [et,List.filter_append,List.filter_append,List.map_append,List.map_append,List.filter_cons (p:=onY fs k n v st),if_neg (by rw [hb]; decide),List.filter_cons (p:=fun r=>!onY fs k n v st r),if_pos (by rw [hb]; rfl),List.filter_nil,List.filter_nil,List.map_nil,List.append_nil]
      rfl
  · obtain ⟨s6,rfl⟩:=hP
    rw [List.length_map,List.take_length]
    exact ⟨_,rfl,_,rfl,_,rfl,_,rfl,(Nat.le_of_ble_eq_true rfl),h⟩

theorem sc_36:FnScope ["_law_form_here","_law_rows_here","_law_told"] ["_law_form_here","_law_rows_here"] (defScope (top 47)):=⟨rfl,rfl,rfl,by decide +kernel,rfl,by decide +kernel,by decide +kernel⟩
set_option maxHeartbeats 4000000 in
theorem ok_36 (T:Txt K mg A):FnOk P w K mg base CX0 1 A.a_36 A.f_36 ["_law_form_here","_law_rows_here"] (liftSp K sp_36):=by
  refine fnT T.F_36 sc_36 (fun ds Q h=>by obtain ⟨fs,an,rs,rfl,F,hok,hrl,h⟩:=h; rfl) fun cdv Ar outer s H E hr ds Q h=>?_
  obtain ⟨fs,an,rs,rfl,F,hok,hrl,h⟩:=h
  have nd:=sc_36.nd
  refine ⟨_,(st_cons (st_set (i:=2) (et_lc (fr:=[none]) (N':=["_law_row"]) (it_val (et_v 1)) (fun b=>⟨(gt_name (pg_name (i:=0) (show List.Nodup (["_law_row"]:List Str) from by decide +kernel) rfl (by first | exact Or.inl rfl | exact Or.inr rfl))),if_nil,(et_ix ix_seq o_ix (et_v 0) et_int)⟩) (fun hi hY=>pe_lcc (show lcChk _ (defScope (top 47)) ["_law_form_here","_law_rows_here","_law_told"] ["_law_row"] [none]=true from by decide +kernel) rfl hi hY)) (fun h=>ps_set (i:=2) nd rfl (by first | exact Or.inl rfl | exact Or.inr rfl) h))
  (st_one (st_ret (et_lc (fr:=[none,some 2]) (N':=["_law_answer","_law_told"]) (it_val (et_ix ix_seq o_ix (et_v 0) et_int)) (fun b=>⟨(gt_name (pg_name (i:=0) (show List.Nodup (["_law_answer","_law_told"]:List Str) from by decide +kernel) rfl (by first | exact Or.inl rfl | exact Or.inr rfl))),if_nil,(et_lcount (et_v 1) (at_cons (et_v 0) at_nil) (fun h ha=>pe_bm PySem.F.plainAttrs_list PySem.F.slot_list_count PySem.F.type_list_count (mt_lcount hr) h ha))⟩) (fun hi hY=>pe_lcc (show lcChk _ (defScope (top 47)) ["_law_form_here","_law_rows_here","_law_told"] ["_law_answer","_law_told"] [none,some 2]=true from by decide +kernel) rfl hi hY))))),?_⟩
  show sSeq _ _ _ [.val (frmD fs an),.val (.list (rs.map rowD)),.un]
  have a4:=F.a4
  refine seq_set (.list (rs.map fun r=>PyData.str r.2)) (fun q hq=>?_) ?_
  · refine lcx_map (ts:=rs.map rowD) (fun R h=>⟨_,rfl,_,rfl,h⟩) sndT (by rw [List.length_map]; omega) (fun x q hx hq=>?_) ?_
    · obtain ⟨r,hr,rfl⟩:=List.mem_map.mp hx
      exact ⟨_,rfl,_,rfl,hq⟩
    · rw [List.map_map]; exact hq
  have ll:=lay_strs (ys:=rs.map fun r=>r.2) fun y hy=>by
    obtain ⟨r,hr,rfl⟩:=List.mem_map.mp hy
    exact F.an.2.1 _ (hok r hr).2
  rw [List.map_map] at ll
  refine (lcx_map (ts:=an.map PyData.str) (fun R h=>⟨_,rfl,_,rfl,_,rfl,h⟩) (cntD rs) (by rw [List.length_map]; omega) (fun x q hx hq=>?_) ?_)
  · obtain ⟨a,ha,rfl⟩:=List.mem_map.mp hx
    have hA:=th_name (F.an.2.1 a ha) (n:=8) (m:=0) (Nat.le_refl _)
    refine ⟨_,rfl,_,rfl,_,rfl,_,rfl,⟨ll.1,hA.lay,by have:=hA.depth; omega⟩,?_⟩
    rw [told_count]; exact hq
  · show Q _
    have e:(an.map PyData.str).map (cntD rs)=(cnts an rs).map PyData.int:=by
      unfold cnts
      rw [List.map_map,List.map_map]; rfl
    rw [e]; exact h

theorem sc_37:FnScope ["_law_form_here","_law_rows_here","_law_counts_here"] ["_law_form_here","_law_rows_here"] (defScope (top 48)):=⟨rfl,rfl,rfl,by decide +kernel,rfl,by decide +kernel,by decide +kernel⟩
set_option maxHeartbeats 4000000 in
theorem ok_37 (T:Txt K mg A)
    (F_36:FnOk P w K mg base CX0 1 A.a_36 A.f_36 ["_law_form_here","_law_rows_here"] (liftSp K sp_36)):FnOk P w K mg base CX0 2 A.a_37 A.f_37 ["_law_form_here","_law_rows_here"] (liftSp K sp_37):=by
  refine fnT T.F_37 sc_37 (fun ds Q h=>by obtain ⟨fs,an,rs,rfl,F,hok,hrl,h⟩:=h; rfl) fun cdv Ar outer s H E hr ds Q h=>?_
  obtain ⟨fs,an,rs,rfl,F,hok,hrl,h⟩:=h
  have nd:=sc_37.nd
  refine ⟨_,(st_cons (st_set (i:=2) (et_call F_36 T.m_36 T.k_36 T.d_36 (hr.mono (by decide)) (at_cons (et_v 0) (at_cons (et_v 1) at_nil)) (fun h=>pe_call F_36 (hr.mono (by decide)) rfl T.m_36 T.k_36 T.d_36 .nil pass0 h)) (fun h=>ps_set (i:=2) nd rfl (by first | exact Or.inl rfl | exact Or.inr rfl) h))
  (st_one (st_ret (et_ix ix_seq o_ix (et_ix ix_seq o_ix (et_v 0) et_int) (et_lindex (et_v 2) (at_cons (et_cb c_max (at_cons (et_v 2) at_nil) (fun h=>pe_callB (call_max_ints rfl) rfl T.b_max bl_max h)) at_nil) (fun h ha=>pe_bm PySem.F.plainAttrs_list PySem.F.slot_list_index PySem.F.type_list_index (mt_lindex hr) h ha)))))),?_⟩
  show sSeq _ _ _ [.val (frmD fs an),.val (.list (rs.map rowD)),.un]
  have a2:=F.a2
  refine seq_set (.list ((cnts an rs).map PyData.int)) (fun q hq=>⟨_,rfl,_,rfl,fs,an,rs,rfl,F,hok,hrl,hq⟩) ?_
  have hne:cnts an rs ≠ []:=fun z=>by
    have:=congrArg List.length z
    unfold cnts at this
    rw [List.length_map] at this
    simp at this
    rw [this] at a2
    simp at a2
  refine ⟨_,rfl,_,rfl,_,rfl,_,rfl,_,rfl,_,rfl,hne,fun m hm hmax=>?_⟩
  obtain ⟨j,hj,hno⟩:=first_of (cnts an rs) m hm
  have hjl:=(List.getElem?_eq_some_iff.mp hj).1
  have hal:(cnts an rs).length=an.length:=by unfold cnts; rw [List.length_map]
  have a4:=F.a4
  have haj:an[j]?=some an[j]:=List.getElem?_eq_getElem (by omega)
  have hcj:(cnts an rs)[j]?=some ((cnt rs an[j]:Nat):Int):=by unfold cnts; rw [List.getElem?_map,haj]; rfl
  rw [hj] at hcj
  have em:m=((cnt rs an[j]:Nat):Int):=Option.some.inj hcj
  refine ⟨_,j,rfl,okIx_ints hj hno,by omega,_,L2.atI_nat (by rw [List.getElem?_map,haj]; rfl),h _ ⟨j,haj,fun i b hb=>?_,fun i b hi hb=>?_⟩⟩
  · have:=hmax ((cnt rs b:Nat):Int) (List.mem_of_getElem? (i:=i) (by unfold cnts; rw [List.getElem?_map,hb]; rfl))
    omega
  · have hcb:(cnts an rs)[i]?=some ((cnt rs b:Nat):Int):=by unfold cnts; rw [List.getElem?_map,hb]; rfl
    have h1:=hmax _ (List.mem_of_getElem? hcb)
    have h2:((cnt rs b:Nat):Int) ≠ m:=fun z=>hno i hi (by rw [hcb,z])
    omega

theorem sc_38:FnScope ["_law_tape_here","_law_most","_law_way","_law_fields","_law_values","_law_many","_law_form_here"] ["_law_tape_here","_law_most"] (defScope (top 49)):=⟨rfl,rfl,rfl,by decide +kernel,rfl,by decide +kernel,by decide +kernel⟩
set_option maxHeartbeats 4000000 in
theorem ok_38 (T:Txt K mg A)
    (F_29:FnOk P w K mg base CX0 1 A.a_29 A.f_29 ["_law_tape_here","_law_many"] (liftSpC K sp_29))
    (F_31:FnOk P w K mg base CX0 3 A.a_31 A.f_31 ["_law_tape_here","_law_fields","_law_values"] (liftSpC K sp_31))
    (F_33:FnOk P w K mg base CX0 3 A.a_33 A.f_33 ["_law_tape_here","_law_form_here","_law_many"] (liftSpC K sp_33)):FnOk P w K mg base CX0 4 A.a_38 A.f_38 ["_law_tape_here","_law_most"] (liftSpC K sp_38):=by
  refine fnC T.F_38 sc_38 (fun τ n ds Q h=>by obtain ⟨m,rfl,hm3,hm60,hc,h⟩:=h; rfl) fun cdv Ar outer s H E hr Tp c ds Q hdig h=>?_
  obtain ⟨m,rfl,hm3,hm60,hc,h⟩:=h
  have nd:=sc_38.nd
  refine ⟨_,(sc_cons (sc_set (i:=2) (ec_call F_29 T.m_29 T.k_29 T.d_29 (hr.mono (by decide)) (ac_cons (ec_p (et_v 0)) (ac_cons (ec_p et_int) ac_nil)) (fun h=>pe_call F_29 (hr.mono (by decide)) rfl T.m_29 T.k_29 T.d_29 .nil pass0 h)) (fun h=>ps_set (i:=2) nd rfl (by first | exact Or.inl rfl | exact Or.inr rfl) h))
  (sc_cons (sc_set (i:=3) (ec_op op_addAny o_add (ec_p et_int) (ec_call F_29 T.m_29 T.k_29 T.d_29 (hr.mono (by decide)) (ac_cons (ec_p (et_v 0)) (ac_cons (ec_p et_int) ac_nil)) (fun h=>pe_call F_29 (hr.mono (by decide)) rfl T.m_29 T.k_29 T.d_29 .nil pass0 h))) (fun h=>ps_set (i:=3) nd rfl (by first | exact Or.inl rfl | exact Or.inr rfl) h))
  (sc_cons (sc_set (i:=4) (ec_op op_addAny o_add (ec_p et_int) (ec_call F_29 T.m_29 T.k_29 T.d_29 (hr.mono (by decide)) (ac_cons (ec_p (et_v 0)) (ac_cons (ec_p et_int) ac_nil)) (fun h=>pe_call F_29 (hr.mono (by decide)) rfl T.m_29 T.k_29 T.d_29 .nil pass0 h))) (fun h=>ps_set (i:=4) nd rfl (by first | exact Or.inl rfl | exact Or.inr rfl) h))
  (sc_cons (sc_set (i:=5) (ec_call F_29 T.m_29 T.k_29 T.d_29 (hr.mono (by decide)) (ac_cons (ec_p (et_v 0)) (ac_cons (ec_p et_int) ac_nil)) (fun h=>pe_call F_29 (hr.mono (by decide)) rfl T.m_29 T.k_29 T.d_29 .nil pass0 h)) (fun h=>ps_set (i:=5) nd rfl (by first | exact Or.inl rfl | exact Or.inr rfl) h))
  (sc_cons (sc_if (tc_p (tt_cmp op_eq o_eq (et_v 2) et_int))
  (sc_cons (sc_p (st_set (i:=3) et_int (fun h=>ps_set (i:=3) nd rfl (by first | exact Or.inl rfl | exact Or.inr rfl) h)))
  (sc_cons (sc_p (st_set (i:=4) et_int (fun h=>ps_set (i:=4) nd rfl (by first | exact Or.inl rfl | exact Or.inr rfl) h)))
  (sc_one (sc_set (i:=5) (ec_op op_sub o_I0 (ec_p (et_v 1)) (ec_call F_29 T.m_29 T.k_29 T.d_29 (hr.mono (by decide)) (ac_cons (ec_p (et_v 0)) (ac_cons (ec_p et_int) ac_nil)) (fun h=>pe_call F_29 (hr.mono (by decide)) rfl T.m_29 T.k_29 T.d_29 .nil pass0 h))) (fun h=>ps_set (i:=5) nd rfl (by first | exact Or.inl rfl | exact Or.inr rfl) h)))))
  sc_nil)
  (sc_cons (sc_set (i:=6) (ec_call F_31 T.m_31 T.k_31 T.d_31 (hr.mono (by decide)) (ac_cons (ec_p (et_v 0)) (ac_cons (ec_p (et_v 3)) (ac_cons (ec_p (et_v 4)) ac_nil))) (fun h=>pe_call F_31 (hr.mono (by decide)) rfl T.m_31 T.k_31 T.d_31 .nil pass0 h)) (fun h=>ps_set (i:=6) nd rfl (by first | exact Or.inl rfl | exact Or.inr rfl) h))
  (sc_one (sc_ret (ec_tup (ac_cons (ec_p (et_v 6)) (ac_cons (ec_call F_33 T.m_33 T.k_33 T.d_33 (hr.mono (by decide)) (ac_cons (ec_p (et_v 0)) (ac_cons (ec_p (et_v 6)) (ac_cons (ec_p (et_v 5)) ac_nil))) (fun h=>pe_call F_33 (hr.mono (by decide)) rfl T.m_33 T.k_33 T.d_33 .nil pass0 h)) ac_nil))))))))))),?_⟩
  show cSeq _ _ _ _ _ [.val (tpD Tp),.val (.int m),.un,.un,.un,.un,.un]
  refine cq_setR (fun n1 d=>n1=c + 1∧∃ w:Int,d=.int w) (fun q hq=>⟨_,rfl,_,rfl,16,rfl,by decide,by decide,by omega,fun r _ _=>hq _ _ ⟨rfl,r,rfl⟩⟩) ?_
  rintro c1 _ ⟨hc1,w,rfl⟩
  refine cq_setR (fun n1 d=>n1=c + 2∧∃ f:Nat,d=.int (f:Int)∧1≤f∧f≤5) (fun q hq=>⟨_,rfl,_,rfl,3,rfl,by decide,by decide,by omega,fun r h0 h1=>hq _ _ ⟨by omega,(1 + r).toNat,by rw [Int.toNat_of_nonneg (by omega)],by omega,by omega⟩⟩) ?_
  rintro c2 _ ⟨hc2,f,rfl,hf1,hf5⟩
  refine cq_setR (fun n1 d=>n1=c + 3∧∃ v:Nat,d=.int (v:Int)∧2≤v∧v≤5) (fun q hq=>⟨_,rfl,_,rfl,3,rfl,by decide,by decide,by omega,fun r h0 h1=>hq _ _ ⟨by omega,(2 + r).toNat,by rw [Int.toNat_of_nonneg (by omega)],by omega,by omega⟩⟩) ?_
  rintro c3 _ ⟨hc3,v,rfl,hv2,hv5⟩
  refine cq_setR (fun n1 d=>n1=c + 4∧∃ k:Nat,d=.int (k:Int)∧k≤60) (fun q hq=>⟨_,rfl,_,rfl,13,rfl,by decide,by decide,by omega,fun r h0 h1=>hq _ _ ⟨by omega,r.toNat,by rw [Int.toNat_of_nonneg h0],by omega⟩⟩) ?_
  rintro c4 _ ⟨hc4,k,rfl,hk⟩
  refine cq_if1 (decide (w=11)) (fun q hq=>⟨_,rfl,hq⟩) (fun _=>?_) fun _=>?_
  · refine cq_pure (seq_set (.int 5) (fun q hq=>hq) ?_)
    refine cq_pure (seq_set (.int 5) (fun q hq=>hq) ?_)
    refine co_setR (fun n1 d=>n1=c + 5∧∃ k:Nat,d=.int (k:Int)∧k≤60) (fun q hq=>⟨_,rfl,_,rfl,_,rfl,3,rfl,by decide,by decide,by omega,fun r h0 h1=>hq _ _ ⟨by omega,((m:Int) - r).toNat,by rw [Int.toNat_of_nonneg (by omega)],by omega⟩⟩) ?_
    rintro c5 _ ⟨hc5,k2,rfl,hk2⟩
    dsimp only
    refine cq_setR (fun n1 d=>n1≤c + 200∧∃ fs an,Form fs an∧d=frmD fs an) (fun q hq=>⟨_,rfl,_,rfl,_,rfl,_,rfl,5,5,rfl,by decide,by decide,by decide,by decide,by omega,fun n' fs an hn F _ _=>hq _ _ ⟨by omega,fs,an,F,rfl⟩⟩) ?_
    rintro c6 _ ⟨hc6,fs,an,F,rfl⟩
    exact ⟨_,rfl,_,rfl,_,rfl,_,rfl,_,rfl,fs,an,k2,rfl,F,hk2,by omega,fun n' rs hn hrs hrl=>⟨(Nat.le_of_ble_eq_true rfl),h n' fs an rs (by omega) F hrs (by omega)⟩⟩
  · try unfold cNext
    dsimp only
    refine cq_setR (fun n1 d=>n1≤c + 200∧∃ fs an,Form fs an∧d=frmD fs an) (fun q hq=>⟨_,rfl,_,rfl,_,rfl,_,rfl,f,v,rfl,hf1,hf5,hv2,hv5,by omega,fun n' fs an hn F _ _=>hq _ _ ⟨by omega,fs,an,F,rfl⟩⟩) ?_
    rintro c6 _ ⟨hc6,fs,an,F,rfl⟩
    exact ⟨_,rfl,_,rfl,_,rfl,_,rfl,_,rfl,fs,an,k,rfl,F,hk,by omega,fun n' rs hn hrs hrl=>⟨(Nat.le_of_ble_eq_true rfl),h n' fs an rs (by omega) F hrs (by omega)⟩⟩

theorem sc_39:FnScope ["_law_tape_here","_law_form_here","_law_deep","_law_name","_law_values","_law_question","_law_stray"] ["_law_tape_here","_law_form_here","_law_deep"] (defScope (top 50)):=⟨rfl,rfl,rfl,by decide +kernel,rfl,by decide +kernel,by decide +kernel⟩
set_option maxHeartbeats 4000000 in
theorem step_39 (dd:Nat) (T:Txt K mg A)
    (F_29:FnOk P w K mg base CX0 1 A.a_29 A.f_29 ["_law_tape_here","_law_many"] (liftSpC K sp_29))
    (F_39:FnOk P w K mg base CX0 (2 + dd) A.a_39 A.f_39 ["_law_tape_here","_law_form_here","_law_deep"] (liftSpC K (sp_39_lt dd))):FnOk P w K mg base CX0 (2 + dd + 1) A.a_39 A.f_39 ["_law_tape_here","_law_form_here","_law_deep"] (liftSpC K (sp_39_lt (dd + 1))):=by
  refine fnC T.F_39 sc_39 (fun τ n ds Q h=>by obtain ⟨fs,an,k,rfl,F,hk,hc,h⟩:=h; rfl) fun cdv Ar outer s H E hr Tp c ds Q hdig h=>?_
  obtain ⟨fs,an,k,rfl,F,hk,hc,h⟩:=h
  have nd:=sc_39.nd
  refine ⟨_,(sc_cons (sc_if (wc_pt (wc_or (tc_p (tt_cmp op_eq o_eq (et_v 2) et_int)) (wc_or1 (tc_cmp op_eq o_eq (ec_call F_29 T.m_29 T.k_29 T.d_29 (hr.mono (by omega)) (ac_cons (ec_p (et_v 0)) (ac_cons (ec_p et_int) ac_nil)) (fun h=>pe_call F_29 (hr.mono (by omega)) rfl T.m_29 T.k_29 T.d_29 .nil pass0 h)) (ec_p et_int)))))
  (sc_one (sc_ret (ec_tup (ac_cons (ec_p et_str) (ac_cons (ec_ix ix_seq o_ix (ec_p (et_ix ix_seq o_ix (et_v 1) et_int)) (ec_call F_29 T.m_29 T.k_29 T.d_29 (hr.mono (by omega)) (ac_cons (ec_p (et_v 0)) (ac_cons (ec_p (et_cb c_len (at_cons (et_ix ix_seq o_ix (et_v 1) et_int) at_nil) (fun h=>pe_callB call_lenAny rfl T.b_len bl_len h))) ac_nil)) (fun h=>pe_call F_29 (hr.mono (by omega)) rfl T.m_29 T.k_29 T.d_29 .nil pass0 h))) ac_nil)))))
  sc_nil)
  (sc_cons (sc_unp (ec_ix ix_seq o_ix (ec_p (et_ix ix_seq o_ix (et_v 1) et_int)) (ec_call F_29 T.m_29 T.k_29 T.d_29 (hr.mono (by omega)) (ac_cons (ec_p (et_v 0)) (ac_cons (ec_p (et_cb c_len (at_cons (et_ix ix_seq o_ix (et_v 1) et_int) at_nil) (fun h=>pe_callB call_lenAny rfl T.b_len bl_len h))) ac_nil)) (fun h=>pe_call F_29 (hr.mono (by omega)) rfl T.m_29 T.k_29 T.d_29 .nil pass0 h))) (gt_pair (pg_tup rfl (pgs_cons (pg_name (i:=3) nd rfl (by first | exact Or.inl rfl | exact Or.inr rfl)) (pgs_cons (pg_name (i:=4) nd rfl (by first | exact Or.inl rfl | exact Or.inr rfl)) pgs_nil)))) (fun he hg=>ps_asg he hg))
  (sc_cons (sc_set (i:=5) (ec_tup (ac_cons (ec_p et_str) (ac_cons (ec_p (et_v 3)) (ac_cons (ec_ix ix_seq o_ix (ec_p (et_v 4)) (ec_call F_29 T.m_29 T.k_29 T.d_29 (hr.mono (by omega)) (ac_cons (ec_p (et_v 0)) (ac_cons (ec_p (et_cb c_len (at_cons (et_v 4) at_nil) (fun h=>pe_callB call_lenAny rfl T.b_len bl_len h))) ac_nil)) (fun h=>pe_call F_29 (hr.mono (by omega)) rfl T.m_29 T.k_29 T.d_29 .nil pass0 h))) ac_nil)))) (fun h=>ps_set (i:=5) nd rfl (by first | exact Or.inl rfl | exact Or.inr rfl) h))
  (sc_cons (sc_if (tc_cmp op_eq o_eq (ec_call F_29 T.m_29 T.k_29 T.d_29 (hr.mono (by omega)) (ac_cons (ec_p (et_v 0)) (ac_cons (ec_p et_int) ac_nil)) (fun h=>pe_call F_29 (hr.mono (by omega)) rfl T.m_29 T.k_29 T.d_29 .nil pass0 h)) (ec_p et_int))
  (sc_one (sc_set (i:=5) (ec_tup (ac_cons (ec_p et_str) (ac_cons (ec_p (et_v 3)) (ac_cons (ec_ix ix_seq o_ix (ec_p (et_v 4)) (ec_call F_29 T.m_29 T.k_29 T.d_29 (hr.mono (by omega)) (ac_cons (ec_p (et_v 0)) (ac_cons (ec_p (et_op op_sub o_I0 (et_cb c_len (at_cons (et_v 4) at_nil) (fun h=>pe_callB call_lenAny rfl T.b_len bl_len h)) et_int)) ac_nil)) (fun h=>pe_call F_29 (hr.mono (by omega)) rfl T.m_29 T.k_29 T.d_29 .nil pass0 h))) ac_nil)))) (fun h=>ps_set (i:=5) nd rfl (by first | exact Or.inl rfl | exact Or.inr rfl) h)))
  sc_nil)
  (sc_cons (sc_set (i:=6) (ec_ix ix_seq o_ix (ec_p (et_lst (at_cons et_str (at_cons et_str at_nil)))) (ec_call F_29 T.m_29 T.k_29 T.d_29 (hr.mono (by omega)) (ac_cons (ec_p (et_v 0)) (ac_cons (ec_p et_int) ac_nil)) (fun h=>pe_call F_29 (hr.mono (by omega)) rfl T.m_29 T.k_29 T.d_29 .nil pass0 h))) (fun h=>ps_set (i:=6) nd rfl (by first | exact Or.inl rfl | exact Or.inr rfl) h))
  (sc_one (sc_ret (ec_tup (ac_cons (ec_p et_str) (ac_cons (ec_p (et_v 5)) (ac_cons (ec_p (et_v 6)) (ac_cons (ec_call F_39 T.m_39 T.k_39 T.d_39 (hr.mono (by omega)) (ac_cons (ec_p (et_v 0)) (ac_cons (ec_p (et_v 1)) (ac_cons (ec_p (et_op op_sub o_I0 (et_v 2) et_int)) ac_nil))) (fun h=>pe_call F_39 (hr.mono (by omega)) rfl T.m_39 T.k_39 T.d_39 .nil pass0 h)) (ac_cons (ec_call F_39 T.m_39 T.k_39 T.d_39 (hr.mono (by omega)) (ac_cons (ec_p (et_v 0)) (ac_cons (ec_p (et_v 1)) (ac_cons (ec_p (et_op op_sub o_I0 (et_v 2) et_int)) ac_nil))) (fun h=>pe_call F_39 (hr.mono (by omega)) rfl T.m_39 T.k_39 T.d_39 .nil pass0 h)) ac_nil))))))))))))),?_⟩
  show cSeq _ _ _ _ _ [.val (tpD Tp),.val (frmD fs an),.val (.int k),.un,.un,.un,.un]
  have n1:=F.n1
  have n5:=F.n5
  have a2:=F.a2
  have a4:=F.a4
  have hal:((an.map PyData.str).length:Int)=(an.length:Int):=by rw [List.length_map]
  have hfl:((fs.map fldD).length:Int)=(fs.length:Int):=by rw [List.length_map]
  have t6:6≤tCost k:=by cases k with | zero=>exact Nat.le_refl _ | succ e=>exact Nat.le_add_right _ _
  refine cq_ifR (fun m b=>m≤c + 1∧(b=false→0 < k)) (fun q hq=>⟨_,rfl,?_⟩) (fun m hm=>?_) fun m hm=>?_
  · show (if decide ((k:Int)=0)=true then q c true else _)
    by_cases hk0:(k:Int)=0
    · rw [if_pos (decide_eq_true hk0)]; exact hq _ _ ⟨by omega,fun z=>by cases z⟩
    · rw [if_neg (by simpa using hk0)]
      exact ⟨_,rfl,_,rfl,4,rfl,by decide,by decide,by omega,fun r h0 h1=>hq _ _ ⟨by omega,fun _=>by omega⟩⟩
  · obtain ⟨hm,_⟩:=hm
    refine ⟨_,rfl,_,rfl,_,rfl,_,rfl,_,rfl,_,rfl,((an.map PyData.str).length:Int),rfl,by omega,by omega,by omega,fun r h0 h1=>?_⟩
    obtain ⟨d,hdm,hda,_⟩:=atI_in (xs:=an.map PyData.str) (i:=r) h0 h1
    obtain ⟨a,ha,rfl⟩:=List.mem_map.mp hdm
    exact ⟨_,hda,(Nat.le_of_ble_eq_true rfl),h _ (.say a) (by omega) ha (Nat.zero_le _)⟩
  · obtain ⟨hm,hk0⟩:=hm
    have hk0:=hk0 rfl
    try unfold cNext
    dsimp only
    refine cq_unpR (fun m' d=>m'≤c + 2∧∃ f,f ∈ fs∧d=fldD f) (fun q hq=>⟨_,rfl,_,rfl,_,rfl,_,rfl,_,rfl,_,rfl,((fs.map fldD).length:Int),rfl,by omega,by omega,by omega,fun r h0 h1=>?_⟩) ?_
    · obtain ⟨d,hdm,hda,_⟩:=atI_in (xs:=fs.map fldD) (i:=r) h0 h1
      obtain ⟨f,hf,rfl⟩:=List.mem_map.mp hdm
      exact ⟨_,hda,hq _ _ ⟨by omega,f,hf,rfl⟩⟩
    rintro m1 _ ⟨hm1,f,hf,rfl⟩
    obtain ⟨v2,v5,hvv⟩:=F.vs f hf
    have hvl:((f.2.map PyData.str).length:Int)=(f.2.length:Int):=by rw [List.length_map]
    refine ⟨.str f.1,.tuple (f.2.map PyData.str),rfl,?_⟩
    refine cq_setR (fun m' d=>m'≤c + 3∧∃ kk z:Str,isQ fs (.tuple [.str kk,.str f.1,.str z])=true∧d=.tuple [.str kk,.str f.1,.str z]) (fun q hq=>⟨_,rfl,_,rfl,_,rfl,_,rfl,_,rfl,((f.2.map PyData.str).length:Int),rfl,by omega,by omega,by omega,fun r h0 h1=>?_⟩) ?_
    · obtain ⟨d,hdm,hda,_⟩:=atI_in (xs:=f.2.map PyData.str) (i:=r) h0 h1
      obtain ⟨z,hz,rfl⟩:=List.mem_map.mp hdm
      exact ⟨_,hda,(Nat.le_of_ble_eq_true rfl),hq _ _ ⟨by omega,"is",z,isQ_is hf hz,rfl⟩⟩
    rintro m2 _ ⟨hm2,kk,z,hq,rfl⟩
    refine cq_ifset True (fun m'=>m'≤c + 4) (fun d=>∃ kk z:Str,isQ fs (.tuple [.str kk,.str f.1,.str z])=true∧d=.tuple [.str kk,.str f.1,.str z]) (fun q hq=>⟨_,rfl,_,rfl,2,rfl,by decide,by decide,by omega,fun r h0 h1=>hq _ _ (by omega) fun _=>trivial⟩) _ rfl ⟨kk,z,hq,rfl⟩ (fun m'=>m'≤c + 5) (fun _ z=>by omega) (fun m3 hm3 _ q hq=>⟨_,rfl,_,rfl,_,rfl,_,rfl,_,rfl,((f.2.map PyData.str).length:Int) - 1,rfl,by omega,by omega,by omega,fun r h0 h1=>?_⟩) ?_
    · obtain ⟨t,rfl⟩:=natOf h0
      have ht:t + 1 < f.2.length:=by omega
      have hat:L2.atI (f.2.map PyData.str) (t:Int)=some (.str f.2[t]):=atI_strs (by omega)
      exact ⟨_,hat,(Nat.le_of_ble_eq_true rfl),hq _ _ (by omega) ⟨"upto",f.2[t],isQ_upto hf (List.getElem?_eq_getElem (by omega)) ht,rfl⟩⟩
    rintro m4 _ hm4 ⟨kk,z,hq,rfl⟩
    refine cq_setR (fun m' d=>m'≤c + 6∧∃ s:Str,(s="yes" ∨ s="no")∧d=.str s) (fun q hq=>⟨(Nat.le_of_ble_eq_true rfl),_,rfl,_,rfl,2,rfl,by decide,by decide,by omega,fun r h0 h1=>?_⟩) ?_
    · obtain ⟨d,hdm,hda,_⟩:=atI_in (xs:=[PyData.str "yes",.str "no"]) (i:=r) h0 h1
      simp only [List.mem_cons,List.not_mem_nil,or_false] at hdm
      rcases hdm with rfl | rfl
      · exact ⟨_,hda,hq _ _ ⟨by omega,_,.inl rfl,rfl⟩⟩
      · exact ⟨_,hda,hq _ _ ⟨by omega,_,.inr rfl,rfl⟩⟩
    rintro m5 _ ⟨hm5,s,hs,rfl⟩
    obtain ⟨e,rfl⟩:∃ e,k=e + 1:=⟨k - 1,by omega⟩
    have ee:[frmD fs an,PyData.int (((e + 1:Nat):Int) - 1)]=[frmD fs an,.int (e:Int)]:=by
      have:((e + 1:Nat):Int) - 1=(e:Int):=by omega
      rw [this]
    have et:tCost (e + 1)=6 + 2 * tCost e:=rfl
    rw [et] at hc h
    refine ⟨_,rfl,_,rfl,_,rfl,_,rfl,_,rfl,_,rfl,fs,an,e,ee,F,by omega,by omega,fun n1 y hn1 hy hyd=>⟨_,rfl,_,rfl,_,rfl,_,rfl,fs,an,e,ee,F,by omega,by omega,fun n2 m hn2 hm' hmd=>⟨(Nat.le_of_ble_eq_true rfl),?_⟩⟩⟩
    exact h n2 (.ask kk f.1 z s y m) (by omega) ⟨hq,hs,hy,hm'⟩ (by show max y.dep m.dep + 1≤e + 1; omega)

theorem ok_39 (T:Txt K mg A)
    (F_29:FnOk P w K mg base CX0 1 A.a_29 A.f_29 ["_law_tape_here","_law_many"] (liftSpC K sp_29)):FnOk P w K mg base CX0 8 A.a_39 A.f_39 ["_law_tape_here","_law_form_here","_law_deep"] (liftSpC K sp_39):=by
  have h:∀ dd:Nat,FnOk P w K mg base CX0 (2 + dd) A.a_39 A.f_39 ["_law_tape_here","_law_form_here","_law_deep"] (liftSpC K (sp_39_lt dd)):=fun dd=>by
    induction dd with
    | zero=>exact fn_impC fn_neverC fun τ n ds Q h=>never_39 h
    | succ dd ih=>exact step_39 dd T F_29 ih
  exact h 6
theorem sc_40:FnScope ["_law_tree_here"] ["_law_tree_here"] (defScope (top 51)):=⟨rfl,rfl,rfl,by decide +kernel,rfl,by decide +kernel,by decide +kernel⟩
set_option maxHeartbeats 4000000 in
theorem step_40 (dd:Nat) (T:Txt K mg A)
    (F_40:FnOk P w K mg base CX0 (0 + dd) A.a_40 A.f_40 ["_law_tree_here"] (liftSp K (sp_40_lt dd))):FnOk P w K mg base CX0 (0 + dd + 1) A.a_40 A.f_40 ["_law_tree_here"] (liftSp K (sp_40_lt (dd + 1))):=by
  refine fnT T.F_40 sc_40 (fun ds Q h=>by obtain ⟨t,rfl,hk,hd,h⟩:=h; rfl) fun cdv Ar outer s H E hr ds Q h=>?_
  obtain ⟨t,rfl,hk,hd,h⟩:=h
  have nd:=sc_40.nd
  refine ⟨_,(st_cons (st_if (tt_cmp op_eq o_eq (et_ix ix_seq o_ix (et_v 0) et_int) et_str)
  (st_one (st_ret et_int))
  st_nil)
  (st_one (st_ret (et_op op_addAny o_add (et_op op_addAny o_add et_int (et_call F_40 T.m_40 T.k_40 T.d_40 (hr.mono (by omega)) (at_cons (et_ix ix_seq o_ix (et_v 0) et_int) at_nil) (fun h=>pe_call F_40 (hr.mono (by omega)) rfl T.m_40 T.k_40 T.d_40 .nil pass0 h))) (et_call F_40 T.m_40 T.k_40 T.d_40 (hr.mono (by omega)) (at_cons (et_ix ix_seq o_ix (et_v 0) et_int) at_nil) (fun h=>pe_call F_40 (hr.mono (by omega)) rfl T.m_40 T.k_40 T.d_40 .nil pass0 h)))))),?_⟩
  show sSeq _ _ _ [.val (trD t)]
  cases t with
  | say a=>exact seq_if (fun b=>b=true) (fun q hq=>⟨_,rfl,_,rfl,hq _ (by decide +kernel)⟩) (fun _=>h) fun hF=>by cases hF
  | ask k n v s y m =>
    have e1:(Tr.ask k n v s y m).dep=max y.dep m.dep + 1:=rfl
    have e2:(Tr.ask k n v s y m).kn=y.kn + m.kn + 1:=rfl
    rw [e1] at hd
    rw [e2] at hk
    refine seq_if (fun b=>b=false) (fun q hq=>⟨_,rfl,_,rfl,hq _ (by decide +kernel)⟩) (fun hT=>by cases hT) fun _=>?_
    try unfold sNext
    dsimp only
    refine ⟨_,rfl,_,rfl,y,rfl,by omega,by omega,_,rfl,_,rfl,m,rfl,by omega,by omega,?_⟩
    have e3:(1:Int) + (y.kn:Int) + (m.kn:Int)=(((Tr.ask k n v s y m).kn:Nat):Int):=by
      rw [e2]; omega
    show Q (.int (1 + (y.kn:Int) + (m.kn:Int)))
    rw [e3]; exact h

theorem ok_40 (T:Txt K mg A):FnOk P w K mg base CX0 13 A.a_40 A.f_40 ["_law_tree_here"] (liftSp K sp_40):=by
  have h:∀ dd:Nat,FnOk P w K mg base CX0 (0 + dd) A.a_40 A.f_40 ["_law_tree_here"] (liftSp K (sp_40_lt dd)):=fun dd=>by
    induction dd with
    | zero=>exact fn_imp fn_never fun ds Q h=>never_40 h
    | succ dd ih=>exact step_40 dd T ih
  exact h 13
theorem sc_41:FnScope ["_law_form_here","_law_tree_here","_law_rows_here","_law_first_here","_law_found","_law_ones","_law_others","_law_low","_law_yes","_law_slips","_law_knots_here","_law_no","_law_more","_law_also"] ["_law_form_here","_law_tree_here","_law_rows_here"] (defScope (top 52)):=⟨rfl,rfl,rfl,by decide +kernel,rfl,by decide +kernel,by decide +kernel⟩
set_option maxHeartbeats 4000000 in
theorem step_41 (dd:Nat) (T:Txt K mg A)
    (F_37:FnOk P w K mg base CX0 2 A.a_37 A.f_37 ["_law_form_here","_law_rows_here"] (liftSp K sp_37))
    (F_35:FnOk P w K mg base CX0 2 A.a_35 A.f_35 ["_law_form_here","_law_question","_law_stray","_law_rows_here"] (liftSp K sp_35))
    (F_41:FnOk P w K mg base CX0 (3 + dd) A.a_41 A.f_41 ["_law_form_here","_law_tree_here","_law_rows_here"] (liftSp K (sp_41_lt dd))):FnOk P w K mg base CX0 (3 + dd + 1) A.a_41 A.f_41 ["_law_form_here","_law_tree_here","_law_rows_here"] (liftSp K (sp_41_lt (dd + 1))):=by
  refine fnT T.F_41 sc_41 (fun ds Q h=>by obtain ⟨fs,an,fa,t,rs,rfl,F,hfa,ht,hd,hd3,hrs,hl,h⟩:=h; rfl) fun cdv Ar outer s H E hr ds Q h=>?_
  obtain ⟨fs,an,fa,t,rs,rfl,F,hfa,ht,hd,hd3,hrs,hl,h⟩:=h
  have nd:=sc_41.nd
  refine ⟨_,(st_cons (st_if (tt_cmp op_eq o_eq (et_ix ix_seq o_ix (et_v 1) et_int) et_str)
  (st_one (st_ret (et_lst (at_cons (et_tup (at_cons (et_v 1) (at_cons (et_cb c_len (at_cons (et_lc (fr:=[none,some 1]) (N':=["_law_row","_law_tree_here"]) (it_val (et_v 2)) (fun b=>⟨(gt_name (pg_name (i:=0) (show List.Nodup (["_law_row","_law_tree_here"]:List Str) from by decide +kernel) rfl (by first | exact Or.inl rfl | exact Or.inr rfl))),(if_one (tt_cmp op_ne o_ne (et_ix ix_seq o_ix (et_v 0) et_int) (et_ix ix_seq o_ix (et_v 1) et_int))),(et_v 0)⟩) (fun hi hY=>pe_lcc (show lcChk _ (defScope (top 52)) ["_law_form_here","_law_tree_here","_law_rows_here","_law_first_here","_law_found","_law_ones","_law_others","_law_low","_law_yes","_law_slips","_law_knots_here","_law_no","_law_more","_law_also"] ["_law_row","_law_tree_here"] [none,some 1]=true from by decide +kernel) rfl hi hY)) at_nil) (fun h=>pe_callB call_lenAny rfl T.b_len bl_len h)) (at_cons et_int at_nil)))) at_nil))))
  st_nil)
  (st_cons (st_set (i:=3) (et_call F_37 T.m_37 T.k_37 T.d_37 (hr.mono (by omega)) (at_cons (et_v 0) (at_cons (et_v 2) at_nil)) (fun h=>pe_call F_37 (hr.mono (by omega)) rfl T.m_37 T.k_37 T.d_37 .nil pass0 h)) (fun h=>ps_set (i:=3) nd rfl (by first | exact Or.inl rfl | exact Or.inr rfl) h))
  (st_cons (st_own (i:=4) (at_cons (et_tup (at_cons (et_tup (at_cons et_str (at_cons (et_v 3) at_nil))) (at_cons (et_cb c_len (at_cons (et_lc (fr:=[none,some 3]) (N':=["_law_row","_law_first_here"]) (it_val (et_v 2)) (fun b=>⟨(gt_name (pg_name (i:=0) (show List.Nodup (["_law_row","_law_first_here"]:List Str) from by decide +kernel) rfl (by first | exact Or.inl rfl | exact Or.inr rfl))),(if_one (tt_cmp op_ne o_ne (et_ix ix_seq o_ix (et_v 0) et_int) (et_v 1))),(et_v 0)⟩) (fun hi hY=>pe_lcc (show lcChk _ (defScope (top 52)) ["_law_form_here","_law_tree_here","_law_rows_here","_law_first_here","_law_found","_law_ones","_law_others","_law_low","_law_yes","_law_slips","_law_knots_here","_law_no","_law_more","_law_also"] ["_law_row","_law_first_here"] [none,some 3]=true from by decide +kernel) rfl hi hY)) at_nil) (fun h=>pe_callB call_lenAny rfl T.b_len bl_len h)) (at_cons et_int at_nil)))) at_nil) (fun h=>ps_set (i:=4) nd rfl (by first | exact Or.inl rfl | exact Or.inr rfl) h))
  (st_cons (st_unp (g:=fun _ _ _ _=>True) (et_call F_35 T.m_35 T.k_35 T.d_35 (hr.mono (by omega)) (at_cons (et_v 0) (at_cons (et_ix ix_seq o_ix (et_v 1) et_int) (at_cons (et_ix ix_seq o_ix (et_v 1) et_int) (at_cons (et_v 2) at_nil)))) (fun h=>pe_call F_35 (hr.mono (by omega)) rfl T.m_35 T.k_35 T.d_35 .nil pass0 h)) (gt_pair (pg_tup rfl (pgs_cons (pg_name (i:=5) nd rfl (by first | exact Or.inl rfl | exact Or.inr rfl)) (pgs_cons (pg_name (i:=6) nd rfl (by first | exact Or.inl rfl | exact Or.inr rfl)) pgs_nil)))) (fun he hg=>ps_asg he hg))
  (st_cons (st_set (i:=7) (et_call F_41 T.m_41 T.k_41 T.d_41 (hr.mono (by omega)) (at_cons (et_v 0) (at_cons (et_ix ix_seq o_ix (et_v 1) et_int) (at_cons (et_v 6) at_nil))) (fun h=>pe_call F_41 (hr.mono (by omega)) rfl T.m_41 T.k_41 T.d_41 .nil pass0 h)) (fun h=>ps_set (i:=7) nd rfl (by first | exact Or.inl rfl | exact Or.inr rfl) h))
  (st_cons (st_for (it_val (et_call F_41 T.m_41 T.k_41 T.d_41 (hr.mono (by omega)) (at_cons (et_v 0) (at_cons (et_ix ix_seq o_ix (et_v 1) et_int) (at_cons (et_v 5) at_nil))) (fun h=>pe_call F_41 (hr.mono (by omega)) rfl T.m_41 T.k_41 T.d_41 .nil pass0 h))) (gt_triple (pg_tup rfl (pgs_cons (pg_name (i:=8) nd rfl (by first | exact Or.inl rfl | exact Or.inr rfl)) (pgs_cons (pg_name (i:=9) nd rfl (by first | exact Or.inl rfl | exact Or.inr rfl)) (pgs_cons (pg_name (i:=10) nd rfl (by first | exact Or.inl rfl | exact Or.inr rfl)) pgs_nil)))))
  (st_one (st_for (it_val (et_v 7)) (gt_triple (pg_tup rfl (pgs_cons (pg_name (i:=11) nd rfl (by first | exact Or.inl rfl | exact Or.inr rfl)) (pgs_cons (pg_name (i:=12) nd rfl (by first | exact Or.inl rfl | exact Or.inr rfl)) (pgs_cons (pg_name (i:=13) nd rfl (by first | exact Or.inl rfl | exact Or.inr rfl)) pgs_nil)))))
  (st_one (st_app (i:=4) (pv 4) (et_tup (at_cons (et_op op_addAny o_add (et_slice sl_any o_sl (et_v 1) ot_none (ot_some et_int)) (et_tup (at_cons (et_v 8) (at_cons (et_v 11) at_nil)))) (at_cons (et_op op_addAny o_add (et_v 9) (et_v 12)) (at_cons (et_op op_addAny o_add (et_op op_addAny o_add et_int (et_v 10)) (et_v 13)) at_nil)))) (pb:=fun h=>ps_expr (pe_bm PySem.F.plainAttrs_list PySem.F.slot_list_append PySem.F.type_list_append mt_append (pv 4) h)))) (fun hi hg hb=>ps_for PassesOwn.never rfl hi hg hb))) (fun hi hg hb=>ps_for PassesOwn.never rfl hi hg hb))
  (st_share 4 (st_one (st_ret (et_v 4)))))))))),?_⟩
  show sSeq _ _ _ [.val (frmD fs an),.val (trD t),.val (.list (rs.map rowD)),.un,.un,.un,.un,.un,.un,.un,.un,.un,.un,.un]
  cases t with
  | say z =>
    refine seq_if (fun b=>b=true) (fun q hq=>⟨_,rfl,_,rfl,hq _ (by decide +kernel)⟩) (fun _=>?_) fun hF=>by cases hF
    refine ⟨_,rfl,?_⟩
    refine lenslip (fs:=fs) (rs:=rs) (z:=z) (fun R h=>⟨_,rfl,_,rfl,h⟩) (fun r q hr hq=>⟨_,rfl,_,rfl,_,rfl,_,rfl,hq⟩) (fun r q hr hq=>⟨_,rfl,hq⟩) hl ⟨(Nat.le_of_ble_eq_true rfl),(Nat.le_of_ble_eq_true rfl),?_⟩
    exact h
  | ask k n v s y m =>
    have e1:(Tr.ask k n v s y m).dep=max y.dep m.dep + 1:=rfl
    rw [e1] at hd
    have hpc:=pc_ask k n v s y m
    obtain ⟨hp1,hp2⟩:=pc_sub k n v s y m
    obtain ⟨hq,hs,hy,hm⟩:=ht
    have l1:=List.length_filter_le (onY fs k n v s) rs
    have l2:=List.length_filter_le (fun r=>!onY fs k n v s r) rs
    refine seq_if (fun b=>b=false) (fun q hq=>⟨_,rfl,_,rfl,hq _ (by decide +kernel)⟩) (fun hT=>by cases hT) fun _=>?_
    try unfold sNext
    dsimp only
    refine seq_set (.str (fa rs)) (fun q hq'=>⟨_,rfl,_,rfl,fs,an,rs,rfl,F,hrs,hl,fun a ha=>by rw [ha.uniq (hfa rs hrs)]; exact hq'⟩) ?_
    refine seq_own [pruD (Tr.say (fa rs),slipN fs (.say (fa rs)) rs,0)] (Nat.le_of_ble_eq_true rfl) (fun q hq'=>⟨_,rfl,(Nat.le_of_ble_eq_true rfl),lenslip (fs:=fs) (rs:=rs) (z:=fa rs) (fun R h=>⟨_,rfl,_,rfl,h⟩) (fun r q hr hq=>⟨_,rfl,_,rfl,_,rfl,hq⟩) (fun r q hr hq=>⟨_,rfl,hq⟩) hl ⟨(Nat.le_of_ble_eq_true rfl),hq'⟩⟩) ?_
    refine seq_unp (a:=.list ((rs.filter (onY fs k n v s)).map rowD)) (b:=.list ((rs.filter fun r=>!onY fs k n v s r).map rowD)) (fun q hq'=>⟨_,rfl,_,rfl,_,rfl,_,rfl,_,rfl,_,rfl,fs,an,k,n,v,s,rs,rfl,F,hq,hs,hrs,hl,hq'⟩) ?_
    refine seq_set (.list ((pru fs fa m (rs.filter fun r=>!onY fs k n v s r)).map pruD)) (fun q hq'=>⟨_,rfl,_,rfl,_,rfl,_,rfl,fs,an,fa,m,_,rfl,F,hfa,hm,by omega,by omega,hrs.filt _,by omega,hq'⟩) ?_
    have lY:=pru_pc (fs:=fs) (fa:=fa) y (rs.filter (onY fs k n v s))
    have lN:=pru_pc (fs:=fs) (fa:=fa) m (rs.filter fun r=>!onY fs k n v s r)
    refine seq_for (ts:=(pru fs fa y (rs.filter (onY fs k n v s))).map pruD) (fun R h=>⟨_,rfl,_,rfl,_,rfl,_,rfl,fs,an,fa,y,_,rfl,F,hfa,hy,by omega,by omega,hrs.filt _,by omega,_,rfl,h⟩)
      (fun i σ=>∃ s8 s9 s10 s11 s12 s13:Sl,σ=[.val (frmD fs an),.val (trD (.ask k n v s y m)),.val (.list (rs.map rowD)),.val (.str (fa rs)),.own (((Tr.say (fa rs),slipN fs (.say (fa rs)) rs,0)::((pru fs fa y (rs.filter (onY fs k n v s))).take i).flatMap fun p=>(pru fs fa m (rs.filter fun r=>!onY fs k n v s r)).map (mkP k n v s p)).map pruD),.val (.list ((rs.filter (onY fs k n v s)).map rowD)),.val (.list ((rs.filter fun r=>!onY fs k n v s r).map rowD)),.val (.list ((pru fs fa m (rs.filter fun r=>!onY fs k n v s r)).map pruD)),s8,s9,s10,s11,s12,s13]) ⟨_,_,_,_,_,_,rfl⟩ (fun i x σ' hx hP=>?_) fun σ' hP=>?_
    · obtain ⟨s8,s9,s10,s11,s12,s13,rfl⟩:=hP
      have hi:i < (pru fs fa y (rs.filter (onY fs k n v s))).length:=by have:=(List.getElem?_eq_some_iff.mp hx).1; rw [List.length_map] at this; exact this
      have ex:x=pruD (pru fs fa y (rs.filter (onY fs k n v s)))[i]:=by rw [List.getElem?_map,List.getElem?_eq_getElem hi] at hx; exact (Option.some.inj hx).symm
      subst ex
      have et:(pru fs fa y (rs.filter (onY fs k n v s))).take (i + 1)=(pru fs fa y (rs.filter (onY fs k n v s))).take i++[(pru fs fa y (rs.filter (onY fs k n v s)))[i]]:=by rw [List.take_add_one,List.getElem?_eq_getElem hi]; rfl
      have lA:(((pru fs fa y (rs.filter (onY fs k n v s))).take i).flatMap fun p=>(pru fs fa m (rs.filter fun r=>!onY fs k n v s r)).map (mkP k n v s p)).length≤30:=by
        rw [len_prod _ (pru fs fa m (rs.filter fun r=>!onY fs k n v s r)).length (fun x=>by rw [List.length_map]),List.length_take]
        have:=Nat.mul_le_mul (show min i (pru fs fa y (rs.filter (onY fs k n v s))).length≤pc y by omega) (Nat.le_of_eq lN)
        omega
      generalize (pru fs fa y (rs.filter (onY fs k n v s)))[i]=p at et
      refine ⟨trD p.1,.int (p.2.1:Nat),.int (p.2.2:Nat),rfl,?_⟩
      dsimp only
      refine forx (ts:=(pru fs fa m (rs.filter fun r=>!onY fs k n v s r)).map pruD) (fun R h=>⟨_,rfl,_,rfl,h⟩)
        (fun j σ=>∃ s11 s12 s13:Sl,σ=[.val (frmD fs an),.val (trD (.ask k n v s y m)),.val (.list (rs.map rowD)),.val (.str (fa rs)),.own ((((Tr.say (fa rs),slipN fs (.say (fa rs)) rs,0)::((pru fs fa y (rs.filter (onY fs k n v s))).take i).flatMap fun p=>(pru fs fa m (rs.filter fun r=>!onY fs k n v s r)).map (mkP k n v s p))++((pru fs fa m (rs.filter fun r=>!onY fs k n v s r)).take j).map (mkP k n v s p)).map pruD),.val (.list ((rs.filter (onY fs k n v s)).map rowD)),.val (.list ((rs.filter fun r=>!onY fs k n v s r).map rowD)),.val (.list ((pru fs fa m (rs.filter fun r=>!onY fs k n v s r)).map pruD)),.val (trD p.1),.val (.int (p.2.1:Nat)),.val (.int (p.2.2:Nat)),s11,s12,s13]) ⟨s11,s12,s13,by rw [List.take_zero,List.map_nil,List.append_nil]; rfl⟩ (fun j x σ' hx hP=>?_) fun σ' hP=>?_
      · obtain ⟨s11,s12,s13,rfl⟩:=hP
        have hj:j < (pru fs fa m (rs.filter fun r=>!onY fs k n v s r)).length:=by have:=(List.getElem?_eq_some_iff.mp hx).1; rw [List.length_map] at this; exact this
        have ex:x=pruD (pru fs fa m (rs.filter fun r=>!onY fs k n v s r))[j]:=by rw [List.getElem?_map,List.getElem?_eq_getElem hj] at hx; exact (Option.some.inj hx).symm
        subst ex
        have et2:(pru fs fa m (rs.filter fun r=>!onY fs k n v s r)).take (j + 1)=(pru fs fa m (rs.filter fun r=>!onY fs k n v s r)).take j++[(pru fs fa m (rs.filter fun r=>!onY fs k n v s r))[j]]:=by rw [List.take_add_one,List.getElem?_eq_getElem hj]; rfl
        generalize (pru fs fa m (rs.filter fun r=>!onY fs k n v s r))[j]=p2 at et2
        refine ⟨trD p2.1,.int (p2.2.1:Nat),.int (p2.2.2:Nat),rfl,?_⟩
        dsimp only
        refine one_app (ts:=(((Tr.say (fa rs),slipN fs (.say (fa rs)) rs,0)::((pru fs fa y (rs.filter (onY fs k n v s))).take i).flatMap fun p=>(pru fs fa m (rs.filter fun r=>!onY fs k n v s r)).map (mkP k n v s p))++((pru fs fa m (rs.filter fun r=>!onY fs k n v s r)).take j).map (mkP k n v s p)).map pruD) (pruD (mkP k n v s p p2)) rfl ?_ (fun q hq'=>?_) ?_
        · rw [List.length_map,List.length_append,List.length_cons,List.length_map,List.length_take]
          omega
        · refine ⟨_,rfl,_,rfl,_,rfl,(Nat.le_of_ble_eq_true rfl),?_⟩
          show fAdd (.tuple (cutD [PyData.str "ask",.tuple [.str k,.str n,.str v],.str s,trD y,trD m] none (some 3))) _ _
          rw [cut3]
          exact ⟨(Nat.le_of_ble_eq_true rfl),_,rfl,_,rfl,_,rfl,_,rfl,(Nat.le_of_ble_eq_true rfl),hq'⟩
        · refine ⟨.val (trD p2.1),.val (.int (p2.2.1:Nat)),.val (.int (p2.2.2:Nat)),?_⟩
          rw [et2,List.map_append (l₁:=(pru fs fa m (rs.filter fun r=>!onY fs k n v s r)).take j),← List.append_assoc,List.map_append (l₂:=List.map (mkP k n v s p) [p2])]
          rfl
      · obtain ⟨s11,s12,s13,rfl⟩:=hP
        refine ⟨.val (trD p.1),.val (.int (p.2.1:Nat)),.val (.int (p.2.2:Nat)),s11,s12,s13,?_⟩
        rw [List.length_map,List.take_length,et,List.flatMap_append,List.flatMap_cons,List.flatMap_nil,List.append_nil,← List.cons_append]
    · obtain ⟨s8,s9,s10,s11,s12,s13,rfl⟩:=hP
      rw [List.length_map,List.take_length]
      exact ⟨_,rfl,_,rfl,h⟩

theorem ok_41 (T:Txt K mg A)
    (F_37:FnOk P w K mg base CX0 2 A.a_37 A.f_37 ["_law_form_here","_law_rows_here"] (liftSp K sp_37))
    (F_35:FnOk P w K mg base CX0 2 A.a_35 A.f_35 ["_law_form_here","_law_question","_law_stray","_law_rows_here"] (liftSp K sp_35)):FnOk P w K mg base CX0 16 A.a_41 A.f_41 ["_law_form_here","_law_tree_here","_law_rows_here"] (liftSp K sp_41):=by
  have h:∀ dd:Nat,FnOk P w K mg base CX0 (3 + dd) A.a_41 A.f_41 ["_law_form_here","_law_tree_here","_law_rows_here"] (liftSp K (sp_41_lt dd)):=fun dd=>by
    induction dd with
    | zero=>exact fn_imp fn_never fun ds Q h=>never_41 h
    | succ dd ih=>exact step_41 dd T F_37 F_35 ih
  exact h 13
theorem sc_42:FnScope ["_law_one","_law_other"] ["_law_one","_law_other"] (defScope (top 53)):=⟨rfl,rfl,rfl,by decide +kernel,rfl,by decide +kernel,by decide +kernel⟩
set_option maxHeartbeats 4000000 in
theorem ok_42 (T:Txt K mg A):FnOk P w K mg base CX0 1 A.a_42 A.f_42 ["_law_one","_law_other"] (liftSp K sp_42):=by
  refine fnT T.F_42 sc_42 (fun ds Q h=>by obtain ⟨a,b,rfl,h⟩:=h; rfl) fun cdv Ar outer s H E hr ds Q h=>?_
  obtain ⟨a,b,rfl,h⟩:=h
  have nd:=sc_42.nd
  refine ⟨_,(st_cons (st_while (tt_cmp op_gt o_B0 (et_v 1) et_int)
  (st_one (st_par (i:=0) (j:=1) (at_cons (et_v 1) (at_cons (et_op op_mod o_I (et_v 0) (et_v 1)) at_nil)) (fun h=>ps_par rfl nd rfl rfl (by decide) rfl rfl h rfl))) (fun hc hb=>ps_while PassesOwn.never hc hb))
  (st_one (st_ret (et_v 0)))),?_⟩
  show sSeq _ _ _ [.val (.int a),.val (.int b)]
  refine seq_while (fun y σ=>∃ x:Nat,σ=[.val (.int x),.val (.int y)]∧x.gcd y=a.gcd b) b ⟨a,rfl,rfl⟩ fun y σ' hP=>?_
  obtain ⟨x,rfl,hg⟩:=hP
  refine ⟨decide (0 < y),fun q hq=>⟨_,rfl,?_⟩,?_⟩
  · show q (decide ((y:Int) > 0))
    have:decide ((y:Int) > 0)=decide (0 < y):=by rw [decide_eq_decide]; omega
    rw [this]; exact hq
  by_cases hy:0 < y
  · rw [if_pos (decide_eq_true hy)]
    refine ⟨_,rfl,_,rfl,_,rfl,(show (0:Int) < (y:Int) by omega),_,_,rfl,x % y,Nat.mod_lt _ hy,y,?_,?_⟩
    · show [_,Sl.val (.int ((x:Int) % (y:Int)))]=_
      rw [← Int.natCast_emod]
    · rw [← hg,Nat.gcd_comm x y,Nat.gcd_rec y x,Nat.gcd_comm]
  · rw [if_neg (by simpa using hy)]
    have hy0:y=0:=by omega
    subst hy0
    rw [Nat.gcd_zero_right] at hg
    subst hg
    exact ⟨_,rfl,h⟩

theorem sc_43:FnScope ["_law_price","_law_one"] ["_law_price"] (defScope (top 54)):=⟨rfl,rfl,rfl,by decide +kernel,rfl,by decide +kernel,by decide +kernel⟩
set_option maxHeartbeats 4000000 in
theorem ok_43 (T:Txt K mg A)
    (F_42:FnOk P w K mg base CX0 1 A.a_42 A.f_42 ["_law_one","_law_other"] (liftSp K sp_42)):FnOk P w K mg base CX0 2 A.a_43 A.f_43 ["_law_price"] (liftSp K sp_43):=by
  refine fnT T.F_43 sc_43 (fun ds Q h=>by obtain ⟨x,rfl,hx,hg,h⟩:=h; rfl) fun cdv Ar outer s H E hr ds Q h=>?_
  obtain ⟨x,rfl,hx,hg,h⟩:=h
  have nd:=sc_43.nd
  refine ⟨_,(st_cons (st_if (tw_pt (tw_or (tt_not (tt_val (et_isi (kit_tuple _) (et_v 0) (fun h=>pe_callB call_isi rfl T.b_isinstance bl_isinstance (pa_cons h (pa_cons (pe_bltn rfl T.b_tuple bl_tuple rfl) pa_nil)))) (fun h=>pt_val h))) (tw_or1 (tt_cmp op_ne o_ne (et_cb c_len (at_cons (et_v 0) at_nil) (fun h=>pe_callB call_lenAny rfl T.b_len bl_len h)) et_int))))
  (st_one (st_ret et_bl))
  st_nil)
  (st_cons (st_for (it_val (et_v 0)) (gt_name (pg_name (i:=1) nd rfl (by first | exact Or.inl rfl | exact Or.inr rfl)))
  (st_one (st_if (tw_pt (tw_or (tt_not (tt_val (et_isi (kit_int _) (et_v 1) (fun h=>pe_callB call_isi rfl T.b_isinstance bl_isinstance (pa_cons h (pa_cons (pe_bltn rfl T.b_int bl_int rfl) pa_nil)))) (fun h=>pt_val h))) (tw_or1 (tt_val (et_isi (kit_bool _) (et_v 1) (fun h=>pe_callB call_isi rfl T.b_isinstance bl_isinstance (pa_cons h (pa_cons (pe_bltn rfl T.b_bool bl_bool rfl) pa_nil)))) (fun h=>pt_val h)))))
  (st_one (st_ret et_bl))
  st_nil)) (fun hi hg hb=>ps_for PassesOwn.never rfl hi hg hb))
  (st_one (st_ret (et_and (et_cmp op_ge o_B0 (et_ix ix_seq o_ix (et_v 0) et_int) et_int) (et_and (et_cmp op_ge o_B0 (et_ix ix_seq o_ix (et_v 0) et_int) et_int) (et_one (et_cmp op_eq o_eq (et_call F_42 T.m_42 T.k_42 T.d_42 (hr.mono (by decide)) (at_cons (et_ix ix_seq o_ix (et_v 0) et_int) (at_cons (et_ix ix_seq o_ix (et_v 0) et_int) at_nil)) (fun h=>pe_call F_42 (hr.mono (by decide)) rfl T.m_42 T.k_42 T.d_42 .nil pass0 h)) et_int)))))))),?_⟩
  show sSeq _ _ _ [.val (frD x),.un]
  refine seq_if (fun b=>b=false) (fun q hq=>⟨_,rfl,?_⟩) (fun hT=>by cases hT) fun _=>?_
  · show (if false=true then q true else _)
    rw [if_neg (by decide)]
    exact ⟨_,rfl,hq _ rfl⟩
  try unfold sNext
  dsimp only
  refine seq_for (ts:=[.int (x.1:Nat),.int (x.2:Nat)]) (fun R h=>⟨_,rfl,_,rfl,h⟩) (fun i σ=>∃ s1:Sl,σ=[.val (frD x),s1]) ⟨_,rfl⟩ (fun i d σ' hd hP=>?_) fun σ' hP=>?_
  · obtain ⟨s1,rfl⟩:=hP
    obtain ⟨j,rfl⟩:∃ j:Int,d=.int j:=by
      have hm:=List.mem_of_getElem? hd
      simp only [List.mem_cons,List.not_mem_nil,or_false] at hm
      rcases hm with rfl | rfl <;> exact ⟨_,rfl⟩
    refine one_if (fun b=>b=false) (fun q hq=>⟨_,rfl,?_⟩) (fun hT=>by cases hT) fun _=>⟨_,rfl⟩
    show (if false=true then q true else _)
    rw [if_neg (by decide)]
    exact ⟨_,rfl,hq _ rfl⟩
  · obtain ⟨s1,rfl⟩:=hP
    refine ⟨_,rfl,_,rfl,?_⟩
    have c1:decide ((x.1:Int) ≥ 0)=true:=decide_eq_true (by omega)
    have c2:decide ((x.2:Int) ≥ 1)=true:=decide_eq_true (by omega)
    show (if decide ((x.1:Int) ≥ 0)=true then _ else Q (.bool false))
    rw [if_pos c1]
    refine ⟨_,rfl,_,rfl,?_⟩
    show (if decide ((x.2:Int) ≥ 1)=true then _ else Q (.bool false))
    rw [if_pos c2]
    refine ⟨_,rfl,_,rfl,_,rfl,_,rfl,x.1,x.2,rfl,?_⟩
    rw [hg]
    exact h

theorem sc_44:FnScope ["_law_found","_law_price","_law_ranks"] ["_law_found","_law_price"] (defScope (top 55)):=⟨rfl,rfl,rfl,by decide +kernel,rfl,by decide +kernel,by decide +kernel⟩
set_option maxHeartbeats 4000000 in
theorem ok_44 (T:Txt K mg A):FnOk P w K mg base CX0 1 A.a_44 A.f_44 ["_law_found","_law_price"] (liftSp K sp_44):=by
  refine fnT T.F_44 sc_44 (fun ds Q h=>by obtain ⟨l1,x,l2,a,b,rfl,hl,a0,a1,b0,b1,hlt,h⟩:=h; rfl) fun cdv Ar outer s H E hr ds Q h=>?_
  obtain ⟨l1,x,l2,a,b,rfl,hl,a0,a1,b0,b1,hlt,h⟩:=h
  have nd:=sc_44.nd
  refine ⟨_,(st_cons (st_setlc (i:=2) (fr:=[none,some 1]) (N':=["_law_one","_law_price"]) (it_val (et_v 0)) (fun b=>⟨(gt_name (pg_name (i:=0) (show List.Nodup (["_law_one","_law_price"]:List Str) from by decide +kernel) rfl (by first | exact Or.inl rfl | exact Or.inr rfl))),if_nil,(et_tup (at_cons (et_op op_addAny o_add (et_op op_mulAny o_mul (et_ix ix_seq o_ix (et_v 0) et_int) (et_ix ix_seq o_ix (et_v 1) et_int)) (et_op op_mulAny o_mul (et_ix ix_seq o_ix (et_v 0) et_int) (et_ix ix_seq o_ix (et_v 1) et_int))) (at_cons (et_ix ix_seq o_ix (et_v 0) et_int) at_nil)))⟩) (fun hi hY=>ps_setlcc (show lcChk _ (defScope (top 55)) ["_law_found","_law_price","_law_ranks"] ["_law_one","_law_price"] [none,some 1]=true from by decide +kernel) nd rfl (by first | exact Or.inl rfl | exact Or.inr rfl) rfl hi hY rfl))
  (st_one (st_ret (et_ix ix_seq o_ix (et_ix ix_seq o_ix (et_v 0) (et_lindex (et_v 2) (at_cons (et_cb c_minT (at_cons (et_v 2) at_nil) (fun h=>pe_callB (call_minT rfl hr.u1) rfl T.b_min bl_min h)) at_nil) (fun h ha=>pe_bm PySem.F.plainAttrs_list PySem.F.slot_list_index PySem.F.type_list_index (mt_lindex hr) h ha))) et_int)))),?_⟩
  show sSeq _ _ _ [.val (.list ((l1++x::l2).map pruD)),.val (.tuple [.int b,.int a]),.un]
  have hL:(l1++x::l2).length=l1.length + (l2.length + 1):=by rw [List.length_append,List.length_cons]
  refine seq_set (.list ((l1++x::l2).map fun p=>tupI (rkI a b p))) (fun q hq=>?_) ?_
  · refine lcx_map (ts:=(l1++x::l2).map pruD) (fun R h=>⟨_,rfl,_,rfl,h⟩) (fun d=>match d with | .tuple [_,.int s,.int k]=>tupI [s * a + k * b,k] | _=>.none) (by rw [List.length_map]; omega) (fun d q hd hq=>?_) ?_
    · obtain ⟨p,hp,rfl⟩:=List.mem_map.mp hd
      exact ⟨_,rfl,_,rfl,_,rfl,_,rfl,.inr ⟨by omega,by omega⟩,_,rfl,_,rfl,_,rfl,_,rfl,.inr ⟨by omega,by omega⟩,_,rfl,_,rfl,(Nat.le_of_ble_eq_true rfl),hq⟩
    · rw [List.map_map]; exact hq
  have hx0:x ∈ l1++x::l2:=List.mem_append_right _ (List.mem_cons_self ..)
  have hmin:∀ m,m ∈ (l1++x::l2).map (rkI a b)→(∀ n ∈ (l1++x::l2).map (rkI a b),HT.lexLt n m=false)→m=rkI a b x:=fun m hm hle=>by
    obtain ⟨p,hp,rfl⟩:=List.mem_map.mp hm
    obtain ⟨j,hj⟩:=List.getElem?_of_mem hp
    by_cases e:j=l1.length
    · rw [e,mem_here] at hj
      rw [Option.some.inj hj]
    · have hp':=hlt p (mem_other hj e)
      have:=hle (rkI a b x) (List.mem_map.mpr ⟨x,hx0,rfl⟩)
      unfold rkI at this
      rw [lex2] at this
      have:=of_decide_eq_false this
      unfold ltP at hp'
      omega
  have lay:∀ l:List (Tr × Nat × Nat),PyData.canLayAll0 (l.map fun p=>tupI (rkI a b p))=true:=fun l=>by
    induction l with
    | nil=>rfl
    | cons p l ih =>
      show (true && PyData.canLayAll0 (l.map fun p=>tupI (rkI a b p)))=true
      rw [ih]; rfl
  refine ⟨_,rfl,_,rfl,_,rfl,_,rfl,(l1++x::l2).map (rkI a b),by rw [List.map_map]; rfl,by intro z; rw [List.map_eq_nil_iff] at z; rw [z] at hx0; simp at hx0,fun m hm hle=>?_⟩
  rw [hmin m hm hle]
  have hat:L2.atI ((l1++x::l2).map pruD) (l1.length:Int)=some (pruD x):=L2.atI_nat (by rw [List.getElem?_map,mem_here]; rfl)
  refine ⟨_,l1.length,rfl,⟨lay _,rfl,Nat.le_trans (Nat.min_le_right _ _) (Nat.le_of_ble_eq_true rfl),⟨tupI (rkI a b x),by rw [List.getElem?_map,mem_here]; rfl,PySem.SeqAt.eqv_refl _ rfl⟩,fun i d hi hd=>?_⟩,by omega,_,hat,_,rfl,h⟩
  rw [List.getElem?_map] at hd
  cases e:(l1++x::l2)[i]? with
  | none=>rw [e] at hd; cases hd
  | some p =>
    rw [e] at hd
    cases hd
    exact rk_eqv a b x p (hlt p (mem_other e (by omega)))

theorem sc_45:FnScope ["_law_tape_here","_law_form_here","_law_many","_law_tree_here","_law_k","_law_name","_law_values","_law_leaf","_law_question","_law_sides"] ["_law_tape_here","_law_form_here","_law_many"] (defScope (top 56)):=⟨rfl,rfl,rfl,by decide +kernel,rfl,by decide +kernel,by decide +kernel⟩
set_option maxHeartbeats 4000000 in
theorem ok_45 (T:Txt K mg A)
    (F_29:FnOk P w K mg base CX0 1 A.a_29 A.f_29 ["_law_tape_here","_law_many"] (liftSpC K sp_29)):FnOk P w K mg base CX0 2 A.a_45 A.f_45 ["_law_tape_here","_law_form_here","_law_many"] (liftSpC K sp_45):=by
  refine fnC T.F_45 sc_45 (fun τ n ds Q h=>by obtain ⟨fs,an,k,rfl,F,hk,hc,h⟩:=h; rfl) fun cdv Ar outer s H E hr Tp c ds Q hdig h=>?_
  obtain ⟨fs,an,k,rfl,F,hk,hc,h⟩:=h
  have nd:=sc_45.nd
  refine ⟨_,(sc_cons (sc_p (st_set (i:=3) (et_tup (at_cons et_str (at_cons (et_ix ix_seq o_ix (et_ix ix_seq o_ix (et_v 1) et_int) et_int) at_nil))) (fun h=>ps_set (i:=3) nd rfl (by first | exact Or.inl rfl | exact Or.inr rfl) h)))
  (sc_cons (sc_for (it_range (at_cons (et_v 2) at_nil) (fun h=>pi_range1 rfl T.b_range h)) (gt_name (pg_name (i:=4) nd rfl (by first | exact Or.inl rfl | exact Or.inr rfl)))
  (sc_cons (sc_unp (ec_ix ix_seq o_ix (ec_p (et_ix ix_seq o_ix (et_v 1) et_int)) (ec_call F_29 T.m_29 T.k_29 T.d_29 (hr.mono (by decide)) (ac_cons (ec_p (et_v 0)) (ac_cons (ec_p (et_cb c_len (at_cons (et_ix ix_seq o_ix (et_v 1) et_int) at_nil) (fun h=>pe_callB call_lenAny rfl T.b_len bl_len h))) ac_nil)) (fun h=>pe_call F_29 (hr.mono (by decide)) rfl T.m_29 T.k_29 T.d_29 .nil pass0 h))) (gt_pair (pg_tup rfl (pgs_cons (pg_name (i:=5) nd rfl (by first | exact Or.inl rfl | exact Or.inr rfl)) (pgs_cons (pg_name (i:=6) nd rfl (by first | exact Or.inl rfl | exact Or.inr rfl)) pgs_nil)))) (fun he hg=>ps_asg he hg))
  (sc_cons (sc_set (i:=7) (ec_tup (ac_cons (ec_p et_str) (ac_cons (ec_ix ix_seq o_ix (ec_p (et_ix ix_seq o_ix (et_v 1) et_int)) (ec_call F_29 T.m_29 T.k_29 T.d_29 (hr.mono (by decide)) (ac_cons (ec_p (et_v 0)) (ac_cons (ec_p (et_cb c_len (at_cons (et_ix ix_seq o_ix (et_v 1) et_int) at_nil) (fun h=>pe_callB call_lenAny rfl T.b_len bl_len h))) ac_nil)) (fun h=>pe_call F_29 (hr.mono (by decide)) rfl T.m_29 T.k_29 T.d_29 .nil pass0 h))) ac_nil))) (fun h=>ps_set (i:=7) nd rfl (by first | exact Or.inl rfl | exact Or.inr rfl) h))
  (sc_cons (sc_set (i:=8) (ec_tup (ac_cons (ec_p et_str) (ac_cons (ec_p (et_v 5)) (ac_cons (ec_ix ix_seq o_ix (ec_p (et_v 6)) (ec_call F_29 T.m_29 T.k_29 T.d_29 (hr.mono (by decide)) (ac_cons (ec_p (et_v 0)) (ac_cons (ec_p (et_cb c_len (at_cons (et_v 6) at_nil) (fun h=>pe_callB call_lenAny rfl T.b_len bl_len h))) ac_nil)) (fun h=>pe_call F_29 (hr.mono (by decide)) rfl T.m_29 T.k_29 T.d_29 .nil pass0 h))) ac_nil)))) (fun h=>ps_set (i:=8) nd rfl (by first | exact Or.inl rfl | exact Or.inr rfl) h))
  (sc_cons (sc_set (i:=9) (ec_ix ix_seq o_ix (ec_p (et_lst (at_cons (et_tup (at_cons (et_v 7) (at_cons (et_v 3) at_nil))) (at_cons (et_tup (at_cons (et_v 3) (at_cons (et_v 7) at_nil))) at_nil)))) (ec_call F_29 T.m_29 T.k_29 T.d_29 (hr.mono (by decide)) (ac_cons (ec_p (et_v 0)) (ac_cons (ec_p et_int) ac_nil)) (fun h=>pe_call F_29 (hr.mono (by decide)) rfl T.m_29 T.k_29 T.d_29 .nil pass0 h))) (fun h=>ps_set (i:=9) nd rfl (by first | exact Or.inl rfl | exact Or.inr rfl) h))
  (sc_one (sc_set (i:=3) (ec_op op_addAny o_add (ec_tup (ac_cons (ec_p et_str) (ac_cons (ec_p (et_v 8)) (ac_cons (ec_ix ix_seq o_ix (ec_p (et_lst (at_cons et_str (at_cons et_str at_nil)))) (ec_call F_29 T.m_29 T.k_29 T.d_29 (hr.mono (by decide)) (ac_cons (ec_p (et_v 0)) (ac_cons (ec_p et_int) ac_nil)) (fun h=>pe_call F_29 (hr.mono (by decide)) rfl T.m_29 T.k_29 T.d_29 .nil pass0 h))) ac_nil)))) (ec_p (et_v 9))) (fun h=>ps_set (i:=3) nd rfl (by first | exact Or.inl rfl | exact Or.inr rfl) h))))))) (fun hi hg hb=>ps_for PassesOwn.never rfl hi hg hb))
  (sc_one (sc_p (st_ret (et_v 3)))))),?_⟩
  show cSeq _ _ _ _ _ [.val (tpD Tp),.val (frmD fs an),.val (.int (k:Nat)),.un,.un,.un,.un,.un,.un,.un]
  have n1:=F.n1
  have n5:=F.n5
  have a2:=F.a2
  have a4:=F.a4
  have hal:((an.map PyData.str).length:Int)=(an.length:Int):=by rw [List.length_map]
  have hfl:((fs.map fldD).length:Int)=(fs.length:Int):=by rw [List.length_map]
  have h00:L2.atI (an.map PyData.str) 0=some (.str an[0]):=L2.atI_nat (j:=0) (by rw [List.getElem?_map,List.getElem?_eq_getElem (by omega)]; rfl)
  refine cq_pure (seq_set (trD (.say an[0])) (fun q hq=>⟨_,rfl,_,rfl,_,h00,(Nat.le_of_ble_eq_true rfl),hq⟩) ?_)
  refine cq_for (ts:=intsTo k) (fun R h=>⟨_,rfl,(k:Int),rfl,by omega,by omega,h⟩)
    (fun i m σ=>∃ (t:Tr) (s4 s5 s6 s7 s8 s9:Sl),σ=[.val (tpD Tp),.val (frmD fs an),.val (.int (k:Nat)),.val (trD t),s4,s5,s6,s7,s8,s9]∧m≤c + 5 * i∧TrOk fs an t∧t.dep≤i∧t.kn≤i∧pc t≤i + 1) ⟨.say an[0],_,_,_,_,_,_,rfl,by omega,List.getElem_mem _,Nat.zero_le _,Nat.zero_le _,Nat.le_refl _⟩ (fun i m x σ' hx hP=>?_) fun m σ' hP=>?_
  · obtain ⟨hi,rfl⟩:=intsTo_get hx
    obtain ⟨t,s4,s5,s6,s7,s8,s9,rfl,hm,ht,htd,htk,htp⟩:=hP
    refine cq_unpR (fun m' d=>m'≤m + 1∧∃ f,f ∈ fs∧d=fldD f) (fun q hq=>⟨_,rfl,_,rfl,_,rfl,_,rfl,_,rfl,_,rfl,((fs.map fldD).length:Int),rfl,by omega,by omega,by omega,fun r h0 h1=>?_⟩) ?_
    · obtain ⟨d,hdm,hda,_⟩:=atI_in (xs:=fs.map fldD) (i:=r) h0 h1
      obtain ⟨f,hf,rfl⟩:=List.mem_map.mp hdm
      exact ⟨_,hda,hq _ _ ⟨by omega,f,hf,rfl⟩⟩
    rintro m1 _ ⟨hm1,f,hf,rfl⟩
    obtain ⟨v2,v5,hvv⟩:=F.vs f hf
    have hvl:((f.2.map PyData.str).length:Int)=(f.2.length:Int):=by rw [List.length_map]
    refine ⟨.str f.1,.tuple (f.2.map PyData.str),rfl,?_⟩
    refine cq_setR (fun m' d=>m'≤m + 2∧∃ a:Str,a ∈ an∧d=trD (.say a)) (fun q hq=>⟨_,rfl,_,rfl,_,rfl,_,rfl,_,rfl,_,rfl,((an.map PyData.str).length:Int),rfl,by omega,by omega,by omega,fun r h0 h1=>?_⟩) ?_
    · obtain ⟨d,hdm,hda,_⟩:=atI_in (xs:=an.map PyData.str) (i:=r) h0 h1
      obtain ⟨a,ha,rfl⟩:=List.mem_map.mp hdm
      exact ⟨_,hda,(Nat.le_of_ble_eq_true rfl),hq _ _ ⟨by omega,a,ha,rfl⟩⟩
    rintro m2 _ ⟨hm2,a,ha,rfl⟩
    refine cq_setR (fun m' d=>m'≤m + 3∧∃ kk z:Str,isQ fs (.tuple [.str kk,.str f.1,.str z])=true∧d=.tuple [.str kk,.str f.1,.str z]) (fun q hq=>⟨_,rfl,_,rfl,_,rfl,_,rfl,_,rfl,((f.2.map PyData.str).length:Int),rfl,by omega,by omega,by omega,fun r h0 h1=>?_⟩) ?_
    · obtain ⟨d,hdm,hda,_⟩:=atI_in (xs:=f.2.map PyData.str) (i:=r) h0 h1
      obtain ⟨z,hz,rfl⟩:=List.mem_map.mp hdm
      exact ⟨_,hda,(Nat.le_of_ble_eq_true rfl),hq _ _ ⟨by omega,"is",z,isQ_is hf hz,rfl⟩⟩
    rintro m3 _ ⟨hm3,kk,z,hq,rfl⟩
    refine cq_setR (fun m' d=>m'≤m + 4∧∃ y w:Tr,((y=.say a∧w=t) ∨ (y=t∧w=.say a))∧d=.tuple [trD y,trD w]) (fun q hq=>⟨_,rfl,_,rfl,(Nat.le_of_ble_eq_true rfl),_,rfl,_,rfl,(Nat.le_of_ble_eq_true rfl),(Nat.le_of_ble_eq_true rfl),_,rfl,_,rfl,2,rfl,by decide,by decide,by omega,fun r h0 h1=>?_⟩) ?_
    · obtain ⟨d,hdm,hda,_⟩:=atI_in (xs:=[PyData.tuple [trD (.say a),trD t],.tuple [trD t,trD (.say a)]]) (i:=r) h0 h1
      simp only [List.mem_cons,List.not_mem_nil,or_false] at hdm
      rcases hdm with rfl | rfl
      · exact ⟨_,hda,hq _ _ ⟨by omega,_,_,.inl ⟨rfl,rfl⟩,rfl⟩⟩
      · exact ⟨_,hda,hq _ _ ⟨by omega,_,_,.inr ⟨rfl,rfl⟩,rfl⟩⟩
    rintro m4 _ ⟨hm4,y,w,hyw,rfl⟩
    have hyw2:TrOk fs an y∧TrOk fs an w∧max y.dep w.dep≤i∧y.kn + w.kn≤i∧pc y * pc w≤i + 1:=by
      have p1:pc (.say a)=1:=rfl
      have d1:(Tr.say a).dep=0:=rfl
      have k1:(Tr.say a).kn=0:=rfl
      rcases hyw with ⟨rfl,rfl⟩ | ⟨rfl,rfl⟩
      · exact ⟨ha,ht,by rw [d1]; omega,by rw [k1]; omega,by rw [p1]; omega⟩
      · exact ⟨ht,ha,by rw [d1]; omega,by rw [k1]; omega,by rw [p1]; omega⟩
    obtain ⟨hy,hw,hdd,hkk,hpp⟩:=hyw2
    refine co_setR (fun m' d=>m'≤m + 5∧∃ s:Str,(s="yes" ∨ s="no")∧d=trD (.ask kk f.1 z s y w)) (fun q hq=>⟨_,rfl,(Nat.le_of_ble_eq_true rfl),_,rfl,_,rfl,2,rfl,by decide,by decide,by omega,fun r h0 h1=>?_⟩) ?_
    · obtain ⟨d,hdm,hda,_⟩:=atI_in (xs:=[PyData.str "yes",.str "no"]) (i:=r) h0 h1
      simp only [List.mem_cons,List.not_mem_nil,or_false] at hdm
      rcases hdm with rfl | rfl
      · exact ⟨_,hda,(Nat.le_of_ble_eq_true rfl),_,rfl,(Nat.le_of_ble_eq_true rfl),hq _ _ ⟨by omega,_,.inl rfl,rfl⟩⟩
      · exact ⟨_,hda,(Nat.le_of_ble_eq_true rfl),_,rfl,(Nat.le_of_ble_eq_true rfl),hq _ _ ⟨by omega,_,.inr rfl,rfl⟩⟩
    rintro m5 _ ⟨hm5,s,hs,rfl⟩
    exact ⟨.ask kk f.1 z s y w,_,_,_,_,_,_,rfl,by omega,⟨hq,hs,hy,hw⟩,by show max y.dep w.dep + 1≤i + 1; omega,by show y.kn + w.kn + 1≤i + 1; omega,by rw [pc_ask]; omega⟩
  · obtain ⟨t,s4,s5,s6,s7,s8,s9,rfl,hm,ht,htd,htk,htp⟩:=hP
    rw [intsTo_len] at hm htd htk htp
    exact ⟨_,rfl,h m t (by omega) ht (by omega) (by omega) (by omega)⟩

theorem sc_46:FnScope ["_law_form_here","_law_tree_here","_law_rows_here","_law_found","_law_prunings_here","_law_ahead","_law_k","_law_price","_law_told","_law_last","_law_close"] ["_law_form_here","_law_tree_here","_law_rows_here","_law_found"] (defScope (top 57)):=⟨rfl,rfl,rfl,by decide +kernel,rfl,by decide +kernel,by decide +kernel⟩
set_option maxHeartbeats 4000000 in
theorem ok_46 (T:Txt K mg A)
    (F_43:FnOk P w K mg base CX0 2 A.a_43 A.f_43 ["_law_price"] (liftSp K sp_43))
    (F_40:FnOk P w K mg base CX0 13 A.a_40 A.f_40 ["_law_tree_here"] (liftSp K sp_40))
    (F_44:FnOk P w K mg base CX0 1 A.a_44 A.f_44 ["_law_found","_law_price"] (liftSp K sp_44))
    (F_41:FnOk P w K mg base CX0 16 A.a_41 A.f_41 ["_law_form_here","_law_tree_here","_law_rows_here"] (liftSp K sp_41)):FnOk P w K mg base CX0 17 A.a_46 A.f_46 ["_law_form_here","_law_tree_here","_law_rows_here","_law_found"] (liftSp K sp_46):=by
  refine fnT T.F_46 sc_46 (fun ds Q h=>by obtain ⟨fs,an,fa,U,rs,rfl,F,hfa,hU,hd,hk,hpc,hrs,hl,h⟩:=h; rfl) fun cdv Ar outer s H E hr ds Q h=>?_
  obtain ⟨fs,an,fa,U,rs,rfl,F,hfa,hU,hd,hk,hpc,hrs,hl,h⟩:=h
  have nd:=sc_46.nd
  refine ⟨_,(st_cons (st_set (i:=4) (et_call F_41 T.m_41 T.k_41 T.d_41 (hr.mono (by decide)) (at_cons (et_v 0) (at_cons (et_v 1) (at_cons (et_v 2) at_nil))) (fun h=>pe_call F_41 (hr.mono (by decide)) rfl T.m_41 T.k_41 T.d_41 .nil pass0 h)) (fun h=>ps_set (i:=4) nd rfl (by first | exact Or.inl rfl | exact Or.inr rfl) h))
  (st_cons (st_if (tw_pt (tw_or (tt_not (tt_val (et_isi (kit_list _) (et_v 3) (fun h=>pe_callB call_isi rfl T.b_isinstance bl_isinstance (pa_cons h (pa_cons (pe_bltn rfl T.b_list bl_list rfl) pa_nil)))) (fun h=>pt_val h))) (tw_or (tt_cmp (op_eqD hr) o_data (et_cb c_len (at_cons (et_v 3) at_nil) (fun h=>pe_callB call_lenAny rfl T.b_len bl_len h)) et_int) (tw_or1 (tt_cmp (op_neD hr) o_data (et_ix ix_seq o_ix (et_ix ix_seq o_ix (et_v 3) et_int) et_int) (et_tup (at_cons et_int (at_cons et_int at_nil))))))))
  (st_one (st_ret et_bl))
  st_nil)
  (st_cons (st_set (i:=5) (et_v 4) (fun h=>ps_set (i:=5) nd rfl (by first | exact Or.inl rfl | exact Or.inr rfl) h))
  (st_cons (st_for (it_range (at_cons (et_cb c_len (at_cons (et_v 3) at_nil) (fun h=>pe_callB call_lenAny rfl T.b_len bl_len h)) at_nil) (fun h=>pi_range1 rfl T.b_range h)) (gt_name (pg_name (i:=6) nd rfl (by first | exact Or.inl rfl | exact Or.inr rfl)))
  (st_cons (st_if (tw_pt (tw_or (tt_not (tt_val (et_isi (kit_tuple _) (et_ix ix_seq o_ix (et_v 3) (et_v 6)) (fun h=>pe_callB call_isi rfl T.b_isinstance bl_isinstance (pa_cons h (pa_cons (pe_bltn rfl T.b_tuple bl_tuple rfl) pa_nil)))) (fun h=>pt_val h))) (tw_or (tt_cmp (op_neD hr) o_data (et_cb c_len (at_cons (et_ix ix_seq o_ix (et_v 3) (et_v 6)) at_nil) (fun h=>pe_callB call_lenAny rfl T.b_len bl_len h)) et_int) (tw_or1 (tt_not (tt_val (et_call F_43 T.m_43 T.k_43 T.d_43 (hr.mono (by decide)) (at_cons (et_ix ix_seq o_ix (et_ix ix_seq o_ix (et_v 3) (et_v 6)) et_int) at_nil) (fun h=>pe_call F_43 (hr.mono (by decide)) rfl T.m_43 T.k_43 T.d_43 .nil pass0 h)) (fun h=>pt_val h)))))))
  (st_one (st_ret et_bl))
  st_nil)
  (st_cons (st_unp (g:=fun _ _ _ _=>True) (et_ix ix_seq o_ix (et_v 3) (et_v 6)) (gt_pair (pg_tup rfl (pgs_cons (pg_name (i:=7) nd rfl (by first | exact Or.inl rfl | exact Or.inr rfl)) (pgs_cons (pg_name (i:=8) nd rfl (by first | exact Or.inl rfl | exact Or.inr rfl)) pgs_nil)))) (fun he hg=>ps_asg he hg))
  (st_cons (st_if (tw_pt (tw_or (tt_cmp (op_neD hr) o_data (et_call F_44 T.m_44 T.k_44 T.d_44 (hr.mono (by decide)) (at_cons (et_v 4) (at_cons (et_v 7) at_nil)) (fun h=>pe_call F_44 (hr.mono (by decide)) rfl T.m_44 T.k_44 T.d_44 .nil pass0 h)) (et_v 8)) (tw_or1 (tt_cmp (op_notInData hr) o_data (et_v 8) (et_lc (fr:=[none]) (N':=["_law_one"]) (it_val (et_v 5)) (fun b=>⟨(gt_name (pg_name (i:=0) (show List.Nodup (["_law_one"]:List Str) from by decide +kernel) rfl (by first | exact Or.inl rfl | exact Or.inr rfl))),if_nil,(et_ix ix_seq o_ix (et_v 0) et_int)⟩) (fun hi hY=>pe_lcc (show lcChk _ (defScope (top 57)) ["_law_form_here","_law_tree_here","_law_rows_here","_law_found","_law_prunings_here","_law_ahead","_law_k","_law_price","_law_told","_law_last","_law_close"] ["_law_one"] [none]=true from by decide +kernel) rfl hi hY))))))
  (st_one (st_ret et_bl))
  st_nil)
  (st_cons (st_if (tt_cmp op_gt o_B0 (et_v 6) et_int)
  (st_cons (st_set (i:=9) (et_ix ix_seq o_ix (et_ix ix_seq o_ix (et_v 3) (et_op op_sub o_I0 (et_v 6) et_int)) et_int) (fun h=>ps_set (i:=9) nd rfl (by first | exact Or.inl rfl | exact Or.inr rfl) h))
  (st_cons (st_if (tw_pt (tw_or (tt_cmp op_le o_B0 (et_op op_mulAny o_mul (et_ix ix_seq o_ix (et_v 7) et_int) (et_ix ix_seq o_ix (et_v 9) et_int)) (et_op op_mulAny o_mul (et_ix ix_seq o_ix (et_v 9) et_int) (et_ix ix_seq o_ix (et_v 7) et_int))) (tw_or1 (tt_cmp op_ge o_B0 (et_call F_40 T.m_40 T.k_40 T.d_40 (hr.mono (by decide)) (at_cons (et_v 8) at_nil) (fun h=>pe_call F_40 (hr.mono (by decide)) rfl T.m_40 T.k_40 T.d_40 .nil pass0 h)) (et_call F_40 T.m_40 T.k_40 T.d_40 (hr.mono (by decide)) (at_cons (et_ix ix_seq o_ix (et_ix ix_seq o_ix (et_v 3) (et_op op_sub o_I0 (et_v 6) et_int)) et_int) at_nil) (fun h=>pe_call F_40 (hr.mono (by decide)) rfl T.m_40 T.k_40 T.d_40 .nil pass0 h))))))
  (st_one (st_ret et_bl))
  st_nil)
  (st_cons (st_set (i:=10) (et_tup (at_cons (et_op op_sub o_I0 (et_op op_mulAny o_mul (et_ix ix_seq o_ix (et_v 7) et_int) (et_op op_pow o_I et_int et_int)) (et_ix ix_seq o_ix (et_v 7) et_int)) (at_cons (et_op op_mulAny o_mul (et_ix ix_seq o_ix (et_v 7) et_int) (et_op op_pow o_I et_int et_int)) at_nil))) (fun h=>ps_set (i:=10) nd rfl (by first | exact Or.inl rfl | exact Or.inr rfl) h))
  (st_one (st_if (tt_cmp (op_neD hr) o_data (et_call F_44 T.m_44 T.k_44 T.d_44 (hr.mono (by decide)) (at_cons (et_v 4) (at_cons (et_v 10) at_nil)) (fun h=>pe_call F_44 (hr.mono (by decide)) rfl T.m_44 T.k_44 T.d_44 .nil pass0 h)) (et_ix ix_seq o_ix (et_ix ix_seq o_ix (et_v 3) (et_op op_sub o_I0 (et_v 6) et_int)) et_int))
  (st_one (st_ret et_bl))
  st_nil)))))
  st_nil)
  (st_one (st_set (i:=5) (et_call F_41 T.m_41 T.k_41 T.d_41 (hr.mono (by decide)) (at_cons (et_v 0) (at_cons (et_v 8) (at_cons (et_v 2) at_nil))) (fun h=>pe_call F_41 (hr.mono (by decide)) rfl T.m_41 T.k_41 T.d_41 .nil pass0 h)) (fun h=>ps_set (i:=5) nd rfl (by first | exact Or.inl rfl | exact Or.inr rfl) h))))))) (fun hi hg hb=>ps_for PassesOwn.never rfl hi hg hb))
  (st_one (st_ret (et_and (et_cmp (op_eqD hr) o_data (et_ix ix_seq o_ix (et_ix ix_seq o_ix (et_ix ix_seq o_ix (et_v 3) (et_neg et_int)) et_int) et_int) et_str) (et_one (et_cmp (op_eqD hr) o_data (et_call F_44 T.m_44 T.k_44 T.d_44 (hr.mono (by decide)) (at_cons (et_v 4) (at_cons (et_tup (at_cons (et_op op_addAny o_add (et_ix ix_seq o_ix (et_ix ix_seq o_ix (et_ix ix_seq o_ix (et_v 3) (et_neg et_int)) et_int) et_int) et_int) (at_cons et_int at_nil))) at_nil)) (fun h=>pe_call F_44 (hr.mono (by decide)) rfl T.m_44 T.k_44 T.d_44 .nil pass0 h)) (et_ix ix_seq o_ix (et_ix ix_seq o_ix (et_v 3) (et_neg et_int)) et_int)))))))))),?_⟩
  show sSeq _ _ _ [.val (frmD fs an),.val (trD U),.val (.list (rs.map rowD)),.val (.list ((stepsT fs fa U rs).map stD)),.un,.un,.un,.un,.un,.un,.un]
  obtain ⟨hOk,hLk,hLast⟩:=ch_at (steps_okT (fs:=fs) (fa:=fa) hk hl)
  obtain ⟨l0,hL0⟩:∃ l,stepsT fs fa U rs=((0,1),(lw fs fa 1 0 U rs).2)::l:=steps_head rs _ _ _
  have hlen:(stepsT fs fa U rs).length≤13:=by
    have h1:=steps_len (fs:=fs) (fa:=fa) rs (lw fs fa 1 0 U rs).2.kn (0,1) (lw fs fa 1 0 U rs).2
    have h2:=(lw_kn (fs:=fs) (fa:=fa) 1 0 U rs).1
    exact Nat.le_trans h1 (by omega)
  have hpl:=pru_pc (fs:=fs) (fa:=fa) U rs
  generalize stepsT fs fa U rs=L at hOk hLk hLast hL0 hlen ⊢
  have hTr:∀ x,OkS fs fa U rs x→TrOk fs an x.2∧x.2.dep≤12∧x.2.kn≤12∧pc x.2≤30∧Th 900 13 (trD x.2):=fun x ok=>by
    have e:=ok.tr
    have h1:=lw_ok hfa (x.1.2:Nat) (x.1.1:Nat) U rs hU hrs
    have h2:=(lw_kn (fs:=fs) (fa:=fa) (x.1.2:Nat) (x.1.1:Nat) U rs).1
    have h3:=pc_lw (fs:=fs) (fa:=fa) (x.1.2:Nat) (x.1.1:Nat) U rs
    rw [← e] at h1 h2 h3
    exact ⟨h1.1,by omega,by omega,by omega,(th_tree F _ h1.1).mono (by omega) (by omega)⟩
  refine seq_set (.list ((pru fs fa U rs).map pruD)) (fun q hq=>⟨_,rfl,_,rfl,_,rfl,fs,an,fa,U,rs,rfl,F,hfa,hU,by omega,by omega,hrs,hl,hq⟩) ?_
  have at0:L2.atI (L.map stD) 0=some (stD ((0,1),(lw fs fa 1 0 U rs).2)):=L2.atI_nat (j:=0) (by rw [hL0]; rfl)
  refine seq_if (fun b=>b=false) (fun q hq=>⟨_,rfl,?_⟩) (fun hT=>by cases hT) fun _=>?_
  · show (if false=true then q true else _)
    rw [if_neg (by decide)]
    refine ⟨_,rfl,⟨rfl,rfl,(Nat.le_of_ble_eq_true rfl)⟩,?_⟩
    show (if PyData.eqv (.int ((L.map stD).length:Nat)) (.int 0)=true then q true else _)
    rw [if_neg (by
      show ¬ ((((L.map stD).length:Nat):Int) == 0)=true
      rw [hL0]
      simp
      omega)]
    exact ⟨_,rfl,_,at0,_,rfl,(Nat.le_of_ble_eq_true rfl),⟨rfl,rfl,(Nat.le_of_ble_eq_true rfl)⟩,hq _ rfl⟩
  try unfold sNext
  dsimp only
  refine seq_set (.list ((pru fs fa U rs).map pruD)) (fun q hq=>⟨_,rfl,hq⟩) ?_
  have hLl:((L.map stD).length:Int).toNat=L.length:=by rw [List.length_map]; exact Int.toNat_natCast _
  refine seq_for (ts:=intsTo L.length) (fun R h=>⟨_,rfl,((L.map stD).length:Int),rfl,by omega,by rw [List.length_map]; omega,by rw [hLl]; exact h⟩)
    (fun i σ=>∃ (s6 s7 s8 s9 s10:Sl) (A:Tr),σ=[.val (frmD fs an),.val (trD U),.val (.list (rs.map rowD)),.val (.list (L.map stD)),.val (.list ((pru fs fa U rs).map pruD)),.val (.list ((pru fs fa A rs).map pruD)),s6,s7,s8,s9,s10]∧TrOk fs an A∧A.dep≤12∧A.kn≤12∧pc A≤30∧∀ x,L[i]?=some x→∃ q p:Int,x.2=(lw fs fa q p A rs).2) ⟨_,_,_,_,_,U,rfl,hU,hd,hk,hpc,fun x hx=>⟨1,0,by rw [hL0] at hx; cases hx; rfl⟩⟩ (fun i d σ' hx hP=>?_) fun σ' hP=>?_
  · obtain ⟨hi,rfl⟩:=intsTo_get hx
    obtain ⟨s6,s7,s8,s9,s10,A,rfl,hA,hAd,hAk,hAp,hin⟩:=hP
    have hLi:L[i]?=some L[i]:=List.getElem?_eq_getElem hi
    have hat:L2.atI (L.map stD) (i:Int)=some (stD L[i]):=L2.atI_nat (by rw [List.getElem?_map,hLi]; rfl)
    obtain ⟨qa,pa,hinx⟩:=hin _ hLi
    have ok:=hOk i _ hLi
    obtain ⟨x1,x2,x3,x4,x5⟩:=hTr _ ok
    have hprev:∀ j,i=j + 1→∃ z,L[j]?=some z∧LkS fs fa U rs z L[i]∧OkS fs fa U rs z:=fun j hj=>by
      have hz:L[j]?=some L[j]:=List.getElem?_eq_getElem (by omega)
      exact ⟨_,hz,hLk j _ _ hz (by rw [← hj]; exact hLi),hOk j _ hz⟩
    generalize hXe:L[i]=X at *
    obtain ⟨⟨p,q⟩,t⟩:=X
    have okq0:0 < q:=ok.q0
    have okq1:q≤12:=ok.q1
    have okp1:p≤60:=ok.p1
    have oktr:t=(lw fs fa (q:Nat) (p:Nat) U rs).2:=ok.tr
    dsimp only at x1 x2 x3 x4 x5 hinx
    have th2:=x5.depth
    have least:∀ (a b:Int) (w:Tr),w=(lw fs fa a b U rs).2→∃ l1 x l2,pru fs fa U rs=l1++x::l2∧x.1=w∧∀ q ∈ l1++l2,ltP a b x q:=fun a b w hw=>by
      obtain ⟨l1,x,l2,e1,e2,_,e3⟩:=least_at fs fa a b U rs
      exact ⟨l1,x,l2,e1,by rw [hw]; exact e2,e3⟩
    have eT:PyData.eqv (trD t) (trD t)=true:=PySem.SeqAt.eqv_refl _ x5.lay
    have e22:PyData.eqv (.int 2) (.int 2)=true:=rfl
    refine seq_if (fun b=>b=false) (fun q' hq=>⟨_,rfl,_,rfl,_,hat,?_⟩) (fun hT=>by cases hT) fun _=>?_
    · show (if false=true then q' true else _)
      rw [if_neg (by decide)]
      refine ⟨_,rfl,_,rfl,_,hat,⟨rfl,rfl,(Nat.le_of_ble_eq_true rfl)⟩,?_⟩
      show (if (!PyData.eqv (.int 2) (.int 2))=true then q' true else _)
      rw [e22,if_neg (by decide)]
      exact ⟨_,rfl,_,rfl,_,hat,_,rfl,(p,q),rfl,okq0,ok.low,hq _ rfl⟩
    try unfold sNext
    dsimp only
    refine seq_unp (a:=frD (p,q)) (b:=trD t) (fun q' hq=>⟨_,rfl,_,rfl,_,hat,hq⟩) ?_
    obtain ⟨l1,xx,l2,e1,e2,e3⟩:=least (q:Nat) (p:Nat) t oktr
    have h100:∀ l:List (Tr × Nat × Nat),pru fs fa U rs=l→l.length≤100:=fun l e=>by rw [← e,hpl]; omega
    refine seq_if (fun b=>b=false) (fun q' hq=>⟨_,rfl,_,rfl,l1,xx,l2,(q:Nat),(p:Nat),(by rw [e1]; first | done | rfl),h100 _ e1,by omega,by omega,by omega,by omega,e3,?_⟩) (fun hT=>by cases hT) fun _=>?_
    · rw [e2]
      refine ⟨_,rfl,⟨x5.lay,x5.lay,by omega⟩,?_⟩
      show (if (!PyData.eqv (trD t) (trD t))=true then q' true else _)
      rw [eT,if_neg (by decide)]
      refine ⟨_,rfl,?_⟩
      refine lcx_map (ts:=(pru fs fa A rs).map pruD) (fun R h=>⟨_,rfl,_,rfl,h⟩) (fun d=>match d with | .tuple (a::_)=>a | _=>.none) (by rw [List.length_map,pru_pc]; omega) (fun d q2 hd hq2=>?_) ?_
      · obtain ⟨e,he,rfl⟩:=List.mem_map.mp hd
        exact ⟨_,rfl,_,rfl,hq2⟩
      · rw [List.map_map]
        obtain ⟨e,he,hee⟩:=lw_in (fs:=fs) (fa:=fa) qa pa A rs
        have hmem:trD e.1 ∈ (pru fs fa A rs).map fun e=>trD e.1:=List.mem_map.mpr ⟨e,he,rfl⟩
        have hlay:PyData.canLayAll0 ((pru fs fa A rs).map fun e=>trD e.1)=true:=lay_all fun d hd=>by
          obtain ⟨e,he,rfl⟩:=List.mem_map.mp hd
          exact (th_tree F _ (pru_okT hfa A rs hA hrs e he).1).lay
        refine (show _∧_ from ⟨(show okIn (trD t) (.list ((pru fs fa A rs).map fun e=>trD e.1)) from ⟨hlay,x5.lay,Nat.le_trans (Nat.min_le_right _ _) (by omega)⟩),hq _ ?_⟩)
        show (!(((pru fs fa A rs).map fun e=>trD e.1).any fun z=>PyData.eqv z (trD t)))=false
        rw [List.any_eq_true.mpr ⟨trD e.1,hmem,by rw [hee,← hinx]; exact eT⟩]; rfl
    try unfold sNext
    dsimp only
    refine seq_if (fun b=>b=decide ((i:Int) > 0)) (fun q' hq=>⟨_,rfl,hq _ rfl⟩) (fun hb=>?_) fun hb=>?_
    · obtain ⟨j,hj⟩:∃ j,i=j + 1:=⟨i - 1,by have:=of_decide_eq_true hb.symm; omega⟩
      obtain ⟨⟨⟨p0,q0⟩,t0⟩,hz,lk,okz⟩:=hprev j hj
      obtain ⟨y1,y2,y3,y4,y5⟩:=hTr _ okz
      dsimp only at y1 y2 y3 y4 y5
      have thz:=y5.depth
      have zq1:q0≤12:=okz.q1
      have zp1:p0≤60:=okz.p1
      have hup:p0 * q < p * q0:=lk.up
      have hknz:t.kn < t0.kn:=lk.kn
      have hclz:t0=(lw fs fa ((q:Int) * 10000000) ((p:Int) * 10000000 - (q:Int)) U rs).2:=lk.cl
      have hp0:0 < p:=by
        rcases Nat.eq_zero_or_pos p with z | z
        · rw [z,Nat.zero_mul] at hup; omega
        · exact z
      have eZ:PyData.eqv (trD t0) (trD t0)=true:=PySem.SeqAt.eqv_refl _ y5.lay
      have hatz:L2.atI (L.map stD) ((i:Int) - 1)=some (stD ((p0,q0),t0)):=by
        have:(i:Int) - 1=(j:Int):=by omega
        rw [this]
        exact L2.atI_nat (by rw [List.getElem?_map,hz]; rfl)
      have pw:CPow 10 7:=by unfold CPow; decide
      refine seq_set (frD (p0,q0)) (fun q' hq=>⟨_,rfl,_,rfl,_,hatz,_,rfl,hq⟩) ?_
      refine seq_if (fun b=>b=false) (fun q' hq=>⟨_,rfl,_,rfl,_,rfl,_,rfl,.inl ⟨by omega,by omega⟩,_,rfl,_,rfl,_,rfl,_,rfl,.inl ⟨by omega,by omega⟩,?_⟩) (fun hT=>by cases hT) fun _=>?_
      · show (if decide ((p:Int) * (q0:Int)≤(p0:Int) * (q:Int))=true then q' true else _)
        rw [if_neg (by
          rw [decide_eq_true_eq,← Int.natCast_mul,← Int.natCast_mul]
          omega)]
        exact ⟨_,rfl,t,rfl,by omega,by omega,_,rfl,_,rfl,_,hatz,_,rfl,t0,rfl,by omega,by omega,hq _ (decide_eq_false (by omega))⟩
      try unfold sNext
      dsimp only
      refine seq_set (.tuple [.int ((p:Int) * 10 ^ (7:Int).toNat - (q:Int)),.int ((q:Int) * 10 ^ (7:Int).toNat)]) (fun q' hq=>⟨_,rfl,_,rfl,pw,.inl ⟨by omega,by omega⟩,_,rfl,_,rfl,_,rfl,_,rfl,pw,.inl ⟨by omega,by omega⟩,(Nat.le_of_ble_eq_true rfl),hq⟩) ?_
      rw [e7]
      obtain ⟨m1,mm,m2,f1,f2,f3⟩:=least ((q:Int) * 10000000) ((p:Int) * 10000000 - (q:Int)) t0 hclz
      refine one_if (fun b=>b=false) (fun q' hq=>⟨_,rfl,_,rfl,m1,mm,m2,(q:Int) * 10000000,(p:Int) * 10000000 - (q:Int),(by rw [f1]; first | done | rfl),h100 _ f1,by omega,by omega,by omega,by omega,f3,?_⟩) (fun hT=>by cases hT) fun _=>?_
      · rw [f2]
        exact ⟨_,rfl,_,rfl,_,hatz,_,rfl,⟨y5.lay,y5.lay,by omega⟩,hq _ (by show (!PyData.eqv (trD t0) (trD t0))=false; rw [eZ]; rfl)⟩
      try unfold sNext
      dsimp only
      refine one_set (.list ((pru fs fa t rs).map pruD)) (fun q' hq=>⟨_,rfl,_,rfl,_,rfl,fs,an,fa,t,rs,rfl,F,hfa,x1,by omega,x4,hrs,hl,hq⟩) ⟨_,_,_,_,_,t,rfl,x1,x2,x3,x4,fun y hy=>⟨_,_,(hLk _ _ y hLi hy).tr⟩⟩
    · try unfold sNext
      dsimp only
      refine one_set (.list ((pru fs fa t rs).map pruD)) (fun q' hq=>⟨_,rfl,_,rfl,_,rfl,fs,an,fa,t,rs,rfl,F,hfa,x1,by omega,x4,hrs,hl,hq⟩) ⟨_,_,_,_,_,t,rfl,x1,x2,x3,x4,fun y hy=>⟨_,_,(hLk _ _ y hLi hy).tr⟩⟩
  · obtain ⟨s6,s7,s8,s9,s10,A,rfl,hA,hAd,hAk,hAp,hin⟩:=hP
    obtain ⟨K0,z,hKz⟩:∃ xs z,L=xs++[z]:=⟨L.dropLast,L.getLast (fun e=>by rw [e] at hL0; cases hL0),(List.dropLast_concat_getLast _).symm⟩
    have hzl:L[L.length - 1]?=some z:=by rw [hKz]; simp
    have ok:=hOk _ _ hzl
    have hleaf:=hLast z hzl
    obtain ⟨x1,x2,x3,x4,x5⟩:=hTr _ ok
    have th2:=x5.depth
    have hatm:L2.atI (L.map stD) (-1)=some (stD z):=by rw [hKz,List.map_append]; exact L2.atI_last _ _
    obtain ⟨⟨p,q⟩,t⟩:=z
    cases t with
    | ask k n v s y m=>cases hleaf
    | say a =>
      have okq0:0 < q:=ok.q0
      have okp1:p≤60:=ok.p1
      have oktr:Tr.say a=(lw fs fa (q:Nat) (p:Nat) U rs).2:=ok.tr
      have oS:okEq (.str "say") (.str "say"):=⟨by decide +kernel,by decide +kernel,by decide +kernel⟩
      have vS:PyData.eqv (.str "say") (.str "say")=true:=by decide +kernel
      have eT:PyData.eqv (trD (.say a)) (trD (.say a))=true:=PySem.SeqAt.eqv_refl _ x5.lay
      have hlast:Tr.say a=(lw fs fa 1 ((p:Int) + 99) U rs).2:=by
        have hle:(p:Int) * 1≤((p:Int) + 99) * (q:Int):=by
          have:=Int.mul_le_mul_of_nonneg_left (show (1:Int)≤(q:Int) by omega) (show 0≤(p:Int) + 99 by omega)
          omega
        have:=nestF (fs:=fs) (fa:=fa) (p:=(p:Int)) (q:=(q:Int)) (p':=(p:Int) + 99) (q':=1) (by omega) (by decide) hle U rs
        rw [← oktr] at this
        exact this
      obtain ⟨l1,xx,l2,e1,e2,_,e3⟩:=least_at fs fa 1 ((p:Int) + 99) U rs
      refine ⟨_,rfl,_,hatm,_,rfl,_,rfl,oS,?_⟩
      show (if PyData.eqv (.str "say") (.str "say")=true then _ else Q (.bool false))
      rw [if_pos vS]
      refine ⟨_,rfl,_,rfl,_,hatm,_,rfl,_,rfl,(Nat.le_of_ble_eq_true rfl),l1,xx,l2,1,(p:Int) + 99,(by rw [e1]; first | done | rfl),by rw [← e1,hpl]; omega,by decide,by decide,by omega,by omega,e3,?_⟩
      rw [e2,← hlast]
      refine ⟨_,rfl,_,hatm,_,rfl,⟨x5.lay,x5.lay,by omega⟩,?_⟩
      show Q (.bool (PyData.eqv (trD (.say a)) (trD (.say a))))
      rw [eT]; exact h

theorem sc_law:FnScope ["_law_script","_law_tape_here","_law_form_here","_law_rows_here","_law_tree_here","_law_handed","_law_found","_law_kept"] ["_law_script"] (defScope (top 58)):=⟨rfl,rfl,rfl,by decide +kernel,rfl,by decide +kernel,by decide +kernel⟩
set_option maxHeartbeats 4000000 in
theorem ok_law (T:Txt K mg A)
    (F_45:FnOk P w K mg base CX0 2 A.a_45 A.f_45 ["_law_tape_here","_law_form_here","_law_many"] (liftSpC K sp_45))
    (F_29:FnOk P w K mg base CX0 1 A.a_29 A.f_29 ["_law_tape_here","_law_many"] (liftSpC K sp_29))
    (F_46:FnOk P w K mg base CX0 17 A.a_46 A.f_46 ["_law_form_here","_law_tree_here","_law_rows_here","_law_found"] (liftSp K sp_46))
    (F_38:FnOk P w K mg base CX0 4 A.a_38 A.f_38 ["_law_tape_here","_law_most"] (liftSpC K sp_38))
    (F_28:FnOk P w K mg base CX0 1 A.a_28 A.f_28 ["_law_script"] (liftSpN K sp_28))
    (F_39:FnOk P w K mg base CX0 8 A.a_39 A.f_39 ["_law_tape_here","_law_form_here","_law_deep"] (liftSpC K sp_39))
    (F_25:FnOk P w K mg base CX0 59 A.a_25 A.f_25 ["form","tree","rows"] (liftSpF K sp_25)):FnOk P w K mg base CX0 60 A.a_law A.f_law ["_law_script"] (liftSp K sp_law):=by
  refine fnT T.F_law sc_law (fun ds Q h=>by obtain ⟨ns,rfl,hl63,h⟩:=h; rfl) fun cdv Ar outer s H E hr ds Q h=>?_
  obtain ⟨ns,rfl,hl63,h⟩:=h
  have nd:=sc_law.nd
  refine ⟨_,(st_tape (i:=1) F_28 (et_v 0) rfl (fun h=>ps_set (i:=1) nd rfl (by first | exact Or.inl rfl | exact Or.inr rfl) (pe_call F_28 (hr.mono (by decide)) rfl T.m_28 T.k_28 T.d_28 .nil pass0 h)) (sc_cons (sc_unp (ec_call F_38 T.m_38 T.k_38 T.d_38 (hr.mono (by decide)) (ac_cons (ec_p (et_v 1)) (ac_cons (ec_p et_int) ac_nil)) (fun h=>pe_call F_38 (hr.mono (by decide)) rfl T.m_38 T.k_38 T.d_38 .nil pass0 h)) (gt_pair (pg_tup rfl (pgs_cons (pg_name (i:=2) nd rfl (by first | exact Or.inl rfl | exact Or.inr rfl)) (pgs_cons (pg_name (i:=3) nd rfl (by first | exact Or.inl rfl | exact Or.inr rfl)) pgs_nil)))) (fun he hg=>ps_asg he hg))
  (sc_cons (sc_set (i:=4) (ec_call F_39 T.m_39 T.k_39 T.d_39 (hr.mono (by decide)) (ac_cons (ec_p (et_v 1)) (ac_cons (ec_p (et_v 2)) (ac_cons (ec_p et_int) ac_nil))) (fun h=>pe_call F_39 (hr.mono (by decide)) rfl T.m_39 T.k_39 T.d_39 .nil pass0 h)) (fun h=>ps_set (i:=4) nd rfl (by first | exact Or.inl rfl | exact Or.inr rfl) h))
  (sc_cons (sc_if (tc_cmp op_eq o_eq (ec_call F_29 T.m_29 T.k_29 T.d_29 (hr.mono (by decide)) (ac_cons (ec_p (et_v 1)) (ac_cons (ec_p et_int) ac_nil)) (fun h=>pe_call F_29 (hr.mono (by decide)) rfl T.m_29 T.k_29 T.d_29 .nil pass0 h)) (ec_p et_int))
  (sc_one (sc_set (i:=4) (ec_call F_45 T.m_45 T.k_45 T.d_45 (hr.mono (by decide)) (ac_cons (ec_p (et_v 1)) (ac_cons (ec_p (et_v 2)) (ac_cons (ec_op op_addAny o_add (ec_p et_int) (ec_call F_29 T.m_29 T.k_29 T.d_29 (hr.mono (by decide)) (ac_cons (ec_p (et_v 1)) (ac_cons (ec_p et_int) ac_nil)) (fun h=>pe_call F_29 (hr.mono (by decide)) rfl T.m_29 T.k_29 T.d_29 .nil pass0 h))) ac_nil))) (fun h=>pe_call F_45 (hr.mono (by decide)) rfl T.m_45 T.k_45 T.d_45 .nil pass0 h)) (fun h=>ps_set (i:=4) nd rfl (by first | exact Or.inl rfl | exact Or.inr rfl) h)))
  sc_nil)
  (sc_cons (sc_p (st_set (i:=5) (et_cb c_list (at_cons (et_v 3) at_nil) (fun h=>pe_callTy call_list_of rfl T.b_list bl_list h)) (fun h=>ps_set (i:=5) nd rfl (by first | exact Or.inl rfl | exact Or.inr rfl) h)))
  (sc_cons (sc_p (st_setF (i:=6) (ft_call F_25 T.m_25 T.k_25 T.d_25 (hr.mono (by decide)) (at_cons (et_v 2) (at_cons (et_v 4) (at_cons (et_v 5) at_nil))) (fun h=>pe_call F_25 (hr.mono (by decide)) rfl T.m_25 T.k_25 T.d_25 .nil pass0 h)) (fun h=>ps_set (i:=6) nd rfl (by first | exact Or.inl rfl | exact Or.inr rfl) h)))
  (sc_cons (sc_p (st_if (tt_borrow 6 (tw_pt (tw_or (tt_cmp (op_neD hr) o_data (et_v 5) (et_v 3)) (tw_or1 (tt_not (tt_val (et_call F_46 T.m_46 T.k_46 T.d_46 (hr.mono (by decide)) (at_cons (et_v 2) (at_cons (et_v 4) (at_cons (et_v 3) (at_cons (et_v 6) at_nil)))) (fun h=>pe_call F_46 (hr.mono (by decide)) rfl T.m_46 T.k_46 T.d_46 .nil pass0 h)) (fun h=>pt_val h)))))))
  (st_one (st_ret et_bl))
  st_nil))
  (sc_cons (sc_p (st_set (i:=7) (et_listOwn (i:=6) (pv 6) (pc:=fun h=>pe_callTy call_list_of rfl T.b_list bl_list h)) (fun h=>ps_set (i:=7) nd rfl (by first | exact Or.inl rfl | exact Or.inr rfl) h)))
  (sc_cons (sc_p (st_clear (i:=6) (ps_expr (pe_bm0 PySem.F.plainAttrs_list PySem.F.slot_list_clear PySem.F.type_list_clear mt_clear (pv 6)))))
  (sc_one (sc_p (st_ret (et_cmp op_eq o_eq (et_cb c_repr (at_cons (et_fr (ft_call F_25 T.m_25 T.k_25 T.d_25 (hr.mono (by decide)) (at_cons (et_v 2) (at_cons (et_v 4) (at_cons (et_v 5) at_nil))) (fun h=>pe_call F_25 (hr.mono (by decide)) rfl T.m_25 T.k_25 T.d_25 .nil pass0 h))) at_nil) (fun h=>pe_callB (call_reprT hr) rfl T.b_repr bl_repr h)) (et_cb c_repr (at_cons (et_v 7) at_nil) (fun h=>pe_callB (call_reprT hr) rfl T.b_repr bl_repr h))))))))))))))),?_⟩
  show sTape _ _ _ _ [.val (.list (ns.map PyData.int)),.un,.un,.un,.un,.un,.un,.un]
  refine ⟨_,rfl,ns,rfl,fun Tp _ _=>?_⟩
  show cSeq _ _ _ _ _ [.val (.list (ns.map PyData.int)),.val (tpD Tp),.un,.un,.un,.un,.un,.un]
  refine cq_unpR (fun m d=>m≤1000∧∃ fs an rs,Form fs an∧RowsOk fs an rs∧rs.length≤60∧d=.tuple [frmD fs an,.list (rs.map rowD)]) (fun q hq=>⟨_,rfl,_,rfl,60,rfl,by decide,by decide,by decide,fun n' fs an rs hn F hrs hl=>hq _ _ ⟨by omega,fs,an,rs,F,hrs,hl,rfl⟩⟩) ?_
  rintro c1 _ ⟨hc1,fs,an,rs,F,hrs,hl,rfl⟩
  refine ⟨_,_,rfl,?_⟩
  obtain ⟨fa,hfa⟩:=fa_ex F
  have hTr:=th_rows F hrs hl
  have hTd:=hTr.depth
  have t3:tCost 3=90:=rfl
  have b3:pB 3=26:=rfl
  refine cq_setR (fun m' d=>m'≤2000∧∃ t,TrOk fs an t∧t.dep≤3∧d=trD t) (fun q hq=>⟨_,rfl,_,rfl,_,rfl,fs,an,3,rfl,F,by decide,by rw [t3]; omega,fun n' t hn ht htd=>hq _ _ ⟨by rw [t3] at hn; omega,t,ht,htd,rfl⟩⟩) ?_
  rintro m1 _ ⟨hm1,t,ht,htd,rfl⟩
  have hk7:t.kn≤7:=by
    have h1:=t.kn_dep
    have h2:2 ^ t.dep≤2 ^ 3:=Nat.pow_le_pow_right (by decide) htd
    omega
  have hp26:=pc_dep t 3 htd
  rw [b3] at hp26
  refine cq_ifset True (fun m'=>m'≤2001) (fun d=>∃ t,TrOk fs an t∧t.dep≤12∧t.kn≤12∧pc t≤30∧d=trD t) (fun q hq=>⟨_,rfl,_,rfl,8,rfl,by decide,by decide,by omega,fun r h0 h1=>hq _ _ (by omega) fun _=>trivial⟩) _ rfl ⟨t,ht,by omega,by omega,by omega,rfl⟩ (fun m'=>m'≤3000) (fun _ z=>by omega) (fun m3 hm3 _ q hq=>⟨_,rfl,_,rfl,_,rfl,_,rfl,12,rfl,by decide,by decide,by omega,fun r h0 h1=>?_⟩) ?_
  · obtain ⟨w,rfl⟩:=natOf h0
    exact ⟨_,rfl,fs,an,1 + w,rfl,F,by omega,by omega,fun n' t hn g1 g2 g3 g4=>hq _ _ (by omega) ⟨t,g1,g2,g3,by omega,rfl⟩⟩
  rintro m4 _ hm4 ⟨U,hU,hUd,hUk,hUp,rfl⟩
  refine cq_pure (seq_set (.list (rs.map rowD)) (fun q hq=>⟨_,rfl,hq⟩) ?_)
  refine cq_pure (seq_setFM ((stepsT fs fa U rs).map stD) (fun q hq=>⟨_,rfl,_,rfl,_,rfl,fs,an,fa,U,rs,rfl,F,hfa,hU,hUd,hUk,hrs,hl,hq⟩) ?_)
  have e2:PyData.eqv (.list (rs.map rowD)) (.list (rs.map rowD))=true:=PySem.SeqAt.eqv_refl _ hTr.lay
  refine cq_pure (seq_if (fun z=>z=false) (fun q hq=>⟨_,rfl,_,rfl,_,rfl,⟨hTr.lay,hTr.lay,by omega⟩,?_⟩) (fun hT=>by cases hT) fun _=>?_)
  · show (if (!PyData.eqv (.list (rs.map rowD)) (.list (rs.map rowD)))=true then q true else _)
    rw [e2,if_neg (by decide)]
    exact ⟨_,rfl,_,rfl,_,rfl,_,rfl,fs,an,fa,U,rs,rfl,F,hfa,hU,hUd,hUk,hUp,hrs,hl,hq _ rfl⟩
  try unfold sNext
  dsimp only
  have hlen:(stepsT fs fa U rs).length≤13:=by
    have h1:=steps_len (fs:=fs) (fa:=fa) rs (lw fs fa 1 0 U rs).2.kn (0,1) (lw fs fa 1 0 U rs).2
    have h2:=(lw_kn (fs:=fs) (fa:=fa) 1 0 U rs).1
    exact Nat.le_trans h1 (by omega)
  obtain ⟨hOk,_,_⟩:=ch_at (steps_okT (fs:=fs) (fa:=fa) hUk hl)
  have hTh:∀ d ∈ (stepsT fs fa U rs).map stD,Th 2000 15 d:=fun d hd=>by
    obtain ⟨x,hx,rfl⟩:=List.mem_map.mp hd
    obtain ⟨j,hj⟩:=List.getElem?_of_mem hx
    have ok:=hOk j x hj
    have o1:=(lw_ok hfa (x.1.2:Nat) (x.1.1:Nat) U rs hU hrs).1
    have d1:=lw_dep (fs:=fs) (fa:=fa) (x.1.2:Nat) (x.1.1:Nat) U rs
    have k1:=(lw_kn (fs:=fs) (fa:=fa) (x.1.2:Nat) (x.1.1:Nat) U rs).1
    rw [← ok.tr] at o1 d1 k1
    have p1:=ok.p1
    have q1:=ok.q1
    have i1:Th 900 13 (.tuple [.int (x.1.1:Nat),.int (x.1.2:Nat)]):=th_tup 0 0 2 (all_cons (th_nat (by omega)) (all_cons (th_nat (by omega)) all_nil)) (Nat.le_of_ble_eq_true rfl) (by decide) (by decide)
    have i2:Th 900 13 (trD x.2):=(th_tree F _ o1).mono (by omega) (by omega)
    exact th_tup 900 13 2 (all_cons i1 (all_cons i2 all_nil)) (Nat.le_of_ble_eq_true rfl) (by decide) (by decide)
  have hT:Thing (.list ((stepsT fs fa U rs).map stD)):=th_lst 2000 15 13 hTh (by rw [List.length_map]; exact hlen) (by decide) (by decide)
  have hTs:=thing_shown hT
  have hdp:=hT.depth
  refine cq_pure (seq_set (.list ((stepsT fs fa U rs).map stD)) (fun q hq=>⟨_,rfl,hq⟩) ?_)
  refine cq_pure (show sSeq (sClear _) _ _ _ from ⟨_,rfl,?_⟩)
  dsimp only
  refine ⟨_,rfl,_,rfl,_,rfl,fs,an,fa,U,rs,rfl,F,hfa,hU,hUd,hUk,hrs,hl,hT.shw,hT.nodict,by omega,hTs,_,rfl,hT.shw,hT.nodict,by omega,hTs,?_⟩
  show Q (.bool (decide ((PyData.list ((stepsT fs fa U rs).map stD)).shown=(PyData.list ((stepsT fs fa U rs).map stD)).shown)))
  rw [decide_eq_true rfl]; exact h

theorem len1 {α:Type} {P:List α→Prop} (h:∀ a0,P [a0]):∀ us:List α,us.length=1→P us
  | [a0],_=>h a0
theorem len2 {α:Type} {P:List α→Prop} (h:∀ a0 a1,P [a0,a1]):∀ us:List α,us.length=2→P us
  | [a0,a1],_=>h a0 a1
theorem len3 {α:Type} {P:List α→Prop} (h:∀ a0 a1 a2,P [a0,a1,a2]):∀ us:List α,us.length=3→P us
  | [a0,a1,a2],_=>h a0 a1 a2
theorem len4 {α:Type} {P:List α→Prop} (h:∀ a0 a1 a2 a3,P [a0,a1,a2,a3]):∀ us:List α,us.length=4→P us
  | [a0,a1,a2,a3],_=>h a0 a1 a2 a3
set_option maxHeartbeats 4000000 in
theorem all_mk {l:PySem.W.OpenLaw} {w:World} {K:PySem.W.Frag} {h:Heap} {mg:Str→Option Value} {fa:Addr} (X:K.In h) (G:h.Ns mainGlobals mg) (hfa:mg "law"=some (.ref fa))
    {f_0:Addr} {od_0 an_0:Option Addr} {sl_0:Array (Option Value)} {oc_0 kV_0 dc_0 pm_0 cd_0 ct_0:Value}
    (a_0:PySem.W.nsIn K mainGlobals "counted"=some (some (.ref f_0))) (l_0:K.lookup f_0=some ⟨oc_0,od_0,.func (PySem.W.fnOf "counted" "counted" (defArgs (top 1)) (defBody (top 1)) (defScope (top 1)) .none kV_0 dc_0 pm_0 an_0 cd_0 ct_0),sl_0⟩) (c_0:PySem.W.codeIn K cd_0 "counted"=true) (k_0:PySem.W.keepIn K (.ref f_0)=true)
    {f_1:Addr} {od_1 an_1:Option Addr} {sl_1:Array (Option Value)} {oc_1 kV_1 dc_1 pm_1 cd_1 ct_1:Value}
    (a_1:PySem.W.nsIn K mainGlobals "first_answer"=some (some (.ref f_1))) (l_1:K.lookup f_1=some ⟨oc_1,od_1,.func (PySem.W.fnOf "first_answer" "first_answer" (defArgs (top 2)) (defBody (top 2)) (defScope (top 2)) .none kV_1 dc_1 pm_1 an_1 cd_1 ct_1),sl_1⟩) (c_1:PySem.W.codeIn K cd_1 "first_answer"=true) (k_1:PySem.W.keepIn K (.ref f_1)=true)
    {f_2:Addr} {od_2 an_2:Option Addr} {sl_2:Array (Option Value)} {oc_2 kV_2 dc_2 pm_2 cd_2 ct_2:Value}
    (a_2:PySem.W.nsIn K mainGlobals "fraction"=some (some (.ref f_2))) (l_2:K.lookup f_2=some ⟨oc_2,od_2,.func (PySem.W.fnOf "fraction" "fraction" (defArgs (top 3)) (defBody (top 3)) (defScope (top 3)) .none kV_2 dc_2 pm_2 an_2 cd_2 ct_2),sl_2⟩) (c_2:PySem.W.codeIn K cd_2 "fraction"=true) (k_2:PySem.W.keepIn K (.ref f_2)=true)
    {f_3:Addr} {od_3 an_3:Option Addr} {sl_3:Array (Option Value)} {oc_3 kV_3 dc_3 pm_3 cd_3 ct_3:Value}
    (a_3:PySem.W.nsIn K mainGlobals "common_divisor"=some (some (.ref f_3))) (l_3:K.lookup f_3=some ⟨oc_3,od_3,.func (PySem.W.fnOf "common_divisor" "common_divisor" (defArgs (top 4)) (defBody (top 4)) (defScope (top 4)) .none kV_3 dc_3 pm_3 an_3 cd_3 ct_3),sl_3⟩) (c_3:PySem.W.codeIn K cd_3 "common_divisor"=true) (k_3:PySem.W.keepIn K (.ref f_3)=true)
    {f_4:Addr} {od_4 an_4:Option Addr} {sl_4:Array (Option Value)} {oc_4 kV_4 dc_4 pm_4 cd_4 ct_4:Value}
    (a_4:PySem.W.nsIn K mainGlobals "is_less"=some (some (.ref f_4))) (l_4:K.lookup f_4=some ⟨oc_4,od_4,.func (PySem.W.fnOf "is_less" "is_less" (defArgs (top 5)) (defBody (top 5)) (defScope (top 5)) .none kV_4 dc_4 pm_4 an_4 cd_4 ct_4),sl_4⟩) (c_4:PySem.W.codeIn K cd_4 "is_less"=true) (k_4:PySem.W.keepIn K (.ref f_4)=true)
    {f_5:Addr} {od_5 an_5:Option Addr} {sl_5:Array (Option Value)} {oc_5 kV_5 dc_5 pm_5 cd_5 ct_5:Value}
    (a_5:PySem.W.nsIn K mainGlobals "side_of"=some (some (.ref f_5))) (l_5:K.lookup f_5=some ⟨oc_5,od_5,.func (PySem.W.fnOf "side_of" "side_of" (defArgs (top 8)) (defBody (top 8)) (defScope (top 8)) .none kV_5 dc_5 pm_5 an_5 cd_5 ct_5),sl_5⟩) (c_5:PySem.W.codeIn K cd_5 "side_of"=true) (k_5:PySem.W.keepIn K (.ref f_5)=true)
    {f_6:Addr} {od_6 an_6:Option Addr} {sl_6:Array (Option Value)} {oc_6 kV_6 dc_6 pm_6 cd_6 ct_6:Value}
    (a_6:PySem.W.nsIn K mainGlobals "field_asked"=some (some (.ref f_6))) (l_6:K.lookup f_6=some ⟨oc_6,od_6,.func (PySem.W.fnOf "field_asked" "field_asked" (defArgs (top 9)) (defBody (top 9)) (defScope (top 9)) .none kV_6 dc_6 pm_6 an_6 cd_6 ct_6),sl_6⟩) (c_6:PySem.W.codeIn K cd_6 "field_asked"=true) (k_6:PySem.W.keepIn K (.ref f_6)=true)
    {f_7:Addr} {od_7 an_7:Option Addr} {sl_7:Array (Option Value)} {oc_7 kV_7 dc_7 pm_7 cd_7 ct_7:Value}
    (a_7:PySem.W.nsIn K mainGlobals "entries_to_yes"=some (some (.ref f_7))) (l_7:K.lookup f_7=some ⟨oc_7,od_7,.func (PySem.W.fnOf "entries_to_yes" "entries_to_yes" (defArgs (top 10)) (defBody (top 10)) (defScope (top 10)) .none kV_7 dc_7 pm_7 an_7 cd_7 ct_7),sl_7⟩) (c_7:PySem.W.codeIn K cd_7 "entries_to_yes"=true) (k_7:PySem.W.keepIn K (.ref f_7)=true)
    {f_8:Addr} {od_8 an_8:Option Addr} {sl_8:Array (Option Value)} {oc_8 kV_8 dc_8 pm_8 cd_8 ct_8:Value}
    (a_8:PySem.W.nsIn K mainGlobals "values_held"=some (some (.ref f_8))) (l_8:K.lookup f_8=some ⟨oc_8,od_8,.func (PySem.W.fnOf "values_held" "values_held" (defArgs (top 11)) (defBody (top 11)) (defScope (top 11)) .none kV_8 dc_8 pm_8 an_8 cd_8 ct_8),sl_8⟩) (c_8:PySem.W.codeIn K cd_8 "values_held"=true) (k_8:PySem.W.keepIn K (.ref f_8)=true)
    {f_9:Addr} {od_9 an_9:Option Addr} {sl_9:Array (Option Value)} {oc_9 kV_9 dc_9 pm_9 cd_9 ct_9:Value}
    (a_9:PySem.W.nsIn K mainGlobals "parted"=some (some (.ref f_9))) (l_9:K.lookup f_9=some ⟨oc_9,od_9,.func (PySem.W.fnOf "parted" "parted" (defArgs (top 12)) (defBody (top 12)) (defScope (top 12)) .none kV_9 dc_9 pm_9 an_9 cd_9 ct_9),sl_9⟩) (c_9:PySem.W.codeIn K cd_9 "parted"=true) (k_9:PySem.W.keepIn K (.ref f_9)=true)
    {f_10:Addr} {od_10 an_10:Option Addr} {sl_10:Array (Option Value)} {oc_10 kV_10 dc_10 pm_10 cd_10 ct_10:Value}
    (a_10:PySem.W.nsIn K mainGlobals "numbers_on"=some (some (.ref f_10))) (l_10:K.lookup f_10=some ⟨oc_10,od_10,.func (PySem.W.fnOf "numbers_on" "numbers_on" (defArgs (top 13)) (defBody (top 13)) (defScope (top 13)) .none kV_10 dc_10 pm_10 an_10 cd_10 ct_10),sl_10⟩) (c_10:PySem.W.codeIn K cd_10 "numbers_on"=true) (k_10:PySem.W.keepIn K (.ref f_10)=true)
    {f_11:Addr} {od_11 an_11:Option Addr} {sl_11:Array (Option Value)} {oc_11 kV_11 dc_11 pm_11 cd_11 ct_11:Value}
    (a_11:PySem.W.nsIn K mainGlobals "rows_at"=some (some (.ref f_11))) (l_11:K.lookup f_11=some ⟨oc_11,od_11,.func (PySem.W.fnOf "rows_at" "rows_at" (defArgs (top 15)) (defBody (top 15)) (defScope (top 15)) .none kV_11 dc_11 pm_11 an_11 cd_11 ct_11),sl_11⟩) (c_11:PySem.W.codeIn K cd_11 "rows_at"=true) (k_11:PySem.W.keepIn K (.ref f_11)=true)
    {f_12:Addr} {od_12 an_12:Option Addr} {sl_12:Array (Option Value)} {oc_12 kV_12 dc_12 pm_12 cd_12 ct_12:Value}
    (a_12:PySem.W.nsIn K mainGlobals "is_leaf"=some (some (.ref f_12))) (l_12:K.lookup f_12=some ⟨oc_12,od_12,.func (PySem.W.fnOf "is_leaf" "is_leaf" (defArgs (top 20)) (defBody (top 20)) (defScope (top 20)) .none kV_12 dc_12 pm_12 an_12 cd_12 ct_12),sl_12⟩) (c_12:PySem.W.codeIn K cd_12 "is_leaf"=true) (k_12:PySem.W.keepIn K (.ref f_12)=true)
    {f_13:Addr} {od_13 an_13:Option Addr} {sl_13:Array (Option Value)} {oc_13 kV_13 dc_13 pm_13 cd_13 ct_13:Value}
    (a_13:PySem.W.nsIn K mainGlobals "on_side"=some (some (.ref f_13))) (l_13:K.lookup f_13=some ⟨oc_13,od_13,.func (PySem.W.fnOf "on_side" "on_side" (defArgs (top 21)) (defBody (top 21)) (defScope (top 21)) .none kV_13 dc_13 pm_13 an_13 cd_13 ct_13),sl_13⟩) (c_13:PySem.W.codeIn K cd_13 "on_side"=true) (k_13:PySem.W.keepIn K (.ref f_13)=true)
    {f_14:Addr} {od_14 an_14:Option Addr} {sl_14:Array (Option Value)} {oc_14 kV_14 dc_14 pm_14 cd_14 ct_14:Value}
    (a_14:PySem.W.nsIn K mainGlobals "knots_in"=some (some (.ref f_14))) (l_14:K.lookup f_14=some ⟨oc_14,od_14,.func (PySem.W.fnOf "knots_in" "knots_in" (defArgs (top 22)) (defBody (top 22)) (defScope (top 22)) .none kV_14 dc_14 pm_14 an_14 cd_14 ct_14),sl_14⟩) (c_14:PySem.W.codeIn K cd_14 "knots_in"=true) (k_14:PySem.W.keepIn K (.ref f_14)=true)
    {f_15:Addr} {od_15 an_15:Option Addr} {sl_15:Array (Option Value)} {oc_15 kV_15 dc_15 pm_15 cd_15 ct_15:Value}
    (a_15:PySem.W.nsIn K mainGlobals "way_of"=some (some (.ref f_15))) (l_15:K.lookup f_15=some ⟨oc_15,od_15,.func (PySem.W.fnOf "way_of" "way_of" (defArgs (top 23)) (defBody (top 23)) (defScope (top 23)) .none kV_15 dc_15 pm_15 an_15 cd_15 ct_15),sl_15⟩) (c_15:PySem.W.codeIn K cd_15 "way_of"=true) (k_15:PySem.W.keepIn K (.ref f_15)=true)
    {f_16:Addr} {od_16 an_16:Option Addr} {sl_16:Array (Option Value)} {oc_16 kV_16 dc_16 pm_16 cd_16 ct_16:Value}
    (a_16:PySem.W.nsIn K mainGlobals "sides_of_way"=some (some (.ref f_16))) (l_16:K.lookup f_16=some ⟨oc_16,od_16,.func (PySem.W.fnOf "sides_of_way" "sides_of_way" (defArgs (top 24)) (defBody (top 24)) (defScope (top 24)) .none kV_16 dc_16 pm_16 an_16 cd_16 ct_16),sl_16⟩) (c_16:PySem.W.codeIn K cd_16 "sides_of_way"=true) (k_16:PySem.W.keepIn K (.ref f_16)=true)
    {f_17:Addr} {od_17 an_17:Option Addr} {sl_17:Array (Option Value)} {oc_17 kV_17 dc_17 pm_17 cd_17 ct_17:Value}
    (a_17:PySem.W.nsIn K mainGlobals "answer_of"=some (some (.ref f_17))) (l_17:K.lookup f_17=some ⟨oc_17,od_17,.func (PySem.W.fnOf "answer_of" "answer_of" (defArgs (top 25)) (defBody (top 25)) (defScope (top 25)) .none kV_17 dc_17 pm_17 an_17 cd_17 ct_17),sl_17⟩) (c_17:PySem.W.codeIn K cd_17 "answer_of"=true) (k_17:PySem.W.keepIn K (.ref f_17)=true)
    {f_18:Addr} {od_18 an_18:Option Addr} {sl_18:Array (Option Value)} {oc_18 kV_18 dc_18 pm_18 cd_18 ct_18:Value}
    (a_18:PySem.W.nsIn K mainGlobals "part_at"=some (some (.ref f_18))) (l_18:K.lookup f_18=some ⟨oc_18,od_18,.func (PySem.W.fnOf "part_at" "part_at" (defArgs (top 26)) (defBody (top 26)) (defScope (top 26)) .none kV_18 dc_18 pm_18 an_18 cd_18 ct_18),sl_18⟩) (c_18:PySem.W.codeIn K cd_18 "part_at"=true) (k_18:PySem.W.keepIn K (.ref f_18)=true)
    {f_19:Addr} {od_19 an_19:Option Addr} {sl_19:Array (Option Value)} {oc_19 kV_19 dc_19 pm_19 cd_19 ct_19:Value}
    (a_19:PySem.W.nsIn K mainGlobals "cost_of"=some (some (.ref f_19))) (l_19:K.lookup f_19=some ⟨oc_19,od_19,.func (PySem.W.fnOf "cost_of" "cost_of" (defArgs (top 28)) (defBody (top 28)) (defScope (top 28)) .none kV_19 dc_19 pm_19 an_19 cd_19 ct_19),sl_19⟩) (c_19:PySem.W.codeIn K cd_19 "cost_of"=true) (k_19:PySem.W.keepIn K (.ref f_19)=true)
    {f_20:Addr} {od_20 an_20:Option Addr} {sl_20:Array (Option Value)} {oc_20 kV_20 dc_20 pm_20 cd_20 ct_20:Value}
    (a_20:PySem.W.nsIn K mainGlobals "first_leaf"=some (some (.ref f_20))) (l_20:K.lookup f_20=some ⟨oc_20,od_20,.func (PySem.W.fnOf "first_leaf" "first_leaf" (defArgs (top 30)) (defBody (top 30)) (defScope (top 30)) .none kV_20 dc_20 pm_20 an_20 cd_20 ct_20),sl_20⟩) (c_20:PySem.W.codeIn K cd_20 "first_leaf"=true) (k_20:PySem.W.keepIn K (.ref f_20)=true)
    {f_21:Addr} {od_21 an_21:Option Addr} {sl_21:Array (Option Value)} {oc_21 kV_21 dc_21 pm_21 cd_21 ct_21:Value}
    (a_21:PySem.W.nsIn K mainGlobals "rows_on_sides"=some (some (.ref f_21))) (l_21:K.lookup f_21=some ⟨oc_21,od_21,.func (PySem.W.fnOf "rows_on_sides" "rows_on_sides" (defArgs (top 31)) (defBody (top 31)) (defScope (top 31)) .none kV_21 dc_21 pm_21 an_21 cd_21 ct_21),sl_21⟩) (c_21:PySem.W.codeIn K cd_21 "rows_on_sides"=true) (k_21:PySem.W.keepIn K (.ref f_21)=true)
    {f_22:Addr} {od_22 an_22:Option Addr} {sl_22:Array (Option Value)} {oc_22 kV_22 dc_22 pm_22 cd_22 ct_22:Value}
    (a_22:PySem.W.nsIn K mainGlobals "prices_at"=some (some (.ref f_22))) (l_22:K.lookup f_22=some ⟨oc_22,od_22,.func (PySem.W.fnOf "prices_at" "prices_at" (defArgs (top 32)) (defBody (top 32)) (defScope (top 32)) .none kV_22 dc_22 pm_22 an_22 cd_22 ct_22),sl_22⟩) (c_22:PySem.W.codeIn K cd_22 "prices_at"=true) (k_22:PySem.W.keepIn K (.ref f_22)=true)
    {f_23:Addr} {od_23 an_23:Option Addr} {sl_23:Array (Option Value)} {oc_23 kV_23 dc_23 pm_23 cd_23 ct_23:Value}
    (a_23:PySem.W.nsIn K mainGlobals "least_pruning"=some (some (.ref f_23))) (l_23:K.lookup f_23=some ⟨oc_23,od_23,.func (PySem.W.fnOf "least_pruning" "least_pruning" (defArgs (top 33)) (defBody (top 33)) (defScope (top 33)) .none kV_23 dc_23 pm_23 an_23 cd_23 ct_23),sl_23⟩) (c_23:PySem.W.codeIn K cd_23 "least_pruning"=true) (k_23:PySem.W.keepIn K (.ref f_23)=true)
    {f_24:Addr} {od_24 an_24:Option Addr} {sl_24:Array (Option Value)} {oc_24 kV_24 dc_24 pm_24 cd_24 ct_24:Value}
    (a_24:PySem.W.nsIn K mainGlobals "least_with_cost"=some (some (.ref f_24))) (l_24:K.lookup f_24=some ⟨oc_24,od_24,.func (PySem.W.fnOf "least_with_cost" "least_with_cost" (defArgs (top 34)) (defBody (top 34)) (defScope (top 34)) .none kV_24 dc_24 pm_24 an_24 cd_24 ct_24),sl_24⟩) (c_24:PySem.W.codeIn K cd_24 "least_with_cost"=true) (k_24:PySem.W.keepIn K (.ref f_24)=true)
    {f_25:Addr} {od_25 an_25:Option Addr} {sl_25:Array (Option Value)} {oc_25 kV_25 dc_25 pm_25 cd_25 ct_25:Value}
    (a_25:PySem.W.nsIn K mainGlobals "steps"=some (some (.ref f_25))) (l_25:K.lookup f_25=some ⟨oc_25,od_25,.func (PySem.W.fnOf "steps" "steps" (defArgs (top 35)) (defBody (top 35)) (defScope (top 35)) .none kV_25 dc_25 pm_25 an_25 cd_25 ct_25),sl_25⟩) (c_25:PySem.W.codeIn K cd_25 "steps"=true) (k_25:PySem.W.keepIn K (.ref f_25)=true)
    {f_26:Addr} {od_26 an_26:Option Addr} {sl_26:Array (Option Value)} {oc_26 kV_26 dc_26 pm_26 cd_26 ct_26:Value}
    (a_26:PySem.W.nsIn K mainGlobals "next_price"=some (some (.ref f_26))) (l_26:K.lookup f_26=some ⟨oc_26,od_26,.func (PySem.W.fnOf "next_price" "next_price" (defArgs (top 36)) (defBody (top 36)) (defScope (top 36)) .none kV_26 dc_26 pm_26 an_26 cd_26 ct_26),sl_26⟩) (c_26:PySem.W.codeIn K cd_26 "next_price"=true) (k_26:PySem.W.keepIn K (.ref f_26)=true)
    {f_27:Addr} {od_27 an_27:Option Addr} {sl_27:Array (Option Value)} {oc_27 kV_27 dc_27 pm_27 cd_27 ct_27:Value}
    (a_27:PySem.W.nsIn K mainGlobals "slips_and_prices"=some (some (.ref f_27))) (l_27:K.lookup f_27=some ⟨oc_27,od_27,.func (PySem.W.fnOf "slips_and_prices" "slips_and_prices" (defArgs (top 37)) (defBody (top 37)) (defScope (top 37)) .none kV_27 dc_27 pm_27 an_27 cd_27 ct_27),sl_27⟩) (c_27:PySem.W.codeIn K cd_27 "slips_and_prices"=true) (k_27:PySem.W.keepIn K (.ref f_27)=true)
    {f_28:Addr} {od_28 an_28:Option Addr} {sl_28:Array (Option Value)} {oc_28 kV_28 dc_28 pm_28 cd_28 ct_28:Value}
    (a_28:PySem.W.nsIn K mainGlobals "_law_tape"=some (some (.ref f_28))) (l_28:K.lookup f_28=some ⟨oc_28,od_28,.func (PySem.W.fnOf "_law_tape" "_law_tape" (defArgs (top 39)) (defBody (top 39)) (defScope (top 39)) .none kV_28 dc_28 pm_28 an_28 cd_28 ct_28),sl_28⟩) (c_28:PySem.W.codeIn K cd_28 "_law_tape"=true) (k_28:PySem.W.keepIn K (.ref f_28)=true)
    {f_29:Addr} {od_29 an_29:Option Addr} {sl_29:Array (Option Value)} {oc_29 kV_29 dc_29 pm_29 cd_29 ct_29:Value}
    (a_29:PySem.W.nsIn K mainGlobals "_law_draw"=some (some (.ref f_29))) (l_29:K.lookup f_29=some ⟨oc_29,od_29,.func (PySem.W.fnOf "_law_draw" "_law_draw" (defArgs (top 40)) (defBody (top 40)) (defScope (top 40)) .none kV_29 dc_29 pm_29 an_29 cd_29 ct_29),sl_29⟩) (c_29:PySem.W.codeIn K cd_29 "_law_draw"=true) (k_29:PySem.W.keepIn K (.ref f_29)=true)
    {f_30:Addr} {od_30 an_30:Option Addr} {sl_30:Array (Option Value)} {oc_30 kV_30 dc_30 pm_30 cd_30 ct_30:Value}
    (a_30:PySem.W.nsIn K mainGlobals "_law_names"=some (some (.ref f_30))) (l_30:K.lookup f_30=some ⟨oc_30,od_30,.func (PySem.W.fnOf "_law_names" "_law_names" (defArgs (top 41)) (defBody (top 41)) (defScope (top 41)) .none kV_30 dc_30 pm_30 an_30 cd_30 ct_30),sl_30⟩) (c_30:PySem.W.codeIn K cd_30 "_law_names"=true) (k_30:PySem.W.keepIn K (.ref f_30)=true)
    {f_31:Addr} {od_31 an_31:Option Addr} {sl_31:Array (Option Value)} {oc_31 kV_31 dc_31 pm_31 cd_31 ct_31:Value}
    (a_31:PySem.W.nsIn K mainGlobals "_law_form"=some (some (.ref f_31))) (l_31:K.lookup f_31=some ⟨oc_31,od_31,.func (PySem.W.fnOf "_law_form" "_law_form" (defArgs (top 42)) (defBody (top 42)) (defScope (top 42)) .none kV_31 dc_31 pm_31 an_31 cd_31 ct_31),sl_31⟩) (c_31:PySem.W.codeIn K cd_31 "_law_form"=true) (k_31:PySem.W.keepIn K (.ref f_31)=true)
    {f_32:Addr} {od_32 an_32:Option Addr} {sl_32:Array (Option Value)} {oc_32 kV_32 dc_32 pm_32 cd_32 ct_32:Value}
    (a_32:PySem.W.nsIn K mainGlobals "_law_case"=some (some (.ref f_32))) (l_32:K.lookup f_32=some ⟨oc_32,od_32,.func (PySem.W.fnOf "_law_case" "_law_case" (defArgs (top 43)) (defBody (top 43)) (defScope (top 43)) .none kV_32 dc_32 pm_32 an_32 cd_32 ct_32),sl_32⟩) (c_32:PySem.W.codeIn K cd_32 "_law_case"=true) (k_32:PySem.W.keepIn K (.ref f_32)=true)
    {f_33:Addr} {od_33 an_33:Option Addr} {sl_33:Array (Option Value)} {oc_33 kV_33 dc_33 pm_33 cd_33 ct_33:Value}
    (a_33:PySem.W.nsIn K mainGlobals "_law_rows"=some (some (.ref f_33))) (l_33:K.lookup f_33=some ⟨oc_33,od_33,.func (PySem.W.fnOf "_law_rows" "_law_rows" (defArgs (top 44)) (defBody (top 44)) (defScope (top 44)) .none kV_33 dc_33 pm_33 an_33 cd_33 ct_33),sl_33⟩) (c_33:PySem.W.codeIn K cd_33 "_law_rows"=true) (k_33:PySem.W.keepIn K (.ref f_33)=true)
    {f_34:Addr} {od_34 an_34:Option Addr} {sl_34:Array (Option Value)} {oc_34 kV_34 dc_34 pm_34 cd_34 ct_34:Value}
    (a_34:PySem.W.nsIn K mainGlobals "_law_side"=some (some (.ref f_34))) (l_34:K.lookup f_34=some ⟨oc_34,od_34,.func (PySem.W.fnOf "_law_side" "_law_side" (defArgs (top 45)) (defBody (top 45)) (defScope (top 45)) .none kV_34 dc_34 pm_34 an_34 cd_34 ct_34),sl_34⟩) (c_34:PySem.W.codeIn K cd_34 "_law_side"=true) (k_34:PySem.W.keepIn K (.ref f_34)=true)
    {f_35:Addr} {od_35 an_35:Option Addr} {sl_35:Array (Option Value)} {oc_35 kV_35 dc_35 pm_35 cd_35 ct_35:Value}
    (a_35:PySem.W.nsIn K mainGlobals "_law_parts"=some (some (.ref f_35))) (l_35:K.lookup f_35=some ⟨oc_35,od_35,.func (PySem.W.fnOf "_law_parts" "_law_parts" (defArgs (top 46)) (defBody (top 46)) (defScope (top 46)) .none kV_35 dc_35 pm_35 an_35 cd_35 ct_35),sl_35⟩) (c_35:PySem.W.codeIn K cd_35 "_law_parts"=true) (k_35:PySem.W.keepIn K (.ref f_35)=true)
    {f_36:Addr} {od_36 an_36:Option Addr} {sl_36:Array (Option Value)} {oc_36 kV_36 dc_36 pm_36 cd_36 ct_36:Value}
    (a_36:PySem.W.nsIn K mainGlobals "_law_counts"=some (some (.ref f_36))) (l_36:K.lookup f_36=some ⟨oc_36,od_36,.func (PySem.W.fnOf "_law_counts" "_law_counts" (defArgs (top 47)) (defBody (top 47)) (defScope (top 47)) .none kV_36 dc_36 pm_36 an_36 cd_36 ct_36),sl_36⟩) (c_36:PySem.W.codeIn K cd_36 "_law_counts"=true) (k_36:PySem.W.keepIn K (.ref f_36)=true)
    {f_37:Addr} {od_37 an_37:Option Addr} {sl_37:Array (Option Value)} {oc_37 kV_37 dc_37 pm_37 cd_37 ct_37:Value}
    (a_37:PySem.W.nsIn K mainGlobals "_law_first"=some (some (.ref f_37))) (l_37:K.lookup f_37=some ⟨oc_37,od_37,.func (PySem.W.fnOf "_law_first" "_law_first" (defArgs (top 48)) (defBody (top 48)) (defScope (top 48)) .none kV_37 dc_37 pm_37 an_37 cd_37 ct_37),sl_37⟩) (c_37:PySem.W.codeIn K cd_37 "_law_first"=true) (k_37:PySem.W.keepIn K (.ref f_37)=true)
    {f_38:Addr} {od_38 an_38:Option Addr} {sl_38:Array (Option Value)} {oc_38 kV_38 dc_38 pm_38 cd_38 ct_38:Value}
    (a_38:PySem.W.nsIn K mainGlobals "_law_sized"=some (some (.ref f_38))) (l_38:K.lookup f_38=some ⟨oc_38,od_38,.func (PySem.W.fnOf "_law_sized" "_law_sized" (defArgs (top 49)) (defBody (top 49)) (defScope (top 49)) .none kV_38 dc_38 pm_38 an_38 cd_38 ct_38),sl_38⟩) (c_38:PySem.W.codeIn K cd_38 "_law_sized"=true) (k_38:PySem.W.keepIn K (.ref f_38)=true)
    {f_39:Addr} {od_39 an_39:Option Addr} {sl_39:Array (Option Value)} {oc_39 kV_39 dc_39 pm_39 cd_39 ct_39:Value}
    (a_39:PySem.W.nsIn K mainGlobals "_law_tree"=some (some (.ref f_39))) (l_39:K.lookup f_39=some ⟨oc_39,od_39,.func (PySem.W.fnOf "_law_tree" "_law_tree" (defArgs (top 50)) (defBody (top 50)) (defScope (top 50)) .none kV_39 dc_39 pm_39 an_39 cd_39 ct_39),sl_39⟩) (c_39:PySem.W.codeIn K cd_39 "_law_tree"=true) (k_39:PySem.W.keepIn K (.ref f_39)=true)
    {f_40:Addr} {od_40 an_40:Option Addr} {sl_40:Array (Option Value)} {oc_40 kV_40 dc_40 pm_40 cd_40 ct_40:Value}
    (a_40:PySem.W.nsIn K mainGlobals "_law_knots"=some (some (.ref f_40))) (l_40:K.lookup f_40=some ⟨oc_40,od_40,.func (PySem.W.fnOf "_law_knots" "_law_knots" (defArgs (top 51)) (defBody (top 51)) (defScope (top 51)) .none kV_40 dc_40 pm_40 an_40 cd_40 ct_40),sl_40⟩) (c_40:PySem.W.codeIn K cd_40 "_law_knots"=true) (k_40:PySem.W.keepIn K (.ref f_40)=true)
    {f_41:Addr} {od_41 an_41:Option Addr} {sl_41:Array (Option Value)} {oc_41 kV_41 dc_41 pm_41 cd_41 ct_41:Value}
    (a_41:PySem.W.nsIn K mainGlobals "_law_prunings"=some (some (.ref f_41))) (l_41:K.lookup f_41=some ⟨oc_41,od_41,.func (PySem.W.fnOf "_law_prunings" "_law_prunings" (defArgs (top 52)) (defBody (top 52)) (defScope (top 52)) .none kV_41 dc_41 pm_41 an_41 cd_41 ct_41),sl_41⟩) (c_41:PySem.W.codeIn K cd_41 "_law_prunings"=true) (k_41:PySem.W.keepIn K (.ref f_41)=true)
    {f_42:Addr} {od_42 an_42:Option Addr} {sl_42:Array (Option Value)} {oc_42 kV_42 dc_42 pm_42 cd_42 ct_42:Value}
    (a_42:PySem.W.nsIn K mainGlobals "_law_divisor"=some (some (.ref f_42))) (l_42:K.lookup f_42=some ⟨oc_42,od_42,.func (PySem.W.fnOf "_law_divisor" "_law_divisor" (defArgs (top 53)) (defBody (top 53)) (defScope (top 53)) .none kV_42 dc_42 pm_42 an_42 cd_42 ct_42),sl_42⟩) (c_42:PySem.W.codeIn K cd_42 "_law_divisor"=true) (k_42:PySem.W.keepIn K (.ref f_42)=true)
    {f_43:Addr} {od_43 an_43:Option Addr} {sl_43:Array (Option Value)} {oc_43 kV_43 dc_43 pm_43 cd_43 ct_43:Value}
    (a_43:PySem.W.nsIn K mainGlobals "_law_is_fraction"=some (some (.ref f_43))) (l_43:K.lookup f_43=some ⟨oc_43,od_43,.func (PySem.W.fnOf "_law_is_fraction" "_law_is_fraction" (defArgs (top 54)) (defBody (top 54)) (defScope (top 54)) .none kV_43 dc_43 pm_43 an_43 cd_43 ct_43),sl_43⟩) (c_43:PySem.W.codeIn K cd_43 "_law_is_fraction"=true) (k_43:PySem.W.keepIn K (.ref f_43)=true)
    {f_44:Addr} {od_44 an_44:Option Addr} {sl_44:Array (Option Value)} {oc_44 kV_44 dc_44 pm_44 cd_44 ct_44:Value}
    (a_44:PySem.W.nsIn K mainGlobals "_law_least"=some (some (.ref f_44))) (l_44:K.lookup f_44=some ⟨oc_44,od_44,.func (PySem.W.fnOf "_law_least" "_law_least" (defArgs (top 55)) (defBody (top 55)) (defScope (top 55)) .none kV_44 dc_44 pm_44 an_44 cd_44 ct_44),sl_44⟩) (c_44:PySem.W.codeIn K cd_44 "_law_least"=true) (k_44:PySem.W.keepIn K (.ref f_44)=true)
    {f_45:Addr} {od_45 an_45:Option Addr} {sl_45:Array (Option Value)} {oc_45 kV_45 dc_45 pm_45 cd_45 ct_45:Value}
    (a_45:PySem.W.nsIn K mainGlobals "_law_chain"=some (some (.ref f_45))) (l_45:K.lookup f_45=some ⟨oc_45,od_45,.func (PySem.W.fnOf "_law_chain" "_law_chain" (defArgs (top 56)) (defBody (top 56)) (defScope (top 56)) .none kV_45 dc_45 pm_45 an_45 cd_45 ct_45),sl_45⟩) (c_45:PySem.W.codeIn K cd_45 "_law_chain"=true) (k_45:PySem.W.keepIn K (.ref f_45)=true)
    {f_46:Addr} {od_46 an_46:Option Addr} {sl_46:Array (Option Value)} {oc_46 kV_46 dc_46 pm_46 cd_46 ct_46:Value}
    (a_46:PySem.W.nsIn K mainGlobals "_law_right"=some (some (.ref f_46))) (l_46:K.lookup f_46=some ⟨oc_46,od_46,.func (PySem.W.fnOf "_law_right" "_law_right" (defArgs (top 57)) (defBody (top 57)) (defScope (top 57)) .none kV_46 dc_46 pm_46 an_46 cd_46 ct_46),sl_46⟩) (c_46:PySem.W.codeIn K cd_46 "_law_right"=true) (k_46:PySem.W.keepIn K (.ref f_46)=true)
    {f_law:Addr} {od_law an_law:Option Addr} {sl_law:Array (Option Value)} {oc_law kV_law dc_law pm_law cd_law ct_law:Value}
    (a_law:PySem.W.nsIn K mainGlobals "law"=some (some (.ref f_law))) (l_law:K.lookup f_law=some ⟨oc_law,od_law,.func (PySem.W.fnOf "law" "law" (defArgs (top 58)) (defBody (top 58)) (defScope (top 58)) .none kV_law dc_law pm_law an_law cd_law ct_law),sl_law⟩) (c_law:PySem.W.codeIn K cd_law "law"=true) (k_law:PySem.W.keepIn K (.ref f_law)=true)
    {t_SIDES:Addr} {n_SIDES:Nat} {s_SIDES:Array (Option Value)} {k_SIDES_0 k_SIDES_1:Tok} (e_SIDES:PySem.W.nsIn K mainGlobals "SIDES"=some (some (.ref t_SIDES))) (l_SIDES:K.lookup t_SIDES=some ⟨.type "tuple",none,.seq #[.str "yes" k_SIDES_0,.str "no" k_SIDES_1] n_SIDES,s_SIDES⟩)
    (z_ValueError:PySem.W.nsIn K mainGlobals "ValueError"=some none)
    (z_bool:PySem.W.nsIn K mainGlobals "bool"=some none)
    (z_enumerate:PySem.W.nsIn K mainGlobals "enumerate"=some none)
    (z_int:PySem.W.nsIn K mainGlobals "int"=some none)
    (z_isinstance:PySem.W.nsIn K mainGlobals "isinstance"=some none)
    (z_len:PySem.W.nsIn K mainGlobals "len"=some none)
    (z_list:PySem.W.nsIn K mainGlobals "list"=some none)
    (z_max:PySem.W.nsIn K mainGlobals "max"=some none)
    (z_min:PySem.W.nsIn K mainGlobals "min"=some none)
    (z_range:PySem.W.nsIn K mainGlobals "range"=some none)
    (z_repr:PySem.W.nsIn K mainGlobals "repr"=some none)
    (z_tuple:PySem.W.nsIn K mainGlobals "tuple"=some none) :
    ∃ fd:FuncData,(∀ (s:Shared) (v:Value),BindsTo s fd ⟨[v],[]⟩ [("_law_script",v)])∧∀ base:Heap,K.In base→base.Ns mainGlobals mg→FnOk l.prog w K mg base CX0 60 fa fd ["_law_script"] (liftSp K sp_law):=by
  have e:=hfa.symm.trans (PySem.W.mg_of X G a_law)
  cases e
  have F_0:=fun_mk (st:=top 1) l_0 c_0 k_0
  have b_0:=F_0.binds (ps:=["form","rows"]) fun _ _ _ _ _ _=>len2 fun _ _=>rfl
  have F_1:=fun_mk (st:=top 2) l_1 c_1 k_1
  have b_1:=F_1.binds (ps:=["form","rows"]) fun _ _ _ _ _ _=>len2 fun _ _=>rfl
  have F_2:=fun_mk (st:=top 3) l_2 c_2 k_2
  have b_2:=F_2.binds (ps:=["top","bottom"]) fun _ _ _ _ _ _=>len2 fun _ _=>rfl
  have F_3:=fun_mk (st:=top 4) l_3 c_3 k_3
  have b_3:=F_3.binds (ps:=["one","other"]) fun _ _ _ _ _ _=>len2 fun _ _=>rfl
  have F_4:=fun_mk (st:=top 5) l_4 c_4 k_4
  have b_4:=F_4.binds (ps:=["one","other"]) fun _ _ _ _ _ _=>len2 fun _ _=>rfl
  have F_5:=fun_mk (st:=top 8) l_5 c_5 k_5
  have b_5:=F_5.binds (ps:=["form","question","stray","case"]) fun _ _ _ _ _ _=>len4 fun _ _ _ _=>rfl
  have F_6:=fun_mk (st:=top 9) l_6 c_6 k_6
  have b_6:=F_6.binds (ps:=["form","question"]) fun _ _ _ _ _ _=>len2 fun _ _=>rfl
  have F_7:=fun_mk (st:=top 10) l_7 c_7 k_7
  have b_7:=F_7.binds (ps:=["question","stray","field"]) fun _ _ _ _ _ _=>len3 fun _ _ _=>rfl
  have F_8:=fun_mk (st:=top 11) l_8 c_8 k_8
  have b_8:=F_8.binds (ps:=["question","field"]) fun _ _ _ _ _ _=>len2 fun _ _=>rfl
  have F_9:=fun_mk (st:=top 12) l_9 c_9 k_9
  have b_9:=F_9.binds (ps:=["form","question","stray","rows"]) fun _ _ _ _ _ _=>len4 fun _ _ _ _=>rfl
  have F_10:=fun_mk (st:=top 13) l_10 c_10 k_10
  have b_10:=F_10.binds (ps:=["side","sides"]) fun _ _ _ _ _ _=>len2 fun _ _=>rfl
  have F_11:=fun_mk (st:=top 15) l_11 c_11 k_11
  have b_11:=F_11.binds (ps:=["rows","numbers"]) fun _ _ _ _ _ _=>len2 fun _ _=>rfl
  have F_12:=fun_mk (st:=top 20) l_12 c_12 k_12
  have b_12:=F_12.binds (ps:=["tree"]) fun _ _ _ _ _ _=>len1 fun _=>rfl
  have F_13:=fun_mk (st:=top 21) l_13 c_13 k_13
  have b_13:=F_13.binds (ps:=["knot","side"]) fun _ _ _ _ _ _=>len2 fun _ _=>rfl
  have F_14:=fun_mk (st:=top 22) l_14 c_14 k_14
  have b_14:=F_14.binds (ps:=["tree"]) fun _ _ _ _ _ _=>len1 fun _=>rfl
  have F_15:=fun_mk (st:=top 23) l_15 c_15 k_15
  have b_15:=F_15.binds (ps:=["form","tree","case"]) fun _ _ _ _ _ _=>len3 fun _ _ _=>rfl
  have F_16:=fun_mk (st:=top 24) l_16 c_16 k_16
  have b_16:=F_16.binds (ps:=["form","tree","case"]) fun _ _ _ _ _ _=>len3 fun _ _ _=>rfl
  have F_17:=fun_mk (st:=top 25) l_17 c_17 k_17
  have b_17:=F_17.binds (ps:=["form","tree","case"]) fun _ _ _ _ _ _=>len3 fun _ _ _=>rfl
  have F_18:=fun_mk (st:=top 26) l_18 c_18 k_18
  have b_18:=F_18.binds (ps:=["tree","place"]) fun _ _ _ _ _ _=>len2 fun _ _=>rfl
  have F_19:=fun_mk (st:=top 28) l_19 c_19 k_19
  have b_19:=F_19.binds (ps:=["form","tree","rows","prices"]) fun _ _ _ _ _ _=>len4 fun _ _ _ _=>rfl
  have F_20:=fun_mk (st:=top 30) l_20 c_20 k_20
  have b_20:=F_20.binds (ps:=["form","rows"]) fun _ _ _ _ _ _=>len2 fun _ _=>rfl
  have F_21:=fun_mk (st:=top 31) l_21 c_21 k_21
  have b_21:=F_21.binds (ps:=["form","knot","rows"]) fun _ _ _ _ _ _=>len3 fun _ _ _=>rfl
  have F_22:=fun_mk (st:=top 32) l_22 c_22 k_22
  have b_22:=F_22.binds (ps:=["price"]) fun _ _ _ _ _ _=>len1 fun _=>rfl
  have F_23:=fun_mk (st:=top 33) l_23 c_23 k_23
  have b_23:=F_23.binds (ps:=["form","tree","rows","price"]) fun _ _ _ _ _ _=>len4 fun _ _ _ _=>rfl
  have F_24:=fun_mk (st:=top 34) l_24 c_24 k_24
  have b_24:=F_24.binds (ps:=["form","tree","rows","prices"]) fun _ _ _ _ _ _=>len4 fun _ _ _ _=>rfl
  have F_25:=fun_mk (st:=top 35) l_25 c_25 k_25
  have b_25:=F_25.binds (ps:=["form","tree","rows"]) fun _ _ _ _ _ _=>len3 fun _ _ _=>rfl
  have F_26:=fun_mk (st:=top 36) l_26 c_26 k_26
  have b_26:=F_26.binds (ps:=["form","tree","rows"]) fun _ _ _ _ _ _=>len3 fun _ _ _=>rfl
  have F_27:=fun_mk (st:=top 37) l_27 c_27 k_27
  have b_27:=F_27.binds (ps:=["form","tree","rows"]) fun _ _ _ _ _ _=>len3 fun _ _ _=>rfl
  have F_28:=fun_mk (st:=top 39) l_28 c_28 k_28
  have b_28:=F_28.binds (ps:=["_law_script"]) fun _ _ _ _ _ _=>len1 fun _=>rfl
  have F_29:=fun_mk (st:=top 40) l_29 c_29 k_29
  have b_29:=F_29.binds (ps:=["_law_tape_here","_law_many"]) fun _ _ _ _ _ _=>len2 fun _ _=>rfl
  have F_30:=fun_mk (st:=top 41) l_30 c_30 k_30
  have b_30:=F_30.binds (ps:=["_law_tape_here","_law_many"]) fun _ _ _ _ _ _=>len2 fun _ _=>rfl
  have F_31:=fun_mk (st:=top 42) l_31 c_31 k_31
  have b_31:=F_31.binds (ps:=["_law_tape_here","_law_fields","_law_values"]) fun _ _ _ _ _ _=>len3 fun _ _ _=>rfl
  have F_32:=fun_mk (st:=top 43) l_32 c_32 k_32
  have b_32:=F_32.binds (ps:=["_law_tape_here","_law_form_here"]) fun _ _ _ _ _ _=>len2 fun _ _=>rfl
  have F_33:=fun_mk (st:=top 44) l_33 c_33 k_33
  have b_33:=F_33.binds (ps:=["_law_tape_here","_law_form_here","_law_many"]) fun _ _ _ _ _ _=>len3 fun _ _ _=>rfl
  have F_34:=fun_mk (st:=top 45) l_34 c_34 k_34
  have b_34:=F_34.binds (ps:=["_law_form_here","_law_question","_law_stray","_law_case_here"]) fun _ _ _ _ _ _=>len4 fun _ _ _ _=>rfl
  have F_35:=fun_mk (st:=top 46) l_35 c_35 k_35
  have b_35:=F_35.binds (ps:=["_law_form_here","_law_question","_law_stray","_law_rows_here"]) fun _ _ _ _ _ _=>len4 fun _ _ _ _=>rfl
  have F_36:=fun_mk (st:=top 47) l_36 c_36 k_36
  have b_36:=F_36.binds (ps:=["_law_form_here","_law_rows_here"]) fun _ _ _ _ _ _=>len2 fun _ _=>rfl
  have F_37:=fun_mk (st:=top 48) l_37 c_37 k_37
  have b_37:=F_37.binds (ps:=["_law_form_here","_law_rows_here"]) fun _ _ _ _ _ _=>len2 fun _ _=>rfl
  have F_38:=fun_mk (st:=top 49) l_38 c_38 k_38
  have b_38:=F_38.binds (ps:=["_law_tape_here","_law_most"]) fun _ _ _ _ _ _=>len2 fun _ _=>rfl
  have F_39:=fun_mk (st:=top 50) l_39 c_39 k_39
  have b_39:=F_39.binds (ps:=["_law_tape_here","_law_form_here","_law_deep"]) fun _ _ _ _ _ _=>len3 fun _ _ _=>rfl
  have F_40:=fun_mk (st:=top 51) l_40 c_40 k_40
  have b_40:=F_40.binds (ps:=["_law_tree_here"]) fun _ _ _ _ _ _=>len1 fun _=>rfl
  have F_41:=fun_mk (st:=top 52) l_41 c_41 k_41
  have b_41:=F_41.binds (ps:=["_law_form_here","_law_tree_here","_law_rows_here"]) fun _ _ _ _ _ _=>len3 fun _ _ _=>rfl
  have F_42:=fun_mk (st:=top 53) l_42 c_42 k_42
  have b_42:=F_42.binds (ps:=["_law_one","_law_other"]) fun _ _ _ _ _ _=>len2 fun _ _=>rfl
  have F_43:=fun_mk (st:=top 54) l_43 c_43 k_43
  have b_43:=F_43.binds (ps:=["_law_price"]) fun _ _ _ _ _ _=>len1 fun _=>rfl
  have F_44:=fun_mk (st:=top 55) l_44 c_44 k_44
  have b_44:=F_44.binds (ps:=["_law_found","_law_price"]) fun _ _ _ _ _ _=>len2 fun _ _=>rfl
  have F_45:=fun_mk (st:=top 56) l_45 c_45 k_45
  have b_45:=F_45.binds (ps:=["_law_tape_here","_law_form_here","_law_many"]) fun _ _ _ _ _ _=>len3 fun _ _ _=>rfl
  have F_46:=fun_mk (st:=top 57) l_46 c_46 k_46
  have b_46:=F_46.binds (ps:=["_law_form_here","_law_tree_here","_law_rows_here","_law_found"]) fun _ _ _ _ _ _=>len4 fun _ _ _ _=>rfl
  have F_law:=fun_mk (st:=top 58) l_law c_law k_law
  have b_law:=F_law.binds (ps:=["_law_script"]) fun _ _ _ _ _ _=>len1 fun _=>rfl
  have T:Txt K mg { a_0:=f_0,f_0:=PySem.W.fnOf "counted" "counted" (defArgs (top 1)) (defBody (top 1)) (defScope (top 1)) .none kV_0 dc_0 pm_0 an_0 cd_0 ct_0,a_1:=f_1,f_1:=PySem.W.fnOf "first_answer" "first_answer" (defArgs (top 2)) (defBody (top 2)) (defScope (top 2)) .none kV_1 dc_1 pm_1 an_1 cd_1 ct_1,a_2:=f_2,f_2:=PySem.W.fnOf "fraction" "fraction" (defArgs (top 3)) (defBody (top 3)) (defScope (top 3)) .none kV_2 dc_2 pm_2 an_2 cd_2 ct_2,a_3:=f_3,f_3:=PySem.W.fnOf "common_divisor" "common_divisor" (defArgs (top 4)) (defBody (top 4)) (defScope (top 4)) .none kV_3 dc_3 pm_3 an_3 cd_3 ct_3,a_4:=f_4,f_4:=PySem.W.fnOf "is_less" "is_less" (defArgs (top 5)) (defBody (top 5)) (defScope (top 5)) .none kV_4 dc_4 pm_4 an_4 cd_4 ct_4,a_5:=f_5,f_5:=PySem.W.fnOf "side_of" "side_of" (defArgs (top 8)) (defBody (top 8)) (defScope (top 8)) .none kV_5 dc_5 pm_5 an_5 cd_5 ct_5,a_6:=f_6,f_6:=PySem.W.fnOf "field_asked" "field_asked" (defArgs (top 9)) (defBody (top 9)) (defScope (top 9)) .none kV_6 dc_6 pm_6 an_6 cd_6 ct_6,a_7:=f_7,f_7:=PySem.W.fnOf "entries_to_yes" "entries_to_yes" (defArgs (top 10)) (defBody (top 10)) (defScope (top 10)) .none kV_7 dc_7 pm_7 an_7 cd_7 ct_7,a_8:=f_8,f_8:=PySem.W.fnOf "values_held" "values_held" (defArgs (top 11)) (defBody (top 11)) (defScope (top 11)) .none kV_8 dc_8 pm_8 an_8 cd_8 ct_8,a_9:=f_9,f_9:=PySem.W.fnOf "parted" "parted" (defArgs (top 12)) (defBody (top 12)) (defScope (top 12)) .none kV_9 dc_9 pm_9 an_9 cd_9 ct_9,a_10:=f_10,f_10:=PySem.W.fnOf "numbers_on" "numbers_on" (defArgs (top 13)) (defBody (top 13)) (defScope (top 13)) .none kV_10 dc_10 pm_10 an_10 cd_10 ct_10,a_11:=f_11,f_11:=PySem.W.fnOf "rows_at" "rows_at" (defArgs (top 15)) (defBody (top 15)) (defScope (top 15)) .none kV_11 dc_11 pm_11 an_11 cd_11 ct_11,a_12:=f_12,f_12:=PySem.W.fnOf "is_leaf" "is_leaf" (defArgs (top 20)) (defBody (top 20)) (defScope (top 20)) .none kV_12 dc_12 pm_12 an_12 cd_12 ct_12,a_13:=f_13,f_13:=PySem.W.fnOf "on_side" "on_side" (defArgs (top 21)) (defBody (top 21)) (defScope (top 21)) .none kV_13 dc_13 pm_13 an_13 cd_13 ct_13,a_14:=f_14,f_14:=PySem.W.fnOf "knots_in" "knots_in" (defArgs (top 22)) (defBody (top 22)) (defScope (top 22)) .none kV_14 dc_14 pm_14 an_14 cd_14 ct_14,a_15:=f_15,f_15:=PySem.W.fnOf "way_of" "way_of" (defArgs (top 23)) (defBody (top 23)) (defScope (top 23)) .none kV_15 dc_15 pm_15 an_15 cd_15 ct_15,a_16:=f_16,f_16:=PySem.W.fnOf "sides_of_way" "sides_of_way" (defArgs (top 24)) (defBody (top 24)) (defScope (top 24)) .none kV_16 dc_16 pm_16 an_16 cd_16 ct_16,a_17:=f_17,f_17:=PySem.W.fnOf "answer_of" "answer_of" (defArgs (top 25)) (defBody (top 25)) (defScope (top 25)) .none kV_17 dc_17 pm_17 an_17 cd_17 ct_17,a_18:=f_18,f_18:=PySem.W.fnOf "part_at" "part_at" (defArgs (top 26)) (defBody (top 26)) (defScope (top 26)) .none kV_18 dc_18 pm_18 an_18 cd_18 ct_18,a_19:=f_19,f_19:=PySem.W.fnOf "cost_of" "cost_of" (defArgs (top 28)) (defBody (top 28)) (defScope (top 28)) .none kV_19 dc_19 pm_19 an_19 cd_19 ct_19,a_20:=f_20,f_20:=PySem.W.fnOf "first_leaf" "first_leaf" (defArgs (top 30)) (defBody (top 30)) (defScope (top 30)) .none kV_20 dc_20 pm_20 an_20 cd_20 ct_20,a_21:=f_21,f_21:=PySem.W.fnOf "rows_on_sides" "rows_on_sides" (defArgs (top 31)) (defBody (top 31)) (defScope (top 31)) .none kV_21 dc_21 pm_21 an_21 cd_21 ct_21,a_22:=f_22,f_22:=PySem.W.fnOf "prices_at" "prices_at" (defArgs (top 32)) (defBody (top 32)) (defScope (top 32)) .none kV_22 dc_22 pm_22 an_22 cd_22 ct_22,a_23:=f_23,f_23:=PySem.W.fnOf "least_pruning" "least_pruning" (defArgs (top 33)) (defBody (top 33)) (defScope (top 33)) .none kV_23 dc_23 pm_23 an_23 cd_23 ct_23,a_24:=f_24,f_24:=PySem.W.fnOf "least_with_cost" "least_with_cost" (defArgs (top 34)) (defBody (top 34)) (defScope (top 34)) .none kV_24 dc_24 pm_24 an_24 cd_24 ct_24,a_25:=f_25,f_25:=PySem.W.fnOf "steps" "steps" (defArgs (top 35)) (defBody (top 35)) (defScope (top 35)) .none kV_25 dc_25 pm_25 an_25 cd_25 ct_25,a_26:=f_26,f_26:=PySem.W.fnOf "next_price" "next_price" (defArgs (top 36)) (defBody (top 36)) (defScope (top 36)) .none kV_26 dc_26 pm_26 an_26 cd_26 ct_26,a_27:=f_27,f_27:=PySem.W.fnOf "slips_and_prices" "slips_and_prices" (defArgs (top 37)) (defBody (top 37)) (defScope (top 37)) .none kV_27 dc_27 pm_27 an_27 cd_27 ct_27,a_28:=f_28,f_28:=PySem.W.fnOf "_law_tape" "_law_tape" (defArgs (top 39)) (defBody (top 39)) (defScope (top 39)) .none kV_28 dc_28 pm_28 an_28 cd_28 ct_28,a_29:=f_29,f_29:=PySem.W.fnOf "_law_draw" "_law_draw" (defArgs (top 40)) (defBody (top 40)) (defScope (top 40)) .none kV_29 dc_29 pm_29 an_29 cd_29 ct_29,a_30:=f_30,f_30:=PySem.W.fnOf "_law_names" "_law_names" (defArgs (top 41)) (defBody (top 41)) (defScope (top 41)) .none kV_30 dc_30 pm_30 an_30 cd_30 ct_30,a_31:=f_31,f_31:=PySem.W.fnOf "_law_form" "_law_form" (defArgs (top 42)) (defBody (top 42)) (defScope (top 42)) .none kV_31 dc_31 pm_31 an_31 cd_31 ct_31,a_32:=f_32,f_32:=PySem.W.fnOf "_law_case" "_law_case" (defArgs (top 43)) (defBody (top 43)) (defScope (top 43)) .none kV_32 dc_32 pm_32 an_32 cd_32 ct_32,a_33:=f_33,f_33:=PySem.W.fnOf "_law_rows" "_law_rows" (defArgs (top 44)) (defBody (top 44)) (defScope (top 44)) .none kV_33 dc_33 pm_33 an_33 cd_33 ct_33,a_34:=f_34,f_34:=PySem.W.fnOf "_law_side" "_law_side" (defArgs (top 45)) (defBody (top 45)) (defScope (top 45)) .none kV_34 dc_34 pm_34 an_34 cd_34 ct_34,a_35:=f_35,f_35:=PySem.W.fnOf "_law_parts" "_law_parts" (defArgs (top 46)) (defBody (top 46)) (defScope (top 46)) .none kV_35 dc_35 pm_35 an_35 cd_35 ct_35,a_36:=f_36,f_36:=PySem.W.fnOf "_law_counts" "_law_counts" (defArgs (top 47)) (defBody (top 47)) (defScope (top 47)) .none kV_36 dc_36 pm_36 an_36 cd_36 ct_36,a_37:=f_37,f_37:=PySem.W.fnOf "_law_first" "_law_first" (defArgs (top 48)) (defBody (top 48)) (defScope (top 48)) .none kV_37 dc_37 pm_37 an_37 cd_37 ct_37,a_38:=f_38,f_38:=PySem.W.fnOf "_law_sized" "_law_sized" (defArgs (top 49)) (defBody (top 49)) (defScope (top 49)) .none kV_38 dc_38 pm_38 an_38 cd_38 ct_38,a_39:=f_39,f_39:=PySem.W.fnOf "_law_tree" "_law_tree" (defArgs (top 50)) (defBody (top 50)) (defScope (top 50)) .none kV_39 dc_39 pm_39 an_39 cd_39 ct_39,a_40:=f_40,f_40:=PySem.W.fnOf "_law_knots" "_law_knots" (defArgs (top 51)) (defBody (top 51)) (defScope (top 51)) .none kV_40 dc_40 pm_40 an_40 cd_40 ct_40,a_41:=f_41,f_41:=PySem.W.fnOf "_law_prunings" "_law_prunings" (defArgs (top 52)) (defBody (top 52)) (defScope (top 52)) .none kV_41 dc_41 pm_41 an_41 cd_41 ct_41,a_42:=f_42,f_42:=PySem.W.fnOf "_law_divisor" "_law_divisor" (defArgs (top 53)) (defBody (top 53)) (defScope (top 53)) .none kV_42 dc_42 pm_42 an_42 cd_42 ct_42,a_43:=f_43,f_43:=PySem.W.fnOf "_law_is_fraction" "_law_is_fraction" (defArgs (top 54)) (defBody (top 54)) (defScope (top 54)) .none kV_43 dc_43 pm_43 an_43 cd_43 ct_43,a_44:=f_44,f_44:=PySem.W.fnOf "_law_least" "_law_least" (defArgs (top 55)) (defBody (top 55)) (defScope (top 55)) .none kV_44 dc_44 pm_44 an_44 cd_44 ct_44,a_45:=f_45,f_45:=PySem.W.fnOf "_law_chain" "_law_chain" (defArgs (top 56)) (defBody (top 56)) (defScope (top 56)) .none kV_45 dc_45 pm_45 an_45 cd_45 ct_45,a_46:=f_46,f_46:=PySem.W.fnOf "_law_right" "_law_right" (defArgs (top 57)) (defBody (top 57)) (defScope (top 57)) .none kV_46 dc_46 pm_46 an_46 cd_46 ct_46,a_law:=fa,f_law:=PySem.W.fnOf "law" "law" (defArgs (top 58)) (defBody (top 58)) (defScope (top 58)) .none kV_law dc_law pm_law an_law cd_law ct_law,t_SIDES:=t_SIDES }:={ m_0:=PySem.W.mg_of X G a_0,k_0:=k_0,F_0:=F_0,d_0:=b_0,m_1:=PySem.W.mg_of X G a_1,k_1:=k_1,F_1:=F_1,d_1:=b_1,m_2:=PySem.W.mg_of X G a_2,k_2:=k_2,F_2:=F_2,d_2:=b_2,m_3:=PySem.W.mg_of X G a_3,k_3:=k_3,F_3:=F_3,d_3:=b_3,m_4:=PySem.W.mg_of X G a_4,k_4:=k_4,F_4:=F_4,d_4:=b_4,m_5:=PySem.W.mg_of X G a_5,k_5:=k_5,F_5:=F_5,d_5:=b_5,m_6:=PySem.W.mg_of X G a_6,k_6:=k_6,F_6:=F_6,d_6:=b_6,m_7:=PySem.W.mg_of X G a_7,k_7:=k_7,F_7:=F_7,d_7:=b_7,m_8:=PySem.W.mg_of X G a_8,k_8:=k_8,F_8:=F_8,d_8:=b_8,m_9:=PySem.W.mg_of X G a_9,k_9:=k_9,F_9:=F_9,d_9:=b_9,m_10:=PySem.W.mg_of X G a_10,k_10:=k_10,F_10:=F_10,d_10:=b_10,m_11:=PySem.W.mg_of X G a_11,k_11:=k_11,F_11:=F_11,d_11:=b_11,m_12:=PySem.W.mg_of X G a_12,k_12:=k_12,F_12:=F_12,d_12:=b_12,m_13:=PySem.W.mg_of X G a_13,k_13:=k_13,F_13:=F_13,d_13:=b_13,m_14:=PySem.W.mg_of X G a_14,k_14:=k_14,F_14:=F_14,d_14:=b_14,m_15:=PySem.W.mg_of X G a_15,k_15:=k_15,F_15:=F_15,d_15:=b_15,m_16:=PySem.W.mg_of X G a_16,k_16:=k_16,F_16:=F_16,d_16:=b_16,m_17:=PySem.W.mg_of X G a_17,k_17:=k_17,F_17:=F_17,d_17:=b_17,m_18:=PySem.W.mg_of X G a_18,k_18:=k_18,F_18:=F_18,d_18:=b_18,m_19:=PySem.W.mg_of X G a_19,k_19:=k_19,F_19:=F_19,d_19:=b_19,m_20:=PySem.W.mg_of X G a_20,k_20:=k_20,F_20:=F_20,d_20:=b_20,m_21:=PySem.W.mg_of X G a_21,k_21:=k_21,F_21:=F_21,d_21:=b_21,m_22:=PySem.W.mg_of X G a_22,k_22:=k_22,F_22:=F_22,d_22:=b_22,m_23:=PySem.W.mg_of X G a_23,k_23:=k_23,F_23:=F_23,d_23:=b_23,m_24:=PySem.W.mg_of X G a_24,k_24:=k_24,F_24:=F_24,d_24:=b_24,m_25:=PySem.W.mg_of X G a_25,k_25:=k_25,F_25:=F_25,d_25:=b_25,m_26:=PySem.W.mg_of X G a_26,k_26:=k_26,F_26:=F_26,d_26:=b_26,m_27:=PySem.W.mg_of X G a_27,k_27:=k_27,F_27:=F_27,d_27:=b_27,m_28:=PySem.W.mg_of X G a_28,k_28:=k_28,F_28:=F_28,d_28:=b_28,m_29:=PySem.W.mg_of X G a_29,k_29:=k_29,F_29:=F_29,d_29:=b_29,m_30:=PySem.W.mg_of X G a_30,k_30:=k_30,F_30:=F_30,d_30:=b_30,m_31:=PySem.W.mg_of X G a_31,k_31:=k_31,F_31:=F_31,d_31:=b_31,m_32:=PySem.W.mg_of X G a_32,k_32:=k_32,F_32:=F_32,d_32:=b_32,m_33:=PySem.W.mg_of X G a_33,k_33:=k_33,F_33:=F_33,d_33:=b_33,m_34:=PySem.W.mg_of X G a_34,k_34:=k_34,F_34:=F_34,d_34:=b_34,m_35:=PySem.W.mg_of X G a_35,k_35:=k_35,F_35:=F_35,d_35:=b_35,m_36:=PySem.W.mg_of X G a_36,k_36:=k_36,F_36:=F_36,d_36:=b_36,m_37:=PySem.W.mg_of X G a_37,k_37:=k_37,F_37:=F_37,d_37:=b_37,m_38:=PySem.W.mg_of X G a_38,k_38:=k_38,F_38:=F_38,d_38:=b_38,m_39:=PySem.W.mg_of X G a_39,k_39:=k_39,F_39:=F_39,d_39:=b_39,m_40:=PySem.W.mg_of X G a_40,k_40:=k_40,F_40:=F_40,d_40:=b_40,m_41:=PySem.W.mg_of X G a_41,k_41:=k_41,F_41:=F_41,d_41:=b_41,m_42:=PySem.W.mg_of X G a_42,k_42:=k_42,F_42:=F_42,d_42:=b_42,m_43:=PySem.W.mg_of X G a_43,k_43:=k_43,F_43:=F_43,d_43:=b_43,m_44:=PySem.W.mg_of X G a_44,k_44:=k_44,F_44:=F_44,d_44:=b_44,m_45:=PySem.W.mg_of X G a_45,k_45:=k_45,F_45:=F_45,d_45:=b_45,m_46:=PySem.W.mg_of X G a_46,k_46:=k_46,F_46:=F_46,d_46:=b_46,m_law:=PySem.W.mg_of X G a_law,k_law:=k_law,F_law:=F_law,d_law:=b_law,c_SIDES:=PySem.W.mg_of X G e_SIDES,t_SIDES:=⟨_,_,_,l_SIDES,rfl,rfl,rfl,(by show 2≤sizeLine; decide),.cons ⟨_,rfl⟩ (.cons ⟨_,rfl⟩ (.nil))⟩,b_ValueError:=PySem.W.mg_none_of X G z_ValueError,b_bool:=PySem.W.mg_none_of X G z_bool,b_enumerate:=PySem.W.mg_none_of X G z_enumerate,b_int:=PySem.W.mg_none_of X G z_int,b_isinstance:=PySem.W.mg_none_of X G z_isinstance,b_len:=PySem.W.mg_none_of X G z_len,b_list:=PySem.W.mg_none_of X G z_list,b_max:=PySem.W.mg_none_of X G z_max,b_min:=PySem.W.mg_none_of X G z_min,b_range:=PySem.W.mg_none_of X G z_range,b_repr:=PySem.W.mg_none_of X G z_repr,b_tuple:=PySem.W.mg_none_of X G z_tuple }
  refine ⟨PySem.W.fnOf "law" "law" (defArgs (top 58)) (defBody (top 58)) (defScope (top 58)) .none kV_law dc_law pm_law an_law cd_law ct_law,fun s v=>.of_eq rfl,fun base _ _=>?_⟩
  have O_29:=ok_29 (P:=l.prog) (w:=w) (base:=base) T
  have O_45:=ok_45 (P:=l.prog) (w:=w) (base:=base) T (F_29:=O_29)
  have O_42:=ok_42 (P:=l.prog) (w:=w) (base:=base) T
  have O_43:=ok_43 (P:=l.prog) (w:=w) (base:=base) T (F_42:=O_42)
  have O_40:=ok_40 (P:=l.prog) (w:=w) (base:=base) T
  have O_44:=ok_44 (P:=l.prog) (w:=w) (base:=base) T
  have O_36:=ok_36 (P:=l.prog) (w:=w) (base:=base) T
  have O_37:=ok_37 (P:=l.prog) (w:=w) (base:=base) T (F_36:=O_36)
  have O_34:=ok_34 (P:=l.prog) (w:=w) (base:=base) T
  have O_35:=ok_35 (P:=l.prog) (w:=w) (base:=base) T (F_34:=O_34)
  have O_41:=ok_41 (P:=l.prog) (w:=w) (base:=base) T (F_37:=O_37) (F_35:=O_35)
  have O_46:=ok_46 (P:=l.prog) (w:=w) (base:=base) T (F_43:=O_43) (F_40:=O_40) (F_44:=O_44) (F_41:=O_41)
  have O_30:=ok_30 (P:=l.prog) (w:=w) (base:=base) T (F_29:=O_29)
  have O_31:=ok_31 (P:=l.prog) (w:=w) (base:=base) T (F_29:=O_29) (F_30:=O_30)
  have O_32:=ok_32 (P:=l.prog) (w:=w) (base:=base) T (F_29:=O_29)
  have O_33:=ok_33 (P:=l.prog) (w:=w) (base:=base) T (F_32:=O_32) (F_29:=O_29)
  have O_38:=ok_38 (P:=l.prog) (w:=w) (base:=base) T (F_29:=O_29) (F_31:=O_31) (F_33:=O_33)
  have O_28:=ok_28 (P:=l.prog) (w:=w) (base:=base) T
  have O_39:=ok_39 (P:=l.prog) (w:=w) (base:=base) T (F_29:=O_29)
  have O_12:=ok_12 (P:=l.prog) (w:=w) (base:=base) T
  have O_13:=ok_13 (P:=l.prog) (w:=w) (base:=base) T
  have O_18:=ok_18 (P:=l.prog) (w:=w) (base:=base) T (F_12:=O_12) (F_13:=O_13)
  have O_8:=ok_8 (P:=l.prog) (w:=w) (base:=base) T
  have O_7:=ok_7 (P:=l.prog) (w:=w) (base:=base) T (F_8:=O_8)
  have O_6:=ok_6 (P:=l.prog) (w:=w) (base:=base) T
  have O_5:=ok_5 (P:=l.prog) (w:=w) (base:=base) T (F_7:=O_7) (F_6:=O_6)
  have O_15:=ok_15 (P:=l.prog) (w:=w) (base:=base) T (F_12:=O_12) (F_13:=O_13) (F_5:=O_5)
  have O_16:=ok_16 (P:=l.prog) (w:=w) (base:=base) T (F_15:=O_15)
  have O_17:=ok_17 (P:=l.prog) (w:=w) (base:=base) T (F_18:=O_18) (F_16:=O_16)
  have O_14:=ok_14 (P:=l.prog) (w:=w) (base:=base) T (F_12:=O_12)
  have O_19:=ok_19 (P:=l.prog) (w:=w) (base:=base) T (F_17:=O_17) (F_14:=O_14)
  have O_0:=ok_0 (P:=l.prog) (w:=w) (base:=base) T
  have O_1:=ok_1 (P:=l.prog) (w:=w) (base:=base) T (F_0:=O_0)
  have O_20:=ok_20 (P:=l.prog) (w:=w) (base:=base) T (F_1:=O_1)
  have O_10:=ok_10 (P:=l.prog) (w:=w) (base:=base) T
  have O_9:=ok_9 (P:=l.prog) (w:=w) (base:=base) T (F_10:=O_10) (F_5:=O_5)
  have O_11:=ok_11 (P:=l.prog) (w:=w) (base:=base) T
  have O_21:=ok_21 (P:=l.prog) (w:=w) (base:=base) T (F_9:=O_9) (F_11:=O_11)
  have O_24:=ok_24 (P:=l.prog) (w:=w) (base:=base) T (F_19:=O_19) (F_20:=O_20) (F_12:=O_12) (F_21:=O_21)
  have O_22:=ok_22 (P:=l.prog) (w:=w) (base:=base) T
  have O_23:=ok_23 (P:=l.prog) (w:=w) (base:=base) T (F_24:=O_24) (F_22:=O_22)
  have O_4:=ok_4 (P:=l.prog) (w:=w) (base:=base) T
  have O_3:=ok_3 (P:=l.prog) (w:=w) (base:=base) T
  have O_2:=ok_2 (P:=l.prog) (w:=w) (base:=base) T (F_3:=O_3)
  have O_27:=ok_27 (P:=l.prog) (w:=w) (base:=base) T (F_19:=O_19) (F_20:=O_20) (F_2:=O_2) (F_12:=O_12) (F_14:=O_14) (F_21:=O_21)
  have O_26:=ok_26 (P:=l.prog) (w:=w) (base:=base) T (F_4:=O_4) (F_27:=O_27)
  have O_25:=ok_25 (P:=l.prog) (w:=w) (base:=base) T (F_12:=O_12) (F_23:=O_23) (F_26:=O_26)
  have O_law:=ok_law (P:=l.prog) (w:=w) (base:=base) T (F_45:=O_45) (F_29:=O_29) (F_46:=O_46) (F_38:=O_38) (F_28:=O_28) (F_39:=O_39) (F_25:=O_25)
  exact O_law
theorem mask_nil {H:Hp}:Same H (mask H []):=fun b o e=>by
  unfold mask
  rw [if_neg (by simp)]
  exact e
theorem ints_reps {K:PySem.W.Frag} {H:Hp}:∀ ns:List Int,Reps K H (ns.map PyData.int) (ns.map V.int)
  | []=>.nil
  | n::ns=>.cons (.int n) (ints_reps ns)
theorem walk {l:PySem.W.OpenLaw} {q:Program} {loose:List Str} {XP:(Str→Option Value)→Heap→Prop} {YP:World→Heap→Prop} {d:DefRec} {K:Params→PySem.W.Frag} (hn:l.most=some 63) (hdf:d.params.defaults=[])
    (hY:∀ (w:World) (h:Heap),YP w h→(K w.params).In h)
    (F:∀ (w:World) (mg:Str→Option Value) (fa:Addr) (h:Heap),(K w.params).In h→h.Ns mainGlobals mg→mg d.name=some (.ref fa) →
      ∃ fd:FuncData,(∀ (s:Shared) (u:Value),BindsTo s fd ⟨[u],[]⟩ [("_law_script",u)])∧∀ base:Heap,(K w.params).In base→base.Ns mainGlobals mg→FnOk l.prog w (K w.params) mg base CX0 60 fa fd ["_law_script"] (liftSp (K w.params) sp_law)) :
    PySem.W.WalkO q loose XP YP l.row.toRowW d [] (fun f vs=>PySem.call f vs) :=
  L2.walk_of (n:=63) (k:=60) (x:="_law_script") (CX:=fun _=>CX0) (sp:=fun w=>liftSp (K w.params) sp_law) hn (by decide) hdf ⟨rfl,by decide,by decide,rfl⟩ hY F
    (fun w H a ns hl _ hS=>⟨[],[.list (ns.map PyData.int)],fun d=>d=.bool true,fun p hp=>by simp at hp,.cons (.list (L2.Same.seq mask_nil hS) (ints_reps ns)) .nil,⟨ns,rfl,hl,rfl⟩,fun d v H' _ r q=>by subst q; cases r; rfl⟩) fun _ _ _ _ _ z=>z
end
end K41
def PySem.W.Fast.tw9127157368316832476:Nat:=0
def PySem.W.Fast.tw6341928221244901451:Nat:=0
def PySem.W.Fast.tw16448143885033202596:Nat:=0
def PySem.W.Fast.tw8023710706032012833:Nat:=0
def PySem.W.Fast.tw8873125259394349483:Nat:=0
def PySem.W.Fast.tw11916624613565344179:Nat:=0
def PySem.W.Fast.tw8857160934090205694:Nat:=0
open PySem PySem.W PyProof.Rows
set_option maxRecDepth 100000 in
set_option maxHeartbeats 0 in
theorem PySem.Challenge.cw_leafjudge_k41_whole_steps_of_prices_holds : PySem.Challenge.rw_leafjudge_k41_whole_steps_of_prices.Holds := by
  w_on; o_law; k_head; (case hw => w_witness2)
  k_fill
  refine K41.walk (l := PySem.Challenge.rw_leafjudge_k41_whole_steps_of_prices) rfl rfl (fun w h Y => PySem.W.kIn_of Y) ?F
  case F =>
    intro w mg fa h KX G hmg
    refine' K41.all_mk KX G hmg ?a_0 ?l_0 ?c_0 ?k_0 ?a_1 ?l_1 ?c_1 ?k_1 ?a_2 ?l_2 ?c_2 ?k_2 ?a_3 ?l_3 ?c_3 ?k_3 ?a_4 ?l_4 ?c_4 ?k_4 ?a_5 ?l_5 ?c_5 ?k_5 ?a_6 ?l_6 ?c_6 ?k_6 ?a_7 ?l_7 ?c_7 ?k_7 ?a_8 ?l_8 ?c_8 ?k_8 ?a_9 ?l_9 ?c_9 ?k_9 ?a_10 ?l_10 ?c_10 ?k_10 ?a_11 ?l_11 ?c_11 ?k_11 ?a_12 ?l_12 ?c_12 ?k_12 ?a_13 ?l_13 ?c_13 ?k_13 ?a_14 ?l_14 ?c_14 ?k_14 ?a_15 ?l_15 ?c_15 ?k_15 ?a_16 ?l_16 ?c_16 ?k_16 ?a_17 ?l_17 ?c_17 ?k_17 ?a_18 ?l_18 ?c_18 ?k_18 ?a_19 ?l_19 ?c_19 ?k_19 ?a_20 ?l_20 ?c_20 ?k_20 ?a_21 ?l_21 ?c_21 ?k_21 ?a_22 ?l_22 ?c_22 ?k_22 ?a_23 ?l_23 ?c_23 ?k_23 ?a_24 ?l_24 ?c_24 ?k_24 ?a_25 ?l_25 ?c_25 ?k_25 ?a_26 ?l_26 ?c_26 ?k_26 ?a_27 ?l_27 ?c_27 ?k_27 ?a_28 ?l_28 ?c_28 ?k_28 ?a_29 ?l_29 ?c_29 ?k_29 ?a_30 ?l_30 ?c_30 ?k_30 ?a_31 ?l_31 ?c_31 ?k_31 ?a_32 ?l_32 ?c_32 ?k_32 ?a_33 ?l_33 ?c_33 ?k_33 ?a_34 ?l_34 ?c_34 ?k_34 ?a_35 ?l_35 ?c_35 ?k_35 ?a_36 ?l_36 ?c_36 ?k_36 ?a_37 ?l_37 ?c_37 ?k_37 ?a_38 ?l_38 ?c_38 ?k_38 ?a_39 ?l_39 ?c_39 ?k_39 ?a_40 ?l_40 ?c_40 ?k_40 ?a_41 ?l_41 ?c_41 ?k_41 ?a_42 ?l_42 ?c_42 ?k_42 ?a_43 ?l_43 ?c_43 ?k_43 ?a_44 ?l_44 ?c_44 ?k_44 ?a_45 ?l_45 ?c_45 ?k_45 ?a_46 ?l_46 ?c_46 ?k_46 ?a_law ?l_law ?c_law ?k_law ?e_SIDES ?l_SIDES ?z_ValueError ?z_bool ?z_enumerate ?z_int ?z_isinstance ?z_len ?z_list ?z_max ?z_min ?z_range ?z_repr ?z_tuple
    (case a_0 => k_is)
    (case l_0 => k_is)
    (case c_0 => k_is)
    (case k_0 => k_is)
    (case a_1 => k_is)
    (case l_1 => k_is)
    (case c_1 => k_is)
    (case k_1 => k_is)
    (case a_2 => k_is)
    (case l_2 => k_is)
    (case c_2 => k_is)
    (case k_2 => k_is)
    (case a_3 => k_is)
    (case l_3 => k_is)
    (case c_3 => k_is)
    (case k_3 => k_is)
    (case a_4 => k_is)
    (case l_4 => k_is)
    (case c_4 => k_is)
    (case k_4 => k_is)
    (case a_5 => k_is)
    (case l_5 => k_is)
    (case c_5 => k_is)
    (case k_5 => k_is)
    (case a_6 => k_is)
    (case l_6 => k_is)
    (case c_6 => k_is)
    (case k_6 => k_is)
    (case a_7 => k_is)
    (case l_7 => k_is)
    (case c_7 => k_is)
    (case k_7 => k_is)
    (case a_8 => k_is)
    (case l_8 => k_is)
    (case c_8 => k_is)
    (case k_8 => k_is)
    (case a_9 => k_is)
    (case l_9 => k_is)
    (case c_9 => k_is)
    (case k_9 => k_is)
    (case a_10 => k_is)
    (case l_10 => k_is)
    (case c_10 => k_is)
    (case k_10 => k_is)
    (case a_11 => k_is)
    (case l_11 => k_is)
    (case c_11 => k_is)
    (case k_11 => k_is)
    (case a_12 => k_is)
    (case l_12 => k_is)
    (case c_12 => k_is)
    (case k_12 => k_is)
    (case a_13 => k_is)
    (case l_13 => k_is)
    (case c_13 => k_is)
    (case k_13 => k_is)
    (case a_14 => k_is)
    (case l_14 => k_is)
    (case c_14 => k_is)
    (case k_14 => k_is)
    (case a_15 => k_is)
    (case l_15 => k_is)
    (case c_15 => k_is)
    (case k_15 => k_is)
    (case a_16 => k_is)
    (case l_16 => k_is)
    (case c_16 => k_is)
    (case k_16 => k_is)
    (case a_17 => k_is)
    (case l_17 => k_is)
    (case c_17 => k_is)
    (case k_17 => k_is)
    (case a_18 => k_is)
    (case l_18 => k_is)
    (case c_18 => k_is)
    (case k_18 => k_is)
    (case a_19 => k_is)
    (case l_19 => k_is)
    (case c_19 => k_is)
    (case k_19 => k_is)
    (case a_20 => k_is)
    (case l_20 => k_is)
    (case c_20 => k_is)
    (case k_20 => k_is)
    (case a_21 => k_is)
    (case l_21 => k_is)
    (case c_21 => k_is)
    (case k_21 => k_is)
    (case a_22 => k_is)
    (case l_22 => k_is)
    (case c_22 => k_is)
    (case k_22 => k_is)
    (case a_23 => k_is)
    (case l_23 => k_is)
    (case c_23 => k_is)
    (case k_23 => k_is)
    (case a_24 => k_is)
    (case l_24 => k_is)
    (case c_24 => k_is)
    (case k_24 => k_is)
    (case a_25 => k_is)
    (case l_25 => k_is)
    (case c_25 => k_is)
    (case k_25 => k_is)
    (case a_26 => k_is)
    (case l_26 => k_is)
    (case c_26 => k_is)
    (case k_26 => k_is)
    (case a_27 => k_is)
    (case l_27 => k_is)
    (case c_27 => k_is)
    (case k_27 => k_is)
    (case a_28 => k_is)
    (case l_28 => k_is)
    (case c_28 => k_is)
    (case k_28 => k_is)
    (case a_29 => k_is)
    (case l_29 => k_is)
    (case c_29 => k_is)
    (case k_29 => k_is)
    (case a_30 => k_is)
    (case l_30 => k_is)
    (case c_30 => k_is)
    (case k_30 => k_is)
    (case a_31 => k_is)
    (case l_31 => k_is)
    (case c_31 => k_is)
    (case k_31 => k_is)
    (case a_32 => k_is)
    (case l_32 => k_is)
    (case c_32 => k_is)
    (case k_32 => k_is)
    (case a_33 => k_is)
    (case l_33 => k_is)
    (case c_33 => k_is)
    (case k_33 => k_is)
    (case a_34 => k_is)
    (case l_34 => k_is)
    (case c_34 => k_is)
    (case k_34 => k_is)
    (case a_35 => k_is)
    (case l_35 => k_is)
    (case c_35 => k_is)
    (case k_35 => k_is)
    (case a_36 => k_is)
    (case l_36 => k_is)
    (case c_36 => k_is)
    (case k_36 => k_is)
    (case a_37 => k_is)
    (case l_37 => k_is)
    (case c_37 => k_is)
    (case k_37 => k_is)
    (case a_38 => k_is)
    (case l_38 => k_is)
    (case c_38 => k_is)
    (case k_38 => k_is)
    (case a_39 => k_is)
    (case l_39 => k_is)
    (case c_39 => k_is)
    (case k_39 => k_is)
    (case a_40 => k_is)
    (case l_40 => k_is)
    (case c_40 => k_is)
    (case k_40 => k_is)
    (case a_41 => k_is)
    (case l_41 => k_is)
    (case c_41 => k_is)
    (case k_41 => k_is)
    (case a_42 => k_is)
    (case l_42 => k_is)
    (case c_42 => k_is)
    (case k_42 => k_is)
    (case a_43 => k_is)
    (case l_43 => k_is)
    (case c_43 => k_is)
    (case k_43 => k_is)
    (case a_44 => k_is)
    (case l_44 => k_is)
    (case c_44 => k_is)
    (case k_44 => k_is)
    (case a_45 => k_is)
    (case l_45 => k_is)
    (case c_45 => k_is)
    (case k_45 => k_is)
    (case a_46 => k_is)
    (case l_46 => k_is)
    (case c_46 => k_is)
    (case k_46 => k_is)
    (case a_law => k_is)
    (case l_law => k_is)
    (case c_law => k_is)
    (case k_law => k_is)
    (case e_SIDES => k_is)
    (case l_SIDES => k_is)
    (case z_ValueError => k_is)
    (case z_bool => k_is)
    (case z_enumerate => k_is)
    (case z_int => k_is)
    (case z_isinstance => k_is)
    (case z_len => k_is)
    (case z_list => k_is)
    (case z_max => k_is)
    (case z_min => k_is)
    (case z_range => k_is)
    (case z_repr => k_is)
    (case z_tuple => k_is)
