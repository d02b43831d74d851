import PyProof.Rows.All
import Wide.All
import OpenK.AllK
import Wide.FinOn
import Lean
import PyProof.EqAt
import PyProof.EqKinds
import PyProof.TupleCall
import PyProof.P3In
import PyProof.NeData
import PyProof.NsDelKeeps
import KE.KTryMore
import PyProof.ExcInit
import PyProof.ExcClass3
import PyProof.InstStoreFacts
import PySem.Challenge.RW_leafjudge_k11_texts_that_write_no_tree
set_option Elab.async false
set_option linter.all false
set_option maxRecDepth 100000
namespace L2
open PySem PySem.Spec PyProof.Rows

/-- a key: an int or a str -/
abbrev Key := Sum Int Str
def keyIs : Key → Value → Bool
  | .inl k, v => Value.isInt k v
  | .inr x, v => Value.isStrOf x v
def keyH (w : World) : Key → Int
  | .inl k => hashInt k
  | .inr x => hashStr w x
theorem keyIs_shape : ∀ {k : Key} {v : Value}, keyIs k v = true → (∃ i t, k = Sum.inl i ∧ v = Value.int i t) ∨ (∃ x t, k = Sum.inr x ∧ v = Value.str x t)
  | .inl i, v, h => by
    obtain ⟨t, e⟩ := Value.isInt_shape (k := i) (v := v) h
    exact .inl ⟨i, t, rfl, e⟩
  | .inr x, v, h => by
    obtain ⟨t, e⟩ := Value.isStrOf_shape (x := x) (v := v) h
    exact .inr ⟨x, t, rfl, e⟩
theorem key_ll (a b : Int) : decide ((Sum.inl a : Key) = Sum.inl b) = (a == b) := by
  by_cases e : a = b
  · subst e; simp
  · have h : ¬ (Sum.inl a : Key) = Sum.inl b := fun q => e (Sum.inl.inj q)
    rw [decide_eq_false h]
    exact (beq_eq_false_iff_ne.mpr e).symm
theorem key_rr (a b : Str) : decide ((Sum.inr a : Key) = Sum.inr b) = decide (a = b) := by
  by_cases e : a = b
  · subst e; simp
  · have h : ¬ (Sum.inr a : Key) = Sum.inr b := fun q => e (Sum.inr.inj q)
    rw [decide_eq_false h, decide_eq_false e]
theorem key_lr (a : Int) (b : Str) : decide ((Sum.inl a : Key) = Sum.inr b) = false := decide_eq_false (fun q => nomatch q)
theorem key_rl (a : Str) (b : Int) : decide ((Sum.inr a : Key) = Sum.inl b) = false := decide_eq_false (fun q => nomatch q)

def mixKind (prog : Program) (w : World) : PySem.KeyKind prog w Key where
  is := keyIs
  hash := keyH w
  inj := fun v a b ha hb => by
    rcases keyIs_shape ha with ⟨i, t, rfl, rfl⟩ | ⟨x, t, rfl, rfl⟩
    · rcases keyIs_shape hb with ⟨j, u, rfl, e⟩ | ⟨y, u, rfl, e⟩
      · injection e with e1 _; rw [e1]
      · exact nomatch e
    · rcases keyIs_shape hb with ⟨j, u, rfl, e⟩ | ⟨y, u, rfl, e⟩
      · exact nomatch e
      · injection e with e1 _; rw [e1]
  byValue := fun k v h => by
    rcases keyIs_shape h with ⟨i, t, rfl, rfl⟩ | ⟨x, t, rfl, rfl⟩ <;> rfl
  pyHash := fun hv h => by
    rcases keyIs_shape hv with ⟨i, t, rfl, rfl⟩ | ⟨x, t, rfl, rfl⟩
    · exact wpAny_pyHash_int h
    · exact wpAny_pyHash_str h
  eqBool := fun hu hv h => by
    rcases keyIs_shape hu with ⟨i, t, rfl, rfl⟩ | ⟨x, t, rfl, rfl⟩
    · rcases keyIs_shape hv with ⟨j, u, rfl, rfl⟩ | ⟨y, u, rfl, rfl⟩
      · rw [key_ll] at h; exact wpAny_eqBool_int h
      · rw [key_lr] at h; exact SeqAt.EqAt.int_str i t y u _ _ _ _ h
    · rcases keyIs_shape hv with ⟨j, u, rfl, rfl⟩ | ⟨y, u, rfl, rfl⟩
      · rw [key_rl] at h; exact SeqAt.EqAt.str_int x t j u _ _ _ _ h
      · rw [key_rr] at h; exact wpAny_eqBool_str h
  «strs» := fun k x t v h => by
    rcases keyIs_shape h with ⟨i, u, rfl, e⟩ | ⟨y, u, rfl, e⟩
    · exact nomatch e
    · injection e with e1 _
      subst e1
      cases v <;> rfl

end L2

namespace L2
open PySem PySem.Spec PyProof.Rows

/-- a value, without the heap -/
inductive V where
  | non | bl (b : Bool) | int (i : Int) | str (x : Str) | byt (b : Array UInt8) | flt (b : UInt64) | ref (a : Addr) | ty (n : String)
  deriving DecidableEq

def RelV : V → Value → Prop
  | .non, u => u = Value.none
  | .bl b, u => u = Value.bool b
  | .int i, u => ∃ t, u = Value.int i t
  | .str x, u => ∃ t, u = Value.str x t
  | .byt b, u => ∃ t, u = Value.bytes b t
  | .flt b, u => ∃ t, u = Value.float b t
  | .ref a, u => u = Value.ref a
  | .ty n, u => u = Value.type n

abbrev Vals : List V → List Value → Prop := Paired RelV
theorem Vals.length {xs : List V} {us : List Value} (r : Vals xs us) : xs.length = us.length := Paired.length r
theorem Vals.get : ∀ {xs : List V} {us : List Value} {i : Nat} {x : V}, Vals xs us → xs[i]? = some x → ∃ u, us[i]? = some u ∧ RelV x u
  | _, _, _, _, .nil, e => by simp at e
  | _, _, 0, _, .cons r _, e => by simp at e; subst e; exact ⟨_, rfl, r⟩
  | _, _, i + 1, x, .cons _ t, e => by
    obtain ⟨u, h1, h2⟩ := Vals.get (i := i) (x := x) t (by simpa using e)
    exact ⟨u, by simpa using h1, h2⟩
theorem Vals.set {x : V} {u : Value} (r : RelV x u) : ∀ {xs : List V} {us : List Value} (i : Nat), Vals xs us → Vals (xs.set i x) (us.set i u)
  | _, _, _, .nil => .nil
  | _, _, 0, .cons _ t => .cons r t
  | _, _, i + 1, .cons q t => .cons q (Vals.set r i t)
theorem Vals.append : ∀ {xs ys : List V} {us ws : List Value}, Vals xs us → Vals ys ws → Vals (xs ++ ys) (us ++ ws)
  | _, _, _, _, .nil, s => s
  | _, _, _, _, .cons r t, s => .cons r (Vals.append t s)
theorem Vals.take : ∀ {xs : List V} {us : List Value} (n : Nat), Vals xs us → Vals (xs.take n) (us.take n)
  | _, _, 0, _ => .nil
  | _, _, _ + 1, .nil => .nil
  | _, _, n + 1, .cons r t => .cons r (Vals.take n t)
theorem Vals.drop : ∀ {xs : List V} {us : List Value} (n : Nat), Vals xs us → Vals (xs.drop n) (us.drop n)
  | _, _, 0, r => r
  | _, _, _ + 1, .nil => .nil
  | _, _, n + 1, .cons _ t => Vals.drop n t
def RelO : Option V → Option Value → Prop
  | some v, some u => RelV v u
  | none, none => True
  | _, _ => False
def KV {κ : Type} : List (κ × V) → List (κ × Value) → Prop := Paired fun (p : κ × V) (q : κ × Value) => p.1 = q.1 ∧ RelV p.2 q.2

/-- a key of a dict (00_mix): an int or a text -/
def kV : Key → V
  | .inl i => .int i
  | .inr x => .str x

/-- what stands at a tracked address -/
inductive HO where
  /-- a list -/
  | lst (xs : List V)
  /-- a tuple (never changes) -/
  | tup (xs : List V)
  /-- a dict whose keys are ints and texts; one whose keys are tuples of ints and texts (the empty one is both) -/
  | dK (kvs : List (Key × V)) | dT (kvs : List (List Key × V))
  /-- a set of ints: its members, its size -/
  | set (S : Int → Bool) (n : Nat)
  /-- an instance of the class at C, its dict at dx, its attributes -/
  | ins (C dx : Addr) (fs : List (Str × V))
  /-- the dict of the instance at x -/
  | own (x : Addr)
  /-- the dict of an exception -/
  | xd (fs : List (Str × V))
  /-- a bound method, f of x -/
  | met (f x : Addr)
  /-- a range object lo, lo + 1, .. below hi -/
  | rng (lo hi : Int)
  /-- a thing that is known to the object (the script; a dict while a loop walks it): read, never written while it is so -/
  | frz (o : Obj) (u : HO)
  /-- a code object's table -/
  | tbl (ps : Array Value)
  /-- any other thing, by what is true of its one object (a def of one's own: SetO a S n := HO.ext fun h => ..) -/
  | ext (φ : Heap → Prop)

abbrev Hp := Addr → Option HO
def upd (H : Hp) (a : Addr) (o : HO) : Hp := fun b => if b = a then some o else H b
theorem upd_same {H : Hp} {a : Addr} {o : HO} : upd H a o a = some o := by unfold upd; rw [if_pos rfl]
theorem upd_ne {H : Hp} {a b : Addr} {o : HO} (h : b ≠ a) : upd H a o b = H b := by unfold upd; rw [if_neg h]
/-- two objects of different content stand apart -/
theorem ne_of {H : Hp} {a b : Addr} {o u : HO} (h : H a = some o) (h' : H b = some u) (d : o ≠ u) : a ≠ b := by
  intro e; subst e; rw [h] at h'; exact d (Option.some.inj h')
theorem ne_of_none {H : Hp} {a b : Addr} {o : HO} (h : H a = some o) (h' : H b = none) : a ≠ b := by
  intro e; subst e; rw [h] at h'; cases h'

section
variable (P : Program) (w : World)
def TupN (h : Heap) (a : Addr) (items : Array Value) : Prop := ∃ o, h.get? a = some o ∧ o.cls = .type "tuple" ∧ ∃ n, o.data = .seq items n ∧ o.dict = none
theorem TupN.tup {h : Heap} {a : Addr} {items : Array Value} (x : TupN h a items) : IsTup h a items := let ⟨o, e, c, n, d, _⟩ := x; ⟨o, e, c, n, d⟩
theorem TupN.lt {h : Heap} {a : Addr} {items : Array Value} (x : TupN h a items) : a < h.objs.size := x.tup.lt
theorem TupN.new (h : Heap) (items : Array Value) : TupN (h.push { cls := .type "tuple", data := .seq items }) h.objs.size items := ⟨_, Heap.get?_push_size _ rfl, rfl, _, rfl, rfl⟩
def ObjOk (H : Hp) (h : Heap) (a : Addr) : HO → Prop
  | .lst xs => xs.length ≤ sizeLine ∧ ∃ (its : List Value) (n : Nat), Vals xs its ∧ h.get? a = some { cls := .type "list", data := .seq its.toArray n }
  | .tup xs => xs.length ≤ sizeLine ∧ ∃ its : List Value, Vals xs its ∧ TupN h a its.toArray
  | .dK kvs => kvs.length ≤ sizeLine ∧ (a == sysModules) = false ∧ ∃ vs, KV kvs vs ∧ h.DictOf (mixKind P w) a vs
  | .dT kvs => kvs.length ≤ sizeLine ∧ (a == sysModules) = false ∧ ∃ xs : List (List Key × Addr × Value),
      Paired (fun (p : List Key × V) (q : List Key × Addr × Value) => p.1 = q.1 ∧ H q.2.1 = some (.tup (p.1.map kV)) ∧ RelV p.2 q.2.2) kvs xs ∧
      ∃ o es ep, h.get? a = some o ∧ o.ExactDict ∧ o.data = .dict es ep ∧ es.toList = xs.map (entryOfKey (tupleKind (mixKind P w))) ∧ (xs.map (·.1)).Nodup
  | .set S n => h.SetOf (intKind P w) a S n
  | .ins C dx fs => H dx = some (.own a) ∧ fs.length ≤ 1000 ∧ dx ≠ a ∧ h.get? a = some (PySem.W.instObj C dx) ∧
      ∃ mA, h.Ns1 dx mA ∧ (∀ f, RelO (fs.lookup f) (mA f)) ∧ PySem.Within mA (fs.map (·.1))
  | .own _ => ∃ o, h.get? a = some o
  | .xd fs => ∃ mA, h.Ns1 a mA ∧ ∀ f, RelO (fs.lookup f) (mA f)
  | .rng lo hi => ∃ t u v, h.get? a = some { cls := .type "range", data := .fields #[.int lo t, .int hi u, .int 1 v] }
  | .frz o u => h.get? a = some o ∧ ObjOk H h a u
  | .tbl ps => h.get? a = some { cls := .none, data := .fields ps }
  | .met f x => h.get? a = some (PySem.W.methodObj (.ref f) (.ref x))
  | .ext φ => φ h ∧ (∃ o, h.get? a = some o) ∧ ∀ h1 h2 : Heap, φ h1 → (∀ o, h1.get? a = some o → h2.get? a = some o) → φ h2
/-- the abstract heap is held -/
def HOk (H : Hp) (h : Heap) : Prop := ∀ a o, H a = some o → ObjOk P w H h a o
end

section
variable {P : Program} {w : World} {H H' : Hp} {h h' : Heap} {a : Addr} {o : HO}
theorem ObjOk.lt (x : ObjOk P w H h a o) : a < h.objs.size := by
  cases o with
  | lst xs => obtain ⟨_, _, _, _, e⟩ := x; exact Heap.lt_size e
  | tup xs => obtain ⟨_, _, _, p⟩ := x; exact p.lt
  | dK kvs => obtain ⟨_, _, _, _, o, _, _, e, _⟩ := x; exact Heap.lt_size e
  | dT kvs => obtain ⟨_, _, _, _, o, _, _, e, _⟩ := x; exact Heap.lt_size e
  | set S n => obtain ⟨o, _, _, _, e, _⟩ := x; exact Heap.lt_size e
  | ins C dx fs => obtain ⟨_, _, _, e, _⟩ := x; exact Heap.lt_size e
  | own y => obtain ⟨_, e⟩ := x; exact Heap.lt_size e
  | xd fs => obtain ⟨_, ⟨_, _, _, e, _⟩, _⟩ := x; exact Heap.lt_size e
  | rng lo hi => obtain ⟨_, _, _, e⟩ := x; exact Heap.lt_size e
  | frz ob u => obtain ⟨e, _⟩ := x; exact Heap.lt_size e
  | tbl ps => exact Heap.lt_size (show h.get? a = some _ from x)
  | met f y => exact Heap.lt_size (show h.get? a = some _ from x)
  | ext φ => obtain ⟨_, ⟨_, e⟩, _⟩ := x; exact Heap.lt_size e
theorem Paired.mapP {α β : Type} {F G : α → β → Prop} : ∀ {l₁ : List α} {l₂ : List β}, Paired F l₁ l₂ → (∀ a b, F a b → G a b) → Paired G l₁ l₂
  | _, _, .nil, _ => .nil
  | _, _, .cons r t, f => .cons (f _ _ r) (Paired.mapP t f)
/-- what an object's description leans on: its own object, its own dict, the tuples -/
theorem ObjOk.stay (x : ObjOk P w H h a o) (k : ∀ b u, (b = a ∨ H b = some (.own a)) → h.get? b = some u → h'.get? b = some u)
    (ho : ∀ b, H b = some (.own a) → H' b = some (.own a)) (ht : ∀ b xs, H b = some (.tup xs) → H' b = some (.tup xs)) : ObjOk P w H' h' a o := by
  induction o with
  | lst xs => obtain ⟨z, its, n, r, e⟩ := x; exact ⟨z, its, n, r, k _ _ (.inl rfl) e⟩
  | tup xs => obtain ⟨z, its, r, ob, e, c⟩ := x; exact ⟨z, its, r, ob, k _ _ (.inl rfl) e, c⟩
  | dK kvs => obtain ⟨z, y, vs, r, ob, es, ep, e, c⟩ := x; exact ⟨z, y, vs, r, ob, es, ep, k _ _ (.inl rfl) e, c⟩
  | dT kvs =>
    obtain ⟨z, y, xs, r, ob, es, ep, e, c⟩ := x
    exact ⟨z, y, xs, Paired.mapP r fun p q z => ⟨z.1, ht _ _ z.2.1, z.2.2⟩, ob, es, ep, k _ _ (.inl rfl) e, c⟩
  | set S n => obtain ⟨ob, es, ep, t, e, c⟩ := x; exact ⟨ob, es, ep, t, k _ _ (.inl rfl) e, c⟩
  | ins C dx fs =>
    obtain ⟨d, z, ne, e, mA, ⟨od, es, ep, e2, c⟩, r⟩ := x
    exact ⟨ho _ d, z, ne, k _ _ (.inl rfl) e, mA, ⟨od, es, ep, k _ _ (.inr d) e2, c⟩, r⟩
  | own y => obtain ⟨ob, e⟩ := x; exact ⟨ob, k _ _ (.inl rfl) e⟩
  | xd fs => obtain ⟨mA, ⟨od, es, ep, e, c⟩, r⟩ := x; exact ⟨mA, ⟨od, es, ep, k _ _ (.inl rfl) e, c⟩, r⟩
  | rng lo hi => obtain ⟨t, u, v, e⟩ := x; exact ⟨t, u, v, k _ _ (.inl rfl) e⟩
  | frz ob u ih => obtain ⟨e, q⟩ := x; exact ⟨k _ _ (.inl rfl) e, ih q⟩
  | tbl ps =>
    have e : h.get? a = some { cls := .none, data := .fields ps } := x
    show h'.get? a = some { cls := .none, data := .fields ps }
    exact k a _ (.inl rfl) e
  | met f y =>
    have e : h.get? a = some (PySem.W.methodObj (.ref f) (.ref y)) := x
    show h'.get? a = some (PySem.W.methodObj (.ref f) (.ref y))
    exact k a _ (.inl rfl) e
  | ext φ => obtain ⟨p, ⟨o, e⟩, st⟩ := x; exact ⟨st _ _ p fun o q => k _ _ (.inl rfl) q, ⟨o, k _ _ (.inl rfl) e⟩, st⟩
theorem HOk.lt (x : HOk P w H h) (e : H a = some o) : a < h.objs.size := (x a o e).lt
theorem HOk.fresh (x : HOk P w H h) (e : h.objs.size ≤ a) : H a = none := by
  cases q : H a with
  | none => rfl
  | some u => exact absurd (Nat.lt_of_lt_of_le (x.lt q) e) (Nat.lt_irrefl _)
/-- every object of the heap is kept -/
theorem HOk.kept (x : HOk P w H h) (k : ∀ b u, h.get? b = some u → h'.get? b = some u) : HOk P w H h' := fun a o e =>
  (x a o e).stay (fun b u _ q => k b u q) (fun _ q => q) fun _ _ q => q
/-- a new object is laid and tracked -/
theorem HOk.laid (x : HOk P w H h) (k : ∀ b u, h.get? b = some u → h'.get? b = some u) (hp : h.objs.size ≤ a) (new : ObjOk P w (upd H a o) h' a o) : HOk P w (upd H a o) h' := fun b u e => by
  have hn := x.fresh hp
  by_cases hb : b = a
  · subst hb; rw [upd_same] at e; cases e; exact new
  · rw [upd_ne hb] at e
    exact (x b u e).stay (fun c v _ q => k c v q) (fun c q => by rw [upd_ne (ne_of_none q hn)]; exact q) fun c xs q => by rw [upd_ne (ne_of_none q hn)]; exact q
end

/-- what may be read as u: it is u, or a known u -/
def Rd (H : Hp) (a : Addr) (u : HO) : Prop := H a = some u ∨ ∃ o, H a = some (.frz o u)
theorem Rd.of {H : Hp} {a : Addr} {u : HO} (h : H a = some u) : Rd H a u := .inl h
theorem Rd.ok {P : Program} {w : World} {H : Hp} {h : Heap} {a : Addr} {u : HO} (r : Rd H a u) (x : HOk P w H h) : ObjOk P w H h a u := by
  rcases r with r | ⟨o, r⟩
  · exact x a u r
  · obtain ⟨_, q⟩ := x a _ r
    exact q
/-- what may be written -/
def Mut : Option HO → Prop
  | some (.lst _) => True
  | some (.dK _) => True
  | some (.dT _) => True
  | some (.set _ _) => True
  | some (.ins _ _ _) => True
  | some (.ext _) => True
  | _ => False
section
variable {P : Program} {w : World} {H : Hp} {h h' : Heap} {x e : Addr} {o' : HO}
/-- the object at e is changed: x itself, or the dict of the instance x -/
theorem HOk.write (ok : HOk P w H h) (mu : Mut (H x)) (he : e = x ∨ H e = some (.own x)) (k : ∀ b u, b ≠ e → h.get? b = some u → h'.get? b = some u) (heo : ∃ u, h'.get? e = some u)
    (new : ObjOk P w (upd H x o') h' x o') : HOk P w (upd H x o') h' := fun b u q => by
  have nown : ∀ c y, H c = some (.own y) → c ≠ x := fun c y r z => by subst z; rw [r] at mu; exact mu
  have ntup : ∀ c xs, H c = some (.tup xs) → c ≠ x := fun c xs r z => by subst z; rw [r] at mu; exact mu
  by_cases hb : b = x
  · subst hb; rw [upd_same] at q; cases q; exact new
  · rw [upd_ne hb] at q
    by_cases hbe : b = e
    · have q' : H b = some (.own x) := by
        rcases he with z | z
        · exact absurd (hbe.trans z) hb
        · rw [hbe]; exact z
      rw [q] at q'; cases q'
      obtain ⟨v, hv⟩ := heo
      exact ⟨v, by rw [hbe]; exact hv⟩
    · refine (ok b u q).stay (fun c v hc r => k c v ?_ r) (fun c r => by rw [upd_ne (nown c b r)]; exact r) fun c xs r => by rw [upd_ne (ntup c xs r)]; exact r
      rcases hc with rfl | hc
      · exact hbe
      · rintro rfl
        rcases he with z | z
        · exact nown c b hc z
        · rw [hc] at z; cases z; exact hb rfl
end

structure Un (fs ex : List Addr) (H H' : Hp) (h h' : Heap) : Prop where
  keep : ∀ b o, h.get? b = some o → H b = none → b ∉ fs → b ∉ ex → h'.get? b = some o
  slot : ∀ b o, h.get? b = some o → H b = none → b ∈ fs → b ∉ ex → ∃ sl, h'.get? b = some { o with slots := sl }
  free : ∀ b o, h.get? b = some o → H b = none → b ∉ ex → H' b = none
  there : ∀ b o, h.get? b = some o → b ∉ ex → ∃ o', h'.get? b = some o'
  tups : ∀ b xs, H b = some (.tup xs) → H' b = some (.tup xs)
  frzs : ∀ b o u, H b = some (.frz o u) → H' b = some (.frz o u)
  tbls : ∀ b ps, H b = some (.tbl ps) → ∃ more, H' b = some (.tbl (ps ++ more))
section
variable {fs fs' ex ex' : List Addr} {H H1 H2 : Hp} {h h1 h2 h' : Heap} {a x e : Addr} {o : HO}
theorem Un.any (u : Un fs ex H H1 h h1) {b : Addr} {ob : Obj} (q : h.get? b = some ob) (n : H b = none) (hx : b ∉ ex) : ∃ sl, h1.get? b = some { ob with slots := sl } := by
  by_cases hb : b ∈ fs
  · exact u.slot b ob q n hb hx
  · exact ⟨ob.slots, u.keep b ob q n hb hx⟩
theorem Un.trans (a : Un fs ex H H1 h h1) (b : Un fs ex H1 H2 h1 h2) : Un fs ex H H2 h h2 where
  keep := fun c ob q n hc hx => b.keep c ob (a.keep c ob q n hc hx) (a.free c ob q n hx) hc hx
  slot := fun c ob q n hc hx => by
    obtain ⟨sl, e1⟩ := a.slot c ob q n hc hx
    obtain ⟨sl', e2⟩ := b.slot c _ e1 (a.free c ob q n hx) hc hx
    exact ⟨sl', e2⟩
  free := fun c ob q n hx => by
    obtain ⟨o', e1⟩ := a.there c ob q hx
    exact b.free c o' e1 (a.free c ob q n hx) hx
  there := fun c ob q hx => by
    obtain ⟨o', e1⟩ := a.there c ob q hx
    exact b.there c o' e1 hx
  tups := fun c xs q => b.tups c xs (a.tups c xs q)
  frzs := fun c ob xs q => b.frzs c ob xs (a.frzs c ob xs q)
  tbls := fun c ps q => by
    obtain ⟨m1, e1⟩ := a.tbls c ps q
    obtain ⟨m2, e2⟩ := b.tbls c _ e1
    exact ⟨m1 ++ m2, by rw [e2, Array.append_assoc]⟩
theorem Un.kept (k : ∀ b u, h.get? b = some u → h'.get? b = some u) : Un fs ex H H h h' :=
  ⟨fun b ob q _ _ _ => k b ob q, fun b ob q _ _ _ => ⟨ob.slots, k b ob q⟩, fun _ _ _ n _ => n, fun b ob q _ => ⟨ob, k b ob q⟩, fun _ _ q => q, fun _ _ _ q => q, fun _ ps q => ⟨#[], by rw [q]; simp⟩⟩
theorem Un.refl : Un fs ex H H h h := Un.kept fun _ _ q => q
theorem Un.laid (k : ∀ b u, h.get? b = some u → h'.get? b = some u) (hp : h.objs.size ≤ a) (hn : H a = none) : Un fs ex H (upd H a o) h h' where
  keep := fun b u q _ _ _ => k b u q
  slot := fun b u q _ _ _ => ⟨u.slots, k b u q⟩
  free := fun b u q n _ => by rw [upd_ne (Nat.ne_of_lt (Nat.lt_of_lt_of_le (Heap.lt_size q) hp))]; exact n
  there := fun b u q _ => ⟨u, k b u q⟩
  tups := fun b xs q => by rw [upd_ne (ne_of_none q hn)]; exact q
  frzs := fun b u xs q => by rw [upd_ne (ne_of_none q hn)]; exact q
  tbls := fun b ps q => ⟨#[], by rw [upd_ne (ne_of_none q hn), q]; simp⟩
theorem Un.write (mu : Mut (H x)) (he : e = x ∨ H e = some (.own x)) (k : ∀ b u, b ≠ e → h.get? b = some u → h'.get? b = some u) (heo : ∃ u, h'.get? e = some u) : Un fs ex H (upd H x o) h h' := by
  have hx : ∀ b, H b = none → b ≠ x := fun b n z => by subst z; rw [n] at mu; exact mu
  have hb : ∀ b, H b = none → b ≠ e := fun b n z => by
    subst z
    rcases he with r | r
    · exact hx b n r
    · rw [n] at r; cases r
  have hm : ∀ b u, H b = some u → ¬ Mut (some u) → b ≠ x := fun b u q nm z => by subst z; rw [q] at mu; exact nm mu
  refine ⟨fun b u q n _ _ => k b u (hb b n) q, fun b u q n _ _ => ⟨u.slots, k b u (hb b n) q⟩, fun b u q n _ => by rw [upd_ne (hx b n)]; exact n, fun b u q _ => ?_,
    fun b xs q => by rw [upd_ne (hm b _ q fun z => z)]; exact q, fun b u xs q => by rw [upd_ne (hm b _ q fun z => z)]; exact q, fun b ps q => ⟨#[], by rw [upd_ne (hm b _ q fun z => z), q]; simp⟩⟩
  by_cases hbe : b = e
  · subst hbe; exact heo
  · exact ⟨u, k b u hbe q⟩
theorem Un.mono (u : Un fs ex H H1 h h1) (hs : ∀ b ∈ fs, b ∈ fs') (hx : ∀ b ∈ ex, b ∈ ex') : Un fs' ex' H H1 h h1 :=
  ⟨fun b ob q n hb he => u.keep b ob q n (fun z => hb (hs b z)) fun z => he (hx b z), fun _ _ q n _ he => u.any q n fun z => he (hx _ z), fun b ob q n he => u.free b ob q n fun z => he (hx b z), fun b ob q he => u.there b ob q fun z => he (hx b z), u.tups, u.frzs, u.tbls⟩
end

def trk (h : Heap) (H : Hp) : List Addr := (List.range h.objs.size).filter fun a => (H a).isSome
def hidT (h : Heap) (H : Hp) : Heap := PySem.W.hideAll h (trk h H)
theorem hidT_size (h : Heap) (H : Hp) : (hidT h H).objs.size = h.objs.size := PySem.W.hideAll_size _ _
theorem hidT_get {h : Heap} {H : Hp} {b : Addr} {o : Obj} (e : h.get? b = some o) (n : H b = none) : (hidT h H).get? b = some o :=
  PySem.W.hideAll_get _ e fun hm => by
    have q : (H b).isSome = true := (List.mem_filter.mp hm).2
    rw [n] at q; simp at q
theorem of_hidT {h : Heap} {H : Hp} {b : Addr} {o : Obj} (e : (hidT h H).get? b = some o) : h.get? b = some o ∧ H b = none := by
  have e' : h.get? b = some o := PySem.W.of_hideAll (trk h H) e
  refine ⟨e', ?_⟩
  cases q : H b with
  | none => rfl
  | some x =>
    have hm : b ∈ trk h H := List.mem_filter.mpr ⟨List.mem_range.mpr (Heap.lt_size e'), by simp [q]⟩
    have z : (hidT h H).get? b = none := PySem.W.hideAll_none (trk h H) hm
    rw [z] at e; cases e

def allNews (g h : Heap) (L : Addr) : List (Addr × Obj) := (List.range h.objs.size).filterMap fun a => if a = L ∨ (g.get? a).isSome = true then none else (h.get? a).map fun o => (a, o)
def rest (g h : Heap) (L d : Addr) : List (Addr × Obj) := (allNews g h L).filter fun p => decide (p.1 ≠ d)
end L2

namespace L2
open PySem PySem.Spec PyProof.Rows

/-- the module's facts, over the base: the heap at the law's entry without what is tracked there -/
structure Mod (K : PySem.W.Frag) (mg : Str → Option Value) (base : Heap) : Prop where
  kin : K.In base
  glob : base.Ns mainGlobals mg
  blt : ∃ mb, base.Ns builtinsNs mb ∧ ∀ x : Str, x ≠ "__name__" → mb x = bootBuiltins x
  nolimit : base.NoLimit

/-- the context: a def's body (or a comprehension's block) running. base: fixed through the whole law; s₀, H₀: the entry; outer: the frames whose slots others may change (a def's callers); stack: all frames that run;
   ex: iterators that were made ahead of the entry and are walked here (a comprehension's); fn: the names whose cells were made at the entry (a def: all; a comprehension's block: its own); calm: not within an except suite; pn: pins that every state bears; xe: what is wanted of an exception that leaves the code -/
structure Cx where
  prog : Program
  w : World
  K : PySem.W.Frag
  mg : Str → Option Value
  base : Heap
  A : Around
  N : List Str
  s₀ : Shared
  H₀ : Hp
  env : Env
  outer : List Env
  stack : List Env
  ex : List Addr
  fn : Str → Bool
  calm : Bool
  pn : List (Addr × Obj)
  xe : Value → Shared → Prop
/-- the callers' frames -/
def frs (l : List Env) : List Addr := l.filterMap (·.frame)
abbrev Cx.fs (X : Cx) : List Addr := frs X.outer

def Vis (sc : Scope) (x : Str) : Prop := sc.names.lookup x = some .local ∨ sc.names.lookup x = some .cell ∨ sc.names.lookup x = some .free
def Loc (sc : Scope) (x : Str) : Prop := sc.names.lookup x = some .local ∨ sc.names.lookup x = some .cell
def Look (env : Env) (h : Heap) (m : Str → Option Value) (x : Str) (u : Value) : Prop :=
  (env.kindOf x = some .local ∧ m x = some u) ∨ ((env.kindOf x = some .cell ∨ env.kindOf x = some .free) ∧ ∃ c, env.cells.lookup x = some c ∧ h.IsCell c (some u))

structure Cx.Ok (X : Cx) : Prop where
  mod : Mod X.K X.mg X.base
  kind : X.env.scope.kind = .function
  glob : X.env.globals = mainGlobals
  blt : X.env.builtins = builtinsNs
  above : X.s₀.heap.objs.size ≤ X.env.locals
  inj : ∀ x y c, X.env.cells.lookup x = some c → X.env.cells.lookup y = some c → x = y
  has : ∀ x, (X.env.kindOf x = some .cell ∨ X.env.kindOf x = some .free) → ∃ c, X.env.cells.lookup x = some c
  cab : ∀ x c, X.fn x = true → X.env.cells.lookup x = some c → X.s₀.heap.objs.size ≤ c
  hd : X.calm = true → X.A.handled = none
  frames : X.A.frames = some X.stack
  stk : X.stack = X.outer ∨ (X.stack = X.env :: X.outer ∧ X.env.frame = some X.env.locals)
  exf : ∀ b ∈ X.ex, b ≠ X.env.locals ∧ ∀ x c, X.env.cells.lookup x = some c → c ≠ b
  bs : ∀ b o, X.base.get? b = some o → X.s₀.heap.get? b = some o ∧ X.H₀ b = none
  bsz : X.base.objs.size ≤ X.s₀.heap.objs.size
  noex : ∀ b o, X.base.get? b = some o → b ∉ X.ex
  exfs : ∀ b ∈ X.ex, b ∉ X.fs
  funs : X.s₀.heap.FunFrames X.base X.outer
  frf : ∀ b ∈ X.fs, X.H₀ b = none

structure Inv (X : Cx) (pins : List (Addr × Obj)) (σ : List (Option V)) (H : Hp) (s : Shared) : Prop where
  ok : X.Ok
  os : s.os = X.s₀.os
  bare : AllBare s.gens
  base : Un X.fs X.ex X.H₀ H X.s₀.heap s.heap
  loc : ∃ m, s.heap.Ns X.env.locals m ∧ ∀ (i : Nat) (x : Str) (v : V), X.N[i]? = some x → σ[i]? = some (some v) → Vis X.env.scope x → ∃ u, RelV v u ∧ Look X.env s.heap m x u
  cell : ∀ x c, X.env.cells.lookup x = some c → ∃ v, s.heap.IsCell c v
  free : H X.env.locals = none
  freeC : ∀ x c, X.env.cells.lookup x = some c → H c = none
  pin : ∀ p ∈ X.pn ++ pins, s.heap.get? p.1 = some p.2 ∧ H p.1 = none ∧ p.1 ≠ X.env.locals ∧ p.1 ∉ X.fs ∧ ∀ v, p.2.data ≠ .cell v
  hok : HOk X.prog X.w H s.heap
  len : σ.length = X.N.length

section
variable {X : Cx} {pins : List (Addr × Obj)} {σ : List (Option V)} {H H' : Hp} {s : Shared} {h' : Heap}

theorem Cx.Ok.nofr (ok : X.Ok) {b : Addr} {o : Obj} (e : X.base.get? b = some o) : b ∉ X.fs := fun hb => by
  have := (ok.funs.mem hb).1
  rw [e] at this; cases this
theorem Inv.bs (I : Inv X pins σ H s) : ∀ b o, X.base.get? b = some o → s.heap.get? b = some o ∧ H b = none := fun b o e =>
  ⟨I.base.keep b o (I.ok.bs b o e).1 (I.ok.bs b o e).2 (I.ok.nofr e) (I.ok.noex b o e), I.base.free b o (I.ok.bs b o e).1 (I.ok.bs b o e).2 (I.ok.noex b o e)⟩
theorem Inv.bk (I : Inv X pins σ H s) : ∀ b o, X.base.get? b = some o → s.heap.get? b = some o := fun b o e => (I.bs b o e).1
theorem Inv.mod (I : Inv X pins σ H s) : Mod X.K X.mg X.base := I.ok.mod
theorem Inv.kIn (I : Inv X pins σ H s) : X.K.In s.heap := I.ok.mod.kin.keeps I.bk
theorem Inv.nolimit (I : Inv X pins σ H s) : s.heap.NoLimit := I.ok.mod.nolimit.keeps I.bk
/-- the frame over the base: for OpenK's rules (K.In X.base is I.mod.kin) -/
theorem Inv.fr (I : Inv X pins σ H s) : ∃ m, Fr X.base X.env.locals s.heap m :=
  let ⟨m, hn, _⟩ := I.loc
  ⟨m, hn, I.bk, Nat.le_trans I.ok.bsz I.ok.above⟩
theorem Inv.lt (I : Inv X pins σ H s) : X.env.locals < s.heap.objs.size := let ⟨_, hn, _⟩ := I.loc; hn.lt
theorem Inv.sz (I : Inv X pins σ H s) : X.s₀.heap.objs.size ≤ s.heap.objs.size := Nat.le_trans I.ok.above (Nat.le_of_lt I.lt)
theorem Inv.nofs (I : Inv X pins σ H s) {a : Addr} (h : s.heap.objs.size ≤ a) : a ∉ X.fs := fun hb => by
  obtain ⟨_, o, ho, _⟩ := I.ok.funs.mem hb
  exact absurd (Nat.lt_of_lt_of_le (Heap.lt_size ho) (Nat.le_trans I.sz h)) (Nat.lt_irrefl _)
theorem Inv.cne (I : Inv X pins σ H s) : ∀ x c, X.env.cells.lookup x = some c → c ≠ X.env.locals := fun x c e z => by
  obtain ⟨v, o, ho, hd⟩ := I.cell x c e
  obtain ⟨m, ⟨o', es, ep, ho', hd', _⟩, _⟩ := I.loc
  rw [z, ho'] at ho; cases ho; rw [hd'] at hd; cases hd
theorem Inv.funs (I : Inv X pins σ H s) : s.heap.FunFrames X.base X.outer := by
  have all : ∀ (l : List Env), (∀ b ∈ frs l, b ∈ X.fs) → X.s₀.heap.FunFrames X.base l → s.heap.FunFrames X.base l := by
    intro l
    induction l with
    | nil => intro _ _; trivial
    | cons env r ih =>
      intro hs hl
      obtain ⟨hk, ⟨L, o, hf, hn, ho, hd⟩, hr⟩ := hl
      have hL : L ∈ X.fs := hs L (by unfold frs; rw [List.filterMap_cons, hf]; exact List.mem_cons_self)
      obtain ⟨sl, e⟩ := I.base.slot L o ho (I.ok.frf L hL) hL fun z => I.ok.exfs L z hL
      exact ⟨hk, ⟨L, _, hf, hn, e, hd⟩, ih (fun b hb => hs b (by unfold frs; rw [List.filterMap_cons, hf]; exact List.mem_cons_of_mem _ hb)) hr⟩
  exact all X.outer (fun _ hb => hb) I.ok.funs

/-- the frames that run, for a call -/
theorem Inv.stack (I : Inv X pins σ H s) : s.heap.FunFrames X.base X.stack := by
  rcases I.ok.stk with e | ⟨e, hf⟩
  · rw [e]; exact I.funs
  · rw [e]
    obtain ⟨m, hn, _⟩ := I.loc
    refine .cons (by rw [I.ok.kind]; decide) hf hn ?_ I.funs
    exact Heap.get?_none_of_le (Nat.le_trans I.ok.bsz I.ok.above)
theorem Inv.stkSub (I : Inv X pins σ H s) : ∀ b ∈ frs X.stack, b ∈ X.env.locals :: X.fs := fun b hb => by
  rcases I.ok.stk with e | ⟨e, hf⟩
  · rw [e] at hb; exact List.mem_cons_of_mem _ hb
  · rw [e] at hb
    unfold frs at hb
    rw [List.filterMap_cons, hf] at hb
    exact hb
theorem Inv.stkFree (I : Inv X pins σ H s) : ∀ b ∈ frs X.stack, H b = none := fun b hb => by
  rcases List.mem_cons.mp (I.stkSub b hb) with e | hb
  · rw [e]; exact I.free
  · obtain ⟨_, o, ho, _⟩ := I.ok.funs.mem hb
    exact I.base.free b o ho (I.ok.frf b hb) fun z => I.ok.exfs b z hb

/-- THE STEP: the untracked objects but the frame and the records at ch are kept (the callers' frames up to slots), the frame's map is kept, the new abstract heap is held -/
theorem Inv.step {g' : Array GenState} {t' : Nat} {d' : Drawn} {ch : List Addr} (I : Inv X pins σ H s)
    (hch : ∀ b ∈ ch, (b ∈ X.ex ∨ X.s₀.heap.objs.size ≤ b) ∧ b ≠ X.env.locals ∧ (∀ x c, X.env.cells.lookup x = some c → c ≠ b) ∧ ∀ p ∈ X.pn ++ pins, p.1 ≠ b)
    (keep : ∀ b o, b ≠ X.env.locals → b ∉ X.fs → b ∉ ch → s.heap.get? b = some o → H b = none → h'.get? b = some o)
    (slot : ∀ b o, b ≠ X.env.locals → b ∈ X.fs → b ∉ ch → s.heap.get? b = some o → H b = none → ∃ sl, h'.get? b = some { o with slots := sl }) (free : ∀ b o, b ∉ ch → s.heap.get? b = some o → H b = none → H' b = none)
    (there : ∀ b o, b ∉ ch → s.heap.get? b = some o → ∃ o', h'.get? b = some o')
    (tups : ∀ b xs, H b = some (.tup xs) → H' b = some (.tup xs)) (frzs : ∀ b o u, H b = some (.frz o u) → H' b = some (.frz o u)) (tbls : ∀ b ps, H b = some (.tbl ps) → ∃ more, H' b = some (.tbl (ps ++ more)))
    (ns : ∀ m, s.heap.Ns X.env.locals m → h'.Ns X.env.locals m) (hok : HOk X.prog X.w H' h') (hg : AllBare g') :
    Inv X pins σ H' { s with heap := h', gens := g', drawn := d', toks := t' } := by
  have neL : ∀ b o, X.s₀.heap.get? b = some o → b ≠ X.env.locals := fun b o e => Nat.ne_of_lt (Nat.lt_of_lt_of_le (Heap.lt_size e) I.ok.above)
  have neC : ∀ b o, X.s₀.heap.get? b = some o → b ∉ X.ex → b ∉ ch := fun b o e hx hb => by
    rcases (hch b hb).1 with z | z
    · exact hx z
    · exact absurd (Nat.lt_of_lt_of_le (Heap.lt_size e) z) (Nat.lt_irrefl _)
  have cellK : ∀ x c, X.env.cells.lookup x = some c → ∀ v, s.heap.IsCell c v → h'.IsCell c v := fun x c e v ⟨o, ho, hd⟩ => by
    have nch : c ∉ ch := fun z => (hch c z).2.2.1 x c e rfl
    by_cases hc : c ∈ X.fs
    · obtain ⟨sl, q⟩ := slot c o (I.cne x c e) hc nch ho (I.freeC x c e)
      exact ⟨_, q, hd⟩
    · exact ⟨o, keep c o (I.cne x c e) hc nch ho (I.freeC x c e), hd⟩
  refine ⟨I.ok, I.os, hg, ⟨fun b o e n hb hx => ?_, fun b o e n hb hx => ?_, fun b o e n hx => ?_, fun b o e hx => ?_, fun b xs e => tups b xs (I.base.tups b xs e), fun b o xs e => frzs b o xs (I.base.frzs b o xs e), fun b ps e => ?_⟩, ?_, fun x c e => ?_, ?_, fun x c e => ?_, fun p hp => ?_, hok, I.len⟩
  · exact keep b o (neL b o e) hb (neC b o e hx) (I.base.keep b o e n hb hx) (I.base.free b o e n hx)
  · obtain ⟨sl, e1⟩ := I.base.slot b o e n hb hx
    obtain ⟨sl', e2⟩ := slot b _ (neL b o e) hb (neC b o e hx) e1 (I.base.free b o e n hx)
    exact ⟨sl', e2⟩
  · obtain ⟨o', e1⟩ := I.base.there b o e hx
    exact free b o' (neC b o e hx) e1 (I.base.free b o e n hx)
  · obtain ⟨o', e1⟩ := I.base.there b o e hx
    exact there b o' (neC b o e hx) e1
  · obtain ⟨m1, e1⟩ := I.base.tbls b ps e
    obtain ⟨m2, e2⟩ := tbls b _ e1
    exact ⟨m1 ++ m2, by rw [e2, Array.append_assoc]⟩
  · obtain ⟨m, hn, hl⟩ := I.loc
    refine ⟨m, ns m hn, fun i x v e1 e2 e3 => ?_⟩
    obtain ⟨u, r, l⟩ := hl i x v e1 e2 e3
    refine ⟨u, r, ?_⟩
    rcases l with l | ⟨k, c, e, z⟩
    · exact .inl l
    · exact .inr ⟨k, c, e, cellK x c e _ z⟩
  · obtain ⟨v, z⟩ := I.cell x c e
    exact ⟨v, cellK x c e v z⟩
  · obtain ⟨m, ⟨o, _, _, ho, _⟩, _⟩ := I.loc
    exact free _ o (fun z => (hch _ z).2.1 rfl) ho I.free
  · obtain ⟨v, o, ho, hd⟩ := I.cell x c e
    exact free c o (fun z => (hch c z).2.2.1 x c e rfl) ho (I.freeC x c e)
  · obtain ⟨e, n, ne, nf, d⟩ := I.pin p hp
    have nch : p.1 ∉ ch := fun z => (hch p.1 z).2.2.2 p hp rfl
    exact ⟨keep p.1 p.2 ne nf nch e n, free p.1 p.2 nch e n, ne, nf, d⟩
/-- .. where the frame's own object is kept too -/
theorem Inv.un {t' : Nat} (I : Inv X pins σ H s) (u : Un X.fs [] H H' s.heap h') (hok : HOk X.prog X.w H' h') : Inv X pins σ H' { s with heap := h', toks := t' } := by
  obtain ⟨m, ⟨o, es, ep, ho, r⟩, _⟩ := id I.loc
  obtain ⟨sl, hL⟩ := u.any ho I.free (by simp)
  exact I.step (g' := s.gens) (d' := s.drawn) (ch := []) (fun _ z => nomatch z) (fun b o _ hb _ e n => u.keep b o e n hb (by simp)) (fun b o _ hb _ e n => u.slot b o e n hb (by simp)) (fun b o _ e n => u.free b o e n (by simp)) (fun b o _ e => u.there b o e (by simp)) u.tups u.frzs u.tbls (fun m' hm => by
    obtain ⟨o', es', ep', ho', r'⟩ := hm
    rw [ho] at ho'; cases ho'
    exact ⟨_, es', ep', hL, r'⟩) hok I.bare
/-- behind a call (or a comprehension's block): the slots of this frame may have changed too, the records at ch may have turned -/
theorem Inv.call {g' : Array GenState} {t' : Nat} {d' : Drawn} {ch : List Addr} (I : Inv X pins σ H s) (u : Un (frs X.stack) ch H H' s.heap h') (hok : HOk X.prog X.w H' h') (hg : AllBare g')
    (hch : ∀ b ∈ ch, (b ∈ X.ex ∨ X.s₀.heap.objs.size ≤ b) ∧ b ≠ X.env.locals ∧ (∀ x c, X.env.cells.lookup x = some c → c ≠ b) ∧ ∀ p ∈ X.pn ++ pins, p.1 ≠ b) :
    Inv X pins σ H' { s with heap := h', gens := g', drawn := d', toks := t' } := by
  obtain ⟨m, ⟨o, es, ep, ho, r⟩, _⟩ := id I.loc
  obtain ⟨sl, hL⟩ := u.any ho I.free fun z => (hch _ z).2.1 rfl
  exact I.step (ch := ch) hch (fun b o hL hb hc e n => u.keep b o e n (fun z => (List.mem_cons.mp (I.stkSub b z)).elim hL hb) hc) (fun b o _ _ hc e n => u.any e n hc) (fun b o hc e n => u.free b o e n hc) (fun b o hc e => u.there b o e hc) u.tups u.frzs u.tbls (fun m' hm => by
    obtain ⟨o', es', ep', ho', r'⟩ := hm
    rw [ho] at ho'; cases ho'
    exact ⟨_, es', ep', hL, r'⟩) hok hg
/-- an untracked record of ours (an iterator) has turned -/
theorem Inv.turned {t' : Nat} {it : Addr} (I : Inv X pins σ H s) (k : ∀ b o, b ≠ it → s.heap.get? b = some o → h'.get? b = some o) (hn : H it = none) (hL : it ≠ X.env.locals)
    (h1 : it ∈ X.ex ∨ X.s₀.heap.objs.size ≤ it) (h2 : ∀ x c, X.env.cells.lookup x = some c → c ≠ it) (h3 : ∀ p ∈ X.pn ++ pins, p.1 ≠ it) : Inv X pins σ H { s with heap := h', toks := t' } := by
  have nit : ∀ b u, H b = some u → b ≠ it := fun b u e z => by rw [z, hn] at e; cases e
  refine I.step (g' := s.gens) (d' := s.drawn) (ch := [it]) (fun b hb => ?_) (fun b o _ _ hc e _ => k b o (fun z => hc (by simp [z])) e) (fun b o _ _ hc e _ => ⟨o.slots, k b o (fun z => hc (by simp [z])) e⟩) (fun _ _ _ _ n => n)
    (fun b o hc e => ⟨o, k b o (fun z => hc (by simp [z])) e⟩) (fun _ _ e => e) (fun _ _ _ e => e) (fun b ps e => ⟨#[], by rw [e]; simp⟩) (fun m hm => ?_) (fun b u e => ?_) I.bare
  · have e : b = it := by simpa using hb
    subst e
    exact ⟨h1, hL, h2, h3⟩
  · obtain ⟨o, es, ep, ho, r⟩ := hm
    exact ⟨o, es, ep, k _ o (Ne.symm hL) ho, r⟩
  · refine (I.hok b u e).stay (fun c v hc q => k c v ?_ q) (fun _ q => q) fun _ _ q => q
    rcases hc with z | z
    · rw [z]; exact nit b u e
    · exact nit c _ z
theorem Inv.tok (I : Inv X pins σ H s) (t : Nat) : Inv X pins σ H { s with toks := t } := I.un (h' := s.heap) (t' := t) Un.refl I.hok
/-- all objects kept -/
theorem Inv.kept {t' : Nat} (I : Inv X pins σ H s) (k : ∀ b u, s.heap.get? b = some u → h'.get? b = some u) : Inv X pins σ H { s with heap := h', toks := t' } := I.un (Un.kept k) (I.hok.kept k)
/-- a new object laid and tracked -/
theorem Inv.laid {a : Addr} {o : HO} {t' : Nat} (I : Inv X pins σ H s) (k : ∀ b u, s.heap.get? b = some u → h'.get? b = some u) (hp : s.heap.objs.size ≤ a) (new : ObjOk X.prog X.w (upd H a o) h' a o) :
    Inv X pins σ (upd H a o) { s with heap := h', toks := t' } := I.un (Un.laid k hp (I.hok.fresh hp)) (I.hok.laid k hp new)
/-- an object written -/
theorem Inv.write {x e : Addr} {o : HO} {t' : Nat} (I : Inv X pins σ H s) (mu : Mut (H x)) (he : e = x ∨ H e = some (.own x)) (k : ∀ b u, b ≠ e → s.heap.get? b = some u → h'.get? b = some u) (heo : ∃ u, h'.get? e = some u)
    (new : ObjOk X.prog X.w (upd H x o) h' x o) : Inv X pins σ (upd H x o) { s with heap := h', toks := t' } := I.un (Un.write mu he k heo) (I.hok.write mu he k heo new)
theorem Inv.pins_of {pins' : List (Addr × Obj)} (I : Inv X pins σ H s) (h : ∀ p ∈ pins', s.heap.get? p.1 = some p.2 ∧ H p.1 = none ∧ p.1 ≠ X.env.locals ∧ p.1 ∉ X.fs ∧ ∀ v, p.2.data ≠ .cell v) : Inv X pins' σ H s :=
  ⟨I.ok, I.os, I.bare, I.base, I.loc, I.cell, I.free, I.freeC, fun p hp => (List.mem_append.mp hp).elim (fun z => I.pin p (List.mem_append_left _ z)) (h p), I.hok, I.len⟩

theorem nodup_ix {N : List Str} (hN : N.Nodup) {i j : Nat} {x : Str} (a : N[i]? = some x) (b : N[j]? = some x) : i = j := by
  obtain ⟨h1, e1⟩ := List.getElem?_eq_some_iff.mp a
  obtain ⟨h2, e2⟩ := List.getElem?_eq_some_iff.mp b
  exact (List.getElem_inj hN).mp (e1.trans e2.symm)

/-- a name is stored; what changed -/
theorem store_ok2 {M : Model} {A : Around} {E : Value → Shared → Prop} {i : Nat} {x : Str} {v : V} {u : Value} {Q : Unit → Shared → Prop} (I : Inv X pins σ H s) (hN : X.N.Nodup) (hi : X.N[i]? = some x) (hx : Loc X.env.scope x) (r : RelV v u)
    (h : ∀ s', Inv X pins (σ.set i (some v)) H s' → (∃ a, Heap.SameBut a s.heap s'.heap ∧ (a = X.env.locals ∨ X.env.cells.lookup x = some a)) → Q () s') (hf : X.fn x = true ∨ X.env.scope.names.lookup x = some .local := by first | exact .inl rfl | exact .inr rfl | assumption) : wpAny M A (storeName X.env x u) Q E s := by
  obtain ⟨m, hn, hl⟩ := id I.loc
  have hcls : (X.env.scope.kind == .class || (X.env.scope.kind == .module && X.env.locals != X.env.globals)) = false := by rw [I.ok.kind]; rfl
  have hiσ : i < σ.length := by rw [I.len]; exact (List.getElem?_eq_some_iff.mp hi).1
  have cne := I.cne
  have tracked : ∀ {a : Addr} {h' : Heap}, (∃ o, s.heap.get? a = some o ∧ H a = none) → Heap.SameBut a s.heap h' → HOk X.prog X.w H h' := fun {a h'} ha hs b ob e => by
    obtain ⟨_, _, hfree⟩ := ha
    refine (I.hok b ob e).stay (fun c w' hc q => (hs.2 c ?_).trans q) (fun _ q => q) fun _ _ q => q
    rintro rfl
    rcases hc with rfl | hc
    · rw [hfree] at e; cases e
    · rw [hfree] at hc; cases hc
  rcases hx with hk | hk
  · refine wpAny_storeName_local hk hn (fun h' hn' hs => ?_) hcls
    obtain ⟨oL, _, _, hoL, _⟩ := id hn
    refine h _ ⟨I.ok, I.os, I.bare, ⟨fun b o e n hb hx => ?_, fun b o e n hb hx => ?_, I.base.free, fun b o e hx => ?_, I.base.tups, I.base.frzs, I.base.tbls⟩, ⟨_, hn', fun j y v' e1 e2 e3 => ?_⟩, fun y c e => ?_, I.free, I.freeC, fun p hp => ?_, tracked ⟨oL, hoL, I.free⟩ hs, by simpa using I.len⟩ ⟨_, hs, .inl rfl⟩
    · exact (hs.2 b (Nat.ne_of_lt (Nat.lt_of_lt_of_le (Heap.lt_size e) I.ok.above))).trans (I.base.keep b o e n hb hx)
    · obtain ⟨sl, e1⟩ := I.base.slot b o e n hb hx
      exact ⟨sl, (hs.2 b (Nat.ne_of_lt (Nat.lt_of_lt_of_le (Heap.lt_size e) I.ok.above))).trans e1⟩
    · obtain ⟨o', e1⟩ := I.base.there b o e hx
      exact ⟨o', (hs.2 b (Nat.ne_of_lt (Nat.lt_of_lt_of_le (Heap.lt_size e) I.ok.above))).trans e1⟩
    · by_cases hj : j = i
      · subst hj
        rw [hi] at e1; cases e1
        rw [List.getElem?_set_self hiσ] at e2
        cases e2
        exact ⟨u, r, .inl ⟨hk, by simp⟩⟩
      · rw [List.getElem?_set_ne (Ne.symm hj)] at e2
        obtain ⟨u', r', q⟩ := hl j y v' e1 e2 e3
        refine ⟨u', r', ?_⟩
        rcases q with ⟨k, e⟩ | ⟨k, c, e, z⟩
        · refine .inl ⟨k, ?_⟩
          have : y ≠ x := fun e => hj (nodup_ix hN e1 (e ▸ hi))
          simp [this, e]
        · exact .inr ⟨k, c, e, z.sameBut hs (cne y c e)⟩
    · obtain ⟨w', z⟩ := I.cell y c e
      exact ⟨w', z.sameBut hs (cne y c e)⟩
    · obtain ⟨e, n, ne, nf, d⟩ := I.pin p hp
      exact ⟨(hs.2 p.1 ne).trans e, n, ne, nf, d⟩
  · have hfn : X.fn x = true := by
      rcases hf with z | z
      · exact z
      · rw [z] at hk; cases hk
    obtain ⟨c, hc⟩ := I.ok.has x (.inl hk)
    obtain ⟨w', z⟩ := I.cell x c hc
    refine wpAny_storeName_cell I.ok.kind hk hc z (fun h' hc' hs => ?_)
    obtain ⟨oc, hoc, hocd⟩ := id z
    refine h { s with heap := h' } ⟨I.ok, I.os, I.bare, ⟨fun b o e n hb hx => ?_, fun b o e n hb hx => ?_, I.base.free, fun b o e hx => ?_, I.base.tups, I.base.frzs, I.base.tbls⟩, ⟨m, hn.sameBut hs (Ne.symm (cne x c hc)), fun j y v' e1 e2 e3 => ?_⟩, fun y c' e => ?_, I.free, I.freeC, fun p hp => ?_, tracked ⟨oc, hoc, I.freeC x c hc⟩ hs, by simpa using I.len⟩ ⟨c, hs, .inr hc⟩
    · exact (hs.2 b (Nat.ne_of_lt (Nat.lt_of_lt_of_le (Heap.lt_size e) (I.ok.cab x c hfn hc)))).trans (I.base.keep b o e n hb hx)
    · obtain ⟨sl, e1⟩ := I.base.slot b o e n hb hx
      exact ⟨sl, (hs.2 b (Nat.ne_of_lt (Nat.lt_of_lt_of_le (Heap.lt_size e) (I.ok.cab x c hfn hc)))).trans e1⟩
    · obtain ⟨o', e1⟩ := I.base.there b o e hx
      exact ⟨o', (hs.2 b (Nat.ne_of_lt (Nat.lt_of_lt_of_le (Heap.lt_size e) (I.ok.cab x c hfn hc)))).trans e1⟩
    · by_cases hj : j = i
      · subst hj
        rw [hi] at e1; cases e1
        rw [List.getElem?_set_self hiσ] at e2
        cases e2
        exact ⟨u, r, .inr ⟨.inl hk, c, hc, hc'⟩⟩
      · rw [List.getElem?_set_ne (Ne.symm hj)] at e2
        obtain ⟨u', r', q⟩ := hl j y v' e1 e2 e3
        refine ⟨u', r', ?_⟩
        rcases q with q | ⟨k, c', e, z'⟩
        · exact .inl q
        · refine .inr ⟨k, c', e, z'.sameBut hs ?_⟩
          rintro rfl
          exact hj (nodup_ix hN e1 (I.ok.inj _ _ _ e hc ▸ hi))
    · by_cases hcc : c' = c
      · subst hcc; exact ⟨_, hc'⟩
      · obtain ⟨w2, z2⟩ := I.cell y c' e
        exact ⟨w2, z2.sameBut hs hcc⟩
    · obtain ⟨e, n, ne, nf, d⟩ := I.pin p hp
      refine ⟨(hs.2 p.1 ?_).trans e, n, ne, nf, d⟩
      intro q
      rw [q, hoc] at e
      have q' : oc = p.2 := Option.some.inj e
      exact d w' (by rw [← q']; exact hocd)
theorem store_ok {M : Model} {A : Around} {E : Value → Shared → Prop} {i : Nat} {x : Str} {v : V} {u : Value} {Q : Unit → Shared → Prop} (I : Inv X pins σ H s) (hN : X.N.Nodup) (hi : X.N[i]? = some x) (hx : Loc X.env.scope x) (r : RelV v u)
    (h : ∀ s', Inv X pins (σ.set i (some v)) H s' → Q () s') (hf : X.fn x = true ∨ X.env.scope.names.lookup x = some .local := by first | exact .inl rfl | exact .inr rfl | assumption) : wpAny M A (storeName X.env x u) Q E s :=
  store_ok2 I hN hi hx r (fun s' I' _ => h s' I') hf
/-- behind a call or a block, the state as it is -/
theorem Inv.call' {s' : Shared} {ch : List Addr} (I : Inv X pins σ H s) (ho : s'.os = s.os) (u : Un (frs X.stack) ch H H' s.heap s'.heap) (hok : HOk X.prog X.w H' s'.heap) (hg : AllBare s'.gens)
    (hch : ∀ b ∈ ch, (b ∈ X.ex ∨ X.s₀.heap.objs.size ≤ b) ∧ b ≠ X.env.locals ∧ (∀ x c, X.env.cells.lookup x = some c → c ≠ b) ∧ ∀ p ∈ X.pn ++ pins, p.1 ≠ b) : Inv X pins σ H' s' := by
  obtain ⟨h', g', d', t', o'⟩ := s'
  have e : o' = s.os := ho
  subst e
  exact I.call (g' := g') (t' := t') (d' := d') u hok hg hch
end

/-- an exception: its class, its own dict's address (where it has one), the abstract heap behind it -/
abbrev XK := Value → Option Addr → Hp → Prop
abbrev St := List (Option V)
abbrev VK := V → Hp → Prop
/-- an expression's reading; a test's; an argument list's -/
abbrev TE := St → Hp → VK → Prop
abbrev TT := St → Hp → (Bool → Hp → Prop) → Prop
abbrev TA := St → Hp → (List V → Hp → Prop) → Prop
/-- what is wanted behind a statement -/
structure Ends where
  nx : St → Hp → Prop
  rt : VK
  bk : St → Hp → Prop := fun _ _ => False
  ct : St → Hp → Prop := fun _ _ => False
abbrev TS := Ends → St → Hp → Prop

def EP (X : Cx) (pins : List (Addr × Obj)) (σ : St) (Q : VK) (u : Value) (s' : Shared) : Prop := ∃ v H', Inv X pins σ H' s' ∧ RelV v u ∧ Q v H'
def TP (X : Cx) (pins : List (Addr × Obj)) (σ : St) (Q : Bool → Hp → Prop) (b : Bool) (s' : Shared) : Prop := ∃ H', Inv X pins σ H' s' ∧ Q b H'
def AP (X : Cx) (pins : List (Addr × Obj)) (σ : St) (Q : List V → Hp → Prop) (us : List Value) (s' : Shared) : Prop := ∃ vs H', Inv X pins σ H' s' ∧ Vals vs us ∧ Q vs H'
def SP (X : Cx) (pins : List (Addr × Obj)) (D : Ends) (f : Flow) (s' : Shared) : Prop :=
  match f with
  | .next => ∃ σ' H', Inv X pins σ' H' s' ∧ D.nx σ' H'
  | .brk => ∃ σ' H', Inv X pins σ' H' s' ∧ D.bk σ' H'
  | .cont => ∃ σ' H', Inv X pins σ' H' s' ∧ D.ct σ' H'
  | .ret u => ∃ v σ' H', Inv X pins σ' H' s' ∧ RelV v u ∧ D.rt v H'

def PE (X : Cx) (e : Expr) (t : TE) : Prop :=
  ∀ (pins : List (Addr × Obj)) (s : Shared) (σ : St) (H : Hp) (Q : VK), Inv X pins σ H s → t σ H Q → wpAny (model X.prog X.w) X.A (eval e X.env) (EP X pins σ Q) X.xe s
def PT (X : Cx) (e : Expr) (t : TT) : Prop :=
  ∀ (pins : List (Addr × Obj)) (s : Shared) (σ : St) (H : Hp) (Q : Bool → Hp → Prop), Inv X pins σ H s → t σ H Q → wpAny (model X.prog X.w) X.A (isTrue e X.env (eval e X.env)) (TP X pins σ Q) X.xe s
/-- a test whatever its 'whole' is (and, or) -/
def PW (X : Cx) (e : Expr) (t : TT) : Prop :=
  ∀ (whole : Sem Value) (pins : List (Addr × Obj)) (s : Shared) (σ : St) (H : Hp) (Q : Bool → Hp → Prop), Inv X pins σ H s → t σ H Q → wpAny (model X.prog X.w) X.A (isTrue e X.env whole) (TP X pins σ Q) X.xe s
theorem PW.pt {X : Cx} {e : Expr} {t : TT} (h : PW X e t) : PT X e t := h _
/-- an argument list (no star), from the left -/
def PA (X : Cx) (es : List Expr) (t : TA) : Prop :=
  ∀ (pos : Pos) (pins : List (Addr × Obj)) (s : Shared) (σ : St) (H : Hp) (Q : List V → Hp → Prop), Inv X pins σ H s → t σ H Q → wpAny (model X.prog X.w) X.A (spliced (backTo pos (starEach es X.env))) (AP X pins σ Q) X.xe s
def PS (X : Cx) (st : Stmt) (t : TS) : Prop :=
  ∀ (pins : List (Addr × Obj)) (s : Shared) (σ : St) (H : Hp) (D : Ends), Inv X pins σ H s → t D σ H → wpAny (model X.prog X.w) X.A (exec st X.env) (SP X pins D) X.xe s
def PSs (X : Cx) (st : List Stmt) (t : TS) : Prop :=
  ∀ (pins : List (Addr × Obj)) (s : Shared) (σ : St) (H : Hp) (D : Ends), Inv X pins σ H s → t D σ H → wpAny (model X.prog X.w) X.A (execs st X.env) (SP X pins D) X.xe s
/-- weaken the end -/
theorem thn {α : Type} {t : Sem α} {Q Q' : α → Shared → Prop} {M : Model} {A : Around} {E : Value → Shared → Prop} {s : Shared} (h : wpAny M A t Q E s) (hQ : ∀ a s, Q a s → Q' a s) : wpAny M A t Q' E s := wpAny_mono h hQ fun _ _ x => x
end L2

namespace L2
open PySem PySem.Spec PyProof.Rows
section
variable {X : Cx}

def tVar (i : Nat) : TE := fun σ H Q => ∃ v, σ[i]? = some (some v) ∧ Q v H
def tC (v : V) : TE := fun _ H Q => Q v H
theorem pe_var {i : Nat} {x : Str} {pos : Pos} (hN : X.N[i]? = some x) (hv : Vis X.env.scope x) (hd : (x == ("__debug__" : Str)) = false := by decide) (hcd : (x == ("__classdict__" : Str)) = false := by decide) : PE X (.Name x pos) (tVar i) := by
  intro pins s σ H Q I h
  obtain ⟨v, e, h⟩ := h
  obtain ⟨m, hn, hl⟩ := I.loc
  obtain ⟨u, r, l⟩ := hl i x v hN e hv
  have fin : EP X pins σ Q u s := ⟨v, H, I, r, h⟩
  rcases l with ⟨hk, hm⟩ | ⟨hk, c, hc, hcell⟩
  · exact wpAny_Name (wpAny_loadName_local I.ok.kind hk hn hm fin) hd
  · rcases hk with hk | hk
    · exact wpAny_Name (wpAny_loadName_cell I.ok.kind hk hc hcell fin) hd
    · exact wpAny_Name (wpAny_loadName_free I.ok.kind hk hc hcell fin hcd) hd
theorem pe_int {i j pos} : PE X (.Constant (.int i) j pos) (tC (.int i)) := fun _ _ _ H _ I h => wpAny_Constant_int ⟨.int i, H, I.tok _, ⟨_, rfl⟩, h⟩
theorem pe_bl {b j pos} : PE X (.Constant (.bool b) j pos) (tC (.bl b)) := fun _ _ _ H _ I h => Constant_bool ⟨.bl b, H, I, rfl, h⟩
theorem pe_non {j pos} : PE X (.Constant .none j pos) (tC .non) := fun _ _ _ H _ I h => Constant_none ⟨.non, H, I, rfl, h⟩
theorem pe_str {x j pos} : PE X (.Constant (.str x) j pos) (tC (.str x)) := fun _ _ _ H _ I h => Calls.Constant_str ⟨.str x, H, I.tok _, ⟨_, rfl⟩, h⟩

/-- a global name of the def -/
def Gl (X : Cx) (x : Str) : Prop := X.env.kindOf x = some .globalImplicit
theorem ld_glob {E : Value → Shared → Prop} {pins : List (Addr × Obj)} {s : Shared} {σ : St} {H : Hp} {x : Str} {u : Value} {pos : Pos} {Q : Value → Shared → Prop} (I : Inv X pins σ H s) (hg : Gl X x) (hm : X.mg x = some u) (h : Q u s)
    (hd : (x == ("__debug__" : Str)) = false := by decide) : wpAny (model X.prog X.w) X.A (eval (.Name x pos) X.env) Q E s :=
  Calls.Name_function_global I.ok.kind hg (Calls.loadGlobal_global (by rw [I.ok.glob]; exact I.mod.glob.keeps I.bk) hm h) hd
theorem ld_blt {E : Value → Shared → Prop} {pins : List (Addr × Obj)} {s : Shared} {σ : St} {H : Hp} {x : Str} {u : Value} {pos : Pos} {Q : Value → Shared → Prop} (I : Inv X pins σ H s) (hg : Gl X x) (hm : X.mg x = none) (hv : bootBuiltins x = some u) (h : Q u s)
    (hn : x ≠ "__name__" := by decide) (hd : (x == ("__debug__" : Str)) = false := by decide) : wpAny (model X.prog X.w) X.A (eval (.Name x pos) X.env) Q E s := by
  obtain ⟨mb, h1, h2⟩ := I.mod.blt
  exact Calls.Name_function_global I.ok.kind hg (Calls.loadGlobal_builtin (by rw [I.ok.glob]; exact I.mod.glob.keeps I.bk) hm (by rw [I.ok.blt]; exact h1.keeps I.bk) ((h2 x hn).trans hv) h) hd
/-- a module's constant, a class, a function, as a value -/
theorem pe_glob {x : Str} {v : V} {u : Value} {pos : Pos} (hg : Gl X x) (hm : X.mg x = some u) (r : RelV v u) (hd : (x == ("__debug__" : Str)) = false := by decide) : PE X (.Name x pos) (tC v) :=
  fun _ _ _ H _ I h => ld_glob I hg hm ⟨v, H, I, r, h⟩ hd
theorem pe_bltn {x : Str} {v : V} {u : Value} {pos : Pos} (hg : Gl X x) (hm : X.mg x = none) (hv : bootBuiltins x = some u) (r : RelV v u) (hn : x ≠ "__name__" := by decide) (hd : (x == ("__debug__" : Str)) = false := by decide) : PE X (.Name x pos) (tC v) :=
  fun _ _ _ H _ I h => ld_blt I hg hm hv ⟨v, H, I, r, h⟩ hn hd

variable {a b : Expr} {ta tb : TE} {pos : Pos}
/-- a comparison as a value, as a test -/
def tB (t : TE) : TT := fun σ H Q => t σ H fun x H1 => ∃ c, x = .bl c ∧ Q c H1
/-- an expression whose value is a bool, as a test -/
theorem pt_val {e : Expr} {t : TE} (h : PE X e t) (he : ∀ whole, isTrue e X.env whole = (do let v ← whole; standAt e.pos; holding [v] (truthy v)) := by intro _; rfl) : PT X e (tB t) := by
  intro pins s σ H Q I hw
  refine isTrue_plain (thn (h pins s σ H _ I hw) fun v s1 ⟨x, H1, I1, r1, q1⟩ => ?_) (he _)
  obtain ⟨d, rfl, q⟩ := q1
  cases r1
  exact wpAny_truthy_bool ⟨H1, I1, q⟩

variable {tA tB' : TT} {rest : List Expr}
def tAnd (t u : TT) : TT := fun σ H Q => t σ H fun c H1 => if c = true then u σ H1 Q else Q false H1
def tOr (t u : TT) : TT := fun σ H Q => t σ H fun c H1 => if c = true then Q true H1 else u σ H1 Q
def tNot (t : TT) : TT := fun σ H Q => t σ H fun c H1 => Q (!c) H1
theorem pw_and1 (ha : PT X a tA) : PW X (.BoolOp .And [a] pos) tA := by
  intro wh pins s σ H Q I h
  refine isTrue_and (thn (ha pins s σ H Q I h) fun c s1 e => ?_)
  cases c with
  | true => exact isTrue_and_nil e
  | false => exact e
theorem pw_or1 (ha : PT X a tA) : PW X (.BoolOp .Or [a] pos) tA := by
  intro wh pins s σ H Q I h
  refine isTrue_or (thn (ha pins s σ H Q I h) fun c s1 e => ?_)
  cases c with
  | false => exact isTrue_or_nil e
  | true => exact e
theorem pw_and (ha : PT X a tA) (hb : PW X (.BoolOp .And (b :: rest) pos) tB') : PW X (.BoolOp .And (a :: b :: rest) pos) (tAnd tA tB') := by
  intro wh pins s σ H Q I h
  refine isTrue_and (thn (ha pins s σ H _ I h) fun c s1 ⟨H1, I1, q1⟩ => ?_)
  cases c with
  | true => exact hb wh pins s1 σ H1 Q I1 q1
  | false => exact ⟨H1, I1, q1⟩
theorem pw_or (ha : PT X a tA) (hb : PW X (.BoolOp .Or (b :: rest) pos) tB') : PW X (.BoolOp .Or (a :: b :: rest) pos) (tOr tA tB') := by
  intro wh pins s σ H Q I h
  refine isTrue_or (thn (ha pins s σ H _ I h) fun c s1 ⟨H1, I1, q1⟩ => ?_)
  cases c with
  | true => exact ⟨H1, I1, q1⟩
  | false => exact hb wh pins s1 σ H1 Q I1 q1
theorem pt_not (ha : PT X a tA) : PT X (.UnaryOp .Not a pos) (tNot tA) := by
  intro pins s σ H Q I h
  exact isTrue_not (ha pins s σ H (fun c H1 => Q (!c) H1) I h)
/-- .. as values (bools) -/
def tAndV (ta tb : TE) : TE := fun σ H Q => ta σ H fun x H1 => ∃ c, x = .bl c ∧ if c = true then tb σ H1 Q else Q (.bl false) H1
def tOrV (ta tb : TE) : TE := fun σ H Q => ta σ H fun x H1 => ∃ c, x = .bl c ∧ if c = true then Q (.bl true) H1 else tb σ H1 Q
def tNotV (ta : TE) : TE := fun σ H Q => ta σ H fun x H1 => ∃ c, x = .bl c ∧ Q (.bl (!c)) H1
theorem pe_one {op} {t : TE} (h : PE X a t) : PE X (.BoolOp op [a] pos) t := fun pins s σ H Q I hw => BoolOp_one (h pins s σ H Q I hw)
theorem pe_and (ha : PE X a ta) (hb : PE X (.BoolOp .And (b :: rest) pos) tb) : PE X (.BoolOp .And (a :: b :: rest) pos) (tAndV ta tb) := by
  intro pins s σ H Q I h
  refine BoolOp_and (thn (ha pins s σ H _ I h) fun v s1 ⟨x, H1, I1, r1, q1⟩ => ?_)
  obtain ⟨c, rfl, q1⟩ := q1
  cases r1
  refine wpAny_truthy_bool ?_
  cases c with
  | true => exact hb pins s1 σ H1 Q I1 q1
  | false => exact ⟨.bl false, H1, I1, rfl, q1⟩
theorem pe_or (ha : PE X a ta) (hb : PE X (.BoolOp .Or (b :: rest) pos) tb) : PE X (.BoolOp .Or (a :: b :: rest) pos) (tOrV ta tb) := by
  intro pins s σ H Q I h
  refine BoolOp_or (thn (ha pins s σ H _ I h) fun v s1 ⟨x, H1, I1, r1, q1⟩ => ?_)
  obtain ⟨c, rfl, q1⟩ := q1
  cases r1
  refine wpAny_truthy_bool ?_
  cases c with
  | false => exact hb pins s1 σ H1 Q I1 q1
  | true => exact ⟨.bl true, H1, I1, rfl, q1⟩
theorem pe_not (ha : PE X a ta) : PE X (.UnaryOp .Not a pos) (tNotV ta) := by
  intro pins s σ H Q I h
  refine UnaryOp_ (thn (ha pins s σ H _ I h) fun v s1 ⟨x, H1, I1, r1, q1⟩ => ?_)
  obtain ⟨c, rfl, q1⟩ := q1
  cases r1
  exact not_of (wpAny_truthy_bool ⟨.bl (!c), H1, I1, rfl, q1⟩)
/-- a if t else b -/
def tIf (t : TT) (ta tb : TE) : TE := fun σ H Q => t σ H fun c H1 => if c = true then ta σ H1 Q else tb σ H1 Q
theorem pe_ifExp {c : Expr} (hc : PT X c tA) (ha : PE X a ta) (hb : PE X b tb) : PE X (.IfExp c a b pos) (tIf tA ta tb) := by
  intro pins s σ H Q I h
  refine wpAny_IfExp (thn (hc pins s σ H _ I h) fun d s1 ⟨H1, I1, q1⟩ => ?_)
  cases d with
  | true => exact ha pins s1 σ H1 Q I1 q1
  | false => exact hb pins s1 σ H1 Q I1 q1
end
end L2

namespace L2
open PySem PySem.Spec PyProof.Rows

def SqL (K : PySem.W.Frag) (H : Hp) (a : Addr) (xs : List V) : Prop :=
  Rd H a (.lst xs) ∨
    ∃ (o : Obj) (its : Array Value) (n : Nat), K.lookup a = some o ∧ o.cls = .type "list" ∧ o.dict = none ∧ o.data = .seq its n ∧ its.size ≤ sizeLine ∧ Vals xs its.toList
def SqT (K : PySem.W.Frag) (H : Hp) (a : Addr) (xs : List V) : Prop :=
  Rd H a (.tup xs) ∨
    ∃ (o : Obj) (its : Array Value) (n : Nat), K.lookup a = some o ∧ o.cls = .type "tuple" ∧ o.dict = none ∧ o.data = .seq its n ∧ its.size ≤ sizeLine ∧ Vals xs its.toList
def absV : Value → Option V
  | .none => some .non
  | .bool b => some (.bl b)
  | .int i _ => some (.int i)
  | .str x _ => some (.str x)
  | .bytes b _ => some (.byt b)
  | .float b _ => some (.flt b)
  | .ref a => some (.ref a)
  | .type n => some (.ty n)
  | _ => none
theorem RelV.abs {x : V} {u : Value} (r : RelV x u) : absV u = some x := by
  cases x with
  | non => cases r; rfl
  | bl _ => cases r; rfl
  | int _ => obtain ⟨t, rfl⟩ := r; rfl
  | str _ => obtain ⟨t, rfl⟩ := r; rfl
  | byt _ => obtain ⟨t, rfl⟩ := r; rfl
  | flt _ => obtain ⟨t, rfl⟩ := r; rfl
  | ref _ => cases r; rfl
  | ty _ => cases r; rfl
theorem RelV.inj {x y : V} {u : Value} (r : RelV x u) (q : RelV y u) : x = y := Option.some.inj (r.abs.symm.trans q.abs)
theorem Vals.inj : ∀ {xs ys : List V} {us : List Value}, Vals xs us → Vals ys us → xs = ys
  | _, _, _, .nil, .nil => rfl
  | _, _, _, .cons r t, .cons r' t' => by rw [r.inj r', Vals.inj t t']
section
variable {X : Cx} {pins : List (Addr × Obj)} {σ : St} {H : Hp} {s : Shared} {a : Addr} {xs ys : List V}
theorem SqL.of {K : PySem.W.Frag} (h : H a = some (.lst xs)) : SqL K H a xs := .inl (.inl h)
theorem SqT.of {K : PySem.W.Frag} (h : H a = some (.tup xs)) : SqT K H a xs := .inl (.inl h)
theorem Inv.list (I : Inv X pins σ H s) (h : SqL X.K H a xs) : ∃ its : List Value, Vals xs its ∧ PlainL s.heap a its.toArray ∧ xs.length ≤ sizeLine := by
  rcases h with h | ⟨o, its, n, hk, hc, hd, hs, hz, r⟩
  · obtain ⟨z, its, n, r, e⟩ := h.ok I.hok
    exact ⟨its, r, ⟨_, n, e, rfl, rfl, rfl⟩, z⟩
  · refine ⟨its.toList, r, ⟨o, n, I.kIn a o hk, hc, hd, by simpa using hs⟩, ?_⟩
    have e := r.length
    simp only [Array.length_toList] at e
    omega
theorem Inv.tuple (I : Inv X pins σ H s) (h : SqT X.K H a xs) : ∃ its : List Value, Vals xs its ∧ IsTup s.heap a its.toArray ∧ xs.length ≤ sizeLine := by
  rcases h with h | ⟨o, its, n, hk, hc, _, hs, hz, r⟩
  · obtain ⟨z, its, r, p⟩ := h.ok I.hok
    exact ⟨its, r, p.tup, z⟩
  · refine ⟨its.toList, r, ⟨o, I.kIn a o hk, hc, n, by simpa using hs⟩, ?_⟩
    have e := r.length
    simp only [Array.length_toList] at e
    omega
theorem Inv.tupleN (I : Inv X pins σ H s) (h : SqT X.K H a xs) : ∃ o, s.heap.get? a = some o ∧ o.cls = .type "tuple" ∧ o.dict = none := by
  rcases h with h | ⟨o, its, n, hk, hc, hd, _⟩
  · obtain ⟨z, its, r, ⟨o, e, c, n, _, d⟩⟩ := h.ok I.hok
    exact ⟨o, e, c, d⟩
  · exact ⟨o, I.kIn a o hk, hc, hd⟩
theorem Inv.list_inj (I : Inv X pins σ H s) (h : SqL X.K H a xs) (h' : SqL X.K H a ys) : xs = ys := by
  obtain ⟨its, r, ⟨o, n, e, _, _, d⟩, _⟩ := I.list h
  obtain ⟨its', r', ⟨o', n', e', _, _, d'⟩, _⟩ := I.list h'
  rw [e] at e'; cases e'
  rw [d] at d'
  injection d' with d1 _
  have : its = its' := by simpa using congrArg Array.toList d1
  subst this
  exact r.inj r'
theorem Inv.tuple_inj (I : Inv X pins σ H s) (h : SqT X.K H a xs) (h' : SqT X.K H a ys) : xs = ys := by
  obtain ⟨its, r, ⟨o, e, _, n, d⟩, _⟩ := I.tuple h
  obtain ⟨its', r', ⟨o', e', _, n', d'⟩, _⟩ := I.tuple h'
  rw [e] at e'; cases e'
  rw [d] at d'
  injection d' with d1 _
  have : its = its' := by simpa using congrArg Array.toList d1
  subst this
  exact r.inj r'
end

abbrev Cx.wish (X : Cx) (E : Value → Shared → Prop) : Cx := { X with xe := E }
/-- no exception leaves -/
abbrev Cx.nox (X : Cx) : Cx := X.wish fun _ _ => False
theorem Cx.Ok.wish {X : Cx} (ok : X.Ok) (E : Value → Shared → Prop) : (X.wish E).Ok :=
  ⟨ok.mod, ok.kind, ok.glob, ok.blt, ok.above, ok.inj, ok.has, ok.cab, ok.hd, ok.frames, ok.stk, ok.exf, ok.bs, ok.bsz, ok.noex, ok.exfs, ok.funs, ok.frf⟩
theorem Cx.Ok.unwish {X : Cx} {E : Value → Shared → Prop} (ok : (X.wish E).Ok) : X.Ok :=
  ⟨ok.mod, ok.kind, ok.glob, ok.blt, ok.above, ok.inj, ok.has, ok.cab, ok.hd, ok.frames, ok.stk, ok.exf, ok.bs, ok.bsz, ok.noex, ok.exfs, ok.funs, ok.frf⟩
section
variable {X : Cx} {pins : List (Addr × Obj)} {σ : St} {H : Hp} {s : Shared} {E : Value → Shared → Prop}
theorem Inv.wish (I : Inv X pins σ H s) (E : Value → Shared → Prop) : Inv (X.wish E) pins σ H s := ⟨I.ok.wish E, I.os, I.bare, I.base, I.loc, I.cell, I.free, I.freeC, I.pin, I.hok, I.len⟩
theorem Inv.unwish (I : Inv (X.wish E) pins σ H s) : Inv X pins σ H s := ⟨I.ok.unwish, I.os, I.bare, I.base, I.loc, I.cell, I.free, I.freeC, I.pin, I.hok, I.len⟩
theorem SP.unwish {D : Ends} {f : Flow} {s' : Shared} (h : SP (X.wish E) pins D f s') : SP X pins D f s' := by
  cases f with
  | next => obtain ⟨σ', H', I, q⟩ := h; exact ⟨σ', H', I.unwish, q⟩
  | brk => obtain ⟨σ', H', I, q⟩ := h; exact ⟨σ', H', I.unwish, q⟩
  | cont => obtain ⟨σ', H', I, q⟩ := h; exact ⟨σ', H', I.unwish, q⟩
  | ret u => obtain ⟨v, σ', H', I, r, q⟩ := h; exact ⟨v, σ', H', I.unwish, r, q⟩
theorem PE.nox {e : Expr} {t : TE} (h : PE X.nox e t) : PE X e t := fun pins s σ H Q I hw =>
  wpAny_mono (h pins s σ H Q (I.wish _) hw) (fun _ _ ⟨v, H', I', r, q⟩ => ⟨v, H', I'.unwish, r, q⟩) fun _ _ z => False.elim z
theorem PT.nox {e : Expr} {t : TT} (h : PT X.nox e t) : PT X e t := fun pins s σ H Q I hw =>
  wpAny_mono (h pins s σ H Q (I.wish _) hw) (fun _ _ ⟨H', I', q⟩ => ⟨H', I'.unwish, q⟩) fun _ _ z => False.elim z
theorem PSs.nox {st : List Stmt} {t : TS} (h : PSs X.nox st t) : PSs X st t := fun pins s σ H D I hw =>
  wpAny_mono (h pins s σ H D (I.wish _) hw) (fun _ _ q => q.unwish) fun _ _ z => False.elim z
end

section
variable {X : Cx} {st : Stmt} {rest : List Stmt} {t u : TS} {e : Expr} {te : TE} {pos : Pos}
def tNext : TS := fun D σ H => D.nx σ H
def tSeq (t u : TS) : TS := fun D σ H => t { D with nx := u D } σ H
theorem pss_nil : PSs X [] tNext := fun _ _ σ H _ I h => wpAny_execs_nil ⟨σ, H, I, h⟩
theorem pss_cons (h1 : PS X st t) (h2 : PSs X rest u) : PSs X (st :: rest) (tSeq t u) := by
  intro pins s σ H D I h
  refine wpAny_execs_cons (thn (h1 pins s σ H { D with nx := u D } I h) fun f s1 q => ?_)
  cases f with
  | next =>
    obtain ⟨σ', H', I', q⟩ := q
    exact h2 pins s1 σ' H' D I' q
  | ret v => exact q
  | brk => exact q
  | cont => exact q
theorem pss_one (h1 : PS X st t) : PSs X [st] t := by
  intro pins s σ H D I h
  refine wpAny_execs_cons (thn (h1 pins s σ H D I h) fun f s1 q => ?_)
  cases f with
  | next => exact wpAny_execs_nil q
  | ret v => exact q
  | brk => exact q
  | cont => exact q
/-- in a def's body nothing is shown -/
theorem Inv.quiet {pins : List (Addr × Obj)} {σ : St} {H : Hp} {s : Shared} (I : Inv X pins σ H s) : interactive X.env = false := by simp [interactive, I.ok.kind]
/-- an expression whose value is dropped -/
def tDrop (te : TE) : TS := fun D σ H => te σ H fun _ H1 => D.nx σ H1
theorem ps_expr (he : PE X e te) (hs : swapsWith e none pos.line X.env = pure false := by rfl) : PS X (.Expr e pos) (tDrop te) := by
  intro pins s σ H D I h
  exact wpAny_Expr_any (thn (he pins s σ H _ I h) fun v s1 ⟨x, H1, I1, r1, q1⟩ => ⟨σ, H1, I1, q1⟩) I.quiet hs
def tRet (te : TE) : TS := fun D σ H => te σ H D.rt
theorem ps_ret (he : PE X e te) : PS X (.Return (some e) pos) (tRet te) := by
  intro pins s σ H D I h
  exact wpAny_Return_some (thn (he pins s σ H _ I h) fun v s1 ⟨x, H1, I1, r1, q1⟩ => ⟨x, σ, H1, I1, r1, q1⟩)
def tIfS (c : TT) (t u : TS) : TS := fun D σ H => c σ H fun b H1 => if b = true then t D σ H1 else u D σ H1
theorem ps_if {c : Expr} {a b : List Stmt} {tc : TT} (hc : PT X c tc) (ha : PSs X a t) (hb : PSs X b u) : PS X (.If c a b pos) (tIfS tc t u) := by
  intro pins s σ H D I h
  refine wpAny_If (thn (hc pins s σ H _ I h) fun d s1 ⟨H1, I1, q1⟩ => ?_)
  cases d with
  | true => exact ha pins s1 σ H1 D I1 q1
  | false => exact hb pins s1 σ H1 D I1 q1
/-- code that the proof never comes to -/
def tNever : TS := fun _ _ _ => False
theorem pss_never {sts : List Stmt} : PSs X sts tNever := fun _ _ _ _ _ _ h => h.elim
end

abbrev TG := V → St → Hp → (St → Hp → Prop) → Prop
abbrev TGs := List V → St → Hp → (St → Hp → Prop) → Prop
def PG (X : Cx) (target : Expr) (t : TG) : Prop :=
  ∀ (pins : List (Addr × Obj)) (s : Shared) (σ : St) (H : Hp) (v : V) (u : Value) (Q : St → Hp → Prop), Inv X pins σ H s → RelV v u → t v σ H Q →
    wpAny (model X.prog X.w) X.A (assign target X.env u) (fun _ s' => ∃ σ' H', Inv X pins σ' H' s' ∧ Q σ' H') X.xe s
/-- several targets, one after another -/
def PGs (X : Cx) (ts : List Expr) (t : TGs) : Prop :=
  ∀ (pins : List (Addr × Obj)) (s : Shared) (σ : St) (H : Hp) (vs : List V) (us : List Value) (Q : St → Hp → Prop), Inv X pins σ H s → Vals vs us → t vs σ H Q →
    wpAny (model X.prog X.w) X.A (assignInOrder ((assignEach ts X.env).map (·.2)) us) (fun _ s' => ∃ σ' H', Inv X pins σ' H' s' ∧ Q σ' H') X.xe s
section
variable {X : Cx} {pos : Pos}
def gName (i : Nat) : TG := fun v σ H Q => Q (σ.set i (some v)) H
theorem pg_name {i : Nat} {x : Str} (hN : X.N.Nodup) (hi : X.N[i]? = some x) (hx : Loc X.env.scope x) (hf : X.fn x = true ∨ X.env.scope.names.lookup x = some .local := by first | exact .inl rfl | exact .inr rfl | assumption) : PG X (.Name x pos) (gName i) := by
  intro pins s σ H v u Q I r h
  exact wpAny_assign_Name (store_ok I hN hi hx r (fun s' I' => ⟨_, H, I', h⟩) hf)
def gNil : TGs := fun vs σ H Q => vs = [] ∧ Q σ H
def gCons (t : TG) (u : TGs) : TGs := fun vs σ H Q => ∃ v r, vs = v :: r ∧ t v σ H fun σ' H' => u r σ' H' Q
theorem pgs_nil : PGs X [] gNil := by
  intro pins s σ H vs us Q I r h
  obtain ⟨e, h⟩ := h
  subst e
  cases r
  exact assignInOrder_nil ⟨σ, H, I, h⟩
theorem pgs_cons {e : Expr} {es : List Expr} {t : TG} {u : TGs} (h1 : PG X e t) (h2 : PGs X es u)
    (hs : (assignEach (e :: es) X.env).map (·.2) = assign e X.env :: (assignEach es X.env).map (·.2) := by rfl) : PGs X (e :: es) (gCons t u) := by
  intro pins s σ H vs us Q I r h
  obtain ⟨v, vr, e1, h⟩ := h
  subst e1
  cases r with
  | cons r rr =>
    rw [hs]
    refine assignInOrder_cons (thn (h1 pins s σ H _ _ _ I r h) fun _ s1 ⟨σ1, H1, I1, q1⟩ => ?_)
    exact h2 pins s1 σ1 H1 _ _ Q I1 rr q1
/-- (a, b, ..) = a tuple of that length -/
def gTup (K : PySem.W.Frag) (n : Nat) (t : TGs) : TG := fun v σ H Q => ∃ a xs, v = .ref a ∧ SqT K H a xs ∧ xs.length = n ∧ t xs σ H Q
theorem pg_tup {es : List Expr} {k : Nat} {t : TGs} {n : Nat} (hc : X.calm = true) (h : PGs X es t)
    (hn : (assignEach es X.env).length = n := by rfl) (hst : (assignEach es X.env).findIdx? (·.1) = none := by rfl) : PG X (.Tuple es k pos) (gTup X.K n t) := by
  intro pins s σ H v u Q I r hw
  obtain ⟨a, xs, e1, hq, hl, hw⟩ := hw
  subst e1
  cases r
  obtain ⟨its, rv, ht, hz⟩ := I.tuple hq
  refine assign_Tuple_tuple (I.ok.hd hc) ht (by simp [hn, ← hl, rv.length]) hst fun h' hx => ?_
  have I1 : Inv X pins σ H { s with heap := h' } := I.kept (t' := s.toks) fun b o e => hx b o (Nat.ne_of_lt (Heap.lt_size e)) e
  exact h pins _ σ H xs _ Q I1 (by simpa using rv) hw
/-- target = value -/
def tAsg (te : TE) (g : TG) : TS := fun D σ H => te σ H fun x H1 => g x σ H1 D.nx
theorem ps_asg {tg e : Expr} {te : TE} {g : TG} (he : PE X e te) (hg : PG X tg g) (hs : swapsWithSole [tg] e pos.line X.env = pure false := by rfl) (hw : swappedStores [tg] e X.env = pure none := by rfl)
    (h1 : (assignEach [tg] X.env).map (·.2) = [assign tg X.env] := by rfl) : PS X (.Assign [tg] e pos) (tAsg te g) := by
  intro pins s σ H D I h
  refine wpAny_Assign_stores (thn (he pins s σ H _ I h) fun v s1 ⟨x, H1, I1, r1, q1⟩ => ?_) hs hw
  rw [h1]
  exact thn (hg pins s1 σ H1 x v _ I1 r1 q1) fun _ s2 q => q
/-- name = value -/
theorem ps_set {i : Nat} {x : Str} {e : Expr} {te : TE} {pos' : Pos} (hN : X.N.Nodup) (hi : X.N[i]? = some x) (hx : Loc X.env.scope x) (he : PE X e te) (hs : swapsWith e (some (.Name x pos')) pos.line X.env = pure false := by rfl) (hf : X.fn x = true ∨ X.env.scope.names.lookup x = some .local := by first | exact .inl rfl | exact .inr rfl | assumption) :
    PS X (.Assign [.Name x pos'] e pos) (tAsg te (gName i)) := by
  intro pins s σ H D I h
  refine wpAny_Assign_Name (thn (he pins s σ H _ I h) fun v s1 ⟨y, H1, I1, r1, q1⟩ => ?_) hs
  exact store_ok I1 hN hi hx r1 (fun s2 I2 => ⟨_, H1, I2, q1⟩) hf
end

section
variable {X : Cx} {pos : Pos}
/-- the invariant W with its measure -/
def tWhile (c : TT) (tb : TS) : TS := fun D σ H => ∃ W : Nat → St → Hp → Prop, (∃ m, W m σ H) ∧ ∀ m σ H, W m σ H →
  c σ H fun b H1 => if b = true then ∃ N : St → Hp → Prop, (∀ σ' H', N σ' H' → ∃ m', m' < m ∧ W m' σ' H') ∧ tb { D with nx := N, ct := N, bk := D.nx } σ H1 else D.nx σ H1
theorem ps_while {c : Expr} {body : List Stmt} {tc : TT} {tb : TS} (hp : PassesOwn (model X.prog X.w) X.A X.env X.xe) (hc : PT X c tc) (hb : PSs X body tb) : PS X (.While c body [] pos) (tWhile tc tb) := by
  intro pins s σ H D I h
  obtain ⟨W, ⟨m0, w0⟩, turn⟩ := h
  refine wpAny_While (codeAny_whileLoop (fun n s' => ∃ σ' H', Inv X pins σ' H' s' ∧ W n σ' H') ?_ m0 ⟨σ, H, I, w0⟩)
  rintro n s1 ⟨σ1, H1, I1, w1⟩
  refine wpAny_passesOwn hp (thn (hc pins s1 σ1 H1 _ I1 (turn n σ1 H1 w1)) fun b s2 ⟨H2, I2, q2⟩ => ?_)
  cases b with
  | true =>
    obtain ⟨N, hN, q2⟩ := q2
    rw [if_pos rfl]
    refine wpAny_passesOwn hp (thn (hb pins s2 σ1 H2 _ I2 q2) fun f s3 q3 => ?_)
    cases f with
    | next =>
      obtain ⟨σ3, H3, I3, n3⟩ := q3
      obtain ⟨m', hm, w3⟩ := hN σ3 H3 n3
      exact ⟨m', hm, σ3, H3, I3, w3⟩
    | cont =>
      obtain ⟨σ3, H3, I3, n3⟩ := q3
      obtain ⟨m', hm, w3⟩ := hN σ3 H3 n3
      exact ⟨m', hm, σ3, H3, I3, w3⟩
    | brk => exact q3
    | ret v => exact q3
  | false =>
    rw [if_neg Bool.false_ne_true]
    exact wpAny_execs_nil ⟨σ1, H2, I2, q2⟩
end

/-- at turn i: it yields x (the heap may grow), or it stops -/
structure It where
  go : Nat → Hp → Prop
  yld : Nat → Hp → V → Hp → Prop
  stop : Nat → Hp → Prop
/-- the iterator's own objects may turn: they are not the frame's, not pinned, younger than the entry (or a comprehension's own) -/
def FpOk (X : Cx) (pins : List (Addr × Obj)) (H : Hp) (b : Addr) : Prop :=
  H b = none ∧ b ≠ X.env.locals ∧ b ∉ X.fs ∧ (b ∈ X.ex ∨ X.s₀.heap.objs.size ≤ b) ∧ (∀ x c, X.env.cells.lookup x = some c → c ≠ b) ∧ ∀ p ∈ X.pn ++ pins, p.1 ≠ b
theorem Inv.fpOk {X : Cx} {pins : List (Addr × Obj)} {σ : St} {H H' : Hp} {s : Shared} {b : Addr} (I : Inv X pins σ H s) (hb : s.heap.objs.size ≤ b) (hn : H' b = none) : FpOk X pins H' b := by
  refine ⟨hn, Nat.ne_of_gt (Nat.lt_of_lt_of_le I.lt hb), I.nofs hb, .inr (Nat.le_trans I.sz hb), fun x c e z => ?_, fun p hp z => ?_⟩
  · obtain ⟨v, q⟩ := I.cell x c e
    exact absurd (Nat.lt_of_lt_of_le q.lt (by rw [z]; exact hb)) (Nat.lt_irrefl _)
  · exact absurd (Nat.lt_of_lt_of_le (Heap.lt_size (I.pin p hp).1) (by rw [z]; exact hb)) (Nat.lt_irrefl _)
structure Turn (P : Program) (w : World) (K : PySem.W.Frag) (tg : Expr) (J : It) (fp : List Addr) (it : Addr) (tn : Nat → Heap → Prop) : Prop where
  mem : it ∈ fp
  obj : ∀ i h, tn i h → ∀ b ∈ fp, ∃ o, h.get? b = some o ∧ ∀ v, o.data ≠ .cell v
  keep : ∀ i h h', tn i h → (∀ b ∈ fp, ∀ o, h.get? b = some o → h'.get? b = some o) → tn i h'
  item : ∀ (X : Cx), X.prog = P → X.w = w → X.K = K → X.calm = true → ∀ (i : Nat) (pins : List (Addr × Obj)) (s : Shared) (σ : St) (H : Hp) (E : Value → Shared → Prop), Inv X pins σ H s → (∀ b ∈ fp, FpOk X pins H b) → tn i s.heap → J.go i H →
    wpAny (model P w) X.A (pyNext (.ref it)) (fun r s1 => ∃ u, r = some u ∧
      wpAny (model P w) X.A (letOwnedTupleGo tg (.ref it) u) (fun _ s2 => ∃ x H', Inv X pins σ H' s2 ∧ RelV x u ∧ J.yld i H x H' ∧ tn (i + 1) s2.heap ∧ ∀ b ∈ fp, H' b = none) E s1) E s
  done : ∀ (X : Cx), X.prog = P → X.w = w → X.K = K → X.calm = true → ∀ (i : Nat) (pins : List (Addr × Obj)) (s : Shared) (σ : St) (H : Hp) (E : Value → Shared → Prop), Inv X pins σ H s → (∀ b ∈ fp, FpOk X pins H b) → tn i s.heap → J.stop i H →
    wpAny (model P w) X.A (pyNext (.ref it)) (fun r s1 => r = none ∧ Inv X pins σ H s1) E s
  self : ∀ (A : Around) (i : Nat) (s : Shared) (Q : Value → Shared → Prop) (E : Value → Shared → Prop), tn i s.heap → Q (.ref it) s → wpAny (model P w) A (pyIter (.ref it)) Q E s
abbrev TI := St → Hp → (It → Hp → Prop) → Prop
/-- an iterator has come -/
def PIE (X : Cx) (pins : List (Addr × Obj)) (σ : St) (tg : Expr) (R : It → Hp → Prop) (itv : Value) (s2 : Shared) : Prop :=
  ∃ (it : Addr) (fp : List Addr) (tn : Nat → Heap → Prop) (J : It) (H' : Hp), itv = .ref it ∧ Inv X pins σ H' s2 ∧ Turn X.prog X.w X.K tg J fp it tn ∧ tn 0 s2.heap ∧ (∀ b ∈ fp, FpOk X pins H' b) ∧ R J H'
def PI (X : Cx) (tg iter : Expr) (wi : TI) : Prop :=
  ∀ (pins : List (Addr × Obj)) (s : Shared) (σ : St) (H : Hp) (R : It → Hp → Prop), Inv X pins σ H s → wi σ H R →
    wpAny (model X.prog X.w) X.A (eval iter X.env) (fun v s1 => wpAny (model X.prog X.w) X.A (pyIter v) (PIE X pins σ tg R) X.xe s1) X.xe s

/-- the step ahead of the store is nothing for an iterator that keeps no tuple -/
theorem go_of {M : Model} {A : Around} {E : Value → Shared → Prop} {s : Shared} {tg : Expr} {it : Addr} {u : Value} {o : Obj} {n : String} {vs : Array Value} {Q : Unit → Shared → Prop} (ho : s.heap.get? it = some o) (hc : o.cls = .type n) (hd : o.data = .fields vs)
    (hn : ["enumerate", "zip", "dict_itemiterator", "dict_reverseitemiterator", "odict_iterator", "itertools.zip_longest", "itertools.pairwise"].contains n = false) (hQ : Q () s) : wpAny M A (letOwnedTupleGo tg (.ref it) u) Q E s := by
  unfold letOwnedTupleGo
  cases tg <;> first
    | exact wpAny_pure hQ
    | (cases u <;> first
        | exact wpAny_pure hQ
        | (refine wpAny_bind (wpAny_load ho ?_)
           rw [hc, hd]
           show wpAny M A (if (["enumerate", "zip", "dict_itemiterator", "dict_reverseitemiterator", "odict_iterator", "itertools.zip_longest", "itertools.pairwise"].contains n && vs[0]? == some (rawInt _)) = true then _ else _) Q E s
           rw [if_neg (by intro h; rw [hn, Bool.false_and] at h; cases h)]
           exact wpAny_pure hQ))

/-- the list at a, as it stands at each turn (a loop may append to it) -/
def Itl (K : PySem.W.Frag) (a : Addr) : It :=
  ⟨fun i H => ∃ xs x, SqL K H a xs ∧ xs[i]? = some x, fun i H x H' => H' = H ∧ ∀ xs, SqL K H a xs → xs[i]? = some x, fun i H => ∃ xs, SqL K H a xs ∧ xs.length ≤ i⟩
def Itt (K : PySem.W.Frag) (a : Addr) : It :=
  ⟨fun i H => ∃ xs x, SqT K H a xs ∧ xs[i]? = some x, fun i H x H' => H' = H ∧ ∀ xs, SqT K H a xs → xs[i]? = some x, fun i H => ∃ xs, SqT K H a xs ∧ xs.length ≤ i⟩
/-- lo, lo + 1, .. (n of them) -/
def Itr (lo : Int) (n : Nat) : It := ⟨fun i _ => i < n, fun i H x H' => H' = H ∧ x = .int (lo + i), fun i _ => n ≤ i⟩
theorem turn_list {P : Program} {w : World} {K : PySem.W.Frag} {tg : Expr} (a it : Addr) : Turn P w K tg (Itl K a) [it] it (fun i h => h.IsListIter it a i) where
  mem := by simp
  obj := fun i h st b hb => by
    have e : b = it := by simpa using hb
    subst e
    obtain ⟨o, e, c, d⟩ := st
    exact ⟨o, e, fun v z => by rw [d] at z; cases z⟩
  keep := fun i h h' st k => st.at fun o e => k it (by simp) o e
  item := by
    intro X hP hw hK hc i pins s σ H E I hf st hg
    subst hP hw hK
    obtain ⟨xs, x, hq, hx⟩ := hg
    obtain ⟨its, rv, p, hz⟩ := I.list hq
    obtain ⟨u, hu, ru⟩ := rv.get hx
    obtain ⟨f0, f1, f2, f3, f4, f5⟩ := hf it (by simp)
    refine wpAny_pyNext_list_item st p.isList (x := u) (by simpa using hu) fun h' st' sb => ?_
    have I1 : Inv X pins σ H { s with heap := h' } := I.turned (t' := s.toks) (fun b o hb e => (sb.2 b hb).trans e) f0 f1 f3 f4 f5
    obtain ⟨o, e, c, d⟩ := id st'
    exact ⟨u, rfl, go_of (s := { s with heap := h' }) e c d (by decide) ⟨x, H, I1, ru, ⟨rfl, fun ys hy => by rw [I.list_inj hy hq]; exact hx⟩, st', fun b hb => (hf b hb).1⟩⟩
  done := by
    intro X hP hw hK hc i pins s σ H E I hf st hg
    subst hP hw hK
    obtain ⟨xs, hq, hx⟩ := hg
    obtain ⟨its, rv, p, hz⟩ := I.list hq
    obtain ⟨f0, f1, f2, f3, f4, f5⟩ := hf it (by simp)
    have hl := rv.length
    exact wpAny_pyNext_list_end (I.ok.hd hc) st p.isList (by simp; omega) fun h' eb => ⟨rfl, I.turned (t' := s.toks) (fun b o hb e => eb b o hb e) f0 f1 f3 f4 f5⟩
  self := fun _ _ _ _ _ st h => wpAny_pyIter_listiter st h
theorem turn_tuple {P : Program} {w : World} {K : PySem.W.Frag} {tg : Expr} (a it : Addr) : Turn P w K tg (Itt K a) [it] it (fun i h => h.IsTupleIter it a i) where
  mem := by simp
  obj := fun i h st b hb => by
    have e : b = it := by simpa using hb
    subst e
    obtain ⟨o, e, c, d⟩ := st
    exact ⟨o, e, fun v z => by rw [d] at z; cases z⟩
  keep := fun i h h' st k => st.at fun o e => k it (by simp) o e
  item := by
    intro X hP hw hK hc i pins s σ H E I hf st hg
    subst hP hw hK
    obtain ⟨xs, x, hq, hx⟩ := hg
    obtain ⟨its, rv, p, hz⟩ := I.tuple hq
    obtain ⟨u, hu, ru⟩ := rv.get hx
    obtain ⟨f0, f1, f2, f3, f4, f5⟩ := hf it (by simp)
    refine wpAny_pyNext_tuple_item st (show s.heap.IsTuple a its.toArray from p) (x := u) (by simpa using hu) fun h' st' sb => ?_
    have I1 : Inv X pins σ H { s with heap := h' } := I.turned (t' := s.toks) (fun b o hb e => (sb.2 b hb).trans e) f0 f1 f3 f4 f5
    obtain ⟨o, e, c, d⟩ := id st'
    exact ⟨u, rfl, go_of (s := { s with heap := h' }) e c d (by decide) ⟨x, H, I1, ru, ⟨rfl, fun ys hy => by rw [I.tuple_inj hy hq]; exact hx⟩, st', fun b hb => (hf b hb).1⟩⟩
  done := by
    intro X hP hw hK hc i pins s σ H E I hf st hg
    subst hP hw hK
    obtain ⟨xs, hq, hx⟩ := hg
    obtain ⟨its, rv, p, hz⟩ := I.tuple hq
    obtain ⟨f0, f1, f2, f3, f4, f5⟩ := hf it (by simp)
    have hl := rv.length
    exact wpAny_pyNext_tuple_end (I.ok.hd hc) st (show s.heap.IsTuple a its.toArray from p) (by simp; omega) fun h' eb => ⟨rfl, I.turned (t' := s.toks) (fun b o hb e => eb b o hb e) f0 f1 f3 f4 f5⟩
  self := fun _ _ _ _ _ st h => wpAny_pyIter_tupleiter st h
theorem turn_range {P : Program} {w : World} {K : PySem.W.Frag} {tg : Expr} (it : Addr) (lo : Int) (n : Nat) : Turn P w K tg (Itr lo n) [it] it (fun i h => IsRangeIter h it (lo + (i : Nat) * 1) ((n : Int) - (i : Nat)) 1) where
  mem := by simp
  obj := fun i h st b hb => by
    have e : b = it := by simpa using hb
    subst e
    exact ⟨_, st, fun v z => by
      have z' : Data.fields _ = Data.cell v := z
      cases z'⟩
  keep := fun i h h' st k => k it (by simp) _ st
  item := by
    intro X hP hw hK hc i pins s σ H E I hf st hg
    subst hP hw hK
    obtain ⟨f0, f1, f2, f3, f4, f5⟩ := hf it (by simp)
    have W := Walks.range (prog := X.prog) (w := X.w) (I.ok.hd hc) it lo 1 n
    refine W.item i s _ _ hg st fun v h' tk hv st' kk => ?_
    obtain ⟨t, rfl⟩ := hv
    have I1 : Inv X pins σ H { s with heap := h', toks := tk } := I.turned (fun b o hb e => kk b o (by simpa using hb) e) f0 f1 f3 f4 f5
    refine ⟨_, rfl, go_of (s := { s with heap := h', toks := tk }) (n := "range_iterator") st' rfl rfl (by decide) ⟨.int (lo + i), H, I1, ⟨t, ?_⟩, ⟨rfl, rfl⟩, st', fun b hb => (hf b hb).1⟩⟩
    rw [Int.mul_one]
  done := by
    intro X hP hw hK hc i pins s σ H E I hf st hg
    subst hP hw hK
    obtain ⟨f0, f1, f2, f3, f4, f5⟩ := hf it (by simp)
    exact wpAny_pyNext_range_end (I.ok.hd hc) st (by have : n ≤ i := hg; omega) fun h' eb => ⟨rfl, I.turned (t' := s.toks) (fun b o hb e => eb b o hb e) f0 f1 f3 f4 f5⟩
  self := fun _ _ _ _ _ st h => wpAny_pyIter_rangeiter st h
end L2

namespace L2
open PySem PySem.Spec PyProof.Rows
section
variable {X : Cx} {tg : Expr}
/-- a range object just made, walked -/
theorem range_it {pins : List (Addr × Obj)} {σ : St} {H : Hp} {s : Shared} {R : It → Hp → Prop} {E : Value → Shared → Prop} {lo hi : Int} {t u v : Tok} {tk : Nat} (I : Inv X pins σ H s) (h1 : -(2 ^ 62) ≤ lo) (h2 : lo < 2 ^ 62) (h3 : -(2 ^ 62) ≤ hi) (h4 : hi < 2 ^ 62)
    (q : R (Itr lo (hi - lo).toNat) H) : wpAny (model X.prog X.w) X.A (pyIter (.ref s.heap.objs.size)) (PIE X pins σ tg R) E { s with heap := s.heap.push { cls := .type "range", data := .fields #[.int lo t, .int hi u, .int 1 v] }, toks := tk } := by
  refine wpAny_pyIter_range (IsRange.new ..) (small_one h1 h2 h3 h4) ?_
  have I1 : Inv X pins σ H { s with heap := s.heap.push { cls := .type "range", data := .fields #[.int lo t, .int hi u, .int 1 v] }, toks := tk } := I.kept fun b o e => Heap.get?_push_of_some _ e
  refine ⟨(s.heap.push { cls := .type "range", data := .fields #[.int lo t, .int hi u, .int 1 v] }).objs.size, [(s.heap.push { cls := .type "range", data := .fields #[.int lo t, .int hi u, .int 1 v] }).objs.size], _, _, H, rfl,
    I1.kept (t' := tk) fun b o e => Heap.get?_push_of_some _ e, turn_range _ lo (hi - lo).toNat, ?_, fun b hb => ?_, q⟩
  · have e1 : lo + ((0 : Nat) : Int) * 1 = lo := by simp
    have e2 : (((hi - lo).toNat : Nat) : Int) - ((0 : Nat) : Int) = Builtin.Range.rangeSize lo hi 1 := by rw [rangeSize_one]; split <;> omega
    show IsRangeIter _ _ (lo + ((0 : Nat) : Int) * 1) ((((hi - lo).toNat : Nat) : Int) - ((0 : Nat) : Int)) 1
    rw [e1, e2]
    exact Heap.get?_push_size _ rfl
  · have e : b = (s.heap.push { cls := .type "range", data := .fields #[.int lo t, .int hi u, .int 1 v] }).objs.size := by simpa using hb
    subst e
    exact I1.fpOk (Nat.le_refl _) (I1.hok.fresh (Nat.le_refl _))
def iRng1 (ta : TA) : TI := fun σ H R => ta σ H fun vs H1 => ∃ j : Int, vs = [.int j] ∧ -(2 ^ 62) ≤ j ∧ j < 2 ^ 62 ∧ R (Itr 0 j.toNat) H1
theorem pi_range1 {a : Expr} {ta : TA} {p pos : Pos} (hg : Gl X "range") (hm : X.mg "range" = none) (ha : PA X [a] ta) (hs : starEach [a] X.env = [(false, eval a X.env)] := by rfl) : PI X tg (.Call (.Name "range" p) [a] [] pos) (iRng1 ta) := by
  intro pins s σ H R I h
  refine Call_ (ld_blt I hg hm boot_range (PyProof.Rows.callWith_type1 (thn (ha pos pins s σ H _ I h) fun us s1 ⟨vs, H1, I1, r1, q1⟩ => ?_) hs rfl))
  obtain ⟨j, e, q1, q2, q⟩ := q1
  subst e
  cases r1 with
  | cons r rr =>
    cases rr
    obtain ⟨t, rfl⟩ := r
    exact call_range_1 (range_it I1 (by omega) (by omega) q1 q2 (by simpa using q))
/-- W: the invariant by the turn and a measure; N: what the body is to reach -/
def tFor (wi : TI) (g : TG) (tb : TS) : TS := fun D σ H => wi σ H fun J H1 => ∃ W : Nat → Nat → St → Hp → Prop, (∃ m, W 0 m σ H1) ∧ ∀ i m σ H, W i m σ H →
  (J.stop i H ∧ D.nx σ H) ∨ (J.go i H ∧ ∃ N : St → Hp → Prop, (∀ σ' H', N σ' H' → ∃ m', m' < m ∧ W (i + 1) m' σ' H') ∧ ∀ x H', J.yld i H x H' → g x σ H' fun σ2 H2 => tb { D with nx := N, ct := N, bk := D.nx } σ2 H2)
/-- the records at fp as they stand -/
def pinsAt (fp : List Addr) (h : Heap) : List (Addr × Obj) := fp.filterMap fun b => (h.get? b).map fun o => (b, o)
theorem mem_pinsAt {fp : List Addr} {h : Heap} {b : Addr} {o : Obj} (hb : b ∈ fp) (e : h.get? b = some o) : (b, o) ∈ pinsAt fp h := List.mem_filterMap.mpr ⟨b, hb, by rw [e]; rfl⟩
theorem of_pinsAt {fp : List Addr} {h : Heap} {p : Addr × Obj} (hp : p ∈ pinsAt fp h) : p.1 ∈ fp ∧ h.get? p.1 = some p.2 := by
  obtain ⟨b, hb, e⟩ := List.mem_filterMap.mp hp
  cases q : h.get? b with
  | none => rw [q] at e; cases e
  | some o =>
    rw [q] at e
    have e' : (b, o) = p := Option.some.inj e
    subst e'
    exact ⟨hb, q⟩
theorem Inv.pinned {pins : List (Addr × Obj)} {σ : St} {H : Hp} {s : Shared} {fp : List Addr} (I : Inv X pins σ H s) (hf : ∀ b ∈ fp, FpOk X pins H b) (ho : ∀ b ∈ fp, ∃ o, s.heap.get? b = some o ∧ ∀ v, o.data ≠ .cell v) : Inv X (pins ++ pinsAt fp s.heap) σ H s :=
  I.pins_of fun p hp => (List.mem_append.mp hp).elim (fun z => I.pin p (List.mem_append_right _ z)) fun z => by
    obtain ⟨hb, e⟩ := of_pinsAt z
    obtain ⟨f0, f1, f2, _⟩ := hf p.1 hb
    obtain ⟨o, e', d⟩ := ho p.1 hb
    rw [e] at e'; cases e'
    exact ⟨e, f0, f1, f2, d⟩
theorem Inv.unpinned {pins pl : List (Addr × Obj)} {σ : St} {H : Hp} {s : Shared} (I : Inv X (pins ++ pl) σ H s) : Inv X pins σ H s := I.pins_of fun p hp => I.pin p (List.mem_append_right _ (List.mem_append_left _ hp))
theorem ps_for {iter : Expr} {body : List Stmt} {wi : TI} {g : TG} {tb : TS} {pos : Pos} (hp : PassesOwn (model X.prog X.w) X.A X.env X.xe) (hc : X.calm = true) (hi : PI X tg iter wi) (hg : PG X tg g) (hb : PSs X body tb)
    (hs : ∀ x, foldedSetIterable iter X.env x = pure x := by intro _; rfl) : PS X (.For tg iter body [] pos) (tFor wi g tb) := by
  intro pins s σ H D I h
  refine wpAny_For (thn (hi pins s σ H _ I h) fun v s1 h1 => thn h1 fun itv s2 h2 => ?_) hs
  obtain ⟨it, fp, tn, J, H2, e, I2, T, st2, f2, W, ⟨m0, w0⟩, turn⟩ := h2
  subst e
  -- what stays true of the iterator's objects through the loop
  have stat : ∀ {H' : Hp}, (∀ b ∈ fp, H' b = none) → ∀ b ∈ fp, FpOk X pins H' b := fun hn b hb => ⟨hn b hb, (f2 b hb).2⟩
  refine codeAny_forLoop_any (fun n s' => ∃ i σ' H', Inv X pins σ' H' s' ∧ tn i s'.heap ∧ (∀ b ∈ fp, H' b = none) ∧ W i n σ' H') ?_ m0 ⟨0, σ, H2, I2, st2, fun b hb => (f2 b hb).1, w0⟩
  rintro n s3 ⟨i, σ3, H3, I3, st3, fr3, w3⟩
  rcases turn i n σ3 H3 w3 with ⟨stop, qn⟩ | ⟨go, N, hN, step⟩
  · refine wpAny_passesOwn hp (thn (T.done X rfl rfl rfl hc i pins s3 σ3 H3 X.xe I3 (stat fr3) st3 stop) fun r s4 ⟨hr, I4⟩ => ?_)
    subst hr
    exact wpAny_execs_nil ⟨σ3, H3, I4, qn⟩
  · refine wpAny_passesOwn hp (thn (T.item X rfl rfl rfl hc i pins s3 σ3 H3 X.xe I3 (stat fr3) st3 go) fun r s4 ⟨u, hr, h4⟩ => ?_)
    subst hr
    refine wpAny_passesOwn hp (thn h4 fun _ s5 ⟨x, H5, I5, r5, y5, st5, fr5⟩ => ?_)
    have I5' := I5.pinned (stat fr5) (T.obj _ _ st5)
    refine wpAny_passesOwn hp (thn (hg _ s5 σ3 H5 x u _ I5' r5 (step x H5 y5)) fun _ s6 ⟨σ6, H6, I6, q6⟩ => ?_)
    refine wpAny_passesOwn hp (thn (hb _ s6 σ6 H6 _ I6 q6) fun f s7 q7 => ?_)
    have again : ∀ {σ7 : St} {H7 : Hp}, Inv X (pins ++ pinsAt fp s5.heap) σ7 H7 s7 → N σ7 H7 → ∃ m, m < n ∧ ∃ i σ' H', Inv X pins σ' H' s7 ∧ tn i s7.heap ∧ (∀ b ∈ fp, H' b = none) ∧ W i m σ' H' := fun {σ7 H7} I7 n7 => by
      obtain ⟨m', hm, w7⟩ := hN σ7 H7 n7
      refine ⟨m', hm, i + 1, σ7, H7, I7.unpinned, T.keep _ _ _ st5 fun b hb o e => (I7.pin (b, o) (List.mem_append_right _ (List.mem_append_right _ (mem_pinsAt hb e)))).1, fun b hb => ?_, w7⟩
      obtain ⟨o, e, d⟩ := T.obj _ _ st5 b hb
      exact (I7.pin (b, o) (List.mem_append_right _ (List.mem_append_right _ (mem_pinsAt hb e)))).2.1
    cases f with
    | next => obtain ⟨σ7, H7, I7, n7⟩ := q7; exact again I7 n7
    | cont => obtain ⟨σ7, H7, I7, n7⟩ := q7; exact again I7 n7
    | brk => obtain ⟨σ7, H7, I7, q7⟩ := q7; exact ⟨σ7, H7, I7.unpinned, q7⟩
    | ret v => obtain ⟨x7, σ7, H7, I7, r7, q7⟩ := q7; exact ⟨x7, σ7, H7, I7.unpinned, r7, q7⟩
end

end L2

namespace L2
open PySem PySem.Spec PyProof.Rows

abbrev R2 := V → V → Hp → VK → Prop
/-- a two-place operation on values: f is binaryOp op, inplaceOp op or compareOp op -/
def OpR (X : Cx) (f : Value → Value → Sem Value) (r : R2) : Prop :=
  ∀ (pins : List (Addr × Obj)) (s : Shared) (σ : St) (H : Hp) (x y : V) (v u : Value) (Q : VK), Inv X pins σ H s → RelV x v → RelV y u → r x y H Q →
    wpAny (model X.prog X.w) X.A (f v u) (EP X pins σ Q) X.xe s
/-- a one-place operation -/
def UnR (X : Cx) (f : Value → Sem Value) (r : V → Hp → VK → Prop) : Prop :=
  ∀ (pins : List (Addr × Obj)) (s : Shared) (σ : St) (H : Hp) (x : V) (v : Value) (Q : VK), Inv X pins σ H s → RelV x v → r x H Q →
    wpAny (model X.prog X.w) X.A (f v) (EP X pins σ Q) X.xe s
/-- a call of a value that is known (a builtin, a type) with values -/
def CallR (X : Cx) (f : Value) (r : List V → Hp → VK → Prop) : Prop :=
  ∀ (pins : List (Addr × Obj)) (s : Shared) (σ : St) (H : Hp) (xs : List V) (us : List Value) (Q : VK), Inv X pins σ H s → Vals xs us → r xs H Q →
    wpAny (model X.prog X.w) X.A (call f us) (EP X pins σ Q) X.xe s
def tOp (r : R2) (ta tb : TE) : TE := fun σ H Q => ta σ H fun x H1 => tb σ H1 fun y H2 => r x y H2 Q
def tUn (r : V → Hp → VK → Prop) (ta : TE) : TE := fun σ H Q => ta σ H fun x H1 => r x H1 Q
/-- ints in, under C, and a value out -/
def rI (C : Int → Int → Prop) (g : Int → Int → V) : R2 := fun x y H Q => ∃ i j, x = .int i ∧ y = .int j ∧ C i j ∧ Q (g i j) H
def rI0 (g : Int → Int → V) : R2 := fun x y H Q => ∃ i j, x = .int i ∧ y = .int j ∧ Q (g i j) H
def rU (g : Int → V) : V → Hp → VK → Prop := fun x H Q => ∃ i, x = .int i ∧ Q (g i) H

section
variable {X : Cx} {a b c : Expr} {ta tb tc : TE} {pos : Pos}

theorem binT (ha : PE X a ta) (hb : PE X b tb) {pins : List (Addr × Obj)} {s : Shared} {σ : St} {H : Hp} {R : V → V → Hp → Prop} (I : Inv X pins σ H s)
    (h : ta σ H fun x H1 => tb σ H1 fun y H2 => R x y H2) {Q : Value → Shared → Prop} {f : Value → Value → Sem Value}
    (hf : ∀ v u s2 x y H2, Inv X pins σ H2 s2 → RelV x v → RelV y u → R x y H2 → wpAny (model X.prog X.w) X.A (f v u) Q X.xe s2) :
    wpAny (model X.prog X.w) X.A (eval a X.env) (fun v s₁ => wpAny (model X.prog X.w) X.A (eval b X.env) (fun u s₂ => wpAny (model X.prog X.w) X.A (f v u) Q X.xe s₂) X.xe s₁) X.xe s := by
  refine thn (ha pins s σ H _ I h) fun v s1 ⟨x, H1, I1, r1, q1⟩ => ?_
  refine thn (hb pins s1 σ H1 _ I1 q1) fun u s2 ⟨y, H2, I2, r2, q2⟩ => ?_
  exact hf v u s2 x y H2 I2 r1 r2 q2

theorem pe_op {op : Operator} {r : R2} (ho : OpR X (binaryOp op) r) (ha : PE X a ta) (hb : PE X b tb) : PE X (.BinOp a op b pos) (tOp r ta tb) := by
  intro pins s σ H Q I h
  exact wpAny_BinOp (binT ha hb I h fun v u s2 x y H2 I2 rx ry q => ho pins s2 σ H2 x y v u Q I2 rx ry q)
theorem pe_un {op : UnaryOp} {r : V → Hp → VK → Prop} (ho : UnR X (unaryOp op) r) (ha : PE X a ta) : PE X (.UnaryOp op a pos) (tUn r ta) := by
  intro pins s σ H Q I h
  exact UnaryOp_ (thn (ha pins s σ H _ I h) fun v s1 ⟨x, H1, I1, r1, q1⟩ => ho pins s1 σ H1 x v Q I1 r1 q1)
theorem opI {f : Value → Value → Sem Value} {C : Int → Int → Prop} {g : Int → Int → Int}
    (rule : ∀ (i j : Int) (t u : Tok) (s : Shared) (Q : Value → Shared → Prop) (E : Value → Shared → Prop), C i j → Q (.int (g i j) s.toks) { s with toks := s.toks + 1 } → wpAny (model X.prog X.w) X.A (f (.int i t) (.int j u)) Q E s) :
    OpR X f (rI C fun i j => .int (g i j)) := by
  intro pins s σ H x y v u Q I rx ry h
  obtain ⟨i, j, rfl, rfl, hc, q⟩ := h
  obtain ⟨t, rfl⟩ := rx
  obtain ⟨t', rfl⟩ := ry
  exact rule i j t t' s _ _ hc ⟨.int (g i j), H, I.tok _, ⟨_, rfl⟩, q⟩
theorem opI0 {f : Value → Value → Sem Value} {g : Int → Int → Int}
    (rule : ∀ (i j : Int) (t u : Tok) (s : Shared) (Q : Value → Shared → Prop) (E : Value → Shared → Prop), Q (.int (g i j) s.toks) { s with toks := s.toks + 1 } → wpAny (model X.prog X.w) X.A (f (.int i t) (.int j u)) Q E s) :
    OpR X f (rI0 fun i j => .int (g i j)) := by
  intro pins s σ H x y v u Q I rx ry h
  obtain ⟨i, j, rfl, rfl, q⟩ := h
  obtain ⟨t, rfl⟩ := rx
  obtain ⟨t', rfl⟩ := ry
  exact rule i j t t' s _ _ ⟨.int (g i j), H, I.tok _, ⟨_, rfl⟩, q⟩
theorem opB0 {f : Value → Value → Sem Value} {g : Int → Int → Bool}
    (rule : ∀ (i j : Int) (t u : Tok) (s : Shared) (Q : Value → Shared → Prop) (E : Value → Shared → Prop), Q (.bool (g i j)) s → wpAny (model X.prog X.w) X.A (f (.int i t) (.int j u)) Q E s) :
    OpR X f (rI0 fun i j => .bl (g i j)) := by
  intro pins s σ H x y v u Q I rx ry h
  obtain ⟨i, j, rfl, rfl, q⟩ := h
  obtain ⟨t, rfl⟩ := rx
  obtain ⟨t', rfl⟩ := ry
  exact rule i j t t' s _ _ ⟨.bl (g i j), H, I, rfl, q⟩

def CDiv (i j : Int) : Prop := 0 < j ∧ j < 1073741824
def CMul (i j : Int) : Prop := (-(2 ^ 64) < i ∧ i < 2 ^ 64) ∨ (-(2 ^ 64) < j ∧ j < 2 ^ 64)
theorem CMul.ok {i j : Int} (h : CMul i j) : IntMulOk i j := by
  rcases h with ⟨h1, h2⟩ | ⟨h1, h2⟩
  · exact .of_left (intBits_le_64 h1 h2)
  · exact .of_right (intBits_le_64 h1 h2)
theorem op_add : OpR X (binaryOp .Add) (rI0 fun i j => .int (i + j)) := opI0 fun _ _ _ _ _ _ _ q => add_int q
theorem op_sub : OpR X (binaryOp .Sub) (rI0 fun i j => .int (i - j)) := opI0 fun _ _ _ _ _ _ _ q => sub_int q
theorem op_mul : OpR X (binaryOp .Mult) (rI CMul fun i j => .int (i * j)) := opI fun _ _ _ _ _ _ _ hc q => mul_int q hc.ok
/-- // by a positive divisor -/
theorem op_fdiv : OpR X (binaryOp .FloorDiv) (rI CDiv fun i j => .int (i / j)) := opI fun i j _ _ _ _ _ hc q => by
  have h1 : (0 : Int) < j := hc.1
  have h2 : j < 1073741824 := hc.2
  exact floordiv_int (by omega) (by rw [Int.fdiv_eq_ediv_of_nonneg i (by omega)]; exact q) (.inl (PyProof.noPylong_small (by omega)))
/-- % by a positive divisor of any size -/
theorem op_mod : OpR X (binaryOp .Mod) (rI (fun _ j => 0 < j) fun i j => .int (i % j)) := opI fun i j _ _ _ _ _ hc q => by
  have h1 : (0 : Int) < j := hc
  exact mod_int' (by omega) (by rw [Int.fmod_eq_emod_of_nonneg i (by omega)]; exact q)
theorem unI {f : Value → Sem Value} {g : Int → Int}
    (rule : ∀ (i : Int) (t : Tok) (s : Shared) (Q : Value → Shared → Prop) (E : Value → Shared → Prop), Q (.int (g i) s.toks) { s with toks := s.toks + 1 } → wpAny (model X.prog X.w) X.A (f (.int i t)) Q E s) :
    UnR X f (rU fun i => .int (g i)) := by
  intro pins s σ H x v Q I rx h
  obtain ⟨i, rfl, q⟩ := h
  obtain ⟨t, rfl⟩ := rx
  exact rule i t s _ _ ⟨.int (g i), H, I.tok _, ⟨_, rfl⟩, q⟩
theorem un_neg : UnR X (unaryOp .USub) (rU fun i => .int (-i)) := unI fun _ _ _ _ _ q => neg_int q
end

/-- the scalars that == tells apart as data does -/
def scal : V → V → Bool
  | .non, .non => true | .non, .int _ => true | .int _, .non => true | .non, .bl _ => true | .bl _, .non => true | .non, .str _ => true | .str _, .non => true
  | .int _, .int _ => true | .bl _, .bl _ => true | .str _, .str _ => true | .byt _, .byt _ => true
  | .int _, .str _ => true | .str _, .int _ => true | .bl _, .str _ => true | .str _, .bl _ => true
  | _, _ => false
def rEq : R2 := fun x y H Q => scal x y = true ∧ Q (.bl (decide (x = y))) H
def rNe : R2 := fun x y H Q => scal x y = true ∧ Q (.bl (!decide (x = y))) H

theorem dec_int {i j : Int} : decide (V.int i = V.int j) = (i == j) := by
  rw [Bool.eq_iff_iff]
  simp
theorem dec_bl {i j : Bool} : decide (V.bl i = V.bl j) = (i == j) := by
  rw [Bool.eq_iff_iff]
  simp
theorem dec_str {i j : Str} : decide (V.str i = V.str j) = (i == j) := by
  rw [Bool.eq_iff_iff]
  simp
theorem dec_byt {i j : Array UInt8} : decide (V.byt i = V.byt j) = (i.toList == j.toList) := by
  rw [Bool.eq_iff_iff]
  cases i
  cases j
  simp

section
variable {X : Cx} {a b c : Expr} {ta tb tc : TE} {pos : Pos}
theorem fin_bl {pins : List (Addr × Obj)} {σ : St} {H : Hp} {s : Shared} {Q : VK} {k k' : Bool} (I : Inv X pins σ H s) (q : Q (.bl k) H) (e : k = k') : EP X pins σ Q (.bool k') s := by
  subst e
  exact ⟨.bl k, H, I, rfl, q⟩
theorem op_eq : OpR X (compareOp .Eq) rEq := by
  intro pins s σ H x y v u Q I rx ry h
  obtain ⟨hs, q⟩ := h
  cases x with
  | non =>
    cases rx
    cases y with
    | non => cases ry; exact PySem.EqNone.eq_none_none (fin_bl I q (by simp))
    | bl j => cases ry; exact PySem.EqNone.eq_none_bool (fin_bl I q (by simp))
    | int j => obtain ⟨t', rfl⟩ := ry; exact PySem.EqNone.eq_none_int (fin_bl I q (by simp))
    | str j => obtain ⟨t', rfl⟩ := ry; exact PySem.EqNone.eq_none_str (fin_bl I q (by simp))
    | _ => exact absurd (show false = true from hs) Bool.false_ne_true
  | bl i =>
    cases rx
    cases y with
    | non => cases ry; exact PySem.EqNone.eq_bool_none (fin_bl I q (by simp))
    | bl j => cases ry; exact eq_bool (fin_bl I q dec_bl)
    | str j => obtain ⟨t', rfl⟩ := ry; exact PySem.EqMixed.eq_bool_str (fin_bl I q (by simp))
    | _ => exact absurd (show false = true from hs) Bool.false_ne_true
  | int i =>
    obtain ⟨t, rfl⟩ := rx
    cases y with
    | non => cases ry; exact PySem.EqNone.eq_int_none (fin_bl I q (by simp))
    | int j => obtain ⟨t', rfl⟩ := ry; exact eq_int (fin_bl I q dec_int)
    | str j => obtain ⟨t', rfl⟩ := ry; exact PySem.EqMixed.eq_int_str (fin_bl I q (by simp))
    | _ => exact absurd (show false = true from hs) Bool.false_ne_true
  | str i =>
    obtain ⟨t, rfl⟩ := rx
    cases y with
    | non => cases ry; exact PySem.EqNone.eq_str_none (fin_bl I q (by simp))
    | bl j => cases ry; exact PySem.EqMixed.eq_str_bool (fin_bl I q (by simp))
    | int j => obtain ⟨t', rfl⟩ := ry; exact PySem.EqMixed.eq_str_int (fin_bl I q (by simp))
    | str j => obtain ⟨t', rfl⟩ := ry; exact eq_str (fin_bl I q dec_str)
    | _ => exact absurd (show false = true from hs) Bool.false_ne_true
  | byt i =>
    obtain ⟨t, rfl⟩ := rx
    cases y with
    | byt j => obtain ⟨t', rfl⟩ := ry; exact PySem.W.eq_bytes (fin_bl I q dec_byt)
    | _ => exact absurd (show false = true from hs) Bool.false_ne_true
  | _ => cases y <;> exact absurd (show false = true from hs) Bool.false_ne_true
theorem op_ne : OpR X (compareOp .NotEq) rNe := by
  intro pins s σ H x y v u Q I rx ry h
  obtain ⟨hs, q⟩ := h
  cases x with
  | non =>
    cases rx
    cases y with
    | non => cases ry; exact PySem.EqNone.ne_none_none (fin_bl I q (by simp))
    | bl j => cases ry; exact PySem.EqNone.ne_none_bool (fin_bl I q (by simp))
    | int j => obtain ⟨t', rfl⟩ := ry; exact PySem.EqNone.ne_none_int (fin_bl I q (by simp))
    | str j => obtain ⟨t', rfl⟩ := ry; exact PySem.EqNone.ne_none_str (fin_bl I q (by simp))
    | _ => exact absurd (show false = true from hs) Bool.false_ne_true
  | bl i =>
    cases rx
    cases y with
    | non => cases ry; exact PySem.EqNone.ne_bool_none (fin_bl I q (by simp))
    | bl j => cases ry; exact ne_bool (fin_bl I q (congrArg not dec_bl))
    | str j => obtain ⟨t', rfl⟩ := ry; exact PySem.EqMixed.ne_bool_str (fin_bl I q (by simp))
    | _ => exact absurd (show false = true from hs) Bool.false_ne_true
  | int i =>
    obtain ⟨t, rfl⟩ := rx
    cases y with
    | non => cases ry; exact PySem.EqNone.ne_int_none (fin_bl I q (by simp))
    | int j => obtain ⟨t', rfl⟩ := ry; exact ne_int (fin_bl I q (congrArg not dec_int))
    | str j => obtain ⟨t', rfl⟩ := ry; exact PySem.EqMixed.ne_int_str (fin_bl I q (by simp))
    | _ => exact absurd (show false = true from hs) Bool.false_ne_true
  | str i =>
    obtain ⟨t, rfl⟩ := rx
    cases y with
    | non => cases ry; exact PySem.EqNone.ne_str_none (fin_bl I q (by simp))
    | bl j => cases ry; exact PySem.EqMixed.ne_str_bool (fin_bl I q (by simp))
    | int j => obtain ⟨t', rfl⟩ := ry; exact PySem.EqMixed.ne_str_int (fin_bl I q (by simp))
    | str j => obtain ⟨t', rfl⟩ := ry; exact ne_str (fin_bl I q (congrArg not dec_str))
    | _ => exact absurd (show false = true from hs) Bool.false_ne_true
  | byt i =>
    obtain ⟨t, rfl⟩ := rx
    cases y with
    | byt j => obtain ⟨t', rfl⟩ := ry; exact PySem.W.ne_bytes (fin_bl I q (congrArg not dec_byt))
    | _ => exact absurd (show false = true from hs) Bool.false_ne_true
  | _ => cases y <;> exact absurd (show false = true from hs) Bool.false_ne_true

theorem op_lt : OpR X (compareOp .Lt) (rI0 fun i j => .bl (decide (i < j))) := opB0 fun _ _ _ _ _ _ _ q => lt_int q
theorem op_gt : OpR X (compareOp .Gt) (rI0 fun i j => .bl (decide (j < i))) := opB0 fun _ _ _ _ _ _ _ q => gt_int q
theorem op_ge : OpR X (compareOp .GtE) (rI0 fun i j => .bl (decide (j ≤ i))) := opB0 fun _ _ _ _ _ _ _ q => ge_int q
/-- is None, is not None: the right side a value none -/
theorem op_isN : OpR X (compareOp .Is) (fun x y H Q => y = .non ∧ Q (.bl (decide (x = .non))) H) := by
  intro pins s σ H x y v u Q I rx ry h
  obtain ⟨rfl, q⟩ := h
  cases ry
  refine is_none_gen (fin_bl I q ?_)
  cases x <;> first
    | (cases rx; rfl)
    | (obtain ⟨t, rfl⟩ := rx; rfl)
/-- two rules for one operation: by cases -/
theorem OpR.or {f : Value → Value → Sem Value} {r r' : R2} (h : OpR X f r) (h' : OpR X f r') : OpR X f (fun x y H Q => r x y H Q ∨ r' x y H Q) := by
  intro pins s σ H x y v u Q I rx ry q
  rcases q with q | q
  · exact h pins s σ H x y v u Q I rx ry q
  · exact h' pins s σ H x y v u Q I rx ry q

theorem nomark (b : Expr) {op : CmpOp} (h : op ≠ .In := by decide) (h2 : op ≠ .NotIn := by decide) : behindInMarks op b = false := by
  have e1 : (op == CmpOp.In) = false := by cases op <;> first | rfl | exact absurd rfl h
  have e2 : (op == CmpOp.NotIn) = false := by cases op <;> first | rfl | exact absurd rfl h2
  cases b <;> simp [behindInMarks, e1, e2]
/-- a comparison as a value; hm: nomark b, or (for in, not in) by with_unfolding_all rfl -/
theorem pe_cmpR {op : CmpOp} {r : R2} (ho : OpR X (compareOp op) r) (ha : PE X a ta) (hb : PE X b tb) (hm : behindInMarks op b = false) : PE X (.Compare a [op] [b] pos) (tOp r ta tb) := by
  intro pins s σ H Q I h
  exact wpAny_Compare1 (binT ha hb I h fun v u s2 x y H2 I2 rx ry q => ho pins s2 σ H2 x y v u Q I2 rx ry q) hm
/-- a reading of a value as a test -/
def tTest (t : TE) : TT := fun σ H Q => t σ H fun x H' => ∃ k, x = .bl k ∧ Q k H'
theorem pt_cmpR {op : CmpOp} {r : R2} (ho : OpR X (compareOp op) r) (ha : PE X a ta) (hb : PE X b tb) (hm : behindInMarks op b = false) : PT X (.Compare a [op] [b] pos) (tTest (tOp r ta tb)) := by
  intro pins s σ H Q I h
  refine wpAny_isTrue_Compare1 (thn (ha pins s σ H _ I h) fun v s1 ⟨x, H1, I1, r1, q1⟩ => thn (hb pins s1 σ H1 _ I1 q1) fun u s2 ⟨y, H2, I2, r2, q2⟩ =>
    thn (ho pins s2 σ H2 x y v u _ I2 r1 r2 q2) fun c s3 ⟨z, H3, I3, r3, k, e, q3⟩ => ?_) hm
  subst e
  cases r3
  exact wpAny_truthy_bool ⟨H3, I3, q3⟩
theorem line63 : (sizeLine : Nat) < 2 ^ 63 := by rw [sizeLine_eq]; decide
theorem op_add_str : OpR X (binaryOp .Add) (fun x y H Q => ∃ i j, x = .str i ∧ y = .str j ∧ i.length + j.length ≤ sizeLine ∧ Q (.str (i ++ j)) H) := by
  intro pins s σ H x y v u Q I rx ry h
  obtain ⟨i, j, rfl, rfl, hz, q⟩ := h
  obtain ⟨t, rfl⟩ := rx
  obtain ⟨t', rfl⟩ := ry
  exact add_str (fun t' tk => ⟨.str (i ++ j), H, I.tok _, ⟨_, rfl⟩, q⟩) hz
theorem vals1 {x : V} {us : List Value} (r : Vals [x] us) : ∃ u, us = [u] ∧ RelV x u := by
  cases r with
  | cons r1 r2 => cases r2; exact ⟨_, rfl, r1⟩
theorem vals2 {x y : V} {us : List Value} (r : Vals [x, y] us) : ∃ u w', us = [u, w'] ∧ RelV x u ∧ RelV y w' := by
  cases r with
  | cons r1 r2 =>
    cases r2 with
    | cons r3 r4 => cases r4; exact ⟨_, _, rfl, r1, r3⟩
theorem call_min2 (hc : X.calm = true) : CallR X (.builtin "min") (fun xs H Q => ∃ i j, xs = [.int i, .int j] ∧ Q (.int (if j < i then j else i)) H) := by
  intro pins s σ H xs us Q I r h
  obtain ⟨i, j, rfl, q⟩ := h
  obtain ⟨u, w', rfl, ⟨t, rfl⟩, ⟨t', rfl⟩⟩ := vals2 r
  refine min_two_ints (I.ok.hd hc) fun h' tk k => ⟨_, H, I.kept k, ?_, q⟩
  by_cases hj : j < i
  · rw [if_pos hj, if_pos hj]; exact ⟨_, rfl⟩
  · rw [if_neg hj, if_neg hj]; exact ⟨_, rfl⟩
theorem call_int1 : CallR X (.type "int") (fun xs H Q => (∃ i, xs = [.int i] ∧ Q (.int i) H) ∨ ∃ k, xs = [.bl k] ∧ Q (.int (if k then 1 else 0)) H) := by
  intro pins s σ H xs us Q I r h
  rcases h with ⟨i, rfl, q⟩ | ⟨k, rfl, q⟩
  · obtain ⟨u, rfl, t, rfl⟩ := vals1 r
    exact call_int_int ⟨.int i, H, I, ⟨_, rfl⟩, q⟩
  · obtain ⟨u, rfl, r1⟩ := vals1 r
    cases r1
    exact call_int_bool ⟨.int (if k then 1 else 0), H, I.tok _, ⟨_, rfl⟩, q⟩
end
end L2

namespace L2
open PySem PySem.Spec PyProof.Rows

structure ObjM (h : Heap) (x dx C : Addr) (mA : Str → Option Value) : Prop where
  obj : h.get? x = some (PySem.W.instObj C dx)
  ns : h.Ns1 dx mA
  ne : dx ≠ x

theorem lookIn_ns {h : Heap} {dx : Addr} {mA : Str → Option Value} (n : h.Ns1 dx mA) : ∃ od, h.get? dx = some od ∧ ∀ name, PySem.W.lookIn name od = some (mA name) := by
  obtain ⟨o, es, ep, ho, hd, hk, _, hm⟩ := n
  refine ⟨o, ho, fun name => ?_⟩
  have e := hm name
  unfold nsFind findBy at e
  rw [← Array.find?_toList] at e
  unfold PySem.W.lookIn
  rw [hd]
  dsimp only
  split
  · rename_i y q
    rw [q] at e
    exact congrArg some e
  · rename_i q
    rw [q] at e
    have a : es.toList.any (·.refKey) = false := by
      rw [List.any_eq_false]
      intro y hy
      obtain ⟨z, t, hkey⟩ := hk y (Array.mem_toList_iff.mp hy)
      simp [DictEntry.refKey, hkey]
    have a' : ¬ es.toList.any (·.refKey) = true := by rw [a]; exact Bool.false_ne_true
    rw [if_neg a']
    exact congrArg some e

theorem ObjM.look {h : Heap} {x dx C : Addr} {mA : Str → Option Value} (I : ObjM h x dx C mA) : ∃ od, PySem.W.InstAt h x (PySem.W.instObj C dx) C (some od) ∧ ∀ name, PySem.W.lookIn name od = some (mA name) :=
  let ⟨od, ho, hl⟩ := lookIn_ns I.ns
  ⟨od, ⟨I.obj, rfl, rfl, ho⟩, hl⟩

section
variable {prog : Program} {w : World} {A : Around} {E : Value → Shared → Prop} {s : Shared} {K : PySem.W.Frag} {x dx C f : Addr} {mA : Str → Option Value} {name : Str} {v : Value}

end

theorem RelO.some_of {v : V} {o : Option Value} (r : RelO (some v) o) : ∃ u, o = some u ∧ RelV v u := by
  cases o with
  | none => exact (show False from r).elim
  | some u => exact ⟨u, rfl, r⟩
theorem handed_of {v : V} {u : Value} (r : RelV v u) : PySem.W.handedIn u = true := by
  cases v with
  | non => cases (show u = Value.none from r); rfl
  | bl b => cases (show u = Value.bool b from r); rfl
  | int i => obtain ⟨t, e⟩ := (show ∃ t, u = Value.int i t from r); cases e; rfl
  | str x => obtain ⟨t, e⟩ := (show ∃ t, u = Value.str x t from r); cases e; rfl
  | byt b => obtain ⟨t, e⟩ := (show ∃ t, u = Value.bytes b t from r); cases e; rfl
  | flt b => obtain ⟨t, e⟩ := (show ∃ t, u = Value.float b t from r); cases e; rfl
  | ref a => cases (show u = Value.ref a from r); rfl
  | ty n => cases (show u = Value.type n from r); rfl

section
variable {P : Program} {w : World} {H H' : Hp} {h h' : Heap} {a C dx : Addr} {fs fs' : List (Str × V)}
theorem ins_get (hok : HOk P w H h) (e : H a = some (.ins C dx fs)) : ∃ mA, ObjM h a dx C mA ∧ (∀ f, RelO (fs.lookup f) (mA f)) ∧ PySem.Within mA (fs.map (·.1)) ∧ fs.length ≤ 1000 ∧ H dx = some (.own a) := by
  obtain ⟨d, z, ne, ob, mA, n, r, q⟩ := (show ObjOk P w H h a (.ins C dx fs) from hok a _ e)
  exact ⟨mA, ⟨ob, n, ne⟩, r, q, z, d⟩
end

structure Cls (K : PySem.W.Frag) (C : Addr) : Prop where
  pg : PySem.W.plainGet K C Str.empty = true
  hd : PySem.W.hasDictIn K C = true
  po : PySem.W.plainOver K C = true
  sa : PySem.W.findIn K (.ref C) "__setattr__" = some (some (.builtin "object.__setattr__"))
theorem Cls.get {K : PySem.W.Frag} {C : Addr} (c : Cls K C) (f : Str) : PySem.W.plainGet K C f = true := c.pg
section
variable {X : Cx} {pins : List (Addr × Obj)} {σ : St} {H : Hp} {s : Shared} {a C dx : Addr} {fs : List (Str × V)} {f : Str} {v : V} {A : Around} {E : Value → Shared → Prop}

/-- a new instance, tracked, without attributes -/
theorem Inv.made (I : Inv X pins σ H s) : Inv X pins σ (upd (upd H s.heap.objs.size (.own (s.heap.objs.size + 1))) (s.heap.objs.size + 1) (.ins C s.heap.objs.size []))
    { s with heap := (s.heap.push PySem.W.emptyDict).push (PySem.W.instObj C s.heap.objs.size) } := by
  have e1 : (s.heap.push PySem.W.emptyDict).get? s.heap.objs.size = some PySem.W.emptyDict := Heap.get?_push_size s.heap rfl
  have e2 : ((s.heap.push PySem.W.emptyDict).push (PySem.W.instObj C s.heap.objs.size)).get? (s.heap.objs.size + 1) = some (PySem.W.instObj C s.heap.objs.size) := by
    have := Heap.get?_push_size (s.heap.push PySem.W.emptyDict) (o := PySem.W.instObj C s.heap.objs.size) rfl
    rwa [Heap.size_push] at this
  have e3 : (s.heap.push PySem.W.emptyDict).Ns s.heap.objs.size (fun _ => none) := ⟨PySem.W.emptyDict, #[], _, e1, rfl, (fun e he => absurd he (by simp)), fun _ => rfl⟩
  have I1 := I.laid (a := s.heap.objs.size) (o := .own (s.heap.objs.size + 1)) (h' := s.heap.push PySem.W.emptyDict) (t' := s.toks) (fun b u q => Heap.get?_push_of_some _ q) (Nat.le_refl _) ⟨_, e1⟩
  refine I1.laid (a := s.heap.objs.size + 1) (o := .ins C s.heap.objs.size []) (t' := s.toks) (fun b u q => Heap.get?_push_of_some _ q) (Nat.le_of_eq (Heap.size_push _ _)) ?_
  have ne : s.heap.objs.size ≠ s.heap.objs.size + 1 := Nat.ne_of_lt (Nat.lt_succ_self _)
  refine ⟨by rw [upd_ne ne, upd_same], Nat.zero_le _, ne, e2, fun _ => none, (Heap.Ns1.of_empty e3).at fun o q => Heap.get?_push_of_some _ q, fun _ => True.intro, fun y hy => absurd rfl hy⟩

/-- e.f where nothing but the object is asked: through attributeBase (super) and the last hold -/
theorem attr_of {prog : Program} {w : World} {env : Env} {e : Expr} {f : Str} {pos : Pos} {s : Shared} {Q : Value → Shared → Prop} (hb : attributeBase e f env (eval e env) = eval e env)
    (h : wpAny (model prog w) A (eval e env) (fun o s₁ => wpAny (model prog w) A (getAttr o f true) Q E s₁) E s) : wpAny (model prog w) A (eval (.Attribute e f pos) env) Q E s :=
  Attribute_any_ h (by rw [arm_eval_Attribute, hb])
end

section
variable {X : Cx} {o e value : Expr} {f : Str} {pos pos' tpos : Pos} {ta tv : TE}
end

section
variable {X : Cx} {pins : List (Addr × Obj)} {σ : St} {H : Hp} {s : Shared} {A : Around} {E : Value → Shared → Prop} {Q : Value → Shared → Prop} {c : Value} {b : Bool}
/-- the type of a value, as the fragment's deciders take it; for an instance its class -/
inductive TyOf (K : PySem.W.Frag) (H : Hp) : V → Value → Prop where
  | non : TyOf K H .non (.type "NoneType")
  | bl (x : Bool) : TyOf K H (.bl x) (.type "bool")
  | int (i : Int) : TyOf K H (.int i) (.type "int")
  | str (x : Str) : TyOf K H (.str x) (.type "str")
  | flt (x : UInt64) : TyOf K H (.flt x) (.type "float")
  | lst {a : Addr} {xs : List V} (e : H a = some (.lst xs)) : TyOf K H (.ref a) (.type "list")
  | frz {a : Addr} {o : Obj} {xs : List V} (e : H a = some (.frz o (.lst xs))) : TyOf K H (.ref a) (.type "list")
  | tup {a : Addr} {xs : List V} (e : H a = some (.tup xs)) : TyOf K H (.ref a) (.type "tuple")
  | dK {a : Addr} {kvs : List (Key × V)} (e : H a = some (.dK kvs)) : TyOf K H (.ref a) (.type "dict")
  | dT {a : Addr} {kvs : List (List Key × V)} (e : H a = some (.dT kvs)) : TyOf K H (.ref a) (.type "dict")
  | ins {a C dx : Addr} {fs : List (Str × V)} (e : H a = some (.ins C dx fs)) (cl : Cls K C) (ha : PySem.W.findIn K (.ref C) "__class__" = some (some (.builtin "object.__class__")))
      (hn : PySem.W.specialIn K (.builtin "object.__class__") "__get__" = some (some (.builtin "getset_descriptor.__get__"))) (htk : PySem.W.takesIn K (.builtin "object.__class__") = some true)
      (hm : PySem.W.mroIn K C (.type "object") = some true) : TyOf K H (.ref a) (.ref C)
/-- isinstance(x, c) for one class c, a built-in or an own one: kitOne's answer -/
theorem isinst_ok {x : V} {u t : Value} (I : Inv X pins σ H s) (rx : RelV x u) (ty : TyOf X.K H x t) (e : PySem.W.kitOne X.K t c = some b) (h : ∀ tk, Q (.bool b) { s with toks := tk }) :
    wpAny (model X.prog X.w) A (call (.builtin "isinstance") [u, c]) Q E s := by
  cases ty with
  | non => cases (show u = Value.none from rx); exact PySem.W.kia_one PySem.W.kitx_none I.kIn True.intro e (fun z => nomatch z) h
  | bl y => cases (show u = Value.bool y from rx); exact PySem.W.kia_one PySem.W.kitx_bool I.kIn True.intro e (fun z => nomatch z) h
  | int i => obtain ⟨t, q⟩ := (show ∃ t, u = Value.int i t from rx); cases q; exact PySem.W.kia_one PySem.W.kitx_int I.kIn True.intro e (fun z => nomatch z) h
  | str y => obtain ⟨t, q⟩ := (show ∃ t, u = Value.str y t from rx); cases q; exact PySem.W.kia_one PySem.W.kitx_str I.kIn True.intro e (fun z => nomatch z) h
  | flt y => obtain ⟨t, q⟩ := (show ∃ t, u = Value.float y t from rx); cases q; exact PySem.W.kia_one PySem.W.kitx_float I.kIn True.intro e (fun z => nomatch z) h
  | @lst a xs ea =>
    cases (show u = Value.ref a from rx)
    obtain ⟨_, _, n, _, h1⟩ := (show ObjOk X.prog X.w H s.heap a (.lst xs) from I.hok a _ ea)
    exact PySem.W.kia_one PySem.W.kitx_list I.kIn ⟨_, h1, rfl⟩ e (fun z => nomatch z) h
  | @frz a ob xs ea =>
    cases (show u = Value.ref a from rx)
    obtain ⟨_, _, _, n, _, h1⟩ := (show ObjOk X.prog X.w H s.heap a (.frz ob (.lst xs)) from I.hok a _ ea)
    exact PySem.W.kia_one PySem.W.kitx_list I.kIn ⟨_, h1, rfl⟩ e (fun z => nomatch z) h
  | @tup a xs ea =>
    cases (show u = Value.ref a from rx)
    obtain ⟨_, _, _, p⟩ := (show ObjOk X.prog X.w H s.heap a (.tup xs) from I.hok a _ ea)
    obtain ⟨o, h1, h2, _⟩ := p
    exact PySem.W.kia_one PySem.W.kitx_tuple I.kIn ⟨o, h1, h2⟩ e (fun z => nomatch z) h
  | @dK a kvs ea =>
    cases (show u = Value.ref a from rx)
    obtain ⟨_, _, vs, _, p⟩ := (show ObjOk X.prog X.w H s.heap a (.dK kvs) from I.hok a _ ea)
    obtain ⟨o, es, ep, h1, h2, _⟩ := p
    exact PySem.W.kia_one PySem.W.kitx_dict I.kIn ⟨o, h1, h2.1⟩ e (fun z => nomatch z) h
  | @dT a kvs ea =>
    cases (show u = Value.ref a from rx)
    obtain ⟨_, _, xs, _, o, es, ep, h1, h2, _⟩ := (show ObjOk X.prog X.w H s.heap a (.dT kvs) from I.hok a _ ea)
    exact PySem.W.kia_one PySem.W.kitx_dict I.kIn ⟨o, h1, h2.1⟩ e (fun z => nomatch z) h
  | @ins a C dx fs ea cl ha hn htk hm =>
    cases (show u = Value.ref a from rx)
    obtain ⟨mA, O, _⟩ := ins_get I.hok ea
    obtain ⟨od, J, _⟩ := O.look
    exact PySem.W.kia_one (PySem.W.kitx_own (cl.get _) cl.hd ha hn htk hm) I.kIn J e (fun z => nomatch z) h
end
end L2

namespace L2
open PySem PySem.Spec PyProof.Rows

structure Room (k : Nat) (A : Around) : Prop where
  hd : A.handled = none
  dp : A.depth + 3 * k + 5 < recursionLimit
  un : A.units + 16 * k + 200 < cLine
  gd : A.guards = some []
theorem Room.mono {j k : Nat} {A : Around} (r : Room k A) (h : j ≤ k) : Room j A := ⟨r.hd, by have := r.dp; omega, by have := r.un; omega, r.gd⟩
theorem Room.deeper {k : Nat} {A : Around} (r : Room (k + 1) A) (env : Env) : Room k (A.deeper env) :=
  ⟨r.hd, by have := r.dp; show A.depth + 1 + 3 * k + 5 < _; omega, by have := r.un; show A.units + 3 + 16 * k + 200 < _; omega, r.gd⟩
theorem make_depth {A : Around} {C : Addr} {us : List Value} {kw : List (Str × Value)} : (A.under (.builtin "type.__call__" ⟨.ref C :: us, kw⟩)).depth = A.depth + 1 := by
  first | rfl | simp [Around.under, Code.weight, Code.isCreation, Code.isGuard, Code.isCaller, Code.frames, Code.isFrame, guardIds]
theorem make_units {A : Around} {C : Addr} {us : List Value} {kw : List (Str × Value)} : (A.under (.builtin "type.__call__" ⟨.ref C :: us, kw⟩)).units = A.units + 1 := by
  first | rfl | simp [Around.under, Code.cUnits, Code.frames, Code.isFrame]
theorem Room.make {k : Nat} {A : Around} (r : Room (k + 1) A) (C : Addr) (us : List Value) (kw : List (Str × Value)) : Room k (A.under (.builtin "type.__call__" ⟨.ref C :: us, kw⟩)) :=
  ⟨r.hd, by have := r.dp; rw [make_depth]; omega, by have := r.un; rw [make_units]; omega, by first | exact r.gd | (simp [Around.under, Code.isGuard, guardIds]; exact r.gd)⟩
theorem Room.depth {k : Nat} {A : Around} (r : Room k A) : A.depth < recursionLimit := by have := r.dp; omega
theorem Room.units {k : Nat} {A : Around} (r : Room k A) : A.units + 64 < cLine := by have := r.un; omega
def tNil : TA := fun _ H Q => Q [] H
def tCons (ta : TE) (tr : TA) : TA := fun σ H Q => ta σ H fun x H1 => tr σ H1 fun xs H2 => Q (x :: xs) H2
section
variable {X : Cx} {e : Expr} {es : List Expr} {te : TE} {t : TA} {pos : Pos}
theorem pa_nil : PA X [] tNil := fun _ _ _ _ H Q I h => Calls.spliced_nil ⟨[], H, I, .nil, h⟩
theorem pa_cons (ha : PE X e te) (hr : PA X es t) (hs : starEach (e :: es) X.env = (false, eval e X.env) :: starEach es X.env := by rfl) : PA X (e :: es) (tCons te t) := by
  intro pos pins s σ H Q I h
  rw [hs]
  show wpAny _ _ (spliced ((false, eval e X.env) :: backTo pos (starEach es X.env))) _ _ s
  refine Calls.spliced_cons (thn (ha pins s σ H _ I h) fun u s1 ⟨x, H1, I1, r1, q1⟩ => ?_)
  exact thn (hr pos pins s1 σ H1 _ I1 q1) fun us s2 ⟨xs, H2, I2, r2, q2⟩ => ⟨x :: xs, H2, I2, .cons r1 r2, q2⟩

/-- a tuple, a list of written items -/
def tTup (t : TA) : TE := fun σ H Q => t σ H fun xs H1 => xs.length ≤ sizeLine ∧ ∀ p, H1 p = none → Q (.ref p) (upd H1 p (.tup xs))
def tLst (t : TA) : TE := fun σ H Q => t σ H fun xs H1 => xs.length ≤ sizeLine ∧ ∀ p, H1 p = none → Q (.ref p) (upd H1 p (.lst xs))
theorem pe_tup {x1} (h : PA X es t) : PE X (.Tuple es x1 pos) (tTup t) := by
  intro pins s σ H Q I hq
  refine wpAny_Tuple_spliced (thn (h pos pins s σ H _ I hq) fun us s1 ⟨xs, H1, I1, r, z, q⟩ => ⟨by rw [← r.length]; exact z, ?_⟩)
  have hf : H1 s1.heap.objs.size = none := I1.hok.fresh (Nat.le_refl _)
  refine ⟨.ref s1.heap.objs.size, upd H1 s1.heap.objs.size (.tup xs), I1.laid (t' := s1.toks) (fun b u e => Heap.get?_push_of_some _ e) (Nat.le_refl _) ?_, rfl, q _ hf⟩
  exact ⟨z, us, r, ⟨_, Heap.get?_push_size _ rfl, rfl, _, rfl, rfl⟩⟩
theorem pe_lst (h : PA X es t) : PE X (.List es pos) (tLst t) := by
  intro pins s σ H Q I hq
  refine wpAny_List_spliced (thn (h pos pins s σ H _ I hq) fun us s1 ⟨xs, H1, I1, r, z, q⟩ => ⟨by rw [← r.length]; exact z, ?_⟩)
  have hf : H1 s1.heap.objs.size = none := I1.hok.fresh (Nat.le_refl _)
  refine ⟨.ref s1.heap.objs.size, upd H1 s1.heap.objs.size (.lst xs), I1.laid (t' := s1.toks) (fun b u e => Heap.get?_push_of_some _ e) (Nat.le_refl _) ?_, rfl, q _ hf⟩
  exact ⟨z, us, 0, r, Heap.get?_push_size _ rfl⟩
end

/-- a def's promise: the bound arguments in the parameters' order, the heap, the wanted end, the wanted exception -/
abbrev Sp := List V → Hp → VK → XK → Prop
/-- how an exception lies behind a call (file 08 gives it): the callers' frames, abstract heap and state ahead of the call, the wish, the exception, the state -/
abbrev CXT := List Env → Hp → Shared → XK → Value → Shared → Prop

/-- the state at a call -/
structure Env0 (P : Program) (w : World) (K : PySem.W.Frag) (mg : Str → Option Value) (base : Heap) (A : Around) (outer : List Env) (s : Shared) (H : Hp) : Prop where
  frames : A.frames = some outer
  mod : Mod K mg base
  bs : ∀ b o, base.get? b = some o → s.heap.get? b = some o ∧ H b = none
  bsz : base.objs.size ≤ s.heap.objs.size
  funs : s.heap.FunFrames base outer
  frf : ∀ b ∈ frs outer, H b = none
  hok : HOk P w H s.heap
  bare : AllBare s.gens
/-- a call's end -/
def CE (outer : List Env) (P : Program) (w : World) (H : Hp) (s : Shared) (Q : VK) (u : Value) (s' : Shared) : Prop :=
  ∃ v H', s'.os = s.os ∧ AllBare s'.gens ∧ Un (frs outer) [] H H' s.heap s'.heap ∧ HOk P w H' s'.heap ∧ RelV v u ∧ Q v H'
def CR (CX : CXT) (outer : List Env) (P : Program) (w : World) (H : Hp) (s : Shared) (Q : VK) (E : XK) (r : Result) (s' : Shared) : Prop :=
  match r with
  | .ok (.ret u) => CE outer P w H s Q u s'
  | .ok _ => False
  | .error e => CX outer H s E e s'
structure FnOk (P : Program) (w : World) (K : PySem.W.Frag) (mg : Str → Option Value) (base : Heap) (CX : CXT) (k : Nat) (f : Addr) (fd : FuncData) (ps : List Str) (sp : Sp) : Prop where
  len : ∀ vs H Q E, sp vs H Q E → vs.length = ps.length
  run : ∀ (A : Around) (outer : List Env) (s : Shared) (H : Hp) (args : Args) (us : List Value) (vs : List V) (Q : VK) (E : XK), Room k A → Env0 P w K mg base A outer s H → BindsTo s fd args (ps.zip us) → Vals vs us → sp vs H Q E →
    codeAny (model P w) A (.call (.ref f) args) (CR CX outer P w H s Q E) s
theorem FnOk.mono {P : Program} {w : World} {K : PySem.W.Frag} {mg : Str → Option Value} {base : Heap} {CX : CXT} {j k : Nat} {f : Addr} {fd : FuncData} {ps : List Str} {sp : Sp} (F : FnOk P w K mg base CX j f fd ps sp) (h : j ≤ k) :
    FnOk P w K mg base CX k f fd ps sp := ⟨F.len, fun A outer s H args us vs Q E hr => F.run A outer s H args us vs Q E (hr.mono h)⟩
/-- a weaker promise -/
theorem FnOk.imp {P : Program} {w : World} {K : PySem.W.Frag} {mg : Str → Option Value} {base : Heap} {CX : CXT} {k : Nat} {f : Addr} {fd : FuncData} {ps : List Str} {sp sp' : Sp} (F : FnOk P w K mg base CX k f fd ps sp)
    (h : ∀ vs H Q E, sp' vs H Q E → sp vs H Q E) : FnOk P w K mg base CX k f fd ps sp' :=
  ⟨fun vs H Q E q => F.len vs H Q E (h _ _ _ _ q), fun A outer s H args us vs Q E hr he hb hv hs => F.run A outer s H args us vs Q E hr he hb hv (h _ _ _ _ hs)⟩

theorem Env0.make {P : Program} {w : World} {K : PySem.W.Frag} {mg : Str → Option Value} {base : Heap} {A : Around} {outer : List Env} {s : Shared} {H : Hp} (e : Env0 P w K mg base A outer s H) (C : Addr) (us : List Value) (kw : List (Str × Value)) :
    Env0 P w K mg base (A.under (.builtin "type.__call__" ⟨.ref C :: us, kw⟩)) outer s H := ⟨by first | exact e.frames | (simpa [Around.under, Code.envs, Code.isFrame, pushEnvs] using e.frames), e.mod, e.bs, e.bsz, e.funs, e.frf, e.hok, e.bare⟩
section
variable {X : Cx} {pins : List (Addr × Obj)} {σ : St} {H : Hp} {s s' : Shared}
/-- from a body: what a callee wants -/
theorem Inv.env0 (I : Inv X pins σ H s) : Env0 X.prog X.w X.K X.mg X.base X.A X.stack s H :=
  ⟨I.ok.frames, I.ok.mod, I.bs, Nat.le_trans I.ok.bsz I.sz, I.stack, I.stkFree, I.hok, I.bare⟩
/-- behind a call -/
theorem Inv.after {Q : VK} {u : Value} (I : Inv X pins σ H s) (h : CE X.stack X.prog X.w H s Q u s') : EP X pins σ Q u s' := by
  obtain ⟨v, H', os, bare, un, hok, r, q⟩ := h
  obtain ⟨hh, g, d, t, os'⟩ := s'
  obtain rfl : os' = s.os := os
  exact ⟨v, H', I.call (h' := hh) (g' := g) (d' := d) (t' := t) (ch := []) un hok bare (fun b z => absurd z (by simp)), r, q⟩
end

/-- f(..): the written arguments, then the defaults dvs; E: what is wanted of an exception -/
def tCall (sp : Sp) (dvs : List V) (E : XK) (t : TA) : TE := fun σ H Q => t σ H fun vs H1 => sp (vs ++ dvs) H1 Q E
/-- how the parameters are bound: us the positional arguments, kw the keywords' values by name, ds the defaults that fill up -/
def Binds (K : PySem.W.Frag) (fd : FuncData) (ps : List Str) (ds : List Value) : Prop :=
  ∀ (s : Shared) (us : List Value), K.In s.heap → (us ++ ds).length = ps.length → BindsTo s fd ⟨us, []⟩ (ps.zip (us ++ ds))
/-- every parameter is given -/
theorem Binds.all {K : PySem.W.Frag} {fd : FuncData} {ps : List Str} (h : ∀ us : List Value, us.length = ps.length → bindArgs fd ⟨us, []⟩ = pure (ps.zip us)) : Binds K fd ps [] := fun s us _ hl => by
  rw [List.append_nil] at hl ⊢
  exact .of_eq (h us hl)

/-- an exception of a callee reaches what this body wants of exceptions -/
def Passes (CX : CXT) (X : Cx) (E : XK) : Prop := ∀ (pins : List (Addr × Obj)) (σ : St) (H : Hp) (s : Shared) (e : Value) (s' : Shared), Inv X pins σ H s → CX X.stack H s E e s' → X.xe e s'

section
variable {X : Cx} {CX : CXT} {k : Nat} {f C : Addr} {fd : FuncData} {ps : List Str} {sp : Sp} {dvs : List V} {ds : List Value} {E : XK} {x m : Str} {p pos apos : Pos} {e o : Expr} {es : List Expr} {ta : TE} {t : TA}

/-- the callee runs -/
theorem run_fn {pins : List (Addr × Obj)} {σ : St} {H : Hp} {s : Shared} {Q : VK} {us : List Value} {vs : List V} (F : FnOk X.prog X.w X.K X.mg X.base CX k f fd ps sp) (hr : Room k X.A) (hb : Binds X.K fd ps ds) (hd : Vals dvs ds) (hx : Passes CX X E)
    (I : Inv X pins σ H s) (r : Vals vs us) (h : sp (vs ++ dvs) H Q E) : wpAny (model X.prog X.w) X.A (call (.ref f) us) (EP X pins σ Q) X.xe s := by
  have r2 : Vals (vs ++ dvs) (us ++ ds) := r.append hd
  have hl : (us ++ ds).length = ps.length := by rw [← r2.length]; exact F.len _ _ _ _ h
  refine wpAny_call (codeAny_mono (F.run X.A X.stack s H ⟨us, []⟩ (us ++ ds) (vs ++ dvs) Q E hr I.env0 (hb s us I.kIn hl) r2 h) fun r s' hq => ?_)
  cases r with
  | error e => exact hx pins σ H s e s' I hq
  | ok fl =>
    cases fl with
    | ret u => exact I.after hq
    | next => exact False.elim hq
    | brk => exact False.elim hq
    | cont => exact False.elim hq

theorem pe_call (F : FnOk X.prog X.w X.K X.mg X.base CX k f fd ps sp) (hr : Room k X.A) (hg : Gl X x) (hm : X.mg x = some (.ref f)) (hk : PySem.W.keepIn X.K (.ref f) = true) (hb : Binds X.K fd ps ds) (hd : Vals dvs ds) (hx : Passes CX X E)
    (ha : PA X (e :: es) t) (hdb : (x == ("__debug__" : Str)) = false := by decide) (he : starEach (e :: es) X.env = (false, eval e X.env) :: starEach es X.env := by rfl) (hpl : (backTo pos (starEach es X.env)).any (·.1) = false := by rfl) :
    PE X (.Call (.Name x p) (e :: es) [] pos) (tCall sp dvs E t) := by
  intro pins s σ H Q I h
  refine wpAny_Call_Name_kw (ld_glob I hg hm ?_ hdb)
  refine PySem.W.callWith_K (h₀ := X.base) I.ok.mod.kin hk (thn (ha pos pins s σ H _ I h) fun us s1 ⟨vs, H1, I1, r, q⟩ => ⟨I1.kIn, ?_⟩) he hpl
  exact run_fn F hr hb hd hx I1 r q
end

section
variable {X : Cx} {CX : CXT} {k : Nat} {f C : Addr} {fd : FuncData} {ps ks : List Str} {sp : Sp} {E : XK} {x m : Str} {p pos apos kpos : Pos} {e o : Expr} {es : List Expr} {kws : List Keyword} {te ta : TE} {t tk : TA} {nm : Option Str}
variable {g : List Value → List Value → List Value} {gV : List V → List V → List V}
end

/-- names: the parameters first -/
structure FnScope (N P : List Str) (sc : Scope) : Prop where
  kind : sc.kind = .function
  co : sc.isCoroutine = false
  gen : sc.isGenerator = false
  nd : N.Nodup
  pre : N.take P.length = P
  par : ∀ x ∈ P, sc.names.lookup x = some .local ∨ sc.names.lookup x = some .cell
  nofree : ∀ y ∈ sc.names, y.2 ≠ .free

theorem bindL_out {kindOf : Str → Option NameKind} {x : Str} : ∀ {binds : List (Str × Value)} {m : Str → Option Value}, (∀ v, (x, v) ∉ binds) → bindL kindOf binds m x = m x
  | [], _, _ => rfl
  | (n, v) :: r, m, h => by
    unfold bindL
    rw [bindL_out fun w hw => h w (List.mem_cons_of_mem _ hw)]
    split
    · have : x ≠ n := by rintro rfl; exact h v List.mem_cons_self
      simp [this]
    · rfl
theorem bindC_out {kindOf : Str → Option NameKind} {x : Str} : ∀ {binds : List (Str × Value)} {m : Str → Option Value}, (∀ v, (x, v) ∉ binds) → bindC kindOf binds m x = m x
  | [], _, _ => rfl
  | (n, v) :: r, m, h => by
    unfold bindC
    rw [bindC_out fun w hw => h w (List.mem_cons_of_mem _ hw)]
    split
    · rfl
    · have : x ≠ n := by rintro rfl; exact h v List.mem_cons_self
      simp [this]
theorem bindL_get {kindOf : Str → Option NameKind} {x : Str} {v : Value} : ∀ {P : List Str} {vs : List Value} {i : Nat} {m : Str → Option Value}, P.Nodup → P[i]? = some x → vs[i]? = some v → kindOf x = some .local →
    bindL kindOf (P.zip vs) m x = some v
  | [], _, _, _, _, h, _, _ => by simp at h
  | _ :: _, [], _, _, _, _, h, _ => by simp at h
  | p :: P, w :: vs, 0, m, nd, h1, h2, hk => by
    simp at h1 h2; subst h1; subst h2
    show bindL kindOf ((p, w) :: P.zip vs) m p = _
    unfold bindL
    rw [bindL_out fun v hv => (List.nodup_cons.mp nd).1 (List.of_mem_zip hv).1, if_pos hk]
    simp
  | p :: P, w :: vs, i + 1, m, nd, h1, h2, hk => by
    show bindL kindOf ((p, w) :: P.zip vs) m x = _
    unfold bindL
    exact bindL_get (i := i) (List.nodup_cons.mp nd).2 (by simpa using h1) (by simpa using h2) hk
theorem bindC_get {kindOf : Str → Option NameKind} {x : Str} {v : Value} : ∀ {P : List Str} {vs : List Value} {i : Nat} {m : Str → Option Value}, P.Nodup → P[i]? = some x → vs[i]? = some v → kindOf x ≠ some .local →
    bindC kindOf (P.zip vs) m x = some v
  | [], _, _, _, _, h, _, _ => by simp at h
  | _ :: _, [], _, _, _, _, h, _ => by simp at h
  | p :: P, w :: vs, 0, m, nd, h1, h2, hk => by
    simp at h1 h2; subst h1; subst h2
    show bindC kindOf ((p, w) :: P.zip vs) m p = _
    unfold bindC
    rw [bindC_out fun v hv => (List.nodup_cons.mp nd).1 (List.of_mem_zip hv).1, if_neg hk]
    simp
  | p :: P, w :: vs, i + 1, m, nd, h1, h2, hk => by
    show bindC kindOf ((p, w) :: P.zip vs) m x = _
    unfold bindC
    exact bindC_get (i := i) (List.nodup_cons.mp nd).2 (by simpa using h1) (by simpa using h2) hk

/-- the names' values at the entry -/
def start (N : List Str) (vs : List V) : St := vs.map some ++ List.replicate (N.length - vs.length) none

/-- the context of a def's body, at its entry; an exception leaves the frame, then lies as CX says -/
def cxOf (CX : CXT) (P : Program) (w : World) (K : PySem.W.Frag) (mg : Str → Option Value) (base : Heap) (N : List Str) (qual : Str) (scope : Scope) (f : Addr) (cd : Value) (A : Around) (outer : List Env) (s : Shared) (H : Hp) (E : XK) : Cx where
  prog := P
  w := w
  K := K
  mg := mg
  base := base
  A := A.deeper (envOfC qual scope s.heap.objs.size f cd)
  N := N
  s₀ := s
  H₀ := H
  env := envOfC qual scope s.heap.objs.size f cd
  outer := outer
  stack := envOfC qual scope s.heap.objs.size f cd :: outer
  ex := []
  calm := true
  fn := fun _ => true
  pn := []
  xe := fun e s' => wpAny (model P w) (A.deeper (envOfC qual scope s.heap.objs.size f cd)) (leaving (envOfC qual scope s.heap.objs.size f cd) e) (fun _ s'' => CX outer H s E e s'') (fun e' s'' => CX outer H s E e' s'') s'

theorem cell_has {sc : Scope} {n : Nat} {x : Str} (h : sc.names.lookup x = some .cell) : ∃ c, (cellsFrom n sc.names []).lookup x = some c := by
  have q := PySem.W.cellsFrom_some sc.names n [] (.inl h)
  exact Option.isSome_iff_exists.mp q

theorem inv_start {CX : CXT} {P : Program} {w : World} {K : PySem.W.Frag} {mg : Str → Option Value} {base : Heap} {N ps : List Str} {qual : Str} {scope : Scope} {f : Addr} {cd : Value} {A : Around} {outer : List Env} {s s1 : Shared} {H : Hp} {E : XK} {us : List Value} {vs : List V}
    (S : FnScope N ps scope) (hd : A.handled = none) (e0 : Env0 P w K mg base A outer s H) (hl : vs.length = ps.length) (r : Vals vs us)
    (x : InCallC s s.heap.objs.size (bindL (envOfC qual scope s.heap.objs.size f cd).kindOf (ps.zip us) fun _ => none) (cellsFrom (s.heap.objs.size + 1) scope.names []) (bindC (envOfC qual scope s.heap.objs.size f cd).kindOf (ps.zip us) fun _ => none) s1) :
    Inv (cxOf CX P w K mg base N qual scope f cd A outer s H E) [] (start N vs) H s1 := by
  have hpl : ps.length ≤ N.length := by have := congrArg List.length S.pre; rw [List.length_take] at this; omega
  obtain ⟨h1, tk, rfl, hk⟩ := x.done
  have noA : ∀ b : Addr, b ∉ (cxOf CX P w K mg base N qual scope f cd A outer s H E).ex := fun b z => absurd (show b ∈ ([] : List Addr) from z) (by simp)
  refine ⟨⟨e0.mod, S.kind, rfl, rfl, Nat.le_refl _, fun y z c h1 h2 => ?_, fun y hy => ?_, fun y c _ h => ?_, fun _ => hd, Around.frames_deeper e0.frames, .inr ⟨rfl, rfl⟩, fun b z => absurd z (noA b), e0.bs, e0.bsz, fun b _ _ => noA b, fun b z => absurd z (noA b), e0.funs, e0.frf⟩,
    rfl, e0.bare, Un.kept hk, ⟨_, x.toInCall.ns, fun i y v h1 h2 h3 => ?_⟩, fun y c h => ⟨_, x.cell y c h⟩, e0.hok.fresh (Nat.le_refl _), fun y c h => ?_, fun p hp => absurd (show p ∈ ([] : List (Addr × Obj)) from hp) (by simp), e0.hok.kept hk, ?_⟩
  · exact name_of_addr x.apart (PySem.mem_of_lookup h1) (PySem.mem_of_lookup h2)
  · have hy : scope.names.lookup y = some .cell ∨ scope.names.lookup y = some .free := hy
    rcases hy with hy | hy
    · exact cell_has hy
    · exact absurd rfl (S.nofree _ (PySem.mem_of_lookup hy))
  · exact Nat.le_of_lt (x.above y c (PySem.mem_of_lookup h))
  · have hi : i < vs.length := by
      unfold start at h2
      by_cases hi : i < vs.length
      · exact hi
      · rw [List.getElem?_append_right (by simpa using hi)] at h2
        rw [List.getElem?_replicate] at h2
        split at h2 <;> cases h2
    have ha : vs[i]? = some v := by
      unfold start at h2
      rw [List.getElem?_append_left (by simpa using hi), List.getElem?_map] at h2
      cases e : vs[i]? with
      | none => rw [e] at h2; cases h2
      | some a => rw [e] at h2; cases h2; rfl
    obtain ⟨u, hu, rv⟩ := r.get ha
    have hp : ps[i]? = some y := by
      rw [← S.pre, List.getElem?_take_of_lt (by omega)]; exact h1
    have ndP : ps.Nodup := by rw [← S.pre]; exact S.nd.sublist (List.take_sublist _ _)
    refine ⟨u, rv, ?_⟩
    rcases S.par y (List.mem_of_getElem? hp) with k | k
    · exact .inl ⟨k, bindL_get ndP hp hu k⟩
    · obtain ⟨c, e⟩ := cell_has (n := s.heap.objs.size + 1) k
      refine .inr ⟨.inl k, c, e, ?_⟩
      have q := x.cell y c e
      rw [bindC_get ndP hp hu (by show scope.names.lookup y ≠ _; rw [k]; decide)] at q
      exact q
  · exact e0.hok.fresh (Nat.le_of_lt (x.above y c (PySem.mem_of_lookup h)))
  · unfold start
    show _ = N.length
    rw [List.length_append, List.length_map, List.length_replicate]
    omega

/-- THE RULE: a def (or a method) of the text, by its body. The body's reading t is chosen for each entry; it is run at the parameters' values -/
theorem fn_of {CX : CXT} {P : Program} {w : World} {K : PySem.W.Frag} {mg : Str → Option Value} {base : Heap} {k : Nat} {f : Addr} {name qual : Str} {params : Arguments} {body : List Stmt} {scope : Scope} {dV kV doc pm cdv ct oc : Value} {an od : Option Addr}
    {osl : Array (Option Value)} {N ps : List Str} {sp : Sp} (lk : K.lookup f = some ⟨oc, od, .func (PySem.W.fnOf name qual params body scope dV kV doc pm an cdv ct), osl⟩) (hcd : PySem.W.codeIn K cdv qual = true) (S : FnScope N ps scope)
    (len : ∀ vs H Q E, sp vs H Q E → vs.length = ps.length)
    (hbody : ∀ (A : Around) (outer : List Env) (s : Shared) (H : Hp) (vs : List V) (Q : VK) (E : XK), Room k (A.deeper (envOfC qual scope s.heap.objs.size f cdv)) → sp vs H Q E →
      ∃ t, PSs (cxOf CX P w K mg base N qual scope f cdv A outer s H E) body t ∧ t { nx := fun _ H' => Q .non H', rt := Q } (start N vs) H) :
    FnOk P w K mg base CX (k + 1) f (PySem.W.fnOf name qual params body scope dV kV doc pm an cdv ct) ps sp := by
  refine ⟨len, fun A outer s H args us vs Q E hr e0 hb r hsp => ?_⟩
  have hl := len _ _ _ _ hsp
  have KX : K.In s.heap := e0.mod.kin.keeps fun b o e => (e0.bs b o e).1
  have lim : s.heap.NoLimit := e0.mod.nolimit.keeps fun b o e => (e0.bs b o e).1
  have hkind : ∀ y ∈ ps.zip us, scope.names.lookup y.1 = some .local ∨ (scope.names.lookup y.1 = some .cell ∧ ((cellsFrom (s.heap.objs.size + 1) scope.names []).lookup y.1).isSome = true) := fun ⟨n, v⟩ hy => by
    rcases S.par n (List.of_mem_zip hy).1 with q | q
    · exact .inl q
    · exact .inr ⟨q, PySem.W.cellsFrom_some _ _ _ (.inl q)⟩
  refine codeAny_call_function hr.depth (KX _ _ lk) rfl S.co S.gen rfl (PySem.W.codeRec_of KX hcd) (hb _ _ _ _ ?_)
  refine wpAny_newFunctionEnv_cells S.kind hkind fun env he s1 x => ?_
  subst he
  refine ⟨lim.keeps x.toInCall.keep, codeAny_func ?_⟩
  obtain ⟨t, ht, hq⟩ := hbody A outer s H vs Q E (hr.deeper _) hsp
  have I : Inv (cxOf CX P w K mg base N qual scope f cdv A outer s H E) [] (start N vs) H s1 := inv_start S hr.hd e0 hl r x
  refine wpAny_mono (ht [] s1 (start N vs) H _ I hq) (fun fl s' hs => ?_) fun e s' hs => hs
  have fin : ∀ {σ' : St} {H' : Hp} {v : V} {u : Value}, Inv (cxOf CX P w K mg base N qual scope f cdv A outer s H E) [] σ' H' s' → RelV v u → Q v H' → CE outer P w H s Q u s' :=
    fun {σ' H' v u} J rv q => ⟨v, H', J.os, J.bare, J.base, J.hok, rv, q⟩
  cases fl with
  | ret u =>
    obtain ⟨v, σ', H', J, rv, q⟩ := hs
    exact fin J rv q
  | next =>
    obtain ⟨σ', H', J, q⟩ := hs
    exact fin (v := V.non) (u := Value.none) J rfl q
  | brk =>
    obtain ⟨_, _, _, q⟩ := hs
    exact False.elim q
  | cont =>
    obtain ⟨_, _, _, q⟩ := hs
    exact False.elim q
end L2

namespace L2
open PySem PySem.Spec PyProof.Rows
section
variable {X : Cx} {x : Str} {p pos : Pos} {e : Expr} {es : List Expr} {t : TA} {id T : String} {r : List V → Hp → VK → Prop}

def tCB (r : List V → Hp → VK → Prop) (t : TA) : TE := fun σ H Q => t σ H fun vs H1 => r vs H1 Q
/-- f(e, ..), f a built-in function -/
theorem pe_callB (hc : CallR X (.builtin id) r) (hg : Gl X x) (hm : X.mg x = none) (hv : bootBuiltins x = some (.builtin id)) (ha : PA X (e :: es) t) (hn : x ≠ "__name__" := by decide) (hdb : (x == ("__debug__" : Str)) = false := by decide)
    (he : starEach (e :: es) X.env = (false, eval e X.env) :: starEach es X.env := by rfl) (hpl : (backTo pos (starEach es X.env)).any (·.1) = false := by rfl) : PE X (.Call (.Name x p) (e :: es) [] pos) (tCB r t) := by
  intro pins s σ H Q I h
  refine wpAny_Call_Name_kw (ld_blt I hg hm hv ?_ hn hdb)
  exact PyProof.Rows.callWith_builtin1 (thn (ha pos pins s σ H _ I h) fun us s1 ⟨vs, H1, I1, r1, q1⟩ => hc pins s1 σ H1 vs us Q I1 r1 q1) he hpl
/-- T(e, ..), T a built-in type -/
theorem pe_callTy (hc : CallR X (.type T) r) (hg : Gl X x) (hm : X.mg x = none) (hv : bootBuiltins x = some (.type T)) (ha : PA X (e :: es) t) (hn : x ≠ "__name__" := by decide) (hdb : (x == ("__debug__" : Str)) = false := by decide)
    (he : starEach (e :: es) X.env = (false, eval e X.env) :: starEach es X.env := by rfl) (hpl : (backTo pos (starEach es X.env)).any (·.1) = false := by rfl) : PE X (.Call (.Name x p) (e :: es) [] pos) (tCB r t) := by
  intro pins s σ H Q I h
  refine wpAny_Call_Name_kw (ld_blt I hg hm hv ?_ hn hdb)
  exact PyProof.Rows.callWith_type1 (thn (ha pos pins s σ H _ I h) fun us s1 ⟨vs, H1, I1, r1, q1⟩ => hc pins s1 σ H1 vs us Q I1 r1 q1) he hpl
end
end L2

namespace HT
open PySem PyProof.Rows

section
open PySem.SeqAt
open PySem.AutoSeq1 (wpAny_loadPart')
open PySem.MeetsSeq PySem.MeetsSeq2 PySem.MeetsSeq3

end

section
variable {prog : Program} {w : World} {A : Around} {E : Value → Shared → Prop} {s : Shared}

/-- t + u, t not empty -/
theorem cat_tup {t b : Addr} {vs ws : List Value} {Q : Value → Shared → Prop} (ht : IsTup s.heap t vs.toArray) (hb : IsTup s.heap b ws.toArray) (hv : vs ≠ [])
    (h1 : ws = [] → Q (.ref t) s) (h2 : ws ≠ [] → Q (.ref s.heap.objs.size) { s with heap := s.heap.push { cls := .type "tuple", data := .seq (vs ++ ws).toArray } })
    (hsz : vs.length + ws.length ≤ sizeLine) : wpAny (model prog w) A (binaryOp .Add (.ref t) (.ref b)) Q E s := by
  obtain ⟨⟨cls, dd, data, sl⟩, ho, hc, n, hd⟩ := id ht
  obtain ⟨⟨cls2, dd2, data2, sl2⟩, ho2, hc2, n2, hd2⟩ := id hb
  simp only at hc hd hc2 hd2
  subst hc hd hc2 hd2
  have e : vs.toArray ++ ws.toArray = (vs ++ ws).toArray := by simp
  by_cases hw : ws = []
  · exact concat_meets ⟨_, ho, rfl⟩ ⟨_, ho2, rfl⟩ noFill_tuple_add seq_tuple_add PySem.F.slot_tuple_add PySem.F.entry_tuple_add (PySem.F.args_tuple_add_2 _ _)
      (tuple_addW1 t b vs.toArray ws.toArray n n2 dd dd2 sl sl2 (by simpa using hv) (by simp [hw])) ⟨ho, ho2, h1 hw⟩
  · refine concat_meets ⟨_, ho, rfl⟩ ⟨_, ho2, rfl⟩ noFill_tuple_add seq_tuple_add PySem.F.slot_tuple_add PySem.F.entry_tuple_add (PySem.F.args_tuple_add_2 _ _)
      (tuple_addW2 t b vs.toArray ws.toArray n n2 dd dd2 sl sl2 (by simpa using hv) (by simpa using hw) (by rw [List.size_toArray, List.size_toArray]; exact hsz)) ⟨ho, ho2, ?_⟩
    rw [e]
    exact h2 hw

/-- a slice's bound as a place among n (d where it is left out) -/
def sIx (n d : Nat) : Option Int → Nat
  | none => d
  | some v => if v < 0 then (v + (n : Int)).toNat else min v.toNat n
theorem sIx_none (n d : Nat) : sIx n d none = d := rfl
theorem sIx_nat (n d k : Nat) : sIx n d (some (k : Int)) = min k n := by
  show (if (k : Int) < 0 then ((k : Int) + (n : Int)).toNat else min (k : Int).toNat n) = min k n
  rw [if_neg (by omega), Int.toNat_natCast]
theorem sIx_le (n d : Nat) (hd : d ≤ n) (o : Option Int) : sIx n d o ≤ n := by
  cases o with
  | none => exact hd
  | some v =>
    show (if v < 0 then (v + (n : Int)).toNat else min v.toNat n) ≤ n
    by_cases hv : v < 0
    · rw [if_pos hv]; omega
    · rw [if_neg hv]; exact Nat.min_le_right _ _
theorem clip_eq (v : Int) (n d : Nat) : (if v < 0 then max (v + (n : Int)) 0 else min v (n : Int)) = ((sIx n d (some v) : Nat) : Int) := by
  show (if v < 0 then max (v + (n : Int)) 0 else min v (n : Int)) = (((if v < 0 then (v + (n : Int)).toNat else min v.toNat n) : Nat) : Int)
  by_cases hv : v < 0
  · simp only [if_pos hv]; omega
  · simp only [if_neg hv]; omega
theorem adjust_gen (lo hi : Option Int) (n : Nat) : Builtin.Slice.sliceAdjust lo hi 1 (n : Int) = (((sIx n 0 lo : Nat) : Int), ((sIx n n hi : Nat) : Int)) := by
  have h1 : ¬ ((1 : Int) < 0) := by omega
  unfold Builtin.Slice.sliceAdjust
  simp only [h1, if_false]
  refine Prod.ext ?_ ?_
  · cases lo with
    | none => rfl
    | some v => exact clip_eq v n 0
  · cases hi with
    | none => rfl
    | some v => exact clip_eq v n n
theorem places_gen (i j : Nat) : Builtin.Slice.slicePlaces (i : Int) (j : Int) 1 = j - i := by
  unfold Builtin.Slice.slicePlaces
  have h1 : (1 : Int) > 0 := by omega
  simp only [h1, if_true, Int.ediv_one]
  split <;> omega
theorem slicePart_ {v : Value} {o : Option Int} {Q : Option Int → Shared → Prop} (p : IsPart v o) (h : Q o s) : wpAny (model prog w) A (Builtin.Slice.slicePartIndex v) Q E s := by
  cases p with
  | none => exact slicePart_none h
  | int i t => exact slicePart_int h
theorem sliceApplied_gen {sl : Addr} {vl vu : Value} {lo hi : Option Int} {n : Nat} {Q : Int × Int × Nat → Shared → Prop} (hs : s.heap.IsSliceOf sl vl vu .none) (pl : IsPart vl lo) (pu : IsPart vu hi)
    (h : Q (((sIx n 0 lo : Nat) : Int), 1, sIx n n hi - sIx n 0 lo) s) : wpAny (model prog w) A (Builtin.Slice.sliceApplied (.ref sl) (pure (n : Int))) Q E s := by
  obtain ⟨os, hos, hcs, hds⟩ := id hs
  unfold Builtin.Slice.sliceApplied Builtin.Slice.sliceFields
  refine wpAny_bind (wpAny_bind (wpAny_field hos hds (x := vl) rfl (wpAny_bind (wpAny_field hos hds (x := vu) rfl (wpAny_bind (wpAny_field hos hds (x := .none) rfl (wpAny_pure ?_)))))))
  refine wpAny_bind (slicePart_none ?_)
  show wpAny _ _ (if ((1 : Int) == 0) = true then _ else _) _ _ s
  rw [if_neg (by decide)]
  refine wpAny_bind (slicePart_ pl (wpAny_bind (slicePart_ pu (wpAny_bind (wpAny_pure ?_)))))
  show wpAny _ _ (match Builtin.Slice.sliceAdjust lo hi 1 (n : Int) with | (lo, hi) => pure (lo, (1 : Int), Builtin.Slice.slicePlaces lo hi 1)) _ _ s
  rw [adjust_gen lo hi n]
  show wpAny _ _ (pure (((sIx n 0 lo : Nat) : Int), (1 : Int), Builtin.Slice.slicePlaces ((sIx n 0 lo : Nat) : Int) ((sIx n n hi : Nat) : Int) 1)) _ _ s
  rw [places_gen]
  exact wpAny_pure h
theorem pick_gen (xs : Array Value) (i k : Nat) : ((List.range k).filterMap fun (m : Nat) => xs[((i : Int) + (m : Int) * 1).toNat]?).toArray = ((xs.toList.drop i).take k).toArray := by
  have e : (fun (m : Nat) => xs[((i : Int) + (m : Int) * 1).toNat]?) = fun m => xs[i + m]? := by
    funext m
    have : ((i : Int) + (m : Int) * 1).toNat = i + m := by omega
    rw [this]
  rw [e]
  have := pick_run xs i k
  rw [List.filterMap_map] at this
  have e2 : ((fun x => xs[x]?) ∘ fun x => i + x) = fun m => xs[i + m]? := rfl
  rw [e2] at this
  rw [this]

theorem getItem_tuple_cut {t sl : Addr} {items : Array Value} {vl vu : Value} {lo hi : Option Int} {Q : Value → Shared → Prop} (ht : IsTup s.heap t items) (hs : s.heap.IsSliceOf sl vl vu .none) (pl : IsPart vl lo) (pu : IsPart vu hi)
    (hw : ¬ (sIx items.size 0 lo = 0 ∧ sIx items.size items.size hi = items.size))
    (h : Q (.ref s.heap.objs.size) { s with heap := s.heap.push { cls := .type "tuple", data := .seq ((items.toList.drop (sIx items.size 0 lo)).take (sIx items.size items.size hi - sIx items.size 0 lo)).toArray } })
    (hsz : items.size ≤ sizeLine) : wpAny (model prog w) A (getItem (.ref t) (.ref sl)) Q E s := by
  have htake : sizeOk (.seq ((items.toList.drop (sIx items.size 0 lo)).take (sIx items.size items.size hi - sIx items.size 0 lo)).toArray) := by
    show ((items.toList.drop (sIx items.size 0 lo)).take (sIx items.size items.size hi - sIx items.size 0 lo)).toArray.size ≤ sizeLine
    rw [List.size_toArray, List.length_take, List.length_drop, Array.length_toList]
    omega
  have hj : sIx items.size items.size hi ≤ items.size := sIx_le _ _ (Nat.le_refl _) hi
  obtain ⟨os, hos, hcs, hds⟩ := id hs
  have hTs : s.TypeIs (.ref sl) "slice" := ⟨os, hos, hcs⟩
  unfold getItem
  try with_reducible refine wpAny_holding ?_
  first | refine wpAny_bind (wpAny_pure ?_) | skip
  refine wpAny_bind (wpAny_sequenceKey ht.typeIs (by decide) ?_)
  refine wpAny_bind (wpAny_callSpecial?_slot (name := Str.ofString "__getitem__") ht.typeIs PyProof.Rows.slot_tuple_getitem
    (wpAny_call_entry PyProof.Rows.slot_tuple_getitem ht.typeIs entry_tuple_getitem ?_ (args_tuple_getitem _ _)))
  show wpAny _ _ (Builtin.Tuple.tupleItemsOf (.ref t) >>= _) _ _ s
  refine wpAny_bind (tupleItemsOf_ ht ?_)
  refine wpAny_bind (wpAny_typeOf hTs ?_)
  rw [if_pos (by decide)]
  refine wpAny_bind (sliceApplied_gen hs pl pu ?_)
  have hno : ¬ ((((sIx items.size 0 lo : Nat) : Int) == 0 && (1 : Int) == 1 && (sIx items.size items.size hi - sIx items.size 0 lo) == items.size) = true) := by
    intro q
    rw [Bool.and_eq_true, Bool.and_eq_true] at q
    have q1 : ((sIx items.size 0 lo : Nat) : Int) = 0 := eq_of_beq q.1.1
    have q2 : sIx items.size items.size hi - sIx items.size 0 lo = items.size := eq_of_beq q.2
    exact hw ⟨by omega, by omega⟩
  show wpAny _ _ (if (((sIx items.size 0 lo : Nat) : Int) == 0 && (1 : Int) == 1 && (sIx items.size items.size hi - sIx items.size 0 lo) == items.size) = true then _ else _) _ _ s
  rw [if_neg hno, pick_gen]
  first
    | exact wpAny_bind (m := Builtin.Tuple.tupleExact _) (wpAny_newObj_type (wpAny_pure ⟨_, rfl, wpAny_pure h⟩) htake)
    | exact wpAny_bind (m := Builtin.Tuple.tupleExact _) (wpAny_newObj_type (wpAny_bind (wpAny_pure (wpAny_pure ⟨_, rfl, wpAny_pure h⟩))) htake)
    | exact wpAny_bind (wpAny_bind (m := Builtin.Tuple.tupleExact _) (wpAny_newObj_type (wpAny_pure (wpAny_pure ⟨_, rfl, wpAny_pure h⟩)) htake))
    | exact wpAny_bind (wpAny_bind (m := Builtin.Tuple.tupleExact _) (wpAny_newObj_type (wpAny_pure ⟨_, rfl, wpAny_pure h⟩) htake))
end
end HT

namespace L2
open PySem PySem.Spec PyProof.Rows

abbrev TO := St → Hp → (Option Int → Hp → Prop) → Prop
/-- a slice's part (left out, or an int) -/
def PO (X : Cx) (e : Option Expr) (t : TO) : Prop :=
  ∀ (pins : List (Addr × Obj)) (s : Shared) (σ : St) (H : Hp) (Q : Option Int → Hp → Prop), Inv X pins σ H s → t σ H Q →
    wpAny (model X.prog X.w) X.A (evalPart e X.env) (fun u s' => ∃ o H', Inv X pins σ H' s' ∧ IsPart u o ∧ Q o H') X.xe s
def tNoPart : TO := fun _ H Q => Q none H
def tPart (t : TE) : TO := fun σ H Q => t σ H fun x H1 => ∃ i, x = .int i ∧ Q (some i) H1

section
variable {X : Cx} {e : Expr} {te : TE} {lo hi : Option Expr} {tl th : TO} {pos p2 : Pos}

theorem po_none : PO X none tNoPart := by
  intro pins s σ H Q I h
  rw [evalPart_none]
  exact wpAny_pure ⟨none, H, I, .none, h⟩
theorem po_some (h : PE X e te) : PO X (some e) (tPart te) := by
  intro pins s σ H Q I hw
  rw [evalPart_some]
  refine thn (h pins s σ H _ I hw) fun u s1 ⟨x, H1, I1, r1, q1⟩ => ?_
  obtain ⟨i, rfl, q⟩ := q1
  obtain ⟨t, rfl⟩ := r1
  exact ⟨some i, H1, I1, .int i t, q⟩

/-- what a slice of a value is, by values: the slice object stands at sl -/
def SlR (X : Cx) (r : V → Option Int → Option Int → Hp → VK → Prop) : Prop :=
  ∀ (pins : List (Addr × Obj)) (s : Shared) (σ : St) (H : Hp) (x : V) (v vl vu : Value) (lo hi : Option Int) (sl : Addr) (Q : VK), Inv X pins σ H s → RelV x v → s.heap.IsSliceOf sl vl vu .none → IsPart vl lo → IsPart vu hi → r x lo hi H Q →
    ∃ T id, typeLookup (.type T) "__getitem__" = pure (some (.builtin id)) ∧ s.TypeIs v T ∧ wpAny (model X.prog X.w) X.A (getItem v (.ref sl)) (EP X pins σ Q) X.xe s
theorem SlR.or {r r' : V → Option Int → Option Int → Hp → VK → Prop} (h : SlR X r) (h' : SlR X r') : SlR X (fun x lo hi H Q => r x lo hi H Q ∨ r' x lo hi H Q) := by
  intro pins s σ H x v vl vu lo hi sl Q I rx hs pl pu q
  rcases q with q | q
  · exact h pins s σ H x v vl vu lo hi sl Q I rx hs pl pu q
  · exact h' pins s σ H x v vl vu lo hi sl Q I rx hs pl pu q
def tSl (r : V → Option Int → Option Int → Hp → VK → Prop) (te : TE) (tl th : TO) : TE := fun σ H Q => te σ H fun x H1 => tl σ H1 fun l H2 => th σ H2 fun u H3 => r x l u H3 Q
/-- a[lo:hi], any a -/
theorem pe_slice {r : V → Option Int → Option Int → Hp → VK → Prop} (hr : SlR X r) (he : PE X e te) (hl : PO X lo tl) (hu : PO X hi th) : PE X (.Subscript e (.Slice lo hi none p2) pos) (tSl r te tl th) := by
  intro pins s σ H Q I h
  refine Subscript_ (thn (he pins s σ H _ I h) fun v s1 ⟨x, H1, I1, r1, q1⟩ => ?_)
  refine wpAny_Slice (thn (hl pins s1 σ H1 _ I1 q1) fun vl s2 ⟨l, H2, I2, pl, q2⟩ => thn (hu pins s2 σ H2 _ I2 q2) fun vu s3 ⟨u, H3, I3, pu, q3⟩ => ?_)
  rw [evalPart_none]
  refine wpAny_pure ?_
  have I4 : Inv X pins σ H3 { s3 with heap := s3.heap.push { cls := .type "slice", data := .fields #[vl, vu, .none] } } := I3.kept (t' := s3.toks) fun b ob q => Heap.get?_push_of_some _ q
  obtain ⟨T, id, hT, ht, hg⟩ := hr pins { s3 with heap := s3.heap.push { cls := .type "slice", data := .fields #[vl, vu, .none] } } σ H3 x v vl vu l u s3.heap.objs.size Q I4 r1 (Heap.IsSliceOf.new ..) pl pu q3
  show wpAny (model X.prog X.w) X.A (subscriptTail e (.Slice lo hi none p2) v (.ref s3.heap.objs.size)) (EP X pins σ Q) X.xe { s3 with heap := s3.heap.push { cls := .type "slice", data := .fields #[vl, vu, .none] } }
  exact tail_any (ops := [.ref s3.heap.objs.size, v]) ht hT hg (by with_unfolding_all rfl)

/-- the items of xs[lo:hi] -/
def cutV (xs : List V) (lo hi : Option Int) : List V := (xs.drop (HT.sIx xs.length 0 lo)).take (HT.sIx xs.length xs.length hi - HT.sIx xs.length 0 lo)
theorem cutV_length (xs : List V) (lo hi : Option Int) : (cutV xs lo hi).length ≤ xs.length := by
  unfold cutV
  rw [List.length_take, List.length_drop]
  omega
/-- t[lo:hi], not the whole of it (the whole would be t itself) -/
def rSlT (K : PySem.W.Frag) : V → Option Int → Option Int → Hp → VK → Prop := fun x lo hi H Q => ∃ a xs, x = .ref a ∧ SqT K H a xs ∧
  ¬ (HT.sIx xs.length 0 lo = 0 ∧ HT.sIx xs.length xs.length hi = xs.length) ∧ ∀ p, H p = none → Q (.ref p) (upd H p (.tup (cutV xs lo hi)))
theorem sl_tup : SlR X (rSlT X.K) := by
  intro pins s σ H x v vl vu lo hi sl Q I rx hs pl pu h
  obtain ⟨a, xs, rfl, hx, hw, q⟩ := h
  cases rx
  obtain ⟨its, r, ht, hz⟩ := I.tuple hx
  have hlen : its.toArray.size = xs.length := by rw [List.size_toArray]; exact r.length.symm
  refine ⟨"tuple", _, PyProof.Rows.slot_tuple_getitem.lookup, ht.typeIs, ?_⟩
  refine HT.getItem_tuple_cut ht hs pl pu (by rw [hlen]; exact hw) ?_ (by rw [hlen]; exact hz)
  rw [hlen]
  refine ⟨.ref s.heap.objs.size, _, I.laid (t' := s.toks) (o := .tup (cutV xs lo hi)) (fun b ob q => Heap.get?_push_of_some _ q) (Nat.le_refl _) ?_, rfl, q _ (I.hok.fresh (Nat.le_refl _))⟩
  exact ⟨Nat.le_trans (cutV_length xs lo hi) hz, _, (r.drop (HT.sIx xs.length 0 lo)).take (HT.sIx xs.length xs.length hi - HT.sIx xs.length 0 lo), TupN.new _ _⟩

/-- t + u, t not empty: u empty gives t itself -/
def rCatT (K : PySem.W.Frag) : R2 := fun x y H Q => ∃ a b xs ys, x = .ref a ∧ y = .ref b ∧ SqT K H a xs ∧ SqT K H b ys ∧ xs ≠ [] ∧ xs.length + ys.length ≤ sizeLine ∧
  (ys = [] → Q (.ref a) H) ∧ (ys ≠ [] → ∀ p, H p = none → Q (.ref p) (upd H p (.tup (xs ++ ys))))
theorem Vals.nil_iff {xs : List V} {us : List Value} (r : Vals xs us) : us = [] ↔ xs = [] := by
  cases r with
  | nil => simp
  | cons _ _ => simp
theorem op_catT : OpR X (binaryOp .Add) (rCatT X.K) := by
  intro pins s σ H x y v u Q I rx ry h
  obtain ⟨a, b, xs, ys, rfl, rfl, ha, hb, hx, hz, q1, q2⟩ := h
  cases rx
  cases ry
  obtain ⟨its, r1, p1, _⟩ := I.tuple ha
  obtain ⟨its2, r2, p2, _⟩ := I.tuple hb
  refine HT.cat_tup p1 p2 (fun z => hx (r1.nil_iff.mp z)) (fun z => ⟨.ref a, H, I, rfl, q1 (r2.nil_iff.mp z)⟩) (fun z => ?_) (by rw [← r1.length, ← r2.length]; exact hz)
  refine ⟨.ref s.heap.objs.size, _, I.laid (t' := s.toks) (o := .tup (xs ++ ys)) (fun b ob q => Heap.get?_push_of_some _ q) (Nat.le_refl _) ?_, rfl, q2 (fun w => z (r2.nil_iff.mpr w)) _ (I.hok.fresh (Nat.le_refl _))⟩
  exact ⟨by rw [List.length_append]; exact hz, _, r1.append r2, TupN.new _ _⟩
end
end L2

namespace L2
open PySem PySem.Spec PyProof.Rows

/-- the place that an index of any sign means -/
def ixN (n : Nat) (i : Int) : Option Nat := if 0 ≤ i then (if i < n then some i.toNat else none) else if -(n : Int) ≤ i then some (i + n).toNat else none
def atI {α : Type} (xs : List α) (i : Int) : Option α := (ixN xs.length i).bind fun j => xs[j]?
theorem ixN_seq {n : Nat} {i : Int} {j : Nat} (h : ixN n i = some j) : seqIndex? i n = some j ∧ j < n ∧ -(n : Int) ≤ i ∧ i < n := by
  unfold ixN at h
  by_cases h0 : 0 ≤ i
  · rw [if_pos h0] at h
    by_cases h1 : i < n
    · rw [if_pos h1] at h
      have e : i.toNat = j := Option.some.inj h
      exact ⟨by rw [seqIndex_of h0 h1, e], by omega, by omega, h1⟩
    · rw [if_neg h1] at h; cases h
  · rw [if_neg h0] at h
    by_cases h1 : -(n : Int) ≤ i
    · rw [if_pos h1] at h
      have e : (i + n).toNat = j := Option.some.inj h
      exact ⟨by rw [seqIndex_neg (by omega) h1, e], by omega, h1, by omega⟩
    · rw [if_neg h1] at h; cases h
theorem atI_get {α : Type} {xs : List α} {i : Int} {v : α} (h : atI xs i = some v) : ∃ j, seqIndex? i xs.length = some j ∧ xs[j]? = some v ∧ j < xs.length ∧ -(xs.length : Int) ≤ i ∧ i < xs.length := by
  unfold atI at h
  cases e : ixN xs.length i with
  | none => rw [e] at h; cases h
  | some j =>
    rw [e] at h
    obtain ⟨h1, h2, h3, h4⟩ := ixN_seq e
    exact ⟨j, h1, h, h2, h3, h4⟩
theorem atI_nat {α : Type} {xs : List α} {j : Nat} {v : α} (h : xs[j]? = some v) : atI xs (j : Int) = some v := by
  have hj : j < xs.length := (List.getElem?_eq_some_iff.mp h).1
  have e : ixN xs.length (j : Int) = some j := by
    unfold ixN
    rw [if_pos (by omega), if_pos (by omega)]; simp
  unfold atI; rw [e]; exact h
/-- what stands as an index of a plain subscript -/
def PlainIx (b : Expr) : Prop := ∀ o i, subscripted b false o i = operate [o, i] (getItem o i)
/-- a subscript by values -/
def IxR (X : Cx) (r : R2) : Prop :=
  ∀ (value slice : Expr) (pins : List (Addr × Obj)) (s : Shared) (σ : St) (H : Hp) (x y : V) (v u : Value) (Q : VK), Inv X pins σ H s → RelV x v → RelV y u → r x y H Q →
    subscripted slice false v u = operate [v, u] (getItem v u) → wpAny (model X.prog X.w) X.A (subscriptTail value slice v u) (EP X pins σ Q) X.xe s
/-- a call of a builtin's method by values: the receiver, the arguments -/
def MtR (X : Cx) (id : String) (r : V → List V → Hp → VK → Prop) : Prop :=
  ∀ (pins : List (Addr × Obj)) (s : Shared) (σ : St) (H : Hp) (x : V) (xs : List V) (v : Value) (us : List Value) (Q : VK), Inv X pins σ H s → RelV x v → Vals xs us → r x xs H Q →
    wpAny (model X.prog X.w) X.A (call (.builtin id) (v :: us)) (EP X pins σ Q) X.xe s
section
variable {X : Cx} {a b : Expr} {ta tb : TE} {pos : Pos}
theorem IxR.or {r r' : R2} (h : IxR X r) (h' : IxR X r') : IxR X (fun x y H Q => r x y H Q ∨ r' x y H Q) := by
  intro value slice pins s σ H x y v u Q I rx ry q hs
  rcases q with q | q
  · exact h value slice pins s σ H x y v u Q I rx ry q hs
  · exact h' value slice pins s σ H x y v u Q I rx ry q hs
theorem MtR.or {id : String} {r r' : V → List V → Hp → VK → Prop} (h : MtR X id r) (h' : MtR X id r') : MtR X id (fun x xs H Q => r x xs H Q ∨ r' x xs H Q) := by
  intro pins s σ H x xs v us Q I rx rs q
  rcases q with q | q
  · exact h pins s σ H x xs v us Q I rx rs q
  · exact h' pins s σ H x xs v us Q I rx rs q
/-- a[b] -/
theorem pe_ix {r : R2} (hr : IxR X r) (ha : PE X a ta) (hb : PE X b tb) (hs : PlainIx b) : PE X (.Subscript a b pos) (tOp r ta tb) := by
  intro pins s σ H Q I h
  exact Subscript_ (binT ha hb I h fun v u s2 x y H2 I2 rx ry q => hr a b pins s2 σ H2 x y v u Q I2 rx ry q (hs _ _))

def rIxL (K : PySem.W.Frag) : R2 := fun x y H Q => ∃ p xs i v, x = .ref p ∧ y = .int i ∧ SqL K H p xs ∧ atI xs i = some v ∧ Q v H
def rIxT (K : PySem.W.Frag) : R2 := fun x y H Q => ∃ p xs i v, x = .ref p ∧ y = .int i ∧ SqT K H p xs ∧ atI xs i = some v ∧ Q v H
def rIxS : R2 := fun x y H Q => ∃ z i c, x = .str z ∧ y = .int i ∧ z.length ≤ sizeLine ∧ atI z.cps.toList i = some c ∧ Q (.str ⟨#[c]⟩) H
theorem ix_list : IxR X (rIxL X.K) := by
  intro value slice pins s σ H x y v u Q I rx ry h hs
  obtain ⟨p, xs, i, z, rfl, rfl, hq, he, q⟩ := h
  cases rx
  obtain ⟨t, rfl⟩ := ry
  obtain ⟨its, r, pl, hz⟩ := I.list hq
  obtain ⟨j, h1, h2, h3, h4, h5⟩ := atI_get he
  obtain ⟨w, ew, rw'⟩ := r.get h2
  have hl := r.length
  have hn := line63
  have fin : EP X pins σ Q w s := ⟨z, H, I, rw', q⟩
  by_cases h0 : 0 ≤ i
  · have hj : i.toNat = j := by
      rw [seqIndex_of h0 h5] at h1
      exact Option.some.inj h1
    exact item_listR pl.isList h0 (by omega) (by rw [hj]; simpa using ew) fin hs
  · have hj : (i + (its.toArray.size : Int)).toNat = j := by
      rw [seqIndex_neg (by omega) h4] at h1
      rw [List.size_toArray, ← hl]
      exact Option.some.inj h1
    exact subscriptTail_builtinR (x := w) pl.isList.typeIs slot_list_getitem.lookup
      (wpAny_getItem_list_neg (Q := fun r s' => r = w ∧ EP X pins σ Q r s') pl.isList (by omega) (by rw [List.size_toArray] <;> omega) (by omega) (by rw [hj]; simpa using ew) ⟨rfl, fin⟩) hs
theorem ix_tup : IxR X (rIxT X.K) := by
  intro value slice pins s σ H x y v u Q I rx ry h hs
  obtain ⟨p, xs, i, z, rfl, rfl, hq, he, q⟩ := h
  cases rx
  obtain ⟨t, rfl⟩ := ry
  obtain ⟨its, r, pl, hz⟩ := I.tuple hq
  obtain ⟨j, h1, h2, h3, h4, h5⟩ := atI_get he
  obtain ⟨w, ew, rw'⟩ := r.get h2
  have hl := r.length
  have hn := line63
  have fin : EP X pins σ Q w s := ⟨z, H, I, rw', q⟩
  exact subscriptTail_builtinR (x := w) pl.typeIs slot_tuple_getitem.lookup
    (getItem_tuple (j := j) (Q := fun r s' => r = w ∧ EP X pins σ Q r s') pl (by omega) (by omega) (by rw [List.size_toArray, ← hl]; exact h1) (by simpa using ew) ⟨rfl, fin⟩) hs
theorem ix_str : IxR X rIxS := by
  intro value slice pins s σ H x y v u Q I rx ry h hs
  obtain ⟨z, i, c, rfl, rfl, hz, he, q⟩ := h
  obtain ⟨t, rfl⟩ := rx
  obtain ⟨t', rfl⟩ := ry
  obtain ⟨j, h1, h2, h3, h4, h5⟩ := atI_get he
  have hl : z.cps.toList.length = z.length := by simp [Str.length]
  rw [hl] at h1 h4 h5
  have hn := line63
  exact tail_any (typeIs_str s z t) slot_str_getitem.lookup (getItem_str (c := c) (by
    have e1 : decide (i < -(2 ^ 63 : Int)) = false := decide_eq_false (by omega)
    have e2 : decide (i ≥ 2 ^ 63) = false := decide_eq_false (by omega)
    rw [e1, e2, Bool.or_false]) (by rw [h1]; simpa using h2) ⟨.str ⟨#[c]⟩, H, I.tok _, ⟨_, rfl⟩, q⟩) hs
/-- list, tuple or str -/
def rIx (K : PySem.W.Frag) : R2 := fun x y H Q => rIxL K x y H Q ∨ rIxT K x y H Q ∨ rIxS x y H Q
theorem ix_seq : IxR X (rIx X.K) := ix_list.or (ix_tup.or ix_str)

theorem Inv.lst {pins : List (Addr × Obj)} {σ : St} {H : Hp} {s : Shared} {p : Addr} {xs : List V} (I : Inv X pins σ H s) (h : H p = some (.lst xs)) :
    ∃ (its : List Value) (n : Nat), Vals xs its ∧ s.heap.get? p = some { cls := .type "list", data := .seq its.toArray n } ∧ xs.length ≤ sizeLine := by
  obtain ⟨z, its, n, r, e⟩ := I.hok p _ h
  exact ⟨its, n, r, e, z⟩
theorem slice_bounds (lo hi : Option Int) (n : Nat) : (sliceBounds lo hi none n).1 = ((HT.sIx n 0 lo : Nat) : Int) ∧ (sliceBounds lo hi none n).2.1 = ((HT.sIx n n hi : Nat) : Int) ∧ (sliceBounds lo hi none n).2.2 = 1 := by
  refine ⟨?_, ?_, rfl⟩
  · cases lo with
    | none => simp [sliceBounds, HT.sIx]
    | some i =>
      simp only [sliceBounds, HT.sIx, Option.getD_none, show (1 : Int) > 0 by decide, if_true]
      by_cases h : i < 0
      · simp only [h, if_true] <;> omega
      · simp only [h, if_false] <;> omega
  · cases hi with
    | none => simp [sliceBounds, HT.sIx]
    | some i =>
      simp only [sliceBounds, HT.sIx, Option.getD_none, show (1 : Int) > 0 by decide, if_true]
      by_cases h : i < 0
      · simp only [h, if_true] <;> omega
      · simp only [h, if_false] <;> omega
theorem slicePick_cut (its : List Value) (lo hi : Option Int) : slicePick its.toArray lo hi none = ((its.drop (HT.sIx its.length 0 lo)).take (HT.sIx its.length its.length hi - HT.sIx its.length 0 lo)).toArray := by
  obtain ⟨h1, h2, h3⟩ := slice_bounds lo hi its.toArray.size
  unfold slicePick
  rw [h1, h2, h3]
  simp only [sliceRange_one, pick_run, List.size_toArray] <;> rfl
/-- xs[lo:hi] of a list: a new list -/
def rSlL (K : PySem.W.Frag) : V → Option Int → Option Int → Hp → VK → Prop := fun x lo hi H Q => ∃ a xs, x = .ref a ∧ SqL K H a xs ∧ ∀ p, H p = none → Q (.ref p) (upd H p (.lst (cutV xs lo hi)))
theorem sl_list : SlR X (rSlL X.K) := by
  intro pins s σ H x v vl vu lo hi sl Q I rx hs pl pu h
  obtain ⟨a, xs, rfl, hx, q⟩ := h
  cases rx
  obtain ⟨its, r, ht, hz⟩ := I.list hx
  have hlen := r.length
  refine ⟨"list", _, slot_list_getitem.lookup, ht.isList.typeIs, ?_⟩
  refine wpAny_getItem_list_slice ht.isList hs pl pu .none (by simp) ?_ (by rw [List.size_toArray] <;> omega)
  rw [slicePick_cut, ← hlen]
  refine ⟨.ref s.heap.objs.size, _, I.laid (t' := s.toks) (o := .lst (cutV xs lo hi)) (fun b ob q => Heap.get?_push_of_some _ q) (Nat.le_refl _) ?_, rfl, q _ (I.hok.fresh (Nat.le_refl _))⟩
  exact ⟨Nat.le_trans (cutV_length xs lo hi) hz, _, 0, (r.drop (HT.sIx xs.length 0 lo)).take (HT.sIx xs.length xs.length hi - HT.sIx xs.length 0 lo), Heap.get?_push_size _ rfl⟩

theorem call_len_seq : CallR X (.builtin "len") (fun xs H Q => ∃ p ys, xs = [.ref p] ∧ (SqL X.K H p ys ∨ SqT X.K H p ys) ∧ Q (.int ys.length) H) := by
  intro pins s σ H xs us Q I r h
  obtain ⟨p, ys, rfl, hq, q⟩ := h
  obtain ⟨u, rfl, rx⟩ := vals1 r
  cases rx
  have hn := line63
  rcases hq with hq | hq
  · obtain ⟨its, r', pl, hz⟩ := I.list hq
    have hlen := r'.length
    exact Calls.call_len_list pl.isList (by simp only [List.size_toArray] <;> omega) ⟨.int ys.length, H, I.tok _, ⟨s.toks + 1, by rw [List.size_toArray, hlen]⟩, q⟩
  · obtain ⟨its, r', pl, hz⟩ := I.tuple hq
    have hlen := r'.length
    exact len_tuple pl (by simp only [List.size_toArray] <;> omega) ⟨.int ys.length, H, I.tok _, ⟨s.toks + 1, by rw [List.size_toArray, hlen]⟩, q⟩
theorem call_len_str : CallR X (.builtin "len") (fun xs H Q => ∃ z, xs = [.str z] ∧ z.length ≤ sizeLine ∧ Q (.int z.length) H) := by
  intro pins s σ H xs us Q I r h
  obtain ⟨z, rfl, hz, q⟩ := h
  obtain ⟨u, rfl, t, rfl⟩ := vals1 r
  have hn := line63
  exact len_str (by omega) ⟨.int z.length, H, I.tok _, ⟨_, rfl⟩, q⟩
theorem CallR.or {f : Value} {r r' : List V → Hp → VK → Prop} (h : CallR X f r) (h' : CallR X f r') : CallR X f (fun xs H Q => r xs H Q ∨ r' xs H Q) := by
  intro pins s σ H xs us Q I rs q
  rcases q with q | q
  · exact h pins s σ H xs us Q I rs q
  · exact h' pins s σ H xs us Q I rs q
theorem call_list_of : CallR X (.type "list") (fun xs H Q => ∃ p ys, xs = [.ref p] ∧ (SqL X.K H p ys ∨ SqT X.K H p ys) ∧ ∀ l, H l = none → Q (.ref l) (upd H l (.lst ys))) := by
  intro pins s σ H xs us Q I r h
  obtain ⟨p, ys, rfl, hq, q⟩ := h
  obtain ⟨u, rfl, rx⟩ := vals1 r
  cases rx
  have fin : ∀ (its : List Value), Vals ys its → ys.length ≤ sizeLine → ∀ (h' : Heap) (c' : Nat), (∀ b o', s.heap.get? b = some o' → h'.get? b = some o') →
      h'.get? s.heap.objs.size = some { cls := .type "list", dict := none, data := .seq its.toArray c', slots := #[] } → EP X pins σ Q (.ref s.heap.objs.size) { s with heap := h' } := fun its r' hz h' c' kp e =>
    ⟨.ref s.heap.objs.size, _, I.laid (t' := s.toks) kp (Nat.le_refl _) (show ObjOk X.prog X.w _ h' _ (.lst ys) from ⟨hz, its, c', r', e⟩), rfl, q _ (I.hok.fresh (Nat.le_refl _))⟩
  rcases hq with hq | hq
  · obtain ⟨its, r', pl, hz⟩ := I.list hq
    have hlen := r'.length
    obtain ⟨o, ho, hc, n, hd⟩ := pl.isList
    exact call_list_seq p (.inl rfl) ho hc hd (fun h' c' kp e => fin its r' hz h' c' kp e) (by simp only [List.size_toArray] <;> omega)
  · obtain ⟨its, r', pl, hz⟩ := I.tuple hq
    have hlen := r'.length
    obtain ⟨o, ho, hc, n, hd⟩ := pl
    exact call_list_seq p (.inr rfl) ho hc hd (fun h' c' kp e => fin its r' hz h' c' kp e) (by simp only [List.size_toArray] <;> omega)
theorem call_tuple_of : CallR X (.type "tuple") (fun xs H Q => ∃ p ys, xs = [.ref p] ∧ ((SqL X.K H p ys ∧ ∀ l, H l = none → Q (.ref l) (upd H l (.tup ys))) ∨ (SqT X.K H p ys ∧ Q (.ref p) H))) := by
  intro pins s σ H xs us Q I r h
  obtain ⟨p, ys, rfl, h⟩ := h
  obtain ⟨u, rfl, rx⟩ := vals1 r
  cases rx
  rcases h with ⟨hq, q⟩ | ⟨hq, q⟩
  · obtain ⟨its, r', pl, hz⟩ := I.list hq
    have hlen := r'.length
    refine call_tuple_list pl.isList (fun h' kp => ?_) (by simp only [List.size_toArray] <;> omega)
    have I1 : Inv X pins σ H { s with heap := h' } := I.kept (t' := s.toks) kp
    have I2 : Inv X pins σ (upd H h'.objs.size (.tup ys)) { s with heap := h'.push { cls := .type "tuple", data := .seq its.toArray } } :=
      I1.laid (t' := s.toks) (fun b o e => Heap.get?_push_of_some _ e) (Nat.le_refl _) (show ObjOk X.prog X.w _ _ _ (.tup ys) from ⟨hz, its, r', TupN.new _ _⟩)
    exact ⟨.ref h'.objs.size, _, I2, rfl, q _ (I1.hok.fresh (Nat.le_refl _))⟩
  · obtain ⟨its, r', pl, hz⟩ := I.tuple hq
    exact call_tuple_same pl ⟨.ref p, H, I, rfl, q⟩

/-- the value is of that builtin type -/
def tyV (K : PySem.W.Frag) (T : String) (x : V) (H : Hp) : Prop := match x with
  | .str _ => T = "str"
  | .int _ => T = "int"
  | .ref p => (T = "list" ∧ ∃ xs, SqL K H p xs) ∨ (T = "tuple" ∧ ((∃ o, K.lookup p = some o ∧ o.cls = .type "tuple" ∧ o.dict = none) ∨ ∃ xs, SqT K H p xs)) ∨
      (T = "dict" ∧ ((∃ kvs, H p = some (.dK kvs)) ∨ ∃ kvs, H p = some (.dT kvs))) ∨ (T = "set" ∧ ∃ S n, H p = some (.set S n))
  | _ => False
theorem tyV_is {pins : List (Addr × Obj)} {σ : St} {H : Hp} {s : Shared} {T : String} {x : V} {v : Value} (I : Inv X pins σ H s) (r : RelV x v) (ty : tyV X.K T x H) :
    s.TypeIs v T ∧ ∀ a, v = .ref a → ∃ ob, s.heap.get? a = some ob ∧ ob.dict = none := by
  cases x with
  | str z =>
    obtain ⟨t, rfl⟩ := r
    cases (show T = "str" from ty)
    exact ⟨typeIs_str s z t, fun _ e => nomatch e⟩
  | int i =>
    obtain ⟨t, rfl⟩ := r
    cases (show T = "int" from ty)
    exact ⟨typeIs_int s i t, fun _ e => nomatch e⟩
  | ref p =>
    cases r
    rcases ty with ⟨rfl, xs, hq⟩ | ⟨rfl, ⟨o, hk, hc, hd⟩ | ⟨xs, hq⟩⟩ | ⟨rfl, hk⟩ | ⟨rfl, S, n, hk⟩
    · obtain ⟨its, _, pl, _⟩ := I.list hq
      refine ⟨pl.isList.typeIs, fun a e => ?_⟩
      cases e
      obtain ⟨o, n, e, c, hd, _⟩ := pl
      exact ⟨o, e, hd⟩
    · refine ⟨⟨o, I.kIn p o hk, hc⟩, fun a e => ?_⟩
      cases e
      exact ⟨o, I.kIn _ o hk, hd⟩
    · obtain ⟨o, e, hc, hd⟩ := I.tupleN hq
      refine ⟨⟨o, e, hc⟩, fun a e2 => ?_⟩
      cases e2
      exact ⟨o, e, hd⟩
    · have z : ∃ o, s.heap.get? p = some o ∧ o.ExactDict := by
        rcases hk with ⟨kvs, hk⟩ | ⟨kvs, hk⟩
        · obtain ⟨_, _, _, _, o, _, _, e, ex, _⟩ := I.hok p _ hk
          exact ⟨o, e, ex⟩
        · obtain ⟨_, _, _, _, o, _, _, e, ex, _⟩ := I.hok p _ hk
          exact ⟨o, e, ex⟩
      obtain ⟨o, e, ex⟩ := z
      refine ⟨⟨o, e, ex.1⟩, fun a e2 => ?_⟩
      cases e2
      exact ⟨o, e, ex.2.1⟩
    · obtain ⟨o, _, _, _, e, ex, _⟩ := I.hok p _ hk
      refine ⟨⟨o, e, ex.1⟩, fun a e2 => ?_⟩
      cases e2
      exact ⟨o, e, ex.2.1⟩
  | _ => exact False.elim ty
def tBM0 (K : PySem.W.Frag) (T : String) (r : V → List V → Hp → VK → Prop) (to : TE) : TE := fun σ H Q => to σ H fun x H1 => tyV K T x H1 ∧ r x [] H1 Q
def tBM (K : PySem.W.Frag) (T : String) (r : V → List V → Hp → VK → Prop) (to : TE) (t : TA) : TE := fun σ H Q => to σ H fun x H1 => tyV K T x H1 ∧ t σ H1 fun xs H2 => r x xs H2 Q
variable {o e : Expr} {es : List Expr} {to : TE} {t : TA} {name : Str} {apos cpos : Pos} {T id : String} {r : V → List V → Hp → VK → Prop}
theorem pe_bm0 (pa : PlainAttrs T) (slot : Slot T name id) (hty : typeOf (.builtin id) = pure (.type "method_descriptor")) (hm : MtR X id r) (ho : PE X o to)
    (hbase : attributeBase o name X.env (eval o X.env) = eval o X.env := by rfl) (hline : (apos.endLine == cpos.line) = true := by rfl) : PE X (.Call (.Attribute o name apos) [] [] cpos) (tBM0 X.K T r to) := by
  intro pins s σ H Q I h
  refine wpAny_Call_method0_late hbase hline (thn (ho pins s σ H _ I h) fun v s1 ⟨x, H1, I1, r1, ty, q1⟩ => ?_)
  obtain ⟨h1, h2⟩ := tyV_is I1 r1 ty
  exact ⟨T, id, pa, slot, hty, h1, h2, Calls.callWith_builtin rfl (PySem.evalArgs_none (hm pins s1 σ H1 x [] v [] Q I1 r1 .nil q1))⟩
theorem pe_bm (pa : PlainAttrs T) (slot : Slot T name id) (hty : typeOf (.builtin id) = pure (.type "method_descriptor")) (hm : MtR X id r) (ho : PE X o to) (ha : PA X (e :: es) t)
    (hbase : attributeBase o name X.env (eval o X.env) = eval o X.env := by rfl)
    (hfew : ((backTo cpos (starEach (e :: es) X.env)).all (fun x => !x.1) && (backToKw cpos (keywordEach [] X.env)).all (fun x => x.1.isSome)
      && decide ((e :: es).length + ([] : List Keyword).length + (if ([] : List Keyword).isEmpty then 0 else 1) < 30)) = true := by rfl)
    (hline : (apos.endLine == cpos.line) = true := by rfl) (hs : starEach (e :: es) X.env = (false, eval e X.env) :: starEach es X.env := by rfl) (hplain : (backTo cpos (starEach es X.env)).any (·.1) = false := by rfl) :
    PE X (.Call (.Attribute o name apos) (e :: es) [] cpos) (tBM X.K T r to t) := by
  intro pins s σ H Q I h
  refine wpAny_Call_method_late hbase hfew hline rfl (thn (ho pins s σ H _ I h) fun v s1 ⟨x, H1, I1, r1, ty, q1⟩ => ?_)
  obtain ⟨h1, h2⟩ := tyV_is I1 r1 ty
  refine ⟨T, id, pa, slot, hty, h1, h2, ?_⟩
  have hA := ha cpos pins s1 σ H1 _ I1 q1
  rw [hs] at hA ⊢
  refine Calls.callWith_builtin (by show (false || (backTo cpos (starEach es X.env)).any (·.1)) = false; rw [hplain] <;> rfl) (Calls.evalArgs_plain ?_)
  exact thn hA fun us s2 ⟨vs, H2, I2, r2, q2⟩ => hm pins s2 σ H2 x vs v us Q I2 r1 r2 q2
/- xs.append(e), list.index on a module's tuple .. are MtR facts of 06m -/
end
end L2

namespace L2
open PySem PySem.Spec PyProof.Rows

def MtM (X : Cx) (id : String) (r : V → List V → Hp → VK → Prop) : Prop :=
  ∀ (pins : List (Addr × Obj)) (s : Shared) (σ : St) (H : Hp) (x : V) (xs : List V) (v : Value) (us : List Value) (Q : VK), Inv X pins σ H s → RelV x v → Vals xs us → r x xs H Q →
    wpAny (model X.prog X.w) X.A (call (.builtin id) (v :: us)) (EP X pins σ Q) X.xe s

theorem Vals.one : ∀ {x : V} {us : List Value}, Vals [x] us → ∃ u, us = [u] ∧ RelV x u
  | _, _, .cons r .nil => ⟨_, rfl, r⟩
theorem Vals.two : ∀ {x y : V} {us : List Value}, Vals [x, y] us → ∃ u v, us = [u, v] ∧ RelV x u ∧ RelV y v
  | _, _, _, .cons r (.cons q .nil) => ⟨_, _, rfl, r, q⟩
theorem Vals.zero : ∀ {us : List Value}, Vals [] us → us = []
  | _, .nil => rfl
theorem Vals.dropLast {xs : List V} {us : List Value} (h : Vals xs us) : Vals xs.dropLast us.dropLast := by
  induction h with
  | nil => exact .nil
  | cons r t ih =>
    cases t with
    | nil => exact .nil
    | cons q t' => exact .cons r ih
theorem Vals.eraseIdx : ∀ {xs : List V} {us : List Value} (i : Nat), Vals xs us → Vals (xs.eraseIdx i) (us.eraseIdx i)
  | _, _, _, .nil => .nil
  | _, _, 0, .cons _ t => t
  | _, _, i + 1, .cons r t => .cons r (Vals.eraseIdx i t)
theorem Vals.reverse {xs : List V} {us : List Value} (h : Vals xs us) : Vals xs.reverse us.reverse := by
  induction h with
  | nil => exact .nil
  | cons r t ih => rw [List.reverse_cons, List.reverse_cons]; exact Vals.append ih (.cons r .nil)
theorem Vals.rep {xs : List V} {us : List Value} (h : Vals xs us) : ∀ k : Nat, Vals (List.replicate k xs).flatten (List.replicate k us).flatten
  | 0 => .nil
  | k + 1 => by
    rw [List.replicate_succ, List.replicate_succ, List.flatten_cons, List.flatten_cons]
    exact Vals.append h (Vals.rep h k)
theorem erase_last {α : Type} (l : List α) : l.eraseIdx (l.length - 1) = l.dropLast := by
  induction l with
  | nil => rfl
  | cons a r ih =>
    cases r with
    | nil => rfl
    | cons b r =>
      have e : (a :: b :: r).length - 1 = ((b :: r).length - 1) + 1 := by
        have h1 : (a :: b :: r).length = r.length + 2 := rfl
        have h2 : (b :: r).length = r.length + 1 := rfl
        omega
      rw [e, List.eraseIdx_cons_succ, ih]
      all_goals rfl
theorem foldl_rep (its : List Value) : ∀ (k : Nat) (acc : List Value),
    List.foldl (fun x1 x2 => x1 ++ x2) acc.toArray (List.replicate k its.toArray) = (acc ++ (List.replicate k its).flatten).toArray
  | 0, acc => by simp
  | k + 1, acc => by
    have e : acc.toArray ++ its.toArray = (acc ++ its).toArray := by simp
    have e2 : (acc ++ its) ++ (List.replicate k its).flatten = acc ++ (List.replicate (k + 1) its).flatten := by
      rw [List.replicate_succ, List.flatten_cons, List.append_assoc]
    rw [← e2, ← foldl_rep its k (acc ++ its), ← e, List.replicate_succ, List.foldl_cons]

section
variable {X : Cx} {pins : List (Addr × Obj)} {σ : St} {H : Hp} {s : Shared} {l b : Addr} {xs ys zs : List V}

theorem Inv.lset {its its' : List Value} {n : Nat} {f : Array Value → Array Value} {t' : Nat} (I : Inv X pins σ H s) (hH : H l = some (.lst xs))
    (e : s.heap.get? l = some { cls := .type "list", data := .seq its.toArray n }) (hf : f its.toArray = its'.toArray) (hv : Vals ys its') (hz : ys.length ≤ sizeLine) :
    Inv X pins σ (upd H l (.lst ys)) { s with heap := s.heap.update l (Obj.mapSeq f), toks := t' } := by
  have q := PySem.IsL.update e f
  rw [hf] at q
  refine I.write (x := l) (e := l) (by rw [hH]; exact trivial) (.inl rfl) (fun b' u hb hu => (Heap.get?_update_other s.heap (Obj.mapSeq f) (Ne.symm hb)).trans hu) ⟨_, q⟩ ?_
  exact ⟨hz, its', _, hv, q⟩
theorem Inv.lnew {its : List Value} {t' : Nat} (I : Inv X pins σ H s) (hv : Vals ys its) (hz : ys.length ≤ sizeLine) :
    Inv X pins σ (upd H s.heap.objs.size (.lst ys)) { s with heap := s.heap.push { cls := .type "list", data := .seq its.toArray }, toks := t' } :=
  I.laid (fun _ _ q => Heap.get?_push_of_some _ q) (Nat.le_refl _) ⟨hz, its, 0, hv, Heap.get?_push_size _ rfl⟩
theorem Inv.fresh (I : Inv X pins σ H s) : H s.heap.objs.size = none := I.hok.fresh (Nat.le_refl _)
theorem Inv.lstM (I : Inv X pins σ H s) (hH : H l = some (.lst xs)) : xs.length ≤ sizeLine ∧ ∃ (its : List Value) (n : Nat), Vals xs its ∧ xs.length = its.length ∧ s.heap.get? l = some { cls := .type "list", data := .seq its.toArray n } := by
  obtain ⟨z, its, n, r, e⟩ := I.hok l _ hH
  exact ⟨z, its, n, r, r.length, e⟩

theorem notLongL {n : Nat} (h : n ≤ sizeLine) : Builtin.List.listTooLong n = false := by
  unfold Builtin.List.listTooLong
  exact decide_eq_false (by omega)
end

section
variable {X : Cx}

def rAppend : V → List V → Hp → VK → Prop := fun x vs H Q => ∃ l xs y, x = .ref l ∧ vs = [y] ∧ H l = some (.lst xs) ∧ xs.length < sizeLine ∧ Q .non (upd H l (.lst (xs ++ [y])))
theorem mt_append : MtM X "list.append" rAppend := by
  intro pins s σ H x vs v us Q I rx rv h
  obtain ⟨l, xs, y, rfl, rfl, hH, hz, q⟩ := h
  cases rx
  obtain ⟨u, rfl, ru⟩ := rv.one
  obtain ⟨z, its, n, r, hl, e⟩ := I.lstM hH
  refine call_meets F.slot_list_append ⟨_, e, rfl⟩ F.entry_list_append (F.args_list_append_2 _ _) (PySem.list_append l its.toArray n u (by rw [List.size_toArray]; omega)) ⟨e, ?_⟩
  refine ⟨.non, _, I.lset (its' := its ++ [u]) hH e (by simp) (r.append (.cons ru .nil)) ?_, rfl, q⟩
  rw [List.length_append, List.length_singleton]
  omega

def rPop : V → List V → Hp → VK → Prop := fun x vs H Q => ∃ l xs y, x = .ref l ∧ vs = [] ∧ H l = some (.lst xs) ∧ xs[xs.length - 1]? = some y ∧ Q y (upd H l (.lst xs.dropLast))
theorem mt_pop : MtM X "list.pop" rPop := by
  intro pins s σ H x vs v us Q I rx rv h
  obtain ⟨l, xs, y, rfl, rfl, hH, hy, q⟩ := h
  cases rx
  have hus := rv.zero
  subst hus
  obtain ⟨z, its, n, r, hl, e⟩ := I.lstM hH
  obtain ⟨u, hu, ru⟩ := r.get hy
  have hy' : its.toArray[its.toArray.size - 1]? = some u := by
    show its.toArray[its.length - 1]? = some u
    rw [← Array.getElem?_toList, ← hl]
    exact hu
  refine call_meets F.slot_list_pop ⟨_, e, rfl⟩ F.entry_list_pop (F.args_list_pop_1 _) (MeetsSeq.list_pop_last l its.toArray n u hy' (by rw [List.size_toArray]; omega)) ⟨e, ?_⟩
  refine ⟨y, _, I.lset (its' := its.dropLast) hH e ?_ r.dropLast ?_, ru, q⟩
  · show its.toArray.eraseIdxIfInBounds (its.toArray.size - 1) = its.dropLast.toArray
    rw [List.size_toArray, List.eraseIdxIfInBounds_toArray, erase_last]
  · rw [List.length_dropLast]
    omega

/-- a list times an int (a negative one is nothing) -/
def rRep : R2 := fun x y H Q => ∃ l k xs, x = .ref l ∧ y = .int k ∧ H l = some (.lst xs) ∧ -(2 ^ 63) ≤ k ∧ k < 2 ^ 63 ∧ xs.length * k.toNat ≤ sizeLine ∧
  ∀ p, H p = none → Q (.ref p) (upd H p (.lst (List.replicate k.toNat xs).flatten))
theorem len_rep {α : Type} (xs : List α) (k : Nat) : (List.replicate k xs).flatten.length = k * xs.length := by
  induction k with
  | zero => simp
  | succ k ih => rw [List.replicate_succ, List.flatten_cons, List.length_append, ih, Nat.succ_mul, Nat.add_comm]
theorem op_rep : OpR X (binaryOp .Mult) rRep := by
  intro pins s σ H x y v u Q I rx ry h
  obtain ⟨l, k, xs, rfl, rfl, hH, h1, h2, hz, q⟩ := h
  cases rx
  obtain ⟨t, rfl⟩ := ry
  obtain ⟨z, its, n, r, hl, e⟩ := I.lstM hH
  have hlen : its.toArray.size * k.toNat ≤ sizeLine := by rw [List.size_toArray, ← hl]; exact hz
  have hcap : ¬ its.toArray.size * k.toNat > (2 ^ 63 - 1) / 8 := by
    have : (sizeLine : Nat) ≤ (2 ^ 63 - 1) / 8 := by decide
    omega
  have hfit : ¬ (!Builtin.List.listFitsIndex k) = true := by
    rw [fitsIndex_both h1 h2]
    exact Bool.false_ne_true
  have hlong : ¬ Builtin.List.listTooLong (its.toArray.size * k.toNat) = true := by
    rw [notLongL hlen]
    exact Bool.false_ne_true
  have hnew : List.foldl (fun x1 x2 => x1 ++ x2) #[] (List.replicate (if its.toArray.isEmpty = true then 0 else k.toNat) its.toArray) = (List.replicate k.toNat its).flatten.toArray := by
    have f0 : ∀ m : Nat, List.foldl (fun x1 x2 => x1 ++ x2) #[] (List.replicate m its.toArray) = (List.replicate m its).flatten.toArray := fun m => by
      have := foldl_rep its m []
      rw [List.nil_append] at this
      exact this
    rw [f0]
    cases its with
    | nil => simp
    | cons a r' => rw [if_neg (by simp)]
  refine wpAny_binaryOp_repeat_ref (T := "list") (U := "int") (by decide) ⟨_, e, rfl⟩ (fun s' => typeIs_int s' k t) noFill_list_mul F.fills_int_mul F.slot_int_rmul repeat_list F.slot_int_index.lookup
    (call_meets F.slot_int_rmul (typeIs_int s k t) F.entry_int_rmul (F.args_int_rmul_2 _ _) (int___rmul___int_list k t l its.toArray n)
      ⟨e, rfl, ⟨_, e, rfl⟩, call_meets F.slot_list_mul ⟨_, e, rfl⟩ F.entry_list_mul (F.args_list_mul_2 _ _) (AutoListH.list___mul___list_int_3 l its.toArray n k t hfit hcap hlong) ⟨e, ?_⟩⟩)
  rw [hnew]
  exact ⟨.ref _, _, I.lnew (t' := s.toks) (r.rep k.toNat) (by rw [len_rep, Nat.mul_comm]; exact hz), rfl, q _ I.fresh⟩

end

section
variable {prog : Program} {w : World} {A : Around} {E : Value → Shared → Prop} {s : Shared}
end

section
variable {X : Cx}
end
end L2

namespace Att
open PySem PySem.W PySem.Calls PyProof.Rows

theorem ints_of_wellAll {P : Params} {h : Heap} : ∀ (ns : List Int) (vs : List Value), WellAll P h vs (ns.map WData.int) → IntsAre vs ns := by
  intro ns
  induction ns with
  | nil =>
    intro vs w
    rw [List.map_nil] at w
    cases w
    exact .nil
  | cons n ns ih =>
    intro vs w
    rw [List.map_cons] at w
    cases w with
    | cons a b =>
      cases a
      exact .cons _ _ (ih _ b)

theorem script_of {l : OpenLaw} {n : Nat} (hn : l.most = some n) {P : Params} {h : Heap} {args : List WData} {vals : List Value}
    (hpre : l.row.toRowW.claim.pre args = true) (hwl : WellAll P h vals args) :
    ∃ a vs ns, vals = [Value.ref a] ∧ args = [WData.list (ns.map WData.int)] ∧ h.get? a = some { cls := .type "list", data := .seq vs.toArray } ∧ IntsAre vs ns ∧ ns.length ≤ n := by
  have hsh : WShape.hasAll [] args [.list .int] = true := (pre_splitW hpre).1
  have hc : l.pre.holds [] { args := args } = true := (pre_splitW hpre).2
  obtain ⟨d, r, rfl, h1, h2⟩ := hasAllW_cons hsh
  obtain rfl := hasAllW_nil h2
  obtain ⟨xs, rfl, h3⟩ := hasW_list h1
  obtain ⟨ns, rfl⟩ := items_int h3
  have hlen : ns.length ≤ n := by
    unfold OpenLaw.pre at hc
    have h4 : (WTm.not (.lt (.lit (.int (n : Int))) (.len (.arg 0)))).holds [] { args := [.list (ns.map .int)] } = true := by
      have h4 := (holds_andW hc).1
      rw [hn] at h4
      exact h4
    have h5 := condW_of h4 (w_not (w_lt w_lit (w_len_list (w_arg rfl))))
    rw [List.length_map] at h5
    refine Nat.le_of_not_lt fun q => ?_
    have q' : (n : Int) < ((ns.length : Nat) : Int) := by omega
    first
      | (rw [decide_eq_true q'] at h5; exact absurd h5 (by decide))
      | (simp at h5; omega)
  cases hwl with
  | cons w1 w2 =>
    cases w2
    cases w1 with
    | list ho hall => exact ⟨_, _, ns, rfl, rfl, ho, ints_of_wellAll ns _ hall, hlen⟩

theorem post_true (l : OpenLaw) (args : List WData) : l.row.toRowW.claim.post args (.bool true) args = true :=
  postW_of (r := l.row.toRowW) (X := (true == true))
    (show WShape.has [] (.bool true) .bool = true by first | rfl | decide | simp [WShape.has, WShape.arms, WShape.armsAll])
    (show (WTm.eq .res (.lit (.bool true))).value [] { args := args, res := some (.bool true), after := args } = some (.bool (true == true)) from w_eq_bool (w_res rfl) w_lit) rfl

/-- the same from a codeAny of the CALL (for a layer whose function contracts speak of calls) -/
theorem attach_call {l : OpenLaw} {n : Nat} {q : Program} {loose : List Str} {XP : (Str → Option Value) → Heap → Prop} {YP : World → Heap → Prop} {d : DefRec}
    (hn : l.most = some n) (hdf : d.params.defaults = [])
    (call : ∀ (w : World) (s₀ s₁ : Shared) (mg mb : Str → Option Value) (fa : Addr) (o : Obj) (pm cd doc : Value) (a : Addr) (vs : List Value) (ns : List Int),
      Ground q loose [] XP w s₀ mg mb s₁.heap → YP w s₁.heap →
      s₁.heap.get? fa = some o → o.data = .func (docDef d.name d.params d.body d.scope pm cd doc) → s₁.heap.CodeRec cd d.name → mg d.name = some (.ref fa) →
      s₁.heap.get? a = some { cls := .type "list", data := .seq vs.toArray } → IntsAre vs ns → ns.length ≤ n → s₁.gens = #[] →
      codeAny (model l.prog w) callerA (.call (.ref fa) ⟨[.ref a], []⟩) (fun r s' => r = .ok (.ret (.bool true)) ∧ OldK s₁.heap s'.heap ∧ s'.os = s₁.os ∧ AllBare s'.gens) s₁) :
    WalkO q loose XP YP l.row.toRowW d [] (fun f vs => PySem.call f vs) := by
  intro w s₀ s₁ mg mb G Y fa o pm cd doc dV kV ho hd hcd hD hmg hg args vals as hpre hlay hrd hwl hlo
  obtain rfl : dV = .none := Dflts.none hD hdf
  obtain rfl : kV = .none := Dflts.noKw hD
  obtain ⟨a, vs, ns, rfl, rfl, hobj, hints, hlen⟩ := script_of hn hpre hwl
  refine enter_call (codeAny_mono (call w s₀ s₁ mg mb fa o pm cd doc a vs ns G Y ho (fd_plain hd) hcd hmg hobj hints hlen hg) fun r s' hq => ?_)
  obtain ⟨rfl, h2, h3, h4⟩ := hq
  exact ⟨.inl ⟨.bool true, .bool true, [], rfl, fun _ => rfl, .bool true, post_true l _, fun _ => ⟨List.Pairwise.nil, fun _ hm => (nomatch hm)⟩⟩, h2, h3, h4⟩

section
variable {prog : Program} {w : World} {A : Around} {E : Value → Shared → Prop} {s : Shared} {K : Frag}

def ledger (h : Heap) (L d : Addr) : List (Addr × Obj) := (List.range h.objs.size).filterMap fun a => if a = L ∨ a = d then none else (h.get? a).map fun o => (a, o)
end
end Att

namespace L2
open PySem PySem.Spec PyProof.Rows

theorem vals_ints : ∀ {vs : List Value} {ns : List Int}, IntsAre vs ns → Vals (ns.map V.int) vs
  | _, _, .nil => .nil
  | _, _, .cons n t h => .cons ⟨t, rfl⟩ (vals_ints h)

/-- nothing is tracked but the script, known to the object (or it is an object of the module) -/
def Only (H : Hp) : Prop := ∀ b, H b = none ∨ ∃ o xs, H b = some (.frz o (.lst xs))

/-- THE HEAD: the law's promise, at the heap behind the top. F, the promise of the law's def, may use that base is part of the heap (so K.In base, base.Ns mainGlobals mg stand in Mod) -/
theorem law_call {P : Program} {w : World} {K : PySem.W.Frag} {mg mb : Str → Option Value} {CX : CXT} {k : Nat} {fa a : Addr} {fd : FuncData} {x : Str} {sp : Sp} {s₁ : Shared} {vs : List Value} {ns : List Int}
    (KX : K.In s₁.heap) (hns : s₁.heap.Ns mainGlobals mg) (hb : s₁.heap.Ns builtinsNs mb) (hbb : ∀ x : Str, x ≠ "__name__" → mb x = bootBuiltins x) (hlim : s₁.heap.NoLimit) (hg : s₁.gens = #[])
    (ha : s₁.heap.get? a = some { cls := .type "list", data := .seq vs.toArray }) (hi : IntsAre vs ns) (hl : ns.length ≤ sizeLine) (hr : Room k callerA)
    (F : ∀ base : Heap, K.In base → base.Ns mainGlobals mg → FnOk P w K mg base CX k fa fd [x] sp) (hbind : ∀ (s : Shared) (u : Value), BindsTo s fd ⟨[u], []⟩ [(x, u)])
    (hsp : ∀ H : Hp, Only H → SqL K H a (ns.map V.int) → sp [.ref a] H (fun v _ => v = .bl true) fun _ _ _ => False)
    (hCX : ∀ H e s', CX [] H s₁ (fun _ _ _ => False) e s' → False) :
    codeAny (model P w) callerA (.call (.ref fa) ⟨[.ref a], []⟩) (fun r s' => r = .ok (.ret (.bool true)) ∧ OldK s₁.heap s'.heap ∧ s'.os = s₁.os ∧ AllBare s'.gens) s₁ := by
  have rv := vals_ints hi
  have lenV := hi.length
  -- from an abstract heap in which nothing but the script may be tracked
  have core : ∀ H : Hp, Only H → SqL K H a (ns.map V.int) → HOk P w H s₁.heap → (∀ b, H b ≠ none → b = a) → (H a ≠ none → K.lookup a = none) →
      codeAny (model P w) callerA (.call (.ref fa) ⟨[.ref a], []⟩) (fun r s' => r = .ok (.ret (.bool true)) ∧ OldK s₁.heap s'.heap ∧ s'.os = s₁.os ∧ AllBare s'.gens) s₁ := by
    intro H hO hS hok hA hK
    have base_of : ∀ {b : Addr} {o : Obj}, s₁.heap.get? b = some o → H b = none → (hidT s₁.heap H).get? b = some o := fun e n => hidT_get e n
    have noA : ∀ {b : Addr} {o : Obj} {es : Array DictEntry} {ep : Nat}, s₁.heap.get? b = some o → o.data = .dict es ep → H b = none := fun {b o es ep} e d => by
      cases q : H b with
      | none => rfl
      | some u =>
        have e' : b = a := hA b (by rw [q]; simp)
        subst e'
        rw [ha] at e; cases e
        have d' : Data.seq vs.toArray _ = Data.dict es ep := d
        cases d'
    have nsK : ∀ {b : Addr} {m : Str → Option Value}, s₁.heap.Ns b m → (hidT s₁.heap H).Ns b m := fun {b m} ⟨o, es, ep, e, d, r⟩ => ⟨o, es, ep, base_of e (noA e d), d, r⟩
    have hKb : K.In (hidT s₁.heap H) := fun b o e => base_of (KX b o e) (by
      cases q : H b with
      | none => rfl
      | some u =>
        have e' : b = a := hA b (by rw [q]; simp)
        subst e'
        rw [hK (by rw [q]; simp)] at e; cases e)
    have hM : Mod K mg (hidT s₁.heap H) := ⟨hKb, nsK hns, ⟨mb, nsK hb, hbb⟩, let ⟨mc, h1, h2⟩ := hlim; ⟨mc, nsK h1, h2⟩⟩
    have e0 : Env0 P w K mg (hidT s₁.heap H) callerA [] s₁ H := ⟨rfl, hM, fun b o e => of_hidT e, Nat.le_of_eq (hidT_size _ _), trivial, fun b hb => absurd (show b ∈ ([] : List Addr) from hb) (by simp), hok, .of_eq hg⟩
    refine codeAny_mono ((F _ hKb (nsK hns)).run callerA [] s₁ H ⟨[.ref a], []⟩ [.ref a] [.ref a] _ _ hr e0 (hbind s₁ (.ref a)) (.cons rfl .nil) (hsp H hO hS)) fun r s' h => ?_
    cases r with
    | error e => exact (hCX H e s' h).elim
    | ok fl =>
      cases fl with
      | next => exact False.elim h
      | brk => exact False.elim h
      | cont => exact False.elim h
      | ret u =>
        obtain ⟨v, H', os, bare, un, hok', r', q⟩ := h
        have q' : v = .bl true := q
        subst q'
        obtain rfl : u = Value.bool true := r'
        refine ⟨rfl, OldK.of_keep fun b o e => ?_, os, bare⟩
        cases q : H b with
        | none => exact un.keep b o e q (by intro z; exact absurd (show b ∈ ([] : List Addr) from z) (by simp)) (by simp)
        | some u =>
          rcases hO b with z | ⟨ob, xs, z⟩
          · rw [q] at z; cases z
          · have z2 := un.frzs b ob _ z
            obtain ⟨e1, _⟩ := hok b _ z
            obtain ⟨e2, _⟩ := hok' b _ z2
            rw [e] at e1; cases e1
            exact e2
  cases hk : K.lookup a with
  | some o =>
    -- the script is one of the module's own objects
    have e := KX a o hk
    rw [ha] at e
    cases e
    refine core (fun _ => none) (fun _ => .inl rfl) (.inr ⟨_, vs.toArray, _, hk, rfl, rfl, rfl, by rw [List.size_toArray, lenV]; exact hl, by simpa using rv⟩) (fun b u z => by have z' : (none : Option HO) = some u := z; cases z') (fun b z => absurd rfl z) fun z => absurd rfl z
  | none =>
    refine core (fun b => if b = a then some (.frz { cls := .type "list", data := .seq vs.toArray } (.lst (ns.map V.int))) else none) (fun b => ?_) (.inl (.inr ⟨{ cls := .type "list", data := .seq vs.toArray }, if_pos rfl⟩)) (fun b u z => ?_) (fun b z => ?_) fun _ => hk
    · by_cases hb : b = a
      · exact .inr ⟨_, _, if_pos hb⟩
      · exact .inl (if_neg hb)
    · by_cases hb : b = a
      · have z' := (if_pos hb).symm.trans z
        cases z'
        subst hb
        exact ⟨ha, by rw [List.length_map]; exact hl, vs, _, rv, ha⟩
      · have z' := (if_neg hb).symm.trans z
        cases z'
    · by_cases hb : b = a
      · exact hb
      · exact absurd (if_neg hb) z
end L2

namespace L2
open PySem PySem.Spec PyProof.Rows

abbrev KOf {K : PySem.W.Frag} {h : Heap} (_ : K.In h) : PySem.W.Frag := K

/-- the goal that k_head leaves (case hc), from the law's promise. F gives the function object fd (K's own) once, then the promise over every base -/
theorem walk_of {l : PySem.W.OpenLaw} {n k : Nat} {q : Program} {loose : List Str} {XP : (Str → Option Value) → Heap → Prop} {YP : World → Heap → Prop} {d : DefRec} {K : Params → PySem.W.Frag} {CX : World → CXT} {sp : World → Sp} {x : Str}
    (hn : l.most = some n) (hn2 : n ≤ sizeLine) (hdf : d.params.defaults = []) (hr : Room k callerA)
    (hY : ∀ (w : World) (h : Heap), YP w h → (K w.params).In h)
    (F : ∀ (w : World) (mg : Str → Option Value) (fa : Addr) (h : Heap), (K w.params).In h → h.Ns mainGlobals mg → mg d.name = some (.ref fa) →
      ∃ fd : FuncData, (∀ (s : Shared) (u : Value), BindsTo s fd ⟨[u], []⟩ [(x, u)]) ∧
        ∀ base : Heap, (K w.params).In base → base.Ns mainGlobals mg → FnOk l.prog w (K w.params) mg base (CX w) k fa fd [x] (sp w))
    (hsp : ∀ (w : World) (H : Hp) (a : Addr) (ns : List Int), ns.length ≤ n → Only H → SqL (K w.params) H a (ns.map V.int) → sp w [.ref a] H (fun v _ => v = .bl true) fun _ _ _ => False)
    (hCX : ∀ (w : World) (H : Hp) (s : Shared) (e : Value) (s' : Shared), CX w [] H s (fun _ _ _ => False) e s' → False) :
    PySem.W.WalkO q loose XP YP l.row.toRowW d [] (fun f vs => PySem.call f vs) := by
  refine Att.attach_call hn hdf fun w s₀ s₁ mg mb fa o pm cd doc a vs ns G Y ho hd hcd hmg hobj hints hlen hg => ?_
  have KX := hY w _ Y
  obtain ⟨fd, hb, hF⟩ := F w mg fa _ KX G.T.g hmg
  exact law_call KX G.T.g G.T.b G.T.builtins G.T.nolimit hg hobj hints (Nat.le_trans hlen hn2) hr hF hb (fun H hO hS => hsp w H a ns hlen hO hS) fun H e s' => hCX w H s₁ e s'
end L2

/- THE LAST THEOREM (shape; LID, My.* are yours):
   My.Adr: a structure of the addresses that your layer names (classes, functions); My.Txt K t: a structure (Prop) of the equations over K;
   My.txt_mk : {K} {implicit addresses ..} (e1 : nsIn K mainGlobals "law" = some (some (.ref f))) (e2 : K.lookup f = some ⟨oc, od, .func (fnOf "law" "law" params body scope dV kV doc pm an cdv ct), sl⟩) (e3 : codeIn K cdv "law" = true) .. : ∃ t, My.Txt K t

set_option maxRecDepth 100000 in
set_option maxHeartbeats 0 in
theorem PySem.Challenge.cw_LID_holds : PySem.Challenge.rw_LID.Holds := by
  w_on; o_law; k_head; (case hw => w_witness2)
  k_fill
  refine L2.walk_of (l := PySem.Challenge.rw_LID) (n := 63) (k := 40) (x := "script") (CX := fun w => ..) (sp := fun _ => My.sp_law) rfl (by decide) rfl ⟨rfl, by decide, by decide⟩ (fun w h Y => PySem.W.kIn_of Y) ?F ?S ?C
  case F =>
    intro w mg fa h KX G hmg
    have T : ∃ t, My.Txt (L2.KOf KX) t := by
      dsimp only [L2.KOf]                          -- K must stand as «<heap const> w.params» for k_is
      refine' My.txt_mk ?e1 ?e2 ?e3 ..
      (case e1 => PySem.W.k_is)                    -- in the order: a name -> its address -> its object -> its parts
      (case e2 => PySem.W.k_is)
      ..
    obtain ⟨t, T⟩ := T
    have e0 := hmg.symm.trans (PySem.W.mg_of KX G T.law)
    cases e0                                       -- fa is the law's own address
    exact ⟨_, fun s u => .of_eq rfl, fun base kb nb => My.law_fn T kb nb⟩     -- if «.of_eq rfl» comes too early: refine' ⟨_, ?b, fun base kb nb => My.law_fn T kb nb⟩; exact fun s u => .of_eq rfl
  case S => exact fun w H a ns hl hO hS => ..
  case C => exact ..
(the tactic k_is has no namespace: write k_is) -/

/-! SHORT WORDS over the layer: a def of the text, its body, what a loop and a test want. -/
namespace L2
open PySem PySem.Spec PyProof.Rows

def defArgs (s : Stmt) : Arguments := match s with
  | .FunctionDef _ a _ _ _ _ _ _ _ _ => a
  | _ => { posonlyargs := [], args := [], vararg := none, kwonlyargs := [], kw_defaults := [], kwarg := none, defaults := [] }
def defBody (s : Stmt) : List Stmt := match s with
  | .FunctionDef _ _ b _ _ _ _ _ _ _ => b
  | _ => []
def defScope (s : Stmt) : Scope := match s with
  | .FunctionDef _ _ _ _ _ _ sc _ _ _ => sc
  | _ => { kind := .function, names := [], isGenerator := false, isCoroutine := false }

abbrev CX0 : CXT := fun _ _ _ _ _ _ => False
abbrev E0 : XK := fun _ _ _ => False
theorem pass0 {X : Cx} : Passes CX0 X E0 := fun _ _ _ _ _ _ _ h => h.elim

structure Fun (K : PySem.W.Frag) (x qual : Str) (st : Stmt) (f : Addr) (fd : FuncData) : Prop where
  ex : ∃ (oc : Value) (od : Option Addr) (kV doc pm : Value) (an : Option Addr) (cdv ct : Value) (osl : Array (Option Value)),
    fd = PySem.W.fnOf x qual (defArgs st) (defBody st) (defScope st) .none kV doc pm an cdv ct ∧ K.lookup f = some ⟨oc, od, .func fd, osl⟩ ∧ PySem.W.codeIn K cdv qual = true
  kp : PySem.W.keepIn K (.ref f) = true
section
variable {P : Program} {w : World} {K : PySem.W.Frag} {mg : Str → Option Value} {base : Heap}
/-- THE RULE for a def: its body as a term of rules, and the reading of that term -/
theorem Fun.ok {x qual : Str} {st : Stmt} {f : Addr} {fd : FuncData} {N ps : List Str} {k : Nat} {sp : Sp} (F : Fun K x qual st f fd) (S : FnScope N ps (defScope st)) (len : ∀ vs H Q E, sp vs H Q E → vs.length = ps.length)
    (hbody : ∀ (cdv : Value) (A : Around) (outer : List Env) (s : Shared) (H : Hp) (vs : List V) (Q : VK) (E : XK), Room k (A.deeper (envOfC qual (defScope st) s.heap.objs.size f cdv)) → sp vs H Q E →
      ∃ t, PSs (cxOf CX0 P w K mg base N qual (defScope st) f cdv A outer s H E).nox (defBody st) t ∧ t { nx := fun _ H' => Q .non H', rt := Q } (start N vs) H) : FnOk P w K mg base CX0 (k + 1) f fd ps sp := by
  obtain ⟨oc, od, kV, doc, pm, an, cdv, ct, osl, rfl, lk, hcd⟩ := F.ex
  refine fn_of lk hcd S len fun A outer s H vs Q E hr hsp => ?_
  obtain ⟨t, h, q⟩ := hbody cdv A outer s H vs Q E hr hsp
  exact ⟨t, h.nox, q⟩
/-- how its arguments bind (no defaults): h is «fun _ _ _ _ _ _ us hl => match us, hl with | [_, _], _ => rfl», one _ a parameter -/
theorem Fun.binds {x qual : Str} {st : Stmt} {f : Addr} {fd : FuncData} {ps : List Str} (F : Fun K x qual st f fd)
    (h : ∀ (kV doc pm : Value) (an : Option Addr) (cdv ct : Value) (us : List Value), us.length = ps.length → bindArgs (PySem.W.fnOf x qual (defArgs st) (defBody st) (defScope st) .none kV doc pm an cdv ct) ⟨us, []⟩ = pure (ps.zip us)) : Binds K fd ps [] := by
  obtain ⟨oc, od, kV, doc, pm, an, cdv, ct, osl, rfl, lk, hcd⟩ := F.ex
  exact .all (h kV doc pm an cdv ct)
theorem fun_mk {x qual : Str} {st : Stmt} {f : Addr} {oc : Value} {od an : Option Addr} {osl : Array (Option Value)} {kV doc pm cdv ct : Value} (l : K.lookup f = some ⟨oc, od, .func (PySem.W.fnOf x qual (defArgs st) (defBody st) (defScope st) .none kV doc pm an cdv ct), osl⟩)
    (c : PySem.W.codeIn K cdv qual = true) (k : PySem.W.keepIn K (.ref f) = true) : Fun K x qual st f (PySem.W.fnOf x qual (defArgs st) (defBody st) (defScope st) .none kV doc pm an cdv ct) := ⟨⟨oc, od, kV, doc, pm, an, cdv, ct, osl, rfl, l, c⟩, k⟩
end
theorem small1000 {n : Nat} (h : n ≤ 1000) : n < sizeLine := Nat.lt_of_le_of_lt h (by decide)

section
variable {X : Cx}
theorem pv (i : Nat) {x : Str} {pos : Pos} (hN : X.N[i]? = some x := by rfl) (hv : Vis X.env.scope x := by first | exact Or.inl rfl | exact Or.inr (Or.inl rfl) | exact Or.inr (Or.inr rfl)) (hd : (x == ("__debug__" : Str)) = false := by decide)
    (hcd : (x == ("__classdict__" : Str)) = false := by decide) : PE X (.Name x pos) (tVar i) := pe_var hN hv hd hcd
end

/-- all that was tracked is as it was -/
def Same (H H' : Hp) : Prop := ∀ b o, H b = some o → H' b = some o
theorem Same.refl (H : Hp) : Same H H := fun _ _ h => h
theorem Same.trans {H H1 H2 : Hp} (a : Same H H1) (b : Same H1 H2) : Same H H2 := fun c o h => b c o (a c o h)
theorem Same.free {H H' : Hp} (e : Same H H') {l : Addr} (h : H' l = Option.none) : H l = Option.none := by
  cases q : H l with
  | none => rfl
  | some o =>
    rw [e l o q] at h
    cases h
theorem Same.seq {K : PySem.W.Frag} {H H' : Hp} {a : Addr} {xs : List V} (e : Same H H') (h : SqL K H a xs) : SqL K H' a xs := by
  rcases h with (h | ⟨o, h⟩) | h
  · exact .inl (.inl (e _ _ h))
  · exact .inl (.inr ⟨o, e _ _ h⟩)
  · exact .inr h

end L2

set_option Elab.async false
set_option linter.all false
set_option maxRecDepth 100000
namespace L2
open PySem PySem.Spec PyProof.Rows

theorem go_sign {M : Model} {A : Around} {E : Value → Shared → Prop} {s : Shared} {tg : Expr} {it : Value} {z : Str} {t : Tok} {Q : Unit → Shared → Prop} (hQ : Q () s) :
    wpAny M A (letOwnedTupleGo tg it (.str z t)) Q E s := by
  unfold letOwnedTupleGo
  cases tg <;> first
    | exact wpAny_pure hQ
    | (cases it <;> exact wpAny_pure hQ)
def Its (z : Str) : It := ⟨fun i _ => i < z.cps.size, fun i H x H' => H' = H ∧ ∃ c, z.cps[i]? = some c ∧ x = .str ⟨#[c]⟩, fun i _ => z.cps.size ≤ i⟩
theorem turn_sign {P : Program} {w : World} {K : PySem.W.Frag} {tg : Expr} {ty : String} (it : Addr) (z : Str) (t : Tok)
    (W : ∀ A : Around, A.handled = none → Walks P w A it [it] [it] z.cps.size (SignAt z) (fun i h => h.IsStrIter it ty z t i))
    (S : ∀ (A : Around) (i : Nat) (s : Shared) (Q : Value → Shared → Prop) (E : Value → Shared → Prop), s.heap.IsStrIter it ty z t i → Q (.ref it) s → wpAny (model P w) A (pyIter (.ref it)) Q E s) :
    Turn P w K tg (Its z) [it] it (fun i h => i ≤ z.cps.size ∧ h.IsStrIter it ty z t i) where
  mem := by simp
  obj := fun i h st b hb => by
    obtain rfl : b = it := by simpa using hb
    obtain ⟨_, o, e, c, d⟩ := st
    exact ⟨o, e, fun v q => by rw [d] at q; cases q⟩
  keep := fun i h h' st k => by
    obtain ⟨l, o, e, r⟩ := st
    exact ⟨l, o, k it (by simp) o e, r⟩
  item := by
    intro X hP hw hK hc i pins s σ H E I hf st hg
    subst hP hw hK
    obtain ⟨f0, f1, f2, f3, f4, f5⟩ := hf it (by simp)
    refine (W X.A (I.ok.hd hc)).item i s _ _ hg st.2 fun v h' tk hv st' kk => ?_
    obtain ⟨c, u, hx, rfl⟩ := hv
    have I1 : Inv X pins σ H { s with heap := h', toks := tk } := I.turned (fun b o hb e => kk b o (by simpa using hb) e) f0 f1 f3 f4 f5
    exact ⟨_, rfl, go_sign ⟨.str ⟨#[c]⟩, H, I1, ⟨u, rfl⟩, ⟨rfl, c, hx, rfl⟩, ⟨hg, st'⟩, fun b hb => (hf b hb).1⟩⟩
  done := by
    intro X hP hw hK hc i pins s σ H E I hf st hg
    subst hP hw hK
    obtain ⟨f0, f1, f2, f3, f4, f5⟩ := hf it (by simp)
    have e : i = z.cps.size := Nat.le_antisymm st.1 hg
    subst e
    exact (W X.A (I.ok.hd hc)).done s _ _ st.2 fun h' tk kk => ⟨rfl, I.turned (fun b o hb e => kk b o (by simpa using hb) e) f0 f1 f3 f4 f5⟩
  self := fun A i s Q E st h => S A i s Q E st.2 h

/-- what a for or a comprehension walks: a list, a tuple, a text -/
def iAny (K : PySem.W.Frag) (tl : TE) : TI := fun σ H R => tl σ H fun x H1 => (∃ a, x = .ref a ∧ (∃ xs, SqL K H1 a xs) ∧ R (Itl K a) H1) ∨ (∃ a, x = .ref a ∧ (∃ xs, SqT K H1 a xs) ∧ R (Itt K a) H1) ∨ ∃ z, x = .str z ∧ R (Its z) H1
theorem pi_any {X : Cx} {tg l : Expr} {tl : TE} (hl : PE X l tl) : PI X tg l (iAny X.K tl) := by
  intro pins s σ H R I h
  refine thn (hl pins s σ H _ I h) fun v s1 ⟨x, H1, I1, r1, q1⟩ => ?_
  rcases q1 with ⟨a, rfl, ⟨xs, hq⟩, q⟩ | ⟨a, rfl, ⟨xs, hq⟩, q⟩ | ⟨z, rfl, q⟩
  · cases r1
    obtain ⟨its, rv, p, hz⟩ := I1.list hq
    refine wpAny_pyIter_list p.isList ⟨s1.heap.objs.size, [s1.heap.objs.size], _, _, H1, rfl, I1.kept (t' := s1.toks) fun b o e => Heap.get?_push_of_some _ e, turn_list a _, ⟨_, Heap.get?_push_size _ rfl, rfl, rfl⟩, fun b hb => ?_, q⟩
    obtain rfl : b = s1.heap.objs.size := by simpa using hb
    exact I1.fpOk (Nat.le_refl _) (I1.hok.fresh (Nat.le_refl _))
  · cases r1
    obtain ⟨its, rv, p, hz⟩ := I1.tuple hq
    refine wpAny_pyIter_tuple (show s1.heap.IsTuple a its.toArray from p) ⟨s1.heap.objs.size, [s1.heap.objs.size], _, _, H1, rfl, I1.kept (t' := s1.toks) fun b o e => Heap.get?_push_of_some _ e, turn_tuple a _, ⟨_, Heap.get?_push_size _ rfl, rfl, rfl⟩, fun b hb => ?_, q⟩
    obtain rfl : b = s1.heap.objs.size := by simpa using hb
    exact I1.fpOk (Nat.le_refl _) (I1.hok.fresh (Nat.le_refl _))
  · obtain ⟨t, rfl⟩ := r1
    have fin : ∀ (o : Obj) (ty : String), (∀ A : Around, A.handled = none → Walks X.prog X.w A s1.heap.objs.size [s1.heap.objs.size] [s1.heap.objs.size] z.cps.size (SignAt z) (fun i h => h.IsStrIter s1.heap.objs.size ty z t i)) →
        (∀ (A : Around) (i : Nat) (s : Shared) (Q : Value → Shared → Prop) (E : Value → Shared → Prop), s.heap.IsStrIter s1.heap.objs.size ty z t i → Q (.ref s1.heap.objs.size) s → wpAny (model X.prog X.w) A (pyIter (.ref s1.heap.objs.size)) Q E s) →
        (s1.heap.push o).IsStrIter s1.heap.objs.size ty z t 0 → PIE X pins σ tg R (.ref s1.heap.objs.size) { s1 with heap := s1.heap.push o } := fun o ty W S st => by
      refine ⟨s1.heap.objs.size, [s1.heap.objs.size], _, Its z, H1, rfl, I1.kept (t' := s1.toks) fun b o e => Heap.get?_push_of_some _ e, turn_sign _ z t W S, ⟨Nat.zero_le _, st⟩, fun b hb => ?_, q⟩
      obtain rfl : b = s1.heap.objs.size := by simpa using hb
      exact I1.fpOk (Nat.le_refl _) (I1.hok.fresh (Nat.le_refl _))
    cases ha : z.cps.all (· < 128)
    · exact wpAny_pyIter_wide ha (fin _ "str_iterator" (fun A hA => Walks.strWide hA _ z t) (fun _ _ _ _ _ st h => wpAny_pyIter_striter_wide st h) ⟨_, Heap.get?_push_size _ rfl, rfl, rfl⟩)
    · exact wpAny_pyIter_ascii ha (fin _ "str_ascii_iterator" (fun A hA => Walks.strAscii hA _ z t) (fun _ _ _ _ _ st h => wpAny_pyIter_striter_ascii st h) ⟨_, Heap.get?_push_size _ rfl, rfl, rfl⟩)

structure BP where
  cl : List (Str × Addr)
  C : Addr
  s3 : Shared
  H3 : Hp
  ex : List Addr
  pn : List (Addr × Obj)
def blk (X : Cx) (scope : Scope) (N' : List Str) (b : BP) : Cx where
  prog := X.prog
  w := X.w
  K := X.K
  mg := X.mg
  base := X.base
  A := X.A
  N := N'
  s₀ := b.s3
  H₀ := b.H3
  env := compEnvC scope b.cl b.C X.env
  outer := X.stack
  stack := X.stack
  ex := b.ex
  fn := fun _ => false
  calm := X.calm
  pn := b.pn
  xe := fun _ _ => False

theorem closure_go {env : Env} : ∀ (names : List (Str × NameKind)) (acc : List (Str × Addr)), (∀ x ∈ names, x.2 = .free → ∃ c, env.cells.lookup x.1 = some c) →
    (∀ n c, acc.lookup n = some c → env.cells.lookup n = some c) →
    ∃ cl : List (Str × Addr), (forIn names acc (fun x cs => match x with | (name, kind) => if kind == .free then do let a ← cellOf env name; pure (ForInStep.yield ((name, a) :: cs)) else pure (ForInStep.yield cs)) : Sem (List (Str × Addr))) = pure cl ∧
      (∀ n c, cl.lookup n = some c → env.cells.lookup n = some c) ∧ (∀ n, ((∃ c, acc.lookup n = some c) ∨ (n, NameKind.free) ∈ names) → ∃ c, cl.lookup n = some c)
  | [], acc, _, ha => ⟨acc, rfl, ha, fun n h => h.elim id fun z => absurd z (by simp)⟩
  | (n, k) :: r, acc, h, ha => by
    by_cases hk : k = .free
    · subst hk
      obtain ⟨c, hc⟩ := h (n, .free) (List.mem_cons_self ..) rfl
      obtain ⟨cl, e, h1, h2⟩ := closure_go r ((n, c) :: acc) (fun x hx => h x (List.mem_cons_of_mem _ hx)) (fun m d hm => by
        rw [List.lookup_cons] at hm
        cases hb : m == n with
        | true =>
          rw [hb] at hm
          obtain rfl : m = n := by simpa using hb
          cases hm; exact hc
        | false => rw [hb] at hm; exact ha m d hm)
      refine ⟨cl, ?_, h1, fun m hm => h2 m ?_⟩
      · rw [List.forIn_cons]
        have ec : cellOf env n = pure c := by unfold cellOf; rw [hc]
        simp only [beq_self_eq_true, if_true, ec]
        exact e
      · rcases hm with ⟨d, hd⟩ | hm
        · left
          rw [List.lookup_cons]
          cases hb : m == n with
          | true => exact ⟨c, rfl⟩
          | false => exact ⟨d, hd⟩
        · rcases List.mem_cons.mp hm with z | z
          · left
            cases z
            exact ⟨c, by simp [List.lookup_cons]⟩
          · exact .inr z
    · obtain ⟨cl, e, h1, h2⟩ := closure_go r acc (fun x hx => h x (List.mem_cons_of_mem _ hx)) ha
      refine ⟨cl, ?_, h1, fun m hm => h2 m (hm.imp id fun z => ?_)⟩
      · rw [List.forIn_cons]
        have eb : (k == NameKind.free) = false := by simpa using hk
        simp only [eb, Bool.false_eq_true, if_false]
        exact e
      · rcases List.mem_cons.mp z with z | z
        · cases z; exact absurd rfl hk
        · exact z
theorem closure_of {env : Env} {scope : Scope} (h : ∀ x ∈ scope.names, x.2 = .free → ∃ c, env.cells.lookup x.1 = some c) :
    ∃ cl, closureFor scope env = pure cl ∧ (∀ n c, cl.lookup n = some c → env.cells.lookup n = some c) ∧ ∀ n, (n, NameKind.free) ∈ scope.names → ∃ c, cl.lookup n = some c := by
  obtain ⟨cl, e, h1, h2⟩ := closure_go (env := env) scope.names [] h (fun n c z => by simp at z)
  refine ⟨cl, ?_, h1, fun n z => h2 n (.inr z)⟩
  unfold closureFor
  refine Eq.trans ?_ (congrArg (fun m => m >>= fun r => (pure r : Sem (List (Str × Addr)))) e)
  rfl

theorem relabel_back {env : Env} {x : Str} {k : NameKind} : ∀ {names : List (Str × NameKind)},
    (names.map fun (n, k) => if (k == NameKind.free && env.scope.kind == .function && env.kindOf n == some .cell) then (n, NameKind.cell) else (n, k)).lookup x = some k →
    ∃ k0, (x, k0) ∈ names ∧ (k0 = k ∨ (k0 = .free ∧ k = .cell))
  | [], h => by simp at h
  | (n, j) :: r, h => by
    rw [List.map_cons, List.lookup_cons] at h
    dsimp only at h
    by_cases hc : (j == NameKind.free && env.scope.kind == .function && env.kindOf n == some .cell) = true
    · rw [if_pos hc] at h
      dsimp only at h
      cases hb : x == n with
      | true =>
        rw [hb] at h
        obtain rfl : x = n := by simpa using hb
        cases h
        have hj : j = .free := by simp only [Bool.and_eq_true, beq_iff_eq] at hc; exact hc.1.1
        exact ⟨j, List.mem_cons_self .., .inr ⟨hj, rfl⟩⟩
      | false =>
        rw [hb] at h
        obtain ⟨k0, h1, h2⟩ := relabel_back (names := r) h
        exact ⟨k0, List.mem_cons_of_mem _ h1, h2⟩
    · rw [if_neg hc] at h
      dsimp only at h
      cases hb : x == n with
      | true =>
        rw [hb] at h
        obtain rfl : x = n := by simpa using hb
        cases h
        exact ⟨_, List.mem_cons_self .., .inl rfl⟩
      | false =>
        rw [hb] at h
        obtain ⟨k0, h1, h2⟩ := relabel_back (names := r) h
        exact ⟨k0, List.mem_cons_of_mem _ h1, h2⟩
theorem relabel_free {env : Env} {x : Str} : ∀ {names : List (Str × NameKind)}, names.lookup x = some .free →
    (names.map fun (n, k) => if (k == NameKind.free && env.scope.kind == .function && env.kindOf n == some .cell) then (n, NameKind.cell) else (n, k)).lookup x = some .cell ∨
    (names.map fun (n, k) => if (k == NameKind.free && env.scope.kind == .function && env.kindOf n == some .cell) then (n, NameKind.cell) else (n, k)).lookup x = some .free
  | [], h => by simp at h
  | (n, j) :: r, h => by
    rw [List.lookup_cons] at h
    rw [List.map_cons, List.lookup_cons]
    dsimp only
    cases hb : x == n with
    | true =>
      rw [hb] at h
      cases h
      by_cases hc : (NameKind.free == NameKind.free && env.scope.kind == .function && env.kindOf n == some .cell) = true
      · rw [if_pos hc]; dsimp only; rw [hb]; exact .inl rfl
      · rw [if_neg hc]; dsimp only; rw [hb]; exact .inr rfl
    | false =>
      rw [hb] at h
      have ih := relabel_free (env := env) (names := r) h
      by_cases hc : (j == NameKind.free && env.scope.kind == .function && env.kindOf n == some .cell) = true
      · rw [if_pos hc]; dsimp only; rw [hb]; exact ih
      · rw [if_neg hc]; dsimp only; rw [hb]; exact ih

/-- the block's slots: its own names, and names of the def around it by their slots there -/
def frChk (names outer : List (Str × NameKind)) (Nx : List Str) : List Str → List (Option Nat) → Bool
  | [], [] => true
  | x :: r, none :: f => frChk names outer Nx r f
  | x :: r, some j :: f => (names.lookup x == some .free) && (Nx[j]? == some x) && (outer.lookup x == some .cell) && frChk names outer Nx r f
  | _, _ => false
theorem frChk_get {names outer : List (Str × NameKind)} {Nx : List Str} : ∀ {N' : List Str} {fr : List (Option Nat)}, frChk names outer Nx N' fr = true →
    N'.length = fr.length ∧ ∀ (i : Nat) (x : Str) (j : Nat), N'[i]? = some x → fr[i]? = some (some j) → names.lookup x = some .free ∧ Nx[j]? = some x ∧ outer.lookup x = some .cell
  | [], [], _ => ⟨rfl, fun i x j h => by simp at h⟩
  | x :: r, none :: f, h => by
    obtain ⟨h1, h2⟩ := frChk_get (N' := r) (fr := f) h
    refine ⟨by simp [h1], fun i y j e1 e2 => ?_⟩
    cases i with
    | zero => simp at e2
    | succ i => exact h2 i y j (by simpa using e1) (by simpa using e2)
  | x :: r, some k :: f, h => by
    simp only [frChk, Bool.and_eq_true, beq_iff_eq] at h
    obtain ⟨⟨⟨a1, a2⟩, a3⟩, h⟩ := h
    obtain ⟨h1, h2⟩ := frChk_get (N' := r) (fr := f) h
    refine ⟨by simp [h1], fun i y j e1 e2 => ?_⟩
    cases i with
    | zero =>
      simp at e1 e2
      subst e1; subst e2
      exact ⟨a1, a2, a3⟩
    | succ i => exact h2 i y j (by simpa using e1) (by simpa using e2)
  | [], _ :: _, h => by simp [frChk] at h
  | _ :: _, [], h => by simp [frChk] at h
def inBlk (fr : List (Option Nat)) (σ : St) : St := fr.map fun o => o.bind fun j => (σ[j]?).join

theorem HOk.but {P : Program} {w : World} {H : Hp} {h h' : Heap} {a : Addr} (ok : HOk P w H h) (n : H a = none) (sb : Heap.SameBut a h h') : HOk P w H h' := fun b ob e => by
  refine (ok b ob e).stay (fun c u hc q => (sb.2 c ?_).trans q) (fun _ q => q) fun _ _ q => q
  rintro rfl
  rcases hc with rfl | hc
  · rw [n] at e; cases e
  · rw [n] at hc; cases hc

/-- the tests of a clause -/
def PIf (X : Cx) (ifs : List Expr) (tt : TT) : Prop :=
  ∀ (pins : List (Addr × Obj)) (s : Shared) (σ : St) (H : Hp) (Q : Bool → Hp → Prop), Inv X pins σ H s → tt σ H Q →
    wpAny (model X.prog X.w) X.A (forIn ifs true fun c r => if r = true then do let ok ← isTrue c X.env (eval c X.env); pure (ForInStep.yield ok) else pure (ForInStep.yield r)) (TP X pins σ Q) X.xe s
def tAlways : TT := fun _ H Q => Q true H
theorem pif_nil {X : Cx} : PIf X [] tAlways := fun _ _ _ H _ I h => wpAny_tests_nil ⟨H, I, h⟩
def tLc (fr : List (Option Nat)) (wi : TI) (g : BP → TG) (tt : BP → TT) (te : BP → TE) : TE := fun σ H Q => wi σ H fun J H1 => ∀ (bp : BP) (acc : Addr), H1 acc = none → ∃ W : Nat → Nat → St → Hp → Prop,
  (∃ m, W 0 m (inBlk fr σ) (upd H1 acc (.lst []))) ∧ ∀ i m σ' H', W i m σ' H' →
    (J.stop i H' ∧ Q (.ref acc) H') ∨ (J.go i H' ∧ ∀ x H2, J.yld i H' x H2 → g bp x σ' H2 fun σ2 H3 => tt bp σ2 H3 fun b H4 =>
      if b = true then te bp σ2 H4 fun y H5 => ∃ ys, H5 acc = some (.lst ys) ∧ ys.length < sizeLine ∧ ∃ m', m' < m ∧ W (i + 1) m' σ2 (upd H5 acc (.lst (ys ++ [y])))
      else ∃ m', m' < m ∧ W (i + 1) m' σ2 H4)

section
variable {X : Cx}
theorem comp_loop {prog : Program} {w : World} {A : Around} {R : Result → Shared → Prop} {s : Shared} {elt target iter : Expr} {ifs : List Expr} {scope : Scope} {pos : Pos} {it acc : Value} {env : Env} (I : Nat → Shared → Prop)
    (turn : ∀ n s, I n s → wpAny (model prog w) A (pyNext it) (fun r s₁ => match r with
      | none => R (.ok .next) s₁
      | some v => wpAny (model prog w) A (letOwnedTupleGo target it v) (fun _ s1 => wpAny (model prog w) A (assign target env v) (fun _ s₂ =>
          wpAny (model prog w) A (forIn ifs true fun c r => if r = true then do let ok ← isTrue c env (eval c env); pure (ForInStep.yield ok) else pure (ForInStep.yield r)) (fun ok s₃ =>
            if ok = true then wpAny (model prog w) A (eval elt env) (fun x s₄ => wpAny (model prog w) A (call (.builtin "list.append") [acc, x]) (fun _ s₅ => ∃ m, m < n ∧ I m s₅) (fun _ _ => False) s₄) (fun _ _ => False) s₃
            else ∃ m, m < n ∧ I m s₃) (fun _ _ => False) s₂) (fun _ _ => False) s1) (fun _ _ => False) s₁) (fun _ _ => False) s)
    (n : Nat) (h : I n s) : codeAny (model prog w) A (.compLoop (.ListComp elt [⟨target, iter, ifs, 0⟩] scope pos) 0 it acc env) R s := by
  refine codeAny_loop rfl I (fun n s hI => ?_) n h
  show wpAny _ A ((compTurn (.ListComp elt [⟨target, iter, ifs, 0⟩] scope pos) 0 it acc env).onRaise (fun x => do noteFrame x env; theTreesLotGoes x)) _ _ s
  refine wpAny_noted ?_
  rw [compTurn_list]
  have no : ∀ {E : Value → Shared → Prop} (e : Value) (s : Shared), False → E e s := fun _ _ z => z.elim
  refine wpAny_bind (wpAny_standAt (wpAny_bind (wpAny_mono (turn n s hI) (fun r s₁ h₁ => ?_) no)))
  cases r with
  | none => exact wpAny_pure h₁
  | some v =>
    refine wpAny_bind (wpAny_mono h₁ (fun _ s1 h1 => wpAny_bind (wpAny_mono h1 (fun _ s₂ h₂ => wpAny_bind (wpAny_mono h₂ (fun ok s₃ h₃ => ?_) no)) no)) no)
    cases ok with
    | false => exact wpAny_pure ⟨rfl, h₃⟩
    | true => exact wpAny_bind (wpAny_bind (wpAny_mono h₃ (fun x s₄ h₄ => wpAny_bind (wpAny_mono h₄ (fun _ s₅ h₅ => wpAny_pure (wpAny_pure ⟨rfl, h₅⟩)) no)) no))

variable {elt iter tg : Expr} {ifs : List Expr} {scope : Scope} {pos : Pos} {N' : List Str} {fr : List (Option Nat)} {wi : TI} {g : BP → TG} {tt : BP → TT} {te : BP → TE}
/-- the block, from the iterator on -/
theorem lc_block {pins : List (Addr × Obj)} {σ : St} {H2 : Hp} {s2 : Shared} {it : Addr} {fp : List Addr} {tn : Nat → Heap → Prop} {J : It} {Q : VK} {RR : Value → Addr → Result → Shared → Prop} {cl : List (Str × Addr)} {E : Value → Shared → Prop}
    (hcalm : X.calm = true) (hkind : scope.kind = .function) (hcell : ∀ y ∈ scope.names, y.2 ≠ .cell) (hfr : frChk scope.names X.env.scope.names X.N N' fr = true)
    (hcl1 : ∀ n c, cl.lookup n = some c → X.env.cells.lookup n = some c) (hcl2 : ∀ n, (n, NameKind.free) ∈ scope.names → ∃ c, cl.lookup n = some c)
    (hY : ∀ b : BP, PG (blk X scope N' b) tg (g b) ∧ PIf (blk X scope N' b) ifs (tt b) ∧ PE (blk X scope N' b) elt (te b))
    (I2 : Inv X pins σ H2 s2) (T : Turn X.prog X.w X.K tg J fp it tn) (st2 : tn 0 s2.heap) (f2 : ∀ b ∈ fp, FpOk X pins H2 b)
    (q : ∀ (bp : BP) (acc : Addr), H2 acc = none → ∃ W : Nat → Nat → St → Hp → Prop, (∃ m, W 0 m (inBlk fr σ) (upd H2 acc (.lst []))) ∧ ∀ i m σ' H', W i m σ' H' →
      (J.stop i H' ∧ Q (.ref acc) H') ∨ (J.go i H' ∧ ∀ x H2, J.yld i H' x H2 → g bp x σ' H2 fun σ2 H3 => tt bp σ2 H3 fun b H4 =>
        if b = true then te bp σ2 H4 fun y H5 => ∃ ys, H5 acc = some (.lst ys) ∧ ys.length < sizeLine ∧ ∃ m', m' < m ∧ W (i + 1) m' σ2 (upd H5 acc (.lst (ys ++ [y])))
        else ∃ m', m' < m ∧ W (i + 1) m' σ2 H4))
    (hRR : ∀ acc C s' HY m, Inv X pins σ HY s' → FpOk X pins HY C → s'.heap.Ns C m → Q (.ref acc) HY → RR (.ref acc) C (.ok .next) s') :
    wpAny (model X.prog X.w) X.A (newList []) (fun acc s₃ => wpAny (model X.prog X.w) X.A (newFunctionEnv scope X.env.globals cl [] X.env.qual none .none (some X.env)) (fun cenv s₄ =>
      codeAny (model X.prog X.w) X.A (.compStart (.ListComp elt [⟨tg, iter, ifs, 0⟩] scope pos) 0 (.ref it) acc { cenv with scope := relabel scope X.env }) (RR acc cenv.locals) s₄) E s₃) E s2 := by
  obtain ⟨hfl, hfg⟩ := frChk_get hfr
  have hacc : H2 s2.heap.objs.size = none := I2.hok.fresh (Nat.le_refl _)
  refine wpAny_newObj_type ?_ (by show 0 ≤ sizeLine; exact Nat.zero_le _)
  generalize hs3 : ({ s2 with heap := s2.heap.push { cls := .type "list", dict := none, data := .seq ([] : List Value).toArray } } : Shared) = s3
  have I3 : Inv X pins σ (upd H2 s2.heap.objs.size (.lst [])) s3 := by
    rw [← hs3]
    exact I2.laid (t' := s2.toks) (fun b u e => Heap.get?_push_of_some _ e) (Nat.le_refl _) ⟨Nat.zero_le _, [], 0, .nil, Heap.get?_push_size _ rfl⟩
  have hfp : ∀ b ∈ fp, b < s3.heap.objs.size := fun b hb => by
    obtain ⟨o, e, _⟩ := T.obj 0 _ st2 b hb
    rw [← hs3]
    exact Heap.lt_size (Heap.get?_push_of_some _ e)
  have st3 : tn 0 s3.heap := T.keep 0 _ _ st2 fun b _ o e => by rw [← hs3]; exact Heap.get?_push_of_some _ e
  have f3 : ∀ b ∈ fp, FpOk X pins (upd H2 s2.heap.objs.size (.lst [])) b := fun b hb => ⟨by
    obtain ⟨o, e, _⟩ := T.obj 0 _ st2 b hb
    rw [upd_ne (Nat.ne_of_lt (Heap.lt_size e))]
    exact (f2 b hb).1, (f2 b hb).2⟩
  refine wpAny_newFunctionEnv hcell (fun y hy => by simp at hy) (fun h₁ hns hsb => ?_) hkind
  generalize hH3 : upd H2 s2.heap.objs.size (.lst []) = H3 at *
  generalize hac : s2.heap.objs.size = ac at *
  generalize hC : s3.heap.objs.size = C at *
  obtain ⟨W, ⟨m0, w0⟩, turn⟩ := q ⟨cl, C, s3, H3, fp, X.pn ++ pins⟩ ac hacc
  rw [hH3] at w0
  have keep : ∀ b o, s3.heap.get? b = some o → h₁.get? b = some o := fun b o e => hsb.extBut b o (by rw [← hC]; exact Nat.ne_of_lt (Heap.lt_size e)) (Heap.get?_push_of_some _ e)
  have hCfp : ∀ b ∈ fp, b ≠ C := fun b hb => by exact Nat.ne_of_lt (hfp b hb)
  have hCl : X.env.locals < C := by rw [← hC]; exact I3.lt
  have hstk : ∀ b ∈ frs X.stack, b ≠ C ∧ H3 b = none := fun b hb => ⟨by
    rintro rfl
    rcases List.mem_cons.mp (I3.stkSub b hb) with z | z
    · rw [z] at hCl; exact absurd hCl (Nat.lt_irrefl _)
    · exact I3.nofs (by rw [hC]; exact Nat.le_refl _) z, I3.stkFree b hb⟩
  have cellNe : ∀ x c, X.env.cells.lookup x = some c → c ≠ C := fun x c e z => by
    obtain ⟨v, o, ho, _⟩ := I3.cell x c e
    have := Heap.lt_size ho
    rw [z, hC] at this
    exact absurd this (Nat.lt_irrefl _)
  -- the block's context
  have okY : (blk X scope N' ⟨cl, C, s3, H3, fp, X.pn ++ pins⟩).Ok := by
    refine ⟨I3.ok.mod, hkind, I3.ok.glob, I3.ok.blt, Nat.le_of_eq hC, fun x y c h1 h2 => I3.ok.inj x y c (hcl1 x c h1) (hcl1 y c h2), fun x hx => ?_, fun x c z => absurd z (by intro z; cases z), fun _ => I3.ok.hd hcalm, I3.ok.frames, .inl rfl,
      fun b hb => ⟨hCfp b hb, fun x c h => (f3 b hb).2.2.2.2.1 x c (hcl1 x c h)⟩, fun b o e => I3.bs b o e, ?_, fun b o e hb => ?_, fun b hb hs => ?_, I3.stack, fun b hb => (hstk b hb).2⟩
    · have back : ∀ k, (relabel scope X.env).names.lookup x = some k → (k = .cell ∨ k = .free) → ∃ c, cl.lookup x = some c := fun k h hk => by
        obtain ⟨k0, h1, h2⟩ := relabel_back h
        have hk0 : k0 = .free := by
          rcases h2 with rfl | ⟨rfl, _⟩
          · rcases hk with rfl | rfl
            · exact absurd rfl (hcell _ h1)
            · rfl
          · rfl
        subst hk0
        exact hcl2 x h1
      rcases hx with hx | hx
      · exact back _ hx (.inl rfl)
      · exact back _ hx (.inr rfl)
    · exact Nat.le_trans I3.ok.bsz (Nat.le_trans I3.sz (Nat.le_refl _))
    · rcases (f3 b hb).2.2.2.1 with z | z
      · exact I3.ok.noex b o e z
      · exact absurd (Nat.lt_of_lt_of_le (Heap.lt_size (I3.ok.bs b o e).1) z) (Nat.lt_irrefl _)
    · rcases List.mem_cons.mp (I3.stkSub b hs) with z | z
      · exact (f3 b hb).2.1 z
      · exact (f3 b hb).2.2.1 z
  have hH3C : H3 C = none := I3.hok.fresh (Nat.le_of_eq hC)
  have IY : Inv (blk X scope N' ⟨cl, C, s3, H3, fp, X.pn ++ pins⟩) [] (inBlk fr σ) H3 { s3 with heap := h₁, toks := s3.toks + ([] : List (Str × Value)).length } := by
    refine ⟨okY, rfl, I3.bare, Un.kept keep, ⟨_, hns, fun i x v h1 h2 _ => ?_⟩, fun x c e => ?_, hH3C, fun x c e => I3.freeC x c (hcl1 x c e), fun p hp => ?_, I3.hok.kept keep, ?_⟩
    · have e : ∃ j, fr[i]? = some (some j) ∧ σ[j]? = some (some v) := by
        unfold inBlk at h2
        rw [List.getElem?_map] at h2
        cases hf : fr[i]? with
        | none => rw [hf] at h2; cases h2
        | some o =>
          rw [hf] at h2
          cases o with
          | none => cases h2
          | some j =>
            refine ⟨j, rfl, ?_⟩
            have h2' : (σ[j]?).join = some v := by simpa using h2
            cases hj : σ[j]? with
            | none => rw [hj] at h2'; cases h2'
            | some o => rw [hj] at h2'; rw [show o = some v from h2']
      obtain ⟨j, e1, e2⟩ := e
      obtain ⟨a1, a2, a3⟩ := hfg i x j h1 e1
      obtain ⟨m, hn, hl⟩ := I3.loc
      obtain ⟨u, r, l⟩ := hl j x v a2 e2 (.inr (.inl a3))
      refine ⟨u, r, .inr ⟨relabel_free a1, ?_⟩⟩
      rcases l with ⟨k, _⟩ | ⟨_, c, hc, o, ho, hd⟩
      · have k' : X.env.scope.names.lookup x = some .local := k
        rw [a3] at k'; cases k'
      · obtain ⟨c', hc'⟩ := hcl2 x (PySem.mem_of_lookup a1)
        have z := hcl1 x c' hc'
        rw [hc] at z; cases z
        exact ⟨c, hc', o, keep c o ho, hd⟩
    · obtain ⟨v, o, ho, hd⟩ := I3.cell x c (hcl1 x c e)
      exact ⟨v, o, keep c o ho, hd⟩
    · obtain ⟨e, n, ne, nf, d⟩ := I3.pin p (by have hp' : p ∈ (X.pn ++ pins) ++ [] := hp; simpa using hp')
      refine ⟨keep _ _ e, n, ?_, fun z => ?_, d⟩
      · have := Heap.lt_size e
        rw [hC] at this
        exact Nat.ne_of_lt this
      · rcases List.mem_cons.mp (I3.stkSub p.1 z) with z | z
        · exact ne z
        · exact nf z
    · unfold inBlk
      rw [List.length_map]
      exact hfl.symm
  have stat : ∀ {H' : Hp}, (∀ b ∈ fp, H' b = none) → ∀ b ∈ fp, FpOk (blk X scope N' ⟨cl, C, s3, H3, fp, X.pn ++ pins⟩) [] H' b := fun {H'} hn b hb =>
    ⟨hn b hb, hCfp b hb, fun z => by
      rcases List.mem_cons.mp (I3.stkSub b z) with z | z
      · exact (f3 b hb).2.1 z
      · exact (f3 b hb).2.2.1 z, .inl hb, fun x c e => (f3 b hb).2.2.2.2.1 x c (hcl1 x c e), fun p hp => (f3 b hb).2.2.2.2.2 p (by have hp' : p ∈ (X.pn ++ pins) ++ [] := hp; simpa using hp')⟩
  obtain ⟨hg, ht, he⟩ := hY ⟨cl, C, s3, H3, fp, X.pn ++ pins⟩
  have loop : codeAny (model X.prog X.w) X.A (.compLoop (.ListComp elt [⟨tg, iter, ifs, 0⟩] scope pos) 0 (.ref it) (.ref ac) (compEnvC scope cl C X.env)) (RR (.ref ac) C) { s3 with heap := h₁, toks := s3.toks + ([] : List (Str × Value)).length } := by
    refine comp_loop (fun n s' => ∃ i σ' H', Inv (blk X scope N' ⟨cl, C, s3, H3, fp, X.pn ++ pins⟩) [] σ' H' s' ∧ tn i s'.heap ∧ (∀ b ∈ fp, H' b = none) ∧ W i n σ' H') ?_ m0
      ⟨0, inBlk fr σ, H3, IY, T.keep 0 _ _ st3 fun b _ o e => keep b o e, fun b hb => (f3 b hb).1, w0⟩
    rintro n s4 ⟨i, σ4, H4, I4, st4, fr4, w4⟩
    rcases turn i n σ4 H4 w4 with ⟨stop, qn⟩ | ⟨go, step⟩
    · refine thn (T.done (blk X scope N' ⟨cl, C, s3, H3, fp, X.pn ++ pins⟩) rfl rfl rfl hcalm i [] s4 σ4 H4 _ I4 (stat fr4) st4 stop) fun r s5 ⟨hr, I5⟩ => ?_
      subst hr
      obtain ⟨m, hn, _⟩ := I5.loc
      have IX : Inv X pins σ H4 s5 := I3.call' I5.os I5.base I5.hok I5.bare fun b hb => ⟨(f3 b hb).2.2.2.1, (f3 b hb).2.1, (f3 b hb).2.2.2.2.1, (f3 b hb).2.2.2.2.2⟩
      exact hRR ac C s5 H4 m IX (I3.fpOk (Nat.le_of_eq hC) I5.free) hn qn
    · refine thn (T.item (blk X scope N' ⟨cl, C, s3, H3, fp, X.pn ++ pins⟩) rfl rfl rfl hcalm i [] s4 σ4 H4 (fun _ _ => False) I4 (stat fr4) st4 go) fun r s5 ⟨u, hr, h5⟩ => ?_
      subst hr
      refine thn h5 fun _ s6 ⟨x, H6, I6, r6, y6, st6, fr6⟩ => ?_
      have I6' := I6.pinned (stat fr6) (T.obj _ _ st6)
      refine thn (hg _ s6 σ4 H6 x u _ I6' r6 (step x H6 y6)) fun _ s7 ⟨σ7, H7, I7, q7⟩ => ?_
      refine thn (ht _ s7 σ7 H7 _ I7 q7) fun ok s8 ⟨H8, I8, q8⟩ => ?_
      have again : ∀ {s9 : Shared} {σ9 : St} {H9 : Hp} {m' : Nat}, Inv (blk X scope N' ⟨cl, C, s3, H3, fp, X.pn ++ pins⟩) ([] ++ pinsAt fp s6.heap) σ9 H9 s9 → m' < n → W (i + 1) m' σ9 H9 →
          ∃ m, m < n ∧ ∃ i σ' H', Inv (blk X scope N' ⟨cl, C, s3, H3, fp, X.pn ++ pins⟩) [] σ' H' s9 ∧ tn i s9.heap ∧ (∀ b ∈ fp, H' b = none) ∧ W i m σ' H' := fun {s9 σ9 H9 m'} I9 hm w9 => by
        refine ⟨m', hm, i + 1, σ9, H9, I9.unpinned, T.keep _ _ _ st6 fun b hb o e => (I9.pin (b, o) (List.mem_append_right _ (List.mem_append_right _ (mem_pinsAt hb e)))).1, fun b hb => ?_, w9⟩
        obtain ⟨o, e, d⟩ := T.obj _ _ st6 b hb
        exact (I9.pin (b, o) (List.mem_append_right _ (List.mem_append_right _ (mem_pinsAt hb e)))).2.1
      cases ok with
      | false =>
        obtain ⟨m', hm, w8⟩ := q8
        exact again I8 hm w8
      | true =>
        refine thn (he _ s8 σ7 H8 _ I8 q8) fun y s9 ⟨yv, H9, I9, r9, ys, hys, hz, m', hm, w9⟩ => ?_
        refine thn (mt_append (X := blk X scope N' ⟨cl, C, s3, H3, fp, X.pn ++ pins⟩) _ s9 σ7 H9 (.ref ac) [yv] (.ref ac) [y] (fun _ H' => H' = upd H9 ac (.lst (ys ++ [yv]))) I9 rfl (.cons r9 .nil) ⟨ac, ys, yv, rfl, rfl, hys, hz, rfl⟩) fun _ s10 ⟨_, H10, I10, _, e10⟩ => ?_
        subst e10
        exact again I10 hm w9
  exact codeAny_compStart_list loop (T.self _ 0 _ _ _ (T.keep 0 _ _ st3 fun b _ o e => keep b o e) loop)

/-- [elt for tg in iter if ..] -/
theorem pe_lc (hcalm : X.calm = true) (hkind : scope.kind = .function) (hcell : ∀ y ∈ scope.names, y.2 ≠ .cell) (hfr : frChk scope.names X.env.scope.names X.N N' fr = true)
    (hfree : ∀ y ∈ scope.names, y.2 = .free → X.env.scope.names.lookup y.1 = some .cell) (hnames : ∀ x ∈ scope.names, x.2 = .local → scope.names.lookup x.1 = some .local) (hi : PI X tg iter wi)
    (hY : ∀ b : BP, PG (blk X scope N' b) tg (g b) ∧ PIf (blk X scope N' b) ifs (tt b) ∧ PE (blk X scope N' b) elt (te b))
    (hs : ∀ x, foldedSetIterable iter X.env x = pure x := by intro _; rfl) : PE X (.ListComp elt [⟨tg, iter, ifs, 0⟩] scope pos) (tLc fr wi g tt te) := by
  intro pins s σ H Q I h
  obtain ⟨cl, hclos, hcl1, hcl2⟩ := closure_of (env := X.env) (scope := scope) fun y hy hk => I.ok.has y.1 (.inl (hfree y hy hk))
  rw [eval_ListComp]
  refine wpAny_comprehension_free (use := none) rfl hs hclos hkind hnames (thn (hi pins s σ H _ I h) fun v s1 h1 => thn h1 fun itv s2 h2 => ?_)
  obtain ⟨it, fp, tn, J, H2, rfl, I2, T, st2, f2, q⟩ := h2
  refine lc_block (RR := fun acc C => compPost (model X.prog X.w) X.A X.xe none (EP X pins σ Q) acc C) hcalm hkind hcell hfr hcl1 hcl2 hY I2 T st2 f2 q fun acc C s' HY m I' f' hn q' => ?_
  exact ⟨m, hn, fun h' sb => ⟨.ref acc, HY, I'.turned (t' := s'.toks) (fun b o hb e => (sb.2 b hb).trans e) f'.1 f'.2.1 f'.2.2.2.1 f'.2.2.2.2.1 f'.2.2.2.2.2, rfl, q'⟩⟩
/-- name = [elt for ..] on one line: the name is stored ahead of the block's end -/
theorem ps_setlc {i : Nat} {x : Str} {px spos : Pos} (hN : X.N.Nodup) (hix : X.N[i]? = some x) (hx : Loc X.env.scope x) (hcalm : X.calm = true) (hkind : scope.kind = .function) (hcell : ∀ y ∈ scope.names, y.2 ≠ .cell) (hfr : frChk scope.names X.env.scope.names X.N N' fr = true)
    (hfree : ∀ y ∈ scope.names, y.2 = .free → X.env.scope.names.lookup y.1 = some .cell) (hnames : ∀ x ∈ scope.names, x.2 = .local → scope.names.lookup x.1 = some .local) (hi : PI X tg iter wi)
    (hY : ∀ b : BP, PG (blk X scope N' b) tg (g b) ∧ PIf (blk X scope N' b) ifs (tt b) ∧ PE (blk X scope N' b) elt (te b))
    (hsw : swapsWith (.ListComp elt [⟨tg, iter, ifs, 0⟩] scope pos) (some (.Name x px)) spos.line X.env = pure true)
    (hs : ∀ x, foldedSetIterable iter X.env x = pure x := by intro _; rfl) (hf : X.fn x = true ∨ X.env.scope.names.lookup x = some .local := by first | exact .inl rfl | exact .inr rfl | assumption) :
    PS X (.Assign [.Name x px] (.ListComp elt [⟨tg, iter, ifs, 0⟩] scope pos) spos) (tAsg (tLc fr wi g tt te) (gName i)) := by
  intro pins s σ H D I h
  obtain ⟨cl, hclos, hcl1, hcl2⟩ := closure_of (env := X.env) (scope := scope) fun y hy hk => I.ok.has y.1 (.inl (hfree y hy hk))
  rw [exec_Assign_Name_used _ _ _ _ hsw]
  refine wpAny_bind (wpAny_standAt (wpAny_bind ?_))
  show wpAny _ _ (do let _ ← comprehension (.ListComp elt [⟨tg, iter, ifs, 0⟩] scope pos) scope X.env _ (newList []) false (eval iter X.env) (some (assign (.Name x px) X.env))) _ _ s
  refine wpAny_bind (wpAny_mono (wpAny_comprehension_free (use := some (assign (.Name x px) X.env)) (Q := fun _ s' => SP X pins D .next s') rfl hs hclos hkind hnames
    (thn (hi pins s σ H _ I h) fun v s1 h1 => thn h1 fun itv s2 h2 => ?_)) (fun _ s' hq => wpAny_pure (wpAny_pure hq)) fun _ _ e => e)
  obtain ⟨it, fp, tn, J, H2, rfl, I2, T, st2, f2, q⟩ := h2
  refine lc_block (RR := fun acc C => compPost (model X.prog X.w) X.A X.xe (some (assign (.Name x px) X.env)) (fun _ s' => SP X pins D .next s') acc C) (Q := fun x H1 => gName i x σ H1 D.nx) hcalm hkind hcell hfr hcl1 hcl2 hY I2 T st2 f2 q fun acc C s' HY m I' f' hn q' => ?_
  show wpAny _ _ (assign (.Name x px) X.env (.ref acc)) _ _ _
  refine wpAny_assign_Name (store_ok2 I' hN hix hx (v := .ref acc) rfl (fun s2' I2' hch => ?_) hf)
  obtain ⟨a, sb, ha⟩ := hch
  have hCa : C ≠ a := by
    rcases ha with z | z
    · rw [z]; exact f'.2.1
    · exact fun e => f'.2.2.2.2.1 x a z e.symm
  exact ⟨m, hn.sameBut sb hCa, fun h' sb' => ⟨_, HY, I2'.turned (t' := s2'.toks) (fun b o hb e => (sb'.2 b hb).trans e) f'.1 f'.2.1 f'.2.2.2.1 f'.2.2.2.2.1 f'.2.2.2.2.2, q'⟩⟩
end
end L2

set_option Elab.async false
set_option linter.all false
set_option maxRecDepth 100000
namespace L2
open PySem PySem.Spec PyProof.Rows
section
variable {prog : Program} {w : World} {A : Around} {E : Value → Shared → Prop} {h : Heap} {g : Array GenState} {d : Drawn} {t : Nat} {os : OsState} {a C : Addr} {ox : Obj} {od : Option Obj} {K : PySem.W.Frag}
/-- what is known of an own class of exceptions -/
structure XCls (K : PySem.W.Frag) (C : Addr) : Prop where
  ga : PySem.W.findIn K (.ref C) "__getattribute__" = some (some (.builtin "BaseException.__getattribute__"))
  gt : PySem.W.findIn K (.ref C) "__getattr__" = some none
  cl : PySem.W.findIn K (.ref C) "__class__" = some (some (.builtin "object.__class__"))
  ob : PySem.W.mroIn K C (.type "object") = some true
  be : PySem.W.mroIn K C (.type "BaseException") = some true
def XOk (K : PySem.W.Frag) (C : Addr) : Prop := XCls K C ∧ ∀ T ∈ ["int", "str", "list", "tuple", "bool"], PySem.W.kitOne K (.ref C) (.type T) = some false
theorem check_gaK {M : Model} {nameV : Value} {Q : Unit → Shared → Prop} (X : K.In h) (c : XCls K C) (I : PySem.W.InstAt h a ox C od) (hq : Q () ⟨h, g, d, t, os⟩) : wpAny M A (checkBuiltinCall "BaseException.__getattribute__" ⟨[.ref a, nameV], []⟩) Q E ⟨h, g, d, t, os⟩ := by
  have hk : builtinKind "BaseException.__getattribute__" = some .slot := by decide +kernel
  have hsplit : splitId "BaseException.__getattribute__" = some ("BaseException", "__getattribute__") := by decide +kernel
  have ha := F.args_bexc_ga (.ref a) nameV
  have L0 := I.type (M := M)
  have L1 := PySem.W.looks_mroIn (M := M) X c.be
  simp only [checkBuiltinCall, hk, hsplit]
  refine wpAny_bind ?_
  unfold isInstance
  refine wpAny_bind (L0.at (L1.at ?_))
  repeat (first | exact hq | wp_step)
theorem class_entryK {tk : Tok} {Q : Fin → Shared → Prop} (X : K.In h) (c : XCls K C) (I : PySem.W.InstAt h a ox C od) (hq : Q (.done (.ret (.ref C))) ⟨h, g, d, t, os⟩) :
    wpAny (model prog w) A (Builtin.«object.__getattribute__» ⟨[.ref a, .str "__class__" tk], []⟩) Q E ⟨h, g, d, t, os⟩ := by
  have hT5 : (⟨h, g, d, t, os⟩ : Shared).TypeIs (.builtin "object.__class__") "getset_descriptor" := F.typeOf_object_class
  have f5 := F.typeOf_object_class
  have f6 := F.slot_gs_get.lookup
  have f7 := F.slot_gs_set.lookup
  have L0 := I.type (M := model prog w)
  have L1 := PySem.W.looks_findIn (M := model prog w) X c.cl
  repeat (any_goals (first | assumption | with_reducible refine L0.at ?_ | with_reducible refine L1.at ?_ | wp_step))
  refine PySem.W.class_get (s := ⟨h, g, d, t, os⟩) X I c.ob ?_
  repeat (any_goals (first | assumption | wp_step))
theorem class_callK {tk : Tok} {R : Result → Shared → Prop} (X : K.In h) (c : XCls K C) (I : PySem.W.InstAt h a ox C od) (hq : R (.ok (.ret (.ref C))) ⟨h, g, d, t, os⟩) :
    codeAny (model prog w) A (.call (.builtin "BaseException.__getattribute__") ⟨[.ref a, .str "__class__" tk], []⟩) R ⟨h, g, d, t, os⟩ :=
  codeAny_call_builtin F.excAttr_ValueError.ga.plain F.entry_bexc_ga (check_gaK X c I (class_entryK X c I hq))
theorem class_byK {tk : Tok} {Q : Value → Shared → Prop} (X : K.In h) (c : XCls K C) (I : PySem.W.InstAt h a ox C od) (hq : Q (.ref C) ⟨h, g, d, t, os⟩) : wpAny (model prog w) A (getAttrBy (.ref a) (.str "__class__" tk) false) Q E ⟨h, g, d, t, os⟩ := by
  have f3 := F.excAttr_ValueError.ga.bind (.ref a)
  have hx2 : (Value.builtin "BaseException.__getattribute__" == Value.builtin "object.__getattribute__") = false := by decide +kernel
  have hx1 : (onTheHeap (Value.ref C) && Value.builtin "BaseException.__getattribute__" == Value.builtin "object.__getattribute__") = false := by rw [hx2]; rfl
  have L0 := I.type (M := model prog w)
  have L1 := PySem.W.looks_findIn (M := model prog w) X c.ga
  have L2' := PySem.W.looks_findIn (M := model prog w) X c.gt
  repeat (any_goals (first | assumption | with_reducible refine L0.at ?_ | with_reducible refine L1.at ?_ | with_reducible refine L2'.at ?_ | wp_step))
  refine class_callK X c I ?_
  repeat (any_goals (first | assumption | wp_step))
theorem class_attrK {Q : Option Value → Shared → Prop} (X : K.In h) (c : XCls K C) (I : PySem.W.InstAt h a ox C od) (hq : Q (some (.ref C)) ⟨h, g, d, t + 1, os⟩) : wpAny (model prog w) A (getAttr? (.ref a) "__class__") Q E ⟨h, g, d, t, os⟩ := by
  unfold getAttr? getAttrBy?
  repeat (any_goals (first | assumption | with_reducible apply class_byK X c I | wp_step))
theorem kitx_exc (c : XCls K C) : PySem.W.KitX K (.ref a) (.ref C) (fun h => ∃ ox od, PySem.W.InstAt h a ox C od) where
  ty := fun _ _ _ ⟨_, _, I⟩ => I.type
  it := fun _ _ X _ => by
    obtain ⟨cd, hc, _⟩ := Option.bind_eq_some_iff.mp c.ob
    unfold PySem.W.clsIn at hc
    split at hc
    · rename_i c' d' cd' sl' ho
      intro A' Q' E' s' k q
      unfold isType loadHead
      exact wpAny_bind (wpAny_loadPart (k _ _ (X _ _ ho)) (wpAny_pure q))
    · cases hc
  ne := fun h tp dd its n sl X htp => by
    obtain ⟨cd, hc, _⟩ := Option.bind_eq_some_iff.mp c.ob
    refine Bool.eq_false_iff.mpr fun q => ?_
    have e : C = tp := Value.ref.inj (beq_iff_eq.mp q)
    subst e
    unfold PySem.W.clsIn at hc
    split at hc
    · rename_i c' d' cd' sl' ho
      have z := (X _ _ ho).symm.trans htp
      cases z
    · cases hc
  ca := fun {_ _ _ _ _ s} X ⟨_, _, I⟩ k => by
    obtain ⟨hh, g, d, t, os⟩ := s
    exact class_attrK X c I k
end
end L2

set_option Elab.async false
set_option linter.all false
set_option maxRecDepth 100000
namespace L2
open PySem PySem.Spec PyProof.Rows
structure RoomH (k : Nat) (A : Around) : Prop where
  dp : A.depth + 3 * k + 5 < recursionLimit
  un : A.units + 16 * k + 200 < cLine
  gd : A.guards = some []
theorem Room.h {k : Nat} {A : Around} (r : Room k A) : RoomH k A := ⟨r.dp, r.un, r.gd⟩
theorem RoomH.mono {j k : Nat} {A : Around} (r : RoomH k A) (h : j ≤ k) : RoomH j A := ⟨by have := r.dp; omega, by have := r.un; omega, r.gd⟩
theorem RoomH.deeper {k : Nat} {A : Around} (r : RoomH (k + 1) A) (env : Env) : RoomH k (A.deeper env) := ⟨by have := r.dp; show A.depth + 1 + 3 * k + 5 < _; omega, by have := r.un; show A.units + 3 + 16 * k + 200 < _; omega, r.gd⟩
theorem RoomH.depth {k : Nat} {A : Around} (r : RoomH k A) : A.depth < recursionLimit := by have := r.dp; omega
section
variable {X : Cx} {CX : CXT} {k : Nat} {f C : Addr} {fd : FuncData} {ps : List Str} {sp : Sp} {dvs : List V} {ds : List Value} {E : XK} {x m : Str} {p pos apos : Pos} {e o : Expr} {es : List Expr} {ta : TE} {t : TA}
end
section
variable {P : Program} {w : World} {K : PySem.W.Frag} {mg : Str → Option Value} {base : Heap}
end
end L2

set_option Elab.async false
set_option linter.all false
set_option maxRecDepth 100000
namespace TL
open PySem PySem.Spec PyProof.Rows L2
abbrev D := PySem.PyData
/-- a list of small numbers, whatever they are: it may be changed by whoever has it. Its data is no more than a sign: .dict [] -/
def numsAt (p : Addr) (h : Heap) : Prop := ∃ (its : List Value) (n : Nat), h.get? p = some { cls := .type "list", data := .seq its.toArray n } ∧ its.length ≤ 1000 ∧ ∀ v ∈ its, ∃ (i : Int) (t : Tok), v = .int i t ∧ 0 ≤ i ∧ i < 4096
/-- an exception of an own class, with the dict of its own that it has -/
def excAt (p C : Addr) (dx : Option Addr) (h : Heap) : Prop := ∃ o vs, h.get? p = some o ∧ o.cls = .ref C ∧ o.dict = dx ∧ o.data = .fields vs
/-- a tape: a list of a list of numbers at q, a number from 0 on, a number, 0 or 1. Its data is the sign .dict [(.none, the numbers)] -/
def tapeAt (p q : Addr) (h : Heap) : Prop := ∃ (a b c : Int) (ta tb tc : Tok) (n : Nat), h.get? p = some { cls := .type "list", data := .seq [Value.ref q, .int a ta, .int b tb, .int c tc].toArray n } ∧ 0 ≤ a ∧ (c = 0 ∨ c = 1)
mutual
inductive Rep (K : PySem.W.Frag) (H : Hp) : D → V → Prop
  | none : Rep K H .none .non
  | bool (b : Bool) : Rep K H (.bool b) (.bl b)
  | int (i : Int) : Rep K H (.int i) (.int i)
  | str (x : Str) : Rep K H (.str x) (.str x)
  | list {p : Addr} {xs : List V} {ts : List D} : SqL K H p xs → Reps K H ts xs → Rep K H (.list ts) (.ref p)
  | tuple {p : Addr} {xs : List V} {ts : List D} : SqT K H p xs → Reps K H ts xs → Rep K H (.tuple ts) (.ref p)
  | wild {p : Addr} : H p = some (.ext (numsAt p)) → Rep K H (.dict []) (.ref p)
  | exc {p C : Addr} : XOk K C → H p = some (.ext (excAt p C Option.none)) → Rep K H (.dict [(.int (C : Nat), .none)]) (.ref p)
  | excA {p C dx : Addr} {n : Int} : XOk K C → H p = some (.ext (excAt p C (some dx))) → H dx = some (.xd [("at", .int n)]) → Rep K H (.dict [(.int (C : Nat), .int n)]) (.ref p)
  | tape {p q : Addr} {ns : List Int} : H p = some (.ext (tapeAt p q)) → SqL K H q (ns.map V.int) → Rep K H (.dict [(.none, .list (ns.map PyData.int))]) (.ref p)
  | addr {p : Addr} (z : List D) : Rep K H (.dict [(.str "@", .list (.int (p : Nat) :: z))]) (.ref p)
inductive Reps (K : PySem.W.Frag) (H : Hp) : List D → List V → Prop
  | nil : Reps K H [] []
  | cons {t : D} {ts : List D} {x : V} {xs : List V} : Rep K H t x → Reps K H ts xs → Reps K H (t :: ts) (x :: xs)
end
variable {K : PySem.W.Frag} {H H' H1 H2 : Hp}
theorem Same.seqT {a : Addr} {xs : List V} (e : Same H H') (h : SqT K H a xs) : SqT K H' a xs := by
  rcases h with (h | ⟨o, h⟩) | h
  · exact .inl (.inl (e _ _ h))
  · exact .inl (.inr ⟨o, e _ _ h⟩)
  · exact .inr h
mutual
theorem Rep.same (e : Same H H') : ∀ {d : D} {v : V}, Rep K H d v → Rep K H' d v
  | _, _, .none => .none
  | _, _, .bool b => .bool b
  | _, _, .int i => .int i
  | _, _, .str x => .str x
  | _, _, .list q r => .list (L2.Same.seq e q) (Reps.same e r)
  | _, _, .tuple q r => .tuple (Same.seqT e q) (Reps.same e r)
  | _, _, .wild h => .wild (e _ _ h)
  | _, _, .exc x h => .exc x (e _ _ h)
  | _, _, .excA x h g => .excA x (e _ _ h) (e _ _ g)
  | _, _, .tape h g => .tape (e _ _ h) (L2.Same.seq e g)
  | _, _, .addr z => .addr z
theorem Reps.same (e : Same H H') : ∀ {ds : List D} {vs : List V}, Reps K H ds vs → Reps K H' ds vs
  | _, _, .nil => .nil
  | _, _, .cons r s => .cons (Rep.same e r) (Reps.same e s)
end
theorem Reps.length : ∀ {ds : List D} {vs : List V}, Reps K H ds vs → ds.length = vs.length
  | _, _, .nil => rfl
  | _, _, .cons _ s => by simp [Reps.length s]
theorem Reps.get : ∀ {ds : List D} {vs : List V} {i : Nat} {d : D}, Reps K H ds vs → ds[i]? = some d → ∃ v, vs[i]? = some v ∧ Rep K H d v
  | _, _, _, _, .nil, e => by simp at e
  | _, _, 0, _, .cons r _, e => by simp at e; subst e; exact ⟨_, rfl, r⟩
  | _, _, i + 1, d, .cons _ s, e => by
    obtain ⟨v, h1, h2⟩ := Reps.get (i := i) (d := d) s (by simpa using e)
    exact ⟨v, by simpa using h1, h2⟩
theorem Reps.get' : ∀ {ds : List D} {vs : List V} {i : Nat} {v : V}, Reps K H ds vs → vs[i]? = some v → ∃ d, ds[i]? = some d ∧ Rep K H d v
  | _, _, _, _, .nil, e => by simp at e
  | _, _, 0, _, .cons r _, e => by simp at e; subst e; exact ⟨_, rfl, r⟩
  | _, _, i + 1, d, .cons _ s, e => by
    obtain ⟨v, h1, h2⟩ := Reps.get' (i := i) (v := d) s (by simpa using e)
    exact ⟨v, by simpa using h1, h2⟩
theorem Reps.append : ∀ {ds es : List D} {vs us : List V}, Reps K H ds vs → Reps K H es us → Reps K H (ds ++ es) (vs ++ us)
  | _, _, _, _, .nil, s => s
  | _, _, _, _, .cons r t, s => .cons r (Reps.append t s)
theorem Reps.take : ∀ {ds : List D} {vs : List V} (n : Nat), Reps K H ds vs → Reps K H (ds.take n) (vs.take n)
  | _, _, 0, _ => .nil
  | _, _, _ + 1, .nil => .nil
  | _, _, n + 1, .cons r t => .cons r (Reps.take n t)
theorem Reps.drop : ∀ {ds : List D} {vs : List V} (n : Nat), Reps K H ds vs → Reps K H (ds.drop n) (vs.drop n)
  | _, _, 0, r => r
  | _, _, _ + 1, .nil => .nil
  | _, _, n + 1, .cons _ t => Reps.drop n t
theorem Reps.reverse {ds : List D} {vs : List V} (r : Reps K H ds vs) : Reps K H ds.reverse vs.reverse := by
  induction ds generalizing vs with
  | nil => cases r; exact .nil
  | cons d ds ih =>
    cases r with
    | cons r s =>
      rw [List.reverse_cons, List.reverse_cons]
      exact (ih s).append (.cons r .nil)

def mask (H : Hp) (ps : List Addr) : Hp := fun b => if b ∈ ps then none else H b
theorem mask_same {ps : List Addr} (e : Same H H') : Same (mask H ps) (mask H' ps) := fun b o h => by
  unfold mask at h ⊢
  by_cases hb : b ∈ ps
  · rw [if_pos hb] at h; cases h
  · rw [if_neg hb] at h ⊢; exact e b o h
theorem mask_sub {ps ps' : List Addr} (h : ∀ p ∈ ps', p ∈ ps) : Same (mask H ps) (mask H ps') := fun b o e => by
  unfold mask at e ⊢
  by_cases hb : b ∈ ps
  · rw [if_pos hb] at e; cases e
  · rw [if_neg hb] at e
    rw [if_neg fun z => hb (h b z)]
    exact e
theorem mask_le {ps : List Addr} : Same (mask H ps) H := fun b o e => by
  unfold mask at e
  by_cases hb : b ∈ ps
  · rw [if_pos hb] at e; cases e
  · rw [if_neg hb] at e; exact e
theorem mask_new {ps : List Addr} {p : Addr} {o : HO} (h : H p = none) : mask (upd H p o) (p :: ps) = mask H ps := by
  funext b
  unfold mask
  by_cases hb : b = p
  · subst hb
    rw [if_pos (List.mem_cons_self ..), h]
    by_cases z : b ∈ ps <;> simp [z]
  · rw [upd_ne hb]
    by_cases z : b ∈ ps
    · rw [if_pos (List.mem_cons_of_mem _ z), if_pos z]
    · rw [if_neg (fun q => (List.mem_cons.mp q).elim hb z), if_neg z]
theorem mask_upd {ps : List Addr} {p : Addr} {o : HO} (h : p ∈ ps) : mask (upd H p o) ps = mask H ps := by
  funext b
  unfold mask
  by_cases hb : b = p
  · subst hb; rw [if_pos h, if_pos h]
  · rw [upd_ne hb]
theorem same_new {p : Addr} {o : HO} (h : H p = none) : Same H (upd H p o) := fun b u q => by rw [upd_ne (ne_of_none q h)]; exact q
theorem mask_at {ps : List Addr} {p : Addr} {o : HO} (h : p ∉ ps) (e : H p = some o) : mask H ps p = some o := by
  unfold mask; rw [if_neg h]; exact e
theorem fresh_notin {ps : List Addr} {p : Addr} (live : ∀ q ∈ ps, H q ≠ none) (h : H p = none) : p ∉ ps := fun z => live p z h

/-- a slot: nothing known, a value, a list that the def alone holds -/
inductive Sl where
  | un | val (d : D) | own (ts : List D)
structure Ok (K : PySem.W.Frag) (B : Hp) (p0 : List Addr) (H : Hp) (ps : List Addr) (σT : List Sl) (σ : L2.St) : Prop where
  base : Same B H
  sub : ∀ p ∈ p0, p ∈ ps
  live : ∀ p ∈ ps, H p ≠ none
  len : σT.length = σ.length
  val : ∀ (i : Nat) (d : D), σT[i]? = some (.val d) → ∃ v, σ[i]? = some (some v) ∧ Rep K (mask H ps) d v
  own : ∀ (i : Nat) (ts : List D), σT[i]? = some (.own ts) → ∃ p xs, σ[i]? = some (some (.ref p)) ∧ p ∈ ps ∧ B p = none ∧ p ∉ p0 ∧ H p = some (.lst xs) ∧ Reps K (mask H ps) ts xs
  dis : ∀ (i j : Nat) (ts us : List D) (p : Addr), σT[i]? = some (.own ts) → σT[j]? = some (.own us) → σ[i]? = some (some (.ref p)) → σ[j]? = some (some (.ref p)) → i = j
variable {B : Hp} {p0 ps : List Addr} {σT : List Sl} {σ : L2.St}
theorem Ok.grow (o : Ok K B p0 H ps σT σ) (e : Same H H') : Ok K B p0 H' ps σT σ where
  base := o.base.trans e
  sub := o.sub
  live := fun p hp z => by
    cases q : H p with
    | none => exact o.live p hp q
    | some u => rw [e p u q] at z; cases z
  len := o.len
  val := fun i d h => let ⟨v, h1, h2⟩ := o.val i d h; ⟨v, h1, h2.same (mask_same e)⟩
  own := fun i ts h => let ⟨p, xs, h1, h2, h3, h4, h5, h6⟩ := o.own i ts h; ⟨p, xs, h1, h2, h3, h4, e _ _ h5, h6.same (mask_same e)⟩
  dis := o.dis
theorem Ok.set (o : Ok K B p0 H ps σT σ) {i : Nat} {d : D} {v : V} (r : Rep K (mask H ps) d v) : Ok K B p0 H ps (σT.set i (.val d)) (σ.set i (some v)) where
  base := o.base
  sub := o.sub
  live := o.live
  len := by simpa using o.len
  val := fun j d' h => by
    by_cases e : i = j
    · subst e
      have hi : i < σT.length := by
        have := (List.getElem?_eq_some_iff.mp h).1
        simpa using this
      rw [List.getElem?_set_self hi] at h
      cases h
      exact ⟨v, by rw [List.getElem?_set_self (by rw [← o.len]; exact hi)], r⟩
    · rw [List.getElem?_set_ne e] at h ⊢
      exact o.val j d' h
  own := fun j ts h => by
    by_cases e : i = j
    · subst e
      have hi : i < σT.length := by
        have := (List.getElem?_eq_some_iff.mp h).1
        simpa using this
      rw [List.getElem?_set_self hi] at h
      cases h
    · rw [List.getElem?_set_ne e] at h ⊢
      exact o.own j ts h
  dis := fun j k ts us p h1 h2 h3 h4 => by
    have ne : ∀ {l : Nat} {ts : List D}, (σT.set i (.val d))[l]? = some (.own ts) → i ≠ l := fun {l ts} h e => by
      subst e
      have hi : i < σT.length := by
        have := (List.getElem?_eq_some_iff.mp h).1
        simpa using this
      rw [List.getElem?_set_self hi] at h
      cases h
    have e1 := ne h1
    have e2 := ne h2
    rw [List.getElem?_set_ne e1] at h1 h3
    rw [List.getElem?_set_ne e2] at h2 h4
    exact o.dis j k ts us p h1 h2 h3 h4
/-- a fresh list becomes the def's own -/
theorem Ok.setOwn (o : Ok K B p0 H ps σT σ) {i : Nat} {ts : List D} {xs : List V} {p : Addr} (hp : H p = none) (r : Reps K (mask H ps) ts xs) : Ok K B p0 (upd H p (.lst xs)) (p :: ps) (σT.set i (.own ts)) (σ.set i (some (.ref p))) := by
  have hm : mask (upd H p (.lst xs)) (p :: ps) = mask H ps := mask_new hp
  have hps : p ∉ ps := fresh_notin o.live hp
  have hn : ∀ {l : Nat} {us : List D}, i ≠ l → σT[l]? = some (.own us) → σ[l]? ≠ some (some (.ref p)) := fun {l us} _ h z => by
    obtain ⟨q, _, h1, h2, _⟩ := o.own l us h
    rw [z] at h1
    cases h1
    exact hps h2
  refine ⟨o.base.trans (same_new hp), fun q hq => List.mem_cons_of_mem _ (o.sub q hq), fun q hq => ?_, by simpa using o.len, fun j d h => ?_, fun j us h => ?_, fun j k us ws q h1 h2 h3 h4 => ?_⟩
  · by_cases e : q = p
    · subst e; rw [upd_same]; simp
    · rw [upd_ne e]
      rcases List.mem_cons.mp hq with z | z
      · exact absurd z e
      · exact o.live q z
  · rw [hm]
    by_cases e : i = j
    · subst e
      have hi : i < σT.length := by simpa using (List.getElem?_eq_some_iff.mp h).1
      rw [List.getElem?_set_self hi] at h
      cases h
    · rw [List.getElem?_set_ne e] at h ⊢
      exact o.val j d h
  · rw [hm]
    by_cases e : i = j
    · subst e
      have hi : i < σT.length := by simpa using (List.getElem?_eq_some_iff.mp h).1
      rw [List.getElem?_set_self hi] at h
      cases h
      refine ⟨p, xs, by rw [List.getElem?_set_self (by rw [← o.len]; exact hi)], List.mem_cons_self .., ?_, fun z => hps (o.sub p z), upd_same, r⟩
      cases q : B p with
      | none => rfl
      | some u => rw [o.base p u q] at hp; cases hp
    · rw [List.getElem?_set_ne e] at h ⊢
      obtain ⟨q, ys, h1, h2, h3, h4, h5, h6⟩ := o.own j us h
      refine ⟨q, ys, h1, List.mem_cons_of_mem _ h2, h3, h4, ?_, h6⟩
      rw [upd_ne (fun z : q = p => hps (z ▸ h2))]
      exact h5
  · by_cases e1 : i = j
    · by_cases e2 : i = k
      · exact e1.symm.trans e2
      · subst e1
        have hi : i < σT.length := by simpa using (List.getElem?_eq_some_iff.mp h1).1
        rw [List.getElem?_set_self (by rw [← o.len]; exact hi)] at h3
        cases h3
        rw [List.getElem?_set_ne e2] at h2 h4
        exact absurd h4 (hn e2 h2)
    · by_cases e2 : i = k
      · subst e2
        have hi : i < σT.length := by simpa using (List.getElem?_eq_some_iff.mp h2).1
        rw [List.getElem?_set_self (by rw [← o.len]; exact hi)] at h4
        cases h4
        rw [List.getElem?_set_ne e1] at h1 h3
        exact absurd h3 (hn e1 h1)
      · rw [List.getElem?_set_ne e1] at h1 h3
        rw [List.getElem?_set_ne e2] at h2 h4
        exact o.dis j k us ws q h1 h2 h3 h4
/-- an own list is written -/
theorem Ok.write (o : Ok K B p0 H ps σT σ) {i : Nat} {ts us : List D} {ys : List V} {p : Addr} (hi : σT[i]? = some (.own ts)) (hσ : σ[i]? = some (some (.ref p))) (r : Reps K (mask H ps) us ys) :
    Ok K B p0 (upd H p (.lst ys)) ps (σT.set i (.own us)) σ := by
  obtain ⟨q, zs, h1, h2, h3, h4, h5, h6⟩ := o.own i ts hi
  rw [hσ] at h1
  cases h1
  have hm : mask (upd H p (.lst ys)) ps = mask H ps := mask_upd h2
  have hil : i < σT.length := (List.getElem?_eq_some_iff.mp hi).1
  refine ⟨fun b u e => ?_, o.sub, fun q hq => ?_, by simpa using o.len, fun j d h => ?_, fun j ws h => ?_, fun j k vs ws q k1 k2 k3 k4 => ?_⟩
  · have ne : b ≠ p := fun z => by rw [z, h3] at e; cases e
    rw [upd_ne ne]; exact o.base b u e
  · by_cases e : q = p
    · subst e; rw [upd_same]; simp
    · rw [upd_ne e]; exact o.live q hq
  · rw [hm]
    by_cases e : i = j
    · subst e
      rw [List.getElem?_set_self hil] at h
      cases h
    · rw [List.getElem?_set_ne e] at h
      exact o.val j d h
  · rw [hm]
    by_cases e : i = j
    · subst e
      rw [List.getElem?_set_self hil] at h
      cases h
      exact ⟨p, ys, hσ, h2, h3, h4, upd_same, r⟩
    · rw [List.getElem?_set_ne e] at h
      obtain ⟨q, vs, k1, k2, k3, k4, k5, k6⟩ := o.own j ws h
      refine ⟨q, vs, k1, k2, k3, k4, ?_, k6⟩
      rw [upd_ne (fun z : q = p => e (o.dis i j ts ws p hi h hσ (z ▸ k1)))]
      exact k5
  · have back : ∀ {l : Nat} {vs : List D}, (σT.set i (.own us))[l]? = some (.own vs) → ∃ vs', σT[l]? = some (.own vs') := fun {l vs} h => by
      by_cases e : i = l
      · subst e; exact ⟨ts, hi⟩
      · rw [List.getElem?_set_ne e] at h; exact ⟨vs, h⟩
    obtain ⟨vs', k1⟩ := back k1
    obtain ⟨ws', k2⟩ := back k2
    exact o.dis j k vs' ws' q k1 k2 k3 k4
/-- an own list is handed to all: it is data from here on -/
theorem Ok.share (o : Ok K B p0 H ps σT σ) {i : Nat} {ts : List D} (hi : σT[i]? = some (.own ts)) : ∃ ps', Ok K B p0 H ps' (σT.set i (.val (.list ts))) σ ∧ Same (mask H ps) (mask H ps') := by
  obtain ⟨p, xs, h1, h2, h3, h4, h5, h6⟩ := o.own i ts hi
  have hil : i < σT.length := (List.getElem?_eq_some_iff.mp hi).1
  have hsub : Same (mask H ps) (mask H (ps.filter fun q => decide (q ≠ p))) := mask_sub fun q hq => (List.mem_filter.mp hq).1
  have hpn : p ∉ ps.filter fun q => decide (q ≠ p) := fun z => (of_decide_eq_true (List.mem_filter.mp z).2) rfl
  refine ⟨ps.filter fun q => decide (q ≠ p), ⟨o.base, fun q hq => List.mem_filter.mpr ⟨o.sub q hq, decide_eq_true fun z => h4 (z ▸ hq)⟩, fun q hq => o.live q (List.mem_filter.mp hq).1, by simpa using o.len, fun j d h => ?_, fun j us h => ?_, fun j k us ws q k1 k2 k3 k4 => ?_⟩, hsub⟩
  · by_cases e : i = j
    · subst e
      rw [List.getElem?_set_self hil] at h
      cases h
      exact ⟨_, h1, .list (SqL.of (mask_at hpn h5)) (h6.same hsub)⟩
    · rw [List.getElem?_set_ne e] at h
      obtain ⟨v, k1, k2⟩ := o.val j d h
      exact ⟨v, k1, k2.same hsub⟩
  · by_cases e : i = j
    · subst e
      rw [List.getElem?_set_self hil] at h
      cases h
    · rw [List.getElem?_set_ne e] at h
      obtain ⟨q, ys, k1, k2, k3, k4, k5, k6⟩ := o.own j us h
      exact ⟨q, ys, k1, List.mem_filter.mpr ⟨k2, decide_eq_true fun z => e (o.dis i j ts us p hi h h1 (z ▸ k1))⟩, k3, k4, k5, k6.same hsub⟩
  · have back : ∀ {l : Nat} {vs : List D}, (σT.set i (.val (.list ts)))[l]? = some (.own vs) → σT[l]? = some (.own vs) := fun {l vs} h => by
      by_cases e : i = l
      · subst e; rw [List.getElem?_set_self hil] at h; cases h
      · rw [List.getElem?_set_ne e] at h; exact h
    exact o.dis j k us ws q (back k1) (back k2) k3 k4

abbrev ET := List Sl → (D → Prop) → Prop
abbrev TTt := List Sl → (Bool → Prop) → Prop
abbrev AT := List Sl → (List D → Prop) → Prop
def PEt (X : Cx) (e : Expr) (t : ET) : Prop := ∃ te : TE, PE X e te ∧ ∀ (B : Hp) (p0 : List Addr) (H : Hp) (ps : List Addr) (σT : List Sl) (σ : L2.St) (Q : D → Prop) (QV : VK), Ok X.K B p0 H ps σT σ → t σT Q →
  (∀ d v H', Same H H' → Rep X.K (mask H' ps) d v → Q d → QV v H') → te σ H QV
def PTt (X : Cx) (e : Expr) (t : TTt) : Prop := ∃ tt : TT, PT X e tt ∧ ∀ (B : Hp) (p0 : List Addr) (H : Hp) (ps : List Addr) (σT : List Sl) (σ : L2.St) (Q : Bool → Prop) (QV : Bool → Hp → Prop), Ok X.K B p0 H ps σT σ → t σT Q →
  (∀ b H', Same H H' → Q b → QV b H') → tt σ H QV
def PWt (X : Cx) (e : Expr) (t : TTt) : Prop := ∃ tt : TT, PW X e tt ∧ ∀ (B : Hp) (p0 : List Addr) (H : Hp) (ps : List Addr) (σT : List Sl) (σ : L2.St) (Q : Bool → Prop) (QV : Bool → Hp → Prop), Ok X.K B p0 H ps σT σ → t σT Q →
  (∀ b H', Same H H' → Q b → QV b H') → tt σ H QV
def PAt (X : Cx) (es : List Expr) (t : AT) : Prop := ∃ ta : TA, PA X es ta ∧ ∀ (B : Hp) (p0 : List Addr) (H : Hp) (ps : List Addr) (σT : List Sl) (σ : L2.St) (Q : List D → Prop) (QV : List V → Hp → Prop), Ok X.K B p0 H ps σT σ → t σT Q →
  (∀ ds vs H', Same H H' → Reps X.K (mask H' ps) ds vs → Q ds → QV vs H') → ta σ H QV
structure EndsT where
  nx : List Sl → Prop
  rt : D → Prop
  bk : List Sl → Prop := fun _ => False
  ct : List Sl → Prop := fun _ => False
  ro : List D → Prop := fun _ => False
  rp : List D → List D → Prop := fun _ _ => False
  xB : Hp → Prop := fun _ => True
abbrev STt := EndsT → List Sl → Prop
structure Fits (K : PySem.W.Frag) (B : Hp) (p0 : List Addr) (H : Hp) (ps : List Addr) (DT : EndsT) (DV : Ends) : Prop where
  nx : ∀ H' ps' σT' σ', Ok K B p0 H' ps' σT' σ' → Same (mask H ps) (mask H' ps') → DT.nx σT' → DV.nx σ' H'
  bk : ∀ H' ps' σT' σ', Ok K B p0 H' ps' σT' σ' → Same (mask H ps) (mask H' ps') → DT.bk σT' → DV.bk σ' H'
  ct : ∀ H' ps' σT' σ', Ok K B p0 H' ps' σT' σ' → Same (mask H ps) (mask H' ps') → DT.ct σT' → DV.ct σ' H'
  rt : ∀ d v H', Same B H' → Rep K (mask H' p0) d v → DT.rt d → DV.rt v H'
  ro : ∀ ts p xs H', Same B H' → B p = none → p ∉ p0 → H' p = some (.lst xs) → Reps K (mask H' (p :: p0)) ts xs → DT.ro ts → DV.rt (.ref p) H'
  rp : ∀ as bs r p q xs ys H', Same B H' → B r = none → B p = none → B q = none → p ≠ q → H' r = some (.tup [.ref p, .ref q]) → H' p = some (.lst xs) → H' q = some (.lst ys) → Reps K (mask H' (p :: q :: p0)) as xs → Reps K (mask H' (p :: q :: p0)) bs ys → DT.rp as bs → DV.rt (.ref r) H'
  xb : DT.xB B
theorem Fits.later {DT : EndsT} {DV : Ends} {ps' : List Addr} (f : Fits K B p0 H ps DT DV) (e : Same (mask H ps) (mask H' ps')) : Fits K B p0 H' ps' DT DV :=
  ⟨fun _ _ _ _ o s q => f.nx _ _ _ _ o (e.trans s) q, fun _ _ _ _ o s q => f.bk _ _ _ _ o (e.trans s) q, fun _ _ _ _ o s q => f.ct _ _ _ _ o (e.trans s) q, f.rt, f.ro, f.rp, f.xb⟩
def PSt (X : Cx) (st : Stmt) (t : STt) : Prop := ∃ ts : TS, PS X st ts ∧ ∀ (B : Hp) (p0 : List Addr) (H : Hp) (ps : List Addr) (σT : List Sl) (σ : L2.St) (DT : EndsT) (DV : Ends), Ok X.K B p0 H ps σT σ → t DT σT → Fits X.K B p0 H ps DT DV → ts DV σ H
def PSst (X : Cx) (st : List Stmt) (t : STt) : Prop := ∃ ts : TS, PSs X st ts ∧ ∀ (B : Hp) (p0 : List Addr) (H : Hp) (ps : List Addr) (σT : List Sl) (σ : L2.St) (DT : EndsT) (DV : Ends), Ok X.K B p0 H ps σT σ → t DT σT → Fits X.K B p0 H ps DT DV → ts DV σ H
/-- an operation of two values -/
def Op2 (X : Cx) (r : R2) (f : D → D → (D → Prop) → Prop) : Prop := ∀ (H : Hp) (ps : List Addr) (d1 d2 : D) (x y : V) (Q : D → Prop) (QV : VK), (∀ p ∈ ps, H p ≠ none) → Rep X.K (mask H ps) d1 x → Rep X.K (mask H ps) d2 y → f d1 d2 Q →
  (∀ d v H', Same H H' → Rep X.K (mask H' ps) d v → Q d → QV v H') → r x y H QV
def CallT (X : Cx) (r : List V → Hp → VK → Prop) (f : List D → (D → Prop) → Prop) : Prop := ∀ (H : Hp) (ps : List Addr) (ds : List D) (xs : List V) (Q : D → Prop) (QV : VK), (∀ p ∈ ps, H p ≠ none) → Reps X.K (mask H ps) ds xs → f ds Q →
  (∀ d v H', Same H H' → Rep X.K (mask H' ps) d v → Q d → QV v H') → r xs H QV
section
variable {X : Cx} {a b e : Expr} {es : List Expr} {ta tb te : ET} {pos : Pos}

/-- what a reading asks of a name: a sort of its own, as its proofs are smaller than those of an 'exists' -/
inductive VarAt (σ : List Sl) (i : Nat) (Q : D → Prop) : Prop
  | mk (d : D) (h : σ[i]? = some (.val d)) (k : Q d) : VarAt σ i Q
theorem VarAt_iff {σ : List Sl} {i : Nat} {Q : D → Prop} : VarAt σ i Q ↔ ∃ d, σ[i]? = some (.val d) ∧ Q d := ⟨fun ⟨d, h, k⟩ => ⟨d, h, k⟩, fun ⟨d, h, k⟩ => ⟨d, h, k⟩⟩
def eVar (i : Nat) : ET := fun σ Q => VarAt σ i Q
def eC (d : D) : ET := fun _ Q => Q d
theorem et_v (i : Nat) {x : Str} {pos : Pos} (hN : X.N[i]? = some x := by rfl) (hv : Vis X.env.scope x := by first | exact Or.inl rfl | exact Or.inr (Or.inl rfl) | exact Or.inr (Or.inr rfl)) (hd : (x == ("__debug__" : Str)) = false := by decide)
    (hcd : (x == ("__classdict__" : Str)) = false := by decide) : PEt X (.Name x pos) (eVar i) :=
  ⟨_, pe_var hN hv hd hcd, fun B p0 H ps σT σ Q QV o h k => by
    obtain ⟨d, e, q⟩ := h
    obtain ⟨v, e1, r⟩ := o.val i d e
    exact ⟨v, e1, k d v H (L2.Same.refl H) r q⟩⟩
theorem et_int {i j pos} : PEt X (.Constant (.int i) j pos) (eC (.int i)) := ⟨_, pe_int, fun _ _ H _ _ _ _ _ _ h k => k _ _ H (L2.Same.refl H) (.int i) h⟩
theorem et_bl {b j pos} : PEt X (.Constant (.bool b) j pos) (eC (.bool b)) := ⟨_, pe_bl, fun _ _ H _ _ _ _ _ _ h k => k _ _ H (L2.Same.refl H) (.bool b) h⟩
theorem et_non {j pos} : PEt X (.Constant .none j pos) (eC .none) := ⟨_, pe_non, fun _ _ H _ _ _ _ _ _ h k => k _ _ H (L2.Same.refl H) .none h⟩
theorem et_str {x j pos} : PEt X (.Constant (.str x) j pos) (eC (.str x)) := ⟨_, pe_str, fun _ _ H _ _ _ _ _ _ h k => k _ _ H (L2.Same.refl H) (.str x) h⟩
/-- a module's constant -/
theorem et_gint {x : Str} {i : Int} {t : Tok} {pos : Pos} (hg : Gl X x) (hm : X.mg x = some (.int i t)) (hd : (x == ("__debug__" : Str)) = false := by decide) : PEt X (.Name x pos) (eC (.int i)) := ⟨_, pe_glob (v := .int i) hg hm ⟨t, rfl⟩ hd, fun _ _ H _ _ _ _ _ _ h k => k _ _ H (L2.Same.refl H) (.int i) h⟩
def eOp (f : D → D → (D → Prop) → Prop) (ta tb : ET) : ET := fun σ Q => ta σ fun x => tb σ fun y => f x y Q
theorem op_read {r : R2} {f : D → D → (D → Prop) → Prop} (h2 : Op2 X r f) {va vb : TE}
    (ha : ∀ (B : Hp) (p0 : List Addr) (H : Hp) (ps : List Addr) (σT : List Sl) (σ : L2.St) (Q : D → Prop) (QV : VK), Ok X.K B p0 H ps σT σ → ta σT Q → (∀ d v H', Same H H' → Rep X.K (mask H' ps) d v → Q d → QV v H') → va σ H QV)
    (hb : ∀ (B : Hp) (p0 : List Addr) (H : Hp) (ps : List Addr) (σT : List Sl) (σ : L2.St) (Q : D → Prop) (QV : VK), Ok X.K B p0 H ps σT σ → tb σT Q → (∀ d v H', Same H H' → Rep X.K (mask H' ps) d v → Q d → QV v H') → vb σ H QV)
    (B : Hp) (p0 : List Addr) (H : Hp) (ps : List Addr) (σT : List Sl) (σ : L2.St) (Q : D → Prop) (QV : VK) (o : Ok X.K B p0 H ps σT σ) (h : eOp f ta tb σT Q) (k : ∀ d v H', Same H H' → Rep X.K (mask H' ps) d v → Q d → QV v H') : tOp r va vb σ H QV := by
  refine ha B p0 H ps σT σ _ _ o h fun d1 x H1 s1 r1 q1 => ?_
  refine hb B p0 H1 ps σT σ _ _ (o.grow s1) q1 fun d2 y H2 s2 r2 q2 => ?_
  exact h2 H2 ps d1 d2 x y Q QV ((o.grow s1).grow s2).live (r1.same (mask_same s2)) r2 q2 fun d v H' s' r' q' => k d v H' (s1.trans (s2.trans s')) r' q'
theorem et_op {op : Operator} {r : R2} {f : D → D → (D → Prop) → Prop} (ho : OpR X (binaryOp op) r) (h2 : Op2 X r f) (ha : PEt X a ta) (hb : PEt X b tb) : PEt X (.BinOp a op b pos) (eOp f ta tb) := by
  obtain ⟨va, pa, ra⟩ := ha
  obtain ⟨vb, pb, rb⟩ := hb
  exact ⟨_, pe_op ho pa pb, op_read h2 ra rb⟩
theorem et_cmp {op : CmpOp} {r : R2} {f : D → D → (D → Prop) → Prop} (ho : OpR X (compareOp op) r) (h2 : Op2 X r f) (ha : PEt X a ta) (hb : PEt X b tb) (hm : behindInMarks op b = false := by first | exact nomark _ | rfl) : PEt X (.Compare a [op] [b] pos) (eOp f ta tb) := by
  obtain ⟨va, pa, ra⟩ := ha
  obtain ⟨vb, pb, rb⟩ := hb
  exact ⟨_, pe_cmpR ho pa pb hm, op_read h2 ra rb⟩
theorem et_ix {r : R2} {f : D → D → (D → Prop) → Prop} (ho : IxR X r) (h2 : Op2 X r f) (ha : PEt X a ta) (hb : PEt X b tb) (hs : PlainIx b := by intro _ _; rfl) : PEt X (.Subscript a b pos) (eOp f ta tb) := by
  obtain ⟨va, pa, ra⟩ := ha
  obtain ⟨vb, pb, rb⟩ := hb
  exact ⟨_, pe_ix ho pa pb hs, op_read h2 ra rb⟩
def eNeg (ta : ET) : ET := fun σ Q => ta σ fun x => match x with | .int i => Q (.int (-i)) | _ => False
theorem et_neg (ha : PEt X a ta) : PEt X (.UnaryOp .USub a pos) (eNeg ta) := by
  obtain ⟨va, pa, ra⟩ := ha
  refine ⟨_, pe_un un_neg pa, fun B p0 H ps σT σ Q QV o h k => ra B p0 H ps σT σ _ _ o h fun d x H1 s1 r1 q1 => ?_⟩
  cases r1 with
  | int i => exact ⟨i, rfl, k _ _ H1 s1 (.int _) q1⟩
  | _ => exact q1.elim
def aNil : AT := fun _ Q => Q []
def aCons (t : ET) (r : AT) : AT := fun σ Q => t σ fun x => r σ fun xs => Q (x :: xs)
theorem at_nil : PAt X [] aNil := ⟨_, pa_nil, fun _ _ H _ _ _ _ _ _ h k => k _ _ H (L2.Same.refl H) .nil h⟩
theorem at_cons {tr : AT} (ha : PEt X e te) (hr : PAt X es tr) (hs : starEach (e :: es) X.env = (false, eval e X.env) :: starEach es X.env := by rfl) : PAt X (e :: es) (aCons te tr) := by
  obtain ⟨va, pa, ra⟩ := ha
  obtain ⟨vr, pr, rr⟩ := hr
  refine ⟨_, pa_cons pa pr hs, fun B p0 H ps σT σ Q QV o h k => ra B p0 H ps σT σ _ _ o h fun d x H1 s1 r1 q1 => ?_⟩
  refine rr B p0 H1 ps σT σ _ _ (o.grow s1) q1 fun ds xs H2 s2 r2 q2 => ?_
  exact k _ _ H2 (s1.trans s2) (.cons (r1.same (mask_same s2)) r2) q2
def eTup (t : AT) : ET := fun σ Q => t σ fun ds => ds.length ≤ 1000 ∧ Q (.tuple ds)
def eLst (t : AT) : ET := fun σ Q => t σ fun ds => ds.length ≤ 1000 ∧ Q (.list ds)
theorem rep_tup {ps : List Addr} {p : Addr} {ds : List D} {xs : List V} (live : ∀ q ∈ ps, H q ≠ none) (hp : H p = none) (r : Reps K (mask H ps) ds xs) : Rep K (mask (upd H p (.tup xs)) ps) (.tuple ds) (.ref p) :=
  .tuple (SqT.of (mask_at (fresh_notin live hp) upd_same)) (r.same (mask_same (same_new hp)))
theorem rep_lst {ps : List Addr} {p : Addr} {ds : List D} {xs : List V} (live : ∀ q ∈ ps, H q ≠ none) (hp : H p = none) (r : Reps K (mask H ps) ds xs) : Rep K (mask (upd H p (.lst xs)) ps) (.list ds) (.ref p) :=
  .list (SqL.of (mask_at (fresh_notin live hp) upd_same)) (r.same (mask_same (same_new hp)))
theorem le_line {n : Nat} (h : n ≤ 1000) : n ≤ sizeLine := Nat.le_of_lt (small1000 h)
theorem et_tup {x1} {t : AT} (h : PAt X es t) : PEt X (.Tuple es x1 pos) (eTup t) := by
  obtain ⟨v, p, r⟩ := h
  refine ⟨_, pe_tup p, fun B p0 H ps σT σ Q QV o h k => r B p0 H ps σT σ _ _ o h fun ds xs H1 s1 r1 q1 => ⟨le_line (by rw [← r1.length]; exact q1.1), fun q hq => ?_⟩⟩
  exact k _ _ _ (s1.trans (same_new hq)) (rep_tup (o.grow s1).live hq r1) q1.2
theorem et_lst {t : AT} (h : PAt X es t) : PEt X (.List es pos) (eLst t) := by
  obtain ⟨v, p, r⟩ := h
  refine ⟨_, pe_lst p, fun B p0 H ps σT σ Q QV o h k => r B p0 H ps σT σ _ _ o h fun ds xs H1 s1 r1 q1 => ⟨le_line (by rw [← r1.length]; exact q1.1), fun q hq => ?_⟩⟩
  exact k _ _ _ (s1.trans (same_new hq)) (rep_lst (o.grow s1).live hq r1) q1.2
def eCall (f : List D → (D → Prop) → Prop) (t : AT) : ET := fun σ Q => t σ fun ds => f ds Q
abbrev SpT := List D → (D → Prop) → Prop
def liftSp (K : PySem.W.Frag) (sp : SpT) : Sp := fun vs H Q _ => ∃ (ps : List Addr) (ds : List D) (QD : D → Prop), (∀ p ∈ ps, H p ≠ none) ∧ Reps K (mask H ps) ds vs ∧ sp ds QD ∧ ∀ d v H', Same H H' → Rep K (mask H' ps) d v → QD d → Q v H'
theorem et_call {k : Nat} {f : Addr} {fd : FuncData} {pn : List Str} {sp : SpT} {x : Str} {p : Pos} {t : AT} (F : FnOk X.prog X.w X.K X.mg X.base CX0 k f fd pn (liftSp X.K sp)) (hm : X.mg x = some (.ref f)) (hk : PySem.W.keepIn X.K (.ref f) = true) (hb : Binds X.K fd pn [])
    (hr : Room k X.A) (ha : PAt X (e :: es) t) (pc : ∀ {ta : TA}, PA X (e :: es) ta → PE X (.Call (.Name x p) (e :: es) [] pos) (tCall (liftSp X.K sp) [] E0 ta)) : PEt X (.Call (.Name x p) (e :: es) [] pos) (eCall sp t) := by
  obtain ⟨v, pa, ra⟩ := ha
  refine ⟨_, pc pa, fun B p0 H ps σT σ Q QV o h k => ra B p0 H ps σT σ _ _ o h fun ds xs H1 s1 r1 q1 => ?_⟩
  show liftSp X.K sp (xs ++ []) H1 QV E0
  rw [List.append_nil]
  exact ⟨ps, ds, Q, (o.grow s1).live, r1, q1, fun d v H' s' r' q' => k d v H' (s1.trans s') r' q'⟩
def cTest (t : ET) : TTt := fun σ Q => t σ fun x => match x with | .bool b => Q b | _ => False
theorem tt_val (h : PEt X e te) (pt : ∀ {t : TE}, PE X e t → PT X e (tB t)) : PTt X e (cTest te) := by
  obtain ⟨v, p, r⟩ := h
  refine ⟨_, pt p, fun B p0 H ps σT σ Q QV o h k => r B p0 H ps σT σ _ _ o h fun d x H1 s1 r1 q1 => ?_⟩
  cases r1 with
  | bool c => exact ⟨c, rfl, k c H1 s1 q1⟩
  | _ => exact q1.elim
theorem tt_cmp {op : CmpOp} {r : R2} {f : D → D → (D → Prop) → Prop} (ho : OpR X (compareOp op) r) (h2 : Op2 X r f) (ha : PEt X a ta) (hb : PEt X b tb) (hm : behindInMarks op b = false := by first | exact nomark _ | rfl) : PTt X (.Compare a [op] [b] pos) (cTest (eOp f ta tb)) := by
  obtain ⟨va, pa, ra⟩ := ha
  obtain ⟨vb, pb, rb⟩ := hb
  refine ⟨_, pt_cmpR ho pa pb hm, fun B p0 H ps σT σ Q QV o h k => ?_⟩
  refine op_read h2 ra rb B p0 H ps σT σ (fun x => match x with | .bool b => Q b | _ => False) _ o h fun d v H' s' r' q' => ?_
  cases r' with
  | bool c => exact ⟨c, rfl, k c H' s' q'⟩
  | _ => exact q'.elim
def cNot (t : TTt) : TTt := fun σ Q => t σ fun b => Q (!b)
def cAnd (t u : TTt) : TTt := fun σ Q => t σ fun b => if b = true then u σ Q else Q false
def cOr (t u : TTt) : TTt := fun σ Q => t σ fun b => if b = true then Q true else u σ Q
variable {tA tB' : TTt} {rest : List Expr}
theorem tt_not (h : PTt X a tA) : PTt X (.UnaryOp .Not a pos) (cNot tA) := by
  obtain ⟨v, p, r⟩ := h
  exact ⟨_, pt_not p, fun B p0 H ps σT σ Q QV o h k => r B p0 H ps σT σ _ _ o h fun b H' s' q' => k _ H' s' q'⟩
theorem tw_pt (h : PWt X e tA) : PTt X e tA := by
  obtain ⟨v, p, r⟩ := h
  exact ⟨_, p.pt, r⟩
theorem tw_and1 (h : PTt X a tA) : PWt X (.BoolOp .And [a] pos) tA := by
  obtain ⟨v, p, r⟩ := h
  exact ⟨_, pw_and1 p, r⟩
theorem tw_or1 (h : PTt X a tA) : PWt X (.BoolOp .Or [a] pos) tA := by
  obtain ⟨v, p, r⟩ := h
  exact ⟨_, pw_or1 p, r⟩
theorem tw_and (ha : PTt X a tA) (hb : PWt X (.BoolOp .And (b :: rest) pos) tB') : PWt X (.BoolOp .And (a :: b :: rest) pos) (cAnd tA tB') := by
  obtain ⟨va, pa, ra⟩ := ha
  obtain ⟨vb, pb, rb⟩ := hb
  refine ⟨_, pw_and pa pb, fun B p0 H ps σT σ Q QV o h k => ra B p0 H ps σT σ _ _ o h fun c H1 s1 q1 => ?_⟩
  cases c with
  | true => exact rb B p0 H1 ps σT σ Q _ (o.grow s1) q1 fun b H' s' q' => k b H' (s1.trans s') q'
  | false => exact k _ H1 s1 q1
theorem tw_or (ha : PTt X a tA) (hb : PWt X (.BoolOp .Or (b :: rest) pos) tB') : PWt X (.BoolOp .Or (a :: b :: rest) pos) (cOr tA tB') := by
  obtain ⟨va, pa, ra⟩ := ha
  obtain ⟨vb, pb, rb⟩ := hb
  refine ⟨_, pw_or pa pb, fun B p0 H ps σT σ Q QV o h k => ra B p0 H ps σT σ _ _ o h fun c H1 s1 q1 => ?_⟩
  cases c with
  | true => exact k _ H1 s1 q1
  | false => exact rb B p0 H1 ps σT σ Q _ (o.grow s1) q1 fun b H' s' q' => k b H' (s1.trans s') q'
def eAnd (ta tb : ET) : ET := fun σ Q => ta σ fun x => match x with | .bool c => if c = true then tb σ Q else Q (.bool false) | _ => False
def eOr (ta tb : ET) : ET := fun σ Q => ta σ fun x => match x with | .bool c => if c = true then Q (.bool true) else tb σ Q | _ => False
theorem et_one {op} (h : PEt X a ta) : PEt X (.BoolOp op [a] pos) ta := by
  obtain ⟨v, p, r⟩ := h
  exact ⟨_, pe_one p, r⟩
theorem et_and (ha : PEt X a ta) (hb : PEt X (.BoolOp .And (b :: rest) pos) tb) : PEt X (.BoolOp .And (a :: b :: rest) pos) (eAnd ta tb) := by
  obtain ⟨va, pa, ra⟩ := ha
  obtain ⟨vb, pb, rb⟩ := hb
  refine ⟨_, pe_and pa pb, fun B p0 H ps σT σ Q QV o h k => ra B p0 H ps σT σ _ _ o h fun d x H1 s1 r1 q1 => ?_⟩
  cases r1 with
  | bool c =>
    refine ⟨c, rfl, ?_⟩
    cases c with
    | true => exact rb B p0 H1 ps σT σ Q _ (o.grow s1) q1 fun d v H' s' r' q' => k d v H' (s1.trans s') r' q'
    | false => exact k _ _ H1 s1 (.bool false) q1
  | _ => exact q1.elim
theorem et_or (ha : PEt X a ta) (hb : PEt X (.BoolOp .Or (b :: rest) pos) tb) : PEt X (.BoolOp .Or (a :: b :: rest) pos) (eOr ta tb) := by
  obtain ⟨va, pa, ra⟩ := ha
  obtain ⟨vb, pb, rb⟩ := hb
  refine ⟨_, pe_or pa pb, fun B p0 H ps σT σ Q QV o h k => ra B p0 H ps σT σ _ _ o h fun d x H1 s1 r1 q1 => ?_⟩
  cases r1 with
  | bool c =>
    refine ⟨c, rfl, ?_⟩
    cases c with
    | false => exact rb B p0 H1 ps σT σ Q _ (o.grow s1) q1 fun d v H' s' r' q' => k d v H' (s1.trans s') r' q'
    | true => exact k _ _ H1 s1 (.bool true) q1
  | _ => exact q1.elim
def eChain (f g : D → D → (D → Prop) → Prop) (ta tb tc : ET) : ET := fun σ Q => ta σ fun x => tb σ fun y => f x y fun z => match z with | .bool c => if c = true then tc σ fun w => g y w Q else Q (.bool false) | _ => False
end
end TL

set_option Elab.async false
set_option linter.all false
set_option maxRecDepth 100000
namespace TL
open PySem PySem.Spec PyProof.Rows L2
variable {K : PySem.W.Frag} {H H' H1 H2 : Hp} {B : Hp} {p0 ps : List Addr} {σT : List Sl} {σ : L2.St}
section
variable {X : Cx} {a b c e : Expr} {es : List Expr} {ta tb tc te : ET} {pos : Pos}
abbrev OT := List Sl → (Option Int → Prop) → Prop
def POt (X : Cx) (e : Option Expr) (t : OT) : Prop := ∃ to : TO, PO X e to ∧ ∀ (B : Hp) (p0 : List Addr) (H : Hp) (ps : List Addr) (σT : List Sl) (σ : L2.St) (Q : Option Int → Prop) (QV : Option Int → Hp → Prop), Ok X.K B p0 H ps σT σ → t σT Q →
  (∀ i H', Same H H' → Q i → QV i H') → to σ H QV
def oNone : OT := fun _ Q => Q none
def oSome (t : ET) : OT := fun σ Q => t σ fun x => match x with | .int i => Q (some i) | _ => False
theorem ot_none : POt X none oNone := ⟨_, po_none, fun _ _ H _ _ _ _ _ _ h k => k _ H (L2.Same.refl H) h⟩
theorem ot_some (h : PEt X e te) : POt X (some e) (oSome te) := by
  obtain ⟨v, p, r⟩ := h
  refine ⟨_, po_some p, fun B p0 H ps σT σ Q QV o h k => r B p0 H ps σT σ _ _ o h fun d x H1 s1 r1 q1 => ?_⟩
  cases r1 with
  | int i => exact ⟨i, rfl, k _ H1 s1 q1⟩
  | _ => exact q1.elim
def SlT (X : Cx) (r : V → Option Int → Option Int → Hp → VK → Prop) (f : D → Option Int → Option Int → (D → Prop) → Prop) : Prop := ∀ (H : Hp) (ps : List Addr) (d : D) (x : V) (lo hi : Option Int) (Q : D → Prop) (QV : VK), (∀ p ∈ ps, H p ≠ none) → Rep X.K (mask H ps) d x → f d lo hi Q →
  (∀ d v H', Same H H' → Rep X.K (mask H' ps) d v → Q d → QV v H') → r x lo hi H QV
def eSl (f : D → Option Int → Option Int → (D → Prop) → Prop) (t : ET) (tl th : OT) : ET := fun σ Q => t σ fun x => tl σ fun l => th σ fun u => f x l u Q
theorem et_slice {r : V → Option Int → Option Int → Hp → VK → Prop} {f : D → Option Int → Option Int → (D → Prop) → Prop} {lo hi : Option Expr} {tl th : OT} {p2 : Pos} (hr : SlR X r) (h2 : SlT X r f) (he : PEt X e te) (hl : POt X lo tl) (hu : POt X hi th) :
    PEt X (.Subscript e (.Slice lo hi none p2) pos) (eSl f te tl th) := by
  obtain ⟨ve, pe, re⟩ := he
  obtain ⟨vl, pl, rl⟩ := hl
  obtain ⟨vu, pu, ru⟩ := hu
  refine ⟨_, pe_slice hr pe pl pu, fun B p0 H ps σT σ Q QV o h k => re B p0 H ps σT σ _ _ o h fun d x H1 s1 r1 q1 => ?_⟩
  refine rl B p0 H1 ps σT σ _ _ (o.grow s1) q1 fun l H2 s2 q2 => ?_
  refine ru B p0 H2 ps σT σ _ _ ((o.grow s1).grow s2) q2 fun u H3 s3 q3 => ?_
  exact h2 H3 ps d x l u Q QV (((o.grow s1).grow s2).grow s3).live ((r1.same (mask_same s2)).same (mask_same s3)) q3 fun d v H' s' r' q' => k d v H' (s1.trans (s2.trans (s3.trans s'))) r' q'

variable {st : Stmt} {rest : List Stmt} {t u : STt}
def sNext : STt := fun DT σ => DT.nx σ
def sSeq (t u : STt) : STt := fun DT σ => t { DT with nx := u DT } σ
theorem st_nil : PSst X [] sNext := ⟨_, pss_nil, fun B p0 H ps σT σ DT DV o h f => f.nx H ps σT σ o (L2.Same.refl _) h⟩
theorem st_cons (h1 : PSt X st t) (h2 : PSst X rest u) : PSst X (st :: rest) (sSeq t u) := by
  obtain ⟨v1, p1, r1⟩ := h1
  obtain ⟨v2, p2, r2⟩ := h2
  refine ⟨_, pss_cons p1 p2, fun B p0 H ps σT σ DT DV o h f => r1 B p0 H ps σT σ { DT with nx := u DT } { DV with nx := v2 DV } o h ⟨fun H' ps' σT' σ' o' s' q' => ?_, f.bk, f.ct, f.rt, f.ro, f.rp, f.xb⟩⟩
  exact r2 B p0 H' ps' σT' σ' DT DV o' q' (f.later s')
theorem st_one (h1 : PSt X st t) : PSst X [st] t := by
  obtain ⟨v1, p1, r1⟩ := h1
  exact ⟨_, pss_one p1, r1⟩
/-- an own list becomes data ahead of these statements -/
def sShare (i : Nat) (t : STt) : STt := fun DT σ => ∃ ts, σ[i]? = some (.own ts) ∧ t DT (σ.set i (.val (.list ts)))
theorem st_share {sts : List Stmt} (i : Nat) (h : PSst X sts t) : PSst X sts (sShare i t) := by
  obtain ⟨v, p, r⟩ := h
  refine ⟨_, p, fun B p0 H ps σT σ DT DV o h f => ?_⟩
  obtain ⟨ts, e, h⟩ := h
  obtain ⟨ps', o', s'⟩ := o.share e
  exact r B p0 H ps' _ σ DT DV o' h (f.later s')
def sRet (te : ET) : STt := fun DT σ => te σ DT.rt
theorem st_ret (h : PEt X e te) : PSt X (.Return (some e) pos) (sRet te) := by
  obtain ⟨v, p, r⟩ := h
  refine ⟨_, ps_ret p, fun B p0 H ps σT σ DT DV o h f => r B p0 H ps σT σ _ _ o h fun d x H' s' r' q' => ?_⟩
  exact f.rt d x H' (o.base.trans s') (r'.same (mask_sub o.sub)) q'
def sIf (c : TTt) (t u : STt) : STt := fun DT σ => c σ fun b => if b = true then t DT σ else u DT σ
theorem st_if {c : Expr} {a b : List Stmt} {tc : TTt} (hc : PTt X c tc) (ha : PSst X a t) (hb : PSst X b u) : PSt X (.If c a b pos) (sIf tc t u) := by
  obtain ⟨vc, pc, rc⟩ := hc
  obtain ⟨va, pa, ra⟩ := ha
  obtain ⟨vb, pb, rb⟩ := hb
  refine ⟨_, ps_if pc pa pb, fun B p0 H ps σT σ DT DV o h f => rc B p0 H ps σT σ _ _ o h fun d H1 s1 q1 => ?_⟩
  cases d with
  | true => exact ra B p0 H1 ps σT σ DT DV (o.grow s1) q1 (f.later (mask_same s1))
  | false => exact rb B p0 H1 ps σT σ DT DV (o.grow s1) q1 (f.later (mask_same s1))
def sSet (i : Nat) (te : ET) : STt := fun DT σ => te σ fun d => DT.nx (σ.set i (.val d))
theorem st_set {i : Nat} {x : Str} {pos' : Pos} (h : PEt X e te) (ps' : ∀ {v : TE}, PE X e v → PS X (.Assign [.Name x pos'] e pos) (tAsg v (gName i))) : PSt X (.Assign [.Name x pos'] e pos) (sSet i te) := by
  obtain ⟨v, p, r⟩ := h
  refine ⟨_, ps' p, fun B p0 H ps σT σ DT DV o h f => r B p0 H ps σT σ _ _ o h fun d x H' s' r' q' => ?_⟩
  exact f.nx H' ps _ _ ((o.grow s').set r') (mask_same s') q'
/-- name = [..]: a list of the def's own -/
def sOwn (i : Nat) (t : AT) : STt := fun DT σ => t σ fun ds => ds.length ≤ 1000 ∧ DT.nx (σ.set i (.own ds))
theorem st_own {i : Nat} {x : Str} {pos' p2 : Pos} {t : AT} (h : PAt X es t) (ps' : ∀ {v : TE}, PE X (.List es p2) v → PS X (.Assign [.Name x pos'] (.List es p2) pos) (tAsg v (gName i))) : PSt X (.Assign [.Name x pos'] (.List es p2) pos) (sOwn i t) := by
  obtain ⟨v, p, r⟩ := h
  refine ⟨_, ps' (pe_lst p), fun B p0 H ps σT σ DT DV o h f => r B p0 H ps σT σ _ _ o h fun ds xs H1 s1 r1 q1 => ⟨le_line (by rw [← r1.length]; exact q1.1), fun q hq => ?_⟩⟩
  exact f.nx _ (q :: ps) _ _ ((o.grow s1).setOwn hq r1) ((mask_same s1).trans (by rw [mask_new hq]; exact L2.Same.refl _)) q1.2
/-- name.append(e), the name's list the def's own -/
def sApp (i : Nat) (te : ET) : STt := fun DT σ => ∃ ts, σ[i]? = some (.own ts) ∧ te σ fun d => ts.length ≤ 100000 ∧ DT.nx (σ.set i (.own (ts ++ [d])))
theorem st_app {i : Nat} {n e : Expr} {te : ET} {ap cp : Pos} (hn : PE X n (tVar i)) (he : PEt X e te) (hs : starEach [e] X.env = (false, eval e X.env) :: starEach [] X.env := by rfl)
    (pb : ∀ {ta : TA}, PA X [e] ta → PS X (.Expr (.Call (.Attribute n "append" ap) [e] [] cp) pos) (tDrop (tBM X.K "list" rAppend (tVar i) ta))) : PSt X (.Expr (.Call (.Attribute n "append" ap) [e] [] cp) pos) (sApp i te) := by
  obtain ⟨v, p, r⟩ := he
  refine ⟨_, pb (pa_cons p pa_nil hs), fun B p0 H ps σT σ DT DV o h f => ?_⟩
  obtain ⟨ts, e, h⟩ := h
  obtain ⟨q, xs, h1, h2, h3, h4, h5, h6⟩ := o.own i ts e
  refine ⟨.ref q, h1, .inl ⟨rfl, xs, SqL.of h5⟩, r B p0 H ps σT σ _ _ o h fun d x H1 s1 r1 q1 => ?_⟩
  refine ⟨q, xs, x, rfl, rfl, s1 _ _ h5, ?_, ?_⟩
  · rw [← h6.length]
    have : sizeLine = 2 ^ 24 := rfl
    omega
  · have o1 := o.grow s1
    have hr : Reps X.K (mask H1 ps) (ts ++ [d]) (xs ++ [x]) := (h6.same (mask_same s1)).append (.cons r1 .nil)
    exact f.nx _ ps _ σ (o1.write (ys := xs ++ [x]) e h1 hr) ((mask_same s1).trans (by rw [mask_upd h2]; exact L2.Same.refl _)) q1.2

def signs (x : Str) : List D := x.cps.toList.map fun c => .str ⟨#[c]⟩
def itemsOf : D → Option (List D)
  | .list ts => some ts
  | .tuple ts => some ts
  | .str x => some (signs x)
  | _ => none
def noOwn (σ : List Sl) : Prop := ∀ (i : Nat) (ts : List D), σ[i]? ≠ some (.own ts)
theorem noOwn_set {σ : List Sl} (h : noOwn σ) (i : Nat) (d : D) : noOwn (σ.set i (.val d)) := fun j ts e => by
  by_cases z : i = j
  · subst z
    have hi : i < σ.length := by simpa using (List.getElem?_eq_some_iff.mp e).1
    rw [List.getElem?_set_self hi] at e; cases e
  · rw [List.getElem?_set_ne z] at e; exact h j ts e
/-- a target -/
abbrev GT := D → List Sl → (List Sl → Prop) → Prop
def PGt (X : Cx) (tg : Expr) (g : GT) : Prop := ∃ gv : TG, PG X tg gv ∧ ∀ (B : Hp) (p0 : List Addr) (H : Hp) (ps : List Addr) (σT : List Sl) (σ : L2.St) (d : D) (v : V) (Q : List Sl → Prop) (QV : L2.St → Hp → Prop), Ok X.K B p0 H ps σT σ → Rep X.K (mask H ps) d v → g d σT Q →
  (∀ σT' σ', Ok X.K B p0 H ps σT' σ' → (noOwn σT → noOwn σT') → Q σT' → QV σ' H) → gv v σ H QV
def gN (i : Nat) : GT := fun d σ Q => Q (σ.set i (.val d))
theorem gt_name {i : Nat} {x : Str} {p : Pos} (h : PG X (.Name x p) (gName i)) : PGt X (.Name x p) (gN i) :=
  ⟨_, h, fun B p0 H ps σT σ d v Q QV o r h k => k _ _ (o.set r) (fun n => noOwn_set n _ _) h⟩
def gP (i j : Nat) : GT := fun d σ Q => ∃ a b, d = .tuple [a, b] ∧ Q ((σ.set i (.val a)).set j (.val b))
theorem gt_pair {i j : Nat} {t : Expr} (h : PG X t (gTup X.K 2 (gCons (gName i) (gCons (gName j) gNil)))) : PGt X t (gP i j) :=
  ⟨_, h, fun B p0 H ps σT σ d v Q QV o r h k => by
    obtain ⟨a, b, rfl, h⟩ := h
    cases r with
    | @tuple p xs _ hq r =>
      cases r with
      | cons ra r =>
        cases r with
        | cons rb r =>
          cases r
          exact ⟨_, _, rfl, Same.seqT mask_le hq, rfl, _, _, rfl, _, _, rfl, rfl, k _ _ ((o.set ra).set rb) (fun n => noOwn_set (noOwn_set n _ _) _ _) h⟩⟩
/-- what is walked: the items, as the iterator gives them -/
structure Runs (K : PySem.W.Frag) (Hs : Hp) (ts : List D) (J : It) : Prop where
  stop : ∀ (i : Nat) (H : Hp), Same Hs H → ts.length ≤ i → J.stop i H
  go : ∀ (i : Nat) (H : Hp), Same Hs H → i < ts.length → J.go i H
  yld : ∀ (i : Nat) (H : Hp) (ps : List Addr) (y : V) (H' : Hp), (∀ p ∈ ps, H p ≠ none) → Same Hs (mask H ps) → i < ts.length → J.yld i H y H' → Same H H' ∧ ∃ dx, ts[i]? = some dx ∧ Rep K (mask H' ps) dx y
abbrev IT := List Sl → (List D → Prop) → Prop
def PIt (X : Cx) (tg iter : Expr) (t : IT) : Prop := ∃ wi : TI, PI X tg iter wi ∧ ∀ (B : Hp) (p0 : List Addr) (H : Hp) (ps : List Addr) (σT : List Sl) (σ : L2.St) (Q : List D → Prop) (R : It → Hp → Prop), Ok X.K B p0 H ps σT σ → t σT Q →
  (∀ ts J H', Same H H' → Runs X.K (mask H' ps) ts J → Q ts → R J H') → wi σ H R
def iVal (te : ET) : IT := fun σ Q => te σ fun d => ∃ ts, itemsOf d = some ts ∧ Q ts
theorem runs_of {x : V} {d : D} {ts : List D} {Hs : Hp} (r : Rep K Hs d x) (hi : itemsOf d = some ts) {R : It → Hp → Prop} (hs : Same Hs H1) (h : ∀ J : It, Runs K Hs ts J → R J H1) :
    (∃ a, x = .ref a ∧ (∃ xs, SqL K H1 a xs) ∧ R (Itl K a) H1) ∨ (∃ a, x = .ref a ∧ (∃ xs, SqT K H1 a xs) ∧ R (Itt K a) H1) ∨ ∃ z, x = .str z ∧ R (Its z) H1 := by
  cases r with
  | @list p xs us q rs =>
    obtain rfl : us = ts := Option.some.inj hi
    refine .inl ⟨p, rfl, ⟨xs, L2.Same.seq hs q⟩, h _ ⟨fun i H e hl => ⟨xs, L2.Same.seq e q, by rw [← rs.length]; exact hl⟩, fun i H e hl => ?_, fun i H ps y H' _ e hl hy => ?_⟩⟩
    · obtain ⟨v, hv, _⟩ := rs.get (List.getElem?_eq_getElem hl)
      exact ⟨xs, v, L2.Same.seq e q, hv⟩
    · obtain ⟨rfl, hy⟩ := hy
      obtain ⟨dx, h1, h2⟩ := rs.get' (hy xs (L2.Same.seq (e.trans mask_le) q))
      exact ⟨L2.Same.refl _, dx, h1, h2.same e⟩
  | @tuple p xs us q rs =>
    obtain rfl : us = ts := Option.some.inj hi
    refine .inr (.inl ⟨p, rfl, ⟨xs, Same.seqT hs q⟩, h _ ⟨fun i H e hl => ⟨xs, Same.seqT e q, by rw [← rs.length]; exact hl⟩, fun i H e hl => ?_, fun i H ps y H' _ e hl hy => ?_⟩⟩)
    · obtain ⟨v, hv, _⟩ := rs.get (List.getElem?_eq_getElem hl)
      exact ⟨xs, v, Same.seqT e q, hv⟩
    · obtain ⟨rfl, hy⟩ := hy
      obtain ⟨dx, h1, h2⟩ := rs.get' (hy xs (Same.seqT (e.trans mask_le) q))
      exact ⟨L2.Same.refl _, dx, h1, h2.same e⟩
  | str z =>
    obtain rfl : signs z = ts := Option.some.inj hi
    have hl : (signs z).length = z.cps.size := by unfold signs; simp
    refine .inr (.inr ⟨z, rfl, h _ ⟨fun i H _ e => by rw [hl] at e; exact e, fun i H _ e => by rw [hl] at e; exact e, fun i H ps y H' _ _ e hy => ?_⟩⟩)
    obtain ⟨rfl, c, h2, rfl⟩ := hy
    refine ⟨L2.Same.refl _, .str ⟨#[c]⟩, ?_, .str _⟩
    unfold signs
    rw [List.getElem?_map]
    have : z.cps.toList[i]? = some c := by simpa using h2
    rw [this]; rfl
  | _ => cases hi
theorem it_val {tg : Expr} (he : PEt X e te) : PIt X tg e (iVal te) := by
  obtain ⟨ve, pe, re⟩ := he
  refine ⟨_, pi_any pe, fun B p0 H ps σT σ Q R o h k => re B p0 H ps σT σ _ _ o h fun d x H1 s1 r1 q1 => ?_⟩
  obtain ⟨ts, hi, q⟩ := q1
  exact runs_of r1 hi mask_le fun J rj => k ts J H1 s1 rj q
def intsTo (n : Nat) : List D := (List.range n).map fun (k : Nat) => PyData.int (k : Int)
def iRange (t : AT) : IT := fun σ Q => t σ fun ds => ∃ n : Int, ds = [.int n] ∧ -(2 ^ 62) ≤ n ∧ n < 2 ^ 62 ∧ Q (intsTo n.toNat)
theorem it_range {tg e : Expr} {t : AT} {p p' : Pos} (ha : PAt X [e] t) (pr : ∀ {ta : TA}, PA X [e] ta → PI X tg (.Call (.Name "range" p) [e] [] p') (iRng1 ta)) : PIt X tg (.Call (.Name "range" p) [e] [] p') (iRange t) := by
  obtain ⟨va, pa, ra⟩ := ha
  refine ⟨_, pr pa, fun B p0 H ps σT σ Q R o h k => ra B p0 H ps σT σ _ _ o h fun ds xs H1 s1 r1 q1 => ?_⟩
  obtain ⟨n, rfl, h1, h2, q⟩ := q1
  cases r1 with
  | cons r1 r2 =>
    cases r2
    cases r1
    refine ⟨n, rfl, h1, h2, k (intsTo n.toNat) _ H1 s1 ?_ q⟩
    have hl : (intsTo n.toNat).length = n.toNat := by unfold intsTo; simp
    refine ⟨fun i H _ e => by rw [hl] at e; exact e, fun i H _ e => by rw [hl] at e; exact e, fun i H ps y H' _ _ e hy => ?_⟩
    obtain ⟨rfl, rfl⟩ := hy
    have ei : (0 : Int) + (i : Int) = (i : Int) := by omega
    rw [ei]
    rw [hl] at e
    refine ⟨L2.Same.refl _, .int i, ?_, .int _⟩
    unfold intsTo
    rw [List.getElem?_map, List.getElem?_range e]; rfl
def sFor (ti : IT) (g : GT) (tb : STt) : STt := fun DT σ => ti σ fun ts => ∃ P : Nat → List Sl → Prop, P 0 σ ∧
  (∀ (k : Nat) (x : D) (σ' : List Sl), ts[k]? = some x → P k σ' → g x σ' fun σ2 => tb { DT with nx := P (k + 1), ct := P (k + 1), bk := DT.nx } σ2) ∧ ∀ σ', P ts.length σ' → DT.nx σ'
theorem st_for {tg iter : Expr} {body : List Stmt} {g : GT} {tb : STt} {ti : IT} (he : PIt X tg iter ti) (hg : PGt X tg g) (hb : PSst X body tb)
    (pf : ∀ {wi : TI} {gv : TG} {bv : TS}, PI X tg iter wi → PG X tg gv → PSs X body bv → PS X (.For tg iter body [] pos) (tFor wi gv bv)) : PSt X (.For tg iter body [] pos) (sFor ti g tb) := by
  obtain ⟨ve, pe, re⟩ := he
  obtain ⟨gv, pg, rg⟩ := hg
  obtain ⟨vb, pb, rb⟩ := hb
  refine ⟨_, pf pe pg pb, fun B p0 H ps σT σ DT DV o h f => re B p0 H ps σT σ _ _ o h fun ts J H1 s1 rj q1 => ?_⟩
  obtain ⟨P, h0, hs, hd⟩ := q1
  refine ⟨fun i m σ' H' => m = ts.length - i ∧ i ≤ ts.length ∧ ∃ ps' σT', Ok X.K B p0 H' ps' σT' σ' ∧ Same (mask H1 ps) (mask H' ps') ∧ P i σT', ⟨_, rfl, Nat.zero_le _, ps, σT, o.grow s1, L2.Same.refl _, h0⟩, ?_⟩
  rintro i m σ' H' ⟨rfl, hle, ps', σT', o', s', p'⟩
  have sH : Same (mask H1 ps) H' := s'.trans mask_le
  have f' : Fits X.K B p0 H' ps' DT DV := f.later ((mask_same s1).trans s')
  by_cases hlt : i < ts.length
  · refine .inr ⟨rj.go i H' sH hlt, fun σ2 H2 => ∃ ps2 σT2, Ok X.K B p0 H2 ps2 σT2 σ2 ∧ Same (mask H1 ps) (mask H2 ps2) ∧ P (i + 1) σT2, fun σ2 H2 z => ⟨ts.length - (i + 1), by omega, rfl, hlt, z⟩, fun y H2 hy' => ?_⟩
    obtain ⟨s2, dx, hx, rx⟩ := rj.yld i H' ps' y H2 o'.live s' hlt hy'
    have f2 := f'.later (mask_same (ps := ps') s2)
    have s'' : Same (mask H1 ps) (mask H2 ps') := s'.trans (mask_same s2)
    refine rg B p0 H2 ps' σT' σ' dx y _ _ (o'.grow s2) rx (hs i dx σT' hx p') fun σT3 σ3 o3 _ q3 => ?_
    exact rb B p0 H2 ps' σT3 σ3 _ _ o3 q3 ⟨fun H4 ps4 σT4 σ4 o4 s4 q4 => ⟨ps4, σT4, o4, s''.trans s4, q4⟩, fun H4 ps4 σT4 σ4 o4 s4 q4 => f2.nx H4 ps4 σT4 σ4 o4 s4 q4, fun H4 ps4 σT4 σ4 o4 s4 q4 => ⟨ps4, σT4, o4, s''.trans s4, q4⟩, f2.rt, f2.ro, f2.rp, f2.xb⟩
  · obtain rfl : i = ts.length := by omega
    exact .inl ⟨rj.stop _ H' sH (Nat.le_refl _), f'.nx H' ps' σT' σ' o' (L2.Same.refl _) (hd σT' p')⟩

def blkSl (σ : List Sl) : Option Nat → Sl
  | none => .un
  | some j => match σ[j]? with | some (.val d) => .val d | _ => .un
def inBlkT (fr : List (Option Nat)) (σ : List Sl) : List Sl := fr.map (blkSl σ)
theorem blkSl_val {σ : List Sl} {q : Option Nat} {d : D} (h : blkSl σ q = .val d) : ∃ j, q = some j ∧ σ[j]? = some (.val d) := by
  cases q with
  | none => cases h
  | some j =>
    refine ⟨j, rfl, ?_⟩
    unfold blkSl at h
    dsimp only at h
    split at h
    · next e => cases h; exact e
    · cases h
theorem blkSl_own {σ : List Sl} {q : Option Nat} {ts : List D} : blkSl σ q ≠ .own ts := fun h => by
  cases q with
  | none => cases h
  | some j =>
    unfold blkSl at h
    dsimp only at h
    split at h <;> cases h
theorem noOwn_blk (fr : List (Option Nat)) (σ : List Sl) : noOwn (inBlkT fr σ) := fun i ts h => by
  unfold inBlkT at h
  rw [List.getElem?_map] at h
  cases hf : fr[i]? with
  | none => rw [hf] at h; cases h
  | some q =>
    rw [hf] at h
    exact blkSl_own (Option.some.inj h)
theorem Ok.blk (o : Ok K B p0 H ps σT σ) (fr : List (Option Nat)) : Ok K B p0 H ps (inBlkT fr σT) (inBlk fr σ) where
  base := o.base
  sub := o.sub
  live := o.live
  len := by unfold inBlkT inBlk; simp
  val := fun i d h => by
    unfold inBlkT at h
    rw [List.getElem?_map] at h
    cases hf : fr[i]? with
    | none => rw [hf] at h; cases h
    | some q =>
      rw [hf] at h
      obtain ⟨j, rfl, e⟩ := blkSl_val (Option.some.inj h)
      obtain ⟨v, h1, h2⟩ := o.val j d e
      refine ⟨v, ?_, h2⟩
      unfold inBlk
      rw [List.getElem?_map, hf]
      simp [h1]
  own := fun i ts h => absurd h (noOwn_blk fr σT i ts)
  dis := fun i j ts us p h => absurd h (noOwn_blk fr σT i ts)
/-- a fresh object, kept out of the data -/
theorem Ok.adopt (o : Ok K B p0 H ps σT σ) {p : Addr} {u : HO} (hp : H p = none) : Ok K B p0 (upd H p u) (p :: ps) σT σ := by
  have hm : mask (upd H p u) (p :: ps) = mask H ps := mask_new hp
  refine ⟨o.base.trans (same_new hp), fun q hq => List.mem_cons_of_mem _ (o.sub q hq), fun q hq => ?_, o.len, fun i d h => by rw [hm]; exact o.val i d h, fun i ts h => ?_, o.dis⟩
  · by_cases e : q = p
    · subst e; rw [upd_same]; simp
    · rw [upd_ne e]
      rcases List.mem_cons.mp hq with z | z
      · exact absurd z e
      · exact o.live q z
  · rw [hm]
    obtain ⟨q, xs, h1, h2, h3, h4, h5, h6⟩ := o.own i ts h
    exact ⟨q, xs, h1, List.mem_cons_of_mem _ h2, h3, h4, by rw [upd_ne fun z => by rw [z, hp] at h5; cases h5]; exact h5, h6⟩
/-- the heap changes at an address that is ours alone -/
theorem Ok.aside (o : Ok K B p0 H ps σT σ) {q : Addr} {u : HO} (hp : q ∈ ps) (hB : B q = none) (hn : noOwn σT) : Ok K B p0 (upd H q u) ps σT σ where
  base := fun b w e => by
    rw [upd_ne fun z => by rw [z, hB] at e; cases e]
    exact o.base b w e
  sub := o.sub
  live := fun p hp' => by
    by_cases e : p = q
    · subst e; rw [upd_same]; simp
    · rw [upd_ne e]; exact o.live p hp'
  len := o.len
  val := fun i d h => by rw [mask_upd hp]; exact o.val i d h
  own := fun i ts h => absurd h (hn i ts)
  dis := fun i j ts us p h => absurd h (hn i ts)
def PIft (X : Cx) (ifs : List Expr) (t : TTt) : Prop := ∃ tt : TT, PIf X ifs tt ∧ ∀ (B : Hp) (p0 : List Addr) (H : Hp) (ps : List Addr) (σT : List Sl) (σ : L2.St) (Q : Bool → Prop) (QV : Bool → Hp → Prop), Ok X.K B p0 H ps σT σ → t σT Q →
  (∀ b H', Same H H' → Q b → QV b H') → tt σ H QV
def cTrue : TTt := fun _ Q => Q true
theorem if_nil : PIft X [] cTrue := ⟨_, pif_nil, fun _ _ H _ _ _ _ _ _ h k => k _ H (L2.Same.refl H) h⟩
def eLc (fr : List (Option Nat)) (ti : IT) (g : GT) (tt : TTt) (te : ET) : ET := fun σ Q => ti σ fun ts => ts.length ≤ 100000 ∧ ∃ P : Nat → List Sl → List D → Prop, P 0 (inBlkT fr σ) [] ∧
  (∀ (k : Nat) (x : D) (σ' : List Sl) (ds : List D), ts[k]? = some x → P k σ' ds → g x σ' fun σ2 => tt σ2 fun b => if b = true then te σ2 fun y => P (k + 1) σ2 (ds ++ [y]) else P (k + 1) σ2 ds) ∧ ∀ σ' ds, P ts.length σ' ds → Q (.list ds)
theorem lc_read {fr : List (Option Nat)} {ti : IT} {g : GT} {tt : TTt} {te : ET} {wi : TI} {gv : BP → TG} {vt : BP → TT} {ve : BP → TE}
    (ri : ∀ (B : Hp) (p0 : List Addr) (H : Hp) (ps : List Addr) (σT : List Sl) (σ : L2.St) (Q : List D → Prop) (R : It → Hp → Prop), Ok X.K B p0 H ps σT σ → ti σT Q → (∀ ts J H', Same H H' → Runs X.K (mask H' ps) ts J → Q ts → R J H') → wi σ H R)
    (rg : ∀ (bp : BP) (B : Hp) (p0 : List Addr) (H : Hp) (ps : List Addr) (σT : List Sl) (σ : L2.St) (d : D) (v : V) (Q : List Sl → Prop) (QV : L2.St → Hp → Prop), Ok X.K B p0 H ps σT σ → Rep X.K (mask H ps) d v → g d σT Q → (∀ σT' σ', Ok X.K B p0 H ps σT' σ' → (noOwn σT → noOwn σT') → Q σT' → QV σ' H) → gv bp v σ H QV)
    (rt : ∀ (bp : BP) (B : Hp) (p0 : List Addr) (H : Hp) (ps : List Addr) (σT : List Sl) (σ : L2.St) (Q : Bool → Prop) (QV : Bool → Hp → Prop), Ok X.K B p0 H ps σT σ → tt σT Q → (∀ b H', Same H H' → Q b → QV b H') → vt bp σ H QV)
    (re : ∀ (bp : BP) (B : Hp) (p0 : List Addr) (H : Hp) (ps : List Addr) (σT : List Sl) (σ : L2.St) (Q : D → Prop) (QV : VK), Ok X.K B p0 H ps σT σ → te σT Q → (∀ d v H', Same H H' → Rep X.K (mask H' ps) d v → Q d → QV v H') → ve bp σ H QV)
    (B : Hp) (p0 : List Addr) (H : Hp) (ps : List Addr) (σT : List Sl) (σ : L2.St) (Q : D → Prop) (QV : VK) (o : Ok X.K B p0 H ps σT σ) (h : eLc fr ti g tt te σT Q) (k : ∀ d v H', Same H H' → Rep X.K (mask H' ps) d v → Q d → QV v H') : tLc fr wi gv vt ve σ H QV := by
  refine ri B p0 H ps σT σ _ _ o h fun ts J H1 s1 rj q1 => ?_
  obtain ⟨hz, P, h0, hs, hd⟩ := q1
  intro bp acc hacc
  have hBacc : B acc = none := by
    cases q : B acc with
    | none => rfl
    | some u => rw [(o.grow s1).base acc u q] at hacc; cases hacc
  have hnps : acc ∉ ps := fresh_notin (o.grow s1).live hacc
  refine ⟨fun i m σ' H' => m = ts.length - i ∧ i ≤ ts.length ∧ ∃ σT' ds ys, Ok X.K B p0 H' (acc :: ps) σT' σ' ∧ noOwn σT' ∧ H' acc = some (.lst ys) ∧ ds.length ≤ i ∧ Reps X.K (mask H' (acc :: ps)) ds ys ∧ Same (mask H1 ps) (mask H' (acc :: ps)) ∧ Same H1 H' ∧ P i σT' ds,
    ⟨_, rfl, Nat.zero_le _, inBlkT fr σT, [], [], ((o.grow s1).blk fr).adopt hacc, noOwn_blk fr σT, upd_same, Nat.le_refl _, .nil, by rw [mask_new hacc]; exact L2.Same.refl _, same_new hacc, h0⟩, ?_⟩
  rintro i m σ' H' ⟨rfl, hle, σT', ds, ys, o', n', ha, hl, hr, s', sF, p'⟩
  have hL : sizeLine = 2 ^ 24 := rfl
  by_cases hlt : i < ts.length
  · refine .inr ⟨rj.go i H' (s'.trans mask_le) hlt, fun y H2 hy => ?_⟩
    obtain ⟨s2, dx, hx, rx⟩ := rj.yld i H' (acc :: ps) y H2 o'.live s' hlt hy
    refine rg bp B p0 H2 (acc :: ps) σT' σ' dx y _ _ (o'.grow s2) rx (hs i dx σT' ds hx p') fun σT3 σ3 o3 n3 q3 => ?_
    refine rt bp B p0 H2 (acc :: ps) σT3 σ3 _ _ o3 q3 fun b H4 s4 q4 => ?_
    have s24 := s2.trans s4
    cases b with
    | false =>
      exact ⟨ts.length - (i + 1), by omega, rfl, hlt, σT3, ds, ys, o3.grow s4, n3 n', s24 _ _ ha, by omega, hr.same (mask_same s24), s'.trans (mask_same s24), sF.trans s24, q4⟩
    | true =>
      refine re bp B p0 H4 (acc :: ps) σT3 σ3 _ _ (o3.grow s4) q4 fun d v H5 s5 r5 q5 => ?_
      have s25 := s24.trans s5
      have hm : mask (upd H5 acc (.lst (ys ++ [v]))) (acc :: ps) = mask H5 (acc :: ps) := mask_upd (List.mem_cons_self ..)
      refine ⟨ys, s25 _ _ ha, by rw [← hr.length]; omega, ts.length - (i + 1), by omega, rfl, hlt, σT3, ds ++ [d], ys ++ [v], ((o3.grow s4).grow s5).aside (List.mem_cons_self ..) hBacc (n3 n'), n3 n', upd_same, by rw [List.length_append, List.length_singleton]; omega, ?_, ?_, ?_, q5⟩
      · rw [hm]; exact (hr.same (mask_same s25)).append (.cons r5 .nil)
      · rw [hm]; exact s'.trans (mask_same s25)
      · intro b u e
        have ne : b ≠ acc := fun z => by rw [z, hacc] at e; cases e
        rw [upd_ne ne]; exact (sF.trans s25) b u e
  · obtain rfl : i = ts.length := by omega
    refine .inl ⟨rj.stop _ H' (s'.trans mask_le) (Nat.le_refl _), k (.list ds) _ H' (s1.trans sF) (.list (SqL.of (mask_at hnps ha)) (hr.same (mask_sub fun p hp => List.mem_cons_of_mem _ hp))) (hd σT' ds p')⟩
theorem lc_all {elt iter tg : Expr} {ifs : List Expr} {scope : Scope} {fr : List (Option Nat)} {N' : List Str} {ti : IT} {g : GT} {tt : TTt} {te : ET} (hi : PIt X tg iter ti)
    (hY : ∀ b : BP, PGt (blk X scope N' b) tg g ∧ PIft (blk X scope N' b) ifs tt ∧ PEt (blk X scope N' b) elt te) {M : (TE) → Prop}
    (fin : ∀ {wi : TI} {gv : BP → TG} {vt : BP → TT} {ve : BP → TE}, PI X tg iter wi → (∀ b : BP, PG (blk X scope N' b) tg (gv b) ∧ PIf (blk X scope N' b) ifs (vt b) ∧ PE (blk X scope N' b) elt (ve b)) → M (tLc fr wi gv vt ve)) :
    ∃ v : TE, M v ∧ ∀ (B : Hp) (p0 : List Addr) (H : Hp) (ps : List Addr) (σT : List Sl) (σ : L2.St) (Q : D → Prop) (QV : VK), Ok X.K B p0 H ps σT σ → eLc fr ti g tt te σT Q →
      (∀ d v H', Same H H' → Rep X.K (mask H' ps) d v → Q d → QV v H') → v σ H QV := by
  obtain ⟨wi, pi, ri⟩ := hi
  refine ⟨_, fin (gv := fun b => Classical.choose (hY b).1) (vt := fun b => Classical.choose (hY b).2.1) (ve := fun b => Classical.choose (hY b).2.2) pi fun b => ⟨(Classical.choose_spec (hY b).1).1, (Classical.choose_spec (hY b).2.1).1, (Classical.choose_spec (hY b).2.2).1⟩, ?_⟩
  exact lc_read ri (fun b => (Classical.choose_spec (hY b).1).2) (fun b => (Classical.choose_spec (hY b).2.1).2) fun b => (Classical.choose_spec (hY b).2.2).2
theorem et_lc {elt iter tg : Expr} {ifs : List Expr} {scope : Scope} {fr : List (Option Nat)} {N' : List Str} {ti : IT} {g : GT} {tt : TTt} {te : ET} (hi : PIt X tg iter ti)
    (hY : ∀ b : BP, PGt (blk X scope N' b) tg g ∧ PIft (blk X scope N' b) ifs tt ∧ PEt (blk X scope N' b) elt te)
    (pl : ∀ {wi : TI} {gv : BP → TG} {vt : BP → TT} {ve : BP → TE}, PI X tg iter wi → (∀ b : BP, PG (blk X scope N' b) tg (gv b) ∧ PIf (blk X scope N' b) ifs (vt b) ∧ PE (blk X scope N' b) elt (ve b)) → PE X (.ListComp elt [⟨tg, iter, ifs, 0⟩] scope pos) (tLc fr wi gv vt ve)) :
    PEt X (.ListComp elt [⟨tg, iter, ifs, 0⟩] scope pos) (eLc fr ti g tt te) := lc_all hi hY pl
theorem st_setlc {i : Nat} {x : Str} {px spos : Pos} {elt iter tg : Expr} {ifs : List Expr} {scope : Scope} {fr : List (Option Nat)} {N' : List Str} {ti : IT} {g : GT} {tt : TTt} {te : ET} (hi : PIt X tg iter ti)
    (hY : ∀ b : BP, PGt (blk X scope N' b) tg g ∧ PIft (blk X scope N' b) ifs tt ∧ PEt (blk X scope N' b) elt te)
    (pl : ∀ {wi : TI} {gv : BP → TG} {vt : BP → TT} {ve : BP → TE}, PI X tg iter wi → (∀ b : BP, PG (blk X scope N' b) tg (gv b) ∧ PIf (blk X scope N' b) ifs (vt b) ∧ PE (blk X scope N' b) elt (ve b)) →
      PS X (.Assign [.Name x px] (.ListComp elt [⟨tg, iter, ifs, 0⟩] scope pos) spos) (tAsg (tLc fr wi gv vt ve) (gName i))) :
    PSt X (.Assign [.Name x px] (.ListComp elt [⟨tg, iter, ifs, 0⟩] scope pos) spos) (sSet i (eLc fr ti g tt te)) := by
  obtain ⟨v, p, r⟩ := lc_all (M := fun v => PS X (.Assign [.Name x px] (.ListComp elt [⟨tg, iter, ifs, 0⟩] scope pos) spos) (tAsg v (gName i))) (fr := fr) hi hY pl
  refine ⟨_, p, fun B p0 H ps σT σ DT DV o h f => r B p0 H ps σT σ _ _ o h fun d x H' s' r' q' => ?_⟩
  exact f.nx H' ps _ _ ((o.grow s').set r') (mask_same s') q'

def startT (N : List Str) (ds : List D) : List Sl := ds.map Sl.val ++ List.replicate (N.length - ds.length) .un
theorem ok_start {N : List Str} {ds : List D} {vs : List V} (live : ∀ p ∈ ps, H p ≠ none) (r : Reps K (mask H ps) ds vs) : Ok K H ps H ps (startT N ds) (L2.start N vs) := by
  have hl := r.length
  refine ⟨L2.Same.refl _, fun _ h => h, live, ?_, fun i d h => ?_, fun i ts h => ?_, fun i j ts us p h => ?_⟩
  · unfold startT L2.start; simp [hl]
  · unfold startT at h
    by_cases hi : i < ds.length
    · rw [List.getElem?_append_left (by simpa using hi), List.getElem?_map] at h
      cases hd : ds[i]? with
      | none => rw [hd] at h; cases h
      | some d' =>
        rw [hd] at h
        cases h
        obtain ⟨v, h1, h2⟩ := r.get hd
        refine ⟨v, ?_, h2⟩
        unfold L2.start
        rw [List.getElem?_append_left (by rw [List.length_map, ← hl]; exact hi), List.getElem?_map, h1]; rfl
    · rw [List.getElem?_append_right (by simpa using hi), List.getElem?_replicate] at h
      split at h <;> cases h
  · unfold startT at h
    by_cases hi : i < ds.length
    · rw [List.getElem?_append_left (by simpa using hi), List.getElem?_map] at h
      cases hd : ds[i]? with
      | none => rw [hd] at h; cases h
      | some d' => rw [hd] at h; cases h
    · rw [List.getElem?_append_right (by simpa using hi), List.getElem?_replicate] at h
      split at h <;> cases h
  · unfold startT at h
    by_cases hi : i < ds.length
    · rw [List.getElem?_append_left (by simpa using hi), List.getElem?_map] at h
      cases hd : ds[i]? with
      | none => rw [hd] at h; cases h
      | some d' => rw [hd] at h; cases h
    · rw [List.getElem?_append_right (by simpa using hi), List.getElem?_replicate] at h
      split at h <;> cases h
/-- THE RULE for a def -/
theorem fnT {P : Program} {w : World} {mg : Str → Option Value} {base : Heap} {x qual : Str} {st : Stmt} {f : Addr} {fd : FuncData} {N pn : List Str} {k : Nat} {sp : SpT} (F : Fun K x qual st f fd) (S : FnScope N pn (defScope st)) (len : ∀ ds Q, sp ds Q → ds.length = pn.length)
    (hbody : ∀ (cdv : Value) (A : Around) (outer : List Env) (s : Shared) (H : Hp) (E : XK), Room k (A.deeper (envOfC qual (defScope st) s.heap.objs.size f cdv)) → ∀ (ds : List D) (Q : D → Prop), sp ds Q →
      ∃ t, PSst (cxOf CX0 P w K mg base N qual (defScope st) f cdv A outer s H E).nox (defBody st) t ∧ t { nx := fun _ => Q .none, rt := Q } (startT N ds)) : FnOk P w K mg base CX0 (k + 1) f fd pn (liftSp K sp) := by
  refine F.ok S (fun vs H Q E h => ?_) fun cdv A outer s H vs Q E hr h => ?_
  · obtain ⟨ps, ds, QD, _, r, q, _⟩ := h
    rw [← r.length]; exact len ds QD q
  · obtain ⟨ps, ds, QD, live, r, q, k⟩ := h
    obtain ⟨t, ⟨ts, p, rd⟩, h⟩ := hbody cdv A outer s H E hr ds QD q
    refine ⟨ts, p, rd H ps H ps _ _ _ _ (ok_start live r) h ⟨fun H' ps' σT' σ' o' s' q' => ?_, fun _ _ _ _ _ _ q' => q'.elim, fun _ _ _ _ _ _ q' => q'.elim, fun d v H' s' r' q' => k d v H' s' r' q', fun _ _ _ _ _ _ _ _ _ q' => q'.elim, fun _ _ _ _ _ _ _ _ _ _ _ _ _ _ _ _ _ _ q' => q'.elim, True.intro⟩⟩
    exact k _ _ H' o'.base .none q'
end
end TL

set_option Elab.async false
set_option linter.all false
set_option maxRecDepth 100000
namespace HT
open PySem PySem.Spec PyProof.Rows
section
variable {prog : Program} {w : World} {A : Around} {E : Value → Shared → Prop} {s : Shared}
/-- t[lo:hi] that takes the whole: the tuple itself -/
theorem getItem_tuple_all {t sl : Addr} {items : Array Value} {vl vu : Value} {lo hi : Option Int} {Q : Value → Shared → Prop} (ht : IsTup s.heap t items) (hs : s.heap.IsSliceOf sl vl vu .none) (pl : IsPart vl lo) (pu : IsPart vu hi)
    (hw : sIx items.size 0 lo = 0 ∧ sIx items.size items.size hi = items.size) (h : Q (.ref t) s) : wpAny (model prog w) A (getItem (.ref t) (.ref sl)) Q E s := by
  obtain ⟨os, hos, hcs, hds⟩ := id hs
  have hTs : s.TypeIs (.ref sl) "slice" := ⟨os, hos, hcs⟩
  unfold getItem
  try with_reducible refine wpAny_holding ?_
  first | refine wpAny_bind (wpAny_pure ?_) | skip
  refine wpAny_bind (wpAny_sequenceKey ht.typeIs (by decide) ?_)
  refine wpAny_bind (wpAny_callSpecial?_slot (name := Str.ofString "__getitem__") ht.typeIs PyProof.Rows.slot_tuple_getitem
    (wpAny_call_entry PyProof.Rows.slot_tuple_getitem ht.typeIs entry_tuple_getitem ?_ (args_tuple_getitem _ _)))
  show wpAny _ _ (Builtin.Tuple.tupleItemsOf (.ref t) >>= _) _ _ s
  refine wpAny_bind (tupleItemsOf_ ht ?_)
  refine wpAny_bind (wpAny_typeOf hTs ?_)
  rw [if_pos (by decide)]
  refine wpAny_bind (sliceApplied_gen hs pl pu ?_)
  have hyes : (((sIx items.size 0 lo : Nat) : Int) == 0 && (1 : Int) == 1 && (sIx items.size items.size hi - sIx items.size 0 lo) == items.size) = true := by
    rw [hw.1, hw.2]; simp
  show wpAny _ _ (if (((sIx items.size 0 lo : Nat) : Int) == 0 && (1 : Int) == 1 && (sIx items.size items.size hi - sIx items.size 0 lo) == items.size) = true then _ else _) _ _ s
  rw [if_pos hyes]
  unfold Builtin.Tuple.tupleIsExact
  refine wpAny_bind (wpAny_bind (wpAny_typeOf ht.typeIs (wpAny_pure ?_)))
  rw [if_pos (by decide)]
  first
    | exact wpAny_bind (wpAny_rule (wpAny_bind (wpAny_pure (wpAny_pure ⟨_, rfl, wpAny_pure h⟩))))
    | exact wpAny_bind (wpAny_rule (wpAny_pure ⟨_, rfl, wpAny_pure h⟩))
    | exact wpAny_bind (wpAny_rule (wpAny_bind (wpAny_pure ⟨_, rfl, wpAny_pure h⟩)))
end
end HT

namespace L2
open PySem PySem.Spec PyProof.Rows
section
variable {X : Cx}
def rSlS : V → Option Int → Option Int → Hp → VK → Prop := fun x lo hi H Q => ∃ z, x = .str z ∧ z.length ≤ sizeLine ∧ Q (.str (Txt.slice z lo hi)) H
theorem sl_str : SlR X rSlS := by
  intro pins s σ H x v vl vu lo hi sl Q I rx hs pl pu h
  obtain ⟨z, rfl, hz, q⟩ := h
  obtain ⟨t, rfl⟩ := rx
  refine ⟨"str", _, PySem.F.slot_str_getitem.lookup, typeIs_str _ _ _, ?_⟩
  have fin : ∀ lo hi : Option Int, Q (.str (Txt.slice z lo hi)) H → (Txt.slice z lo hi).length ≤ sizeLine ∧ ∀ (t' : Tok) (k : Nat), EP X pins σ Q (.str (Txt.slice z lo hi) t') { s with toks := k } := fun lo hi q =>
    ⟨Nat.le_trans (Txt.slice_le z _ _) hz, fun t' k => ⟨.str _, H, I.tok k, ⟨t', rfl⟩, q⟩⟩
  cases pl with
  | none =>
    cases pu with
    | none => exact wpAny_getItem_str_slice (l := none) (u := none) (st := none) hs rfl (post_val_or_str (fin none none q))
    | int j uj => exact wpAny_getItem_str_slice (l := none) (u := some (j, uj)) (st := none) hs rfl (post_val_or_str (fin none (some j) q))
  | int i ui =>
    cases pu with
    | none => exact wpAny_getItem_str_slice (l := some (i, ui)) (u := none) (st := none) hs rfl (post_val_or_str (fin (some i) none q))
    | int j uj => exact wpAny_getItem_str_slice (l := some (i, ui)) (u := some (j, uj)) (st := none) hs rfl (post_val_or_str (fin (some i) (some j) q))
/-- t[lo:hi] of a tuple: itself where it is the whole -/
def rSlT2 (K : PySem.W.Frag) : V → Option Int → Option Int → Hp → VK → Prop := fun x lo hi H Q => ∃ a xs, x = .ref a ∧ SqT K H a xs ∧
  ((HT.sIx xs.length 0 lo = 0 ∧ HT.sIx xs.length xs.length hi = xs.length) → Q (.ref a) H) ∧ (¬ (HT.sIx xs.length 0 lo = 0 ∧ HT.sIx xs.length xs.length hi = xs.length) → ∀ p, H p = none → Q (.ref p) (upd H p (.tup (cutV xs lo hi))))
theorem sl_tup2 : SlR X (rSlT2 X.K) := by
  intro pins s σ H x v vl vu lo hi sl Q I rx hs pl pu h
  obtain ⟨a, xs, rfl, hx, q1, q2⟩ := h
  by_cases hw : HT.sIx xs.length 0 lo = 0 ∧ HT.sIx xs.length xs.length hi = xs.length
  · cases rx
    obtain ⟨its, r, ht, hz⟩ := I.tuple hx
    have hlen : its.toArray.size = xs.length := by rw [List.size_toArray]; exact r.length.symm
    exact ⟨"tuple", _, PyProof.Rows.slot_tuple_getitem.lookup, ht.typeIs, HT.getItem_tuple_all ht hs pl pu (by rw [hlen]; exact hw) ⟨.ref a, H, I, rfl, q1 hw⟩⟩
  · exact sl_tup pins s σ H (.ref a) v vl vu lo hi sl Q I rx hs pl pu ⟨a, xs, rfl, hx, hw, q2 hw⟩
def rSlAny (K : PySem.W.Frag) : V → Option Int → Option Int → Hp → VK → Prop := fun x lo hi H Q => rSlL K x lo hi H Q ∨ rSlT2 K x lo hi H Q ∨ rSlS x lo hi H Q
theorem sl_any : SlR X (rSlAny X.K) := sl_list.or (sl_tup2.or sl_str)
/-- t + u of tuples -/
def rCatT2 (K : PySem.W.Frag) : R2 := fun x y H Q => ∃ a b xs ys, x = .ref a ∧ y = .ref b ∧ SqT K H a xs ∧ SqT K H b ys ∧ xs.length + ys.length ≤ sizeLine ∧
  (xs = [] → Q (.ref b) H) ∧ (xs ≠ [] → ys = [] → Q (.ref a) H) ∧ (xs ≠ [] → ys ≠ [] → ∀ p, H p = none → Q (.ref p) (upd H p (.tup (xs ++ ys))))
theorem op_catT2 : OpR X (binaryOp .Add) (rCatT2 X.K) := by
  intro pins s σ H x y v u Q I rx ry h
  obtain ⟨a, b, xs, ys, rfl, rfl, ha, hb, hz, q0, q1, q2⟩ := h
  by_cases hx : xs = []
  · cases rx
    cases ry
    obtain ⟨its, r1, p1, _⟩ := I.tuple ha
    obtain ⟨its2, r2, p2, _⟩ := I.tuple hb
    obtain ⟨⟨cls, dd, data, sl⟩, ho, hc, n, hd⟩ := id p1
    obtain ⟨⟨cls2, dd2, data2, sl2⟩, ho2, hc2, n2, hd2⟩ := id p2
    simp only at hc hd hc2 hd2
    subst hc hd hc2 hd2
    have he : its = [] := r1.nil_iff.mpr hx
    exact concat_meets ⟨_, ho, rfl⟩ ⟨_, ho2, rfl⟩ noFill_tuple_add seq_tuple_add PySem.F.slot_tuple_add PySem.F.entry_tuple_add (PySem.F.args_tuple_add_2 _ _) (tuple_addW0 a b its.toArray its2.toArray n n2 dd dd2 sl sl2 (by simp [he])) ⟨ho, ho2, ⟨.ref b, H, I, rfl, q0 hx⟩⟩
  · exact op_catT pins s σ H (.ref a) (.ref b) v u Q I rx ry ⟨a, b, xs, ys, rfl, rfl, ha, hb, hx, hz, q1 hx, q2 hx⟩
/-- list + list -/
def rCatL (K : PySem.W.Frag) : R2 := fun x y H Q => ∃ l b xs zs, x = .ref l ∧ y = .ref b ∧ SqL K H l xs ∧ SqL K H b zs ∧ xs.length + zs.length ≤ sizeLine ∧ ∀ p, H p = none → Q (.ref p) (upd H p (.lst (xs ++ zs)))
theorem op_catL : OpR X (binaryOp .Add) (rCatL X.K) := by
  intro pins s σ H x y v u Q I rx ry h
  obtain ⟨l, b, xs, zs, rfl, rfl, ha, hb, hz, q⟩ := h
  cases rx
  cases ry
  obtain ⟨its, r1, ⟨⟨cls, dd, data, sl⟩, n, ho, hc, hdd, hd⟩, _⟩ := I.list ha
  obtain ⟨its2, r2, ⟨⟨cls2, dd2, data2, sl2⟩, n2, ho2, hc2, hdd2, hd2⟩, _⟩ := I.list hb
  simp only at hc hd hc2 hd2
  subst hc hd hc2 hd2
  have hz' : its.toArray.size + its2.toArray.size ≤ sizeLine := by rw [List.size_toArray, List.size_toArray, ← r1.length, ← r2.length]; exact hz
  refine concat_meets ⟨_, ho, rfl⟩ ⟨_, ho2, rfl⟩ noFill_list_add seq_list_add PySem.F.slot_list_add PySem.F.entry_list_add (PySem.F.args_list_add_2 _ _) (list_addW l b its.toArray its2.toArray n n2 dd dd2 sl sl2 hz') ⟨ho, ho2, ?_⟩
  have ea : its.toArray ++ its2.toArray = (its ++ its2).toArray := by simp
  rw [ea]
  exact ⟨.ref _, _, I.lnew (t' := s.toks) (r1.append r2) (by rw [List.length_append]; exact hz), rfl, q _ I.fresh⟩
def rAddAny (K : PySem.W.Frag) : R2 := fun x y H Q => (rI0 fun i j => .int (i + j)) x y H Q ∨ (∃ i j, x = .str i ∧ y = .str j ∧ i.length + j.length ≤ sizeLine ∧ Q (.str (i ++ j)) H) ∨ rCatT2 K x y H Q ∨ rCatL K x y H Q
theorem op_addAny : OpR X (binaryOp .Add) (rAddAny X.K) := op_add.or (op_add_str.or (op_catT2.or op_catL))
/-- text * int, int * int -/
def rMulAny : R2 := fun x y H Q => (rI CMul fun i j => .int (i * j)) x y H Q ∨ ∃ z n, x = .str z ∧ y = .int n ∧ z.length ≤ 1000 ∧ 0 ≤ n ∧ n ≤ 1000 ∧ Q (.str (Txt.mul z n)) H
theorem op_mul_str : OpR X (binaryOp .Mult) (fun x y H Q => ∃ z n, x = .str z ∧ y = .int n ∧ z.length ≤ 1000 ∧ 0 ≤ n ∧ n ≤ 1000 ∧ Q (.str (Txt.mul z n)) H) := by
  intro pins s σ H x y v u Q I rx ry h
  obtain ⟨z, n, rfl, rfl, hz, h0, h1, q⟩ := h
  obtain ⟨t, rfl⟩ := rx
  obtain ⟨t', rfl⟩ := ry
  refine SB.mul ⟨by simp; omega, fun a _ => ?_, fun _ _ => ?_⟩ fun t'' k => ⟨.str _, H, I.tok k, ⟨t'', rfl⟩, q⟩
  · have hn : 1 ≤ n := by omega
    have : (1000 : Int) ≤ (2 ^ 63 - 1) / n := by
      rw [Int.le_ediv_iff_mul_le (by omega)]
      omega
    omega
  · have : z.length * n.toNat ≤ 1000 * 1000 := Nat.mul_le_mul hz (by omega)
    unfold Builtin.Str.tooLong
    have hL : sizeLine = 2 ^ 24 := rfl
    simp only [decide_eq_false_iff_not]
    omega
theorem op_mulAny : OpR X (binaryOp .Mult) rMulAny := op_mul.or op_mul_str
def rIsB : R2 := fun x y H Q => ∃ b, y = .bl b ∧ Q (.bl (decide (x = .bl b))) H
theorem is_bl {x : V} {v : Value} {b : Bool} (r : RelV x v) : plainIs v (.bool b) = true ∧ (v == Value.bool b) = decide (x = .bl b) := by
  cases x with
  | non => cases r; exact ⟨rfl, rfl⟩
  | bl c => cases r; cases b <;> cases c <;> exact ⟨rfl, rfl⟩
  | int _ => obtain ⟨t, rfl⟩ := r; exact ⟨rfl, rfl⟩
  | str _ => obtain ⟨t, rfl⟩ := r; exact ⟨rfl, rfl⟩
  | byt _ => obtain ⟨t, rfl⟩ := r; exact ⟨rfl, rfl⟩
  | flt _ => obtain ⟨t, rfl⟩ := r; exact ⟨rfl, rfl⟩
  | ref _ => cases r; exact ⟨rfl, rfl⟩
  | ty _ => cases r; exact ⟨rfl, rfl⟩
theorem op_isB : OpR X (compareOp .Is) rIsB := by
  intro pins s σ H x y v u Q I rx ry h
  obtain ⟨b, rfl, q⟩ := h
  cases ry
  obtain ⟨h1, h2⟩ := is_bl (b := b) rx
  refine wpAny_is_plain h1 ?_
  rw [h2]
  exact ⟨.bl _, H, I, rfl, q⟩
theorem strs_of : ∀ {ys : List Str} {us : List Value}, Vals (ys.map V.str) us → StrsAre us ys
  | [], _, r => by rw [List.map_nil] at r; cases r; exact .nil
  | y :: ys, us, r => by
    rw [List.map_cons] at r
    cases r with
    | cons r1 r2 =>
      obtain ⟨t, rfl⟩ := r1
      exact .cons y t (strs_of r2)
theorem mt_join : MtR X "str.join" (fun x xs H Q => ∃ z p ys, x = .str z ∧ xs = [.ref p] ∧ SqL X.K H p (ys.map V.str) ∧ (ys.map (·.length)).sum + ys.length * z.length ≤ 16777216 ∧ Q (.str (Txt.join z ys)) H) := by
  intro pins s σ H x xs v us Q I rx r h
  obtain ⟨z, p, ys, rfl, rfl, hq, hz, q⟩ := h
  obtain ⟨t, rfl⟩ := rx
  obtain ⟨u, rfl, ru⟩ := vals1 r
  cases ru
  obtain ⟨its, rv, pl, _⟩ := I.list hq
  exact PyProof.Rows.join_list pl.isList (by simpa using strs_of rv) hz fun t' k => ⟨.str _, H, I.tok k, ⟨t', rfl⟩, q⟩
def tyName (K : PySem.W.Frag) (H : Hp) : V → String → Prop
  | .non, T => T = "NoneType"
  | .bl _, T => T = "bool"
  | .int _, T => T = "int"
  | .str _, T => T = "str"
  | .ref p, T => (T = "list" ∧ ∃ xs, SqL K H p xs) ∨ (T = "tuple" ∧ ∃ xs, SqT K H p xs) ∨ (T = "list" ∧ ∃ P, H p = some (.ext P) ∧ ∀ h : Heap, P h → ∃ o, h.get? p = some o ∧ o.cls = .type "list")
  | _, _ => False
theorem isinst2 {pins : List (Addr × Obj)} {σ : L2.St} {H : Hp} {s : Shared} {A : Around} {E : Value → Shared → Prop} {Q : Value → Shared → Prop} {x : V} {u c : Value} {T : String} {b : Bool} (I : Inv X pins σ H s) (rx : RelV x u) (ty : tyName X.K H x T)
    (e : PySem.W.kitOne X.K (.type T) c = some b) (h : ∀ tk, Q (.bool b) { s with toks := tk }) : wpAny (model X.prog X.w) A (call (.builtin "isinstance") [u, c]) Q E s := by
  cases x with
  | non => cases (show T = "NoneType" from ty); exact isinst_ok I rx .non e h
  | bl y => cases (show T = "bool" from ty); exact isinst_ok I rx (.bl y) e h
  | int i => cases (show T = "int" from ty); exact isinst_ok I rx (.int i) e h
  | str y => cases (show T = "str" from ty); exact isinst_ok I rx (.str y) e h
  | ref p =>
    cases rx
    rcases ty with ⟨rfl, xs, hq⟩ | ⟨rfl, xs, hq⟩ | ⟨rfl, P, hq, hP⟩
    · obtain ⟨its, _, pl, _⟩ := I.list hq
      obtain ⟨o, n, ho, hc, _⟩ := pl
      exact PySem.W.kia_one PySem.W.kitx_list I.kIn ⟨o, ho, hc⟩ e (fun z => nomatch z) h
    · obtain ⟨its, _, pl, _⟩ := I.tuple hq
      obtain ⟨o, ho, hc, _⟩ := pl
      exact PySem.W.kia_one PySem.W.kitx_tuple I.kIn ⟨o, ho, hc⟩ e (fun z => nomatch z) h
    · obtain ⟨o, ho, hc⟩ := hP _ (I.hok p _ hq).1
      exact PySem.W.kia_one PySem.W.kitx_list I.kIn ⟨o, ho, hc⟩ e (fun z => nomatch z) h
  | _ => exact False.elim ty
end
end L2

set_option Elab.async false
set_option linter.all false
set_option maxRecDepth 100000
namespace L2
open PySem PySem.Spec PyProof.Rows
def dstep (l : List Str) (y : Str) : List Str := if y ∈ l then l else l ++ [y]
def dd (ys : List Str) : List Str := ys.foldl dstep []
section
variable {prog : Program} {w : World} {A : Around}
end
section
variable {X : Cx}
end
end L2

set_option Elab.async false
set_option linter.all false
set_option maxRecDepth 100000
namespace TL
open PySem PySem.Spec PyProof.Rows L2
variable {K : PySem.W.Frag} {H H' H1 H2 : Hp} {B : Hp} {p0 ps : List Addr} {σT : List Sl} {σ : L2.St}
section
variable {X : Cx} {a b c e : Expr} {es : List Expr} {ta tb tc te : ET} {pos p : Pos}
def fI (C : Int → Int → Prop) (g : Int → Int → Int) : D → D → (D → Prop) → Prop
  | .int i, .int j, Q => C i j ∧ Q (.int (g i j))
  | _, _, _ => False
def fI0 (g : Int → Int → Int) : D → D → (D → Prop) → Prop
  | .int i, .int j, Q => Q (.int (g i j))
  | _, _, _ => False
def fB0 (g : Int → Int → Bool) : D → D → (D → Prop) → Prop
  | .int i, .int j, Q => Q (.bool (g i j))
  | _, _, _ => False
theorem o_I {C : Int → Int → Prop} {g : Int → Int → Int} : Op2 X (rI C fun i j => .int (g i j)) (fI C g) := by
  intro H ps d1 d2 x y Q QV live r1 r2 h k
  cases r1 with
  | int i =>
    cases r2 with
    | int j => exact ⟨i, j, rfl, rfl, h.1, k _ _ H (L2.Same.refl H) (.int _) h.2⟩
    | _ => exact h.elim
  | _ => exact h.elim
theorem o_I0 {g : Int → Int → Int} : Op2 X (rI0 fun i j => .int (g i j)) (fI0 g) := by
  intro H ps d1 d2 x y Q QV live r1 r2 h k
  cases r1 with
  | int i =>
    cases r2 with
    | int j => exact ⟨i, j, rfl, rfl, k _ _ H (L2.Same.refl H) (.int _) h⟩
    | _ => exact h.elim
  | _ => exact h.elim
theorem o_B0 {g : Int → Int → Bool} : Op2 X (rI0 fun i j => .bl (g i j)) (fB0 g) := by
  intro H ps d1 d2 x y Q QV live r1 r2 h k
  cases r1 with
  | int i =>
    cases r2 with
    | int j => exact ⟨i, j, rfl, rfl, k _ _ H (L2.Same.refl H) (.bool _) h⟩
    | _ => exact h.elim
  | _ => exact h.elim
def fAdd : D → D → (D → Prop) → Prop
  | .int i, .int j, Q => Q (.int (i + j))
  | .str x, .str y, Q => x.length + y.length ≤ 100000 ∧ Q (.str (x ++ y))
  | .tuple x, .tuple y, Q => x.length + y.length ≤ 100000 ∧ Q (.tuple (x ++ y))
  | .list x, .list y, Q => x.length + y.length ≤ 100000 ∧ Q (.list (x ++ y))
  | _, _, _ => False
theorem line5 {n : Nat} (h : n ≤ 100000) : n ≤ sizeLine := by have : sizeLine = 2 ^ 24 := rfl; omega
theorem o_add : Op2 X (rAddAny X.K) fAdd := by
  intro H ps d1 d2 x y Q QV live r1 r2 h k
  cases r1 with
  | int i =>
    cases r2 with
    | int j => exact .inl ⟨i, j, rfl, rfl, k _ _ H (L2.Same.refl H) (.int _) h⟩
    | _ => exact h.elim
  | str i =>
    cases r2 with
    | str j => exact .inr (.inl ⟨i, j, rfl, rfl, line5 h.1, k _ _ H (L2.Same.refl H) (.str _) h.2⟩)
    | _ => exact h.elim
  | tuple q1 s1 =>
    cases r2 with
    | tuple q2 s2 =>
      refine .inr (.inr (.inl ⟨_, _, _, _, rfl, rfl, Same.seqT mask_le q1, Same.seqT mask_le q2, line5 (by rw [← s1.length, ← s2.length]; exact h.1), fun z => ?_, fun z1 z2 => ?_, fun z1 z2 p hp => ?_⟩))
      · subst z
        cases s1
        exact k _ _ H (L2.Same.refl H) (.tuple q2 s2) h.2
      · subst z2
        cases s2
        have e := h.2
        rw [List.append_nil] at e
        exact k _ _ H (L2.Same.refl H) (.tuple q1 s1) e
      · exact k _ _ _ (same_new hp) (rep_tup live hp (s1.append s2)) h.2
    | _ => exact h.elim
  | list q1 s1 =>
    cases r2 with
    | list q2 s2 =>
      exact .inr (.inr (.inr ⟨_, _, _, _, rfl, rfl, L2.Same.seq mask_le q1, L2.Same.seq mask_le q2, line5 (by rw [← s1.length, ← s2.length]; exact h.1), fun p hp => k _ _ _ (same_new hp) (rep_lst live hp (s1.append s2)) h.2⟩))
    | _ => exact h.elim
  | _ => exact h.elim
def fMul : D → D → (D → Prop) → Prop
  | .int i, .int j, Q => CMul i j ∧ Q (.int (i * j))
  | .str z, .int n, Q => z.length ≤ 1000 ∧ 0 ≤ n ∧ n ≤ 1000 ∧ Q (.str (Txt.mul z n))
  | _, _, _ => False
theorem o_mul : Op2 X rMulAny fMul := by
  intro H ps d1 d2 x y Q QV live r1 r2 h k
  cases r1 with
  | int i =>
    cases r2 with
    | int j => exact .inl ⟨i, j, rfl, rfl, h.1, k _ _ H (L2.Same.refl H) (.int _) h.2⟩
    | _ => exact h.elim
  | str z =>
    cases r2 with
    | int n => exact .inr ⟨z, n, rfl, rfl, h.1, h.2.1, h.2.2.1, k _ _ H (L2.Same.refl H) (.str _) h.2.2.2⟩
    | _ => exact h.elim
  | _ => exact h.elim
def eqF : D → D → Option Bool
  | .none, .none => some true
  | .bool x, .bool y => some (decide (x = y))
  | .int x, .int y => some (decide (x = y))
  | .str x, .str y => some (decide (x = y))
  | .str _, .none | .none, .str _ => some false
  | _, _ => none
def fEq (x y : D) (Q : D → Prop) : Prop := match eqF x y with | some c => Q (.bool c) | none => False
def fNe (x y : D) (Q : D → Prop) : Prop := match eqF x y with | some c => Q (.bool (!c)) | none => False
theorem eqF_scal {x y : D} {u v : V} {c : Bool} (r1 : Rep K H x u) (r2 : Rep K H y v) (h : eqF x y = some c) : scal u v = true ∧ decide (u = v) = c := by
  cases r1 <;> cases r2 <;> simp [eqF] at h <;> subst h <;> exact ⟨rfl, by simp⟩
theorem o_eq : Op2 X rEq fEq := by
  intro H ps d1 d2 x y Q QV live r1 r2 h k
  unfold fEq at h
  cases e : eqF d1 d2 with
  | none => rw [e] at h; exact h.elim
  | some c =>
    rw [e] at h
    obtain ⟨h1, h2⟩ := eqF_scal r1 r2 e
    refine ⟨h1, ?_⟩
    rw [h2]
    exact k _ _ H (L2.Same.refl H) (.bool c) h
theorem o_ne : Op2 X rNe fNe := by
  intro H ps d1 d2 x y Q QV live r1 r2 h k
  unfold fNe at h
  cases e : eqF d1 d2 with
  | none => rw [e] at h; exact h.elim
  | some c =>
    rw [e] at h
    obtain ⟨h1, h2⟩ := eqF_scal r1 r2 e
    refine ⟨h1, ?_⟩
    rw [h2]
    exact k _ _ H (L2.Same.refl H) (.bool (!c)) h
def isTrueD (b : Bool) : D → Bool
  | .bool c => decide (c = b)
  | _ => false
def fIsNot (x y : D) (Q : D → Prop) : Prop := match y with | .bool b => Q (.bool (!isTrueD b x)) | _ => False
theorem Reps.atI {ds : List D} {vs : List V} {i : Int} {d : D} (r : Reps K H ds vs) (h : atI ds i = some d) : ∃ v, atI vs i = some v ∧ Rep K H d v := by
  unfold L2.atI at h ⊢
  rw [← r.length]
  cases e : ixN ds.length i with
  | none => rw [e] at h; cases h
  | some j =>
    rw [e] at h
    exact r.get h
inductive ItemAt (ts : List D) (i : Int) (Q : D → Prop) : Prop
  | mk (d : D) (h : atI ts i = some d) (k : Q d) : ItemAt ts i Q
theorem ItemAt_iff {ts : List D} {i : Int} {Q : D → Prop} : ItemAt ts i Q ↔ ∃ d, atI ts i = some d ∧ Q d := ⟨fun ⟨d, h, k⟩ => ⟨d, h, k⟩, fun ⟨d, h, k⟩ => ⟨d, h, k⟩⟩
def fIx (x y : D) (Q : D → Prop) : Prop := match x, y with
  | .list ts, .int i => ItemAt ts i Q
  | .tuple ts, .int i => ItemAt ts i Q
  | .str z, .int i => z.length ≤ 100000 ∧ ∃ c, atI z.cps.toList i = some c ∧ Q (.str ⟨#[c]⟩)
  | _, _ => False
theorem o_ix : Op2 X (rIx X.K) fIx := by
  intro H ps d1 d2 x y Q QV live r1 r2 h k
  cases r2 with
  | int i =>
    cases r1 with
    | list q s =>
      obtain ⟨d, e, h⟩ := h
      obtain ⟨v, e', r⟩ := s.atI e
      exact .inl ⟨_, _, i, v, rfl, rfl, L2.Same.seq mask_le q, e', k _ _ H (L2.Same.refl H) r h⟩
    | tuple q s =>
      obtain ⟨d, e, h⟩ := h
      obtain ⟨v, e', r⟩ := s.atI e
      exact .inr (.inl ⟨_, _, i, v, rfl, rfl, Same.seqT mask_le q, e', k _ _ H (L2.Same.refl H) r h⟩)
    | str z =>
      obtain ⟨hz, c, e, h⟩ := h
      exact .inr (.inr ⟨z, i, c, rfl, rfl, line5 hz, e, k _ _ H (L2.Same.refl H) (.str _) h⟩)
    | _ => exact h.elim
  | _ => cases d1 <;> exact h.elim
def cutD {α : Type} (xs : List α) (lo hi : Option Int) : List α := (xs.drop (HT.sIx xs.length 0 lo)).take (HT.sIx xs.length xs.length hi - HT.sIx xs.length 0 lo)
def fSl (x : D) (lo hi : Option Int) (Q : D → Prop) : Prop := match x with
  | .list ts => Q (.list (cutD ts lo hi))
  | .tuple ts => Q (.tuple (cutD ts lo hi))
  | .str z => z.length ≤ 100000 ∧ Q (.str (Txt.slice z lo hi))
  | _ => False
theorem Reps.cut {ds : List D} {vs : List V} (r : Reps K H ds vs) (lo hi : Option Int) : Reps K H (cutD ds lo hi) (cutV vs lo hi) := by
  unfold cutD cutV
  rw [r.length]
  exact (r.drop _).take _
theorem o_sl : SlT X (rSlAny X.K) fSl := by
  intro H ps d x lo hi Q QV live r h k
  cases r with
  | list q s => exact .inl ⟨_, _, rfl, L2.Same.seq mask_le q, fun p hp => k _ _ _ (same_new hp) (rep_lst live hp (s.cut lo hi)) h⟩
  | @tuple p xs ts q s =>
    refine .inr (.inl ⟨_, _, rfl, Same.seqT mask_le q, fun z => ?_, fun _ p hp => k _ _ _ (same_new hp) (rep_tup live hp (s.cut lo hi)) h⟩)
    have e : cutD ts lo hi = ts := by
      unfold cutD
      rw [s.length, z.1, z.2, Nat.sub_zero, List.drop_zero, ← s.length, List.take_length]
    have h' : Q (.tuple (cutD ts lo hi)) := h
    rw [e] at h'
    exact k _ _ H (L2.Same.refl H) (.tuple q s) h'
  | str z => exact .inr (.inr ⟨z, rfl, line5 h.1, k _ _ H (L2.Same.refl H) (.str _) h.2⟩)
  | _ => exact h.elim
def fIn (x y : D) (Q : D → Prop) : Prop := match x, y with
  | .str z, .str y => Q (.bool (Txt.contains y z))
  | .str z, .list ts => ∃ ys : List Str, ts = ys.map .str ∧ Q (.bool (decide (z ∈ ys)))
  | .str z, .tuple ts => ∃ ys : List Str, ts = ys.map .str ∧ Q (.bool (decide (z ∈ ys)))
  | _, _ => False
theorem reps_strs : ∀ {ys : List Str} {vs : List V}, Reps K H (ys.map PyData.str) vs → vs = ys.map V.str
  | [], _, r => by rw [List.map_nil] at r; cases r; rfl
  | y :: ys, vs, r => by
    rw [List.map_cons] at r
    cases r with
    | cons r1 r2 =>
      cases r1
      rw [List.map_cons, reps_strs r2]
def fNotIn (x y : D) (Q : D → Prop) : Prop := match x, y with
  | .str z, .list ts => ∃ ys : List Str, ts = ys.map .str ∧ Q (.bool (!decide (z ∈ ys)))
  | .str z, .tuple ts => ∃ ys : List Str, ts = ys.map .str ∧ Q (.bool (!decide (z ∈ ys)))
  | _, _ => False
theorem et_cb {r : List V → Hp → VK → Prop} {f : List D → (D → Prop) → Prop} {t : AT} {g : Expr} (hf : CallT X r f) (ha : PAt X (e :: es) t) (pc : ∀ {ta : TA}, PA X (e :: es) ta → PE X (.Call g (e :: es) [] pos) (tCB r ta)) : PEt X (.Call g (e :: es) [] pos) (eCall f t) := by
  obtain ⟨v, pa, ra⟩ := ha
  refine ⟨_, pc pa, fun B p0 H ps σT σ Q QV o h k => ra B p0 H ps σT σ _ _ o h fun ds xs H1 s1 r1 q1 => ?_⟩
  exact hf H1 ps ds xs Q QV (o.grow s1).live r1 q1 fun d v H' s' r' q' => k d v H' (s1.trans s') r' q'
def f1 (f : D → (D → Prop) → Prop) : List D → (D → Prop) → Prop
  | [d], Q => f d Q
  | _, _ => False
theorem c1 {r : List V → Hp → VK → Prop} {f : D → (D → Prop) → Prop} (h : ∀ (H : Hp) (ps : List Addr) (d : D) (x : V) (Q : D → Prop) (QV : VK), (∀ p ∈ ps, H p ≠ none) → Rep X.K (mask H ps) d x → f d Q →
    (∀ d v H', Same H H' → Rep X.K (mask H' ps) d v → Q d → QV v H') → r [x] H QV) : CallT X r (f1 f) := by
  intro H ps ds xs Q QV live rs hf k
  cases rs with
  | nil => exact hf.elim
  | cons r1 r2 =>
    cases r2 with
    | nil => exact h H ps _ _ Q QV live r1 hf k
    | cons _ _ => exact hf.elim
def gLen (d : D) (Q : D → Prop) : Prop := match d with
  | .list ts => Q (.int ts.length)
  | .tuple ts => Q (.int ts.length)
  | .str z => z.length ≤ 100000 ∧ Q (.int z.length)
  | _ => False
theorem call_lenAny : CallR X (.builtin "len") (fun xs H Q => (∃ p ys, xs = [.ref p] ∧ (SqL X.K H p ys ∨ SqT X.K H p ys) ∧ Q (.int ys.length) H) ∨ ∃ z, xs = [.str z] ∧ z.length ≤ sizeLine ∧ Q (.int z.length) H) := call_len_seq.or call_len_str
theorem c_len : CallT X (fun xs H Q => (∃ p ys, xs = [.ref p] ∧ (SqL X.K H p ys ∨ SqT X.K H p ys) ∧ Q (.int ys.length) H) ∨ ∃ z, xs = [.str z] ∧ z.length ≤ sizeLine ∧ Q (.int z.length) H) (f1 gLen) := c1 fun H ps d x Q QV live r h k => by
  cases r with
  | list q s =>
    refine .inl ⟨_, _, rfl, .inl (L2.Same.seq mask_le q), ?_⟩
    rw [← s.length]
    exact k _ _ H (L2.Same.refl H) (.int _) h
  | tuple q s =>
    refine .inl ⟨_, _, rfl, .inr (Same.seqT mask_le q), ?_⟩
    rw [← s.length]
    exact k _ _ H (L2.Same.refl H) (.int _) h
  | str z => exact .inr ⟨z, rfl, line5 h.1, k _ _ H (L2.Same.refl H) (.int _) h.2⟩
  | _ => exact h.elim
def gTuple (d : D) (Q : D → Prop) : Prop := match d with
  | .list ts => Q (.tuple ts)
  | .tuple ts => Q (.tuple ts)
  | _ => False
theorem c_tuple : CallT X (fun xs H Q => ∃ p ys, xs = [.ref p] ∧ ((SqL X.K H p ys ∧ ∀ l, H l = none → Q (.ref l) (upd H l (.tup ys))) ∨ (SqT X.K H p ys ∧ Q (.ref p) H))) (f1 gTuple) := c1 fun H ps d x Q QV live r h k => by
  cases r with
  | list q s => exact ⟨_, _, rfl, .inl ⟨L2.Same.seq mask_le q, fun l hl => k _ _ _ (same_new hl) (rep_tup live hl s) h⟩⟩
  | tuple q s => exact ⟨_, _, rfl, .inr ⟨Same.seqT mask_le q, k _ _ H (L2.Same.refl H) (.tuple q s) h⟩⟩
  | _ => exact h.elim
def gList (d : D) (Q : D → Prop) : Prop := match d with
  | .list ts => Q (.list ts)
  | .tuple ts => Q (.list ts)
  | _ => False
theorem c_list : CallT X (fun xs H Q => ∃ p ys, xs = [.ref p] ∧ (SqL X.K H p ys ∨ SqT X.K H p ys) ∧ ∀ l, H l = none → Q (.ref l) (upd H l (.lst ys))) (f1 gList) := c1 fun H ps d x Q QV live r h k => by
  cases r with
  | list q s => exact ⟨_, _, rfl, .inl (L2.Same.seq mask_le q), fun l hl => k _ _ _ (same_new hl) (rep_lst live hl s) h⟩
  | tuple q s => exact ⟨_, _, rfl, .inr (Same.seqT mask_le q), fun l hl => k _ _ _ (same_new hl) (rep_lst live hl s) h⟩
  | _ => exact h.elim
theorem reps_ints : ∀ {ys : List Int} {vs : List V}, Reps K H (ys.map PyData.int) vs → vs = ys.map V.int
  | [], _, r => by rw [List.map_nil] at r; cases r; rfl
  | y :: ys, vs, r => by
    rw [List.map_cons] at r
    cases r with
    | cons r1 r2 =>
      cases r1
      rw [List.map_cons, reps_ints r2]
def gAll (d : D) (Q : D → Prop) : Prop := ∃ bs : List Bool, d = .list (bs.map PyData.bool) ∧ Q (.bool (bs.all id))
def gMin (d : D) (Q : D → Prop) : Prop := ∃ ns : List Int, d = .list (ns.map PyData.int) ∧ ns ≠ [] ∧ ∀ m, m ∈ ns → (∀ n ∈ ns, m ≤ n) → Q (.int m)
def f2 (f : D → D → (D → Prop) → Prop) : List D → (D → Prop) → Prop
  | [d, d'], Q => f d d' Q
  | _, _ => False
def gMin2 (x y : D) (Q : D → Prop) : Prop := match x, y with | .int i, .int j => Q (.int (if j < i then j else i)) | _, _ => False
theorem c_min2 : CallT X (fun xs H Q => ∃ i j, xs = [.int i, .int j] ∧ Q (.int (if j < i then j else i)) H) (f2 gMin2) := by
  intro H ps ds xs Q QV live rs hf k
  cases rs with
  | nil => exact hf.elim
  | cons r1 r2 =>
    cases r2 with
    | nil => exact hf.elim
    | cons r3 r4 =>
      cases r4 with
      | cons _ _ => exact hf.elim
      | nil =>
        cases r1 with
        | int i =>
          cases r3 with
          | int j => exact ⟨i, j, rfl, k _ _ H (L2.Same.refl H) (.int _) hf⟩
          | _ => exact hf.elim
        | _ => exact hf.elim
def eLenSet (te : ET) : ET := fun σ Q => te σ fun d => ∃ ys : List Str, d = .tuple (ys.map PyData.str) ∧ ys.length ≤ 1000 ∧ Q (.int (dd ys).length)
def tyD : D → String
  | .none => "NoneType"
  | .bool _ => "bool"
  | .int _ => "int"
  | .str _ => "str"
  | .list _ => "list"
  | .tuple _ => "tuple"
  | .dict [] => "list"
  | .dict [(.none, _)] => "list"
  | .dict _ => "dict"
def isT (T : String) (d : D) : Bool := (tyD d == T) || (T == "int" && tyD d == "bool")
theorem isT_exc {T : String} {i : Int} {x : D} (h : T ∈ ["int", "str", "list", "tuple", "bool"]) : isT T (.dict [(.int i, x)]) = false := by
  simp only [List.mem_cons, List.not_mem_nil, or_false] at h
  rcases h with rfl | rfl | rfl | rfl | rfl <;> rfl
def isiQ (T : String) (d : D) (Q : D → Prop) : Prop := match d with | .dict [(.str _, _)] => False | d => Q (.bool (isT T d))
theorem isiQ_of {T : String} {d : D} {Q : D → Prop} (h : ∀ x y, d ≠ .dict [(.str x, y)]) (q : isiQ T d Q) : Q (.bool (isT T d)) := by
  unfold isiQ at q
  split at q
  · exact q.elim
  · exact q
def eIsi (T : String) (te : ET) : ET := fun σ Q => te σ fun d => isiQ T d Q
def KitOk (K : PySem.W.Frag) (T : String) : Prop := ∀ tn ∈ ["NoneType", "bool", "int", "str", "list", "tuple"], PySem.W.kitOne K (.type tn) (.type T) = some ((tn == T) || (T == "int" && tn == "bool"))
def rIsi (K : PySem.W.Frag) (T : String) : List V → Hp → VK → Prop := fun xs H Q => ∃ x b, xs = [x, .ty T] ∧ ((∃ Tn, tyName K H x Tn ∧ PySem.W.kitOne K (.type Tn) (.type T) = some b) ∨ (∃ p C dx, x = .ref p ∧ H p = some (.ext (excAt p C dx)) ∧ (∀ d, dx = some d → ∃ fs, H d = some (.xd fs)) ∧ XCls K C ∧ PySem.W.kitOne K (.ref C) (.type T) = some b)) ∧ Q (.bl b) H
theorem isinst_exc {pins : List (Addr × Obj)} {s : Shared} {σ : L2.St} {H : Hp} {A : Around} {E : Value → Shared → Prop} {Q : Value → Shared → Prop} {p C : Addr} {dx : Option Addr} {c : Value} {b : Bool} (I : Inv X pins σ H s) (hp : H p = some (.ext (excAt p C dx))) (hd : ∀ d, dx = some d → ∃ fs, H d = some (.xd fs)) (x : XCls X.K C)
    (e : PySem.W.kitOne X.K (.ref C) c = some b) (h : ∀ tk, Q (.bool b) { s with toks := tk }) : wpAny (model X.prog X.w) A (call (.builtin "isinstance") [.ref p, c]) Q E s := by
  refine PySem.W.kia_one (kitx_exc x) I.kIn ?_ e (fun z => nomatch z) h
  obtain ⟨⟨o, vs, h1, h2, h3, h4⟩, _⟩ := I.hok p _ hp
  have hn : PySem.W.notCls o = true := by unfold PySem.W.notCls; rw [h4]
  cases dx with
  | none => exact ⟨o, none, h1, h2, hn, by rw [h3]; trivial⟩
  | some d =>
    obtain ⟨fs, hf⟩ := hd d rfl
    obtain ⟨mA, ⟨od, es, ep, he, _⟩, _⟩ := I.hok d _ hf
    exact ⟨o, some od, h1, h2, hn, by rw [h3]; exact he⟩
theorem call_isi {T : String} : CallR X (.builtin "isinstance") (rIsi X.K T) := by
  intro pins s σ H xs us Q I r h
  obtain ⟨x, b, rfl, ⟨Tn, ht, hk⟩ | ⟨p, C, dx, rfl, hp, hd, hx, hk⟩, q⟩ := h
  · obtain ⟨u, w, rfl, ru, rw'⟩ := vals2 r
    cases rw'
    exact isinst2 I ru ht hk fun tk => ⟨.bl b, H, I.tok tk, rfl, q⟩
  · obtain ⟨u, w, rfl, ru, rw'⟩ := vals2 r
    cases rw'
    cases ru
    exact isinst_exc I hp hd hx hk fun tk => ⟨.bl b, H, I.tok tk, rfl, q⟩
theorem et_isi {T : String} {g1 g2 : Expr} (hk : KitOk X.K T) (he : PEt X e te)
    (pc : ∀ {v : TE}, PE X e v → PE X (.Call g1 [e, g2] [] pos) (tCB (rIsi X.K T) (tCons v (tCons (tC (.ty T)) tNil))))
    (hT : T ∈ ["int", "str", "list", "tuple", "bool"] := by decide) : PEt X (.Call g1 [e, g2] [] pos) (eIsi T te) := by
  obtain ⟨v, pe, re⟩ := he
  refine ⟨_, pc pe, fun B p0 H ps σT σ Q QV o h k => re B p0 H ps σT σ _ _ o h fun d x H1 s1 r1 q1 => ?_⟩
  have fin : ∀ tn, tn ∈ ["NoneType", "bool", "int", "str", "list", "tuple"] → tyD d = tn → tyName X.K H1 x tn → rIsi X.K T [x, V.ty T] H1 QV := fun tn hm ht hn => by
    refine ⟨x, _, rfl, .inl ⟨tn, hn, hk tn hm⟩, ?_⟩
    have q : Q (.bool (isT T d)) := isiQ_of (fun x y z => by subst z; have z2 : ("dict" : String) = tn := ht; subst z2; exact absurd hm (by decide)) q1
    unfold isT at q
    rw [ht] at q
    exact k _ _ H1 s1 (.bool _) q
  cases r1 with
  | none => exact fin "NoneType" (by simp) rfl rfl
  | bool b => exact fin "bool" (by simp) rfl rfl
  | int i => exact fin "int" (by simp) rfl rfl
  | str z => exact fin "str" (by simp) rfl rfl
  | list q s => exact fin "list" (by simp) rfl (.inl ⟨rfl, _, L2.Same.seq mask_le q⟩)
  | tuple q s => exact fin "tuple" (by simp) rfl (.inr (.inl ⟨rfl, _, Same.seqT mask_le q⟩))
  | wild h => exact fin "list" (by simp) rfl (.inr (.inr ⟨rfl, _, mask_le _ _ h, fun _ ⟨_, _, e, _⟩ => ⟨_, e, rfl⟩⟩))
  | tape h _ => exact fin "list" (by simp) rfl (.inr (.inr ⟨rfl, _, mask_le _ _ h, fun _ ⟨_, _, _, _, _, _, _, e, _⟩ => ⟨_, e, rfl⟩⟩))
  | exc x h =>
    refine ⟨_, false, rfl, .inr ⟨_, _, _, rfl, mask_le _ _ h, (fun _ z => nomatch z), x.1, x.2 T hT⟩, ?_⟩
    have q2 : Q (.bool (isT T (.dict _))) := q1
    rw [isT_exc hT] at q2
    exact k _ _ H1 s1 (.bool _) q2
  | excA x h g =>
    refine ⟨_, false, rfl, .inr ⟨_, _, _, rfl, mask_le _ _ h, fun _ z => by cases z; exact ⟨_, mask_le _ _ g⟩, x.1, x.2 T hT⟩, ?_⟩
    have q2 : Q (.bool (isT T (.dict _))) := q1
    rw [isT_exc hT] at q2
    exact k _ _ H1 s1 (.bool _) q2
  | addr z => exact (show False from q1).elim
def eMeth (f : Str → List D → (D → Prop) → Prop) (te : ET) (t : AT) : ET := fun σ Q => te σ fun d => ∃ z, d = .str z ∧ t σ fun ds => f z ds Q
def gFind (z : Str) (ds : List D) (Q : D → Prop) : Prop := match ds with | [.str y] => Q (.int (Txt.find z y)) | _ => False
def gJoin (z : Str) (ds : List D) (Q : D → Prop) : Prop := match ds with | [.list ts] => ∃ ys : List Str, ts = ys.map PyData.str ∧ (ys.map (·.length)).sum + ys.length * z.length ≤ 16777216 ∧ Q (.str (Txt.join z ys)) | _ => False
theorem meth_read {f : Str → List D → (D → Prop) → Prop} {r : V → List V → Hp → VK → Prop} {n g : Expr} {t : AT} (hn : PEt X n te) (ha : PAt X (e :: es) t)
    (hf : ∀ (H : Hp) (ps : List Addr) (z : Str) (ds : List D) (xs : List V) (Q : D → Prop) (QV : VK), Reps X.K (mask H ps) ds xs → f z ds Q → (∀ d v H', Same H H' → Rep X.K (mask H' ps) d v → Q d → QV v H') → r (.str z) xs H QV)
    (pc : ∀ {v : TE} {ta : TA}, PE X n v → PA X (e :: es) ta → PE X (.Call g (e :: es) [] pos) (tBM X.K "str" r v ta)) : PEt X (.Call g (e :: es) [] pos) (eMeth f te t) := by
  obtain ⟨v, pe, re⟩ := hn
  obtain ⟨va, pa, ra⟩ := ha
  refine ⟨_, pc pe pa, fun B p0 H ps σT σ Q QV o h k => re B p0 H ps σT σ _ _ o h fun d x H1 s1 r1 q1 => ?_⟩
  obtain ⟨z, rfl, q1⟩ := q1
  cases r1
  refine ⟨rfl, ra B p0 H1 ps σT σ _ _ (o.grow s1) q1 fun ds xs H2 s2 r2 q2 => ?_⟩
  exact hf H2 ps z ds xs Q QV r2 q2 fun d v H' s' r' q' => k d v H' (s1.trans (s2.trans s')) r' q'
theorem et_join {n : Expr} {ap : Pos} {t : AT} (hn : PEt X n te) (ha : PAt X (e :: es) t)
    (pc : ∀ {v : TE} {ta : TA}, PE X n v → PA X (e :: es) ta → PE X (.Call (.Attribute n "join" ap) (e :: es) [] pos) (tBM X.K "str" (fun x xs H Q => ∃ z p ys, x = .str z ∧ xs = [.ref p] ∧ SqL X.K H p (ys.map V.str) ∧ (ys.map (·.length)).sum + ys.length * z.length ≤ 16777216 ∧ Q (.str (Txt.join z ys)) H) v ta)) : PEt X (.Call (.Attribute n "join" ap) (e :: es) [] pos) (eMeth gJoin te t) :=
  meth_read hn ha (fun H ps z ds xs Q QV r h k => by
    cases r with
    | nil => exact h.elim
    | cons r1 r2 =>
      cases r2 with
      | cons _ _ => cases r1 <;> exact h.elim
      | nil =>
        cases r1 with
        | list q s =>
          obtain ⟨ys, rfl, hz, h⟩ := h
          have e := reps_strs s
          subst e
          exact ⟨z, _, ys, rfl, rfl, L2.Same.seq mask_le q, hz, k _ _ H (L2.Same.refl H) (.str _) h⟩
        | _ => exact h.elim) pc
def eUpper (te : ET) : ET := fun σ Q => te σ fun d => ∃ z, d = .str z ∧ Builtin.Str.tooLong (Txt.upper z).length = false ∧ Q (.str (Txt.upper z))
def sUnp (i j : Nat) (te : ET) : STt := fun DT σ => te σ fun d => gP i j d σ DT.nx
theorem st_unp {i j : Nat} {tg : Expr} {g : TG} (he : PEt X e te) (hg : PGt X tg (gP i j)) (pa : ∀ {v : TE} {gv : TG}, PE X e v → PG X tg gv → PS X (.Assign [tg] e pos) (tAsg v gv)) : PSt X (.Assign [tg] e pos) (sUnp i j te) := by
  obtain ⟨v, pe, re⟩ := he
  obtain ⟨gv, pg, rg⟩ := hg
  refine ⟨_, pa pe pg, fun B p0 H ps σT σ DT DV o h f => re B p0 H ps σT σ _ _ o h fun d x H1 s1 r1 q1 => ?_⟩
  exact rg B p0 H1 ps σT σ d x _ _ (o.grow s1) r1 q1 fun σT' σ' o' _ q' => f.nx H1 ps _ _ o' (mask_same s1) q'
mutual
theorem Rep.reads {pins : List (Addr × Obj)} {s : Shared} {σ : L2.St} (I : Inv X pins σ H s) : ∀ {d : D} {x : V} {u : Value}, d.hasDict = false → Rep X.K H d x → RelV x u → ∃ as, Reads s.heap u d as
  | _, _, _, _, .none, r => by cases r; exact ⟨_, .none⟩
  | _, _, _, _, .bool b, r => by cases r; exact ⟨_, .bool b⟩
  | _, _, _, _, .int i, r => by obtain ⟨t, rfl⟩ := r; exact ⟨_, .int i t⟩
  | _, _, _, _, .str z, r => by obtain ⟨t, rfl⟩ := r; exact ⟨_, .str z t⟩
  | _, _, _, hd, .list q rs, r => by
    cases r
    obtain ⟨its, rv, ⟨o, n, h1, h2, _, h3⟩, _⟩ := I.list q
    obtain ⟨as, h4⟩ := Reps.reads I hd rs rv
    exact ⟨_, .list h1 h2 h3 (by simpa using h4)⟩
  | _, _, _, hd, .tuple q rs, r => by
    cases r
    obtain ⟨its, rv, ⟨o, h1, h2, n, h3⟩, _⟩ := I.tuple q
    obtain ⟨as, h4⟩ := Reps.reads I hd rs rv
    exact ⟨_, .tuple h1 h2 h3 (by simpa using h4)⟩
  | _, _, _, hd, .wild _, _ => by cases hd
  | _, _, _, hd, .exc _ _, _ => by cases hd
  | _, _, _, hd, .excA _ _ _, _ => by cases hd
  | _, _, _, hd, .tape _ _, _ => by cases hd
  | _, _, _, hd, .addr _, _ => by cases hd
theorem Reps.reads {pins : List (Addr × Obj)} {s : Shared} {σ : L2.St} (I : Inv X pins σ H s) : ∀ {ds : List D} {xs : List V} {us : List Value}, PyData.hasDictAll ds = false → Reps X.K H ds xs → Vals xs us → ∃ as, ReadsAll s.heap us ds as
  | _, _, _, _, .nil, r => by cases r; exact ⟨_, .nil⟩
  | d :: ds, _, _, hd, .cons r1 r2, r => by
    have hd' : (d.hasDict || PyData.hasDictAll ds) = false := hd
    rw [Bool.or_eq_false_iff] at hd'
    cases r with
    | cons v1 v2 =>
      obtain ⟨as, h1⟩ := Rep.reads I hd'.1 r1 v1
      obtain ⟨bs, h2⟩ := Reps.reads I hd'.2 r2 v2
      exact ⟨_, .cons h1 h2⟩
end
def gRepr (d : D) (Q : D → Prop) : Prop := d.showable = true ∧ d.hasDict = false ∧ d.depth ≤ 60 ∧ d.shown.length ≤ sizeLine ∧ Q (.str d.shown)
def eRev (te : ET) : ET := fun σ Q => te σ fun d => match d with | .tuple ts => Q (.tuple ts.reverse) | _ => False
end
end TL

set_option Elab.async false
set_option linter.all false
set_option maxRecDepth 100000
namespace TL
open PySem PySem.Spec PyProof.Rows L2
def lcChk (sc out : Scope) (Nx N' : List Str) (fr : List (Option Nat)) : Bool :=
  decide (sc.kind = .function) && sc.names.all (fun y => decide (y.2 ≠ .cell)) && sc.names.all (fun y => decide (y.2 ≠ .free) || decide (out.names.lookup y.1 = some .cell)) && sc.names.all (fun y => decide (y.2 ≠ .local) || decide (sc.names.lookup y.1 = some .local)) && frChk sc.names out.names Nx N' fr
section
variable {X : Cx} {elt iter tg a : Expr} {ifs : List Expr} {scope : Scope} {pos : Pos} {N' : List Str} {fr : List (Option Nat)} {wi : TI} {g : BP → TG} {tt : BP → TT} {te : BP → TE}
theorem lcChk_all {out : Scope} {Nx : List Str} (h : lcChk scope out Nx N' fr = true) : scope.kind = .function ∧ (∀ y ∈ scope.names, y.2 ≠ .cell) ∧ (∀ y ∈ scope.names, y.2 = .free → out.names.lookup y.1 = some .cell) ∧ (∀ y ∈ scope.names, y.2 = .local → scope.names.lookup y.1 = some .local) ∧ frChk scope.names out.names Nx N' fr = true := by
  unfold lcChk at h
  simp only [Bool.and_eq_true, List.all_eq_true, Bool.or_eq_true, decide_eq_true_eq] at h
  obtain ⟨⟨⟨⟨h1, h2⟩, h3⟩, h4⟩, h5⟩ := h
  exact ⟨h1, h2, fun y hy e => (h3 y hy).elim (fun z => absurd e z) id, fun y hy e => (h4 y hy).elim (fun z => absurd e z) id, h5⟩
theorem pe_lcc (h : lcChk scope X.env.scope X.N N' fr = true) (hcalm : X.calm = true) (hi : PI X tg iter wi)
    (hY : ∀ b : BP, PG (blk X scope N' b) tg (g b) ∧ PIf (blk X scope N' b) ifs (tt b) ∧ PE (blk X scope N' b) elt (te b)) (hs : ∀ x, foldedSetIterable iter X.env x = pure x := by intro _; rfl) : PE X (.ListComp elt [⟨tg, iter, ifs, 0⟩] scope pos) (tLc fr wi g tt te) := by
  obtain ⟨h1, h2, h3, h4, h5⟩ := lcChk_all h
  exact pe_lc hcalm h1 h2 h5 h3 h4 hi hY hs
theorem ps_setlcc {i : Nat} {x : Str} {px spos : Pos} (h : lcChk scope X.env.scope X.N N' fr = true) (hN : X.N.Nodup) (hix : X.N[i]? = some x) (hx : Loc X.env.scope x) (hcalm : X.calm = true) (hi : PI X tg iter wi)
    (hY : ∀ b : BP, PG (blk X scope N' b) tg (g b) ∧ PIf (blk X scope N' b) ifs (tt b) ∧ PE (blk X scope N' b) elt (te b))
    (hsw : swapsWith (.ListComp elt [⟨tg, iter, ifs, 0⟩] scope pos) (some (.Name x px)) spos.line X.env = pure true) (hs : ∀ x, foldedSetIterable iter X.env x = pure x := by intro _; rfl) (hf : X.fn x = true ∨ X.env.scope.names.lookup x = some .local := by first | exact .inl rfl | exact .inr rfl) :
    PS X (.Assign [.Name x px] (.ListComp elt [⟨tg, iter, ifs, 0⟩] scope pos) spos) (tAsg (tLc fr wi g tt te) (gName i)) := by
  obtain ⟨h1, h2, h3, h4, h5⟩ := lcChk_all h
  exact ps_setlc hN hix hx hcalm h1 h2 h5 h3 h4 hi hY hsw hs hf
def eInOwn (i : Nat) (ta : ET) : ET := fun σ Q => ta σ fun x => ∃ ts, σ[i]? = some (.own ts) ∧ fIn x (.list ts) Q
end
theorem bl_min : bootBuiltins "min" = some (.builtin "min") := by decide +kernel
theorem bl_isinstance : bootBuiltins "isinstance" = some (.builtin "isinstance") := by decide +kernel
theorem bl_len : bootBuiltins "len" = some (.builtin "len") := by decide +kernel
theorem bl_tuple : bootBuiltins "tuple" = some (.type "tuple") := by decide +kernel
theorem bl_list : bootBuiltins "list" = some (.type "list") := by decide +kernel
theorem bl_bool : bootBuiltins "bool" = some (.type "bool") := by decide +kernel
theorem bl_int : bootBuiltins "int" = some (.type "int") := by decide +kernel
theorem kit_bool (K : PySem.W.Frag) : KitOk K "bool" := by
  intro tn h
  simp only [List.mem_cons, List.not_mem_nil, or_false] at h
  rcases h with rfl | rfl | rfl | rfl | rfl | rfl <;> first | rfl | (with_unfolding_all rfl) | decide +kernel
theorem kit_int (K : PySem.W.Frag) : KitOk K "int" := by
  intro tn h
  simp only [List.mem_cons, List.not_mem_nil, or_false] at h
  rcases h with rfl | rfl | rfl | rfl | rfl | rfl <;> first | rfl | (with_unfolding_all rfl) | decide +kernel
theorem set_set {α : Type} (l : List α) (i : Nat) (a b : α) : (l.set i a).set i b = l.set i b := by
  apply List.ext_getElem?
  intro j
  by_cases h : i = j
  · subst h
    by_cases hl : i < l.length
    · rw [List.getElem?_set_self (by simpa using hl), List.getElem?_set_self hl]
    · rw [List.getElem?_eq_none (by simpa using hl), List.getElem?_eq_none (by simpa using hl)]
  · rw [List.getElem?_set_ne h, List.getElem?_set_ne h, List.getElem?_set_ne h]
theorem lc_in {ts : List D} {σb : List Sl} {te : ET} {Q : D → Prop} (R : Nat → D → D → Prop) (hz : ts.length ≤ 100000)
    (ht : ∀ (k : Nat) (x : D) (q : D → Prop), ts[k]? = some x → (∀ y, R k x y → q y) → te (σb.set 0 (.val x)) q)
    (hq : ∀ ys : List D, ys.length = ts.length → (∀ (k : Nat) (x y : D), ts[k]? = some x → ys[k]? = some y → R k x y) → Q (.list ys)) :
    ts.length ≤ 100000 ∧ ∃ P : Nat → List Sl → List D → Prop, P 0 σb [] ∧
      (∀ (k : Nat) (x : D) (σ' : List Sl) (ds : List D), ts[k]? = some x → P k σ' ds → gN 0 x σ' fun σ2 => cTrue σ2 fun b => if b = true then te σ2 fun y => P (k + 1) σ2 (ds ++ [y]) else P (k + 1) σ2 ds) ∧ ∀ σ' ds, P ts.length σ' ds → Q (.list ds) := by
  refine ⟨hz, fun k σ' ds => (∀ x, σ'.set 0 (.val x) = σb.set 0 (.val x)) ∧ ds.length = k ∧ ∀ (j : Nat) (x y : D), ts[j]? = some x → ds[j]? = some y → R j x y, ⟨fun _ => rfl, rfl, fun j x y _ h => by simp at h⟩, fun k x σ' ds hx h => ?_, fun σ' ds h => hq ds h.2.1 h.2.2⟩
  obtain ⟨h1, h2, h3⟩ := h
  show te (σ'.set 0 (.val x)) _
  rw [h1 x]
  refine ht k x _ hx fun y hy => ⟨fun z => set_set _ _ _ _, by simp [h2], fun j x' y' e1 e2 => ?_⟩
  by_cases hj : j < k
  · rw [List.getElem?_append_left (by omega)] at e2
    exact h3 j x' y' e1 e2
  · rw [List.getElem?_append_right (by omega)] at e2
    have : j = k := by
      by_cases e : j = k
      · exact e
      · have : j - ds.length ≠ 0 := by omega
        cases q : j - ds.length with
        | zero => exact absurd q this
        | succ n => rw [q] at e2; simp at e2
    subst this
    rw [hx] at e1
    cases e1
    simp [h2] at e2
    subst e2
    exact hy
theorem lc_map {ts : List D} {σb : List Sl} {te : ET} {Q : D → Prop} (f : D → D) (hz : ts.length ≤ 100000) (ht : ∀ (x : D) (q : D → Prop), x ∈ ts → q (f x) → te (σb.set 0 (.val x)) q) (hq : Q (.list (ts.map f))) :
    ts.length ≤ 100000 ∧ ∃ P : Nat → List Sl → List D → Prop, P 0 σb [] ∧
      (∀ (k : Nat) (x : D) (σ' : List Sl) (ds : List D), ts[k]? = some x → P k σ' ds → gN 0 x σ' fun σ2 => cTrue σ2 fun b => if b = true then te σ2 fun y => P (k + 1) σ2 (ds ++ [y]) else P (k + 1) σ2 ds) ∧ ∀ σ' ds, P ts.length σ' ds → Q (.list ds) := by
  refine lc_in (fun k x y => y = f x) hz (fun k x q hx h => ht x q (List.mem_of_getElem? hx) (h _ rfl)) fun ys hl h => ?_
  have e : ys = ts.map f := by
    apply List.ext_getElem?
    intro i
    rw [List.getElem?_map]
    cases hx : ts[i]? with
    | none =>
      rw [List.getElem?_eq_none (by rw [hl]; exact List.getElem?_eq_none_iff.mp hx)]; rfl
    | some x =>
      have hi : i < ys.length := by rw [hl]; exact (List.getElem?_eq_some_iff.mp hx).1
      have := h i x ys[i] hx (List.getElem?_eq_getElem hi)
      rw [List.getElem?_eq_getElem hi, this]; rfl
  rw [e]; exact hq
section
variable {fr : List (Option Nat)} {ti : IT} {tt : TTt} {te : ET} {σ : List Sl} {Q : D → Prop} {ts : List D}
/-- ti gives just these items -/
abbrev Gives' (ti : IT) (σ : List Sl) (ts : List D) : Prop := ∀ R : List D → Prop, R ts → ti σ R
theorem lcx_map (hti : Gives' ti σ ts) (f : D → D) (hz : ts.length ≤ 100000) (ht : ∀ (x : D) (q : D → Prop), x ∈ ts → q (f x) → te ((inBlkT fr σ).set 0 (.val x)) q) (hq : Q (.list (ts.map f))) : eLc fr ti (gN 0) cTrue te σ Q :=
  hti _ (lc_map (te := te) (Q := Q) f hz ht hq)
theorem lcx_in (hti : Gives' ti σ ts) (R : Nat → D → D → Prop) (hz : ts.length ≤ 100000)
    (ht : ∀ (k : Nat) (x : D) (q : D → Prop), ts[k]? = some x → (∀ y, R k x y → q y) → te ((inBlkT fr σ).set 0 (.val x)) q)
    (hq : ∀ ys : List D, ys.length = ts.length → (∀ (k : Nat) (x y : D), ts[k]? = some x → ys[k]? = some y → R k x y) → Q (.list ys)) : eLc fr ti (gN 0) cTrue te σ Q :=
  hti _ (lc_in (te := te) (Q := Q) R hz ht hq)
theorem forx {g : GT} {tb : STt} {DT : EndsT} (hti : Gives' ti σ ts) (P : Nat → List Sl → Prop) (h0 : P 0 σ)
    (hs : ∀ (k : Nat) (x : D) (σ' : List Sl), ts[k]? = some x → P k σ' → g x σ' fun σ2 => tb { DT with nx := P (k + 1), ct := P (k + 1), bk := DT.nx } σ2) (hd : ∀ σ', P ts.length σ' → DT.nx σ') : sFor ti g tb DT σ := hti _ ⟨P, h0, hs, hd⟩
end
end TL

set_option Elab.async false
set_option linter.all false
set_option maxRecDepth 100000
namespace TL
open PySem PySem.Spec PyProof.Rows L2
theorem app_codes (x y : Str) : (x ++ y).cps.toList = x.cps.toList ++ y.cps.toList := by
  show (x.cps ++ y.cps).toList = _
  simp
theorem ext_codes {x y : Str} (h : x.cps.toList = y.cps.toList) : x = y := by
  cases x with
  | mk a =>
    cases y with
    | mk b =>
      have : a = b := by simpa using congrArg List.toArray h
      rw [this]
theorem pick_codes (xs : Array Nat) (a k : Nat) : (List.range k).filterMap (fun m => xs[a + m]?) = (xs.toList.drop a).take k := by
  induction k with
  | zero => simp
  | succ k ih =>
    rw [List.range_succ, List.filterMap_append, ih, List.take_add_one, List.getElem?_drop]
    congr 1
    simp only [List.filterMap_cons, List.filterMap_nil]
    rw [Array.getElem?_toList]
    cases xs[a + k]? <;> rfl
theorem clip_ix (v : Option Int) (n d : Nat) (hd : d ≤ n) : (match v with | none => (d : Int) | some i => max 0 (min (if i < 0 then i + (n : Int) else i) (n : Int))) = ((HT.sIx n d v : Nat) : Int) := by
  cases v with
  | none => rfl
  | some i =>
    have := HT.clip_eq i n d
    rw [← this]
    dsimp only
    split <;> omega
theorem clip_ix0 (v : Option Int) (n : Nat) : (match v with | none => (0 : Int) | some i => max 0 (min (if i < 0 then i + (n : Int) else i) (n : Int))) = ((HT.sIx n 0 v : Nat) : Int) := clip_ix v n 0 (Nat.zero_le _)
theorem sr_congr {a a' b b' : Int} (h1 : a = a') (h2 : b = b') : sliceRange a b 1 = sliceRange a' b' 1 := by rw [h1, h2]
theorem slice_codes (z : Str) (lo hi : Option Int) : (Txt.slice z lo hi).cps.toList = cutD z.cps.toList lo hi := by
  have hn : z.cps.toList.length = z.length := by simp [Str.length]
  have ha := HT.sIx_le z.length 0 (Nat.zero_le _) lo
  have hb := HT.sIx_le z.length z.length (Nat.le_refl _) hi
  have hI : Builtin.Str.strSliceIndices lo hi 1 z.length = (List.range (HT.sIx z.length z.length hi - HT.sIx z.length 0 lo)).map (fun k => HT.sIx z.length 0 lo + k) := by
    unfold Builtin.Str.strSliceIndices
    simp only [show (1 : Int) > 0 by decide, if_true]
    refine (sr_congr (clip_ix0 lo z.length) (clip_ix hi z.length z.length (Nat.le_refl _))).trans ?_
    unfold sliceRange
    simp only [show (1 : Int) > 0 by decide, if_true]
    generalize HT.sIx z.length 0 lo = a
    generalize HT.sIx z.length z.length hi = b
    have ec : (if (a : Int) < (b : Int) then ((b : Int) - a + 1 - 1) / 1 else 0).toNat = b - a := by split <;> omega
    rw [ec]
    apply List.map_congr_left
    intro k _
    omega
  unfold Txt.slice cutD
  rw [hn, hI]
  generalize HT.sIx z.length 0 lo = a at *
  generalize HT.sIx z.length z.length hi = b at *
  split
  · next h =>
    simp only [beq_self_eq_true, Bool.true_and, beq_iff_eq, List.length_map, List.length_range] at h
    have h1 : a = 0 := by omega
    have h2 : b - a = z.cps.toList.length := by rw [hn]; exact h
    rw [h2, h1, List.drop_zero, List.take_length]
  · rw [List.filterMap_map]
    exact pick_codes z.cps a (b - a)
theorem join_codes : ∀ ys : List Str, (Txt.join ⟨#[]⟩ ys).cps.toList = (ys.map (·.cps.toList)).flatten := by
  intro ys
  show (Builtin.Str.glued ⟨#[]⟩ ys).cps.toList = _
  rw [StrLaws.glued_eq_join]
  induction ys with
  | nil => rfl
  | cons x ys ih =>
    cases ys with
    | nil => simp [Str.join]
    | cons y r =>
      show (x ++ ⟨#[]⟩ ++ Str.join ⟨#[]⟩ (y :: r)).cps.toList = _
      rw [app_codes, app_codes, ih]
      simp
theorem in_one (x : Str) (c : Nat) : Txt.contains x ⟨#[c]⟩ = decide (c ∈ x.cps.toList) := StrLaws.found_one x c
section
variable {te : ET} {u t e : STt} {c : TTt} {DT : EndsT} {σ : List Sl} {i : Nat}
theorem seq_set (v : D) (h : ∀ q : D → Prop, q v → te σ q) (k : u DT (σ.set i (.val v))) : sSeq (sSet i te) u DT σ := h _ k
theorem seq_setR (R : D → Prop) (h : ∀ q : D → Prop, (∀ v, R v → q v) → te σ q) (k : ∀ v, R v → u DT (σ.set i (.val v))) : sSeq (sSet i te) u DT σ := h _ k
theorem seq_if (R : Bool → Prop) (h : ∀ q : Bool → Prop, (∀ b, R b → q b) → c σ q) (k1 : R true → t { DT with nx := u DT } σ) (k0 : R false → e { DT with nx := u DT } σ) : sSeq (sIf c t e) u DT σ := by
  refine h _ fun b hb => ?_
  cases b with
  | true => rw [if_pos rfl]; exact k1 hb
  | false => rw [if_neg (by decide)]; exact k0 hb
theorem one_if (R : Bool → Prop) (h : ∀ q : Bool → Prop, (∀ b, R b → q b) → c σ q) (k1 : R true → t DT σ) (k0 : R false → e DT σ) : sIf c t e DT σ := by
  refine h _ fun b hb => ?_
  cases b with
  | true => rw [if_pos rfl]; exact k1 hb
  | false => rw [if_neg (by decide)]; exact k0 hb
theorem seq_for {ti : IT} {ts : List D} {g : GT} {tb : STt} (hti : Gives' ti σ ts) (P : Nat → List Sl → Prop) (h0 : P 0 σ)
    (hs : ∀ (k : Nat) (x : D) (σ' : List Sl), ts[k]? = some x → P k σ' → g x σ' fun σ2 => tb { DT with nx := P (k + 1), ct := P (k + 1), bk := u DT } σ2) (hd : ∀ σ', P ts.length σ' → u DT σ') : sSeq (sFor ti g tb) u DT σ :=
  forx (DT := { DT with nx := u DT }) hti P h0 hs hd
theorem seq_own {t : AT} (ds : List D) (hz : ds.length ≤ 1000) (h : ∀ q : List D → Prop, q ds → t σ q) (k : u DT (σ.set i (.own ds))) : sSeq (sOwn i t) u DT σ := h _ ⟨hz, k⟩
theorem seq_app {ts : List D} (v : D) (ho : σ[i]? = some (.own ts)) (hz : ts.length ≤ 100000) (h : ∀ q : D → Prop, q v → te σ q) (k : u DT (σ.set i (.own (ts ++ [v])))) : sSeq (sApp i te) u DT σ := ⟨ts, ho, h _ ⟨hz, k⟩⟩
theorem one_app {ts : List D} (v : D) (ho : σ[i]? = some (.own ts)) (hz : ts.length ≤ 100000) (h : ∀ q : D → Prop, q v → te σ q) (k : DT.nx (σ.set i (.own (ts ++ [v])))) : sApp i te DT σ := ⟨ts, ho, h _ ⟨hz, k⟩⟩
theorem one_set (v : D) (h : ∀ q : D → Prop, q v → te σ q) (k : DT.nx (σ.set i (.val v))) : sSet i te DT σ := h _ k
end
end TL

set_option Elab.async false
set_option linter.all false
set_option maxRecDepth 100000
namespace TL
open PySem PySem.Spec PyProof.Rows L2
mutual
theorem noDict : ∀ {d : D}, d.canLay0 = true → d.hasDict = false
  | .none, _ => rfl
  | .bool _, _ => rfl
  | .int _, _ => rfl
  | .str _, _ => rfl
  | .list _, h => noDictAll h
  | .tuple _, h => noDictAll h
  | .dict _, h => by cases h
theorem noDictAll : ∀ {ds : List D}, PyData.canLayAll0 ds = true → PyData.hasDictAll ds = false
  | [], _ => rfl
  | d :: ds, h => by
    have h' : (d.canLay0 && PyData.canLayAll0 ds) = true := h
    rw [Bool.and_eq_true] at h'
    show (d.hasDict || PyData.hasDictAll ds) = false
    rw [noDict h'.1, noDictAll h'.2]; rfl
end
section
variable {X : Cx} {a b e : Expr} {es : List Expr} {te : ET} {pos : Pos}
def rData (K : PySem.W.Frag) (ok : D → D → Prop) (f : D → D → Bool) : R2 := fun x y H Q => ∃ d1 d2, Rep K H d1 x ∧ Rep K H d2 y ∧ ok d1 d2 ∧ Q (.bl (f d1 d2)) H
def fData (ok : D → D → Prop) (f : D → D → Bool) (x y : D) (Q : D → Prop) : Prop := ok x y ∧ Q (.bool (f x y))
theorem o_data {ok : D → D → Prop} {f : D → D → Bool} : Op2 X (rData X.K ok f) (fData ok f) := by
  intro H ps d1 d2 x y Q QV live r1 r2 h k
  exact ⟨d1, d2, r1.same mask_le, r2.same mask_le, h.1, k _ _ H (L2.Same.refl H) (.bool _) h.2⟩
/-- plain enough to be compared -/
def okEq (d1 d2 : D) : Prop := d1.canLay0 = true ∧ d2.canLay0 = true ∧ min d1.depth d2.depth ≤ 60
theorem op_eqD {k : Nat} (hr : Room k X.A) : OpR X (compareOp .Eq) (rData X.K okEq PyData.eqv) := by
  intro pins s σ H x y v u Q I rx ry h
  obtain ⟨d1, d2, r1, r2, ⟨c1, c2, hm⟩, q⟩ := h
  obtain ⟨as, h1⟩ := Rep.reads I (noDict c1) r1 rx
  obtain ⟨bs, h2⟩ := Rep.reads I (noDict c2) r2 ry
  exact SeqAt.compareEq_reads h1 h2 c1 c2 (by have := hr.un; omega) ⟨.bl _, H, I, rfl, q⟩
theorem op_neD {k : Nat} (hr : Room k X.A) : OpR X (compareOp .NotEq) (rData X.K okEq fun x y => !PyData.eqv x y) := by
  intro pins s σ H x y v u Q I rx ry h
  obtain ⟨d1, d2, r1, r2, ⟨c1, c2, hm⟩, q⟩ := h
  obtain ⟨as, h1⟩ := Rep.reads I (noDict c1) r1 rx
  obtain ⟨bs, h2⟩ := Rep.reads I (noDict c2) r2 ry
  exact SeqAt.compareNe_reads h1 h2 c1 c2 (by have := hr.un; omega) ⟨.bl _, H, I, rfl, q⟩
def okIn (x y : D) : Prop := match y with
  | .list ts => PyData.canLayAll0 ts = true ∧ x.canLay0 = true ∧ min (PyData.depthAll ts) x.depth ≤ 60
  | .tuple ts => PyData.canLayAll0 ts = true ∧ x.canLay0 = true ∧ min (PyData.depthAll ts) x.depth ≤ 60
  | _ => False
def inD (x y : D) : Bool := match y with
  | .list ts => ts.any fun z => PyData.eqv z x
  | .tuple ts => ts.any fun z => PyData.eqv z x
  | _ => false
theorem op_notInData {k : Nat} (hr : Room k X.A) : OpR X (compareOp .NotIn) (rData X.K okIn fun x y => !inD x y) := by
  intro pins s σ H x y v u Q I rx ry h
  obtain ⟨d1, d2, r1, r2, ho, q⟩ := h
  have hd : d1.hasDict = false ∧ d2.hasDict = false := by
    cases d2 with
    | list ts => exact ⟨noDict ho.2.1, noDictAll ho.1⟩
    | tuple ts => exact ⟨noDict ho.2.1, noDictAll ho.1⟩
    | _ => exact ho.elim
  obtain ⟨as, h1⟩ := Rep.reads I hd.1 r1 rx
  obtain ⟨bs, h2⟩ := Rep.reads I hd.2 r2 ry
  cases d2 with
  | list ts => exact SeqAt.notIn_list_reads h2 h1 ho.1 ho.2.1 (by have := hr.un; have := ho.2.2; omega) ⟨.bl _, H, I, rfl, q⟩
  | tuple ts => exact SeqAt.notIn_tuple_reads h2 h1 ho.1 ho.2.1 (by have := hr.un; have := ho.2.2; omega) ⟨.bl _, H, I, rfl, q⟩
  | _ => exact ho.elim
def isNoneD : D → Bool
  | .none => true
  | _ => false
def fIs (x y : D) (Q : D → Prop) : Prop := match y with | .bool b => Q (.bool (isTrueD b x)) | .none => Q (.bool (isNoneD x)) | _ => False
theorem op_is2 : OpR X (compareOp .Is) (fun x y H Q => rIsB x y H Q ∨ (y = .non ∧ Q (.bl (decide (x = .non))) H)) := op_isB.or op_isN
theorem o_is2 : Op2 X (fun x y H Q => rIsB x y H Q ∨ (y = .non ∧ Q (.bl (decide (x = .non))) H)) fIs := by
  intro H ps d1 d2 x y Q QV live r1 r2 h k
  cases r2 with
  | bool b =>
    refine .inl ⟨b, rfl, ?_⟩
    have e : (decide (x = V.bl b)) = isTrueD b d1 := by cases r1 <;> simp [isTrueD]
    rw [e]
    exact k _ _ H (L2.Same.refl H) (.bool _) h
  | none =>
    refine .inr ⟨rfl, ?_⟩
    have e : (decide (x = V.non)) = isNoneD d1 := by cases r1 <;> simp [isNoneD]
    rw [e]
    exact k _ _ H (L2.Same.refl H) (.bool _) h
  | _ => exact h.elim
end
end TL

set_option Elab.async false
set_option linter.all false
set_option maxRecDepth 100000
namespace L2
open PySem PySem.Spec PyProof.Rows
section
variable {P : Program} {w : World} {A : Around} {E : Value → Shared → Prop} {s : Shared}
end
section
variable {P : Program} {w : World} {A : Around} {E : Value → Shared → Prop} {s : Shared} {z TI TO i1 i2 l1 l2 : Addr} {st1 st2 : Nat → Heap → Prop} {src1 src2 : Array Value → Heap → Prop} {k : Nat} {xs ys : Array Value} {a b : Value}
end
section
variable {X : Cx} {pins : List (Addr × Obj)} {σ : St} {H : Hp} {s : Shared} {h' : Heap}
end
end L2
namespace L2
open PySem PySem.Spec PyProof.Rows
section
variable {P : Program} {w : World} {A : Around} {E : Value → Shared → Prop} {s : Shared}
end
section
variable {X : Cx}
end
end L2
namespace TL
open PySem PySem.Spec PyProof.Rows L2
variable {K : PySem.W.Frag}
section
variable {X : Cx} {a b : Expr} {pos : Pos}
end
section
variable {fr : List (Option Nat)} {ti : IT} {tt : TTt} {te : ET} {σ : List Sl} {Q : D → Prop} {ts : List D}
end
end TL

set_option Elab.async false
set_option linter.all false
set_option maxRecDepth 100000
namespace L2
open PySem PySem.Spec PyProof.Rows PySem.SeqAt
open AutoSeq1 (wpAny_loadPart')
section
variable {X : Cx}
end
end L2
namespace TL
open PySem PySem.Spec PyProof.Rows L2 PySem.SeqAt
section
variable {X : Cx} {a b e : Expr} {es : List Expr} {te ta tb : ET} {pos : Pos}
def okIx (ts : List D) (d : D) (j : Nat) : Prop := PyData.canLayAll0 ts = true ∧ d.canLay0 = true ∧ min (PyData.depthAll ts) d.depth ≤ 60 ∧ (∃ t, ts[j]? = some t ∧ PyData.eqv t d = true) ∧ ∀ (m : Nat) t, m < j → ts[m]? = some t → PyData.eqv t d = false
def eRep (n : Int) (t : AT) : ET := fun σ Q => t σ fun ds => ds.length ≤ 1000 ∧ 0 ≤ n ∧ n ≤ 1000 ∧ Q (.list (List.replicate n.toNat ds).flatten)
theorem Reps.rep {K : PySem.W.Frag} {H : Hp} {ds : List D} {vs : List V} (r : Reps K H ds vs) : ∀ n : Nat, Reps K H (List.replicate n ds).flatten (List.replicate n vs).flatten
  | 0 => .nil
  | n + 1 => by
    rw [List.replicate_succ, List.replicate_succ, List.flatten_cons, List.flatten_cons]
    exact r.append (Reps.rep r n)
theorem et_rep {n : Int} {j : Nat} {pi p2 : Pos} {t : AT} (h : PAt X es t) : PEt X (.BinOp (.List es p2) .Mult (.Constant (.int n) j pi) pos) (eRep n t) := by
  obtain ⟨v, p, r⟩ := h
  refine ⟨_, pe_op op_rep (pe_lst p) pe_int, fun B p0 H ps σT σ Q QV o h k => r B p0 H ps σT σ _ _ o h fun ds xs H1 s1 r1 q1 => ?_⟩
  obtain ⟨hz, h0, h1, q⟩ := q1
  have hl := r1.length
  refine ⟨le_line (by rw [← hl]; exact hz), fun p hp => ?_⟩
  have o1 := o.grow s1
  refine ⟨p, n, xs, rfl, rfl, upd_same, by omega, by omega, ?_, fun p' hp' => ?_⟩
  · have : xs.length * n.toNat ≤ 1000 * 1000 := Nat.mul_le_mul (by omega) (by omega)
    have hL : sizeLine = 2 ^ 24 := rfl
    omega
  · have live : ∀ q ∈ ps, upd H1 p (.lst xs) q ≠ none := fun q hq => by
      rw [upd_ne (fun z => o1.live q hq (by rw [z]; exact hp))]
      exact o1.live q hq
    exact k _ _ _ (s1.trans ((same_new hp).trans (same_new hp'))) (rep_lst live hp' ((r1.same (mask_same (same_new hp))).rep n.toNat)) q
end
end TL

set_option Elab.async false
set_option linter.all false
set_option maxRecDepth 100000
namespace TL
open PySem PySem.Spec PyProof.Rows L2
section
variable {K : PySem.W.Frag} {H H' : Hp} {B : Hp} {p0 ps : List Addr} {σT : List Sl} {σ : L2.St}
def flatD : D → Bool
  | .none => true
  | .bool _ => true
  | .int _ => true
  | .str _ => true
  | _ => false
theorem Rep.flat {d : D} {v : V} (r : Rep K H d v) (h : flatD d = true) : Rep K H' d v := by
  cases r with
  | none => exact .none
  | bool b => exact .bool b
  | int i => exact .int i
  | str x => exact .str x
  | _ => cases h
theorem Reps.snoc : ∀ {ts : List D} {d : D} {xs : List V}, Reps K H (ts ++ [d]) xs → ∃ ys y, xs = ys ++ [y] ∧ Reps K H ts ys ∧ Rep K H d y
  | [], d, _, r => by
    rw [List.nil_append] at r
    cases r with
    | cons r1 r2 => cases r2; exact ⟨[], _, rfl, .nil, r1⟩
  | t :: ts, d, _, r => by
    rw [List.cons_append] at r
    cases r with
    | cons r1 r2 =>
      obtain ⟨ys, y, rfl, h1, h2⟩ := Reps.snoc r2
      exact ⟨_ :: ys, y, rfl, .cons r1 h1, h2⟩
def without (H : Hp) (p : Addr) : Hp := fun b => if b = p then none else H b
theorem without_mask {p : Addr} : mask (without H p) ps = mask H (p :: ps) := by
  funext b
  unfold mask without
  by_cases h1 : b = p
  · simp [h1]
  · by_cases h2 : b ∈ ps <;> simp [h1, h2]
theorem without_same {p : Addr} (s : Same H H') (hp : H p = none) : Same H (without H' p) := fun b o e => by
  unfold without
  rw [if_neg fun z => by rw [z, hp] at e; cases e]
  exact s b o e
theorem without_upd {p : Addr} {u : HO} (hx : H p = some u) : upd (without H p) p u = H := by
  funext b
  by_cases h : b = p
  · subst h; rw [upd_same, hx]
  · rw [upd_ne h]
    unfold without
    rw [if_neg h]
theorem Same.free' (s : Same H H') {p : Addr} (h : H' p = none) : H p = none := by
  cases q : H p with
  | none => rfl
  | some u => rw [s p u q] at h; cases h
/-- a list that was not there becomes the def's own -/
theorem Ok.takeOwn (o : Ok K B p0 H ps σT σ) {i : Nat} {ts : List D} {xs : List V} {p : Addr} (s : Same H H') (hp : H p = none) (hx : H' p = some (.lst xs)) (r : Reps K (mask H' (p :: ps)) ts xs) :
    Ok K B p0 H' (p :: ps) (σT.set i (.own ts)) (σ.set i (some (.ref p))) := by
  have o1 := o.grow (without_same s hp)
  have hn : without H' p p = none := by unfold without; rw [if_pos rfl]
  have := o1.setOwn (i := i) (ts := ts) (xs := xs) hn (by rw [without_mask]; exact r)
  rwa [without_upd hx] at this
end
section
variable {X : Cx} {a b c e : Expr} {es : List Expr} {ta tb te : ET} {pos : Pos}
def cBorrow (i : Nat) (t : TTt) : TTt := fun σ Q => ∃ ts, σ[i]? = some (.own ts) ∧ t (σ.set i (.val (.list ts))) Q
theorem tt_borrow (i : Nat) {t : TTt} (h : PTt X e t) : PTt X e (cBorrow i t) := by
  obtain ⟨v, p, r⟩ := h
  refine ⟨_, p, fun B p0 H ps σT σ Q QV o h k => ?_⟩
  obtain ⟨ts, e, h⟩ := h
  obtain ⟨ps', o', s'⟩ := o.share e
  exact r B p0 H ps' _ σ _ _ o' h k
abbrev FT := List Sl → (List D → Prop) → Prop
def PFt (X : Cx) (e : Expr) (t : FT) : Prop := ∃ te : TE, PE X e te ∧ ∀ (B : Hp) (p0 : List Addr) (H : Hp) (ps : List Addr) (σT : List Sl) (σ : L2.St) (Q : List D → Prop) (QV : VK), Ok X.K B p0 H ps σT σ → t σT Q →
  (∀ ts p xs H', Same H H' → H p = none → H' p = some (.lst xs) → Reps X.K (mask H' (p :: ps)) ts xs → Q ts → QV (.ref p) H') → te σ H QV
/-- own + b -/
def fAddO (i : Nat) (tb : ET) : FT := fun σ Q => ∃ ts, σ[i]? = some (.own ts) ∧ tb σ fun y => ∃ bs, y = .list bs ∧ ts.length + bs.length ≤ 100000 ∧ Q (ts ++ bs)
theorem ft_addO {i : Nat} {n : Expr} (hn : PE X n (tVar i)) (hb : PEt X b tb) : PFt X (.BinOp n .Add b pos) (fAddO i tb) := by
  obtain ⟨vb, pb, rb⟩ := hb
  refine ⟨_, pe_op op_catL hn pb, fun B p0 H ps σT σ Q QV o h k => ?_⟩
  obtain ⟨ts, e, h⟩ := h
  obtain ⟨q, xs, h1, h2, h3, h4, h5, h6⟩ := o.own i ts e
  refine ⟨.ref q, h1, rb B p0 H ps σT σ _ _ o h fun d2 y H2 s2 r2 q2 => ?_⟩
  obtain ⟨bs, rfl, hz, q2⟩ := q2
  cases r2 with
  | list g2 t2 =>
    refine ⟨_, _, _, _, rfl, rfl, SqL.of (s2 _ _ h5), L2.Same.seq mask_le g2, line5 (by rw [← h6.length, ← t2.length]; exact hz), fun p hp => ?_⟩
    exact k _ p _ _ (s2.trans (same_new hp)) (Same.free' s2 hp) upd_same (by rw [mask_new hp]; exact (h6.same (mask_same s2)).append t2) q2
def sSetF (i : Nat) (t : FT) : STt := fun DT σ => t σ fun ts => DT.nx (σ.set i (.own ts))
theorem setF_read {i : Nat} {t : FT} {v : TE} (r : ∀ (B : Hp) (p0 : List Addr) (H : Hp) (ps : List Addr) (σT : List Sl) (σ : L2.St) (Q : List D → Prop) (QV : VK), Ok X.K B p0 H ps σT σ → t σT Q →
      (∀ ts p xs H', Same H H' → H p = none → H' p = some (.lst xs) → Reps X.K (mask H' (p :: ps)) ts xs → Q ts → QV (.ref p) H') → v σ H QV)
    (B : Hp) (p0 : List Addr) (H : Hp) (ps : List Addr) (σT : List Sl) (σ : L2.St) (DT : EndsT) (DV : Ends) (o : Ok X.K B p0 H ps σT σ) (h : sSetF i t DT σT) (f : Fits X.K B p0 H ps DT DV) : tAsg v (gName i) DV σ H := by
  refine r B p0 H ps σT σ _ _ o h fun ts p xs H' s hp hx rs q => ?_
  exact f.nx H' (p :: ps) _ _ (o.takeOwn s hp hx rs) (by rw [← without_mask]; exact mask_same (without_same s hp)) q
theorem st_setF {i : Nat} {x : Str} {pos' : Pos} {t : FT} (h : PFt X e t) (ps' : ∀ {v : TE}, PE X e v → PS X (.Assign [.Name x pos'] e pos) (tAsg v (gName i))) : PSt X (.Assign [.Name x pos'] e pos) (sSetF i t) := by
  obtain ⟨v, p, r⟩ := h
  exact ⟨_, ps' p, setF_read r⟩
def sWhile (c : TTt) (tb : STt) : STt := fun DT σ => ∃ P : Nat → List Sl → Prop, (∃ n, P n σ) ∧ ∀ n σ', P n σ' → c σ' fun b => if b = true then tb { DT with nx := fun σ2 => ∃ m, m < n ∧ P m σ2, ct := fun σ2 => ∃ m, m < n ∧ P m σ2, bk := DT.nx } σ' else DT.nx σ'
theorem st_while {c : Expr} {body : List Stmt} {tc : TTt} {tb : STt} (hc : PTt X c tc) (hb : PSst X body tb) (pw : ∀ {vc : TT} {vb : TS}, PT X c vc → PSs X body vb → PS X (.While c body [] pos) (tWhile vc vb)) : PSt X (.While c body [] pos) (sWhile tc tb) := by
  obtain ⟨vc, pc, rc⟩ := hc
  obtain ⟨vb, pb, rb⟩ := hb
  refine ⟨_, pw pc pb, fun B p0 H ps σT σ DT DV o h f => ?_⟩
  obtain ⟨P, ⟨n0, h0⟩, hs⟩ := h
  refine ⟨fun n σ' H' => ∃ ps' σT', Ok X.K B p0 H' ps' σT' σ' ∧ Same (mask H ps) (mask H' ps') ∧ P n σT', ⟨n0, ps, σT, o, L2.Same.refl _, h0⟩, ?_⟩
  rintro n σ' H' ⟨ps', σT', o', s', p'⟩
  refine rc B p0 H' ps' σT' σ' _ _ o' (hs n σT' p') fun b H1 s1 q1 => ?_
  have f' : Fits X.K B p0 H1 ps' DT DV := (f.later s').later (mask_same s1)
  have s'' : Same (mask H ps) (mask H1 ps') := s'.trans (mask_same s1)
  cases b with
  | true =>
    rw [if_pos rfl] at q1 ⊢
    refine ⟨fun σ2 H2 => ∃ m, m < n ∧ ∃ ps2 σT2, Ok X.K B p0 H2 ps2 σT2 σ2 ∧ Same (mask H ps) (mask H2 ps2) ∧ P m σT2, fun σ2 H2 z => z, ?_⟩
    exact rb B p0 H1 ps' σT' σ' _ _ (o'.grow s1) q1 ⟨fun H4 ps4 σT4 σ4 o4 s4 ⟨m, hm, q4⟩ => ⟨m, hm, ps4, σT4, o4, s''.trans s4, q4⟩, fun H4 ps4 σT4 σ4 o4 s4 q4 => f'.nx H4 ps4 σT4 σ4 o4 s4 q4, fun H4 ps4 σT4 σ4 o4 s4 ⟨m, hm, q4⟩ => ⟨m, hm, ps4, σT4, o4, s''.trans s4, q4⟩, f'.rt, f'.ro, f'.rp, f'.xb⟩
  | false =>
    rw [if_neg (by decide)] at q1 ⊢
    exact f'.nx H1 ps' σT' σ' (o'.grow s1) (L2.Same.refl _) q1
def sPop (i : Nat) (g : GT) : STt := fun DT σ => ∃ ts d, σ[i]? = some (.own (ts ++ [d])) ∧ g d (σ.set i (.own ts)) DT.nx
theorem st_pop {i : Nat} {n tg : Expr} {g : GT} {ap cp : Pos} (hn : PE X n (tVar i)) (hg : PGt X tg g)
    (pa : ∀ {gv : TG}, PG X tg gv → PS X (.Assign [tg] (.Call (.Attribute n "pop" ap) [] [] cp) pos) (tAsg (tBM0 X.K "list" rPop (tVar i)) gv)) : PSt X (.Assign [tg] (.Call (.Attribute n "pop" ap) [] [] cp) pos) (sPop i g) := by
  obtain ⟨gv, pg, rg⟩ := hg
  refine ⟨_, pa pg, fun B p0 H ps σT σ DT DV o h f => ?_⟩
  obtain ⟨ts, d, e, h⟩ := h
  obtain ⟨q, xs, h1, h2, h3, h4, h5, h6⟩ := o.own i _ e
  obtain ⟨ys, y, rfl, r1, r2⟩ := h6.snoc
  refine ⟨.ref q, h1, .inl ⟨rfl, _, SqL.of h5⟩, q, ys ++ [y], y, rfl, rfl, h5, by simp, ?_⟩
  rw [List.dropLast_concat]
  have o1 := o.write (us := ts) (ys := ys) e h1 r1
  have hm : mask (upd H q (.lst ys)) ps = mask H ps := mask_upd h2
  refine rg B p0 _ ps _ σ d y _ _ o1 (by rw [hm]; exact r2) h fun σT' σ' o' _ q' => f.nx _ ps _ _ o' (by rw [hm]; exact L2.Same.refl _) q'
def gP3 (i j k : Nat) : GT := fun d σ Q => ∃ a b c, d = .tuple [a, b, c] ∧ Q (((σ.set i (.val a)).set j (.val b)).set k (.val c))
theorem gt_triple {i j k : Nat} {t : Expr} (h : PG X t (gTup X.K 3 (gCons (gName i) (gCons (gName j) (gCons (gName k) gNil))))) : PGt X t (gP3 i j k) :=
  ⟨_, h, fun B p0 H ps σT σ d v Q QV o r h k => by
    obtain ⟨a, b, c, rfl, h⟩ := h
    cases r with
    | @tuple p xs _ hq r =>
      cases r with
      | cons ra r =>
        cases r with
        | cons rb r =>
          cases r with
          | cons rc r =>
            cases r
            exact ⟨_, _, rfl, Same.seqT mask_le hq, rfl, _, _, rfl, _, _, rfl, _, _, rfl, rfl, k _ _ (((o.set ra).set rb).set rc) (fun n => noOwn_set (noOwn_set (noOwn_set n _ _) _ _) _ _) h⟩⟩
def sUnpG (te : ET) (g : GT) : STt := fun DT σ => te σ fun d => g d σ DT.nx
theorem st_unpG {tg : Expr} {g : GT} (he : PEt X e te) (hg : PGt X tg g) (pa : ∀ {v : TE} {gv : TG}, PE X e v → PG X tg gv → PS X (.Assign [tg] e pos) (tAsg v gv)) : PSt X (.Assign [tg] e pos) (sUnpG te g) := by
  obtain ⟨v, pe, re⟩ := he
  obtain ⟨gv, pg, rg⟩ := hg
  refine ⟨_, pa pe pg, fun B p0 H ps σT σ DT DV o h f => re B p0 H ps σT σ _ _ o h fun d x H1 s1 r1 q1 => ?_⟩
  exact rg B p0 H1 ps σT σ d x _ _ (o.grow s1) r1 q1 fun σT' σ' o' _ q' => f.nx H1 ps _ _ o' (mask_same s1) q'
def eIf (c : TTt) (ta tb : ET) : ET := fun σ Q => c σ fun b => if b = true then ta σ Q else tb σ Q
theorem et_if {tc : TTt} (hc : PTt X c tc) (ha : PEt X a ta) (hb : PEt X b tb) : PEt X (.IfExp c a b pos) (eIf tc ta tb) := by
  obtain ⟨vc, pc, rc⟩ := hc
  obtain ⟨va, pa, ra⟩ := ha
  obtain ⟨vb, pb, rb⟩ := hb
  refine ⟨_, pe_ifExp pc pa pb, fun B p0 H ps σT σ Q QV o h k => rc B p0 H ps σT σ _ _ o h fun d H1 s1 q1 => ?_⟩
  cases d with
  | true =>
    rw [if_pos rfl] at q1 ⊢
    exact ra B p0 H1 ps σT σ Q _ (o.grow s1) q1 fun d v H' s' r' q' => k d v H' (s1.trans s') r' q'
  | false =>
    rw [if_neg (by decide)] at q1 ⊢
    exact rb B p0 H1 ps σT σ Q _ (o.grow s1) q1 fun d v H' s' r' q' => k d v H' (s1.trans s') r' q'
def gInt (d : D) (Q : D → Prop) : Prop := match d with
  | .int i => Q (.int i)
  | .bool b => Q (.int (if b then 1 else 0))
  | _ => False
theorem c_int : CallT X (fun xs H Q => (∃ i, xs = [.int i] ∧ Q (.int i) H) ∨ ∃ k, xs = [.bl k] ∧ Q (.int (if k then 1 else 0)) H) (f1 gInt) := c1 fun H ps d x Q QV live r h k => by
  cases r with
  | int i => exact .inl ⟨i, rfl, k _ _ H (L2.Same.refl H) (.int _) h⟩
  | bool b => exact .inr ⟨b, rfl, k _ _ H (L2.Same.refl H) (.int _) h⟩
  | _ => exact h.elim
end
end TL

set_option Elab.async false
set_option linter.all false
set_option maxRecDepth 100000
namespace L2
open PySem PySem.Spec PyProof.Rows PySem.SeqAt
open AutoSeq1 (wpAny_loadPart')
section
variable {X : Cx} {pins : List (Addr × Obj)} {σ : St} {H : Hp} {s : Shared} {p : Addr}
/-- what stands at p is told otherwise; nothing moves -/
theorem Inv.retold {u u' : HO} (I : Inv X pins σ H s) (h : H p = some u) (nt : ∀ xs, u ≠ .tup xs) (nf : ∀ o v, u ≠ .frz o v) (nb : ∀ ps, u ≠ .tbl ps) (no : ∀ a, u ≠ .own a) (new : ObjOk X.prog X.w (upd H p u') s.heap p u') : Inv X pins σ (upd H p u') s := by
  have ne : ∀ b v, H b = some v → v ≠ u → upd H p u' b = some v := fun b v e hv => by
    rw [upd_ne fun z => by rw [z, h] at e; exact hv (Option.some.inj e).symm]
    exact e
  have fin := I.step (h' := s.heap) (H' := upd H p u') (g' := s.gens) (t' := s.toks) (d' := s.drawn) (ch := []) (fun b hb => by cases hb) (fun b o _ _ _ e _ => e) (fun b o _ _ _ e _ => ⟨o.slots, e⟩)
    (fun b o _ e n => by rw [upd_ne fun z => by rw [z, h] at n; cases n]; exact n) (fun b o _ e => ⟨o, e⟩) (fun b xs e => ne _ _ e (fun z => nt xs z.symm)) (fun b o v e => ne _ _ e (fun z => nf o v z.symm))
    (fun b ps e => ⟨#[], by rw [ne _ _ e (fun z => nb ps z.symm)]; simp⟩) (fun m hm => hm) (fun b v e => ?_) I.bare
  · exact fin
  · by_cases hb : b = p
    · subst hb; rw [upd_same] at e; cases e; exact new
    · rw [upd_ne hb] at e
      exact (I.hok b v e).stay (fun c w _ q => q) (fun c q => ne _ _ q fun z => no b z.symm) fun c xs q => ne _ _ q fun z => nt xs z.symm
theorem nums_stable {p : Addr} : ∀ h1 h2 : Heap, TL.numsAt p h1 → (∀ o, h1.get? p = some o → h2.get? p = some o) → TL.numsAt p h2 := fun h1 h2 ⟨its, n, e, r⟩ k => ⟨its, n, k _ e, r⟩
theorem Inv.openNums (I : Inv X pins σ H s) (h : H p = some (.ext (TL.numsAt p))) : ∃ ns : List Int, ns.length ≤ 1000 ∧ (∀ i ∈ ns, 0 ≤ i ∧ i < 4096) ∧ Inv X pins σ (upd H p (.lst (ns.map V.int))) s := by
  obtain ⟨⟨its, n, e, hl, hv⟩, _⟩ := I.hok p _ h
  have all : ∀ its : List Value, (∀ v ∈ its, ∃ (i : Int) (t : Tok), v = .int i t ∧ 0 ≤ i ∧ i < 4096) → ∃ ns : List Int, ns.length = its.length ∧ (∀ i ∈ ns, 0 ≤ i ∧ i < 4096) ∧ Vals (ns.map V.int) its := fun its => by
    induction its with
    | nil => exact fun _ => ⟨[], rfl, fun i hi => by simp at hi, .nil⟩
    | cons v its ih =>
      intro hv
      obtain ⟨i, t, rfl, h0, h1⟩ := hv v (List.mem_cons_self ..)
      obtain ⟨ns, hl, hn, hr⟩ := ih fun u hu => hv u (List.mem_cons_of_mem _ hu)
      refine ⟨i :: ns, by simp [hl], fun j hj => ?_, .cons ⟨t, rfl⟩ hr⟩
      rcases List.mem_cons.mp hj with rfl | hj
      · exact ⟨h0, h1⟩
      · exact hn j hj
  obtain ⟨ns, hnl, hn, hr⟩ := all its hv
  refine ⟨ns, by omega, hn, I.retold h (fun xs z => by cases z) (fun o v z => by cases z) (fun ps z => by cases z) (fun a z => by cases z) ⟨?_, its, n, hr, e⟩⟩
  rw [List.length_map]
  have hL : sizeLine = 2 ^ 24 := rfl
  omega
theorem Inv.closeNums {ns : List Int} (I : Inv X pins σ H s) (h : H p = some (.lst (ns.map V.int))) (hl : ns.length ≤ 1000) (hn : ∀ i ∈ ns, 0 ≤ i ∧ i < 4096) : Inv X pins σ (upd H p (.ext (TL.numsAt p))) s := by
  obtain ⟨z, its, n, r, e⟩ := I.hok p _ h
  have hlen := r.length
  rw [List.length_map] at hlen
  have hv : ∀ v ∈ its, ∃ (i : Int) (t : Tok), v = .int i t ∧ 0 ≤ i ∧ i < 4096 := fun v hv => by
    obtain ⟨k, hk⟩ := List.getElem?_of_mem hv
    have hk' : k < ns.length := by rw [hlen]; exact (List.getElem?_eq_some_iff.mp hk).1
    obtain ⟨u, h1, t, h2⟩ := r.get (i := k) (x := .int ns[k]) (by rw [List.getElem?_map, List.getElem?_eq_getElem hk']; rfl)
    rw [hk] at h1
    cases h1
    exact ⟨_, t, h2, hn _ (List.getElem_mem hk')⟩
  exact I.retold h (fun xs z => by cases z) (fun o v z => by cases z) (fun ps z => by cases z) (fun a z => by cases z) ⟨⟨its, n, e, by omega, hv⟩, ⟨_, e⟩, nums_stable⟩
/-- statements over a list of numbers that was handed in: it is a list meanwhile -/
def tNums (p : Addr) (t : TS) : TS := fun D σ H => H p = some (.ext (TL.numsAt p)) ∧ ∀ ns : List Int, ns.length ≤ 1000 → (∀ i ∈ ns, 0 ≤ i ∧ i < 4096) →
  t { nx := fun σ' H' => ∃ ms : List Int, H' p = some (.lst (ms.map V.int)) ∧ ms.length ≤ 1000 ∧ (∀ i ∈ ms, 0 ≤ i ∧ i < 4096) ∧ D.nx σ' (upd H' p (.ext (TL.numsAt p))),
      rt := fun v H' => ∃ ms : List Int, H' p = some (.lst (ms.map V.int)) ∧ ms.length ≤ 1000 ∧ (∀ i ∈ ms, 0 ≤ i ∧ i < 4096) ∧ D.rt v (upd H' p (.ext (TL.numsAt p))) } σ (upd H p (.lst (ns.map V.int)))
theorem pss_nums {sts : List Stmt} {t : TS} (p : Addr) (h : PSs X sts t) : PSs X sts (tNums p t) := by
  intro pins s σ H D I ⟨hp, hh⟩
  obtain ⟨ns, hl, hn, I1⟩ := I.openNums hp
  refine thn (h pins s σ _ _ I1 (hh ns hl hn)) fun f s' q => ?_
  cases f with
  | next =>
    obtain ⟨σ', H', I', ms, e, h1, h2, q⟩ := q
    exact ⟨σ', _, I'.closeNums e h1 h2, q⟩
  | ret u =>
    obtain ⟨v, σ', H', I', r, ms, e, h1, h2, q⟩ := q
    exact ⟨v, σ', _, I'.closeNums e h1 h2, r, q⟩
  | brk => obtain ⟨_, _, _, q⟩ := q; exact q.elim
  | cont => obtain ⟨_, _, _, q⟩ := q; exact q.elim
/-- a list of numbers just made is handed on as one that may change -/
theorem pe_close {e : Expr} {te : TE} (h : PE X e te) : PE X e (fun σ H Q => te σ H fun v H' => ∃ (p : Addr) (ns : List Int), v = .ref p ∧ H' p = some (.lst (ns.map V.int)) ∧ ns.length ≤ 1000 ∧ (∀ i ∈ ns, 0 ≤ i ∧ i < 4096) ∧ Q (.ref p) (upd H' p (.ext (TL.numsAt p)))) := by
  intro pins s σ H Q I hq
  refine thn (h pins s σ H _ I hq) fun u s' ⟨v, H', I', r, q⟩ => ?_
  obtain ⟨p, ns, rfl, e, h1, h2, q⟩ := q
  exact ⟨.ref p, _, I'.closeNums e h1 h2, r, q⟩
end
theorem extend_lst (l : Addr) (items : Array Value) (n : Nat) (b : Addr) (items2 : Array Value) (n2 : Nat) (dd : Option Addr) (sl : Array (Option Value)) (hc0 : ¬(!items.isEmpty && Builtin.List.listTooLong (items.size + items2.size)) = true) (hc1 : items.size ≤ sizeLine) (hs2 : items.size + items2.size ≤ sizeLine + 1) :
    Meets (Builtin.«list.extend» ⟨[.ref l, .ref b], []⟩) (fun _ R s => s.heap.get? l = some { cls := .type "list", dict := none, data := .seq items n, slots := #[] } ∧ s.heap.get? b = some { cls := .type "list", dict := dd, data := .seq items2 n2, slots := sl } ∧ R (.ok (.ret Value.none)) { s with heap := s.heap.update l (Obj.mapSeq fun x => x ++ items2), toks := s.toks }) :=
  .of_wp fun prog w A R s h => by
    obtain ⟨hp, g, d, tk, os⟩ := s; obtain ⟨hl, hb, h⟩ := h; have f1 := AutoSeq1.idx_int; have f2 := AutoSeq1.sub_tuple_tuple; have f3 := AutoSeq1.sub_list_list; have f4 := AutoSeq1.sub_tuple_list; have f5 := AutoSeq1.sub_list_tuple
    have hz' : (items ++ items2).size ≤ sizeLine + 1 := by rw [Array.size_append]; exact hs2
    wp_walk using (wpAny_updateSeq hl rfl (hz := hc1) (_hz' := hz')), wpAny_loadPart' hl, wpAny_loadPart' hb
    exact ⟨_, rfl, h⟩
section
variable {X : Cx}
def rExtL (K : PySem.W.Frag) : V → List V → Hp → VK → Prop := fun x vs H Q => ∃ l b xs zs, x = .ref l ∧ vs = [.ref b] ∧ H l = some (.lst xs) ∧ SqL K H b zs ∧ xs.length + zs.length ≤ sizeLine ∧ Q .non (upd H l (.lst (xs ++ zs)))
theorem mt_extL : MtM X "list.extend" (rExtL X.K) := by
  intro pins s σ H x vs v us Q I rx rv h
  obtain ⟨l, b, xs, zs, rfl, rfl, hH, hB, hz, q⟩ := h
  cases rx
  obtain ⟨u, rfl, ru⟩ := rv.one
  cases ru
  obtain ⟨z, its, n, r, hl, e⟩ := I.lstM hH
  obtain ⟨its2, r2, ⟨o, n2, e2, hc, hdn, hd⟩, z2⟩ := I.list hB
  have hl2 := r2.length
  have hsz : its.toArray.size + its2.toArray.size ≤ sizeLine := by rw [List.size_toArray, List.size_toArray]; omega
  have hlong : ¬ (!its.toArray.isEmpty && Builtin.List.listTooLong (its.toArray.size + its2.toArray.size)) = true := by
    rw [notLongL hsz, Bool.and_false]
    exact Bool.false_ne_true
  obtain ⟨oc, od, odt, osl⟩ := o
  cases hc
  cases hd
  refine call_meets F.slot_list_extend ⟨_, e, rfl⟩ F.entry_list_extend (F.args_list_extend_2 _ _) (extend_lst l its.toArray n b its2.toArray n2 od osl hlong (by rw [List.size_toArray]; omega) (by omega)) ⟨e, e2, ?_⟩
  refine ⟨.non, _, I.lset (its' := its ++ its2) hH e (by simp) (r.append r2) ?_, rfl, q⟩
  rw [List.length_append]
  omega
end
end L2
namespace TL
open PySem PySem.Spec PyProof.Rows L2
section
variable {X : Cx} {a b c e : Expr} {es : List Expr} {ta tb te : ET} {pos : Pos}
def sExtL (i : Nat) (te : ET) : STt := fun DT σ => ∃ ts, σ[i]? = some (.own ts) ∧ te σ fun d => ∃ us, d = .list us ∧ ts.length + us.length ≤ 100000 ∧ DT.nx (σ.set i (.own (ts ++ us)))
theorem st_extL {i : Nat} {n e : Expr} {te : ET} {ap cp : Pos} (hn : PE X n (tVar i)) (he : PEt X e te) (hs : starEach [e] X.env = (false, eval e X.env) :: starEach [] X.env := by rfl)
    (pb : ∀ {ta : TA}, PA X [e] ta → PS X (.Expr (.Call (.Attribute n "extend" ap) [e] [] cp) pos) (tDrop (tBM X.K "list" (rExtL X.K) (tVar i) ta))) : PSt X (.Expr (.Call (.Attribute n "extend" ap) [e] [] cp) pos) (sExtL i te) := by
  obtain ⟨v, p, r⟩ := he
  refine ⟨_, pb (pa_cons p pa_nil hs), fun B p0 H ps σT σ DT DV o h f => ?_⟩
  obtain ⟨ts, e, h⟩ := h
  obtain ⟨q, xs, h1, h2, h3, h4, h5, h6⟩ := o.own i ts e
  refine ⟨.ref q, h1, .inl ⟨rfl, xs, SqL.of h5⟩, r B p0 H ps σT σ _ _ o h fun d x H1 s1 r1 q1 => ?_⟩
  obtain ⟨us, rfl, hz, q1⟩ := q1
  have o1 := o.grow s1
  cases r1 with
  | @list p2 zs _ hq rs =>
    refine ⟨q, p2, xs, zs, rfl, rfl, s1 _ _ h5, L2.Same.seq mask_le hq, line5 (by rw [← h6.length, ← rs.length]; exact hz), ?_⟩
    have hr : Reps X.K (mask H1 ps) (ts ++ us) (xs ++ zs) := (h6.same (mask_same s1)).append rs
    exact f.nx _ ps _ σ (o1.write (ys := xs ++ zs) e h1 hr) ((mask_same s1).trans (by rw [mask_upd h2]; exact L2.Same.refl _)) q1
def fSlL (te : ET) (tl th : OT) : FT := fun σ Q => te σ fun x => tl σ fun l => th σ fun u => ∃ ts, x = .list ts ∧ Q (cutD ts l u)
theorem ft_slice {lo hi : Option Expr} {tl th : OT} {p2 : Pos} (he : PEt X e te) (hl : POt X lo tl) (hu : POt X hi th) : PFt X (.Subscript e (.Slice lo hi none p2) pos) (fSlL te tl th) := by
  obtain ⟨ve, pe, re⟩ := he
  obtain ⟨vl, pl, rl⟩ := hl
  obtain ⟨vu, pu, ru⟩ := hu
  refine ⟨_, pe_slice sl_list pe pl pu, fun B p0 H ps σT σ Q QV o h k => re B p0 H ps σT σ _ _ o h fun d x H1 s1 r1 q1 => ?_⟩
  refine rl B p0 H1 ps σT σ _ _ (o.grow s1) q1 fun l H2 s2 q2 => ?_
  refine ru B p0 H2 ps σT σ _ _ ((o.grow s1).grow s2) q2 fun u H3 s3 q3 => ?_
  obtain ⟨ts, rfl, q⟩ := q3
  cases r1 with
  | list hq rs =>
    have s23 := (mask_same (ps := ps) s2).trans (mask_same s3)
    have sA : Same H H3 := s1.trans (s2.trans s3)
    exact ⟨_, _, rfl, L2.Same.seq (s23.trans mask_le) hq, fun p hp => k _ p _ _ (sA.trans (same_new hp)) (Same.free' sA hp) upd_same (by rw [mask_new hp]; exact (rs.same s23).cut l u) q⟩
def eWild (t : FT) : ET := fun σ Q => t σ fun ts => ∃ ns : List Int, ts = ns.map PyData.int ∧ ns.length ≤ 1000 ∧ (∀ i ∈ ns, 0 ≤ i ∧ i < 4096) ∧ Q (.dict [])
theorem et_wild {t : FT} (h : PFt X e t) : PEt X e (eWild t) := by
  obtain ⟨v, p, r⟩ := h
  refine ⟨_, pe_close p, fun B p0 H ps σT σ Q QV o h k => r B p0 H ps σT σ _ _ o h fun ts p xs H' s hp hx rs q => ?_⟩
  obtain ⟨ns, rfl, h1, h2, q⟩ := q
  have e := reps_ints rs
  subst e
  refine ⟨p, ns, rfl, hx, h1, h2, k (.dict []) _ _ (fun b u eb => ?_) (.wild (mask_at (fresh_notin o.live hp) upd_same)) q⟩
  rw [upd_ne fun z => by rw [z, hp] at eb; cases eb]
  exact s b u eb
theorem fn_never {P : Program} {w : World} {K : PySem.W.Frag} {mg : Str → Option Value} {base : Heap} {k : Nat} {f : Addr} {fd : FuncData} {pn : List Str} : FnOk P w K mg base CX0 k f fd pn (liftSp K fun _ _ => False) :=
  ⟨fun vs H Q E ⟨_, _, _, _, _, h, _⟩ => h.elim, fun A outer s H args us vs Q E _ _ _ _ ⟨_, _, _, _, _, h, _⟩ => h.elim⟩
/-- a promise by another -/
theorem fn_imp {P : Program} {w : World} {K : PySem.W.Frag} {mg : Str → Option Value} {base : Heap} {k : Nat} {f : Addr} {fd : FuncData} {pn : List Str} {sp sp' : SpT} (F : FnOk P w K mg base CX0 k f fd pn (liftSp K sp)) (h : ∀ ds Q, sp' ds Q → sp ds Q) : FnOk P w K mg base CX0 k f fd pn (liftSp K sp') :=
  F.imp fun vs H Q E ⟨ps, ds, QD, h1, h2, h3, h4⟩ => ⟨ps, ds, QD, h1, h2, h ds QD h3, h4⟩
end
end TL

set_option Elab.async false
set_option linter.all false
set_option maxRecDepth 100000
namespace L2
open PySem PySem.Spec PyProof.Rows
section
variable {X : Cx}
end
end L2
namespace TL
open PySem PySem.Spec PyProof.Rows L2
section
variable {X : Cx} {a b c e : Expr} {es : List Expr} {ta tb te : ET} {pos : Pos}
theorem ints_reps' {K : PySem.W.Frag} {H : Hp} : ∀ ns : List Int, Reps K H (ns.map PyData.int) (ns.map V.int)
  | [] => .nil
  | n :: ns => .cons (.int n) (ints_reps' ns)
theorem ints_lay : ∀ ns : List Int, PyData.canLayAll0 (ns.map PyData.int) = true
  | [] => rfl
  | n :: ns => ints_lay ns
def sNumPop (i : Nat) : STt := fun DT σ => σ[i]? = some (.val (.dict [])) ∧ ∀ n : Int, 0 ≤ n → n < 4096 → DT.rt (.int n)
theorem st_numpop {k : Nat} (hr : Room k X.A) {i : Nat} {n1 n2 : Expr} {p1 p2 p3 p4 p5 p6 ap cp : Pos} {j : Nat} (h1 : PE X n1 (tVar i)) (hp : PE X (.Call (.Attribute n2 "pop" ap) [] [] cp) (tBM0 X.K "list" rPop (tVar i))) :
    PSst X [.If (.Compare n1 [.Eq] [.List [] p2] p1) [.Return (some (.Constant (.int 0) j p3)) p4] [] p5, .Return (some (.Call (.Attribute n2 "pop" ap) [] [] cp)) p6] (sNumPop i) := by
  have pt : PSs X _ _ := pss_cons (ps_if (pos := p5) (pt_cmpR (pos := p1) (op_eqD hr) h1 (pe_lst (pos := p2) pa_nil) rfl) (pss_one (ps_ret (pos := p4) (pe_int (i := 0) (j := j) (pos := p3)))) pss_nil) (pss_one (ps_ret (pos := p6) hp))
  refine ⟨fun D σ H => ∃ p, tNums p _ D σ H, fun pins s σ H D I ⟨p, h⟩ => pss_nums p pt pins s σ H D I h, fun B p0 H ps σT σ DT DV o h f => ?_⟩
  obtain ⟨e, h⟩ := h
  obtain ⟨v, hv, r⟩ := o.val i _ e
  cases r with
  | @wild p hw =>
    have hH : H p = some (.ext (numsAt p)) := mask_le _ _ hw
    refine ⟨p, hH, fun ns hl hn => ?_⟩
    have hL : sizeLine = 2 ^ 24 := rfl
    refine ⟨.ref p, hv, Nat.zero_le _, fun p' hp' => ⟨.list (ns.map PyData.int), .list [], ?_, ?_, ⟨ints_lay ns, rfl, by show min _ 1 ≤ 60; omega⟩, _, rfl, ?_⟩⟩
    · exact .list (SqL.of (by rw [upd_ne fun z => by rw [← z, upd_same] at hp'; cases hp']; exact upd_same)) (ints_reps' ns)
    · exact .list (SqL.of upd_same) .nil
    have hne : p ≠ p' := fun z => by rw [← z, upd_same] at hp'; cases hp'
    have hfree : H p' = none := by rw [upd_ne fun z => hne z.symm] at hp'; exact hp'
    have fin : ∀ (u w u2 : HO) (n : Int), 0 ≤ n → n < 4096 → DV.rt (.int n) (upd (upd (upd (upd H p u) p' w) p u2) p (.ext (numsAt p))) := fun u w u2 n h0 h1 => by
      refine f.rt (.int n) _ _ (fun q x hq => ?_) (.int n) (h n h0 h1)
      have hq' := o.base _ _ hq
      by_cases z : q = p
      · rw [z, hH] at hq'
        rw [z, upd_same]; exact hq'
      · have z2 : q ≠ p' := fun e => by rw [e, hfree] at hq'; cases hq'
        rw [upd_ne z, upd_ne z, upd_ne z2, upd_ne z]; exact hq'
    have again : ∀ (u w : HO), upd (upd (upd H p u) p' w) p u = upd (upd H p u) p' w := fun u w => by
      funext q
      by_cases z : q = p
      · rw [z, upd_same, upd_ne hne, upd_same]
      · rw [upd_ne z]
    cases ns with
    | nil =>
      show (if true = true then _ else _)
      rw [if_pos rfl]
      refine ⟨[], by rw [upd_ne hne, upd_same], hl, hn, ?_⟩
      have := fin (.lst ([].map V.int)) (.lst []) (.lst ([].map V.int)) 0 (by decide) (by decide)
      rw [again] at this
      exact this
    | cons n ns =>
      show (if false = true then _ else _)
      rw [if_neg (by decide)]
      have hat : upd (upd H p (.lst ((n :: ns).map V.int))) p' (.lst []) p = some (.lst ((n :: ns).map V.int)) := by rw [upd_ne hne, upd_same]
      have hlast : ((n :: ns).map V.int)[((n :: ns).map V.int).length - 1]? = some (.int ((n :: ns).getLast (by simp))) := by
        rw [List.length_map, List.getElem?_map, List.getElem?_eq_getElem (by simp), List.getLast_eq_getElem]; rfl
      obtain ⟨h0, h1⟩ := hn _ (List.getLast_mem (l := n :: ns) (by simp))
      refine ⟨.ref p, hv, .inl ⟨rfl, _, SqL.of hat⟩, p, (n :: ns).map V.int, _, rfl, rfl, hat, hlast, (n :: ns).dropLast, ?_, ?_, fun i hi => hn i (List.dropLast_subset _ hi), fin _ _ _ _ h0 h1⟩
      · rw [upd_same, List.map_dropLast]
      · rw [List.length_dropLast]; omega
end
end TL

set_option Elab.async false
set_option linter.all false
set_option maxRecDepth 100000
namespace TL
open PySem PySem.Spec PyProof.Rows L2
section
variable {X : Cx} {a b c e : Expr} {es : List Expr} {ta tb te : ET} {pos : Pos}
end
end TL

set_option Elab.async false
set_option linter.all false
set_option maxRecDepth 100000
namespace L2
open PySem PySem.Spec PyProof.Rows PySem.SeqAt
section
variable {X : Cx}
end
section
variable {P : Program} {w : World} {A : Around} {E : Value → Shared → Prop} {s : Shared}
end
section
variable {X : Cx}
end
end L2
namespace TL
open PySem PySem.Spec PyProof.Rows L2 PySem.SeqAt
variable {K : PySem.W.Frag}
/-- a module's tuple of texts -/
def KTup (K : PySem.W.Frag) (a : Addr) (ys : List Str) : Prop := ∃ (o : Obj) (its : Array Value) (n : Nat), K.lookup a = some o ∧ o.cls = .type "tuple" ∧ o.dict = none ∧ o.data = .seq its n ∧ its.size ≤ sizeLine ∧ Vals (ys.map V.str) its.toList
theorem reps_strs' {H : Hp} : ∀ ys : List Str, Reps K H (ys.map PyData.str) (ys.map V.str)
  | [] => .nil
  | y :: ys => .cons (.str y) (reps_strs' ys)
section
variable {X : Cx} {a b c e : Expr} {es : List Expr} {ta tb te : ET} {pos : Pos}
theorem et_gtup {x : Str} {p : Addr} {ys : List Str} {pos : Pos} (hg : Gl X x) (hm : X.mg x = some (.ref p)) (hk : KTup X.K p ys) (hd : (x == ("__debug__" : Str)) = false := by decide) : PEt X (.Name x pos) (eC (.tuple (ys.map PyData.str))) :=
  ⟨_, pe_glob (v := .ref p) hg hm rfl hd, fun _ _ H _ _ _ _ _ _ h k => k _ _ H (L2.Same.refl H) (.tuple (.inr hk) (reps_strs' ys)) h⟩
def rLIndex (K : PySem.W.Frag) : V → List V → Hp → VK → Prop := fun x xs H Q => ∃ (y : V) (ts : List D) (d : D) (j : Nat), xs = [y] ∧ Rep K H (.list ts) x ∧ Rep K H d y ∧ okIx ts d j ∧ j < 1000000 ∧ Q (.int j) H
theorem mt_lindexU (hu : X.A.units + 200 < cLine) : MtR X "list.index" (rLIndex X.K) := by
  intro pins s σ H x xs v us Q I rx rv h
  obtain ⟨y, ts, d, j, rfl, r1, r2, ⟨c1, c2, hm, ⟨t, ht, he⟩, hno⟩, hj0, q⟩ := h
  obtain ⟨u, rfl, ru⟩ := rv.one
  obtain ⟨as, h1⟩ := Rep.reads I (show (PyData.list ts).hasDict = false from noDictAll c1) r1 rx
  obtain ⟨bs, h2⟩ := Rep.reads I (noDict c2) r2 ru
  cases h1 with
  | @list l o items n _ as' h3 h4 h5 h6 =>
    have hmap := readsAll_map ts items.toList _ c1 h6
    have hlen : items.size = ts.length := by rw [← hmap, List.length_map, Array.length_toList]
    have hjl : j < ts.length := (List.getElem?_eq_some_iff.mp ht).1
    have hj : j < items.size := by omega
    have rd : ∀ (m : Nat) (hm : m < items.size), ts[m]? = some (readOf s.heap items[m]) := fun m hm => by
      rw [← hmap, List.getElem?_map]
      simp [hm]
    obtain ⟨oc, od, odt, osl⟩ := o
    cases h4
    cases h5
    refine call_meets F.slot_list_index ⟨_, h3, rfl⟩ F.entry_list_index (F.args_list_index_2 _ _) (list_indexAt _ items _ od osl u (fun y => PyData.eqv (readOf s.heap y) d) j hj (by omega) ?_ ?_) ⟨h3, items_eqAt h6 h2 c1 c2 (by have := hu; omega), ?_⟩
    · have := rd j hj
      rw [ht] at this
      rw [← Option.some.inj this]; exact he
    · intro m hm' hlt
      exact hno m _ hlt (rd m hm')
    · exact ⟨.int j, H, I.tok _, ⟨_, rfl⟩, q⟩
theorem mt_lindex {k : Nat} (hr : Room k X.A) : MtR X "list.index" (rLIndex X.K) := mt_lindexU (by have := hr.un; omega)
def eLIndex (te : ET) (t : AT) : ET := fun σ Q => te σ fun d => ∃ ts, d = .list ts ∧ t σ fun ds => ∃ (x : D) (j : Nat), ds = [x] ∧ okIx ts x j ∧ j < 1000000 ∧ Q (.int j)
theorem et_lindex {n : Expr} {ap : Pos} {t : AT} (hn : PEt X n te) (ha : PAt X (e :: es) t)
    (pc : ∀ {v : TE} {ta : TA}, PE X n v → PA X (e :: es) ta → PE X (.Call (.Attribute n "index" ap) (e :: es) [] pos) (tBM X.K "list" (rLIndex X.K) v ta)) : PEt X (.Call (.Attribute n "index" ap) (e :: es) [] pos) (eLIndex te t) := by
  obtain ⟨v, pe, re⟩ := hn
  obtain ⟨va, pa, ra⟩ := ha
  refine ⟨_, pc pe pa, fun B p0 H ps σT σ Q QV o h k => re B p0 H ps σT σ _ _ o h fun d x H1 s1 r1 q1 => ?_⟩
  obtain ⟨ts, rfl, q1⟩ := q1
  cases r1 with
  | @list p xs _ hq rs =>
    refine ⟨.inl ⟨rfl, _, L2.Same.seq mask_le hq⟩, ra B p0 H1 ps σT σ _ _ (o.grow s1) q1 fun ds ys H2 s2 r2 q2 => ?_⟩
    obtain ⟨d, j, rfl, hok, hj, q⟩ := q2
    cases r2 with
    | cons r3 r4 =>
      cases r4
      exact ⟨_, ts, d, j, rfl, (Rep.list hq rs).same ((mask_same s2).trans mask_le), r3.same mask_le, hok, hj, k _ _ H2 (s1.trans s2) (.int _) q⟩
end
end TL
namespace TL
open PySem
end TL
namespace TL
open PySem PySem.Spec PyProof.Rows L2
section
variable {fr : List (Option Nat)} {ti : IT} {tt : TTt} {te : ET} {σ : List Sl} {Q : D → Prop} {ts : List D}
end
end TL

set_option Elab.async false
set_option linter.all false
namespace TL
open PySem PySem.Builtin PySem.Builtin.Str PySem.StrLaws
theorem subAt_one (x : Str) (c i : Nat) : subAt x ⟨#[c]⟩ i = (x.cps.toList[i]? == some c) := by
  rw [subAt_eq]
  show (((x.cps.toList.drop i).take 1) == [c]) = _
  cases h : x.cps.toList[i]? with
  | none =>
    have : x.cps.toList.drop i = [] := List.drop_eq_nil_of_le (List.getElem?_eq_none_iff.mp h)
    rw [this]; rfl
  | some a =>
    have hl := (List.getElem?_eq_some_iff.mp h).1
    have e : x.cps.toList.drop i = a :: x.cps.toList.drop (i + 1) := by
      rw [List.drop_eq_getElem_cons hl]
      congr 1
      exact (List.getElem?_eq_some_iff.mp h).2
    rw [e]
    show (a :: List.take 0 _ == [c]) = (some a == some c)
    simp
theorem occ_count (x : Str) (c limit : Nat) : ∀ (n a : Nat) (st : Array Nat × Nat), st.snd ≤ a → st.fst.size ≤ a → a + n ≤ limit →
    (forIn (List.range' a n) st (occBody x ⟨#[c]⟩ x.length limit)).run.fst.size = st.fst.size + (List.range' a n).countP fun i => x.cps.toList[i]? == some c
  | 0, _, _, _, _, _ => rfl
  | n + 1, a, st, h1, h2, h3 => by
    rw [List.range'_succ, List.forIn_cons, List.countP_cons]
    unfold occBody
    by_cases hc : ((st.fst.size < limit ∧ st.snd ≤ a) ∧ a + (⟨#[c]⟩ : Str).length ≤ x.length) ∧ subAt x ⟨#[c]⟩ a = true
    · rw [if_pos hc]
      have ih := occ_count x c limit n (a + 1) (st.fst.push a, a + (⟨#[c]⟩ : Str).length) (Nat.le_refl _) (by rw [Array.size_push]; omega) (by omega)
      have e := hc.2
      rw [subAt_one] at e
      rw [if_pos e]
      refine ih.trans ?_
      rw [Array.size_push]
      omega
    · rw [if_neg hc]
      have ih := occ_count x c limit n (a + 1) (st.fst, st.snd) (by show st.snd ≤ a + 1; omega) (by show st.fst.size ≤ a + 1; omega) (by omega)
      have e : ¬ ((x.cps.toList[a]? == some c) = true) := fun q => hc ⟨⟨⟨by omega, h1⟩, by
        have : x.cps.toList[a]? = some c := by simpa using q
        have hl := (List.getElem?_eq_some_iff.mp this).1
        have : x.cps.toList.length = x.length := by simp [Str.length]
        show a + 1 ≤ x.length
        omega⟩, by rw [subAt_one]; exact q⟩
      rw [if_neg e]
      exact ih
theorem count_range (c : Nat) : ∀ L : List Nat, (List.range L.length).countP (fun i => L[i]? == some c) = L.count c
  | [] => rfl
  | a :: L => by
    rw [List.length_cons, List.range_succ_eq_map, List.countP_cons, List.countP_map, List.count_cons, ← count_range c L]
    have e1 : ((fun i => (a :: L)[i]? == some c) ∘ Nat.succ) = fun i => L[i]? == some c := by funext i; rfl
    rw [e1]
    congr 1
theorem occ_len (x : Str) (c : Nat) : (occurrences x ⟨#[c]⟩ 0 x.length (x.length + 1)).length = x.cps.toList.count c := by
  rw [occ_eq, Array.length_toList]
  have h := occ_count x c (x.length + 1) (x.length + 1 - 0) 0 (#[], 0) (Nat.le_refl _) (Nat.le_refl _) (by omega)
  rw [h]
  have hl : x.cps.toList.length = x.length := by simp [Str.length]
  show 0 + _ = _
  rw [Nat.zero_add, Nat.sub_zero, ← List.range_eq_range', List.range_succ, List.countP_append, ← hl, count_range]
  have : ([x.cps.toList.length].countP fun i => x.cps.toList[i]? == some c) = 0 := by
    rw [List.countP_singleton, List.getElem?_eq_none (Nat.le_refl _)]; rfl
  rw [this]; rfl
def jn (c : Nat) : List (List Nat) → List Nat
  | [] => []
  | [p] => p
  | p :: q :: r => p ++ c :: jn c (q :: r)
theorem join_jn (c : Nat) : ∀ ws : List Str, (Str.join ⟨#[c]⟩ ws).cps.toList = jn c (ws.map (·.cps.toList))
  | [] => rfl
  | [p] => rfl
  | p :: q :: r => by
    have ih := join_jn c (q :: r)
    show (p ++ ⟨#[c]⟩ ++ Str.join ⟨#[c]⟩ (q :: r)).cps.toList = _
    have app : ∀ x y : Str, (x ++ y).cps.toList = x.cps.toList ++ y.cps.toList := fun x y => by
      show (x.cps ++ y.cps).toList = _
      simp
    rw [app, app, ih, List.append_assoc]
    rfl
theorem jn_count (c : Nat) : ∀ (p : List Nat) (r : List (List Nat)), (jn c (p :: r)).count c = r.length + ((p :: r).map (List.count c)).sum
  | p, [] => by show p.count c = 0 + (p.count c + 0); omega
  | p, q :: r => by
    have ih := jn_count c q r
    show (p ++ c :: jn c (q :: r)).count c = _
    rw [List.count_append, List.count_cons_self, ih]
    simp only [List.length_cons, List.map_cons, List.sum_cons]
    omega
theorem jn_inj (c : Nat) : ∀ (p w : List Nat) (r s : List (List Nat)), (∀ l ∈ p :: r, c ∉ l) → (∀ l ∈ w :: s, c ∉ l) → jn c (p :: r) = jn c (w :: s) → p :: r = w :: s
  | p, w, [], [], _, _, h => by
    have : p = w := h
    rw [this]
  | p, w, [], q :: s, h1, _, h => by
    have e : p = w ++ c :: jn c (q :: s) := h
    exact absurd (by rw [e]; simp) (h1 p (List.mem_cons_self ..))
  | p, w, q :: r, [], _, h2, h => by
    have e : p ++ c :: jn c (q :: r) = w := h
    exact absurd (by rw [← e]; simp) (h2 w (List.mem_cons_self ..))
  | p, w, q :: r, t :: s, h1, h2, h => by
    have e : p ++ c :: jn c (q :: r) = w ++ c :: jn c (t :: s) := h
    have hp := h1 p (List.mem_cons_self ..)
    have hw := h2 w (List.mem_cons_self ..)
    have key : ∀ (p w a b : List Nat), c ∉ p → c ∉ w → p ++ c :: a = w ++ c :: b → p = w ∧ a = b := fun p => by
      induction p with
      | nil =>
        intro w a b _ hw e
        cases w with
        | nil => exact ⟨rfl, (List.cons.inj e).2⟩
        | cons y w => exact absurd (by rw [(List.cons.inj e).1]; exact List.mem_cons_self ..) hw
      | cons x p ih =>
        intro w a b hp hw e
        cases w with
        | nil => exact absurd (by rw [← (List.cons.inj e).1]; exact List.mem_cons_self ..) hp
        | cons y w =>
          obtain ⟨e1, e2⟩ := List.cons.inj e
          obtain ⟨e3, e4⟩ := ih w a b (fun z => hp (List.mem_cons_of_mem _ z)) (fun z => hw (List.mem_cons_of_mem _ z)) e2
          exact ⟨by rw [e1, e3], e4⟩
    obtain ⟨e1, e2⟩ := key p w _ _ hp hw e
    have ih := jn_inj c q t r s (fun l hl => h1 l (List.mem_cons_of_mem _ hl)) (fun l hl => h2 l (List.mem_cons_of_mem _ hl)) e2
    rw [e1, ih]
theorem split_join (c : Nat) (hc : c < 256) (w : Str) (ws : List Str) (h : ∀ x ∈ w :: ws, c ∉ x.cps.toList) : Txt.split (Txt.join ⟨#[c]⟩ (w :: ws)) ⟨#[c]⟩ = w :: ws := by
  have ext : ∀ {x y : Str}, x.cps.toList = y.cps.toList → x = y := fun {x y} h => by
    cases x with
    | mk a =>
      cases y with
      | mk b =>
        have : a = b := by simpa using congrArg List.toArray h
        rw [this]
  have inj : ∀ {xs ys : List Str}, xs.map (·.cps.toList) = ys.map (·.cps.toList) → xs = ys := fun {xs} => by
    induction xs with
    | nil => intro ys h; cases ys with | nil => rfl | cons _ _ => cases h
    | cons x xs ih =>
      intro ys h
      cases ys with
      | nil => cases h
      | cons y ys =>
        rw [List.map_cons, List.map_cons] at h
        obtain ⟨h1, h2⟩ := List.cons.inj h
        rw [ext h1, ih h2]
  generalize hx : Txt.join ⟨#[c]⟩ (w :: ws) = x
  have hxj : x.cps.toList = jn c ((w :: ws).map (·.cps.toList)) := by
    rw [← hx]
    show (glued _ _).cps.toList = _
    rw [glued_eq_join, join_jn]
  have hno : ∀ l ∈ (w :: ws).map (·.cps.toList), c ∉ l := fun l hl => by
    obtain ⟨y, hy, rfl⟩ := List.mem_map.mp hl
    exact h y hy
  -- any list of parts that glues to x and has as many as there are cs and one
  have fin : ∀ (q : Str) (qs : List Str), glued ⟨#[c]⟩ (q :: qs) = x → qs.length = x.cps.toList.count c → q :: qs = w :: ws := fun q qs hg hn => by
    have hqj : x.cps.toList = jn c ((q :: qs).map (·.cps.toList)) := by rw [← hg, glued_eq_join, join_jn]
    have hcn := jn_count c q.cps.toList (qs.map (·.cps.toList))
    rw [← List.map_cons (f := fun y : Str => y.cps.toList), ← hqj, List.length_map, hn] at hcn
    have hz : (((q :: qs).map (·.cps.toList)).map (List.count c)).sum = 0 := by omega
    have hq0 : ∀ l ∈ (q :: qs).map (·.cps.toList), c ∉ l := fun l hl hm => by
      have h1 : l.count c ∈ ((q :: qs).map (·.cps.toList)).map (List.count c) := List.mem_map.mpr ⟨l, hl, rfl⟩
      have h2 : ∀ (ns : List Nat), ns.sum = 0 → ∀ n ∈ ns, n = 0 := fun ns => by
        induction ns with
        | nil => intro _ n hn; simp at hn
        | cons m ns ih =>
          intro hs n hn
          rw [List.sum_cons] at hs
          rcases List.mem_cons.mp hn with rfl | hn
          · omega
          · exact ih (by omega) n hn
      have := h2 _ hz _ h1
      have := List.count_pos_iff.mpr hm
      omega
    refine inj ?_
    rw [List.map_cons, List.map_cons]
    refine jn_inj c _ _ _ _ hq0 hno ?_
    rw [← List.map_cons (f := fun y : Str => y.cps.toList), ← List.map_cons (f := fun y : Str => y.cps.toList), ← hqj, ← hxj]
  have hln : x.cps.toList.length = x.length := by simp [Str.length]
  unfold Txt.split
  split
  · next hlt =>
    have hk : PySem.Builtin.Str.strKind ⟨#[c]⟩ = 1 := by
      unfold PySem.Builtin.Str.strKind
      rw [if_pos (by simp [hc])]
    rw [hk, Bool.or_eq_true, decide_eq_true_iff, decide_eq_true_iff] at hlt
    have h1 : 1 ≤ PySem.Builtin.Str.strKind x := by
      unfold PySem.Builtin.Str.strKind
      split
      · omega
      · split <;> omega
    have h0 : x.length = 0 := by
      rcases hlt with q | q
      · have q' : x.length < 1 := q
        omega
      · omega
    refine fin x [] rfl ?_
    have : x.cps.toList = [] := List.length_eq_zero_iff.mp (by rw [hln]; exact h0)
    rw [this]; rfl
  · split
    · next hem =>
      refine fin x [] rfl ?_
      rw [← occ_len]
      have : occurrences x ⟨#[c]⟩ 0 x.length (x.length + 1) = [] := by simpa using hem
      rw [this]
      rfl
    · have hpl := length_partsBetween x (occurrences x ⟨#[c]⟩ 0 x.length (x.length + 1)) (⟨#[c]⟩ : Str).length
      have hg := glued_between_self x ⟨#[c]⟩ (x.length + 1)
      cases hp : partsBetween x (occurrences x ⟨#[c]⟩ 0 x.length (x.length + 1)) (⟨#[c]⟩ : Str).length with
      | nil => rw [hp] at hpl; cases hpl
      | cons q qs =>
        rw [hp] at hpl hg
        refine fin q qs hg ?_
        rw [← occ_len]
        rw [List.length_cons] at hpl
        omega
end TL

set_option Elab.async false
set_option linter.all false
set_option maxRecDepth 100000
namespace L2
open PySem PySem.Spec PyProof.Rows PySem.Builtin.Str
section
variable {X : Cx}
theorem vals_strs : ∀ (l : List (Str × Tok)), Vals ((l.map (·.1)).map V.str) (strValues l)
  | [] => .nil
  | p :: l => .cons ⟨p.2, rfl⟩ (vals_strs l)
def rSplit : V → List V → Hp → VK → Prop := fun x xs H Q => ∃ z y, x = .str z ∧ xs = [.str y] ∧ (y.length == 0) = false ∧ z.length ≤ 100000 ∧ ∀ p, H p = none → Q (.ref p) (upd H p (.lst ((Txt.split z y).map V.str)))
theorem mt_split : MtR X "str.split" rSplit := by
  intro pins s σ H x xs v us Q I rx rv h
  obtain ⟨z, y, rfl, rfl, hy, hz, q⟩ := h
  obtain ⟨t, rfl⟩ := rx
  obtain ⟨u, rfl, ru⟩ := vals1 rv
  obtain ⟨tu, rfl⟩ := ru
  have hL : sizeLine = 2 ^ 24 := rfl
  have fin : ∀ (l : List (Str × Tok)) (k : Nat), l.map (·.1) = Txt.split z y → l.length ≤ sizeLine → EP X pins σ Q (.ref s.heap.objs.size) { s with toks := k, heap := s.heap.push { cls := .type "list", data := .seq (strValues l).toArray } } := fun l k hl hn => by
    have hf : H s.heap.objs.size = none := I.hok.fresh (Nat.le_refl _)
    refine ⟨.ref s.heap.objs.size, upd H s.heap.objs.size (.lst ((Txt.split z y).map V.str)), I.laid (t' := k) (fun b u e => Heap.get?_push_of_some _ e) (Nat.le_refl _) ?_, rfl, q _ hf⟩
    rw [← hl]
    exact ⟨by rw [List.length_map, List.length_map]; exact hn, strValues l, 0, vals_strs l, Heap.get?_push_size _ rfl⟩
  have hocc := StrLaws.occ_length_le z y 0 z.length (z.length + 1)
  have hpl := length_partsBetween z (occurrences z y 0 z.length (z.length + 1)) y.length
  cases h1 : (decide (z.length < y.length) || decide (strKind z < strKind y))
  · cases hf : (occurrences z y 0 z.length (z.length + 1)).isEmpty
    · refine call_meets F.slot_str_split (typeIs_str _ _ _) F.entry_str_split (F.args_str_split_2 _ _) (meets_str_split_sep z y t tu h1 hy hf (by omega) (by omega)) ?_
      show EP X pins σ Q _ { s with toks := _, heap := s.heap.push { cls := .type "list", data := .seq (strsFrom s.toks (partsBetween z (occurrences z y 0 z.length (z.length + 1)) y.length)).toArray } }
      rw [strsFrom_eq]
      refine fin (numbered s.toks _) _ ((numbered_texts _ _).trans ((if_neg (ne_true_of_eq_false h1)).trans (if_neg (ne_true_of_eq_false hf))).symm) ?_
      have := congrArg List.length (numbered_texts s.toks (partsBetween z (occurrences z y 0 z.length (z.length + 1)) y.length))
      rw [List.length_map] at this
      omega
    · exact call_meets F.slot_str_split (typeIs_str _ _ _) F.entry_str_split (F.args_str_split_2 _ _) (meets_str_split_not_found z y t tu h1 hy hf) (fin [(z, t)] _ ((if_neg (ne_true_of_eq_false h1)).trans (if_pos hf)).symm (by show 1 ≤ sizeLine; decide))
  · exact call_meets F.slot_str_split (typeIs_str _ _ _) F.entry_str_split (F.args_str_split_2 _ _) (meets_str_split_cannot_occur z y t tu h1) (fin [(z, t)] _ (if_pos h1).symm (by show 1 ≤ sizeLine; decide))
def rJoinT (K : PySem.W.Frag) : V → List V → Hp → VK → Prop := fun x xs H Q => ∃ z p ys, x = .str z ∧ xs = [.ref p] ∧ SqT K H p (ys.map V.str) ∧ (ys.map (·.length)).sum + ys.length * z.length ≤ 16777216 ∧ Q (.str (Txt.join z ys)) H
theorem mt_joinT : MtR X "str.join" (rJoinT X.K) := by
  intro pins s σ H x xs v us Q I rx r h
  obtain ⟨z, p, ys, rfl, rfl, hq, hz, q⟩ := h
  obtain ⟨t, rfl⟩ := rx
  obtain ⟨u, rfl, ru⟩ := vals1 r
  cases ru
  obtain ⟨its, rv, pl, _⟩ := I.tuple hq
  exact PyProof.Rows.join_tuple pl (by simpa using strs_of rv) hz fun t' k => ⟨.str _, H, I.tok k, ⟨t', rfl⟩, q⟩
end
end L2
namespace TL
open PySem PySem.Spec PyProof.Rows L2
section
variable {X : Cx} {a b c e : Expr} {es : List Expr} {ta tb te : ET} {pos : Pos}
/-- a statement that is never reached -/
theorem st_no {s : Stmt} : PSt X s (fun _ _ => False) := ⟨fun _ _ _ => False, fun _ _ _ _ _ _ h => h.elim, fun _ _ _ _ _ _ _ _ _ h _ => h.elim⟩
def gSplit (z : Str) (ds : List D) (Q : D → Prop) : Prop := match ds with | [.str y] => (y.length == 0) = false ∧ z.length ≤ 100000 ∧ Q (.list ((Txt.split z y).map PyData.str)) | _ => False
theorem et_split {n : Expr} {ap : Pos} {t : AT} (hn : PEt X n te) (ha : PAt X (e :: es) t)
    (pc : ∀ {v : TE} {ta : TA}, PE X n v → PA X (e :: es) ta → PE X (.Call (.Attribute n "split" ap) (e :: es) [] pos) (tBM X.K "str" rSplit v ta)) : PEt X (.Call (.Attribute n "split" ap) (e :: es) [] pos) (eMeth gSplit te t) := by
  obtain ⟨v, pe, re⟩ := hn
  obtain ⟨va, pa, ra⟩ := ha
  refine ⟨_, pc pe pa, fun B p0 H ps σT σ Q QV o h k => re B p0 H ps σT σ _ _ o h fun d x H1 s1 r1 q1 => ?_⟩
  obtain ⟨z, rfl, q1⟩ := q1
  cases r1
  refine ⟨rfl, ra B p0 H1 ps σT σ _ _ (o.grow s1) q1 fun ds xs H2 s2 r2 q2 => ?_⟩
  cases r2 with
  | nil => exact q2.elim
  | cons r3 r4 =>
    cases r4 with
    | cons _ _ => cases r3 <;> exact q2.elim
    | nil =>
      cases r3 with
      | str y =>
        obtain ⟨hy, hz, q⟩ := q2
        refine ⟨z, y, rfl, rfl, hy, hz, fun p hp => ?_⟩
        exact k _ _ _ (s1.trans (s2.trans (same_new hp))) (rep_lst ((o.grow s1).grow s2).live hp (reps_strs' _)) q
      | _ => exact q2.elim
def gJoinT (z : Str) (ds : List D) (Q : D → Prop) : Prop := match ds with | [.tuple ts] => ∃ ys : List Str, ts = ys.map PyData.str ∧ (ys.map (·.length)).sum + ys.length * z.length ≤ 16777216 ∧ Q (.str (Txt.join z ys)) | _ => False
theorem et_joinT {n : Expr} {ap : Pos} {t : AT} (hn : PEt X n te) (ha : PAt X (e :: es) t)
    (pc : ∀ {v : TE} {ta : TA}, PE X n v → PA X (e :: es) ta → PE X (.Call (.Attribute n "join" ap) (e :: es) [] pos) (tBM X.K "str" (rJoinT X.K) v ta)) : PEt X (.Call (.Attribute n "join" ap) (e :: es) [] pos) (eMeth gJoinT te t) :=
  meth_read hn ha (fun H ps z ds xs Q QV r h k => by
    cases r with
    | nil => exact h.elim
    | cons r1 r2 =>
      cases r2 with
      | cons _ _ => cases r1 <;> exact h.elim
      | nil =>
        cases r1 with
        | tuple q s =>
          obtain ⟨ys, rfl, hz, h⟩ := h
          have e := reps_strs s
          subst e
          exact ⟨z, _, ys, rfl, rfl, Same.seqT mask_le q, hz, k _ _ H (L2.Same.refl H) (.str _) h⟩
        | _ => exact h.elim) pc
end
end TL

set_option Elab.async false
set_option linter.all false
set_option maxRecDepth 100000
namespace L2
open PySem PySem.Spec PyProof.Rows PySem.Builtin
section
variable {X : Cx} {e : Expr} {pos : Pos}
end
end L2
namespace TL
open PySem PySem.Spec PyProof.Rows L2
section
variable {X : Cx} {a b c e : Expr} {es : List Expr} {ta tb te : ET} {pos : Pos}
end
end TL

set_option Elab.async false
set_option linter.all false
set_option maxRecDepth 100000
namespace L2
open PySem PySem.Spec PyProof.Rows
section
variable {X : Cx} {pins : List (Addr × Obj)} {σ : St} {H : Hp} {s : Shared} {p q : Addr}
end
end L2
namespace TL
open PySem PySem.Spec PyProof.Rows L2
section
variable {X : Cx} {a b c e : Expr} {es : List Expr} {ta tb te : ET} {pos : Pos}
end
end TL
namespace TL
open PySem PySem.Spec PyProof.Rows L2
section
variable {X : Cx} {a b c e : Expr} {es : List Expr} {ta tb te : ET} {pos : Pos}
def constSs : List Expr → Option (List Str)
  | [] => some []
  | .Constant (.str z) _ _ :: es => (constSs es).map (z :: ·)
  | _ => none
theorem at_consts : ∀ {es : List Expr} {zs : List Str}, constSs es = some zs → PAt X es (fun _ Q => Q (zs.map PyData.str))
  | [], zs, h => by
    cases h
    exact at_nil
  | .Constant (.str z) k p :: es, zs, h => by
    have h' : (constSs es).map (z :: ·) = some zs := h
    obtain ⟨ys, hy, rfl⟩ := Option.map_eq_some_iff.mp h'
    exact at_cons et_str (at_consts hy)
theorem st_setN {i : Nat} {x : Str} {pos' : Pos} (hN : X.N.Nodup) (hi : X.N[i]? = some x) (hx : Loc X.env.scope x) (he : PEt X e te) (hs : swapsWith e (some (.Name x pos')) pos.line X.env = pure false := by rfl) (hf : X.fn x = true ∨ X.env.scope.names.lookup x = some .local := by first | exact .inl rfl | exact .inr rfl | assumption) :
    PSt X (.Assign [.Name x pos'] e pos) (sSet i te) := st_set he fun h => ps_set hN hi hx h hs hf
end
end TL

set_option Elab.async false
set_option linter.all false
set_option maxRecDepth 100000
namespace L2
open PySem PySem.Spec PyProof.Rows
theorem dict_mapFields (f : Array Value → Array Value) (o : Obj) : (Obj.mapFields f o).dict = o.dict := by
  unfold Obj.mapFields
  split <;> rfl
/-- the exception at e: its class, its first field; the newest entry of its trace stands at T, in flight at fl -/
structure ExcAt (h : Heap) (e T : Addr) (dx : Option Addr) (cls a0 fl : Value) : Prop where
  ne : T ≠ e
  ex : ∃ o vs, h.get? e = some o ∧ o.cls = cls ∧ o.dict = dx ∧ o.data = .fields vs ∧ vs[0]? = some a0 ∧ vs[1]? = some (.ref T)
  tr : ∃ o ts, h.get? T = some o ∧ o.data = .fields ts ∧ ts[3]? = some fl
/-- all is as it was but for these; frames may differ in their slots -/
structure KeptBut (fr ch : List Addr) (h h' : Heap) : Prop where
  keep : ∀ b o, h.get? b = some o → b ∉ fr → b ∉ ch → h'.get? b = some o
  slot : ∀ b o, h.get? b = some o → b ∈ fr → b ∉ ch → ∃ sl, h'.get? b = some { o with slots := sl }
theorem KeptBut.of {fr ch : List Addr} {h h' : Heap} (k : ∀ b o, h.get? b = some o → b ∉ ch → h'.get? b = some o) : KeptBut fr ch h h' := ⟨fun b o e _ c => k b o e c, fun b o e _ c => ⟨o.slots, k b o e c⟩⟩
theorem KeptBut.any {fr ch : List Addr} {h h' : Heap} (x : KeptBut fr ch h h') {b : Addr} {o : Obj} (e : h.get? b = some o) (c : b ∉ ch) : ∃ sl, h'.get? b = some { o with slots := sl } := by
  by_cases f : b ∈ fr
  · exact x.slot b o e f c
  · exact ⟨o.slots, x.keep b o e f c⟩
theorem KeptBut.trans {fr ch : List Addr} {h1 h2 h3 : Heap} (x : KeptBut fr ch h1 h2) (y : KeptBut fr ch h2 h3) : KeptBut fr ch h1 h3 := by
  refine ⟨fun b o e f c => y.keep b o (x.keep b o e f c) f c, fun b o e f c => ?_⟩
  obtain ⟨sl, e1⟩ := x.slot b o e f c
  obtain ⟨sl2, e2⟩ := y.slot b _ e1 f c
  exact ⟨sl2, e2⟩
theorem KeptBut.more {fr ch ch' : List Addr} {h h' : Heap} (x : KeptBut fr ch h h') (m : ∀ b ∈ ch, b ∈ ch') : KeptBut fr ch' h h' := ⟨fun b o e f c => x.keep b o e f fun z => c (m b z), fun b o e f c => x.slot b o e f fun z => c (m b z)⟩
theorem KeptBut.frames {fr ch : List Addr} {base h h' : Heap} (x : KeptBut fr ch h h') {l : List Env} (hl : h.FunFrames base l) (c : ∀ b ∈ frs l, b ∉ ch) : h'.FunFrames base l := by
  induction l with
  | nil => trivial
  | cons v r ih =>
    obtain ⟨hk, ⟨L, o, hf, hn, ho, hd⟩, hr⟩ := hl
    have hm : L ∈ frs (v :: r) := by
      show L ∈ (v :: r).filterMap (·.frame)
      rw [List.filterMap_cons, hf]
      exact List.mem_cons_self ..
    obtain ⟨sl, e⟩ := x.any ho (c L hm)
    refine ⟨hk, ⟨L, _, hf, hn, e, hd⟩, ih hr fun b hb => c b ?_⟩
    show b ∈ (v :: r).filterMap (·.frame)
    rw [List.filterMap_cons, hf]
    exact List.mem_cons_of_mem _ hb
section
variable {P : Program} {w : World} {A : Around} {E : Value → Shared → Prop} {s : Shared} {base : Heap} {v : Env} {outer : List Env} {L e : Addr} {Q : Unit → Shared → Prop}
/-- an entry of the trace is made -/
theorem entry_made {o : Obj} {vs : Array Value} {hd0 : Value} {nx : Bool} (hA : A.frames = some (v :: outer)) (hl : s.heap.FunFrames base (v :: outer)) (hL : v.frame = some L) (he : s.heap.get? e = some o) (hd : o.data = .fields vs) (hz : 1 < vs.size) (hef : e ∉ frs (v :: outer))
    (k : ∀ h' T, s.heap.objs.size ≤ T → T ≠ e → KeptBut (frs (v :: outer)) [e] s.heap h' → (∃ o', h'.get? e = some o' ∧ o'.cls = o.cls ∧ o'.dict = o.dict ∧ o'.data = .fields (vs.setIfInBounds 1 (.ref T))) → (∃ oT ts, h'.get? T = some oT ∧ oT.data = .fields ts ∧ ts[3]? = some (rawInt L)) → Q () { s with heap := h' }) :
    wpAny (model P w) A (do let a ← frameOf v; let pl ← entryPlaceOf L nx; let b ← EntryCells.newEntry hd0 a .none (rawInt L) .none pl; setField (.ref e) 1 b) Q E s := by
  apply wpAny_bind
  refine wpAny_frameOf_fun hA hl hL fun h1 so => ?_
  apply wpAny_bind
  refine wpAny_entryPlaceOf fun pl okp => ?_
  unfold EntryCells.newEntry newFields
  apply wpAny_bind
  refine wpAny_newObj_type ?_ (okp.sizeOk5 _ _ _ _ _)
  have e1 : h1.get? e = some o := (so.2.1 e hef).trans he
  generalize hob : ({ cls := .type "traceback", dict := none, data := .fields ([hd0, .ref L, .none, rawInt L, .none] ++ (if pl.isEmpty then List.replicate 6 Value.none else pl)).toArray } : Obj) = ob
  have e2 : (h1.push ob).get? e = some o := Heap.get?_push_of_some _ e1
  refine wpAny_setField e2 hd hz ?_
  have ne : h1.objs.size ≠ e := Nat.ne_of_gt (Heap.lt_size e1)
  have d3 := Obj.data_mapFields hd (·.setIfInBounds 1 (Value.ref h1.objs.size))
  have e3 := Heap.get?_update_self (Obj.mapFields (·.setIfInBounds 1 (Value.ref h1.objs.size))) e2 (Obj.isFreed_of_fields d3)
  have hT : ((h1.push ob).update e (Obj.mapFields (·.setIfInBounds 1 (Value.ref h1.objs.size)))).get? h1.objs.size = some ob := by
    rw [Heap.get?_update_other _ _ (Ne.symm ne)]
    refine Heap.get?_push_size h1 ?_
    rw [← hob]; rfl
  refine k _ h1.objs.size (by rw [so.1]; exact Nat.le_refl _) ne ⟨fun b u eb f c => ?_, fun b u eb f c => ?_⟩ ⟨_, e3, Obj.cls_mapFields _ _, dict_mapFields _ _, d3⟩ ⟨ob, _, hT, by rw [← hob], ?_⟩
  · have hbe : b ≠ e := fun z => c (by rw [z]; exact List.mem_cons_self ..)
    rw [Heap.get?_update_other _ _ (Ne.symm hbe)]
    exact Heap.get?_push_of_some _ ((so.2.1 b f).trans eb)
  · have hbe : b ≠ e := fun z => c (by rw [z]; exact List.mem_cons_self ..)
    obtain ⟨sl, es⟩ := so.2.2 b u eb
    refine ⟨sl, ?_⟩
    rw [Heap.get?_update_other _ _ (Ne.symm hbe)]
    exact Heap.get?_push_of_some _ es
  · rcases okp with rfl | ⟨_, _, _, _, _, _, _, rfl⟩ <;> simp
/-- the frame is noted; the exception has no trace yet -/
theorem note_first {o : Obj} {vs : Array Value} {a0 : Value} (hA : A.frames = some (v :: outer)) (hl : s.heap.FunFrames base (v :: outer)) (hL : v.frame = some L) (he : s.heap.get? e = some o) (hd : o.data = .fields vs) (h1 : vs[1]? = some .none) (h0 : vs[0]? = some a0) (hef : e ∉ frs (v :: outer))
    (k : ∀ h' T, s.heap.objs.size ≤ T → KeptBut (frs (v :: outer)) [e] s.heap h' → ExcAt h' e T o.dict o.cls a0 (rawInt L) → Q () { s with heap := h' }) : wpAny (model P w) A (noteFrame (.ref e) v) Q E s := by
  unfold noteFrame
  simp only [hL]
  apply wpAny_bind
  refine wpAny_field he hd h1 ?_
  rw [if_neg (by decide)]
  have hz : 1 < vs.size := (Array.getElem?_eq_some_iff.mp h1).1
  refine entry_made hA hl hL he hd hz hef fun h' T n1 n2 kb hx hT => k h' T n1 kb ⟨n2, ?_, hT⟩
  obtain ⟨o', x1, x2, xd, x3⟩ := hx
  exact ⟨o', _, x1, x2, xd, x3, by rw [Array.getElem?_setIfInBounds_ne (by decide)]; exact h0, by simp [hz]⟩
/-- the frame is noted; the exception comes from a call -/
theorem note_next {T : Addr} {dx : Option Addr} {cls a0 : Value} (hA : A.frames = some (v :: outer)) (hl : s.heap.FunFrames base (v :: outer)) (hL : v.frame = some L) (x : ExcAt s.heap e T dx cls a0 .none) (hef : e ∉ frs (v :: outer)) (hTf : T ∉ frs (v :: outer))
    (k : ∀ h' T', s.heap.objs.size ≤ T' → KeptBut (frs (v :: outer)) [e, T] s.heap h' → ExcAt h' e T' dx cls a0 (rawInt L) → Q () { s with heap := h' }) : wpAny (model P w) A (noteFrame (.ref e) v) Q E s := by
  obtain ⟨ne, ⟨o, vs, he, hc, hdx, hd, h0, h1⟩, ⟨oT, ts, hT, hdT, h3⟩⟩ := x
  unfold noteFrame
  simp only [hL]
  apply wpAny_bind
  refine wpAny_field he hd h1 ?_
  rw [if_pos (show (Value.ref T != Value.none) = true from rfl)]
  apply wpAny_bind
  refine wpAny_field hT hdT h3 ?_
  rw [if_neg (show ¬ ((Value.none == rawInt L) = true) by simp [rawInt])]
  apply wpAny_bind
  refine wpAny_setField hT hdT (Array.getElem?_eq_some_iff.mp h3).1 ?_
  have oth : ∀ b, b ≠ T → (s.heap.update T (Obj.mapFields (·.setIfInBounds 3 Value.none))).get? b = s.heap.get? b := fun b hb => Heap.get?_update_other _ _ (Ne.symm hb)
  have kb0 : KeptBut (frs (v :: outer)) [T] s.heap (s.heap.update T (Obj.mapFields (·.setIfInBounds 3 Value.none))) := .of fun b u eb c => (oth b fun z => c (by rw [z]; exact List.mem_cons_self ..)).trans eb
  have hz : 1 < vs.size := (Array.getElem?_eq_some_iff.mp h1).1
  refine entry_made (s := { s with heap := s.heap.update T (Obj.mapFields (·.setIfInBounds 3 Value.none)) }) hA (kb0.frames hl fun b hb z => hTf (by rw [← List.mem_singleton.mp z]; exact hb)) hL ((oth e (Ne.symm ne)).trans he) hd hz hef fun h' T' n1 n2 kb hx hT' => ?_
  have n1' : s.heap.objs.size ≤ T' := Nat.le_trans (Nat.le_of_eq (Heap.size_update ..).symm) n1
  refine k h' T' n1' ((kb0.more fun b hb => by simp at hb ⊢; exact .inr hb).trans (kb.more fun b hb => by simp at hb ⊢; exact .inl hb)) ⟨n2, ?_, hT'⟩
  obtain ⟨o', x1, x2, xd, x3⟩ := hx
  exact ⟨o', _, x1, x2.trans hc, xd.trans hdx, x3, by rw [Array.getElem?_setIfInBounds_ne (by decide)]; exact h0, by simp [hz]⟩
/-- it is no longer in flight -/
theorem flight_off {T : Addr} {dx : Option Addr} {cls a0 fl : Value} (x : ExcAt s.heap e T dx cls a0 fl) (k : ∀ h', (∀ b o, s.heap.get? b = some o → b ≠ T → h'.get? b = some o) → ExcAt h' e T dx cls a0 .none → Q () { s with heap := h' }) : wpAny (model P w) A (setFlight (.ref e) none) Q E s := by
  obtain ⟨ne, ⟨o, vs, he, hc, hdx, hd, h0, h1⟩, ⟨oT, ts, hT, hdT, h3⟩⟩ := x
  have hz : 3 < ts.size := (Array.getElem?_eq_some_iff.mp h3).1
  unfold setFlight
  apply wpAny_bind
  refine wpAny_field he hd h1 ?_
  rw [if_pos (show (Value.ref T != Value.none) = true from rfl)]
  refine wpAny_setField hT hdT hz (k _ (fun b u eb hb => (Heap.get?_update_other _ _ (Ne.symm hb)).trans eb) ⟨ne, ⟨o, vs, (Heap.get?_update_other _ _ ne).trans he, hc, hdx, hd, h0, h1⟩, _, _, Heap.get?_update_self _ hT (Obj.isFreed_of_fields (Obj.data_mapFields hdT _)), Obj.data_mapFields hdT _, by simp [hz]⟩)
/-- it leaves the frame in which it was raised -/
theorem leave_first {o : Obj} {vs : Array Value} {a0 : Value} (hA : A.frames = some (v :: outer)) (hl : s.heap.FunFrames base (v :: outer)) (hL : v.frame = some L) (he : s.heap.get? e = some o) (hd : o.data = .fields vs) (h1 : vs[1]? = some .none) (h0 : vs[0]? = some a0) (hef : e ∉ frs (v :: outer))
    (k : ∀ h' T, s.heap.objs.size ≤ T → KeptBut (frs (v :: outer)) [e] s.heap h' → ExcAt h' e T o.dict o.cls a0 .none → Q () { s with heap := h' }) : wpAny (model P w) A (leaving v (.ref e)) Q E s := by
  unfold leaving
  apply wpAny_bind
  refine note_first hA hl hL he hd h1 h0 hef fun h1 T n1 kb x => ?_
  refine flight_off (s := { s with heap := h1 }) x fun h2 k2 x2 => k h2 T n1 ⟨fun b u eb f c => ?_, fun b u eb f c => ?_⟩ x2
  · exact k2 b u (kb.keep b u eb f c) fun z => absurd (Nat.lt_of_lt_of_le (Heap.lt_size eb) n1) (by rw [z]; exact Nat.lt_irrefl _)
  · obtain ⟨sl, es⟩ := kb.slot b u eb f c
    exact ⟨sl, k2 b _ es fun z => absurd (Nat.lt_of_lt_of_le (Heap.lt_size eb) n1) (by rw [z]; exact Nat.lt_irrefl _)⟩
/-- it leaves a frame that it came into from a call -/
theorem leave_next {T : Addr} {dx : Option Addr} {cls a0 : Value} (hA : A.frames = some (v :: outer)) (hl : s.heap.FunFrames base (v :: outer)) (hL : v.frame = some L) (x : ExcAt s.heap e T dx cls a0 .none) (hef : e ∉ frs (v :: outer)) (hTf : T ∉ frs (v :: outer))
    (k : ∀ h' T', s.heap.objs.size ≤ T' → KeptBut (frs (v :: outer)) [e, T] s.heap h' → ExcAt h' e T' dx cls a0 .none → Q () { s with heap := h' }) : wpAny (model P w) A (leaving v (.ref e)) Q E s := by
  unfold leaving
  apply wpAny_bind
  refine note_next hA hl hL x hef hTf fun h1 T' n1 kb x => ?_
  refine flight_off (s := { s with heap := h1 }) x fun h2 k2 x2 => k h2 T' n1 ⟨fun b u eb f c => ?_, fun b u eb f c => ?_⟩ x2
  · exact k2 b u (kb.keep b u eb f c) fun z => absurd (Nat.lt_of_lt_of_le (Heap.lt_size eb) n1) (by rw [z]; exact Nat.lt_irrefl _)
  · obtain ⟨sl, es⟩ := kb.slot b u eb f c
    exact ⟨sl, k2 b _ es fun z => absurd (Nat.lt_of_lt_of_le (Heap.lt_size eb) n1) (by rw [z]; exact Nat.lt_irrefl _)⟩
end
end L2

set_option Elab.async false
set_option linter.all false
set_option maxRecDepth 100000
namespace L2
open PySem PySem.Spec PyProof.Rows
section
variable {P : Program} {w : World} {H H' : Hp} {h h0 h' : Heap} {a : Addr} {o : HO} {fr fr' ch : List Addr}
theorem ObjOk.get (x : ObjOk P w H h a o) : ∃ u, h.get? a = some u := by
  cases o with
  | lst xs => obtain ⟨_, _, _, _, e⟩ := x; exact ⟨_, e⟩
  | tup xs => obtain ⟨_, _, _, _, e, _⟩ := x; exact ⟨_, e⟩
  | dK kvs => obtain ⟨_, _, _, _, o, _, _, e, _⟩ := x; exact ⟨_, e⟩
  | dT kvs => obtain ⟨_, _, _, _, o, _, _, e, _⟩ := x; exact ⟨_, e⟩
  | set S n => obtain ⟨o, _, _, _, e, _⟩ := x; exact ⟨_, e⟩
  | ins C dx fs => obtain ⟨_, _, _, e, _⟩ := x; exact ⟨_, e⟩
  | own y => obtain ⟨_, e⟩ := x; exact ⟨_, e⟩
  | xd fs => obtain ⟨_, ⟨_, _, _, e, _⟩, _⟩ := x; exact ⟨_, e⟩
  | rng lo hi => obtain ⟨_, _, _, e⟩ := x; exact ⟨_, e⟩
  | frz ob u => obtain ⟨e, _⟩ := x; exact ⟨_, e⟩
  | tbl ps => exact ⟨_, (show h.get? a = some _ from x)⟩
  | met f y => exact ⟨_, (show h.get? a = some _ from x)⟩
  | ext φ => obtain ⟨_, ⟨_, e⟩, _⟩ := x; exact ⟨_, e⟩
theorem HOk.out (x : HOk P w H h) (e : h.get? a = none) : H a = none := by
  cases q : H a with
  | none => rfl
  | some u => obtain ⟨_, z⟩ := (x a u q).get; rw [e] at z; cases z
theorem HOk.butX (x : HOk P w H h) (kb : KeptBut fr ch h h') (hf : ∀ b ∈ fr, H b = none) (hc : ∀ b ∈ ch, H b = none) : HOk P w H h' := fun a o e => by
  refine (x a o e).stay (fun b u hb q => ?_) (fun _ q => q) fun _ _ q => q
  have hn : H b ≠ none := by
    rcases hb with rfl | hb
    · rw [e]; exact fun z => nomatch z
    · rw [hb]; exact fun z => nomatch z
  exact kb.keep b u q (fun z => hn (hf b z)) fun z => hn (hc b z)
theorem Un.but (u : Un fr [] H H' h0 h) (kb : KeptBut fr' ch h h') (nw : ∀ b o, h0.get? b = some o → b ∉ ch ∧ (b ∈ fr' → b ∈ fr)) : Un fr [] H H' h0 h' where
  keep := fun b o e n f x => kb.keep b o (u.keep b o e n f x) (fun z => f ((nw b o e).2 z)) (nw b o e).1
  slot := fun b o e n f x => by
    obtain ⟨sl, e1⟩ := u.slot b o e n f x
    obtain ⟨sl2, e2⟩ := kb.any e1 (nw b o e).1
    exact ⟨sl2, e2⟩
  free := u.free
  there := fun b o e x => by
    obtain ⟨o', e1⟩ := u.there b o e x
    obtain ⟨sl2, e2⟩ := kb.any e1 (nw b o e).1
    exact ⟨_, e2⟩
  tups := u.tups
  frzs := u.frzs
  tbls := u.tbls
end
/-- how an exception lies behind a call -/
def CX1 (P : Program) (w : World) : CXT := fun outer H s E e s' => ∃ ea T dx cls a0 H', e = .ref ea ∧ s'.os = s.os ∧ AllBare s'.gens ∧ Un (frs outer) [] H H' s.heap s'.heap ∧ HOk P w H' s'.heap ∧
  ExcAt s'.heap ea T dx cls a0 .none ∧ H' ea = none ∧ H' T = none ∧ s.heap.get? ea = none ∧ s.heap.get? T = none ∧ (∀ a, dx = some a → s.heap.get? a = none) ∧ E cls dx H'
section
variable {P : Program} {w : World} {K : PySem.W.Frag} {mg : Str → Option Value} {base : Heap} {N : List Str} {qual : Str} {scope : Scope} {f : Addr} {cd : Value} {A : Around} {outer : List Env} {s : Shared} {H : Hp} {E : XK}
abbrev CXf (P : Program) (w : World) (K : PySem.W.Frag) (mg : Str → Option Value) (base : Heap) (N : List Str) (qual : Str) (scope : Scope) (f : Addr) (cd : Value) (A : Around) (outer : List Env) (s : Shared) (H : Hp) (E : XK) : Cx := cxOf (CX1 P w) P w K mg base N qual scope f cd A outer s H E
/-- it leaves this frame: what was made here is fresh for the caller -/
theorem xe_of {pins : List (Addr × Obj)} {σ : St} {H1 : Hp} {s1 s2 : Shared} {ea : Addr} {ch : List Addr} {dx : Option Addr} {cls a0 : Value} (I : Inv (CXf P w K mg base N qual scope f cd A outer s H E) pins σ H1 s1) (hen : s.heap.get? ea = none) (hE : E cls dx H1) (hh : H1 ea = none)
    (hos : s2.os = s1.os) (hg : s2.gens = s1.gens) (hk : KeptBut (frs (envOfC qual scope s.heap.objs.size f cd :: outer)) ch s1.heap s2.heap) (hch : ∀ b ∈ ch, H1 b = none ∧ s.heap.get? b = none) {T : Addr} (x : ExcAt s2.heap ea T dx cls a0 .none) (hT : H1 T = none) (hTn : s.heap.get? T = none) (hdn : ∀ a, dx = some a → s.heap.get? a = none) :
    CX1 P w outer H s E (.ref ea) s2 := by
  refine ⟨ea, T, dx, cls, a0, H1, rfl, hos.trans I.os, by rw [hg]; exact I.bare, Un.but I.base hk fun b o e => ⟨fun z => ?_, fun z => ?_⟩, I.hok.butX hk (fun b hb => I.stkFree b hb) fun b hb => (hch b hb).1, x, hh, hT, hen, hTn, hdn, hE⟩
  · rw [(hch b z).2] at e; cases e
  · have z' : b ∈ s.heap.objs.size :: frs outer := I.stkSub b z
    rcases List.mem_cons.mp z' with q | q
    · rw [q] at e; exact absurd (Heap.lt_size e) (Nat.lt_irrefl _)
    · exact q
theorem pass1 : Passes (CX1 P w) (CXf P w K mg base N qual scope f cd A outer s H E) E := by
  intro pins σ H1 s1 e s2 I hx
  obtain ⟨ea, T, dx, cls, a0, H2, rfl, os, bare, un, hok, x, n1, n2, n3, n4, n5, hE⟩ := hx
  have I2 : Inv (CXf P w K mg base N qual scope f cd A outer s H E) pins σ H2 s2 := I.call' (ch := []) os un hok bare fun b z => absurd z (by simp)
  have hout : ∀ b, s1.heap.get? b = none → b ∉ frs (envOfC qual scope s.heap.objs.size f cd :: outer) := fun b hb z => by
    obtain ⟨_, o, ho, _⟩ := I.stack.mem z
    rw [hb] at ho; cases ho
  have old : ∀ b, s1.heap.get? b = none → s.heap.get? b = none := fun b hb => by
    cases q : s.heap.get? b with
    | none => rfl
    | some o => obtain ⟨o', z⟩ := I.base.there b o q (fun z => absurd z (by simp [cxOf])); rw [hb] at z; cases z
  show wpAny (model P w) (A.deeper (envOfC qual scope s.heap.objs.size f cd)) (leaving (envOfC qual scope s.heap.objs.size f cd) (.ref ea)) _ _ s2
  refine leave_next (base := base) (outer := outer) I.ok.frames I2.stack rfl x (hout ea n3) (hout T n4) fun h' T' sz kb x' => ?_
  have hT' : s2.heap.get? T' = none := Heap.get?_none_of_le sz
  refine xe_of (s2 := { s2 with heap := h' }) I2 (old ea n3) hE n1 rfl rfl kb (fun b hb => ?_) x' (hok.fresh sz) ?_ fun a z => old a (n5 a z)
  · simp only [List.mem_cons, List.not_mem_nil, or_false] at hb
    rcases hb with rfl | rfl
    · exact ⟨n1, old _ n3⟩
    · exact ⟨n2, old _ n4⟩
  · cases q : s.heap.get? T' with
    | none => rfl
    | some o => obtain ⟨o', z⟩ := I2.base.there T' o q (fun z => absurd z (by simp [cxOf])); rw [hT'] at z; cases z
end
end L2

set_option Elab.async false
set_option linter.all false
set_option maxRecDepth 100000
namespace L2
open PySem PySem.Spec PyProof.Rows
theorem ns_none {K : PySem.W.Frag} {h : Heap} {N : Addr} {m : Str → Option Value} {n : Str} (X : K.In h) (G : h.Ns N m) (e : PySem.W.nsIn K N n = some none) : m n = none := by
  obtain ⟨o, es, ep, ho, hd, _, hf⟩ := G
  unfold PySem.W.nsIn at e
  split at e
  · rename_i q
    have z := X _ _ q
    rw [ho] at z
    cases z
    cases hd
    split at e
    · cases e
    · rename_i he
      rw [← hf]
      unfold nsFind findBy
      rw [← Array.find?_toList, he]
      rfl
  · cases e
theorem ns_kept {h h' : Heap} {N : Addr} {m : Str → Option Value} (G : h.Ns N m) (k : ∀ b o, h.get? b = some o → h'.get? b = some o) : h'.Ns N m := let ⟨o, es, ep, ho, r⟩ := G; ⟨o, es, ep, k _ _ ho, r⟩
section
variable {P : Program} {w : World} {K : PySem.W.Frag} {mg : Str → Option Value} {base : Heap} {N : List Str} {qual : Str} {scope : Scope} {f : Addr} {cd : Value} {A : Around} {outer : List Env} {s : Shared} {H : Hp} {E : XK}
end
end L2

set_option Elab.async false
set_option linter.all false
set_option maxRecDepth 100000
namespace L2
open PySem PySem.Spec PyProof.Rows
/-- a statement that raises, whatever comes: how the exception lies -/
def RS (X : Cx) (st : Stmt) (rt : St → Hp → (Hp → XK) → Prop) : Prop := ∀ (pins : List (Addr × Obj)) (s : Shared) (σ : St) (H : Hp) (W : Hp → XK), Inv X pins σ H s → rt σ H W →
  wpAny (model X.prog X.w) X.A (exec st X.env) (fun _ _ => False) (fun e s' => ∃ H1 s1, Inv X pins σ H1 s1 ∧ CX1 X.prog X.w X.stack H1 s1 (W H1) e s') s
def RE (X : Cx) (e : Expr) (rt : St → Hp → (Hp → XK) → Prop) : Prop := ∀ (pins : List (Addr × Obj)) (s : Shared) (σ : St) (H : Hp) (W : Hp → XK), Inv X pins σ H s → rt σ H W →
  wpAny (model X.prog X.w) X.A (eval e X.env) (fun _ _ => False) (fun e s' => ∃ H1 s1, Inv X pins σ H1 s1 ∧ CX1 X.prog X.w X.stack H1 s1 (W H1) e s') s
def Quiet (X : Cx) : Prop := ∀ e s, ¬ X.xe e s
section
variable {X : Cx} {k : Nat} {f : Addr} {fd : FuncData} {ps : List Str} {sp : Sp} {x : Str} {p pos : Pos} {e : Expr} {es : List Expr} {t : TA}
theorem re_call (hq : Quiet X) (F : FnOk X.prog X.w X.K X.mg X.base (CX1 X.prog X.w) k f fd ps sp) (hr : Room k X.A) (hg : Gl X x) (hm : X.mg x = some (.ref f)) (hk : PySem.W.keepIn X.K (.ref f) = true) (hb : Binds X.K fd ps [])
    (ha : PA X (e :: es) t) (hdb : (x == ("__debug__" : Str)) = false := by decide) (he : starEach (e :: es) X.env = (false, eval e X.env) :: starEach es X.env := by rfl) (hpl : (backTo pos (starEach es X.env)).any (·.1) = false := by rfl) :
    RE X (.Call (.Name x p) (e :: es) [] pos) (fun σ H W => t σ H fun vs H1 => sp vs H1 (fun _ _ => False) (W H1)) := by
  intro pins s σ H W I h
  refine wpAny_Call_Name_kw (ld_glob I hg hm ?_ hdb)
  refine PySem.W.callWith_K (h₀ := X.base) I.ok.mod.kin hk (wpAny_mono (ha pos pins s σ H _ I h) (fun us s1 hz => ?_) fun e s z => absurd z (hq e s)) he hpl
  obtain ⟨vs, H1, I1, r, q⟩ := hz
  refine ⟨I1.kIn, ?_⟩
  have hl : us.length = ps.length := by rw [← r.length]; exact F.len _ _ _ _ q
  have hb' := hb s1 us I1.kIn (by rw [List.append_nil]; exact hl)
  rw [List.append_nil] at hb'
  refine wpAny_call (codeAny_mono (F.run X.A X.stack s1 H1 ⟨us, []⟩ us vs _ (W H1) hr I1.env0 hb' r q) fun r s' hq => ?_)
  cases r with
  | error e => exact ⟨H1, s1, I1, hq⟩
  | ok fl =>
    cases fl with
    | ret u => obtain ⟨_, _, _, _, _, _, _, z⟩ := hq; exact z.elim
    | next => exact False.elim hq
    | brk => exact False.elim hq
    | cont => exact False.elim hq
theorem rs_set {rt : St → Hp → (Hp → XK) → Prop} {y : Str} {pos' : Pos} (h : RE X e rt) (hs : swapsWith e (some (.Name y pos')) pos.line X.env = pure false := by rfl) : RS X (.Assign [.Name y pos'] e pos) rt := by
  intro pins s σ H W I hq
  exact wpAny_Assign_Name (thn (h pins s σ H W I hq) fun v s1 z => z.elim) hs
end
/-- within the suite -/
abbrev Cx.marked (X : Cx) (ea : Addr) : Cx := { X with A := X.A.mark (some (.ref ea)), calm := false }
section
variable {X : Cx} {pins : List (Addr × Obj)} {σ : St} {H : Hp} {s : Shared} {ea : Addr}
theorem Inv.mark (I : Inv X pins σ H s) (ea : Addr) : Inv (X.marked ea) pins σ H s :=
  ⟨⟨I.ok.mod, I.ok.kind, I.ok.glob, I.ok.blt, I.ok.above, I.ok.inj, I.ok.has, I.ok.cab, (fun z => nomatch z), I.ok.frames, I.ok.stk, I.ok.exf, I.ok.bs, I.ok.bsz, I.ok.noex, I.ok.exfs, I.ok.funs, I.ok.frf⟩, I.os, I.bare, I.base, I.loc, I.cell, I.free, I.freeC, I.pin, I.hok, I.len⟩
theorem Inv.unmark {σ' : St} {H' : Hp} {s' : Shared} (I : Inv X pins σ H s) (J : Inv (X.marked ea) pins σ' H' s') : Inv X pins σ' H' s' := ⟨I.ok, J.os, J.bare, J.base, J.loc, J.cell, J.free, J.freeC, J.pin, J.hok, J.len⟩
/-- the name goes behind the suite -/
theorem goes_ok {M : Model} {A : Around} {E : Value → Shared → Prop} {i : Nat} {n : Str} {pos : Pos} {Q : Unit → Shared → Prop} (I : Inv X pins σ H s) (hN : X.N.Nodup) (hi : X.N[i]? = some n) (hx : X.env.scope.names.lookup n = some .local)
    (h : ∀ s', Inv X pins (σ.set i none) H s' → Q () s') : wpAny M A (do bindName X.env n .none; unbindBehindTheSuite X.env n pos) Q E s := by
  obtain ⟨m, hn, hl⟩ := id I.loc
  have hcls : (X.env.scope.kind == .class || (X.env.scope.kind == .module && X.env.locals != X.env.globals)) = false := by rw [I.ok.kind]; rfl
  have hiσ : i < σ.length := by rw [I.len]; exact (List.getElem?_eq_some_iff.mp hi).1
  have cne := I.cne
  refine wpAny_nameGoes_keeps hx hn hcls fun h' v hn' hs => ?_
  have low : ∀ b o, X.s₀.heap.get? b = some o → b ≠ X.env.locals := fun b o e => Nat.ne_of_lt (Nat.lt_of_lt_of_le (Heap.lt_size e) I.ok.above)
  refine h _ ⟨I.ok, I.os, I.bare, ⟨fun b o e n hb hx => ?_, fun b o e n hb hx => ?_, I.base.free, fun b o e hx => ?_, I.base.tups, I.base.frzs, I.base.tbls⟩, ⟨_, hn', fun j y v' e1 e2 e3 => ?_⟩, fun y c e => ?_, I.free, I.freeC, fun p hp => ?_, fun b ob e => ?_, by simpa using I.len⟩
  · exact (hs.2 b (low b o e)).trans (I.base.keep b o e n hb hx)
  · obtain ⟨sl, e1⟩ := I.base.slot b o e n hb hx
    exact ⟨sl, (hs.2 b (low b o e)).trans e1⟩
  · obtain ⟨o', e1⟩ := I.base.there b o e hx
    exact ⟨o', (hs.2 b (low b o e)).trans e1⟩
  · have hj : j ≠ i := fun z => by
      rw [z, List.getElem?_set_self hiσ] at e2
      cases e2
    rw [List.getElem?_set_ne (Ne.symm hj)] at e2
    obtain ⟨u', r', q⟩ := hl j y v' e1 e2 e3
    have hy : y ≠ n := fun z => hj (nodup_ix hN (z ▸ e1) hi)
    refine ⟨u', r', ?_⟩
    rcases q with ⟨k, e⟩ | ⟨k, c, e, o, z, zd⟩
    · exact .inl ⟨k, by show (if y = n then v else m y) = _; rw [if_neg hy]; exact e⟩
    · exact .inr ⟨k, c, e, o, (hs.2 c (cne y c e)).trans z, zd⟩
  · obtain ⟨w', o, z, zd⟩ := I.cell y c e
    exact ⟨w', o, (hs.2 c (cne y c e)).trans z, zd⟩
  · obtain ⟨p1, p2, p3, p4, p5⟩ := I.pin p hp
    exact ⟨(hs.2 p.1 p3).trans p1, p2, p3, p4, p5⟩
  · refine (I.hok b ob e).stay (fun c w' hc q => (hs.2 c ?_).trans q) (fun _ q => q) fun _ _ q => q
    rintro rfl
    rcases hc with rfl | hc
    · rw [I.free] at e; cases e
    · rw [I.free] at hc; cases hc
theorem HOk.track {P : Program} {w : World} {H : Hp} {h : Heap} {a : Addr} {o : HO} (x : HOk P w H h) (hn : H a = none) (new : ObjOk P w (upd H a o) h a o) : HOk P w (upd H a o) h := fun b u e => by
  by_cases hb : b = a
  · subst hb; rw [upd_same] at e; cases e; exact new
  · rw [upd_ne hb] at e
    exact (x b u e).stay (fun c v _ q => q) (fun c q => by rw [upd_ne (ne_of_none q hn)]; exact q) fun c xs q => by rw [upd_ne (ne_of_none q hn)]; exact q
theorem Un.track {fr : List Addr} {H H' : Hp} {h h' : Heap} {a : Addr} {o : HO} (u : Un fr [] H H' h h') (hn : H' a = none) (hf : h.get? a = none) : Un fr [] H (upd H' a o) h h' where
  keep := u.keep
  slot := u.slot
  free := fun b ob e n x => by
    rw [upd_ne fun z => by rw [z, hf] at e; cases e]
    exact u.free b ob e n x
  there := u.there
  tups := fun b xs e => by have z := u.tups b xs e; rw [upd_ne (ne_of_none z hn)]; exact z
  frzs := fun b ob v e => by have z := u.frzs b ob v e; rw [upd_ne (ne_of_none z hn)]; exact z
  tbls := fun b q e => by
    obtain ⟨more, z⟩ := u.tbls b q e
    exact ⟨more, by rw [upd_ne (ne_of_none z hn)]; exact z⟩
/-- try: st except J as n: suite, where st raises -/
def tTryX (K : PySem.W.Frag) (J : Addr) (i : Nat) (rt : St → Hp → (Hp → XK) → Prop) (ts : Addr → TS) : TS := fun D σ H => rt σ H fun H1 cls dx H2 => PySem.W.exmOne K cls (.ref J) = some true ∧
  ∃ C, cls = .ref C ∧ ∀ ea, H1 ea = none → H2 ea = none → (∀ a, dx = some a → H1 a = none) → ts ea { nx := fun σ' H' => D.nx (σ'.set i none) H', rt := fun _ _ => False } (σ.set i (some (.ref ea))) (upd H2 ea (.ext (TL.excAt ea C dx)))
theorem ps_tryX {J : Addr} {i : Nat} {n jn : Str} {jp hp pos : Pos} {st b0 : Stmt} {suite : List Stmt} {rt : St → Hp → (Hp → XK) → Prop} {ts : Addr → TS} (hq : Quiet X) (hst : X.stack = X.env :: X.outer) (hfr : X.env.frame = some X.env.locals) (hN : X.N.Nodup) (hi : X.N[i]? = some n) (hx : X.env.scope.names.lookup n = some .local) (hg : Gl X jn) (hm : X.mg jn = some (.ref J))
    (hs : RS X st rt) (hb : ∀ ea, PSs (X.marked ea) (b0 :: suite) (ts ea)) (hd : (jn == ("__debug__" : Str)) = false := by decide) :
    PS X (.Try [st] [.ExceptHandler (some (.Name jn jp)) (some n) (b0 :: suite) hp] [] [] pos) (tTryX X.K J i rt ts) := by
  intro pins s σ H D I h
  refine wpAny_Try_except (wpAny_execs_cons (wpAny_mono (hs pins s σ H _ I h) (fun _ _ z => z.elim) fun e s' hz => ?_))
  obtain ⟨H1, s1, I1, ea, T, dx, cls, a0, H2, rfl, os, bare, un, hok, x, n1, n2, n3, n4, n5, hW, C, rfl, hsuite⟩ := hz
  have I2 : Inv X pins σ H2 s' := I1.call' (ch := []) os un hok bare fun b z => absurd z (by simp)
  have hfrm : X.A.frames = some (X.env :: X.outer) := by rw [← hst]; exact I.ok.frames
  have hstk : s'.heap.FunFrames X.base (X.env :: X.outer) := by rw [← hst]; exact I2.stack
  have hout : ∀ b, s1.heap.get? b = none → b ∉ frs (X.env :: X.outer) := fun b hb z => by
    rw [← hst] at z
    obtain ⟨_, o, ho, _⟩ := I1.stack.mem z
    rw [hb] at ho; cases ho
  have hfree : ∀ b ∈ frs (X.env :: X.outer), H2 b = none := fun b hb => by rw [← hst] at hb; exact I2.stkFree b hb
  refine note_next (base := X.base) hfrm hstk hfr x (hout ea n3) (hout T n4) fun h3 T' sz kb x3 => ?_
  have hT' : H2 T' = none := hok.fresh sz
  have hT1 : s1.heap.get? T' = none := by
    cases q : s1.heap.get? T' with
    | none => rfl
    | some o => obtain ⟨o', z⟩ := un.there T' o q (by simp); rw [Heap.get?_none_of_le sz] at z; cases z
  refine flight_off (s := { s' with heap := h3 }) x3 fun h4 k4 x4 => ?_
  have kb4 : KeptBut (frs (X.env :: X.outer)) [ea, T, T'] s'.heap h4 := (kb.more fun b hb => List.mem_cons.mpr ((List.mem_cons.mp hb).imp id fun z => List.mem_cons.mpr (.inl (List.mem_singleton.mp z)))).trans (.of fun b u eb c => k4 b u eb fun z => c (by rw [z]; simp))
  have nw : ∀ b o, s1.heap.get? b = some o → b ∉ [ea, T, T'] ∧ (b ∈ frs (X.env :: X.outer) → b ∈ frs X.stack) := fun b o e => by
    refine ⟨fun z => ?_, fun z => by rw [hst]; exact z⟩
    simp only [List.mem_cons, List.not_mem_nil, or_false] at z
    rcases z with rfl | rfl | rfl
    · rw [n3] at e; cases e
    · rw [n4] at e; cases e
    · rw [hT1] at e; cases e
  have chn : ∀ b ∈ [ea, T, T'], H2 b = none := fun b z => by
    simp only [List.mem_cons, List.not_mem_nil, or_false] at z
    rcases z with rfl | rfl | rfl
    · exact n1
    · exact n2
    · exact hT'
  have un4 := un.but kb4 nw
  have hok4 := hok.butX kb4 hfree chn
  have I4 : Inv X pins σ H2 { s' with heap := h4 } := I1.call' (ch := []) os un4 hok4 bare fun b z => absurd z (by simp)
  have J4 := I4.mark ea
  obtain ⟨oe, ve, ge, ce, de, dte, _, _⟩ := x4.ex
  have LT : PySem.W.Looks (model X.prog X.w) h4 (typeOf (.ref ea)) (.ref C) := ce ▸ (PySem.W.Looks.ld ge).andThen .now
  refine wpAny_handleBy_cons (codeAny_handlers_test (ld_glob (X := X.marked ea) J4 hg hm (((PySem.W.exm_one J4.kIn LT hW).at ?_)) hd)) (fun z => nomatch z)
  rw [if_pos rfl]
  refine codeAny_handlers_suite_as (flight_off (s := { s' with heap := h4 }) x4 fun h5 k5 x5 => ?_)
  have kb5 : KeptBut (frs (X.env :: X.outer)) [ea, T, T'] s'.heap h5 := kb4.trans (.of fun b u eb c => k5 b u eb fun z => c (by rw [z]; simp))
  have un5 := un.but kb5 nw
  have hok5 := hok.butX kb5 hfree chn
  obtain ⟨o5, v5, g5, c5, d5, dt5, _, _⟩ := x5.ex
  have hq5 := hsuite ea (I1.hok.out n3) n1 fun a z => I1.hok.out (n5 a z)
  have hok6 : HOk X.prog X.w (upd H2 ea (.ext (TL.excAt ea C dx))) h5 := hok5.track n1 ⟨⟨o5, v5, g5, c5, d5, dt5⟩, ⟨o5, g5⟩, fun ha hb ⟨o, v, y1, y2⟩ k => ⟨o, v, k o y1, y2⟩⟩
  have I5 : Inv X pins σ (upd H2 ea (.ext (TL.excAt ea C dx))) { s' with heap := h5 } := I1.call' (ch := []) os (un5.track n1 n3) hok6 bare fun b z => absurd z (by simp)
  refine store_ok I5 hN hi (.inl hx) (v := .ref ea) rfl (fun s6 I6 => ?_) (.inr hx)
  refine wpAny_mono (hb ea pins s6 _ _ _ (I6.mark ea) hq5) (fun fl s7 h7 => ?_) fun e s7 z => absurd z (hq e s7)
  cases fl with
  | next =>
    obtain ⟨σ', H', J7, q⟩ := h7
    exact goes_ok (I6.unmark J7) hN hi hx fun s8 I8 => ⟨_, H', I8, q⟩
  | brk => obtain ⟨_, _, _, z⟩ := h7; exact z.elim
  | cont => obtain ⟨_, _, _, z⟩ := h7; exact z.elim
  | ret u => obtain ⟨_, _, _, _, _, z⟩ := h7; exact z.elim
/-- try: where the body goes its way -/
theorem ps_tryN {body : List Stmt} {h₀ : ExceptHandler} {hs : List ExceptHandler} {pos : Pos} {ts : TS} (hq : Quiet X) (hb : PSs X body ts) : PS X (.Try body (h₀ :: hs) [] [] pos) ts := by
  intro pins s σ H D I h
  refine wpAny_Try_except (wpAny_mono (hb pins s σ H D I h) (fun f s1 q => ?_) fun e s1 z => absurd z (hq e s1))
  cases f with
  | next => exact wpAny_execs_nil q
  | ret v => exact q
  | brk => exact q
  | cont => exact q
end
end L2

set_option Elab.async false
set_option linter.all false
set_option maxRecDepth 100000
namespace TL
open PySem PySem.Spec PyProof.Rows L2
/-- an exception as data: its class's address, and what it bears at .at -/
def XRep (K : PySem.W.Frag) (H : Hp) (d : D) (cls : Value) (dx : Option Addr) : Prop :=
  (∃ C : Addr, d = .dict [(.int (C : Nat), .none)] ∧ cls = .ref C ∧ dx = none ∧ XOk K C) ∨
  (∃ (C a : Addr) (n : Int), d = .dict [(.int (C : Nat), .int n)] ∧ cls = .ref C ∧ dx = some a ∧ XOk K C ∧ H a = some (.xd [("at", .int n)]))
/-- a def that raises, whatever comes -/
def liftSpX (K : PySem.W.Frag) (sp : SpT) : Sp := fun vs H _ E => ∃ (ps : List Addr) (ds : List D) (ED : D → Prop), (∀ p ∈ ps, H p ≠ none) ∧ Reps K (mask H ps) ds vs ∧ sp ds ED ∧ ∀ d cls dx H', Same H H' → XRep K H' d cls dx → ED d → E cls dx H'
section
variable {K : PySem.W.Frag} {P : Program} {w : World} {mg : Str → Option Value} {base : Heap}
theorem fnX {x qual : Str} {st : Stmt} {f : Addr} {fd : FuncData} {N pn : List Str} {k : Nat} {sp : SpT} (F : Fun K x qual st f fd) (S : FnScope N pn (defScope st)) (len : ∀ ds Q, sp ds Q → ds.length = pn.length)
    (hbody : ∀ (cdv : Value) (A : Around) (outer : List Env) (s : Shared) (H : Hp) (E : XK), Room k (A.deeper (envOfC qual (defScope st) s.heap.objs.size f cdv)) → ∀ (ds : List D) (ED : D → Prop), sp ds ED → (∀ d cls dx H', Same H H' → XRep K H' d cls dx → ED d → E cls dx H') →
      ∃ t, PSst (CXf P w K mg base N qual (defScope st) f cdv A outer s H E) (defBody st) t ∧ t { nx := fun _ => False, rt := fun _ => False, xB := fun B => B = H } (startT N ds)) : FnOk P w K mg base (CX1 P w) (k + 1) f fd pn (liftSpX K sp) := by
  obtain ⟨oc, od, kV, doc, pm, an, cdv, ct, osl, rfl, lk, hcd⟩ := F.ex
  refine fn_of lk hcd S (fun vs H Q E h => ?_) fun A outer s H vs Q E hr h => ?_
  · obtain ⟨ps, ds, QD, _, r, q, _⟩ := h
    rw [← r.length]; exact len ds QD q
  · obtain ⟨ps, ds, ED, live, r, q, hE⟩ := h
    obtain ⟨t, ⟨ts, p, rd⟩, h⟩ := hbody cdv A outer s H E hr ds ED q hE
    exact ⟨ts, p, rd H ps H ps _ _ _ _ (ok_start live r) h ⟨fun _ _ _ _ _ _ q' => q'.elim, fun _ _ _ _ _ _ q' => q'.elim, fun _ _ _ _ _ _ q' => q'.elim, fun _ _ _ _ _ q' => q'.elim, fun _ _ _ _ _ _ _ _ _ q' => q'.elim, fun _ _ _ _ _ _ _ _ _ _ _ _ _ _ _ _ _ _ q' => q'.elim, rfl⟩⟩
end
section
variable {P : Program} {w : World} {K : PySem.W.Frag} {mg : Str → Option Value} {base : Heap} {N : List Str} {qual : Str} {scope : Scope} {f : Addr} {cd : Value} {A : Around} {outer : List Env} {s : Shared} {H : Hp} {E : XK} {ED : D → Prop}
end
section
variable {X : Cx} {e : Expr} {es : List Expr} {pos : Pos} {st : Stmt}
/-- an expression that raises -/
def PEx (X : Cx) (W : Hp → Prop) (e : Expr) (t : List Sl → Prop) : Prop := ∃ te : TE, PE X e te ∧ ∀ (B : Hp) (p0 : List Addr) (H : Hp) (ps : List Addr) (σT : List Sl) (σ : L2.St) (QV : VK), Ok X.K B p0 H ps σT σ → t σT → W B → te σ H QV
theorem ex_call {sp : SpT} {ED : D → Prop} {E : XK} {H0 : Hp} {x : Str} {p : Pos} {t : AT} (hE : ∀ d cls dx H', Same H0 H' → XRep X.K H' d cls dx → ED d → E cls dx H') (ha : PAt X (e :: es) t)
    (pc : ∀ {ta : TA}, PA X (e :: es) ta → PE X (.Call (.Name x p) (e :: es) [] pos) (tCall (liftSpX X.K sp) [] E ta)) : PEx X (fun B => B = H0) (.Call (.Name x p) (e :: es) [] pos) (fun σ => t σ fun ds => sp ds ED) := by
  obtain ⟨v, pa, ra⟩ := ha
  refine ⟨_, pc pa, fun B p0 H ps σT σ QV o h hB => ra B p0 H ps σT σ _ _ o h fun ds xs H1 s1 r1 q1 => ?_⟩
  subst hB
  show liftSpX X.K sp (xs ++ []) H1 QV E
  rw [List.append_nil]
  exact ⟨ps, ds, ED, (o.grow s1).live, r1, q1, fun d cls dx H' s' x' e' => hE d cls dx H' ((o.base.trans s1).trans s') x' e'⟩
theorem PSt.or {t u : STt} (h1 : PSt X st t) (h2 : PSt X st u) : PSt X st (fun DT σ => t DT σ ∨ u DT σ) := by
  obtain ⟨v1, p1, r1⟩ := h1
  obtain ⟨v2, p2, r2⟩ := h2
  refine ⟨fun D σ H => v1 D σ H ∨ v2 D σ H, fun pins s σ H D I h => ?_, fun B p0 H ps σT σ DT DV o h f => ?_⟩
  · rcases h with h | h
    · exact p1 pins s σ H D I h
    · exact p2 pins s σ H D I h
  · rcases h with h | h
    · exact .inl (r1 B p0 H ps σT σ DT DV o h f)
    · exact .inr (r2 B p0 H ps σT σ DT DV o h f)
theorem st_tryN {body : List Stmt} {h0 : ExceptHandler} {hs : List ExceptHandler} {t : STt} (h : PSst X body t) (p : ∀ {ts : TS}, PSs X body ts → PS X (.Try body (h0 :: hs) [] [] pos) ts) : PSt X (.Try body (h0 :: hs) [] [] pos) t := by
  obtain ⟨ts, p1, r⟩ := h
  exact ⟨ts, p p1, r⟩
def RSt (X : Cx) (st : Stmt) (t : ET) : Prop := ∃ rt : L2.St → Hp → (Hp → XK) → Prop, RS X st rt ∧ ∀ (B : Hp) (p0 : List Addr) (H : Hp) (ps : List Addr) (σT : List Sl) (σ : L2.St) (ED : D → Prop) (W : Hp → XK), Ok X.K B p0 H ps σT σ → t σT ED →
  (∀ d cls dx H1 H2, Same H H1 → Same H1 H2 → XRep X.K H2 d cls dx → ED d → W H1 cls dx H2) → rt σ H W
theorem rst_call {sp : SpT} {x : Str} {p : Pos} {t : AT} (ha : PAt X (e :: es) t) (pc : ∀ {ta : TA}, PA X (e :: es) ta → RS X st (fun σ H W => ta σ H fun vs H1 => liftSpX X.K sp vs H1 (fun _ _ => False) (W H1))) : RSt X st (fun σ ED => t σ fun ds => sp ds ED) := by
  obtain ⟨v, pa, ra⟩ := ha
  refine ⟨_, pc pa, fun B p0 H ps σT σ ED W o h k => ra B p0 H ps σT σ _ _ o h fun ds xs H1 s1 r1 q1 => ?_⟩
  exact ⟨ps, ds, ED, (o.grow s1).live, r1, q1, fun d cls dx H2 s2 x' e' => k d cls dx H1 H2 s1 s2 x' e'⟩
theorem Ok.away {K : PySem.W.Frag} {B H : Hp} {p0 ps : List Addr} {σT : List Sl} {σ : L2.St} (o : Ok K B p0 H ps σT σ) (i : Nat) : Ok K B p0 H ps (σT.set i .un) (σ.set i none) where
  base := o.base
  sub := o.sub
  live := o.live
  len := by simpa using o.len
  val := fun j d h => by
    by_cases e : i = j
    · subst e
      have hi : i < σT.length := by have := (List.getElem?_eq_some_iff.mp h).1; simpa using this
      rw [List.getElem?_set_self hi] at h; cases h
    · rw [List.getElem?_set_ne e] at h ⊢; exact o.val j d h
  own := fun j ts h => by
    by_cases e : i = j
    · subst e
      have hi : i < σT.length := by have := (List.getElem?_eq_some_iff.mp h).1; simpa using this
      rw [List.getElem?_set_self hi] at h; cases h
    · rw [List.getElem?_set_ne e] at h ⊢; exact o.own j ts h
  dis := fun j k ts us p h1 h2 h3 h4 => by
    have back : ∀ {l : Nat} {vs : List D}, (σT.set i .un)[l]? = some (.own vs) → i ≠ l ∧ σT[l]? = some (.own vs) := fun {l vs} h => by
      by_cases e : i = l
      · subst e
        have hi : i < σT.length := by have := (List.getElem?_eq_some_iff.mp h).1; simpa using this
        rw [List.getElem?_set_self hi] at h; cases h
      · rw [List.getElem?_set_ne e] at h; exact ⟨e, h⟩
    obtain ⟨n1, b1⟩ := back h1
    obtain ⟨n2, b2⟩ := back h2
    rw [List.getElem?_set_ne n1] at h3
    rw [List.getElem?_set_ne n2] at h4
    exact o.dis j k ts us p b1 b2 h3 h4
def sTryX (K : PySem.W.Frag) (J : Addr) (i : Nat) (t : ET) (ts : STt) : STt := fun DT σ => t σ fun d => (∃ (C : Addr) (y : D), d = .dict [(.int (C : Nat), y)] ∧ PySem.W.exmOne K (.ref C) (.ref J) = some true) ∧
  ts { nx := fun σ' => DT.nx (σ'.set i .un), rt := fun _ => False, xB := DT.xB } (σ.set i (.val d))
theorem st_tryX {J : Addr} {i : Nat} {h0 : ExceptHandler} {t : ET} {b0 : Stmt} {suite : List Stmt} {ts : STt} (hs : RSt X st t) (hb : ∀ ea, PSst (X.marked ea) (b0 :: suite) ts)
    (pt : ∀ {rt : L2.St → Hp → (Hp → XK) → Prop} {us : Addr → TS}, RS X st rt → (∀ ea, PSs (X.marked ea) (b0 :: suite) (us ea)) → PS X (.Try [st] [h0] [] [] pos) (tTryX X.K J i rt us)) : PSt X (.Try [st] [h0] [] [] pos) (sTryX X.K J i t ts) := by
  obtain ⟨rt, rs, rr⟩ := hs
  refine ⟨_, pt rs (fun ea => (hb ea).choose_spec.1), fun B p0 H ps σT σ DT DV o h f => rr B p0 H ps σT σ _ _ o h fun d cls dx H1 H2 s1 s2 xr q => ?_⟩
  obtain ⟨⟨C, y, hd, hm⟩, q⟩ := q
  have main : ∀ C0 : Addr, cls = .ref C0 → C0 = C → (∀ ea, H2 ea = none → (∀ a, dx = some a → H1 a = none) → ∀ u, H ea = none → u = HO.ext (excAt ea C0 dx) → Rep X.K (mask (upd H2 ea u) ps) d (.ref ea)) → PySem.W.exmOne X.K cls (.ref J) = some true ∧ ∃ C, cls = .ref C ∧ ∀ ea, H1 ea = none → H2 ea = none → (∀ a, dx = some a → H1 a = none) →
      (hb ea).choose { nx := fun σ' H' => DV.nx (σ'.set i none) H', rt := fun _ _ => False } (σ.set i (some (.ref ea))) (upd H2 ea (.ext (excAt ea C dx))) := fun C0 hc hC hrep => by
    subst hc
    subst hC
    refine ⟨hm, C0, rfl, fun ea n1 n2 n3 => ?_⟩
    have nH : H ea = none := Same.free' s1 n1
    have sA : Same H (upd H2 ea (.ext (excAt ea C0 dx))) := (s1.trans s2).trans (same_new n2)
    refine (hb ea).choose_spec.2 B p0 _ ps _ _ { nx := fun σ' => DT.nx (σ'.set i .un), rt := fun _ => False, xB := DT.xB } _ ((o.grow sA).set (hrep ea n2 n3 _ nH rfl)) q ⟨fun H' ps' σT' σ' o' s' q' => ?_, fun _ _ _ _ _ _ q' => q'.elim, fun _ _ _ _ _ _ q' => q'.elim, fun _ _ _ _ _ q' => q'.elim, fun _ _ _ _ _ _ _ _ _ q' => q'.elim, fun _ _ _ _ _ _ _ _ _ _ _ _ _ _ _ _ _ _ q' => q'.elim, f.xb⟩
    exact f.nx H' ps' _ _ (o'.away i) ((mask_same sA).trans s') q'
  rcases xr with ⟨C0, h1, h2, h3, xk⟩ | ⟨C0, a, n, h1, h2, h3, xk, ha⟩
  · refine main C0 h2 ?_ fun ea n2 n3 u nH hu => ?_
    · rw [hd] at h1; injection h1 with h1; injection h1 with h1; injection h1 with h1; injection h1 with h1; exact (Int.ofNat.inj h1).symm
    · subst hu h1 h3
      exact .exc xk (mask_at (fresh_notin o.live nH) upd_same)
  · refine main C0 h2 ?_ fun ea n2 n3 u nH hu => ?_
    · rw [hd] at h1; injection h1 with h1; injection h1 with h1; injection h1 with h1; injection h1 with h1; exact (Int.ofNat.inj h1).symm
    · subst hu h1 h3
      exact .excA xk (mask_at (fresh_notin o.live nH) upd_same) (mask_at (fresh_notin o.live (Same.free' s1 (n3 a rfl))) (by rw [upd_ne (ne_of_none ha n2)]; exact ha))
end
end TL

set_option Elab.async false
set_option linter.all false
set_option maxRecDepth 100000
namespace L2
open PySem PySem.Spec PyProof.Rows
theorem bl_ValueError : bootBuiltins "ValueError" = some (.type "ValueError") := by decide +kernel
section
variable {K : PySem.W.Frag} {C D J : Addr} {cd : ClassData}
theorem kit_self : PySem.W.kitOne K (.ref C) (.ref C) = some true := by unfold PySem.W.kitOne; rw [if_pos (by simp)]
theorem kit_no (hc : PySem.W.clsIn K D = some cd) (ht : PySem.W.typeIn K (.ref D) = some (.type "type")) (hm : PySem.W.mroIn K C (.ref D) = some false) (hs : PySem.W.mroIn K D (.ref D) = some true) : PySem.W.kitOne K (.ref C) (.ref D) = some false := by
  have ne : ¬ (Value.ref C == Value.ref D) = true := fun z => by
    have e : C = D := Value.ref.inj (beq_iff_eq.mp z)
    subst e
    rw [hm] at hs; cases hs
  unfold PySem.W.kitOne
  rw [if_neg ne]
  unfold PySem.W.kitCls
  dsimp only
  rw [hc, ht]
  show (if (true && (some (Value.type "type") == some (Value.type "type"))) = true then _ else _) = _
  rw [if_pos (by simp)]
  exact hm
theorem kit_ty {T : String} {b : Bool} (hk : PySem.W.kitMeta T = true) (hm : PySem.W.mroIn K C (.type T) = some b) : PySem.W.kitOne K (.ref C) (.type T) = some b := by
  unfold PySem.W.kitOne
  rw [if_neg (fun z => by cases beq_iff_eq.mp z)]
  unfold PySem.W.kitCls
  dsimp only
  rw [if_pos hk]
  exact hm
theorem exm_own (hc : PySem.W.clsIn K J = some cd) (ht : PySem.W.typeIn K (.ref J) = some (.type "type")) (hb : PySem.W.mroIn K J (.type "BaseException") = some true) (hm : PySem.W.mroIn K C (.ref J) = some true) : PySem.W.exmOne K (.ref C) (.ref J) = some true := by
  unfold PySem.W.exmOne
  have e : PySem.W.subIn K (.ref J) (.type "BaseException") = some true := hb
  rw [e, if_pos (by simp)]
  unfold PySem.W.kitCls
  dsimp only
  rw [hc, ht]
  show (if (true && (some (Value.type "type") == some (Value.type "type"))) = true then _ else _) = _
  rw [if_pos (by simp)]
  exact hm
theorem nsOk_of {N : Addr} {c : Value} {d : Option Addr} {es : Array DictEntry} {n : Nat} {sl : Array (Option Value)} (l : K.lookup N = some ⟨c, d, .dict es n, sl⟩) (h : (es.toList.all fun e => match e.key with | .str _ _ => true | _ => false) = true) : PySem.W.nsOkIn K N = true := by
  unfold PySem.W.nsOkIn
  rw [l]
  rw [Array.all_toList] at h
  exact h
theorem km_int : PySem.W.kitMeta "int" = true := by decide +kernel
theorem km_str : PySem.W.kitMeta "str" = true := by decide +kernel
theorem km_list : PySem.W.kitMeta "list" = true := by decide +kernel
theorem km_tuple : PySem.W.kitMeta "tuple" = true := by decide +kernel
theorem km_bool : PySem.W.kitMeta "bool" = true := by decide +kernel
theorem km_ValueError : PySem.W.kitMeta "ValueError" = true := by decide +kernel
end
theorem quiet0 {X : Cx} : Quiet X.nox := fun _ _ h => h
theorem Room.mark {X : Cx} {k j : Nat} (r : Room k X.A) (h : j ≤ k) (ea : Addr) : RoomH j (X.marked ea).A := ⟨by have := r.dp; show X.A.depth + 3 * j + 5 < _; omega, by have := r.un; show X.A.units + 16 * j + 200 < _; omega, r.gd⟩
theorem RoomH.u {k : Nat} {A : Around} (r : RoomH k A) : A.units + 200 < cLine := by have := r.un; omega
end L2
namespace TL
open PySem PySem.Spec PyProof.Rows L2
section
variable {X : Cx} {e : Expr} {es : List Expr} {te : ET} {pos : Pos}
def rIsX (K : PySem.W.Frag) (c : Value) (cv : V) : List V → Hp → VK → Prop := fun xs H Q => ∃ (p C : Addr) (dx : Option Addr) (b : Bool), xs = [.ref p, cv] ∧ H p = some (.ext (excAt p C dx)) ∧ (∀ d, dx = some d → ∃ fs, H d = some (.xd fs)) ∧ XCls K C ∧ PySem.W.kitOne K (.ref C) c = some b ∧ Q (.bl b) H
theorem call_isx {c : Value} {cv : V} (hc : ∀ u, RelV cv u → u = c) : CallR X (.builtin "isinstance") (rIsX X.K c cv) := by
  intro pins s σ H xs us Q I r h
  obtain ⟨p, C, dx, b, rfl, hp, hd, hx, hk, q⟩ := h
  obtain ⟨u, w, rfl, ru, rw'⟩ := vals2 r
  obtain rfl := hc _ rw'
  cases ru
  exact isinst_exc I hp hd hx hk fun tk => ⟨.bl b, H, I.tok tk, rfl, q⟩
def eIsX (K : PySem.W.Frag) (c : Value) (te : ET) : ET := fun σ Q => te σ fun d => ∃ (C : Addr) (y : D) (b : Bool), d = .dict [(.int (C : Nat), y)] ∧ PySem.W.kitOne K (.ref C) c = some b ∧ Q (.bool b)
theorem et_isx {c : Value} {cv : V} {g1 g2 : Expr} (he : PEt X e te) (pc : ∀ {v : TE}, PE X e v → PE X (.Call g1 [e, g2] [] pos) (tCB (rIsX X.K c cv) (tCons v (tCons (tC cv) tNil)))) : PEt X (.Call g1 [e, g2] [] pos) (eIsX X.K c te) := by
  obtain ⟨v, pe, re⟩ := he
  refine ⟨_, pc pe, fun B p0 H ps σT σ Q QV o h k => re B p0 H ps σT σ _ _ o h fun d x H1 s1 r1 q1 => ?_⟩
  obtain ⟨C, y, b, rfl, hk, q⟩ := q1
  generalize hg : (PyData.dict [(.int (C : Nat), y)]) = d at r1
  cases r1 with
  | @exc p C' xk hp =>
    injection hg with hg; injection hg with hg; injection hg with hg hy; injection hg with hg
    obtain rfl : C = C' := Int.ofNat.inj hg
    exact ⟨p, C, none, b, rfl, mask_le _ _ hp, (fun _ z => nomatch z), xk.1, hk, k _ _ H1 s1 (.bool _) q⟩
  | @excA p C' dx n xk hp hx =>
    injection hg with hg; injection hg with hg; injection hg with hg hy; injection hg with hg
    obtain rfl : C = C' := Int.ofNat.inj hg
    exact ⟨p, C, some dx, b, rfl, mask_le _ _ hp, fun _ z => by cases z; exact ⟨_, mask_le _ _ hx⟩, xk.1, hk, k _ _ H1 s1 (.bool _) q⟩
  | _ => cases hg
end
end TL

set_option Elab.async false
set_option linter.all false
set_option maxRecDepth 100000
namespace TL
open PySem PySem.Spec PyProof.Rows L2
section
variable {X : Cx} {c e1 e2 : Expr} {pos : Pos}
end
end TL

set_option Elab.async false
set_option linter.all false
set_option maxRecDepth 100000
namespace L2
open PySem PySem.Spec PyProof.Rows
section
variable {prog : Program} {w : World} {A : Around} {E : Value → Shared → Prop} {h : Heap} {g : Array GenState} {d : Drawn} {t : Nat} {os : OsState}
variable {nm q : Str} {C N : Addr} {bs bm bmB : List Value} {hdct : Bool} {sn : List Str} {sub : List Value} {ab : Bool} {col : Option Bool} {dd : Option Addr} {k0 k1 k2 k3 k5 : Option Value} {B Bn newId nid initId inN : String} {bmN : List Value}
/-- the exception as it is made, ahead of its __init__ -/
abbrev bornX (h : Heap) (C : Addr) (rest : List Value) : Heap :=
  let a : Obj := { cls := .type "tuple", data := .seq rest.toArray }
  let b : Obj := { cls := .ref C, data := .fields #[.ref h.objs.size, .none, .none, .none, .bool false, .none] }
  (h.push a).push b
theorem bornX_keeps {rest : List Value} {b : Addr} {o : Obj} (e : h.get? b = some o) : (bornX h C rest).get? b = some o := Heap.get?_push_of_some _ (Heap.get?_push_of_some _ e)
theorem bornX_made {rest : List Value} : Heap.MadeExcOf h (bornX h C rest) (h.objs.size + 1) (.ref C) rest where
  keeps := fun b o e => bornX_keeps e
  new := Heap.get?_none_of_le (Nat.le_succ _)
  there := ⟨h.objs.size, by heap_get, Heap.get?_none_of_le (Nat.le_refl _), Heap.get?_push_of_some _ (Heap.get?_push_at rfl rfl)⟩
theorem tcall_init (Fn : ExcBaseFacts Bn newId inN bmN) (hBn : bmB.contains (.type Bn) = true) (F : ExcBaseFacts B nid initId bmB) (T : OwnTail h bmB bm) {mN : Str → Option Value} {rest : List Value} {fI : Addr} {oI : Obj} {Q : Fin → Shared → Prop}
    (hC : h.get? C = some (excClassObj nm q C N bs bm hdct sn sub ab col dd k0 k1 k2 k3 k5 newId)) (hn : h.Ns N mN) (hi : mN "__init__" = some (.ref fI)) (hfI : h.get? fI = some oI) (hfc : oI.cls = .type "function") (hrest : rest.length ≤ sizeLine)
    (hq : wpAny (model prog w) A (call (.ref fI) (.ref (h.objs.size + 1) :: rest)) (fun r s' => r = .none ∧ Q (.done (.ret (.ref (h.objs.size + 1)))) s') E ⟨bornX h C rest, g, d, t, os⟩) :
    wpAny (model prog w) A (Builtin.«type.__call__» ⟨.ref C :: rest, []⟩) Q E ⟨h, g, d, t, os⟩ := by
  repeat (first | (with_reducible refine wpAny_loadPart_at hC ?_) | (with_reducible refine wpAny_madeBy_exc hC ?_) | wp_step)
  refine codeAny_call_builtin_code (Code.quiet_builtin _ Fn.quiet) (wpAny_check_new_subU Fn hBn T hC (codeAny_exc_new_subU Fn hBn F T hC ?_ hrest))
  show wpAny _ _ _ _ _ ⟨bornX h C rest, g, d, t, os⟩
  have hC1 : (bornX h C rest).get? C = _ := bornX_keeps hC
  have hn1 : (bornX h C rest).Ns N mN := let ⟨o, es, ep, e, r⟩ := hn; ⟨o, es, ep, bornX_keeps e, r⟩
  obtain ⟨t1, hget, _⟩ := (bornX_made (h := h) (C := C) (rest := rest)).there
  have hcC : (Value.ref C :: bm).contains (.ref C) = true := by simp
  have T1 : OwnTail (bornX h C rest) bmB bm := T.keeps fun b o e => bornX_keeps e
  unfold isInstance
  repeat (first | (with_reducible refine wpAny_loadPart_at hget ?_) | (with_reducible refine wpAny_isSubtype_exc hC1 ?_; rw [hcC]) | wp_step)
  show wpAny _ _ (typeLookup (.ref C) _) _ _ _
  refine wpAny_typeLookup_tail hC1 hn1 T1 F.mroIs F.init.lookup ?_
  rw [hi]
  refine wpAny_holding (wpAny_bind ?_)
  unfold bindSpecial
  refine wpAny_bind (wpAny_typeOf (T := "function") ⟨_, bornX_keeps hfI, hfc⟩ ?_)
  rw [if_pos (by decide)]
  refine wpAny_pure (wpAny_bind (wpAny_mono hq (fun r s' hr => ?_) fun _ _ x => x))
  obtain ⟨rfl, hQ⟩ := hr
  wp_walk
  exact hQ
end
end L2

set_option Elab.async false
set_option linter.all false
set_option maxRecDepth 100000
namespace L2
open PySem PySem.Spec PyProof.Rows
section
variable {prog : Program} {w : World} {A : Around} {E : Value → Shared → Prop} {h : Heap} {g : Array GenState} {d : Drawn} {t : Nat} {os : OsState} {env : Env}
variable {nm q : Str} {C N : Addr} {bs bm bmB : List Value} {hdct : Bool} {sn : List Str} {sub : List Value} {ab : Bool} {col : Option Bool} {dd : Option Addr} {k0 k1 k2 k3 k5 : Option Value} {B Bn newId nid initId inN : String} {bmN : List Value}
abbrev fresh6 (t1 : Addr) : Array Value := #[.ref t1, .none, .none, .none, .bool false, .none]
theorem call_init (Fn : ExcBaseFacts Bn newId inN bmN) (hBn : bmB.contains (.type Bn) = true) (F : ExcBaseFacts B nid initId bmB) (T : OwnTail h bmB bm) {mN : Str → Option Value} {rest : List Value} {fI : Addr} {oI : Obj} {Q : Value → Shared → Prop}
    (hC : h.get? C = some (excClassObj nm q C N bs bm hdct sn sub ab col dd k0 k1 k2 k3 k5 newId)) (hn : h.Ns N mN) (hi : mN "__init__" = some (.ref fI)) (hfI : h.get? fI = some oI) (hfc : oI.cls = .type "function") (hrest : rest.length ≤ sizeLine)
    (hq : wpAny (model prog w) (A.under (.builtin "type.__call__" ⟨.ref C :: rest, []⟩)) (call (.ref fI) (.ref (h.objs.size + 1) :: rest)) (fun r s' => r = .none ∧ Q (.ref (h.objs.size + 1)) s') E ⟨bornX h C rest, g, d, t, os⟩) :
    wpAny (model prog w) A (call (.ref C) rest) Q E ⟨h, g, d, t, os⟩ := by
  have ty : Shared.TypeIs ⟨h, g, d, t, os⟩ (.ref C) "type" := ⟨_, hC, rfl⟩
  have b1 := tc_lookup; have b2 := tc_bind (.ref C)
  refine wpAny_call (codeAny_of_tree ?_)
  show wpAny _ _ (callAny (.ref C) _) _ _ _
  repeat (any_goals (first | assumption | (with_reducible refine wpAny_loadPart_at hC ?_) | wp_step))
  exact ⟨rfl, codeAny_call_builtin_at (Code.quiet_builtin _ (by decide +kernel)) entry_typeCall (wpAny_check_type_call_sub hC (tcall_init Fn hBn F T hC hn hi hfI hfc hrest hq))⟩
theorem raise_obj {s : Shared} {x : Sem Value} {Q : Flow → Shared → Prop} (hbase : bm.contains (.type "BaseException") = true) (hh : A.handled = none)
    (hx : wpAny (model prog w) A x (fun v s₁ => ∃ e dx t1, v = .ref e ∧ s₁.heap.get? C = some (excClassObj nm q C N bs bm hdct sn sub ab col dd k0 k1 k2 k3 k5 newId) ∧ s₁.heap.get? e = some { cls := .ref C, dict := dx, data := .fields (fresh6 t1) } ∧ E (.ref e) s₁) E s) :
    wpAny (model prog w) A (raiseStmt env (some x) none) Q E s := by
  have hcB : (Value.ref C :: bm).contains (.type "BaseException") = true := by rw [List.contains_cons, hbase, Bool.or_true]
  unfold raiseStmt
  refine wpAny_bind (wpAny_mono hx (fun v s₁ z => ?_) fun _ _ z => z)
  obtain ⟨e, dx, t1, rfl, hC, he, hE⟩ := z
  obtain ⟨hp, g, d, tk, os⟩ := s₁
  repeat (first | (with_reducible refine wpAny_loadPart_at he ?_) | (with_reducible refine wpAny_loadPart_at hC ?_) | (with_reducible refine wpAny_isSubtype_exc hC ?_; rw [hcB]) | wp_step)
  exact wpAny_raiseNew_none hh hE
theorem raise_made {s : Shared} {x : Str} {np cpos pos : Pos} {args : List Expr} {Q : Flow → Shared → Prop} (hbase : bm.contains (.type "BaseException") = true) (hh : A.handled = none) (hpl : (backTo cpos (starEach args env)).any (·.1) = false)
    (hx : wpAny (model prog w) A (eval (.Name x np) env) (fun f s₁ => f = .ref C ∧ wpAny (model prog w) A (evalArgs (.ref C) true (backTo cpos (starEach args env)) []) (fun a s₂ => a.kw = [] ∧ s₂.heap.get? C = some (excClassObj nm q C N bs bm hdct sn sub ab col dd k0 k1 k2 k3 k5 newId) ∧
      wpAny (model prog w) A (call (.ref C) a.pos) (fun v s₃ => ∃ e dx t1, v = .ref e ∧ s₃.heap.get? C = some (excClassObj nm q C N bs bm hdct sn sub ab col dd k0 k1 k2 k3 k5 newId) ∧ s₃.heap.get? e = some { cls := .ref C, dict := dx, data := .fields (fresh6 t1) } ∧ E (.ref e) s₃) E s₂) E s₁) E s) :
    wpAny (model prog w) A (exec (.Raise (some (.Call (.Name x np) args [] cpos)) none pos) env) Q E s := by
  rw [arm_exec_Raise]
  refine wpAny_bind (wpAny_standAt (raise_obj (C := C) (nm := nm) (q := q) (N := N) (bs := bs) (bm := bm) (hdct := hdct) (sn := sn) (sub := sub) (ab := ab) (col := col) (dd := dd) (k0 := k0) (k1 := k1) (k2 := k2) (k3 := k3) (k5 := k5) (newId := newId) hbase hh ?_))
  refine wpAny_bind (wpAny_mono (wpAny_Call_ofName (wpAny_mono hx (fun f s₁ z => ?_) fun _ _ z => z)) (fun v s₃ z => wpAny_bind (wpAny_standAt (wpAny_pure z))) fun _ _ z => z)
  obtain ⟨rfl, z⟩ := z
  unfold callWith
  refine wpAny_bind (wpAny_holding (wpAny_mono z (fun a s₂ y => wpAny_bind (wpAny_standAt ?_)) fun _ _ y => y))
  obtain ⟨apos, akw⟩ := a
  obtain ⟨hkw, hC, y⟩ := y
  obtain rfl : akw = [] := hkw
  obtain ⟨hp, g, d, tk, os⟩ := s₂
  simp only [hpl]
  refine wpAny_bind (wpAny_keeperOf_exc hC (wpAny_bind (wpAny_mono y (fun v s₃ u => wpAny_bind (wpAny_holding (wpAny_point (wpAny_pure u)))) fun _ _ u => u)))
end
end L2

set_option Elab.async false
set_option linter.all false
set_option maxRecDepth 100000
namespace L2
open PySem PySem.Spec PyProof.Rows
open Builtin Builtin.ObjectAttr
/-- an exception just made: no trace yet, its own dict at dx -/
def bornAt (p C : Addr) (dx : Option Addr) (h : Heap) : Prop := ∃ t1 : Addr, h.get? p = some { cls := .ref C, dict := dx, data := .fields (fresh6 t1) }
/-- what is asked of a class whose instances bear .at -/
structure XAt (K : PySem.W.Frag) (C : Addr) : Prop where
  sa : PySem.W.findIn K (.ref C) "__setattr__" = some (some (.builtin "object.__setattr__"))
  no : PySem.W.findIn K (.ref C) "at" = some none
  cd : ∃ cd J, PySem.W.clsIn K C = some cd ∧ cd.hasDict = true ∧ cd.mro = [.ref C, .ref J, .type "ValueError", .type "Exception", .type "BaseException", .type "object"]
section
variable {prog : Program} {w : World} {A : Around} {E : Value → Shared → Prop} {s : Shared} {K : PySem.W.Frag} {a C : Addr} {v : Value}
theorem set_at {Q : Unit → Shared → Prop} (X : K.In s.heap) (c : XAt K C) (hx : bornAt a C none s.heap)
    (h : ∀ h' tk, bornAt a C (some s.heap.objs.size) h' → h'.Ns1 s.heap.objs.size (fun y => if y = "at" then some v else none) → (∀ b o, b ≠ a → s.heap.get? b = some o → h'.get? b = some o) → Q () { s with heap := h', toks := tk }) :
    wpAny (model prog w) A (setAttr (.ref a) "at" v) Q E s := by
  obtain ⟨t1, hx⟩ := hx
  obtain ⟨hh, g, dr, tk, os⟩ := s
  obtain ⟨cd, J, hc, hdd, hm⟩ := c.cd
  have I : PySem.W.InstAt hh a _ C none := ⟨hx, rfl, rfl, True.intro⟩
  have SF := PySem.F.store_object
  have top : PySem.W.Looks (model prog w) hh (isInstance (.ref a) (.type "object")) true := I.type.andThen (PySem.W.looks_mroIn X (by unfold PySem.W.mroIn; rw [hc, Option.bind_some, hm]; simp))
  have mr : PySem.W.Looks (model prog w) hh (mroOf (.ref C)) cd.mro := (PySem.W.looks_clsIn X hc).andThen .now
  refine PySem.W.set_plain X I c.sa ?_
  refine codeAny_call_builtin SF.slot.plain SF.entry ?_
  have ag := SF.args (.ref a) (.str "at" tk) v
  refine PySem.W.check_slot (i := "object.__setattr__") (owner := "object") (n := "__setattr__") (self := .ref a) (rest := [.str "at" tk, v]) (kw := []) SF.kind SF.split top ag ?_
  rw [PySem.W.osa_eq, refuse_eq]
  refine wpAny_bind (wpAny_bind (I.type.at (wpAny_bind (mr.at ?_))))
  rw [hm, refuseLoop_ref, refuseLoop_ref, PySem.F.store_ValueError.passes]
  refine wpAny_pure (wpAny_bind (I.type.at (wpAny_bind ((PySem.W.looks_findIn X c.no).at (wpAny_bind (wpAny_pure ?_))))))
  dsimp only
  unfold storeInOwnDict
  refine wpAny_bind (wpAny_pure (wpAny_bind ?_))
  unfold ownDictForStores instanceDict
  refine wpAny_bind (wpAny_loadPart hx (wpAny_bind ((PySem.W.looks_clsIn X hc).at ?_)))
  rw [hdd]
  have n1 : a ≠ hh.objs.size := Nat.ne_of_lt (Heap.lt_size hx)
  have hx1 : (hh.push { cls := .type "dict", data := .dict #[] }).get? a = some _ := Heap.get?_push_of_some _ hx
  rw [if_neg (by decide)]
  dsimp only
  rw [if_neg (by simp [typeHasDict])]
  refine wpAny_bind (wpAny_alloc' (wpAny_bind (wpAny_update' hx1 (wpAny_pure ?_))))
  show wpAny _ _ (storeInDict hh.objs.size (.str "at" tk) "at" v) _ _ _
  have gd : ((hh.push { cls := .type "dict", data := .dict #[] }).update a fun o => { o with dict := some hh.objs.size }).get? hh.objs.size = some { cls := .type "dict", data := .dict #[] } := (Heap.get?_update_ne _ _ _ _ n1.symm).trans (Heap.get?_push_at rfl rfl)
  have nd : ((hh.push { cls := .type "dict", data := .dict #[] }).update a fun o => { o with dict := some hh.objs.size }).Ns hh.objs.size (fun _ => none) := ⟨_, #[], _, gd, rfl, fun e he => absurd he (by simp), fun _ => rfl⟩
  unfold storeInDict newKeyGuard
  refine wpAny_bind (wpAny_pure (wpAny_bind (wpAny_nsSet1 (Heap.Ns1.of_empty nd) fun h' hn' hs => ?_)))
  obtain ⟨oD, esD, epD, hoD, hdD, hcD⟩ := hn'.count (Within.cons "at" v Within.nil)
  refine wpAny_bind (wpAny_lookBehind hoD (by rw [hdD]; exact pastItsLine_dict (Nat.le_trans hcD (by rw [List.length_cons, List.length_nil, sizeLine_eq]; omega))) ?_)
  refine wpAny_pure (h h' _ ⟨t1, ?_⟩ hn' fun b o n e => ?_)
  · exact (hs.2 a n1).trans (Heap.get?_update_self _ hx1 rfl)
  · exact (hs.2 b (Nat.ne_of_lt (Heap.lt_size e))).trans ((Heap.get?_update_ne _ _ _ _ n).trans (Heap.get?_push_of_some _ e))
end
end L2

set_option Elab.async false
set_option linter.all false
set_option maxRecDepth 100000
namespace L2
open PySem PySem.Spec PyProof.Rows
/-- the heap behind self.at = n -/
abbrev withAt (H : Hp) (a C dx : Addr) (n : Int) : Hp := upd (upd H dx (.xd [("at", .int n)])) a (.ext (bornAt a C (some dx)))
section
variable {P : Program} {w : World} {H : Hp} {h h' : Heap} {a C : Addr} {n : Int} {v : Value} {fs : List Addr}
theorem wa_self {dx : Addr} : withAt H a C dx n a = some (.ext (bornAt a C (some dx))) := upd_same
theorem wa_dx {dx : Addr} (z : dx ≠ a) : withAt H a C dx n dx = some (.xd [("at", .int n)]) := (upd_ne z).trans upd_same
theorem wa_ne {b dx : Addr} (z : b ≠ a) (y : b ≠ dx) : withAt H a C dx n b = H b := (upd_ne z).trans (upd_ne y)
theorem born_keeps {dx : Option Addr} {h1 h2 : Heap} (x : bornAt a C dx h1) (k : ∀ o, h1.get? a = some o → h2.get? a = some o) : bornAt a C dx h2 := let ⟨t1, e⟩ := x; ⟨t1, k _ e⟩
theorem at_un (e : H a = some (.ext (bornAt a C none))) (hd : H h.objs.size = none) (k : ∀ b o, b ≠ a → h.get? b = some o → h'.get? b = some o) (hb : bornAt a C (some h.objs.size) h') : Un fs [] H (withAt H a C h.objs.size n) h h' where
  keep := fun b o q z _ _ => k b o (ne_of_none e z).symm q
  slot := fun b o q z _ _ => ⟨o.slots, k b o (ne_of_none e z).symm q⟩
  free := fun b o q z _ => by rw [wa_ne (ne_of_none e z).symm (Nat.ne_of_lt (Heap.lt_size q))]; exact z
  there := fun b o q _ => by
    by_cases x : b = a
    · subst x; obtain ⟨_, z⟩ := hb; exact ⟨_, z⟩
    · exact ⟨o, k b o x q⟩
  tups := fun b xs z => by rw [wa_ne (ne_of z e (by simp)) (ne_of_none z hd)]; exact z
  frzs := fun b o u z => by rw [wa_ne (ne_of z e (by simp)) (ne_of_none z hd)]; exact z
  tbls := fun b ps z => ⟨#[], by rw [wa_ne (ne_of z e (by simp)) (ne_of_none z hd), Array.append_empty]; exact z⟩
theorem at_ok (x : HOk P w H h) (e : H a = some (.ext (bornAt a C none))) (hd : H h.objs.size = none) (k : ∀ b o, b ≠ a → h.get? b = some o → h'.get? b = some o) (hb : bornAt a C (some h.objs.size) h') (hn : h'.Ns1 h.objs.size (fun y => if y = "at" then some v else none)) (rv : RelV (.int n) v) :
    HOk P w (withAt H a C h.objs.size n) h' := fun b u q => by
  by_cases z : b = a
  · subst z
    rw [wa_self] at q; cases q
    exact ⟨hb, let ⟨_, z⟩ := hb; ⟨_, z⟩, fun h1 h2 y k => born_keeps y k⟩
  · by_cases y : b = h.objs.size
    · subst y
      rw [wa_dx z] at q; cases q
      refine ⟨_, hn, fun f => ?_⟩
      by_cases hf : f = "at"
      · subst hf
        show RelO (some (.int n)) (some v)
        exact rv
      · rw [if_neg hf]
        have hbq : (f == ("at" : Str)) = false := beq_eq_false_iff_ne.mpr hf
        show RelO (List.lookup f [("at", V.int n)]) none
        simp only [List.lookup, hbq]
        exact True.intro
    · rw [wa_ne z y] at q
      refine (x b u q).stay (fun c o hc g => ?_) (fun c g => ?_) fun c xs g => ?_
      · refine k c o ?_ g
        rcases hc with rfl | hc
        · exact z
        · exact ne_of hc e (by simp)
      · rw [wa_ne (ne_of g e (by simp)) (ne_of_none g hd)]; exact g
      · rw [wa_ne (ne_of g e (by simp)) (ne_of_none g hd)]; exact g
end
section
variable {X : Cx} {o value : Expr} {pos pos' : Pos} {ta tv : TE} {C : Addr}
def sAt (C : Addr) (ta tv : TE) : TS := fun D σ H => tv σ H fun y H1 => ta σ H1 fun x H2 => ∃ (a : Addr) (n : Int), y = .int n ∧ x = .ref a ∧ H2 a = some (.ext (bornAt a C none)) ∧ ∀ dx, H2 dx = none → D.nx σ (withAt H2 a C dx n)
theorem ps_at (c : XAt X.K C) (ha : PE X o ta) (hv : PE X value tv) (hs : swapsWith value (some (.Attribute o "at" pos')) pos.line X.env = pure false := by rfl) : PS X (.Assign [.Attribute o "at" pos'] value pos) (sAt C ta tv) := by
  intro pins s σ H D I h
  refine plainObj_wpAny_Assign_Attribute (thn (hv pins s σ H _ I h) fun u s1 ⟨y, H1, I1, ry, q⟩ => thn (ha pins s1 σ H1 _ I1 q) fun ov s2 ⟨x, H2, I2, rx, z⟩ => ?_) hs
  obtain ⟨a, n, rfl, rfl, e, q2⟩ := z
  obtain rfl : ov = Value.ref a := rx
  obtain ⟨hb, _, _⟩ := I2.hok a _ e
  have hd : H2 s2.heap.objs.size = none := I2.hok.fresh (Nat.le_refl _)
  refine set_at I2.kIn c hb fun h' tk hb' hn k => ⟨σ, _, I2.un (t' := tk) (at_un (n := n) e hd k hb') (at_ok I2.hok e hd k hb' hn ry), q2 _ hd⟩
end
end L2

set_option Elab.async false
set_option linter.all false
set_option maxRecDepth 100000
namespace L2
open PySem PySem.Spec PyProof.Rows
def initOf (s : Stmt) : Stmt := match s with
  | .ClassDef _ _ _ (f :: _) _ _ _ _ _ _ _ => f
  | _ => .Pass ⟨0, 0, 0, 0⟩
def spInit (C : Addr) : Sp := fun vs H Q _ => ∃ (a : Addr) (n : Int), vs = [.ref a, .int n] ∧ H a = some (.ext (bornAt a C none)) ∧ ∀ dx, H dx = none → Q .non (withAt H a C dx n)
theorem fn_init {P : Program} {w : World} {K : PySem.W.Frag} {mg : Str → Option Value} {base : Heap} {C : Addr} {x qual : Str} {st : Stmt} {f : Addr} {fd : FuncData} {p1 p2 p3 p4 : Pos} (F : Fun K x qual st f fd) (S : FnScope ["self", "at"] ["self", "at"] (defScope st)) (c : XAt K C)
    (hb : defBody st = [.Assign [.Attribute (.Name "self" p1) "at" p2] (.Name "at" p3) p4]) : FnOk P w K mg base CX0 1 f fd ["self", "at"] (spInit C) := by
  refine F.ok S (fun vs H Q E h => by obtain ⟨a, n, rfl, _⟩ := h; rfl) fun cdv A outer s H vs Q E hr h => ?_
  obtain ⟨a, n, rfl, e, q⟩ := h
  have nd := S.nd
  rw [hb]
  have v1 : Vis (defScope st) "self" := (S.par "self" (by simp)).elim .inl fun z => .inr (.inl z)
  have v2 : Vis (defScope st) "at" := (S.par "at" (by simp)).elim .inl fun z => .inr (.inl z)
  exact ⟨_, pss_one (ps_at c (pv 0 rfl v1) (pv 1 rfl v2)), _, rfl, _, rfl, a, n, rfl, rfl, e, q⟩
/-- an own class with its own __init__, under an own one that only says pass, under ValueError -/
def ICls (K : PySem.W.Frag) (C fI : Addr) : Prop := ∃ nm q N bs hdct sn sub ab col dd k0 k1 k2 k3 k5 J c0 dJ cdJ slJ oI,
  K.lookup C = some (excClassObj nm q C N bs (.ref J :: [.type "ValueError", .type "Exception", .type "BaseException", .type "object"]) hdct sn sub ab col dd k0 k1 k2 k3 k5 "ValueError.__new__") ∧
  PySem.W.nsOkIn K N = true ∧ PySem.W.nsIn K N "__init__" = some (some (.ref fI)) ∧ K.lookup J = some ⟨c0, dJ, .cls cdJ, slJ⟩ ∧ PySem.W.nsOkIn K cdJ.ns = true ∧ PySem.W.nsIn K cdJ.ns "__init__" = some none ∧ K.lookup fI = some oI ∧ oI.cls = .type "function"
theorem ns_some {K : PySem.W.Frag} {h : Heap} {N : Addr} {m : Str → Option Value} {n : Str} {v : Value} (X : K.In h) (G : h.Ns N m) (e : PySem.W.nsIn K N n = some (some v)) : m n = some v := by
  obtain ⟨o, es, ep, ho, hd, _, hf⟩ := G
  unfold PySem.W.nsIn at e
  split at e
  · rename_i q
    have z := X _ _ q
    rw [ho] at z
    cases z
    cases hd
    split at e
    · rename_i y he
      rw [← hf]
      unfold nsFind findBy
      rw [← Array.find?_toList, he]
      cases e; rfl
    · split at e <;> cases e
  · cases e
/-- what is tracked when the exception is no longer so -/
theorem drop_ok {P : Program} {w : World} {H1 : Hp} {h : Heap} {ea dx C : Addr} {n : Int} {u : HO} (he : H1 ea = none) (hd : dx ≠ ea) (x : HOk P w (withAt (upd H1 ea u) ea C dx n) h) : HOk P w (upd H1 dx (.xd [("at", .int n)])) h := fun b o q => by
  have hb : b ≠ ea := fun z => by rw [z, upd_ne (Ne.symm hd), he] at q; cases q
  have eq : ∀ c, c ≠ ea → withAt (upd H1 ea u) ea C dx n c = upd H1 dx (.xd [("at", .int n)]) c := fun c hc => by
    by_cases z : c = dx
    · subst z; rw [wa_dx hc, upd_same]
    · rw [wa_ne hc z, upd_ne hc, upd_ne z]
  have q' := q
  rw [← eq b hb] at q'
  refine (x b o q').stay (fun c v _ g => g) (fun c g => ?_) fun c xs g => ?_
  · have hc : c ≠ ea := fun z => by rw [z, wa_self] at g; cases g
    rw [← eq c hc]; exact g
  · have hc : c ≠ ea := fun z => by rw [z, wa_self] at g; cases g
    rw [← eq c hc]; exact g
def tRaiseI (C : Addr) (E : XK) (t : TA) : TS := fun _ σ H => t σ H fun vs H1 => ∃ n : Int, vs = [.int n] ∧ ∀ dx, H1 dx = none → E (.ref C) (some dx) (upd H1 dx (.xd [("at", .int n)]))
section
variable {P : Program} {w : World} {K : PySem.W.Frag} {mg : Str → Option Value} {base : Heap} {N : List Str} {qual : Str} {scope : Scope} {f : Addr} {cd : Value} {A : Around} {outer : List Env} {s : Shared} {H : Hp} {E : XK}
theorem ps_raiseI {C fI : Addr} {fd : FuncData} {k : Nat} {x : Str} {np cpos pos : Pos} {e : Expr} {es : List Expr} {t : TA} (R : ICls K C fI) (FI : FnOk P w K mg base CX0 1 fI fd ["self", "at"] (spInit C)) (hbI : Binds K fd ["self", "at"] []) (hr : Room (k + 2) (A.deeper (envOfC qual scope s.heap.objs.size f cd))) (hg : Gl (CXf P w K mg base N qual scope f cd A outer s H E) x) (hm : mg x = some (.ref C))
    (ha : PA (CXf P w K mg base N qual scope f cd A outer s H E) (e :: es) t) (hd : (x == ("__debug__" : Str)) = false := by decide)
    (he : starEach (e :: es) (envOfC qual scope s.heap.objs.size f cd) = (false, eval e (envOfC qual scope s.heap.objs.size f cd)) :: starEach es (envOfC qual scope s.heap.objs.size f cd) := by rfl)
    (hpl : (backTo cpos (starEach (e :: es) (envOfC qual scope s.heap.objs.size f cd))).any (·.1) = false := by rfl) :
    PS (CXf P w K mg base N qual scope f cd A outer s H E) (.Raise (some (.Call (.Name x np) (e :: es) [] cpos)) none pos) (tRaiseI C E t) := by
  intro pins s1 σ H1 D I h
  obtain ⟨nm, q, NC, bs, hdct, sn, sub, ab, col, dd, k0, k1, k2, k3, k5, J, c0, dJ, cdJ, slJ, oI, lC, nC, iC, lJ, nJ, iJ, lI, cI⟩ := R
  have gC := Heap.Ns.of_isNs (PySem.W.isNs_of_in I.mod.kin nC)
  have gJ := Heap.Ns.of_isNs (PySem.W.isNs_of_in I.mod.kin nJ)
  have vC := ns_some I.mod.kin gC iC
  have vJ := ns_none I.mod.kin gJ iJ
  refine raise_made (C := C) (nm := nm) (q := q) (N := NC) (bs := bs) (bm := .ref J :: [.type "ValueError", .type "Exception", .type "BaseException", .type "object"]) (hdct := hdct) (sn := sn) (sub := sub) (ab := ab) (col := col) (dd := dd) (k0 := k0) (k1 := k1) (k2 := k2) (k3 := k3) (k5 := k5) (newId := "ValueError.__new__") (by rfl) hr.hd hpl (ld_glob I hg hm ⟨rfl, ?_⟩ hd)
  rw [show (CXf P w K mg base N qual scope f cd A outer s H E).env = envOfC qual scope s.heap.objs.size f cd from rfl, he]
  refine Calls.evalArgs_plain ?_
  have hp := ha cpos pins s1 σ H1 _ I h
  rw [show (CXf P w K mg base N qual scope f cd A outer s H E).env = envOfC qual scope s.heap.objs.size f cd from rfl, he] at hp
  refine wpAny_mono hp (fun us s2 hz => ?_) fun _ _ z => z
  obtain ⟨vs, H2, I2, r, n, rfl, hE⟩ := hz
  refine ⟨rfl, I2.kIn _ _ lC, ?_⟩
  obtain ⟨h2, g2, d2, tk2, os2⟩ := s2
  have sz : us.length = 1 := r.length.symm
  refine call_init F.excBase_ValueError (by rfl) F.excBase_ValueError (.own (I2.kIn _ _ lJ) (ns_kept gJ I2.bk) vJ .base) (I2.kIn _ _ lC) (ns_kept gC I2.bk) vC (I2.kIn _ _ lI) cI (by show us.length ≤ _; rw [sz]; decide) ?_
  have hn : H2 (h2.objs.size + 1) = none := I2.hok.fresh (Nat.le_succ _)
  have kp : ∀ b o, h2.get? b = some o → (bornX h2 C us).get? b = some o := fun b o z => bornX_keeps z
  have gb : (bornX h2 C us).get? (h2.objs.size + 1) = some { cls := .ref C, data := .fields (fresh6 h2.objs.size) } := by heap_get
  generalize hea : h2.objs.size + 1 = ea at hn gb ⊢
  have ebig : ∀ b o, h2.get? b = some o → b ≠ ea := fun b o z => by rw [← hea]; exact Nat.ne_of_lt (Nat.lt_succ_of_lt (Heap.lt_size z))
  have I3 : Inv (CXf P w K mg base N qual scope f cd A outer s H E) pins σ (upd H2 ea (.ext (bornAt ea C none))) ⟨bornX h2 C us, g2, d2, tk2, os2⟩ := I2.laid (t' := tk2) kp (by rw [← hea]; exact Nat.le_succ _) ⟨⟨_, gb⟩, ⟨_, gb⟩, fun _ _ y k => born_keeps y k⟩
  refine wpAny_call (codeAny_mono (FI.run _ (envOfC qual scope s.heap.objs.size f cd :: outer) _ (upd H2 ea (.ext (bornAt ea C none))) ⟨.ref ea :: us, []⟩ (.ref ea :: us) [.ref ea, .int n] (fun v H' => v = .non ∧ ∃ dx, upd H2 ea (.ext (bornAt ea C none)) dx = none ∧ H' = withAt (upd H2 ea (.ext (bornAt ea C none))) ea C dx n) (fun _ _ _ => False)
    (Room.make (hr.mono (by omega)) C us []) (I3.env0.make C us []) ?_ (.cons rfl r) ⟨ea, n, rfl, upd_same, fun dx z => ⟨rfl, dx, z, rfl⟩⟩) fun rr s' z => ?_)
  · have := hbI ⟨bornX h2 C us, g2, d2, tk2, os2⟩ (.ref ea :: us) I3.kIn (by rw [List.append_nil, List.length_cons, sz]; rfl)
    rw [List.append_nil] at this; exact this
  cases rr with
  | error _ => exact z.elim
  | ok fl =>
  cases fl with
  | next => exact False.elim z
  | brk => exact False.elim z
  | cont => exact False.elim z
  | ret u =>
  obtain ⟨v, H', os, bare, un, hok, rv, rfl, dx, hdx, rfl⟩ := z
  have hde : dx ≠ ea := (ne_of_none upd_same hdx).symm
  have hd2 : H2 dx = none := by rw [upd_ne hde] at hdx; exact hdx
  have dnew : (bornX h2 C us).get? dx = none := by
    cases q : (bornX h2 C us).get? dx with
    | none => rfl
    | some o => have y := un.free dx o q hdx (by simp); rw [wa_dx hde] at y; cases y
  have dnew2 : h2.get? dx = none := by
    cases q : h2.get? dx with
    | none => rfl
    | some o => rw [kp dx o q] at dnew; cases dnew
  have enew2 : h2.get? ea = none := Heap.get?_none_of_le (by rw [← hea]; exact Nat.le_succ _)
  have bne : ∀ b o, h2.get? b = some o → b ≠ dx := fun b o z y => by rw [y, dnew2] at z; cases z
  have un2 : Un (frs (envOfC qual scope s.heap.objs.size f cd :: outer)) [] H2 (upd H2 dx (.xd [("at", .int n)])) h2 s'.heap :=
    { keep := fun b o e1 e2 e3 e4 => un.keep b o (kp b o e1) (by rw [upd_ne (ebig b o e1)]; exact e2) e3 e4
      slot := fun b o e1 e2 e3 e4 => un.slot b o (kp b o e1) (by rw [upd_ne (ebig b o e1)]; exact e2) e3 e4
      free := fun b o e1 e2 e3 => by rw [upd_ne (bne b o e1)]; exact e2
      there := fun b o e1 e2 => un.there b o (kp b o e1) e2
      tups := fun b xs e => by rw [upd_ne (ne_of_none e hd2)]; exact e
      frzs := fun b o v e => by rw [upd_ne (ne_of_none e hd2)]; exact e
      tbls := fun b ps e => ⟨#[], by rw [upd_ne (ne_of_none e hd2), Array.append_empty]; exact e⟩ }
  have hok2 : HOk P w (upd H2 dx (.xd [("at", .int n)])) s'.heap := drop_ok hn hde hok
  have I4 : Inv (CXf P w K mg base N qual scope f cd A outer s H E) pins σ (upd H2 dx (.xd [("at", .int n)])) s' := I2.call' (ch := []) os un2 hok2 bare fun b z => absurd z (by simp)
  obtain ⟨⟨t1, he'⟩, _, _⟩ := hok ea _ wa_self
  refine ⟨rv, ea, some dx, t1, rfl, I4.kIn _ _ lC, he', ?_⟩
  have old : ∀ b, h2.get? b = none → s.heap.get? b = none := fun b hb => by
    cases q : s.heap.get? b with
    | none => rfl
    | some o => obtain ⟨o', z⟩ := I2.base.there b o q (fun z => absurd z (by simp [cxOf])); rw [show ({ heap := h2, gens := g2, drawn := d2, toks := tk2, os := os2 } : Shared).heap.get? b = none from hb] at z; cases z
  have hout : ea ∉ frs (envOfC qual scope s.heap.objs.size f cd :: outer) := fun z => by
    obtain ⟨_, o, ho, _⟩ := I2.stack.mem z
    rw [show ({ heap := h2, gens := g2, drawn := d2, toks := tk2, os := os2 } : Shared).heap.get? ea = none from enew2] at ho; cases ho
  have hn4 : upd H2 dx (.xd [("at", .int n)]) ea = none := by rw [upd_ne (Ne.symm hde)]; exact hn
  show wpAny (model P w) (A.deeper (envOfC qual scope s.heap.objs.size f cd)) (leaving (envOfC qual scope s.heap.objs.size f cd) (.ref ea)) _ _ s'
  refine leave_first (base := base) (outer := outer) I.ok.frames I4.stack rfl he' rfl rfl rfl hout fun h'' T sz kb x' => ?_
  refine xe_of (s2 := { s' with heap := h'' }) I4 (old ea enew2) (hE dx hd2) hn4 rfl rfl kb (fun b hb => ?_) x' (hok2.fresh sz) ?_ fun a z => by cases z; exact old _ dnew2
  · rw [List.mem_singleton.mp hb]
    exact ⟨hn4, old _ enew2⟩
  · cases q : s.heap.get? T with
    | none => rfl
    | some o => obtain ⟨o', z⟩ := I4.base.there T o q (fun z => absurd z (by simp [cxOf])); rw [Heap.get?_none_of_le sz] at z; cases z
end
end L2

set_option Elab.async false
set_option linter.all false
set_option maxRecDepth 100000
namespace L2
open PySem PySem.Spec PyProof.Rows
section
variable {prog : Program} {w : World} {A : Around} {E : Value → Shared → Prop} {h : Heap} {g : Array GenState} {d : Drawn} {t : Nat} {os : OsState} {a C : Addr} {ox od : Obj} {K : PySem.W.Frag} {v : Value}
theorem at_find (c : XAt K C) (hv : PySem.W.lookIn "at" od = some (some v)) : PySem.W.findObj K C (some od) "at" = some (.value v) := by
  obtain ⟨cd, J, hc, hdd, _⟩ := c.cd
  refine PySem.W.findObj_own ?_ c.no rfl hv
  unfold PySem.W.hasDictIn
  rw [hc]; exact hdd
theorem at_entryK {tk : Tok} {Q : Fin → Shared → Prop} (X : K.In h) (c : XAt K C) (I : PySem.W.InstAt h a ox C (some od)) (hv : PySem.W.lookIn "at" od = some (some v)) (hq : Q (.done (.ret v)) ⟨h, g, d, t, os⟩) :
    wpAny (model prog w) A (Builtin.«object.__getattribute__» ⟨[.ref a, .str "at" tk], []⟩) Q E ⟨h, g, d, t, os⟩ := by
  have L0 := I.type (M := model prog w)
  have L1 := PySem.W.looks_find (M := model prog w) X I (at_find c hv)
  refine wpAny_bind (wpAny_pure (wpAny_bind (wpAny_pure (wpAny_bind (L0.at (wpAny_bind (L1.at ?_)))))))
  exact wpAny_pure hq
theorem at_callK {tk : Tok} {R : Result → Shared → Prop} (X : K.In h) (c : XAt K C) (cx : XCls K C) (I : PySem.W.InstAt h a ox C (some od)) (hv : PySem.W.lookIn "at" od = some (some v)) (hq : R (.ok (.ret v)) ⟨h, g, d, t, os⟩) :
    codeAny (model prog w) A (.call (.builtin "BaseException.__getattribute__") ⟨[.ref a, .str "at" tk], []⟩) R ⟨h, g, d, t, os⟩ :=
  codeAny_call_builtin F.excAttr_ValueError.ga.plain F.entry_bexc_ga (check_gaK X cx I (at_entryK X c I hv hq))
theorem at_get {b : Bool} {Q : Value → Shared → Prop} (X : K.In h) (c : XAt K C) (cx : XCls K C) (I : PySem.W.InstAt h a ox C (some od)) (hv : PySem.W.lookIn "at" od = some (some v)) (hh : PySem.W.handedIn v = true) (hq : Q v ⟨h, g, d, t + 1, os⟩) : wpAny (model prog w) A (getAttr (.ref a) "at" b) Q E ⟨h, g, d, t, os⟩ := by
  have f3 := F.excAttr_ValueError.ga.bind (.ref a)
  have hx2 : (Value.builtin "BaseException.__getattribute__" == Value.builtin "object.__getattribute__") = false := by decide +kernel
  have hx1 : (onTheHeap (Value.ref C) && Value.builtin "BaseException.__getattribute__" == Value.builtin "object.__getattribute__") = false := by rw [hx2]; rfl
  have L0 := I.type (M := model prog w)
  have L1 := PySem.W.looks_findIn (M := model prog w) X cx.ga
  have L2' := PySem.W.looks_findIn (M := model prog w) X cx.gt
  unfold getAttr
  refine wpAny_bind (wpAny_mkText ?_)
  repeat (any_goals (first | assumption | with_reducible refine L0.at ?_ | with_reducible refine L1.at ?_ | with_reducible refine L2'.at ?_ | wp_step))
  have hx3 : (b && onTheHeap (Value.builtin "BaseException.__getattribute__")) = false := by cases b <;> rfl
  rw [hx3, if_neg (by decide)]
  repeat (any_goals (first | assumption | (with_reducible refine L0.at ?_) | wp_step))
  refine at_callK X c cx I hv ?_
  show wpAny _ _ (handedOut v) _ _ _
  rw [PySem.W.handedOut_of hh]; exact wpAny_pure hq
end
section
variable {X : Cx} {e : Expr} {pos : Pos} {te : TE}
/-- e.at of an exception -/
def tAt (K : PySem.W.Frag) (te : TE) : TE := fun σ H Q => te σ H fun x H1 => ∃ (p C dx : Addr) (n : Int), x = .ref p ∧ H1 p = some (.ext (TL.excAt p C (some dx))) ∧ H1 dx = some (.xd [("at", .int n)]) ∧ XCls K C ∧ XAt K C ∧ Q (.int n) H1
theorem pe_at (he : PE X e te) (hb : attributeBase e "at" X.env (eval e X.env) = eval e X.env := by rfl) : PE X (.Attribute e "at" pos) (tAt X.K te) := by
  intro pins s σ H Q I h
  refine attr_of hb (thn (he pins s σ H _ I h) fun u s1 ⟨x, H1, I1, rx, p, C, dx, n, ex, hp, hd, cx, c, q⟩ => ?_)
  subst ex
  obtain rfl : u = Value.ref p := rx
  obtain ⟨⟨o, vs, h1, h2, h3, h4⟩, _⟩ := I1.hok p _ hp
  obtain ⟨mA, ns, rl⟩ := I1.hok dx _ hd
  obtain ⟨od, ho, hl⟩ := lookIn_ns ns
  obtain ⟨v, hv, rv⟩ := RelO.some_of (v := .int n) (o := mA "at") (rl "at")
  have J : PySem.W.InstAt s1.heap p o C (some od) := ⟨h1, h2, by unfold PySem.W.notCls; rw [h4], by rw [h3]; exact ho⟩
  obtain ⟨hh, g, d, t, os⟩ := s1
  exact at_get I1.kIn c cx J (by rw [hl, hv]) (handed_of rv) ⟨.int n, H1, I1.tok _, rv, q⟩
end
end L2
namespace TL
open PySem PySem.Spec PyProof.Rows L2
section
variable {X : Cx} {e : Expr} {te : ET} {pos : Pos}
def eAt (K : PySem.W.Frag) (te : ET) : ET := fun σ Q => te σ fun d => ∃ (C : Addr) (n : Int), d = .dict [(.int (C : Nat), .int n)] ∧ XAt K C ∧ Q (.int n)
theorem et_at (he : PEt X e te) (pc : ∀ {v : TE}, PE X e v → PE X (.Attribute e "at" pos) (tAt X.K v)) : PEt X (.Attribute e "at" pos) (eAt X.K te) := by
  obtain ⟨v, pe, re⟩ := he
  refine ⟨_, pc pe, fun B p0 H ps σT σ Q QV o h k => re B p0 H ps σT σ _ _ o h fun d x H1 s1 r1 q1 => ?_⟩
  obtain ⟨C, n, rfl, c, q⟩ := q1
  generalize hg : (PyData.dict [(.int (C : Nat), .int n)]) = d at r1
  cases r1 with
  | @exc p C' xk hp =>
    injection hg with hg; injection hg with hg; injection hg with hg hy; cases hy
  | @excA p C' dx n' xk hp hx =>
    injection hg with hg; injection hg with hg; injection hg with hg hy; injection hg with hg; injection hy with hy
    obtain rfl : C = C' := Int.ofNat.inj hg
    subst hy
    exact ⟨p, C, dx, n, rfl, mask_le _ _ hp, mask_le _ _ hx, xk.1, c, k _ _ H1 s1 (.int _) q⟩
  | _ => cases hg
end
section
variable {P : Program} {w : World} {K : PySem.W.Frag} {mg : Str → Option Value} {base : Heap} {N : List Str} {qual : Str} {scope : Scope} {f : Addr} {cd : Value} {A : Around} {outer : List Env} {s : Shared} {H : Hp} {E : XK} {ED : D → Prop}
def sRaiseI (ED : D → Prop) (H0 : Hp) (C : Addr) (t : AT) : STt := fun DT σ => t σ fun ds => ∃ n : Int, ds = [.int n] ∧ ED (.dict [(.int (C : Nat), .int n)]) ∧ ∀ B, DT.xB B → B = H0
theorem st_raiseI {C : Addr} {x : Str} {np cpos pos : Pos} {e : Expr} {es : List Expr} {t : AT} (hE : ∀ d cls dx H', Same H H' → XRep K H' d cls dx → ED d → E cls dx H') (xk : XOk K C) (ha : PAt (CXf P w K mg base N qual scope f cd A outer s H E) (e :: es) t)
    (pr : ∀ {ta : TA}, PA (CXf P w K mg base N qual scope f cd A outer s H E) (e :: es) ta → PS (CXf P w K mg base N qual scope f cd A outer s H E) (.Raise (some (.Call (.Name x np) (e :: es) [] cpos)) none pos) (tRaiseI C E ta)) :
    PSt (CXf P w K mg base N qual scope f cd A outer s H E) (.Raise (some (.Call (.Name x np) (e :: es) [] cpos)) none pos) (sRaiseI ED H C t) := by
  obtain ⟨va, pa, ra⟩ := ha
  refine ⟨_, pr pa, fun B p0 H' ps σT σ DT DV o h f => ra B p0 H' ps σT σ _ _ o h fun ds vs H1 s1 r1 q => ?_⟩
  obtain ⟨n, rfl, hd, hB⟩ := q
  obtain rfl := hB B f.xb
  cases r1 with
  | cons r1 r2 =>
    cases r1
    cases r2
    exact ⟨n, rfl, fun dx hn => hE _ _ _ _ ((o.base.trans s1).trans (same_new hn)) (.inr ⟨C, dx, n, rfl, rfl, rfl, xk, upd_same⟩) hd⟩
end
end TL

set_option Elab.async false
set_option linter.all false
set_option maxRecDepth 100000
namespace L2
open PySem PySem.Spec PyProof.Rows
section
variable {X : Cx} {e c : Expr} {es : List Expr} {s1 s2 : Stmt} {pos : Pos}
theorem cls_of {K : PySem.W.Frag} {C : Addr} {c : Value} {d : Option Addr} {cd : ClassData} {sl : Array (Option Value)} (l : K.lookup C = some ⟨c, d, .cls cd, sl⟩) : PySem.W.clsIn K C = some cd := by unfold PySem.W.clsIn; rw [l]
theorem pe_no : PE X e (fun _ _ _ => False) := fun _ _ _ _ _ _ h => h.elim
theorem pa_no : PA X es (fun _ _ _ => False) := fun _ _ _ _ _ _ _ h => h.elim
end
end L2
namespace TL
open PySem PySem.Spec PyProof.Rows L2
section
variable {X : Cx} {e a b : Expr} {es : List Expr} {pos : Pos} {st s1 s2 : Stmt} {W : Hp → Prop} {t : List Sl → Prop} {te : ET}
def PAx (X : Cx) (W : Hp → Prop) (es : List Expr) (t : List Sl → Prop) : Prop := ∃ ta : TA, PA X es ta ∧ ∀ (B : Hp) (p0 : List Addr) (H : Hp) (ps : List Addr) (σT : List Sl) (σ : L2.St) (QV : List V → Hp → Prop), Ok X.K B p0 H ps σT σ → t σT → W B → ta σ H QV
def PTx (X : Cx) (W : Hp → Prop) (e : Expr) (t : List Sl → Prop) : Prop := ∃ tt : TT, PT X e tt ∧ ∀ (B : Hp) (p0 : List Addr) (H : Hp) (ps : List Addr) (σT : List Sl) (σ : L2.St) (QV : Bool → Hp → Prop), Ok X.K B p0 H ps σT σ → t σT → W B → tt σ H QV
theorem ax_here (h : PEx X W e t) (hs : starEach (e :: es) X.env = (false, eval e X.env) :: starEach es X.env := by rfl) : PAx X W (e :: es) t := by
  obtain ⟨v, pe, r⟩ := h
  exact ⟨_, pa_cons pe pa_no hs, fun B p0 H ps σT σ QV o h w => r B p0 H ps σT σ _ o h w⟩
theorem ax_next (he : PEt X e te) (h : PAx X W es t) (hs : starEach (e :: es) X.env = (false, eval e X.env) :: starEach es X.env := by rfl) : PAx X W (e :: es) (fun σ => te σ fun _ => t σ) := by
  obtain ⟨v, pe, re⟩ := he
  obtain ⟨va, pa, r⟩ := h
  exact ⟨_, pa_cons pe pa hs, fun B p0 H ps σT σ QV o h w => re B p0 H ps σT σ _ _ o h fun d x H1 s1 r1 q1 => r B p0 H1 ps σT σ _ (o.grow s1) q1 w⟩
theorem ex_tup {x1} (h : PAx X W es t) : PEx X W (.Tuple es x1 pos) t := by
  obtain ⟨v, pa, r⟩ := h
  exact ⟨_, pe_tup pa, fun B p0 H ps σT σ QV o h w => r B p0 H ps σT σ _ o h w⟩
theorem tx_cmp {op : CmpOp} {r : R2} (ho : OpR X (compareOp op) r) (h : PEx X W a t) (hm : behindInMarks op b = false := by first | exact nomark _ | rfl) : PTx X W (.Compare a [op] [b] pos) t := by
  obtain ⟨v, pe, re⟩ := h
  exact ⟨_, pt_cmpR ho pe pe_no hm, fun B p0 H ps σT σ QV o h w => re B p0 H ps σT σ _ o h w⟩
theorem st_retX (h : PEx X W e t) : PSt X (.Return (some e) pos) (fun DT σ => t σ ∧ ∀ B, DT.xB B → W B) := by
  obtain ⟨v, pe, r⟩ := h
  exact ⟨_, ps_ret pe, fun B p0 H ps σT σ DT DV o h f => r B p0 H ps σT σ _ o h.1 (h.2 B f.xb)⟩
theorem st_setX {i : Nat} {x : Str} {pos' : Pos} (h : PEx X W e t) (ps' : ∀ {v : TE}, PE X e v → PS X (.Assign [.Name x pos'] e pos) (tAsg v (gName i))) : PSt X (.Assign [.Name x pos'] e pos) (fun DT σ => t σ ∧ ∀ B, DT.xB B → W B) := by
  obtain ⟨v, pe, r⟩ := h
  exact ⟨_, ps' pe, fun B p0 H ps σT σ DT DV o h f => r B p0 H ps σT σ _ o h.1 (h.2 B f.xb)⟩
theorem st_ifX {c : Expr} {l1 l2 : List Stmt} (h : PTx X W c t) : PSt X (.If c l1 l2 pos) (fun DT σ => t σ ∧ ∀ B, DT.xB B → W B) := by
  obtain ⟨v, pt, r⟩ := h
  exact ⟨_, ps_if pt pss_never pss_never, fun B p0 H ps σT σ DT DV o h f => r B p0 H ps σT σ _ o h.1 (h.2 B f.xb)⟩
end
end TL

set_option Elab.async false
set_option linter.all false
set_option maxRecDepth 100000
namespace TL
open PySem PySem.Spec PyProof.Rows L2
section
variable {X : Cx} {a : Expr} {ta : ET} {pos : Pos}
def eNotV (ta : ET) : ET := fun σ Q => ta σ fun x => match x with | .bool b => Q (.bool (!b)) | _ => False
theorem et_notV (ha : PEt X a ta) : PEt X (.UnaryOp .Not a pos) (eNotV ta) := by
  obtain ⟨va, pa, ra⟩ := ha
  refine ⟨_, pe_not pa, fun B p0 H ps σT σ Q QV o h k => ra B p0 H ps σT σ _ _ o h fun d x H1 s1 r1 q1 => ?_⟩
  cases r1 with
  | bool b => exact ⟨b, rfl, k _ _ H1 s1 (.bool _) q1⟩
  | _ => exact q1.elim
end
end TL

set_option Elab.async false
set_option linter.all false
set_option maxRecDepth 100000
namespace K11
open PySem L2 TL
def top (i : Nat) : Stmt := PySem.Challenge.pw_leafjudge_k11_texts_that_write_no_tree.main.body.getD i (.Pass ⟨0, 0, 0, 0⟩)
set_option genInjectivity false in
set_option genSizeOf false in
structure Adr where
  a_values_asked : Addr
  f_values_asked : FuncData
  a_is_leaf : Addr
  f_is_leaf : FuncData
  a_shown_tree : Addr
  f_shown_tree : FuncData
  a_read_tree : Addr
  f_read_tree : FuncData
  a_read_part : Addr
  f_read_part : FuncData
  a_read_question : Addr
  f_read_question : FuncData
  a_word_at : Addr
  f_word_at : FuncData
  a__law_mix : Addr
  f__law_mix : FuncData
  a__law_cell_at : Addr
  f__law_cell_at : FuncData
  a__law_drawn : Addr
  f__law_drawn : FuncData
  a__law_names : Addr
  f__law_names : FuncData
  a__law_form : Addr
  f__law_form : FuncData
  a__law_pop : Addr
  f__law_pop : FuncData
  a__law_asks : Addr
  f__law_asks : FuncData
  a__law_tree : Addr
  f__law_tree : FuncData
  a__law_words : Addr
  f__law_words : FuncData
  a__law_some_of : Addr
  f__law_some_of : FuncData
  a__law_wrong : Addr
  f__law_wrong : FuncData
  a__law_spoilt : Addr
  f__law_spoilt : FuncData
  a__law_right : Addr
  f__law_right : FuncData
  a__law_chain_words : Addr
  f__law_chain_words : FuncData
  a__law_bushy_words : Addr
  f__law_bushy_words : FuncData
  a_law : Addr
  f_law : FuncData
  c_JudgeError : Addr
  c_TooMany : Addr
  c_NoPlace : Addr
  c_NoRow : Addr
  c_NoSuch : Addr
  c_NoLine : Addr
  c_NoText : Addr
  c_NoRule : Addr
  a0_NoText : Addr
  f0_NoText : FuncData
  t_KINDS : Addr
  t_SIDES : Addr
  t_MOST_DEEP : Tok
  t_MOST_KNOTS : Tok
structure Txt (K : PySem.W.Frag) (mg : Str → Option Value) (A : Adr) : Prop where
  m_values_asked : mg "values_asked" = some (.ref A.a_values_asked)
  k_values_asked : PySem.W.keepIn K (.ref A.a_values_asked) = true
  F_values_asked : Fun K "values_asked" "values_asked" (top 12) A.a_values_asked A.f_values_asked
  d_values_asked : Binds K A.f_values_asked ["kind", "field"] []
  m_is_leaf : mg "is_leaf" = some (.ref A.a_is_leaf)
  k_is_leaf : PySem.W.keepIn K (.ref A.a_is_leaf) = true
  F_is_leaf : Fun K "is_leaf" "is_leaf" (top 16) A.a_is_leaf A.f_is_leaf
  d_is_leaf : Binds K A.f_is_leaf ["tree"] []
  m_shown_tree : mg "shown_tree" = some (.ref A.a_shown_tree)
  k_shown_tree : PySem.W.keepIn K (.ref A.a_shown_tree) = true
  F_shown_tree : Fun K "shown_tree" "shown_tree" (top 18) A.a_shown_tree A.f_shown_tree
  d_shown_tree : Binds K A.f_shown_tree ["tree"] []
  m_read_tree : mg "read_tree" = some (.ref A.a_read_tree)
  k_read_tree : PySem.W.keepIn K (.ref A.a_read_tree) = true
  F_read_tree : Fun K "read_tree" "read_tree" (top 19) A.a_read_tree A.f_read_tree
  d_read_tree : Binds K A.f_read_tree ["form", "text"] []
  m_read_part : mg "read_part" = some (.ref A.a_read_part)
  k_read_part : PySem.W.keepIn K (.ref A.a_read_part) = true
  F_read_part : Fun K "read_part" "read_part" (top 20) A.a_read_part A.f_read_part
  d_read_part : Binds K A.f_read_part ["form", "words", "start", "within", "knots"] []
  m_read_question : mg "read_question" = some (.ref A.a_read_question)
  k_read_question : PySem.W.keepIn K (.ref A.a_read_question) = true
  F_read_question : Fun K "read_question" "read_question" (top 21) A.a_read_question A.f_read_question
  d_read_question : Binds K A.f_read_question ["form", "words", "start"] []
  m_word_at : mg "word_at" = some (.ref A.a_word_at)
  k_word_at : PySem.W.keepIn K (.ref A.a_word_at) = true
  F_word_at : Fun K "word_at" "word_at" (top 22) A.a_word_at A.f_word_at
  d_word_at : Binds K A.f_word_at ["words", "number", "right"] []
  m__law_mix : mg "_law_mix" = some (.ref A.a__law_mix)
  k__law_mix : PySem.W.keepIn K (.ref A.a__law_mix) = true
  F__law_mix : Fun K "_law_mix" "_law_mix" (top 24) A.a__law_mix A.f__law_mix
  d__law_mix : Binds K A.f__law_mix ["_law_cell", "_law_k"] []
  m__law_cell_at : mg "_law_cell_at" = some (.ref A.a__law_cell_at)
  k__law_cell_at : PySem.W.keepIn K (.ref A.a__law_cell_at) = true
  F__law_cell_at : Fun K "_law_cell_at" "_law_cell_at" (top 25) A.a__law_cell_at A.f__law_cell_at
  d__law_cell_at : Binds K A.f__law_cell_at ["_law_script", "_law_k"] []
  m__law_drawn : mg "_law_drawn" = some (.ref A.a__law_drawn)
  k__law_drawn : PySem.W.keepIn K (.ref A.a__law_drawn) = true
  F__law_drawn : Fun K "_law_drawn" "_law_drawn" (top 26) A.a__law_drawn A.f__law_drawn
  d__law_drawn : Binds K A.f__law_drawn ["_law_cell", "_law_many"] []
  m__law_names : mg "_law_names" = some (.ref A.a__law_names)
  k__law_names : PySem.W.keepIn K (.ref A.a__law_names) = true
  F__law_names : Fun K "_law_names" "_law_names" (top 27) A.a__law_names A.f__law_names
  d__law_names : Binds K A.f__law_names ["_law_drawn_here", "_law_at", "_law_many"] []
  m__law_form : mg "_law_form" = some (.ref A.a__law_form)
  k__law_form : PySem.W.keepIn K (.ref A.a__law_form) = true
  F__law_form : Fun K "_law_form" "_law_form" (top 28) A.a__law_form A.f__law_form
  d__law_form : Binds K A.f__law_form ["_law_script"] []
  m__law_pop : mg "_law_pop" = some (.ref A.a__law_pop)
  k__law_pop : PySem.W.keepIn K (.ref A.a__law_pop) = true
  F__law_pop : Fun K "_law_pop" "_law_pop" (top 29) A.a__law_pop A.f__law_pop
  d__law_pop : Binds K A.f__law_pop ["_law_numbers"] []
  m__law_asks : mg "_law_asks" = some (.ref A.a__law_asks)
  k__law_asks : PySem.W.keepIn K (.ref A.a__law_asks) = true
  F__law_asks : Fun K "_law_asks" "_law_asks" (top 30) A.a__law_asks A.f__law_asks
  d__law_asks : Binds K A.f__law_asks ["_law_form_here", "_law_number"] []
  m__law_tree : mg "_law_tree" = some (.ref A.a__law_tree)
  k__law_tree : PySem.W.keepIn K (.ref A.a__law_tree) = true
  F__law_tree : Fun K "_law_tree" "_law_tree" (top 31) A.a__law_tree A.f__law_tree
  d__law_tree : Binds K A.f__law_tree ["_law_form_here", "_law_numbers", "_law_deep"] []
  m__law_words : mg "_law_words" = some (.ref A.a__law_words)
  k__law_words : PySem.W.keepIn K (.ref A.a__law_words) = true
  F__law_words : Fun K "_law_words" "_law_words" (top 32) A.a__law_words A.f__law_words
  d__law_words : Binds K A.f__law_words ["_law_tree_here"] []
  m__law_some_of : mg "_law_some_of" = some (.ref A.a__law_some_of)
  k__law_some_of : PySem.W.keepIn K (.ref A.a__law_some_of) = true
  F__law_some_of : Fun K "_law_some_of" "_law_some_of" (top 33) A.a__law_some_of A.f__law_some_of
  d__law_some_of : Binds K A.f__law_some_of ["_law_form_here", "_law_sort", "_law_field", "_law_kind"] []
  m__law_wrong : mg "_law_wrong" = some (.ref A.a__law_wrong)
  k__law_wrong : PySem.W.keepIn K (.ref A.a__law_wrong) = true
  F__law_wrong : Fun K "_law_wrong" "_law_wrong" (top 34) A.a__law_wrong A.f__law_wrong
  d__law_wrong : Binds K A.f__law_wrong ["_law_form_here", "_law_words_here"] []
  m__law_spoilt : mg "_law_spoilt" = some (.ref A.a__law_spoilt)
  k__law_spoilt : PySem.W.keepIn K (.ref A.a__law_spoilt) = true
  F__law_spoilt : Fun K "_law_spoilt" "_law_spoilt" (top 35) A.a__law_spoilt A.f__law_spoilt
  d__law_spoilt : Binds K A.f__law_spoilt ["_law_form_here", "_law_bits", "_law_words_here"] []
  m__law_right : mg "_law_right" = some (.ref A.a__law_right)
  k__law_right : PySem.W.keepIn K (.ref A.a__law_right) = true
  F__law_right : Fun K "_law_right" "_law_right" (top 36) A.a__law_right A.f__law_right
  d__law_right : Binds K A.f__law_right ["_law_form_here", "_law_text"] []
  m__law_chain_words : mg "_law_chain_words" = some (.ref A.a__law_chain_words)
  k__law_chain_words : PySem.W.keepIn K (.ref A.a__law_chain_words) = true
  F__law_chain_words : Fun K "_law_chain_words" "_law_chain_words" (top 37) A.a__law_chain_words A.f__law_chain_words
  d__law_chain_words : Binds K A.f__law_chain_words ["_law_form_here", "_law_bits", "_law_many"] []
  m__law_bushy_words : mg "_law_bushy_words" = some (.ref A.a__law_bushy_words)
  k__law_bushy_words : PySem.W.keepIn K (.ref A.a__law_bushy_words) = true
  F__law_bushy_words : Fun K "_law_bushy_words" "_law_bushy_words" (top 38) A.a__law_bushy_words A.f__law_bushy_words
  d__law_bushy_words : Binds K A.f__law_bushy_words ["_law_form_here", "_law_bits", "_law_many"] []
  m_law : mg "law" = some (.ref A.a_law)
  k_law : PySem.W.keepIn K (.ref A.a_law) = true
  F_law : Fun K "law" "law" (top 39) A.a_law A.f_law
  d_law : Binds K A.f_law ["_law_script"] []
  c_KINDS : mg "KINDS" = some (.ref A.t_KINDS)
  t_KINDS : KTup K A.t_KINDS ["is", "upto"]
  c_SIDES : mg "SIDES" = some (.ref A.t_SIDES)
  t_SIDES : KTup K A.t_SIDES ["yes", "no"]
  c_MOST_DEEP : mg "MOST_DEEP" = some (.int 30 A.t_MOST_DEEP)
  c_MOST_KNOTS : mg "MOST_KNOTS" = some (.int 500 A.t_MOST_KNOTS)
  x_JudgeError : mg "JudgeError" = some (.ref A.c_JudgeError)
  x_TooMany : mg "TooMany" = some (.ref A.c_TooMany)
  x_NoPlace : mg "NoPlace" = some (.ref A.c_NoPlace)
  x_NoRow : mg "NoRow" = some (.ref A.c_NoRow)
  x_NoSuch : mg "NoSuch" = some (.ref A.c_NoSuch)
  x_NoLine : mg "NoLine" = some (.ref A.c_NoLine)
  x_NoText : mg "NoText" = some (.ref A.c_NoText)
  x_NoRule : mg "NoRule" = some (.ref A.c_NoRule)
  I_NoText : ICls K A.c_NoText A.a0_NoText
  T_NoText : XAt K A.c_NoText
  F0_NoText : Fun K "__init__" "NoText.__init__" (initOf (top 7)) A.a0_NoText A.f0_NoText
  i_NoText : Binds K A.f0_NoText ["self", "at"] []
  X_NoText : XOk K A.c_NoText
  j_NoText : PySem.W.exmOne K (.ref A.c_NoText) (.ref A.c_JudgeError) = some true
  v_NoText : PySem.W.kitOne K (.ref A.c_NoText) (.type "ValueError") = some true
  q_NoText_TooMany : PySem.W.kitOne K (.ref A.c_NoText) (.ref A.c_TooMany) = some false
  q_NoText_NoPlace : PySem.W.kitOne K (.ref A.c_NoText) (.ref A.c_NoPlace) = some false
  q_NoText_NoRow : PySem.W.kitOne K (.ref A.c_NoText) (.ref A.c_NoRow) = some false
  q_NoText_NoSuch : PySem.W.kitOne K (.ref A.c_NoText) (.ref A.c_NoSuch) = some false
  q_NoText_NoLine : PySem.W.kitOne K (.ref A.c_NoText) (.ref A.c_NoLine) = some false
  q_NoText_NoText : PySem.W.kitOne K (.ref A.c_NoText) (.ref A.c_NoText) = some true
  q_NoText_NoRule : PySem.W.kitOne K (.ref A.c_NoText) (.ref A.c_NoRule) = some false
  b_ValueError : mg "ValueError" = none
  b_bool : mg "bool" = none
  b_int : mg "int" = none
  b_isinstance : mg "isinstance" = none
  b_len : mg "len" = none
  b_list : mg "list" = none
  b_min : mg "min" = none
  b_range : mg "range" = none
  b_tuple : mg "tuple" = none
def letters : Str := "abcdefghijklmnopqrstuvwxyz"
def sgn (c : Nat) : Bool := Txt.contains letters ⟨#[c]⟩
def nmS (z : Str) : Bool := decide (1 ≤ z.length) && decide (z.length ≤ 8) && z.cps.toList.all sgn
def nm : D → Bool
  | .str z => nmS z
  | _ => false
def txt : D → Str
  | .str z => z
  | _ => ""
def nms (d : D) (lo hi : Int) : Bool := match d with | .tuple ts => decide (lo ≤ ts.length) && decide ((ts.length : Int) ≤ hi) && ts.all nm && decide ((ts.map txt).Nodup) | _ => false
def fld : D → Bool
  | .tuple [n, vs] => nm n && nms vs 2 5
  | _ => false
def fst : D → D
  | .tuple (n :: _) => n
  | _ => .none
def flds : D → Bool
  | .tuple ts => decide (1 ≤ ts.length) && decide (ts.length ≤ 5) && ts.all fld && decide ((ts.map fun t => txt (fst t)).Nodup)
  | _ => false
def sp__law_mix : SpT := fun ds Q => ∃ c k : Int, ds = [.int c, .int k] ∧ 0 ≤ k ∧ k < 1000 ∧ ∀ r : Int, 0 ≤ r → r < 2147483647 → Q (.int r)
def sp__law_cell_at : SpT := fun ds Q => ∃ (ns : List Int) (k : Int), ds = [.list (ns.map PyData.int), .int k] ∧ ns.length ≤ 63 ∧ 0 ≤ k ∧ k < 1000 ∧ ∀ r : Int, Q (.int r)
def Bits (n : Nat) (bs : List Int) : Prop := bs.length = n ∧ ∀ b ∈ bs, 0 ≤ b ∧ b < 4096
def sp__law_drawn : SpT := fun ds Q => ∃ (c : Int) (n : Nat), ds = [.int c, .int n] ∧ n ≤ 100 ∧ ∀ bs, Bits n bs → Q (.list (bs.map PyData.int))
/-- a tuple of n unlike names -/
def Nms (n : Nat) (ys : List Str) : Prop := ys.length = n ∧ (∀ y ∈ ys, nmS y = true) ∧ ys.Nodup
def sp__law_names : SpT := fun ds Q => ∃ (bs : List Int) (n m k : Nat), ds = [.list (bs.map PyData.int), .int k, .int m] ∧ Bits n bs ∧ k + 11 ≤ n ∧ n ≤ 100 ∧ m ≤ 8 ∧ ∀ ys, Nms m ys → Q (.tuple (ys.map PyData.str))
def fldD (f : Str × List Str) : D := .tuple [.str f.1, .tuple (f.2.map PyData.str)]
def frmD (fs : List (Str × List Str)) (an : List Str) : D := .tuple [.tuple (fs.map fldD), .tuple (an.map PyData.str)]
structure Form (fs : List (Str × List Str)) (an : List Str) : Prop where
  n1 : 1 ≤ fs.length
  n5 : fs.length ≤ 5
  nd : Nms fs.length (fs.map (·.1))
  vs : ∀ f ∈ fs, 2 ≤ f.2.length ∧ f.2.length ≤ 5 ∧ Nms f.2.length f.2
  a2 : 2 ≤ an.length
  a4 : an.length ≤ 4
  an : Nms an.length an
def sp__law_form : SpT := fun ds Q => ∃ ns : List Int, ds = [.list (ns.map PyData.int)] ∧ ns.length ≤ 63 ∧ ∀ fs an, Form fs an → Q (frmD fs an)
theorem atI_in {α : Type} {xs : List α} {i : Int} (h0 : 0 ≤ i) (h1 : i < xs.length) : ∃ a, a ∈ xs ∧ L2.atI xs i = some a ∧ xs[i.toNat]? = some a := by
  have hi : i.toNat < xs.length := by omega
  refine ⟨xs[i.toNat], List.getElem_mem hi, ?_, List.getElem?_eq_getElem hi⟩
  have := L2.atI_nat (xs := xs) (j := i.toNat) (v := xs[i.toNat]) (List.getElem?_eq_getElem hi)
  rwa [show ((i.toNat : Nat) : Int) = i by omega] at this
theorem atI_bits {bs : List Int} {n : Nat} {i : Int} (hb : Bits n bs) (h0 : 0 ≤ i) (h1 : i < n) : ∃ b, 0 ≤ b ∧ b < 4096 ∧ L2.atI (bs.map PyData.int) i = some (.int b) := by
  obtain ⟨a, hm, ha, _⟩ := atI_in (xs := bs.map PyData.int) (i := i) h0 (by rw [List.length_map, hb.1]; exact h1)
  obtain ⟨b, hb', rfl⟩ := List.mem_map.mp hm
  exact ⟨b, (hb.2 b hb').1, (hb.2 b hb').2, ha⟩
theorem intsTo_len (n : Nat) : (intsTo n).length = n := by unfold intsTo; simp
theorem intsTo_get {n k : Nat} {x : D} (h : (intsTo n)[k]? = some x) : k < n ∧ x = .int k := by
  unfold intsTo at h
  rw [List.getElem?_map] at h
  by_cases hk : k < n
  · rw [List.getElem?_range hk] at h
    cases h
    exact ⟨hk, rfl⟩
  · rw [List.getElem?_eq_none (by simpa using hk)] at h
    cases h
theorem cut_ns {α : Type} (xs : List α) (j : Nat) : cutD xs none (some (j : Int)) = xs.take j := by
  unfold cutD
  rw [HT.sIx_none, HT.sIx_nat, List.drop_zero, Nat.sub_zero]
  by_cases h : j ≤ xs.length
  · rw [Nat.min_eq_left h]
  · rw [Nat.min_eq_right (by omega), List.take_length, List.take_of_length_le (by omega)]
theorem cut_sn {α : Type} (xs : List α) (i : Nat) : cutD xs (some (i : Int)) none = xs.drop i := by
  unfold cutD
  rw [HT.sIx_none, HT.sIx_nat]
  by_cases h : i ≤ xs.length
  · rw [Nat.min_eq_left h, List.take_of_length_le (by rw [List.length_drop]; omega)]
  · rw [Nat.min_eq_right (by omega), List.drop_eq_nil_of_le (Nat.le_refl _), List.drop_eq_nil_of_le (by omega)]
    simp
theorem cut_ss {α : Type} (xs : List α) (i j : Nat) : cutD xs (some (i : Int)) (some (j : Int)) = (xs.drop i).take (j - i) := by
  unfold cutD
  rw [HT.sIx_nat, HT.sIx_nat]
  apply List.ext_getElem?
  intro k
  rw [List.getElem?_take, List.getElem?_take, List.getElem?_drop, List.getElem?_drop]
  by_cases hi : i ≤ xs.length
  · rw [Nat.min_eq_left hi]
    by_cases hj : j ≤ xs.length
    · rw [Nat.min_eq_left hj]
    · rw [Nat.min_eq_right (by omega)]
      by_cases h1 : k < xs.length - i
      · rw [if_pos h1, if_pos (by omega)]
      · rw [if_neg h1]
        by_cases h2 : k < j - i
        · rw [if_pos h2, List.getElem?_eq_none (by omega)]
        · rw [if_neg h2]
  · rw [if_neg (by omega)]
    by_cases h2 : k < j - i
    · rw [if_pos h2, List.getElem?_eq_none (by omega)]
    · rw [if_neg h2]
theorem cut_map {α β : Type} (f : α → β) (xs : List α) (lo hi : Option Int) : cutD (xs.map f) lo hi = (cutD xs lo hi).map f := by
  unfold cutD
  rw [List.length_map, List.map_take, List.map_drop]
theorem nmS_of {z : Str} (h1 : 1 ≤ z.cps.toList.length) (h2 : z.cps.toList.length ≤ 8) (h3 : ∀ c ∈ z.cps.toList, c ∈ letters.cps.toList) : nmS z = true := by
  have e : z.length = z.cps.toList.length := by simp [Str.length]
  unfold nmS
  rw [e, decide_eq_true h1, decide_eq_true h2]
  simp only [Bool.true_and, List.all_eq_true]
  intro c hc
  unfold sgn
  rw [in_one]
  exact decide_eq_true (h3 c hc)
theorem nmS_iff {z : Str} (h : nmS z = true) : 1 ≤ z.length ∧ z.length ≤ 8 ∧ ∀ c ∈ z.cps.toList, c ∈ letters.cps.toList := by
  unfold nmS at h
  simp only [Bool.and_eq_true, decide_eq_true_eq, List.all_eq_true] at h
  refine ⟨h.1.1, h.1.2, fun c hc => ?_⟩
  have := h.2 c hc
  unfold sgn at this
  rw [in_one] at this
  exact of_decide_eq_true this
theorem nodup_range {α : Type} {n : Nat} (F : Nat → α) (inj : ∀ i j, i < n → j < n → F i = F j → i = j) : ((List.range n).map F).Nodup := by
  rw [List.Nodup, List.pairwise_map]
  have : (List.range n).Nodup := List.nodup_range
  refine List.Pairwise.imp_of_mem (fun {a b} ha hb hab e => ?_) this
  exact hab (inj a b (by simpa using ha) (by simpa using hb) e)
theorem nms_range (F : Nat → Str) (h : ∀ i, i < 8 → nmS (F i) = true) (inj : ∀ i j, i < 8 → j < 8 → F i = F j → i = j) : Nms 8 ((List.range 8).map F) :=
  ⟨by simp, fun y hy => by
    obtain ⟨i, hi, rfl⟩ := List.mem_map.mp hy
    exact h i (by simpa using hi), nodup_range F inj⟩
theorem nms_turn {ys : List Str} (h : Nms 8 ys) (t : Nat) {m : Nat} (hm : m ≤ 8) : Nms m ((ys.drop t ++ ys.take t).take m) := by
  have hp : (ys.drop t ++ ys.take t).Perm ys := by
    have : (ys.take t ++ ys.drop t).Perm ys := by rw [List.take_append_drop]
    exact List.perm_append_comm.trans this
  refine ⟨?_, fun y hy => h.2.1 y (hp.mem_iff.mp (List.mem_of_mem_take hy)), (hp.nodup_iff.mpr h.2.2).sublist (List.take_sublist _ _)⟩
  rw [List.length_take, hp.length_eq, h.1]
  omega
theorem letters_nd : letters.cps.toList.Nodup := by decide +kernel
def names8 : List Str := ["say", "ask", "is", "upto", "yes", "no", "all", "in"]
theorem nms8 : Nms 8 names8 := ⟨rfl, by decide +kernel, by decide +kernel⟩
theorem nth_inj {xs : List Nat} (nd : xs.Nodup) {i j : Nat} {c : Nat} (h1 : xs[i]? = some c) (h2 : xs[j]? = some c) : i = j := by
  obtain ⟨a1, a2⟩ := List.getElem?_eq_some_iff.mp h1
  obtain ⟨b1, b2⟩ := List.getElem?_eq_some_iff.mp h2
  exact (List.getElem_inj nd).mp (a2.trans b2.symm)
theorem signs_of : ∀ {ys : List D}, (∀ y ∈ ys, ∃ c, c ∈ letters.cps.toList ∧ y = .str ⟨#[c]⟩) → ∃ cs : List Nat, ys = cs.map (fun c => PyData.str ⟨#[c]⟩) ∧ ∀ c ∈ cs, c ∈ letters.cps.toList
  | [], _ => ⟨[], rfl, fun c h => by simp at h⟩
  | y :: ys, h => by
    obtain ⟨c, hc, rfl⟩ := h y (List.mem_cons_self ..)
    obtain ⟨cs, rfl, h2⟩ := signs_of (ys := ys) fun y hy => h y (List.mem_cons_of_mem _ hy)
    refine ⟨c :: cs, rfl, fun d hd => ?_⟩
    rcases List.mem_cons.mp hd with rfl | hd
    · exact hc
    · exact h2 d hd
theorem join_signs (cs : List Nat) : (Txt.join ⟨#[]⟩ (cs.map fun c => ⟨#[c]⟩)).cps.toList = cs := by
  rw [join_codes, List.map_map]
  induction cs with
  | nil => rfl
  | cons c cs ih => rw [List.map_cons, List.flatten_cons, ih]; rfl
theorem pick {xs : List Int} {lo hi : Int} (h : ∀ x ∈ xs, lo ≤ x ∧ x ≤ hi) {i : Int} (h0 : 0 ≤ i) (h1 : i < xs.length) : ∃ m : Int, lo ≤ m ∧ m ≤ hi ∧ L2.atI (xs.map PyData.int) i = some (.int m) := by
  obtain ⟨a, hm, ha, _⟩ := atI_in (xs := xs.map PyData.int) (i := i) h0 (by rw [List.length_map]; exact h1)
  obtain ⟨b, hb, rfl⟩ := List.mem_map.mp hm
  exact ⟨b, (h b hb).1, (h b hb).2, ha⟩
theorem atI_strs {ys : List Str} {k : Nat} (h : k < ys.length) : L2.atI (ys.map PyData.str) (k : Int) = some (.str ys[k]) := L2.atI_nat (by rw [List.getElem?_map, List.getElem?_eq_getElem h]; rfl)
def isAns (an : List Str) (d : D) : Bool := match d with | .str z => decide (z ∈ an) | _ => false
structure Cd (d : D) : Prop where
  lay : d.canLay0 = true
  dep : d.depth ≤ 60
structure Th (n m : Nat) (d : D) : Prop where
  bulk : d.bulk ≤ n
  fit : d.leavesShort 110 = true
  shw : d.showable = true
  nodict : d.hasDict = false
  depth : d.depth ≤ m
  lay : d.canLay0 = true
theorem Th.mono {n n' m m' : Nat} {d : D} (h : Th n m d) (hn : n ≤ n') (hm : m ≤ m') : Th n' m' d := ⟨Nat.le_trans h.bulk hn, h.fit, h.shw, h.nodict, Nat.le_trans h.depth hm, h.lay⟩
theorem th_all {n m : Nat} : ∀ {ts : List D}, (∀ t ∈ ts, Th n m t) → PyData.bulkAll ts ≤ ts.length * (n + 1) ∧ PyData.leavesShortAll 110 ts = true ∧ PyData.showableAll ts = true ∧ PyData.hasDictAll ts = false ∧ PyData.depthAll ts ≤ m ∧ PyData.canLayAll0 ts = true
  | [], _ => ⟨Nat.zero_le _, rfl, rfl, rfl, Nat.zero_le _, rfl⟩
  | t :: ts, h => by
    have a := h t (List.mem_cons_self ..)
    obtain ⟨b1, b2, b3, b4, b5, b6⟩ := th_all (ts := ts) fun x hx => h x (List.mem_cons_of_mem _ hx)
    refine ⟨?_, ?_, ?_, ?_, ?_, ?_⟩
    · show t.bulk + 1 + PyData.bulkAll ts ≤ (ts.length + 1) * (n + 1)
      have := a.bulk
      rw [Nat.add_mul, Nat.one_mul]
      omega
    · show (t.leavesShort 110 && PyData.leavesShortAll 110 ts) = true
      rw [a.fit, b2]; rfl
    · show (t.showable && PyData.showableAll ts) = true
      rw [a.shw, b3]; rfl
    · show (t.hasDict || PyData.hasDictAll ts) = false
      rw [a.nodict, b4]; rfl
    · show max t.depth (PyData.depthAll ts) ≤ m
      exact Nat.max_le.mpr ⟨a.depth, b5⟩
    · show (t.canLay0 && PyData.canLayAll0 ts) = true
      rw [a.lay, b6]; rfl
theorem th_tup (n m k : Nat) {N M : Nat} {ts : List D} (h : ∀ t ∈ ts, Th n m t) (hl : ts.length ≤ k) (hN : k * (n + 1) ≤ N) (hM : m + 1 ≤ M) : Th N M (.tuple ts) := by
  obtain ⟨b1, b2, b3, b4, b5, b6⟩ := th_all h
  have : ts.length * (n + 1) ≤ k * (n + 1) := Nat.mul_le_mul_right _ hl
  exact ⟨by show PyData.bulkAll ts ≤ N; omega, b2, b3, b4, by show PyData.depthAll ts + 1 ≤ M; omega, b6⟩
theorem strOk_small {z : Str} (hc : ∀ c ∈ z.cps.toList, c < 1000) : PyData.strOk z = true := by
  unfold PyData.strOk
  rw [← Array.all_toList, List.all_eq_true]
  intro c h1
  have := hc c h1
  exact decide_eq_true (by omega)
theorem th_str {n m : Nat} {z : Str} (h : z.length ≤ n) (hc : ∀ c ∈ z.cps.toList, c < 1000) : Th n m (.str z) := by
  refine ⟨h, ?_, rfl, rfl, Nat.zero_le _, strOk_small hc⟩
  show (z.cps.toList.all fun c => decide (c < 16 ^ 8)) = true
  rw [List.all_eq_true]
  intro c h1
  have := hc c h1
  exact decide_eq_true (by omega)
theorem let_small {c : Nat} (h : c ∈ letters.cps.toList) : c < 128 := by
  have : ∀ c ∈ letters.cps.toList, c < 128 := by decide +kernel
  exact this c h
theorem nm_small {y : Str} (h : nmS y = true) : y.length ≤ 8 ∧ ∀ c ∈ y.cps.toList, c < 128 := ⟨(nmS_iff h).2.1, fun c hc => let_small ((nmS_iff h).2.2 c hc)⟩
theorem th_name {y : Str} (h : nmS y = true) {n m : Nat} (hn : 8 ≤ n) : Th n m (.str y) := th_str (Nat.le_trans (nm_small h).1 hn) fun c hc => by have := (nm_small h).2 c hc; omega
theorem th_strs {ys : List Str} (h : ∀ y ∈ ys, nmS y = true) {n m : Nat} (hn : 8 ≤ n) : ∀ t ∈ ys.map PyData.str, Th n m t := fun t ht => by
  obtain ⟨y, hy, rfl⟩ := List.mem_map.mp ht
  exact th_name (h y hy) hn
theorem th_names {ys : List Str} (h : ∀ y ∈ ys, nmS y = true) (hl : ys.length ≤ 8) : Th 72 1 (.tuple (ys.map PyData.str)) := th_tup 8 0 8 (th_strs h (Nat.le_refl _)) (by rw [List.length_map]; exact hl) (by decide) (by decide)
theorem all_nil {n m : Nat} : ∀ t ∈ ([] : List D), Th n m t := fun t h => by simp at h
theorem all_cons {n m : Nat} {a : D} {ts : List D} (h : Th n m a) (hs : ∀ t ∈ ts, Th n m t) : ∀ t ∈ a :: ts, Th n m t := fun t ht => by
  rcases List.mem_cons.mp ht with rfl | ht
  · exact h
  · exact hs t ht
theorem cut_len {α : Type} (ts : List α) (lo hi : Option Int) : (cutD ts lo hi).length ≤ ts.length := by
  unfold cutD
  rw [List.length_take, List.length_drop]; omega
theorem Th.cd {n m : Nat} {d : D} (h : Th n m d) (hm : m ≤ 60) : Cd d := ⟨h.lay, Nat.le_trans h.depth hm⟩
theorem lay_mem : ∀ {ts : List D} {t : D}, PyData.canLayAll0 ts = true → t ∈ ts → t.canLay0 = true
  | a :: r, t, h, hm => by
    have h' : (a.canLay0 && PyData.canLayAll0 r) = true := h
    rw [Bool.and_eq_true] at h'
    rcases List.mem_cons.mp hm with rfl | hm
    · exact h'.1
    · exact lay_mem h'.2 hm
theorem depth_mem : ∀ {ts : List D} {t : D}, t ∈ ts → t.depth ≤ PyData.depthAll ts
  | a :: r, t, hm => by
    show t.depth ≤ max a.depth (PyData.depthAll r)
    rcases List.mem_cons.mp hm with rfl | hm
    · exact Nat.le_max_left _ _
    · exact Nat.le_trans (depth_mem hm) (Nat.le_max_right _ _)
theorem Cd.item {ts : List D} {t : D} (h : Cd (.tuple ts)) (ht : t ∈ ts) : Cd t := ⟨lay_mem h.lay ht, by
  have h1 : PyData.depthAll ts + 1 ≤ 60 := h.dep
  have := depth_mem ht
  omega⟩
section
variable {fs : List (Str × List Str)} {an : List Str}
theorem Form.name (F : Form fs an) {f : Str × List Str} (h : f ∈ fs) : nmS f.1 = true := F.nd.2.1 _ (List.mem_map.mpr ⟨f, h, rfl⟩)
theorem Form.vals (F : Form fs an) {f : Str × List Str} (h : f ∈ fs) : ∀ y ∈ f.2, nmS y = true := (F.vs f h).2.2.2.1
theorem Form.fld (F : Form fs an) {f : Str × List Str} (h : f ∈ fs) : Th 146 2 (fldD f) := th_tup 72 1 2 (all_cons (th_name (F.name h) (by decide)) (all_cons (th_names (F.vals h) (by have := (F.vs f h).2.1; omega)) all_nil)) (Nat.le_of_ble_eq_true rfl) (by decide) (by decide)
theorem Form.flds (F : Form fs an) : Th 735 3 (.tuple (fs.map fldD)) := th_tup 146 2 5 (fun t ht => by
  obtain ⟨f, hf, rfl⟩ := List.mem_map.mp ht
  exact F.fld hf) (by rw [List.length_map]; exact F.n5) (by decide) (by decide)
theorem Form.ans (F : Form fs an) : Th 72 1 (.tuple (an.map PyData.str)) := th_names F.an.2.1 (by have := F.a4; omega)
theorem Form.form (F : Form fs an) : Th 1472 4 (frmD fs an) := th_tup 735 3 2 (all_cons F.flds (all_cons (F.ans.mono (by decide) (by decide)) all_nil)) (Nat.le_of_ble_eq_true rfl) (by decide) (by decide)
end
theorem any_strs (d : D) (ys : List Str) : ((ys.map PyData.str).any fun z => PyData.eqv z d) = isAns ys d := by
  induction ys with
  | nil => cases d <;> rfl
  | cons y ys ih =>
    rw [List.map_cons, List.any_cons, ih]
    cases d with
    | str z =>
      show ((y == z) || decide (z ∈ ys)) = decide (z ∈ y :: ys)
      rw [Bool.eq_iff_iff]
      simp only [Bool.or_eq_true, beq_iff_eq, decide_eq_true_eq, List.mem_cons]
      exact ⟨fun h => h.imp Eq.symm id, fun h => h.imp Eq.symm id⟩
    | _ => rfl
theorem ok_strs {ys : List Str} (h : ∀ y ∈ ys, nmS y = true) {d : D} (hd : Cd d) : okIn d (.tuple (ys.map PyData.str)) := by
  obtain ⟨_, _, _, _, b5, b6⟩ := th_all (th_strs h (Nat.le_refl 8) (m := 0))
  exact ⟨b6, hd.lay, by have := hd.dep; omega⟩
theorem idx_min : ∀ {ys : List Str} {z : Str} {m : Nat}, m < ys.idxOf z → ys[m]? ≠ some z
  | [], z, m, h => by simp at h
  | y :: ys, z, m, h => by
    rw [List.idxOf_cons] at h
    by_cases e : y = z
    · subst e
      simp at h
    · have e' : (y == z) = false := by simpa using e
      rw [e'] at h
      simp only [cond_false] at h
      cases m with
      | zero => simpa using e
      | succ m =>
        rw [List.getElem?_cons_succ]
        exact idx_min (by omega)
theorem Bits.drop {n : Nat} {bs : List Int} (h : Bits n bs) (k : Nat) : Bits (n - k) (bs.drop k) := ⟨by rw [List.length_drop, h.1], fun b hb => h.2 b (List.mem_of_mem_drop hb)⟩
theorem seq_unp {te : ET} {u : STt} {DT : EndsT} {σ : List Sl} {i j : Nat} {a b : D} (h : ∀ q : D → Prop, q (.tuple [a, b]) → te σ q) (k : u DT ((σ.set i (.val a)).set j (.val b))) : sSeq (sUnp i j te) u DT σ := h _ ⟨a, b, rfl, k⟩
theorem seq_setF {t : FT} {u : STt} {DT : EndsT} {σ : List Sl} {i : Nat} (ts : List D) (h : ∀ q : List D → Prop, q ts → t σ q) (k : u DT (σ.set i (.own ts))) : sSeq (sSetF i t) u DT σ := h _ k
def qOk (f : Str × List Str) (k v : D) : Bool := match k, v with
  | .str kk, .str z => decide (z ∈ f.2) && (decide (kk = "is") || (decide (kk = "upto") && decide (f.2.idxOf z + 1 < f.2.length)))
  | _, _ => false
def isN (n : D) (f : Str × List Str) : Bool := match n with | .str z => decide (f.1 = z) | _ => false
def isQ (fs : List (Str × List Str)) (d : D) : Bool := match d with
  | .tuple [k, n, v] => fs.any fun f => isN n f && qOk f k v
  | _ => false
def mkQ (k : Str) (f : Str × List Str) (z : Str) : D := .tuple [.str k, .str f.1, .str z]
theorem idx_le {ys : List Str} {z : Str} {j : Nat} (h : ys[j]? = some z) : ys.idxOf z ≤ j := by
  by_cases q : ys.idxOf z ≤ j
  · exact q
  · exact absurd h (idx_min (by omega))
theorem isQ_mk {fs : List (Str × List Str)} {f : Str × List Str} {k : Str} {z : Str} (hf : f ∈ fs) (h : qOk f (.str k) (.str z) = true) : isQ fs (mkQ k f z) = true := by
  show (fs.any fun g => isN (.str f.1) g && qOk g (.str k) (.str z)) = true
  rw [List.any_eq_true]
  refine ⟨f, hf, ?_⟩
  show (decide (f.1 = f.1) && qOk f (.str k) (.str z)) = true
  rw [h, decide_eq_true rfl]; rfl
theorem nm_is : nmS "is" = true := by decide +kernel
theorem nm_upto : nmS "upto" = true := by decide +kernel
theorem okIx_strs {ys : List Str} (hy : ∀ y ∈ ys, nmS y = true) {z : Str} (hz : z ∈ ys) : okIx (ys.map PyData.str) (.str z) (ys.idxOf z) := by
  have hzi : ys.idxOf z < ys.length := List.idxOf_lt_length_iff.mpr hz
  obtain ⟨_, _, _, _, d5, d6⟩ := th_all (th_strs hy (Nat.le_refl 8) (m := 0))
  refine ⟨d6, (th_name (hy z hz) (Nat.le_refl 8) (m := 0)).lay, by omega, ⟨.str z, ?_, ?_⟩, fun m t hm ht => ?_⟩
  · rw [List.getElem?_map, List.getElem?_eq_getElem hzi, List.getElem_idxOf hzi]; rfl
  · show (z == z) = true
    simp
  · rw [List.getElem?_map] at ht
    cases e2 : ys[m]? with
    | none => rw [e2] at ht; cases ht
    | some y =>
      rw [e2] at ht
      cases ht
      show (y == z) = false
      have : y ≠ z := fun q => by
        subst q
        exact idx_min hm e2
      simpa using this
inductive Tr | say (a : Str) | ask (k n v s : Str) (y m : Tr)
def trD : Tr → D
  | .say a => .tuple [.str "say", .str a]
  | .ask k n v s y m => .tuple [.str "ask", .tuple [.str k, .str n, .str v], .str s, trD y, trD m]
def Tr.dep : Tr → Nat
  | .say _ => 0
  | .ask _ _ _ _ y m => max y.dep m.dep + 1
def Tr.kn : Tr → Nat
  | .say _ => 0
  | .ask _ _ _ _ y m => y.kn + m.kn + 1
def Tr.nodes : Tr → Nat
  | .say _ => 1
  | .ask _ _ _ _ y m => y.nodes + m.nodes + 1
def TrOk (fs : List (Str × List Str)) (an : List Str) : Tr → Prop
  | .say a => a ∈ an
  | .ask k n v s y m => isQ fs (.tuple [.str k, .str n, .str v]) = true ∧ (s = "yes" ∨ s = "no") ∧ TrOk fs an y ∧ TrOk fs an m
theorem isQ_str {fs : List (Str × List Str)} {k n v : Str} (h : isQ fs (.tuple [.str k, .str n, .str v]) = true) : ∃ f ∈ fs, f.1 = n ∧ v ∈ f.2 ∧ (k = "is" ∨ (k = "upto" ∧ f.2.idxOf v + 1 < f.2.length)) := by
  obtain ⟨f, hf, hq⟩ := List.any_eq_true.mp (h : (fs.any fun f => isN (.str n) f && qOk f (.str k) (.str v)) = true)
  rw [Bool.and_eq_true] at hq
  have h2 : (decide (v ∈ f.2) && (decide (k = "is") || (decide (k = "upto") && decide (f.2.idxOf v + 1 < f.2.length)))) = true := hq.2
  simp only [Bool.and_eq_true, Bool.or_eq_true, decide_eq_true_eq] at h2
  exact ⟨f, hf, of_decide_eq_true hq.1, h2.1, h2.2⟩
theorem nm_yes : nmS "yes" = true := by decide +kernel
theorem nm_no : nmS "no" = true := by decide +kernel
theorem nm_say : nmS "say" = true := by decide +kernel
theorem nm_ask : nmS "ask" = true := by decide +kernel
theorem Tr.nodes_kn : ∀ t : Tr, t.nodes = 2 * t.kn + 1
  | .say _ => rfl
  | .ask _ _ _ _ y m => by
    show y.nodes + m.nodes + 1 = 2 * (y.kn + m.kn + 1) + 1
    have := nodes_kn y
    have := nodes_kn m
    omega
theorem Tr.kn_dep : ∀ t : Tr, t.kn < 2 ^ t.dep
  | .say _ => by show 0 < 2 ^ 0; decide
  | .ask _ _ _ _ y m => by
    have := kn_dep y
    have := kn_dep m
    show y.kn + m.kn + 1 < 2 ^ (max y.dep m.dep + 1)
    have h1 : 2 ^ y.dep ≤ 2 ^ (max y.dep m.dep) := Nat.pow_le_pow_right (by decide) (Nat.le_max_left ..)
    have h2 : 2 ^ m.dep ≤ 2 ^ (max y.dep m.dep) := Nat.pow_le_pow_right (by decide) (Nat.le_max_right ..)
    rw [Nat.pow_succ]
    omega
def sp__law_pop : SpT := fun ds Q => ds = [.dict []] ∧ ∀ n : Int, 0 ≤ n → n < 4096 → Q (.int n)
def sp__law_asks : SpT := fun ds Q => ∃ (fs : List (Str × List Str)) (an : List Str) (n : Int), ds = [frmD fs an, .int n] ∧ Form fs an ∧ 0 ≤ n ∧ ∀ k nm v, isQ fs (.tuple [.str k, .str nm, .str v]) = true → Q (.tuple [.str k, .str nm, .str v])
def sp__law_tree_lt (d : Nat) : SpT := fun ds Q => ∃ (fs : List (Str × List Str)) (an : List Str) (n : Nat), ds = [frmD fs an, .dict [], .int n] ∧ Form fs an ∧ n < d ∧ ∀ t, TrOk fs an t → t.dep ≤ n → Q (trD t)
def sp__law_tree : SpT := sp__law_tree_lt 7
theorem never__law_tree {ds : List D} {Q : D → Prop} (h : sp__law_tree_lt 0 ds Q) : False := by
  obtain ⟨_, _, _, _, _, h, _⟩ := h
  omega
theorem Tr.nodes_pos (t : Tr) : 1 ≤ t.nodes := by rw [t.nodes_kn]; omega
theorem seq_while {c : TTt} {tb u : STt} {DT : EndsT} {σ : List Sl} (P : Nat → List Sl → Prop) (n0 : Nat) (h0 : P n0 σ)
    (hs : ∀ n σ', P n σ' → ∃ b : Bool, (∀ q : Bool → Prop, q b → c σ' q) ∧ (if b = true then tb { DT with nx := fun σ2 => ∃ m, m < n ∧ P m σ2, ct := fun σ2 => ∃ m, m < n ∧ P m σ2, bk := u DT } σ' else u DT σ')) : sSeq (sWhile c tb) u DT σ :=
  ⟨P, ⟨n0, h0⟩, fun n σ' hp => let ⟨_, h1, h2⟩ := hs n σ' hp; h1 _ h2⟩
theorem last_or {α : Type} (ws : List α) : ws = [] ∨ ∃ us w, ws = us ++ [w] := by
  induction ws with
  | nil => exact .inl rfl
  | cons a ws ih =>
    rcases ih with rfl | ⟨us, w, rfl⟩
    · exact .inr ⟨[], a, rfl⟩
    · exact .inr ⟨a :: us, w, rfl⟩
theorem seq_pop {u : STt} {DT : EndsT} {σ : List Sl} {i : Nat} {g : GT} (ts : List D) (d : D) (h : σ[i]? = some (.own (ts ++ [d]))) (k : g d (σ.set i (.own ts)) (u DT)) : sSeq (sPop i g) u DT σ := ⟨ts, d, h, k⟩
theorem cut_front (ys : List Str) : cutD ys none (some (-1)) = ys.take (ys.length - 1) := by
  unfold cutD
  rw [HT.sIx_none, List.drop_zero, Nat.sub_zero]
  congr 1
  show (if (-1 : Int) < 0 then ((-1 : Int) + (ys.length : Int)).toNat else min (-1 : Int).toNat ys.length) = _
  rw [if_pos (by decide)]
  omega
theorem front_mem {ys : List Str} (hn : ys.Nodup) {z : Str} : z ∈ ys.take (ys.length - 1) ↔ z ∈ ys ∧ ys.idxOf z + 1 < ys.length := by
  constructor
  · intro h
    obtain ⟨i, hi⟩ := List.getElem?_of_mem h
    have hl := (List.getElem?_eq_some_iff.mp hi).1
    rw [List.length_take] at hl
    rw [List.getElem?_take, if_pos (by omega)] at hi
    have := idx_le hi
    exact ⟨List.mem_of_getElem? hi, by omega⟩
  · rintro ⟨h1, h2⟩
    have hz : ys.idxOf z < ys.length := List.idxOf_lt_length_iff.mpr h1
    refine List.mem_of_getElem? (i := ys.idxOf z) ?_
    rw [List.getElem?_take, if_pos (by omega), List.getElem?_eq_getElem hz, List.getElem_idxOf hz]
def asked (k : Str) (f : Str × List Str) : List Str := if k = "upto" then f.2.take (f.2.length - 1) else f.2
def sp_values_asked : SpT := fun ds Q => ∃ (k : Str) (f : Str × List Str), ds = [.str k, fldD f] ∧ f.2.length ≤ 5 ∧ Q (.tuple ((asked k f).map PyData.str))
theorem asked_mem {k : Str} {f : Str × List Str} {y : Str} (h : y ∈ asked k f) : y ∈ f.2 := by
  unfold asked at h
  split at h
  · exact List.mem_of_mem_take h
  · exact h
theorem asked_ok {f : Str × List Str} (hn : f.2.Nodup) {kk : Str} (hk : kk = "is" ∨ kk = "upto") (v : D) : isAns (asked kk f) v = qOk f (.str kk) v := by
  cases v with
  | str z =>
    show decide (z ∈ asked kk f) = (decide (z ∈ f.2) && (decide (kk = "is") || (decide (kk = "upto") && decide (f.2.idxOf z + 1 < f.2.length))))
    unfold asked
    rcases hk with rfl | rfl
    · have e1 : ¬ ("is" : Str) = "upto" := by decide +kernel
      rw [if_neg e1, decide_eq_true (rfl : ("is" : Str) = "is"), Bool.true_or, Bool.and_true]
    · have e1 : decide (("upto" : Str) = "is") = false := by decide +kernel
      rw [if_pos rfl, e1, decide_eq_true (rfl : ("upto" : Str) = "upto"), Bool.false_or, Bool.true_and, Bool.eq_iff_iff, Bool.and_eq_true, decide_eq_true_iff, decide_eq_true_iff, decide_eq_true_iff]
      exact front_mem hn
  | _ => rfl
theorem seq_extL {te : ET} {u : STt} {DT : EndsT} {σ : List Sl} {i : Nat} {ts us : List D} (ho : σ[i]? = some (.own ts)) (hz : ts.length + us.length ≤ 100000) (h : ∀ q : D → Prop, q (.list us) → te σ q) (k : u DT (σ.set i (.own (ts ++ us)))) : sSeq (sExtL i te) u DT σ := ⟨ts, ho, h _ ⟨us, rfl, hz, k⟩⟩
theorem one_extL {te : ET} {DT : EndsT} {σ : List Sl} {i : Nat} {ts us : List D} (ho : σ[i]? = some (.own ts)) (hz : ts.length + us.length ≤ 100000) (h : ∀ q : D → Prop, q (.list us) → te σ q) (k : DT.nx (σ.set i (.own (ts ++ us)))) : sExtL i te DT σ := ⟨ts, ho, h _ ⟨us, rfl, hz, k⟩⟩
def isSay : Tr → Bool
  | .say _ => true
  | .ask _ _ _ _ _ _ => false
def sp_is_leaf : SpT := fun ds Q => ∃ t : Tr, ds = [trD t] ∧ Q (.bool (isSay t))
def wordsT : Tr → List Str
  | .say a => ["say", a]
  | .ask k n v s y m => (["ask", n, k, v, s] : List Str) ++ (wordsT y ++ wordsT m)
def blank : Str := " "
def shownT (t : Tr) : Str := Txt.join blank (wordsT t)
theorem wordsT_len : ∀ t : Tr, (wordsT t).length = 7 * t.kn + 2
  | .say _ => rfl
  | .ask k n v s y m => by
    show ((["ask", n, k, v, s] : List Str) ++ (wordsT y ++ wordsT m)).length = 7 * (y.kn + m.kn + 1) + 2
    rw [List.length_append, List.length_append, wordsT_len y, wordsT_len m]
    show 5 + _ = _
    omega
theorem wordsT_nm {fs : List (Str × List Str)} {an : List Str} (F : Form fs an) : ∀ t : Tr, TrOk fs an t → ∀ w ∈ wordsT t, nmS w = true
  | .say a, h, w, hw => by
    rcases List.mem_cons.mp hw with rfl | hw
    · exact nm_say
    · rw [List.mem_singleton.mp hw]; exact F.an.2.1 a h
  | .ask k n v s y m, h, w, hw => by
    obtain ⟨hq, hs, hy, hm⟩ := h
    obtain ⟨f, hf, hfn, hv, hk⟩ := isQ_str hq
    rcases List.mem_append.mp hw with hw | hw
    · simp only [List.mem_cons, List.not_mem_nil, or_false] at hw
      rcases hw with rfl | rfl | rfl | rfl | rfl
      · exact nm_ask
      · rw [← hfn]; exact F.name hf
      · rcases hk with rfl | ⟨rfl, _⟩
        · exact nm_is
        · exact nm_upto
      · exact F.vals hf _ hv
      · rcases hs with rfl | rfl
        · exact nm_yes
        · exact nm_no
    · rcases List.mem_append.mp hw with hw | hw
      · exact wordsT_nm F y hy w hw
      · exact wordsT_nm F m hm w hw
theorem wordsT_cons : ∀ t : Tr, ∃ w ws, wordsT t = w :: ws
  | .say _ => ⟨_, _, rfl⟩
  | .ask _ _ _ _ _ _ => ⟨_, _, rfl⟩
theorem jn_app (c : Nat) : ∀ (x : List Nat) (xs : List (List Nat)) (y : List Nat) (ys : List (List Nat)), jn c ((x :: xs) ++ (y :: ys)) = jn c (x :: xs) ++ c :: jn c (y :: ys)
  | x, [], y, ys => rfl
  | x, z :: xs, y, ys => by
    show x ++ c :: jn c ((z :: xs) ++ (y :: ys)) = (x ++ c :: jn c (z :: xs)) ++ c :: jn c (y :: ys)
    rw [jn_app c z xs y ys, List.append_assoc]; rfl
theorem join_codes' (ws : List Str) : (Txt.join blank ws).cps.toList = jn 32 (ws.map (·.cps.toList)) := by
  show (Builtin.Str.glued blank ws).cps.toList = _
  rw [StrLaws.glued_eq_join]
  exact join_jn 32 ws
theorem shown_ask (k n v s : Str) (y m : Tr) : Txt.join blank ["ask", n, k, v, s, shownT y, shownT m] = shownT (.ask k n v s y m) := by
  apply ext_codes
  unfold shownT
  rw [join_codes', join_codes']
  obtain ⟨wy, wys, ey⟩ := wordsT_cons y
  obtain ⟨wm, wms, em⟩ := wordsT_cons m
  have e1 : (["ask", n, k, v, s, Txt.join blank (wordsT y), Txt.join blank (wordsT m)] : List Str).map (·.cps.toList) = ((["ask", n, k, v, s] : List Str).map (·.cps.toList)) ++ [jn 32 ((wordsT y).map (·.cps.toList)), jn 32 ((wordsT m).map (·.cps.toList))] := by
    rw [← join_codes', ← join_codes']; rfl
  have e2 : (wordsT (.ask k n v s y m)).map (·.cps.toList) = ((["ask", n, k, v, s] : List Str).map (·.cps.toList)) ++ ((wordsT y).map (·.cps.toList) ++ (wordsT m).map (·.cps.toList)) := by
    show ((["ask", n, k, v, s] : List Str) ++ (wordsT y ++ wordsT m)).map (·.cps.toList) = _
    rw [List.map_append, List.map_append]
  rw [e1, e2, ey, em, List.map_cons (l := [n, k, v, s]), List.map_cons (l := wys), List.map_cons (l := wms)]
  rw [jn_app 32 _ _ _ [jn 32 _], List.cons_append (as := wys.map _), jn_app 32 _ _ _ (wys.map _ ++ _), ← List.cons_append, jn_app 32]
  rfl
theorem nm_len {ws : List Str} (h : ∀ w ∈ ws, nmS w = true) : (ws.map (·.length)).sum ≤ 8 * ws.length := by
  induction ws with
  | nil => exact Nat.le_refl _
  | cons w ws ih =>
    have h1 := (nm_small (h w (List.mem_cons_self ..))).1
    have h2 := ih fun x hx => h x (List.mem_cons_of_mem _ hx)
    rw [List.map_cons, List.sum_cons, List.length_cons]
    omega
theorem join_len_le (ws : List Str) : (Txt.join blank ws).length ≤ (ws.map (·.length)).sum + ws.length := by
  show (Builtin.Str.glued blank ws).length ≤ _
  rw [StrLaws.glued_eq_join]
  have := StrLaws.join_length_le blank ws
  have e : blank.length = 1 := by decide +kernel
  rw [e, Nat.mul_one] at this
  exact this
theorem shown_len {fs : List (Str × List Str)} {an : List Str} (F : Form fs an) {t : Tr} (h : TrOk fs an t) : (shownT t).length ≤ 9 * (7 * t.kn + 2) := by
  have h1 := join_len_le (wordsT t)
  have h2 := nm_len (wordsT_nm F t h)
  rw [wordsT_len] at h1 h2
  unfold shownT
  omega
theorem split_shown {fs : List (Str × List Str)} {an : List Str} (F : Form fs an) {t : Tr} (h : TrOk fs an t) : Txt.split (shownT t) blank = wordsT t := by
  have hn := wordsT_nm F t h
  unfold shownT
  obtain ⟨w, ws, e⟩ := wordsT_cons t
  rw [e] at hn ⊢
  refine split_join 32 (by decide) w ws fun x hx hm => ?_
  have hl := (nmS_iff (hn x hx)).2.2 32 hm
  exact absurd hl (by decide +kernel)
def sp_shown_tree_lt (n : Nat) : SpT := fun ds Q => ∃ (fs : List (Str × List Str)) (an : List Str) (t : Tr), ds = [trD t] ∧ Form fs an ∧ TrOk fs an t ∧ t.kn ≤ 500 ∧ t.dep < n ∧ Q (.str (shownT t))
def sp_shown_tree : SpT := sp_shown_tree_lt 31
theorem never_shown_tree {ds : List D} {Q : D → Prop} (h : sp_shown_tree_lt 0 ds Q) : False := by
  obtain ⟨_, _, _, _, _, _, _, h, _⟩ := h
  omega
def sp_word_at : SpT := fun ds Q => ∃ (ws : List Str) (i : Nat) (w : Str) (R : List Str) (r : D), ds = [.list (ws.map PyData.str), .int i, r] ∧ ws[i]? = some w ∧ (r = .tuple (R.map PyData.str) ∨ r = .list (R.map PyData.str)) ∧ w ∈ R ∧ (∀ y ∈ R, nmS y = true) ∧ Q (.str w)
def sp_read_question : SpT := fun ds Q => ∃ (fs : List (Str × List Str)) (an : List Str) (ws : List Str) (i : Nat) (k n v : Str), ds = [frmD fs an, .list (ws.map PyData.str), .int i] ∧ Form fs an ∧ isQ fs (.tuple [.str k, .str n, .str v]) = true ∧ ws[i]? = some n ∧ ws[i + 1]? = some k ∧ ws[i + 2]? = some v ∧ Q (.tuple [.str k, .str n, .str v])
def sp_read_part_lt (N : Nat) : SpT := fun ds Q => ∃ (fs : List (Str × List Str)) (an : List Str) (pre post : List Str) (t : Tr) (w k : Nat), ds = [frmD fs an, .list ((pre ++ (wordsT t ++ post)).map PyData.str), .int pre.length, .int w, .int k] ∧ Form fs an ∧ TrOk fs an t ∧ w + t.dep ≤ 30 ∧ k + t.kn ≤ 500 ∧ t.dep < N ∧ Q (.tuple [trD t, .int ((pre.length + (wordsT t).length : Nat) : Int), .int ((k + t.kn : Nat) : Int)])
def sp_read_part : SpT := sp_read_part_lt 31
theorem never_read_part {ds : List D} {Q : D → Prop} (h : sp_read_part_lt 0 ds Q) : False := by
  obtain ⟨_, _, _, _, _, _, _, _, _, _, _, _, h, _⟩ := h
  omega
def sp_read_tree : SpT := fun ds Q => ∃ (fs : List (Str × List Str)) (an : List Str) (t : Tr), ds = [frmD fs an, .str (shownT t)] ∧ Form fs an ∧ TrOk fs an t ∧ t.dep ≤ 30 ∧ t.kn ≤ 500 ∧ Q (trD t)
def sp__law_words : SpT := fun ds Q => ∃ (fs : List (Str × List Str)) (an : List Str) (t : Tr), ds = [trD t] ∧ Form fs an ∧ TrOk fs an t ∧ t.kn ≤ 500 ∧ Q (.list ((wordsT t).map PyData.str))
def wW (ts : List Tr) : List Str := (ts.map wordsT).flatten
def getW (ws : List Str) (i : Nat) (R : List Str) : Except Nat Str := match ws[i]? with
  | some w => if w ∈ R then .ok w else .error i
  | none => .error i
def fldOf (fs : List (Str × List Str)) (n : Str) : Nat := (fs.map (·.1)).idxOf n
def fldAt (fs : List (Str × List Str)) (j : Nat) : Str × List Str := fs.getD j ("", [])
def rd (fs : List (Str × List Str)) (an : List Str) (ws : List Str) : Nat → Nat → Nat → Except Nat (Tr × Nat × Nat)
  | 0, i, _ => .error i
  | d + 1, i, k => match getW ws i ["say", "ask"] with
    | .error n => .error n
    | .ok w => if w = "say" then (match getW ws (i + 1) an with
        | .error n => .error n
        | .ok a => .ok (.say a, i + 2, k))
      else if d = 0 ∨ k = 500 then .error i
      else match getW ws (i + 1) (fs.map (·.1)) with
        | .error n => .error n
        | .ok n => match getW ws (i + 2) ["is", "upto"] with
          | .error n => .error n
          | .ok kk => match getW ws (i + 3) (asked kk (fldAt fs (fldOf fs n))) with
            | .error n => .error n
            | .ok v => match getW ws (i + 4) ["yes", "no"] with
              | .error n => .error n
              | .ok s => match rd fs an ws d (i + 5) (k + 1) with
                | .error n => .error n
                | .ok (y, i', k') => match rd fs an ws d i' k' with
                  | .error n => .error n
                  | .ok (m, i'', k'') => .ok (.ask kk n v s y m, i'', k'')
inductive Want where
  | tree (deep : Nat)
  | answer
  | field
  | kind
  | value
  | side
structure Mc where
  st : List Want
  kn : Nat
  fj : Nat
  kd : Str
def someOf (fs : List (Str × List Str)) (an : List Str) (m : Mc) : Want → List Str
  | .tree _ => []
  | .answer => an
  | .field => fs.map (·.1)
  | .kind => ["is", "upto"]
  | .value => asked m.kd (fldAt fs m.fj)
  | .side => ["yes", "no"]
def stepM (fs : List (Str × List Str)) (an : List Str) (w : Str) (i : Nat) (m : Mc) : Except Nat Mc := match m.st with
  | [] => .error i
  | .tree deep :: r => if w = "say" then .ok { m with st := .answer :: r } else if w ≠ "ask" ∨ deep = 30 ∨ m.kn = 500 then .error i
    else .ok { m with st := .field :: .kind :: .value :: .side :: .tree (deep + 1) :: .tree (deep + 1) :: r, kn := m.kn + 1 }
  | .field :: r => if w ∈ fs.map (·.1) then .ok { m with st := r, fj := fldOf fs w } else .error i
  | .kind :: r => if w ∈ (["is", "upto"] : List Str) then .ok { m with st := r, kd := w } else .error i
  | x :: r => if w ∈ someOf fs an m x then .ok { m with st := r } else .error i
def runM (fs : List (Str × List Str)) (an : List Str) : List Str → Nat → Mc → Option Nat
  | [], i, m => if m.st.isEmpty then none else some i
  | w :: us, i, m => match stepM fs an w i m with
    | .error n => some n
    | .ok m' => runM fs an us (i + 1) m'
section
variable {fs : List (Str × List Str)} {an ws : List Str}
theorem getW_ok {i : Nat} {R : List Str} {w : Str} (h : getW ws i R = .ok w) : w ∈ R ∧ ws.drop i = w :: ws.drop (i + 1) := by
  unfold getW at h
  split at h
  · rename_i x hx
    split at h
    · cases h
      rename_i hm
      obtain ⟨hl, e⟩ := List.getElem?_eq_some_iff.mp hx
      exact ⟨hm, by rw [List.drop_eq_getElem_cons hl, e]⟩
    · cases h
  · cases h
theorem getW_err {i n : Nat} {R : List Str} (h : getW ws i R = .error n) : n = i ∧ (ws.drop i = [] ∨ ∃ w, w ∉ R ∧ ws.drop i = w :: ws.drop (i + 1)) := by
  unfold getW at h
  split at h
  · rename_i x hx
    split at h
    · cases h
    · cases h
      rename_i hm
      obtain ⟨hl, e⟩ := List.getElem?_eq_some_iff.mp hx
      exact ⟨rfl, .inr ⟨x, hm, by rw [List.drop_eq_getElem_cons hl, e]⟩⟩
  · rename_i hx
    cases h
    exact ⟨rfl, .inl (List.drop_eq_nil_iff.mpr (List.getElem?_eq_none_iff.mp hx))⟩
/-- a word that must be one of these: the machine stops where the reader does -/
theorem run_bad {i n : Nat} {R : List Str} {m : Mc} (hne : m.st ≠ []) (hs : ∀ w, w ∉ R → stepM fs an w i m = .error i) (h : getW ws i R = .error n) : runM fs an (ws.drop i) i m = some n := by
  obtain ⟨rfl, h | ⟨w, hw, h⟩⟩ := getW_err h
  · rw [h]
    unfold runM
    rw [if_neg]
    intro z
    exact hne (List.isEmpty_iff.mp z)
  · rw [h]
    unfold runM
    rw [hs w hw]
theorem run_ok {i : Nat} {R : List Str} {m m' : Mc} {w : Str} (h : getW ws i R = .ok w) (hs : stepM fs an w i m = .ok m') : runM fs an (ws.drop i) i m = runM fs an (ws.drop (i + 1)) (i + 1) m' := by
  rw [(getW_ok h).2]
  conv => lhs; unfold runM
  rw [hs]
end
section
variable {fs : List (Str × List Str)} {an ws : List Str}
theorem say_ask {w : Str} (h : w ∈ (["say", "ask"] : List Str)) (hs : ¬ w = "say") : w = "ask" := by
  rcases List.mem_cons.mp h with h | h
  · exact absurd h hs
  · exact List.mem_singleton.mp h
theorem rd_run : ∀ (d i k : Nat) (r : List Want) (j : Nat) (kd : Str), (∀ n, rd fs an ws d i k = .error n → 1 ≤ d → d ≤ 31 → runM fs an (ws.drop i) i ⟨.tree (31 - d) :: r, k, j, kd⟩ = some n) ∧
    (∀ t i' k', rd fs an ws d i k = .ok (t, i', k') → d ≤ 31 → (∃ j' kd', runM fs an (ws.drop i) i ⟨.tree (31 - d) :: r, k, j, kd⟩ = runM fs an (ws.drop i') i' ⟨r, k', j', kd'⟩) ∧ ws.drop i = wordsT t ++ ws.drop i')
  | 0, i, k, r, j, kd => ⟨fun n _ h => by omega, fun t i' k' h => by cases h⟩
  | d + 1, i, k, r, j, kd => by
    have hd1 : d + 1 ≤ 31 → 31 - (d + 1) = 30 - d := fun h => by omega
    constructor
    · intro n h _ hd
      rw [hd1 hd]
      unfold rd at h
      cases hw : getW ws i ["say", "ask"] with
      | error n' =>
        rw [hw] at h
        cases h
        refine run_bad (fun z => by cases z) (fun w hw => ?_) hw
        have h1 : ¬ w = "say" := fun e => hw (by rw [e]; simp)
        have h2 : w ≠ "ask" := fun e => hw (by rw [e]; simp)
        show (if w = "say" then _ else if w ≠ "ask" ∨ _ then Except.error i else _) = _
        rw [if_neg h1, if_pos (.inl h2)]
      | ok w =>
        rw [hw] at h
        dsimp only at h
        by_cases hs : w = "say"
        · rw [if_pos hs] at h
          rw [run_ok hw (m' := ⟨.answer :: r, k, j, kd⟩) (by show (if w = "say" then _ else _) = _; rw [if_pos hs])]
          cases ha : getW ws (i + 1) an with
          | error n' =>
            rw [ha] at h
            cases h
            refine run_bad (fun z => by cases z) (fun w hw => ?_) ha
            show (if w ∈ an then _ else _) = _
            rw [if_neg hw]
          | ok a => rw [ha] at h; cases h
        · rw [if_neg hs] at h
          have hask := say_ask (getW_ok hw).1 hs
          by_cases hz : d = 0 ∨ k = 500
          · rw [if_pos hz] at h
            cases h
            rw [(getW_ok hw).2]
            unfold runM
            have : stepM fs an w i ⟨.tree (30 - d) :: r, k, j, kd⟩ = .error i := by
              show (if w = "say" then _ else if w ≠ "ask" ∨ 30 - d = 30 ∨ k = 500 then Except.error i else _) = _
              rw [if_neg hs, if_pos (.inr (hz.imp (fun e => by omega) id))]
            rw [this]
          · rw [if_neg hz] at h
            have hd0 : 1 ≤ d := by omega
            have hds : 31 - d = 30 - d + 1 := by omega
            rw [run_ok hw (m' := ⟨.field :: .kind :: .value :: .side :: .tree (31 - d) :: .tree (31 - d) :: r, k + 1, j, kd⟩) (by
              show (if w = "say" then _ else if w ≠ "ask" ∨ 30 - d = 30 ∨ k = 500 then _ else _) = _
              rw [if_neg hs, if_neg (fun z => by rcases z with z | z | z; exact z hask; omega; exact hz (.inr z)), hds])]
            cases h1 : getW ws (i + 1) (fs.map (·.1)) with
            | error n' =>
              rw [h1] at h
              cases h
              refine run_bad (fun z => by cases z) (fun w hw => ?_) h1
              show (if w ∈ fs.map (·.1) then _ else _) = _
              rw [if_neg hw]
            | ok nm =>
              rw [h1] at h
              dsimp only at h
              rw [run_ok h1 (m' := ⟨.kind :: .value :: .side :: .tree (31 - d) :: .tree (31 - d) :: r, k + 1, fldOf fs nm, kd⟩) (by show (if nm ∈ fs.map (·.1) then _ else _) = _; rw [if_pos (getW_ok h1).1])]
              cases h2 : getW ws (i + 2) ["is", "upto"] with
              | error n' =>
                rw [h2] at h
                cases h
                refine run_bad (fun z => by cases z) (fun w hw => ?_) h2
                show (if w ∈ (["is", "upto"] : List Str) then _ else _) = _
                rw [if_neg hw]
              | ok kk =>
                rw [h2] at h
                dsimp only at h
                rw [run_ok h2 (m' := ⟨.value :: .side :: .tree (31 - d) :: .tree (31 - d) :: r, k + 1, fldOf fs nm, kk⟩) (by show (if kk ∈ (["is", "upto"] : List Str) then _ else _) = _; rw [if_pos (getW_ok h2).1])]
                cases h3 : getW ws (i + 3) (asked kk (fldAt fs (fldOf fs nm))) with
                | error n' =>
                  rw [h3] at h
                  cases h
                  refine run_bad (fun z => by cases z) (fun w hw => ?_) h3
                  show (if w ∈ asked kk (fldAt fs (fldOf fs nm)) then _ else _) = _
                  rw [if_neg hw]
                | ok v =>
                  rw [h3] at h
                  dsimp only at h
                  rw [run_ok h3 (m' := ⟨.side :: .tree (31 - d) :: .tree (31 - d) :: r, k + 1, fldOf fs nm, kk⟩) (by show (if v ∈ asked kk (fldAt fs (fldOf fs nm)) then _ else _) = _; rw [if_pos (getW_ok h3).1])]
                  cases h4 : getW ws (i + 4) ["yes", "no"] with
                  | error n' =>
                    rw [h4] at h
                    cases h
                    refine run_bad (fun z => by cases z) (fun w hw => ?_) h4
                    show (if w ∈ (["yes", "no"] : List Str) then _ else _) = _
                    rw [if_neg hw]
                  | ok s =>
                    rw [h4] at h
                    dsimp only at h
                    rw [run_ok h4 (m' := ⟨.tree (31 - d) :: .tree (31 - d) :: r, k + 1, fldOf fs nm, kk⟩) (by show (if s ∈ (["yes", "no"] : List Str) then _ else _) = _; rw [if_pos (getW_ok h4).1])]
                    obtain ⟨e1, o1⟩ := rd_run d (i + 5) (k + 1) (.tree (31 - d) :: r) (fldOf fs nm) kk
                    cases hy : rd fs an ws d (i + 5) (k + 1) with
                    | error n' =>
                      rw [hy] at h
                      cases h
                      exact e1 _ hy hd0 (by omega)
                    | ok p =>
                      obtain ⟨y, i', k'⟩ := p
                      rw [hy] at h
                      dsimp only at h
                      obtain ⟨⟨j', kd', er⟩, _⟩ := o1 y i' k' hy (by omega)
                      rw [er]
                      obtain ⟨e2, _⟩ := rd_run d i' k' r j' kd'
                      cases hm : rd fs an ws d i' k' with
                      | error n' =>
                        rw [hm] at h
                        cases h
                        exact e2 _ hm hd0 (by omega)
                      | ok q => rw [hm] at h; cases h
    · intro t i2 k2 h hd
      rw [hd1 hd]
      unfold rd at h
      cases hw : getW ws i ["say", "ask"] with
      | error n' => rw [hw] at h; cases h
      | ok w =>
        rw [hw] at h
        dsimp only at h
        by_cases hs : w = "say"
        · rw [if_pos hs] at h
          rw [run_ok hw (m' := ⟨.answer :: r, k, j, kd⟩) (by show (if w = "say" then _ else _) = _; rw [if_pos hs])]
          cases ha : getW ws (i + 1) an with
          | error n' => rw [ha] at h; cases h
          | ok a =>
            rw [ha] at h
            cases h
            refine ⟨⟨j, kd, run_ok ha (by show (if a ∈ an then _ else _) = _; rw [if_pos (getW_ok ha).1])⟩, ?_⟩
            rw [(getW_ok hw).2, (getW_ok ha).2, hs]; rfl
        · rw [if_neg hs] at h
          have hask := say_ask (getW_ok hw).1 hs
          by_cases hz : d = 0 ∨ k = 500
          · rw [if_pos hz] at h; cases h
          · rw [if_neg hz] at h
            have hd0 : 1 ≤ d := by omega
            have hds : 31 - d = 30 - d + 1 := by omega
            rw [run_ok hw (m' := ⟨.field :: .kind :: .value :: .side :: .tree (31 - d) :: .tree (31 - d) :: r, k + 1, j, kd⟩) (by
              show (if w = "say" then _ else if w ≠ "ask" ∨ 30 - d = 30 ∨ k = 500 then _ else _) = _
              rw [if_neg hs, if_neg (fun z => by rcases z with z | z | z; exact z hask; omega; exact hz (.inr z)), hds])]
            cases h1 : getW ws (i + 1) (fs.map (·.1)) with
            | error n' => rw [h1] at h; cases h
            | ok nm =>
              rw [h1] at h
              dsimp only at h
              rw [run_ok h1 (m' := ⟨.kind :: .value :: .side :: .tree (31 - d) :: .tree (31 - d) :: r, k + 1, fldOf fs nm, kd⟩) (by show (if nm ∈ fs.map (·.1) then _ else _) = _; rw [if_pos (getW_ok h1).1])]
              cases h2 : getW ws (i + 2) ["is", "upto"] with
              | error n' => rw [h2] at h; cases h
              | ok kk =>
                rw [h2] at h
                dsimp only at h
                rw [run_ok h2 (m' := ⟨.value :: .side :: .tree (31 - d) :: .tree (31 - d) :: r, k + 1, fldOf fs nm, kk⟩) (by show (if kk ∈ (["is", "upto"] : List Str) then _ else _) = _; rw [if_pos (getW_ok h2).1])]
                cases h3 : getW ws (i + 3) (asked kk (fldAt fs (fldOf fs nm))) with
                | error n' => rw [h3] at h; cases h
                | ok v =>
                  rw [h3] at h
                  dsimp only at h
                  rw [run_ok h3 (m' := ⟨.side :: .tree (31 - d) :: .tree (31 - d) :: r, k + 1, fldOf fs nm, kk⟩) (by show (if v ∈ asked kk (fldAt fs (fldOf fs nm)) then _ else _) = _; rw [if_pos (getW_ok h3).1])]
                  cases h4 : getW ws (i + 4) ["yes", "no"] with
                  | error n' => rw [h4] at h; cases h
                  | ok s =>
                    rw [h4] at h
                    dsimp only at h
                    rw [run_ok h4 (m' := ⟨.tree (31 - d) :: .tree (31 - d) :: r, k + 1, fldOf fs nm, kk⟩) (by show (if s ∈ (["yes", "no"] : List Str) then _ else _) = _; rw [if_pos (getW_ok h4).1])]
                    obtain ⟨_, o1⟩ := rd_run d (i + 5) (k + 1) (.tree (31 - d) :: r) (fldOf fs nm) kk
                    cases hy : rd fs an ws d (i + 5) (k + 1) with
                    | error n' => rw [hy] at h; cases h
                    | ok p =>
                      obtain ⟨y, i', k'⟩ := p
                      rw [hy] at h
                      dsimp only at h
                      obtain ⟨⟨j', kd', er⟩, w1⟩ := o1 y i' k' hy (by omega)
                      rw [er]
                      obtain ⟨_, o2⟩ := rd_run d i' k' r j' kd'
                      cases hm : rd fs an ws d i' k' with
                      | error n' => rw [hm] at h; cases h
                      | ok q =>
                        obtain ⟨m, i3, k3⟩ := q
                        rw [hm] at h
                        cases h
                        obtain ⟨⟨j2, kd2, er2⟩, w2⟩ := o2 _ _ _ hm (by omega)
                        refine ⟨⟨j2, kd2, er2⟩, ?_⟩
                        rw [(getW_ok hw).2, (getW_ok h1).2, (getW_ok h2).2, (getW_ok h3).2, (getW_ok h4).2, w1, w2, hask]
                        show _ = (["ask", nm, kk, v, s] : List Str) ++ (wordsT y ++ wordsT m) ++ _
                        simp
end
section
variable {fs : List (Str × List Str)} {an ws : List Str}
theorem fldAt_mem {n : Str} (h : n ∈ fs.map (·.1)) : fldAt fs (fldOf fs n) ∈ fs ∧ (fldAt fs (fldOf fs n)).1 = n := by
  have hi : (fs.map (·.1)).idxOf n < (fs.map (·.1)).length := List.idxOf_lt_length_iff.mpr h
  have hi2 : fldOf fs n < fs.length := by rw [List.length_map] at hi; exact hi
  have e : fldAt fs (fldOf fs n) = fs[fldOf fs n] := by
    unfold fldAt
    rw [List.getD_eq_getElem?_getD, List.getElem?_eq_getElem hi2]; rfl
  rw [e]
  refine ⟨List.getElem_mem hi2, ?_⟩
  have := List.getElem_idxOf hi
  rw [List.getElem_map] at this
  exact this
theorem isQ_read {n kk v : Str} (h1 : n ∈ fs.map (·.1)) (h2 : kk ∈ (["is", "upto"] : List Str)) (h3 : v ∈ asked kk (fldAt fs (fldOf fs n))) : isQ fs (.tuple [.str kk, .str n, .str v]) = true := by
  obtain ⟨hf, he⟩ := fldAt_mem h1
  generalize fldAt fs (fldOf fs n) = f at hf he h3
  subst he
  refine isQ_mk hf ?_
  have hv := asked_mem h3
  show (decide (v ∈ f.2) && (decide (kk = "is") || (decide (kk = "upto") && decide (f.2.idxOf v + 1 < f.2.length)))) = true
  rw [decide_eq_true hv, Bool.true_and]
  rcases List.mem_cons.mp h2 with e | e
  · rw [decide_eq_true e]; rfl
  · have e' := List.mem_singleton.mp e
    unfold asked at h3
    rw [if_pos e'] at h3
    obtain ⟨j, hj⟩ := List.getElem?_of_mem h3
    have hjl := (List.getElem?_eq_some_iff.mp hj).1
    rw [List.length_take] at hjl
    rw [List.getElem?_take_of_lt (by omega)] at hj
    have := idx_le hj
    rw [decide_eq_true e', decide_eq_true (show f.2.idxOf v + 1 < f.2.length by omega)]
    simp
theorem rd_good : ∀ (d i k : Nat) (t : Tr) (i' k' : Nat), rd fs an ws d i k = .ok (t, i', k') → k ≤ 500 → TrOk fs an t ∧ t.dep < d ∧ k' = k + t.kn ∧ k' ≤ 500 ∧ i' = i + (wordsT t).length
  | 0, i, k, t, i', k', h, _ => by cases h
  | d + 1, i, k, t, i2, k2, h, hk => by
    unfold rd at h
    cases hw : getW ws i ["say", "ask"] with
    | error n' => rw [hw] at h; cases h
    | ok w =>
      rw [hw] at h
      dsimp only at h
      by_cases hs : w = "say"
      · rw [if_pos hs] at h
        cases ha : getW ws (i + 1) an with
        | error n' => rw [ha] at h; cases h
        | ok a =>
          rw [ha] at h
          cases h
          exact ⟨(getW_ok ha).1, Nat.succ_pos _, rfl, hk, rfl⟩
      · rw [if_neg hs] at h
        by_cases hz : d = 0 ∨ k = 500
        · rw [if_pos hz] at h; cases h
        · rw [if_neg hz] at h
          cases h1 : getW ws (i + 1) (fs.map (·.1)) with
          | error n' => rw [h1] at h; cases h
          | ok nm =>
            rw [h1] at h
            dsimp only at h
            cases h2 : getW ws (i + 2) ["is", "upto"] with
            | error n' => rw [h2] at h; cases h
            | ok kk =>
              rw [h2] at h
              dsimp only at h
              cases h3 : getW ws (i + 3) (asked kk (fldAt fs (fldOf fs nm))) with
              | error n' => rw [h3] at h; cases h
              | ok v =>
                rw [h3] at h
                dsimp only at h
                cases h4 : getW ws (i + 4) ["yes", "no"] with
                | error n' => rw [h4] at h; cases h
                | ok s =>
                  rw [h4] at h
                  dsimp only at h
                  cases hy : rd fs an ws d (i + 5) (k + 1) with
                  | error n' => rw [hy] at h; cases h
                  | ok p =>
                    obtain ⟨y, i', k'⟩ := p
                    rw [hy] at h
                    dsimp only at h
                    cases hm : rd fs an ws d i' k' with
                    | error n' => rw [hm] at h; cases h
                    | ok q =>
                      obtain ⟨m, i3, k3⟩ := q
                      rw [hm] at h
                      cases h
                      obtain ⟨a1, a2, a3, a4, a5⟩ := rd_good d _ _ _ _ _ hy (by omega)
                      obtain ⟨b1, b2, b3, b4, b5⟩ := rd_good d _ _ _ _ _ hm a4
                      have hs2 : s = "yes" ∨ s = "no" := by
                        rcases List.mem_cons.mp (getW_ok h4).1 with e | e
                        · exact .inl e
                        · exact .inr (List.mem_singleton.mp e)
                      refine ⟨⟨isQ_read (getW_ok h1).1 (getW_ok h2).1 (getW_ok h3).1, hs2, a1, b1⟩, ?_, ?_, b4, ?_⟩
                      · show max y.dep m.dep + 1 < d + 1
                        omega
                      · show _ = k + (y.kn + m.kn + 1)
                        omega
                      · show _ = i + ((["ask", nm, kk, v, s] : List Str) ++ (wordsT y ++ wordsT m)).length
                        rw [List.length_append, List.length_append]
                        show _ = i + (5 + _)
                        omega
/-- what the machine tells of all the words -/
def wrongW (fs : List (Str × List Str)) (an ws : List Str) : Option Nat := runM fs an ws 0 ⟨[.tree 0], 0, 0, ""⟩
theorem wrong_err {n : Nat} (h : rd fs an ws 31 0 0 = .error n) : wrongW fs an ws = some n := (rd_run 31 0 0 [] 0 "").1 n h (by decide) (by decide)
theorem wrong_ok {t : Tr} {i k : Nat} (h : rd fs an ws 31 0 0 = .ok (t, i, k)) : wrongW fs an ws = (if i < ws.length then some i else none) ∧ ws = wordsT t ++ ws.drop i := by
  obtain ⟨⟨j, kd, e⟩, w⟩ := (rd_run 31 0 0 [] 0 "").2 t i k h (by decide)
  refine ⟨?_, w⟩
  show runM fs an (ws.drop 0) 0 ⟨.tree (31 - 31) :: [], 0, 0, ""⟩ = _
  rw [e]
  by_cases hi : i < ws.length
  · rw [if_pos hi, List.drop_eq_getElem_cons hi]
    rfl
  · rw [if_neg hi, List.drop_eq_nil_iff.mpr (by omega)]
    rfl
end
theorem words_of : ∀ l : List Nat, ∃ (p : List Nat) (r : List (List Nat)), (∀ x ∈ p :: r, 32 ∉ x) ∧ l = jn 32 (p :: r)
  | [] => ⟨[], [], fun x hx => by rw [List.mem_singleton.mp hx]; simp, rfl⟩
  | c :: l => by
    obtain ⟨p, r, hn, e⟩ := words_of l
    by_cases hc : c = 32
    · refine ⟨[], p :: r, fun x hx => ?_, ?_⟩
      · rcases List.mem_cons.mp hx with rfl | hx
        · simp
        · exact hn x hx
      · show c :: l = [] ++ 32 :: jn 32 (p :: r)
        rw [hc, e]; rfl
    · refine ⟨c :: p, r, fun x hx => ?_, ?_⟩
      · rcases List.mem_cons.mp hx with rfl | hx
        · intro z
          rcases List.mem_cons.mp z with z | z
          · exact hc z.symm
          · exact hn p (List.mem_cons_self ..) z
        · exact hn x (List.mem_cons_of_mem _ hx)
      · rw [e]
        cases r with
        | nil => rfl
        | cons q r => rfl
theorem split_any (z : Str) : ∃ (w : Str) (ws : List Str), (∀ x ∈ w :: ws, 32 ∉ x.cps.toList) ∧ z = Txt.join blank (w :: ws) ∧ Txt.split z blank = w :: ws := by
  obtain ⟨p, r, hn, e⟩ := words_of z.cps.toList
  have hn2 : ∀ x ∈ (⟨p.toArray⟩ : Str) :: r.map (fun l => (⟨l.toArray⟩ : Str)), 32 ∉ x.cps.toList := fun x hx => by
    rcases List.mem_cons.mp hx with rfl | hx
    · exact hn p (List.mem_cons_self ..)
    · obtain ⟨l, hl, rfl⟩ := List.mem_map.mp hx
      exact hn l (List.mem_cons_of_mem _ hl)
  have ez : z = Txt.join blank ((⟨p.toArray⟩ : Str) :: r.map fun l => (⟨l.toArray⟩ : Str)) := by
    apply ext_codes
    rw [join_codes', e]
    congr 1
    rw [List.map_cons, List.map_map]
    congr 1
    exact (List.map_id _).symm
  refine ⟨_, _, hn2, ez, ?_⟩
  rw [ez]
  exact split_join 32 (by decide) _ _ hn2
theorem join_split (z : Str) : Txt.join blank (Txt.split z blank) = z := by
  obtain ⟨w, ws, _, h1, h2⟩ := split_any z
  rw [h2, ← h1]
def noText (A : Adr) (n : Nat) : D := .dict [(.int (A.c_NoText : Nat), .int n)]
def CdW (ws : List Str) : Prop := ∀ w ∈ ws, Cd (.str w)
def sp_word_atX (A : Adr) : SpT := fun ds ED => ∃ (ws : List Str) (i n : Nat) (R : List Str) (r : D), ds = [.list (ws.map PyData.str), .int i, r] ∧ (r = .tuple (R.map PyData.str) ∨ r = .list (R.map PyData.str)) ∧ (∀ y ∈ R, nmS y = true) ∧ CdW ws ∧ getW ws i R = .error n ∧ ED (noText A n)
/-- the reader's question from the word i on -/
def rdQ (fs : List (Str × List Str)) (ws : List Str) (i : Nat) : Except Nat (Str × Str × Str) := match getW ws i (fs.map (·.1)) with
  | .error n => .error n
  | .ok n => match getW ws (i + 1) ["is", "upto"] with
    | .error n => .error n
    | .ok kk => match getW ws (i + 2) (asked kk (fldAt fs (fldOf fs n))) with
      | .error n => .error n
      | .ok v => .ok (kk, n, v)
def sp_read_questionX (A : Adr) : SpT := fun ds ED => ∃ (fs : List (Str × List Str)) (an : List Str) (ws : List Str) (i n : Nat), ds = [frmD fs an, .list (ws.map PyData.str), .int i] ∧ Form fs an ∧ CdW ws ∧ rdQ fs ws i = .error n ∧ ED (noText A n)
def sp_read_partX_lt (A : Adr) (d : Nat) : SpT := fun ds ED => ∃ (fs : List (Str × List Str)) (an : List Str) (ws : List Str) (i w k n : Nat), ds = [frmD fs an, .list (ws.map PyData.str), .int i, .int w, .int k] ∧ Form fs an ∧ CdW ws ∧ w + d = 31 ∧ k ≤ 500 ∧ d ≠ 0 ∧ rd fs an ws d i k = .error n ∧ ED (noText A n)
def sp_read_partX (A : Adr) : SpT := sp_read_partX_lt A 31
theorem never_read_partX {A : Adr} {ds : List D} {Q : D → Prop} (h : sp_read_partX_lt A 0 ds Q) : False := by
  obtain ⟨_, _, _, _, _, _, _, _, _, _, _, _, h, _⟩ := h
  exact h rfl
def sp_read_treeX (A : Adr) : SpT := fun ds ED => ∃ (fs : List (Str × List Str)) (an : List Str) (z : Str) (n : Nat), ds = [frmD fs an, .str z] ∧ Form fs an ∧ CdW (Txt.split z blank) ∧ z.length ≤ 90000 ∧ (rd fs an (Txt.split z blank) 31 0 0 = .error n ∨ ∃ t k, rd fs an (Txt.split z blank) 31 0 0 = .ok (t, n, k) ∧ n < (Txt.split z blank).length) ∧ ED (noText A n)
theorem getW_at {ws : List Str} {i : Nat} {R : List Str} {w : Str} (h : getW ws i R = .ok w) : ws[i]? = some w ∧ w ∈ R := by
  obtain ⟨h1, h2⟩ := getW_ok h
  have := congrArg List.head? h2
  rw [List.head?_drop] at this
  exact ⟨this, h1⟩
theorem fld_ix {fs : List (Str × List Str)} {an : List Str} (F : Form fs an) {n : Str} (h : n ∈ fs.map (·.1)) : okIx ((fs.map (·.1)).map PyData.str) (.str n) (fldOf fs n) ∧ L2.atI (fs.map fldD) ((fldOf fs n : Nat) : Int) = some (fldD (fldAt fs (fldOf fs n))) ∧ fldOf fs n < fs.length := by
  have hi : (fs.map (·.1)).idxOf n < (fs.map (·.1)).length := List.idxOf_lt_length_iff.mpr h
  have hi2 : fldOf fs n < fs.length := by rw [List.length_map] at hi; exact hi
  have e : fldAt fs (fldOf fs n) = fs[fldOf fs n] := by
    unfold fldAt
    rw [List.getD_eq_getElem?_getD, List.getElem?_eq_getElem hi2]; rfl
  refine ⟨okIx_strs F.nd.2.1 h, L2.atI_nat ?_, hi2⟩
  rw [List.getElem?_map, List.getElem?_eq_getElem hi2, e]; rfl
theorem rdQ_of {fs : List (Str × List Str)} {ws : List Str} {i : Nat} {nm kk v : Str} (h1 : getW ws i (fs.map (·.1)) = .ok nm) (h2 : getW ws (i + 1) ["is", "upto"] = .ok kk) (h3 : getW ws (i + 2) (asked kk (fldAt fs (fldOf fs nm))) = .ok v) : isQ fs (.tuple [.str kk, .str nm, .str v]) = true ∧ ws[i]? = some nm ∧ ws[i + 1]? = some kk ∧ ws[i + 2]? = some v :=
  ⟨isQ_read (getW_ok h1).1 (getW_ok h2).1 (getW_ok h3).1, (getW_at h1).1, (getW_at h2).1, (getW_at h3).1⟩
theorem rd_pre {fs : List (Str × List Str)} {an ws : List Str} {d i k : Nat} {t : Tr} {i' k' : Nat} (h : rd fs an ws d i k = .ok (t, i', k')) (hd : d ≤ 31) (hk : k ≤ 500) : ∃ pre post, ws = pre ++ (wordsT t ++ post) ∧ pre.length = i ∧ TrOk fs an t ∧ t.dep < d ∧ k' = k + t.kn ∧ k' ≤ 500 ∧ i' = i + (wordsT t).length := by
  have w := ((rd_run d i k [] 0 "").2 t i' k' h hd).2
  refine ⟨ws.take i, ws.drop i', ?_, ?_, rd_good d i k t i' k' h hk⟩
  · rw [← w, List.take_append_drop]
  · have : 0 < (ws.drop i).length := by rw [w, List.length_append, wordsT_len]; omega
    rw [List.length_drop] at this
    rw [List.length_take]; omega
def sortS : Want → Str
  | .tree _ => "tree"
  | .answer => "answer"
  | .field => "field"
  | .kind => "kind"
  | .value => "value"
  | .side => "side"
def wantD : Want → D
  | .tree d => .tuple [.str "tree", .int (d : Int)]
  | x => .tuple [.str (sortS x), .int 0]
def someD (fs : List (Str × List Str)) (an : List Str) (m : Mc) : Want → D
  | .tree _ => .none
  | .answer => .tuple (an.map PyData.str)
  | .field => .list ((fs.map (·.1)).map PyData.str)
  | .kind => .list [.str "is", .str "upto"]
  | .value => .tuple ((asked m.kd (fldAt fs m.fj)).map PyData.str)
  | .side => .list [.str "yes", .str "no"]
def sp__law_some_of : SpT := fun ds Q => ∃ (fs : List (Str × List Str)) (an : List Str) (m : Mc) (x : Want), ds = [frmD fs an, .str (sortS x), .int (m.fj : Int), .str m.kd] ∧ Form fs an ∧ m.fj < fs.length ∧ (∀ d, x ≠ .tree d) ∧ Q (someD fs an m x)
def wrD : Option Nat → D
  | none => .none
  | some n => .int (n : Int)
def sp__law_wrong : SpT := fun ds Q => ∃ (fs : List (Str × List Str)) (an ws : List Str), ds = [frmD fs an, .list (ws.map PyData.str)] ∧ Form fs an ∧ CdW ws ∧ ws.length ≤ 10000 ∧ Q (wrD (wrongW fs an ws))
def dpW : Want → Nat
  | .tree d => d
  | _ => 0
theorem want_tup (x : Want) : wantD x = .tuple [.str (sortS x), .int (dpW x : Nat)] := by cases x <;> rfl
theorem want_snoc (x : Want) (r : List Want) : (x :: r).reverse.map wantD = r.reverse.map wantD ++ [wantD x] := by rw [List.reverse_cons, List.map_append]; rfl
theorem want_eq (l : List D) (a : D) : PyData.eqv (.list (l ++ [a])) (.list []) = false := by cases l <;> rfl
theorem sort_ok (x : Want) : PyData.strOk (sortS x) = true := by
  cases x with
  | tree d => show PyData.strOk "tree" = true; decide +kernel
  | _ => decide +kernel
theorem want_lay : ∀ l : List Want, PyData.canLayAll0 (l.map wantD) = true
  | [] => rfl
  | x :: l => by
    show ((wantD x).canLay0 && PyData.canLayAll0 (l.map wantD)) = true
    rw [want_lay l, want_tup]
    show ((PyData.strOk (sortS x) && true) && true) = true
    rw [sort_ok]; rfl
theorem want_ok (l : List Want) : okEq (.list (l.map wantD)) (.list []) := ⟨want_lay l, rfl, Nat.le_trans (Nat.min_le_right _ _) (by decide)⟩
theorem run_cons {fs : List (Str × List Str)} {an us : List Str} {w : Str} {i : Nat} {m m' : Mc} (h : stepM fs an w i m = .ok m') : runM fs an (w :: us) i m = runM fs an us (i + 1) m' := by
  conv => lhs; unfold runM
  rw [h]
theorem run_stop {fs : List (Str × List Str)} {an us : List Str} {w : Str} {i n : Nat} {m : Mc} (h : stepM fs an w i m = .error n) : runM fs an (w :: us) i m = some n := by
  unfold runM
  rw [h]
theorem some_in {fs : List (Str × List Str)} {an : List Str} (F : Form fs an) {m : Mc} {x : Want} {w : Str} (hj : m.fj < fs.length) (hx : ∀ d, x ≠ .tree d) (hw : Cd (.str w)) : okIn (.str w) (someD fs an m x) ∧ inD (.str w) (someD fs an m x) = decide (w ∈ someOf fs an m x) := by
  have key : ∀ R : List Str, (∀ y ∈ R, nmS y = true) → (okIn (.str w) (.tuple (R.map PyData.str)) ∧ inD (.str w) (.tuple (R.map PyData.str)) = decide (w ∈ R)) ∧ (okIn (.str w) (.list (R.map PyData.str)) ∧ inD (.str w) (.list (R.map PyData.str)) = decide (w ∈ R)) := fun R hR => by
    have b := ok_strs hR hw
    have e : ((R.map PyData.str).any fun z => PyData.eqv z (.str w)) = decide (w ∈ R) := any_strs (.str w) R
    exact ⟨⟨b, e⟩, ⟨b, e⟩⟩
  cases x with
  | tree d => exact absurd rfl (hx d)
  | answer => exact (key an F.an.2.1).1
  | field => exact (key (fs.map (·.1)) F.nd.2.1).2
  | kind => exact (key ["is", "upto"] fun y hy => by
      rcases List.mem_cons.mp hy with rfl | hy
      · exact nm_is
      · rw [List.mem_singleton.mp hy]; exact nm_upto).2
  | value =>
    have hfm : fldAt fs m.fj ∈ fs := by
      unfold fldAt
      rw [List.getD_eq_getElem?_getD, List.getElem?_eq_getElem hj]
      exact List.getElem_mem hj
    exact (key (asked m.kd (fldAt fs m.fj)) fun y hy => F.vals hfm y (asked_mem hy)).1
  | side => exact (key ["yes", "no"] fun y hy => by
      rcases List.mem_cons.mp hy with rfl | hy
      · exact nm_yes
      · rw [List.mem_singleton.mp hy]; exact nm_no).2
def Wd (l : Nat) (w : Str) : Prop := w.length ≤ l ∧ ∀ c ∈ w.cps.toList, c < 1000
def Nm (w : Str) : Prop := nmS w = true
def WL (p : Str → Prop) (n : Nat) (xs : List D) : Prop := ∃ vs : List Str, xs = vs.map PyData.str ∧ vs.length ≤ n ∧ ∀ w ∈ vs, p w
theorem WL.len {p : Str → Prop} {n : Nat} {xs : List D} (h : WL p n xs) : xs.length ≤ n := by
  obtain ⟨vs, rfl, hl, _⟩ := h
  rw [List.length_map]; exact hl
theorem WL.app {p : Str → Prop} {n m : Nat} {xs ys : List D} (h : WL p n xs) (k : WL p m ys) : WL p (n + m) (xs ++ ys) := by
  obtain ⟨vs, rfl, hl, hp⟩ := h
  obtain ⟨us, rfl, kl, kp⟩ := k
  refine ⟨vs ++ us, by rw [List.map_append], by rw [List.length_append]; omega, fun w hw => ?_⟩
  rcases List.mem_append.mp hw with z | z
  · exact hp w z
  · exact kp w z
theorem WL.le {p q : Str → Prop} {n m : Nat} {xs : List D} (h : WL p n xs) (hn : n ≤ m) (hp : ∀ w, p w → q w) : WL q m xs := by
  obtain ⟨vs, e, hl, h⟩ := h
  exact ⟨vs, e, Nat.le_trans hl hn, fun w hw => hp w (h w hw)⟩
theorem WL.nil {p : Str → Prop} : WL p 0 [] := ⟨[], rfl, Nat.le_refl _, fun w hw => by simp at hw⟩
theorem WL.cons {p : Str → Prop} {n : Nat} {w : Str} {xs : List D} (h : p w) (k : WL p n xs) : WL p (n + 1) (.str w :: xs) := by
  obtain ⟨vs, rfl, hl, hp⟩ := k
  refine ⟨w :: vs, rfl, by rw [List.length_cons]; omega, fun x hx => ?_⟩
  rcases List.mem_cons.mp hx with rfl | hx
  · exact h
  · exact hp x hx
theorem WL.one {p : Str → Prop} {w : Str} (h : p w) : WL p 1 [.str w] := WL.cons h WL.nil
theorem WL.take {p : Str → Prop} {n : Nat} {xs : List D} (h : WL p n xs) (j : Nat) : WL p j (cutD xs none (some (j : Int))) := by
  obtain ⟨vs, rfl, hl, hp⟩ := h
  rw [cut_ns]
  exact ⟨vs.take j, by rw [List.map_take], by rw [List.length_take]; omega, fun w hw => hp w (List.mem_of_mem_take hw)⟩
theorem WL.drop {p : Str → Prop} {n : Nat} {xs : List D} (h : WL p n xs) (j : Nat) : WL p (n - j) (cutD xs (some (j : Int)) none) := by
  obtain ⟨vs, rfl, hl, hp⟩ := h
  rw [cut_sn]
  exact ⟨vs.drop j, by rw [List.map_drop], by rw [List.length_drop]; omega, fun w hw => hp w (List.mem_of_mem_drop hw)⟩
theorem WL.item {p : Str → Prop} {n : Nat} {xs : List D} (h : WL p n xs) {i : Int} (h0 : 0 ≤ i) (h1 : i < xs.length) : ∃ w, L2.atI xs i = some (.str w) ∧ p w := by
  obtain ⟨vs, rfl, hl, hp⟩ := h
  obtain ⟨a, hm, ha, _⟩ := atI_in (xs := vs.map PyData.str) (i := i) h0 h1
  obtain ⟨w, hw, rfl⟩ := List.mem_map.mp hm
  exact ⟨w, ha, hp w hw⟩
theorem Wd.app {l m : Nat} {x y : Str} (h : Wd l x) (k : Wd m y) : Wd (l + m) (x ++ y) := by
  refine ⟨?_, fun c hc => ?_⟩
  · have e : (x ++ y).length = x.length + y.length := by
      show (x.cps ++ y.cps).size = _
      rw [Array.size_append]; rfl
    rw [e]
    have := h.1
    have := k.1
    omega
  · rw [app_codes] at hc
    rcases List.mem_append.mp hc with z | z
    · exact h.2 c z
    · exact k.2 c z
theorem Wd.cut {l : Nat} {x : Str} (h : Wd l x) (lo hi : Option Int) : Wd l (Txt.slice x lo hi) := by
  have e := slice_codes x lo hi
  refine ⟨?_, fun c hc => ?_⟩
  · have h1 : (Txt.slice x lo hi).length = (Txt.slice x lo hi).cps.toList.length := by simp [Str.length]
    have h2 : x.length = x.cps.toList.length := by simp [Str.length]
    rw [h1, e]
    have := cut_len x.cps.toList lo hi
    have := h.1
    omega
  · rw [e] at hc
    exact h.2 c (List.mem_of_mem_drop (List.mem_of_mem_take hc))
theorem Wd.mono {l m : Nat} {x : Str} (h : Wd l x) (hl : l ≤ m) : Wd m x := ⟨Nat.le_trans h.1 hl, h.2⟩
theorem wd_nm {y : Str} (h : Nm y) : Wd 8 y := ⟨(nm_small h).1, fun c hc => Nat.lt_trans ((nm_small h).2 c hc) (by decide)⟩
theorem wd_lit {zs : List Str} (h : (zs.all fun w => decide (w.length ≤ 8) && w.cps.toList.all fun c => decide (c < 1000)) = true) : ∀ w ∈ zs, Wd 8 w := fun w hw => by
  have := List.all_eq_true.mp h w hw
  rw [Bool.and_eq_true] at this
  exact ⟨of_decide_eq_true this.1, fun c hc => of_decide_eq_true (List.all_eq_true.mp this.2 c hc)⟩
/-- a list of words among data -/
def GL (n l : Nat) (d : D) : Prop := ∃ xs, d = .list xs ∧ WL (Wd l) n xs
theorem jn_mem (c : Nat) : ∀ (l : List (List Nat)) (x : List Nat), x ∈ l → ∀ d ∈ x, d ∈ jn c l
  | [p], x, hx, d, hd => by
    rw [List.mem_singleton.mp hx] at hd; exact hd
  | p :: q :: r, x, hx, d, hd => by
    show d ∈ p ++ c :: jn c (q :: r)
    rcases List.mem_cons.mp hx with rfl | hx
    · exact List.mem_append.mpr (.inl hd)
    · exact List.mem_append.mpr (.inr (List.mem_cons_of_mem _ (jn_mem c (q :: r) x hx d hd)))
theorem jn_of (c : Nat) : ∀ (l : List (List Nat)) (d : Nat), d ∈ jn c l → d = c ∨ ∃ x ∈ l, d ∈ x
  | [], d, h => by simp [jn] at h
  | [p], d, h => .inr ⟨p, List.mem_singleton.mpr rfl, h⟩
  | p :: q :: r, d, h => by
    have h' : d ∈ p ++ c :: jn c (q :: r) := h
    rcases List.mem_append.mp h' with z | z
    · exact .inr ⟨p, List.mem_cons_self .., z⟩
    · rcases List.mem_cons.mp z with z | z
      · exact .inl z
      · rcases jn_of c (q :: r) d z with e | ⟨x, hx, e⟩
        · exact .inl e
        · exact .inr ⟨x, List.mem_cons_of_mem _ hx, e⟩
theorem jn_long (c : Nat) : ∀ l : List (List Nat), l.length ≤ (jn c l).length + 1
  | [] => Nat.zero_le _
  | [p] => by show 1 ≤ p.length + 1; omega
  | p :: q :: r => by
    have ih := jn_long c (q :: r)
    show (q :: r).length + 1 ≤ (p ++ c :: jn c (q :: r)).length + 1
    rw [List.length_append, List.length_cons (as := jn c (q :: r))]
    omega
theorem join_small {ws : List Str} (h : ∀ w ∈ ws, ∀ c ∈ w.cps.toList, c < 1000) : ∀ c ∈ (Txt.join blank ws).cps.toList, c < 1000 := fun c hc => by
  rw [join_codes'] at hc
  rcases jn_of 32 _ c hc with rfl | ⟨x, hx, hc⟩
  · decide
  · obtain ⟨w, hw, rfl⟩ := List.mem_map.mp hx
    exact h w hw c hc
theorem split_small {z : Str} (h : ∀ c ∈ z.cps.toList, c < 1000) : CdW (Txt.split z blank) := fun w hw => by
  have e := join_split z
  generalize Txt.split z blank = ws at hw e
  subst e
  rw [join_codes'] at h
  have : Th w.length 0 (.str w) := th_str (Nat.le_refl _) fun c hc => h c (jn_mem 32 _ _ (List.mem_map.mpr ⟨w, hw, rfl⟩) c hc)
  exact this.cd (by decide)
theorem split_long (z : Str) : (Txt.split z blank).length ≤ z.length + 1 := by
  have e := join_split z
  have h1 := jn_long 32 ((Txt.split z blank).map (·.cps.toList))
  have h2 : (Txt.join blank (Txt.split z blank)).cps.toList.length = z.cps.toList.length := by rw [e]
  rw [join_codes'] at h2
  have h3 : z.length = z.cps.toList.length := by simp [Str.length]
  rw [List.length_map] at h1
  omega
theorem join_wd {l n : Nat} {ws : List Str} (h : ∀ w ∈ ws, Wd l w) (hn : ws.length ≤ n) : (ws.map (·.length)).sum ≤ l * n ∧ (Txt.join blank ws).length ≤ (l + 1) * n := by
  have h1 : ∀ us : List Str, (∀ w ∈ us, Wd l w) → (us.map (·.length)).sum ≤ l * us.length := fun us => by
    induction us with
    | nil => intro _; exact Nat.zero_le _
    | cons u us ih =>
      intro hu
      have a := (hu u (List.mem_cons_self ..)).1
      have b := ih fun w hw => hu w (List.mem_cons_of_mem _ hw)
      rw [List.map_cons, List.sum_cons, List.length_cons, Nat.mul_succ]
      omega
  have h2 := h1 ws h
  have h3 : l * ws.length ≤ l * n := Nat.mul_le_mul_left _ hn
  have h4 := join_len_le ws
  refine ⟨by omega, ?_⟩
  rw [Nat.add_mul, Nat.one_mul]
  omega
def sp__law_spoilt : SpT := fun ds Q => ∃ (fs : List (Str × List Str)) (an : List Str) (bs : List Int) (xs : List D) (n l m : Nat), ds = [frmD fs an, .list (bs.map PyData.int), .list xs] ∧ Form fs an ∧ Bits m bs ∧ 5 ≤ m ∧ WL (Wd l) n xs ∧ 0 < xs.length ∧ n ≤ 1000 ∧ 8 ≤ l ∧ l ≤ 100 ∧ ∀ d, GL (n + 1) (2 * l + 1) d → Q d
def sp__law_right : SpT := fun ds Q => ∃ (fs : List (Str × List Str)) (an : List Str) (z : Str), ds = [frmD fs an, .str z] ∧ Form fs an ∧ (∀ c ∈ z.cps.toList, c < 1000) ∧ z.length ≤ 90000 ∧ (Txt.split z blank).length ≤ 10000 ∧ Q (.bool true)
def sp__law_chain_words : SpT := fun ds Q => ∃ (fs : List (Str × List Str)) (an : List Str) (bs : List Int) (m : Nat), ds = [frmD fs an, .list (bs.map PyData.int), .int (m : Int)] ∧ Form fs an ∧ Bits 9 bs ∧ m ≤ 40 ∧ ∀ xs, WL Nm (9 * m + 2) xs → Q (.list xs)
def sp__law_bushy_words_lt (d : Nat) : SpT := fun ds Q => ∃ (fs : List (Str × List Str)) (an : List Str) (bs : List Int) (m : Nat), ds = [frmD fs an, .list (bs.map PyData.int), .int (m : Int)] ∧ Form fs an ∧ Bits 9 bs ∧ 0 < d ∧ m < 2 ^ (d - 1) ∧ m ≤ 600 ∧ ∀ xs, WL Nm (7 * m + 2) xs → 0 < xs.length → Q (.list xs)
def sp__law_bushy_words : SpT := sp__law_bushy_words_lt 10
theorem never__law_bushy_words {ds : List D} {Q : D → Prop} (h : sp__law_bushy_words_lt 0 ds Q) : False := by
  obtain ⟨_, _, _, _, _, _, _, h, _⟩ := h
  exact absurd h (by decide)
def sp_law : SpT := fun ds Q => ∃ ns : List Int, ds = [.list (ns.map PyData.int)] ∧ ns.length ≤ 63 ∧ Q (.bool true)
/-- a text is read, or the machine tells where not -/
theorem right_cases {fs : List (Str × List Str)} {an : List Str} (z : Str) : (∃ n, wrongW fs an (Txt.split z blank) = some n ∧ (rd fs an (Txt.split z blank) 31 0 0 = .error n ∨ ∃ t k, rd fs an (Txt.split z blank) 31 0 0 = .ok (t, n, k) ∧ n < (Txt.split z blank).length)) ∨
    (wrongW fs an (Txt.split z blank) = none ∧ ∃ t, TrOk fs an t ∧ t.dep ≤ 30 ∧ t.kn ≤ 500 ∧ z = shownT t) := by
  cases hb : rd fs an (Txt.split z blank) 31 0 0 with
  | error n => exact .inl ⟨n, wrong_err hb, .inl rfl⟩
  | ok p =>
    obtain ⟨t, i, k⟩ := p
    obtain ⟨hw, he⟩ := wrong_ok hb
    by_cases hi : i < (Txt.split z blank).length
    · rw [if_pos hi] at hw
      exact .inl ⟨i, hw, .inr ⟨t, k, rfl, hi⟩⟩
    · rw [if_neg hi] at hw
      obtain ⟨ht, hd, hk, hk5, _⟩ := rd_good 31 0 0 t i k hb (by decide)
      refine .inr ⟨hw, t, ht, by omega, by omega, ?_⟩
      rw [List.drop_eq_nil_iff.mpr (by omega), List.append_nil] at he
      unfold shownT
      rw [← he, join_split]
theorem nm_q {fs : List (Str × List Str)} {an : List Str} (F : Form fs an) {k n v : Str} (h : isQ fs (.tuple [.str k, .str n, .str v]) = true) : Nm n ∧ Nm k ∧ Nm v := by
  obtain ⟨f, hf, hfn, hv, hk⟩ := isQ_str h
  refine ⟨by rw [← hfn]; exact F.name hf, ?_, F.vals hf _ hv⟩
  rcases hk with rfl | ⟨rfl, _⟩
  · exact nm_is
  · exact nm_upto
theorem right_sp {fs : List (Str × List Str)} {an : List Str} (F : Form fs an) {l n : Nat} {xs : List D} {Q : D → Prop} (hx : WL (Wd l) n xs) (hn : (l + 1) * n ≤ 9000) (h : Q (.bool true)) : gJoin blank [.list xs] (fun y => sp__law_right [frmD fs an, y] Q) := by
  obtain ⟨vs, rfl, hl, hp⟩ := hx
  obtain ⟨j1, j2⟩ := join_wd hp hl
  have e : (l + 1) * n = l * n + n := by rw [Nat.add_mul, Nat.one_mul]
  refine ⟨vs, rfl, ?_, fs, an, _, rfl, F, join_small fun w hw => (hp w hw).2, by omega, ?_, h⟩
  · rw [show blank.length = 1 by decide +kernel]; omega
  · have := split_long (Txt.join blank vs)
    omega
theorem split_nm {ws : List Str} (h : ∀ w ∈ ws, Nm w) (h0 : 0 < ws.length) : Txt.split (Txt.join blank ws) blank = ws := by
  cases ws with
  | nil => exact absurd h0 (by decide)
  | cons w ws =>
    refine split_join 32 (by decide) w ws fun x hx hm => ?_
    have hl := (nmS_iff (h x hx)).2.2 32 hm
    exact absurd hl (by decide +kernel)

end K11

namespace K11
open PySem L2 TL
local macro_rules | `(tactic| walk_at "rd") => `(tactic| simp only [VarAt_iff, ItemAt_iff, sSeq, sSet, sOwn, sApp, sShare, sRet, sIf, sUnp, sNext, eVar, eC, eOp, eNeg, eTup, eLst, eCall, eSl, oNone, oSome, eAnd, eOr, eChain, eIsi, eLenSet, eMeth, eUpper, eRev, eInOwn, aNil, aCons, cTest, cNot, cAnd, cOr, gP, fI, fI0, fB0, fAdd, fMul, fEq, fNe, eqF, fIsNot, fIx, fSl, fIn, fNotIn, f1, f2, gLen, gTuple, gList, gAll, gMin, gMin2, gFind, gJoin, gRepr, startT, List.map_cons, List.map_nil, List.length_cons, List.length_nil, List.cons_append, List.nil_append, List.replicate, List.getElem?_cons_zero, List.getElem?_cons_succ, List.set_cons_zero, List.set_cons_succ, Option.some.injEq, Sl.val.injEq, Sl.own.injEq, exists_eq_left', exists_eq_left, PyData.int.injEq, PyData.bool.injEq, PyData.str.injEq, PyData.tuple.injEq, PyData.list.injEq, and_true, true_and, Bool.false_eq_true, if_true, if_false, Bool.not_true, Bool.not_false, ↓reduceIte, Nat.reduceAdd, Nat.reduceSub, Nat.reduceLeDiff, Int.reduceNeg, reduceCtorEq])

section
variable {P : Program} {w : World} {K : PySem.W.Frag} {mg : Str → Option Value} {base : Heap} {A : Adr}
theorem sc_init : FnScope ["self", "at"] ["self", "at"] (defScope (initOf (top 7))) := ⟨rfl, rfl, rfl, by decide +kernel, rfl, by decide +kernel, by decide +kernel⟩
theorem ok_init_NoText (T : Txt K mg A) : FnOk P w K mg base CX0 1 A.a0_NoText A.f0_NoText ["self", "at"] (spInit A.c_NoText) := fn_init T.F0_NoText sc_init T.T_NoText rfl
theorem sc_is_leaf : FnScope ["tree"] ["tree"] (defScope (top 16)) := ⟨rfl, rfl, rfl, by decide +kernel, rfl, by decide +kernel, by decide +kernel⟩
set_option maxHeartbeats 4000000 in
theorem ok_is_leaf (T : Txt K mg A) : FnOk P w K mg base CX0 1 A.a_is_leaf A.f_is_leaf ["tree"] (liftSp K sp_is_leaf) := by
  refine fnT T.F_is_leaf sc_is_leaf (fun ds Q h => by obtain ⟨t, rfl, h⟩ := h; rfl) fun cdv Ar outer s H E hr ds Q h => ?_
  obtain ⟨t, rfl, h⟩ := h
  have nd := sc_is_leaf.nd
  refine ⟨_, (st_one (st_ret (et_cmp op_eq o_eq (et_ix ix_seq o_ix (et_v 0) et_int) et_str))), ?_⟩
  cases t with
  | say a => exact ⟨_, rfl, _, rfl, h⟩
  | ask k n v s y m => exact ⟨_, rfl, _, rfl, h⟩

theorem sc_values_asked : FnScope ["kind", "field"] ["kind", "field"] (defScope (top 12)) := ⟨rfl, rfl, rfl, by decide +kernel, rfl, by decide +kernel, by decide +kernel⟩
set_option maxHeartbeats 4000000 in
theorem ok_values_asked (T : Txt K mg A) : FnOk P w K mg base CX0 1 A.a_values_asked A.f_values_asked ["kind", "field"] (liftSp K sp_values_asked) := by
  refine fnT T.F_values_asked sc_values_asked (fun ds Q h => by obtain ⟨k, f, rfl, hl, h⟩ := h; rfl) fun cdv Ar outer s H E hr ds Q h => ?_
  obtain ⟨k, f, rfl, hl, h⟩ := h
  have nd := sc_values_asked.nd
  refine ⟨_, (st_one (st_ret (et_if (tt_cmp op_eq o_eq (et_v 0) et_str) (et_slice sl_any o_sl (et_ix ix_seq o_ix (et_v 1) et_int) ot_none (ot_some (et_neg et_int))) (et_ix ix_seq o_ix (et_v 1) et_int)))), ?_⟩
  show sRet _ _ [.val (.str k), .val (fldD f)]
  refine ⟨_, rfl, ?_⟩
  show (if decide (k = "upto") = true then _ else _)
  unfold asked at h
  by_cases e : k = "upto"
  · rw [if_pos (decide_eq_true e)]
    rw [if_pos e] at h
    have ecut : cutD (f.2.map PyData.str) none (some (-1)) = (f.2.take (f.2.length - 1)).map PyData.str := by rw [cut_map, cut_front]
    refine ⟨_, rfl, _, rfl, ?_⟩
    show Q (.tuple (cutD (f.2.map PyData.str) none (some (-1))))
    rw [ecut]; exact h
  · rw [if_neg (by simpa using e)]
    rw [if_neg e] at h
    exact ⟨_, rfl, _, rfl, h⟩

theorem sc_shown_tree : FnScope ["tree", "question", "words"] ["tree"] (defScope (top 18)) := ⟨rfl, rfl, rfl, by decide +kernel, rfl, by decide +kernel, by decide +kernel⟩
set_option maxHeartbeats 4000000 in
theorem step_shown_tree (dd : Nat) (T : Txt K mg A)
    (F_is_leaf : FnOk P w K mg base CX0 1 A.a_is_leaf A.f_is_leaf ["tree"] (liftSp K sp_is_leaf))
    (F_shown_tree : FnOk P w K mg base CX0 (1 + dd) A.a_shown_tree A.f_shown_tree ["tree"] (liftSp K (sp_shown_tree_lt dd))) : FnOk P w K mg base CX0 (1 + dd + 1) A.a_shown_tree A.f_shown_tree ["tree"] (liftSp K (sp_shown_tree_lt (dd + 1))) := by
  refine fnT T.F_shown_tree sc_shown_tree (fun ds Q h => by obtain ⟨fs, an, t, rfl, F, ht, hk, hd, h⟩ := h; rfl) fun cdv Ar outer s H E hr ds Q h => ?_
  obtain ⟨fs, an, t, rfl, F, ht, hk, hd, h⟩ := h
  have nd := sc_shown_tree.nd
  refine ⟨_, (st_cons (st_if (tt_val (et_call F_is_leaf T.m_is_leaf T.k_is_leaf T.d_is_leaf (hr.mono (by omega)) (at_cons (et_v 0) at_nil) (fun h => pe_call F_is_leaf (hr.mono (by omega)) rfl T.m_is_leaf T.k_is_leaf T.d_is_leaf .nil pass0 h)) (fun h => pt_val h))
  (st_one (st_ret (et_joinT et_str (at_cons (et_v 0) at_nil) (fun h ha => pe_bm PySem.F.plainAttrs_str PySem.F.slot_str_join PySem.F.type_str_join mt_joinT h ha))))
  st_nil)
  (st_cons (st_set (i := 1) (et_ix ix_seq o_ix (et_v 0) et_int) (fun h => ps_set (i := 1) nd rfl (by first | exact Or.inl rfl | exact Or.inr rfl) h))
  (st_cons (st_set (i := 2) (et_lst (at_cons et_str (at_cons (et_ix ix_seq o_ix (et_v 1) et_int) (at_cons (et_ix ix_seq o_ix (et_v 1) et_int) (at_cons (et_ix ix_seq o_ix (et_v 1) et_int) (at_cons (et_ix ix_seq o_ix (et_v 0) et_int) (at_cons (et_call F_shown_tree T.m_shown_tree T.k_shown_tree T.d_shown_tree (hr.mono (by omega)) (at_cons (et_ix ix_seq o_ix (et_v 0) et_int) at_nil) (fun h => pe_call F_shown_tree (hr.mono (by omega)) rfl T.m_shown_tree T.k_shown_tree T.d_shown_tree .nil pass0 h)) (at_cons (et_call F_shown_tree T.m_shown_tree T.k_shown_tree T.d_shown_tree (hr.mono (by omega)) (at_cons (et_ix ix_seq o_ix (et_v 0) et_int) at_nil) (fun h => pe_call F_shown_tree (hr.mono (by omega)) rfl T.m_shown_tree T.k_shown_tree T.d_shown_tree .nil pass0 h)) at_nil)))))))) (fun h => ps_set (i := 2) nd rfl (by first | exact Or.inl rfl | exact Or.inr rfl) h))
  (st_one (st_ret (et_join et_str (at_cons (et_v 2) at_nil) (fun h ha => pe_bm PySem.F.plainAttrs_str PySem.F.slot_str_join PySem.F.type_str_join mt_join h ha))))))), ?_⟩
  cases t with
  | say a =>
    show sSeq _ _ _ [.val (trD (.say a)), .un, .un]
    refine seq_if (fun b => b = true) (fun q hq => ⟨_, rfl, .say a, rfl, hq _ rfl⟩) (fun _ => ?_) fun hF => by cases hF
    have h8 := nm_len (wordsT_nm F (.say a) ht)
    refine ⟨blank, rfl, _, rfl, wordsT (.say a), rfl, ?_, h⟩
    have e : blank.length = 1 := by decide +kernel
    rw [e]
    have : (wordsT (.say a)).length = 2 := rfl
    omega
  | ask k n v s y m =>
    show sSeq _ _ _ [.val (trD (.ask k n v s y m)), .un, .un]
    have e1 : (Tr.ask k n v s y m).dep = max y.dep m.dep + 1 := rfl
    have e2 : (Tr.ask k n v s y m).kn = y.kn + m.kn + 1 := rfl
    rw [e1] at hd
    rw [e2] at hk
    obtain ⟨hq, hs, hy, hm⟩ := ht
    refine seq_if (fun b => b = false) (fun q hq => ⟨_, rfl, .ask k n v s y m, rfl, hq _ rfl⟩) (fun hT => by cases hT) fun _ => ?_
    try unfold sNext
    dsimp only
    refine seq_set (.tuple [.str k, .str n, .str v]) (fun q hq => ⟨_, rfl, _, rfl, hq⟩) ?_
    refine seq_set (.list ((["ask", n, k, v, s, shownT y, shownT m] : List Str).map PyData.str)) (fun q hq => ⟨_, rfl, _, rfl, _, rfl, _, rfl, _, rfl, _, rfl, _, rfl, _, rfl, _, rfl, _, rfl, fs, an, y, rfl, F, hy, by omega, by omega, _, rfl, _, rfl, fs, an, m, rfl, F, hm, by omega, by omega, Nat.le_of_ble_eq_true rfl, hq⟩) ?_
    have l1 := shown_len F hy
    have l2 := shown_len F hm
    have h8 := nm_len (ws := [n, k, v, s]) fun w hw => wordsT_nm F (.ask k n v s y m) ⟨hq, hs, hy, hm⟩ w (List.mem_append.mpr (.inl (List.mem_cons_of_mem _ hw)))
    refine ⟨blank, rfl, _, rfl, _, rfl, ?_, ?_⟩
    · have e : blank.length = 1 := by decide +kernel
      have e3 : ("ask" : Str).length = 3 := by decide +kernel
      rw [e]
      simp only [List.map_cons, List.map_nil, List.sum_cons, List.sum_nil, List.length_cons, List.length_nil] at h8 ⊢
      omega
    · rw [shown_ask]; exact h

theorem ok_shown_tree (T : Txt K mg A)
    (F_is_leaf : FnOk P w K mg base CX0 1 A.a_is_leaf A.f_is_leaf ["tree"] (liftSp K sp_is_leaf)) : FnOk P w K mg base CX0 32 A.a_shown_tree A.f_shown_tree ["tree"] (liftSp K sp_shown_tree) := by
  have h : ∀ dd : Nat, FnOk P w K mg base CX0 (1 + dd) A.a_shown_tree A.f_shown_tree ["tree"] (liftSp K (sp_shown_tree_lt dd)) := fun dd => by
    induction dd with
    | zero => exact fn_imp fn_never fun ds Q h => never_shown_tree h
    | succ dd ih => exact step_shown_tree dd T F_is_leaf ih
  exact h 31
theorem sc_word_at : FnScope ["words", "number", "right"] ["words", "number", "right"] (defScope (top 22)) := ⟨rfl, rfl, rfl, by decide +kernel, rfl, by decide +kernel, by decide +kernel⟩
set_option maxHeartbeats 4000000 in
theorem ok_word_at (T : Txt K mg A) : FnOk P w K mg base CX0 3 A.a_word_at A.f_word_at ["words", "number", "right"] (liftSp K sp_word_at) := by
  refine fnT T.F_word_at sc_word_at (fun ds Q h => by obtain ⟨ws, i, w, R, r, rfl, hi, hrr, hw, hR, h⟩ := h; rfl) fun cdv Ar outer s H E hr ds Q h => ?_
  obtain ⟨ws, i, w, R, r, rfl, hi, hrr, hw, hR, h⟩ := h
  have nd := sc_word_at.nd
  refine ⟨_, (st_cons (st_if (tw_pt (tw_or (tt_cmp op_ge o_B0 (et_v 1) (et_cb c_len (at_cons (et_v 0) at_nil) (fun h => pe_callB call_lenAny rfl T.b_len bl_len h))) (tw_or1 (tt_cmp (op_notInData hr) o_data (et_ix ix_seq o_ix (et_v 0) (et_v 1)) (et_v 2)))))
  (st_one st_no)
  st_nil)
  (st_one (st_ret (et_ix ix_seq o_ix (et_v 0) (et_v 1))))), ?_⟩
  show sSeq _ _ _ [.val (.list (ws.map PyData.str)), .val (.int i), .val r]
  have hil := (List.getElem?_eq_some_iff.mp hi).1
  have hat : L2.atI (ws.map PyData.str) (i : Int) = some (.str w) := L2.atI_nat (by rw [List.getElem?_map, hi]; rfl)
  have hW := th_name (hR w hw) (n := 8) (m := 0) (Nat.le_refl _)
  have hcd := hW.cd (by decide)
  have hok : okIn (.str w) r ∧ inD (.str w) r = true := by
    obtain ⟨b1, b2, b3⟩ := ok_strs hR hcd
    have e : ((R.map PyData.str).any fun z => PyData.eqv z (.str w)) = true := by
      rw [any_strs]
      exact decide_eq_true hw
    rcases hrr with rfl | rfl
    · exact ⟨⟨b1, b2, b3⟩, e⟩
    · exact ⟨⟨b1, b2, b3⟩, e⟩
  refine seq_if (fun b => b = false) (fun q hq => ⟨_, rfl, _, rfl, ?_⟩) (fun hT => by cases hT) fun _ => ?_
  · have e : decide ((((ws.map PyData.str).length : Nat) : Int) ≤ (i : Int)) = false := decide_eq_false (by rw [List.length_map]; omega)
    show (if decide ((((ws.map PyData.str).length : Nat) : Int) ≤ (i : Int)) = true then _ else _)
    rw [e, if_neg (by decide)]
    exact ⟨_, rfl, _, rfl, _, hat, _, rfl, hok.1, hq _ (by show (!inD (.str w) r) = false; rw [hok.2]; rfl)⟩
  · try unfold sNext
    dsimp only
    exact ⟨_, rfl, _, rfl, _, hat, h⟩

set_option maxHeartbeats 4000000 in
theorem okX_word_at (T : Txt K mg A) : FnOk P w K mg base (CX1 P w) 3 A.a_word_at A.f_word_at ["words", "number", "right"] (liftSpX K (sp_word_atX A)) := by
  refine fnX T.F_word_at sc_word_at (fun ds Q h => by obtain ⟨ws, i, n, R, r, rfl, hrr, hR, hC, hw, h⟩ := h; rfl) fun cdv Ar outer s H E hr ds ED h hE => ?_
  obtain ⟨ws, i, n, R, r, rfl, hrr, hR, hC, hw, h⟩ := h
  have nd := sc_word_at.nd
  refine ⟨_, (st_cons (st_if (tw_pt (tw_or (tt_cmp op_ge o_B0 (et_v 1) (et_cb c_len (at_cons (et_v 0) at_nil) (fun h => pe_callB call_lenAny rfl T.b_len bl_len h))) (tw_or1 (tt_cmp (op_notInData hr) o_data (et_ix ix_seq o_ix (et_v 0) (et_v 1)) (et_v 2)))))
  (st_one (st_raiseI hE T.X_NoText (at_cons (et_v 1) at_nil) (fun h => ps_raiseI (k := 0) T.I_NoText (ok_init_NoText T) T.i_NoText (hr.mono (by decide)) rfl T.x_NoText h)))
  st_nil)
  (st_one st_no)), ?_⟩
  show sSeq _ _ _ [.val (.list (ws.map PyData.str)), .val (.int i), .val r]
  obtain ⟨rfl, hw⟩ := getW_err hw
  refine seq_if (fun b => b = true) (fun q hq => ⟨_, rfl, _, rfl, ?_⟩) (fun _ => ?_) fun hF => by cases hF
  · show (if decide ((((ws.map PyData.str).length : Nat) : Int) ≤ (n : Int)) = true then _ else _)
    rcases hw with hw | ⟨w, hn, hw⟩
    · rw [if_pos (decide_eq_true (by rw [List.length_map]; have := List.drop_eq_nil_iff.mp hw; omega))]
      exact hq _ rfl
    · have hi : ws[n]? = some w := by
        have := congrArg List.head? hw
        rw [List.head?_drop] at this
        exact this
      have hl := (List.getElem?_eq_some_iff.mp hi).1
      rw [if_neg (by rw [List.length_map]; simp; omega)]
      have hat : L2.atI (ws.map PyData.str) (n : Int) = some (.str w) := L2.atI_nat (by rw [List.getElem?_map, hi]; rfl)
      have hok : okIn (.str w) r ∧ inD (.str w) r = false := by
        obtain ⟨b1, b2, b3⟩ := ok_strs hR (hC w (List.mem_of_getElem? hi))
        have e : ((R.map PyData.str).any fun z => PyData.eqv z (.str w)) = false := by
          rw [any_strs]
          exact decide_eq_false hn
        rcases hrr with rfl | rfl
        · exact ⟨⟨b1, b2, b3⟩, e⟩
        · exact ⟨⟨b1, b2, b3⟩, e⟩
      exact ⟨_, rfl, _, rfl, _, hat, _, rfl, hok.1, hq _ (by show (!inD (.str w) r) = true; rw [hok.2]; rfl)⟩
  · exact ⟨_, rfl, _, rfl, h, fun B hB => hB⟩

theorem sc_read_question : FnScope ["form", "words", "start", "names", "name", "kind", "value"] ["form", "words", "start"] (defScope (top 21)) := ⟨rfl, rfl, rfl, by decide +kernel, rfl, by decide +kernel, by decide +kernel⟩
set_option maxHeartbeats 4000000 in
theorem ok_read_question (T : Txt K mg A)
    (F_values_asked : FnOk P w K mg base CX0 1 A.a_values_asked A.f_values_asked ["kind", "field"] (liftSp K sp_values_asked))
    (F_word_at : FnOk P w K mg base CX0 3 A.a_word_at A.f_word_at ["words", "number", "right"] (liftSp K sp_word_at)) : FnOk P w K mg base CX0 4 A.a_read_question A.f_read_question ["form", "words", "start"] (liftSp K sp_read_question) := by
  refine fnT T.F_read_question sc_read_question (fun ds Q h => by obtain ⟨fs, an, ws, i, k, n, v, rfl, F, hq, hn, hk, hv, h⟩ := h; rfl) fun cdv Ar outer s H E hr ds Q h => ?_
  obtain ⟨fs, an, ws, i, k, n, v, rfl, F, hq, hn, hk, hv, h⟩ := h
  have nd := sc_read_question.nd
  refine ⟨_, (st_cons (st_setlc (i := 3) (fr := [none]) (N' := ["field"]) (it_val (et_ix ix_seq o_ix (et_v 0) et_int)) (fun b => ⟨(gt_name (pg_name (i := 0) (show List.Nodup (["field"] : List Str) from by decide +kernel) rfl (by first | exact Or.inl rfl | exact Or.inr rfl))), if_nil, (et_ix ix_seq o_ix (et_v 0) et_int)⟩) (fun hi hY => ps_setlcc (show lcChk _ (defScope (top 21)) ["form", "words", "start", "names", "name", "kind", "value"] ["field"] [none] = true from by decide +kernel) nd rfl (by first | exact Or.inl rfl | exact Or.inr rfl) rfl hi hY rfl))
  (st_cons (st_set (i := 4) (et_call F_word_at T.m_word_at T.k_word_at T.d_word_at (hr.mono (by decide)) (at_cons (et_v 1) (at_cons (et_v 2) (at_cons (et_v 3) at_nil))) (fun h => pe_call F_word_at (hr.mono (by decide)) rfl T.m_word_at T.k_word_at T.d_word_at .nil pass0 h)) (fun h => ps_set (i := 4) nd rfl (by first | exact Or.inl rfl | exact Or.inr rfl) h))
  (st_cons (st_set (i := 5) (et_call F_word_at T.m_word_at T.k_word_at T.d_word_at (hr.mono (by decide)) (at_cons (et_v 1) (at_cons (et_op op_addAny o_add (et_v 2) et_int) (at_cons (et_gtup rfl T.c_KINDS T.t_KINDS) at_nil))) (fun h => pe_call F_word_at (hr.mono (by decide)) rfl T.m_word_at T.k_word_at T.d_word_at .nil pass0 h)) (fun h => ps_set (i := 5) nd rfl (by first | exact Or.inl rfl | exact Or.inr rfl) h))
  (st_cons (st_set (i := 6) (et_call F_word_at T.m_word_at T.k_word_at T.d_word_at (hr.mono (by decide)) (at_cons (et_v 1) (at_cons (et_op op_addAny o_add (et_v 2) et_int) (at_cons (et_call F_values_asked T.m_values_asked T.k_values_asked T.d_values_asked (hr.mono (by decide)) (at_cons (et_v 5) (at_cons (et_ix ix_seq o_ix (et_ix ix_seq o_ix (et_v 0) et_int) (et_lindex (et_v 3) (at_cons (et_v 4) at_nil) (fun h ha => pe_bm PySem.F.plainAttrs_list PySem.F.slot_list_index PySem.F.type_list_index (mt_lindex hr) h ha))) at_nil)) (fun h => pe_call F_values_asked (hr.mono (by decide)) rfl T.m_values_asked T.k_values_asked T.d_values_asked .nil pass0 h)) at_nil))) (fun h => pe_call F_word_at (hr.mono (by decide)) rfl T.m_word_at T.k_word_at T.d_word_at .nil pass0 h)) (fun h => ps_set (i := 6) nd rfl (by first | exact Or.inl rfl | exact Or.inr rfl) h))
  (st_one (st_ret (et_tup (at_cons (et_v 5) (at_cons (et_v 4) (at_cons (et_v 6) at_nil)))))))))), ?_⟩
  show sSeq _ _ _ [.val (frmD fs an), .val (.list (ws.map PyData.str)), .val (.int i), .un, .un, .un, .un]
  obtain ⟨f, hf, hfn, hvf, hkk⟩ := isQ_str hq
  obtain ⟨j, hj⟩ := List.getElem?_of_mem hf
  have n5 := F.n5
  have hjl := (List.getElem?_eq_some_iff.mp hj).1
  have hnm : n ∈ fs.map (·.1) := List.mem_map.mpr ⟨f, hf, hfn⟩
  obtain ⟨v2, v5, hvl, hvn, hvd⟩ := F.vs f hf
  have e1 : (i : Int) + 1 = ((i + 1 : Nat) : Int) := rfl
  have e2 : (i : Int) + 2 = ((i + 2 : Nat) : Int) := rfl
  have eN : (fs.map fldD).map fst = (fs.map (·.1)).map PyData.str := by rw [List.map_map, List.map_map]; rfl
  refine seq_set (.list ((fs.map (·.1)).map PyData.str)) (fun q hq => ?_) ?_
  · refine lcx_map (ts := fs.map fldD) (fun R h => ⟨_, rfl, _, rfl, _, rfl, h⟩) fst (by rw [List.length_map]; omega) (fun x q hx hq => ?_) ?_
    · obtain ⟨f, hf, rfl⟩ := List.mem_map.mp hx
      exact ⟨_, rfl, _, rfl, hq⟩
    · rw [eN]; exact hq
  refine seq_set (.str n) (fun q hq => ⟨_, rfl, _, rfl, _, rfl, ws, i, n, _, _, rfl, hn, .inr rfl, hnm, F.nd.2.1, hq⟩) ?_
  refine seq_set (.str k) (fun q hq => ⟨_, rfl, _, rfl, ws, i + 1, k, ["is", "upto"], _, rfl, hk, .inl rfl, ?_, fun y hy => ?_, hq⟩) ?_
  · rcases hkk with rfl | ⟨rfl, _⟩ <;> simp
  · rcases List.mem_cons.mp hy with rfl | hy
    · exact nm_is
    · rw [List.mem_singleton.mp hy]; exact nm_upto
  have hix := okIx_strs F.nd.2.1 hnm
  have ej : (fs.map (·.1)).idxOf n = j := by
    have hi : (fs.map (·.1)).idxOf n < (fs.map (·.1)).length := List.idxOf_lt_length_iff.mpr hnm
    have h1 : (fs.map (·.1))[(fs.map (·.1)).idxOf n]? = some n := by rw [List.getElem?_eq_getElem hi, List.getElem_idxOf hi]
    have h2 : (fs.map (·.1))[j]? = some n := by rw [List.getElem?_map, hj, ← hfn]; rfl
    exact (List.getElem?_inj hi F.nd.2.2).mp (h1.trans h2.symm)
  rw [ej] at hix
  have hfa : L2.atI (fs.map fldD) (j : Int) = some (fldD f) := L2.atI_nat (by rw [List.getElem?_map, hj]; rfl)
  have hkq : k = "is" ∨ k = "upto" := hkk.imp id fun z => z.1
  have hva : v ∈ asked k f := by
    have e := asked_ok hvd hkq (.str v)
    have e3 : qOk f (.str k) (.str v) = true := by
      show (decide (v ∈ f.2) && (decide (k = "is") || (decide (k = "upto") && decide (f.2.idxOf v + 1 < f.2.length)))) = true
      rw [decide_eq_true hvf, Bool.true_and, Bool.or_eq_true, Bool.and_eq_true, decide_eq_true_iff, decide_eq_true_iff, decide_eq_true_iff]
      exact hkk
    rw [e3] at e
    exact of_decide_eq_true e
  refine seq_set (.str v) (fun q hq => ⟨_, rfl, _, rfl, _, rfl, _, rfl, _, rfl, _, rfl, _, rfl, _, rfl, _, j, rfl, hix, by omega, _, hfa, k, f, rfl, v5, ws, i + 2, v, asked k f, _, rfl, hv, .inl rfl, hva, fun y hy => hvn y (asked_mem hy), hq⟩) ?_
  exact ⟨_, rfl, _, rfl, _, rfl, Nat.le_of_ble_eq_true rfl, h⟩

set_option maxHeartbeats 4000000 in
theorem okX_read_question (T : Txt K mg A)
    (F_values_asked : FnOk P w K mg base CX0 1 A.a_values_asked A.f_values_asked ["kind", "field"] (liftSp K sp_values_asked))
    (F_word_at : FnOk P w K mg base CX0 3 A.a_word_at A.f_word_at ["words", "number", "right"] (liftSp K sp_word_at))
    (X_word_at : FnOk P w K mg base (CX1 P w) 3 A.a_word_at A.f_word_at ["words", "number", "right"] (liftSpX K (sp_word_atX A))) : FnOk P w K mg base (CX1 P w) 4 A.a_read_question A.f_read_question ["form", "words", "start"] (liftSpX K (sp_read_questionX A)) := by
  refine fnX T.F_read_question sc_read_question (fun ds Q h => by obtain ⟨fs, an, ws, i, n, rfl, F, hC, hq, h⟩ := h; rfl) fun cdv Ar outer s H E hr ds ED h hE => ?_
  obtain ⟨fs, an, ws, i, n, rfl, F, hC, hq, h⟩ := h
  have nd := sc_read_question.nd
  refine ⟨_, (st_cons (st_setlc (i := 3) (fr := [none]) (N' := ["field"]) (it_val (et_ix ix_seq o_ix (et_v 0) et_int)) (fun b => ⟨(gt_name (pg_name (i := 0) (show List.Nodup (["field"] : List Str) from by decide +kernel) rfl (by first | exact Or.inl rfl | exact Or.inr rfl))), if_nil, (et_ix ix_seq o_ix (et_v 0) et_int)⟩) (fun hi hY => ps_setlcc (show lcChk _ (defScope (top 21)) ["form", "words", "start", "names", "name", "kind", "value"] ["field"] [none] = true from by decide +kernel) nd rfl (by first | exact Or.inl rfl | exact Or.inr rfl) rfl hi hY rfl))
  (st_cons (PSt.or (st_set (i := 4) (et_call F_word_at T.m_word_at T.k_word_at T.d_word_at (hr.mono (by decide)) (at_cons (et_v 1) (at_cons (et_v 2) (at_cons (et_v 3) at_nil))) (fun h => pe_call F_word_at (hr.mono (by decide)) rfl T.m_word_at T.k_word_at T.d_word_at .nil pass0 h)) (fun h => ps_set (i := 4) nd rfl (by first | exact Or.inl rfl | exact Or.inr rfl) h))
  (st_setX (i := 4) (ex_call hE (at_cons (et_v 1) (at_cons (et_v 2) (at_cons (et_v 3) at_nil))) (fun h => pe_call X_word_at (hr.mono (by decide)) rfl T.m_word_at T.k_word_at T.d_word_at .nil pass1 h)) (fun h => ps_set (i := 4) nd rfl (by first | exact Or.inl rfl | exact Or.inr rfl) h)))
  (st_cons (PSt.or (st_set (i := 5) (et_call F_word_at T.m_word_at T.k_word_at T.d_word_at (hr.mono (by decide)) (at_cons (et_v 1) (at_cons (et_op op_addAny o_add (et_v 2) et_int) (at_cons (et_gtup rfl T.c_KINDS T.t_KINDS) at_nil))) (fun h => pe_call F_word_at (hr.mono (by decide)) rfl T.m_word_at T.k_word_at T.d_word_at .nil pass0 h)) (fun h => ps_set (i := 5) nd rfl (by first | exact Or.inl rfl | exact Or.inr rfl) h))
  (st_setX (i := 5) (ex_call hE (at_cons (et_v 1) (at_cons (et_op op_addAny o_add (et_v 2) et_int) (at_cons (et_gtup rfl T.c_KINDS T.t_KINDS) at_nil))) (fun h => pe_call X_word_at (hr.mono (by decide)) rfl T.m_word_at T.k_word_at T.d_word_at .nil pass1 h)) (fun h => ps_set (i := 5) nd rfl (by first | exact Or.inl rfl | exact Or.inr rfl) h)))
  (st_cons (st_setX (i := 6) (ex_call hE (at_cons (et_v 1) (at_cons (et_op op_addAny o_add (et_v 2) et_int) (at_cons (et_call F_values_asked T.m_values_asked T.k_values_asked T.d_values_asked (hr.mono (by decide)) (at_cons (et_v 5) (at_cons (et_ix ix_seq o_ix (et_ix ix_seq o_ix (et_v 0) et_int) (et_lindex (et_v 3) (at_cons (et_v 4) at_nil) (fun h ha => pe_bm PySem.F.plainAttrs_list PySem.F.slot_list_index PySem.F.type_list_index (mt_lindex hr) h ha))) at_nil)) (fun h => pe_call F_values_asked (hr.mono (by decide)) rfl T.m_values_asked T.k_values_asked T.d_values_asked .nil pass0 h)) at_nil))) (fun h => pe_call X_word_at (hr.mono (by decide)) rfl T.m_word_at T.k_word_at T.d_word_at .nil pass1 h)) (fun h => ps_set (i := 6) nd rfl (by first | exact Or.inl rfl | exact Or.inr rfl) h))
  (st_one st_no))))), ?_⟩
  show sSeq _ _ _ [.val (frmD fs an), .val (.list (ws.map PyData.str)), .val (.int i), .un, .un, .un, .un]
  have n5 := F.n5
  have eN : (fs.map fldD).map fst = (fs.map (·.1)).map PyData.str := by rw [List.map_map, List.map_map]; rfl
  have kn : ∀ y ∈ (["is", "upto"] : List Str), nmS y = true := fun y hy => by
    rcases List.mem_cons.mp hy with rfl | hy
    · exact nm_is
    · rw [List.mem_singleton.mp hy]; exact nm_upto
  refine seq_set (.list ((fs.map (·.1)).map PyData.str)) (fun q hq => ?_) ?_
  · refine lcx_map (ts := fs.map fldD) (fun R h => ⟨_, rfl, _, rfl, _, rfl, h⟩) fst (by rw [List.length_map]; omega) (fun x q hx hq => ?_) ?_
    · obtain ⟨f, hf, rfl⟩ := List.mem_map.mp hx
      exact ⟨_, rfl, _, rfl, hq⟩
    · rw [eN]; exact hq
  unfold rdQ at hq
  show (_ ∨ _)
  cases h1 : getW ws i (fs.map (·.1)) with
  | error m =>
    rw [h1] at hq
    cases hq
    exact .inr ⟨⟨_, rfl, _, rfl, _, rfl, ws, i, n, fs.map (·.1), _, rfl, .inr rfl, F.nd.2.1, hC, h1, h⟩, fun B hB => hB⟩
  | ok nm =>
    rw [h1] at hq
    dsimp only at hq
    obtain ⟨g1, m1⟩ := getW_at h1
    refine .inl ⟨_, rfl, _, rfl, _, rfl, ws, i, nm, _, _, rfl, g1, .inr rfl, m1, F.nd.2.1, ?_⟩
    dsimp only
    show (_ ∨ _)
    cases h2 : getW ws (i + 1) ["is", "upto"] with
    | error m =>
      rw [h2] at hq
      cases hq
      exact .inr ⟨⟨_, rfl, _, rfl, ws, i + 1, n, ["is", "upto"], _, rfl, .inl rfl, kn, hC, h2, h⟩, fun B hB => hB⟩
    | ok kk =>
      rw [h2] at hq
      dsimp only at hq
      obtain ⟨g2, m2⟩ := getW_at h2
      refine .inl ⟨_, rfl, _, rfl, ws, i + 1, kk, ["is", "upto"], _, rfl, g2, .inl rfl, m2, kn, ?_⟩
      dsimp only
      obtain ⟨hix, hfa, hfl⟩ := fld_ix F m1
      obtain ⟨hfm, hfe⟩ := fldAt_mem m1
      obtain ⟨v2, v5, hvl, hvn, hvd⟩ := F.vs _ hfm
      cases h3 : getW ws (i + 2) (asked kk (fldAt fs (fldOf fs nm))) with
      | ok v => rw [h3] at hq; cases hq
      | error m =>
        rw [h3] at hq
        cases hq
        exact ⟨⟨_, rfl, _, rfl, _, rfl, _, rfl, _, rfl, _, rfl, _, rfl, _, rfl, _, fldOf fs nm, rfl, hix, by omega, _, hfa, kk, fldAt fs (fldOf fs nm), rfl, v5, ws, i + 2, n, asked kk (fldAt fs (fldOf fs nm)), _, rfl, .inl rfl, fun y hy => hvn y (asked_mem hy), hC, h3, h⟩, fun B hB => hB⟩

theorem sc_read_part : FnScope ["form", "words", "start", "within", "knots", "question", "stray", "yes", "no"] ["form", "words", "start", "within", "knots"] (defScope (top 20)) := ⟨rfl, rfl, rfl, by decide +kernel, rfl, by decide +kernel, by decide +kernel⟩
set_option maxHeartbeats 4000000 in
theorem step_read_part (dd : Nat) (T : Txt K mg A)
    (F_read_question : FnOk P w K mg base CX0 4 A.a_read_question A.f_read_question ["form", "words", "start"] (liftSp K sp_read_question))
    (F_word_at : FnOk P w K mg base CX0 3 A.a_word_at A.f_word_at ["words", "number", "right"] (liftSp K sp_word_at))
    (F_read_part : FnOk P w K mg base CX0 (5 + dd) A.a_read_part A.f_read_part ["form", "words", "start", "within", "knots"] (liftSp K (sp_read_part_lt dd))) : FnOk P w K mg base CX0 (5 + dd + 1) A.a_read_part A.f_read_part ["form", "words", "start", "within", "knots"] (liftSp K (sp_read_part_lt (dd + 1))) := by
  refine fnT T.F_read_part sc_read_part (fun ds Q h => by obtain ⟨fs, an, pre, post, t, w, k, rfl, F, ht, hw, hk, hd, h⟩ := h; rfl) fun cdv Ar outer s H E hr ds Q h => ?_
  obtain ⟨fs, an, pre, post, t, w, k, rfl, F, ht, hw, hk, hd, h⟩ := h
  have nd := sc_read_part.nd
  refine ⟨_, (st_cons (st_if (tt_cmp op_eq o_eq (et_call F_word_at T.m_word_at T.k_word_at T.d_word_at (hr.mono (by omega)) (at_cons (et_v 1) (at_cons (et_v 2) (at_cons (et_tup (at_cons et_str (at_cons et_str at_nil))) at_nil))) (fun h => pe_call F_word_at (hr.mono (by omega)) rfl T.m_word_at T.k_word_at T.d_word_at .nil pass0 h)) et_str)
  (st_one (st_ret (et_tup (at_cons (et_tup (at_cons et_str (at_cons (et_call F_word_at T.m_word_at T.k_word_at T.d_word_at (hr.mono (by omega)) (at_cons (et_v 1) (at_cons (et_op op_addAny o_add (et_v 2) et_int) (at_cons (et_ix ix_seq o_ix (et_v 0) et_int) at_nil))) (fun h => pe_call F_word_at (hr.mono (by omega)) rfl T.m_word_at T.k_word_at T.d_word_at .nil pass0 h)) at_nil))) (at_cons (et_op op_addAny o_add (et_v 2) et_int) (at_cons (et_v 4) at_nil))))))
  st_nil)
  (st_cons (st_if (tw_pt (tw_or (tt_cmp op_eq o_eq (et_v 3) (et_gint rfl T.c_MOST_DEEP)) (tw_or1 (tt_cmp op_eq o_eq (et_v 4) (et_gint rfl T.c_MOST_KNOTS)))))
  (st_one st_no)
  st_nil)
  (st_cons (st_set (i := 5) (et_call F_read_question T.m_read_question T.k_read_question T.d_read_question (hr.mono (by omega)) (at_cons (et_v 0) (at_cons (et_v 1) (at_cons (et_op op_addAny o_add (et_v 2) et_int) at_nil))) (fun h => pe_call F_read_question (hr.mono (by omega)) rfl T.m_read_question T.k_read_question T.d_read_question .nil pass0 h)) (fun h => ps_set (i := 5) nd rfl (by first | exact Or.inl rfl | exact Or.inr rfl) h))
  (st_cons (st_set (i := 6) (et_call F_word_at T.m_word_at T.k_word_at T.d_word_at (hr.mono (by omega)) (at_cons (et_v 1) (at_cons (et_op op_addAny o_add (et_v 2) et_int) (at_cons (et_gtup rfl T.c_SIDES T.t_SIDES) at_nil))) (fun h => pe_call F_word_at (hr.mono (by omega)) rfl T.m_word_at T.k_word_at T.d_word_at .nil pass0 h)) (fun h => ps_set (i := 6) nd rfl (by first | exact Or.inl rfl | exact Or.inr rfl) h))
  (st_cons (st_set (i := 7) (et_call F_read_part T.m_read_part T.k_read_part T.d_read_part (hr.mono (by omega)) (at_cons (et_v 0) (at_cons (et_v 1) (at_cons (et_op op_addAny o_add (et_v 2) et_int) (at_cons (et_op op_addAny o_add (et_v 3) et_int) (at_cons (et_op op_addAny o_add (et_v 4) et_int) at_nil))))) (fun h => pe_call F_read_part (hr.mono (by omega)) rfl T.m_read_part T.k_read_part T.d_read_part .nil pass0 h)) (fun h => ps_set (i := 7) nd rfl (by first | exact Or.inl rfl | exact Or.inr rfl) h))
  (st_cons (st_set (i := 8) (et_call F_read_part T.m_read_part T.k_read_part T.d_read_part (hr.mono (by omega)) (at_cons (et_v 0) (at_cons (et_v 1) (at_cons (et_ix ix_seq o_ix (et_v 7) et_int) (at_cons (et_op op_addAny o_add (et_v 3) et_int) (at_cons (et_ix ix_seq o_ix (et_v 7) et_int) at_nil))))) (fun h => pe_call F_read_part (hr.mono (by omega)) rfl T.m_read_part T.k_read_part T.d_read_part .nil pass0 h)) (fun h => ps_set (i := 8) nd rfl (by first | exact Or.inl rfl | exact Or.inr rfl) h))
  (st_one (st_ret (et_tup (at_cons (et_tup (at_cons et_str (at_cons (et_v 5) (at_cons (et_v 6) (at_cons (et_ix ix_seq o_ix (et_v 7) et_int) (at_cons (et_ix ix_seq o_ix (et_v 8) et_int) at_nil)))))) (at_cons (et_ix ix_seq o_ix (et_v 8) et_int) (at_cons (et_ix ix_seq o_ix (et_v 8) et_int) at_nil)))))))))))), ?_⟩
  have two : ∀ y ∈ (["say", "ask"] : List Str), nmS y = true := fun y hy => by
    rcases List.mem_cons.mp hy with rfl | hy
    · exact nm_say
    · rw [List.mem_singleton.mp hy]; exact nm_ask
  have a2 := F.a2
  cases t with
  | say a =>
    show sSeq _ _ _ [.val (frmD fs an), .val (.list ((pre ++ (wordsT (.say a) ++ post)).map PyData.str)), .val (.int pre.length), .val (.int w), .val (.int k), .un, .un, .un, .un]
    have g0 : (pre ++ (wordsT (.say a) ++ post))[pre.length]? = some "say" := by rw [List.getElem?_append_right (Nat.le_refl _), Nat.sub_self]; rfl
    have g1 : (pre ++ (wordsT (.say a) ++ post))[pre.length + 1]? = some a := by rw [List.getElem?_append_right (by omega), Nat.add_sub_cancel_left]; rfl
    refine seq_if (fun b => b = true) (fun q hq => ⟨_, rfl, _, rfl, Nat.le_of_ble_eq_true rfl, _, pre.length, "say", ["say", "ask"], _, rfl, g0, .inl rfl, List.mem_cons_self .., two, hq _ rfl⟩) (fun _ => ?_) fun hF => by cases hF
    exact ⟨_, rfl, _, rfl, _, rfl, _, rfl, _, pre.length + 1, a, an, _, rfl, g1, .inl rfl, ht, F.an.2.1, Nat.le_of_ble_eq_true rfl, _, rfl, _, rfl, Nat.le_of_ble_eq_true rfl, h⟩
  | ask kk n v s y m =>
    show sSeq _ _ _ [.val (frmD fs an), .val (.list ((pre ++ (wordsT (.ask kk n v s y m) ++ post)).map PyData.str)), .val (.int pre.length), .val (.int w), .val (.int k), .un, .un, .un, .un]
    have e1 : (Tr.ask kk n v s y m).dep = max y.dep m.dep + 1 := rfl
    have e2 : (Tr.ask kk n v s y m).kn = y.kn + m.kn + 1 := rfl
    rw [e1] at hd hw
    rw [e2] at hk
    obtain ⟨hq, hs, hy, hm⟩ := ht
    have at_ : ∀ j : Nat, (pre ++ (wordsT (.ask kk n v s y m) ++ post))[pre.length + j]? = ((["ask", n, kk, v, s] : List Str) ++ (wordsT y ++ (wordsT m ++ post)))[j]? := fun j => by
      rw [List.getElem?_append_right (by omega), Nat.add_sub_cancel_left]
      show (((["ask", n, kk, v, s] : List Str) ++ (wordsT y ++ wordsT m)) ++ post)[j]? = _
      rw [List.append_assoc, List.append_assoc]
    have g0 : (pre ++ (wordsT (.ask kk n v s y m) ++ post))[pre.length]? = some "ask" := at_ 0
    refine seq_if (fun b => b = false) (fun q hq => ⟨_, rfl, _, rfl, Nat.le_of_ble_eq_true rfl, _, pre.length, "ask", ["say", "ask"], _, rfl, g0, .inl rfl, by simp, two, hq _ ?_⟩) (fun hT => by cases hT) fun _ => ?_
    · decide +kernel
    try unfold sNext
    dsimp only
    refine seq_if (fun b => b = false) (fun q hq => ⟨_, rfl, ?_⟩) (fun hT => by cases hT) fun _ => ?_
    · have z1 : decide ((w : Int) = 30) = false := decide_eq_false (by omega)
      have z2 : decide ((k : Int) = 500) = false := decide_eq_false (by omega)
      show (if decide ((w : Int) = 30) = true then _ else _)
      rw [z1, if_neg (by decide)]
      refine ⟨_, rfl, ?_⟩
      show q (decide ((k : Int) = 500))
      rw [z2]; exact hq _ rfl
    try unfold sNext
    dsimp only
    refine seq_set (.tuple [.str kk, .str n, .str v]) (fun q hq' => ⟨_, rfl, _, rfl, _, rfl, fs, an, _, pre.length + 1, kk, n, v, rfl, F, hq, at_ 1, at_ 2, at_ 3, hq'⟩) ?_
    have sd : s ∈ (["yes", "no"] : List Str) := by rcases hs with rfl | rfl <;> simp
    refine seq_set (.str s) (fun q hq' => ⟨_, rfl, _, rfl, _, pre.length + 4, s, ["yes", "no"], _, rfl, at_ 4, .inl rfl, sd, fun y hy => ?_, hq'⟩) ?_
    · rcases List.mem_cons.mp hy with rfl | hy
      · exact nm_yes
      · rw [List.mem_singleton.mp hy]; exact nm_no
    have ew : pre ++ (wordsT (.ask kk n v s y m) ++ post) = (pre ++ (["ask", n, kk, v, s] : List Str)) ++ (wordsT y ++ (wordsT m ++ post)) := by
      show pre ++ (((["ask", n, kk, v, s] : List Str) ++ (wordsT y ++ wordsT m)) ++ post) = _
      simp only [List.append_assoc]
    have ew2 : pre ++ (wordsT (.ask kk n v s y m) ++ post) = (pre ++ (["ask", n, kk, v, s] : List Str) ++ wordsT y) ++ (wordsT m ++ post) := by
      rw [ew]; simp only [List.append_assoc]
    have el : (pre ++ (["ask", n, kk, v, s] : List Str)).length = pre.length + 5 := by rw [List.length_append]; rfl
    have el2 : (pre ++ (["ask", n, kk, v, s] : List Str) ++ wordsT y).length = pre.length + 5 + (wordsT y).length := by rw [List.length_append, el]
    refine seq_set (.tuple [trD y, .int ((pre.length + 5 + (wordsT y).length : Nat) : Int), .int ((k + 1 + y.kn : Nat) : Int)]) (fun q hq' => ⟨_, rfl, _, rfl, _, rfl, _, rfl, _, rfl, fs, an, pre ++ (["ask", n, kk, v, s] : List Str), wordsT m ++ post, y, w + 1, k + 1, ?_, F, hy, by omega, by omega, by omega, ?_⟩) ?_
    · rw [ew, el]; rfl
    · rw [el]; exact hq'
    refine seq_set (.tuple [trD m, .int ((pre.length + 5 + (wordsT y).length + (wordsT m).length : Nat) : Int), .int ((k + 1 + y.kn + m.kn : Nat) : Int)]) (fun q hq' => ⟨_, rfl, _, rfl, _, rfl, _, rfl, _, rfl, _, rfl, _, rfl, fs, an, pre ++ (["ask", n, kk, v, s] : List Str) ++ wordsT y, post, m, w + 1, k + 1 + y.kn, ?_, F, hm, by omega, by omega, by omega, ?_⟩) ?_
    · rw [ew2, el2]; rfl
    · rw [el2]; exact hq'
    refine ⟨_, rfl, _, rfl, _, rfl, _, rfl, _, rfl, _, rfl, Nat.le_of_ble_eq_true rfl, _, rfl, _, rfl, _, rfl, _, rfl, Nat.le_of_ble_eq_true rfl, ?_⟩
    have z1 : pre.length + (wordsT (.ask kk n v s y m)).length = pre.length + 5 + (wordsT y).length + (wordsT m).length := by
      show pre.length + ((["ask", n, kk, v, s] : List Str) ++ (wordsT y ++ wordsT m)).length = _
      rw [List.length_append, List.length_append]
      show pre.length + (5 + _) = _
      omega
    have z2 : k + (Tr.ask kk n v s y m).kn = k + 1 + y.kn + m.kn := by rw [e2]; omega
    rw [z1, z2] at h
    exact h

theorem ok_read_part (T : Txt K mg A)
    (F_read_question : FnOk P w K mg base CX0 4 A.a_read_question A.f_read_question ["form", "words", "start"] (liftSp K sp_read_question))
    (F_word_at : FnOk P w K mg base CX0 3 A.a_word_at A.f_word_at ["words", "number", "right"] (liftSp K sp_word_at)) : FnOk P w K mg base CX0 36 A.a_read_part A.f_read_part ["form", "words", "start", "within", "knots"] (liftSp K sp_read_part) := by
  have h : ∀ dd : Nat, FnOk P w K mg base CX0 (5 + dd) A.a_read_part A.f_read_part ["form", "words", "start", "within", "knots"] (liftSp K (sp_read_part_lt dd)) := fun dd => by
    induction dd with
    | zero => exact fn_imp fn_never fun ds Q h => never_read_part h
    | succ dd ih => exact step_read_part dd T F_read_question F_word_at ih
  exact h 31
set_option maxHeartbeats 4000000 in
theorem stepX_read_part (dd : Nat) (T : Txt K mg A)
    (F_read_part : FnOk P w K mg base CX0 36 A.a_read_part A.f_read_part ["form", "words", "start", "within", "knots"] (liftSp K sp_read_part))
    (F_read_question : FnOk P w K mg base CX0 4 A.a_read_question A.f_read_question ["form", "words", "start"] (liftSp K sp_read_question))
    (F_word_at : FnOk P w K mg base CX0 3 A.a_word_at A.f_word_at ["words", "number", "right"] (liftSp K sp_word_at))
    (X_read_question : FnOk P w K mg base (CX1 P w) 4 A.a_read_question A.f_read_question ["form", "words", "start"] (liftSpX K (sp_read_questionX A)))
    (X_word_at : FnOk P w K mg base (CX1 P w) 3 A.a_word_at A.f_word_at ["words", "number", "right"] (liftSpX K (sp_word_atX A)))
    (X_read_part : FnOk P w K mg base (CX1 P w) (37 + dd) A.a_read_part A.f_read_part ["form", "words", "start", "within", "knots"] (liftSpX K (sp_read_partX_lt A dd))) : FnOk P w K mg base (CX1 P w) (37 + dd + 1) A.a_read_part A.f_read_part ["form", "words", "start", "within", "knots"] (liftSpX K (sp_read_partX_lt A (dd + 1))) := by
  refine fnX T.F_read_part sc_read_part (fun ds Q h => by obtain ⟨fs, an, ws, i, w, k, n, rfl, F, hC, hw, hk, hd, hb, h⟩ := h; rfl) fun cdv Ar outer s H E hr ds ED h hE => ?_
  obtain ⟨fs, an, ws, i, w, k, n, rfl, F, hC, hw, hk, hd, hb, h⟩ := h
  have nd := sc_read_part.nd
  refine ⟨_, (st_cons (PSt.or (st_if (tt_cmp op_eq o_eq (et_call F_word_at T.m_word_at T.k_word_at T.d_word_at (hr.mono (by omega)) (at_cons (et_v 1) (at_cons (et_v 2) (at_cons (et_tup (at_cons et_str (at_cons et_str at_nil))) at_nil))) (fun h => pe_call F_word_at (hr.mono (by omega)) rfl T.m_word_at T.k_word_at T.d_word_at .nil pass0 h)) et_str)
  (st_one (st_retX (ex_tup (ax_here (ex_tup (ax_next et_str (ax_here (ex_call hE (at_cons (et_v 1) (at_cons (et_op op_addAny o_add (et_v 2) et_int) (at_cons (et_ix ix_seq o_ix (et_v 0) et_int) at_nil))) (fun h => pe_call X_word_at (hr.mono (by omega)) rfl T.m_word_at T.k_word_at T.d_word_at .nil pass1 h)))))))))
  st_nil)
  (st_ifX (tx_cmp op_eq (ex_call hE (at_cons (et_v 1) (at_cons (et_v 2) (at_cons (et_tup (at_cons et_str (at_cons et_str at_nil))) at_nil))) (fun h => pe_call X_word_at (hr.mono (by omega)) rfl T.m_word_at T.k_word_at T.d_word_at .nil pass1 h)))))
  (st_cons (st_if (tw_pt (tw_or (tt_cmp op_eq o_eq (et_v 3) (et_gint rfl T.c_MOST_DEEP)) (tw_or1 (tt_cmp op_eq o_eq (et_v 4) (et_gint rfl T.c_MOST_KNOTS)))))
  (st_one (st_raiseI hE T.X_NoText (at_cons (et_v 2) at_nil) (fun h => ps_raiseI (k := 0) T.I_NoText (ok_init_NoText T) T.i_NoText (hr.mono (by omega)) rfl T.x_NoText h)))
  st_nil)
  (st_cons (PSt.or (st_set (i := 5) (et_call F_read_question T.m_read_question T.k_read_question T.d_read_question (hr.mono (by omega)) (at_cons (et_v 0) (at_cons (et_v 1) (at_cons (et_op op_addAny o_add (et_v 2) et_int) at_nil))) (fun h => pe_call F_read_question (hr.mono (by omega)) rfl T.m_read_question T.k_read_question T.d_read_question .nil pass0 h)) (fun h => ps_set (i := 5) nd rfl (by first | exact Or.inl rfl | exact Or.inr rfl) h))
  (st_setX (i := 5) (ex_call hE (at_cons (et_v 0) (at_cons (et_v 1) (at_cons (et_op op_addAny o_add (et_v 2) et_int) at_nil))) (fun h => pe_call X_read_question (hr.mono (by omega)) rfl T.m_read_question T.k_read_question T.d_read_question .nil pass1 h)) (fun h => ps_set (i := 5) nd rfl (by first | exact Or.inl rfl | exact Or.inr rfl) h)))
  (st_cons (PSt.or (st_set (i := 6) (et_call F_word_at T.m_word_at T.k_word_at T.d_word_at (hr.mono (by omega)) (at_cons (et_v 1) (at_cons (et_op op_addAny o_add (et_v 2) et_int) (at_cons (et_gtup rfl T.c_SIDES T.t_SIDES) at_nil))) (fun h => pe_call F_word_at (hr.mono (by omega)) rfl T.m_word_at T.k_word_at T.d_word_at .nil pass0 h)) (fun h => ps_set (i := 6) nd rfl (by first | exact Or.inl rfl | exact Or.inr rfl) h))
  (st_setX (i := 6) (ex_call hE (at_cons (et_v 1) (at_cons (et_op op_addAny o_add (et_v 2) et_int) (at_cons (et_gtup rfl T.c_SIDES T.t_SIDES) at_nil))) (fun h => pe_call X_word_at (hr.mono (by omega)) rfl T.m_word_at T.k_word_at T.d_word_at .nil pass1 h)) (fun h => ps_set (i := 6) nd rfl (by first | exact Or.inl rfl | exact Or.inr rfl) h)))
  (st_cons (PSt.or (st_set (i := 7) (et_call F_read_part T.m_read_part T.k_read_part T.d_read_part (hr.mono (by omega)) (at_cons (et_v 0) (at_cons (et_v 1) (at_cons (et_op op_addAny o_add (et_v 2) et_int) (at_cons (et_op op_addAny o_add (et_v 3) et_int) (at_cons (et_op op_addAny o_add (et_v 4) et_int) at_nil))))) (fun h => pe_call F_read_part (hr.mono (by omega)) rfl T.m_read_part T.k_read_part T.d_read_part .nil pass0 h)) (fun h => ps_set (i := 7) nd rfl (by first | exact Or.inl rfl | exact Or.inr rfl) h))
  (st_setX (i := 7) (ex_call hE (at_cons (et_v 0) (at_cons (et_v 1) (at_cons (et_op op_addAny o_add (et_v 2) et_int) (at_cons (et_op op_addAny o_add (et_v 3) et_int) (at_cons (et_op op_addAny o_add (et_v 4) et_int) at_nil))))) (fun h => pe_call X_read_part (hr.mono (by omega)) rfl T.m_read_part T.k_read_part T.d_read_part .nil pass1 h)) (fun h => ps_set (i := 7) nd rfl (by first | exact Or.inl rfl | exact Or.inr rfl) h)))
  (st_cons (st_setX (i := 8) (ex_call hE (at_cons (et_v 0) (at_cons (et_v 1) (at_cons (et_ix ix_seq o_ix (et_v 7) et_int) (at_cons (et_op op_addAny o_add (et_v 3) et_int) (at_cons (et_ix ix_seq o_ix (et_v 7) et_int) at_nil))))) (fun h => pe_call X_read_part (hr.mono (by omega)) rfl T.m_read_part T.k_read_part T.d_read_part .nil pass1 h)) (fun h => ps_set (i := 8) nd rfl (by first | exact Or.inl rfl | exact Or.inr rfl) h))
  (st_one st_no))))))), ?_⟩
  show sSeq _ _ _ [.val (frmD fs an), .val (.list (ws.map PyData.str)), .val (.int i), .val (.int w), .val (.int k), .un, .un, .un, .un]
  have two : ∀ y ∈ (["say", "ask"] : List Str), nmS y = true := fun y hy => by
    rcases List.mem_cons.mp hy with rfl | hy
    · exact nm_say
    · rw [List.mem_singleton.mp hy]; exact nm_ask
  have yn : ∀ y ∈ (["yes", "no"] : List Str), nmS y = true := fun y hy => by
    rcases List.mem_cons.mp hy with rfl | hy
    · exact nm_yes
    · rw [List.mem_singleton.mp hy]; exact nm_no
  unfold rd at hb
  show (_ ∨ _)
  cases h0 : getW ws i ["say", "ask"] with
  | error m =>
    rw [h0] at hb
    cases hb
    exact .inr ⟨⟨_, rfl, _, rfl, Nat.le_of_ble_eq_true rfl, ws, i, n, ["say", "ask"], _, rfl, .inl rfl, two, hC, h0, h⟩, fun B hB => hB⟩
  | ok w0 =>
    rw [h0] at hb
    dsimp only at hb
    obtain ⟨g0, m0⟩ := getW_at h0
    by_cases hs : w0 = "say"
    · rw [if_pos hs] at hb
      subst hs
      refine .inl (one_if (fun b => b = true) (fun q hq => ⟨_, rfl, _, rfl, Nat.le_of_ble_eq_true rfl, _, i, "say", ["say", "ask"], _, rfl, g0, .inl rfl, m0, two, hq _ rfl⟩) (fun _ => ?_) fun hF => by cases hF)
      cases ha : getW ws (i + 1) an with
      | ok a => rw [ha] at hb; cases hb
      | error m =>
        rw [ha] at hb
        cases hb
        exact ⟨⟨_, rfl, _, rfl, _, rfl, _, rfl, ws, i + 1, n, an, _, rfl, .inl rfl, F.an.2.1, hC, ha, h⟩, fun B hB => hB⟩
    · rw [if_neg hs] at hb
      have hask := say_ask m0 hs
      subst hask
      refine .inl (one_if (fun b => b = false) (fun q hq => ⟨_, rfl, _, rfl, Nat.le_of_ble_eq_true rfl, _, i, "ask", ["say", "ask"], _, rfl, g0, .inl rfl, m0, two, hq _ (by decide +kernel)⟩) (fun hT => by cases hT) fun _ => ?_)
      try unfold sNext
      dsimp only
      by_cases hz : dd = 0 ∨ k = 500
      · rw [if_pos hz] at hb
        cases hb
        refine seq_if (fun b => b = true) (fun q hq => ⟨_, rfl, ?_⟩) (fun _ => ⟨_, rfl, _, rfl, h, fun B hB => hB⟩) fun hF => by cases hF
        show (if decide ((w : Int) = 30) = true then q true else _)
        by_cases z1 : (w : Int) = 30
        · rw [if_pos (decide_eq_true z1)]
          exact hq _ rfl
        · rw [if_neg (by simpa using z1)]
          exact ⟨_, rfl, hq _ (decide_eq_true (by omega))⟩
      · rw [if_neg hz] at hb
        refine seq_if (fun b => b = false) (fun q hq => ⟨_, rfl, ?_⟩) (fun hT => by cases hT) fun _ => ?_
        · have z1 : decide ((w : Int) = 30) = false := decide_eq_false (by omega)
          have z2 : decide ((k : Int) = 500) = false := decide_eq_false (by omega)
          show (if decide ((w : Int) = 30) = true then _ else _)
          rw [z1, if_neg (by decide)]
          exact ⟨_, rfl, hq _ z2⟩
        try unfold sNext
        dsimp only
        show (_ ∨ _)
        cases h1 : getW ws (i + 1) (fs.map (·.1)) with
        | error m =>
          rw [h1] at hb
          cases hb
          exact .inr ⟨⟨_, rfl, _, rfl, _, rfl, fs, an, ws, i + 1, n, rfl, F, hC, (by unfold rdQ; rw [h1]), h⟩, fun B hB => hB⟩
        | ok nm =>
          rw [h1] at hb
          dsimp only at hb
          cases h2 : getW ws (i + 2) ["is", "upto"] with
          | error m =>
            rw [h2] at hb
            cases hb
            exact .inr ⟨⟨_, rfl, _, rfl, _, rfl, fs, an, ws, i + 1, n, rfl, F, hC, (by unfold rdQ; rw [h1]; dsimp only; rw [show i + 1 + 1 = i + 2 from rfl, h2]), h⟩, fun B hB => hB⟩
          | ok kk =>
            rw [h2] at hb
            dsimp only at hb
            cases h3 : getW ws (i + 3) (asked kk (fldAt fs (fldOf fs nm))) with
            | error m =>
              rw [h3] at hb
              cases hb
              exact .inr ⟨⟨_, rfl, _, rfl, _, rfl, fs, an, ws, i + 1, n, rfl, F, hC, (by unfold rdQ; rw [h1]; dsimp only; rw [show i + 1 + 1 = i + 2 from rfl, h2]; dsimp only; rw [show i + 1 + 2 = i + 3 from rfl, h3]), h⟩, fun B hB => hB⟩
            | ok v =>
              rw [h3] at hb
              dsimp only at hb
              obtain ⟨hqq, q1, q2, q3⟩ := rdQ_of (i := i + 1) h1 h2 h3
              refine .inl ⟨_, rfl, _, rfl, _, rfl, fs, an, ws, i + 1, kk, nm, v, rfl, F, hqq, q1, q2, q3, ?_⟩
              dsimp only
              show (_ ∨ _)
              cases h4 : getW ws (i + 4) ["yes", "no"] with
              | error m =>
                rw [h4] at hb
                cases hb
                exact .inr ⟨⟨_, rfl, _, rfl, ws, i + 4, n, ["yes", "no"], _, rfl, .inl rfl, yn, hC, h4, h⟩, fun B hB => hB⟩
              | ok sd =>
                rw [h4] at hb
                dsimp only at hb
                obtain ⟨g4, m4⟩ := getW_at h4
                refine .inl ⟨_, rfl, _, rfl, ws, i + 4, sd, ["yes", "no"], _, rfl, g4, .inl rfl, m4, yn, ?_⟩
                dsimp only
                show (_ ∨ _)
                cases hy : rd fs an ws dd (i + 5) (k + 1) with
                | error m =>
                  rw [hy] at hb
                  cases hb
                  exact .inr ⟨⟨_, rfl, _, rfl, _, rfl, _, rfl, _, rfl, fs, an, ws, i + 5, w + 1, k + 1, n, rfl, F, hC, by omega, by omega, by omega, hy, h⟩, fun B hB => hB⟩
                | ok p =>
                  obtain ⟨y, i', k'⟩ := p
                  rw [hy] at hb
                  dsimp only at hb
                  obtain ⟨pre, post, ew, el, ht, hdp, ek, hk5, ei⟩ := rd_pre hy (by omega) (by omega)
                  refine .inl ⟨_, rfl, _, rfl, _, rfl, _, rfl, _, rfl, fs, an, pre, post, y, w + 1, k + 1, ?_, F, ht, by omega, by omega, by omega, ?_⟩
                  · rw [← ew, el]; rfl
                  dsimp only
                  rw [el, ← ei, ← ek]
                  cases hm : rd fs an ws dd i' k' with
                  | ok q => rw [hm] at hb; cases hb
                  | error m =>
                    rw [hm] at hb
                    cases hb
                    exact ⟨⟨_, rfl, _, rfl, _, rfl, _, rfl, _, rfl, _, rfl, _, rfl, fs, an, ws, i', w + 1, k', n, rfl, F, hC, by omega, hk5, by omega, hm, h⟩, fun B hB => hB⟩

theorem okX_read_part (T : Txt K mg A)
    (F_read_part : FnOk P w K mg base CX0 36 A.a_read_part A.f_read_part ["form", "words", "start", "within", "knots"] (liftSp K sp_read_part))
    (F_read_question : FnOk P w K mg base CX0 4 A.a_read_question A.f_read_question ["form", "words", "start"] (liftSp K sp_read_question))
    (F_word_at : FnOk P w K mg base CX0 3 A.a_word_at A.f_word_at ["words", "number", "right"] (liftSp K sp_word_at))
    (X_read_question : FnOk P w K mg base (CX1 P w) 4 A.a_read_question A.f_read_question ["form", "words", "start"] (liftSpX K (sp_read_questionX A)))
    (X_word_at : FnOk P w K mg base (CX1 P w) 3 A.a_word_at A.f_word_at ["words", "number", "right"] (liftSpX K (sp_word_atX A))) : FnOk P w K mg base (CX1 P w) (68) A.a_read_part A.f_read_part ["form", "words", "start", "within", "knots"] (liftSpX K (sp_read_partX A)) := by
  have h : ∀ dd : Nat, FnOk P w K mg base (CX1 P w) (37 + dd) A.a_read_part A.f_read_part ["form", "words", "start", "within", "knots"] (liftSpX K (sp_read_partX_lt A dd)) := fun dd => by
    induction dd with
    | zero => exact ⟨fun vs H Q E h => (never_read_partX h.choose_spec.choose_spec.choose_spec.2.2.1).elim, fun A outer s H args us vs Q E _ _ _ _ h => (never_read_partX h.choose_spec.choose_spec.choose_spec.2.2.1).elim⟩
    | succ dd ih => exact stepX_read_part dd T F_read_part F_read_question F_word_at X_read_question X_word_at ih
  exact h 31
theorem sc_read_tree : FnScope ["form", "text", "words", "found"] ["form", "text"] (defScope (top 19)) := ⟨rfl, rfl, rfl, by decide +kernel, rfl, by decide +kernel, by decide +kernel⟩
set_option maxHeartbeats 4000000 in
theorem ok_read_tree (T : Txt K mg A)
    (F_read_part : FnOk P w K mg base CX0 36 A.a_read_part A.f_read_part ["form", "words", "start", "within", "knots"] (liftSp K sp_read_part)) : FnOk P w K mg base CX0 69 A.a_read_tree A.f_read_tree ["form", "text"] (liftSp K sp_read_tree) := by
  refine fnT T.F_read_tree sc_read_tree (fun ds Q h => by obtain ⟨fs, an, t, rfl, F, ht, hd, hk, h⟩ := h; rfl) fun cdv Ar outer s H E hr ds Q h => ?_
  obtain ⟨fs, an, t, rfl, F, ht, hd, hk, h⟩ := h
  have nd := sc_read_tree.nd
  refine ⟨_, (st_cons (st_set (i := 2) (et_split (et_v 1) (at_cons et_str at_nil) (fun h ha => pe_bm PySem.F.plainAttrs_str PySem.F.slot_str_split PySem.F.type_str_split mt_split h ha)) (fun h => ps_set (i := 2) nd rfl (by first | exact Or.inl rfl | exact Or.inr rfl) h))
  (st_cons (st_set (i := 3) (et_call F_read_part T.m_read_part T.k_read_part T.d_read_part (hr.mono (by decide)) (at_cons (et_v 0) (at_cons (et_v 2) (at_cons et_int (at_cons et_int (at_cons et_int at_nil))))) (fun h => pe_call F_read_part (hr.mono (by decide)) rfl T.m_read_part T.k_read_part T.d_read_part .nil pass0 h)) (fun h => ps_set (i := 3) nd rfl (by first | exact Or.inl rfl | exact Or.inr rfl) h))
  (st_cons (st_if (tt_cmp op_lt o_B0 (et_ix ix_seq o_ix (et_v 3) et_int) (et_cb c_len (at_cons (et_v 2) at_nil) (fun h => pe_callB call_lenAny rfl T.b_len bl_len h)))
  (st_one st_no)
  st_nil)
  (st_one (st_ret (et_ix ix_seq o_ix (et_v 3) et_int)))))), ?_⟩
  show sSeq _ _ _ [.val (frmD fs an), .val (.str (shownT t)), .un, .un]
  have hl := shown_len F ht
  refine seq_set (.list ((wordsT t).map PyData.str)) (fun q hq => ⟨_, rfl, _, rfl, ?_⟩) ?_
  · show (blank.length == 0) = false ∧ (shownT t).length ≤ 100000 ∧ q (.list ((Txt.split (shownT t) blank).map PyData.str))
    rw [split_shown F ht]
    exact ⟨by decide +kernel, by omega, hq⟩
  refine seq_set (.tuple [trD t, .int ((0 + (wordsT t).length : Nat) : Int), .int ((0 + t.kn : Nat) : Int)]) (fun q hq => ⟨_, rfl, _, rfl, fs, an, [], [], t, 0, 0, ?_, F, ht, by omega, by omega, by omega, hq⟩) ?_
  · rw [List.append_nil]; rfl
  refine seq_if (fun b => b = false) (fun q hq => ⟨_, rfl, _, rfl, _, rfl, hq _ ?_⟩) (fun hT => by cases hT) fun _ => ?_
  · refine decide_eq_false ?_
    rw [List.length_map]
    omega
  try unfold sNext
  dsimp only
  exact ⟨_, rfl, _, rfl, h⟩

set_option maxHeartbeats 4000000 in
theorem okX_read_tree (T : Txt K mg A)
    (F_read_part : FnOk P w K mg base CX0 36 A.a_read_part A.f_read_part ["form", "words", "start", "within", "knots"] (liftSp K sp_read_part))
    (X_read_part : FnOk P w K mg base (CX1 P w) 68 A.a_read_part A.f_read_part ["form", "words", "start", "within", "knots"] (liftSpX K (sp_read_partX A))) : FnOk P w K mg base (CX1 P w) 69 A.a_read_tree A.f_read_tree ["form", "text"] (liftSpX K (sp_read_treeX A)) := by
  refine fnX T.F_read_tree sc_read_tree (fun ds Q h => by obtain ⟨fs, an, z, n, rfl, F, hC, hz, hb, h⟩ := h; rfl) fun cdv Ar outer s H E hr ds ED h hE => ?_
  obtain ⟨fs, an, z, n, rfl, F, hC, hz, hb, h⟩ := h
  have nd := sc_read_tree.nd
  refine ⟨_, (st_cons (st_set (i := 2) (et_split (et_v 1) (at_cons et_str at_nil) (fun h ha => pe_bm PySem.F.plainAttrs_str PySem.F.slot_str_split PySem.F.type_str_split mt_split h ha)) (fun h => ps_set (i := 2) nd rfl (by first | exact Or.inl rfl | exact Or.inr rfl) h))
  (st_cons (PSt.or (st_set (i := 3) (et_call F_read_part T.m_read_part T.k_read_part T.d_read_part (hr.mono (by decide)) (at_cons (et_v 0) (at_cons (et_v 2) (at_cons et_int (at_cons et_int (at_cons et_int at_nil))))) (fun h => pe_call F_read_part (hr.mono (by decide)) rfl T.m_read_part T.k_read_part T.d_read_part .nil pass0 h)) (fun h => ps_set (i := 3) nd rfl (by first | exact Or.inl rfl | exact Or.inr rfl) h))
  (st_setX (i := 3) (ex_call hE (at_cons (et_v 0) (at_cons (et_v 2) (at_cons et_int (at_cons et_int (at_cons et_int at_nil))))) (fun h => pe_call X_read_part (hr.mono (by decide)) rfl T.m_read_part T.k_read_part T.d_read_part .nil pass1 h)) (fun h => ps_set (i := 3) nd rfl (by first | exact Or.inl rfl | exact Or.inr rfl) h)))
  (st_cons (st_if (tt_cmp op_lt o_B0 (et_ix ix_seq o_ix (et_v 3) et_int) (et_cb c_len (at_cons (et_v 2) at_nil) (fun h => pe_callB call_lenAny rfl T.b_len bl_len h)))
  (st_one (st_raiseI hE T.X_NoText (at_cons (et_ix ix_seq o_ix (et_v 3) et_int) at_nil) (fun h => ps_raiseI (k := 0) T.I_NoText (ok_init_NoText T) T.i_NoText (hr.mono (by decide)) rfl T.x_NoText h)))
  st_nil)
  (st_one st_no)))), ?_⟩
  show sSeq _ _ _ [.val (frmD fs an), .val (.str z), .un, .un]
  refine seq_set (.list ((Txt.split z blank).map PyData.str)) (fun q hq => ⟨_, rfl, _, rfl, ?_⟩) ?_
  · show (blank.length == 0) = false ∧ z.length ≤ 100000 ∧ q (.list ((Txt.split z blank).map PyData.str))
    exact ⟨by decide +kernel, by omega, hq⟩
  show (_ ∨ _)
  generalize Txt.split z blank = ws at hC hb
  rcases hb with hb | ⟨t, k, hb, hl⟩
  · exact .inr ⟨⟨_, rfl, _, rfl, fs, an, ws, 0, 0, 0, n, rfl, F, hC, rfl, by decide, by decide, hb, h⟩, fun B hB => hB⟩
  obtain ⟨pre, post, ew, el, ht, hdp, ek, hk5, ei⟩ := rd_pre hb (by decide) (by decide)
  refine .inl ⟨_, rfl, _, rfl, fs, an, pre, post, t, 0, 0, ?_, F, ht, by omega, by omega, hdp, ?_⟩
  · rw [← ew, el]; rfl
  dsimp only
  rw [el, ← ei, ← ek]
  refine seq_if (fun b => b = true) (fun q hq => ⟨_, rfl, _, rfl, _, rfl, hq _ ?_⟩) (fun _ => ?_) fun hF => by cases hF
  · refine decide_eq_true ?_
    rw [List.length_map]
    omega
  · exact ⟨_, rfl, _, rfl, n, rfl, h, fun B hB => hB⟩

theorem sc__law_mix : FnScope ["_law_cell", "_law_k", "_law_turn"] ["_law_cell", "_law_k"] (defScope (top 24)) := ⟨rfl, rfl, rfl, by decide +kernel, rfl, by decide +kernel, by decide +kernel⟩
set_option maxHeartbeats 4000000 in
theorem ok__law_mix (T : Txt K mg A) : FnOk P w K mg base CX0 1 A.a__law_mix A.f__law_mix ["_law_cell", "_law_k"] (liftSp K sp__law_mix) := by
  refine fnT T.F__law_mix sc__law_mix (fun ds Q h => by obtain ⟨c, k, rfl, h0, h1, h⟩ := h; rfl) fun cdv Ar outer s H E hr ds Q h => ?_
  obtain ⟨c, k, rfl, h0, h1, h⟩ := h
  have nd := sc__law_mix.nd
  refine ⟨_, (st_cons (st_set (i := 2) (et_op op_mod o_I (et_op op_addAny o_add (et_op op_addAny o_add (et_op op_mulAny o_mul (et_op op_mod o_I (et_v 0) et_int) et_int) (et_op op_mulAny o_mul (et_v 1) et_int)) et_int) et_int) (fun h => ps_set (i := 2) nd rfl (by first | exact Or.inl rfl | exact Or.inr rfl) h))
  (st_one (st_ret (et_op op_mod o_I (et_op op_mulAny o_mul (et_op op_mod o_I (et_op op_mulAny o_mul (et_v 2) (et_v 2)) et_int) et_int) et_int)))), ?_⟩
  walk_at "rd"
  have b1 := Int.emod_nonneg c (show (1000000007 : Int) ≠ 0 by decide)
  have b2 := Int.emod_lt_of_pos c (show (0 : Int) < 1000000007 by decide)
  generalize hx : (c % 1000000007 * 48271 + k * 7919 + 101) = x
  have b3 := Int.emod_nonneg x (show (2147483647 : Int) ≠ 0 by decide)
  have b4 := Int.emod_lt_of_pos x (show (0 : Int) < 2147483647 by decide)
  generalize hy : x % 2147483647 = y at *
  have b5 := Int.emod_nonneg (y * y) (show (2147483629 : Int) ≠ 0 by decide)
  have b6 := Int.emod_lt_of_pos (y * y) (show (0 : Int) < 2147483629 by decide)
  generalize hz : y * y % 2147483629 = z at *
  have p64 : (2 : Int) ^ 64 = 18446744073709551616 := by decide
  refine ⟨by decide, .inl ⟨by omega, by omega⟩, .inl ⟨by omega, by omega⟩, by decide, .inl ⟨by omega, by omega⟩, by decide, .inl ⟨by omega, by omega⟩, by decide, h _ ?_ ?_⟩
  · exact Int.emod_nonneg _ (by decide)
  · exact Int.emod_lt_of_pos _ (by decide)

theorem sc__law_cell_at : FnScope ["_law_script", "_law_k", "_law_seed"] ["_law_script", "_law_k"] (defScope (top 25)) := ⟨rfl, rfl, rfl, by decide +kernel, rfl, by decide +kernel, by decide +kernel⟩
set_option maxHeartbeats 4000000 in
theorem ok__law_cell_at (T : Txt K mg A)
    (F__law_mix : FnOk P w K mg base CX0 1 A.a__law_mix A.f__law_mix ["_law_cell", "_law_k"] (liftSp K sp__law_mix)) : FnOk P w K mg base CX0 2 A.a__law_cell_at A.f__law_cell_at ["_law_script", "_law_k"] (liftSp K sp__law_cell_at) := by
  refine fnT T.F__law_cell_at sc__law_cell_at (fun ds Q h => by obtain ⟨ns, k, rfl, hl, h0, h1, h⟩ := h; rfl) fun cdv Ar outer s H E hr ds Q h => ?_
  obtain ⟨ns, k, rfl, hl, h0, h1, h⟩ := h
  have nd := sc__law_cell_at.nd
  refine ⟨_, (st_cons (st_if (tt_cmp op_lt o_B0 (et_v 1) (et_cb c_len (at_cons (et_v 0) at_nil) (fun h => pe_callB call_lenAny rfl T.b_len bl_len h)))
  (st_one (st_ret (et_ix ix_seq o_ix (et_v 0) (et_v 1))))
  st_nil)
  (st_cons (st_set (i := 2) et_int (fun h => ps_set (i := 2) nd rfl (by first | exact Or.inl rfl | exact Or.inr rfl) h))
  (st_cons (st_if (tt_cmp op_gt o_B0 (et_cb c_len (at_cons (et_v 0) at_nil) (fun h => pe_callB call_lenAny rfl T.b_len bl_len h)) et_int)
  (st_one (st_set (i := 2) (et_ix ix_seq o_ix (et_v 0) (et_op op_mod o_I (et_v 1) (et_cb c_len (at_cons (et_v 0) at_nil) (fun h => pe_callB call_lenAny rfl T.b_len bl_len h)))) (fun h => ps_set (i := 2) nd rfl (by first | exact Or.inl rfl | exact Or.inr rfl) h)))
  st_nil)
  (st_one (st_ret (et_op op_addAny o_add (et_op op_mulAny o_mul et_int (et_call F__law_mix T.m__law_mix T.k__law_mix T.d__law_mix (hr.mono (by decide)) (at_cons (et_v 2) (at_cons (et_v 1) at_nil)) (fun h => pe_call F__law_mix (hr.mono (by decide)) rfl T.m__law_mix T.k__law_mix T.d__law_mix .nil pass0 h))) et_int)))))), ?_⟩
  walk_at "rd"
  have fin : ∀ c : Int, sp__law_mix [.int c, .int k] fun y => fMul (.int 2) y fun x => fAdd x (.int 1) Q := fun c =>
    ⟨c, k, rfl, h0, h1, fun r _ _ => ⟨.inl ⟨by decide, by decide⟩, h _⟩⟩
  rw [List.length_map]
  by_cases h2 : k < (ns.length : Int)
  · rw [if_pos (decide_eq_true h2)]
    obtain ⟨a, hm, ha, _⟩ := atI_in (xs := ns.map PyData.int) (i := k) h0 (by rw [List.length_map]; exact h2)
    obtain ⟨b, _, rfl⟩ := List.mem_map.mp hm
    exact ⟨_, ha, h b⟩
  · rw [if_neg (by simpa using h2)]
    by_cases h3 : 0 < (ns.length : Int)
    · rw [if_pos (decide_eq_true h3)]
      refine ⟨h3, ?_⟩
      obtain ⟨a, hm, ha, _⟩ := atI_in (xs := ns.map PyData.int) (i := k % (ns.length : Int)) (Int.emod_nonneg _ (by omega)) (by rw [List.length_map]; exact Int.emod_lt_of_pos _ h3)
      obtain ⟨b, _, rfl⟩ := List.mem_map.mp hm
      exact ⟨_, ha, fin b⟩
    · rw [if_neg (by simpa using h3)]
      exact fin 0

theorem sc__law_drawn : FnScope ["_law_cell", "_law_many", "_law_found", "_law_left", "_law_k"] ["_law_cell", "_law_many"] (defScope (top 26)) := ⟨rfl, rfl, rfl, by decide +kernel, rfl, by decide +kernel, by decide +kernel⟩
set_option maxHeartbeats 4000000 in
theorem ok__law_drawn (T : Txt K mg A)
    (F__law_mix : FnOk P w K mg base CX0 1 A.a__law_mix A.f__law_mix ["_law_cell", "_law_k"] (liftSp K sp__law_mix)) : FnOk P w K mg base CX0 2 A.a__law_drawn A.f__law_drawn ["_law_cell", "_law_many"] (liftSp K sp__law_drawn) := by
  refine fnT T.F__law_drawn sc__law_drawn (fun ds Q h => by obtain ⟨c, n, rfl, hn, h⟩ := h; rfl) fun cdv Ar outer s H E hr ds Q h => ?_
  obtain ⟨c, n, rfl, hn, h⟩ := h
  have nd := sc__law_drawn.nd
  refine ⟨_, (st_cons (st_own (i := 2) at_nil (fun h => ps_set (i := 2) nd rfl (by first | exact Or.inl rfl | exact Or.inr rfl) h))
  (st_cons (st_set (i := 3) (et_op op_fdiv o_I (et_v 0) et_int) (fun h => ps_set (i := 3) nd rfl (by first | exact Or.inl rfl | exact Or.inr rfl) h))
  (st_cons (st_for (it_range (at_cons (et_v 1) at_nil) (fun h => pi_range1 rfl T.b_range h)) (gt_name (pg_name (i := 4) nd rfl (by first | exact Or.inl rfl | exact Or.inr rfl)))
  (st_one (st_if (tt_cmp op_eq o_eq (et_op op_mod o_I (et_v 0) et_int) et_int)
  (st_cons (st_app (i := 2) (pv 2) (et_op op_mod o_I (et_v 3) et_int) (pb := fun h => ps_expr (pe_bm PySem.F.plainAttrs_list PySem.F.slot_list_append PySem.F.type_list_append mt_append (pv 2) h)))
  (st_one (st_set (i := 3) (et_op op_fdiv o_I (et_v 3) et_int) (fun h => ps_set (i := 3) nd rfl (by first | exact Or.inl rfl | exact Or.inr rfl) h))))
  (st_one (st_app (i := 2) (pv 2) (et_op op_mod o_I (et_op op_fdiv o_I (et_call F__law_mix T.m__law_mix T.k__law_mix T.d__law_mix (hr.mono (by decide)) (at_cons (et_op op_fdiv o_I (et_v 0) et_int) (at_cons (et_v 4) at_nil)) (fun h => pe_call F__law_mix (hr.mono (by decide)) rfl T.m__law_mix T.k__law_mix T.d__law_mix .nil pass0 h)) et_int) et_int) (pb := fun h => ps_expr (pe_bm PySem.F.plainAttrs_list PySem.F.slot_list_append PySem.F.type_list_append mt_append (pv 2) h)))))) (fun hi hg hb => ps_for PassesOwn.never rfl hi hg hb))
  (st_share 2 (st_one (st_ret (et_v 2))))))), ?_⟩
  walk_at "rd"
  refine ⟨⟨by decide, by decide⟩, forx (ts := intsTo n) (fun R h => ⟨_, rfl, (n : Int), rfl, by omega, by omega, by simpa using h⟩)
    (fun k σ => ∃ (bs : List Int) (l : Int) (sl : Sl), σ = [.val (.int c), .val (.int n), .own (bs.map PyData.int), .val (.int l), sl] ∧ Bits k bs) ⟨[], _, _, rfl, rfl, fun b hb => by simp at hb⟩ (fun k x σ' hx hP => ?_) fun σ' hP => ?_⟩
  · obtain ⟨hk, rfl⟩ := intsTo_get hx
    obtain ⟨bs, l, sl, rfl, hbs⟩ := hP
    have hlen : (bs.map PyData.int).length ≤ 100000 := by rw [List.length_map, hbs.1]; omega
    have more : ∀ b : Int, 0 ≤ b → b < 4096 → Bits (k + 1) (bs ++ [b]) := fun b h1 h2 => ⟨by rw [List.length_append, hbs.1]; rfl, fun b' hb' => by
      rcases List.mem_append.mp hb' with z | z
      · exact hbs.2 b' z
      · have : b' = b := by simpa using z
        subst this; exact ⟨h1, h2⟩⟩
    show sIf _ _ _ _ [.val (.int c), .val (.int n), .own (bs.map PyData.int), .val (.int l), .val (.int k)]
    walk_at "rd"
    refine ⟨by decide, ?_⟩
    split
    · refine ⟨by decide, hlen, ⟨by decide, by decide⟩, ⟨bs ++ [l % 4096], _, _, by rw [List.map_append]; rfl, more _ (Int.emod_nonneg _ (by decide)) (Int.emod_lt_of_pos _ (by decide))⟩⟩
    · refine ⟨⟨by decide, by decide⟩, _, _, rfl, by omega, by omega, fun r _ _ => ?_⟩
      exact ⟨⟨by decide, by decide⟩, by decide, hlen, ⟨bs ++ [r / 3 % 4096], _, _, by rw [List.map_append]; rfl, more _ (Int.emod_nonneg _ (by decide)) (Int.emod_lt_of_pos _ (by decide))⟩⟩
  · obtain ⟨bs, l, sl, rfl, hbs⟩ := hP
    rw [intsTo_len] at hbs
    exact ⟨_, rfl, _, rfl, h bs hbs⟩

theorem sc__law_names : FnScope ["_law_drawn_here", "_law_at", "_law_many", "_law_letters", "_law_word", "_law_turn", "_law_names_here", "_law_place", "_law_k", "_law_sign"] ["_law_drawn_here", "_law_at", "_law_many"] (defScope (top 27)) := ⟨rfl, rfl, rfl, by decide +kernel, rfl, by decide +kernel, by decide +kernel⟩
set_option maxHeartbeats 4000000 in
theorem ok__law_names (T : Txt K mg A) : FnOk P w K mg base CX0 1 A.a__law_names A.f__law_names ["_law_drawn_here", "_law_at", "_law_many"] (liftSp K sp__law_names) := by
  refine fnT T.F__law_names sc__law_names (fun ds Q h => by obtain ⟨bs, n, m, k, rfl, hb, hk, hn, hm, h⟩ := h; rfl) fun cdv Ar outer s H E hr ds Q h => ?_
  obtain ⟨bs, n, m, k, rfl, hb, hk, hn, hm, h⟩ := h
  have nd := sc__law_names.nd
  refine ⟨_, (st_cons (st_set (i := 3) et_str (fun h => ps_set (i := 3) nd rfl (by first | exact Or.inl rfl | exact Or.inr rfl) h))
  (st_cons (st_set (i := 4) (et_join et_str (at_cons (et_lc (fr := [none, some 3, some 0, some 1]) (N' := ["_law_k", "_law_letters", "_law_drawn_here", "_law_at"]) (it_range (at_cons et_int at_nil) (fun h => pi_range1 rfl T.b_range h)) (fun b => ⟨(gt_name (pg_name (i := 0) (show List.Nodup (["_law_k", "_law_letters", "_law_drawn_here", "_law_at"] : List Str) from by decide +kernel) rfl (by first | exact Or.inl rfl | exact Or.inr rfl))), if_nil, (et_ix ix_seq o_ix (et_v 1) (et_op op_mod o_I (et_ix ix_seq o_ix (et_v 2) (et_op op_addAny o_add (et_op op_addAny o_add (et_v 3) et_int) (et_v 0))) et_int))⟩) (fun hi hY => pe_lcc (show lcChk _ (defScope (top 27)) ["_law_drawn_here", "_law_at", "_law_many", "_law_letters", "_law_word", "_law_turn", "_law_names_here", "_law_place", "_law_k", "_law_sign"] ["_law_k", "_law_letters", "_law_drawn_here", "_law_at"] [none, some 3, some 0, some 1] = true from by decide +kernel) rfl hi hY)) at_nil) (fun h ha => pe_bm PySem.F.plainAttrs_str PySem.F.slot_str_join PySem.F.type_str_join mt_join h ha)) (fun h => ps_set (i := 4) nd rfl (by first | exact Or.inl rfl | exact Or.inr rfl) h))
  (st_cons (st_set (i := 5) (et_op op_mod o_I (et_op op_fdiv o_I (et_ix ix_seq o_ix (et_v 0) (et_v 1)) et_int) et_int) (fun h => ps_set (i := 5) nd rfl (by first | exact Or.inl rfl | exact Or.inr rfl) h))
  (st_cons (st_set (i := 6) (et_lst (at_cons et_str (at_cons et_str (at_cons et_str (at_cons et_str (at_cons et_str (at_cons et_str (at_cons et_str (at_cons et_str at_nil))))))))) (fun h => ps_set (i := 6) nd rfl (by first | exact Or.inl rfl | exact Or.inr rfl) h))
  (st_cons (st_if (tt_cmp op_eq o_eq (et_op op_mod o_I (et_ix ix_seq o_ix (et_v 0) (et_v 1)) et_int) et_int)
  (st_one (st_setlc (i := 6) (fr := [none, some 4]) (N' := ["_law_k", "_law_word"]) (it_range (at_cons et_int at_nil) (fun h => pi_range1 rfl T.b_range h)) (fun b => ⟨(gt_name (pg_name (i := 0) (show List.Nodup (["_law_k", "_law_word"] : List Str) from by decide +kernel) rfl (by first | exact Or.inl rfl | exact Or.inr rfl))), if_nil, (et_slice sl_any o_sl (et_v 1) ot_none (ot_some (et_op op_addAny o_add (et_v 0) et_int)))⟩) (fun hi hY => ps_setlcc (show lcChk _ (defScope (top 27)) ["_law_drawn_here", "_law_at", "_law_many", "_law_letters", "_law_word", "_law_turn", "_law_names_here", "_law_place", "_law_k", "_law_sign"] ["_law_k", "_law_word"] [none, some 4] = true from by decide +kernel) nd rfl (by first | exact Or.inl rfl | exact Or.inr rfl) rfl hi hY rfl)))
  st_nil)
  (st_cons (st_if (tt_cmp op_eq o_eq (et_op op_mod o_I (et_ix ix_seq o_ix (et_v 0) (et_v 1)) et_int) et_int)
  (st_cons (st_set (i := 7) (et_op op_mod o_I (et_ix ix_seq o_ix (et_v 0) (et_op op_addAny o_add (et_v 1) et_int)) (et_op op_addAny o_add (et_v 5) et_int)) (fun h => ps_set (i := 7) nd rfl (by first | exact Or.inl rfl | exact Or.inr rfl) h))
  (st_cons (st_own (i := 6) at_nil (fun h => ps_set (i := 6) nd rfl (by first | exact Or.inl rfl | exact Or.inr rfl) h))
  (st_cons (st_for (it_range (at_cons et_int at_nil) (fun h => pi_range1 rfl T.b_range h)) (gt_name (pg_name (i := 8) nd rfl (by first | exact Or.inl rfl | exact Or.inr rfl)))
  (st_cons (st_set (i := 9) (et_ix ix_seq o_ix (et_v 3) (et_op op_mod o_I (et_op op_addAny o_add (et_ix ix_seq o_ix (et_v 0) (et_op op_addAny o_add (et_v 1) et_int)) (et_op op_mulAny o_mul et_int (et_v 8))) et_int)) (fun h => ps_set (i := 9) nd rfl (by first | exact Or.inl rfl | exact Or.inr rfl) h))
  (st_one (st_app (i := 6) (pv 6) (et_op op_addAny o_add (et_op op_addAny o_add (et_slice sl_any o_sl (et_v 4) ot_none (ot_some (et_v 7))) (et_v 9)) (et_slice sl_any o_sl (et_v 4) (ot_some (et_op op_addAny o_add (et_v 7) et_int)) (ot_some (et_op op_addAny o_add (et_v 5) et_int)))) (pb := fun h => ps_expr (pe_bm PySem.F.plainAttrs_list PySem.F.slot_list_append PySem.F.type_list_append mt_append (pv 6) h))))) (fun hi hg hb => ps_for PassesOwn.never rfl hi hg hb))
  (st_share 6 st_nil))))
  st_nil)
  (st_one (st_ret (et_cb c_tuple (at_cons (et_slice sl_any o_sl (et_op op_addAny o_add (et_slice sl_any o_sl (et_v 6) (ot_some (et_v 5)) ot_none) (et_slice sl_any o_sl (et_v 6) ot_none (ot_some (et_v 5)))) ot_none (ot_some (et_v 2))) at_nil) (fun h => pe_callTy call_tuple_of rfl T.b_tuple bl_tuple h)))))))))), ?_⟩
  show sSeq _ _ _ [.val (.list (bs.map PyData.int)), .val (.int k), .val (.int m), .un, .un, .un, .un, .un, .un, .un]
  obtain ⟨b0, h00, h01, hb0⟩ := atI_bits hb (i := (k : Int)) (by omega) (by omega)
  obtain ⟨b9, h90, h91, hb9⟩ := atI_bits hb (i := (k : Int) + 9) (by omega) (by omega)
  obtain ⟨b10, h100, h101, hb10⟩ := atI_bits hb (i := (k : Int) + 10) (by omega) (by omega)
  have p26 : (0 : Int) < 26 := by decide
  have p8 : (0 : Int) < 8 := by decide
  have p3 : (0 : Int) < 3 := by decide
  refine seq_set (.str letters) (fun q hq => hq) ?_
  refine seq_setR (fun d => ∃ z : Str, d = .str z ∧ z.cps.toList.length = 8 ∧ ∀ c ∈ z.cps.toList, c ∈ letters.cps.toList) (fun q hq => ?_) ?_
  · refine ⟨_, rfl, ?_⟩
    refine lcx_in (ts := intsTo 8) (fun R h => ⟨8, rfl, by decide, by decide, h⟩) (fun _ _ y => ∃ c, c ∈ letters.cps.toList ∧ y = .str ⟨#[c]⟩) (by decide) (fun j x q hx hq => ?_) fun ys hl hy => ?_
    · obtain ⟨hj, rfl⟩ := intsTo_get hx
      obtain ⟨b, h0, h1, hbj⟩ := atI_bits hb (i := (k : Int) + 1 + (j : Int)) (by omega) (by omega)
      obtain ⟨c, hc, hcc, _⟩ := atI_in (xs := letters.cps.toList) (i := b % 26) (Int.emod_nonneg _ (by decide)) (Int.emod_lt_of_pos _ (by decide))
      exact ⟨_, rfl, _, rfl, _, rfl, _, rfl, _, hbj, p26, by decide, c, hcc, hq _ ⟨c, hc, rfl⟩⟩
    · obtain ⟨cs, rfl, hcl⟩ := signs_of (ys := ys) fun y hy' => by
        obtain ⟨j, hj, rfl⟩ := List.mem_iff_getElem.mp hy'
        have hjt : j < (intsTo 8).length := by rw [← hl]; exact hj
        exact hy j (intsTo 8)[j] _ (List.getElem?_eq_getElem hjt) (List.getElem?_eq_getElem hj)
      have hl8 : cs.length = 8 := by rw [List.length_map, intsTo_len] at hl; exact hl
      refine ⟨cs.map fun c => ⟨#[c]⟩, by rw [List.map_map]; rfl, ?_, hq _ ⟨_, rfl, ?_, ?_⟩⟩
      · rw [List.length_map, List.map_map, hl8]
        have : (List.map ((fun x : Str => x.length) ∘ fun c => (⟨#[c]⟩ : Str)) cs).sum = cs.length := by
          clear hl8 hl hy hcl
          induction cs with
          | nil => rfl
          | cons a l ih => rw [List.map_cons, List.sum_cons, ih, List.length_cons]; show 1 + _ = _; omega
        rw [this, hl8]
        decide
      · rw [show (Txt.join (Str.ofString "") (cs.map fun c => ⟨#[c]⟩)).cps.toList = cs from join_signs cs]; exact hl8
      · rw [show (Txt.join (Str.ofString "") (cs.map fun c => ⟨#[c]⟩)).cps.toList = cs from join_signs cs]; exact hcl
  rintro _ ⟨z, rfl, hz8, hzl⟩
  have hz : z.length ≤ 100000 := by
    have : z.length = z.cps.toList.length := by simp [Str.length]
    omega
  generalize ht : b0 / 3 % 8 = t
  have ht0 : 0 ≤ t := by rw [← ht]; exact Int.emod_nonneg _ (by decide)
  have ht1 : t < 8 := by rw [← ht]; exact Int.emod_lt_of_pos _ (by decide)
  refine seq_set (.int t) (fun q hq => ⟨_, rfl, _, rfl, _, hb0, ⟨by decide, by decide⟩, p8, by rw [ht]; exact hq⟩) ?_
  refine seq_set (.list (names8.map PyData.str)) (fun q hq => ⟨by decide, hq⟩) ?_
  have hend : ∀ (ys : List Str) (σ : List Sl), Nms 8 ys → σ[6]? = some (.val (.list (ys.map PyData.str))) → σ[5]? = some (.val (.int t)) → σ[2]? = some (.val (.int m)) →
      sRet (eCall (f1 gTuple) (aCons (eSl fSl (eOp fAdd (eSl fSl (eVar 6) (oSome (eVar 5)) oNone) (eSl fSl (eVar 6) oNone (oSome (eVar 5)))) oNone (oSome (eVar 2))) aNil)) { nx := fun _ => Q .none, rt := Q } σ := fun ys σ hy e6 e5 e2 => by
    refine ⟨_, e6, _, e5, _, e6, _, e5, ?_, _, e2, ?_⟩
    · rw [cut_map, cut_map, List.length_map, List.length_map]
      have := hy.1
      unfold cutD
      simp only [List.length_take, List.length_drop]
      omega
    · show Q (.tuple (cutD (cutD (ys.map PyData.str) (some t) none ++ cutD (ys.map PyData.str) none (some t)) none (some (m : Int))))
      rw [cut_map, cut_map, ← List.map_append, cut_map]
      have et : t = ((t.toNat : Nat) : Int) := by omega
      rw [et, cut_sn, cut_ns, cut_ns]
      exact h _ (nms_turn hy _ hm)
  refine seq_if (fun b => b = decide (b0 % 3 = 0)) (fun q hq => ⟨_, rfl, _, rfl, _, hb0, p3, hq _ rfl⟩) (fun hT => ?_) fun hF => ?_
  · have hb03 : b0 % 3 = 0 := of_decide_eq_true hT.symm
    refine one_set (.list (((List.range 8).map fun (j : Nat) => Txt.slice z none (some ((j : Int) + 1))).map PyData.str)) (fun q hq => ?_) ?_
    · refine lcx_map (ts := intsTo 8) (fun R h => ⟨8, rfl, by decide, by decide, h⟩) (fun x => match x with | .int j => .str (Txt.slice z none (some (j + 1))) | _ => .none) (by decide) (fun x q hx hq => ?_) ?_
      · obtain ⟨j, hj, rfl⟩ := List.mem_map.mp hx
        exact ⟨_, rfl, _, rfl, hz, hq⟩
      · unfold intsTo
        rw [List.map_map]
        rw [List.map_map] at hq
        exact hq
    · dsimp only
      refine seq_if (fun b => b = false) (fun q hq => ⟨_, rfl, _, rfl, _, hb0, p3, hq _ (by rw [hb03]; rfl)⟩) (fun hT => by cases hT) fun _ => ?_
      refine hend _ _ (nms_range _ (fun i hi => ?_) fun i j hi hj e => ?_) rfl rfl rfl
      · have e : (Txt.slice z none (some ((i : Int) + 1))).cps.toList = z.cps.toList.take (i + 1) := by
          rw [slice_codes]; exact cut_ns _ (i + 1)
        refine nmS_of ?_ ?_ fun c hc => ?_
        · rw [e, List.length_take]; omega
        · rw [e, List.length_take]; omega
        · rw [e] at hc; exact hzl c (List.mem_of_mem_take hc)
      · have e1 : (Txt.slice z none (some ((i : Int) + 1))).cps.toList = z.cps.toList.take (i + 1) := by
          rw [slice_codes]; exact cut_ns _ (i + 1)
        have e2 : (Txt.slice z none (some ((j : Int) + 1))).cps.toList = z.cps.toList.take (j + 1) := by
          rw [slice_codes]; exact cut_ns _ (j + 1)
        rw [e] at e1
        have := congrArg List.length (e1.symm.trans e2)
        rw [List.length_take, List.length_take] at this
        omega
  · have hb03 : ¬ b0 % 3 = 0 := of_decide_eq_false hF.symm
    unfold sNext
    dsimp only
    refine seq_if (fun b => b = decide (b0 % 3 = 1)) (fun q hq => ⟨_, rfl, _, rfl, _, hb0, p3, hq _ rfl⟩) (fun hT => ?_) fun hF => ?_
    · generalize hpl : b9 % (t + 1) = pl
      have hp0 : 0 ≤ pl := by rw [← hpl]; exact Int.emod_nonneg _ (by omega)
      have hp1 : pl < t + 1 := by rw [← hpl]; exact Int.emod_lt_of_pos _ (by omega)
      refine seq_set (.int pl) (fun q hq => ⟨_, rfl, _, rfl, _, hb9, _, rfl, (show (0 : Int) < t + 1 by omega), by rw [hpl]; exact hq⟩) ?_
      refine seq_own [] (by decide) (fun q hq => hq) ?_
      have hsgn : ∀ j : Nat, ∃ c, c ∈ letters.cps.toList ∧ atI letters.cps.toList ((b10 + 5 * (j : Int)) % 26) = some c ∧ letters.cps.toList[((b10 + 5 * (j : Int)) % 26).toNat]? = some c := fun j =>
        atI_in (Int.emod_nonneg _ (by decide)) (Int.emod_lt_of_pos _ (by decide))
      let F : Nat → Str := fun j => Txt.slice z none (some pl) ++ ⟨#[Classical.choose (hsgn j)]⟩ ++ Txt.slice z (some (pl + 1)) (some (t + 1))
      have hF0 : ∀ j, (F j).cps.toList = z.cps.toList.take pl.toNat ++ (Classical.choose (hsgn j) :: (z.cps.toList.drop (pl.toNat + 1)).take (t.toNat - pl.toNat)) := fun j => by
        show (Txt.slice z none (some pl) ++ ⟨#[Classical.choose (hsgn j)]⟩ ++ Txt.slice z (some (pl + 1)) (some (t + 1))).cps.toList = _
        rw [app_codes, app_codes, slice_codes, slice_codes]
        have e1 : pl = ((pl.toNat : Nat) : Int) := by omega
        have e2 : pl + 1 = ((pl.toNat + 1 : Nat) : Int) := by omega
        have e3 : t + 1 = ((t.toNat + 1 : Nat) : Int) := by omega
        rw [e2, e3, cut_ss]
        have e4 : cutD z.cps.toList none (some pl) = z.cps.toList.take pl.toNat := by
          have := cut_ns z.cps.toList pl.toNat
          rwa [← e1] at this
        rw [e4]
        have e5 : t.toNat + 1 - (pl.toNat + 1) = t.toNat - pl.toNat := by omega
        rw [e5]
        simp
      refine seq_for (ts := intsTo 8) (fun R h => ⟨8, rfl, by decide, by decide, h⟩)
        (fun j σ => ∃ s8 s9 : Sl, σ = [.val (.list (bs.map PyData.int)), .val (.int k), .val (.int m), .val (.str letters), .val (.str z), .val (.int t), .own (((List.range j).map F).map PyData.str), .val (.int pl), s8, s9]) ⟨_, _, rfl⟩ (fun j x σ' hx hP => ?_) fun σ' hP => ?_
      · obtain ⟨hj, rfl⟩ := intsTo_get hx
        obtain ⟨s8, s9, rfl⟩ := hP
        have hc := Classical.choose_spec (hsgn j)
        refine seq_set (.str ⟨#[Classical.choose (hsgn j)]⟩) (fun q hq => ⟨_, rfl, _, rfl, _, rfl, _, hb10, _, rfl, .inl ⟨by decide, by decide⟩, p26, by decide, _, hc.2.1, hq⟩) ?_
        refine one_app (ts := ((List.range j).map F).map PyData.str) (.str (F j)) rfl (by simp; omega) (fun q hq => ?_) ⟨.val (.int j), .val (.str ⟨#[Classical.choose (hsgn j)]⟩), ?_⟩
        · refine ⟨_, rfl, _, rfl, hz, _, rfl, ?_, _, rfl, _, rfl, _, rfl, hz, ?_, hq⟩
          · have := Txt.slice_le z none (some pl)
            show (Txt.slice z none (some pl)).length + 1 ≤ 100000
            have : z.length = z.cps.toList.length := by simp [Str.length]
            omega
          · have a1 := Txt.slice_le z none (some pl)
            have a2 := Txt.slice_le z (some (pl + 1)) (some (t + 1))
            have a3 : z.length = z.cps.toList.length := by simp [Str.length]
            show (Txt.slice z none (some pl) ++ ⟨#[Classical.choose (hsgn j)]⟩).length + _ ≤ 100000
            have a4 : (Txt.slice z none (some pl) ++ (⟨#[Classical.choose (hsgn j)]⟩ : Str)).length = (Txt.slice z none (some pl)).length + 1 := by
              show ((Txt.slice z none (some pl)).cps ++ #[_]).size = _
              rw [Array.size_append]; rfl
            rw [a4]
            omega
        · rw [List.range_succ, List.map_append, List.map_append]; rfl
      · obtain ⟨s8, s9, rfl⟩ := hP
        rw [intsTo_len]
        refine ⟨_, rfl, ?_⟩
        refine hend _ _ (nms_range F (fun i hi => ?_) fun i j hi hj e => ?_) rfl rfl rfl
        · have hc := Classical.choose_spec (hsgn i)
          refine nmS_of ?_ ?_ fun c hc' => ?_
          · rw [hF0]
            simp only [List.length_append, List.length_cons]
            omega
          · rw [hF0]
            simp only [List.length_append, List.length_take, List.length_cons, List.length_drop]
            omega
          · rw [hF0] at hc'
            rcases List.mem_append.mp hc' with q | q
            · exact hzl c (List.mem_of_mem_take q)
            · rcases List.mem_cons.mp q with q | q
              · rw [q]; exact hc.1
              · exact hzl c (List.mem_of_mem_drop (List.mem_of_mem_take q))
        · have e1 := hF0 i
          rw [e, hF0 j] at e1
          have e2 := List.append_cancel_left e1
          have e3 : Classical.choose (hsgn j) = Classical.choose (hsgn i) := (List.cons.inj e2).1
          have q1 := (Classical.choose_spec (hsgn i)).2.2
          have q2 := (Classical.choose_spec (hsgn j)).2.2
          rw [e3] at q2
          have e4 := nth_inj letters_nd q1 q2
          have := Int.emod_nonneg (b10 + 5 * (i : Int)) (show (26 : Int) ≠ 0 by decide)
          have := Int.emod_nonneg (b10 + 5 * (j : Int)) (show (26 : Int) ≠ 0 by decide)
          omega
    · exact hend _ _ nms8 rfl rfl rfl

theorem sc__law_form : FnScope ["_law_script", "_law_drawn_here", "_law_names_here", "_law_fields", "_law_k", "_law_bits"] ["_law_script"] (defScope (top 28)) := ⟨rfl, rfl, rfl, by decide +kernel, rfl, by decide +kernel, by decide +kernel⟩
set_option maxHeartbeats 4000000 in
theorem ok__law_form (T : Txt K mg A)
    (F__law_cell_at : FnOk P w K mg base CX0 2 A.a__law_cell_at A.f__law_cell_at ["_law_script", "_law_k"] (liftSp K sp__law_cell_at))
    (F__law_drawn : FnOk P w K mg base CX0 2 A.a__law_drawn A.f__law_drawn ["_law_cell", "_law_many"] (liftSp K sp__law_drawn))
    (F__law_names : FnOk P w K mg base CX0 1 A.a__law_names A.f__law_names ["_law_drawn_here", "_law_at", "_law_many"] (liftSp K sp__law_names)) : FnOk P w K mg base CX0 3 A.a__law_form A.f__law_form ["_law_script"] (liftSp K sp__law_form) := by
  refine fnT T.F__law_form sc__law_form (fun ds Q h => by obtain ⟨ns, rfl, hl, h⟩ := h; rfl) fun cdv Ar outer s H E hr ds Q h => ?_
  obtain ⟨ns, rfl, hl, h⟩ := h
  have nd := sc__law_form.nd
  refine ⟨_, (st_cons (st_set (i := 1) (et_call F__law_drawn T.m__law_drawn T.k__law_drawn T.d__law_drawn (hr.mono (by decide)) (at_cons (et_call F__law_cell_at T.m__law_cell_at T.k__law_cell_at T.d__law_cell_at (hr.mono (by decide)) (at_cons (et_v 0) (at_cons et_int at_nil)) (fun h => pe_call F__law_cell_at (hr.mono (by decide)) rfl T.m__law_cell_at T.k__law_cell_at T.d__law_cell_at .nil pass0 h)) (at_cons et_int at_nil)) (fun h => pe_call F__law_drawn (hr.mono (by decide)) rfl T.m__law_drawn T.k__law_drawn T.d__law_drawn .nil pass0 h)) (fun h => ps_set (i := 1) nd rfl (by first | exact Or.inl rfl | exact Or.inr rfl) h))
  (st_cons (st_set (i := 2) (et_call F__law_names T.m__law_names T.k__law_names T.d__law_names (hr.mono (by decide)) (at_cons (et_v 1) (at_cons et_int (at_cons (et_ix ix_seq o_ix (et_lst (at_cons et_int (at_cons et_int (at_cons et_int (at_cons et_int (at_cons et_int (at_cons et_int (at_cons et_int (at_cons et_int at_nil))))))))) (et_op op_mod o_I (et_ix ix_seq o_ix (et_v 1) et_int) et_int)) at_nil))) (fun h => pe_call F__law_names (hr.mono (by decide)) rfl T.m__law_names T.k__law_names T.d__law_names .nil pass0 h)) (fun h => ps_set (i := 2) nd rfl (by first | exact Or.inl rfl | exact Or.inr rfl) h))
  (st_cons (st_own (i := 3) at_nil (fun h => ps_set (i := 3) nd rfl (by first | exact Or.inl rfl | exact Or.inr rfl) h))
  (st_cons (st_for (it_range (at_cons (et_cb c_len (at_cons (et_v 2) at_nil) (fun h => pe_callB call_lenAny rfl T.b_len bl_len h)) at_nil) (fun h => pi_range1 rfl T.b_range h)) (gt_name (pg_name (i := 4) nd rfl (by first | exact Or.inl rfl | exact Or.inr rfl)))
  (st_cons (st_set (i := 5) (et_call F__law_drawn T.m__law_drawn T.k__law_drawn T.d__law_drawn (hr.mono (by decide)) (at_cons (et_call F__law_cell_at T.m__law_cell_at T.k__law_cell_at T.d__law_cell_at (hr.mono (by decide)) (at_cons (et_v 0) (at_cons (et_op op_addAny o_add et_int (et_v 4)) at_nil)) (fun h => pe_call F__law_cell_at (hr.mono (by decide)) rfl T.m__law_cell_at T.k__law_cell_at T.d__law_cell_at .nil pass0 h)) (at_cons et_int at_nil)) (fun h => pe_call F__law_drawn (hr.mono (by decide)) rfl T.m__law_drawn T.k__law_drawn T.d__law_drawn .nil pass0 h)) (fun h => ps_set (i := 5) nd rfl (by first | exact Or.inl rfl | exact Or.inr rfl) h))
  (st_one (st_app (i := 3) (pv 3) (et_tup (at_cons (et_ix ix_seq o_ix (et_v 2) (et_v 4)) (at_cons (et_call F__law_names T.m__law_names T.k__law_names T.d__law_names (hr.mono (by decide)) (at_cons (et_v 5) (at_cons et_int (at_cons (et_ix ix_seq o_ix (et_lst (at_cons et_int (at_cons et_int (at_cons et_int (at_cons et_int (at_cons et_int (at_cons et_int at_nil))))))) (et_op op_mod o_I (et_ix ix_seq o_ix (et_v 5) et_int) et_int)) at_nil))) (fun h => pe_call F__law_names (hr.mono (by decide)) rfl T.m__law_names T.k__law_names T.d__law_names .nil pass0 h)) at_nil))) (pb := fun h => ps_expr (pe_bm PySem.F.plainAttrs_list PySem.F.slot_list_append PySem.F.type_list_append mt_append (pv 3) h))))) (fun hi hg hb => ps_for PassesOwn.never rfl hi hg hb))
  (st_cons (st_set (i := 5) (et_call F__law_drawn T.m__law_drawn T.k__law_drawn T.d__law_drawn (hr.mono (by decide)) (at_cons (et_call F__law_cell_at T.m__law_cell_at T.k__law_cell_at T.d__law_cell_at (hr.mono (by decide)) (at_cons (et_v 0) (at_cons et_int at_nil)) (fun h => pe_call F__law_cell_at (hr.mono (by decide)) rfl T.m__law_cell_at T.k__law_cell_at T.d__law_cell_at .nil pass0 h)) (at_cons et_int at_nil)) (fun h => pe_call F__law_drawn (hr.mono (by decide)) rfl T.m__law_drawn T.k__law_drawn T.d__law_drawn .nil pass0 h)) (fun h => ps_set (i := 5) nd rfl (by first | exact Or.inl rfl | exact Or.inr rfl) h))
  (st_share 3 (st_one (st_ret (et_tup (at_cons (et_cb c_tuple (at_cons (et_v 3) at_nil) (fun h => pe_callTy call_tuple_of rfl T.b_tuple bl_tuple h)) (at_cons (et_call F__law_names T.m__law_names T.k__law_names T.d__law_names (hr.mono (by decide)) (at_cons (et_v 5) (at_cons et_int (at_cons (et_ix ix_seq o_ix (et_lst (at_cons et_int (at_cons et_int (at_cons et_int (at_cons et_int at_nil))))) (et_op op_mod o_I (et_ix ix_seq o_ix (et_v 5) et_int) et_int)) at_nil))) (fun h => pe_call F__law_names (hr.mono (by decide)) rfl T.m__law_names T.k__law_names T.d__law_names .nil pass0 h)) at_nil))))))))))), ?_⟩
  have p8 : (0 : Int) < 8 := by decide
  have p6 : (0 : Int) < 6 := by decide
  have p4 : (0 : Int) < 4 := by decide
  show sSeq _ _ _ [.val (.list (ns.map PyData.int)), .un, .un, .un, .un, .un]
  refine seq_setR (fun d => ∃ bs, Bits 20 bs ∧ d = .list (bs.map PyData.int)) (fun q hq => ⟨_, rfl, ns, 0, rfl, hl, by decide, by decide, fun r => ⟨r, 20, rfl, by decide, fun bs hb => hq _ ⟨bs, hb, rfl⟩⟩⟩) ?_
  rintro _ ⟨bs, hb, rfl⟩
  obtain ⟨b0, h00, h01, hb0⟩ := atI_bits hb (i := 0) (by decide) (by decide)
  obtain ⟨m, hm0, hm1, hm⟩ := pick (xs := [1, 2, 2, 3, 3, 3, 4, 5]) (lo := 1) (hi := 5) (by decide) (i := b0 % 8) (Int.emod_nonneg _ (by decide)) (Int.emod_lt_of_pos _ p8)
  refine seq_setR (fun d => ∃ ys, Nms m.toNat ys ∧ d = .tuple (ys.map PyData.str)) (fun q hq => ?_) ?_
  · refine ⟨_, rfl, by decide, _, rfl, _, hb0, p8, _, hm, bs, 20, m.toNat, 1, ?_, hb, by decide, by decide, by omega, fun ys hy => hq _ ⟨ys, hy, rfl⟩⟩
    rw [show ((m.toNat : Nat) : Int) = m by omega]; rfl
  rintro _ ⟨ys, hy, rfl⟩
  have hyl : ys.length = m.toNat := hy.1
  refine seq_own [] (by decide) (fun q hq => hq) ?_
  refine seq_for (ts := intsTo ys.length) (fun R h => ⟨_, rfl, _, rfl, by rw [List.length_map]; omega, by rw [List.length_map]; omega, by simpa using h⟩)
    (fun k σ => ∃ (fs : List (Str × List Str)) (s4 s5 : Sl), σ = [.val (.list (ns.map PyData.int)), .val (.list (bs.map PyData.int)), .val (.tuple (ys.map PyData.str)), .own (fs.map fldD), s4, s5] ∧ fs.map (·.1) = ys.take k ∧ ∀ f ∈ fs, 2 ≤ f.2.length ∧ f.2.length ≤ 5 ∧ Nms f.2.length f.2)
    ⟨[], _, _, rfl, by simp, fun f hf => by simp at hf⟩ (fun k x σ' hx hP => ?_) fun σ' hP => ?_
  · obtain ⟨hk, rfl⟩ := intsTo_get hx
    obtain ⟨fs, s4, s5, rfl, hfs, hfv⟩ := hP
    have hfl : fs.length = k := by
      have := congrArg List.length hfs
      rw [List.length_map, List.length_take] at this
      omega
    refine seq_setR (fun d => ∃ bs, Bits 12 bs ∧ d = .list (bs.map PyData.int)) (fun q hq => ⟨_, rfl, _, rfl, ns, 1 + (k : Int), rfl, hl, by omega, by omega, fun r => ⟨r, 12, rfl, by decide, fun bs hb => hq _ ⟨bs, hb, rfl⟩⟩⟩) ?_
    rintro _ ⟨cs, hc, rfl⟩
    obtain ⟨c0, h00, h01, hc0⟩ := atI_bits hc (i := 0) (by decide) (by decide)
    obtain ⟨v, hv0, hv1, hv⟩ := pick (xs := [2, 2, 3, 3, 4, 5]) (lo := 2) (hi := 5) (by decide) (i := c0 % 6) (Int.emod_nonneg _ (by decide)) (Int.emod_lt_of_pos _ p6)
    refine ⟨fs.map fldD, rfl, _, rfl, _, rfl, _, atI_strs hk, _, rfl, by decide, _, rfl, _, hc0, p6, _, hv, cs, 12, v.toNat, 1, ?_, hc, by decide, by decide, by omega, fun vs hvs => ?_⟩
    · rw [show ((v.toNat : Nat) : Int) = v by omega]; rfl
    · refine ⟨Nat.le_of_ble_eq_true rfl, by rw [List.length_map]; omega, fs ++ [(ys[k], vs)], .val (.int k), .val (.list (cs.map PyData.int)), ?_, ?_, fun f hf => ?_⟩
      · rw [List.map_append]; rfl
      · rw [List.map_append, hfs, List.take_add_one, List.getElem?_eq_getElem hk]; rfl
      · rcases List.mem_append.mp hf with z | z
        · exact hfv f z
        · have : f = (ys[k], vs) := by simpa using z
          subst this
          have hvl := hvs.1
          refine ⟨by show 2 ≤ vs.length; omega, by show vs.length ≤ 5; omega, ?_⟩
          show Nms vs.length vs
          rw [hvl]; exact hvs
  · obtain ⟨fs, s4, s5, rfl, hfs, hfv⟩ := hP
    rw [intsTo_len, List.take_length] at hfs
    have hfl : fs.length = ys.length := by rw [← hfs, List.length_map]
    refine seq_setR (fun d => ∃ bs, Bits 12 bs ∧ d = .list (bs.map PyData.int)) (fun q hq => ⟨_, rfl, ns, 6, rfl, hl, by decide, by decide, fun r => ⟨r, 12, rfl, by decide, fun bs hb => hq _ ⟨bs, hb, rfl⟩⟩⟩) ?_
    rintro _ ⟨cs, hc, rfl⟩
    obtain ⟨c0, h00, h01, hc0⟩ := atI_bits hc (i := 0) (by decide) (by decide)
    obtain ⟨v, hv0, hv1, hv⟩ := pick (xs := [2, 2, 3, 4]) (lo := 2) (hi := 4) (by decide) (i := c0 % 4) (Int.emod_nonneg _ (by decide)) (Int.emod_lt_of_pos _ p4)
    refine ⟨_, rfl, _, rfl, _, rfl, by decide, _, rfl, _, hc0, p4, _, hv, cs, 12, v.toNat, 1, ?_, hc, by decide, by decide, by omega, fun vs hvs => ⟨Nat.le_of_ble_eq_true rfl, h fs vs ⟨by omega, by omega, ?_, hfv, ?_, ?_, ?_⟩⟩⟩
    · rw [show ((v.toNat : Nat) : Int) = v by omega]; rfl
    · rw [hfs, hfl, hyl]; exact hy
    · have := hvs.1; omega
    · have := hvs.1; omega
    · have := hvs.1
      rw [this]; exact hvs

theorem sc__law_pop : FnScope ["_law_numbers"] ["_law_numbers"] (defScope (top 29)) := ⟨rfl, rfl, rfl, by decide +kernel, rfl, by decide +kernel, by decide +kernel⟩
set_option maxHeartbeats 4000000 in
theorem ok__law_pop (T : Txt K mg A) : FnOk P w K mg base CX0 1 A.a__law_pop A.f__law_pop ["_law_numbers"] (liftSp K sp__law_pop) := by
  refine fnT T.F__law_pop sc__law_pop (fun ds Q h => by obtain ⟨rfl, h⟩ := h; rfl) fun cdv Ar outer s H E hr ds Q h => ?_
  obtain ⟨rfl, h⟩ := h
  have nd := sc__law_pop.nd
  refine ⟨_, (st_numpop hr (pv 0) (pe_bm0 PySem.F.plainAttrs_list PySem.F.slot_list_pop PySem.F.type_list_pop mt_pop (pv 0))), ?_⟩
  exact ⟨rfl, h⟩

theorem sc__law_asks : FnScope ["_law_form_here", "_law_number", "_law_name", "_law_values", "_law_kind"] ["_law_form_here", "_law_number"] (defScope (top 30)) := ⟨rfl, rfl, rfl, by decide +kernel, rfl, by decide +kernel, by decide +kernel⟩
set_option maxHeartbeats 4000000 in
theorem ok__law_asks (T : Txt K mg A) : FnOk P w K mg base CX0 1 A.a__law_asks A.f__law_asks ["_law_form_here", "_law_number"] (liftSp K sp__law_asks) := by
  refine fnT T.F__law_asks sc__law_asks (fun ds Q h => by obtain ⟨fs, an, n, rfl, F, hn, h⟩ := h; rfl) fun cdv Ar outer s H E hr ds Q h => ?_
  obtain ⟨fs, an, n, rfl, F, hn, h⟩ := h
  have nd := sc__law_asks.nd
  refine ⟨_, (st_cons (st_unp (g := fun _ _ _ _ => True) (et_ix ix_seq o_ix (et_ix ix_seq o_ix (et_v 0) et_int) (et_op op_mod o_I (et_v 1) (et_cb c_len (at_cons (et_ix ix_seq o_ix (et_v 0) et_int) at_nil) (fun h => pe_callB call_lenAny rfl T.b_len bl_len h)))) (gt_pair (pg_tup rfl (pgs_cons (pg_name (i := 2) nd rfl (by first | exact Or.inl rfl | exact Or.inr rfl)) (pgs_cons (pg_name (i := 3) nd rfl (by first | exact Or.inl rfl | exact Or.inr rfl)) pgs_nil)))) (fun he hg => ps_asg he hg))
  (st_cons (st_set (i := 4) (et_ix ix_seq o_ix (et_lst (at_cons et_str (at_cons et_str at_nil))) (et_op op_mod o_I (et_op op_fdiv o_I (et_v 1) et_int) et_int)) (fun h => ps_set (i := 4) nd rfl (by first | exact Or.inl rfl | exact Or.inr rfl) h))
  (st_one (st_ret (et_tup (at_cons (et_v 4) (at_cons (et_v 2) (at_cons (et_ix ix_seq o_ix (et_v 3) (et_op op_mod o_I (et_op op_fdiv o_I (et_v 1) et_int) (et_op op_sub o_I0 (et_cb c_len (at_cons (et_v 3) at_nil) (fun h => pe_callB call_lenAny rfl T.b_len bl_len h)) (et_cb c_int (at_cons (et_cmp op_eq o_eq (et_v 4) et_str) at_nil) (fun h => pe_callTy call_int1 rfl T.b_int bl_int h))))) at_nil)))))))), ?_⟩
  show sSeq _ _ _ [.val (frmD fs an), .val (.int n), .un, .un, .un]
  have n1 := F.n1
  have hfp : (0 : Int) < ((fs.map fldD).length : Int) := by rw [List.length_map]; omega
  obtain ⟨fd, hfm, hfa, _⟩ := atI_in (xs := fs.map fldD) (i := n % ((fs.map fldD).length : Int)) (Int.emod_nonneg _ (by omega)) (Int.emod_lt_of_pos _ hfp)
  obtain ⟨f, hf, rfl⟩ := List.mem_map.mp hfm
  obtain ⟨v2, v5, hvv⟩ := F.vs f hf
  refine seq_unp (a := .str f.1) (b := .tuple (f.2.map PyData.str)) (fun q hq => ⟨_, rfl, _, rfl, _, rfl, _, rfl, _, rfl, hfp, _, hfa, hq⟩) ?_
  obtain ⟨kd, hkm, hka, _⟩ := atI_in (xs := [PyData.str "is", .str "upto"]) (i := n / 5 % 2) (Int.emod_nonneg _ (by decide)) (Int.emod_lt_of_pos _ (by decide))
  refine seq_set kd (fun q hq => ⟨Nat.le_of_ble_eq_true rfl, _, rfl, ⟨by decide, by decide⟩, (show (0 : Int) < 2 by decide), _, hka, hq⟩) ?_
  have hl : ((f.2.map PyData.str).length : Int) = (f.2.length : Int) := by rw [List.length_map]
  have pick : ∀ m : Int, 0 < m → m ≤ (f.2.length : Int) → ∃ z, L2.atI (f.2.map PyData.str) (n / 10 % m) = some (.str z) ∧ ∃ j : Nat, f.2[j]? = some z ∧ (j : Int) < m := fun m h0 h1 => by
    have a0 : 0 ≤ n / 10 % m := Int.emod_nonneg _ (by omega)
    have a1 : n / 10 % m < m := Int.emod_lt_of_pos _ h0
    obtain ⟨j, hj⟩ : ∃ j : Nat, n / 10 % m = (j : Int) := ⟨(n / 10 % m).toNat, by omega⟩
    rw [hj] at a1 ⊢
    have hjl : j < f.2.length := by omega
    exact ⟨f.2[j], L2.atI_nat (by rw [List.getElem?_map, List.getElem?_eq_getElem hjl]; rfl), j, List.getElem?_eq_getElem hjl, a1⟩
  simp only [List.mem_cons, List.not_mem_nil, or_false] at hkm
  rcases hkm with rfl | rfl
  · obtain ⟨z, hz, j, hj, hjm⟩ := pick (((f.2.map PyData.str).length : Int) - 0) (by omega) (by omega)
    have hzm : z ∈ f.2 := List.mem_of_getElem? hj
    refine ⟨_, rfl, _, rfl, _, rfl, _, rfl, ⟨by decide, by decide⟩, _, rfl, _, rfl, ?_⟩
    have e0 : (if decide (("is" : Str) = "upto") then (1 : Int) else 0) = 0 := by rw [if_neg (by decide +kernel)]
    show (0 : Int) < ((f.2.map PyData.str).length : Int) - (if decide (("is" : Str) = "upto") then (1 : Int) else 0) ∧ _
    rw [e0]
    refine ⟨by omega, _, hz, Nat.le_of_ble_eq_true rfl, h "is" f.1 z (isQ_mk hf ?_)⟩
    show (decide (z ∈ f.2) && (decide (("is" : Str) = "is") || _)) = true
    rw [decide_eq_true hzm]; rfl
  · obtain ⟨z, hz, j, hj, hjm⟩ := pick (((f.2.map PyData.str).length : Int) - 1) (by omega) (by omega)
    have hzm : z ∈ f.2 := List.mem_of_getElem? hj
    have hix := idx_le hj
    refine ⟨_, rfl, _, rfl, _, rfl, _, rfl, ⟨by decide, by decide⟩, _, rfl, _, rfl, ?_⟩
    have e0 : (if decide (("upto" : Str) = "upto") then (1 : Int) else 0) = 1 := by rw [if_pos (decide_eq_true rfl)]
    show (0 : Int) < ((f.2.map PyData.str).length : Int) - (if decide (("upto" : Str) = "upto") then (1 : Int) else 0) ∧ _
    rw [e0]
    refine ⟨by omega, _, hz, Nat.le_of_ble_eq_true rfl, h "upto" f.1 z (isQ_mk hf ?_)⟩
    show (decide (z ∈ f.2) && (decide (("upto" : Str) = "is") || (decide (("upto" : Str) = "upto") && decide (f.2.idxOf z + 1 < f.2.length)))) = true
    have hlt : f.2.idxOf z + 1 < f.2.length := by omega
    rw [decide_eq_true hzm, decide_eq_true hlt, decide_eq_true (rfl : ("upto" : Str) = "upto")]; simp

theorem sc__law_tree : FnScope ["_law_form_here", "_law_numbers", "_law_deep", "_law_number", "_law_question", "_law_yes"] ["_law_form_here", "_law_numbers", "_law_deep"] (defScope (top 31)) := ⟨rfl, rfl, rfl, by decide +kernel, rfl, by decide +kernel, by decide +kernel⟩
set_option maxHeartbeats 4000000 in
theorem step__law_tree (dd : Nat) (T : Txt K mg A)
    (F__law_asks : FnOk P w K mg base CX0 1 A.a__law_asks A.f__law_asks ["_law_form_here", "_law_number"] (liftSp K sp__law_asks))
    (F__law_pop : FnOk P w K mg base CX0 1 A.a__law_pop A.f__law_pop ["_law_numbers"] (liftSp K sp__law_pop))
    (F__law_tree : FnOk P w K mg base CX0 (2 + dd) A.a__law_tree A.f__law_tree ["_law_form_here", "_law_numbers", "_law_deep"] (liftSp K (sp__law_tree_lt dd))) : FnOk P w K mg base CX0 (2 + dd + 1) A.a__law_tree A.f__law_tree ["_law_form_here", "_law_numbers", "_law_deep"] (liftSp K (sp__law_tree_lt (dd + 1))) := by
  refine fnT T.F__law_tree sc__law_tree (fun ds Q h => by obtain ⟨fs, an, n, rfl, F, hn, h⟩ := h; rfl) fun cdv Ar outer s H E hr ds Q h => ?_
  obtain ⟨fs, an, n, rfl, F, hn, h⟩ := h
  have nd := sc__law_tree.nd
  refine ⟨_, (st_cons (st_set (i := 3) (et_call F__law_pop T.m__law_pop T.k__law_pop T.d__law_pop (hr.mono (by omega)) (at_cons (et_v 1) at_nil) (fun h => pe_call F__law_pop (hr.mono (by omega)) rfl T.m__law_pop T.k__law_pop T.d__law_pop .nil pass0 h)) (fun h => ps_set (i := 3) nd rfl (by first | exact Or.inl rfl | exact Or.inr rfl) h))
  (st_cons (st_if (tw_pt (tw_or (tt_cmp op_eq o_eq (et_v 2) et_int) (tw_or1 (tt_cmp op_eq o_eq (et_op op_mod o_I (et_v 3) et_int) et_int))))
  (st_one (st_ret (et_tup (at_cons et_str (at_cons (et_ix ix_seq o_ix (et_ix ix_seq o_ix (et_v 0) et_int) (et_op op_mod o_I (et_op op_fdiv o_I (et_v 3) et_int) (et_cb c_len (at_cons (et_ix ix_seq o_ix (et_v 0) et_int) at_nil) (fun h => pe_callB call_lenAny rfl T.b_len bl_len h)))) at_nil)))))
  st_nil)
  (st_cons (st_set (i := 4) (et_call F__law_asks T.m__law_asks T.k__law_asks T.d__law_asks (hr.mono (by omega)) (at_cons (et_v 0) (at_cons (et_call F__law_pop T.m__law_pop T.k__law_pop T.d__law_pop (hr.mono (by omega)) (at_cons (et_v 1) at_nil) (fun h => pe_call F__law_pop (hr.mono (by omega)) rfl T.m__law_pop T.k__law_pop T.d__law_pop .nil pass0 h)) at_nil)) (fun h => pe_call F__law_asks (hr.mono (by omega)) rfl T.m__law_asks T.k__law_asks T.d__law_asks .nil pass0 h)) (fun h => ps_set (i := 4) nd rfl (by first | exact Or.inl rfl | exact Or.inr rfl) h))
  (st_cons (st_set (i := 5) (et_call F__law_tree T.m__law_tree T.k__law_tree T.d__law_tree (hr.mono (by omega)) (at_cons (et_v 0) (at_cons (et_v 1) (at_cons (et_op op_sub o_I0 (et_v 2) et_int) at_nil))) (fun h => pe_call F__law_tree (hr.mono (by omega)) rfl T.m__law_tree T.k__law_tree T.d__law_tree .nil pass0 h)) (fun h => ps_set (i := 5) nd rfl (by first | exact Or.inl rfl | exact Or.inr rfl) h))
  (st_one (st_ret (et_tup (at_cons et_str (at_cons (et_v 4) (at_cons (et_ix ix_seq o_ix (et_lst (at_cons et_str (at_cons et_str at_nil))) (et_op op_mod o_I (et_op op_fdiv o_I (et_v 3) et_int) et_int)) (at_cons (et_v 5) (at_cons (et_call F__law_tree T.m__law_tree T.k__law_tree T.d__law_tree (hr.mono (by omega)) (at_cons (et_v 0) (at_cons (et_v 1) (at_cons (et_op op_sub o_I0 (et_v 2) et_int) at_nil))) (fun h => pe_call F__law_tree (hr.mono (by omega)) rfl T.m__law_tree T.k__law_tree T.d__law_tree .nil pass0 h)) at_nil)))))))))))), ?_⟩
  show sSeq _ _ _ [.val (frmD fs an), .val (.dict []), .val (.int n), .un, .un, .un]
  have a2 := F.a2
  refine seq_setR (fun d => ∃ m : Int, d = .int m ∧ 0 ≤ m ∧ m < 4096) (fun q hq => ⟨_, rfl, rfl, fun m h0 h1 => hq _ ⟨m, rfl, h0, h1⟩⟩) ?_
  rintro _ ⟨m, rfl, m0, m1⟩
  refine seq_if (fun b => b = false → 0 < n) (fun q hq => ?_) (fun _ => ?_) fun hF => ?_
  · refine ⟨_, rfl, ?_⟩
    show (if decide ((n : Int) = 0) = true then _ else _)
    by_cases e : n = 0
    · rw [if_pos (decide_eq_true (by omega))]
      exact hq _ fun z => by cases z
    · rw [if_neg (by simpa using e)]
      exact ⟨_, rfl, (show (0 : Int) < 4 by decide), hq _ fun _ => by omega⟩
  · have hp : (0 : Int) < ((an.map PyData.str).length : Int) := by rw [List.length_map]; omega
    obtain ⟨ad, ham, haa, _⟩ := atI_in (xs := an.map PyData.str) (i := m / 4 % ((an.map PyData.str).length : Int)) (Int.emod_nonneg _ (by omega)) (Int.emod_lt_of_pos _ hp)
    obtain ⟨a, ha, rfl⟩ := List.mem_map.mp ham
    exact ⟨_, rfl, _, rfl, _, rfl, ⟨by decide, by decide⟩, _, rfl, _, rfl, hp, _, haa, Nat.le_of_ble_eq_true rfl, h (.say a) ha (Nat.zero_le _)⟩
  have hpos : 0 < n := hF rfl
  try unfold sNext
  dsimp only
  refine seq_setR (fun d => ∃ k nm v : Str, d = .tuple [.str k, .str nm, .str v] ∧ isQ fs (.tuple [.str k, .str nm, .str v]) = true) (fun q hq => ⟨_, rfl, _, rfl, rfl, fun j h0 h1 => ⟨fs, an, j, rfl, F, h0, fun k nm v hk => hq _ ⟨k, nm, v, rfl, hk⟩⟩⟩) ?_
  rintro _ ⟨k, nm, v, rfl, hk⟩
  have e1 : [frmD fs an, PyData.dict [], .int ((n : Int) - 1)] = [frmD fs an, .dict [], .int ((n - 1 : Nat) : Int)] := by
    have : (n : Int) - 1 = ((n - 1 : Nat) : Int) := by omega
    rw [this]
  refine seq_setR (fun d => ∃ t : Tr, d = trD t ∧ TrOk fs an t ∧ t.dep ≤ n - 1) (fun q hq => ⟨_, rfl, _, rfl, _, rfl, fs, an, n - 1, e1, F, by omega, fun t h1 h2 => hq _ ⟨t, rfl, h1, h2⟩⟩) ?_
  rintro _ ⟨t, rfl, ht, htd⟩
  obtain ⟨sd, hsm, hsa, _⟩ := atI_in (xs := [PyData.str "yes", .str "no"]) (i := m / 4 % 2) (Int.emod_nonneg _ (by decide)) (Int.emod_lt_of_pos _ (by decide))
  obtain ⟨s, rfl, hs⟩ : ∃ s : Str, sd = .str s ∧ (s = "yes" ∨ s = "no") := by
    simp only [List.mem_cons, List.not_mem_nil, or_false] at hsm
    rcases hsm with rfl | rfl
    · exact ⟨_, rfl, .inl rfl⟩
    · exact ⟨_, rfl, .inr rfl⟩
  refine ⟨_, rfl, Nat.le_of_ble_eq_true rfl, _, rfl, ⟨by decide, by decide⟩, (show (0 : Int) < 2 by decide), _, hsa, _, rfl, _, rfl, _, rfl, _, rfl, fs, an, n - 1, e1, F, by omega, fun u h1 h2 => ⟨Nat.le_of_ble_eq_true rfl, h (.ask k nm v s t u) ⟨hk, hs, ht, h1⟩ ?_⟩⟩
  show max t.dep u.dep + 1 ≤ n
  omega

theorem ok__law_tree (T : Txt K mg A)
    (F__law_asks : FnOk P w K mg base CX0 1 A.a__law_asks A.f__law_asks ["_law_form_here", "_law_number"] (liftSp K sp__law_asks))
    (F__law_pop : FnOk P w K mg base CX0 1 A.a__law_pop A.f__law_pop ["_law_numbers"] (liftSp K sp__law_pop)) : FnOk P w K mg base CX0 9 A.a__law_tree A.f__law_tree ["_law_form_here", "_law_numbers", "_law_deep"] (liftSp K sp__law_tree) := by
  have h : ∀ dd : Nat, FnOk P w K mg base CX0 (2 + dd) A.a__law_tree A.f__law_tree ["_law_form_here", "_law_numbers", "_law_deep"] (liftSp K (sp__law_tree_lt dd)) := fun dd => by
    induction dd with
    | zero => exact fn_imp fn_never fun ds Q h => never__law_tree h
    | succ dd ih => exact step__law_tree dd T F__law_asks F__law_pop ih
  exact h 7
theorem sc__law_words : FnScope ["_law_tree_here", "_law_left", "_law_words_here", "_law_part"] ["_law_tree_here"] (defScope (top 32)) := ⟨rfl, rfl, rfl, by decide +kernel, rfl, by decide +kernel, by decide +kernel⟩
set_option maxHeartbeats 4000000 in
theorem ok__law_words (T : Txt K mg A) : FnOk P w K mg base CX0 1 A.a__law_words A.f__law_words ["_law_tree_here"] (liftSp K sp__law_words) := by
  refine fnT T.F__law_words sc__law_words (fun ds Q h => by obtain ⟨fs, an, t, rfl, F, ht, hk, h⟩ := h; rfl) fun cdv Ar outer s H E hr ds Q h => ?_
  obtain ⟨fs, an, t, rfl, F, ht, hk, h⟩ := h
  have nd := sc__law_words.nd
  refine ⟨_, (st_cons (st_own (i := 1) (at_cons (et_v 0) at_nil) (fun h => ps_set (i := 1) nd rfl (by first | exact Or.inl rfl | exact Or.inr rfl) h))
  (st_cons (st_own (i := 2) at_nil (fun h => ps_set (i := 2) nd rfl (by first | exact Or.inl rfl | exact Or.inr rfl) h))
  (st_cons (st_while (tt_borrow 1 (tt_cmp op_gt o_B0 (et_cb c_len (at_cons (et_v 1) at_nil) (fun h => pe_callB call_lenAny rfl T.b_len bl_len h)) et_int))
  (st_cons (st_pop (i := 1) (pv 1) (gt_name (pg_name (i := 3) nd rfl (by first | exact Or.inl rfl | exact Or.inr rfl))) (fun hg => ps_asg (pe_bm0 PySem.F.plainAttrs_list PySem.F.slot_list_pop PySem.F.type_list_pop mt_pop (pv 1)) hg))
  (st_one (st_if (tt_cmp op_eq o_eq (et_cb c_len (at_cons (et_v 3) at_nil) (fun h => pe_callB call_lenAny rfl T.b_len bl_len h)) et_int)
  (st_one (st_extL (i := 2) (pv 2) (et_lst (at_cons et_str (at_cons (et_ix ix_seq o_ix (et_v 3) et_int) at_nil))) (pb := fun h => ps_expr (pe_bm PySem.F.plainAttrs_list PySem.F.slot_list_extend PySem.F.type_list_extend mt_extL (pv 2) h))))
  (st_cons (st_extL (i := 2) (pv 2) (et_lst (at_cons et_str (at_cons (et_ix ix_seq o_ix (et_ix ix_seq o_ix (et_v 3) et_int) et_int) (at_cons (et_ix ix_seq o_ix (et_ix ix_seq o_ix (et_v 3) et_int) et_int) (at_cons (et_ix ix_seq o_ix (et_ix ix_seq o_ix (et_v 3) et_int) et_int) (at_cons (et_ix ix_seq o_ix (et_v 3) et_int) at_nil)))))) (pb := fun h => ps_expr (pe_bm PySem.F.plainAttrs_list PySem.F.slot_list_extend PySem.F.type_list_extend mt_extL (pv 2) h)))
  (st_cons (st_app (i := 1) (pv 1) (et_ix ix_seq o_ix (et_v 3) et_int) (pb := fun h => ps_expr (pe_bm PySem.F.plainAttrs_list PySem.F.slot_list_append PySem.F.type_list_append mt_append (pv 1) h)))
  (st_one (st_app (i := 1) (pv 1) (et_ix ix_seq o_ix (et_v 3) et_int) (pb := fun h => ps_expr (pe_bm PySem.F.plainAttrs_list PySem.F.slot_list_append PySem.F.type_list_append mt_append (pv 1) h))))))))) (fun hc hb => ps_while PassesOwn.never hc hb))
  (st_share 2 (st_one (st_ret (et_v 2))))))), ?_⟩
  show sSeq _ _ _ [.val (trD t), .un, .un, .un]
  refine seq_own [trD t] (Nat.le_of_ble_eq_true rfl) (fun q hq => ⟨_, rfl, hq⟩) ?_
  refine seq_own [] (by decide) (fun q hq => hq) ?_
  refine seq_while (fun n σ => ∃ (ts : List Tr) (done : List Str) (s3 : Sl), σ = [.val (trD t), .own (ts.map trD), .own (done.map PyData.str), s3] ∧ (∀ x ∈ ts, TrOk fs an x) ∧ done ++ wW ts.reverse = wordsT t ∧ n = (ts.map Tr.nodes).sum ∧ (ts.map Tr.nodes).sum ≤ 2000) t.nodes
    ⟨[t], [], _, rfl, fun x hx => by rw [List.mem_singleton.mp hx]; exact ht, by show wordsT t ++ [] = _; rw [List.append_nil], by show t.nodes = t.nodes + 0; rfl, by show t.nodes + 0 ≤ 2000; rw [t.nodes_kn]; omega⟩ fun n σ' hP => ?_
  obtain ⟨ts, done, s3, rfl, hok, hdn, rfl, h2000⟩ := hP
  have hdl : done.length ≤ 3502 := by
    have := congrArg List.length hdn
    rw [List.length_append, wordsT_len] at this
    omega
  have htl : ts.length ≤ 2000 := by
    have : ∀ l : List Tr, l.length ≤ (l.map Tr.nodes).sum := fun l => by
      induction l with
      | nil => exact Nat.le_refl _
      | cons x l ih =>
        have := x.nodes_pos
        rw [List.map_cons, List.sum_cons, List.length_cons]
        omega
    have := this ts
    omega
  refine ⟨decide (0 < ts.length), fun q hq => ⟨_, rfl, _, rfl, ?_⟩, ?_⟩
  · show q (decide ((((ts.map trD).length : Nat) : Int) > 0))
    have : decide ((((ts.map trD).length : Nat) : Int) > 0) = decide (0 < ts.length) := by rw [decide_eq_decide, List.length_map]; omega
    rw [this]; exact hq
  rcases last_or ts with rfl | ⟨us, x, rfl⟩
  · rw [if_neg (by decide)]
    have : done = wordsT t := by
      have e : wW ([] : List Tr).reverse = [] := rfl
      rw [e, List.append_nil] at hdn
      exact hdn
    subst this
    exact ⟨_, rfl, _, rfl, h⟩
  · rw [if_pos (decide_eq_true (by rw [List.length_append, List.length_singleton]; omega))]
    have hx := hok x (by simp)
    have hus : ∀ y ∈ us, TrOk fs an y := fun y hy => hok y (List.mem_append.mpr (.inl hy))
    have hwr : wW (us ++ [x]).reverse = wordsT x ++ wW us.reverse := by
      rw [List.reverse_append]
      show (((x :: us.reverse).map wordsT)).flatten = _
      rw [List.map_cons, List.flatten_cons]; rfl
    have hns : ∀ y : Tr, ((us ++ [y]).map Tr.nodes).sum = (us.map Tr.nodes).sum + y.nodes := fun y => by
      rw [List.map_append, List.sum_append]; simp
    rw [hwr] at hdn
    rw [hns] at h2000
    have hnp := x.nodes_pos
    rw [hns]
    refine seq_pop (us.map trD) (trD x) (by rw [List.map_append]; rfl) ?_
    show sIf _ _ _ _ [.val (trD t), .own (us.map trD), .own (done.map PyData.str), .val (trD x)]
    cases x with
    | say a =>
      refine one_if (fun b => b = true) (fun q hq => ⟨_, rfl, hq _ rfl⟩) (fun _ => ?_) fun hF => by cases hF
      refine one_extL (ts := done.map PyData.str) (us := [.str "say", .str a]) rfl (by rw [List.length_map]; simp only [List.length_cons, List.length_nil]; omega) (fun q hq => ⟨_, rfl, _, rfl, Nat.le_of_ble_eq_true rfl, hq⟩) ?_
      refine ⟨(us.map Tr.nodes).sum, by omega, us, done ++ (["say", a] : List Str), .val (trD (.say a)), ?_, hus, ?_, rfl, by omega⟩
      · rw [List.map_append]; rfl
      · rw [List.append_assoc]; exact hdn
    | ask k n v s y m =>
      obtain ⟨hq, hs, hy, hm⟩ := hx
      have en : (Tr.ask k n v s y m).nodes = y.nodes + m.nodes + 1 := rfl
      refine one_if (fun b => b = false) (fun q hq => ⟨_, rfl, hq _ rfl⟩) (fun hT => by cases hT) fun _ => ?_
      refine seq_extL (ts := done.map PyData.str) (us := [.str "ask", .str n, .str k, .str v, .str s]) rfl (by rw [List.length_map]; simp only [List.length_cons, List.length_nil]; omega) (fun q hq => ⟨_, rfl, _, rfl, _, rfl, _, rfl, _, rfl, _, rfl, _, rfl, _, rfl, _, rfl, _, rfl, _, rfl, Nat.le_of_ble_eq_true rfl, hq⟩) ?_
      have hul : us.length ≤ 2000 := by rw [List.length_append] at htl; omega
      refine seq_app (ts := us.map trD) (trD m) rfl (by rw [List.length_map]; omega) (fun q hq => ⟨_, rfl, _, rfl, hq⟩) ?_
      refine one_app (ts := us.map trD ++ [trD m]) (trD y) rfl (by rw [List.length_append, List.length_map]; simp only [List.length_cons, List.length_nil]; omega) (fun q hq => ⟨_, rfl, _, rfl, hq⟩) ?_
      refine ⟨((us ++ [m] ++ [y]).map Tr.nodes).sum, ?_, us ++ [m] ++ [y], done ++ (["ask", n, k, v, s] : List Str), .val (trD (.ask k n v s y m)), ?_, fun z hz => ?_, ?_, rfl, ?_⟩
      · rw [List.map_append, List.sum_append, hns, en]
        simp only [List.map_cons, List.map_nil, List.sum_cons, List.sum_nil]
        omega
      · rw [List.map_append (f := PyData.str), List.map_append, List.map_append]; rfl
      · rcases List.mem_append.mp hz with hz | hz
        · rcases List.mem_append.mp hz with hz | hz
          · exact hus z hz
          · rw [List.mem_singleton.mp hz]; exact hm
        · rw [List.mem_singleton.mp hz]; exact hy
      · rw [List.reverse_append, List.reverse_append]
        show (done ++ (["ask", n, k, v, s] : List Str)) ++ (((y :: m :: us.reverse).map wordsT)).flatten = _
        rw [List.map_cons, List.map_cons, List.flatten_cons, List.flatten_cons, ← hdn]
        show _ = done ++ (((["ask", n, k, v, s] : List Str) ++ (wordsT y ++ wordsT m)) ++ wW us.reverse)
        unfold wW
        simp only [List.append_assoc]
      · rw [List.map_append, List.sum_append, hns]
        simp only [List.map_cons, List.map_nil, List.sum_cons, List.sum_nil]
        omega

theorem sc__law_some_of : FnScope ["_law_form_here", "_law_sort", "_law_field", "_law_kind"] ["_law_form_here", "_law_sort", "_law_field", "_law_kind"] (defScope (top 33)) := ⟨rfl, rfl, rfl, by decide +kernel, rfl, by decide +kernel, by decide +kernel⟩
set_option maxHeartbeats 4000000 in
theorem ok__law_some_of (T : Txt K mg A) : FnOk P w K mg base CX0 1 A.a__law_some_of A.f__law_some_of ["_law_form_here", "_law_sort", "_law_field", "_law_kind"] (liftSp K sp__law_some_of) := by
  refine fnT T.F__law_some_of sc__law_some_of (fun ds Q h => by obtain ⟨fs, an, m, x, rfl, F, hj, hx, h⟩ := h; rfl) fun cdv Ar outer s H E hr ds Q h => ?_
  obtain ⟨fs, an, m, x, rfl, F, hj, hx, h⟩ := h
  have nd := sc__law_some_of.nd
  refine ⟨_, (st_cons (st_if (tt_cmp op_eq o_eq (et_v 1) et_str)
  (st_one (st_ret (et_ix ix_seq o_ix (et_v 0) et_int)))
  st_nil)
  (st_cons (st_if (tt_cmp op_eq o_eq (et_v 1) et_str)
  (st_one (st_ret (et_lc (fr := [none]) (N' := ["_law_one"]) (it_val (et_ix ix_seq o_ix (et_v 0) et_int)) (fun b => ⟨(gt_name (pg_name (i := 0) (show List.Nodup (["_law_one"] : List Str) from by decide +kernel) rfl (by first | exact Or.inl rfl | exact Or.inr rfl))), if_nil, (et_ix ix_seq o_ix (et_v 0) et_int)⟩) (fun hi hY => pe_lcc (show lcChk _ (defScope (top 33)) ["_law_form_here", "_law_sort", "_law_field", "_law_kind"] ["_law_one"] [none] = true from by decide +kernel) rfl hi hY))))
  st_nil)
  (st_cons (st_if (tt_cmp op_eq o_eq (et_v 1) et_str)
  (st_one (st_ret (et_lst (at_cons et_str (at_cons et_str at_nil)))))
  st_nil)
  (st_cons (st_if (tt_cmp op_eq o_eq (et_v 1) et_str)
  (st_one (st_ret (et_slice sl_any o_sl (et_ix ix_seq o_ix (et_ix ix_seq o_ix (et_ix ix_seq o_ix (et_v 0) et_int) (et_v 2)) et_int) ot_none (ot_some (et_op op_sub o_I0 (et_cb c_len (at_cons (et_ix ix_seq o_ix (et_ix ix_seq o_ix (et_ix ix_seq o_ix (et_v 0) et_int) (et_v 2)) et_int) at_nil) (fun h => pe_callB call_lenAny rfl T.b_len bl_len h)) (et_cb c_int (at_cons (et_cmp op_eq o_eq (et_v 3) et_str) at_nil) (fun h => pe_callTy call_int1 rfl T.b_int bl_int h)))))))
  st_nil)
  (st_one (st_ret (et_lst (at_cons et_str (at_cons et_str at_nil))))))))), ?_⟩
  have n5 := F.n5
  show sSeq _ _ _ [.val (frmD fs an), .val (.str (sortS x)), .val (.int (m.fj : Int)), .val (.str m.kd)]
  cases x with
  | tree d => exact absurd rfl (hx d)
  | answer =>
    refine seq_if (fun b => b = true) (fun q hq => ⟨_, rfl, hq _ (by decide +kernel)⟩) (fun _ => ?_) fun hF => by cases hF
    exact ⟨_, rfl, _, rfl, h⟩
  | field =>
    refine seq_if (fun b => b = false) (fun q hq => ⟨_, rfl, hq _ (by decide +kernel)⟩) (fun hT => by cases hT) fun _ => ?_
    try unfold sNext
    dsimp only
    refine seq_if (fun b => b = true) (fun q hq => ⟨_, rfl, hq _ (by decide +kernel)⟩) (fun _ => ?_) fun hF => by cases hF
    have eN : (fs.map fldD).map fst = (fs.map (·.1)).map PyData.str := by rw [List.map_map, List.map_map]; rfl
    refine lcx_map (ts := fs.map fldD) (fun R h => ⟨_, rfl, _, rfl, _, rfl, h⟩) fst (by rw [List.length_map]; omega) (fun x q hx hq => ?_) ?_
    · obtain ⟨f, hf, rfl⟩ := List.mem_map.mp hx
      exact ⟨_, rfl, _, rfl, hq⟩
    · rw [eN]; exact h
  | kind =>
    refine seq_if (fun b => b = false) (fun q hq => ⟨_, rfl, hq _ (by decide +kernel)⟩) (fun hT => by cases hT) fun _ => ?_
    try unfold sNext
    dsimp only
    refine seq_if (fun b => b = false) (fun q hq => ⟨_, rfl, hq _ (by decide +kernel)⟩) (fun hT => by cases hT) fun _ => ?_
    try unfold sNext
    dsimp only
    refine seq_if (fun b => b = true) (fun q hq => ⟨_, rfl, hq _ (by decide +kernel)⟩) (fun _ => ?_) fun hF => by cases hF
    exact ⟨Nat.le_of_ble_eq_true rfl, h⟩
  | value =>
    refine seq_if (fun b => b = false) (fun q hq => ⟨_, rfl, hq _ (by decide +kernel)⟩) (fun hT => by cases hT) fun _ => ?_
    try unfold sNext
    dsimp only
    refine seq_if (fun b => b = false) (fun q hq => ⟨_, rfl, hq _ (by decide +kernel)⟩) (fun hT => by cases hT) fun _ => ?_
    try unfold sNext
    dsimp only
    refine seq_if (fun b => b = false) (fun q hq => ⟨_, rfl, hq _ (by decide +kernel)⟩) (fun hT => by cases hT) fun _ => ?_
    try unfold sNext
    dsimp only
    refine seq_if (fun b => b = true) (fun q hq => ⟨_, rfl, hq _ (by decide +kernel)⟩) (fun _ => ?_) fun hF => by cases hF
    have hfa : L2.atI (fs.map fldD) (m.fj : Int) = some (fldD (fldAt fs m.fj)) := L2.atI_nat (by
      rw [List.getElem?_map, List.getElem?_eq_getElem hj]
      unfold fldAt
      rw [List.getD_eq_getElem?_getD, List.getElem?_eq_getElem hj]; rfl)
    have hfm : fldAt fs m.fj ∈ fs := by
      unfold fldAt
      rw [List.getD_eq_getElem?_getD, List.getElem?_eq_getElem hj]
      exact List.getElem_mem hj
    have h2 : Q (.tuple ((asked m.kd (fldAt fs m.fj)).map PyData.str)) := h
    have v2 := (F.vs _ hfm).1
    generalize fldAt fs m.fj = f at hfa h2 v2
    refine ⟨_, rfl, _, rfl, _, rfl, _, hfa, _, rfl, _, rfl, _, rfl, _, rfl, _, hfa, _, rfl, _, rfl, ?_⟩
    unfold asked at h2
    by_cases e : m.kd = "upto"
    · rw [if_pos e] at h2
      rw [e]
      show Q (.tuple (cutD (f.2.map PyData.str) none (some ((((f.2.map PyData.str).length : Nat) : Int) - 1))))
      rw [List.length_map, show ((f.2.length : Nat) : Int) - 1 = ((f.2.length - 1 : Nat) : Int) by omega, cut_map, cut_ns]
      exact h2
    · rw [if_neg e] at h2
      have ef : fEq (.str m.kd) (.str "upto") = fun Q => Q (.bool false) := by
        funext Q
        show Q (.bool (decide (m.kd = "upto"))) = Q (.bool false)
        rw [decide_eq_false e]
      dsimp only [eC]
      rw [ef]
      show Q (.tuple (cutD (f.2.map PyData.str) none (some ((((f.2.map PyData.str).length : Nat) : Int) - 0))))
      rw [Int.sub_zero, cut_ns, List.take_length]
      exact h2
  | side =>
    refine seq_if (fun b => b = false) (fun q hq => ⟨_, rfl, hq _ (by decide +kernel)⟩) (fun hT => by cases hT) fun _ => ?_
    try unfold sNext
    dsimp only
    refine seq_if (fun b => b = false) (fun q hq => ⟨_, rfl, hq _ (by decide +kernel)⟩) (fun hT => by cases hT) fun _ => ?_
    try unfold sNext
    dsimp only
    refine seq_if (fun b => b = false) (fun q hq => ⟨_, rfl, hq _ (by decide +kernel)⟩) (fun hT => by cases hT) fun _ => ?_
    try unfold sNext
    dsimp only
    refine seq_if (fun b => b = false) (fun q hq => ⟨_, rfl, hq _ (by decide +kernel)⟩) (fun hT => by cases hT) fun _ => ?_
    try unfold sNext
    dsimp only
    exact ⟨Nat.le_of_ble_eq_true rfl, h⟩

theorem sc__law_wrong : FnScope ["_law_form_here", "_law_words_here", "_law_wanted", "_law_knots", "_law_field", "_law_kind", "_law_at", "_law_sort", "_law_deep", "_law_some"] ["_law_form_here", "_law_words_here"] (defScope (top 34)) := ⟨rfl, rfl, rfl, by decide +kernel, rfl, by decide +kernel, by decide +kernel⟩
set_option maxHeartbeats 4000000 in
theorem ok__law_wrong (T : Txt K mg A)
    (F__law_some_of : FnOk P w K mg base CX0 1 A.a__law_some_of A.f__law_some_of ["_law_form_here", "_law_sort", "_law_field", "_law_kind"] (liftSp K sp__law_some_of)) : FnOk P w K mg base CX0 2 A.a__law_wrong A.f__law_wrong ["_law_form_here", "_law_words_here"] (liftSp K sp__law_wrong) := by
  refine fnT T.F__law_wrong sc__law_wrong (fun ds Q h => by obtain ⟨fs, an, ws, rfl, F, hC, hl, h⟩ := h; rfl) fun cdv Ar outer s H E hr ds Q h => ?_
  obtain ⟨fs, an, ws, rfl, F, hC, hl, h⟩ := h
  have nd := sc__law_wrong.nd
  refine ⟨_, (st_cons (st_own (i := 2) (at_cons (et_tup (at_cons et_str (at_cons et_int at_nil))) at_nil) (fun h => ps_set (i := 2) nd rfl (by first | exact Or.inl rfl | exact Or.inr rfl) h))
  (st_cons (st_set (i := 3) et_int (fun h => ps_set (i := 3) nd rfl (by first | exact Or.inl rfl | exact Or.inr rfl) h))
  (st_cons (st_set (i := 4) et_int (fun h => ps_set (i := 4) nd rfl (by first | exact Or.inl rfl | exact Or.inr rfl) h))
  (st_cons (st_set (i := 5) et_str (fun h => ps_set (i := 5) nd rfl (by first | exact Or.inl rfl | exact Or.inr rfl) h))
  (st_cons (st_for (it_range (at_cons (et_cb c_len (at_cons (et_v 1) at_nil) (fun h => pe_callB call_lenAny rfl T.b_len bl_len h)) at_nil) (fun h => pi_range1 rfl T.b_range h)) (gt_name (pg_name (i := 6) nd rfl (by first | exact Or.inl rfl | exact Or.inr rfl)))
  (st_cons (st_if (tt_borrow 2 (tt_cmp (op_eqD hr) o_data (et_v 2) (et_lst at_nil)))
  (st_one (st_ret (et_v 6)))
  st_nil)
  (st_cons (st_pop (i := 2) (pv 2) (gt_pair (pg_tup rfl (pgs_cons (pg_name (i := 7) nd rfl (by first | exact Or.inl rfl | exact Or.inr rfl)) (pgs_cons (pg_name (i := 8) nd rfl (by first | exact Or.inl rfl | exact Or.inr rfl)) pgs_nil)))) (fun hg => ps_asg (pe_bm0 PySem.F.plainAttrs_list PySem.F.slot_list_pop PySem.F.type_list_pop mt_pop (pv 2)) hg))
  (st_one (st_if (tw_pt (tw_and (tt_cmp op_eq o_eq (et_v 7) et_str) (tw_and1 (tt_cmp op_eq o_eq (et_ix ix_seq o_ix (et_v 1) (et_v 6)) et_str))))
  (st_one (st_app (i := 2) (pv 2) (et_tup (at_cons et_str (at_cons et_int at_nil))) (pb := fun h => ps_expr (pe_bm PySem.F.plainAttrs_list PySem.F.slot_list_append PySem.F.type_list_append mt_append (pv 2) h))))
  (st_one (st_if (tt_cmp op_eq o_eq (et_v 7) et_str)
  (st_cons (st_if (tw_pt (tw_or (tt_cmp op_ne o_ne (et_ix ix_seq o_ix (et_v 1) (et_v 6)) et_str) (tw_or (tt_cmp op_eq o_eq (et_v 8) et_int) (tw_or1 (tt_cmp op_eq o_eq (et_v 3) et_int)))))
  (st_one (st_ret (et_v 6)))
  st_nil)
  (st_cons (st_set (i := 3) (et_op op_addAny o_add (et_v 3) et_int) (fun h => ps_set (i := 3) nd rfl (by first | exact Or.inl rfl | exact Or.inr rfl) h))
  (st_cons (st_setF (i := 2) (ft_addO (pv 2) (et_lst (at_cons (et_tup (at_cons et_str (at_cons (et_op op_addAny o_add (et_v 8) et_int) at_nil))) (at_cons (et_tup (at_cons et_str (at_cons (et_op op_addAny o_add (et_v 8) et_int) at_nil))) (at_cons (et_tup (at_cons et_str (at_cons et_int at_nil))) at_nil))))) (fun h => ps_set (i := 2) nd rfl (by first | exact Or.inl rfl | exact Or.inr rfl) h))
  (st_one (st_setF (i := 2) (ft_addO (pv 2) (et_lst (at_cons (et_tup (at_cons et_str (at_cons et_int at_nil))) (at_cons (et_tup (at_cons et_str (at_cons et_int at_nil))) (at_cons (et_tup (at_cons et_str (at_cons et_int at_nil))) at_nil))))) (fun h => ps_set (i := 2) nd rfl (by first | exact Or.inl rfl | exact Or.inr rfl) h))))))
  (st_cons (st_set (i := 9) (et_call F__law_some_of T.m__law_some_of T.k__law_some_of T.d__law_some_of (hr.mono (by decide)) (at_cons (et_v 0) (at_cons (et_v 7) (at_cons (et_v 4) (at_cons (et_v 5) at_nil)))) (fun h => pe_call F__law_some_of (hr.mono (by decide)) rfl T.m__law_some_of T.k__law_some_of T.d__law_some_of .nil pass0 h)) (fun h => ps_set (i := 9) nd rfl (by first | exact Or.inl rfl | exact Or.inr rfl) h))
  (st_cons (st_if (tt_cmp (op_notInData hr) o_data (et_ix ix_seq o_ix (et_v 1) (et_v 6)) (et_v 9))
  (st_one (st_ret (et_v 6)))
  st_nil)
  (st_cons (st_if (tt_cmp op_eq o_eq (et_v 7) et_str)
  (st_one (st_set (i := 4) (et_lindex (et_v 9) (at_cons (et_ix ix_seq o_ix (et_v 1) (et_v 6)) at_nil) (fun h ha => pe_bm PySem.F.plainAttrs_list PySem.F.slot_list_index PySem.F.type_list_index (mt_lindex hr) h ha)) (fun h => ps_set (i := 4) nd rfl (by first | exact Or.inl rfl | exact Or.inr rfl) h)))
  st_nil)
  (st_one (st_if (tt_cmp op_eq o_eq (et_v 7) et_str)
  (st_one (st_set (i := 5) (et_ix ix_seq o_ix (et_v 1) (et_v 6)) (fun h => ps_set (i := 5) nd rfl (by first | exact Or.inl rfl | exact Or.inr rfl) h)))
  st_nil))))))))))) (fun hi hg hb => ps_for PassesOwn.never rfl hi hg hb))
  (st_cons (st_if (tt_borrow 2 (tt_cmp (op_neD hr) o_data (et_v 2) (et_lst at_nil)))
  (st_one (st_ret (et_cb c_len (at_cons (et_v 1) at_nil) (fun h => pe_callB call_lenAny rfl T.b_len bl_len h))))
  st_nil)
  (st_one (st_ret et_non)))))))), ?_⟩
  show sSeq _ _ _ [.val (frmD fs an), .val (.list (ws.map PyData.str)), .un, .un, .un, .un, .un, .un, .un, .un]
  have n1 := F.n1
  refine seq_own [.tuple [.str "tree", .int 0]] (by decide) (fun q hq => ⟨Nat.le_of_ble_eq_true rfl, hq⟩) ?_
  refine seq_set (.int 0) (fun q hq => hq) ?_
  refine seq_set (.int 0) (fun q hq => hq) ?_
  refine seq_set (.str "") (fun q hq => hq) ?_
  refine seq_for (ts := intsTo ws.length) (fun R h => ⟨_, rfl, _, by rw [List.length_map], by omega, by omega, by simpa using h⟩)
    (fun k σ => ∃ (m : Mc) (s6 s7 s8 s9 : Sl), σ = [.val (frmD fs an), .val (.list (ws.map PyData.str)), .own (m.st.reverse.map wantD), .val (.int (m.kn : Int)), .val (.int (m.fj : Int)), .val (.str m.kd), s6, s7, s8, s9] ∧ runM fs an (ws.drop k) k m = wrongW fs an ws ∧ m.fj < fs.length ∧ m.st.length ≤ 5 * k + 1) ⟨⟨[.tree 0], 0, 0, ""⟩, _, _, _, _, rfl, rfl, (show 0 < fs.length by omega), by decide⟩ (fun k x σ' hx hP => ?_) fun σ' hP => ?_
  · obtain ⟨⟨st, kn, fj, kd⟩, s6, s7, s8, s9, rfl, hr, hj, hst⟩ := hP
    dsimp only at hj hst
    obtain ⟨hk, rfl⟩ := intsTo_get hx
    have hw : L2.atI (ws.map PyData.str) (k : Int) = some (.str ws[k]) := atI_strs hk
    rw [List.drop_eq_getElem_cons hk] at hr
    have hCk := hC ws[k] (List.getElem_mem hk)
    generalize ws[k] = w at hw hr hCk
    show sSeq _ _ _ [.val (frmD fs an), .val (.list (ws.map PyData.str)), .own (st.reverse.map wantD), .val (.int (kn : Int)), .val (.int (fj : Int)), .val (.str kd), .val (.int (k : Int)), s7, s8, s9]
    cases st with
    | nil =>
      refine seq_if (fun b => b = true) (fun q hq => ⟨_, rfl, _, rfl, Nat.le_of_ble_eq_true rfl, want_ok [], hq _ rfl⟩) (fun _ => ?_) fun hF => by cases hF
      have e : wrongW fs an ws = some k := by rw [← hr]; rfl
      rw [e] at h
      exact ⟨_, rfl, h⟩
    | cons x r =>
      refine seq_if (fun b => b = false) (fun q hq => ⟨_, rfl, _, rfl, Nat.le_of_ble_eq_true rfl, want_ok _, hq _ ?_⟩) (fun hT => by cases hT) fun _ => ?_
      · show PyData.eqv (.list ((x :: r).reverse.map wantD)) (.list []) = false
        rw [want_snoc]; exact want_eq _ _
      try unfold sNext
      dsimp only
      rw [List.length_cons] at hst
      have hrl : (r.reverse.map wantD).length = r.length := by rw [List.length_map, List.length_reverse]
      refine seq_pop (r.reverse.map wantD) (wantD x) (congrArg (fun l => some (Sl.own l)) (want_snoc x r)) ⟨.str (sortS x), .int (dpW x : Nat), want_tup x, ?_⟩
      show sIf _ _ _ _ [.val (frmD fs an), .val (.list (ws.map PyData.str)), .own (r.reverse.map wantD), .val (.int (kn : Int)), .val (.int (fj : Int)), .val (.str kd), .val (.int (k : Int)), .val (.str (sortS x)), .val (.int (dpW x : Nat)), s9]
      by_cases hx : ∃ d, x = .tree d
      · obtain ⟨d, rfl⟩ := hx
        have et : decide ((sortS (.tree d) : Str) = "tree") = true := by show decide (("tree" : Str) = "tree") = true; decide +kernel
        by_cases hs : w = "say"
        · refine one_if (fun b => b = true) (fun q hq => ⟨_, rfl, ?_⟩) (fun _ => ?_) fun hF => by cases hF
          · show (if decide ((sortS (.tree d) : Str) = "tree") = true then _ else q false)
            rw [if_pos et]
            exact ⟨_, rfl, _, rfl, _, hw, hq _ (decide_eq_true hs)⟩
          refine one_app (ts := r.reverse.map wantD) (.tuple [.str "answer", .int 0]) rfl (by omega) (fun q hq => ⟨Nat.le_of_ble_eq_true rfl, hq⟩) ?_
          refine ⟨⟨.answer :: r, kn, fj, kd⟩, .val (.int (k : Int)), .val (.str (sortS (.tree d))), .val (.int (dpW (.tree d) : Nat)), s9, ?_, ?_, hj, ?_⟩
          · rw [want_snoc .answer r]; rfl
          · rw [← hr]
            exact (run_cons (by show (if w = "say" then _ else _) = _; rw [if_pos hs])).symm
          · show r.length + 1 ≤ 5 * (k + 1) + 1
            omega
        · refine one_if (fun b => b = false) (fun q hq => ⟨_, rfl, ?_⟩) (fun hT => by cases hT) fun _ => ?_
          · show (if decide ((sortS (.tree d) : Str) = "tree") = true then _ else q false)
            rw [if_pos et]
            exact ⟨_, rfl, _, rfl, _, hw, hq _ (decide_eq_false hs)⟩
          refine one_if (fun b => b = true) (fun q hq => ⟨_, rfl, hq _ et⟩) (fun _ => ?_) fun hF => by cases hF
          by_cases hz : w ≠ "ask" ∨ d = 30 ∨ kn = 500
          · refine seq_if (fun b => b = true) (fun q hq => ⟨_, rfl, _, rfl, _, hw, ?_⟩) (fun _ => ?_) fun hF => by cases hF
            · show (if (!decide (w = "ask")) = true then q true else _)
              by_cases z1 : w = "ask"
              · rw [if_neg (by simp [z1])]
                refine ⟨_, rfl, ?_⟩
                show (if decide (((d : Nat) : Int) = 30) = true then q true else _)
                by_cases z2 : d = 30
                · rw [if_pos (decide_eq_true (by omega))]; exact hq _ rfl
                · rw [if_neg (by rw [decide_eq_false (by omega)]; decide)]
                  exact ⟨_, rfl, hq _ (decide_eq_true (by rcases hz with hz | hz | hz; exact absurd z1 hz; exact absurd hz z2; omega))⟩
              · rw [if_pos (by simp [z1])]; exact hq _ rfl
            · have e : wrongW fs an ws = some k := by
                rw [← hr]
                exact run_stop (by show (if w = "say" then _ else if w ≠ "ask" ∨ _ then _ else _) = _; rw [if_neg hs, if_pos hz])
              rw [e] at h
              exact ⟨_, rfl, h⟩
          · have z1 : w = "ask" := Classical.not_not.mp fun e => hz (.inl e)
            have z2 : ¬ d = 30 := fun e => hz (.inr (.inl e))
            have z3 : ¬ kn = 500 := fun e => hz (.inr (.inr e))
            refine seq_if (fun b => b = false) (fun q hq => ⟨_, rfl, _, rfl, _, hw, ?_⟩) (fun hT => by cases hT) fun _ => ?_
            · show (if (!decide (w = "ask")) = true then q true else _)
              rw [if_neg (by simp [z1])]
              refine ⟨_, rfl, ?_⟩
              show (if decide (((d : Nat) : Int) = 30) = true then q true else _)
              rw [if_neg (by rw [decide_eq_false (by omega)]; decide)]
              exact ⟨_, rfl, hq _ (decide_eq_false (by omega))⟩
            try unfold sNext
            dsimp only
            refine seq_set (.int ((kn : Int) + 1)) (fun q hq => ⟨_, rfl, hq⟩) ?_
            refine seq_setF (r.reverse.map wantD ++ [.tuple [.str "tree", .int ((d : Int) + 1)], .tuple [.str "tree", .int ((d : Int) + 1)], .tuple [.str "side", .int 0]]) (fun q hq => ⟨_, rfl, _, rfl, Nat.le_of_ble_eq_true rfl, _, rfl, Nat.le_of_ble_eq_true rfl, Nat.le_of_ble_eq_true rfl, Nat.le_of_ble_eq_true rfl, _, rfl, by simp only [List.length_cons, List.length_nil]; omega, hq⟩) ?_
            refine (show sSetF _ _ _ _ from ⟨_, rfl, Nat.le_of_ble_eq_true rfl, Nat.le_of_ble_eq_true rfl, Nat.le_of_ble_eq_true rfl, Nat.le_of_ble_eq_true rfl, _, rfl, by simp only [List.length_append, List.length_cons, List.length_nil]; omega, ?_⟩)
            refine ⟨⟨.field :: .kind :: .value :: .side :: .tree (d + 1) :: .tree (d + 1) :: r, kn + 1, fj, kd⟩, .val (.int (k : Int)), .val (.str (sortS (.tree d))), .val (.int (dpW (.tree d) : Nat)), s9, ?_, ?_, hj, ?_⟩
            · rw [show (Want.field :: .kind :: .value :: .side :: .tree (d + 1) :: .tree (d + 1) :: r).reverse.map wantD = (r.reverse.map wantD ++ [.tuple [.str "tree", .int ((d : Int) + 1)], .tuple [.str "tree", .int ((d : Int) + 1)], .tuple [.str "side", .int 0]]) ++ [.tuple [.str "value", .int 0], .tuple [.str "kind", .int 0], .tuple [.str "field", .int 0]] by
                simp only [List.reverse_cons, List.map_append, List.append_assoc, List.map_cons, List.map_nil, List.cons_append, List.nil_append]; rfl]
              rfl
            · rw [← hr]
              refine (run_cons ?_).symm
              show (if w = "say" then _ else if w ≠ "ask" ∨ d = 30 ∨ kn = 500 then _ else _) = _
              rw [if_neg hs, if_neg hz]
            · show r.length + 1 + 1 + 1 + 1 + 1 + 1 ≤ 5 * (k + 1) + 1
              omega
      · have hx' : ∀ d, x ≠ .tree d := fun d e => hx ⟨d, e⟩
        have et : decide ((sortS x : Str) = "tree") = false := by
          cases x with
          | tree d => exact absurd rfl (hx' d)
          | _ => decide +kernel
        refine one_if (fun b => b = false) (fun q hq => ⟨_, rfl, ?_⟩) (fun hT => by cases hT) fun _ => ?_
        · show (if decide ((sortS x : Str) = "tree") = true then _ else q false)
          rw [et, if_neg (by decide)]
          exact hq _ rfl
        refine one_if (fun b => b = false) (fun q hq => ⟨_, rfl, hq _ et⟩) (fun hT => by cases hT) fun _ => ?_
        refine seq_set (someD fs an ⟨x :: r, kn, fj, kd⟩ x) (fun q hq => ⟨_, rfl, _, rfl, _, rfl, _, rfl, fs, an, ⟨x :: r, kn, fj, kd⟩, x, rfl, F, hj, hx', hq⟩) ?_
        obtain ⟨o1, o2⟩ := some_in F (m := ⟨x :: r, kn, fj, kd⟩) hj hx' hCk
        by_cases hin : w ∈ someOf fs an ⟨x :: r, kn, fj, kd⟩ x
        · refine seq_if (fun b => b = false) (fun q hq => ⟨_, rfl, _, rfl, _, hw, _, rfl, o1, hq _ ?_⟩) (fun hT => by cases hT) fun _ => ?_
          · show (!inD (.str w) (someD fs an ⟨x :: r, kn, fj, kd⟩ x)) = false
            rw [o2, decide_eq_true hin]; rfl
          try unfold sNext
          dsimp only
          cases x with
          | tree d => exact absurd rfl (hx' d)
          | field =>
            refine seq_if (fun b => b = true) (fun q hq => ⟨_, rfl, hq _ (by decide +kernel)⟩) (fun _ => ?_) fun hF => by cases hF
            obtain ⟨hix, _, hfl⟩ := fld_ix F hin
            have n5 := F.n5
            refine one_set (.int (fldOf fs w : Nat)) (fun q hq => ⟨_, rfl, _, rfl, _, rfl, _, rfl, _, hw, _, fldOf fs w, rfl, hix, by omega, hq⟩) ?_
            try unfold sNext
            dsimp only
            refine one_if (fun b => b = false) (fun q hq => ⟨_, rfl, hq _ (by decide +kernel)⟩) (fun hT => by cases hT) fun _ => ?_
            try unfold sNext
            dsimp only
            refine ⟨⟨r, kn, fldOf fs w, kd⟩, _, _, _, _, rfl, ?_, hfl, by show r.length ≤ 5 * (k + 1) + 1; omega⟩
            rw [← hr]
            exact (run_cons (by show (if w ∈ fs.map (·.1) then _ else _) = _; rw [if_pos (show w ∈ fs.map (·.1) from hin)])).symm
          | kind =>
            refine seq_if (fun b => b = false) (fun q hq => ⟨_, rfl, hq _ (by decide +kernel)⟩) (fun hT => by cases hT) fun _ => ?_
            try unfold sNext
            dsimp only
            refine one_if (fun b => b = true) (fun q hq => ⟨_, rfl, hq _ (by decide +kernel)⟩) (fun _ => ?_) fun hF => by cases hF
            refine one_set (.str w) (fun q hq => ⟨_, rfl, _, rfl, _, hw, hq⟩) ?_
            try unfold sNext
            dsimp only
            refine ⟨⟨r, kn, fj, w⟩, _, _, _, _, rfl, ?_, hj, by show r.length ≤ 5 * (k + 1) + 1; omega⟩
            rw [← hr]
            exact (run_cons (by show (if w ∈ (["is", "upto"] : List Str) then _ else _) = _; rw [if_pos (show w ∈ (["is", "upto"] : List Str) from hin)])).symm
          | _ =>
            refine seq_if (fun b => b = false) (fun q hq => ⟨_, rfl, hq _ (by decide +kernel)⟩) (fun hT => by cases hT) fun _ => ?_
            try unfold sNext
            dsimp only
            refine one_if (fun b => b = false) (fun q hq => ⟨_, rfl, hq _ (by decide +kernel)⟩) (fun hT => by cases hT) fun _ => ?_
            try unfold sNext
            dsimp only
            refine ⟨⟨r, kn, fj, kd⟩, _, _, _, _, rfl, ?_, hj, by show r.length ≤ 5 * (k + 1) + 1; omega⟩
            rw [← hr]
            exact (run_cons (by show (if w ∈ someOf fs an _ _ then _ else _) = _; rw [if_pos hin])).symm
        · refine seq_if (fun b => b = true) (fun q hq => ⟨_, rfl, _, rfl, _, hw, _, rfl, o1, hq _ ?_⟩) (fun _ => ?_) fun hF => by cases hF
          · show (!inD (.str w) (someD fs an ⟨x :: r, kn, fj, kd⟩ x)) = true
            rw [o2, decide_eq_false hin]; rfl
          · have e : wrongW fs an ws = some k := by
              rw [← hr]
              refine run_stop ?_
              cases x with
              | tree d => exact absurd rfl (hx' d)
              | field => show (if w ∈ fs.map (·.1) then _ else _) = _; rw [if_neg (show ¬ w ∈ fs.map (·.1) from hin)]
              | kind => show (if w ∈ (["is", "upto"] : List Str) then _ else _) = _; rw [if_neg (show ¬ w ∈ (["is", "upto"] : List Str) from hin)]
              | _ => show (if w ∈ someOf fs an _ _ then _ else _) = _; rw [if_neg hin]
            rw [e] at h
            exact ⟨_, rfl, h⟩
  · obtain ⟨⟨st, kn, fj, kd⟩, s6, s7, s8, s9, rfl, hr, hj, hst⟩ := hP
    rw [intsTo_len, List.drop_length] at hr
    cases st with
    | nil =>
      have e : wrongW fs an ws = none := by rw [← hr]; rfl
      rw [e] at h
      refine seq_if (fun b => b = false) (fun q hq => ⟨_, rfl, _, rfl, Nat.le_of_ble_eq_true rfl, want_ok [], hq _ rfl⟩) (fun hT => by cases hT) fun _ => ?_
      try unfold sNext
      dsimp only
      exact h
    | cons x r =>
      have e : wrongW fs an ws = some ws.length := by rw [← hr]; rfl
      rw [e] at h
      refine seq_if (fun b => b = true) (fun q hq => ⟨_, rfl, _, rfl, Nat.le_of_ble_eq_true rfl, want_ok _, hq _ ?_⟩) (fun _ => ?_) fun hF => by cases hF
      · show (!PyData.eqv (.list ((x :: r).reverse.map wantD)) (.list [])) = true
        rw [want_snoc, want_eq]; rfl
      · refine ⟨_, rfl, ?_⟩
        show Q (.int (((ws.map PyData.str).length : Nat) : Int))
        rw [List.length_map]
        exact h

theorem sc__law_spoilt : FnScope ["_law_form_here", "_law_bits", "_law_words_here", "_law_names_here", "_law_name", "_law_values", "_law_at", "_law_word", "_law_spot", "_law_sign", "_law_head", "_law_tail", "_law_other", "_law_some"] ["_law_form_here", "_law_bits", "_law_words_here"] (defScope (top 35)) := ⟨rfl, rfl, rfl, by decide +kernel, rfl, by decide +kernel, by decide +kernel⟩
set_option maxHeartbeats 4000000 in
theorem ok__law_spoilt (T : Txt K mg A) : FnOk P w K mg base CX0 1 A.a__law_spoilt A.f__law_spoilt ["_law_form_here", "_law_bits", "_law_words_here"] (liftSp K sp__law_spoilt) := by
  refine fnT T.F__law_spoilt sc__law_spoilt (fun ds Q h => by obtain ⟨fs, an, bs, ws, n, l, m, rfl, F, hb, hm, hW, h0, hn1, hl8, hl, h⟩ := h; rfl) fun cdv Ar outer s H E hr ds Q h => ?_
  obtain ⟨fs, an, bs, ws, n, l, m, rfl, F, hb, hm, hW, h0, hn1, hl8, hl, h⟩ := h
  have nd := sc__law_spoilt.nd
  refine ⟨_, (st_cons (st_setN (i := 3) nd rfl (by first | exact Or.inl rfl | exact Or.inr rfl) (et_op op_addAny o_add (et_lst (at_consts rfl)) (et_cb c_list (at_cons (et_ix ix_seq o_ix (et_v 0) et_int) at_nil) (fun h => pe_callTy call_list_of rfl T.b_list bl_list h))))
  (st_cons (st_for (it_val (et_ix ix_seq o_ix (et_v 0) et_int)) (gt_pair (pg_tup rfl (pgs_cons (pg_name (i := 4) nd rfl (by first | exact Or.inl rfl | exact Or.inr rfl)) (pgs_cons (pg_name (i := 5) nd rfl (by first | exact Or.inl rfl | exact Or.inr rfl)) pgs_nil))))
  (st_one (st_set (i := 3) (et_op op_addAny o_add (et_op op_addAny o_add (et_v 3) (et_lst (at_cons (et_v 4) at_nil))) (et_cb c_list (at_cons (et_v 5) at_nil) (fun h => pe_callTy call_list_of rfl T.b_list bl_list h))) (fun h => ps_set (i := 3) nd rfl (by first | exact Or.inl rfl | exact Or.inr rfl) h))) (fun hi hg hb => ps_for PassesOwn.never rfl hi hg hb))
  (st_cons (st_set (i := 6) (et_op op_mod o_I (et_ix ix_seq o_ix (et_v 1) et_int) (et_cb c_len (at_cons (et_v 2) at_nil) (fun h => pe_callB call_lenAny rfl T.b_len bl_len h))) (fun h => ps_set (i := 6) nd rfl (by first | exact Or.inl rfl | exact Or.inr rfl) h))
  (st_cons (st_set (i := 7) (et_ix ix_seq o_ix (et_v 2) (et_v 6)) (fun h => ps_set (i := 7) nd rfl (by first | exact Or.inl rfl | exact Or.inr rfl) h))
  (st_cons (st_set (i := 8) (et_op op_mod o_I (et_ix ix_seq o_ix (et_v 1) et_int) (et_op op_addAny o_add (et_cb c_len (at_cons (et_v 7) at_nil) (fun h => pe_callB call_lenAny rfl T.b_len bl_len h)) et_int)) (fun h => ps_set (i := 8) nd rfl (by first | exact Or.inl rfl | exact Or.inr rfl) h))
  (st_cons (st_set (i := 9) (et_ix ix_seq o_ix et_str (et_op op_mod o_I (et_ix ix_seq o_ix (et_v 1) et_int) et_int)) (fun h => ps_set (i := 9) nd rfl (by first | exact Or.inl rfl | exact Or.inr rfl) h))
  (st_cons (st_set (i := 10) (et_slice sl_any o_sl (et_v 2) ot_none (ot_some (et_v 6))) (fun h => ps_set (i := 10) nd rfl (by first | exact Or.inl rfl | exact Or.inr rfl) h))
  (st_cons (st_set (i := 11) (et_slice sl_any o_sl (et_v 2) (ot_some (et_op op_addAny o_add (et_v 6) et_int)) ot_none) (fun h => ps_set (i := 11) nd rfl (by first | exact Or.inl rfl | exact Or.inr rfl) h))
  (st_cons (st_set (i := 12) (et_ix ix_seq o_ix (et_v 3) (et_op op_mod o_I (et_ix ix_seq o_ix (et_v 1) et_int) (et_cb c_len (at_cons (et_v 3) at_nil) (fun h => pe_callB call_lenAny rfl T.b_len bl_len h)))) (fun h => ps_set (i := 12) nd rfl (by first | exact Or.inl rfl | exact Or.inr rfl) h))
  (st_cons (st_own (i := 13) (at_cons (et_op op_addAny o_add (et_v 10) (et_v 11)) (at_cons (et_op op_addAny o_add (et_op op_addAny o_add (et_v 10) (et_lst (at_cons (et_v 7) (at_cons (et_v 7) at_nil)))) (et_v 11)) (at_cons (et_op op_addAny o_add (et_v 2) (et_lst (at_cons (et_v 12) at_nil))) (at_cons (et_v 10) (at_cons (et_op op_addAny o_add (et_op op_addAny o_add (et_op op_addAny o_add (et_v 10) (et_slice sl_any o_sl (et_v 11) ot_none (ot_some et_int))) (et_lst (at_cons (et_v 7) at_nil))) (et_slice sl_any o_sl (et_v 11) (ot_some et_int) ot_none)) at_nil))))) (fun h => ps_set (i := 13) nd rfl (by first | exact Or.inl rfl | exact Or.inr rfl) h))
  (st_cons (st_setF (i := 13) (ft_addO (pv 13) (et_rep (at_cons (et_op op_addAny o_add (et_op op_addAny o_add (et_v 10) (et_lst (at_cons (et_v 12) at_nil))) (et_v 11)) at_nil))) (fun h => ps_set (i := 13) nd rfl (by first | exact Or.inl rfl | exact Or.inr rfl) h))
  (st_cons (st_app (i := 13) (pv 13) (et_op op_addAny o_add (et_op op_addAny o_add (et_v 10) (et_lst (at_cons (et_op op_addAny o_add (et_op op_addAny o_add (et_slice sl_any o_sl (et_v 7) ot_none (ot_some (et_v 8))) (et_v 9)) (et_slice sl_any o_sl (et_v 7) (ot_some (et_v 8)) ot_none)) at_nil))) (et_v 11)) (pb := fun h => ps_expr (pe_bm PySem.F.plainAttrs_list PySem.F.slot_list_append PySem.F.type_list_append mt_append (pv 13) h)))
  (st_cons (st_app (i := 13) (pv 13) (et_op op_addAny o_add (et_op op_addAny o_add (et_v 10) (et_lst (at_cons (et_op op_addAny o_add (et_op op_addAny o_add (et_slice sl_any o_sl (et_v 7) ot_none (ot_some (et_v 8))) (et_v 9)) (et_slice sl_any o_sl (et_v 7) (ot_some (et_op op_addAny o_add (et_v 8) et_int)) ot_none)) at_nil))) (et_v 11)) (pb := fun h => ps_expr (pe_bm PySem.F.plainAttrs_list PySem.F.slot_list_append PySem.F.type_list_append mt_append (pv 13) h)))
  (st_cons (st_app (i := 13) (pv 13) (et_op op_addAny o_add (et_op op_addAny o_add (et_v 10) (et_lst (at_cons (et_op op_addAny o_add (et_slice sl_any o_sl (et_v 7) ot_none (ot_some (et_v 8))) (et_slice sl_any o_sl (et_v 7) (ot_some (et_op op_addAny o_add (et_v 8) et_int)) ot_none)) at_nil))) (et_v 11)) (pb := fun h => ps_expr (pe_bm PySem.F.plainAttrs_list PySem.F.slot_list_append PySem.F.type_list_append mt_append (pv 13) h)))
  (st_share 13 (st_one (st_ret (et_ix ix_seq o_ix (et_v 13) (et_op op_mod o_I (et_ix ix_seq o_ix (et_v 1) et_int) et_int))))))))))))))))))), ?_⟩
  show sSeq _ _ _ [.val (frmD fs an), .val (.list (bs.map PyData.int)), .val (.list ws), .un, .un, .un, .un, .un, .un, .un, .un, .un, .un, .un]
  have n5 := F.n5
  have a4 := F.a4
  have lW := hW.len
  obtain ⟨b0, _, _, hb0⟩ := atI_bits hb (i := 0) (by decide) (by omega)
  obtain ⟨b1, _, _, hb1⟩ := atI_bits hb (i := 1) (by decide) (by omega)
  obtain ⟨b2, _, _, hb2⟩ := atI_bits hb (i := 2) (by decide) (by omega)
  obtain ⟨b3, _, _, hb3⟩ := atI_bits hb (i := 3) (by decide) (by omega)
  obtain ⟨b4, _, _, hb4⟩ := atI_bits hb (i := 4) (by decide) (by omega)
  refine seq_setR (fun d => ∃ xs, d = .list xs ∧ WL (Wd 8) 17 xs ∧ 0 < xs.length) (fun q hq => ?_) ?_
  · have hA : WL (Wd 8) 4 (an.map PyData.str) := ⟨an, rfl, a4, fun w hw => wd_nm (F.an.2.1 w hw)⟩
    refine ⟨Nat.le_of_ble_eq_true rfl, _, rfl, _, rfl, ?_, hq _ ⟨_, rfl, WL.app (n := 13) (m := 4) ⟨_, rfl, Nat.le_of_ble_eq_true rfl, wd_lit (by decide +kernel)⟩ hA, ?_⟩⟩
    · have := hA.len
      show 13 + _ ≤ _
      omega
    · rw [List.length_append]
      exact Nat.lt_of_lt_of_le (by decide) (Nat.le_add_right _ _)
  rintro _ ⟨xs, rfl, hx, hx0⟩
  refine seq_for (ts := fs.map fldD) (fun R h => ⟨_, rfl, _, rfl, _, rfl, h⟩)
    (fun k σ => ∃ (xs : List D) (s4 s5 : Sl), σ = [.val (frmD fs an), .val (.list (bs.map PyData.int)), .val (.list ws), .val (.list xs), s4, s5, .un, .un, .un, .un, .un, .un, .un, .un] ∧ WL (Wd 8) (17 + 6 * k) xs ∧ 0 < xs.length) ⟨xs, _, _, rfl, hx, hx0⟩ (fun k x σ' hxx hP => ?_) fun σ' hP => ?_
  · obtain ⟨xs, s4, s5, rfl, hx, hx0⟩ := hP
    have hk : k < fs.length := by have := (List.getElem?_eq_some_iff.mp hxx).1; rw [List.length_map] at this; exact this
    obtain ⟨f, hf, rfl⟩ := List.mem_map.mp (List.mem_of_getElem? hxx)
    obtain ⟨v2, v5, hvl, hvn, hvd⟩ := F.vs _ hf
    have lx := hx.len
    have hN : WL (Wd 8) 1 [.str f.1] := WL.one (wd_nm (F.name hf))
    have hV : WL (Wd 8) 5 (f.2.map PyData.str) := ⟨f.2, rfl, v5, fun w hw => wd_nm (hvn w hw)⟩
    have lV := hV.len
    refine ⟨.str f.1, .tuple (f.2.map PyData.str), rfl, ?_⟩
    refine one_set (.list (xs ++ [.str f.1] ++ f.2.map PyData.str)) (fun q hq => ⟨_, rfl, _, rfl, Nat.le_of_ble_eq_true rfl, by simp only [List.length_cons, List.length_nil]; omega, _, rfl, by rw [List.length_append (as := xs)]; simp only [List.length_cons, List.length_nil]; omega, hq⟩) ?_
    exact ⟨_, _, _, rfl, ((hx.app hN).app hV).le (by omega) (fun _ z => z), by rw [List.length_append, List.length_append]; omega⟩
  obtain ⟨xs, s4, s5, rfl, hx, hx0⟩ := hP
  rw [List.length_map] at hx
  have lx := hx.len
  obtain ⟨a, ha, ea⟩ : ∃ a : Nat, a < ws.length ∧ b0 % (ws.length : Int) = (a : Int) := ⟨(b0 % (ws.length : Int)).toNat, by have := Int.emod_lt_of_pos b0 (show (0 : Int) < (ws.length : Int) by omega); have := Int.emod_nonneg b0 (show (ws.length : Int) ≠ 0 by omega); omega, by have := Int.emod_nonneg b0 (show (ws.length : Int) ≠ 0 by omega); omega⟩
  refine seq_set (.int (a : Int)) (fun q hq => ⟨_, rfl, _, hb0, _, rfl, (show (0 : Int) < (ws.length : Int) by omega), (show q (.int (b0 % (ws.length : Int))) by rw [ea]; exact hq)⟩) ?_
  obtain ⟨w, hwa, hw⟩ := hW.item (i := (a : Int)) (by omega) (by omega)
  refine seq_set (PyData.str w) (fun q hq => ⟨_, rfl, _, rfl, _, hwa, hq⟩) ?_
  have hw1 := hw.1
  have hwl : w.length ≤ 100000 := by omega
  refine seq_set (.int (b1 % ((w.length : Int) + 1))) (fun q hq => ⟨_, rfl, _, hb1, _, rfl, hwl, (show (0 : Int) < (w.length : Int) + 1 by omega), hq⟩) ?_
  generalize b1 % ((w.length : Int) + 1) = s
  obtain ⟨c, hcm, hc, _⟩ := atI_in (xs := ("ayz A-" : Str).cps.toList) (i := b2 % 6) (Int.emod_nonneg _ (by decide)) (Int.emod_lt_of_pos _ (by decide))
  have hc1 : c < 1000 := by
    have : ∀ c ∈ ("ayz A-" : Str).cps.toList, c < 1000 := by decide +kernel
    exact this c hcm
  have hS : Wd 1 (⟨#[c]⟩ : Str) := ⟨Nat.le_refl _, fun d hd => by rw [List.mem_singleton.mp hd]; exact hc1⟩
  refine seq_set (.str ⟨#[c]⟩) (fun q hq => ⟨_, rfl, _, hb2, (show (0 : Int) < 6 by decide), Nat.le_of_ble_eq_true rfl, c, hc, hq⟩) ?_
  generalize (⟨#[c]⟩ : Str) = sg at hS
  have hH := hW.take a
  have hT : WL (Wd l) (n - (a + 1)) (cutD ws (some ((a : Int) + 1)) none) := hW.drop (a + 1)
  refine seq_set (.list (cutD ws none (some (a : Int)))) (fun q hq => ⟨_, rfl, _, rfl, hq⟩) ?_
  refine seq_set (.list (cutD ws (some ((a : Int) + 1)) none)) (fun q hq => ⟨_, rfl, _, rfl, hq⟩) ?_
  generalize cutD ws none (some (a : Int)) = hd at hH
  generalize cutD ws (some ((a : Int) + 1)) none = tl at hT
  have lH := hH.len
  have lT := hT.len
  obtain ⟨ot, hoa, hO⟩ := hx.item (i := b3 % (xs.length : Int)) (Int.emod_nonneg _ (by omega)) (Int.emod_lt_of_pos _ (by omega))
  refine seq_set (PyData.str ot) (fun q hq => ⟨_, rfl, _, rfl, _, hb3, _, rfl, (show (0 : Int) < (xs.length : Int) by omega), _, hoa, hq⟩) ?_
  have hO1 : WL (Wd l) 1 [PyData.str ot] := WL.one (hO.mono hl8)
  have hW1 : WL (Wd l) 1 [PyData.str w] := WL.one hw
  have hT1 : WL (Wd l) 1 (cutD tl none (some 1)) := hT.take 1
  have hT2 : WL (Wd l) (n - (a + 1) - 1) (cutD tl (some 1) none) := hT.drop 1
  have lT1 := hT1.len
  have lT2 := hT2.len
  have up : ∀ {k : Nat} {ys : List D}, WL (Wd l) k ys → k ≤ n + 1 → GL (n + 1) (2 * l + 1) (.list ys) := fun hy hk => ⟨_, rfl, hy.le hk fun _ z => z.mono (by omega)⟩
  have g1 := up (hH.app hT) (by omega)
  have g2 := up ((hH.app (WL.cons hw hW1)).app hT) (by omega)
  have g3 := up (hW.app hO1) (by omega)
  have g4 := up hH (by omega)
  have g5 := up (((hH.app hT1).app hW1).app hT2) (by omega)
  have g6 := up ((hH.app hO1).app hT) (by omega)
  have up2 : ∀ {y : Str}, Wd (2 * l + 1) y → GL (n + 1) (2 * l + 1) (.list (hd ++ [PyData.str y] ++ tl)) := fun hy => ⟨_, rfl, (((hH.le (Nat.le_refl _) fun _ z => z.mono (by omega)).app (WL.one hy)).app (hT.le (Nat.le_refl _) fun _ z => z.mono (by omega))).le (by omega) fun _ z => z⟩
  have s1 := hw.cut none (some s)
  have s2 := hw.cut (some s) none
  have s3 := hw.cut (some (s + 1)) none
  have g7 := up2 (((s1.app hS).app s2).mono (by omega))
  have g8 := up2 (((s1.app hS).app s3).mono (by omega))
  have g9 := up2 ((s1.app s3).mono (by omega))
  have l1 := s1.1
  have l2 := s2.1
  have l3 := s3.1
  have l4 := (s1.app hS).1
  have l5 := hS.1
  refine seq_own [.list (hd ++ tl), .list (hd ++ [PyData.str w, PyData.str w] ++ tl), .list (ws ++ [PyData.str ot]), .list hd, .list (hd ++ cutD tl none (some 1) ++ [PyData.str w] ++ cutD tl (some 1) none)] (Nat.le_of_ble_eq_true rfl) (fun q hq => ⟨_, rfl, _, rfl, by omega, _, rfl, _, rfl, _, rfl, Nat.le_of_ble_eq_true rfl, by simp only [List.length_cons, List.length_nil]; omega, _, rfl, by simp only [List.length_append, List.length_cons, List.length_nil]; omega, _, rfl, _, rfl, Nat.le_of_ble_eq_true rfl, by simp only [List.length_cons, List.length_nil]; omega, _, rfl, _, rfl, _, rfl, by omega, _, rfl, Nat.le_of_ble_eq_true rfl, by simp only [List.length_append, List.length_cons, List.length_nil]; omega, _, rfl, by simp only [List.length_append, List.length_cons, List.length_nil]; omega, hq⟩) ?_
  generalize PyData.list (hd ++ tl) = d1 at g1
  generalize PyData.list (hd ++ [PyData.str w, PyData.str w] ++ tl) = d2 at g2
  generalize PyData.list (ws ++ [PyData.str ot]) = d3 at g3
  generalize PyData.list (hd ++ cutD tl none (some 1) ++ [PyData.str w] ++ cutD tl (some 1) none) = d5 at g5
  refine seq_setF ([d1, d2, d3, .list hd, d5] ++ [.list (hd ++ [PyData.str ot] ++ tl), .list (hd ++ [PyData.str ot] ++ tl), .list (hd ++ [PyData.str ot] ++ tl), .list (hd ++ [PyData.str ot] ++ tl)]) (fun q hq => ⟨_, rfl, _, rfl, _, rfl, Nat.le_of_ble_eq_true rfl, by simp only [List.length_cons, List.length_nil]; omega, _, rfl, by simp only [List.length_append, List.length_cons, List.length_nil]; omega, Nat.le_of_ble_eq_true rfl, by decide, by decide, _, rfl, Nat.le_of_ble_eq_true rfl, hq⟩) ?_
  generalize PyData.list (hd ++ [PyData.str ot] ++ tl) = d6 at g6
  refine seq_app (ts := [d1, d2, d3, .list hd, d5] ++ [d6, d6, d6, d6]) (.list (hd ++ [PyData.str (Txt.slice w none (some s) ++ sg ++ Txt.slice w (some s) none)] ++ tl)) rfl (Nat.le_of_ble_eq_true rfl) (fun q hq => ⟨_, rfl, _, rfl, _, rfl, hwl, _, rfl, by omega, _, rfl, _, rfl, hwl, by omega, Nat.le_of_ble_eq_true rfl, by simp only [List.length_cons, List.length_nil]; omega, _, rfl, by simp only [List.length_append, List.length_cons, List.length_nil]; omega, hq⟩) ?_
  generalize PyData.list (hd ++ [PyData.str (Txt.slice w none (some s) ++ sg ++ Txt.slice w (some s) none)] ++ tl) = d7 at g7
  refine seq_app (ts := [d1, d2, d3, .list hd, d5] ++ [d6, d6, d6, d6] ++ [d7]) (.list (hd ++ [PyData.str (Txt.slice w none (some s) ++ sg ++ Txt.slice w (some (s + 1)) none)] ++ tl)) rfl (Nat.le_of_ble_eq_true rfl) (fun q hq => ⟨_, rfl, _, rfl, _, rfl, hwl, _, rfl, by omega, _, rfl, _, rfl, hwl, by omega, Nat.le_of_ble_eq_true rfl, by simp only [List.length_cons, List.length_nil]; omega, _, rfl, by simp only [List.length_append, List.length_cons, List.length_nil]; omega, hq⟩) ?_
  generalize PyData.list (hd ++ [PyData.str (Txt.slice w none (some s) ++ sg ++ Txt.slice w (some (s + 1)) none)] ++ tl) = d8 at g8
  refine seq_app (ts := [d1, d2, d3, .list hd, d5] ++ [d6, d6, d6, d6] ++ [d7] ++ [d8]) (.list (hd ++ [PyData.str (Txt.slice w none (some s) ++ Txt.slice w (some (s + 1)) none)] ++ tl)) rfl (Nat.le_of_ble_eq_true rfl) (fun q hq => ⟨_, rfl, _, rfl, _, rfl, hwl, _, rfl, _, rfl, hwl, by omega, Nat.le_of_ble_eq_true rfl, by simp only [List.length_cons, List.length_nil]; omega, _, rfl, by simp only [List.length_append, List.length_cons, List.length_nil]; omega, hq⟩) ?_
  generalize PyData.list (hd ++ [PyData.str (Txt.slice w none (some s) ++ Txt.slice w (some (s + 1)) none)] ++ tl) = d9 at g9
  have all : ∀ d ∈ [d1, d2, d3, .list hd, d5] ++ [d6, d6, d6, d6] ++ [d7] ++ [d8] ++ [d9], GL (n + 1) (2 * l + 1) d := fun d hd => by
    simp only [List.mem_append, List.mem_cons, List.not_mem_nil, or_false] at hd
    rcases hd with (((hd | hd) | rfl) | rfl) | rfl
    · rcases hd with rfl | rfl | rfl | rfl | rfl <;> assumption
    · rcases hd with rfl | rfl | rfl | rfl <;> assumption
    · assumption
    · assumption
    · assumption
  obtain ⟨dd, hdm, hda, _⟩ := atI_in (xs := [d1, d2, d3, .list hd, d5] ++ [d6, d6, d6, d6] ++ [d7] ++ [d8] ++ [d9]) (i := b4 % 12) (Int.emod_nonneg _ (by decide)) (Int.emod_lt_of_pos _ (by decide))
  exact ⟨_, rfl, _, rfl, _, rfl, _, hb4, (show (0 : Int) < 12 by decide), _, hda, h _ (all _ hdm)⟩

theorem sc__law_right : FnScope ["_law_form_here", "_law_text", "_law_found", "_law_caught", "e", "_law_due"] ["_law_form_here", "_law_text"] (defScope (top 36)) := ⟨rfl, rfl, rfl, by decide +kernel, rfl, by decide +kernel, by decide +kernel⟩
set_option maxHeartbeats 4000000 in
theorem ok__law_right (T : Txt K mg A)
    (F__law_wrong : FnOk P w K mg base CX0 2 A.a__law_wrong A.f__law_wrong ["_law_form_here", "_law_words_here"] (liftSp K sp__law_wrong))
    (F_read_tree : FnOk P w K mg base CX0 69 A.a_read_tree A.f_read_tree ["form", "text"] (liftSp K sp_read_tree))
    (F_shown_tree : FnOk P w K mg base CX0 32 A.a_shown_tree A.f_shown_tree ["tree"] (liftSp K sp_shown_tree))
    (X_read_tree : FnOk P w K mg base (CX1 P w) 69 A.a_read_tree A.f_read_tree ["form", "text"] (liftSpX K (sp_read_treeX A))) : FnOk P w K mg base CX0 70 A.a__law_right A.f__law_right ["_law_form_here", "_law_text"] (liftSp K sp__law_right) := by
  refine fnT T.F__law_right sc__law_right (fun ds Q h => by obtain ⟨fs, an, z, rfl, F, hs, hz, hsl, h⟩ := h; rfl) fun cdv Ar outer s H E hr ds Q h => ?_
  obtain ⟨fs, an, z, rfl, F, hs, hz, hsl, h⟩ := h
  have nd := sc__law_right.nd
  refine ⟨_, (st_cons (st_set (i := 2) et_non (fun h => ps_set (i := 2) nd rfl (by first | exact Or.inl rfl | exact Or.inr rfl) h))
  (st_cons (st_set (i := 3) et_non (fun h => ps_set (i := 3) nd rfl (by first | exact Or.inl rfl | exact Or.inr rfl) h))
  (st_cons (PSt.or (st_tryN (st_one (st_set (i := 2) (et_call F_read_tree T.m_read_tree T.k_read_tree T.d_read_tree (hr.mono (by decide)) (at_cons (et_v 0) (at_cons (et_v 1) at_nil)) (fun h => pe_call F_read_tree (hr.mono (by decide)) rfl T.m_read_tree T.k_read_tree T.d_read_tree .nil pass0 h)) (fun h => ps_set (i := 2) nd rfl (by first | exact Or.inl rfl | exact Or.inr rfl) h))) (fun h => ps_tryN quiet0 h)) (st_tryX (J := A.c_JudgeError) (i := 4) (rst_call (x := "") (p := ⟨0, 0, 0, 0⟩) (at_cons (et_v 0) (at_cons (et_v 1) at_nil)) (fun h => rs_set (re_call quiet0 X_read_tree (hr.mono (by decide)) rfl T.m_read_tree T.k_read_tree T.d_read_tree h))) (fun ea => (st_one (st_set (i := 3) (et_v 4) (fun h => ps_set (i := 3) nd rfl (by first | exact Or.inl rfl | exact Or.inr rfl) h)))) (fun r b => ps_tryX quiet0 rfl rfl nd rfl rfl rfl T.x_JudgeError r b)))
  (st_cons (st_set (i := 5) (et_call F__law_wrong T.m__law_wrong T.k__law_wrong T.d__law_wrong (hr.mono (by decide)) (at_cons (et_v 0) (at_cons (et_split (et_v 1) (at_cons et_str at_nil) (fun h ha => pe_bm PySem.F.plainAttrs_str PySem.F.slot_str_split PySem.F.type_str_split mt_split h ha)) at_nil)) (fun h => pe_call F__law_wrong (hr.mono (by decide)) rfl T.m__law_wrong T.k__law_wrong T.d__law_wrong .nil pass0 h)) (fun h => ps_set (i := 5) nd rfl (by first | exact Or.inl rfl | exact Or.inr rfl) h))
  (st_cons (st_if (tt_cmp op_is2 o_is2 (et_v 5) et_non)
  (st_one (st_ret (et_and (et_cmp op_is2 o_is2 (et_v 3) et_non) (et_one (et_cmp op_eq o_eq (et_call F_shown_tree T.m_shown_tree T.k_shown_tree T.d_shown_tree (hr.mono (by decide)) (at_cons (et_v 2) at_nil) (fun h => pe_call F_shown_tree (hr.mono (by decide)) rfl T.m_shown_tree T.k_shown_tree T.d_shown_tree .nil pass0 h)) (et_v 1))))))
  st_nil)
  (st_cons (st_if (tw_pt (tw_or (tt_cmp op_is2 o_is2 (et_v 3) et_non) (tw_or (tt_not (tt_val (et_isx (c := .type "ValueError") (cv := .ty "ValueError") (et_v 3) (fun h => pe_callB (call_isx fun _ z => z) rfl T.b_isinstance bl_isinstance (pa_cons h (pa_cons (pe_bltn rfl T.b_ValueError bl_ValueError rfl) pa_nil)))) (fun h => pt_val h))) (tw_or1 (tt_not (tt_val (et_isx (c := .ref A.c_NoText) (cv := .ref A.c_NoText) (et_v 3) (fun h => pe_callB (call_isx fun _ z => z) rfl T.b_isinstance bl_isinstance (pa_cons h (pa_cons (pe_glob rfl T.x_NoText rfl) pa_nil)))) (fun h => pt_val h)))))))
  (st_one (st_ret et_bl))
  st_nil)
  (st_cons (st_if (tw_pt (tw_or (tt_val (et_isx (c := .ref A.c_TooMany) (cv := .ref A.c_TooMany) (et_v 3) (fun h => pe_callB (call_isx fun _ z => z) rfl T.b_isinstance bl_isinstance (pa_cons h (pa_cons (pe_glob rfl T.x_TooMany rfl) pa_nil)))) (fun h => pt_val h)) (tw_or (tt_val (et_isx (c := .ref A.c_NoPlace) (cv := .ref A.c_NoPlace) (et_v 3) (fun h => pe_callB (call_isx fun _ z => z) rfl T.b_isinstance bl_isinstance (pa_cons h (pa_cons (pe_glob rfl T.x_NoPlace rfl) pa_nil)))) (fun h => pt_val h)) (tw_or1 (tt_val (et_isx (c := .ref A.c_NoRow) (cv := .ref A.c_NoRow) (et_v 3) (fun h => pe_callB (call_isx fun _ z => z) rfl T.b_isinstance bl_isinstance (pa_cons h (pa_cons (pe_glob rfl T.x_NoRow rfl) pa_nil)))) (fun h => pt_val h))))))
  (st_one (st_ret et_bl))
  st_nil)
  (st_cons (st_if (tw_pt (tw_or (tt_val (et_isx (c := .ref A.c_NoSuch) (cv := .ref A.c_NoSuch) (et_v 3) (fun h => pe_callB (call_isx fun _ z => z) rfl T.b_isinstance bl_isinstance (pa_cons h (pa_cons (pe_glob rfl T.x_NoSuch rfl) pa_nil)))) (fun h => pt_val h)) (tw_or (tt_val (et_isx (c := .ref A.c_NoLine) (cv := .ref A.c_NoLine) (et_v 3) (fun h => pe_callB (call_isx fun _ z => z) rfl T.b_isinstance bl_isinstance (pa_cons h (pa_cons (pe_glob rfl T.x_NoLine rfl) pa_nil)))) (fun h => pt_val h)) (tw_or1 (tt_val (et_isx (c := .ref A.c_NoRule) (cv := .ref A.c_NoRule) (et_v 3) (fun h => pe_callB (call_isx fun _ z => z) rfl T.b_isinstance bl_isinstance (pa_cons h (pa_cons (pe_glob rfl T.x_NoRule rfl) pa_nil)))) (fun h => pt_val h))))))
  (st_one (st_ret et_bl))
  st_nil)
  (st_one (st_ret (et_and (et_isi (kit_int _) (et_at (et_v 3) (fun h => pe_at h)) (fun h => pe_callB call_isi rfl T.b_isinstance bl_isinstance (pa_cons h (pa_cons (pe_bltn rfl T.b_int bl_int rfl) pa_nil)))) (et_and (et_notV (et_isi (kit_bool _) (et_at (et_v 3) (fun h => pe_at h)) (fun h => pe_callB call_isi rfl T.b_isinstance bl_isinstance (pa_cons h (pa_cons (pe_bltn rfl T.b_bool bl_bool rfl) pa_nil))))) (et_one (et_cmp op_eq o_eq (et_at (et_v 3) (fun h => pe_at h)) (et_v 5))))))))))))))), ?_⟩
  show sSeq _ _ _ [.val (frmD fs an), .val (.str z), .un, .un, .un, .un]
  have hC : CdW (Txt.split z blank) := split_small hs
  have e1 : (blank.length == 0) = false := by decide +kernel
  refine seq_set .none (fun q hq => hq) ?_
  refine seq_set .none (fun q hq => hq) ?_
  show (_ ∨ _)
  rcases right_cases (fs := fs) (an := an) z with ⟨n, hw, hn⟩ | ⟨hw, t, ht, htd, htk, hzt⟩
  · refine .inr ⟨_, rfl, _, rfl, fs, an, z, n, rfl, F, hC, hz, hn, ⟨A.c_NoText, .int n, rfl, T.j_NoText⟩, _, rfl, ?_⟩
    dsimp only
    refine seq_set (.int (n : Int)) (fun q hq => ⟨_, rfl, _, rfl, _, rfl, e1, by omega, fs, an, Txt.split z blank, rfl, F, hC, hsl, by rw [hw]; exact hq⟩) ?_
    refine seq_if (fun b => b = false) (fun q hq => ⟨_, rfl, hq _ rfl⟩) (fun hT => by cases hT) fun _ => ?_
    try unfold sNext
    dsimp only
    refine seq_if (fun b => b = false) (fun q hq => ⟨_, rfl, ?_⟩) (fun hT => by cases hT) fun _ => ?_
    · show (if false = true then q true else _)
      rw [if_neg (by decide)]
      refine ⟨_, rfl, A.c_NoText, .int n, true, rfl, T.v_NoText, ?_⟩
      show (if false = true then q true else _)
      rw [if_neg (by decide)]
      exact ⟨_, rfl, A.c_NoText, .int n, true, rfl, T.q_NoText_NoText, hq _ rfl⟩
    try unfold sNext
    dsimp only
    refine seq_if (fun b => b = false) (fun q hq => ⟨_, rfl, A.c_NoText, .int n, false, rfl, T.q_NoText_TooMany, ?_⟩) (fun hT => by cases hT) fun _ => ?_
    · show (if false = true then q true else _)
      rw [if_neg (by decide)]
      refine ⟨_, rfl, A.c_NoText, .int n, false, rfl, T.q_NoText_NoPlace, ?_⟩
      show (if false = true then q true else _)
      rw [if_neg (by decide)]
      exact ⟨_, rfl, A.c_NoText, .int n, false, rfl, T.q_NoText_NoRow, hq _ rfl⟩
    try unfold sNext
    dsimp only
    refine seq_if (fun b => b = false) (fun q hq => ⟨_, rfl, A.c_NoText, .int n, false, rfl, T.q_NoText_NoSuch, ?_⟩) (fun hT => by cases hT) fun _ => ?_
    · show (if false = true then q true else _)
      rw [if_neg (by decide)]
      refine ⟨_, rfl, A.c_NoText, .int n, false, rfl, T.q_NoText_NoLine, ?_⟩
      show (if false = true then q true else _)
      rw [if_neg (by decide)]
      exact ⟨_, rfl, A.c_NoText, .int n, false, rfl, T.q_NoText_NoRule, hq _ rfl⟩
    try unfold sNext
    dsimp only
    refine ⟨_, rfl, A.c_NoText, n, rfl, T.T_NoText, ?_⟩
    have hT1 : isT "int" (.int (n : Int)) = true := rfl
    show (if isT "int" (.int (n : Int)) = true then _ else Q (.bool false))
    rw [if_pos hT1]
    try rw [if_pos hT1]
    refine ⟨_, rfl, A.c_NoText, n, rfl, T.T_NoText, ?_⟩
    have hT2 : (!isT "bool" (.int (n : Int))) = true := rfl
    show (if (!isT "bool" (.int (n : Int))) = true then _ else Q (.bool false))
    rw [if_pos hT2]
    try rw [if_pos hT2]
    refine ⟨_, rfl, A.c_NoText, n, rfl, T.T_NoText, _, rfl, ?_⟩
    show Q (.bool (decide ((n : Int) = (n : Int))))
    rw [decide_eq_true rfl]
    exact h
  · subst hzt
    refine .inl ⟨_, rfl, _, rfl, fs, an, t, rfl, F, ht, htd, htk, ?_⟩
    dsimp only
    refine seq_set .none (fun q hq => ⟨_, rfl, _, rfl, _, rfl, e1, by omega, fs, an, Txt.split (shownT t) blank, rfl, F, hC, hsl, by rw [hw]; exact hq⟩) ?_
    refine seq_if (fun b => b = true) (fun q hq => ⟨_, rfl, hq _ rfl⟩) (fun _ => ?_) fun hF => by cases hF
    refine ⟨_, rfl, ?_⟩
    show (if true = true then _ else Q (.bool false))
    rw [if_pos rfl]
    refine ⟨_, rfl, fs, an, t, rfl, F, ht, htk, Nat.lt_succ_of_le htd, _, rfl, ?_⟩
    show Q (.bool (decide (shownT t = shownT t)))
    rw [decide_eq_true rfl]
    exact h

theorem sc__law_chain_words : FnScope ["_law_form_here", "_law_bits", "_law_many", "_law_words_here", "_law_behind", "_law_k", "_law_kind", "_law_name", "_law_value", "_law_other"] ["_law_form_here", "_law_bits", "_law_many"] (defScope (top 37)) := ⟨rfl, rfl, rfl, by decide +kernel, rfl, by decide +kernel, by decide +kernel⟩
set_option maxHeartbeats 4000000 in
theorem ok__law_chain_words (T : Txt K mg A)
    (F__law_asks : FnOk P w K mg base CX0 1 A.a__law_asks A.f__law_asks ["_law_form_here", "_law_number"] (liftSp K sp__law_asks)) : FnOk P w K mg base CX0 2 A.a__law_chain_words A.f__law_chain_words ["_law_form_here", "_law_bits", "_law_many"] (liftSp K sp__law_chain_words) := by
  refine fnT T.F__law_chain_words sc__law_chain_words (fun ds Q h => by obtain ⟨fs, an, bs, m, rfl, F, hb, hm, h⟩ := h; rfl) fun cdv Ar outer s H E hr ds Q h => ?_
  obtain ⟨fs, an, bs, m, rfl, F, hb, hm, h⟩ := h
  have nd := sc__law_chain_words.nd
  refine ⟨_, (st_cons (st_own (i := 3) at_nil (fun h => ps_set (i := 3) nd rfl (by first | exact Or.inl rfl | exact Or.inr rfl) h))
  (st_cons (st_set (i := 4) (et_lst at_nil) (fun h => ps_set (i := 4) nd rfl (by first | exact Or.inl rfl | exact Or.inr rfl) h))
  (st_cons (st_for (it_range (at_cons (et_v 2) at_nil) (fun h => pi_range1 rfl T.b_range h)) (gt_name (pg_name (i := 5) nd rfl (by first | exact Or.inl rfl | exact Or.inr rfl)))
  (st_cons (st_unpG (et_call F__law_asks T.m__law_asks T.k__law_asks T.d__law_asks (hr.mono (by decide)) (at_cons (et_v 0) (at_cons (et_op op_addAny o_add (et_ix ix_seq o_ix (et_v 1) et_int) (et_op op_mulAny o_mul et_int (et_v 5))) at_nil)) (fun h => pe_call F__law_asks (hr.mono (by decide)) rfl T.m__law_asks T.k__law_asks T.d__law_asks .nil pass0 h)) (gt_triple (pg_tup rfl (pgs_cons (pg_name (i := 6) nd rfl (by first | exact Or.inl rfl | exact Or.inr rfl)) (pgs_cons (pg_name (i := 7) nd rfl (by first | exact Or.inl rfl | exact Or.inr rfl)) (pgs_cons (pg_name (i := 8) nd rfl (by first | exact Or.inl rfl | exact Or.inr rfl)) pgs_nil))))) (fun he hg => ps_asg he hg))
  (st_cons (st_extL (i := 3) (pv 3) (et_lst (at_cons et_str (at_cons (et_v 7) (at_cons (et_v 6) (at_cons (et_v 8) (at_cons et_str at_nil)))))) (pb := fun h => ps_expr (pe_bm PySem.F.plainAttrs_list PySem.F.slot_list_extend PySem.F.type_list_extend mt_extL (pv 3) h)))
  (st_cons (st_set (i := 9) (et_lst (at_cons et_str (at_cons (et_ix ix_seq o_ix (et_ix ix_seq o_ix (et_v 0) et_int) (et_op op_mod o_I (et_v 5) (et_cb c_len (at_cons (et_ix ix_seq o_ix (et_v 0) et_int) at_nil) (fun h => pe_callB call_lenAny rfl T.b_len bl_len h)))) at_nil))) (fun h => ps_set (i := 9) nd rfl (by first | exact Or.inl rfl | exact Or.inr rfl) h))
  (st_one (st_if (tt_cmp op_eq o_eq (et_op op_mod o_I (et_op op_addAny o_add (et_ix ix_seq o_ix (et_v 1) et_int) (et_v 5)) et_int) et_int)
  (st_one (st_extL (i := 3) (pv 3) (et_v 9) (pb := fun h => ps_expr (pe_bm PySem.F.plainAttrs_list PySem.F.slot_list_extend PySem.F.type_list_extend mt_extL (pv 3) h))))
  (st_one (st_set (i := 4) (et_op op_addAny o_add (et_v 9) (et_v 4)) (fun h => ps_set (i := 4) nd rfl (by first | exact Or.inl rfl | exact Or.inr rfl) h)))))))) (fun hi hg hb => ps_for PassesOwn.never rfl hi hg hb))
  (st_share 3 (st_one (st_ret (et_op op_addAny o_add (et_op op_addAny o_add (et_v 3) (et_lst (at_cons et_str (at_cons (et_ix ix_seq o_ix (et_ix ix_seq o_ix (et_v 0) et_int) et_int) at_nil)))) (et_v 4)))))))), ?_⟩
  show sSeq _ _ _ [.val (frmD fs an), .val (.list (bs.map PyData.int)), .val (.int (m : Int)), .un, .un, .un, .un, .un, .un, .un]
  have a2 := F.a2
  obtain ⟨b5, h50, h51, hb5⟩ := atI_bits hb (i := 5) (by decide) (by decide)
  obtain ⟨b6, h60, h61, hb6⟩ := atI_bits hb (i := 6) (by decide) (by decide)
  have hp : (0 : Int) < ((an.map PyData.str).length : Int) := by rw [List.length_map]; omega
  have ha0 : L2.atI (an.map PyData.str) (0 : Int) = some (.str an[0]) := L2.atI_nat (j := 0) (by rw [List.getElem?_map, List.getElem?_eq_getElem (by omega)]; rfl)
  refine seq_own [] (by decide) (fun q hq => hq) ?_
  refine seq_set (.list []) (fun q hq => ⟨Nat.le_of_ble_eq_true rfl, hq⟩) ?_
  refine seq_for (ts := intsTo m) (fun R h => ⟨_, rfl, _, rfl, by omega, by omega, by simpa using h⟩)
    (fun k σ => ∃ (xs ys : List D) (s5 s6 s7 s8 s9 : Sl), σ = [.val (frmD fs an), .val (.list (bs.map PyData.int)), .val (.int (m : Int)), .own xs, .val (.list ys), s5, s6, s7, s8, s9] ∧ WL Nm (7 * k) xs ∧ WL Nm (2 * k) ys) ⟨[], [], _, _, _, _, _, rfl, WL.nil, WL.nil⟩ (fun k x σ' hx hP => ?_) fun σ' hP => ?_
  · obtain ⟨hk, rfl⟩ := intsTo_get hx
    obtain ⟨xs, ys, s5, s6, s7, s8, s9, rfl, hX, hY⟩ := hP
    have lx := hX.len
    have ly := hY.len
    obtain ⟨ad, ham, haa, _⟩ := atI_in (xs := an.map PyData.str) (i := (k : Int) % ((an.map PyData.str).length : Int)) (Int.emod_nonneg _ (by omega)) (Int.emod_lt_of_pos _ hp)
    obtain ⟨a, ha, rfl⟩ := List.mem_map.mp ham
    have na : Nm a := F.an.2.1 a ha
    refine ⟨_, rfl, _, rfl, _, hb5, _, rfl, .inr ⟨by omega, by omega⟩, fs, an, b5 + 7 * (k : Int), rfl, F, by omega, fun kk nm v hq => ⟨_, _, _, rfl, ?_⟩⟩
    obtain ⟨n1, n2, n3⟩ := nm_q F hq
    refine seq_extL (ts := xs) (us := [.str "ask", .str nm, .str kk, .str v, .str "yes"]) rfl (by simp only [List.length_cons, List.length_nil]; omega) (fun q hq => ⟨_, rfl, _, rfl, _, rfl, Nat.le_of_ble_eq_true rfl, hq⟩) ?_
    have hX5 : WL Nm (7 * k + 5) (xs ++ [.str "ask", .str nm, .str kk, .str v, .str "yes"]) := hX.app (WL.cons nm_ask (WL.cons n1 (WL.cons n2 (WL.cons n3 (WL.one nm_yes)))))
    refine seq_set (.list [.str "say", .str a]) (fun q hq => ⟨_, rfl, _, rfl, _, rfl, _, rfl, _, rfl, hp, _, haa, Nat.le_of_ble_eq_true rfl, hq⟩) ?_
    have hO : WL Nm 2 [.str "say", .str a] := WL.cons nm_say (WL.one na)
    refine one_if (fun _ => True) (fun q hq => ⟨_, rfl, _, hb6, _, rfl, (show (0 : Int) < 2 by decide), hq _ trivial⟩) (fun _ => ?_) fun _ => ?_
    · refine one_extL (ts := xs ++ [.str "ask", .str nm, .str kk, .str v, .str "yes"]) (us := [.str "say", .str a]) rfl (by have := hX5.len; simp only [List.length_cons, List.length_nil]; omega) (fun q hq => ⟨_, rfl, hq⟩) ?_
      exact ⟨_, ys, _, _, _, _, _, rfl, (hX5.app hO).le (by omega) (fun _ z => z), hY.le (by omega) (fun _ z => z)⟩
    · refine one_set (.list ([.str "say", .str a] ++ ys)) (fun q hq => ⟨_, rfl, _, rfl, by simp only [List.length_cons, List.length_nil]; omega, hq⟩) ?_
      exact ⟨_, _, _, _, _, _, _, rfl, hX5.le (by omega) (fun _ z => z), (hO.app hY).le (by omega) (fun _ z => z)⟩
  · obtain ⟨xs, ys, s5, s6, s7, s8, s9, rfl, hX, hY⟩ := hP
    rw [intsTo_len] at hX hY
    have lx := hX.len
    have ly := hY.len
    have hO : WL Nm 2 [.str "say", .str an[0]] := WL.cons nm_say (WL.one (F.an.2.1 _ (List.getElem_mem _)))
    refine ⟨_, rfl, _, rfl, _, rfl, _, rfl, _, ha0, Nat.le_of_ble_eq_true rfl, by simp only [List.length_cons, List.length_nil]; omega, _, rfl, by simp only [List.length_append, List.length_cons, List.length_nil]; omega, h _ ?_⟩
    exact ((hX.app hO).app hY).le (by omega) (fun _ z => z)

theorem sc__law_bushy_words : FnScope ["_law_form_here", "_law_bits", "_law_many", "_law_half", "_law_kind", "_law_name", "_law_value", "_law_words_here"] ["_law_form_here", "_law_bits", "_law_many"] (defScope (top 38)) := ⟨rfl, rfl, rfl, by decide +kernel, rfl, by decide +kernel, by decide +kernel⟩
set_option maxHeartbeats 4000000 in
theorem step__law_bushy_words (dd : Nat) (T : Txt K mg A)
    (F__law_asks : FnOk P w K mg base CX0 1 A.a__law_asks A.f__law_asks ["_law_form_here", "_law_number"] (liftSp K sp__law_asks))
    (F__law_bushy_words : FnOk P w K mg base CX0 (2 + dd) A.a__law_bushy_words A.f__law_bushy_words ["_law_form_here", "_law_bits", "_law_many"] (liftSp K (sp__law_bushy_words_lt dd))) : FnOk P w K mg base CX0 (2 + dd + 1) A.a__law_bushy_words A.f__law_bushy_words ["_law_form_here", "_law_bits", "_law_many"] (liftSp K (sp__law_bushy_words_lt (dd + 1))) := by
  refine fnT T.F__law_bushy_words sc__law_bushy_words (fun ds Q h => by obtain ⟨fs, an, bs, n, rfl, F, hb, hd0, hn, h600, h⟩ := h; rfl) fun cdv Ar outer s H E hr ds Q h => ?_
  obtain ⟨fs, an, bs, n, rfl, F, hb, hd0, hn, h600, h⟩ := h
  have nd := sc__law_bushy_words.nd
  refine ⟨_, (st_cons (st_if (tt_cmp op_eq o_eq (et_v 2) et_int)
  (st_one (st_ret (et_lst (at_cons et_str (at_cons (et_ix ix_seq o_ix (et_ix ix_seq o_ix (et_v 0) et_int) et_int) at_nil)))))
  st_nil)
  (st_cons (st_set (i := 3) (et_op op_fdiv o_I (et_op op_sub o_I0 (et_v 2) et_int) et_int) (fun h => ps_set (i := 3) nd rfl (by first | exact Or.inl rfl | exact Or.inr rfl) h))
  (st_cons (st_unpG (et_call F__law_asks T.m__law_asks T.k__law_asks T.d__law_asks (hr.mono (by omega)) (at_cons (et_v 0) (at_cons (et_op op_addAny o_add (et_ix ix_seq o_ix (et_v 1) et_int) (et_v 2)) at_nil)) (fun h => pe_call F__law_asks (hr.mono (by omega)) rfl T.m__law_asks T.k__law_asks T.d__law_asks .nil pass0 h)) (gt_triple (pg_tup rfl (pgs_cons (pg_name (i := 4) nd rfl (by first | exact Or.inl rfl | exact Or.inr rfl)) (pgs_cons (pg_name (i := 5) nd rfl (by first | exact Or.inl rfl | exact Or.inr rfl)) (pgs_cons (pg_name (i := 6) nd rfl (by first | exact Or.inl rfl | exact Or.inr rfl)) pgs_nil))))) (fun he hg => ps_asg he hg))
  (st_cons (st_setN (i := 7) nd rfl (by first | exact Or.inl rfl | exact Or.inr rfl) (et_op op_addAny o_add (et_lst (at_cons et_str (at_cons (et_v 5) (at_cons (et_v 4) (at_cons (et_v 6) (at_cons et_str at_nil)))))) (et_call F__law_bushy_words T.m__law_bushy_words T.k__law_bushy_words T.d__law_bushy_words (hr.mono (by omega)) (at_cons (et_v 0) (at_cons (et_v 1) (at_cons (et_v 3) at_nil))) (fun h => pe_call F__law_bushy_words (hr.mono (by omega)) rfl T.m__law_bushy_words T.k__law_bushy_words T.d__law_bushy_words .nil pass0 h))))
  (st_one (st_ret (et_op op_addAny o_add (et_v 7) (et_call F__law_bushy_words T.m__law_bushy_words T.k__law_bushy_words T.d__law_bushy_words (hr.mono (by omega)) (at_cons (et_v 0) (at_cons (et_v 1) (at_cons (et_op op_sub o_I0 (et_op op_sub o_I0 (et_v 2) et_int) (et_v 3)) at_nil))) (fun h => pe_call F__law_bushy_words (hr.mono (by omega)) rfl T.m__law_bushy_words T.k__law_bushy_words T.d__law_bushy_words .nil pass0 h))))))))), ?_⟩
  show sSeq _ _ _ [.val (frmD fs an), .val (.list (bs.map PyData.int)), .val (.int n), .un, .un, .un, .un, .un]
  have a2 := F.a2
  rw [Nat.add_sub_cancel] at hn
  obtain ⟨b5, h50, h51, hb5⟩ := atI_bits hb (i := 5) (by decide) (by decide)
  have ha0 : L2.atI (an.map PyData.str) (0 : Int) = some (.str an[0]) := L2.atI_nat (j := 0) (by rw [List.getElem?_map, List.getElem?_eq_getElem (by omega)]; rfl)
  refine seq_if (fun b => b = decide (n = 0)) (fun q hq => ⟨_, rfl, hq _ ?_⟩) (fun hT => ?_) fun hF => ?_
  · rw [decide_eq_decide]; omega
  · exact ⟨_, rfl, _, rfl, _, ha0, Nat.le_of_ble_eq_true rfl, h _ ((WL.cons nm_say (WL.one (F.an.2.1 _ (List.getElem_mem _)))).le (by omega) (fun _ z => z)) (Nat.succ_pos _)⟩
  have hpos : 0 < n := by
    have : ¬ n = 0 := of_decide_eq_false hF.symm
    omega
  try unfold sNext
  dsimp only
  obtain ⟨e, rfl⟩ : ∃ e, dd = e + 1 := by
    cases dd with
    | zero => rw [Nat.pow_zero] at hn; omega
    | succ e => exact ⟨e, rfl⟩
  rw [Nat.pow_succ] at hn
  refine seq_set (.int (((n - 1) / 2 : Nat) : Int)) (fun q hq => ⟨_, rfl, ⟨by decide, by decide⟩, ?_⟩) ?_
  · have : ((n : Int) - 1) / 2 = (((n - 1) / 2 : Nat) : Int) := by omega
    show q (.int (((n : Int) - 1) / 2))
    rw [this]; exact hq
  refine ⟨_, rfl, _, rfl, _, hb5, _, rfl, fs, an, b5 + (n : Int), rfl, F, by omega, fun kk nm v hq => ⟨_, _, _, rfl, ?_⟩⟩
  dsimp only
  obtain ⟨n1, n2, n3⟩ := nm_q F hq
  have hA : WL Nm 5 [.str "ask", .str nm, .str kk, .str v, .str "no"] := WL.cons nm_ask (WL.cons n1 (WL.cons n2 (WL.cons n3 (WL.one nm_no))))
  have e1 : [frmD fs an, PyData.list (bs.map PyData.int), .int ((n : Int) - 1 - (((n - 1) / 2 : Nat) : Int))] = [frmD fs an, .list (bs.map PyData.int), .int ((n - 1 - (n - 1) / 2 : Nat) : Int)] := by
    have : (n : Int) - 1 - (((n - 1) / 2 : Nat) : Int) = ((n - 1 - (n - 1) / 2 : Nat) : Int) := by omega
    rw [this]
  refine seq_setR (fun d => ∃ xs, d = .list ([.str "ask", .str nm, .str kk, .str v, .str "no"] ++ xs) ∧ WL Nm (7 * ((n - 1) / 2) + 2) xs) (fun q hq => ⟨_, rfl, _, rfl, _, rfl, Nat.le_of_ble_eq_true rfl, _, rfl, _, rfl, _, rfl, fs, an, bs, (n - 1) / 2, rfl, F, hb, Nat.succ_pos _, ?_, by omega, fun xs hx _ => ⟨?_, hq _ ⟨xs, rfl, hx⟩⟩⟩) ?_
  · rw [Nat.add_sub_cancel]; omega
  · have := hx.len
    simp only [List.length_cons, List.length_nil]; omega
  rintro _ ⟨xs, rfl, hx⟩
  have lx := hx.len
  refine ⟨_, rfl, _, rfl, _, rfl, _, rfl, _, rfl, fs, an, bs, n - 1 - (n - 1) / 2, e1, F, hb, Nat.succ_pos _, ?_, by omega, fun ys hy _ => ⟨?_, h _ (((hA.app hx).app hy).le (by omega) (fun _ z => z)) ?_⟩⟩
  · rw [Nat.add_sub_cancel]; omega
  · have := hy.len
    simp only [List.length_append, List.length_cons, List.length_nil]; omega
  · simp only [List.length_append, List.length_cons, List.length_nil]; omega

theorem ok__law_bushy_words (T : Txt K mg A)
    (F__law_asks : FnOk P w K mg base CX0 1 A.a__law_asks A.f__law_asks ["_law_form_here", "_law_number"] (liftSp K sp__law_asks)) : FnOk P w K mg base CX0 12 A.a__law_bushy_words A.f__law_bushy_words ["_law_form_here", "_law_bits", "_law_many"] (liftSp K sp__law_bushy_words) := by
  have h : ∀ dd : Nat, FnOk P w K mg base CX0 (2 + dd) A.a__law_bushy_words A.f__law_bushy_words ["_law_form_here", "_law_bits", "_law_many"] (liftSp K (sp__law_bushy_words_lt dd)) := fun dd => by
    induction dd with
    | zero => exact fn_imp fn_never fun ds Q h => never__law_bushy_words h
    | succ dd ih => exact step__law_bushy_words dd T F__law_asks ih
  exact h 10
theorem sc_law : FnScope ["_law_script", "_law_form_here", "_law_k", "_law_bits", "_law_words_here", "_law_j", "_law_bent", "_law_text"] ["_law_script"] (defScope (top 39)) := ⟨rfl, rfl, rfl, by decide +kernel, rfl, by decide +kernel, by decide +kernel⟩
set_option maxHeartbeats 4000000 in
theorem ok_law (T : Txt K mg A)
    (F__law_bushy_words : FnOk P w K mg base CX0 12 A.a__law_bushy_words A.f__law_bushy_words ["_law_form_here", "_law_bits", "_law_many"] (liftSp K sp__law_bushy_words))
    (F__law_cell_at : FnOk P w K mg base CX0 2 A.a__law_cell_at A.f__law_cell_at ["_law_script", "_law_k"] (liftSp K sp__law_cell_at))
    (F__law_chain_words : FnOk P w K mg base CX0 2 A.a__law_chain_words A.f__law_chain_words ["_law_form_here", "_law_bits", "_law_many"] (liftSp K sp__law_chain_words))
    (F__law_drawn : FnOk P w K mg base CX0 2 A.a__law_drawn A.f__law_drawn ["_law_cell", "_law_many"] (liftSp K sp__law_drawn))
    (F__law_form : FnOk P w K mg base CX0 3 A.a__law_form A.f__law_form ["_law_script"] (liftSp K sp__law_form))
    (F__law_right : FnOk P w K mg base CX0 70 A.a__law_right A.f__law_right ["_law_form_here", "_law_text"] (liftSp K sp__law_right))
    (F__law_spoilt : FnOk P w K mg base CX0 1 A.a__law_spoilt A.f__law_spoilt ["_law_form_here", "_law_bits", "_law_words_here"] (liftSp K sp__law_spoilt))
    (F__law_tree : FnOk P w K mg base CX0 9 A.a__law_tree A.f__law_tree ["_law_form_here", "_law_numbers", "_law_deep"] (liftSp K sp__law_tree))
    (F__law_words : FnOk P w K mg base CX0 1 A.a__law_words A.f__law_words ["_law_tree_here"] (liftSp K sp__law_words)) : FnOk P w K mg base CX0 71 A.a_law A.f_law ["_law_script"] (liftSp K sp_law) := by
  refine fnT T.F_law sc_law (fun ds Q h => by obtain ⟨ns, rfl, hl, h⟩ := h; rfl) fun cdv Ar outer s H E hr ds Q h => ?_
  obtain ⟨ns, rfl, hl, h⟩ := h
  have nd := sc_law.nd
  refine ⟨_, (st_cons (st_set (i := 1) (et_call F__law_form T.m__law_form T.k__law_form T.d__law_form (hr.mono (by decide)) (at_cons (et_v 0) at_nil) (fun h => pe_call F__law_form (hr.mono (by decide)) rfl T.m__law_form T.k__law_form T.d__law_form .nil pass0 h)) (fun h => ps_set (i := 1) nd rfl (by first | exact Or.inl rfl | exact Or.inr rfl) h))
  (st_cons (st_for (it_range (at_cons (et_op op_addAny o_add et_int (et_cb c_min2 (at_cons et_int (at_cons (et_cb c_len (at_cons (et_v 0) at_nil) (fun h => pe_callB call_lenAny rfl T.b_len bl_len h)) at_nil)) (fun h => pe_callB (call_min2 rfl) rfl T.b_min bl_min h))) at_nil) (fun h => pi_range1 rfl T.b_range h)) (gt_name (pg_name (i := 2) nd rfl (by first | exact Or.inl rfl | exact Or.inr rfl)))
  (st_cons (st_set (i := 3) (et_call F__law_drawn T.m__law_drawn T.k__law_drawn T.d__law_drawn (hr.mono (by decide)) (at_cons (et_call F__law_cell_at T.m__law_cell_at T.k__law_cell_at T.d__law_cell_at (hr.mono (by decide)) (at_cons (et_v 0) (at_cons (et_v 2) at_nil)) (fun h => pe_call F__law_cell_at (hr.mono (by decide)) rfl T.m__law_cell_at T.k__law_cell_at T.d__law_cell_at .nil pass0 h)) (at_cons et_int at_nil)) (fun h => pe_call F__law_drawn (hr.mono (by decide)) rfl T.m__law_drawn T.k__law_drawn T.d__law_drawn .nil pass0 h)) (fun h => ps_set (i := 3) nd rfl (by first | exact Or.inl rfl | exact Or.inr rfl) h))
  (st_cons (st_set (i := 4) (et_call F__law_words T.m__law_words T.k__law_words T.d__law_words (hr.mono (by decide)) (at_cons (et_call F__law_tree T.m__law_tree T.k__law_tree T.d__law_tree (hr.mono (by decide)) (at_cons (et_v 1) (at_cons (et_wild (ft_slice (et_v 3) (ot_some et_int) ot_none)) (at_cons (et_op op_mod o_I (et_ix ix_seq o_ix (et_v 3) et_int) et_int) at_nil))) (fun h => pe_call F__law_tree (hr.mono (by decide)) rfl T.m__law_tree T.k__law_tree T.d__law_tree .nil pass0 h)) at_nil) (fun h => pe_call F__law_words (hr.mono (by decide)) rfl T.m__law_words T.k__law_words T.d__law_words .nil pass0 h)) (fun h => ps_set (i := 4) nd rfl (by first | exact Or.inl rfl | exact Or.inr rfl) h))
  (st_cons (st_if (tt_not (tt_val (et_call F__law_right T.m__law_right T.k__law_right T.d__law_right (hr.mono (by decide)) (at_cons (et_v 1) (at_cons (et_join et_str (at_cons (et_v 4) at_nil) (fun h ha => pe_bm PySem.F.plainAttrs_str PySem.F.slot_str_join PySem.F.type_str_join mt_join h ha)) at_nil)) (fun h => pe_call F__law_right (hr.mono (by decide)) rfl T.m__law_right T.k__law_right T.d__law_right .nil pass0 h)) (fun h => pt_val h)))
  (st_one (st_ret et_bl))
  st_nil)
  (st_one (st_for (it_range (at_cons et_int at_nil) (fun h => pi_range1 rfl T.b_range h)) (gt_name (pg_name (i := 5) nd rfl (by first | exact Or.inl rfl | exact Or.inr rfl)))
  (st_cons (st_set (i := 6) (et_call F__law_spoilt T.m__law_spoilt T.k__law_spoilt T.d__law_spoilt (hr.mono (by decide)) (at_cons (et_v 1) (at_cons (et_slice sl_any o_sl (et_v 3) (ot_some (et_op op_mulAny o_mul et_int (et_v 5))) ot_none) (at_cons (et_v 4) at_nil))) (fun h => pe_call F__law_spoilt (hr.mono (by decide)) rfl T.m__law_spoilt T.k__law_spoilt T.d__law_spoilt .nil pass0 h)) (fun h => ps_set (i := 6) nd rfl (by first | exact Or.inl rfl | exact Or.inr rfl) h))
  (st_cons (st_if (tw_pt (tw_and (tt_cmp op_eq o_eq (et_op op_mod o_I (et_ix ix_seq o_ix (et_v 3) (et_op op_addAny o_add (et_op op_mulAny o_mul et_int (et_v 5)) et_int)) et_int) et_int) (tw_and1 (tt_cmp op_gt o_B0 (et_cb c_len (at_cons (et_v 6) at_nil) (fun h => pe_callB call_lenAny rfl T.b_len bl_len h)) et_int))))
  (st_one (st_set (i := 6) (et_call F__law_spoilt T.m__law_spoilt T.k__law_spoilt T.d__law_spoilt (hr.mono (by decide)) (at_cons (et_v 1) (at_cons (et_slice sl_any o_sl (et_v 3) (ot_some (et_op op_addAny o_add (et_op op_mulAny o_mul et_int (et_v 5)) et_int)) ot_none) (at_cons (et_v 6) at_nil))) (fun h => pe_call F__law_spoilt (hr.mono (by decide)) rfl T.m__law_spoilt T.k__law_spoilt T.d__law_spoilt .nil pass0 h)) (fun h => ps_set (i := 6) nd rfl (by first | exact Or.inl rfl | exact Or.inr rfl) h)))
  st_nil)
  (st_one (st_if (tt_not (tt_val (et_call F__law_right T.m__law_right T.k__law_right T.d__law_right (hr.mono (by decide)) (at_cons (et_v 1) (at_cons (et_join et_str (at_cons (et_v 6) at_nil) (fun h ha => pe_bm PySem.F.plainAttrs_str PySem.F.slot_str_join PySem.F.type_str_join mt_join h ha)) at_nil)) (fun h => pe_call F__law_right (hr.mono (by decide)) rfl T.m__law_right T.k__law_right T.d__law_right .nil pass0 h)) (fun h => pt_val h)))
  (st_one (st_ret et_bl))
  st_nil)))) (fun hi hg hb => ps_for PassesOwn.never rfl hi hg hb)))))) (fun hi hg hb => ps_for PassesOwn.never rfl hi hg hb))
  (st_cons (st_set (i := 3) (et_call F__law_drawn T.m__law_drawn T.k__law_drawn T.d__law_drawn (hr.mono (by decide)) (at_cons (et_call F__law_cell_at T.m__law_cell_at T.k__law_cell_at T.d__law_cell_at (hr.mono (by decide)) (at_cons (et_v 0) (at_cons et_int at_nil)) (fun h => pe_call F__law_cell_at (hr.mono (by decide)) rfl T.m__law_cell_at T.k__law_cell_at T.d__law_cell_at .nil pass0 h)) (at_cons et_int at_nil)) (fun h => pe_call F__law_drawn (hr.mono (by decide)) rfl T.m__law_drawn T.k__law_drawn T.d__law_drawn .nil pass0 h)) (fun h => ps_set (i := 3) nd rfl (by first | exact Or.inl rfl | exact Or.inr rfl) h))
  (st_cons (st_if (tt_not (tt_val (et_call F__law_right T.m__law_right T.k__law_right T.d__law_right (hr.mono (by decide)) (at_cons (et_v 1) (at_cons (et_join et_str (at_cons (et_call F__law_chain_words T.m__law_chain_words T.k__law_chain_words T.d__law_chain_words (hr.mono (by decide)) (at_cons (et_v 1) (at_cons (et_v 3) (at_cons (et_op op_addAny o_add et_int (et_op op_mod o_I (et_ix ix_seq o_ix (et_v 3) et_int) et_int)) at_nil))) (fun h => pe_call F__law_chain_words (hr.mono (by decide)) rfl T.m__law_chain_words T.k__law_chain_words T.d__law_chain_words .nil pass0 h)) at_nil) (fun h ha => pe_bm PySem.F.plainAttrs_str PySem.F.slot_str_join PySem.F.type_str_join mt_join h ha)) at_nil)) (fun h => pe_call F__law_right (hr.mono (by decide)) rfl T.m__law_right T.k__law_right T.d__law_right .nil pass0 h)) (fun h => pt_val h)))
  (st_one (st_ret et_bl))
  st_nil)
  (st_cons (st_set (i := 7) (et_join et_str (at_cons (et_call F__law_bushy_words T.m__law_bushy_words T.k__law_bushy_words T.d__law_bushy_words (hr.mono (by decide)) (at_cons (et_v 1) (at_cons (et_v 3) (at_cons (et_op op_addAny o_add et_int (et_op op_mod o_I (et_ix ix_seq o_ix (et_v 3) et_int) et_int)) at_nil))) (fun h => pe_call F__law_bushy_words (hr.mono (by decide)) rfl T.m__law_bushy_words T.k__law_bushy_words T.d__law_bushy_words .nil pass0 h)) at_nil) (fun h ha => pe_bm PySem.F.plainAttrs_str PySem.F.slot_str_join PySem.F.type_str_join mt_join h ha)) (fun h => ps_set (i := 7) nd rfl (by first | exact Or.inl rfl | exact Or.inr rfl) h))
  (st_one (st_ret (et_or (et_cmp op_gt o_B0 (et_op op_mod o_I (et_ix ix_seq o_ix (et_v 3) et_int) et_int) et_int) (et_or (et_cmp op_gt o_B0 (et_cb c_len (at_cons (et_v 7) at_nil) (fun h => pe_callB call_lenAny rfl T.b_len bl_len h)) et_int) (et_one (et_call F__law_right T.m__law_right T.k__law_right T.d__law_right (hr.mono (by decide)) (at_cons (et_v 1) (at_cons (et_v 7) at_nil)) (fun h => pe_call F__law_right (hr.mono (by decide)) rfl T.m__law_right T.k__law_right T.d__law_right .nil pass0 h)))))))))))), ?_⟩
  show sSeq _ _ _ [.val (.list (ns.map PyData.int)), .un, .un, .un, .un, .un, .un, .un]
  have e1 : blank.length = 1 := by decide +kernel
  have p6 : (0 : Int) < 6 := by decide
  have p3 : (0 : Int) < 3 := by decide
  have p4 : (0 : Int) < 4 := by decide
  have p8 : (0 : Int) < 8 := by decide
  refine seq_setR (fun d => ∃ fs an, Form fs an ∧ d = frmD fs an) (fun q hq => ⟨_, rfl, ns, rfl, hl, fun fs an F => hq _ ⟨fs, an, F, rfl⟩⟩) ?_
  rintro _ ⟨fs, an, F, rfl⟩
  have hn0 : ∃ n : Int, (1 + (if ((ns.map PyData.int).length : Int) < 8 then ((ns.map PyData.int).length : Int) else 8)) = n ∧ 1 ≤ n ∧ n ≤ 9 := ⟨_, rfl, by split <;> omega, by split <;> omega⟩
  obtain ⟨n, hn, hn0, hn1⟩ := hn0
  refine seq_for (ts := intsTo n.toNat) (fun R h => ⟨_, rfl, n, (congrArg (fun z => [PyData.int z]) hn : [PyData.int _] = [PyData.int n]), by omega, by omega, h⟩) (fun k σ => ∃ s2 s3 s4 s5 s6 : Sl, σ = [.val (.list (ns.map PyData.int)), .val (frmD fs an), s2, s3, s4, s5, s6, .un]) ⟨_, _, _, _, _, rfl⟩ (fun k x σ' hx hP => ?_) fun σ' hP => ?_
  · obtain ⟨hk, rfl⟩ := intsTo_get hx
    obtain ⟨s2, s3, s4, s5, s6, rfl⟩ := hP
    refine seq_setR (fun d => ∃ bs, Bits 60 bs ∧ d = .list (bs.map PyData.int)) (fun q hq => ⟨_, rfl, _, rfl, ns, (k : Int), rfl, hl, by omega, by omega, fun r => ⟨r, 60, rfl, by decide, fun bs hb => hq _ ⟨bs, hb, rfl⟩⟩⟩) ?_
    rintro _ ⟨bs, hb, rfl⟩
    obtain ⟨b9, h90, h91, hb9⟩ := atI_bits hb (i := 39) (by decide) (by decide)
    have ecut : ∀ j : Nat, cutD (bs.map PyData.int) (some (j : Int)) none = (bs.drop j).map PyData.int := fun j => by
      have := cut_sn (bs.map PyData.int) j
      rw [List.map_drop]; exact this
    have hdb : Bits 20 (bs.drop 40) := hb.drop 40
    have h6 : (0 : Int) ≤ b9 % 6 ∧ b9 % 6 < 6 := ⟨Int.emod_nonneg _ (by decide), Int.emod_lt_of_pos _ p6⟩
    have e6 : [frmD fs an, PyData.dict [], .int (b9 % 6)] = [frmD fs an, .dict [], .int ((b9 % 6).toNat : Int)] := by
      have : b9 % 6 = ((b9 % 6).toNat : Int) := by omega
      rw [← this]
    refine seq_setR (fun d => ∃ xs, d = .list xs ∧ WL (Wd 8) 219 xs ∧ 0 < xs.length) (fun q hq => ?_) ?_
    · refine ⟨_, rfl, _, rfl, _, rfl, bs.drop 40, ecut 40, by rw [hdb.1]; decide, hdb.2, _, rfl, _, hb9, p6, fs, an, (b9 % 6).toNat, e6, F, by omega, fun t ht htd => ?_⟩
      have hkn : t.kn ≤ 31 := by
        have := t.kn_dep
        have : 2 ^ t.dep ≤ 2 ^ 5 := Nat.pow_le_pow_right (by decide) (by omega)
        omega
      have hwl := wordsT_len t
      exact ⟨fs, an, t, rfl, F, ht, by omega, hq _ ⟨_, rfl, ⟨wordsT t, rfl, by omega, fun w hw => wd_nm (wordsT_nm F t ht w hw)⟩, by rw [List.length_map]; omega⟩⟩
    rintro _ ⟨xs, rfl, hx, hx0⟩
    refine seq_if (fun b => b = false) (fun q hq => ⟨_, rfl, blank, rfl, _, rfl, right_sp (Q := fun y => match y with | .bool b => q (!b) | _ => False) F hx (by decide) (hq _ rfl)⟩) (fun hT => by cases hT) fun _ => ?_
    try unfold sNext
    dsimp only
    refine forx (ts := intsTo 8) (fun R h => ⟨8, rfl, by decide, by decide, h⟩) (fun j σ => ∃ s5 s6 : Sl, σ = [.val (.list (ns.map PyData.int)), .val (frmD fs an), .val (.int (k : Int)), .val (.list (bs.map PyData.int)), .val (.list xs), s5, s6, .un]) ⟨_, _, rfl⟩ (fun j x σ' hx' hP => ?_) fun σ' hP => ?_
    · obtain ⟨hj, rfl⟩ := intsTo_get hx'
      obtain ⟨s5, s6, rfl⟩ := hP
      have cm : CMul 4 (j : Int) := .inr ⟨by omega, by omega⟩
      have ec0 : cutD (bs.map PyData.int) (some (4 * (j : Int))) none = (bs.drop (4 * j)).map PyData.int := by
        have := ecut (4 * j)
        rw [show ((4 * j : Nat) : Int) = 4 * (j : Int) by omega] at this
        exact this
      have ec2 : cutD (bs.map PyData.int) (some (4 * (j : Int) + 2)) none = (bs.drop (4 * j + 2)).map PyData.int := by
        have := ecut (4 * j + 2)
        rw [show ((4 * j + 2 : Nat) : Int) = 4 * (j : Int) + 2 by omega] at this
        exact this
      refine seq_setR (fun d => GL 220 17 d) (fun q hq => ⟨_, rfl, _, rfl, _, rfl, cm, _, rfl, fs, an, bs.drop (4 * j), xs, 219, 8, 60 - 4 * j, congrArg (fun z => [frmD fs an, PyData.list z, .list xs]) ec0, F, hb.drop _, by omega, hx, hx0, by decide, by decide, by decide, fun d hd => hq d hd⟩) ?_
      rintro _ ⟨ys, rfl, hy⟩
      obtain ⟨bj, hj0, hj1, hbj⟩ := atI_bits hb (i := 4 * (j : Int) + 5) (by omega) (by omega)
      refine seq_if (fun b => b = true → 0 < ys.length) (fun q hq => ⟨_, rfl, _, rfl, cm, _, hbj, p3, ?_⟩) (fun hT => ?_) fun _ => ?_
      · show (if decide (bj % 3 = 0) = true then _ else q false)
        split
        · exact ⟨_, rfl, hq _ fun hd => by have : (ys.length : Int) > 0 := of_decide_eq_true hd; omega⟩
        · exact hq _ fun z => by cases z
      · refine ⟨_, rfl, _, rfl, _, rfl, cm, _, rfl, fs, an, bs.drop (4 * j + 2), ys, 220, 17, 60 - (4 * j + 2), congrArg (fun z => [frmD fs an, PyData.list z, .list ys]) ec2, F, hb.drop _, by omega, hy, hT rfl, by decide, by decide, by decide, fun d hd => ?_⟩
        obtain ⟨zs, rfl, hz⟩ := hd
        try unfold sNext
        dsimp only
        exact one_if (fun b => b = false) (fun q hq => ⟨_, rfl, blank, rfl, _, rfl, right_sp (Q := fun y => match y with | .bool b => q (!b) | _ => False) F hz (by decide) (hq _ rfl)⟩) (fun hT => by cases hT) fun _ => ⟨_, _, rfl⟩
      · try unfold sNext
        dsimp only
        exact one_if (fun b => b = false) (fun q hq => ⟨_, rfl, blank, rfl, _, rfl, right_sp (Q := fun y => match y with | .bool b => q (!b) | _ => False) F hy (by decide) (hq _ rfl)⟩) (fun hT => by cases hT) fun _ => ⟨_, _, rfl⟩
    · obtain ⟨s5, s6, rfl⟩ := hP
      exact ⟨_, _, _, _, _, rfl⟩
  · obtain ⟨s2, s3, s4, s5, s6, rfl⟩ := hP
    refine seq_setR (fun d => ∃ bs, Bits 9 bs ∧ d = .list (bs.map PyData.int)) (fun q hq => ⟨_, rfl, ns, 9, rfl, hl, by decide, by decide, fun r => ⟨r, 9, rfl, by decide, fun bs hb => hq _ ⟨bs, hb, rfl⟩⟩⟩) ?_
    rintro _ ⟨bs, hb, rfl⟩
    obtain ⟨b0, _, _, hb0⟩ := atI_bits hb (i := 0) (by decide) (by decide)
    obtain ⟨b1, _, _, hb1⟩ := atI_bits hb (i := 1) (by decide) (by decide)
    obtain ⟨b2, _, _, hb2⟩ := atI_bits hb (i := 2) (by decide) (by decide)
    have m0 : (0 : Int) ≤ b0 % 4 ∧ b0 % 4 < 4 := ⟨Int.emod_nonneg _ (by decide), Int.emod_lt_of_pos _ p4⟩
    have m1 : (0 : Int) ≤ b1 % 4 ∧ b1 % 4 < 4 := ⟨Int.emod_nonneg _ (by decide), Int.emod_lt_of_pos _ p4⟩
    obtain ⟨c, hc⟩ : ∃ c : Nat, 29 + b0 % 4 = (c : Int) := ⟨(29 + b0 % 4).toNat, by omega⟩
    obtain ⟨y, hy⟩ : ∃ y : Nat, 499 + b1 % 4 = (y : Int) := ⟨(499 + b1 % 4).toNat, by omega⟩
    refine seq_if (fun b => b = false) (fun q hq => ⟨_, rfl, blank, rfl, _, rfl, _, rfl, _, rfl, _, hb0, p4, fs, an, bs, c, congrArg (fun z => [frmD fs an, PyData.list (bs.map PyData.int), .int z]) hc, F, hb, by omega, fun xs hx => right_sp (Q := fun y => match y with | .bool b => q (!b) | _ => False) F (hx.le (m := 290) (by omega) fun _ z => wd_nm z) (by decide) (hq _ rfl)⟩) (fun hT => by cases hT) fun _ => ?_
    try unfold sNext
    dsimp only
    refine seq_setR (fun d => ∃ ws : List Str, d = .str (Txt.join blank ws) ∧ (∀ w ∈ ws, Nm w) ∧ 0 < ws.length ∧ ws.length ≤ 3516) (fun q hq => ⟨blank, rfl, _, rfl, _, rfl, _, rfl, _, hb1, p4, fs, an, bs, y, congrArg (fun z => [frmD fs an, PyData.list (bs.map PyData.int), .int z]) hy, F, hb, by decide, (show y < 2 ^ 9 by omega), by omega, fun xs hx h0 => ?_⟩) ?_
    · obtain ⟨vs, rfl, hvl, hvp⟩ := hx
      have hj := (join_wd (fun w hw => wd_nm (hvp w hw)) (show vs.length ≤ 3516 by omega)).1
      rw [List.length_map] at h0
      exact ⟨vs, rfl, by rw [e1]; omega, hq _ ⟨vs, rfl, hvp, h0, by omega⟩⟩
    rintro _ ⟨ws, rfl, hwp, hw0, hwl⟩
    have hj := (join_wd (fun w hw => wd_nm (hwp w hw)) hwl).2
    refine ⟨_, rfl, _, hb2, p8, ?_⟩
    show (if decide (b2 % 8 > 0) = true then Q (.bool true) else _)
    split
    · exact h
    refine ⟨_, rfl, by omega, ?_⟩
    show (if decide (((Txt.join blank ws).length : Int) > 20000) = true then Q (.bool true) else _)
    split
    · exact h
    refine ⟨_, rfl, _, rfl, fs, an, _, rfl, F, join_small fun w hw => (wd_nm (hwp w hw)).2, by omega, ?_, h⟩
    rw [split_nm hwp hw0]
    omega

theorem len1 {α : Type} {P : List α → Prop} (h : ∀ a0, P [a0]) : ∀ us : List α, us.length = 1 → P us
  | [a0], _ => h a0
theorem len2 {α : Type} {P : List α → Prop} (h : ∀ a0 a1, P [a0, a1]) : ∀ us : List α, us.length = 2 → P us
  | [a0, a1], _ => h a0 a1
theorem len3 {α : Type} {P : List α → Prop} (h : ∀ a0 a1 a2, P [a0, a1, a2]) : ∀ us : List α, us.length = 3 → P us
  | [a0, a1, a2], _ => h a0 a1 a2
theorem len4 {α : Type} {P : List α → Prop} (h : ∀ a0 a1 a2 a3, P [a0, a1, a2, a3]) : ∀ us : List α, us.length = 4 → P us
  | [a0, a1, a2, a3], _ => h a0 a1 a2 a3
theorem len5 {α : Type} {P : List α → Prop} (h : ∀ a0 a1 a2 a3 a4, P [a0, a1, a2, a3, a4]) : ∀ us : List α, us.length = 5 → P us
  | [a0, a1, a2, a3, a4], _ => h a0 a1 a2 a3 a4
set_option maxHeartbeats 4000000 in
theorem all_mk {l : PySem.W.OpenLaw} {w : World} {K : PySem.W.Frag} {h : Heap} {mg : Str → Option Value} {fa : Addr} (X : K.In h) (G : h.Ns mainGlobals mg) (hfa : mg "law" = some (.ref fa))
    {f_values_asked : Addr} {od_values_asked an_values_asked : Option Addr} {sl_values_asked : Array (Option Value)} {oc_values_asked kV_values_asked dc_values_asked pm_values_asked cd_values_asked ct_values_asked : Value}
    (a_values_asked : PySem.W.nsIn K mainGlobals "values_asked" = some (some (.ref f_values_asked))) (l_values_asked : K.lookup f_values_asked = some ⟨oc_values_asked, od_values_asked, .func (PySem.W.fnOf "values_asked" "values_asked" (defArgs (top 12)) (defBody (top 12)) (defScope (top 12)) .none kV_values_asked dc_values_asked pm_values_asked an_values_asked cd_values_asked ct_values_asked), sl_values_asked⟩) (c_values_asked : PySem.W.codeIn K cd_values_asked "values_asked" = true) (k_values_asked : PySem.W.keepIn K (.ref f_values_asked) = true)
    {f_is_leaf : Addr} {od_is_leaf an_is_leaf : Option Addr} {sl_is_leaf : Array (Option Value)} {oc_is_leaf kV_is_leaf dc_is_leaf pm_is_leaf cd_is_leaf ct_is_leaf : Value}
    (a_is_leaf : PySem.W.nsIn K mainGlobals "is_leaf" = some (some (.ref f_is_leaf))) (l_is_leaf : K.lookup f_is_leaf = some ⟨oc_is_leaf, od_is_leaf, .func (PySem.W.fnOf "is_leaf" "is_leaf" (defArgs (top 16)) (defBody (top 16)) (defScope (top 16)) .none kV_is_leaf dc_is_leaf pm_is_leaf an_is_leaf cd_is_leaf ct_is_leaf), sl_is_leaf⟩) (c_is_leaf : PySem.W.codeIn K cd_is_leaf "is_leaf" = true) (k_is_leaf : PySem.W.keepIn K (.ref f_is_leaf) = true)
    {f_shown_tree : Addr} {od_shown_tree an_shown_tree : Option Addr} {sl_shown_tree : Array (Option Value)} {oc_shown_tree kV_shown_tree dc_shown_tree pm_shown_tree cd_shown_tree ct_shown_tree : Value}
    (a_shown_tree : PySem.W.nsIn K mainGlobals "shown_tree" = some (some (.ref f_shown_tree))) (l_shown_tree : K.lookup f_shown_tree = some ⟨oc_shown_tree, od_shown_tree, .func (PySem.W.fnOf "shown_tree" "shown_tree" (defArgs (top 18)) (defBody (top 18)) (defScope (top 18)) .none kV_shown_tree dc_shown_tree pm_shown_tree an_shown_tree cd_shown_tree ct_shown_tree), sl_shown_tree⟩) (c_shown_tree : PySem.W.codeIn K cd_shown_tree "shown_tree" = true) (k_shown_tree : PySem.W.keepIn K (.ref f_shown_tree) = true)
    {f_read_tree : Addr} {od_read_tree an_read_tree : Option Addr} {sl_read_tree : Array (Option Value)} {oc_read_tree kV_read_tree dc_read_tree pm_read_tree cd_read_tree ct_read_tree : Value}
    (a_read_tree : PySem.W.nsIn K mainGlobals "read_tree" = some (some (.ref f_read_tree))) (l_read_tree : K.lookup f_read_tree = some ⟨oc_read_tree, od_read_tree, .func (PySem.W.fnOf "read_tree" "read_tree" (defArgs (top 19)) (defBody (top 19)) (defScope (top 19)) .none kV_read_tree dc_read_tree pm_read_tree an_read_tree cd_read_tree ct_read_tree), sl_read_tree⟩) (c_read_tree : PySem.W.codeIn K cd_read_tree "read_tree" = true) (k_read_tree : PySem.W.keepIn K (.ref f_read_tree) = true)
    {f_read_part : Addr} {od_read_part an_read_part : Option Addr} {sl_read_part : Array (Option Value)} {oc_read_part kV_read_part dc_read_part pm_read_part cd_read_part ct_read_part : Value}
    (a_read_part : PySem.W.nsIn K mainGlobals "read_part" = some (some (.ref f_read_part))) (l_read_part : K.lookup f_read_part = some ⟨oc_read_part, od_read_part, .func (PySem.W.fnOf "read_part" "read_part" (defArgs (top 20)) (defBody (top 20)) (defScope (top 20)) .none kV_read_part dc_read_part pm_read_part an_read_part cd_read_part ct_read_part), sl_read_part⟩) (c_read_part : PySem.W.codeIn K cd_read_part "read_part" = true) (k_read_part : PySem.W.keepIn K (.ref f_read_part) = true)
    {f_read_question : Addr} {od_read_question an_read_question : Option Addr} {sl_read_question : Array (Option Value)} {oc_read_question kV_read_question dc_read_question pm_read_question cd_read_question ct_read_question : Value}
    (a_read_question : PySem.W.nsIn K mainGlobals "read_question" = some (some (.ref f_read_question))) (l_read_question : K.lookup f_read_question = some ⟨oc_read_question, od_read_question, .func (PySem.W.fnOf "read_question" "read_question" (defArgs (top 21)) (defBody (top 21)) (defScope (top 21)) .none kV_read_question dc_read_question pm_read_question an_read_question cd_read_question ct_read_question), sl_read_question⟩) (c_read_question : PySem.W.codeIn K cd_read_question "read_question" = true) (k_read_question : PySem.W.keepIn K (.ref f_read_question) = true)
    {f_word_at : Addr} {od_word_at an_word_at : Option Addr} {sl_word_at : Array (Option Value)} {oc_word_at kV_word_at dc_word_at pm_word_at cd_word_at ct_word_at : Value}
    (a_word_at : PySem.W.nsIn K mainGlobals "word_at" = some (some (.ref f_word_at))) (l_word_at : K.lookup f_word_at = some ⟨oc_word_at, od_word_at, .func (PySem.W.fnOf "word_at" "word_at" (defArgs (top 22)) (defBody (top 22)) (defScope (top 22)) .none kV_word_at dc_word_at pm_word_at an_word_at cd_word_at ct_word_at), sl_word_at⟩) (c_word_at : PySem.W.codeIn K cd_word_at "word_at" = true) (k_word_at : PySem.W.keepIn K (.ref f_word_at) = true)
    {f__law_mix : Addr} {od__law_mix an__law_mix : Option Addr} {sl__law_mix : Array (Option Value)} {oc__law_mix kV__law_mix dc__law_mix pm__law_mix cd__law_mix ct__law_mix : Value}
    (a__law_mix : PySem.W.nsIn K mainGlobals "_law_mix" = some (some (.ref f__law_mix))) (l__law_mix : K.lookup f__law_mix = some ⟨oc__law_mix, od__law_mix, .func (PySem.W.fnOf "_law_mix" "_law_mix" (defArgs (top 24)) (defBody (top 24)) (defScope (top 24)) .none kV__law_mix dc__law_mix pm__law_mix an__law_mix cd__law_mix ct__law_mix), sl__law_mix⟩) (c__law_mix : PySem.W.codeIn K cd__law_mix "_law_mix" = true) (k__law_mix : PySem.W.keepIn K (.ref f__law_mix) = true)
    {f__law_cell_at : Addr} {od__law_cell_at an__law_cell_at : Option Addr} {sl__law_cell_at : Array (Option Value)} {oc__law_cell_at kV__law_cell_at dc__law_cell_at pm__law_cell_at cd__law_cell_at ct__law_cell_at : Value}
    (a__law_cell_at : PySem.W.nsIn K mainGlobals "_law_cell_at" = some (some (.ref f__law_cell_at))) (l__law_cell_at : K.lookup f__law_cell_at = some ⟨oc__law_cell_at, od__law_cell_at, .func (PySem.W.fnOf "_law_cell_at" "_law_cell_at" (defArgs (top 25)) (defBody (top 25)) (defScope (top 25)) .none kV__law_cell_at dc__law_cell_at pm__law_cell_at an__law_cell_at cd__law_cell_at ct__law_cell_at), sl__law_cell_at⟩) (c__law_cell_at : PySem.W.codeIn K cd__law_cell_at "_law_cell_at" = true) (k__law_cell_at : PySem.W.keepIn K (.ref f__law_cell_at) = true)
    {f__law_drawn : Addr} {od__law_drawn an__law_drawn : Option Addr} {sl__law_drawn : Array (Option Value)} {oc__law_drawn kV__law_drawn dc__law_drawn pm__law_drawn cd__law_drawn ct__law_drawn : Value}
    (a__law_drawn : PySem.W.nsIn K mainGlobals "_law_drawn" = some (some (.ref f__law_drawn))) (l__law_drawn : K.lookup f__law_drawn = some ⟨oc__law_drawn, od__law_drawn, .func (PySem.W.fnOf "_law_drawn" "_law_drawn" (defArgs (top 26)) (defBody (top 26)) (defScope (top 26)) .none kV__law_drawn dc__law_drawn pm__law_drawn an__law_drawn cd__law_drawn ct__law_drawn), sl__law_drawn⟩) (c__law_drawn : PySem.W.codeIn K cd__law_drawn "_law_drawn" = true) (k__law_drawn : PySem.W.keepIn K (.ref f__law_drawn) = true)
    {f__law_names : Addr} {od__law_names an__law_names : Option Addr} {sl__law_names : Array (Option Value)} {oc__law_names kV__law_names dc__law_names pm__law_names cd__law_names ct__law_names : Value}
    (a__law_names : PySem.W.nsIn K mainGlobals "_law_names" = some (some (.ref f__law_names))) (l__law_names : K.lookup f__law_names = some ⟨oc__law_names, od__law_names, .func (PySem.W.fnOf "_law_names" "_law_names" (defArgs (top 27)) (defBody (top 27)) (defScope (top 27)) .none kV__law_names dc__law_names pm__law_names an__law_names cd__law_names ct__law_names), sl__law_names⟩) (c__law_names : PySem.W.codeIn K cd__law_names "_law_names" = true) (k__law_names : PySem.W.keepIn K (.ref f__law_names) = true)
    {f__law_form : Addr} {od__law_form an__law_form : Option Addr} {sl__law_form : Array (Option Value)} {oc__law_form kV__law_form dc__law_form pm__law_form cd__law_form ct__law_form : Value}
    (a__law_form : PySem.W.nsIn K mainGlobals "_law_form" = some (some (.ref f__law_form))) (l__law_form : K.lookup f__law_form = some ⟨oc__law_form, od__law_form, .func (PySem.W.fnOf "_law_form" "_law_form" (defArgs (top 28)) (defBody (top 28)) (defScope (top 28)) .none kV__law_form dc__law_form pm__law_form an__law_form cd__law_form ct__law_form), sl__law_form⟩) (c__law_form : PySem.W.codeIn K cd__law_form "_law_form" = true) (k__law_form : PySem.W.keepIn K (.ref f__law_form) = true)
    {f__law_pop : Addr} {od__law_pop an__law_pop : Option Addr} {sl__law_pop : Array (Option Value)} {oc__law_pop kV__law_pop dc__law_pop pm__law_pop cd__law_pop ct__law_pop : Value}
    (a__law_pop : PySem.W.nsIn K mainGlobals "_law_pop" = some (some (.ref f__law_pop))) (l__law_pop : K.lookup f__law_pop = some ⟨oc__law_pop, od__law_pop, .func (PySem.W.fnOf "_law_pop" "_law_pop" (defArgs (top 29)) (defBody (top 29)) (defScope (top 29)) .none kV__law_pop dc__law_pop pm__law_pop an__law_pop cd__law_pop ct__law_pop), sl__law_pop⟩) (c__law_pop : PySem.W.codeIn K cd__law_pop "_law_pop" = true) (k__law_pop : PySem.W.keepIn K (.ref f__law_pop) = true)
    {f__law_asks : Addr} {od__law_asks an__law_asks : Option Addr} {sl__law_asks : Array (Option Value)} {oc__law_asks kV__law_asks dc__law_asks pm__law_asks cd__law_asks ct__law_asks : Value}
    (a__law_asks : PySem.W.nsIn K mainGlobals "_law_asks" = some (some (.ref f__law_asks))) (l__law_asks : K.lookup f__law_asks = some ⟨oc__law_asks, od__law_asks, .func (PySem.W.fnOf "_law_asks" "_law_asks" (defArgs (top 30)) (defBody (top 30)) (defScope (top 30)) .none kV__law_asks dc__law_asks pm__law_asks an__law_asks cd__law_asks ct__law_asks), sl__law_asks⟩) (c__law_asks : PySem.W.codeIn K cd__law_asks "_law_asks" = true) (k__law_asks : PySem.W.keepIn K (.ref f__law_asks) = true)
    {f__law_tree : Addr} {od__law_tree an__law_tree : Option Addr} {sl__law_tree : Array (Option Value)} {oc__law_tree kV__law_tree dc__law_tree pm__law_tree cd__law_tree ct__law_tree : Value}
    (a__law_tree : PySem.W.nsIn K mainGlobals "_law_tree" = some (some (.ref f__law_tree))) (l__law_tree : K.lookup f__law_tree = some ⟨oc__law_tree, od__law_tree, .func (PySem.W.fnOf "_law_tree" "_law_tree" (defArgs (top 31)) (defBody (top 31)) (defScope (top 31)) .none kV__law_tree dc__law_tree pm__law_tree an__law_tree cd__law_tree ct__law_tree), sl__law_tree⟩) (c__law_tree : PySem.W.codeIn K cd__law_tree "_law_tree" = true) (k__law_tree : PySem.W.keepIn K (.ref f__law_tree) = true)
    {f__law_words : Addr} {od__law_words an__law_words : Option Addr} {sl__law_words : Array (Option Value)} {oc__law_words kV__law_words dc__law_words pm__law_words cd__law_words ct__law_words : Value}
    (a__law_words : PySem.W.nsIn K mainGlobals "_law_words" = some (some (.ref f__law_words))) (l__law_words : K.lookup f__law_words = some ⟨oc__law_words, od__law_words, .func (PySem.W.fnOf "_law_words" "_law_words" (defArgs (top 32)) (defBody (top 32)) (defScope (top 32)) .none kV__law_words dc__law_words pm__law_words an__law_words cd__law_words ct__law_words), sl__law_words⟩) (c__law_words : PySem.W.codeIn K cd__law_words "_law_words" = true) (k__law_words : PySem.W.keepIn K (.ref f__law_words) = true)
    {f__law_some_of : Addr} {od__law_some_of an__law_some_of : Option Addr} {sl__law_some_of : Array (Option Value)} {oc__law_some_of kV__law_some_of dc__law_some_of pm__law_some_of cd__law_some_of ct__law_some_of : Value}
    (a__law_some_of : PySem.W.nsIn K mainGlobals "_law_some_of" = some (some (.ref f__law_some_of))) (l__law_some_of : K.lookup f__law_some_of = some ⟨oc__law_some_of, od__law_some_of, .func (PySem.W.fnOf "_law_some_of" "_law_some_of" (defArgs (top 33)) (defBody (top 33)) (defScope (top 33)) .none kV__law_some_of dc__law_some_of pm__law_some_of an__law_some_of cd__law_some_of ct__law_some_of), sl__law_some_of⟩) (c__law_some_of : PySem.W.codeIn K cd__law_some_of "_law_some_of" = true) (k__law_some_of : PySem.W.keepIn K (.ref f__law_some_of) = true)
    {f__law_wrong : Addr} {od__law_wrong an__law_wrong : Option Addr} {sl__law_wrong : Array (Option Value)} {oc__law_wrong kV__law_wrong dc__law_wrong pm__law_wrong cd__law_wrong ct__law_wrong : Value}
    (a__law_wrong : PySem.W.nsIn K mainGlobals "_law_wrong" = some (some (.ref f__law_wrong))) (l__law_wrong : K.lookup f__law_wrong = some ⟨oc__law_wrong, od__law_wrong, .func (PySem.W.fnOf "_law_wrong" "_law_wrong" (defArgs (top 34)) (defBody (top 34)) (defScope (top 34)) .none kV__law_wrong dc__law_wrong pm__law_wrong an__law_wrong cd__law_wrong ct__law_wrong), sl__law_wrong⟩) (c__law_wrong : PySem.W.codeIn K cd__law_wrong "_law_wrong" = true) (k__law_wrong : PySem.W.keepIn K (.ref f__law_wrong) = true)
    {f__law_spoilt : Addr} {od__law_spoilt an__law_spoilt : Option Addr} {sl__law_spoilt : Array (Option Value)} {oc__law_spoilt kV__law_spoilt dc__law_spoilt pm__law_spoilt cd__law_spoilt ct__law_spoilt : Value}
    (a__law_spoilt : PySem.W.nsIn K mainGlobals "_law_spoilt" = some (some (.ref f__law_spoilt))) (l__law_spoilt : K.lookup f__law_spoilt = some ⟨oc__law_spoilt, od__law_spoilt, .func (PySem.W.fnOf "_law_spoilt" "_law_spoilt" (defArgs (top 35)) (defBody (top 35)) (defScope (top 35)) .none kV__law_spoilt dc__law_spoilt pm__law_spoilt an__law_spoilt cd__law_spoilt ct__law_spoilt), sl__law_spoilt⟩) (c__law_spoilt : PySem.W.codeIn K cd__law_spoilt "_law_spoilt" = true) (k__law_spoilt : PySem.W.keepIn K (.ref f__law_spoilt) = true)
    {f__law_right : Addr} {od__law_right an__law_right : Option Addr} {sl__law_right : Array (Option Value)} {oc__law_right kV__law_right dc__law_right pm__law_right cd__law_right ct__law_right : Value}
    (a__law_right : PySem.W.nsIn K mainGlobals "_law_right" = some (some (.ref f__law_right))) (l__law_right : K.lookup f__law_right = some ⟨oc__law_right, od__law_right, .func (PySem.W.fnOf "_law_right" "_law_right" (defArgs (top 36)) (defBody (top 36)) (defScope (top 36)) .none kV__law_right dc__law_right pm__law_right an__law_right cd__law_right ct__law_right), sl__law_right⟩) (c__law_right : PySem.W.codeIn K cd__law_right "_law_right" = true) (k__law_right : PySem.W.keepIn K (.ref f__law_right) = true)
    {f__law_chain_words : Addr} {od__law_chain_words an__law_chain_words : Option Addr} {sl__law_chain_words : Array (Option Value)} {oc__law_chain_words kV__law_chain_words dc__law_chain_words pm__law_chain_words cd__law_chain_words ct__law_chain_words : Value}
    (a__law_chain_words : PySem.W.nsIn K mainGlobals "_law_chain_words" = some (some (.ref f__law_chain_words))) (l__law_chain_words : K.lookup f__law_chain_words = some ⟨oc__law_chain_words, od__law_chain_words, .func (PySem.W.fnOf "_law_chain_words" "_law_chain_words" (defArgs (top 37)) (defBody (top 37)) (defScope (top 37)) .none kV__law_chain_words dc__law_chain_words pm__law_chain_words an__law_chain_words cd__law_chain_words ct__law_chain_words), sl__law_chain_words⟩) (c__law_chain_words : PySem.W.codeIn K cd__law_chain_words "_law_chain_words" = true) (k__law_chain_words : PySem.W.keepIn K (.ref f__law_chain_words) = true)
    {f__law_bushy_words : Addr} {od__law_bushy_words an__law_bushy_words : Option Addr} {sl__law_bushy_words : Array (Option Value)} {oc__law_bushy_words kV__law_bushy_words dc__law_bushy_words pm__law_bushy_words cd__law_bushy_words ct__law_bushy_words : Value}
    (a__law_bushy_words : PySem.W.nsIn K mainGlobals "_law_bushy_words" = some (some (.ref f__law_bushy_words))) (l__law_bushy_words : K.lookup f__law_bushy_words = some ⟨oc__law_bushy_words, od__law_bushy_words, .func (PySem.W.fnOf "_law_bushy_words" "_law_bushy_words" (defArgs (top 38)) (defBody (top 38)) (defScope (top 38)) .none kV__law_bushy_words dc__law_bushy_words pm__law_bushy_words an__law_bushy_words cd__law_bushy_words ct__law_bushy_words), sl__law_bushy_words⟩) (c__law_bushy_words : PySem.W.codeIn K cd__law_bushy_words "_law_bushy_words" = true) (k__law_bushy_words : PySem.W.keepIn K (.ref f__law_bushy_words) = true)
    {f_law : Addr} {od_law an_law : Option Addr} {sl_law : Array (Option Value)} {oc_law kV_law dc_law pm_law cd_law ct_law : Value}
    (a_law : PySem.W.nsIn K mainGlobals "law" = some (some (.ref f_law))) (l_law : K.lookup f_law = some ⟨oc_law, od_law, .func (PySem.W.fnOf "law" "law" (defArgs (top 39)) (defBody (top 39)) (defScope (top 39)) .none kV_law dc_law pm_law an_law cd_law ct_law), sl_law⟩) (c_law : PySem.W.codeIn K cd_law "law" = true) (k_law : PySem.W.keepIn K (.ref f_law) = true)
    {t_KINDS : Addr} {n_KINDS : Nat} {s_KINDS : Array (Option Value)} {k_KINDS_0 k_KINDS_1 : Tok} (e_KINDS : PySem.W.nsIn K mainGlobals "KINDS" = some (some (.ref t_KINDS))) (l_KINDS : K.lookup t_KINDS = some ⟨.type "tuple", none, .seq #[.str "is" k_KINDS_0, .str "upto" k_KINDS_1] n_KINDS, s_KINDS⟩)
    {t_SIDES : Addr} {n_SIDES : Nat} {s_SIDES : Array (Option Value)} {k_SIDES_0 k_SIDES_1 : Tok} (e_SIDES : PySem.W.nsIn K mainGlobals "SIDES" = some (some (.ref t_SIDES))) (l_SIDES : K.lookup t_SIDES = some ⟨.type "tuple", none, .seq #[.str "yes" k_SIDES_0, .str "no" k_SIDES_1] n_SIDES, s_SIDES⟩)
    {t_MOST_DEEP : Tok} (e_MOST_DEEP : PySem.W.nsIn K mainGlobals "MOST_DEEP" = some (some (.int 30 t_MOST_DEEP)))
    {t_MOST_KNOTS : Tok} (e_MOST_KNOTS : PySem.W.nsIn K mainGlobals "MOST_KNOTS" = some (some (.int 500 t_MOST_KNOTS)))
    {C_JudgeError : Addr}
    (ax_JudgeError : PySem.W.nsIn K mainGlobals "JudgeError" = some (some (.ref C_JudgeError)))
    {C_TooMany : Addr}
    (ax_TooMany : PySem.W.nsIn K mainGlobals "TooMany" = some (some (.ref C_TooMany)))
    {C_NoPlace : Addr}
    (ax_NoPlace : PySem.W.nsIn K mainGlobals "NoPlace" = some (some (.ref C_NoPlace)))
    {C_NoRow : Addr}
    (ax_NoRow : PySem.W.nsIn K mainGlobals "NoRow" = some (some (.ref C_NoRow)))
    {C_NoSuch : Addr}
    (ax_NoSuch : PySem.W.nsIn K mainGlobals "NoSuch" = some (some (.ref C_NoSuch)))
    {C_NoLine : Addr}
    (ax_NoLine : PySem.W.nsIn K mainGlobals "NoLine" = some (some (.ref C_NoLine)))
    {C_NoText : Addr}
    (ax_NoText : PySem.W.nsIn K mainGlobals "NoText" = some (some (.ref C_NoText)))
    {C_NoRule : Addr}
    (ax_NoRule : PySem.W.nsIn K mainGlobals "NoRule" = some (some (.ref C_NoRule)))
    {c0_J : Value} {dd_J : Option Addr} {cd_J : ClassData} {sl_J : Array (Option Value)}
    (l_J : K.lookup C_JudgeError = some ⟨c0_J, dd_J, .cls cd_J, sl_J⟩)
    {oc_J : Value} {od_J : Option Addr} {es_J : Array DictEntry} {ep_J : Nat} {os_J : Array (Option Value)}
    (ln_J : K.lookup cd_J.ns = some ⟨oc_J, od_J, .dict es_J ep_J, os_J⟩)
    (R_J : (es_J.toList.all fun e => match e.key with | .str _ _ => true | _ => false) = true)
    (n2_J : PySem.W.nsIn K cd_J.ns "__init__" = some (none))
    (mb_J : PySem.W.mroIn K C_JudgeError (.type "BaseException") = some true)
    {cc_JudgeError : ClassData}
    (ic_JudgeError : PySem.W.clsIn K C_JudgeError = some cc_JudgeError)
    (it_JudgeError : PySem.W.typeIn K (.ref C_JudgeError) = some (.type "type"))
    (is_JudgeError : PySem.W.mroIn K C_JudgeError (.ref C_JudgeError) = some true)
    {cc_TooMany : ClassData}
    (ic_TooMany : PySem.W.clsIn K C_TooMany = some cc_TooMany)
    (it_TooMany : PySem.W.typeIn K (.ref C_TooMany) = some (.type "type"))
    (is_TooMany : PySem.W.mroIn K C_TooMany (.ref C_TooMany) = some true)
    {cc_NoPlace : ClassData}
    (ic_NoPlace : PySem.W.clsIn K C_NoPlace = some cc_NoPlace)
    (it_NoPlace : PySem.W.typeIn K (.ref C_NoPlace) = some (.type "type"))
    (is_NoPlace : PySem.W.mroIn K C_NoPlace (.ref C_NoPlace) = some true)
    {cc_NoRow : ClassData}
    (ic_NoRow : PySem.W.clsIn K C_NoRow = some cc_NoRow)
    (it_NoRow : PySem.W.typeIn K (.ref C_NoRow) = some (.type "type"))
    (is_NoRow : PySem.W.mroIn K C_NoRow (.ref C_NoRow) = some true)
    {cc_NoSuch : ClassData}
    (ic_NoSuch : PySem.W.clsIn K C_NoSuch = some cc_NoSuch)
    (it_NoSuch : PySem.W.typeIn K (.ref C_NoSuch) = some (.type "type"))
    (is_NoSuch : PySem.W.mroIn K C_NoSuch (.ref C_NoSuch) = some true)
    {cc_NoLine : ClassData}
    (ic_NoLine : PySem.W.clsIn K C_NoLine = some cc_NoLine)
    (it_NoLine : PySem.W.typeIn K (.ref C_NoLine) = some (.type "type"))
    (is_NoLine : PySem.W.mroIn K C_NoLine (.ref C_NoLine) = some true)
    {cc_NoText : ClassData}
    (ic_NoText : PySem.W.clsIn K C_NoText = some cc_NoText)
    (it_NoText : PySem.W.typeIn K (.ref C_NoText) = some (.type "type"))
    (is_NoText : PySem.W.mroIn K C_NoText (.ref C_NoText) = some true)
    {cc_NoRule : ClassData}
    (ic_NoRule : PySem.W.clsIn K C_NoRule = some cc_NoRule)
    (it_NoRule : PySem.W.typeIn K (.ref C_NoRule) = some (.type "type"))
    (is_NoRule : PySem.W.mroIn K C_NoRule (.ref C_NoRule) = some true)
    {nm_NoText qn_NoText : Str} {N_NoText : Addr} {bs_NoText sub_NoText : List Value} {ab_NoText : Bool} {sn_NoText : List Str} {col_NoText : Option Bool} {dd_NoText : Option Addr} {k0_NoText k1_NoText k2_NoText k3_NoText k5_NoText : Option Value}
    (l_NoText : K.lookup C_NoText = some (excClassObj nm_NoText qn_NoText C_NoText N_NoText bs_NoText (.ref C_JudgeError :: [.type "ValueError", .type "Exception", .type "BaseException", .type "object"]) true sn_NoText sub_NoText ab_NoText col_NoText dd_NoText k0_NoText k1_NoText k2_NoText k3_NoText k5_NoText "ValueError.__new__"))
    {g_NoText : Addr} {od0_NoText an0_NoText : Option Addr} {sl0_NoText : Array (Option Value)} {kV0_NoText dc0_NoText pm0_NoText cd0_NoText ct0_NoText : Value}
    (sa_NoText : PySem.W.findIn K (.ref C_NoText) "__setattr__" = some (some (.builtin "object.__setattr__")))
    (at_NoText : PySem.W.findIn K (.ref C_NoText) "at" = some none)
    {oc_NoText : Value} {od_NoText : Option Addr} {es_NoText : Array DictEntry} {ep_NoText : Nat} {os_NoText : Array (Option Value)}
    (ln_NoText : K.lookup N_NoText = some ⟨oc_NoText, od_NoText, .dict es_NoText ep_NoText, os_NoText⟩)
    (R_NoText : (es_NoText.toList.all fun e => match e.key with | .str _ _ => true | _ => false) = true)
    (n2_NoText : PySem.W.nsIn K N_NoText "__init__" = some (some (.ref g_NoText)))
    (l0_NoText : K.lookup g_NoText = some ⟨.type "function", od0_NoText, .func (PySem.W.fnOf "__init__" "NoText.__init__" (defArgs (initOf (top 7))) (defBody (initOf (top 7))) (defScope (initOf (top 7))) .none kV0_NoText dc0_NoText pm0_NoText an0_NoText cd0_NoText ct0_NoText), sl0_NoText⟩)
    (c0_NoText : PySem.W.codeIn K cd0_NoText "NoText.__init__" = true)
    (k0_NoText : PySem.W.keepIn K (.ref g_NoText) = true)
    (f__getattribute___NoText : PySem.W.findIn K (.ref C_NoText) "__getattribute__" = some (some (.builtin "BaseException.__getattribute__")))
    (f__getattr___NoText : PySem.W.findIn K (.ref C_NoText) "__getattr__" = some (none))
    (f__class___NoText : PySem.W.findIn K (.ref C_NoText) "__class__" = some (some (.builtin "object.__class__")))
    (m_object_NoText : PySem.W.mroIn K C_NoText (.type "object") = some true)
    (m_BaseException_NoText : PySem.W.mroIn K C_NoText (.type "BaseException") = some true)
    (m_ValueError_NoText : PySem.W.mroIn K C_NoText (.type "ValueError") = some true)
    (y_int_NoText : PySem.W.mroIn K C_NoText (.type "int") = some false)
    (y_str_NoText : PySem.W.mroIn K C_NoText (.type "str") = some false)
    (y_list_NoText : PySem.W.mroIn K C_NoText (.type "list") = some false)
    (y_tuple_NoText : PySem.W.mroIn K C_NoText (.type "tuple") = some false)
    (y_bool_NoText : PySem.W.mroIn K C_NoText (.type "bool") = some false)
    (j_NoText : PySem.W.mroIn K C_NoText (.ref C_JudgeError) = some true)
    (q_NoText_TooMany : PySem.W.mroIn K C_NoText (.ref C_TooMany) = some false)
    (q_NoText_NoPlace : PySem.W.mroIn K C_NoText (.ref C_NoPlace) = some false)
    (q_NoText_NoRow : PySem.W.mroIn K C_NoText (.ref C_NoRow) = some false)
    (q_NoText_NoSuch : PySem.W.mroIn K C_NoText (.ref C_NoSuch) = some false)
    (q_NoText_NoLine : PySem.W.mroIn K C_NoText (.ref C_NoLine) = some false)
    (q_NoText_NoRule : PySem.W.mroIn K C_NoText (.ref C_NoRule) = some false)
    (z_ValueError : PySem.W.nsIn K mainGlobals "ValueError" = some none)
    (z_bool : PySem.W.nsIn K mainGlobals "bool" = some none)
    (z_int : PySem.W.nsIn K mainGlobals "int" = some none)
    (z_isinstance : PySem.W.nsIn K mainGlobals "isinstance" = some none)
    (z_len : PySem.W.nsIn K mainGlobals "len" = some none)
    (z_list : PySem.W.nsIn K mainGlobals "list" = some none)
    (z_min : PySem.W.nsIn K mainGlobals "min" = some none)
    (z_range : PySem.W.nsIn K mainGlobals "range" = some none)
    (z_tuple : PySem.W.nsIn K mainGlobals "tuple" = some none) :
    ∃ fd : FuncData, (∀ (s : Shared) (v : Value), BindsTo s fd ⟨[v], []⟩ [("_law_script", v)]) ∧ ∀ base : Heap, K.In base → base.Ns mainGlobals mg → FnOk l.prog w K mg base CX0 71 fa fd ["_law_script"] (liftSp K sp_law) := by
  have e := hfa.symm.trans (PySem.W.mg_of X G a_law)
  cases e
  have F_values_asked := fun_mk (st := top 12) l_values_asked c_values_asked k_values_asked
  have b_values_asked := F_values_asked.binds (ps := ["kind", "field"]) fun _ _ _ _ _ _ => len2 fun _ _ => rfl
  have F_is_leaf := fun_mk (st := top 16) l_is_leaf c_is_leaf k_is_leaf
  have b_is_leaf := F_is_leaf.binds (ps := ["tree"]) fun _ _ _ _ _ _ => len1 fun _ => rfl
  have F_shown_tree := fun_mk (st := top 18) l_shown_tree c_shown_tree k_shown_tree
  have b_shown_tree := F_shown_tree.binds (ps := ["tree"]) fun _ _ _ _ _ _ => len1 fun _ => rfl
  have F_read_tree := fun_mk (st := top 19) l_read_tree c_read_tree k_read_tree
  have b_read_tree := F_read_tree.binds (ps := ["form", "text"]) fun _ _ _ _ _ _ => len2 fun _ _ => rfl
  have F_read_part := fun_mk (st := top 20) l_read_part c_read_part k_read_part
  have b_read_part := F_read_part.binds (ps := ["form", "words", "start", "within", "knots"]) fun _ _ _ _ _ _ => len5 fun _ _ _ _ _ => rfl
  have F_read_question := fun_mk (st := top 21) l_read_question c_read_question k_read_question
  have b_read_question := F_read_question.binds (ps := ["form", "words", "start"]) fun _ _ _ _ _ _ => len3 fun _ _ _ => rfl
  have F_word_at := fun_mk (st := top 22) l_word_at c_word_at k_word_at
  have b_word_at := F_word_at.binds (ps := ["words", "number", "right"]) fun _ _ _ _ _ _ => len3 fun _ _ _ => rfl
  have F__law_mix := fun_mk (st := top 24) l__law_mix c__law_mix k__law_mix
  have b__law_mix := F__law_mix.binds (ps := ["_law_cell", "_law_k"]) fun _ _ _ _ _ _ => len2 fun _ _ => rfl
  have F__law_cell_at := fun_mk (st := top 25) l__law_cell_at c__law_cell_at k__law_cell_at
  have b__law_cell_at := F__law_cell_at.binds (ps := ["_law_script", "_law_k"]) fun _ _ _ _ _ _ => len2 fun _ _ => rfl
  have F__law_drawn := fun_mk (st := top 26) l__law_drawn c__law_drawn k__law_drawn
  have b__law_drawn := F__law_drawn.binds (ps := ["_law_cell", "_law_many"]) fun _ _ _ _ _ _ => len2 fun _ _ => rfl
  have F__law_names := fun_mk (st := top 27) l__law_names c__law_names k__law_names
  have b__law_names := F__law_names.binds (ps := ["_law_drawn_here", "_law_at", "_law_many"]) fun _ _ _ _ _ _ => len3 fun _ _ _ => rfl
  have F__law_form := fun_mk (st := top 28) l__law_form c__law_form k__law_form
  have b__law_form := F__law_form.binds (ps := ["_law_script"]) fun _ _ _ _ _ _ => len1 fun _ => rfl
  have F__law_pop := fun_mk (st := top 29) l__law_pop c__law_pop k__law_pop
  have b__law_pop := F__law_pop.binds (ps := ["_law_numbers"]) fun _ _ _ _ _ _ => len1 fun _ => rfl
  have F__law_asks := fun_mk (st := top 30) l__law_asks c__law_asks k__law_asks
  have b__law_asks := F__law_asks.binds (ps := ["_law_form_here", "_law_number"]) fun _ _ _ _ _ _ => len2 fun _ _ => rfl
  have F__law_tree := fun_mk (st := top 31) l__law_tree c__law_tree k__law_tree
  have b__law_tree := F__law_tree.binds (ps := ["_law_form_here", "_law_numbers", "_law_deep"]) fun _ _ _ _ _ _ => len3 fun _ _ _ => rfl
  have F__law_words := fun_mk (st := top 32) l__law_words c__law_words k__law_words
  have b__law_words := F__law_words.binds (ps := ["_law_tree_here"]) fun _ _ _ _ _ _ => len1 fun _ => rfl
  have F__law_some_of := fun_mk (st := top 33) l__law_some_of c__law_some_of k__law_some_of
  have b__law_some_of := F__law_some_of.binds (ps := ["_law_form_here", "_law_sort", "_law_field", "_law_kind"]) fun _ _ _ _ _ _ => len4 fun _ _ _ _ => rfl
  have F__law_wrong := fun_mk (st := top 34) l__law_wrong c__law_wrong k__law_wrong
  have b__law_wrong := F__law_wrong.binds (ps := ["_law_form_here", "_law_words_here"]) fun _ _ _ _ _ _ => len2 fun _ _ => rfl
  have F__law_spoilt := fun_mk (st := top 35) l__law_spoilt c__law_spoilt k__law_spoilt
  have b__law_spoilt := F__law_spoilt.binds (ps := ["_law_form_here", "_law_bits", "_law_words_here"]) fun _ _ _ _ _ _ => len3 fun _ _ _ => rfl
  have F__law_right := fun_mk (st := top 36) l__law_right c__law_right k__law_right
  have b__law_right := F__law_right.binds (ps := ["_law_form_here", "_law_text"]) fun _ _ _ _ _ _ => len2 fun _ _ => rfl
  have F__law_chain_words := fun_mk (st := top 37) l__law_chain_words c__law_chain_words k__law_chain_words
  have b__law_chain_words := F__law_chain_words.binds (ps := ["_law_form_here", "_law_bits", "_law_many"]) fun _ _ _ _ _ _ => len3 fun _ _ _ => rfl
  have F__law_bushy_words := fun_mk (st := top 38) l__law_bushy_words c__law_bushy_words k__law_bushy_words
  have b__law_bushy_words := F__law_bushy_words.binds (ps := ["_law_form_here", "_law_bits", "_law_many"]) fun _ _ _ _ _ _ => len3 fun _ _ _ => rfl
  have F_law := fun_mk (st := top 39) l_law c_law k_law
  have b_law := F_law.binds (ps := ["_law_script"]) fun _ _ _ _ _ _ => len1 fun _ => rfl
  have T : Txt K mg { a_values_asked := f_values_asked, f_values_asked := PySem.W.fnOf "values_asked" "values_asked" (defArgs (top 12)) (defBody (top 12)) (defScope (top 12)) .none kV_values_asked dc_values_asked pm_values_asked an_values_asked cd_values_asked ct_values_asked, a_is_leaf := f_is_leaf, f_is_leaf := PySem.W.fnOf "is_leaf" "is_leaf" (defArgs (top 16)) (defBody (top 16)) (defScope (top 16)) .none kV_is_leaf dc_is_leaf pm_is_leaf an_is_leaf cd_is_leaf ct_is_leaf, a_shown_tree := f_shown_tree, f_shown_tree := PySem.W.fnOf "shown_tree" "shown_tree" (defArgs (top 18)) (defBody (top 18)) (defScope (top 18)) .none kV_shown_tree dc_shown_tree pm_shown_tree an_shown_tree cd_shown_tree ct_shown_tree, a_read_tree := f_read_tree, f_read_tree := PySem.W.fnOf "read_tree" "read_tree" (defArgs (top 19)) (defBody (top 19)) (defScope (top 19)) .none kV_read_tree dc_read_tree pm_read_tree an_read_tree cd_read_tree ct_read_tree, a_read_part := f_read_part, f_read_part := PySem.W.fnOf "read_part" "read_part" (defArgs (top 20)) (defBody (top 20)) (defScope (top 20)) .none kV_read_part dc_read_part pm_read_part an_read_part cd_read_part ct_read_part, a_read_question := f_read_question, f_read_question := PySem.W.fnOf "read_question" "read_question" (defArgs (top 21)) (defBody (top 21)) (defScope (top 21)) .none kV_read_question dc_read_question pm_read_question an_read_question cd_read_question ct_read_question, a_word_at := f_word_at, f_word_at := PySem.W.fnOf "word_at" "word_at" (defArgs (top 22)) (defBody (top 22)) (defScope (top 22)) .none kV_word_at dc_word_at pm_word_at an_word_at cd_word_at ct_word_at, a__law_mix := f__law_mix, f__law_mix := PySem.W.fnOf "_law_mix" "_law_mix" (defArgs (top 24)) (defBody (top 24)) (defScope (top 24)) .none kV__law_mix dc__law_mix pm__law_mix an__law_mix cd__law_mix ct__law_mix, a__law_cell_at := f__law_cell_at, f__law_cell_at := PySem.W.fnOf "_law_cell_at" "_law_cell_at" (defArgs (top 25)) (defBody (top 25)) (defScope (top 25)) .none kV__law_cell_at dc__law_cell_at pm__law_cell_at an__law_cell_at cd__law_cell_at ct__law_cell_at, a__law_drawn := f__law_drawn, f__law_drawn := PySem.W.fnOf "_law_drawn" "_law_drawn" (defArgs (top 26)) (defBody (top 26)) (defScope (top 26)) .none kV__law_drawn dc__law_drawn pm__law_drawn an__law_drawn cd__law_drawn ct__law_drawn, a__law_names := f__law_names, f__law_names := PySem.W.fnOf "_law_names" "_law_names" (defArgs (top 27)) (defBody (top 27)) (defScope (top 27)) .none kV__law_names dc__law_names pm__law_names an__law_names cd__law_names ct__law_names, a__law_form := f__law_form, f__law_form := PySem.W.fnOf "_law_form" "_law_form" (defArgs (top 28)) (defBody (top 28)) (defScope (top 28)) .none kV__law_form dc__law_form pm__law_form an__law_form cd__law_form ct__law_form, a__law_pop := f__law_pop, f__law_pop := PySem.W.fnOf "_law_pop" "_law_pop" (defArgs (top 29)) (defBody (top 29)) (defScope (top 29)) .none kV__law_pop dc__law_pop pm__law_pop an__law_pop cd__law_pop ct__law_pop, a__law_asks := f__law_asks, f__law_asks := PySem.W.fnOf "_law_asks" "_law_asks" (defArgs (top 30)) (defBody (top 30)) (defScope (top 30)) .none kV__law_asks dc__law_asks pm__law_asks an__law_asks cd__law_asks ct__law_asks, a__law_tree := f__law_tree, f__law_tree := PySem.W.fnOf "_law_tree" "_law_tree" (defArgs (top 31)) (defBody (top 31)) (defScope (top 31)) .none kV__law_tree dc__law_tree pm__law_tree an__law_tree cd__law_tree ct__law_tree, a__law_words := f__law_words, f__law_words := PySem.W.fnOf "_law_words" "_law_words" (defArgs (top 32)) (defBody (top 32)) (defScope (top 32)) .none kV__law_words dc__law_words pm__law_words an__law_words cd__law_words ct__law_words, a__law_some_of := f__law_some_of, f__law_some_of := PySem.W.fnOf "_law_some_of" "_law_some_of" (defArgs (top 33)) (defBody (top 33)) (defScope (top 33)) .none kV__law_some_of dc__law_some_of pm__law_some_of an__law_some_of cd__law_some_of ct__law_some_of, a__law_wrong := f__law_wrong, f__law_wrong := PySem.W.fnOf "_law_wrong" "_law_wrong" (defArgs (top 34)) (defBody (top 34)) (defScope (top 34)) .none kV__law_wrong dc__law_wrong pm__law_wrong an__law_wrong cd__law_wrong ct__law_wrong, a__law_spoilt := f__law_spoilt, f__law_spoilt := PySem.W.fnOf "_law_spoilt" "_law_spoilt" (defArgs (top 35)) (defBody (top 35)) (defScope (top 35)) .none kV__law_spoilt dc__law_spoilt pm__law_spoilt an__law_spoilt cd__law_spoilt ct__law_spoilt, a__law_right := f__law_right, f__law_right := PySem.W.fnOf "_law_right" "_law_right" (defArgs (top 36)) (defBody (top 36)) (defScope (top 36)) .none kV__law_right dc__law_right pm__law_right an__law_right cd__law_right ct__law_right, a__law_chain_words := f__law_chain_words, f__law_chain_words := PySem.W.fnOf "_law_chain_words" "_law_chain_words" (defArgs (top 37)) (defBody (top 37)) (defScope (top 37)) .none kV__law_chain_words dc__law_chain_words pm__law_chain_words an__law_chain_words cd__law_chain_words ct__law_chain_words, a__law_bushy_words := f__law_bushy_words, f__law_bushy_words := PySem.W.fnOf "_law_bushy_words" "_law_bushy_words" (defArgs (top 38)) (defBody (top 38)) (defScope (top 38)) .none kV__law_bushy_words dc__law_bushy_words pm__law_bushy_words an__law_bushy_words cd__law_bushy_words ct__law_bushy_words, a_law := fa, f_law := PySem.W.fnOf "law" "law" (defArgs (top 39)) (defBody (top 39)) (defScope (top 39)) .none kV_law dc_law pm_law an_law cd_law ct_law, t_KINDS := t_KINDS, t_SIDES := t_SIDES, t_MOST_DEEP := t_MOST_DEEP, t_MOST_KNOTS := t_MOST_KNOTS, c_JudgeError := C_JudgeError, c_TooMany := C_TooMany, c_NoPlace := C_NoPlace, c_NoRow := C_NoRow, c_NoSuch := C_NoSuch, c_NoLine := C_NoLine, c_NoText := C_NoText, c_NoRule := C_NoRule, a0_NoText := g_NoText, f0_NoText := PySem.W.fnOf "__init__" "NoText.__init__" (defArgs (initOf (top 7))) (defBody (initOf (top 7))) (defScope (initOf (top 7))) .none kV0_NoText dc0_NoText pm0_NoText an0_NoText cd0_NoText ct0_NoText } := { m_values_asked := PySem.W.mg_of X G a_values_asked, k_values_asked := k_values_asked, F_values_asked := F_values_asked, d_values_asked := b_values_asked, m_is_leaf := PySem.W.mg_of X G a_is_leaf, k_is_leaf := k_is_leaf, F_is_leaf := F_is_leaf, d_is_leaf := b_is_leaf, m_shown_tree := PySem.W.mg_of X G a_shown_tree, k_shown_tree := k_shown_tree, F_shown_tree := F_shown_tree, d_shown_tree := b_shown_tree, m_read_tree := PySem.W.mg_of X G a_read_tree, k_read_tree := k_read_tree, F_read_tree := F_read_tree, d_read_tree := b_read_tree, m_read_part := PySem.W.mg_of X G a_read_part, k_read_part := k_read_part, F_read_part := F_read_part, d_read_part := b_read_part, m_read_question := PySem.W.mg_of X G a_read_question, k_read_question := k_read_question, F_read_question := F_read_question, d_read_question := b_read_question, m_word_at := PySem.W.mg_of X G a_word_at, k_word_at := k_word_at, F_word_at := F_word_at, d_word_at := b_word_at, m__law_mix := PySem.W.mg_of X G a__law_mix, k__law_mix := k__law_mix, F__law_mix := F__law_mix, d__law_mix := b__law_mix, m__law_cell_at := PySem.W.mg_of X G a__law_cell_at, k__law_cell_at := k__law_cell_at, F__law_cell_at := F__law_cell_at, d__law_cell_at := b__law_cell_at, m__law_drawn := PySem.W.mg_of X G a__law_drawn, k__law_drawn := k__law_drawn, F__law_drawn := F__law_drawn, d__law_drawn := b__law_drawn, m__law_names := PySem.W.mg_of X G a__law_names, k__law_names := k__law_names, F__law_names := F__law_names, d__law_names := b__law_names, m__law_form := PySem.W.mg_of X G a__law_form, k__law_form := k__law_form, F__law_form := F__law_form, d__law_form := b__law_form, m__law_pop := PySem.W.mg_of X G a__law_pop, k__law_pop := k__law_pop, F__law_pop := F__law_pop, d__law_pop := b__law_pop, m__law_asks := PySem.W.mg_of X G a__law_asks, k__law_asks := k__law_asks, F__law_asks := F__law_asks, d__law_asks := b__law_asks, m__law_tree := PySem.W.mg_of X G a__law_tree, k__law_tree := k__law_tree, F__law_tree := F__law_tree, d__law_tree := b__law_tree, m__law_words := PySem.W.mg_of X G a__law_words, k__law_words := k__law_words, F__law_words := F__law_words, d__law_words := b__law_words, m__law_some_of := PySem.W.mg_of X G a__law_some_of, k__law_some_of := k__law_some_of, F__law_some_of := F__law_some_of, d__law_some_of := b__law_some_of, m__law_wrong := PySem.W.mg_of X G a__law_wrong, k__law_wrong := k__law_wrong, F__law_wrong := F__law_wrong, d__law_wrong := b__law_wrong, m__law_spoilt := PySem.W.mg_of X G a__law_spoilt, k__law_spoilt := k__law_spoilt, F__law_spoilt := F__law_spoilt, d__law_spoilt := b__law_spoilt, m__law_right := PySem.W.mg_of X G a__law_right, k__law_right := k__law_right, F__law_right := F__law_right, d__law_right := b__law_right, m__law_chain_words := PySem.W.mg_of X G a__law_chain_words, k__law_chain_words := k__law_chain_words, F__law_chain_words := F__law_chain_words, d__law_chain_words := b__law_chain_words, m__law_bushy_words := PySem.W.mg_of X G a__law_bushy_words, k__law_bushy_words := k__law_bushy_words, F__law_bushy_words := F__law_bushy_words, d__law_bushy_words := b__law_bushy_words, m_law := PySem.W.mg_of X G a_law, k_law := k_law, F_law := F_law, d_law := b_law, c_KINDS := PySem.W.mg_of X G e_KINDS, t_KINDS := ⟨_, _, _, l_KINDS, rfl, rfl, rfl, (by show 2 ≤ sizeLine; decide), .cons ⟨_, rfl⟩ (.cons ⟨_, rfl⟩ (.nil))⟩, c_SIDES := PySem.W.mg_of X G e_SIDES, t_SIDES := ⟨_, _, _, l_SIDES, rfl, rfl, rfl, (by show 2 ≤ sizeLine; decide), .cons ⟨_, rfl⟩ (.cons ⟨_, rfl⟩ (.nil))⟩, c_MOST_DEEP := PySem.W.mg_of X G e_MOST_DEEP, c_MOST_KNOTS := PySem.W.mg_of X G e_MOST_KNOTS, x_JudgeError := PySem.W.mg_of X G ax_JudgeError, x_TooMany := PySem.W.mg_of X G ax_TooMany, x_NoPlace := PySem.W.mg_of X G ax_NoPlace, x_NoRow := PySem.W.mg_of X G ax_NoRow, x_NoSuch := PySem.W.mg_of X G ax_NoSuch, x_NoLine := PySem.W.mg_of X G ax_NoLine, x_NoText := PySem.W.mg_of X G ax_NoText, x_NoRule := PySem.W.mg_of X G ax_NoRule, X_NoText := ⟨⟨f__getattribute___NoText, f__getattr___NoText, f__class___NoText, m_object_NoText, m_BaseException_NoText⟩, fun T hT => by simp only [List.mem_cons, List.not_mem_nil, or_false] at hT; (rcases hT with rfl | rfl | rfl | rfl | rfl <;> first | exact kit_ty km_int y_int_NoText | exact kit_ty km_str y_str_NoText | exact kit_ty km_list y_list_NoText | exact kit_ty km_tuple y_tuple_NoText | exact kit_ty km_bool y_bool_NoText)⟩, I_NoText := ⟨_, _, _, _, _, _, _, _, _, _, _, _, _, _, _, _, _, _, _, _, _, l_NoText, nsOk_of ln_NoText R_NoText, n2_NoText, l_J, nsOk_of ln_J R_J, n2_J, l0_NoText, rfl⟩, F0_NoText := fun_mk (st := (initOf (top 7))) l0_NoText c0_NoText k0_NoText, i_NoText := (fun_mk (st := (initOf (top 7))) l0_NoText c0_NoText k0_NoText).binds (ps := ["self", "at"]) fun _ _ _ _ _ _ => len2 fun _ _ => rfl, T_NoText := ⟨sa_NoText, at_NoText, _, C_JudgeError, cls_of l_NoText, rfl, rfl⟩, j_NoText := exm_own ic_JudgeError it_JudgeError mb_J j_NoText, v_NoText := kit_ty km_ValueError m_ValueError_NoText, q_NoText_TooMany := kit_no ic_TooMany it_TooMany q_NoText_TooMany is_TooMany, q_NoText_NoPlace := kit_no ic_NoPlace it_NoPlace q_NoText_NoPlace is_NoPlace, q_NoText_NoRow := kit_no ic_NoRow it_NoRow q_NoText_NoRow is_NoRow, q_NoText_NoSuch := kit_no ic_NoSuch it_NoSuch q_NoText_NoSuch is_NoSuch, q_NoText_NoLine := kit_no ic_NoLine it_NoLine q_NoText_NoLine is_NoLine, q_NoText_NoText := kit_self, q_NoText_NoRule := kit_no ic_NoRule it_NoRule q_NoText_NoRule is_NoRule, b_ValueError := PySem.W.mg_none_of X G z_ValueError, b_bool := PySem.W.mg_none_of X G z_bool, b_int := PySem.W.mg_none_of X G z_int, b_isinstance := PySem.W.mg_none_of X G z_isinstance, b_len := PySem.W.mg_none_of X G z_len, b_list := PySem.W.mg_none_of X G z_list, b_min := PySem.W.mg_none_of X G z_min, b_range := PySem.W.mg_none_of X G z_range, b_tuple := PySem.W.mg_none_of X G z_tuple }
  refine ⟨PySem.W.fnOf "law" "law" (defArgs (top 39)) (defBody (top 39)) (defScope (top 39)) .none kV_law dc_law pm_law an_law cd_law ct_law, fun s v => .of_eq rfl, fun base _ _ => ?_⟩
  have O__law_asks := ok__law_asks (P := l.prog) (w := w) (base := base) T
  have O__law_bushy_words := ok__law_bushy_words (P := l.prog) (w := w) (base := base) T (F__law_asks := O__law_asks)
  have O__law_mix := ok__law_mix (P := l.prog) (w := w) (base := base) T
  have O__law_cell_at := ok__law_cell_at (P := l.prog) (w := w) (base := base) T (F__law_mix := O__law_mix)
  have O__law_chain_words := ok__law_chain_words (P := l.prog) (w := w) (base := base) T (F__law_asks := O__law_asks)
  have O__law_drawn := ok__law_drawn (P := l.prog) (w := w) (base := base) T (F__law_mix := O__law_mix)
  have O__law_names := ok__law_names (P := l.prog) (w := w) (base := base) T
  have O__law_form := ok__law_form (P := l.prog) (w := w) (base := base) T (F__law_cell_at := O__law_cell_at) (F__law_drawn := O__law_drawn) (F__law_names := O__law_names)
  have O__law_some_of := ok__law_some_of (P := l.prog) (w := w) (base := base) T
  have O__law_wrong := ok__law_wrong (P := l.prog) (w := w) (base := base) T (F__law_some_of := O__law_some_of)
  have O_values_asked := ok_values_asked (P := l.prog) (w := w) (base := base) T
  have O_word_at := ok_word_at (P := l.prog) (w := w) (base := base) T
  have O_read_question := ok_read_question (P := l.prog) (w := w) (base := base) T (F_values_asked := O_values_asked) (F_word_at := O_word_at)
  have O_read_part := ok_read_part (P := l.prog) (w := w) (base := base) T (F_read_question := O_read_question) (F_word_at := O_word_at)
  have O_read_tree := ok_read_tree (P := l.prog) (w := w) (base := base) T (F_read_part := O_read_part)
  have O_is_leaf := ok_is_leaf (P := l.prog) (w := w) (base := base) T
  have O_shown_tree := ok_shown_tree (P := l.prog) (w := w) (base := base) T (F_is_leaf := O_is_leaf)
  have OX_word_at := okX_word_at (P := l.prog) (w := w) (base := base) T
  have OX_read_question := okX_read_question (P := l.prog) (w := w) (base := base) T (F_values_asked := O_values_asked) (F_word_at := O_word_at) (X_word_at := OX_word_at)
  have OX_read_part := okX_read_part (P := l.prog) (w := w) (base := base) T (F_read_part := O_read_part) (F_read_question := O_read_question) (F_word_at := O_word_at) (X_read_question := OX_read_question) (X_word_at := OX_word_at)
  have OX_read_tree := okX_read_tree (P := l.prog) (w := w) (base := base) T (F_read_part := O_read_part) (X_read_part := OX_read_part)
  have O__law_right := ok__law_right (P := l.prog) (w := w) (base := base) T (F__law_wrong := O__law_wrong) (F_read_tree := O_read_tree) (F_shown_tree := O_shown_tree) (X_read_tree := OX_read_tree)
  have O__law_spoilt := ok__law_spoilt (P := l.prog) (w := w) (base := base) T
  have O__law_pop := ok__law_pop (P := l.prog) (w := w) (base := base) T
  have O__law_tree := ok__law_tree (P := l.prog) (w := w) (base := base) T (F__law_asks := O__law_asks) (F__law_pop := O__law_pop)
  have O__law_words := ok__law_words (P := l.prog) (w := w) (base := base) T
  have O_law := ok_law (P := l.prog) (w := w) (base := base) T (F__law_bushy_words := O__law_bushy_words) (F__law_cell_at := O__law_cell_at) (F__law_chain_words := O__law_chain_words) (F__law_drawn := O__law_drawn) (F__law_form := O__law_form) (F__law_right := O__law_right) (F__law_spoilt := O__law_spoilt) (F__law_tree := O__law_tree) (F__law_words := O__law_words)
  exact O_law
theorem mask_nil {H : Hp} : Same H (mask H []) := fun b o e => by
  unfold mask
  rw [if_neg (by simp)]
  exact e
theorem ints_reps {K : PySem.W.Frag} {H : Hp} : ∀ ns : List Int, Reps K H (ns.map PyData.int) (ns.map V.int)
  | [] => .nil
  | n :: ns => .cons (.int n) (ints_reps ns)
theorem walk {l : PySem.W.OpenLaw} {q : Program} {loose : List Str} {XP : (Str → Option Value) → Heap → Prop} {YP : World → Heap → Prop} {d : DefRec} {K : Params → PySem.W.Frag} (hn : l.most = some 63) (hdf : d.params.defaults = [])
    (hY : ∀ (w : World) (h : Heap), YP w h → (K w.params).In h)
    (F : ∀ (w : World) (mg : Str → Option Value) (fa : Addr) (h : Heap), (K w.params).In h → h.Ns mainGlobals mg → mg d.name = some (.ref fa) →
      ∃ fd : FuncData, (∀ (s : Shared) (u : Value), BindsTo s fd ⟨[u], []⟩ [("_law_script", u)]) ∧ ∀ base : Heap, (K w.params).In base → base.Ns mainGlobals mg → FnOk l.prog w (K w.params) mg base CX0 71 fa fd ["_law_script"] (liftSp (K w.params) sp_law)) :
    PySem.W.WalkO q loose XP YP l.row.toRowW d [] (fun f vs => PySem.call f vs) :=
  L2.walk_of (n := 63) (k := 71) (x := "_law_script") (CX := fun _ => CX0) (sp := fun w => liftSp (K w.params) sp_law) hn (by decide) hdf ⟨rfl, by decide, by decide, rfl⟩ hY F
    (fun w H a ns hl _ hS => ⟨[], [.list (ns.map PyData.int)], fun d => d = .bool true, fun p hp => by simp at hp, .cons (.list (L2.Same.seq mask_nil hS) (ints_reps ns)) .nil, ⟨ns, rfl, hl, rfl⟩, fun d v H' _ r q => by subst q; cases r; rfl⟩) fun _ _ _ _ _ z => z
end
end K11
def PySem.W.Fast.tw4565673514061259135 : Nat := 0
def PySem.W.Fast.tw17336583110060602245 : Nat := 0
def PySem.W.Fast.tw15949001049023694588 : Nat := 0
def PySem.W.Fast.tw16701700672438308058 : Nat := 0
open PySem PySem.W PyProof.Rows
set_option maxRecDepth 100000 in
set_option maxHeartbeats 0 in
theorem PySem.Challenge.cw_leafjudge_k11_texts_that_write_no_tree_holds : PySem.Challenge.rw_leafjudge_k11_texts_that_write_no_tree.Holds := by
  w_on; o_law; k_head; (case hw => w_witness2)
  k_fill
  refine K11.walk (l := PySem.Challenge.rw_leafjudge_k11_texts_that_write_no_tree) rfl rfl (fun w h Y => PySem.W.kIn_of Y) ?F
  case F =>
    intro w mg fa h KX G hmg
    refine' K11.all_mk KX G hmg ?a_values_asked ?l_values_asked ?c_values_asked ?k_values_asked ?a_is_leaf ?l_is_leaf ?c_is_leaf ?k_is_leaf ?a_shown_tree ?l_shown_tree ?c_shown_tree ?k_shown_tree ?a_read_tree ?l_read_tree ?c_read_tree ?k_read_tree ?a_read_part ?l_read_part ?c_read_part ?k_read_part ?a_read_question ?l_read_question ?c_read_question ?k_read_question ?a_word_at ?l_word_at ?c_word_at ?k_word_at ?a__law_mix ?l__law_mix ?c__law_mix ?k__law_mix ?a__law_cell_at ?l__law_cell_at ?c__law_cell_at ?k__law_cell_at ?a__law_drawn ?l__law_drawn ?c__law_drawn ?k__law_drawn ?a__law_names ?l__law_names ?c__law_names ?k__law_names ?a__law_form ?l__law_form ?c__law_form ?k__law_form ?a__law_pop ?l__law_pop ?c__law_pop ?k__law_pop ?a__law_asks ?l__law_asks ?c__law_asks ?k__law_asks ?a__law_tree ?l__law_tree ?c__law_tree ?k__law_tree ?a__law_words ?l__law_words ?c__law_words ?k__law_words ?a__law_some_of ?l__law_some_of ?c__law_some_of ?k__law_some_of ?a__law_wrong ?l__law_wrong ?c__law_wrong ?k__law_wrong ?a__law_spoilt ?l__law_spoilt ?c__law_spoilt ?k__law_spoilt ?a__law_right ?l__law_right ?c__law_right ?k__law_right ?a__law_chain_words ?l__law_chain_words ?c__law_chain_words ?k__law_chain_words ?a__law_bushy_words ?l__law_bushy_words ?c__law_bushy_words ?k__law_bushy_words ?a_law ?l_law ?c_law ?k_law ?e_KINDS ?e_SIDES ?e_MOST_DEEP ?e_MOST_KNOTS ?l_KINDS ?l_SIDES ?ax_JudgeError ?ax_TooMany ?ax_NoPlace ?ax_NoRow ?ax_NoSuch ?ax_NoLine ?ax_NoText ?ax_NoRule ?l_J ?ln_J ?R_J ?n2_J ?mb_J ?ic_JudgeError ?it_JudgeError ?is_JudgeError ?ic_TooMany ?it_TooMany ?is_TooMany ?ic_NoPlace ?it_NoPlace ?is_NoPlace ?ic_NoRow ?it_NoRow ?is_NoRow ?ic_NoSuch ?it_NoSuch ?is_NoSuch ?ic_NoLine ?it_NoLine ?is_NoLine ?ic_NoText ?it_NoText ?is_NoText ?ic_NoRule ?it_NoRule ?is_NoRule ?l_NoText ?sa_NoText ?at_NoText ?ln_NoText ?R_NoText ?n2_NoText ?l0_NoText ?c0_NoText ?k0_NoText ?f__getattribute___NoText ?f__getattr___NoText ?f__class___NoText ?m_object_NoText ?m_BaseException_NoText ?m_ValueError_NoText ?y_int_NoText ?y_str_NoText ?y_list_NoText ?y_tuple_NoText ?y_bool_NoText ?j_NoText ?q_NoText_TooMany ?q_NoText_NoPlace ?q_NoText_NoRow ?q_NoText_NoSuch ?q_NoText_NoLine ?q_NoText_NoRule ?z_ValueError ?z_bool ?z_int ?z_isinstance ?z_len ?z_list ?z_min ?z_range ?z_tuple
    (case a_values_asked => k_is)
    (case l_values_asked => k_is)
    (case c_values_asked => k_is)
    (case k_values_asked => k_is)
    (case a_is_leaf => k_is)
    (case l_is_leaf => k_is)
    (case c_is_leaf => k_is)
    (case k_is_leaf => k_is)
    (case a_shown_tree => k_is)
    (case l_shown_tree => k_is)
    (case c_shown_tree => k_is)
    (case k_shown_tree => k_is)
    (case a_read_tree => k_is)
    (case l_read_tree => k_is)
    (case c_read_tree => k_is)
    (case k_read_tree => k_is)
    (case a_read_part => k_is)
    (case l_read_part => k_is)
    (case c_read_part => k_is)
    (case k_read_part => k_is)
    (case a_read_question => k_is)
    (case l_read_question => k_is)
    (case c_read_question => k_is)
    (case k_read_question => k_is)
    (case a_word_at => k_is)
    (case l_word_at => k_is)
    (case c_word_at => k_is)
    (case k_word_at => k_is)
    (case a__law_mix => k_is)
    (case l__law_mix => k_is)
    (case c__law_mix => k_is)
    (case k__law_mix => k_is)
    (case a__law_cell_at => k_is)
    (case l__law_cell_at => k_is)
    (case c__law_cell_at => k_is)
    (case k__law_cell_at => k_is)
    (case a__law_drawn => k_is)
    (case l__law_drawn => k_is)
    (case c__law_drawn => k_is)
    (case k__law_drawn => k_is)
    (case a__law_names => k_is)
    (case l__law_names => k_is)
    (case c__law_names => k_is)
    (case k__law_names => k_is)
    (case a__law_form => k_is)
    (case l__law_form => k_is)
    (case c__law_form => k_is)
    (case k__law_form => k_is)
    (case a__law_pop => k_is)
    (case l__law_pop => k_is)
    (case c__law_pop => k_is)
    (case k__law_pop => k_is)
    (case a__law_asks => k_is)
    (case l__law_asks => k_is)
    (case c__law_asks => k_is)
    (case k__law_asks => k_is)
    (case a__law_tree => k_is)
    (case l__law_tree => k_is)
    (case c__law_tree => k_is)
    (case k__law_tree => k_is)
    (case a__law_words => k_is)
    (case l__law_words => k_is)
    (case c__law_words => k_is)
    (case k__law_words => k_is)
    (case a__law_some_of => k_is)
    (case l__law_some_of => k_is)
    (case c__law_some_of => k_is)
    (case k__law_some_of => k_is)
    (case a__law_wrong => k_is)
    (case l__law_wrong => k_is)
    (case c__law_wrong => k_is)
    (case k__law_wrong => k_is)
    (case a__law_spoilt => k_is)
    (case l__law_spoilt => k_is)
    (case c__law_spoilt => k_is)
    (case k__law_spoilt => k_is)
    (case a__law_right => k_is)
    (case l__law_right => k_is)
    (case c__law_right => k_is)
    (case k__law_right => k_is)
    (case a__law_chain_words => k_is)
    (case l__law_chain_words => k_is)
    (case c__law_chain_words => k_is)
    (case k__law_chain_words => k_is)
    (case a__law_bushy_words => k_is)
    (case l__law_bushy_words => k_is)
    (case c__law_bushy_words => k_is)
    (case k__law_bushy_words => k_is)
    (case a_law => k_is)
    (case l_law => k_is)
    (case c_law => k_is)
    (case k_law => k_is)
    (case e_KINDS => k_is)
    (case e_SIDES => k_is)
    (case e_MOST_DEEP => k_is)
    (case e_MOST_KNOTS => k_is)
    (case l_KINDS => k_is)
    (case l_SIDES => k_is)
    (case ax_JudgeError => k_is)
    (case ax_TooMany => k_is)
    (case ax_NoPlace => k_is)
    (case ax_NoRow => k_is)
    (case ax_NoSuch => k_is)
    (case ax_NoLine => k_is)
    (case ax_NoText => k_is)
    (case ax_NoRule => k_is)
    (case l_J => k_is)
    (case ln_J => k_is)
    (case R_J => first | rfl | decide | with_unfolding_all rfl)
    (case n2_J => k_is)
    (case mb_J => k_is)
    (case ic_JudgeError => k_is)
    (case it_JudgeError => k_is)
    (case is_JudgeError => k_is)
    (case ic_TooMany => k_is)
    (case it_TooMany => k_is)
    (case is_TooMany => k_is)
    (case ic_NoPlace => k_is)
    (case it_NoPlace => k_is)
    (case is_NoPlace => k_is)
    (case ic_NoRow => k_is)
    (case it_NoRow => k_is)
    (case is_NoRow => k_is)
    (case ic_NoSuch => k_is)
    (case it_NoSuch => k_is)
    (case is_NoSuch => k_is)
    (case ic_NoLine => k_is)
    (case it_NoLine => k_is)
    (case is_NoLine => k_is)
    (case ic_NoText => k_is)
    (case it_NoText => k_is)
    (case is_NoText => k_is)
    (case ic_NoRule => k_is)
    (case it_NoRule => k_is)
    (case is_NoRule => k_is)
    (case l_NoText => k_is)
    (case sa_NoText => k_is)
    (case at_NoText => k_is)
    (case ln_NoText => k_is)
    (case R_NoText => first | rfl | decide | with_unfolding_all rfl)
    (case n2_NoText => k_is)
    (case l0_NoText => k_is)
    (case c0_NoText => k_is)
    (case k0_NoText => k_is)
    (case f__getattribute___NoText => k_is)
    (case f__getattr___NoText => k_is)
    (case f__class___NoText => k_is)
    (case m_object_NoText => k_is)
    (case m_BaseException_NoText => k_is)
    (case m_ValueError_NoText => k_is)
    (case y_int_NoText => k_is)
    (case y_str_NoText => k_is)
    (case y_list_NoText => k_is)
    (case y_tuple_NoText => k_is)
    (case y_bool_NoText => k_is)
    (case j_NoText => k_is)
    (case q_NoText_TooMany => k_is)
    (case q_NoText_NoPlace => k_is)
    (case q_NoText_NoRow => k_is)
    (case q_NoText_NoSuch => k_is)
    (case q_NoText_NoLine => k_is)
    (case q_NoText_NoRule => k_is)
    (case z_ValueError => k_is)
    (case z_bool => k_is)
    (case z_int => k_is)
    (case z_isinstance => k_is)
    (case z_len => k_is)
    (case z_list => k_is)
    (case z_min => k_is)
    (case z_range => k_is)
    (case z_tuple => k_is)
