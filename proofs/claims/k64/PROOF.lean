import PyProof.Rows.All
import Wide.All
import OpenK.AllK
import Wide.FinOn
import Lean
import PyProof.EqAt
import PyProof.EqKinds
import PyProof.TupleCall
import PyProof.P3In
import PyProof.NeData
import PyProof.TupleKey
import PyProof.DictRoadsH
import KE.KItemsList
import PySem.Challenge.RW_leafjudge_k64_whole_trees_of_rules
set_option Elab.async false
set_option linter.all false
set_option maxRecDepth 100000
namespace L2
open PySem PySem.Spec PyProof.Rows

abbrev Key := Sum Int Str
def keyIs : Key → Value → Bool
  | .inl k, v => Value.isInt k v
  | .inr x, v => Value.isStrOf x v
def keyH (w : World) : Key → Int
  | .inl k => hashInt k
  | .inr x => hashStr w x
theorem keyIs_shape : ∀ {k : Key} {v : Value}, keyIs k v = true → (∃ i t, k = Sum.inl i ∧ v = Value.int i t) ∨ (∃ x t, k = Sum.inr x ∧ v = Value.str x t)
  | .inl i, v, h => by
    obtain ⟨t, e⟩ := Value.isInt_shape (k := i) (v := v) h
    exact .inl ⟨i, t, rfl, e⟩
  | .inr x, v, h => by
    obtain ⟨t, e⟩ := Value.isStrOf_shape (x := x) (v := v) h
    exact .inr ⟨x, t, rfl, e⟩
theorem keyIs_str (x : Str) (t : Tok) : keyIs (.inr x) (.str x t) = true := by simp [keyIs, Value.isStrOf]
theorem key_ll (a b : Int) : decide ((Sum.inl a : Key) = Sum.inl b) = (a == b) := by
  by_cases e : a = b
  · subst e; simp
  · have h : ¬ (Sum.inl a : Key) = Sum.inl b := fun q => e (Sum.inl.inj q)
    rw [decide_eq_false h]
    exact (beq_eq_false_iff_ne.mpr e).symm
theorem key_rr (a b : Str) : decide ((Sum.inr a : Key) = Sum.inr b) = decide (a = b) := by
  by_cases e : a = b
  · subst e; simp
  · have h : ¬ (Sum.inr a : Key) = Sum.inr b := fun q => e (Sum.inr.inj q)
    rw [decide_eq_false h, decide_eq_false e]
theorem key_lr (a : Int) (b : Str) : decide ((Sum.inl a : Key) = Sum.inr b) = false := decide_eq_false (fun q => nomatch q)
theorem key_rl (a : Str) (b : Int) : decide ((Sum.inr a : Key) = Sum.inl b) = false := decide_eq_false (fun q => nomatch q)

def mixKind (prog : Program) (w : World) : PySem.KeyKind prog w Key where
  is := keyIs
  hash := keyH w
  inj := fun v a b ha hb => by
    rcases keyIs_shape ha with ⟨i, t, rfl, rfl⟩ | ⟨x, t, rfl, rfl⟩
    · rcases keyIs_shape hb with ⟨j, u, rfl, e⟩ | ⟨y, u, rfl, e⟩
      · injection e with e1 _; rw [e1]
      · exact nomatch e
    · rcases keyIs_shape hb with ⟨j, u, rfl, e⟩ | ⟨y, u, rfl, e⟩
      · exact nomatch e
      · injection e with e1 _; rw [e1]
  byValue := fun k v h => by
    rcases keyIs_shape h with ⟨i, t, rfl, rfl⟩ | ⟨x, t, rfl, rfl⟩ <;> rfl
  pyHash := fun hv h => by
    rcases keyIs_shape hv with ⟨i, t, rfl, rfl⟩ | ⟨x, t, rfl, rfl⟩
    · exact wpAny_pyHash_int h
    · exact wpAny_pyHash_str h
  eqBool := fun hu hv h => by
    rcases keyIs_shape hu with ⟨i, t, rfl, rfl⟩ | ⟨x, t, rfl, rfl⟩
    · rcases keyIs_shape hv with ⟨j, u, rfl, rfl⟩ | ⟨y, u, rfl, rfl⟩
      · rw [key_ll] at h; exact wpAny_eqBool_int h
      · rw [key_lr] at h; exact SeqAt.EqAt.int_str i t y u _ _ _ _ h
    · rcases keyIs_shape hv with ⟨j, u, rfl, rfl⟩ | ⟨y, u, rfl, rfl⟩
      · rw [key_rl] at h; exact SeqAt.EqAt.str_int x t j u _ _ _ _ h
      · rw [key_rr] at h; exact wpAny_eqBool_str h
  «strs» := fun k x t v h => by
    rcases keyIs_shape h with ⟨i, u, rfl, e⟩ | ⟨y, u, rfl, e⟩
    · exact nomatch e
    · injection e with e1 _
      subst e1
      cases v <;> rfl

theorem mixKind_str (prog : Program) (w : World) (x : Str) (t : Tok) : (mixKind prog w).is (.inr x) (.str x t) = true := keyIs_str x t
end L2

namespace L2
open PySem PySem.Spec PyProof.Rows

inductive V where
  | non | bl (b : Bool) | int (i : Int) | str (x : Str) | byt (b : Array UInt8) | flt (b : UInt64) | ref (a : Addr) | ty (n : String)
  deriving DecidableEq

def RelV : V → Value → Prop
  | .non, u => u = Value.none
  | .bl b, u => u = Value.bool b
  | .int i, u => ∃ t, u = Value.int i t
  | .str x, u => ∃ t, u = Value.str x t
  | .byt b, u => ∃ t, u = Value.bytes b t
  | .flt b, u => ∃ t, u = Value.float b t
  | .ref a, u => u = Value.ref a
  | .ty n, u => u = Value.type n

abbrev Vals : List V → List Value → Prop := Paired RelV
theorem Vals.length {xs : List V} {us : List Value} (r : Vals xs us) : xs.length = us.length := Paired.length r
theorem Vals.get : ∀ {xs : List V} {us : List Value} {i : Nat} {x : V}, Vals xs us → xs[i]? = some x → ∃ u, us[i]? = some u ∧ RelV x u
  | _, _, _, _, .nil, e => by simp at e
  | _, _, 0, _, .cons r _, e => by simp at e; subst e; exact ⟨_, rfl, r⟩
  | _, _, i + 1, x, .cons _ t, e => by
    obtain ⟨u, h1, h2⟩ := Vals.get (i := i) (x := x) t (by simpa using e)
    exact ⟨u, by simpa using h1, h2⟩
theorem Vals.set {x : V} {u : Value} (r : RelV x u) : ∀ {xs : List V} {us : List Value} (i : Nat), Vals xs us → Vals (xs.set i x) (us.set i u)
  | _, _, _, .nil => .nil
  | _, _, 0, .cons _ t => .cons r t
  | _, _, i + 1, .cons q t => .cons q (Vals.set r i t)
theorem Vals.append : ∀ {xs ys : List V} {us ws : List Value}, Vals xs us → Vals ys ws → Vals (xs ++ ys) (us ++ ws)
  | _, _, _, _, .nil, s => s
  | _, _, _, _, .cons r t, s => .cons r (Vals.append t s)
theorem Vals.take : ∀ {xs : List V} {us : List Value} (n : Nat), Vals xs us → Vals (xs.take n) (us.take n)
  | _, _, 0, _ => .nil
  | _, _, _ + 1, .nil => .nil
  | _, _, n + 1, .cons r t => .cons r (Vals.take n t)
theorem Vals.drop : ∀ {xs : List V} {us : List Value} (n : Nat), Vals xs us → Vals (xs.drop n) (us.drop n)
  | _, _, 0, r => r
  | _, _, _ + 1, .nil => .nil
  | _, _, n + 1, .cons _ t => Vals.drop n t
def RelO : Option V → Option Value → Prop
  | some v, some u => RelV v u
  | none, none => True
  | _, _ => False
def KV {κ : Type} : List (κ × V) → List (κ × Value) → Prop := Paired fun (p : κ × V) (q : κ × Value) => p.1 = q.1 ∧ RelV p.2 q.2

def kV : Key → V
  | .inl i => .int i
  | .inr x => .str x

inductive HO where
  /-- a list -/
  | lst (xs : List V)
  /-- a tuple (never changes) -/
  | tup (xs : List V)
  /-- a dict whose keys are ints and texts; one whose keys are tuples of ints and texts (the empty one is both) -/
  | dK (kvs : List (Key × V)) | dT (kvs : List (List Key × V))
  /-- a set of ints: its members, its size -/
  | set (S : Int → Bool) (n : Nat)
  /-- an instance of the class at C, its dict at dx, its attributes -/
  | ins (C dx : Addr) (fs : List (Str × V))
  /-- the dict of the instance at x -/
  | own (x : Addr)
  /-- the dict of an exception -/
  | xd (fs : List (Str × V))
  /-- a bound method, f of x -/
  | met (f x : Addr)
  /-- a range object lo, lo + 1, .. below hi -/
  | rng (lo hi : Int)
  /-- a thing that is known to the object (the script; a dict while a loop walks it): read, never written while it is so -/
  | frz (o : Obj) (u : HO)
  /-- a code object's table -/
  | tbl (ps : Array Value)
  /-- any other thing, by what is true of its one object (a def of one's own: SetO a S n := HO.ext fun h => ..) -/
  | ext (φ : Heap → Prop)

abbrev Hp := Addr → Option HO
def upd (H : Hp) (a : Addr) (o : HO) : Hp := fun b => if b = a then some o else H b
theorem upd_same {H : Hp} {a : Addr} {o : HO} : upd H a o a = some o := by unfold upd; rw [if_pos rfl]
theorem upd_ne {H : Hp} {a b : Addr} {o : HO} (h : b ≠ a) : upd H a o b = H b := by unfold upd; rw [if_neg h]
theorem upd_upd {H : Hp} {a : Addr} {o u : HO} : upd (upd H a o) a u = upd H a u := by
  funext b; unfold upd; split <;> rfl
theorem ne_of_none {H : Hp} {a b : Addr} {o : HO} (h : H a = some o) (h' : H b = none) : a ≠ b := by
  intro e; subst e; rw [h] at h'; cases h'

section
variable (P : Program) (w : World)
def TupN (h : Heap) (a : Addr) (items : Array Value) : Prop := ∃ o, h.get? a = some o ∧ o.cls = .type "tuple" ∧ ∃ n, o.data = .seq items n ∧ o.dict = none
theorem TupN.tup {h : Heap} {a : Addr} {items : Array Value} (x : TupN h a items) : IsTup h a items := let ⟨o, e, c, n, d, _⟩ := x; ⟨o, e, c, n, d⟩
theorem TupN.lt {h : Heap} {a : Addr} {items : Array Value} (x : TupN h a items) : a < h.objs.size := x.tup.lt
theorem TupN.new (h : Heap) (items : Array Value) : TupN (h.push { cls := .type "tuple", data := .seq items }) h.objs.size items := ⟨_, Heap.get?_push_size _ rfl, rfl, _, rfl, rfl⟩
def ObjOk (H : Hp) (h : Heap) (a : Addr) : HO → Prop
  | .lst xs => xs.length ≤ sizeLine ∧ ∃ (its : List Value) (n : Nat), Vals xs its ∧ h.get? a = some { cls := .type "list", data := .seq its.toArray n }
  | .tup xs => xs.length ≤ sizeLine ∧ ∃ its : List Value, Vals xs its ∧ TupN h a its.toArray
  | .dK kvs => kvs.length ≤ sizeLine ∧ (a == sysModules) = false ∧ ∃ vs, KV kvs vs ∧ h.DictOf (mixKind P w) a vs
  | .dT kvs => kvs.length ≤ sizeLine ∧ (a == sysModules) = false ∧ ∃ xs : List (List Key × Addr × Value),
      Paired (fun (p : List Key × V) (q : List Key × Addr × Value) => p.1 = q.1 ∧ H q.2.1 = some (.tup (p.1.map kV)) ∧ RelV p.2 q.2.2) kvs xs ∧
      ∃ o es ep, h.get? a = some o ∧ o.ExactDict ∧ o.data = .dict es ep ∧ es.toList = xs.map (entryOfKey (tupleKind (mixKind P w))) ∧ (xs.map (·.1)).Nodup
  | .set S n => h.SetOf (intKind P w) a S n
  | .ins C dx fs => H dx = some (.own a) ∧ fs.length ≤ 1000 ∧ dx ≠ a ∧ h.get? a = some (PySem.W.instObj C dx) ∧
      ∃ mA, h.Ns1 dx mA ∧ (∀ f, RelO (fs.lookup f) (mA f)) ∧ PySem.Within mA (fs.map (·.1))
  | .own _ => ∃ o, h.get? a = some o
  | .xd fs => ∃ mA, h.Ns1 a mA ∧ ∀ f, RelO (fs.lookup f) (mA f)
  | .rng lo hi => ∃ t u v, h.get? a = some { cls := .type "range", data := .fields #[.int lo t, .int hi u, .int 1 v] }
  | .frz o u => h.get? a = some o ∧ ObjOk H h a u
  | .tbl ps => h.get? a = some { cls := .none, data := .fields ps }
  | .met f x => h.get? a = some (PySem.W.methodObj (.ref f) (.ref x))
  | .ext φ => φ h ∧ (∃ o, h.get? a = some o) ∧ ∀ h1 h2 : Heap, φ h1 → (∀ o, h1.get? a = some o → h2.get? a = some o) → φ h2
def HOk (H : Hp) (h : Heap) : Prop := ∀ a o, H a = some o → ObjOk P w H h a o
end

section
variable {P : Program} {w : World} {H H' : Hp} {h h' : Heap} {a : Addr} {o : HO}
theorem ObjOk.lt (x : ObjOk P w H h a o) : a < h.objs.size := by
  cases o with
  | lst xs => obtain ⟨_, _, _, _, e⟩ := x; exact Heap.lt_size e
  | tup xs => obtain ⟨_, _, _, p⟩ := x; exact p.lt
  | dK kvs => obtain ⟨_, _, _, _, o, _, _, e, _⟩ := x; exact Heap.lt_size e
  | dT kvs => obtain ⟨_, _, _, _, o, _, _, e, _⟩ := x; exact Heap.lt_size e
  | set S n => obtain ⟨o, _, _, _, e, _⟩ := x; exact Heap.lt_size e
  | ins C dx fs => obtain ⟨_, _, _, e, _⟩ := x; exact Heap.lt_size e
  | own y => obtain ⟨_, e⟩ := x; exact Heap.lt_size e
  | xd fs => obtain ⟨_, ⟨_, _, _, e, _⟩, _⟩ := x; exact Heap.lt_size e
  | rng lo hi => obtain ⟨_, _, _, e⟩ := x; exact Heap.lt_size e
  | frz ob u => obtain ⟨e, _⟩ := x; exact Heap.lt_size e
  | tbl ps => exact Heap.lt_size (show h.get? a = some _ from x)
  | met f y => exact Heap.lt_size (show h.get? a = some _ from x)
  | ext φ => obtain ⟨_, ⟨_, e⟩, _⟩ := x; exact Heap.lt_size e
theorem Paired.mapP {α β : Type} {F G : α → β → Prop} : ∀ {l₁ : List α} {l₂ : List β}, Paired F l₁ l₂ → (∀ a b, F a b → G a b) → Paired G l₁ l₂
  | _, _, .nil, _ => .nil
  | _, _, .cons r t, f => .cons (f _ _ r) (Paired.mapP t f)
theorem ObjOk.stay (x : ObjOk P w H h a o) (k : ∀ b u, (b = a ∨ H b = some (.own a)) → h.get? b = some u → h'.get? b = some u)
    (ho : ∀ b, H b = some (.own a) → H' b = some (.own a)) (ht : ∀ b xs, H b = some (.tup xs) → H' b = some (.tup xs)) : ObjOk P w H' h' a o := by
  induction o with
  | lst xs => obtain ⟨z, its, n, r, e⟩ := x; exact ⟨z, its, n, r, k _ _ (.inl rfl) e⟩
  | tup xs => obtain ⟨z, its, r, ob, e, c⟩ := x; exact ⟨z, its, r, ob, k _ _ (.inl rfl) e, c⟩
  | dK kvs => obtain ⟨z, y, vs, r, ob, es, ep, e, c⟩ := x; exact ⟨z, y, vs, r, ob, es, ep, k _ _ (.inl rfl) e, c⟩
  | dT kvs =>
    obtain ⟨z, y, xs, r, ob, es, ep, e, c⟩ := x
    exact ⟨z, y, xs, Paired.mapP r fun p q z => ⟨z.1, ht _ _ z.2.1, z.2.2⟩, ob, es, ep, k _ _ (.inl rfl) e, c⟩
  | set S n => obtain ⟨ob, es, ep, t, e, c⟩ := x; exact ⟨ob, es, ep, t, k _ _ (.inl rfl) e, c⟩
  | ins C dx fs =>
    obtain ⟨d, z, ne, e, mA, ⟨od, es, ep, e2, c⟩, r⟩ := x
    exact ⟨ho _ d, z, ne, k _ _ (.inl rfl) e, mA, ⟨od, es, ep, k _ _ (.inr d) e2, c⟩, r⟩
  | own y => obtain ⟨ob, e⟩ := x; exact ⟨ob, k _ _ (.inl rfl) e⟩
  | xd fs => obtain ⟨mA, ⟨od, es, ep, e, c⟩, r⟩ := x; exact ⟨mA, ⟨od, es, ep, k _ _ (.inl rfl) e, c⟩, r⟩
  | rng lo hi => obtain ⟨t, u, v, e⟩ := x; exact ⟨t, u, v, k _ _ (.inl rfl) e⟩
  | frz ob u ih => obtain ⟨e, q⟩ := x; exact ⟨k _ _ (.inl rfl) e, ih q⟩
  | tbl ps =>
    have e : h.get? a = some { cls := .none, data := .fields ps } := x
    show h'.get? a = some { cls := .none, data := .fields ps }
    exact k a _ (.inl rfl) e
  | met f y =>
    have e : h.get? a = some (PySem.W.methodObj (.ref f) (.ref y)) := x
    show h'.get? a = some (PySem.W.methodObj (.ref f) (.ref y))
    exact k a _ (.inl rfl) e
  | ext φ => obtain ⟨p, ⟨o, e⟩, st⟩ := x; exact ⟨st _ _ p fun o q => k _ _ (.inl rfl) q, ⟨o, k _ _ (.inl rfl) e⟩, st⟩
theorem HOk.lt (x : HOk P w H h) (e : H a = some o) : a < h.objs.size := (x a o e).lt
theorem HOk.fresh (x : HOk P w H h) (e : h.objs.size ≤ a) : H a = none := by
  cases q : H a with
  | none => rfl
  | some u => exact absurd (Nat.lt_of_lt_of_le (x.lt q) e) (Nat.lt_irrefl _)
theorem HOk.kept (x : HOk P w H h) (k : ∀ b u, h.get? b = some u → h'.get? b = some u) : HOk P w H h' := fun a o e =>
  (x a o e).stay (fun b u _ q => k b u q) (fun _ q => q) fun _ _ q => q
theorem HOk.laid (x : HOk P w H h) (k : ∀ b u, h.get? b = some u → h'.get? b = some u) (hp : h.objs.size ≤ a) (new : ObjOk P w (upd H a o) h' a o) : HOk P w (upd H a o) h' := fun b u e => by
  have hn := x.fresh hp
  by_cases hb : b = a
  · subst hb; rw [upd_same] at e; cases e; exact new
  · rw [upd_ne hb] at e
    exact (x b u e).stay (fun c v _ q => k c v q) (fun c q => by rw [upd_ne (ne_of_none q hn)]; exact q) fun c xs q => by rw [upd_ne (ne_of_none q hn)]; exact q
end

def Rd (H : Hp) (a : Addr) (u : HO) : Prop := H a = some u ∨ ∃ o, H a = some (.frz o u)
theorem Rd.of {H : Hp} {a : Addr} {u : HO} (h : H a = some u) : Rd H a u := .inl h
theorem Rd.ok {P : Program} {w : World} {H : Hp} {h : Heap} {a : Addr} {u : HO} (r : Rd H a u) (x : HOk P w H h) : ObjOk P w H h a u := by
  rcases r with r | ⟨o, r⟩
  · exact x a u r
  · obtain ⟨_, q⟩ := x a _ r
    exact q
def Mut : Option HO → Prop
  | some (.lst _) => True
  | some (.dK _) => True
  | some (.dT _) => True
  | some (.set _ _) => True
  | some (.ins _ _ _) => True
  | some (.ext _) => True
  | _ => False
section
variable {P : Program} {w : World} {H : Hp} {h h' : Heap} {x e : Addr} {o' : HO}
theorem HOk.write (ok : HOk P w H h) (mu : Mut (H x)) (he : e = x ∨ H e = some (.own x)) (k : ∀ b u, b ≠ e → h.get? b = some u → h'.get? b = some u) (heo : ∃ u, h'.get? e = some u)
    (new : ObjOk P w (upd H x o') h' x o') : HOk P w (upd H x o') h' := fun b u q => by
  have nown : ∀ c y, H c = some (.own y) → c ≠ x := fun c y r z => by subst z; rw [r] at mu; exact mu
  have ntup : ∀ c xs, H c = some (.tup xs) → c ≠ x := fun c xs r z => by subst z; rw [r] at mu; exact mu
  by_cases hb : b = x
  · subst hb; rw [upd_same] at q; cases q; exact new
  · rw [upd_ne hb] at q
    by_cases hbe : b = e
    · have q' : H b = some (.own x) := by
        rcases he with z | z
        · exact absurd (hbe.trans z) hb
        · rw [hbe]; exact z
      rw [q] at q'; cases q'
      obtain ⟨v, hv⟩ := heo
      exact ⟨v, by rw [hbe]; exact hv⟩
    · refine (ok b u q).stay (fun c v hc r => k c v ?_ r) (fun c r => by rw [upd_ne (nown c b r)]; exact r) fun c xs r => by rw [upd_ne (ntup c xs r)]; exact r
      rcases hc with rfl | hc
      · exact hbe
      · rintro rfl
        rcases he with z | z
        · exact nown c b hc z
        · rw [hc] at z; cases z; exact hb rfl
end

structure Un (fs ex : List Addr) (H H' : Hp) (h h' : Heap) : Prop where
  keep : ∀ b o, h.get? b = some o → H b = none → b ∉ fs → b ∉ ex → h'.get? b = some o
  slot : ∀ b o, h.get? b = some o → H b = none → b ∈ fs → b ∉ ex → ∃ sl, h'.get? b = some { o with slots := sl }
  free : ∀ b o, h.get? b = some o → H b = none → b ∉ ex → H' b = none
  there : ∀ b o, h.get? b = some o → b ∉ ex → ∃ o', h'.get? b = some o'
  tups : ∀ b xs, H b = some (.tup xs) → H' b = some (.tup xs)
  frzs : ∀ b o u, H b = some (.frz o u) → H' b = some (.frz o u)
  tbls : ∀ b ps, H b = some (.tbl ps) → ∃ more, H' b = some (.tbl (ps ++ more))
section
variable {fs fs' ex ex' : List Addr} {H H1 H2 : Hp} {h h1 h2 h' : Heap} {a x e : Addr} {o : HO}
theorem Un.any (u : Un fs ex H H1 h h1) {b : Addr} {ob : Obj} (q : h.get? b = some ob) (n : H b = none) (hx : b ∉ ex) : ∃ sl, h1.get? b = some { ob with slots := sl } := by
  by_cases hb : b ∈ fs
  · exact u.slot b ob q n hb hx
  · exact ⟨ob.slots, u.keep b ob q n hb hx⟩
theorem Un.trans (a : Un fs ex H H1 h h1) (b : Un fs ex H1 H2 h1 h2) : Un fs ex H H2 h h2 where
  keep := fun c ob q n hc hx => b.keep c ob (a.keep c ob q n hc hx) (a.free c ob q n hx) hc hx
  slot := fun c ob q n hc hx => by
    obtain ⟨sl, e1⟩ := a.slot c ob q n hc hx
    obtain ⟨sl', e2⟩ := b.slot c _ e1 (a.free c ob q n hx) hc hx
    exact ⟨sl', e2⟩
  free := fun c ob q n hx => by
    obtain ⟨o', e1⟩ := a.there c ob q hx
    exact b.free c o' e1 (a.free c ob q n hx) hx
  there := fun c ob q hx => by
    obtain ⟨o', e1⟩ := a.there c ob q hx
    exact b.there c o' e1 hx
  tups := fun c xs q => b.tups c xs (a.tups c xs q)
  frzs := fun c ob xs q => b.frzs c ob xs (a.frzs c ob xs q)
  tbls := fun c ps q => by
    obtain ⟨m1, e1⟩ := a.tbls c ps q
    obtain ⟨m2, e2⟩ := b.tbls c _ e1
    exact ⟨m1 ++ m2, by rw [e2, Array.append_assoc]⟩
theorem Un.kept (k : ∀ b u, h.get? b = some u → h'.get? b = some u) : Un fs ex H H h h' :=
  ⟨fun b ob q _ _ _ => k b ob q, fun b ob q _ _ _ => ⟨ob.slots, k b ob q⟩, fun _ _ _ n _ => n, fun b ob q _ => ⟨ob, k b ob q⟩, fun _ _ q => q, fun _ _ _ q => q, fun _ ps q => ⟨#[], by rw [q]; simp⟩⟩
theorem Un.refl : Un fs ex H H h h := Un.kept fun _ _ q => q
theorem Un.laid (k : ∀ b u, h.get? b = some u → h'.get? b = some u) (hp : h.objs.size ≤ a) (hn : H a = none) : Un fs ex H (upd H a o) h h' where
  keep := fun b u q _ _ _ => k b u q
  slot := fun b u q _ _ _ => ⟨u.slots, k b u q⟩
  free := fun b u q n _ => by rw [upd_ne (Nat.ne_of_lt (Nat.lt_of_lt_of_le (Heap.lt_size q) hp))]; exact n
  there := fun b u q _ => ⟨u, k b u q⟩
  tups := fun b xs q => by rw [upd_ne (ne_of_none q hn)]; exact q
  frzs := fun b u xs q => by rw [upd_ne (ne_of_none q hn)]; exact q
  tbls := fun b ps q => ⟨#[], by rw [upd_ne (ne_of_none q hn), q]; simp⟩
theorem Un.write (mu : Mut (H x)) (he : e = x ∨ H e = some (.own x)) (k : ∀ b u, b ≠ e → h.get? b = some u → h'.get? b = some u) (heo : ∃ u, h'.get? e = some u) : Un fs ex H (upd H x o) h h' := by
  have hx : ∀ b, H b = none → b ≠ x := fun b n z => by subst z; rw [n] at mu; exact mu
  have hb : ∀ b, H b = none → b ≠ e := fun b n z => by
    subst z
    rcases he with r | r
    · exact hx b n r
    · rw [n] at r; cases r
  have hm : ∀ b u, H b = some u → ¬ Mut (some u) → b ≠ x := fun b u q nm z => by subst z; rw [q] at mu; exact nm mu
  refine ⟨fun b u q n _ _ => k b u (hb b n) q, fun b u q n _ _ => ⟨u.slots, k b u (hb b n) q⟩, fun b u q n _ => by rw [upd_ne (hx b n)]; exact n, fun b u q _ => ?_,
    fun b xs q => by rw [upd_ne (hm b _ q fun z => z)]; exact q, fun b u xs q => by rw [upd_ne (hm b _ q fun z => z)]; exact q, fun b ps q => ⟨#[], by rw [upd_ne (hm b _ q fun z => z), q]; simp⟩⟩
  by_cases hbe : b = e
  · subst hbe; exact heo
  · exact ⟨u, k b u hbe q⟩
theorem Un.mono (u : Un fs ex H H1 h h1) (hs : ∀ b ∈ fs, b ∈ fs') (hx : ∀ b ∈ ex, b ∈ ex') : Un fs' ex' H H1 h h1 :=
  ⟨fun b ob q n hb he => u.keep b ob q n (fun z => hb (hs b z)) fun z => he (hx b z), fun _ _ q n _ he => u.any q n fun z => he (hx _ z), fun b ob q n he => u.free b ob q n fun z => he (hx b z), fun b ob q he => u.there b ob q fun z => he (hx b z), u.tups, u.frzs, u.tbls⟩
end

def trk (h : Heap) (H : Hp) : List Addr := (List.range h.objs.size).filter fun a => (H a).isSome
def hidT (h : Heap) (H : Hp) : Heap := PySem.W.hideAll h (trk h H)
theorem hidT_size (h : Heap) (H : Hp) : (hidT h H).objs.size = h.objs.size := PySem.W.hideAll_size _ _
theorem hidT_get {h : Heap} {H : Hp} {b : Addr} {o : Obj} (e : h.get? b = some o) (n : H b = none) : (hidT h H).get? b = some o :=
  PySem.W.hideAll_get _ e fun hm => by
    have q : (H b).isSome = true := (List.mem_filter.mp hm).2
    rw [n] at q; simp at q
theorem of_hidT {h : Heap} {H : Hp} {b : Addr} {o : Obj} (e : (hidT h H).get? b = some o) : h.get? b = some o ∧ H b = none := by
  have e' : h.get? b = some o := PySem.W.of_hideAll (trk h H) e
  refine ⟨e', ?_⟩
  cases q : H b with
  | none => rfl
  | some x =>
    have hm : b ∈ trk h H := List.mem_filter.mpr ⟨List.mem_range.mpr (Heap.lt_size e'), by simp [q]⟩
    have z : (hidT h H).get? b = none := PySem.W.hideAll_none (trk h H) hm
    rw [z] at e; cases e

def allNews (g h : Heap) (L : Addr) : List (Addr × Obj) := (List.range h.objs.size).filterMap fun a => if a = L ∨ (g.get? a).isSome = true then none else (h.get? a).map fun o => (a, o)
def rest (g h : Heap) (L d : Addr) : List (Addr × Obj) := (allNews g h L).filter fun p => decide (p.1 ≠ d)
end L2

namespace L2
open PySem PySem.Spec PyProof.Rows

structure Mod (K : PySem.W.Frag) (mg : Str → Option Value) (base : Heap) : Prop where
  kin : K.In base
  glob : base.Ns mainGlobals mg
  blt : ∃ mb, base.Ns builtinsNs mb ∧ ∀ x : Str, x ≠ "__name__" → mb x = bootBuiltins x
  nolimit : base.NoLimit

structure Cx where
  prog : Program
  w : World
  K : PySem.W.Frag
  mg : Str → Option Value
  base : Heap
  A : Around
  N : List Str
  s₀ : Shared
  H₀ : Hp
  env : Env
  outer : List Env
  stack : List Env
  ex : List Addr
  fn : Str → Bool
  calm : Bool
  pn : List (Addr × Obj)
  xe : Value → Shared → Prop
def frs (l : List Env) : List Addr := l.filterMap (·.frame)
abbrev Cx.fs (X : Cx) : List Addr := frs X.outer

def Vis (sc : Scope) (x : Str) : Prop := sc.names.lookup x = some .local ∨ sc.names.lookup x = some .cell ∨ sc.names.lookup x = some .free
def Loc (sc : Scope) (x : Str) : Prop := sc.names.lookup x = some .local ∨ sc.names.lookup x = some .cell
def Look (env : Env) (h : Heap) (m : Str → Option Value) (x : Str) (u : Value) : Prop :=
  (env.kindOf x = some .local ∧ m x = some u) ∨ ((env.kindOf x = some .cell ∨ env.kindOf x = some .free) ∧ ∃ c, env.cells.lookup x = some c ∧ h.IsCell c (some u))

structure Cx.Ok (X : Cx) : Prop where
  mod : Mod X.K X.mg X.base
  kind : X.env.scope.kind = .function
  glob : X.env.globals = mainGlobals
  blt : X.env.builtins = builtinsNs
  above : X.s₀.heap.objs.size ≤ X.env.locals
  inj : ∀ x y c, X.env.cells.lookup x = some c → X.env.cells.lookup y = some c → x = y
  has : ∀ x, (X.env.kindOf x = some .cell ∨ X.env.kindOf x = some .free) → ∃ c, X.env.cells.lookup x = some c
  cab : ∀ x c, X.fn x = true → X.env.cells.lookup x = some c → X.s₀.heap.objs.size ≤ c
  hd : X.calm = true → X.A.handled = none
  frames : X.A.frames = some X.stack
  stk : X.stack = X.outer ∨ (X.stack = X.env :: X.outer ∧ X.env.frame = some X.env.locals)
  exf : ∀ b ∈ X.ex, b ≠ X.env.locals ∧ ∀ x c, X.env.cells.lookup x = some c → c ≠ b
  bs : ∀ b o, X.base.get? b = some o → X.s₀.heap.get? b = some o ∧ X.H₀ b = none
  bsz : X.base.objs.size ≤ X.s₀.heap.objs.size
  noex : ∀ b o, X.base.get? b = some o → b ∉ X.ex
  exfs : ∀ b ∈ X.ex, b ∉ X.fs
  funs : X.s₀.heap.FunFrames X.base X.outer
  frf : ∀ b ∈ X.fs, X.H₀ b = none

structure Inv (X : Cx) (pins : List (Addr × Obj)) (σ : List (Option V)) (H : Hp) (s : Shared) : Prop where
  ok : X.Ok
  os : s.os = X.s₀.os
  bare : AllBare s.gens
  base : Un X.fs X.ex X.H₀ H X.s₀.heap s.heap
  loc : ∃ m, s.heap.Ns X.env.locals m ∧ ∀ (i : Nat) (x : Str) (v : V), X.N[i]? = some x → σ[i]? = some (some v) → Vis X.env.scope x → ∃ u, RelV v u ∧ Look X.env s.heap m x u
  cell : ∀ x c, X.env.cells.lookup x = some c → ∃ v, s.heap.IsCell c v
  free : H X.env.locals = none
  freeC : ∀ x c, X.env.cells.lookup x = some c → H c = none
  pin : ∀ p ∈ X.pn ++ pins, s.heap.get? p.1 = some p.2 ∧ H p.1 = none ∧ p.1 ≠ X.env.locals ∧ p.1 ∉ X.fs ∧ ∀ v, p.2.data ≠ .cell v
  hok : HOk X.prog X.w H s.heap
  len : σ.length = X.N.length

section
variable {X : Cx} {pins : List (Addr × Obj)} {σ : List (Option V)} {H H' : Hp} {s : Shared} {h' : Heap}

theorem Cx.Ok.nofr (ok : X.Ok) {b : Addr} {o : Obj} (e : X.base.get? b = some o) : b ∉ X.fs := fun hb => by
  have := (ok.funs.mem hb).1
  rw [e] at this; cases this
theorem Inv.bs (I : Inv X pins σ H s) : ∀ b o, X.base.get? b = some o → s.heap.get? b = some o ∧ H b = none := fun b o e =>
  ⟨I.base.keep b o (I.ok.bs b o e).1 (I.ok.bs b o e).2 (I.ok.nofr e) (I.ok.noex b o e), I.base.free b o (I.ok.bs b o e).1 (I.ok.bs b o e).2 (I.ok.noex b o e)⟩
theorem Inv.bk (I : Inv X pins σ H s) : ∀ b o, X.base.get? b = some o → s.heap.get? b = some o := fun b o e => (I.bs b o e).1
theorem Inv.mod (I : Inv X pins σ H s) : Mod X.K X.mg X.base := I.ok.mod
theorem Inv.kIn (I : Inv X pins σ H s) : X.K.In s.heap := I.ok.mod.kin.keeps I.bk
theorem Inv.nolimit (I : Inv X pins σ H s) : s.heap.NoLimit := I.ok.mod.nolimit.keeps I.bk
theorem Inv.fr (I : Inv X pins σ H s) : ∃ m, Fr X.base X.env.locals s.heap m :=
  let ⟨m, hn, _⟩ := I.loc
  ⟨m, hn, I.bk, Nat.le_trans I.ok.bsz I.ok.above⟩
theorem Inv.lt (I : Inv X pins σ H s) : X.env.locals < s.heap.objs.size := let ⟨_, hn, _⟩ := I.loc; hn.lt
theorem Inv.sz (I : Inv X pins σ H s) : X.s₀.heap.objs.size ≤ s.heap.objs.size := Nat.le_trans I.ok.above (Nat.le_of_lt I.lt)
theorem Inv.nofs (I : Inv X pins σ H s) {a : Addr} (h : s.heap.objs.size ≤ a) : a ∉ X.fs := fun hb => by
  obtain ⟨_, o, ho, _⟩ := I.ok.funs.mem hb
  exact absurd (Nat.lt_of_lt_of_le (Heap.lt_size ho) (Nat.le_trans I.sz h)) (Nat.lt_irrefl _)
theorem Inv.cne (I : Inv X pins σ H s) : ∀ x c, X.env.cells.lookup x = some c → c ≠ X.env.locals := fun x c e z => by
  obtain ⟨v, o, ho, hd⟩ := I.cell x c e
  obtain ⟨m, ⟨o', es, ep, ho', hd', _⟩, _⟩ := I.loc
  rw [z, ho'] at ho; cases ho; rw [hd'] at hd; cases hd
theorem Inv.funs (I : Inv X pins σ H s) : s.heap.FunFrames X.base X.outer := by
  have all : ∀ (l : List Env), (∀ b ∈ frs l, b ∈ X.fs) → X.s₀.heap.FunFrames X.base l → s.heap.FunFrames X.base l := by
    intro l
    induction l with
    | nil => intro _ _; trivial
    | cons env r ih =>
      intro hs hl
      obtain ⟨hk, ⟨L, o, hf, hn, ho, hd⟩, hr⟩ := hl
      have hL : L ∈ X.fs := hs L (by unfold frs; rw [List.filterMap_cons, hf]; exact List.mem_cons_self)
      obtain ⟨sl, e⟩ := I.base.slot L o ho (I.ok.frf L hL) hL fun z => I.ok.exfs L z hL
      exact ⟨hk, ⟨L, _, hf, hn, e, hd⟩, ih (fun b hb => hs b (by unfold frs; rw [List.filterMap_cons, hf]; exact List.mem_cons_of_mem _ hb)) hr⟩
  exact all X.outer (fun _ hb => hb) I.ok.funs

theorem Inv.stack (I : Inv X pins σ H s) : s.heap.FunFrames X.base X.stack := by
  rcases I.ok.stk with e | ⟨e, hf⟩
  · rw [e]; exact I.funs
  · rw [e]
    obtain ⟨m, hn, _⟩ := I.loc
    refine .cons (by rw [I.ok.kind]; decide) hf hn ?_ I.funs
    exact Heap.get?_none_of_le (Nat.le_trans I.ok.bsz I.ok.above)
theorem Inv.stkSub (I : Inv X pins σ H s) : ∀ b ∈ frs X.stack, b ∈ X.env.locals :: X.fs := fun b hb => by
  rcases I.ok.stk with e | ⟨e, hf⟩
  · rw [e] at hb; exact List.mem_cons_of_mem _ hb
  · rw [e] at hb
    unfold frs at hb
    rw [List.filterMap_cons, hf] at hb
    exact hb
theorem Inv.stkFree (I : Inv X pins σ H s) : ∀ b ∈ frs X.stack, H b = none := fun b hb => by
  rcases List.mem_cons.mp (I.stkSub b hb) with e | hb
  · rw [e]; exact I.free
  · obtain ⟨_, o, ho, _⟩ := I.ok.funs.mem hb
    exact I.base.free b o ho (I.ok.frf b hb) fun z => I.ok.exfs b z hb

theorem Inv.step {g' : Array GenState} {t' : Nat} {d' : Drawn} {ch : List Addr} (I : Inv X pins σ H s)
    (hch : ∀ b ∈ ch, (b ∈ X.ex ∨ X.s₀.heap.objs.size ≤ b) ∧ b ≠ X.env.locals ∧ (∀ x c, X.env.cells.lookup x = some c → c ≠ b) ∧ ∀ p ∈ X.pn ++ pins, p.1 ≠ b)
    (keep : ∀ b o, b ≠ X.env.locals → b ∉ X.fs → b ∉ ch → s.heap.get? b = some o → H b = none → h'.get? b = some o)
    (slot : ∀ b o, b ≠ X.env.locals → b ∈ X.fs → b ∉ ch → s.heap.get? b = some o → H b = none → ∃ sl, h'.get? b = some { o with slots := sl }) (free : ∀ b o, b ∉ ch → s.heap.get? b = some o → H b = none → H' b = none)
    (there : ∀ b o, b ∉ ch → s.heap.get? b = some o → ∃ o', h'.get? b = some o')
    (tups : ∀ b xs, H b = some (.tup xs) → H' b = some (.tup xs)) (frzs : ∀ b o u, H b = some (.frz o u) → H' b = some (.frz o u)) (tbls : ∀ b ps, H b = some (.tbl ps) → ∃ more, H' b = some (.tbl (ps ++ more)))
    (ns : ∀ m, s.heap.Ns X.env.locals m → h'.Ns X.env.locals m) (hok : HOk X.prog X.w H' h') (hg : AllBare g') :
    Inv X pins σ H' { s with heap := h', gens := g', drawn := d', toks := t' } := by
  have neL : ∀ b o, X.s₀.heap.get? b = some o → b ≠ X.env.locals := fun b o e => Nat.ne_of_lt (Nat.lt_of_lt_of_le (Heap.lt_size e) I.ok.above)
  have neC : ∀ b o, X.s₀.heap.get? b = some o → b ∉ X.ex → b ∉ ch := fun b o e hx hb => by
    rcases (hch b hb).1 with z | z
    · exact hx z
    · exact absurd (Nat.lt_of_lt_of_le (Heap.lt_size e) z) (Nat.lt_irrefl _)
  have cellK : ∀ x c, X.env.cells.lookup x = some c → ∀ v, s.heap.IsCell c v → h'.IsCell c v := fun x c e v ⟨o, ho, hd⟩ => by
    have nch : c ∉ ch := fun z => (hch c z).2.2.1 x c e rfl
    by_cases hc : c ∈ X.fs
    · obtain ⟨sl, q⟩ := slot c o (I.cne x c e) hc nch ho (I.freeC x c e)
      exact ⟨_, q, hd⟩
    · exact ⟨o, keep c o (I.cne x c e) hc nch ho (I.freeC x c e), hd⟩
  refine ⟨I.ok, I.os, hg, ⟨fun b o e n hb hx => ?_, fun b o e n hb hx => ?_, fun b o e n hx => ?_, fun b o e hx => ?_, fun b xs e => tups b xs (I.base.tups b xs e), fun b o xs e => frzs b o xs (I.base.frzs b o xs e), fun b ps e => ?_⟩, ?_, fun x c e => ?_, ?_, fun x c e => ?_, fun p hp => ?_, hok, I.len⟩
  · exact keep b o (neL b o e) hb (neC b o e hx) (I.base.keep b o e n hb hx) (I.base.free b o e n hx)
  · obtain ⟨sl, e1⟩ := I.base.slot b o e n hb hx
    obtain ⟨sl', e2⟩ := slot b _ (neL b o e) hb (neC b o e hx) e1 (I.base.free b o e n hx)
    exact ⟨sl', e2⟩
  · obtain ⟨o', e1⟩ := I.base.there b o e hx
    exact free b o' (neC b o e hx) e1 (I.base.free b o e n hx)
  · obtain ⟨o', e1⟩ := I.base.there b o e hx
    exact there b o' (neC b o e hx) e1
  · obtain ⟨m1, e1⟩ := I.base.tbls b ps e
    obtain ⟨m2, e2⟩ := tbls b _ e1
    exact ⟨m1 ++ m2, by rw [e2, Array.append_assoc]⟩
  · obtain ⟨m, hn, hl⟩ := I.loc
    refine ⟨m, ns m hn, fun i x v e1 e2 e3 => ?_⟩
    obtain ⟨u, r, l⟩ := hl i x v e1 e2 e3
    refine ⟨u, r, ?_⟩
    rcases l with l | ⟨k, c, e, z⟩
    · exact .inl l
    · exact .inr ⟨k, c, e, cellK x c e _ z⟩
  · obtain ⟨v, z⟩ := I.cell x c e
    exact ⟨v, cellK x c e v z⟩
  · obtain ⟨m, ⟨o, _, _, ho, _⟩, _⟩ := I.loc
    exact free _ o (fun z => (hch _ z).2.1 rfl) ho I.free
  · obtain ⟨v, o, ho, hd⟩ := I.cell x c e
    exact free c o (fun z => (hch c z).2.2.1 x c e rfl) ho (I.freeC x c e)
  · obtain ⟨e, n, ne, nf, d⟩ := I.pin p hp
    have nch : p.1 ∉ ch := fun z => (hch p.1 z).2.2.2 p hp rfl
    exact ⟨keep p.1 p.2 ne nf nch e n, free p.1 p.2 nch e n, ne, nf, d⟩
theorem Inv.un {t' : Nat} (I : Inv X pins σ H s) (u : Un X.fs [] H H' s.heap h') (hok : HOk X.prog X.w H' h') : Inv X pins σ H' { s with heap := h', toks := t' } := by
  obtain ⟨m, ⟨o, es, ep, ho, r⟩, _⟩ := id I.loc
  obtain ⟨sl, hL⟩ := u.any ho I.free (by simp)
  exact I.step (g' := s.gens) (d' := s.drawn) (ch := []) (fun _ z => nomatch z) (fun b o _ hb _ e n => u.keep b o e n hb (by simp)) (fun b o _ hb _ e n => u.slot b o e n hb (by simp)) (fun b o _ e n => u.free b o e n (by simp)) (fun b o _ e => u.there b o e (by simp)) u.tups u.frzs u.tbls (fun m' hm => by
    obtain ⟨o', es', ep', ho', r'⟩ := hm
    rw [ho] at ho'; cases ho'
    exact ⟨_, es', ep', hL, r'⟩) hok I.bare
theorem Inv.call {g' : Array GenState} {t' : Nat} {d' : Drawn} {ch : List Addr} (I : Inv X pins σ H s) (u : Un (frs X.stack) ch H H' s.heap h') (hok : HOk X.prog X.w H' h') (hg : AllBare g')
    (hch : ∀ b ∈ ch, (b ∈ X.ex ∨ X.s₀.heap.objs.size ≤ b) ∧ b ≠ X.env.locals ∧ (∀ x c, X.env.cells.lookup x = some c → c ≠ b) ∧ ∀ p ∈ X.pn ++ pins, p.1 ≠ b) :
    Inv X pins σ H' { s with heap := h', gens := g', drawn := d', toks := t' } := by
  obtain ⟨m, ⟨o, es, ep, ho, r⟩, _⟩ := id I.loc
  obtain ⟨sl, hL⟩ := u.any ho I.free fun z => (hch _ z).2.1 rfl
  exact I.step (ch := ch) hch (fun b o hL hb hc e n => u.keep b o e n (fun z => (List.mem_cons.mp (I.stkSub b z)).elim hL hb) hc) (fun b o _ _ hc e n => u.any e n hc) (fun b o hc e n => u.free b o e n hc) (fun b o hc e => u.there b o e hc) u.tups u.frzs u.tbls (fun m' hm => by
    obtain ⟨o', es', ep', ho', r'⟩ := hm
    rw [ho] at ho'; cases ho'
    exact ⟨_, es', ep', hL, r'⟩) hok hg
theorem Inv.turned {t' : Nat} {it : Addr} (I : Inv X pins σ H s) (k : ∀ b o, b ≠ it → s.heap.get? b = some o → h'.get? b = some o) (hn : H it = none) (hL : it ≠ X.env.locals)
    (h1 : it ∈ X.ex ∨ X.s₀.heap.objs.size ≤ it) (h2 : ∀ x c, X.env.cells.lookup x = some c → c ≠ it) (h3 : ∀ p ∈ X.pn ++ pins, p.1 ≠ it) : Inv X pins σ H { s with heap := h', toks := t' } := by
  have nit : ∀ b u, H b = some u → b ≠ it := fun b u e z => by rw [z, hn] at e; cases e
  refine I.step (g' := s.gens) (d' := s.drawn) (ch := [it]) (fun b hb => ?_) (fun b o _ _ hc e _ => k b o (fun z => hc (by simp [z])) e) (fun b o _ _ hc e _ => ⟨o.slots, k b o (fun z => hc (by simp [z])) e⟩) (fun _ _ _ _ n => n)
    (fun b o hc e => ⟨o, k b o (fun z => hc (by simp [z])) e⟩) (fun _ _ e => e) (fun _ _ _ e => e) (fun b ps e => ⟨#[], by rw [e]; simp⟩) (fun m hm => ?_) (fun b u e => ?_) I.bare
  · have e : b = it := by simpa using hb
    subst e
    exact ⟨h1, hL, h2, h3⟩
  · obtain ⟨o, es, ep, ho, r⟩ := hm
    exact ⟨o, es, ep, k _ o (Ne.symm hL) ho, r⟩
  · refine (I.hok b u e).stay (fun c v hc q => k c v ?_ q) (fun _ q => q) fun _ _ q => q
    rcases hc with z | z
    · rw [z]; exact nit b u e
    · exact nit c _ z
theorem Inv.tok (I : Inv X pins σ H s) (t : Nat) : Inv X pins σ H { s with toks := t } := I.un (h' := s.heap) (t' := t) Un.refl I.hok
theorem Inv.kept {t' : Nat} (I : Inv X pins σ H s) (k : ∀ b u, s.heap.get? b = some u → h'.get? b = some u) : Inv X pins σ H { s with heap := h', toks := t' } := I.un (Un.kept k) (I.hok.kept k)
theorem Inv.laid {a : Addr} {o : HO} {t' : Nat} (I : Inv X pins σ H s) (k : ∀ b u, s.heap.get? b = some u → h'.get? b = some u) (hp : s.heap.objs.size ≤ a) (new : ObjOk X.prog X.w (upd H a o) h' a o) :
    Inv X pins σ (upd H a o) { s with heap := h', toks := t' } := I.un (Un.laid k hp (I.hok.fresh hp)) (I.hok.laid k hp new)
theorem Inv.write {x e : Addr} {o : HO} {t' : Nat} (I : Inv X pins σ H s) (mu : Mut (H x)) (he : e = x ∨ H e = some (.own x)) (k : ∀ b u, b ≠ e → s.heap.get? b = some u → h'.get? b = some u) (heo : ∃ u, h'.get? e = some u)
    (new : ObjOk X.prog X.w (upd H x o) h' x o) : Inv X pins σ (upd H x o) { s with heap := h', toks := t' } := I.un (Un.write mu he k heo) (I.hok.write mu he k heo new)
theorem Inv.pins_of {pins' : List (Addr × Obj)} (I : Inv X pins σ H s) (h : ∀ p ∈ pins', s.heap.get? p.1 = some p.2 ∧ H p.1 = none ∧ p.1 ≠ X.env.locals ∧ p.1 ∉ X.fs ∧ ∀ v, p.2.data ≠ .cell v) : Inv X pins' σ H s :=
  ⟨I.ok, I.os, I.bare, I.base, I.loc, I.cell, I.free, I.freeC, fun p hp => (List.mem_append.mp hp).elim (fun z => I.pin p (List.mem_append_left _ z)) (h p), I.hok, I.len⟩

theorem nodup_ix {N : List Str} (hN : N.Nodup) {i j : Nat} {x : Str} (a : N[i]? = some x) (b : N[j]? = some x) : i = j := by
  obtain ⟨h1, e1⟩ := List.getElem?_eq_some_iff.mp a
  obtain ⟨h2, e2⟩ := List.getElem?_eq_some_iff.mp b
  exact (List.getElem_inj hN).mp (e1.trans e2.symm)

theorem store_ok2 {M : Model} {A : Around} {E : Value → Shared → Prop} {i : Nat} {x : Str} {v : V} {u : Value} {Q : Unit → Shared → Prop} (I : Inv X pins σ H s) (hN : X.N.Nodup) (hi : X.N[i]? = some x) (hx : Loc X.env.scope x) (r : RelV v u)
    (h : ∀ s', Inv X pins (σ.set i (some v)) H s' → (∃ a, Heap.SameBut a s.heap s'.heap ∧ (a = X.env.locals ∨ X.env.cells.lookup x = some a)) → Q () s') (hf : X.fn x = true ∨ X.env.scope.names.lookup x = some .local := by first | exact .inl rfl | exact .inr rfl | assumption) : wpAny M A (storeName X.env x u) Q E s := by
  obtain ⟨m, hn, hl⟩ := id I.loc
  have hcls : (X.env.scope.kind == .class || (X.env.scope.kind == .module && X.env.locals != X.env.globals)) = false := by rw [I.ok.kind]; rfl
  have hiσ : i < σ.length := by rw [I.len]; exact (List.getElem?_eq_some_iff.mp hi).1
  have cne := I.cne
  have tracked : ∀ {a : Addr} {h' : Heap}, (∃ o, s.heap.get? a = some o ∧ H a = none) → Heap.SameBut a s.heap h' → HOk X.prog X.w H h' := fun {a h'} ha hs b ob e => by
    obtain ⟨_, _, hfree⟩ := ha
    refine (I.hok b ob e).stay (fun c w' hc q => (hs.2 c ?_).trans q) (fun _ q => q) fun _ _ q => q
    rintro rfl
    rcases hc with rfl | hc
    · rw [hfree] at e; cases e
    · rw [hfree] at hc; cases hc
  rcases hx with hk | hk
  · refine wpAny_storeName_local hk hn (fun h' hn' hs => ?_) hcls
    obtain ⟨oL, _, _, hoL, _⟩ := id hn
    refine h _ ⟨I.ok, I.os, I.bare, ⟨fun b o e n hb hx => ?_, fun b o e n hb hx => ?_, I.base.free, fun b o e hx => ?_, I.base.tups, I.base.frzs, I.base.tbls⟩, ⟨_, hn', fun j y v' e1 e2 e3 => ?_⟩, fun y c e => ?_, I.free, I.freeC, fun p hp => ?_, tracked ⟨oL, hoL, I.free⟩ hs, by simpa using I.len⟩ ⟨_, hs, .inl rfl⟩
    · exact (hs.2 b (Nat.ne_of_lt (Nat.lt_of_lt_of_le (Heap.lt_size e) I.ok.above))).trans (I.base.keep b o e n hb hx)
    · obtain ⟨sl, e1⟩ := I.base.slot b o e n hb hx
      exact ⟨sl, (hs.2 b (Nat.ne_of_lt (Nat.lt_of_lt_of_le (Heap.lt_size e) I.ok.above))).trans e1⟩
    · obtain ⟨o', e1⟩ := I.base.there b o e hx
      exact ⟨o', (hs.2 b (Nat.ne_of_lt (Nat.lt_of_lt_of_le (Heap.lt_size e) I.ok.above))).trans e1⟩
    · by_cases hj : j = i
      · subst hj
        rw [hi] at e1; cases e1
        rw [List.getElem?_set_self hiσ] at e2
        cases e2
        exact ⟨u, r, .inl ⟨hk, by simp⟩⟩
      · rw [List.getElem?_set_ne (Ne.symm hj)] at e2
        obtain ⟨u', r', q⟩ := hl j y v' e1 e2 e3
        refine ⟨u', r', ?_⟩
        rcases q with ⟨k, e⟩ | ⟨k, c, e, z⟩
        · refine .inl ⟨k, ?_⟩
          have : y ≠ x := fun e => hj (nodup_ix hN e1 (e ▸ hi))
          simp [this, e]
        · exact .inr ⟨k, c, e, z.sameBut hs (cne y c e)⟩
    · obtain ⟨w', z⟩ := I.cell y c e
      exact ⟨w', z.sameBut hs (cne y c e)⟩
    · obtain ⟨e, n, ne, nf, d⟩ := I.pin p hp
      exact ⟨(hs.2 p.1 ne).trans e, n, ne, nf, d⟩
  · have hfn : X.fn x = true := by
      rcases hf with z | z
      · exact z
      · rw [z] at hk; cases hk
    obtain ⟨c, hc⟩ := I.ok.has x (.inl hk)
    obtain ⟨w', z⟩ := I.cell x c hc
    refine wpAny_storeName_cell I.ok.kind hk hc z (fun h' hc' hs => ?_)
    obtain ⟨oc, hoc, hocd⟩ := id z
    refine h { s with heap := h' } ⟨I.ok, I.os, I.bare, ⟨fun b o e n hb hx => ?_, fun b o e n hb hx => ?_, I.base.free, fun b o e hx => ?_, I.base.tups, I.base.frzs, I.base.tbls⟩, ⟨m, hn.sameBut hs (Ne.symm (cne x c hc)), fun j y v' e1 e2 e3 => ?_⟩, fun y c' e => ?_, I.free, I.freeC, fun p hp => ?_, tracked ⟨oc, hoc, I.freeC x c hc⟩ hs, by simpa using I.len⟩ ⟨c, hs, .inr hc⟩
    · exact (hs.2 b (Nat.ne_of_lt (Nat.lt_of_lt_of_le (Heap.lt_size e) (I.ok.cab x c hfn hc)))).trans (I.base.keep b o e n hb hx)
    · obtain ⟨sl, e1⟩ := I.base.slot b o e n hb hx
      exact ⟨sl, (hs.2 b (Nat.ne_of_lt (Nat.lt_of_lt_of_le (Heap.lt_size e) (I.ok.cab x c hfn hc)))).trans e1⟩
    · obtain ⟨o', e1⟩ := I.base.there b o e hx
      exact ⟨o', (hs.2 b (Nat.ne_of_lt (Nat.lt_of_lt_of_le (Heap.lt_size e) (I.ok.cab x c hfn hc)))).trans e1⟩
    · by_cases hj : j = i
      · subst hj
        rw [hi] at e1; cases e1
        rw [List.getElem?_set_self hiσ] at e2
        cases e2
        exact ⟨u, r, .inr ⟨.inl hk, c, hc, hc'⟩⟩
      · rw [List.getElem?_set_ne (Ne.symm hj)] at e2
        obtain ⟨u', r', q⟩ := hl j y v' e1 e2 e3
        refine ⟨u', r', ?_⟩
        rcases q with q | ⟨k, c', e, z'⟩
        · exact .inl q
        · refine .inr ⟨k, c', e, z'.sameBut hs ?_⟩
          rintro rfl
          exact hj (nodup_ix hN e1 (I.ok.inj _ _ _ e hc ▸ hi))
    · by_cases hcc : c' = c
      · subst hcc; exact ⟨_, hc'⟩
      · obtain ⟨w2, z2⟩ := I.cell y c' e
        exact ⟨w2, z2.sameBut hs hcc⟩
    · obtain ⟨e, n, ne, nf, d⟩ := I.pin p hp
      refine ⟨(hs.2 p.1 ?_).trans e, n, ne, nf, d⟩
      intro q
      rw [q, hoc] at e
      have q' : oc = p.2 := Option.some.inj e
      exact d w' (by rw [← q']; exact hocd)
theorem store_ok {M : Model} {A : Around} {E : Value → Shared → Prop} {i : Nat} {x : Str} {v : V} {u : Value} {Q : Unit → Shared → Prop} (I : Inv X pins σ H s) (hN : X.N.Nodup) (hi : X.N[i]? = some x) (hx : Loc X.env.scope x) (r : RelV v u)
    (h : ∀ s', Inv X pins (σ.set i (some v)) H s' → Q () s') (hf : X.fn x = true ∨ X.env.scope.names.lookup x = some .local := by first | exact .inl rfl | exact .inr rfl | assumption) : wpAny M A (storeName X.env x u) Q E s :=
  store_ok2 I hN hi hx r (fun s' I' _ => h s' I') hf
theorem Inv.call' {s' : Shared} {ch : List Addr} (I : Inv X pins σ H s) (ho : s'.os = s.os) (u : Un (frs X.stack) ch H H' s.heap s'.heap) (hok : HOk X.prog X.w H' s'.heap) (hg : AllBare s'.gens)
    (hch : ∀ b ∈ ch, (b ∈ X.ex ∨ X.s₀.heap.objs.size ≤ b) ∧ b ≠ X.env.locals ∧ (∀ x c, X.env.cells.lookup x = some c → c ≠ b) ∧ ∀ p ∈ X.pn ++ pins, p.1 ≠ b) : Inv X pins σ H' s' := by
  obtain ⟨h', g', d', t', o'⟩ := s'
  have e : o' = s.os := ho
  subst e
  exact I.call (g' := g') (t' := t') (d' := d') u hok hg hch
end

abbrev XK := Value → Option Addr → Hp → Prop
abbrev St := List (Option V)
abbrev VK := V → Hp → Prop
abbrev TE := St → Hp → VK → Prop
abbrev TT := St → Hp → (Bool → Hp → Prop) → Prop
abbrev TA := St → Hp → (List V → Hp → Prop) → Prop
structure Ends where
  nx : St → Hp → Prop
  rt : VK
  bk : St → Hp → Prop := fun _ _ => False
  ct : St → Hp → Prop := fun _ _ => False
abbrev TS := Ends → St → Hp → Prop

def EP (X : Cx) (pins : List (Addr × Obj)) (σ : St) (Q : VK) (u : Value) (s' : Shared) : Prop := ∃ v H', Inv X pins σ H' s' ∧ RelV v u ∧ Q v H'
def TP (X : Cx) (pins : List (Addr × Obj)) (σ : St) (Q : Bool → Hp → Prop) (b : Bool) (s' : Shared) : Prop := ∃ H', Inv X pins σ H' s' ∧ Q b H'
def AP (X : Cx) (pins : List (Addr × Obj)) (σ : St) (Q : List V → Hp → Prop) (us : List Value) (s' : Shared) : Prop := ∃ vs H', Inv X pins σ H' s' ∧ Vals vs us ∧ Q vs H'
def SP (X : Cx) (pins : List (Addr × Obj)) (D : Ends) (f : Flow) (s' : Shared) : Prop :=
  match f with
  | .next => ∃ σ' H', Inv X pins σ' H' s' ∧ D.nx σ' H'
  | .brk => ∃ σ' H', Inv X pins σ' H' s' ∧ D.bk σ' H'
  | .cont => ∃ σ' H', Inv X pins σ' H' s' ∧ D.ct σ' H'
  | .ret u => ∃ v σ' H', Inv X pins σ' H' s' ∧ RelV v u ∧ D.rt v H'

def PE (X : Cx) (e : Expr) (t : TE) : Prop :=
  ∀ (pins : List (Addr × Obj)) (s : Shared) (σ : St) (H : Hp) (Q : VK), Inv X pins σ H s → t σ H Q → wpAny (model X.prog X.w) X.A (eval e X.env) (EP X pins σ Q) X.xe s
def PT (X : Cx) (e : Expr) (t : TT) : Prop :=
  ∀ (pins : List (Addr × Obj)) (s : Shared) (σ : St) (H : Hp) (Q : Bool → Hp → Prop), Inv X pins σ H s → t σ H Q → wpAny (model X.prog X.w) X.A (isTrue e X.env (eval e X.env)) (TP X pins σ Q) X.xe s
def PW (X : Cx) (e : Expr) (t : TT) : Prop :=
  ∀ (whole : Sem Value) (pins : List (Addr × Obj)) (s : Shared) (σ : St) (H : Hp) (Q : Bool → Hp → Prop), Inv X pins σ H s → t σ H Q → wpAny (model X.prog X.w) X.A (isTrue e X.env whole) (TP X pins σ Q) X.xe s
theorem PW.pt {X : Cx} {e : Expr} {t : TT} (h : PW X e t) : PT X e t := h _
def PA (X : Cx) (es : List Expr) (t : TA) : Prop :=
  ∀ (pos : Pos) (pins : List (Addr × Obj)) (s : Shared) (σ : St) (H : Hp) (Q : List V → Hp → Prop), Inv X pins σ H s → t σ H Q → wpAny (model X.prog X.w) X.A (spliced (backTo pos (starEach es X.env))) (AP X pins σ Q) X.xe s
def PS (X : Cx) (st : Stmt) (t : TS) : Prop :=
  ∀ (pins : List (Addr × Obj)) (s : Shared) (σ : St) (H : Hp) (D : Ends), Inv X pins σ H s → t D σ H → wpAny (model X.prog X.w) X.A (exec st X.env) (SP X pins D) X.xe s
def PSs (X : Cx) (st : List Stmt) (t : TS) : Prop :=
  ∀ (pins : List (Addr × Obj)) (s : Shared) (σ : St) (H : Hp) (D : Ends), Inv X pins σ H s → t D σ H → wpAny (model X.prog X.w) X.A (execs st X.env) (SP X pins D) X.xe s
theorem thn {α : Type} {t : Sem α} {Q Q' : α → Shared → Prop} {M : Model} {A : Around} {E : Value → Shared → Prop} {s : Shared} (h : wpAny M A t Q E s) (hQ : ∀ a s, Q a s → Q' a s) : wpAny M A t Q' E s := wpAny_mono h hQ fun _ _ x => x
end L2

namespace L2
open PySem PySem.Spec PyProof.Rows
section
variable {X : Cx}

def tVar (i : Nat) : TE := fun σ H Q => ∃ v, σ[i]? = some (some v) ∧ Q v H
def tC (v : V) : TE := fun _ H Q => Q v H
theorem pe_var {i : Nat} {x : Str} {pos : Pos} (hN : X.N[i]? = some x) (hv : Vis X.env.scope x) (hd : (x == ("__debug__" : Str)) = false := by decide) (hcd : (x == ("__classdict__" : Str)) = false := by decide) : PE X (.Name x pos) (tVar i) := by
  intro pins s σ H Q I h
  obtain ⟨v, e, h⟩ := h
  obtain ⟨m, hn, hl⟩ := I.loc
  obtain ⟨u, r, l⟩ := hl i x v hN e hv
  have fin : EP X pins σ Q u s := ⟨v, H, I, r, h⟩
  rcases l with ⟨hk, hm⟩ | ⟨hk, c, hc, hcell⟩
  · exact wpAny_Name (wpAny_loadName_local I.ok.kind hk hn hm fin) hd
  · rcases hk with hk | hk
    · exact wpAny_Name (wpAny_loadName_cell I.ok.kind hk hc hcell fin) hd
    · exact wpAny_Name (wpAny_loadName_free I.ok.kind hk hc hcell fin hcd) hd
theorem pe_int {i j pos} : PE X (.Constant (.int i) j pos) (tC (.int i)) := fun _ _ _ H _ I h => wpAny_Constant_int ⟨.int i, H, I.tok _, ⟨_, rfl⟩, h⟩
theorem pe_bl {b j pos} : PE X (.Constant (.bool b) j pos) (tC (.bl b)) := fun _ _ _ H _ I h => Constant_bool ⟨.bl b, H, I, rfl, h⟩
theorem pe_non {j pos} : PE X (.Constant .none j pos) (tC .non) := fun _ _ _ H _ I h => Constant_none ⟨.non, H, I, rfl, h⟩
theorem pe_str {x j pos} : PE X (.Constant (.str x) j pos) (tC (.str x)) := fun _ _ _ H _ I h => Calls.Constant_str ⟨.str x, H, I.tok _, ⟨_, rfl⟩, h⟩

def Gl (X : Cx) (x : Str) : Prop := X.env.kindOf x = some .globalImplicit
theorem ld_glob {E : Value → Shared → Prop} {pins : List (Addr × Obj)} {s : Shared} {σ : St} {H : Hp} {x : Str} {u : Value} {pos : Pos} {Q : Value → Shared → Prop} (I : Inv X pins σ H s) (hg : Gl X x) (hm : X.mg x = some u) (h : Q u s)
    (hd : (x == ("__debug__" : Str)) = false := by decide) : wpAny (model X.prog X.w) X.A (eval (.Name x pos) X.env) Q E s :=
  Calls.Name_function_global I.ok.kind hg (Calls.loadGlobal_global (by rw [I.ok.glob]; exact I.mod.glob.keeps I.bk) hm h) hd
theorem ld_blt {E : Value → Shared → Prop} {pins : List (Addr × Obj)} {s : Shared} {σ : St} {H : Hp} {x : Str} {u : Value} {pos : Pos} {Q : Value → Shared → Prop} (I : Inv X pins σ H s) (hg : Gl X x) (hm : X.mg x = none) (hv : bootBuiltins x = some u) (h : Q u s)
    (hn : x ≠ "__name__" := by decide) (hd : (x == ("__debug__" : Str)) = false := by decide) : wpAny (model X.prog X.w) X.A (eval (.Name x pos) X.env) Q E s := by
  obtain ⟨mb, h1, h2⟩ := I.mod.blt
  exact Calls.Name_function_global I.ok.kind hg (Calls.loadGlobal_builtin (by rw [I.ok.glob]; exact I.mod.glob.keeps I.bk) hm (by rw [I.ok.blt]; exact h1.keeps I.bk) ((h2 x hn).trans hv) h) hd
theorem pe_glob {x : Str} {v : V} {u : Value} {pos : Pos} (hg : Gl X x) (hm : X.mg x = some u) (r : RelV v u) (hd : (x == ("__debug__" : Str)) = false := by decide) : PE X (.Name x pos) (tC v) :=
  fun _ _ _ H _ I h => ld_glob I hg hm ⟨v, H, I, r, h⟩ hd
theorem pe_bltn {x : Str} {v : V} {u : Value} {pos : Pos} (hg : Gl X x) (hm : X.mg x = none) (hv : bootBuiltins x = some u) (r : RelV v u) (hn : x ≠ "__name__" := by decide) (hd : (x == ("__debug__" : Str)) = false := by decide) : PE X (.Name x pos) (tC v) :=
  fun _ _ _ H _ I h => ld_blt I hg hm hv ⟨v, H, I, r, h⟩ hn hd

variable {a b : Expr} {ta tb : TE} {pos : Pos}
def tB (t : TE) : TT := fun σ H Q => t σ H fun x H1 => ∃ c, x = .bl c ∧ Q c H1
theorem pt_val {e : Expr} {t : TE} (h : PE X e t) (he : ∀ whole, isTrue e X.env whole = (do let v ← whole; standAt e.pos; holding [v] (truthy v)) := by intro _; rfl) : PT X e (tB t) := by
  intro pins s σ H Q I hw
  refine isTrue_plain (thn (h pins s σ H _ I hw) fun v s1 ⟨x, H1, I1, r1, q1⟩ => ?_) (he _)
  obtain ⟨d, rfl, q⟩ := q1
  cases r1
  exact wpAny_truthy_bool ⟨H1, I1, q⟩

variable {tA tB' : TT} {rest : List Expr}
def tAnd (t u : TT) : TT := fun σ H Q => t σ H fun c H1 => if c = true then u σ H1 Q else Q false H1
def tOr (t u : TT) : TT := fun σ H Q => t σ H fun c H1 => if c = true then Q true H1 else u σ H1 Q
def tNot (t : TT) : TT := fun σ H Q => t σ H fun c H1 => Q (!c) H1
theorem pw_and1 (ha : PT X a tA) : PW X (.BoolOp .And [a] pos) tA := by
  intro wh pins s σ H Q I h
  refine isTrue_and (thn (ha pins s σ H Q I h) fun c s1 e => ?_)
  cases c with
  | true => exact isTrue_and_nil e
  | false => exact e
theorem pw_or1 (ha : PT X a tA) : PW X (.BoolOp .Or [a] pos) tA := by
  intro wh pins s σ H Q I h
  refine isTrue_or (thn (ha pins s σ H Q I h) fun c s1 e => ?_)
  cases c with
  | false => exact isTrue_or_nil e
  | true => exact e
theorem pw_and (ha : PT X a tA) (hb : PW X (.BoolOp .And (b :: rest) pos) tB') : PW X (.BoolOp .And (a :: b :: rest) pos) (tAnd tA tB') := by
  intro wh pins s σ H Q I h
  refine isTrue_and (thn (ha pins s σ H _ I h) fun c s1 ⟨H1, I1, q1⟩ => ?_)
  cases c with
  | true => exact hb wh pins s1 σ H1 Q I1 q1
  | false => exact ⟨H1, I1, q1⟩
theorem pw_or (ha : PT X a tA) (hb : PW X (.BoolOp .Or (b :: rest) pos) tB') : PW X (.BoolOp .Or (a :: b :: rest) pos) (tOr tA tB') := by
  intro wh pins s σ H Q I h
  refine isTrue_or (thn (ha pins s σ H _ I h) fun c s1 ⟨H1, I1, q1⟩ => ?_)
  cases c with
  | true => exact ⟨H1, I1, q1⟩
  | false => exact hb wh pins s1 σ H1 Q I1 q1
theorem pt_not (ha : PT X a tA) : PT X (.UnaryOp .Not a pos) (tNot tA) := by
  intro pins s σ H Q I h
  exact isTrue_not (ha pins s σ H (fun c H1 => Q (!c) H1) I h)
def tAndV (ta tb : TE) : TE := fun σ H Q => ta σ H fun x H1 => ∃ c, x = .bl c ∧ if c = true then tb σ H1 Q else Q (.bl false) H1
theorem pe_one {op} {t : TE} (h : PE X a t) : PE X (.BoolOp op [a] pos) t := fun pins s σ H Q I hw => BoolOp_one (h pins s σ H Q I hw)
theorem pe_and (ha : PE X a ta) (hb : PE X (.BoolOp .And (b :: rest) pos) tb) : PE X (.BoolOp .And (a :: b :: rest) pos) (tAndV ta tb) := by
  intro pins s σ H Q I h
  refine BoolOp_and (thn (ha pins s σ H _ I h) fun v s1 ⟨x, H1, I1, r1, q1⟩ => ?_)
  obtain ⟨c, rfl, q1⟩ := q1
  cases r1
  refine wpAny_truthy_bool ?_
  cases c with
  | true => exact hb pins s1 σ H1 Q I1 q1
  | false => exact ⟨.bl false, H1, I1, rfl, q1⟩
def tIf (t : TT) (ta tb : TE) : TE := fun σ H Q => t σ H fun c H1 => if c = true then ta σ H1 Q else tb σ H1 Q
theorem pe_ifExp {c : Expr} (hc : PT X c tA) (ha : PE X a ta) (hb : PE X b tb) : PE X (.IfExp c a b pos) (tIf tA ta tb) := by
  intro pins s σ H Q I h
  refine wpAny_IfExp (thn (hc pins s σ H _ I h) fun d s1 ⟨H1, I1, q1⟩ => ?_)
  cases d with
  | true => exact ha pins s1 σ H1 Q I1 q1
  | false => exact hb pins s1 σ H1 Q I1 q1
end
end L2

namespace L2
open PySem PySem.Spec PyProof.Rows

def SqL (K : PySem.W.Frag) (H : Hp) (a : Addr) (xs : List V) : Prop :=
  Rd H a (.lst xs) ∨
    ∃ (o : Obj) (its : Array Value) (n : Nat), K.lookup a = some o ∧ o.cls = .type "list" ∧ o.dict = none ∧ o.data = .seq its n ∧ its.size ≤ sizeLine ∧ Vals xs its.toList
def SqT (K : PySem.W.Frag) (H : Hp) (a : Addr) (xs : List V) : Prop :=
  Rd H a (.tup xs) ∨
    ∃ (o : Obj) (its : Array Value) (n : Nat), K.lookup a = some o ∧ o.cls = .type "tuple" ∧ o.dict = none ∧ o.data = .seq its n ∧ its.size ≤ sizeLine ∧ Vals xs its.toList
def absV : Value → Option V
  | .none => some .non
  | .bool b => some (.bl b)
  | .int i _ => some (.int i)
  | .str x _ => some (.str x)
  | .bytes b _ => some (.byt b)
  | .float b _ => some (.flt b)
  | .ref a => some (.ref a)
  | .type n => some (.ty n)
  | _ => none
theorem RelV.abs {x : V} {u : Value} (r : RelV x u) : absV u = some x := by
  cases x with
  | non => cases r; rfl
  | bl _ => cases r; rfl
  | int _ => obtain ⟨t, rfl⟩ := r; rfl
  | str _ => obtain ⟨t, rfl⟩ := r; rfl
  | byt _ => obtain ⟨t, rfl⟩ := r; rfl
  | flt _ => obtain ⟨t, rfl⟩ := r; rfl
  | ref _ => cases r; rfl
  | ty _ => cases r; rfl
theorem RelV.inj {x y : V} {u : Value} (r : RelV x u) (q : RelV y u) : x = y := Option.some.inj (r.abs.symm.trans q.abs)
theorem Vals.inj : ∀ {xs ys : List V} {us : List Value}, Vals xs us → Vals ys us → xs = ys
  | _, _, _, .nil, .nil => rfl
  | _, _, _, .cons r t, .cons r' t' => by rw [r.inj r', Vals.inj t t']
section
variable {X : Cx} {pins : List (Addr × Obj)} {σ : St} {H : Hp} {s : Shared} {a : Addr} {xs ys : List V}
theorem SqL.of {K : PySem.W.Frag} (h : H a = some (.lst xs)) : SqL K H a xs := .inl (.inl h)
theorem SqT.of {K : PySem.W.Frag} (h : H a = some (.tup xs)) : SqT K H a xs := .inl (.inl h)
theorem Inv.list (I : Inv X pins σ H s) (h : SqL X.K H a xs) : ∃ its : List Value, Vals xs its ∧ PlainL s.heap a its.toArray ∧ xs.length ≤ sizeLine := by
  rcases h with h | ⟨o, its, n, hk, hc, hd, hs, hz, r⟩
  · obtain ⟨z, its, n, r, e⟩ := h.ok I.hok
    exact ⟨its, r, ⟨_, n, e, rfl, rfl, rfl⟩, z⟩
  · refine ⟨its.toList, r, ⟨o, n, I.kIn a o hk, hc, hd, by simpa using hs⟩, ?_⟩
    have e := r.length
    simp only [Array.length_toList] at e
    omega
theorem Inv.tuple (I : Inv X pins σ H s) (h : SqT X.K H a xs) : ∃ its : List Value, Vals xs its ∧ IsTup s.heap a its.toArray ∧ xs.length ≤ sizeLine := by
  rcases h with h | ⟨o, its, n, hk, hc, _, hs, hz, r⟩
  · obtain ⟨z, its, r, p⟩ := h.ok I.hok
    exact ⟨its, r, p.tup, z⟩
  · refine ⟨its.toList, r, ⟨o, I.kIn a o hk, hc, n, by simpa using hs⟩, ?_⟩
    have e := r.length
    simp only [Array.length_toList] at e
    omega
theorem Inv.tupleN (I : Inv X pins σ H s) (h : SqT X.K H a xs) : ∃ o, s.heap.get? a = some o ∧ o.cls = .type "tuple" ∧ o.dict = none := by
  rcases h with h | ⟨o, its, n, hk, hc, hd, _⟩
  · obtain ⟨z, its, r, ⟨o, e, c, n, _, d⟩⟩ := h.ok I.hok
    exact ⟨o, e, c, d⟩
  · exact ⟨o, I.kIn a o hk, hc, hd⟩
theorem Inv.list_inj (I : Inv X pins σ H s) (h : SqL X.K H a xs) (h' : SqL X.K H a ys) : xs = ys := by
  obtain ⟨its, r, ⟨o, n, e, _, _, d⟩, _⟩ := I.list h
  obtain ⟨its', r', ⟨o', n', e', _, _, d'⟩, _⟩ := I.list h'
  rw [e] at e'; cases e'
  rw [d] at d'
  injection d' with d1 _
  have : its = its' := by simpa using congrArg Array.toList d1
  subst this
  exact r.inj r'
theorem Inv.tuple_inj (I : Inv X pins σ H s) (h : SqT X.K H a xs) (h' : SqT X.K H a ys) : xs = ys := by
  obtain ⟨its, r, ⟨o, e, _, n, d⟩, _⟩ := I.tuple h
  obtain ⟨its', r', ⟨o', e', _, n', d'⟩, _⟩ := I.tuple h'
  rw [e] at e'; cases e'
  rw [d] at d'
  injection d' with d1 _
  have : its = its' := by simpa using congrArg Array.toList d1
  subst this
  exact r.inj r'
end

abbrev Cx.wish (X : Cx) (E : Value → Shared → Prop) : Cx := { X with xe := E }
abbrev Cx.nox (X : Cx) : Cx := X.wish fun _ _ => False
theorem Cx.Ok.wish {X : Cx} (ok : X.Ok) (E : Value → Shared → Prop) : (X.wish E).Ok :=
  ⟨ok.mod, ok.kind, ok.glob, ok.blt, ok.above, ok.inj, ok.has, ok.cab, ok.hd, ok.frames, ok.stk, ok.exf, ok.bs, ok.bsz, ok.noex, ok.exfs, ok.funs, ok.frf⟩
theorem Cx.Ok.unwish {X : Cx} {E : Value → Shared → Prop} (ok : (X.wish E).Ok) : X.Ok :=
  ⟨ok.mod, ok.kind, ok.glob, ok.blt, ok.above, ok.inj, ok.has, ok.cab, ok.hd, ok.frames, ok.stk, ok.exf, ok.bs, ok.bsz, ok.noex, ok.exfs, ok.funs, ok.frf⟩
section
variable {X : Cx} {pins : List (Addr × Obj)} {σ : St} {H : Hp} {s : Shared} {E : Value → Shared → Prop}
theorem Inv.wish (I : Inv X pins σ H s) (E : Value → Shared → Prop) : Inv (X.wish E) pins σ H s := ⟨I.ok.wish E, I.os, I.bare, I.base, I.loc, I.cell, I.free, I.freeC, I.pin, I.hok, I.len⟩
theorem Inv.unwish (I : Inv (X.wish E) pins σ H s) : Inv X pins σ H s := ⟨I.ok.unwish, I.os, I.bare, I.base, I.loc, I.cell, I.free, I.freeC, I.pin, I.hok, I.len⟩
theorem SP.unwish {D : Ends} {f : Flow} {s' : Shared} (h : SP (X.wish E) pins D f s') : SP X pins D f s' := by
  cases f with
  | next => obtain ⟨σ', H', I, q⟩ := h; exact ⟨σ', H', I.unwish, q⟩
  | brk => obtain ⟨σ', H', I, q⟩ := h; exact ⟨σ', H', I.unwish, q⟩
  | cont => obtain ⟨σ', H', I, q⟩ := h; exact ⟨σ', H', I.unwish, q⟩
  | ret u => obtain ⟨v, σ', H', I, r, q⟩ := h; exact ⟨v, σ', H', I.unwish, r, q⟩
theorem PE.nox {e : Expr} {t : TE} (h : PE X.nox e t) : PE X e t := fun pins s σ H Q I hw =>
  wpAny_mono (h pins s σ H Q (I.wish _) hw) (fun _ _ ⟨v, H', I', r, q⟩ => ⟨v, H', I'.unwish, r, q⟩) fun _ _ z => False.elim z
theorem PT.nox {e : Expr} {t : TT} (h : PT X.nox e t) : PT X e t := fun pins s σ H Q I hw =>
  wpAny_mono (h pins s σ H Q (I.wish _) hw) (fun _ _ ⟨H', I', q⟩ => ⟨H', I'.unwish, q⟩) fun _ _ z => False.elim z
theorem PSs.nox {st : List Stmt} {t : TS} (h : PSs X.nox st t) : PSs X st t := fun pins s σ H D I hw =>
  wpAny_mono (h pins s σ H D (I.wish _) hw) (fun _ _ q => q.unwish) fun _ _ z => False.elim z
end

section
variable {X : Cx} {st : Stmt} {rest : List Stmt} {t u : TS} {e : Expr} {te : TE} {pos : Pos}
def tNext : TS := fun D σ H => D.nx σ H
def tSeq (t u : TS) : TS := fun D σ H => t { D with nx := u D } σ H
theorem pss_nil : PSs X [] tNext := fun _ _ σ H _ I h => wpAny_execs_nil ⟨σ, H, I, h⟩
theorem pss_cons (h1 : PS X st t) (h2 : PSs X rest u) : PSs X (st :: rest) (tSeq t u) := by
  intro pins s σ H D I h
  refine wpAny_execs_cons (thn (h1 pins s σ H { D with nx := u D } I h) fun f s1 q => ?_)
  cases f with
  | next =>
    obtain ⟨σ', H', I', q⟩ := q
    exact h2 pins s1 σ' H' D I' q
  | ret v => exact q
  | brk => exact q
  | cont => exact q
theorem pss_one (h1 : PS X st t) : PSs X [st] t := by
  intro pins s σ H D I h
  refine wpAny_execs_cons (thn (h1 pins s σ H D I h) fun f s1 q => ?_)
  cases f with
  | next => exact wpAny_execs_nil q
  | ret v => exact q
  | brk => exact q
  | cont => exact q
theorem Inv.quiet {pins : List (Addr × Obj)} {σ : St} {H : Hp} {s : Shared} (I : Inv X pins σ H s) : interactive X.env = false := by simp [interactive, I.ok.kind]
def tDrop (te : TE) : TS := fun D σ H => te σ H fun _ H1 => D.nx σ H1
theorem ps_expr (he : PE X e te) (hs : swapsWith e none pos.line X.env = pure false := by rfl) : PS X (.Expr e pos) (tDrop te) := by
  intro pins s σ H D I h
  exact wpAny_Expr_any (thn (he pins s σ H _ I h) fun v s1 ⟨x, H1, I1, r1, q1⟩ => ⟨σ, H1, I1, q1⟩) I.quiet hs
def tRet (te : TE) : TS := fun D σ H => te σ H D.rt
theorem ps_ret (he : PE X e te) : PS X (.Return (some e) pos) (tRet te) := by
  intro pins s σ H D I h
  exact wpAny_Return_some (thn (he pins s σ H _ I h) fun v s1 ⟨x, H1, I1, r1, q1⟩ => ⟨x, σ, H1, I1, r1, q1⟩)
def tIfS (c : TT) (t u : TS) : TS := fun D σ H => c σ H fun b H1 => if b = true then t D σ H1 else u D σ H1
theorem ps_if {c : Expr} {a b : List Stmt} {tc : TT} (hc : PT X c tc) (ha : PSs X a t) (hb : PSs X b u) : PS X (.If c a b pos) (tIfS tc t u) := by
  intro pins s σ H D I h
  refine wpAny_If (thn (hc pins s σ H _ I h) fun d s1 ⟨H1, I1, q1⟩ => ?_)
  cases d with
  | true => exact ha pins s1 σ H1 D I1 q1
  | false => exact hb pins s1 σ H1 D I1 q1
end

abbrev TG := V → St → Hp → (St → Hp → Prop) → Prop
abbrev TGs := List V → St → Hp → (St → Hp → Prop) → Prop
def PG (X : Cx) (target : Expr) (t : TG) : Prop :=
  ∀ (pins : List (Addr × Obj)) (s : Shared) (σ : St) (H : Hp) (v : V) (u : Value) (Q : St → Hp → Prop), Inv X pins σ H s → RelV v u → t v σ H Q →
    wpAny (model X.prog X.w) X.A (assign target X.env u) (fun _ s' => ∃ σ' H', Inv X pins σ' H' s' ∧ Q σ' H') X.xe s
def PGs (X : Cx) (ts : List Expr) (t : TGs) : Prop :=
  ∀ (pins : List (Addr × Obj)) (s : Shared) (σ : St) (H : Hp) (vs : List V) (us : List Value) (Q : St → Hp → Prop), Inv X pins σ H s → Vals vs us → t vs σ H Q →
    wpAny (model X.prog X.w) X.A (assignInOrder ((assignEach ts X.env).map (·.2)) us) (fun _ s' => ∃ σ' H', Inv X pins σ' H' s' ∧ Q σ' H') X.xe s
abbrev TSet := V → V → V → Hp → (Hp → Prop) → Prop
def PSet (X : Cx) (t : TSet) : Prop :=
  ∀ (pins : List (Addr × Obj)) (s : Shared) (σ : St) (H : Hp) (o i v : V) (ov iv u : Value) (Q : Hp → Prop), Inv X pins σ H s → RelV o ov → RelV i iv → RelV v u → t o i v H Q →
    wpAny (model X.prog X.w) X.A (setItem ov iv u) (fun _ s' => ∃ H', Inv X pins σ H' s' ∧ Q H') X.xe s
abbrev TIp := V → V → Hp → VK → Prop
def PIp (X : Cx) (op : Operator) (t : TIp) : Prop :=
  ∀ (pins : List (Addr × Obj)) (s : Shared) (σ : St) (H : Hp) (x y : V) (v u : Value) (Q : VK), Inv X pins σ H s → RelV x v → RelV y u → t x y H Q →
    wpAny (model X.prog X.w) X.A (inplaceOp op v u) (EP X pins σ Q) X.xe s
section
variable {X : Cx} {pos : Pos}
def gName (i : Nat) : TG := fun v σ H Q => Q (σ.set i (some v)) H
theorem pg_name {i : Nat} {x : Str} (hN : X.N.Nodup) (hi : X.N[i]? = some x) (hx : Loc X.env.scope x) (hf : X.fn x = true ∨ X.env.scope.names.lookup x = some .local := by first | exact .inl rfl | exact .inr rfl | assumption) : PG X (.Name x pos) (gName i) := by
  intro pins s σ H v u Q I r h
  exact wpAny_assign_Name (store_ok I hN hi hx r (fun s' I' => ⟨_, H, I', h⟩) hf)
def gNil : TGs := fun vs σ H Q => vs = [] ∧ Q σ H
def gCons (t : TG) (u : TGs) : TGs := fun vs σ H Q => ∃ v r, vs = v :: r ∧ t v σ H fun σ' H' => u r σ' H' Q
theorem pgs_nil : PGs X [] gNil := by
  intro pins s σ H vs us Q I r h
  obtain ⟨e, h⟩ := h
  subst e
  cases r
  exact assignInOrder_nil ⟨σ, H, I, h⟩
theorem pgs_cons {e : Expr} {es : List Expr} {t : TG} {u : TGs} (h1 : PG X e t) (h2 : PGs X es u)
    (hs : (assignEach (e :: es) X.env).map (·.2) = assign e X.env :: (assignEach es X.env).map (·.2) := by rfl) : PGs X (e :: es) (gCons t u) := by
  intro pins s σ H vs us Q I r h
  obtain ⟨v, vr, e1, h⟩ := h
  subst e1
  cases r with
  | cons r rr =>
    rw [hs]
    refine assignInOrder_cons (thn (h1 pins s σ H _ _ _ I r h) fun _ s1 ⟨σ1, H1, I1, q1⟩ => ?_)
    exact h2 pins s1 σ1 H1 _ _ Q I1 rr q1
def gTup (K : PySem.W.Frag) (n : Nat) (t : TGs) : TG := fun v σ H Q => ∃ a xs, v = .ref a ∧ SqT K H a xs ∧ xs.length = n ∧ t xs σ H Q
theorem pg_tup {es : List Expr} {k : Nat} {t : TGs} {n : Nat} (hc : X.calm = true) (h : PGs X es t)
    (hn : (assignEach es X.env).length = n := by rfl) (hst : (assignEach es X.env).findIdx? (·.1) = none := by rfl) : PG X (.Tuple es k pos) (gTup X.K n t) := by
  intro pins s σ H v u Q I r hw
  obtain ⟨a, xs, e1, hq, hl, hw⟩ := hw
  subst e1
  cases r
  obtain ⟨its, rv, ht, hz⟩ := I.tuple hq
  refine assign_Tuple_tuple (I.ok.hd hc) ht (by simp [hn, ← hl, rv.length]) hst fun h' hx => ?_
  have I1 : Inv X pins σ H { s with heap := h' } := I.kept (t' := s.toks) fun b o e => hx b o (Nat.ne_of_lt (Heap.lt_size e)) e
  exact h pins _ σ H xs _ Q I1 (by simpa using rv) hw
def gSub (to ti : TE) (t : TSet) : TG := fun v σ H Q => to σ H fun o H1 => ti σ H1 fun i H2 => t o i v H2 fun H3 => Q σ H3
theorem pg_sub {o i : Expr} {to ti : TE} {t : TSet} (ho : PE X o to) (hi : PE X i ti) (hs : PSet X t)
    (ha : ∀ v, assign (.Subscript o i pos) X.env v = (do
      let ov ← holding [v] (eval o X.env)
      let iv ← holding [v, ov] (eval i X.env)
      standAt pos
      holding [v, ov, iv] (setItem ov iv v)
      release [v, ov, iv] []) := by intro _; rfl) : PG X (.Subscript o i pos) (gSub to ti t) := by
  intro pins s σ H v u Q I r h
  rw [ha]
  refine wpAny_bind (wpAny_holding (thn (ho pins s σ H _ I h) fun ov s1 ⟨x, H1, I1, r1, q1⟩ => ?_))
  refine wpAny_bind (wpAny_holding (thn (hi pins s1 σ H1 _ I1 q1) fun iv s2 ⟨y, H2, I2, r2, q2⟩ => ?_))
  refine wpAny_bind (wpAny_standAt (wpAny_bind (wpAny_holding (thn (hs pins s2 σ H2 x y v ov iv u _ I2 r1 r2 r q2) fun _ s3 ⟨H3, I3, q3⟩ => ?_))))
  exact wpAny_release ⟨σ, H3, I3, q3⟩
def tAsg (te : TE) (g : TG) : TS := fun D σ H => te σ H fun x H1 => g x σ H1 D.nx
theorem ps_asg {tg e : Expr} {te : TE} {g : TG} (he : PE X e te) (hg : PG X tg g) (hs : swapsWithSole [tg] e pos.line X.env = pure false := by rfl) (hw : swappedStores [tg] e X.env = pure none := by rfl)
    (h1 : (assignEach [tg] X.env).map (·.2) = [assign tg X.env] := by rfl) : PS X (.Assign [tg] e pos) (tAsg te g) := by
  intro pins s σ H D I h
  refine wpAny_Assign_stores (thn (he pins s σ H _ I h) fun v s1 ⟨x, H1, I1, r1, q1⟩ => ?_) hs hw
  rw [h1]
  exact thn (hg pins s1 σ H1 x v _ I1 r1 q1) fun _ s2 q => q
theorem ps_set {i : Nat} {x : Str} {e : Expr} {te : TE} {pos' : Pos} (hN : X.N.Nodup) (hi : X.N[i]? = some x) (hx : Loc X.env.scope x) (he : PE X e te) (hs : swapsWith e (some (.Name x pos')) pos.line X.env = pure false := by rfl) (hf : X.fn x = true ∨ X.env.scope.names.lookup x = some .local := by first | exact .inl rfl | exact .inr rfl | assumption) :
    PS X (.Assign [.Name x pos'] e pos) (tAsg te (gName i)) := by
  intro pins s σ H D I h
  refine wpAny_Assign_Name (thn (he pins s σ H _ I h) fun v s1 ⟨y, H1, I1, r1, q1⟩ => ?_) hs
  exact store_ok I1 hN hi hx r1 (fun s2 I2 => ⟨_, H1, I2, q1⟩) hf
def tAug (i : Nat) (te : TE) (ti : TIp) : TS := fun D σ H => ∃ x, σ[i]? = some (some x) ∧ te σ H fun y H1 => ti x y H1 fun z H2 => D.nx (σ.set i (some z)) H2
theorem ps_aug {i : Nat} {x : Str} {e : Expr} {te : TE} {op : Operator} {ti : TIp} {pos' : Pos} (hN : X.N.Nodup) (hi : X.N[i]? = some x) (hx : Loc X.env.scope x) (he : PE X e te) (ho : PIp X op ti) (hf : X.fn x = true ∨ X.env.scope.names.lookup x = some .local := by first | exact .inl rfl | exact .inr rfl | assumption) :
    PS X (.AugAssign (.Name x pos') op e pos) (tAug i te ti) := by
  intro pins s σ H D I h
  obtain ⟨v, e1, h⟩ := h
  obtain ⟨m, hn, hl⟩ := I.loc
  have vis : Vis X.env.scope x := by rcases hx with k | k; exact .inl k; exact .inr (.inl k)
  obtain ⟨u, r, l⟩ := hl i x v hi e1 vis
  refine wpAny_AugAssign_Name ?_
  have go : wpAny (model X.prog X.w) X.A (eval e X.env) (fun w s₂ => wpAny (model X.prog X.w) X.A (inplaceOp op u w) (fun r s₃ => wpAny (model X.prog X.w) X.A (storeName X.env x r) (fun _ => SP X pins D .next) X.xe s₃) X.xe s₂) X.xe s := by
    refine thn (he pins s σ H _ I h) fun w s1 ⟨y, H1, I1, r1, q1⟩ => ?_
    refine thn (ho pins s1 σ H1 v y u w _ I1 r r1 q1) fun z s2 ⟨zv, H2, I2, r2, q2⟩ => ?_
    exact store_ok I2 hN hi hx r2 (fun s3 I3 => ⟨_, H2, I3, q2⟩) hf
  rcases l with ⟨hk, hm⟩ | ⟨hk, c, hc, hcell⟩
  · exact wpAny_loadName_local I.ok.kind hk hn hm go
  · rcases hk with hk | hk
    · exact wpAny_loadName_cell I.ok.kind hk hc hcell go
    · rcases hx with k | k
      · have : X.env.scope.names.lookup x = some .free := hk
        rw [k] at this; cases this
      · have : X.env.scope.names.lookup x = some .free := hk
        rw [k] at this; cases this
def ipI (f : Int → Int → Int) : TIp := fun x y H Q => ∃ i j, x = .int i ∧ y = .int j ∧ Q (.int (f i j)) H
theorem ip_add : PIp X .Add (ipI fun i j => i + j) := by
  intro pins s σ H x y v u Q I r1 r2 h
  obtain ⟨i, j, e1, e2, q⟩ := h
  subst e1; subst e2
  obtain ⟨t, rfl⟩ := r1
  obtain ⟨t', rfl⟩ := r2
  exact iadd_int ⟨.int _, H, I.tok _, ⟨_, rfl⟩, q⟩
end

section
variable {X : Cx} {pos : Pos}
def tWhile (c : TT) (tb : TS) : TS := fun D σ H => ∃ W : Nat → St → Hp → Prop, (∃ m, W m σ H) ∧ ∀ m σ H, W m σ H →
  c σ H fun b H1 => if b = true then ∃ N : St → Hp → Prop, (∀ σ' H', N σ' H' → ∃ m', m' < m ∧ W m' σ' H') ∧ tb { D with nx := N, ct := N, bk := D.nx } σ H1 else D.nx σ H1
theorem ps_while {c : Expr} {body : List Stmt} {tc : TT} {tb : TS} (hp : PassesOwn (model X.prog X.w) X.A X.env X.xe) (hc : PT X c tc) (hb : PSs X body tb) : PS X (.While c body [] pos) (tWhile tc tb) := by
  intro pins s σ H D I h
  obtain ⟨W, ⟨m0, w0⟩, turn⟩ := h
  refine wpAny_While (codeAny_whileLoop (fun n s' => ∃ σ' H', Inv X pins σ' H' s' ∧ W n σ' H') ?_ m0 ⟨σ, H, I, w0⟩)
  rintro n s1 ⟨σ1, H1, I1, w1⟩
  refine wpAny_passesOwn hp (thn (hc pins s1 σ1 H1 _ I1 (turn n σ1 H1 w1)) fun b s2 ⟨H2, I2, q2⟩ => ?_)
  cases b with
  | true =>
    obtain ⟨N, hN, q2⟩ := q2
    rw [if_pos rfl]
    refine wpAny_passesOwn hp (thn (hb pins s2 σ1 H2 _ I2 q2) fun f s3 q3 => ?_)
    cases f with
    | next =>
      obtain ⟨σ3, H3, I3, n3⟩ := q3
      obtain ⟨m', hm, w3⟩ := hN σ3 H3 n3
      exact ⟨m', hm, σ3, H3, I3, w3⟩
    | cont =>
      obtain ⟨σ3, H3, I3, n3⟩ := q3
      obtain ⟨m', hm, w3⟩ := hN σ3 H3 n3
      exact ⟨m', hm, σ3, H3, I3, w3⟩
    | brk => exact q3
    | ret v => exact q3
  | false =>
    rw [if_neg Bool.false_ne_true]
    exact wpAny_execs_nil ⟨σ1, H2, I2, q2⟩
end

structure It where
  go : Nat → Hp → Prop
  yld : Nat → Hp → V → Hp → Prop
  stop : Nat → Hp → Prop
def FpOk (X : Cx) (pins : List (Addr × Obj)) (H : Hp) (b : Addr) : Prop :=
  H b = none ∧ b ≠ X.env.locals ∧ b ∉ X.fs ∧ (b ∈ X.ex ∨ X.s₀.heap.objs.size ≤ b) ∧ (∀ x c, X.env.cells.lookup x = some c → c ≠ b) ∧ ∀ p ∈ X.pn ++ pins, p.1 ≠ b
theorem Inv.fpOk {X : Cx} {pins : List (Addr × Obj)} {σ : St} {H H' : Hp} {s : Shared} {b : Addr} (I : Inv X pins σ H s) (hb : s.heap.objs.size ≤ b) (hn : H' b = none) : FpOk X pins H' b := by
  refine ⟨hn, Nat.ne_of_gt (Nat.lt_of_lt_of_le I.lt hb), I.nofs hb, .inr (Nat.le_trans I.sz hb), fun x c e z => ?_, fun p hp z => ?_⟩
  · obtain ⟨v, q⟩ := I.cell x c e
    exact absurd (Nat.lt_of_lt_of_le q.lt (by rw [z]; exact hb)) (Nat.lt_irrefl _)
  · exact absurd (Nat.lt_of_lt_of_le (Heap.lt_size (I.pin p hp).1) (by rw [z]; exact hb)) (Nat.lt_irrefl _)
structure Turn (P : Program) (w : World) (K : PySem.W.Frag) (tg : Expr) (J : It) (fp : List Addr) (it : Addr) (tn : Nat → Heap → Prop) : Prop where
  mem : it ∈ fp
  obj : ∀ i h, tn i h → ∀ b ∈ fp, ∃ o, h.get? b = some o ∧ ∀ v, o.data ≠ .cell v
  keep : ∀ i h h', tn i h → (∀ b ∈ fp, ∀ o, h.get? b = some o → h'.get? b = some o) → tn i h'
  item : ∀ (X : Cx), X.prog = P → X.w = w → X.K = K → X.calm = true → ∀ (i : Nat) (pins : List (Addr × Obj)) (s : Shared) (σ : St) (H : Hp) (E : Value → Shared → Prop), Inv X pins σ H s → (∀ b ∈ fp, FpOk X pins H b) → tn i s.heap → J.go i H →
    wpAny (model P w) X.A (pyNext (.ref it)) (fun r s1 => ∃ u, r = some u ∧
      wpAny (model P w) X.A (letOwnedTupleGo tg (.ref it) u) (fun _ s2 => ∃ x H', Inv X pins σ H' s2 ∧ RelV x u ∧ J.yld i H x H' ∧ tn (i + 1) s2.heap ∧ ∀ b ∈ fp, H' b = none) E s1) E s
  done : ∀ (X : Cx), X.prog = P → X.w = w → X.K = K → X.calm = true → ∀ (i : Nat) (pins : List (Addr × Obj)) (s : Shared) (σ : St) (H : Hp) (E : Value → Shared → Prop), Inv X pins σ H s → (∀ b ∈ fp, FpOk X pins H b) → tn i s.heap → J.stop i H →
    wpAny (model P w) X.A (pyNext (.ref it)) (fun r s1 => r = none ∧ Inv X pins σ H s1) E s
  self : ∀ (A : Around) (i : Nat) (s : Shared) (Q : Value → Shared → Prop) (E : Value → Shared → Prop), tn i s.heap → Q (.ref it) s → wpAny (model P w) A (pyIter (.ref it)) Q E s
abbrev TI := St → Hp → (It → Hp → Prop) → Prop
def PIE (X : Cx) (pins : List (Addr × Obj)) (σ : St) (tg : Expr) (R : It → Hp → Prop) (itv : Value) (s2 : Shared) : Prop :=
  ∃ (it : Addr) (fp : List Addr) (tn : Nat → Heap → Prop) (J : It) (H' : Hp), itv = .ref it ∧ Inv X pins σ H' s2 ∧ Turn X.prog X.w X.K tg J fp it tn ∧ tn 0 s2.heap ∧ (∀ b ∈ fp, FpOk X pins H' b) ∧ R J H'
def PI (X : Cx) (tg iter : Expr) (wi : TI) : Prop :=
  ∀ (pins : List (Addr × Obj)) (s : Shared) (σ : St) (H : Hp) (R : It → Hp → Prop), Inv X pins σ H s → wi σ H R →
    wpAny (model X.prog X.w) X.A (eval iter X.env) (fun v s1 => wpAny (model X.prog X.w) X.A (pyIter v) (PIE X pins σ tg R) X.xe s1) X.xe s

theorem go_of {M : Model} {A : Around} {E : Value → Shared → Prop} {s : Shared} {tg : Expr} {it : Addr} {u : Value} {o : Obj} {n : String} {vs : Array Value} {Q : Unit → Shared → Prop} (ho : s.heap.get? it = some o) (hc : o.cls = .type n) (hd : o.data = .fields vs)
    (hn : ["enumerate", "zip", "dict_itemiterator", "dict_reverseitemiterator", "odict_iterator", "itertools.zip_longest", "itertools.pairwise"].contains n = false) (hQ : Q () s) : wpAny M A (letOwnedTupleGo tg (.ref it) u) Q E s := by
  unfold letOwnedTupleGo
  cases tg <;> first
    | exact wpAny_pure hQ
    | (cases u <;> first
        | exact wpAny_pure hQ
        | (refine wpAny_bind (wpAny_load ho ?_)
           rw [hc, hd]
           show wpAny M A (if (["enumerate", "zip", "dict_itemiterator", "dict_reverseitemiterator", "odict_iterator", "itertools.zip_longest", "itertools.pairwise"].contains n && vs[0]? == some (rawInt _)) = true then _ else _) Q E s
           rw [if_neg (by intro h; rw [hn, Bool.false_and] at h; cases h)]
           exact wpAny_pure hQ))

def Itl (K : PySem.W.Frag) (a : Addr) : It :=
  ⟨fun i H => ∃ xs x, SqL K H a xs ∧ xs[i]? = some x, fun i H x H' => H' = H ∧ ∀ xs, SqL K H a xs → xs[i]? = some x, fun i H => ∃ xs, SqL K H a xs ∧ xs.length ≤ i⟩
def Itt (K : PySem.W.Frag) (a : Addr) : It :=
  ⟨fun i H => ∃ xs x, SqT K H a xs ∧ xs[i]? = some x, fun i H x H' => H' = H ∧ ∀ xs, SqT K H a xs → xs[i]? = some x, fun i H => ∃ xs, SqT K H a xs ∧ xs.length ≤ i⟩
def Itr (lo : Int) (n : Nat) : It := ⟨fun i _ => i < n, fun i H x H' => H' = H ∧ x = .int (lo + i), fun i _ => n ≤ i⟩
theorem turn_list {P : Program} {w : World} {K : PySem.W.Frag} {tg : Expr} (a it : Addr) : Turn P w K tg (Itl K a) [it] it (fun i h => h.IsListIter it a i) where
  mem := by simp
  obj := fun i h st b hb => by
    have e : b = it := by simpa using hb
    subst e
    obtain ⟨o, e, c, d⟩ := st
    exact ⟨o, e, fun v z => by rw [d] at z; cases z⟩
  keep := fun i h h' st k => st.at fun o e => k it (by simp) o e
  item := by
    intro X hP hw hK hc i pins s σ H E I hf st hg
    subst hP hw hK
    obtain ⟨xs, x, hq, hx⟩ := hg
    obtain ⟨its, rv, p, hz⟩ := I.list hq
    obtain ⟨u, hu, ru⟩ := rv.get hx
    obtain ⟨f0, f1, f2, f3, f4, f5⟩ := hf it (by simp)
    refine wpAny_pyNext_list_item st p.isList (x := u) (by simpa using hu) fun h' st' sb => ?_
    have I1 : Inv X pins σ H { s with heap := h' } := I.turned (t' := s.toks) (fun b o hb e => (sb.2 b hb).trans e) f0 f1 f3 f4 f5
    obtain ⟨o, e, c, d⟩ := id st'
    exact ⟨u, rfl, go_of (s := { s with heap := h' }) e c d (by decide) ⟨x, H, I1, ru, ⟨rfl, fun ys hy => by rw [I.list_inj hy hq]; exact hx⟩, st', fun b hb => (hf b hb).1⟩⟩
  done := by
    intro X hP hw hK hc i pins s σ H E I hf st hg
    subst hP hw hK
    obtain ⟨xs, hq, hx⟩ := hg
    obtain ⟨its, rv, p, hz⟩ := I.list hq
    obtain ⟨f0, f1, f2, f3, f4, f5⟩ := hf it (by simp)
    have hl := rv.length
    exact wpAny_pyNext_list_end (I.ok.hd hc) st p.isList (by simp; omega) fun h' eb => ⟨rfl, I.turned (t' := s.toks) (fun b o hb e => eb b o hb e) f0 f1 f3 f4 f5⟩
  self := fun _ _ _ _ _ st h => wpAny_pyIter_listiter st h
theorem turn_tuple {P : Program} {w : World} {K : PySem.W.Frag} {tg : Expr} (a it : Addr) : Turn P w K tg (Itt K a) [it] it (fun i h => h.IsTupleIter it a i) where
  mem := by simp
  obj := fun i h st b hb => by
    have e : b = it := by simpa using hb
    subst e
    obtain ⟨o, e, c, d⟩ := st
    exact ⟨o, e, fun v z => by rw [d] at z; cases z⟩
  keep := fun i h h' st k => st.at fun o e => k it (by simp) o e
  item := by
    intro X hP hw hK hc i pins s σ H E I hf st hg
    subst hP hw hK
    obtain ⟨xs, x, hq, hx⟩ := hg
    obtain ⟨its, rv, p, hz⟩ := I.tuple hq
    obtain ⟨u, hu, ru⟩ := rv.get hx
    obtain ⟨f0, f1, f2, f3, f4, f5⟩ := hf it (by simp)
    refine wpAny_pyNext_tuple_item st (show s.heap.IsTuple a its.toArray from p) (x := u) (by simpa using hu) fun h' st' sb => ?_
    have I1 : Inv X pins σ H { s with heap := h' } := I.turned (t' := s.toks) (fun b o hb e => (sb.2 b hb).trans e) f0 f1 f3 f4 f5
    obtain ⟨o, e, c, d⟩ := id st'
    exact ⟨u, rfl, go_of (s := { s with heap := h' }) e c d (by decide) ⟨x, H, I1, ru, ⟨rfl, fun ys hy => by rw [I.tuple_inj hy hq]; exact hx⟩, st', fun b hb => (hf b hb).1⟩⟩
  done := by
    intro X hP hw hK hc i pins s σ H E I hf st hg
    subst hP hw hK
    obtain ⟨xs, hq, hx⟩ := hg
    obtain ⟨its, rv, p, hz⟩ := I.tuple hq
    obtain ⟨f0, f1, f2, f3, f4, f5⟩ := hf it (by simp)
    have hl := rv.length
    exact wpAny_pyNext_tuple_end (I.ok.hd hc) st (show s.heap.IsTuple a its.toArray from p) (by simp; omega) fun h' eb => ⟨rfl, I.turned (t' := s.toks) (fun b o hb e => eb b o hb e) f0 f1 f3 f4 f5⟩
  self := fun _ _ _ _ _ st h => wpAny_pyIter_tupleiter st h
theorem turn_range {P : Program} {w : World} {K : PySem.W.Frag} {tg : Expr} (it : Addr) (lo : Int) (n : Nat) : Turn P w K tg (Itr lo n) [it] it (fun i h => IsRangeIter h it (lo + (i : Nat) * 1) ((n : Int) - (i : Nat)) 1) where
  mem := by simp
  obj := fun i h st b hb => by
    have e : b = it := by simpa using hb
    subst e
    exact ⟨_, st, fun v z => by
      have z' : Data.fields _ = Data.cell v := z
      cases z'⟩
  keep := fun i h h' st k => k it (by simp) _ st
  item := by
    intro X hP hw hK hc i pins s σ H E I hf st hg
    subst hP hw hK
    obtain ⟨f0, f1, f2, f3, f4, f5⟩ := hf it (by simp)
    have W := Walks.range (prog := X.prog) (w := X.w) (I.ok.hd hc) it lo 1 n
    refine W.item i s _ _ hg st fun v h' tk hv st' kk => ?_
    obtain ⟨t, rfl⟩ := hv
    have I1 : Inv X pins σ H { s with heap := h', toks := tk } := I.turned (fun b o hb e => kk b o (by simpa using hb) e) f0 f1 f3 f4 f5
    refine ⟨_, rfl, go_of (s := { s with heap := h', toks := tk }) (n := "range_iterator") st' rfl rfl (by decide) ⟨.int (lo + i), H, I1, ⟨t, ?_⟩, ⟨rfl, rfl⟩, st', fun b hb => (hf b hb).1⟩⟩
    rw [Int.mul_one]
  done := by
    intro X hP hw hK hc i pins s σ H E I hf st hg
    subst hP hw hK
    obtain ⟨f0, f1, f2, f3, f4, f5⟩ := hf it (by simp)
    exact wpAny_pyNext_range_end (I.ok.hd hc) st (by have : n ≤ i := hg; omega) fun h' eb => ⟨rfl, I.turned (t' := s.toks) (fun b o hb e => eb b o hb e) f0 f1 f3 f4 f5⟩
  self := fun _ _ _ _ _ st h => wpAny_pyIter_rangeiter st h
end L2

namespace L2
open PySem PySem.Spec PyProof.Rows
section
variable {X : Cx} {tg : Expr}
theorem range_it {pins : List (Addr × Obj)} {σ : St} {H : Hp} {s : Shared} {R : It → Hp → Prop} {E : Value → Shared → Prop} {lo hi : Int} {t u v : Tok} {tk : Nat} (I : Inv X pins σ H s) (h1 : -(2 ^ 62) ≤ lo) (h2 : lo < 2 ^ 62) (h3 : -(2 ^ 62) ≤ hi) (h4 : hi < 2 ^ 62)
    (q : R (Itr lo (hi - lo).toNat) H) : wpAny (model X.prog X.w) X.A (pyIter (.ref s.heap.objs.size)) (PIE X pins σ tg R) E { s with heap := s.heap.push { cls := .type "range", data := .fields #[.int lo t, .int hi u, .int 1 v] }, toks := tk } := by
  refine wpAny_pyIter_range (IsRange.new ..) (small_one h1 h2 h3 h4) ?_
  have I1 : Inv X pins σ H { s with heap := s.heap.push { cls := .type "range", data := .fields #[.int lo t, .int hi u, .int 1 v] }, toks := tk } := I.kept fun b o e => Heap.get?_push_of_some _ e
  refine ⟨(s.heap.push { cls := .type "range", data := .fields #[.int lo t, .int hi u, .int 1 v] }).objs.size, [(s.heap.push { cls := .type "range", data := .fields #[.int lo t, .int hi u, .int 1 v] }).objs.size], _, _, H, rfl,
    I1.kept (t' := tk) fun b o e => Heap.get?_push_of_some _ e, turn_range _ lo (hi - lo).toNat, ?_, fun b hb => ?_, q⟩
  · have e1 : lo + ((0 : Nat) : Int) * 1 = lo := by simp
    have e2 : (((hi - lo).toNat : Nat) : Int) - ((0 : Nat) : Int) = Builtin.Range.rangeSize lo hi 1 := by rw [rangeSize_one]; split <;> omega
    show IsRangeIter _ _ (lo + ((0 : Nat) : Int) * 1) ((((hi - lo).toNat : Nat) : Int) - ((0 : Nat) : Int)) 1
    rw [e1, e2]
    exact Heap.get?_push_size _ rfl
  · have e : b = (s.heap.push { cls := .type "range", data := .fields #[.int lo t, .int hi u, .int 1 v] }).objs.size := by simpa using hb
    subst e
    exact I1.fpOk (Nat.le_refl _) (I1.hok.fresh (Nat.le_refl _))
def iRng1 (ta : TA) : TI := fun σ H R => ta σ H fun vs H1 => ∃ j : Int, vs = [.int j] ∧ -(2 ^ 62) ≤ j ∧ j < 2 ^ 62 ∧ R (Itr 0 j.toNat) H1
theorem pi_range1 {a : Expr} {ta : TA} {p pos : Pos} (hg : Gl X "range") (hm : X.mg "range" = none) (ha : PA X [a] ta) (hs : starEach [a] X.env = [(false, eval a X.env)] := by rfl) : PI X tg (.Call (.Name "range" p) [a] [] pos) (iRng1 ta) := by
  intro pins s σ H R I h
  refine Call_ (ld_blt I hg hm boot_range (PyProof.Rows.callWith_type1 (thn (ha pos pins s σ H _ I h) fun us s1 ⟨vs, H1, I1, r1, q1⟩ => ?_) hs rfl))
  obtain ⟨j, e, q1, q2, q⟩ := q1
  subst e
  cases r1 with
  | cons r rr =>
    cases rr
    obtain ⟨t, rfl⟩ := r
    exact call_range_1 (range_it I1 (by omega) (by omega) q1 q2 (by simpa using q))
def tFor (wi : TI) (g : TG) (tb : TS) : TS := fun D σ H => wi σ H fun J H1 => ∃ W : Nat → Nat → St → Hp → Prop, (∃ m, W 0 m σ H1) ∧ ∀ i m σ H, W i m σ H →
  (J.stop i H ∧ D.nx σ H) ∨ (J.go i H ∧ ∃ N : St → Hp → Prop, (∀ σ' H', N σ' H' → ∃ m', m' < m ∧ W (i + 1) m' σ' H') ∧ ∀ x H', J.yld i H x H' → g x σ H' fun σ2 H2 => tb { D with nx := N, ct := N, bk := D.nx } σ2 H2)
def pinsAt (fp : List Addr) (h : Heap) : List (Addr × Obj) := fp.filterMap fun b => (h.get? b).map fun o => (b, o)
theorem mem_pinsAt {fp : List Addr} {h : Heap} {b : Addr} {o : Obj} (hb : b ∈ fp) (e : h.get? b = some o) : (b, o) ∈ pinsAt fp h := List.mem_filterMap.mpr ⟨b, hb, by rw [e]; rfl⟩
theorem of_pinsAt {fp : List Addr} {h : Heap} {p : Addr × Obj} (hp : p ∈ pinsAt fp h) : p.1 ∈ fp ∧ h.get? p.1 = some p.2 := by
  obtain ⟨b, hb, e⟩ := List.mem_filterMap.mp hp
  cases q : h.get? b with
  | none => rw [q] at e; cases e
  | some o =>
    rw [q] at e
    have e' : (b, o) = p := Option.some.inj e
    subst e'
    exact ⟨hb, q⟩
theorem Inv.pinned {pins : List (Addr × Obj)} {σ : St} {H : Hp} {s : Shared} {fp : List Addr} (I : Inv X pins σ H s) (hf : ∀ b ∈ fp, FpOk X pins H b) (ho : ∀ b ∈ fp, ∃ o, s.heap.get? b = some o ∧ ∀ v, o.data ≠ .cell v) : Inv X (pins ++ pinsAt fp s.heap) σ H s :=
  I.pins_of fun p hp => (List.mem_append.mp hp).elim (fun z => I.pin p (List.mem_append_right _ z)) fun z => by
    obtain ⟨hb, e⟩ := of_pinsAt z
    obtain ⟨f0, f1, f2, _⟩ := hf p.1 hb
    obtain ⟨o, e', d⟩ := ho p.1 hb
    rw [e] at e'; cases e'
    exact ⟨e, f0, f1, f2, d⟩
theorem Inv.unpinned {pins pl : List (Addr × Obj)} {σ : St} {H : Hp} {s : Shared} (I : Inv X (pins ++ pl) σ H s) : Inv X pins σ H s := I.pins_of fun p hp => I.pin p (List.mem_append_right _ (List.mem_append_left _ hp))
theorem ps_for {iter : Expr} {body : List Stmt} {wi : TI} {g : TG} {tb : TS} {pos : Pos} (hp : PassesOwn (model X.prog X.w) X.A X.env X.xe) (hc : X.calm = true) (hi : PI X tg iter wi) (hg : PG X tg g) (hb : PSs X body tb)
    (hs : ∀ x, foldedSetIterable iter X.env x = pure x := by intro _; rfl) : PS X (.For tg iter body [] pos) (tFor wi g tb) := by
  intro pins s σ H D I h
  refine wpAny_For (thn (hi pins s σ H _ I h) fun v s1 h1 => thn h1 fun itv s2 h2 => ?_) hs
  obtain ⟨it, fp, tn, J, H2, e, I2, T, st2, f2, W, ⟨m0, w0⟩, turn⟩ := h2
  subst e
  -- what stays true of the iterator's objects through the loop
  have stat : ∀ {H' : Hp}, (∀ b ∈ fp, H' b = none) → ∀ b ∈ fp, FpOk X pins H' b := fun hn b hb => ⟨hn b hb, (f2 b hb).2⟩
  refine codeAny_forLoop_any (fun n s' => ∃ i σ' H', Inv X pins σ' H' s' ∧ tn i s'.heap ∧ (∀ b ∈ fp, H' b = none) ∧ W i n σ' H') ?_ m0 ⟨0, σ, H2, I2, st2, fun b hb => (f2 b hb).1, w0⟩
  rintro n s3 ⟨i, σ3, H3, I3, st3, fr3, w3⟩
  rcases turn i n σ3 H3 w3 with ⟨stop, qn⟩ | ⟨go, N, hN, step⟩
  · refine wpAny_passesOwn hp (thn (T.done X rfl rfl rfl hc i pins s3 σ3 H3 X.xe I3 (stat fr3) st3 stop) fun r s4 ⟨hr, I4⟩ => ?_)
    subst hr
    exact wpAny_execs_nil ⟨σ3, H3, I4, qn⟩
  · refine wpAny_passesOwn hp (thn (T.item X rfl rfl rfl hc i pins s3 σ3 H3 X.xe I3 (stat fr3) st3 go) fun r s4 ⟨u, hr, h4⟩ => ?_)
    subst hr
    refine wpAny_passesOwn hp (thn h4 fun _ s5 ⟨x, H5, I5, r5, y5, st5, fr5⟩ => ?_)
    have I5' := I5.pinned (stat fr5) (T.obj _ _ st5)
    refine wpAny_passesOwn hp (thn (hg _ s5 σ3 H5 x u _ I5' r5 (step x H5 y5)) fun _ s6 ⟨σ6, H6, I6, q6⟩ => ?_)
    refine wpAny_passesOwn hp (thn (hb _ s6 σ6 H6 _ I6 q6) fun f s7 q7 => ?_)
    have again : ∀ {σ7 : St} {H7 : Hp}, Inv X (pins ++ pinsAt fp s5.heap) σ7 H7 s7 → N σ7 H7 → ∃ m, m < n ∧ ∃ i σ' H', Inv X pins σ' H' s7 ∧ tn i s7.heap ∧ (∀ b ∈ fp, H' b = none) ∧ W i m σ' H' := fun {σ7 H7} I7 n7 => by
      obtain ⟨m', hm, w7⟩ := hN σ7 H7 n7
      refine ⟨m', hm, i + 1, σ7, H7, I7.unpinned, T.keep _ _ _ st5 fun b hb o e => (I7.pin (b, o) (List.mem_append_right _ (List.mem_append_right _ (mem_pinsAt hb e)))).1, fun b hb => ?_, w7⟩
      obtain ⟨o, e, d⟩ := T.obj _ _ st5 b hb
      exact (I7.pin (b, o) (List.mem_append_right _ (List.mem_append_right _ (mem_pinsAt hb e)))).2.1
    cases f with
    | next => obtain ⟨σ7, H7, I7, n7⟩ := q7; exact again I7 n7
    | cont => obtain ⟨σ7, H7, I7, n7⟩ := q7; exact again I7 n7
    | brk => obtain ⟨σ7, H7, I7, q7⟩ := q7; exact ⟨σ7, H7, I7.unpinned, q7⟩
    | ret v => obtain ⟨x7, σ7, H7, I7, r7, q7⟩ := q7; exact ⟨x7, σ7, H7, I7.unpinned, r7, q7⟩
end

end L2

namespace L2
open PySem PySem.Spec PyProof.Rows

abbrev R2 := V → V → Hp → VK → Prop
def OpR (X : Cx) (f : Value → Value → Sem Value) (r : R2) : Prop :=
  ∀ (pins : List (Addr × Obj)) (s : Shared) (σ : St) (H : Hp) (x y : V) (v u : Value) (Q : VK), Inv X pins σ H s → RelV x v → RelV y u → r x y H Q →
    wpAny (model X.prog X.w) X.A (f v u) (EP X pins σ Q) X.xe s
def UnR (X : Cx) (f : Value → Sem Value) (r : V → Hp → VK → Prop) : Prop :=
  ∀ (pins : List (Addr × Obj)) (s : Shared) (σ : St) (H : Hp) (x : V) (v : Value) (Q : VK), Inv X pins σ H s → RelV x v → r x H Q →
    wpAny (model X.prog X.w) X.A (f v) (EP X pins σ Q) X.xe s
def CallR (X : Cx) (f : Value) (r : List V → Hp → VK → Prop) : Prop :=
  ∀ (pins : List (Addr × Obj)) (s : Shared) (σ : St) (H : Hp) (xs : List V) (us : List Value) (Q : VK), Inv X pins σ H s → Vals xs us → r xs H Q →
    wpAny (model X.prog X.w) X.A (call f us) (EP X pins σ Q) X.xe s
def tOp (r : R2) (ta tb : TE) : TE := fun σ H Q => ta σ H fun x H1 => tb σ H1 fun y H2 => r x y H2 Q
def tUn (r : V → Hp → VK → Prop) (ta : TE) : TE := fun σ H Q => ta σ H fun x H1 => r x H1 Q
def rI (C : Int → Int → Prop) (g : Int → Int → V) : R2 := fun x y H Q => ∃ i j, x = .int i ∧ y = .int j ∧ C i j ∧ Q (g i j) H
def rI0 (g : Int → Int → V) : R2 := fun x y H Q => ∃ i j, x = .int i ∧ y = .int j ∧ Q (g i j) H
def rU (g : Int → V) : V → Hp → VK → Prop := fun x H Q => ∃ i, x = .int i ∧ Q (g i) H

section
variable {X : Cx} {a b c : Expr} {ta tb tc : TE} {pos : Pos}

theorem binT (ha : PE X a ta) (hb : PE X b tb) {pins : List (Addr × Obj)} {s : Shared} {σ : St} {H : Hp} {R : V → V → Hp → Prop} (I : Inv X pins σ H s)
    (h : ta σ H fun x H1 => tb σ H1 fun y H2 => R x y H2) {Q : Value → Shared → Prop} {f : Value → Value → Sem Value}
    (hf : ∀ v u s2 x y H2, Inv X pins σ H2 s2 → RelV x v → RelV y u → R x y H2 → wpAny (model X.prog X.w) X.A (f v u) Q X.xe s2) :
    wpAny (model X.prog X.w) X.A (eval a X.env) (fun v s₁ => wpAny (model X.prog X.w) X.A (eval b X.env) (fun u s₂ => wpAny (model X.prog X.w) X.A (f v u) Q X.xe s₂) X.xe s₁) X.xe s := by
  refine thn (ha pins s σ H _ I h) fun v s1 ⟨x, H1, I1, r1, q1⟩ => ?_
  refine thn (hb pins s1 σ H1 _ I1 q1) fun u s2 ⟨y, H2, I2, r2, q2⟩ => ?_
  exact hf v u s2 x y H2 I2 r1 r2 q2

theorem pe_op {op : Operator} {r : R2} (ho : OpR X (binaryOp op) r) (ha : PE X a ta) (hb : PE X b tb) : PE X (.BinOp a op b pos) (tOp r ta tb) := by
  intro pins s σ H Q I h
  exact wpAny_BinOp (binT ha hb I h fun v u s2 x y H2 I2 rx ry q => ho pins s2 σ H2 x y v u Q I2 rx ry q)
theorem pe_un {op : UnaryOp} {r : V → Hp → VK → Prop} (ho : UnR X (unaryOp op) r) (ha : PE X a ta) : PE X (.UnaryOp op a pos) (tUn r ta) := by
  intro pins s σ H Q I h
  exact UnaryOp_ (thn (ha pins s σ H _ I h) fun v s1 ⟨x, H1, I1, r1, q1⟩ => ho pins s1 σ H1 x v Q I1 r1 q1)
theorem opI {f : Value → Value → Sem Value} {C : Int → Int → Prop} {g : Int → Int → Int}
    (rule : ∀ (i j : Int) (t u : Tok) (s : Shared) (Q : Value → Shared → Prop) (E : Value → Shared → Prop), C i j → Q (.int (g i j) s.toks) { s with toks := s.toks + 1 } → wpAny (model X.prog X.w) X.A (f (.int i t) (.int j u)) Q E s) :
    OpR X f (rI C fun i j => .int (g i j)) := by
  intro pins s σ H x y v u Q I rx ry h
  obtain ⟨i, j, rfl, rfl, hc, q⟩ := h
  obtain ⟨t, rfl⟩ := rx
  obtain ⟨t', rfl⟩ := ry
  exact rule i j t t' s _ _ hc ⟨.int (g i j), H, I.tok _, ⟨_, rfl⟩, q⟩
theorem opI0 {f : Value → Value → Sem Value} {g : Int → Int → Int}
    (rule : ∀ (i j : Int) (t u : Tok) (s : Shared) (Q : Value → Shared → Prop) (E : Value → Shared → Prop), Q (.int (g i j) s.toks) { s with toks := s.toks + 1 } → wpAny (model X.prog X.w) X.A (f (.int i t) (.int j u)) Q E s) :
    OpR X f (rI0 fun i j => .int (g i j)) := by
  intro pins s σ H x y v u Q I rx ry h
  obtain ⟨i, j, rfl, rfl, q⟩ := h
  obtain ⟨t, rfl⟩ := rx
  obtain ⟨t', rfl⟩ := ry
  exact rule i j t t' s _ _ ⟨.int (g i j), H, I.tok _, ⟨_, rfl⟩, q⟩
theorem opB0 {f : Value → Value → Sem Value} {g : Int → Int → Bool}
    (rule : ∀ (i j : Int) (t u : Tok) (s : Shared) (Q : Value → Shared → Prop) (E : Value → Shared → Prop), Q (.bool (g i j)) s → wpAny (model X.prog X.w) X.A (f (.int i t) (.int j u)) Q E s) :
    OpR X f (rI0 fun i j => .bl (g i j)) := by
  intro pins s σ H x y v u Q I rx ry h
  obtain ⟨i, j, rfl, rfl, q⟩ := h
  obtain ⟨t, rfl⟩ := rx
  obtain ⟨t', rfl⟩ := ry
  exact rule i j t t' s _ _ ⟨.bl (g i j), H, I, rfl, q⟩

def CDiv (i j : Int) : Prop := 0 < j ∧ j < 1073741824
def CMul (i j : Int) : Prop := (-(2 ^ 64) < i ∧ i < 2 ^ 64) ∨ (-(2 ^ 64) < j ∧ j < 2 ^ 64)
theorem CMul.ok {i j : Int} (h : CMul i j) : IntMulOk i j := by
  rcases h with ⟨h1, h2⟩ | ⟨h1, h2⟩
  · exact .of_left (intBits_le_64 h1 h2)
  · exact .of_right (intBits_le_64 h1 h2)
theorem op_add : OpR X (binaryOp .Add) (rI0 fun i j => .int (i + j)) := opI0 fun _ _ _ _ _ _ _ q => add_int q
theorem op_sub : OpR X (binaryOp .Sub) (rI0 fun i j => .int (i - j)) := opI0 fun _ _ _ _ _ _ _ q => sub_int q
theorem op_mul : OpR X (binaryOp .Mult) (rI CMul fun i j => .int (i * j)) := opI fun _ _ _ _ _ _ _ hc q => mul_int q hc.ok
theorem op_fdiv : OpR X (binaryOp .FloorDiv) (rI CDiv fun i j => .int (i / j)) := opI fun i j _ _ _ _ _ hc q => by
  have h1 : (0 : Int) < j := hc.1
  have h2 : j < 1073741824 := hc.2
  exact floordiv_int (by omega) (by rw [Int.fdiv_eq_ediv_of_nonneg i (by omega)]; exact q) (.inl (PyProof.noPylong_small (by omega)))
theorem op_mod : OpR X (binaryOp .Mod) (rI (fun _ j => 0 < j) fun i j => .int (i % j)) := opI fun i j _ _ _ _ _ hc q => by
  have h1 : (0 : Int) < j := hc
  exact mod_int' (by omega) (by rw [Int.fmod_eq_emod_of_nonneg i (by omega)]; exact q)
theorem unI {f : Value → Sem Value} {g : Int → Int}
    (rule : ∀ (i : Int) (t : Tok) (s : Shared) (Q : Value → Shared → Prop) (E : Value → Shared → Prop), Q (.int (g i) s.toks) { s with toks := s.toks + 1 } → wpAny (model X.prog X.w) X.A (f (.int i t)) Q E s) :
    UnR X f (rU fun i => .int (g i)) := by
  intro pins s σ H x v Q I rx h
  obtain ⟨i, rfl, q⟩ := h
  obtain ⟨t, rfl⟩ := rx
  exact rule i t s _ _ ⟨.int (g i), H, I.tok _, ⟨_, rfl⟩, q⟩
theorem un_neg : UnR X (unaryOp .USub) (rU fun i => .int (-i)) := unI fun _ _ _ _ _ q => neg_int q
end

def scal : V → V → Bool
  | .non, .non => true | .non, .int _ => true | .int _, .non => true | .non, .bl _ => true | .bl _, .non => true | .non, .str _ => true | .str _, .non => true
  | .int _, .int _ => true | .bl _, .bl _ => true | .str _, .str _ => true | .byt _, .byt _ => true
  | .int _, .str _ => true | .str _, .int _ => true | .bl _, .str _ => true | .str _, .bl _ => true
  | _, _ => false
def rEq : R2 := fun x y H Q => scal x y = true ∧ Q (.bl (decide (x = y))) H
def rNe : R2 := fun x y H Q => scal x y = true ∧ Q (.bl (!decide (x = y))) H

theorem dec_int {i j : Int} : decide (V.int i = V.int j) = (i == j) := by
  rw [Bool.eq_iff_iff]
  simp
theorem dec_bl {i j : Bool} : decide (V.bl i = V.bl j) = (i == j) := by
  rw [Bool.eq_iff_iff]
  simp
theorem dec_str {i j : Str} : decide (V.str i = V.str j) = (i == j) := by
  rw [Bool.eq_iff_iff]
  simp
theorem dec_byt {i j : Array UInt8} : decide (V.byt i = V.byt j) = (i.toList == j.toList) := by
  rw [Bool.eq_iff_iff]
  cases i
  cases j
  simp

section
variable {X : Cx} {a b c : Expr} {ta tb tc : TE} {pos : Pos}
theorem fin_bl {pins : List (Addr × Obj)} {σ : St} {H : Hp} {s : Shared} {Q : VK} {k k' : Bool} (I : Inv X pins σ H s) (q : Q (.bl k) H) (e : k = k') : EP X pins σ Q (.bool k') s := by
  subst e
  exact ⟨.bl k, H, I, rfl, q⟩
theorem op_eq : OpR X (compareOp .Eq) rEq := by
  intro pins s σ H x y v u Q I rx ry h
  obtain ⟨hs, q⟩ := h
  cases x with
  | non =>
    cases rx
    cases y with
    | non => cases ry; exact PySem.EqNone.eq_none_none (fin_bl I q (by simp))
    | bl j => cases ry; exact PySem.EqNone.eq_none_bool (fin_bl I q (by simp))
    | int j => obtain ⟨t', rfl⟩ := ry; exact PySem.EqNone.eq_none_int (fin_bl I q (by simp))
    | str j => obtain ⟨t', rfl⟩ := ry; exact PySem.EqNone.eq_none_str (fin_bl I q (by simp))
    | _ => exact absurd (show false = true from hs) Bool.false_ne_true
  | bl i =>
    cases rx
    cases y with
    | non => cases ry; exact PySem.EqNone.eq_bool_none (fin_bl I q (by simp))
    | bl j => cases ry; exact eq_bool (fin_bl I q dec_bl)
    | str j => obtain ⟨t', rfl⟩ := ry; exact PySem.EqMixed.eq_bool_str (fin_bl I q (by simp))
    | _ => exact absurd (show false = true from hs) Bool.false_ne_true
  | int i =>
    obtain ⟨t, rfl⟩ := rx
    cases y with
    | non => cases ry; exact PySem.EqNone.eq_int_none (fin_bl I q (by simp))
    | int j => obtain ⟨t', rfl⟩ := ry; exact eq_int (fin_bl I q dec_int)
    | str j => obtain ⟨t', rfl⟩ := ry; exact PySem.EqMixed.eq_int_str (fin_bl I q (by simp))
    | _ => exact absurd (show false = true from hs) Bool.false_ne_true
  | str i =>
    obtain ⟨t, rfl⟩ := rx
    cases y with
    | non => cases ry; exact PySem.EqNone.eq_str_none (fin_bl I q (by simp))
    | bl j => cases ry; exact PySem.EqMixed.eq_str_bool (fin_bl I q (by simp))
    | int j => obtain ⟨t', rfl⟩ := ry; exact PySem.EqMixed.eq_str_int (fin_bl I q (by simp))
    | str j => obtain ⟨t', rfl⟩ := ry; exact eq_str (fin_bl I q dec_str)
    | _ => exact absurd (show false = true from hs) Bool.false_ne_true
  | byt i =>
    obtain ⟨t, rfl⟩ := rx
    cases y with
    | byt j => obtain ⟨t', rfl⟩ := ry; exact PySem.W.eq_bytes (fin_bl I q dec_byt)
    | _ => exact absurd (show false = true from hs) Bool.false_ne_true
  | _ => cases y <;> exact absurd (show false = true from hs) Bool.false_ne_true
theorem op_ne : OpR X (compareOp .NotEq) rNe := by
  intro pins s σ H x y v u Q I rx ry h
  obtain ⟨hs, q⟩ := h
  cases x with
  | non =>
    cases rx
    cases y with
    | non => cases ry; exact PySem.EqNone.ne_none_none (fin_bl I q (by simp))
    | bl j => cases ry; exact PySem.EqNone.ne_none_bool (fin_bl I q (by simp))
    | int j => obtain ⟨t', rfl⟩ := ry; exact PySem.EqNone.ne_none_int (fin_bl I q (by simp))
    | str j => obtain ⟨t', rfl⟩ := ry; exact PySem.EqNone.ne_none_str (fin_bl I q (by simp))
    | _ => exact absurd (show false = true from hs) Bool.false_ne_true
  | bl i =>
    cases rx
    cases y with
    | non => cases ry; exact PySem.EqNone.ne_bool_none (fin_bl I q (by simp))
    | bl j => cases ry; exact ne_bool (fin_bl I q (congrArg not dec_bl))
    | str j => obtain ⟨t', rfl⟩ := ry; exact PySem.EqMixed.ne_bool_str (fin_bl I q (by simp))
    | _ => exact absurd (show false = true from hs) Bool.false_ne_true
  | int i =>
    obtain ⟨t, rfl⟩ := rx
    cases y with
    | non => cases ry; exact PySem.EqNone.ne_int_none (fin_bl I q (by simp))
    | int j => obtain ⟨t', rfl⟩ := ry; exact ne_int (fin_bl I q (congrArg not dec_int))
    | str j => obtain ⟨t', rfl⟩ := ry; exact PySem.EqMixed.ne_int_str (fin_bl I q (by simp))
    | _ => exact absurd (show false = true from hs) Bool.false_ne_true
  | str i =>
    obtain ⟨t, rfl⟩ := rx
    cases y with
    | non => cases ry; exact PySem.EqNone.ne_str_none (fin_bl I q (by simp))
    | bl j => cases ry; exact PySem.EqMixed.ne_str_bool (fin_bl I q (by simp))
    | int j => obtain ⟨t', rfl⟩ := ry; exact PySem.EqMixed.ne_str_int (fin_bl I q (by simp))
    | str j => obtain ⟨t', rfl⟩ := ry; exact ne_str (fin_bl I q (congrArg not dec_str))
    | _ => exact absurd (show false = true from hs) Bool.false_ne_true
  | byt i =>
    obtain ⟨t, rfl⟩ := rx
    cases y with
    | byt j => obtain ⟨t', rfl⟩ := ry; exact PySem.W.ne_bytes (fin_bl I q (congrArg not dec_byt))
    | _ => exact absurd (show false = true from hs) Bool.false_ne_true
  | _ => cases y <;> exact absurd (show false = true from hs) Bool.false_ne_true

theorem op_lt : OpR X (compareOp .Lt) (rI0 fun i j => .bl (decide (i < j))) := opB0 fun _ _ _ _ _ _ _ q => lt_int q
theorem op_gt : OpR X (compareOp .Gt) (rI0 fun i j => .bl (decide (j < i))) := opB0 fun _ _ _ _ _ _ _ q => gt_int q
theorem op_in_str : OpR X (compareOp .In) (fun x y H Q => ∃ i j, x = .str i ∧ y = .str j ∧ Q (.bl (!(Builtin.Str.occurrences j i 0 j.length 1).isEmpty)) H) := by
  intro pins s σ H x y v u Q I rx ry h
  obtain ⟨i, j, rfl, rfl, q⟩ := h
  obtain ⟨t, rfl⟩ := rx
  obtain ⟨t', rfl⟩ := ry
  exact in_str (fin_bl I q rfl)

theorem op_isN : OpR X (compareOp .Is) (fun x y H Q => y = .non ∧ Q (.bl (decide (x = .non))) H) := by
  intro pins s σ H x y v u Q I rx ry h
  obtain ⟨rfl, q⟩ := h
  cases ry
  refine is_none_gen (fin_bl I q ?_)
  cases x <;> first
    | (cases rx; rfl)
    | (obtain ⟨t, rfl⟩ := rx; rfl)
theorem OpR.or {f : Value → Value → Sem Value} {r r' : R2} (h : OpR X f r) (h' : OpR X f r') : OpR X f (fun x y H Q => r x y H Q ∨ r' x y H Q) := by
  intro pins s σ H x y v u Q I rx ry q
  rcases q with q | q
  · exact h pins s σ H x y v u Q I rx ry q
  · exact h' pins s σ H x y v u Q I rx ry q

theorem nomark (b : Expr) {op : CmpOp} (h : op ≠ .In := by decide) (h2 : op ≠ .NotIn := by decide) : behindInMarks op b = false := by
  have e1 : (op == CmpOp.In) = false := by cases op <;> first | rfl | exact absurd rfl h
  have e2 : (op == CmpOp.NotIn) = false := by cases op <;> first | rfl | exact absurd rfl h2
  cases b <;> simp [behindInMarks, e1, e2]
theorem pe_cmpR {op : CmpOp} {r : R2} (ho : OpR X (compareOp op) r) (ha : PE X a ta) (hb : PE X b tb) (hm : behindInMarks op b = false) : PE X (.Compare a [op] [b] pos) (tOp r ta tb) := by
  intro pins s σ H Q I h
  exact wpAny_Compare1 (binT ha hb I h fun v u s2 x y H2 I2 rx ry q => ho pins s2 σ H2 x y v u Q I2 rx ry q) hm
def tTest (t : TE) : TT := fun σ H Q => t σ H fun x H' => ∃ k, x = .bl k ∧ Q k H'
theorem pt_cmpR {op : CmpOp} {r : R2} (ho : OpR X (compareOp op) r) (ha : PE X a ta) (hb : PE X b tb) (hm : behindInMarks op b = false) : PT X (.Compare a [op] [b] pos) (tTest (tOp r ta tb)) := by
  intro pins s σ H Q I h
  refine wpAny_isTrue_Compare1 (thn (ha pins s σ H _ I h) fun v s1 ⟨x, H1, I1, r1, q1⟩ => thn (hb pins s1 σ H1 _ I1 q1) fun u s2 ⟨y, H2, I2, r2, q2⟩ =>
    thn (ho pins s2 σ H2 x y v u _ I2 r1 r2 q2) fun c s3 ⟨z, H3, I3, r3, k, e, q3⟩ => ?_) hm
  subst e
  cases r3
  exact wpAny_truthy_bool ⟨H3, I3, q3⟩
theorem line63 : (sizeLine : Nat) < 2 ^ 63 := by rw [sizeLine_eq]; decide
theorem op_add_str : OpR X (binaryOp .Add) (fun x y H Q => ∃ i j, x = .str i ∧ y = .str j ∧ i.length + j.length ≤ sizeLine ∧ Q (.str (i ++ j)) H) := by
  intro pins s σ H x y v u Q I rx ry h
  obtain ⟨i, j, rfl, rfl, hz, q⟩ := h
  obtain ⟨t, rfl⟩ := rx
  obtain ⟨t', rfl⟩ := ry
  exact add_str (fun t' tk => ⟨.str (i ++ j), H, I.tok _, ⟨_, rfl⟩, q⟩) hz
theorem vals1 {x : V} {us : List Value} (r : Vals [x] us) : ∃ u, us = [u] ∧ RelV x u := by
  cases r with
  | cons r1 r2 => cases r2; exact ⟨_, rfl, r1⟩
theorem vals2 {x y : V} {us : List Value} (r : Vals [x, y] us) : ∃ u w', us = [u, w'] ∧ RelV x u ∧ RelV y w' := by
  cases r with
  | cons r1 r2 =>
    cases r2 with
    | cons r3 r4 => cases r4; exact ⟨_, _, rfl, r1, r3⟩
theorem call_int1 : CallR X (.type "int") (fun xs H Q => (∃ i, xs = [.int i] ∧ Q (.int i) H) ∨ ∃ k, xs = [.bl k] ∧ Q (.int (if k then 1 else 0)) H) := by
  intro pins s σ H xs us Q I r h
  rcases h with ⟨i, rfl, q⟩ | ⟨k, rfl, q⟩
  · obtain ⟨u, rfl, t, rfl⟩ := vals1 r
    exact call_int_int ⟨.int i, H, I, ⟨_, rfl⟩, q⟩
  · obtain ⟨u, rfl, r1⟩ := vals1 r
    cases r1
    exact call_int_bool ⟨.int (if k then 1 else 0), H, I.tok _, ⟨_, rfl⟩, q⟩
end
end L2

namespace L2
open PySem PySem.Spec PyProof.Rows

structure ObjM (h : Heap) (x dx C : Addr) (mA : Str → Option Value) : Prop where
  obj : h.get? x = some (PySem.W.instObj C dx)
  ns : h.Ns1 dx mA
  ne : dx ≠ x

theorem lookIn_ns {h : Heap} {dx : Addr} {mA : Str → Option Value} (n : h.Ns1 dx mA) : ∃ od, h.get? dx = some od ∧ ∀ name, PySem.W.lookIn name od = some (mA name) := by
  obtain ⟨o, es, ep, ho, hd, hk, _, hm⟩ := n
  refine ⟨o, ho, fun name => ?_⟩
  have e := hm name
  unfold nsFind findBy at e
  rw [← Array.find?_toList] at e
  unfold PySem.W.lookIn
  rw [hd]
  dsimp only
  split
  · rename_i y q
    rw [q] at e
    exact congrArg some e
  · rename_i q
    rw [q] at e
    have a : es.toList.any (·.refKey) = false := by
      rw [List.any_eq_false]
      intro y hy
      obtain ⟨z, t, hkey⟩ := hk y (Array.mem_toList_iff.mp hy)
      simp [DictEntry.refKey, hkey]
    have a' : ¬ es.toList.any (·.refKey) = true := by rw [a]; exact Bool.false_ne_true
    rw [if_neg a']
    exact congrArg some e

theorem ObjM.look {h : Heap} {x dx C : Addr} {mA : Str → Option Value} (I : ObjM h x dx C mA) : ∃ od, PySem.W.InstAt h x (PySem.W.instObj C dx) C (some od) ∧ ∀ name, PySem.W.lookIn name od = some (mA name) :=
  let ⟨od, ho, hl⟩ := lookIn_ns I.ns
  ⟨od, ⟨I.obj, rfl, rfl, ho⟩, hl⟩

section
variable {prog : Program} {w : World} {A : Around} {E : Value → Shared → Prop} {s : Shared} {K : PySem.W.Frag} {x dx C f : Addr} {mA : Str → Option Value} {name : Str} {v : Value}

end

section
variable {P : Program} {w : World} {H H' : Hp} {h h' : Heap} {a C dx : Addr} {fs fs' : List (Str × V)}
theorem ins_get (hok : HOk P w H h) (e : H a = some (.ins C dx fs)) : ∃ mA, ObjM h a dx C mA ∧ (∀ f, RelO (fs.lookup f) (mA f)) ∧ PySem.Within mA (fs.map (·.1)) ∧ fs.length ≤ 1000 ∧ H dx = some (.own a) := by
  obtain ⟨d, z, ne, ob, mA, n, r, q⟩ := (show ObjOk P w H h a (.ins C dx fs) from hok a _ e)
  exact ⟨mA, ⟨ob, n, ne⟩, r, q, z, d⟩
end

structure Cls (K : PySem.W.Frag) (C : Addr) : Prop where
  pg : PySem.W.plainGet K C Str.empty = true
  hd : PySem.W.hasDictIn K C = true
  po : PySem.W.plainOver K C = true
  sa : PySem.W.findIn K (.ref C) "__setattr__" = some (some (.builtin "object.__setattr__"))
theorem Cls.get {K : PySem.W.Frag} {C : Addr} (c : Cls K C) (f : Str) : PySem.W.plainGet K C f = true := c.pg
section
variable {X : Cx} {pins : List (Addr × Obj)} {σ : St} {H : Hp} {s : Shared} {a C dx : Addr} {fs : List (Str × V)} {f : Str} {v : V} {A : Around} {E : Value → Shared → Prop}

theorem Inv.made (I : Inv X pins σ H s) : Inv X pins σ (upd (upd H s.heap.objs.size (.own (s.heap.objs.size + 1))) (s.heap.objs.size + 1) (.ins C s.heap.objs.size []))
    { s with heap := (s.heap.push PySem.W.emptyDict).push (PySem.W.instObj C s.heap.objs.size) } := by
  have e1 : (s.heap.push PySem.W.emptyDict).get? s.heap.objs.size = some PySem.W.emptyDict := Heap.get?_push_size s.heap rfl
  have e2 : ((s.heap.push PySem.W.emptyDict).push (PySem.W.instObj C s.heap.objs.size)).get? (s.heap.objs.size + 1) = some (PySem.W.instObj C s.heap.objs.size) := by
    have := Heap.get?_push_size (s.heap.push PySem.W.emptyDict) (o := PySem.W.instObj C s.heap.objs.size) rfl
    rwa [Heap.size_push] at this
  have e3 : (s.heap.push PySem.W.emptyDict).Ns s.heap.objs.size (fun _ => none) := ⟨PySem.W.emptyDict, #[], _, e1, rfl, (fun e he => absurd he (by simp)), fun _ => rfl⟩
  have I1 := I.laid (a := s.heap.objs.size) (o := .own (s.heap.objs.size + 1)) (h' := s.heap.push PySem.W.emptyDict) (t' := s.toks) (fun b u q => Heap.get?_push_of_some _ q) (Nat.le_refl _) ⟨_, e1⟩
  refine I1.laid (a := s.heap.objs.size + 1) (o := .ins C s.heap.objs.size []) (t' := s.toks) (fun b u q => Heap.get?_push_of_some _ q) (Nat.le_of_eq (Heap.size_push _ _)) ?_
  have ne : s.heap.objs.size ≠ s.heap.objs.size + 1 := Nat.ne_of_lt (Nat.lt_succ_self _)
  refine ⟨by rw [upd_ne ne, upd_same], Nat.zero_le _, ne, e2, fun _ => none, (Heap.Ns1.of_empty e3).at fun o q => Heap.get?_push_of_some _ q, fun _ => True.intro, fun y hy => absurd rfl hy⟩

end

section
variable {X : Cx} {o e value : Expr} {f : Str} {pos pos' tpos : Pos} {ta tv : TE}
end

section
variable {X : Cx} {pins : List (Addr × Obj)} {σ : St} {H : Hp} {s : Shared} {A : Around} {E : Value → Shared → Prop} {Q : Value → Shared → Prop} {c : Value} {b : Bool}
inductive TyOf (K : PySem.W.Frag) (H : Hp) : V → Value → Prop where
  | non : TyOf K H .non (.type "NoneType")
  | bl (x : Bool) : TyOf K H (.bl x) (.type "bool")
  | int (i : Int) : TyOf K H (.int i) (.type "int")
  | str (x : Str) : TyOf K H (.str x) (.type "str")
  | flt (x : UInt64) : TyOf K H (.flt x) (.type "float")
  | lst {a : Addr} {xs : List V} (e : H a = some (.lst xs)) : TyOf K H (.ref a) (.type "list")
  | frz {a : Addr} {o : Obj} {xs : List V} (e : H a = some (.frz o (.lst xs))) : TyOf K H (.ref a) (.type "list")
  | tup {a : Addr} {xs : List V} (e : H a = some (.tup xs)) : TyOf K H (.ref a) (.type "tuple")
  | dK {a : Addr} {kvs : List (Key × V)} (e : H a = some (.dK kvs)) : TyOf K H (.ref a) (.type "dict")
  | dT {a : Addr} {kvs : List (List Key × V)} (e : H a = some (.dT kvs)) : TyOf K H (.ref a) (.type "dict")
  | ins {a C dx : Addr} {fs : List (Str × V)} (e : H a = some (.ins C dx fs)) (cl : Cls K C) (ha : PySem.W.findIn K (.ref C) "__class__" = some (some (.builtin "object.__class__")))
      (hn : PySem.W.specialIn K (.builtin "object.__class__") "__get__" = some (some (.builtin "getset_descriptor.__get__"))) (htk : PySem.W.takesIn K (.builtin "object.__class__") = some true)
      (hm : PySem.W.mroIn K C (.type "object") = some true) : TyOf K H (.ref a) (.ref C)
theorem isinst_ok {x : V} {u t : Value} (I : Inv X pins σ H s) (rx : RelV x u) (ty : TyOf X.K H x t) (e : PySem.W.kitOne X.K t c = some b) (h : ∀ tk, Q (.bool b) { s with toks := tk }) :
    wpAny (model X.prog X.w) A (call (.builtin "isinstance") [u, c]) Q E s := by
  cases ty with
  | non => cases (show u = Value.none from rx); exact PySem.W.kia_one PySem.W.kitx_none I.kIn True.intro e (fun z => nomatch z) h
  | bl y => cases (show u = Value.bool y from rx); exact PySem.W.kia_one PySem.W.kitx_bool I.kIn True.intro e (fun z => nomatch z) h
  | int i => obtain ⟨t, q⟩ := (show ∃ t, u = Value.int i t from rx); cases q; exact PySem.W.kia_one PySem.W.kitx_int I.kIn True.intro e (fun z => nomatch z) h
  | str y => obtain ⟨t, q⟩ := (show ∃ t, u = Value.str y t from rx); cases q; exact PySem.W.kia_one PySem.W.kitx_str I.kIn True.intro e (fun z => nomatch z) h
  | flt y => obtain ⟨t, q⟩ := (show ∃ t, u = Value.float y t from rx); cases q; exact PySem.W.kia_one PySem.W.kitx_float I.kIn True.intro e (fun z => nomatch z) h
  | @lst a xs ea =>
    cases (show u = Value.ref a from rx)
    obtain ⟨_, _, n, _, h1⟩ := (show ObjOk X.prog X.w H s.heap a (.lst xs) from I.hok a _ ea)
    exact PySem.W.kia_one PySem.W.kitx_list I.kIn ⟨_, h1, rfl⟩ e (fun z => nomatch z) h
  | @frz a ob xs ea =>
    cases (show u = Value.ref a from rx)
    obtain ⟨_, _, _, n, _, h1⟩ := (show ObjOk X.prog X.w H s.heap a (.frz ob (.lst xs)) from I.hok a _ ea)
    exact PySem.W.kia_one PySem.W.kitx_list I.kIn ⟨_, h1, rfl⟩ e (fun z => nomatch z) h
  | @tup a xs ea =>
    cases (show u = Value.ref a from rx)
    obtain ⟨_, _, _, p⟩ := (show ObjOk X.prog X.w H s.heap a (.tup xs) from I.hok a _ ea)
    obtain ⟨o, h1, h2, _⟩ := p
    exact PySem.W.kia_one PySem.W.kitx_tuple I.kIn ⟨o, h1, h2⟩ e (fun z => nomatch z) h
  | @dK a kvs ea =>
    cases (show u = Value.ref a from rx)
    obtain ⟨_, _, vs, _, p⟩ := (show ObjOk X.prog X.w H s.heap a (.dK kvs) from I.hok a _ ea)
    obtain ⟨o, es, ep, h1, h2, _⟩ := p
    exact PySem.W.kia_one PySem.W.kitx_dict I.kIn ⟨o, h1, h2.1⟩ e (fun z => nomatch z) h
  | @dT a kvs ea =>
    cases (show u = Value.ref a from rx)
    obtain ⟨_, _, xs, _, o, es, ep, h1, h2, _⟩ := (show ObjOk X.prog X.w H s.heap a (.dT kvs) from I.hok a _ ea)
    exact PySem.W.kia_one PySem.W.kitx_dict I.kIn ⟨o, h1, h2.1⟩ e (fun z => nomatch z) h
  | @ins a C dx fs ea cl ha hn htk hm =>
    cases (show u = Value.ref a from rx)
    obtain ⟨mA, O, _⟩ := ins_get I.hok ea
    obtain ⟨od, J, _⟩ := O.look
    exact PySem.W.kia_one (PySem.W.kitx_own (cl.get _) cl.hd ha hn htk hm) I.kIn J e (fun z => nomatch z) h
end
end L2

namespace L2
open PySem PySem.Spec PyProof.Rows

structure Room (k : Nat) (A : Around) : Prop where
  hd : A.handled = none
  dp : A.depth + 3 * k + 5 < recursionLimit
  un : A.units + 16 * k + 200 < cLine
  gd : A.guards = some []
theorem Room.mono {j k : Nat} {A : Around} (r : Room k A) (h : j ≤ k) : Room j A := ⟨r.hd, by have := r.dp; omega, by have := r.un; omega, r.gd⟩
theorem Room.deeper {k : Nat} {A : Around} (r : Room (k + 1) A) (env : Env) : Room k (A.deeper env) :=
  ⟨r.hd, by have := r.dp; show A.depth + 1 + 3 * k + 5 < _; omega, by have := r.un; show A.units + 3 + 16 * k + 200 < _; omega, r.gd⟩
theorem Room.in1 {k : Nat} {A : Around} (r : Room (k + 1) A) : Room k A.in1 :=
  ⟨r.hd, by have := r.dp; show A.depth + 3 * k + 5 < _; omega, by have := r.un; show A.units + 1 + 16 * k + 200 < _; omega, r.gd⟩
theorem make_depth {A : Around} {C : Addr} {us : List Value} {kw : List (Str × Value)} : (A.under (.builtin "type.__call__" ⟨.ref C :: us, kw⟩)).depth = A.depth + 1 := by
  first | rfl | simp [Around.under, Code.weight, Code.isCreation, Code.isGuard, Code.isCaller, Code.frames, Code.isFrame, guardIds]
theorem make_units {A : Around} {C : Addr} {us : List Value} {kw : List (Str × Value)} : (A.under (.builtin "type.__call__" ⟨.ref C :: us, kw⟩)).units = A.units + 1 := by
  first | rfl | simp [Around.under, Code.cUnits, Code.frames, Code.isFrame]
theorem Room.make {k : Nat} {A : Around} (r : Room (k + 1) A) (C : Addr) (us : List Value) (kw : List (Str × Value)) : Room k (A.under (.builtin "type.__call__" ⟨.ref C :: us, kw⟩)) :=
  ⟨r.hd, by have := r.dp; rw [make_depth]; omega, by have := r.un; rw [make_units]; omega, by first | exact r.gd | (simp [Around.under, Code.isGuard, guardIds]; exact r.gd)⟩
theorem Room.depth {k : Nat} {A : Around} (r : Room k A) : A.depth < recursionLimit := by have := r.dp; omega
theorem Room.units {k : Nat} {A : Around} (r : Room k A) : A.units + 64 < cLine := by have := r.un; omega
def tNil : TA := fun _ H Q => Q [] H
def tCons (ta : TE) (tr : TA) : TA := fun σ H Q => ta σ H fun x H1 => tr σ H1 fun xs H2 => Q (x :: xs) H2
section
variable {X : Cx} {e : Expr} {es : List Expr} {te : TE} {t : TA} {pos : Pos}
theorem pa_nil : PA X [] tNil := fun _ _ _ _ H Q I h => Calls.spliced_nil ⟨[], H, I, .nil, h⟩
theorem pa_cons (ha : PE X e te) (hr : PA X es t) (hs : starEach (e :: es) X.env = (false, eval e X.env) :: starEach es X.env := by rfl) : PA X (e :: es) (tCons te t) := by
  intro pos pins s σ H Q I h
  rw [hs]
  show wpAny _ _ (spliced ((false, eval e X.env) :: backTo pos (starEach es X.env))) _ _ s
  refine Calls.spliced_cons (thn (ha pins s σ H _ I h) fun u s1 ⟨x, H1, I1, r1, q1⟩ => ?_)
  exact thn (hr pos pins s1 σ H1 _ I1 q1) fun us s2 ⟨xs, H2, I2, r2, q2⟩ => ⟨x :: xs, H2, I2, .cons r1 r2, q2⟩

def tTup (t : TA) : TE := fun σ H Q => t σ H fun xs H1 => xs.length ≤ sizeLine ∧ ∀ p, H1 p = none → Q (.ref p) (upd H1 p (.tup xs))
def tLst (t : TA) : TE := fun σ H Q => t σ H fun xs H1 => xs.length ≤ sizeLine ∧ ∀ p, H1 p = none → Q (.ref p) (upd H1 p (.lst xs))
theorem pe_tup {x1} (h : PA X es t) : PE X (.Tuple es x1 pos) (tTup t) := by
  intro pins s σ H Q I hq
  refine wpAny_Tuple_spliced (thn (h pos pins s σ H _ I hq) fun us s1 ⟨xs, H1, I1, r, z, q⟩ => ⟨by rw [← r.length]; exact z, ?_⟩)
  have hf : H1 s1.heap.objs.size = none := I1.hok.fresh (Nat.le_refl _)
  refine ⟨.ref s1.heap.objs.size, upd H1 s1.heap.objs.size (.tup xs), I1.laid (t' := s1.toks) (fun b u e => Heap.get?_push_of_some _ e) (Nat.le_refl _) ?_, rfl, q _ hf⟩
  exact ⟨z, us, r, ⟨_, Heap.get?_push_size _ rfl, rfl, _, rfl, rfl⟩⟩
theorem pe_lst (h : PA X es t) : PE X (.List es pos) (tLst t) := by
  intro pins s σ H Q I hq
  refine wpAny_List_spliced (thn (h pos pins s σ H _ I hq) fun us s1 ⟨xs, H1, I1, r, z, q⟩ => ⟨by rw [← r.length]; exact z, ?_⟩)
  have hf : H1 s1.heap.objs.size = none := I1.hok.fresh (Nat.le_refl _)
  refine ⟨.ref s1.heap.objs.size, upd H1 s1.heap.objs.size (.lst xs), I1.laid (t' := s1.toks) (fun b u e => Heap.get?_push_of_some _ e) (Nat.le_refl _) ?_, rfl, q _ hf⟩
  exact ⟨z, us, 0, r, Heap.get?_push_size _ rfl⟩
end

abbrev Sp := List V → Hp → VK → XK → Prop
abbrev CXT := List Env → Hp → Shared → XK → Value → Shared → Prop

structure Env0 (P : Program) (w : World) (K : PySem.W.Frag) (mg : Str → Option Value) (base : Heap) (A : Around) (outer : List Env) (s : Shared) (H : Hp) : Prop where
  frames : A.frames = some outer
  mod : Mod K mg base
  bs : ∀ b o, base.get? b = some o → s.heap.get? b = some o ∧ H b = none
  bsz : base.objs.size ≤ s.heap.objs.size
  funs : s.heap.FunFrames base outer
  frf : ∀ b ∈ frs outer, H b = none
  hok : HOk P w H s.heap
  bare : AllBare s.gens
def CE (outer : List Env) (P : Program) (w : World) (H : Hp) (s : Shared) (Q : VK) (u : Value) (s' : Shared) : Prop :=
  ∃ v H', s'.os = s.os ∧ AllBare s'.gens ∧ Un (frs outer) [] H H' s.heap s'.heap ∧ HOk P w H' s'.heap ∧ RelV v u ∧ Q v H'
def CR (CX : CXT) (outer : List Env) (P : Program) (w : World) (H : Hp) (s : Shared) (Q : VK) (E : XK) (r : Result) (s' : Shared) : Prop :=
  match r with
  | .ok (.ret u) => CE outer P w H s Q u s'
  | .ok _ => False
  | .error e => CX outer H s E e s'
structure FnOk (P : Program) (w : World) (K : PySem.W.Frag) (mg : Str → Option Value) (base : Heap) (CX : CXT) (k : Nat) (f : Addr) (fd : FuncData) (ps : List Str) (sp : Sp) : Prop where
  len : ∀ vs H Q E, sp vs H Q E → vs.length = ps.length
  run : ∀ (A : Around) (outer : List Env) (s : Shared) (H : Hp) (args : Args) (us : List Value) (vs : List V) (Q : VK) (E : XK), Room k A → Env0 P w K mg base A outer s H → BindsTo s fd args (ps.zip us) → Vals vs us → sp vs H Q E →
    codeAny (model P w) A (.call (.ref f) args) (CR CX outer P w H s Q E) s
theorem FnOk.mono {P : Program} {w : World} {K : PySem.W.Frag} {mg : Str → Option Value} {base : Heap} {CX : CXT} {j k : Nat} {f : Addr} {fd : FuncData} {ps : List Str} {sp : Sp} (F : FnOk P w K mg base CX j f fd ps sp) (h : j ≤ k) :
    FnOk P w K mg base CX k f fd ps sp := ⟨F.len, fun A outer s H args us vs Q E hr => F.run A outer s H args us vs Q E (hr.mono h)⟩
theorem FnOk.imp {P : Program} {w : World} {K : PySem.W.Frag} {mg : Str → Option Value} {base : Heap} {CX : CXT} {k : Nat} {f : Addr} {fd : FuncData} {ps : List Str} {sp sp' : Sp} (F : FnOk P w K mg base CX k f fd ps sp)
    (h : ∀ vs H Q E, sp' vs H Q E → sp vs H Q E) : FnOk P w K mg base CX k f fd ps sp' :=
  ⟨fun vs H Q E q => F.len vs H Q E (h _ _ _ _ q), fun A outer s H args us vs Q E hr he hb hv hs => F.run A outer s H args us vs Q E hr he hb hv (h _ _ _ _ hs)⟩

theorem Env0.make {P : Program} {w : World} {K : PySem.W.Frag} {mg : Str → Option Value} {base : Heap} {A : Around} {outer : List Env} {s : Shared} {H : Hp} (e : Env0 P w K mg base A outer s H) (C : Addr) (us : List Value) (kw : List (Str × Value)) :
    Env0 P w K mg base (A.under (.builtin "type.__call__" ⟨.ref C :: us, kw⟩)) outer s H := ⟨by first | exact e.frames | (simpa [Around.under, Code.envs, Code.isFrame, pushEnvs] using e.frames), e.mod, e.bs, e.bsz, e.funs, e.frf, e.hok, e.bare⟩
theorem Env0.in1 {P : Program} {w : World} {K : PySem.W.Frag} {mg : Str → Option Value} {base : Heap} {A : Around} {outer : List Env} {s : Shared} {H : Hp} (e : Env0 P w K mg base A outer s H) :
    Env0 P w K mg base A.in1 outer s H := ⟨e.frames, e.mod, e.bs, e.bsz, e.funs, e.frf, e.hok, e.bare⟩

section
variable {X : Cx} {pins : List (Addr × Obj)} {σ : St} {H : Hp} {s s' : Shared}
theorem Inv.env0 (I : Inv X pins σ H s) : Env0 X.prog X.w X.K X.mg X.base X.A X.stack s H :=
  ⟨I.ok.frames, I.ok.mod, I.bs, Nat.le_trans I.ok.bsz I.sz, I.stack, I.stkFree, I.hok, I.bare⟩
theorem Inv.after {Q : VK} {u : Value} (I : Inv X pins σ H s) (h : CE X.stack X.prog X.w H s Q u s') : EP X pins σ Q u s' := by
  obtain ⟨v, H', os, bare, un, hok, r, q⟩ := h
  obtain ⟨hh, g, d, t, os'⟩ := s'
  obtain rfl : os' = s.os := os
  exact ⟨v, H', I.call (h' := hh) (g' := g) (d' := d) (t' := t) (ch := []) un hok bare (fun b z => absurd z (by simp)), r, q⟩
end

def tCall (sp : Sp) (dvs : List V) (E : XK) (t : TA) : TE := fun σ H Q => t σ H fun vs H1 => sp (vs ++ dvs) H1 Q E
def Binds (K : PySem.W.Frag) (fd : FuncData) (ps : List Str) (ds : List Value) : Prop :=
  ∀ (s : Shared) (us : List Value), K.In s.heap → (us ++ ds).length = ps.length → BindsTo s fd ⟨us, []⟩ (ps.zip (us ++ ds))
theorem Binds.all {K : PySem.W.Frag} {fd : FuncData} {ps : List Str} (h : ∀ us : List Value, us.length = ps.length → bindArgs fd ⟨us, []⟩ = pure (ps.zip us)) : Binds K fd ps [] := fun s us _ hl => by
  rw [List.append_nil] at hl ⊢
  exact .of_eq (h us hl)

def Passes (CX : CXT) (X : Cx) (E : XK) : Prop := ∀ (pins : List (Addr × Obj)) (σ : St) (H : Hp) (s : Shared) (e : Value) (s' : Shared), Inv X pins σ H s → CX X.stack H s E e s' → X.xe e s'

section
variable {X : Cx} {CX : CXT} {k : Nat} {f C : Addr} {fd : FuncData} {ps : List Str} {sp : Sp} {dvs : List V} {ds : List Value} {E : XK} {x m : Str} {p pos apos : Pos} {e o : Expr} {es : List Expr} {ta : TE} {t : TA}

theorem run_fn {pins : List (Addr × Obj)} {σ : St} {H : Hp} {s : Shared} {Q : VK} {us : List Value} {vs : List V} (F : FnOk X.prog X.w X.K X.mg X.base CX k f fd ps sp) (hr : Room k X.A) (hb : Binds X.K fd ps ds) (hd : Vals dvs ds) (hx : Passes CX X E)
    (I : Inv X pins σ H s) (r : Vals vs us) (h : sp (vs ++ dvs) H Q E) : wpAny (model X.prog X.w) X.A (call (.ref f) us) (EP X pins σ Q) X.xe s := by
  have r2 : Vals (vs ++ dvs) (us ++ ds) := r.append hd
  have hl : (us ++ ds).length = ps.length := by rw [← r2.length]; exact F.len _ _ _ _ h
  refine wpAny_call (codeAny_mono (F.run X.A X.stack s H ⟨us, []⟩ (us ++ ds) (vs ++ dvs) Q E hr I.env0 (hb s us I.kIn hl) r2 h) fun r s' hq => ?_)
  cases r with
  | error e => exact hx pins σ H s e s' I hq
  | ok fl =>
    cases fl with
    | ret u => exact I.after hq
    | next => exact False.elim hq
    | brk => exact False.elim hq
    | cont => exact False.elim hq

theorem pe_call (F : FnOk X.prog X.w X.K X.mg X.base CX k f fd ps sp) (hr : Room k X.A) (hg : Gl X x) (hm : X.mg x = some (.ref f)) (hk : PySem.W.keepIn X.K (.ref f) = true) (hb : Binds X.K fd ps ds) (hd : Vals dvs ds) (hx : Passes CX X E)
    (ha : PA X (e :: es) t) (hdb : (x == ("__debug__" : Str)) = false := by decide) (he : starEach (e :: es) X.env = (false, eval e X.env) :: starEach es X.env := by rfl) (hpl : (backTo pos (starEach es X.env)).any (·.1) = false := by rfl) :
    PE X (.Call (.Name x p) (e :: es) [] pos) (tCall sp dvs E t) := by
  intro pins s σ H Q I h
  refine wpAny_Call_Name_kw (ld_glob I hg hm ?_ hdb)
  refine PySem.W.callWith_K (h₀ := X.base) I.ok.mod.kin hk (thn (ha pos pins s σ H _ I h) fun us s1 ⟨vs, H1, I1, r, q⟩ => ⟨I1.kIn, ?_⟩) he hpl
  exact run_fn F hr hb hd hx I1 r q
end

section
variable {X : Cx} {CX : CXT} {k : Nat} {f C : Addr} {fd : FuncData} {ps ks : List Str} {sp : Sp} {E : XK} {x m : Str} {p pos apos kpos : Pos} {e o : Expr} {es : List Expr} {kws : List Keyword} {te ta : TE} {t tk : TA} {nm : Option Str}
variable {g : List Value → List Value → List Value} {gV : List V → List V → List V}
end

structure FnScope (N P : List Str) (sc : Scope) : Prop where
  kind : sc.kind = .function
  co : sc.isCoroutine = false
  gen : sc.isGenerator = false
  nd : N.Nodup
  pre : N.take P.length = P
  par : ∀ x ∈ P, sc.names.lookup x = some .local ∨ sc.names.lookup x = some .cell
  nofree : ∀ y ∈ sc.names, y.2 ≠ .free

theorem bindL_out {kindOf : Str → Option NameKind} {x : Str} : ∀ {binds : List (Str × Value)} {m : Str → Option Value}, (∀ v, (x, v) ∉ binds) → bindL kindOf binds m x = m x
  | [], _, _ => rfl
  | (n, v) :: r, m, h => by
    unfold bindL
    rw [bindL_out fun w hw => h w (List.mem_cons_of_mem _ hw)]
    split
    · have : x ≠ n := by rintro rfl; exact h v List.mem_cons_self
      simp [this]
    · rfl
theorem bindC_out {kindOf : Str → Option NameKind} {x : Str} : ∀ {binds : List (Str × Value)} {m : Str → Option Value}, (∀ v, (x, v) ∉ binds) → bindC kindOf binds m x = m x
  | [], _, _ => rfl
  | (n, v) :: r, m, h => by
    unfold bindC
    rw [bindC_out fun w hw => h w (List.mem_cons_of_mem _ hw)]
    split
    · rfl
    · have : x ≠ n := by rintro rfl; exact h v List.mem_cons_self
      simp [this]
theorem bindL_get {kindOf : Str → Option NameKind} {x : Str} {v : Value} : ∀ {P : List Str} {vs : List Value} {i : Nat} {m : Str → Option Value}, P.Nodup → P[i]? = some x → vs[i]? = some v → kindOf x = some .local →
    bindL kindOf (P.zip vs) m x = some v
  | [], _, _, _, _, h, _, _ => by simp at h
  | _ :: _, [], _, _, _, _, h, _ => by simp at h
  | p :: P, w :: vs, 0, m, nd, h1, h2, hk => by
    simp at h1 h2; subst h1; subst h2
    show bindL kindOf ((p, w) :: P.zip vs) m p = _
    unfold bindL
    rw [bindL_out fun v hv => (List.nodup_cons.mp nd).1 (List.of_mem_zip hv).1, if_pos hk]
    simp
  | p :: P, w :: vs, i + 1, m, nd, h1, h2, hk => by
    show bindL kindOf ((p, w) :: P.zip vs) m x = _
    unfold bindL
    exact bindL_get (i := i) (List.nodup_cons.mp nd).2 (by simpa using h1) (by simpa using h2) hk
theorem bindC_get {kindOf : Str → Option NameKind} {x : Str} {v : Value} : ∀ {P : List Str} {vs : List Value} {i : Nat} {m : Str → Option Value}, P.Nodup → P[i]? = some x → vs[i]? = some v → kindOf x ≠ some .local →
    bindC kindOf (P.zip vs) m x = some v
  | [], _, _, _, _, h, _, _ => by simp at h
  | _ :: _, [], _, _, _, _, h, _ => by simp at h
  | p :: P, w :: vs, 0, m, nd, h1, h2, hk => by
    simp at h1 h2; subst h1; subst h2
    show bindC kindOf ((p, w) :: P.zip vs) m p = _
    unfold bindC
    rw [bindC_out fun v hv => (List.nodup_cons.mp nd).1 (List.of_mem_zip hv).1, if_neg hk]
    simp
  | p :: P, w :: vs, i + 1, m, nd, h1, h2, hk => by
    show bindC kindOf ((p, w) :: P.zip vs) m x = _
    unfold bindC
    exact bindC_get (i := i) (List.nodup_cons.mp nd).2 (by simpa using h1) (by simpa using h2) hk

def start (N : List Str) (vs : List V) : St := vs.map some ++ List.replicate (N.length - vs.length) none

def cxOf (CX : CXT) (P : Program) (w : World) (K : PySem.W.Frag) (mg : Str → Option Value) (base : Heap) (N : List Str) (qual : Str) (scope : Scope) (f : Addr) (cd : Value) (A : Around) (outer : List Env) (s : Shared) (H : Hp) (E : XK) : Cx where
  prog := P
  w := w
  K := K
  mg := mg
  base := base
  A := A.deeper (envOfC qual scope s.heap.objs.size f cd)
  N := N
  s₀ := s
  H₀ := H
  env := envOfC qual scope s.heap.objs.size f cd
  outer := outer
  stack := envOfC qual scope s.heap.objs.size f cd :: outer
  ex := []
  calm := true
  fn := fun _ => true
  pn := []
  xe := fun e s' => wpAny (model P w) (A.deeper (envOfC qual scope s.heap.objs.size f cd)) (leaving (envOfC qual scope s.heap.objs.size f cd) e) (fun _ s'' => CX outer H s E e s'') (fun e' s'' => CX outer H s E e' s'') s'

theorem cell_has {sc : Scope} {n : Nat} {x : Str} (h : sc.names.lookup x = some .cell) : ∃ c, (cellsFrom n sc.names []).lookup x = some c := by
  have q := PySem.W.cellsFrom_some sc.names n [] (.inl h)
  exact Option.isSome_iff_exists.mp q

theorem inv_start {CX : CXT} {P : Program} {w : World} {K : PySem.W.Frag} {mg : Str → Option Value} {base : Heap} {N ps : List Str} {qual : Str} {scope : Scope} {f : Addr} {cd : Value} {A : Around} {outer : List Env} {s s1 : Shared} {H : Hp} {E : XK} {us : List Value} {vs : List V}
    (S : FnScope N ps scope) (hd : A.handled = none) (e0 : Env0 P w K mg base A outer s H) (hl : vs.length = ps.length) (r : Vals vs us)
    (x : InCallC s s.heap.objs.size (bindL (envOfC qual scope s.heap.objs.size f cd).kindOf (ps.zip us) fun _ => none) (cellsFrom (s.heap.objs.size + 1) scope.names []) (bindC (envOfC qual scope s.heap.objs.size f cd).kindOf (ps.zip us) fun _ => none) s1) :
    Inv (cxOf CX P w K mg base N qual scope f cd A outer s H E) [] (start N vs) H s1 := by
  have hpl : ps.length ≤ N.length := by have := congrArg List.length S.pre; rw [List.length_take] at this; omega
  obtain ⟨h1, tk, rfl, hk⟩ := x.done
  have noA : ∀ b : Addr, b ∉ (cxOf CX P w K mg base N qual scope f cd A outer s H E).ex := fun b z => absurd (show b ∈ ([] : List Addr) from z) (by simp)
  refine ⟨⟨e0.mod, S.kind, rfl, rfl, Nat.le_refl _, fun y z c h1 h2 => ?_, fun y hy => ?_, fun y c _ h => ?_, fun _ => hd, Around.frames_deeper e0.frames, .inr ⟨rfl, rfl⟩, fun b z => absurd z (noA b), e0.bs, e0.bsz, fun b _ _ => noA b, fun b z => absurd z (noA b), e0.funs, e0.frf⟩,
    rfl, e0.bare, Un.kept hk, ⟨_, x.toInCall.ns, fun i y v h1 h2 h3 => ?_⟩, fun y c h => ⟨_, x.cell y c h⟩, e0.hok.fresh (Nat.le_refl _), fun y c h => ?_, fun p hp => absurd (show p ∈ ([] : List (Addr × Obj)) from hp) (by simp), e0.hok.kept hk, ?_⟩
  · exact name_of_addr x.apart (PySem.mem_of_lookup h1) (PySem.mem_of_lookup h2)
  · have hy : scope.names.lookup y = some .cell ∨ scope.names.lookup y = some .free := hy
    rcases hy with hy | hy
    · exact cell_has hy
    · exact absurd rfl (S.nofree _ (PySem.mem_of_lookup hy))
  · exact Nat.le_of_lt (x.above y c (PySem.mem_of_lookup h))
  · have hi : i < vs.length := by
      unfold start at h2
      by_cases hi : i < vs.length
      · exact hi
      · rw [List.getElem?_append_right (by simpa using hi)] at h2
        rw [List.getElem?_replicate] at h2
        split at h2 <;> cases h2
    have ha : vs[i]? = some v := by
      unfold start at h2
      rw [List.getElem?_append_left (by simpa using hi), List.getElem?_map] at h2
      cases e : vs[i]? with
      | none => rw [e] at h2; cases h2
      | some a => rw [e] at h2; cases h2; rfl
    obtain ⟨u, hu, rv⟩ := r.get ha
    have hp : ps[i]? = some y := by
      rw [← S.pre, List.getElem?_take_of_lt (by omega)]; exact h1
    have ndP : ps.Nodup := by rw [← S.pre]; exact S.nd.sublist (List.take_sublist _ _)
    refine ⟨u, rv, ?_⟩
    rcases S.par y (List.mem_of_getElem? hp) with k | k
    · exact .inl ⟨k, bindL_get ndP hp hu k⟩
    · obtain ⟨c, e⟩ := cell_has (n := s.heap.objs.size + 1) k
      refine .inr ⟨.inl k, c, e, ?_⟩
      have q := x.cell y c e
      rw [bindC_get ndP hp hu (by show scope.names.lookup y ≠ _; rw [k]; decide)] at q
      exact q
  · exact e0.hok.fresh (Nat.le_of_lt (x.above y c (PySem.mem_of_lookup h)))
  · unfold start
    show _ = N.length
    rw [List.length_append, List.length_map, List.length_replicate]
    omega

theorem fn_of {CX : CXT} {P : Program} {w : World} {K : PySem.W.Frag} {mg : Str → Option Value} {base : Heap} {k : Nat} {f : Addr} {name qual : Str} {params : Arguments} {body : List Stmt} {scope : Scope} {dV kV doc pm cdv ct oc : Value} {an od : Option Addr}
    {osl : Array (Option Value)} {N ps : List Str} {sp : Sp} (lk : K.lookup f = some ⟨oc, od, .func (PySem.W.fnOf name qual params body scope dV kV doc pm an cdv ct), osl⟩) (hcd : PySem.W.codeIn K cdv qual = true) (S : FnScope N ps scope)
    (len : ∀ vs H Q E, sp vs H Q E → vs.length = ps.length)
    (hbody : ∀ (A : Around) (outer : List Env) (s : Shared) (H : Hp) (vs : List V) (Q : VK) (E : XK), Room k (A.deeper (envOfC qual scope s.heap.objs.size f cdv)) → sp vs H Q E →
      ∃ t, PSs (cxOf CX P w K mg base N qual scope f cdv A outer s H E) body t ∧ t { nx := fun _ H' => Q .non H', rt := Q } (start N vs) H) :
    FnOk P w K mg base CX (k + 1) f (PySem.W.fnOf name qual params body scope dV kV doc pm an cdv ct) ps sp := by
  refine ⟨len, fun A outer s H args us vs Q E hr e0 hb r hsp => ?_⟩
  have hl := len _ _ _ _ hsp
  have KX : K.In s.heap := e0.mod.kin.keeps fun b o e => (e0.bs b o e).1
  have lim : s.heap.NoLimit := e0.mod.nolimit.keeps fun b o e => (e0.bs b o e).1
  have hkind : ∀ y ∈ ps.zip us, scope.names.lookup y.1 = some .local ∨ (scope.names.lookup y.1 = some .cell ∧ ((cellsFrom (s.heap.objs.size + 1) scope.names []).lookup y.1).isSome = true) := fun ⟨n, v⟩ hy => by
    rcases S.par n (List.of_mem_zip hy).1 with q | q
    · exact .inl q
    · exact .inr ⟨q, PySem.W.cellsFrom_some _ _ _ (.inl q)⟩
  refine codeAny_call_function hr.depth (KX _ _ lk) rfl S.co S.gen rfl (PySem.W.codeRec_of KX hcd) (hb _ _ _ _ ?_)
  refine wpAny_newFunctionEnv_cells S.kind hkind fun env he s1 x => ?_
  subst he
  refine ⟨lim.keeps x.toInCall.keep, codeAny_func ?_⟩
  obtain ⟨t, ht, hq⟩ := hbody A outer s H vs Q E (hr.deeper _) hsp
  have I : Inv (cxOf CX P w K mg base N qual scope f cdv A outer s H E) [] (start N vs) H s1 := inv_start S hr.hd e0 hl r x
  refine wpAny_mono (ht [] s1 (start N vs) H _ I hq) (fun fl s' hs => ?_) fun e s' hs => hs
  have fin : ∀ {σ' : St} {H' : Hp} {v : V} {u : Value}, Inv (cxOf CX P w K mg base N qual scope f cdv A outer s H E) [] σ' H' s' → RelV v u → Q v H' → CE outer P w H s Q u s' :=
    fun {σ' H' v u} J rv q => ⟨v, H', J.os, J.bare, J.base, J.hok, rv, q⟩
  cases fl with
  | ret u =>
    obtain ⟨v, σ', H', J, rv, q⟩ := hs
    exact fin J rv q
  | next =>
    obtain ⟨σ', H', J, q⟩ := hs
    exact fin (v := V.non) (u := Value.none) J rfl q
  | brk =>
    obtain ⟨_, _, _, q⟩ := hs
    exact False.elim q
  | cont =>
    obtain ⟨_, _, _, q⟩ := hs
    exact False.elim q
end L2

namespace L2
open PySem PySem.Spec PyProof.Rows
section
variable {X : Cx} {x : Str} {p pos : Pos} {e : Expr} {es : List Expr} {t : TA} {id T : String} {r : List V → Hp → VK → Prop}

def tCB (r : List V → Hp → VK → Prop) (t : TA) : TE := fun σ H Q => t σ H fun vs H1 => r vs H1 Q
theorem pe_callB (hc : CallR X (.builtin id) r) (hg : Gl X x) (hm : X.mg x = none) (hv : bootBuiltins x = some (.builtin id)) (ha : PA X (e :: es) t) (hn : x ≠ "__name__" := by decide) (hdb : (x == ("__debug__" : Str)) = false := by decide)
    (he : starEach (e :: es) X.env = (false, eval e X.env) :: starEach es X.env := by rfl) (hpl : (backTo pos (starEach es X.env)).any (·.1) = false := by rfl) : PE X (.Call (.Name x p) (e :: es) [] pos) (tCB r t) := by
  intro pins s σ H Q I h
  refine wpAny_Call_Name_kw (ld_blt I hg hm hv ?_ hn hdb)
  exact PyProof.Rows.callWith_builtin1 (thn (ha pos pins s σ H _ I h) fun us s1 ⟨vs, H1, I1, r1, q1⟩ => hc pins s1 σ H1 vs us Q I1 r1 q1) he hpl
theorem pe_callTy (hc : CallR X (.type T) r) (hg : Gl X x) (hm : X.mg x = none) (hv : bootBuiltins x = some (.type T)) (ha : PA X (e :: es) t) (hn : x ≠ "__name__" := by decide) (hdb : (x == ("__debug__" : Str)) = false := by decide)
    (he : starEach (e :: es) X.env = (false, eval e X.env) :: starEach es X.env := by rfl) (hpl : (backTo pos (starEach es X.env)).any (·.1) = false := by rfl) : PE X (.Call (.Name x p) (e :: es) [] pos) (tCB r t) := by
  intro pins s σ H Q I h
  refine wpAny_Call_Name_kw (ld_blt I hg hm hv ?_ hn hdb)
  exact PyProof.Rows.callWith_type1 (thn (ha pos pins s σ H _ I h) fun us s1 ⟨vs, H1, I1, r1, q1⟩ => hc pins s1 σ H1 vs us Q I1 r1 q1) he hpl
end
end L2

namespace HT
open PySem PyProof.Rows

section
open PySem.SeqAt
open PySem.AutoSeq1 (wpAny_loadPart')
open PySem.MeetsSeq PySem.MeetsSeq2 PySem.MeetsSeq3

end

section
variable {prog : Program} {w : World} {A : Around} {E : Value → Shared → Prop} {s : Shared}

theorem cat_tup {t b : Addr} {vs ws : List Value} {Q : Value → Shared → Prop} (ht : IsTup s.heap t vs.toArray) (hb : IsTup s.heap b ws.toArray) (hv : vs ≠ [])
    (h1 : ws = [] → Q (.ref t) s) (h2 : ws ≠ [] → Q (.ref s.heap.objs.size) { s with heap := s.heap.push { cls := .type "tuple", data := .seq (vs ++ ws).toArray } })
    (hsz : vs.length + ws.length ≤ sizeLine) : wpAny (model prog w) A (binaryOp .Add (.ref t) (.ref b)) Q E s := by
  obtain ⟨⟨cls, dd, data, sl⟩, ho, hc, n, hd⟩ := id ht
  obtain ⟨⟨cls2, dd2, data2, sl2⟩, ho2, hc2, n2, hd2⟩ := id hb
  simp only at hc hd hc2 hd2
  subst hc hd hc2 hd2
  have e : vs.toArray ++ ws.toArray = (vs ++ ws).toArray := by simp
  by_cases hw : ws = []
  · exact concat_meets ⟨_, ho, rfl⟩ ⟨_, ho2, rfl⟩ noFill_tuple_add seq_tuple_add PySem.F.slot_tuple_add PySem.F.entry_tuple_add (PySem.F.args_tuple_add_2 _ _)
      (tuple_addW1 t b vs.toArray ws.toArray n n2 dd dd2 sl sl2 (by simpa using hv) (by simp [hw])) ⟨ho, ho2, h1 hw⟩
  · refine concat_meets ⟨_, ho, rfl⟩ ⟨_, ho2, rfl⟩ noFill_tuple_add seq_tuple_add PySem.F.slot_tuple_add PySem.F.entry_tuple_add (PySem.F.args_tuple_add_2 _ _)
      (tuple_addW2 t b vs.toArray ws.toArray n n2 dd dd2 sl sl2 (by simpa using hv) (by simpa using hw) (by rw [List.size_toArray, List.size_toArray]; exact hsz)) ⟨ho, ho2, ?_⟩
    rw [e]
    exact h2 hw

def sIx (n d : Nat) : Option Int → Nat
  | none => d
  | some v => if v < 0 then (v + (n : Int)).toNat else min v.toNat n
theorem sIx_none (n d : Nat) : sIx n d none = d := rfl
theorem sIx_nat (n d k : Nat) : sIx n d (some (k : Int)) = min k n := by
  show (if (k : Int) < 0 then ((k : Int) + (n : Int)).toNat else min (k : Int).toNat n) = min k n
  rw [if_neg (by omega), Int.toNat_natCast]
theorem sIx_le (n d : Nat) (hd : d ≤ n) (o : Option Int) : sIx n d o ≤ n := by
  cases o with
  | none => exact hd
  | some v =>
    show (if v < 0 then (v + (n : Int)).toNat else min v.toNat n) ≤ n
    by_cases hv : v < 0
    · rw [if_pos hv]; omega
    · rw [if_neg hv]; exact Nat.min_le_right _ _
theorem clip_eq (v : Int) (n d : Nat) : (if v < 0 then max (v + (n : Int)) 0 else min v (n : Int)) = ((sIx n d (some v) : Nat) : Int) := by
  show (if v < 0 then max (v + (n : Int)) 0 else min v (n : Int)) = (((if v < 0 then (v + (n : Int)).toNat else min v.toNat n) : Nat) : Int)
  by_cases hv : v < 0
  · simp only [if_pos hv]; omega
  · simp only [if_neg hv]; omega
theorem adjust_gen (lo hi : Option Int) (n : Nat) : Builtin.Slice.sliceAdjust lo hi 1 (n : Int) = (((sIx n 0 lo : Nat) : Int), ((sIx n n hi : Nat) : Int)) := by
  have h1 : ¬ ((1 : Int) < 0) := by omega
  unfold Builtin.Slice.sliceAdjust
  simp only [h1, if_false]
  refine Prod.ext ?_ ?_
  · cases lo with
    | none => rfl
    | some v => exact clip_eq v n 0
  · cases hi with
    | none => rfl
    | some v => exact clip_eq v n n
theorem places_gen (i j : Nat) : Builtin.Slice.slicePlaces (i : Int) (j : Int) 1 = j - i := by
  unfold Builtin.Slice.slicePlaces
  have h1 : (1 : Int) > 0 := by omega
  simp only [h1, if_true, Int.ediv_one]
  split <;> omega
theorem slicePart_ {v : Value} {o : Option Int} {Q : Option Int → Shared → Prop} (p : IsPart v o) (h : Q o s) : wpAny (model prog w) A (Builtin.Slice.slicePartIndex v) Q E s := by
  cases p with
  | none => exact slicePart_none h
  | int i t => exact slicePart_int h
theorem sliceApplied_gen {sl : Addr} {vl vu : Value} {lo hi : Option Int} {n : Nat} {Q : Int × Int × Nat → Shared → Prop} (hs : s.heap.IsSliceOf sl vl vu .none) (pl : IsPart vl lo) (pu : IsPart vu hi)
    (h : Q (((sIx n 0 lo : Nat) : Int), 1, sIx n n hi - sIx n 0 lo) s) : wpAny (model prog w) A (Builtin.Slice.sliceApplied (.ref sl) (pure (n : Int))) Q E s := by
  obtain ⟨os, hos, hcs, hds⟩ := id hs
  unfold Builtin.Slice.sliceApplied Builtin.Slice.sliceFields
  refine wpAny_bind (wpAny_bind (wpAny_field hos hds (x := vl) rfl (wpAny_bind (wpAny_field hos hds (x := vu) rfl (wpAny_bind (wpAny_field hos hds (x := .none) rfl (wpAny_pure ?_)))))))
  refine wpAny_bind (slicePart_none ?_)
  show wpAny _ _ (if ((1 : Int) == 0) = true then _ else _) _ _ s
  rw [if_neg (by decide)]
  refine wpAny_bind (slicePart_ pl (wpAny_bind (slicePart_ pu (wpAny_bind (wpAny_pure ?_)))))
  show wpAny _ _ (match Builtin.Slice.sliceAdjust lo hi 1 (n : Int) with | (lo, hi) => pure (lo, (1 : Int), Builtin.Slice.slicePlaces lo hi 1)) _ _ s
  rw [adjust_gen lo hi n]
  show wpAny _ _ (pure (((sIx n 0 lo : Nat) : Int), (1 : Int), Builtin.Slice.slicePlaces ((sIx n 0 lo : Nat) : Int) ((sIx n n hi : Nat) : Int) 1)) _ _ s
  rw [places_gen]
  exact wpAny_pure h
theorem pick_gen (xs : Array Value) (i k : Nat) : ((List.range k).filterMap fun (m : Nat) => xs[((i : Int) + (m : Int) * 1).toNat]?).toArray = ((xs.toList.drop i).take k).toArray := by
  have e : (fun (m : Nat) => xs[((i : Int) + (m : Int) * 1).toNat]?) = fun m => xs[i + m]? := by
    funext m
    have : ((i : Int) + (m : Int) * 1).toNat = i + m := by omega
    rw [this]
  rw [e]
  have := pick_run xs i k
  rw [List.filterMap_map] at this
  have e2 : ((fun x => xs[x]?) ∘ fun x => i + x) = fun m => xs[i + m]? := rfl
  rw [e2] at this
  rw [this]

theorem getItem_tuple_cut {t sl : Addr} {items : Array Value} {vl vu : Value} {lo hi : Option Int} {Q : Value → Shared → Prop} (ht : IsTup s.heap t items) (hs : s.heap.IsSliceOf sl vl vu .none) (pl : IsPart vl lo) (pu : IsPart vu hi)
    (hw : ¬ (sIx items.size 0 lo = 0 ∧ sIx items.size items.size hi = items.size))
    (h : Q (.ref s.heap.objs.size) { s with heap := s.heap.push { cls := .type "tuple", data := .seq ((items.toList.drop (sIx items.size 0 lo)).take (sIx items.size items.size hi - sIx items.size 0 lo)).toArray } })
    (hsz : items.size ≤ sizeLine) : wpAny (model prog w) A (getItem (.ref t) (.ref sl)) Q E s := by
  have htake : sizeOk (.seq ((items.toList.drop (sIx items.size 0 lo)).take (sIx items.size items.size hi - sIx items.size 0 lo)).toArray) := by
    show ((items.toList.drop (sIx items.size 0 lo)).take (sIx items.size items.size hi - sIx items.size 0 lo)).toArray.size ≤ sizeLine
    rw [List.size_toArray, List.length_take, List.length_drop, Array.length_toList]
    omega
  have hj : sIx items.size items.size hi ≤ items.size := sIx_le _ _ (Nat.le_refl _) hi
  obtain ⟨os, hos, hcs, hds⟩ := id hs
  have hTs : s.TypeIs (.ref sl) "slice" := ⟨os, hos, hcs⟩
  unfold getItem
  try with_reducible refine wpAny_holding ?_
  first | refine wpAny_bind (wpAny_pure ?_) | skip
  refine wpAny_bind (wpAny_sequenceKey ht.typeIs (by decide) ?_)
  refine wpAny_bind (wpAny_callSpecial?_slot (name := Str.ofString "__getitem__") ht.typeIs PyProof.Rows.slot_tuple_getitem
    (wpAny_call_entry PyProof.Rows.slot_tuple_getitem ht.typeIs entry_tuple_getitem ?_ (args_tuple_getitem _ _)))
  show wpAny _ _ (Builtin.Tuple.tupleItemsOf (.ref t) >>= _) _ _ s
  refine wpAny_bind (tupleItemsOf_ ht ?_)
  refine wpAny_bind (wpAny_typeOf hTs ?_)
  rw [if_pos (by decide)]
  refine wpAny_bind (sliceApplied_gen hs pl pu ?_)
  have hno : ¬ ((((sIx items.size 0 lo : Nat) : Int) == 0 && (1 : Int) == 1 && (sIx items.size items.size hi - sIx items.size 0 lo) == items.size) = true) := by
    intro q
    rw [Bool.and_eq_true, Bool.and_eq_true] at q
    have q1 : ((sIx items.size 0 lo : Nat) : Int) = 0 := eq_of_beq q.1.1
    have q2 : sIx items.size items.size hi - sIx items.size 0 lo = items.size := eq_of_beq q.2
    exact hw ⟨by omega, by omega⟩
  show wpAny _ _ (if (((sIx items.size 0 lo : Nat) : Int) == 0 && (1 : Int) == 1 && (sIx items.size items.size hi - sIx items.size 0 lo) == items.size) = true then _ else _) _ _ s
  rw [if_neg hno, pick_gen]
  first
    | exact wpAny_bind (m := Builtin.Tuple.tupleExact _) (wpAny_newObj_type (wpAny_pure ⟨_, rfl, wpAny_pure h⟩) htake)
    | exact wpAny_bind (m := Builtin.Tuple.tupleExact _) (wpAny_newObj_type (wpAny_bind (wpAny_pure (wpAny_pure ⟨_, rfl, wpAny_pure h⟩))) htake)
    | exact wpAny_bind (wpAny_bind (m := Builtin.Tuple.tupleExact _) (wpAny_newObj_type (wpAny_pure (wpAny_pure ⟨_, rfl, wpAny_pure h⟩)) htake))
    | exact wpAny_bind (wpAny_bind (m := Builtin.Tuple.tupleExact _) (wpAny_newObj_type (wpAny_pure ⟨_, rfl, wpAny_pure h⟩) htake))
end
end HT

namespace L2
open PySem PySem.Spec PyProof.Rows

abbrev TO := St → Hp → (Option Int → Hp → Prop) → Prop
def PO (X : Cx) (e : Option Expr) (t : TO) : Prop :=
  ∀ (pins : List (Addr × Obj)) (s : Shared) (σ : St) (H : Hp) (Q : Option Int → Hp → Prop), Inv X pins σ H s → t σ H Q →
    wpAny (model X.prog X.w) X.A (evalPart e X.env) (fun u s' => ∃ o H', Inv X pins σ H' s' ∧ IsPart u o ∧ Q o H') X.xe s
def tNoPart : TO := fun _ H Q => Q none H
def tPart (t : TE) : TO := fun σ H Q => t σ H fun x H1 => ∃ i, x = .int i ∧ Q (some i) H1

section
variable {X : Cx} {e : Expr} {te : TE} {lo hi : Option Expr} {tl th : TO} {pos p2 : Pos}

theorem po_none : PO X none tNoPart := by
  intro pins s σ H Q I h
  rw [evalPart_none]
  exact wpAny_pure ⟨none, H, I, .none, h⟩
theorem po_some (h : PE X e te) : PO X (some e) (tPart te) := by
  intro pins s σ H Q I hw
  rw [evalPart_some]
  refine thn (h pins s σ H _ I hw) fun u s1 ⟨x, H1, I1, r1, q1⟩ => ?_
  obtain ⟨i, rfl, q⟩ := q1
  obtain ⟨t, rfl⟩ := r1
  exact ⟨some i, H1, I1, .int i t, q⟩

def SlR (X : Cx) (r : V → Option Int → Option Int → Hp → VK → Prop) : Prop :=
  ∀ (pins : List (Addr × Obj)) (s : Shared) (σ : St) (H : Hp) (x : V) (v vl vu : Value) (lo hi : Option Int) (sl : Addr) (Q : VK), Inv X pins σ H s → RelV x v → s.heap.IsSliceOf sl vl vu .none → IsPart vl lo → IsPart vu hi → r x lo hi H Q →
    ∃ T id, typeLookup (.type T) "__getitem__" = pure (some (.builtin id)) ∧ s.TypeIs v T ∧ wpAny (model X.prog X.w) X.A (getItem v (.ref sl)) (EP X pins σ Q) X.xe s
theorem SlR.or {r r' : V → Option Int → Option Int → Hp → VK → Prop} (h : SlR X r) (h' : SlR X r') : SlR X (fun x lo hi H Q => r x lo hi H Q ∨ r' x lo hi H Q) := by
  intro pins s σ H x v vl vu lo hi sl Q I rx hs pl pu q
  rcases q with q | q
  · exact h pins s σ H x v vl vu lo hi sl Q I rx hs pl pu q
  · exact h' pins s σ H x v vl vu lo hi sl Q I rx hs pl pu q
def tSl (r : V → Option Int → Option Int → Hp → VK → Prop) (te : TE) (tl th : TO) : TE := fun σ H Q => te σ H fun x H1 => tl σ H1 fun l H2 => th σ H2 fun u H3 => r x l u H3 Q
theorem pe_slice {r : V → Option Int → Option Int → Hp → VK → Prop} (hr : SlR X r) (he : PE X e te) (hl : PO X lo tl) (hu : PO X hi th) : PE X (.Subscript e (.Slice lo hi none p2) pos) (tSl r te tl th) := by
  intro pins s σ H Q I h
  refine Subscript_ (thn (he pins s σ H _ I h) fun v s1 ⟨x, H1, I1, r1, q1⟩ => ?_)
  refine wpAny_Slice (thn (hl pins s1 σ H1 _ I1 q1) fun vl s2 ⟨l, H2, I2, pl, q2⟩ => thn (hu pins s2 σ H2 _ I2 q2) fun vu s3 ⟨u, H3, I3, pu, q3⟩ => ?_)
  rw [evalPart_none]
  refine wpAny_pure ?_
  have I4 : Inv X pins σ H3 { s3 with heap := s3.heap.push { cls := .type "slice", data := .fields #[vl, vu, .none] } } := I3.kept (t' := s3.toks) fun b ob q => Heap.get?_push_of_some _ q
  obtain ⟨T, id, hT, ht, hg⟩ := hr pins { s3 with heap := s3.heap.push { cls := .type "slice", data := .fields #[vl, vu, .none] } } σ H3 x v vl vu l u s3.heap.objs.size Q I4 r1 (Heap.IsSliceOf.new ..) pl pu q3
  show wpAny (model X.prog X.w) X.A (subscriptTail e (.Slice lo hi none p2) v (.ref s3.heap.objs.size)) (EP X pins σ Q) X.xe { s3 with heap := s3.heap.push { cls := .type "slice", data := .fields #[vl, vu, .none] } }
  exact tail_any (ops := [.ref s3.heap.objs.size, v]) ht hT hg (by with_unfolding_all rfl)

def cutV (xs : List V) (lo hi : Option Int) : List V := (xs.drop (HT.sIx xs.length 0 lo)).take (HT.sIx xs.length xs.length hi - HT.sIx xs.length 0 lo)
theorem cutV_length (xs : List V) (lo hi : Option Int) : (cutV xs lo hi).length ≤ xs.length := by
  unfold cutV
  rw [List.length_take, List.length_drop]
  omega
def rSlT (K : PySem.W.Frag) : V → Option Int → Option Int → Hp → VK → Prop := fun x lo hi H Q => ∃ a xs, x = .ref a ∧ SqT K H a xs ∧
  ¬ (HT.sIx xs.length 0 lo = 0 ∧ HT.sIx xs.length xs.length hi = xs.length) ∧ ∀ p, H p = none → Q (.ref p) (upd H p (.tup (cutV xs lo hi)))
theorem sl_tup : SlR X (rSlT X.K) := by
  intro pins s σ H x v vl vu lo hi sl Q I rx hs pl pu h
  obtain ⟨a, xs, rfl, hx, hw, q⟩ := h
  cases rx
  obtain ⟨its, r, ht, hz⟩ := I.tuple hx
  have hlen : its.toArray.size = xs.length := by rw [List.size_toArray]; exact r.length.symm
  refine ⟨"tuple", _, PyProof.Rows.slot_tuple_getitem.lookup, ht.typeIs, ?_⟩
  refine HT.getItem_tuple_cut ht hs pl pu (by rw [hlen]; exact hw) ?_ (by rw [hlen]; exact hz)
  rw [hlen]
  refine ⟨.ref s.heap.objs.size, _, I.laid (t' := s.toks) (o := .tup (cutV xs lo hi)) (fun b ob q => Heap.get?_push_of_some _ q) (Nat.le_refl _) ?_, rfl, q _ (I.hok.fresh (Nat.le_refl _))⟩
  exact ⟨Nat.le_trans (cutV_length xs lo hi) hz, _, (r.drop (HT.sIx xs.length 0 lo)).take (HT.sIx xs.length xs.length hi - HT.sIx xs.length 0 lo), TupN.new _ _⟩

def rCatT (K : PySem.W.Frag) : R2 := fun x y H Q => ∃ a b xs ys, x = .ref a ∧ y = .ref b ∧ SqT K H a xs ∧ SqT K H b ys ∧ xs ≠ [] ∧ xs.length + ys.length ≤ sizeLine ∧
  (ys = [] → Q (.ref a) H) ∧ (ys ≠ [] → ∀ p, H p = none → Q (.ref p) (upd H p (.tup (xs ++ ys))))
theorem Vals.nil_iff {xs : List V} {us : List Value} (r : Vals xs us) : us = [] ↔ xs = [] := by
  cases r with
  | nil => simp
  | cons _ _ => simp
theorem op_catT : OpR X (binaryOp .Add) (rCatT X.K) := by
  intro pins s σ H x y v u Q I rx ry h
  obtain ⟨a, b, xs, ys, rfl, rfl, ha, hb, hx, hz, q1, q2⟩ := h
  cases rx
  cases ry
  obtain ⟨its, r1, p1, _⟩ := I.tuple ha
  obtain ⟨its2, r2, p2, _⟩ := I.tuple hb
  refine HT.cat_tup p1 p2 (fun z => hx (r1.nil_iff.mp z)) (fun z => ⟨.ref a, H, I, rfl, q1 (r2.nil_iff.mp z)⟩) (fun z => ?_) (by rw [← r1.length, ← r2.length]; exact hz)
  refine ⟨.ref s.heap.objs.size, _, I.laid (t' := s.toks) (o := .tup (xs ++ ys)) (fun b ob q => Heap.get?_push_of_some _ q) (Nat.le_refl _) ?_, rfl, q2 (fun w => z (r2.nil_iff.mpr w)) _ (I.hok.fresh (Nat.le_refl _))⟩
  exact ⟨by rw [List.length_append]; exact hz, _, r1.append r2, TupN.new _ _⟩
end
end L2

namespace L2
open PySem PySem.Spec PyProof.Rows

def ixN (n : Nat) (i : Int) : Option Nat := if 0 ≤ i then (if i < n then some i.toNat else none) else if -(n : Int) ≤ i then some (i + n).toNat else none
def atI {α : Type} (xs : List α) (i : Int) : Option α := (ixN xs.length i).bind fun j => xs[j]?
theorem ixN_seq {n : Nat} {i : Int} {j : Nat} (h : ixN n i = some j) : seqIndex? i n = some j ∧ j < n ∧ -(n : Int) ≤ i ∧ i < n := by
  unfold ixN at h
  by_cases h0 : 0 ≤ i
  · rw [if_pos h0] at h
    by_cases h1 : i < n
    · rw [if_pos h1] at h
      have e : i.toNat = j := Option.some.inj h
      exact ⟨by rw [seqIndex_of h0 h1, e], by omega, by omega, h1⟩
    · rw [if_neg h1] at h; cases h
  · rw [if_neg h0] at h
    by_cases h1 : -(n : Int) ≤ i
    · rw [if_pos h1] at h
      have e : (i + n).toNat = j := Option.some.inj h
      exact ⟨by rw [seqIndex_neg (by omega) h1, e], by omega, h1, by omega⟩
    · rw [if_neg h1] at h; cases h
theorem atI_get {α : Type} {xs : List α} {i : Int} {v : α} (h : atI xs i = some v) : ∃ j, seqIndex? i xs.length = some j ∧ xs[j]? = some v ∧ j < xs.length ∧ -(xs.length : Int) ≤ i ∧ i < xs.length := by
  unfold atI at h
  cases e : ixN xs.length i with
  | none => rw [e] at h; cases h
  | some j =>
    rw [e] at h
    obtain ⟨h1, h2, h3, h4⟩ := ixN_seq e
    exact ⟨j, h1, h, h2, h3, h4⟩
theorem atI_nat {α : Type} {xs : List α} {j : Nat} {v : α} (h : xs[j]? = some v) : atI xs (j : Int) = some v := by
  have hj : j < xs.length := (List.getElem?_eq_some_iff.mp h).1
  have e : ixN xs.length (j : Int) = some j := by
    unfold ixN
    rw [if_pos (by omega), if_pos (by omega)]; simp
  unfold atI; rw [e]; exact h
theorem atI_last {α : Type} (xs : List α) (v : α) : atI (xs ++ [v]) (-1) = some v := by
  have hl : (xs ++ [v]).length = xs.length + 1 := by simp
  have e : ixN (xs ++ [v]).length (-1) = some xs.length := by
    unfold ixN
    rw [hl, if_neg (by decide), if_pos (by omega)]
    congr 1
    omega
  unfold atI
  rw [e]
  show (xs ++ [v])[xs.length]? = some v
  simp

def PlainIx (b : Expr) : Prop := ∀ o i, subscripted b false o i = operate [o, i] (getItem o i)
def IxR (X : Cx) (r : R2) : Prop :=
  ∀ (value slice : Expr) (pins : List (Addr × Obj)) (s : Shared) (σ : St) (H : Hp) (x y : V) (v u : Value) (Q : VK), Inv X pins σ H s → RelV x v → RelV y u → r x y H Q →
    subscripted slice false v u = operate [v, u] (getItem v u) → wpAny (model X.prog X.w) X.A (subscriptTail value slice v u) (EP X pins σ Q) X.xe s
def MtR (X : Cx) (id : String) (r : V → List V → Hp → VK → Prop) : Prop :=
  ∀ (pins : List (Addr × Obj)) (s : Shared) (σ : St) (H : Hp) (x : V) (xs : List V) (v : Value) (us : List Value) (Q : VK), Inv X pins σ H s → RelV x v → Vals xs us → r x xs H Q →
    wpAny (model X.prog X.w) X.A (call (.builtin id) (v :: us)) (EP X pins σ Q) X.xe s
section
variable {X : Cx} {a b : Expr} {ta tb : TE} {pos : Pos}
theorem IxR.or {r r' : R2} (h : IxR X r) (h' : IxR X r') : IxR X (fun x y H Q => r x y H Q ∨ r' x y H Q) := by
  intro value slice pins s σ H x y v u Q I rx ry q hs
  rcases q with q | q
  · exact h value slice pins s σ H x y v u Q I rx ry q hs
  · exact h' value slice pins s σ H x y v u Q I rx ry q hs
theorem MtR.or {id : String} {r r' : V → List V → Hp → VK → Prop} (h : MtR X id r) (h' : MtR X id r') : MtR X id (fun x xs H Q => r x xs H Q ∨ r' x xs H Q) := by
  intro pins s σ H x xs v us Q I rx rs q
  rcases q with q | q
  · exact h pins s σ H x xs v us Q I rx rs q
  · exact h' pins s σ H x xs v us Q I rx rs q
theorem pe_ix {r : R2} (hr : IxR X r) (ha : PE X a ta) (hb : PE X b tb) (hs : PlainIx b) : PE X (.Subscript a b pos) (tOp r ta tb) := by
  intro pins s σ H Q I h
  exact Subscript_ (binT ha hb I h fun v u s2 x y H2 I2 rx ry q => hr a b pins s2 σ H2 x y v u Q I2 rx ry q (hs _ _))

def rIxL (K : PySem.W.Frag) : R2 := fun x y H Q => ∃ p xs i v, x = .ref p ∧ y = .int i ∧ SqL K H p xs ∧ atI xs i = some v ∧ Q v H
def rIxT (K : PySem.W.Frag) : R2 := fun x y H Q => ∃ p xs i v, x = .ref p ∧ y = .int i ∧ SqT K H p xs ∧ atI xs i = some v ∧ Q v H
def rIxS : R2 := fun x y H Q => ∃ z i c, x = .str z ∧ y = .int i ∧ z.length ≤ sizeLine ∧ atI z.cps.toList i = some c ∧ Q (.str ⟨#[c]⟩) H
theorem ix_list : IxR X (rIxL X.K) := by
  intro value slice pins s σ H x y v u Q I rx ry h hs
  obtain ⟨p, xs, i, z, rfl, rfl, hq, he, q⟩ := h
  cases rx
  obtain ⟨t, rfl⟩ := ry
  obtain ⟨its, r, pl, hz⟩ := I.list hq
  obtain ⟨j, h1, h2, h3, h4, h5⟩ := atI_get he
  obtain ⟨w, ew, rw'⟩ := r.get h2
  have hl := r.length
  have hn := line63
  have fin : EP X pins σ Q w s := ⟨z, H, I, rw', q⟩
  by_cases h0 : 0 ≤ i
  · have hj : i.toNat = j := by
      rw [seqIndex_of h0 h5] at h1
      exact Option.some.inj h1
    exact item_listR pl.isList h0 (by omega) (by rw [hj]; simpa using ew) fin hs
  · have hj : (i + (its.toArray.size : Int)).toNat = j := by
      rw [seqIndex_neg (by omega) h4] at h1
      rw [List.size_toArray, ← hl]
      exact Option.some.inj h1
    exact subscriptTail_builtinR (x := w) pl.isList.typeIs slot_list_getitem.lookup
      (wpAny_getItem_list_neg (Q := fun r s' => r = w ∧ EP X pins σ Q r s') pl.isList (by omega) (by rw [List.size_toArray] <;> omega) (by omega) (by rw [hj]; simpa using ew) ⟨rfl, fin⟩) hs
theorem ix_tup : IxR X (rIxT X.K) := by
  intro value slice pins s σ H x y v u Q I rx ry h hs
  obtain ⟨p, xs, i, z, rfl, rfl, hq, he, q⟩ := h
  cases rx
  obtain ⟨t, rfl⟩ := ry
  obtain ⟨its, r, pl, hz⟩ := I.tuple hq
  obtain ⟨j, h1, h2, h3, h4, h5⟩ := atI_get he
  obtain ⟨w, ew, rw'⟩ := r.get h2
  have hl := r.length
  have hn := line63
  have fin : EP X pins σ Q w s := ⟨z, H, I, rw', q⟩
  exact subscriptTail_builtinR (x := w) pl.typeIs slot_tuple_getitem.lookup
    (getItem_tuple (j := j) (Q := fun r s' => r = w ∧ EP X pins σ Q r s') pl (by omega) (by omega) (by rw [List.size_toArray, ← hl]; exact h1) (by simpa using ew) ⟨rfl, fin⟩) hs
theorem ix_str : IxR X rIxS := by
  intro value slice pins s σ H x y v u Q I rx ry h hs
  obtain ⟨z, i, c, rfl, rfl, hz, he, q⟩ := h
  obtain ⟨t, rfl⟩ := rx
  obtain ⟨t', rfl⟩ := ry
  obtain ⟨j, h1, h2, h3, h4, h5⟩ := atI_get he
  have hl : z.cps.toList.length = z.length := by simp [Str.length]
  rw [hl] at h1 h4 h5
  have hn := line63
  exact tail_any (typeIs_str s z t) slot_str_getitem.lookup (getItem_str (c := c) (by
    have e1 : decide (i < -(2 ^ 63 : Int)) = false := decide_eq_false (by omega)
    have e2 : decide (i ≥ 2 ^ 63) = false := decide_eq_false (by omega)
    rw [e1, e2, Bool.or_false]) (by rw [h1]; simpa using h2) ⟨.str ⟨#[c]⟩, H, I.tok _, ⟨_, rfl⟩, q⟩) hs
def rIx (K : PySem.W.Frag) : R2 := fun x y H Q => rIxL K x y H Q ∨ rIxT K x y H Q ∨ rIxS x y H Q
theorem ix_seq : IxR X (rIx X.K) := ix_list.or (ix_tup.or ix_str)

theorem mapSeq_set (its : List Value) (n j : Nat) (u : Value) : Obj.mapSeq (·.setIfInBounds j u) { cls := .type "list", data := .seq its.toArray n } = { cls := .type "list", data := .seq (its.set j u).toArray n } := by
  simp [Obj.mapSeq]
theorem Inv.lst {pins : List (Addr × Obj)} {σ : St} {H : Hp} {s : Shared} {p : Addr} {xs : List V} (I : Inv X pins σ H s) (h : H p = some (.lst xs)) :
    ∃ (its : List Value) (n : Nat), Vals xs its ∧ s.heap.get? p = some { cls := .type "list", data := .seq its.toArray n } ∧ xs.length ≤ sizeLine := by
  obtain ⟨z, its, n, r, e⟩ := I.hok p _ h
  exact ⟨its, n, r, e, z⟩
theorem Inv.lstUpd {pins : List (Addr × Obj)} {σ : St} {H : Hp} {s : Shared} {p : Addr} {xs ys : List V} {its its' : List Value} {n n' : Nat} {f : Obj → Obj} (I : Inv X pins σ H s) (h : H p = some (.lst xs))
    (ho : s.heap.get? p = some { cls := .type "list", data := .seq its.toArray n }) (hf : f { cls := .type "list", data := .seq its.toArray n } = { cls := .type "list", data := .seq its'.toArray n' }) (r : Vals ys its') (hz : ys.length ≤ sizeLine) (t : Nat) :
    Inv X pins σ (upd H p (.lst ys)) { s with heap := s.heap.update p f, toks := t } := by
  have e : (s.heap.update p f).get? p = some { cls := .type "list", data := .seq its'.toArray n' } := by
    rw [Heap.get?_update_self f ho (by rw [hf] <;> rfl), hf]
  refine I.write (x := p) (e := p) (by rw [h]; trivial) (.inl rfl) (fun b u hb q => (Heap.get?_update_other _ _ (Ne.symm hb)).trans q) ⟨_, e⟩ ?_
  exact ⟨hz, its', n', r, e⟩
def rSetL : V → V → V → Hp → (Hp → Prop) → Prop := fun o i v H Q => ∃ p xs k j, o = .ref p ∧ i = .int k ∧ H p = some (.lst xs) ∧ ixN xs.length k = some j ∧ Q (upd H p (.lst (xs.set j v)))
theorem set_list : PSet X rSetL := by
  intro pins s σ H o i v ov iv u Q I ro ri rv h
  obtain ⟨p, xs, k, j, rfl, rfl, hp, hj, q⟩ := h
  cases ro
  obtain ⟨t, rfl⟩ := ri
  obtain ⟨its, n, r, ho, hz⟩ := I.lst hp
  obtain ⟨h1, h2, h3, h4⟩ := ixN_seq hj
  have hl := r.length
  have hn := line63
  have I' : Inv X pins σ (upd H p (.lst (xs.set j v))) { s with heap := s.heap.update p (Obj.mapSeq (·.setIfInBounds j u)) } :=
    I.lstUpd hp ho (mapSeq_set its n j u) (r.set rv j) (by rw [List.length_set]; exact hz) s.toks
  by_cases h0 : 0 ≤ k
  · have hk : k.toNat = j := by
      rw [seqIndex_of h0 h4] at h1
      exact Option.some.inj h1
    exact PySem.W.ki_setAt ho h0 (by omega) (by rw [List.size_toArray, ← hl]; exact h4) (by rw [hk]; exact ⟨_, I', q⟩)
  · have hk : (k + (its.toArray.size : Int)).toNat = j := by
      rw [seqIndex_neg (by omega) h3] at h1
      rw [List.size_toArray, ← hl]
      exact Option.some.inj h1
    exact PySem.W.ki_setBack ho (by omega) (by rw [List.size_toArray, ← hl]; exact h3) (by omega) (by rw [hk]; exact ⟨_, I', q⟩)

theorem slice_bounds (lo hi : Option Int) (n : Nat) : (sliceBounds lo hi none n).1 = ((HT.sIx n 0 lo : Nat) : Int) ∧ (sliceBounds lo hi none n).2.1 = ((HT.sIx n n hi : Nat) : Int) ∧ (sliceBounds lo hi none n).2.2 = 1 := by
  refine ⟨?_, ?_, rfl⟩
  · cases lo with
    | none => simp [sliceBounds, HT.sIx]
    | some i =>
      simp only [sliceBounds, HT.sIx, Option.getD_none, show (1 : Int) > 0 by decide, if_true]
      by_cases h : i < 0
      · simp only [h, if_true] <;> omega
      · simp only [h, if_false] <;> omega
  · cases hi with
    | none => simp [sliceBounds, HT.sIx]
    | some i =>
      simp only [sliceBounds, HT.sIx, Option.getD_none, show (1 : Int) > 0 by decide, if_true]
      by_cases h : i < 0
      · simp only [h, if_true] <;> omega
      · simp only [h, if_false] <;> omega
theorem slicePick_cut (its : List Value) (lo hi : Option Int) : slicePick its.toArray lo hi none = ((its.drop (HT.sIx its.length 0 lo)).take (HT.sIx its.length its.length hi - HT.sIx its.length 0 lo)).toArray := by
  obtain ⟨h1, h2, h3⟩ := slice_bounds lo hi its.toArray.size
  unfold slicePick
  rw [h1, h2, h3]
  simp only [sliceRange_one, pick_run, List.size_toArray] <;> rfl
def rSlL (K : PySem.W.Frag) : V → Option Int → Option Int → Hp → VK → Prop := fun x lo hi H Q => ∃ a xs, x = .ref a ∧ SqL K H a xs ∧ ∀ p, H p = none → Q (.ref p) (upd H p (.lst (cutV xs lo hi)))
theorem sl_list : SlR X (rSlL X.K) := by
  intro pins s σ H x v vl vu lo hi sl Q I rx hs pl pu h
  obtain ⟨a, xs, rfl, hx, q⟩ := h
  cases rx
  obtain ⟨its, r, ht, hz⟩ := I.list hx
  have hlen := r.length
  refine ⟨"list", _, slot_list_getitem.lookup, ht.isList.typeIs, ?_⟩
  refine wpAny_getItem_list_slice ht.isList hs pl pu .none (by simp) ?_ (by rw [List.size_toArray] <;> omega)
  rw [slicePick_cut, ← hlen]
  refine ⟨.ref s.heap.objs.size, _, I.laid (t' := s.toks) (o := .lst (cutV xs lo hi)) (fun b ob q => Heap.get?_push_of_some _ q) (Nat.le_refl _) ?_, rfl, q _ (I.hok.fresh (Nat.le_refl _))⟩
  exact ⟨Nat.le_trans (cutV_length xs lo hi) hz, _, 0, (r.drop (HT.sIx xs.length 0 lo)).take (HT.sIx xs.length xs.length hi - HT.sIx xs.length 0 lo), Heap.get?_push_size _ rfl⟩

theorem call_len_seq : CallR X (.builtin "len") (fun xs H Q => ∃ p ys, xs = [.ref p] ∧ (SqL X.K H p ys ∨ SqT X.K H p ys) ∧ Q (.int ys.length) H) := by
  intro pins s σ H xs us Q I r h
  obtain ⟨p, ys, rfl, hq, q⟩ := h
  obtain ⟨u, rfl, rx⟩ := vals1 r
  cases rx
  have hn := line63
  rcases hq with hq | hq
  · obtain ⟨its, r', pl, hz⟩ := I.list hq
    have hlen := r'.length
    exact Calls.call_len_list pl.isList (by simp only [List.size_toArray] <;> omega) ⟨.int ys.length, H, I.tok _, ⟨s.toks + 1, by rw [List.size_toArray, hlen]⟩, q⟩
  · obtain ⟨its, r', pl, hz⟩ := I.tuple hq
    have hlen := r'.length
    exact len_tuple pl (by simp only [List.size_toArray] <;> omega) ⟨.int ys.length, H, I.tok _, ⟨s.toks + 1, by rw [List.size_toArray, hlen]⟩, q⟩
theorem call_len_str : CallR X (.builtin "len") (fun xs H Q => ∃ z, xs = [.str z] ∧ z.length ≤ sizeLine ∧ Q (.int z.length) H) := by
  intro pins s σ H xs us Q I r h
  obtain ⟨z, rfl, hz, q⟩ := h
  obtain ⟨u, rfl, t, rfl⟩ := vals1 r
  have hn := line63
  exact len_str (by omega) ⟨.int z.length, H, I.tok _, ⟨_, rfl⟩, q⟩
theorem CallR.or {f : Value} {r r' : List V → Hp → VK → Prop} (h : CallR X f r) (h' : CallR X f r') : CallR X f (fun xs H Q => r xs H Q ∨ r' xs H Q) := by
  intro pins s σ H xs us Q I rs q
  rcases q with q | q
  · exact h pins s σ H xs us Q I rs q
  · exact h' pins s σ H xs us Q I rs q
theorem call_list_of : CallR X (.type "list") (fun xs H Q => ∃ p ys, xs = [.ref p] ∧ (SqL X.K H p ys ∨ SqT X.K H p ys) ∧ ∀ l, H l = none → Q (.ref l) (upd H l (.lst ys))) := by
  intro pins s σ H xs us Q I r h
  obtain ⟨p, ys, rfl, hq, q⟩ := h
  obtain ⟨u, rfl, rx⟩ := vals1 r
  cases rx
  have fin : ∀ (its : List Value), Vals ys its → ys.length ≤ sizeLine → ∀ (h' : Heap) (c' : Nat), (∀ b o', s.heap.get? b = some o' → h'.get? b = some o') →
      h'.get? s.heap.objs.size = some { cls := .type "list", dict := none, data := .seq its.toArray c', slots := #[] } → EP X pins σ Q (.ref s.heap.objs.size) { s with heap := h' } := fun its r' hz h' c' kp e =>
    ⟨.ref s.heap.objs.size, _, I.laid (t' := s.toks) kp (Nat.le_refl _) (show ObjOk X.prog X.w _ h' _ (.lst ys) from ⟨hz, its, c', r', e⟩), rfl, q _ (I.hok.fresh (Nat.le_refl _))⟩
  rcases hq with hq | hq
  · obtain ⟨its, r', pl, hz⟩ := I.list hq
    have hlen := r'.length
    obtain ⟨o, ho, hc, n, hd⟩ := pl.isList
    exact call_list_seq p (.inl rfl) ho hc hd (fun h' c' kp e => fin its r' hz h' c' kp e) (by simp only [List.size_toArray] <;> omega)
  · obtain ⟨its, r', pl, hz⟩ := I.tuple hq
    have hlen := r'.length
    obtain ⟨o, ho, hc, n, hd⟩ := pl
    exact call_list_seq p (.inr rfl) ho hc hd (fun h' c' kp e => fin its r' hz h' c' kp e) (by simp only [List.size_toArray] <;> omega)
theorem call_tuple_of : CallR X (.type "tuple") (fun xs H Q => ∃ p ys, xs = [.ref p] ∧ ((SqL X.K H p ys ∧ ∀ l, H l = none → Q (.ref l) (upd H l (.tup ys))) ∨ (SqT X.K H p ys ∧ Q (.ref p) H))) := by
  intro pins s σ H xs us Q I r h
  obtain ⟨p, ys, rfl, h⟩ := h
  obtain ⟨u, rfl, rx⟩ := vals1 r
  cases rx
  rcases h with ⟨hq, q⟩ | ⟨hq, q⟩
  · obtain ⟨its, r', pl, hz⟩ := I.list hq
    have hlen := r'.length
    refine call_tuple_list pl.isList (fun h' kp => ?_) (by simp only [List.size_toArray] <;> omega)
    have I1 : Inv X pins σ H { s with heap := h' } := I.kept (t' := s.toks) kp
    have I2 : Inv X pins σ (upd H h'.objs.size (.tup ys)) { s with heap := h'.push { cls := .type "tuple", data := .seq its.toArray } } :=
      I1.laid (t' := s.toks) (fun b o e => Heap.get?_push_of_some _ e) (Nat.le_refl _) (show ObjOk X.prog X.w _ _ _ (.tup ys) from ⟨hz, its, r', TupN.new _ _⟩)
    exact ⟨.ref h'.objs.size, _, I2, rfl, q _ (I1.hok.fresh (Nat.le_refl _))⟩
  · obtain ⟨its, r', pl, hz⟩ := I.tuple hq
    exact call_tuple_same pl ⟨.ref p, H, I, rfl, q⟩

def tyV (K : PySem.W.Frag) (T : String) (x : V) (H : Hp) : Prop := match x with
  | .str _ => T = "str"
  | .int _ => T = "int"
  | .ref p => (T = "list" ∧ ∃ xs, SqL K H p xs) ∨ (T = "tuple" ∧ ((∃ o, K.lookup p = some o ∧ o.cls = .type "tuple" ∧ o.dict = none) ∨ ∃ xs, SqT K H p xs)) ∨
      (T = "dict" ∧ ((∃ kvs, H p = some (.dK kvs)) ∨ ∃ kvs, H p = some (.dT kvs))) ∨ (T = "set" ∧ ∃ S n, H p = some (.set S n))
  | _ => False
theorem tyV_is {pins : List (Addr × Obj)} {σ : St} {H : Hp} {s : Shared} {T : String} {x : V} {v : Value} (I : Inv X pins σ H s) (r : RelV x v) (ty : tyV X.K T x H) :
    s.TypeIs v T ∧ ∀ a, v = .ref a → ∃ ob, s.heap.get? a = some ob ∧ ob.dict = none := by
  cases x with
  | str z =>
    obtain ⟨t, rfl⟩ := r
    cases (show T = "str" from ty)
    exact ⟨typeIs_str s z t, fun _ e => nomatch e⟩
  | int i =>
    obtain ⟨t, rfl⟩ := r
    cases (show T = "int" from ty)
    exact ⟨typeIs_int s i t, fun _ e => nomatch e⟩
  | ref p =>
    cases r
    rcases ty with ⟨rfl, xs, hq⟩ | ⟨rfl, ⟨o, hk, hc, hd⟩ | ⟨xs, hq⟩⟩ | ⟨rfl, hk⟩ | ⟨rfl, S, n, hk⟩
    · obtain ⟨its, _, pl, _⟩ := I.list hq
      refine ⟨pl.isList.typeIs, fun a e => ?_⟩
      cases e
      obtain ⟨o, n, e, c, hd, _⟩ := pl
      exact ⟨o, e, hd⟩
    · refine ⟨⟨o, I.kIn p o hk, hc⟩, fun a e => ?_⟩
      cases e
      exact ⟨o, I.kIn _ o hk, hd⟩
    · obtain ⟨o, e, hc, hd⟩ := I.tupleN hq
      refine ⟨⟨o, e, hc⟩, fun a e2 => ?_⟩
      cases e2
      exact ⟨o, e, hd⟩
    · have z : ∃ o, s.heap.get? p = some o ∧ o.ExactDict := by
        rcases hk with ⟨kvs, hk⟩ | ⟨kvs, hk⟩
        · obtain ⟨_, _, _, _, o, _, _, e, ex, _⟩ := I.hok p _ hk
          exact ⟨o, e, ex⟩
        · obtain ⟨_, _, _, _, o, _, _, e, ex, _⟩ := I.hok p _ hk
          exact ⟨o, e, ex⟩
      obtain ⟨o, e, ex⟩ := z
      refine ⟨⟨o, e, ex.1⟩, fun a e2 => ?_⟩
      cases e2
      exact ⟨o, e, ex.2.1⟩
    · obtain ⟨o, _, _, _, e, ex, _⟩ := I.hok p _ hk
      refine ⟨⟨o, e, ex.1⟩, fun a e2 => ?_⟩
      cases e2
      exact ⟨o, e, ex.2.1⟩
  | _ => exact False.elim ty
def tBM (K : PySem.W.Frag) (T : String) (r : V → List V → Hp → VK → Prop) (to : TE) (t : TA) : TE := fun σ H Q => to σ H fun x H1 => tyV K T x H1 ∧ t σ H1 fun xs H2 => r x xs H2 Q
variable {o e : Expr} {es : List Expr} {to : TE} {t : TA} {name : Str} {apos cpos : Pos} {T id : String} {r : V → List V → Hp → VK → Prop}
theorem pe_bm (pa : PlainAttrs T) (slot : Slot T name id) (hty : typeOf (.builtin id) = pure (.type "method_descriptor")) (hm : MtR X id r) (ho : PE X o to) (ha : PA X (e :: es) t)
    (hbase : attributeBase o name X.env (eval o X.env) = eval o X.env := by rfl)
    (hfew : ((backTo cpos (starEach (e :: es) X.env)).all (fun x => !x.1) && (backToKw cpos (keywordEach [] X.env)).all (fun x => x.1.isSome)
      && decide ((e :: es).length + ([] : List Keyword).length + (if ([] : List Keyword).isEmpty then 0 else 1) < 30)) = true := by rfl)
    (hline : (apos.endLine == cpos.line) = true := by rfl) (hs : starEach (e :: es) X.env = (false, eval e X.env) :: starEach es X.env := by rfl) (hplain : (backTo cpos (starEach es X.env)).any (·.1) = false := by rfl) :
    PE X (.Call (.Attribute o name apos) (e :: es) [] cpos) (tBM X.K T r to t) := by
  intro pins s σ H Q I h
  refine wpAny_Call_method_late hbase hfew hline rfl (thn (ho pins s σ H _ I h) fun v s1 ⟨x, H1, I1, r1, ty, q1⟩ => ?_)
  obtain ⟨h1, h2⟩ := tyV_is I1 r1 ty
  refine ⟨T, id, pa, slot, hty, h1, h2, ?_⟩
  have hA := ha cpos pins s1 σ H1 _ I1 q1
  rw [hs] at hA ⊢
  refine Calls.callWith_builtin (by show (false || (backTo cpos (starEach es X.env)).any (·.1)) = false; rw [hplain] <;> rfl) (Calls.evalArgs_plain ?_)
  exact thn hA fun us s2 ⟨vs, H2, I2, r2, q2⟩ => hm pins s2 σ H2 x vs v us Q I2 r1 r2 q2
/- xs.append(e), list.index on a module's tuple .. are MtR facts of 06m -/
end
end L2

namespace L2
open PySem PySem.Spec PyProof.Rows

def MtM (X : Cx) (id : String) (r : V → List V → Hp → VK → Prop) : Prop :=
  ∀ (pins : List (Addr × Obj)) (s : Shared) (σ : St) (H : Hp) (x : V) (xs : List V) (v : Value) (us : List Value) (Q : VK), Inv X pins σ H s → RelV x v → Vals xs us → r x xs H Q →
    wpAny (model X.prog X.w) X.A (call (.builtin id) (v :: us)) (EP X pins σ Q) X.xe s

theorem Vals.one : ∀ {x : V} {us : List Value}, Vals [x] us → ∃ u, us = [u] ∧ RelV x u
  | _, _, .cons r .nil => ⟨_, rfl, r⟩
theorem Vals.two : ∀ {x y : V} {us : List Value}, Vals [x, y] us → ∃ u v, us = [u, v] ∧ RelV x u ∧ RelV y v
  | _, _, _, .cons r (.cons q .nil) => ⟨_, _, rfl, r, q⟩
theorem Vals.zero : ∀ {us : List Value}, Vals [] us → us = []
  | _, .nil => rfl
theorem Vals.dropLast {xs : List V} {us : List Value} (h : Vals xs us) : Vals xs.dropLast us.dropLast := by
  induction h with
  | nil => exact .nil
  | cons r t ih =>
    cases t with
    | nil => exact .nil
    | cons q t' => exact .cons r ih
theorem Vals.reverse {xs : List V} {us : List Value} (h : Vals xs us) : Vals xs.reverse us.reverse := by
  induction h with
  | nil => exact .nil
  | cons r t ih => rw [List.reverse_cons, List.reverse_cons]; exact Vals.append ih (.cons r .nil)
theorem Vals.rep {xs : List V} {us : List Value} (h : Vals xs us) : ∀ k : Nat, Vals (List.replicate k xs).flatten (List.replicate k us).flatten
  | 0 => .nil
  | k + 1 => by
    rw [List.replicate_succ, List.replicate_succ, List.flatten_cons, List.flatten_cons]
    exact Vals.append h (Vals.rep h k)
section
variable {X : Cx} {pins : List (Addr × Obj)} {σ : St} {H : Hp} {s : Shared} {l b : Addr} {xs ys zs : List V}

theorem Inv.lset {its its' : List Value} {n : Nat} {f : Array Value → Array Value} {t' : Nat} (I : Inv X pins σ H s) (hH : H l = some (.lst xs))
    (e : s.heap.get? l = some { cls := .type "list", data := .seq its.toArray n }) (hf : f its.toArray = its'.toArray) (hv : Vals ys its') (hz : ys.length ≤ sizeLine) :
    Inv X pins σ (upd H l (.lst ys)) { s with heap := s.heap.update l (Obj.mapSeq f), toks := t' } := by
  have q := PySem.IsL.update e f
  rw [hf] at q
  refine I.write (x := l) (e := l) (by rw [hH]; exact trivial) (.inl rfl) (fun b' u hb hu => (Heap.get?_update_other s.heap (Obj.mapSeq f) (Ne.symm hb)).trans hu) ⟨_, q⟩ ?_
  exact ⟨hz, its', _, hv, q⟩
theorem Inv.lnew {its : List Value} {t' : Nat} (I : Inv X pins σ H s) (hv : Vals ys its) (hz : ys.length ≤ sizeLine) :
    Inv X pins σ (upd H s.heap.objs.size (.lst ys)) { s with heap := s.heap.push { cls := .type "list", data := .seq its.toArray }, toks := t' } :=
  I.laid (fun _ _ q => Heap.get?_push_of_some _ q) (Nat.le_refl _) ⟨hz, its, 0, hv, Heap.get?_push_size _ rfl⟩
theorem Inv.fresh (I : Inv X pins σ H s) : H s.heap.objs.size = none := I.hok.fresh (Nat.le_refl _)
theorem Inv.lstM (I : Inv X pins σ H s) (hH : H l = some (.lst xs)) : xs.length ≤ sizeLine ∧ ∃ (its : List Value) (n : Nat), Vals xs its ∧ xs.length = its.length ∧ s.heap.get? l = some { cls := .type "list", data := .seq its.toArray n } := by
  obtain ⟨z, its, n, r, e⟩ := I.hok l _ hH
  exact ⟨z, its, n, r, r.length, e⟩

theorem notLongL {n : Nat} (h : n ≤ sizeLine) : Builtin.List.listTooLong n = false := by
  unfold Builtin.List.listTooLong
  exact decide_eq_false (by omega)
end

section
variable {X : Cx}

def rAppend : V → List V → Hp → VK → Prop := fun x vs H Q => ∃ l xs y, x = .ref l ∧ vs = [y] ∧ H l = some (.lst xs) ∧ xs.length < sizeLine ∧ Q .non (upd H l (.lst (xs ++ [y])))
theorem mt_append : MtM X "list.append" rAppend := by
  intro pins s σ H x vs v us Q I rx rv h
  obtain ⟨l, xs, y, rfl, rfl, hH, hz, q⟩ := h
  cases rx
  obtain ⟨u, rfl, ru⟩ := rv.one
  obtain ⟨z, its, n, r, hl, e⟩ := I.lstM hH
  refine call_meets F.slot_list_append ⟨_, e, rfl⟩ F.entry_list_append (F.args_list_append_2 _ _) (PySem.list_append l its.toArray n u (by rw [List.size_toArray]; omega)) ⟨e, ?_⟩
  refine ⟨.non, _, I.lset (its' := its ++ [u]) hH e (by simp) (r.append (.cons ru .nil)) ?_, rfl, q⟩
  rw [List.length_append, List.length_singleton]
  omega

end

section
variable {prog : Program} {w : World} {A : Around} {E : Value → Shared → Prop} {s : Shared}
end

section
variable {X : Cx}
end
end L2

namespace Att
open PySem PySem.W PySem.Calls PyProof.Rows

theorem ints_of_wellAll {P : Params} {h : Heap} : ∀ (ns : List Int) (vs : List Value), WellAll P h vs (ns.map WData.int) → IntsAre vs ns := by
  intro ns
  induction ns with
  | nil =>
    intro vs w
    rw [List.map_nil] at w
    cases w
    exact .nil
  | cons n ns ih =>
    intro vs w
    rw [List.map_cons] at w
    cases w with
    | cons a b =>
      cases a
      exact .cons _ _ (ih _ b)

theorem script_of {l : OpenLaw} {n : Nat} (hn : l.most = some n) {P : Params} {h : Heap} {args : List WData} {vals : List Value}
    (hpre : l.row.toRowW.claim.pre args = true) (hwl : WellAll P h vals args) :
    ∃ a vs ns, vals = [Value.ref a] ∧ args = [WData.list (ns.map WData.int)] ∧ h.get? a = some { cls := .type "list", data := .seq vs.toArray } ∧ IntsAre vs ns ∧ ns.length ≤ n := by
  have hsh : WShape.hasAll [] args [.list .int] = true := (pre_splitW hpre).1
  have hc : l.pre.holds [] { args := args } = true := (pre_splitW hpre).2
  obtain ⟨d, r, rfl, h1, h2⟩ := hasAllW_cons hsh
  obtain rfl := hasAllW_nil h2
  obtain ⟨xs, rfl, h3⟩ := hasW_list h1
  obtain ⟨ns, rfl⟩ := items_int h3
  have hlen : ns.length ≤ n := by
    unfold OpenLaw.pre at hc
    have h4 : (WTm.not (.lt (.lit (.int (n : Int))) (.len (.arg 0)))).holds [] { args := [.list (ns.map .int)] } = true := by
      have h4 := (holds_andW hc).1
      rw [hn] at h4
      exact h4
    have h5 := condW_of h4 (w_not (w_lt w_lit (w_len_list (w_arg rfl))))
    rw [List.length_map] at h5
    refine Nat.le_of_not_lt fun q => ?_
    have q' : (n : Int) < ((ns.length : Nat) : Int) := by omega
    first
      | (rw [decide_eq_true q'] at h5; exact absurd h5 (by decide))
      | (simp at h5; omega)
  cases hwl with
  | cons w1 w2 =>
    cases w2
    cases w1 with
    | list ho hall => exact ⟨_, _, ns, rfl, rfl, ho, ints_of_wellAll ns _ hall, hlen⟩

theorem post_true (l : OpenLaw) (args : List WData) : l.row.toRowW.claim.post args (.bool true) args = true :=
  postW_of (r := l.row.toRowW) (X := (true == true))
    (show WShape.has [] (.bool true) .bool = true by first | rfl | decide | simp [WShape.has, WShape.arms, WShape.armsAll])
    (show (WTm.eq .res (.lit (.bool true))).value [] { args := args, res := some (.bool true), after := args } = some (.bool (true == true)) from w_eq_bool (w_res rfl) w_lit) rfl

theorem attach_call {l : OpenLaw} {n : Nat} {q : Program} {loose : List Str} {XP : (Str → Option Value) → Heap → Prop} {YP : World → Heap → Prop} {d : DefRec}
    (hn : l.most = some n) (hdf : d.params.defaults = [])
    (call : ∀ (w : World) (s₀ s₁ : Shared) (mg mb : Str → Option Value) (fa : Addr) (o : Obj) (pm cd doc : Value) (a : Addr) (vs : List Value) (ns : List Int),
      Ground q loose [] XP w s₀ mg mb s₁.heap → YP w s₁.heap →
      s₁.heap.get? fa = some o → o.data = .func (docDef d.name d.params d.body d.scope pm cd doc) → s₁.heap.CodeRec cd d.name → mg d.name = some (.ref fa) →
      s₁.heap.get? a = some { cls := .type "list", data := .seq vs.toArray } → IntsAre vs ns → ns.length ≤ n → s₁.gens = #[] →
      codeAny (model l.prog w) callerA (.call (.ref fa) ⟨[.ref a], []⟩) (fun r s' => r = .ok (.ret (.bool true)) ∧ OldK s₁.heap s'.heap ∧ s'.os = s₁.os ∧ AllBare s'.gens) s₁) :
    WalkO q loose XP YP l.row.toRowW d [] (fun f vs => PySem.call f vs) := by
  intro w s₀ s₁ mg mb G Y fa o pm cd doc dV kV ho hd hcd hD hmg hg args vals as hpre hlay hrd hwl hlo
  obtain rfl : dV = .none := Dflts.none hD hdf
  obtain rfl : kV = .none := Dflts.noKw hD
  obtain ⟨a, vs, ns, rfl, rfl, hobj, hints, hlen⟩ := script_of hn hpre hwl
  refine enter_call (codeAny_mono (call w s₀ s₁ mg mb fa o pm cd doc a vs ns G Y ho (fd_plain hd) hcd hmg hobj hints hlen hg) fun r s' hq => ?_)
  obtain ⟨rfl, h2, h3, h4⟩ := hq
  exact ⟨.inl ⟨.bool true, .bool true, [], rfl, fun _ => rfl, .bool true, post_true l _, fun _ => ⟨List.Pairwise.nil, fun _ hm => (nomatch hm)⟩⟩, h2, h3, h4⟩

section
variable {prog : Program} {w : World} {A : Around} {E : Value → Shared → Prop} {s : Shared} {K : Frag}

def ledger (h : Heap) (L d : Addr) : List (Addr × Obj) := (List.range h.objs.size).filterMap fun a => if a = L ∨ a = d then none else (h.get? a).map fun o => (a, o)
end
end Att

namespace L2
open PySem PySem.Spec PyProof.Rows

theorem vals_ints : ∀ {vs : List Value} {ns : List Int}, IntsAre vs ns → Vals (ns.map V.int) vs
  | _, _, .nil => .nil
  | _, _, .cons n t h => .cons ⟨t, rfl⟩ (vals_ints h)

def Only (H : Hp) : Prop := ∀ b, H b = none ∨ ∃ o xs, H b = some (.frz o (.lst xs))

theorem law_call {P : Program} {w : World} {K : PySem.W.Frag} {mg mb : Str → Option Value} {CX : CXT} {k : Nat} {fa a : Addr} {fd : FuncData} {x : Str} {sp : Sp} {s₁ : Shared} {vs : List Value} {ns : List Int}
    (KX : K.In s₁.heap) (hns : s₁.heap.Ns mainGlobals mg) (hb : s₁.heap.Ns builtinsNs mb) (hbb : ∀ x : Str, x ≠ "__name__" → mb x = bootBuiltins x) (hlim : s₁.heap.NoLimit) (hg : s₁.gens = #[])
    (ha : s₁.heap.get? a = some { cls := .type "list", data := .seq vs.toArray }) (hi : IntsAre vs ns) (hl : ns.length ≤ sizeLine) (hr : Room k callerA)
    (F : ∀ base : Heap, K.In base → base.Ns mainGlobals mg → FnOk P w K mg base CX k fa fd [x] sp) (hbind : ∀ (s : Shared) (u : Value), BindsTo s fd ⟨[u], []⟩ [(x, u)])
    (hsp : ∀ H : Hp, Only H → SqL K H a (ns.map V.int) → sp [.ref a] H (fun v _ => v = .bl true) fun _ _ _ => False)
    (hCX : ∀ H e s', CX [] H s₁ (fun _ _ _ => False) e s' → False) :
    codeAny (model P w) callerA (.call (.ref fa) ⟨[.ref a], []⟩) (fun r s' => r = .ok (.ret (.bool true)) ∧ OldK s₁.heap s'.heap ∧ s'.os = s₁.os ∧ AllBare s'.gens) s₁ := by
  have rv := vals_ints hi
  have lenV := hi.length
  -- from an abstract heap in which nothing but the script may be tracked
  have core : ∀ H : Hp, Only H → SqL K H a (ns.map V.int) → HOk P w H s₁.heap → (∀ b, H b ≠ none → b = a) → (H a ≠ none → K.lookup a = none) →
      codeAny (model P w) callerA (.call (.ref fa) ⟨[.ref a], []⟩) (fun r s' => r = .ok (.ret (.bool true)) ∧ OldK s₁.heap s'.heap ∧ s'.os = s₁.os ∧ AllBare s'.gens) s₁ := by
    intro H hO hS hok hA hK
    have base_of : ∀ {b : Addr} {o : Obj}, s₁.heap.get? b = some o → H b = none → (hidT s₁.heap H).get? b = some o := fun e n => hidT_get e n
    have noA : ∀ {b : Addr} {o : Obj} {es : Array DictEntry} {ep : Nat}, s₁.heap.get? b = some o → o.data = .dict es ep → H b = none := fun {b o es ep} e d => by
      cases q : H b with
      | none => rfl
      | some u =>
        have e' : b = a := hA b (by rw [q]; simp)
        subst e'
        rw [ha] at e; cases e
        have d' : Data.seq vs.toArray _ = Data.dict es ep := d
        cases d'
    have nsK : ∀ {b : Addr} {m : Str → Option Value}, s₁.heap.Ns b m → (hidT s₁.heap H).Ns b m := fun {b m} ⟨o, es, ep, e, d, r⟩ => ⟨o, es, ep, base_of e (noA e d), d, r⟩
    have hKb : K.In (hidT s₁.heap H) := fun b o e => base_of (KX b o e) (by
      cases q : H b with
      | none => rfl
      | some u =>
        have e' : b = a := hA b (by rw [q]; simp)
        subst e'
        rw [hK (by rw [q]; simp)] at e; cases e)
    have hM : Mod K mg (hidT s₁.heap H) := ⟨hKb, nsK hns, ⟨mb, nsK hb, hbb⟩, let ⟨mc, h1, h2⟩ := hlim; ⟨mc, nsK h1, h2⟩⟩
    have e0 : Env0 P w K mg (hidT s₁.heap H) callerA [] s₁ H := ⟨rfl, hM, fun b o e => of_hidT e, Nat.le_of_eq (hidT_size _ _), trivial, fun b hb => absurd (show b ∈ ([] : List Addr) from hb) (by simp), hok, .of_eq hg⟩
    refine codeAny_mono ((F _ hKb (nsK hns)).run callerA [] s₁ H ⟨[.ref a], []⟩ [.ref a] [.ref a] _ _ hr e0 (hbind s₁ (.ref a)) (.cons rfl .nil) (hsp H hO hS)) fun r s' h => ?_
    cases r with
    | error e => exact (hCX H e s' h).elim
    | ok fl =>
      cases fl with
      | next => exact False.elim h
      | brk => exact False.elim h
      | cont => exact False.elim h
      | ret u =>
        obtain ⟨v, H', os, bare, un, hok', r', q⟩ := h
        have q' : v = .bl true := q
        subst q'
        obtain rfl : u = Value.bool true := r'
        refine ⟨rfl, OldK.of_keep fun b o e => ?_, os, bare⟩
        cases q : H b with
        | none => exact un.keep b o e q (by intro z; exact absurd (show b ∈ ([] : List Addr) from z) (by simp)) (by simp)
        | some u =>
          rcases hO b with z | ⟨ob, xs, z⟩
          · rw [q] at z; cases z
          · have z2 := un.frzs b ob _ z
            obtain ⟨e1, _⟩ := hok b _ z
            obtain ⟨e2, _⟩ := hok' b _ z2
            rw [e] at e1; cases e1
            exact e2
  cases hk : K.lookup a with
  | some o =>
    -- the script is one of the module's own objects
    have e := KX a o hk
    rw [ha] at e
    cases e
    refine core (fun _ => none) (fun _ => .inl rfl) (.inr ⟨_, vs.toArray, _, hk, rfl, rfl, rfl, by rw [List.size_toArray, lenV]; exact hl, by simpa using rv⟩) (fun b u z => by have z' : (none : Option HO) = some u := z; cases z') (fun b z => absurd rfl z) fun z => absurd rfl z
  | none =>
    refine core (fun b => if b = a then some (.frz { cls := .type "list", data := .seq vs.toArray } (.lst (ns.map V.int))) else none) (fun b => ?_) (.inl (.inr ⟨{ cls := .type "list", data := .seq vs.toArray }, if_pos rfl⟩)) (fun b u z => ?_) (fun b z => ?_) fun _ => hk
    · by_cases hb : b = a
      · exact .inr ⟨_, _, if_pos hb⟩
      · exact .inl (if_neg hb)
    · by_cases hb : b = a
      · have z' := (if_pos hb).symm.trans z
        cases z'
        subst hb
        exact ⟨ha, by rw [List.length_map]; exact hl, vs, _, rv, ha⟩
      · have z' := (if_neg hb).symm.trans z
        cases z'
    · by_cases hb : b = a
      · exact hb
      · exact absurd (if_neg hb) z
end L2

namespace L2
open PySem PySem.Spec PyProof.Rows

abbrev KOf {K : PySem.W.Frag} {h : Heap} (_ : K.In h) : PySem.W.Frag := K

theorem walk_of {l : PySem.W.OpenLaw} {n k : Nat} {q : Program} {loose : List Str} {XP : (Str → Option Value) → Heap → Prop} {YP : World → Heap → Prop} {d : DefRec} {K : Params → PySem.W.Frag} {CX : World → CXT} {sp : World → Sp} {x : Str}
    (hn : l.most = some n) (hn2 : n ≤ sizeLine) (hdf : d.params.defaults = []) (hr : Room k callerA)
    (hY : ∀ (w : World) (h : Heap), YP w h → (K w.params).In h)
    (F : ∀ (w : World) (mg : Str → Option Value) (fa : Addr) (h : Heap), (K w.params).In h → h.Ns mainGlobals mg → mg d.name = some (.ref fa) →
      ∃ fd : FuncData, (∀ (s : Shared) (u : Value), BindsTo s fd ⟨[u], []⟩ [(x, u)]) ∧
        ∀ base : Heap, (K w.params).In base → base.Ns mainGlobals mg → FnOk l.prog w (K w.params) mg base (CX w) k fa fd [x] (sp w))
    (hsp : ∀ (w : World) (H : Hp) (a : Addr) (ns : List Int), ns.length ≤ n → Only H → SqL (K w.params) H a (ns.map V.int) → sp w [.ref a] H (fun v _ => v = .bl true) fun _ _ _ => False)
    (hCX : ∀ (w : World) (H : Hp) (s : Shared) (e : Value) (s' : Shared), CX w [] H s (fun _ _ _ => False) e s' → False) :
    PySem.W.WalkO q loose XP YP l.row.toRowW d [] (fun f vs => PySem.call f vs) := by
  refine Att.attach_call hn hdf fun w s₀ s₁ mg mb fa o pm cd doc a vs ns G Y ho hd hcd hmg hobj hints hlen hg => ?_
  have KX := hY w _ Y
  obtain ⟨fd, hb, hF⟩ := F w mg fa _ KX G.T.g hmg
  exact law_call KX G.T.g G.T.b G.T.builtins G.T.nolimit hg hobj hints (Nat.le_trans hlen hn2) hr hF hb (fun H hO hS => hsp w H a ns hlen hO hS) fun H e s' => hCX w H s₁ e s'
end L2

/- THE LAST THEOREM (shape; LID, My.* are yours):
   My.Adr: a structure of the addresses that your layer names (classes, functions); My.Txt K t: a structure (Prop) of the equations over K;
   My.txt_mk : {K} {implicit addresses ..} (e1 : nsIn K mainGlobals "law" = some (some (.ref f))) (e2 : K.lookup f = some ⟨oc, od, .func (fnOf "law" "law" params body scope dV kV doc pm an cdv ct), sl⟩) (e3 : codeIn K cdv "law" = true) .. : ∃ t, My.Txt K t

set_option maxRecDepth 100000 in
set_option maxHeartbeats 0 in
theorem PySem.Challenge.cw_LID_holds : PySem.Challenge.rw_LID.Holds := by
  w_on; o_law; k_head; (case hw => w_witness2)
  k_fill
  refine L2.walk_of (l := PySem.Challenge.rw_LID) (n := 63) (k := 40) (x := "script") (CX := fun w => ..) (sp := fun _ => My.sp_law) rfl (by decide) rfl ⟨rfl, by decide, by decide⟩ (fun w h Y => PySem.W.kIn_of Y) ?F ?S ?C
  case F =>
    intro w mg fa h KX G hmg
    have T : ∃ t, My.Txt (L2.KOf KX) t := by
      dsimp only [L2.KOf]                          -- K must stand as «<heap const> w.params» for k_is
      refine' My.txt_mk ?e1 ?e2 ?e3 ..
      (case e1 => PySem.W.k_is)                    -- in the order: a name -> its address -> its object -> its parts
      (case e2 => PySem.W.k_is)
      ..
    obtain ⟨t, T⟩ := T
    have e0 := hmg.symm.trans (PySem.W.mg_of KX G T.law)
    cases e0                                       -- fa is the law's own address
    exact ⟨_, fun s u => .of_eq rfl, fun base kb nb => My.law_fn T kb nb⟩     -- if «.of_eq rfl» comes too early: refine' ⟨_, ?b, fun base kb nb => My.law_fn T kb nb⟩; exact fun s u => .of_eq rfl
  case S => exact fun w H a ns hl hO hS => ..
  case C => exact ..
(the tactic k_is has no namespace: write k_is) -/

namespace L2
open PySem PySem.Spec PyProof.Rows

def defArgs (s : Stmt) : Arguments := match s with
  | .FunctionDef _ a _ _ _ _ _ _ _ _ => a
  | _ => { posonlyargs := [], args := [], vararg := none, kwonlyargs := [], kw_defaults := [], kwarg := none, defaults := [] }
def defBody (s : Stmt) : List Stmt := match s with
  | .FunctionDef _ _ b _ _ _ _ _ _ _ => b
  | _ => []
def defScope (s : Stmt) : Scope := match s with
  | .FunctionDef _ _ _ _ _ _ sc _ _ _ => sc
  | _ => { kind := .function, names := [], isGenerator := false, isCoroutine := false }

abbrev CX0 : CXT := fun _ _ _ _ _ _ => False
abbrev E0 : XK := fun _ _ _ => False
theorem pass0 {X : Cx} : Passes CX0 X E0 := fun _ _ _ _ _ _ _ h => h.elim

structure Fun (K : PySem.W.Frag) (x qual : Str) (st : Stmt) (f : Addr) (fd : FuncData) : Prop where
  ex : ∃ (oc : Value) (od : Option Addr) (kV doc pm : Value) (an : Option Addr) (cdv ct : Value) (osl : Array (Option Value)),
    fd = PySem.W.fnOf x qual (defArgs st) (defBody st) (defScope st) .none kV doc pm an cdv ct ∧ K.lookup f = some ⟨oc, od, .func fd, osl⟩ ∧ PySem.W.codeIn K cdv qual = true
  kp : PySem.W.keepIn K (.ref f) = true
section
variable {P : Program} {w : World} {K : PySem.W.Frag} {mg : Str → Option Value} {base : Heap}
theorem Fun.ok {x qual : Str} {st : Stmt} {f : Addr} {fd : FuncData} {N ps : List Str} {k : Nat} {sp : Sp} (F : Fun K x qual st f fd) (S : FnScope N ps (defScope st)) (len : ∀ vs H Q E, sp vs H Q E → vs.length = ps.length)
    (hbody : ∀ (cdv : Value) (A : Around) (outer : List Env) (s : Shared) (H : Hp) (vs : List V) (Q : VK) (E : XK), Room k (A.deeper (envOfC qual (defScope st) s.heap.objs.size f cdv)) → sp vs H Q E →
      ∃ t, PSs (cxOf CX0 P w K mg base N qual (defScope st) f cdv A outer s H E).nox (defBody st) t ∧ t { nx := fun _ H' => Q .non H', rt := Q } (start N vs) H) : FnOk P w K mg base CX0 (k + 1) f fd ps sp := by
  obtain ⟨oc, od, kV, doc, pm, an, cdv, ct, osl, rfl, lk, hcd⟩ := F.ex
  refine fn_of lk hcd S len fun A outer s H vs Q E hr hsp => ?_
  obtain ⟨t, h, q⟩ := hbody cdv A outer s H vs Q E hr hsp
  exact ⟨t, h.nox, q⟩
theorem Fun.binds {x qual : Str} {st : Stmt} {f : Addr} {fd : FuncData} {ps : List Str} (F : Fun K x qual st f fd)
    (h : ∀ (kV doc pm : Value) (an : Option Addr) (cdv ct : Value) (us : List Value), us.length = ps.length → bindArgs (PySem.W.fnOf x qual (defArgs st) (defBody st) (defScope st) .none kV doc pm an cdv ct) ⟨us, []⟩ = pure (ps.zip us)) : Binds K fd ps [] := by
  obtain ⟨oc, od, kV, doc, pm, an, cdv, ct, osl, rfl, lk, hcd⟩ := F.ex
  exact .all (h kV doc pm an cdv ct)
theorem fun_mk {x qual : Str} {st : Stmt} {f : Addr} {oc : Value} {od an : Option Addr} {osl : Array (Option Value)} {kV doc pm cdv ct : Value} (l : K.lookup f = some ⟨oc, od, .func (PySem.W.fnOf x qual (defArgs st) (defBody st) (defScope st) .none kV doc pm an cdv ct), osl⟩)
    (c : PySem.W.codeIn K cdv qual = true) (k : PySem.W.keepIn K (.ref f) = true) : Fun K x qual st f (PySem.W.fnOf x qual (defArgs st) (defBody st) (defScope st) .none kV doc pm an cdv ct) := ⟨⟨oc, od, kV, doc, pm, an, cdv, ct, osl, rfl, l, c⟩, k⟩
end
theorem small1000 {n : Nat} (h : n ≤ 1000) : n < sizeLine := Nat.lt_of_le_of_lt h (by decide)

section
variable {X : Cx}
theorem pv (i : Nat) {x : Str} {pos : Pos} (hN : X.N[i]? = some x := by rfl) (hv : Vis X.env.scope x := by first | exact Or.inl rfl | exact Or.inr (Or.inl rfl) | exact Or.inr (Or.inr rfl)) (hd : (x == ("__debug__" : Str)) = false := by decide)
    (hcd : (x == ("__classdict__" : Str)) = false := by decide) : PE X (.Name x pos) (tVar i) := pe_var hN hv hd hcd
end

def Same (H H' : Hp) : Prop := ∀ b o, H b = some o → H' b = some o
theorem Same.refl (H : Hp) : Same H H := fun _ _ h => h
theorem Same.trans {H H1 H2 : Hp} (a : Same H H1) (b : Same H1 H2) : Same H H2 := fun c o h => b c o (a c o h)
theorem Same.free {H H' : Hp} (e : Same H H') {l : Addr} (h : H' l = Option.none) : H l = Option.none := by
  cases q : H l with
  | none => rfl
  | some o =>
    rw [e l o q] at h
    cases h
theorem Same.seq {K : PySem.W.Frag} {H H' : Hp} {a : Addr} {xs : List V} (e : Same H H') (h : SqL K H a xs) : SqL K H' a xs := by
  rcases h with (h | ⟨o, h⟩) | h
  · exact .inl (.inl (e _ _ h))
  · exact .inl (.inr ⟨o, e _ _ h⟩)
  · exact .inr h

end L2

set_option Elab.async false
set_option linter.all false
set_option maxRecDepth 100000
namespace L2
open PySem PySem.Spec PyProof.Rows

theorem go_sign {M : Model} {A : Around} {E : Value → Shared → Prop} {s : Shared} {tg : Expr} {it : Value} {z : Str} {t : Tok} {Q : Unit → Shared → Prop} (hQ : Q () s) :
    wpAny M A (letOwnedTupleGo tg it (.str z t)) Q E s := by
  unfold letOwnedTupleGo
  cases tg <;> first
    | exact wpAny_pure hQ
    | (cases it <;> exact wpAny_pure hQ)
def Its (z : Str) : It := ⟨fun i _ => i < z.cps.size, fun i H x H' => H' = H ∧ ∃ c, z.cps[i]? = some c ∧ x = .str ⟨#[c]⟩, fun i _ => z.cps.size ≤ i⟩
theorem turn_sign {P : Program} {w : World} {K : PySem.W.Frag} {tg : Expr} {ty : String} (it : Addr) (z : Str) (t : Tok)
    (W : ∀ A : Around, A.handled = none → Walks P w A it [it] [it] z.cps.size (SignAt z) (fun i h => h.IsStrIter it ty z t i))
    (S : ∀ (A : Around) (i : Nat) (s : Shared) (Q : Value → Shared → Prop) (E : Value → Shared → Prop), s.heap.IsStrIter it ty z t i → Q (.ref it) s → wpAny (model P w) A (pyIter (.ref it)) Q E s) :
    Turn P w K tg (Its z) [it] it (fun i h => i ≤ z.cps.size ∧ h.IsStrIter it ty z t i) where
  mem := by simp
  obj := fun i h st b hb => by
    obtain rfl : b = it := by simpa using hb
    obtain ⟨_, o, e, c, d⟩ := st
    exact ⟨o, e, fun v q => by rw [d] at q; cases q⟩
  keep := fun i h h' st k => by
    obtain ⟨l, o, e, r⟩ := st
    exact ⟨l, o, k it (by simp) o e, r⟩
  item := by
    intro X hP hw hK hc i pins s σ H E I hf st hg
    subst hP hw hK
    obtain ⟨f0, f1, f2, f3, f4, f5⟩ := hf it (by simp)
    refine (W X.A (I.ok.hd hc)).item i s _ _ hg st.2 fun v h' tk hv st' kk => ?_
    obtain ⟨c, u, hx, rfl⟩ := hv
    have I1 : Inv X pins σ H { s with heap := h', toks := tk } := I.turned (fun b o hb e => kk b o (by simpa using hb) e) f0 f1 f3 f4 f5
    exact ⟨_, rfl, go_sign ⟨.str ⟨#[c]⟩, H, I1, ⟨u, rfl⟩, ⟨rfl, c, hx, rfl⟩, ⟨hg, st'⟩, fun b hb => (hf b hb).1⟩⟩
  done := by
    intro X hP hw hK hc i pins s σ H E I hf st hg
    subst hP hw hK
    obtain ⟨f0, f1, f2, f3, f4, f5⟩ := hf it (by simp)
    have e : i = z.cps.size := Nat.le_antisymm st.1 hg
    subst e
    exact (W X.A (I.ok.hd hc)).done s _ _ st.2 fun h' tk kk => ⟨rfl, I.turned (fun b o hb e => kk b o (by simpa using hb) e) f0 f1 f3 f4 f5⟩
  self := fun A i s Q E st h => S A i s Q E st.2 h

def iAny (K : PySem.W.Frag) (tl : TE) : TI := fun σ H R => tl σ H fun x H1 => (∃ a, x = .ref a ∧ (∃ xs, SqL K H1 a xs) ∧ R (Itl K a) H1) ∨ (∃ a, x = .ref a ∧ (∃ xs, SqT K H1 a xs) ∧ R (Itt K a) H1) ∨ ∃ z, x = .str z ∧ R (Its z) H1
theorem pi_any {X : Cx} {tg l : Expr} {tl : TE} (hl : PE X l tl) : PI X tg l (iAny X.K tl) := by
  intro pins s σ H R I h
  refine thn (hl pins s σ H _ I h) fun v s1 ⟨x, H1, I1, r1, q1⟩ => ?_
  rcases q1 with ⟨a, rfl, ⟨xs, hq⟩, q⟩ | ⟨a, rfl, ⟨xs, hq⟩, q⟩ | ⟨z, rfl, q⟩
  · cases r1
    obtain ⟨its, rv, p, hz⟩ := I1.list hq
    refine wpAny_pyIter_list p.isList ⟨s1.heap.objs.size, [s1.heap.objs.size], _, _, H1, rfl, I1.kept (t' := s1.toks) fun b o e => Heap.get?_push_of_some _ e, turn_list a _, ⟨_, Heap.get?_push_size _ rfl, rfl, rfl⟩, fun b hb => ?_, q⟩
    obtain rfl : b = s1.heap.objs.size := by simpa using hb
    exact I1.fpOk (Nat.le_refl _) (I1.hok.fresh (Nat.le_refl _))
  · cases r1
    obtain ⟨its, rv, p, hz⟩ := I1.tuple hq
    refine wpAny_pyIter_tuple (show s1.heap.IsTuple a its.toArray from p) ⟨s1.heap.objs.size, [s1.heap.objs.size], _, _, H1, rfl, I1.kept (t' := s1.toks) fun b o e => Heap.get?_push_of_some _ e, turn_tuple a _, ⟨_, Heap.get?_push_size _ rfl, rfl, rfl⟩, fun b hb => ?_, q⟩
    obtain rfl : b = s1.heap.objs.size := by simpa using hb
    exact I1.fpOk (Nat.le_refl _) (I1.hok.fresh (Nat.le_refl _))
  · obtain ⟨t, rfl⟩ := r1
    have fin : ∀ (o : Obj) (ty : String), (∀ A : Around, A.handled = none → Walks X.prog X.w A s1.heap.objs.size [s1.heap.objs.size] [s1.heap.objs.size] z.cps.size (SignAt z) (fun i h => h.IsStrIter s1.heap.objs.size ty z t i)) →
        (∀ (A : Around) (i : Nat) (s : Shared) (Q : Value → Shared → Prop) (E : Value → Shared → Prop), s.heap.IsStrIter s1.heap.objs.size ty z t i → Q (.ref s1.heap.objs.size) s → wpAny (model X.prog X.w) A (pyIter (.ref s1.heap.objs.size)) Q E s) →
        (s1.heap.push o).IsStrIter s1.heap.objs.size ty z t 0 → PIE X pins σ tg R (.ref s1.heap.objs.size) { s1 with heap := s1.heap.push o } := fun o ty W S st => by
      refine ⟨s1.heap.objs.size, [s1.heap.objs.size], _, Its z, H1, rfl, I1.kept (t' := s1.toks) fun b o e => Heap.get?_push_of_some _ e, turn_sign _ z t W S, ⟨Nat.zero_le _, st⟩, fun b hb => ?_, q⟩
      obtain rfl : b = s1.heap.objs.size := by simpa using hb
      exact I1.fpOk (Nat.le_refl _) (I1.hok.fresh (Nat.le_refl _))
    cases ha : z.cps.all (· < 128)
    · exact wpAny_pyIter_wide ha (fin _ "str_iterator" (fun A hA => Walks.strWide hA _ z t) (fun _ _ _ _ _ st h => wpAny_pyIter_striter_wide st h) ⟨_, Heap.get?_push_size _ rfl, rfl, rfl⟩)
    · exact wpAny_pyIter_ascii ha (fin _ "str_ascii_iterator" (fun A hA => Walks.strAscii hA _ z t) (fun _ _ _ _ _ st h => wpAny_pyIter_striter_ascii st h) ⟨_, Heap.get?_push_size _ rfl, rfl, rfl⟩)

structure BP where
  cl : List (Str × Addr)
  C : Addr
  s3 : Shared
  H3 : Hp
  ex : List Addr
  pn : List (Addr × Obj)
def blk (X : Cx) (scope : Scope) (N' : List Str) (b : BP) : Cx where
  prog := X.prog
  w := X.w
  K := X.K
  mg := X.mg
  base := X.base
  A := X.A
  N := N'
  s₀ := b.s3
  H₀ := b.H3
  env := compEnvC scope b.cl b.C X.env
  outer := X.stack
  stack := X.stack
  ex := b.ex
  fn := fun _ => false
  calm := X.calm
  pn := b.pn
  xe := fun _ _ => False

theorem closure_go {env : Env} : ∀ (names : List (Str × NameKind)) (acc : List (Str × Addr)), (∀ x ∈ names, x.2 = .free → ∃ c, env.cells.lookup x.1 = some c) →
    (∀ n c, acc.lookup n = some c → env.cells.lookup n = some c) →
    ∃ cl : List (Str × Addr), (forIn names acc (fun x cs => match x with | (name, kind) => if kind == .free then do let a ← cellOf env name; pure (ForInStep.yield ((name, a) :: cs)) else pure (ForInStep.yield cs)) : Sem (List (Str × Addr))) = pure cl ∧
      (∀ n c, cl.lookup n = some c → env.cells.lookup n = some c) ∧ (∀ n, ((∃ c, acc.lookup n = some c) ∨ (n, NameKind.free) ∈ names) → ∃ c, cl.lookup n = some c)
  | [], acc, _, ha => ⟨acc, rfl, ha, fun n h => h.elim id fun z => absurd z (by simp)⟩
  | (n, k) :: r, acc, h, ha => by
    by_cases hk : k = .free
    · subst hk
      obtain ⟨c, hc⟩ := h (n, .free) (List.mem_cons_self ..) rfl
      obtain ⟨cl, e, h1, h2⟩ := closure_go r ((n, c) :: acc) (fun x hx => h x (List.mem_cons_of_mem _ hx)) (fun m d hm => by
        rw [List.lookup_cons] at hm
        cases hb : m == n with
        | true =>
          rw [hb] at hm
          obtain rfl : m = n := by simpa using hb
          cases hm; exact hc
        | false => rw [hb] at hm; exact ha m d hm)
      refine ⟨cl, ?_, h1, fun m hm => h2 m ?_⟩
      · rw [List.forIn_cons]
        have ec : cellOf env n = pure c := by unfold cellOf; rw [hc]
        simp only [beq_self_eq_true, if_true, ec]
        exact e
      · rcases hm with ⟨d, hd⟩ | hm
        · left
          rw [List.lookup_cons]
          cases hb : m == n with
          | true => exact ⟨c, rfl⟩
          | false => exact ⟨d, hd⟩
        · rcases List.mem_cons.mp hm with z | z
          · left
            cases z
            exact ⟨c, by simp [List.lookup_cons]⟩
          · exact .inr z
    · obtain ⟨cl, e, h1, h2⟩ := closure_go r acc (fun x hx => h x (List.mem_cons_of_mem _ hx)) ha
      refine ⟨cl, ?_, h1, fun m hm => h2 m (hm.imp id fun z => ?_)⟩
      · rw [List.forIn_cons]
        have eb : (k == NameKind.free) = false := by simpa using hk
        simp only [eb, Bool.false_eq_true, if_false]
        exact e
      · rcases List.mem_cons.mp z with z | z
        · cases z; exact absurd rfl hk
        · exact z
theorem closure_of {env : Env} {scope : Scope} (h : ∀ x ∈ scope.names, x.2 = .free → ∃ c, env.cells.lookup x.1 = some c) :
    ∃ cl, closureFor scope env = pure cl ∧ (∀ n c, cl.lookup n = some c → env.cells.lookup n = some c) ∧ ∀ n, (n, NameKind.free) ∈ scope.names → ∃ c, cl.lookup n = some c := by
  obtain ⟨cl, e, h1, h2⟩ := closure_go (env := env) scope.names [] h (fun n c z => by simp at z)
  refine ⟨cl, ?_, h1, fun n z => h2 n (.inr z)⟩
  unfold closureFor
  refine Eq.trans ?_ (congrArg (fun m => m >>= fun r => (pure r : Sem (List (Str × Addr)))) e)
  rfl

theorem relabel_back {env : Env} {x : Str} {k : NameKind} : ∀ {names : List (Str × NameKind)},
    (names.map fun (n, k) => if (k == NameKind.free && env.scope.kind == .function && env.kindOf n == some .cell) then (n, NameKind.cell) else (n, k)).lookup x = some k →
    ∃ k0, (x, k0) ∈ names ∧ (k0 = k ∨ (k0 = .free ∧ k = .cell))
  | [], h => by simp at h
  | (n, j) :: r, h => by
    rw [List.map_cons, List.lookup_cons] at h
    dsimp only at h
    by_cases hc : (j == NameKind.free && env.scope.kind == .function && env.kindOf n == some .cell) = true
    · rw [if_pos hc] at h
      dsimp only at h
      cases hb : x == n with
      | true =>
        rw [hb] at h
        obtain rfl : x = n := by simpa using hb
        cases h
        have hj : j = .free := by simp only [Bool.and_eq_true, beq_iff_eq] at hc; exact hc.1.1
        exact ⟨j, List.mem_cons_self .., .inr ⟨hj, rfl⟩⟩
      | false =>
        rw [hb] at h
        obtain ⟨k0, h1, h2⟩ := relabel_back (names := r) h
        exact ⟨k0, List.mem_cons_of_mem _ h1, h2⟩
    · rw [if_neg hc] at h
      dsimp only at h
      cases hb : x == n with
      | true =>
        rw [hb] at h
        obtain rfl : x = n := by simpa using hb
        cases h
        exact ⟨_, List.mem_cons_self .., .inl rfl⟩
      | false =>
        rw [hb] at h
        obtain ⟨k0, h1, h2⟩ := relabel_back (names := r) h
        exact ⟨k0, List.mem_cons_of_mem _ h1, h2⟩
theorem relabel_free {env : Env} {x : Str} : ∀ {names : List (Str × NameKind)}, names.lookup x = some .free →
    (names.map fun (n, k) => if (k == NameKind.free && env.scope.kind == .function && env.kindOf n == some .cell) then (n, NameKind.cell) else (n, k)).lookup x = some .cell ∨
    (names.map fun (n, k) => if (k == NameKind.free && env.scope.kind == .function && env.kindOf n == some .cell) then (n, NameKind.cell) else (n, k)).lookup x = some .free
  | [], h => by simp at h
  | (n, j) :: r, h => by
    rw [List.lookup_cons] at h
    rw [List.map_cons, List.lookup_cons]
    dsimp only
    cases hb : x == n with
    | true =>
      rw [hb] at h
      cases h
      by_cases hc : (NameKind.free == NameKind.free && env.scope.kind == .function && env.kindOf n == some .cell) = true
      · rw [if_pos hc]; dsimp only; rw [hb]; exact .inl rfl
      · rw [if_neg hc]; dsimp only; rw [hb]; exact .inr rfl
    | false =>
      rw [hb] at h
      have ih := relabel_free (env := env) (names := r) h
      by_cases hc : (j == NameKind.free && env.scope.kind == .function && env.kindOf n == some .cell) = true
      · rw [if_pos hc]; dsimp only; rw [hb]; exact ih
      · rw [if_neg hc]; dsimp only; rw [hb]; exact ih

def frChk (names outer : List (Str × NameKind)) (Nx : List Str) : List Str → List (Option Nat) → Bool
  | [], [] => true
  | x :: r, none :: f => frChk names outer Nx r f
  | x :: r, some j :: f => (names.lookup x == some .free) && (Nx[j]? == some x) && (outer.lookup x == some .cell) && frChk names outer Nx r f
  | _, _ => false
theorem frChk_get {names outer : List (Str × NameKind)} {Nx : List Str} : ∀ {N' : List Str} {fr : List (Option Nat)}, frChk names outer Nx N' fr = true →
    N'.length = fr.length ∧ ∀ (i : Nat) (x : Str) (j : Nat), N'[i]? = some x → fr[i]? = some (some j) → names.lookup x = some .free ∧ Nx[j]? = some x ∧ outer.lookup x = some .cell
  | [], [], _ => ⟨rfl, fun i x j h => by simp at h⟩
  | x :: r, none :: f, h => by
    obtain ⟨h1, h2⟩ := frChk_get (N' := r) (fr := f) h
    refine ⟨by simp [h1], fun i y j e1 e2 => ?_⟩
    cases i with
    | zero => simp at e2
    | succ i => exact h2 i y j (by simpa using e1) (by simpa using e2)
  | x :: r, some k :: f, h => by
    simp only [frChk, Bool.and_eq_true, beq_iff_eq] at h
    obtain ⟨⟨⟨a1, a2⟩, a3⟩, h⟩ := h
    obtain ⟨h1, h2⟩ := frChk_get (N' := r) (fr := f) h
    refine ⟨by simp [h1], fun i y j e1 e2 => ?_⟩
    cases i with
    | zero =>
      simp at e1 e2
      subst e1; subst e2
      exact ⟨a1, a2, a3⟩
    | succ i => exact h2 i y j (by simpa using e1) (by simpa using e2)
  | [], _ :: _, h => by simp [frChk] at h
  | _ :: _, [], h => by simp [frChk] at h
def inBlk (fr : List (Option Nat)) (σ : St) : St := fr.map fun o => o.bind fun j => (σ[j]?).join

theorem HOk.but {P : Program} {w : World} {H : Hp} {h h' : Heap} {a : Addr} (ok : HOk P w H h) (n : H a = none) (sb : Heap.SameBut a h h') : HOk P w H h' := fun b ob e => by
  refine (ok b ob e).stay (fun c u hc q => (sb.2 c ?_).trans q) (fun _ q => q) fun _ _ q => q
  rintro rfl
  rcases hc with rfl | hc
  · rw [n] at e; cases e
  · rw [n] at hc; cases hc

def PIf (X : Cx) (ifs : List Expr) (tt : TT) : Prop :=
  ∀ (pins : List (Addr × Obj)) (s : Shared) (σ : St) (H : Hp) (Q : Bool → Hp → Prop), Inv X pins σ H s → tt σ H Q →
    wpAny (model X.prog X.w) X.A (forIn ifs true fun c r => if r = true then do let ok ← isTrue c X.env (eval c X.env); pure (ForInStep.yield ok) else pure (ForInStep.yield r)) (TP X pins σ Q) X.xe s
def tAlways : TT := fun _ H Q => Q true H
theorem pif_nil {X : Cx} : PIf X [] tAlways := fun _ _ _ H _ I h => wpAny_tests_nil ⟨H, I, h⟩
theorem pif_one {X : Cx} {c : Expr} {tt : TT} (h : PT X c tt) : PIf X [c] tt := fun pins s σ H Q I q => wpAny_tests_one (h pins s σ H Q I q)

def tLc (fr : List (Option Nat)) (wi : TI) (g : BP → TG) (tt : BP → TT) (te : BP → TE) : TE := fun σ H Q => wi σ H fun J H1 => ∀ (bp : BP) (acc : Addr), H1 acc = none → ∃ W : Nat → Nat → St → Hp → Prop,
  (∃ m, W 0 m (inBlk fr σ) (upd H1 acc (.lst []))) ∧ ∀ i m σ' H', W i m σ' H' →
    (J.stop i H' ∧ Q (.ref acc) H') ∨ (J.go i H' ∧ ∀ x H2, J.yld i H' x H2 → g bp x σ' H2 fun σ2 H3 => tt bp σ2 H3 fun b H4 =>
      if b = true then te bp σ2 H4 fun y H5 => ∃ ys, H5 acc = some (.lst ys) ∧ ys.length < sizeLine ∧ ∃ m', m' < m ∧ W (i + 1) m' σ2 (upd H5 acc (.lst (ys ++ [y])))
      else ∃ m', m' < m ∧ W (i + 1) m' σ2 H4)

section
variable {X : Cx}
theorem comp_loop {prog : Program} {w : World} {A : Around} {R : Result → Shared → Prop} {s : Shared} {elt target iter : Expr} {ifs : List Expr} {scope : Scope} {pos : Pos} {it acc : Value} {env : Env} (I : Nat → Shared → Prop)
    (turn : ∀ n s, I n s → wpAny (model prog w) A (pyNext it) (fun r s₁ => match r with
      | none => R (.ok .next) s₁
      | some v => wpAny (model prog w) A (letOwnedTupleGo target it v) (fun _ s1 => wpAny (model prog w) A (assign target env v) (fun _ s₂ =>
          wpAny (model prog w) A (forIn ifs true fun c r => if r = true then do let ok ← isTrue c env (eval c env); pure (ForInStep.yield ok) else pure (ForInStep.yield r)) (fun ok s₃ =>
            if ok = true then wpAny (model prog w) A (eval elt env) (fun x s₄ => wpAny (model prog w) A (call (.builtin "list.append") [acc, x]) (fun _ s₅ => ∃ m, m < n ∧ I m s₅) (fun _ _ => False) s₄) (fun _ _ => False) s₃
            else ∃ m, m < n ∧ I m s₃) (fun _ _ => False) s₂) (fun _ _ => False) s1) (fun _ _ => False) s₁) (fun _ _ => False) s)
    (n : Nat) (h : I n s) : codeAny (model prog w) A (.compLoop (.ListComp elt [⟨target, iter, ifs, 0⟩] scope pos) 0 it acc env) R s := by
  refine codeAny_loop rfl I (fun n s hI => ?_) n h
  show wpAny _ A ((compTurn (.ListComp elt [⟨target, iter, ifs, 0⟩] scope pos) 0 it acc env).onRaise (fun x => do noteFrame x env; theTreesLotGoes x)) _ _ s
  refine wpAny_noted ?_
  rw [compTurn_list]
  have no : ∀ {E : Value → Shared → Prop} (e : Value) (s : Shared), False → E e s := fun _ _ z => z.elim
  refine wpAny_bind (wpAny_standAt (wpAny_bind (wpAny_mono (turn n s hI) (fun r s₁ h₁ => ?_) no)))
  cases r with
  | none => exact wpAny_pure h₁
  | some v =>
    refine wpAny_bind (wpAny_mono h₁ (fun _ s1 h1 => wpAny_bind (wpAny_mono h1 (fun _ s₂ h₂ => wpAny_bind (wpAny_mono h₂ (fun ok s₃ h₃ => ?_) no)) no)) no)
    cases ok with
    | false => exact wpAny_pure ⟨rfl, h₃⟩
    | true => exact wpAny_bind (wpAny_bind (wpAny_mono h₃ (fun x s₄ h₄ => wpAny_bind (wpAny_mono h₄ (fun _ s₅ h₅ => wpAny_pure (wpAny_pure ⟨rfl, h₅⟩)) no)) no))

variable {elt iter tg : Expr} {ifs : List Expr} {scope : Scope} {pos : Pos} {N' : List Str} {fr : List (Option Nat)} {wi : TI} {g : BP → TG} {tt : BP → TT} {te : BP → TE}
theorem lc_block {pins : List (Addr × Obj)} {σ : St} {H2 : Hp} {s2 : Shared} {it : Addr} {fp : List Addr} {tn : Nat → Heap → Prop} {J : It} {Q : VK} {RR : Value → Addr → Result → Shared → Prop} {cl : List (Str × Addr)} {E : Value → Shared → Prop}
    (hcalm : X.calm = true) (hkind : scope.kind = .function) (hcell : ∀ y ∈ scope.names, y.2 ≠ .cell) (hfr : frChk scope.names X.env.scope.names X.N N' fr = true)
    (hcl1 : ∀ n c, cl.lookup n = some c → X.env.cells.lookup n = some c) (hcl2 : ∀ n, (n, NameKind.free) ∈ scope.names → ∃ c, cl.lookup n = some c)
    (hY : ∀ b : BP, PG (blk X scope N' b) tg (g b) ∧ PIf (blk X scope N' b) ifs (tt b) ∧ PE (blk X scope N' b) elt (te b))
    (I2 : Inv X pins σ H2 s2) (T : Turn X.prog X.w X.K tg J fp it tn) (st2 : tn 0 s2.heap) (f2 : ∀ b ∈ fp, FpOk X pins H2 b)
    (q : ∀ (bp : BP) (acc : Addr), H2 acc = none → ∃ W : Nat → Nat → St → Hp → Prop, (∃ m, W 0 m (inBlk fr σ) (upd H2 acc (.lst []))) ∧ ∀ i m σ' H', W i m σ' H' →
      (J.stop i H' ∧ Q (.ref acc) H') ∨ (J.go i H' ∧ ∀ x H2, J.yld i H' x H2 → g bp x σ' H2 fun σ2 H3 => tt bp σ2 H3 fun b H4 =>
        if b = true then te bp σ2 H4 fun y H5 => ∃ ys, H5 acc = some (.lst ys) ∧ ys.length < sizeLine ∧ ∃ m', m' < m ∧ W (i + 1) m' σ2 (upd H5 acc (.lst (ys ++ [y])))
        else ∃ m', m' < m ∧ W (i + 1) m' σ2 H4))
    (hRR : ∀ acc C s' HY m, Inv X pins σ HY s' → FpOk X pins HY C → s'.heap.Ns C m → Q (.ref acc) HY → RR (.ref acc) C (.ok .next) s') :
    wpAny (model X.prog X.w) X.A (newList []) (fun acc s₃ => wpAny (model X.prog X.w) X.A (newFunctionEnv scope X.env.globals cl [] X.env.qual none .none (some X.env)) (fun cenv s₄ =>
      codeAny (model X.prog X.w) X.A (.compStart (.ListComp elt [⟨tg, iter, ifs, 0⟩] scope pos) 0 (.ref it) acc { cenv with scope := relabel scope X.env }) (RR acc cenv.locals) s₄) E s₃) E s2 := by
  obtain ⟨hfl, hfg⟩ := frChk_get hfr
  have hacc : H2 s2.heap.objs.size = none := I2.hok.fresh (Nat.le_refl _)
  refine wpAny_newObj_type ?_ (by show 0 ≤ sizeLine; exact Nat.zero_le _)
  generalize hs3 : ({ s2 with heap := s2.heap.push { cls := .type "list", dict := none, data := .seq ([] : List Value).toArray } } : Shared) = s3
  have I3 : Inv X pins σ (upd H2 s2.heap.objs.size (.lst [])) s3 := by
    rw [← hs3]
    exact I2.laid (t' := s2.toks) (fun b u e => Heap.get?_push_of_some _ e) (Nat.le_refl _) ⟨Nat.zero_le _, [], 0, .nil, Heap.get?_push_size _ rfl⟩
  have hfp : ∀ b ∈ fp, b < s3.heap.objs.size := fun b hb => by
    obtain ⟨o, e, _⟩ := T.obj 0 _ st2 b hb
    rw [← hs3]
    exact Heap.lt_size (Heap.get?_push_of_some _ e)
  have st3 : tn 0 s3.heap := T.keep 0 _ _ st2 fun b _ o e => by rw [← hs3]; exact Heap.get?_push_of_some _ e
  have f3 : ∀ b ∈ fp, FpOk X pins (upd H2 s2.heap.objs.size (.lst [])) b := fun b hb => ⟨by
    obtain ⟨o, e, _⟩ := T.obj 0 _ st2 b hb
    rw [upd_ne (Nat.ne_of_lt (Heap.lt_size e))]
    exact (f2 b hb).1, (f2 b hb).2⟩
  refine wpAny_newFunctionEnv hcell (fun y hy => by simp at hy) (fun h₁ hns hsb => ?_) hkind
  generalize hH3 : upd H2 s2.heap.objs.size (.lst []) = H3 at *
  generalize hac : s2.heap.objs.size = ac at *
  generalize hC : s3.heap.objs.size = C at *
  obtain ⟨W, ⟨m0, w0⟩, turn⟩ := q ⟨cl, C, s3, H3, fp, X.pn ++ pins⟩ ac hacc
  rw [hH3] at w0
  have keep : ∀ b o, s3.heap.get? b = some o → h₁.get? b = some o := fun b o e => hsb.extBut b o (by rw [← hC]; exact Nat.ne_of_lt (Heap.lt_size e)) (Heap.get?_push_of_some _ e)
  have hCfp : ∀ b ∈ fp, b ≠ C := fun b hb => by exact Nat.ne_of_lt (hfp b hb)
  have hCl : X.env.locals < C := by rw [← hC]; exact I3.lt
  have hstk : ∀ b ∈ frs X.stack, b ≠ C ∧ H3 b = none := fun b hb => ⟨by
    rintro rfl
    rcases List.mem_cons.mp (I3.stkSub b hb) with z | z
    · rw [z] at hCl; exact absurd hCl (Nat.lt_irrefl _)
    · exact I3.nofs (by rw [hC]; exact Nat.le_refl _) z, I3.stkFree b hb⟩
  have cellNe : ∀ x c, X.env.cells.lookup x = some c → c ≠ C := fun x c e z => by
    obtain ⟨v, o, ho, _⟩ := I3.cell x c e
    have := Heap.lt_size ho
    rw [z, hC] at this
    exact absurd this (Nat.lt_irrefl _)
  -- the block's context
  have okY : (blk X scope N' ⟨cl, C, s3, H3, fp, X.pn ++ pins⟩).Ok := by
    refine ⟨I3.ok.mod, hkind, I3.ok.glob, I3.ok.blt, Nat.le_of_eq hC, fun x y c h1 h2 => I3.ok.inj x y c (hcl1 x c h1) (hcl1 y c h2), fun x hx => ?_, fun x c z => absurd z (by intro z; cases z), fun _ => I3.ok.hd hcalm, I3.ok.frames, .inl rfl,
      fun b hb => ⟨hCfp b hb, fun x c h => (f3 b hb).2.2.2.2.1 x c (hcl1 x c h)⟩, fun b o e => I3.bs b o e, ?_, fun b o e hb => ?_, fun b hb hs => ?_, I3.stack, fun b hb => (hstk b hb).2⟩
    · have back : ∀ k, (relabel scope X.env).names.lookup x = some k → (k = .cell ∨ k = .free) → ∃ c, cl.lookup x = some c := fun k h hk => by
        obtain ⟨k0, h1, h2⟩ := relabel_back h
        have hk0 : k0 = .free := by
          rcases h2 with rfl | ⟨rfl, _⟩
          · rcases hk with rfl | rfl
            · exact absurd rfl (hcell _ h1)
            · rfl
          · rfl
        subst hk0
        exact hcl2 x h1
      rcases hx with hx | hx
      · exact back _ hx (.inl rfl)
      · exact back _ hx (.inr rfl)
    · exact Nat.le_trans I3.ok.bsz (Nat.le_trans I3.sz (Nat.le_refl _))
    · rcases (f3 b hb).2.2.2.1 with z | z
      · exact I3.ok.noex b o e z
      · exact absurd (Nat.lt_of_lt_of_le (Heap.lt_size (I3.ok.bs b o e).1) z) (Nat.lt_irrefl _)
    · rcases List.mem_cons.mp (I3.stkSub b hs) with z | z
      · exact (f3 b hb).2.1 z
      · exact (f3 b hb).2.2.1 z
  have hH3C : H3 C = none := I3.hok.fresh (Nat.le_of_eq hC)
  have IY : Inv (blk X scope N' ⟨cl, C, s3, H3, fp, X.pn ++ pins⟩) [] (inBlk fr σ) H3 { s3 with heap := h₁, toks := s3.toks + ([] : List (Str × Value)).length } := by
    refine ⟨okY, rfl, I3.bare, Un.kept keep, ⟨_, hns, fun i x v h1 h2 _ => ?_⟩, fun x c e => ?_, hH3C, fun x c e => I3.freeC x c (hcl1 x c e), fun p hp => ?_, I3.hok.kept keep, ?_⟩
    · have e : ∃ j, fr[i]? = some (some j) ∧ σ[j]? = some (some v) := by
        unfold inBlk at h2
        rw [List.getElem?_map] at h2
        cases hf : fr[i]? with
        | none => rw [hf] at h2; cases h2
        | some o =>
          rw [hf] at h2
          cases o with
          | none => cases h2
          | some j =>
            refine ⟨j, rfl, ?_⟩
            have h2' : (σ[j]?).join = some v := by simpa using h2
            cases hj : σ[j]? with
            | none => rw [hj] at h2'; cases h2'
            | some o => rw [hj] at h2'; rw [show o = some v from h2']
      obtain ⟨j, e1, e2⟩ := e
      obtain ⟨a1, a2, a3⟩ := hfg i x j h1 e1
      obtain ⟨m, hn, hl⟩ := I3.loc
      obtain ⟨u, r, l⟩ := hl j x v a2 e2 (.inr (.inl a3))
      refine ⟨u, r, .inr ⟨relabel_free a1, ?_⟩⟩
      rcases l with ⟨k, _⟩ | ⟨_, c, hc, o, ho, hd⟩
      · have k' : X.env.scope.names.lookup x = some .local := k
        rw [a3] at k'; cases k'
      · obtain ⟨c', hc'⟩ := hcl2 x (PySem.mem_of_lookup a1)
        have z := hcl1 x c' hc'
        rw [hc] at z; cases z
        exact ⟨c, hc', o, keep c o ho, hd⟩
    · obtain ⟨v, o, ho, hd⟩ := I3.cell x c (hcl1 x c e)
      exact ⟨v, o, keep c o ho, hd⟩
    · obtain ⟨e, n, ne, nf, d⟩ := I3.pin p (by have hp' : p ∈ (X.pn ++ pins) ++ [] := hp; simpa using hp')
      refine ⟨keep _ _ e, n, ?_, fun z => ?_, d⟩
      · have := Heap.lt_size e
        rw [hC] at this
        exact Nat.ne_of_lt this
      · rcases List.mem_cons.mp (I3.stkSub p.1 z) with z | z
        · exact ne z
        · exact nf z
    · unfold inBlk
      rw [List.length_map]
      exact hfl.symm
  have stat : ∀ {H' : Hp}, (∀ b ∈ fp, H' b = none) → ∀ b ∈ fp, FpOk (blk X scope N' ⟨cl, C, s3, H3, fp, X.pn ++ pins⟩) [] H' b := fun {H'} hn b hb =>
    ⟨hn b hb, hCfp b hb, fun z => by
      rcases List.mem_cons.mp (I3.stkSub b z) with z | z
      · exact (f3 b hb).2.1 z
      · exact (f3 b hb).2.2.1 z, .inl hb, fun x c e => (f3 b hb).2.2.2.2.1 x c (hcl1 x c e), fun p hp => (f3 b hb).2.2.2.2.2 p (by have hp' : p ∈ (X.pn ++ pins) ++ [] := hp; simpa using hp')⟩
  obtain ⟨hg, ht, he⟩ := hY ⟨cl, C, s3, H3, fp, X.pn ++ pins⟩
  have loop : codeAny (model X.prog X.w) X.A (.compLoop (.ListComp elt [⟨tg, iter, ifs, 0⟩] scope pos) 0 (.ref it) (.ref ac) (compEnvC scope cl C X.env)) (RR (.ref ac) C) { s3 with heap := h₁, toks := s3.toks + ([] : List (Str × Value)).length } := by
    refine comp_loop (fun n s' => ∃ i σ' H', Inv (blk X scope N' ⟨cl, C, s3, H3, fp, X.pn ++ pins⟩) [] σ' H' s' ∧ tn i s'.heap ∧ (∀ b ∈ fp, H' b = none) ∧ W i n σ' H') ?_ m0
      ⟨0, inBlk fr σ, H3, IY, T.keep 0 _ _ st3 fun b _ o e => keep b o e, fun b hb => (f3 b hb).1, w0⟩
    rintro n s4 ⟨i, σ4, H4, I4, st4, fr4, w4⟩
    rcases turn i n σ4 H4 w4 with ⟨stop, qn⟩ | ⟨go, step⟩
    · refine thn (T.done (blk X scope N' ⟨cl, C, s3, H3, fp, X.pn ++ pins⟩) rfl rfl rfl hcalm i [] s4 σ4 H4 _ I4 (stat fr4) st4 stop) fun r s5 ⟨hr, I5⟩ => ?_
      subst hr
      obtain ⟨m, hn, _⟩ := I5.loc
      have IX : Inv X pins σ H4 s5 := I3.call' I5.os I5.base I5.hok I5.bare fun b hb => ⟨(f3 b hb).2.2.2.1, (f3 b hb).2.1, (f3 b hb).2.2.2.2.1, (f3 b hb).2.2.2.2.2⟩
      exact hRR ac C s5 H4 m IX (I3.fpOk (Nat.le_of_eq hC) I5.free) hn qn
    · refine thn (T.item (blk X scope N' ⟨cl, C, s3, H3, fp, X.pn ++ pins⟩) rfl rfl rfl hcalm i [] s4 σ4 H4 (fun _ _ => False) I4 (stat fr4) st4 go) fun r s5 ⟨u, hr, h5⟩ => ?_
      subst hr
      refine thn h5 fun _ s6 ⟨x, H6, I6, r6, y6, st6, fr6⟩ => ?_
      have I6' := I6.pinned (stat fr6) (T.obj _ _ st6)
      refine thn (hg _ s6 σ4 H6 x u _ I6' r6 (step x H6 y6)) fun _ s7 ⟨σ7, H7, I7, q7⟩ => ?_
      refine thn (ht _ s7 σ7 H7 _ I7 q7) fun ok s8 ⟨H8, I8, q8⟩ => ?_
      have again : ∀ {s9 : Shared} {σ9 : St} {H9 : Hp} {m' : Nat}, Inv (blk X scope N' ⟨cl, C, s3, H3, fp, X.pn ++ pins⟩) ([] ++ pinsAt fp s6.heap) σ9 H9 s9 → m' < n → W (i + 1) m' σ9 H9 →
          ∃ m, m < n ∧ ∃ i σ' H', Inv (blk X scope N' ⟨cl, C, s3, H3, fp, X.pn ++ pins⟩) [] σ' H' s9 ∧ tn i s9.heap ∧ (∀ b ∈ fp, H' b = none) ∧ W i m σ' H' := fun {s9 σ9 H9 m'} I9 hm w9 => by
        refine ⟨m', hm, i + 1, σ9, H9, I9.unpinned, T.keep _ _ _ st6 fun b hb o e => (I9.pin (b, o) (List.mem_append_right _ (List.mem_append_right _ (mem_pinsAt hb e)))).1, fun b hb => ?_, w9⟩
        obtain ⟨o, e, d⟩ := T.obj _ _ st6 b hb
        exact (I9.pin (b, o) (List.mem_append_right _ (List.mem_append_right _ (mem_pinsAt hb e)))).2.1
      cases ok with
      | false =>
        obtain ⟨m', hm, w8⟩ := q8
        exact again I8 hm w8
      | true =>
        refine thn (he _ s8 σ7 H8 _ I8 q8) fun y s9 ⟨yv, H9, I9, r9, ys, hys, hz, m', hm, w9⟩ => ?_
        refine thn (mt_append (X := blk X scope N' ⟨cl, C, s3, H3, fp, X.pn ++ pins⟩) _ s9 σ7 H9 (.ref ac) [yv] (.ref ac) [y] (fun _ H' => H' = upd H9 ac (.lst (ys ++ [yv]))) I9 rfl (.cons r9 .nil) ⟨ac, ys, yv, rfl, rfl, hys, hz, rfl⟩) fun _ s10 ⟨_, H10, I10, _, e10⟩ => ?_
        subst e10
        exact again I10 hm w9
  exact codeAny_compStart_list loop (T.self _ 0 _ _ _ (T.keep 0 _ _ st3 fun b _ o e => keep b o e) loop)

theorem pe_lc (hcalm : X.calm = true) (hkind : scope.kind = .function) (hcell : ∀ y ∈ scope.names, y.2 ≠ .cell) (hfr : frChk scope.names X.env.scope.names X.N N' fr = true)
    (hfree : ∀ y ∈ scope.names, y.2 = .free → X.env.scope.names.lookup y.1 = some .cell) (hnames : ∀ x ∈ scope.names, x.2 = .local → scope.names.lookup x.1 = some .local) (hi : PI X tg iter wi)
    (hY : ∀ b : BP, PG (blk X scope N' b) tg (g b) ∧ PIf (blk X scope N' b) ifs (tt b) ∧ PE (blk X scope N' b) elt (te b))
    (hs : ∀ x, foldedSetIterable iter X.env x = pure x := by intro _; rfl) : PE X (.ListComp elt [⟨tg, iter, ifs, 0⟩] scope pos) (tLc fr wi g tt te) := by
  intro pins s σ H Q I h
  obtain ⟨cl, hclos, hcl1, hcl2⟩ := closure_of (env := X.env) (scope := scope) fun y hy hk => I.ok.has y.1 (.inl (hfree y hy hk))
  rw [eval_ListComp]
  refine wpAny_comprehension_free (use := none) rfl hs hclos hkind hnames (thn (hi pins s σ H _ I h) fun v s1 h1 => thn h1 fun itv s2 h2 => ?_)
  obtain ⟨it, fp, tn, J, H2, rfl, I2, T, st2, f2, q⟩ := h2
  refine lc_block (RR := fun acc C => compPost (model X.prog X.w) X.A X.xe none (EP X pins σ Q) acc C) hcalm hkind hcell hfr hcl1 hcl2 hY I2 T st2 f2 q fun acc C s' HY m I' f' hn q' => ?_
  exact ⟨m, hn, fun h' sb => ⟨.ref acc, HY, I'.turned (t' := s'.toks) (fun b o hb e => (sb.2 b hb).trans e) f'.1 f'.2.1 f'.2.2.2.1 f'.2.2.2.2.1 f'.2.2.2.2.2, rfl, q'⟩⟩
theorem ps_setlc {i : Nat} {x : Str} {px spos : Pos} (hN : X.N.Nodup) (hix : X.N[i]? = some x) (hx : Loc X.env.scope x) (hcalm : X.calm = true) (hkind : scope.kind = .function) (hcell : ∀ y ∈ scope.names, y.2 ≠ .cell) (hfr : frChk scope.names X.env.scope.names X.N N' fr = true)
    (hfree : ∀ y ∈ scope.names, y.2 = .free → X.env.scope.names.lookup y.1 = some .cell) (hnames : ∀ x ∈ scope.names, x.2 = .local → scope.names.lookup x.1 = some .local) (hi : PI X tg iter wi)
    (hY : ∀ b : BP, PG (blk X scope N' b) tg (g b) ∧ PIf (blk X scope N' b) ifs (tt b) ∧ PE (blk X scope N' b) elt (te b))
    (hsw : swapsWith (.ListComp elt [⟨tg, iter, ifs, 0⟩] scope pos) (some (.Name x px)) spos.line X.env = pure true)
    (hs : ∀ x, foldedSetIterable iter X.env x = pure x := by intro _; rfl) (hf : X.fn x = true ∨ X.env.scope.names.lookup x = some .local := by first | exact .inl rfl | exact .inr rfl | assumption) :
    PS X (.Assign [.Name x px] (.ListComp elt [⟨tg, iter, ifs, 0⟩] scope pos) spos) (tAsg (tLc fr wi g tt te) (gName i)) := by
  intro pins s σ H D I h
  obtain ⟨cl, hclos, hcl1, hcl2⟩ := closure_of (env := X.env) (scope := scope) fun y hy hk => I.ok.has y.1 (.inl (hfree y hy hk))
  rw [exec_Assign_Name_used _ _ _ _ hsw]
  refine wpAny_bind (wpAny_standAt (wpAny_bind ?_))
  show wpAny _ _ (do let _ ← comprehension (.ListComp elt [⟨tg, iter, ifs, 0⟩] scope pos) scope X.env _ (newList []) false (eval iter X.env) (some (assign (.Name x px) X.env))) _ _ s
  refine wpAny_bind (wpAny_mono (wpAny_comprehension_free (use := some (assign (.Name x px) X.env)) (Q := fun _ s' => SP X pins D .next s') rfl hs hclos hkind hnames
    (thn (hi pins s σ H _ I h) fun v s1 h1 => thn h1 fun itv s2 h2 => ?_)) (fun _ s' hq => wpAny_pure (wpAny_pure hq)) fun _ _ e => e)
  obtain ⟨it, fp, tn, J, H2, rfl, I2, T, st2, f2, q⟩ := h2
  refine lc_block (RR := fun acc C => compPost (model X.prog X.w) X.A X.xe (some (assign (.Name x px) X.env)) (fun _ s' => SP X pins D .next s') acc C) (Q := fun x H1 => gName i x σ H1 D.nx) hcalm hkind hcell hfr hcl1 hcl2 hY I2 T st2 f2 q fun acc C s' HY m I' f' hn q' => ?_
  show wpAny _ _ (assign (.Name x px) X.env (.ref acc)) _ _ _
  refine wpAny_assign_Name (store_ok2 I' hN hix hx (v := .ref acc) rfl (fun s2' I2' hch => ?_) hf)
  obtain ⟨a, sb, ha⟩ := hch
  have hCa : C ≠ a := by
    rcases ha with z | z
    · rw [z]; exact f'.2.1
    · exact fun e => f'.2.2.2.2.1 x a z e.symm
  exact ⟨m, hn.sameBut sb hCa, fun h' sb' => ⟨_, HY, I2'.turned (t' := s2'.toks) (fun b o hb e => (sb'.2 b hb).trans e) f'.1 f'.2.1 f'.2.2.2.1 f'.2.2.2.2.1 f'.2.2.2.2.2, q'⟩⟩
end
end L2

set_option Elab.async false
set_option linter.all false
set_option maxRecDepth 100000
namespace L2
open PySem PySem.Spec PyProof.Rows
section
variable {prog : Program} {w : World} {A : Around} {E : Value → Shared → Prop} {h : Heap} {g : Array GenState} {d : Drawn} {t : Nat} {os : OsState} {a C : Addr} {ox : Obj} {od : Option Obj} {K : PySem.W.Frag}
structure XCls (K : PySem.W.Frag) (C : Addr) : Prop where
  ga : PySem.W.findIn K (.ref C) "__getattribute__" = some (some (.builtin "BaseException.__getattribute__"))
  gt : PySem.W.findIn K (.ref C) "__getattr__" = some none
  cl : PySem.W.findIn K (.ref C) "__class__" = some (some (.builtin "object.__class__"))
  ob : PySem.W.mroIn K C (.type "object") = some true
  be : PySem.W.mroIn K C (.type "BaseException") = some true
def XOk (K : PySem.W.Frag) (C : Addr) : Prop := XCls K C ∧ ∀ T ∈ ["int", "str", "list", "tuple", "bool"], PySem.W.kitOne K (.ref C) (.type T) = some false
theorem check_gaK {M : Model} {nameV : Value} {Q : Unit → Shared → Prop} (X : K.In h) (c : XCls K C) (I : PySem.W.InstAt h a ox C od) (hq : Q () ⟨h, g, d, t, os⟩) : wpAny M A (checkBuiltinCall "BaseException.__getattribute__" ⟨[.ref a, nameV], []⟩) Q E ⟨h, g, d, t, os⟩ := by
  have hk : builtinKind "BaseException.__getattribute__" = some .slot := by decide +kernel
  have hsplit : splitId "BaseException.__getattribute__" = some ("BaseException", "__getattribute__") := by decide +kernel
  have ha := F.args_bexc_ga (.ref a) nameV
  have L0 := I.type (M := M)
  have L1 := PySem.W.looks_mroIn (M := M) X c.be
  simp only [checkBuiltinCall, hk, hsplit]
  refine wpAny_bind ?_
  unfold isInstance
  refine wpAny_bind (L0.at (L1.at ?_))
  repeat (first | exact hq | wp_step)
theorem class_entryK {tk : Tok} {Q : Fin → Shared → Prop} (X : K.In h) (c : XCls K C) (I : PySem.W.InstAt h a ox C od) (hq : Q (.done (.ret (.ref C))) ⟨h, g, d, t, os⟩) :
    wpAny (model prog w) A (Builtin.«object.__getattribute__» ⟨[.ref a, .str "__class__" tk], []⟩) Q E ⟨h, g, d, t, os⟩ := by
  have hT5 : (⟨h, g, d, t, os⟩ : Shared).TypeIs (.builtin "object.__class__") "getset_descriptor" := F.typeOf_object_class
  have f5 := F.typeOf_object_class
  have f6 := F.slot_gs_get.lookup
  have f7 := F.slot_gs_set.lookup
  have L0 := I.type (M := model prog w)
  have L1 := PySem.W.looks_findIn (M := model prog w) X c.cl
  repeat (any_goals (first | assumption | with_reducible refine L0.at ?_ | with_reducible refine L1.at ?_ | wp_step))
  refine PySem.W.class_get (s := ⟨h, g, d, t, os⟩) X I c.ob ?_
  repeat (any_goals (first | assumption | wp_step))
theorem class_callK {tk : Tok} {R : Result → Shared → Prop} (X : K.In h) (c : XCls K C) (I : PySem.W.InstAt h a ox C od) (hq : R (.ok (.ret (.ref C))) ⟨h, g, d, t, os⟩) :
    codeAny (model prog w) A (.call (.builtin "BaseException.__getattribute__") ⟨[.ref a, .str "__class__" tk], []⟩) R ⟨h, g, d, t, os⟩ :=
  codeAny_call_builtin F.excAttr_ValueError.ga.plain F.entry_bexc_ga (check_gaK X c I (class_entryK X c I hq))
theorem class_byK {tk : Tok} {Q : Value → Shared → Prop} (X : K.In h) (c : XCls K C) (I : PySem.W.InstAt h a ox C od) (hq : Q (.ref C) ⟨h, g, d, t, os⟩) : wpAny (model prog w) A (getAttrBy (.ref a) (.str "__class__" tk) false) Q E ⟨h, g, d, t, os⟩ := by
  have f3 := F.excAttr_ValueError.ga.bind (.ref a)
  have hx2 : (Value.builtin "BaseException.__getattribute__" == Value.builtin "object.__getattribute__") = false := by decide +kernel
  have hx1 : (onTheHeap (Value.ref C) && Value.builtin "BaseException.__getattribute__" == Value.builtin "object.__getattribute__") = false := by rw [hx2]; rfl
  have L0 := I.type (M := model prog w)
  have L1 := PySem.W.looks_findIn (M := model prog w) X c.ga
  have L2' := PySem.W.looks_findIn (M := model prog w) X c.gt
  repeat (any_goals (first | assumption | with_reducible refine L0.at ?_ | with_reducible refine L1.at ?_ | with_reducible refine L2'.at ?_ | wp_step))
  refine class_callK X c I ?_
  repeat (any_goals (first | assumption | wp_step))
theorem class_attrK {Q : Option Value → Shared → Prop} (X : K.In h) (c : XCls K C) (I : PySem.W.InstAt h a ox C od) (hq : Q (some (.ref C)) ⟨h, g, d, t + 1, os⟩) : wpAny (model prog w) A (getAttr? (.ref a) "__class__") Q E ⟨h, g, d, t, os⟩ := by
  unfold getAttr? getAttrBy?
  repeat (any_goals (first | assumption | with_reducible apply class_byK X c I | wp_step))
theorem kitx_exc (c : XCls K C) : PySem.W.KitX K (.ref a) (.ref C) (fun h => ∃ ox od, PySem.W.InstAt h a ox C od) where
  ty := fun _ _ _ ⟨_, _, I⟩ => I.type
  it := fun _ _ X _ => by
    obtain ⟨cd, hc, _⟩ := Option.bind_eq_some_iff.mp c.ob
    unfold PySem.W.clsIn at hc
    split at hc
    · rename_i c' d' cd' sl' ho
      intro A' Q' E' s' k q
      unfold isType loadHead
      exact wpAny_bind (wpAny_loadPart (k _ _ (X _ _ ho)) (wpAny_pure q))
    · cases hc
  ne := fun h tp dd its n sl X htp => by
    obtain ⟨cd, hc, _⟩ := Option.bind_eq_some_iff.mp c.ob
    refine Bool.eq_false_iff.mpr fun q => ?_
    have e : C = tp := Value.ref.inj (beq_iff_eq.mp q)
    subst e
    unfold PySem.W.clsIn at hc
    split at hc
    · rename_i c' d' cd' sl' ho
      have z := (X _ _ ho).symm.trans htp
      cases z
    · cases hc
  ca := fun {_ _ _ _ _ s} X ⟨_, _, I⟩ k => by
    obtain ⟨hh, g, d, t, os⟩ := s
    exact class_attrK X c I k
end
end L2

set_option Elab.async false
set_option linter.all false
set_option maxRecDepth 100000
namespace L2
open PySem PySem.Spec PyProof.Rows
structure RoomH (k : Nat) (A : Around) : Prop where
  dp : A.depth + 3 * k + 5 < recursionLimit
  un : A.units + 16 * k + 200 < cLine
  gd : A.guards = some []
theorem Room.h {k : Nat} {A : Around} (r : Room k A) : RoomH k A := ⟨r.dp, r.un, r.gd⟩
theorem RoomH.mono {j k : Nat} {A : Around} (r : RoomH k A) (h : j ≤ k) : RoomH j A := ⟨by have := r.dp; omega, by have := r.un; omega, r.gd⟩
theorem RoomH.deeper {k : Nat} {A : Around} (r : RoomH (k + 1) A) (env : Env) : RoomH k (A.deeper env) := ⟨by have := r.dp; show A.depth + 1 + 3 * k + 5 < _; omega, by have := r.un; show A.units + 3 + 16 * k + 200 < _; omega, r.gd⟩
theorem RoomH.depth {k : Nat} {A : Around} (r : RoomH k A) : A.depth < recursionLimit := by have := r.dp; omega
section
variable {X : Cx} {CX : CXT} {k : Nat} {f C : Addr} {fd : FuncData} {ps : List Str} {sp : Sp} {dvs : List V} {ds : List Value} {E : XK} {x m : Str} {p pos apos : Pos} {e o : Expr} {es : List Expr} {ta : TE} {t : TA}
end
section
variable {P : Program} {w : World} {K : PySem.W.Frag} {mg : Str → Option Value} {base : Heap}
end
end L2

set_option Elab.async false
set_option linter.all false
set_option maxRecDepth 100000
namespace TL
open PySem PySem.Spec PyProof.Rows L2
abbrev D := PySem.PyData
def numsAt (p : Addr) (h : Heap) : Prop := ∃ (its : List Value) (n : Nat), h.get? p = some { cls := .type "list", data := .seq its.toArray n } ∧ its.length ≤ 1000 ∧ ∀ v ∈ its, ∃ (i : Int) (t : Tok), v = .int i t ∧ 0 ≤ i ∧ i < 4096
def excAt (p C : Addr) (dx : Option Addr) (h : Heap) : Prop := ∃ o vs, h.get? p = some o ∧ o.cls = .ref C ∧ o.dict = dx ∧ o.data = .fields vs
def tapeAt (p q : Addr) (h : Heap) : Prop := ∃ (a b c : Int) (ta tb tc : Tok) (n : Nat), h.get? p = some { cls := .type "list", data := .seq [Value.ref q, .int a ta, .int b tb, .int c tc].toArray n } ∧ 0 ≤ a ∧ (c = 0 ∨ c = 1)
def EntR (e : Int × Addr × V) (x : DictEntry) : Prop := x.hash = e.1 ∧ x.key = .ref e.2.1 ∧ RelV e.2.2 x.val
def DicAt (p : Addr) (es : List (Int × Addr × V)) (h : Heap) : Prop := (p == sysModules) = false ∧ es.length ≤ sizeLine ∧ ∃ o xs ep, h.get? p = some o ∧ o.ExactDict ∧ o.data = .dict xs ep ∧ Paired EntR es xs.toList
def dicO (p : Addr) (es : List (Int × Addr × V)) : HO := .ext (DicAt p es)
def dicH (hs : List Int) (kvs : List (D × D)) : D := .dict ((.str "{}", .list (hs.map PyData.int)) :: kvs)
mutual
inductive Rep (K : PySem.W.Frag) (H : Hp) : D → V → Prop
  | none : Rep K H .none .non
  | bool (b : Bool) : Rep K H (.bool b) (.bl b)
  | int (i : Int) : Rep K H (.int i) (.int i)
  | str (x : Str) : Rep K H (.str x) (.str x)
  | list {p : Addr} {xs : List V} {ts : List D} : SqL K H p xs → Reps K H ts xs → Rep K H (.list ts) (.ref p)
  | tuple {p : Addr} {xs : List V} {ts : List D} : SqT K H p xs → Reps K H ts xs → Rep K H (.tuple ts) (.ref p)
  | wild {p : Addr} : H p = some (.ext (numsAt p)) → Rep K H (.dict []) (.ref p)
  | exc {p C : Addr} : XOk K C → H p = some (.ext (excAt p C Option.none)) → Rep K H (.dict [(.int (C : Nat), .none)]) (.ref p)
  | excA {p C dx : Addr} {n : Int} : XOk K C → H p = some (.ext (excAt p C (some dx))) → H dx = some (.xd [("at", .int n)]) → Rep K H (.dict [(.int (C : Nat), .int n)]) (.ref p)
  | tape {p q : Addr} {ns : List Int} : H p = some (.ext (tapeAt p q)) → SqL K H q (ns.map V.int) → Rep K H (.dict [(.none, .list (ns.map PyData.int))]) (.ref p)
  | dct {p : Addr} {es : List (Int × Addr × V)} {kvs : List (D × D)} : H p = some (dicO p es) → (kvs.map (·.1)).Nodup → Reps K H (kvs.map (·.1)) (es.map fun e => .ref e.2.1) → Reps K H (kvs.map (·.2)) (es.map fun e => e.2.2) → Rep K H (.dict ((.str "{}", .list ((es.map (·.1)).map PyData.int)) :: kvs)) (.ref p)
  | addr {p : Addr} (z : List D) : Rep K H (.dict [(.str "@", .list (.int (p : Nat) :: z))]) (.ref p)
inductive Reps (K : PySem.W.Frag) (H : Hp) : List D → List V → Prop
  | nil : Reps K H [] []
  | cons {t : D} {ts : List D} {x : V} {xs : List V} : Rep K H t x → Reps K H ts xs → Reps K H (t :: ts) (x :: xs)
end
variable {K : PySem.W.Frag} {H H' H1 H2 : Hp}
theorem Same.seqT {a : Addr} {xs : List V} (e : Same H H') (h : SqT K H a xs) : SqT K H' a xs := by
  rcases h with (h | ⟨o, h⟩) | h
  · exact .inl (.inl (e _ _ h))
  · exact .inl (.inr ⟨o, e _ _ h⟩)
  · exact .inr h
mutual
theorem Rep.same (e : Same H H') : ∀ {d : D} {v : V}, Rep K H d v → Rep K H' d v
  | _, _, .none => .none
  | _, _, .bool b => .bool b
  | _, _, .int i => .int i
  | _, _, .str x => .str x
  | _, _, .list q r => .list (L2.Same.seq e q) (Reps.same e r)
  | _, _, .tuple q r => .tuple (Same.seqT e q) (Reps.same e r)
  | _, _, .wild h => .wild (e _ _ h)
  | _, _, .exc x h => .exc x (e _ _ h)
  | _, _, .excA x h g => .excA x (e _ _ h) (e _ _ g)
  | _, _, .tape h g => .tape (e _ _ h) (L2.Same.seq e g)
  | _, _, .dct h n r t => .dct (e _ _ h) n (Reps.same e r) (Reps.same e t)
  | _, _, .addr z => .addr z
theorem Reps.same (e : Same H H') : ∀ {ds : List D} {vs : List V}, Reps K H ds vs → Reps K H' ds vs
  | _, _, .nil => .nil
  | _, _, .cons r s => .cons (Rep.same e r) (Reps.same e s)
end
theorem Reps.length : ∀ {ds : List D} {vs : List V}, Reps K H ds vs → ds.length = vs.length
  | _, _, .nil => rfl
  | _, _, .cons _ s => by simp [Reps.length s]
theorem Reps.get : ∀ {ds : List D} {vs : List V} {i : Nat} {d : D}, Reps K H ds vs → ds[i]? = some d → ∃ v, vs[i]? = some v ∧ Rep K H d v
  | _, _, _, _, .nil, e => by simp at e
  | _, _, 0, _, .cons r _, e => by simp at e; subst e; exact ⟨_, rfl, r⟩
  | _, _, i + 1, d, .cons _ s, e => by
    obtain ⟨v, h1, h2⟩ := Reps.get (i := i) (d := d) s (by simpa using e)
    exact ⟨v, by simpa using h1, h2⟩
theorem Reps.get' : ∀ {ds : List D} {vs : List V} {i : Nat} {v : V}, Reps K H ds vs → vs[i]? = some v → ∃ d, ds[i]? = some d ∧ Rep K H d v
  | _, _, _, _, .nil, e => by simp at e
  | _, _, 0, _, .cons r _, e => by simp at e; subst e; exact ⟨_, rfl, r⟩
  | _, _, i + 1, d, .cons _ s, e => by
    obtain ⟨v, h1, h2⟩ := Reps.get' (i := i) (v := d) s (by simpa using e)
    exact ⟨v, by simpa using h1, h2⟩
theorem Reps.append : ∀ {ds es : List D} {vs us : List V}, Reps K H ds vs → Reps K H es us → Reps K H (ds ++ es) (vs ++ us)
  | _, _, _, _, .nil, s => s
  | _, _, _, _, .cons r t, s => .cons r (Reps.append t s)
theorem Reps.take : ∀ {ds : List D} {vs : List V} (n : Nat), Reps K H ds vs → Reps K H (ds.take n) (vs.take n)
  | _, _, 0, _ => .nil
  | _, _, _ + 1, .nil => .nil
  | _, _, n + 1, .cons r t => .cons r (Reps.take n t)
theorem Reps.drop : ∀ {ds : List D} {vs : List V} (n : Nat), Reps K H ds vs → Reps K H (ds.drop n) (vs.drop n)
  | _, _, 0, r => r
  | _, _, _ + 1, .nil => .nil
  | _, _, n + 1, .cons _ t => Reps.drop n t
theorem Reps.reverse {ds : List D} {vs : List V} (r : Reps K H ds vs) : Reps K H ds.reverse vs.reverse := by
  induction ds generalizing vs with
  | nil => cases r; exact .nil
  | cons d ds ih =>
    cases r with
    | cons r s =>
      rw [List.reverse_cons, List.reverse_cons]
      exact (ih s).append (.cons r .nil)

def mask (H : Hp) (ps : List Addr) : Hp := fun b => if b ∈ ps then none else H b
theorem mask_same {ps : List Addr} (e : Same H H') : Same (mask H ps) (mask H' ps) := fun b o h => by
  unfold mask at h ⊢
  by_cases hb : b ∈ ps
  · rw [if_pos hb] at h; cases h
  · rw [if_neg hb] at h ⊢; exact e b o h
theorem mask_sub {ps ps' : List Addr} (h : ∀ p ∈ ps', p ∈ ps) : Same (mask H ps) (mask H ps') := fun b o e => by
  unfold mask at e ⊢
  by_cases hb : b ∈ ps
  · rw [if_pos hb] at e; cases e
  · rw [if_neg hb] at e
    rw [if_neg fun z => hb (h b z)]
    exact e
theorem mask_le {ps : List Addr} : Same (mask H ps) H := fun b o e => by
  unfold mask at e
  by_cases hb : b ∈ ps
  · rw [if_pos hb] at e; cases e
  · rw [if_neg hb] at e; exact e
theorem mask_new {ps : List Addr} {p : Addr} {o : HO} (h : H p = none) : mask (upd H p o) (p :: ps) = mask H ps := by
  funext b
  unfold mask
  by_cases hb : b = p
  · subst hb
    rw [if_pos (List.mem_cons_self ..), h]
    by_cases z : b ∈ ps <;> simp [z]
  · rw [upd_ne hb]
    by_cases z : b ∈ ps
    · rw [if_pos (List.mem_cons_of_mem _ z), if_pos z]
    · rw [if_neg (fun q => (List.mem_cons.mp q).elim hb z), if_neg z]
theorem mask_upd {ps : List Addr} {p : Addr} {o : HO} (h : p ∈ ps) : mask (upd H p o) ps = mask H ps := by
  funext b
  unfold mask
  by_cases hb : b = p
  · subst hb; rw [if_pos h, if_pos h]
  · rw [upd_ne hb]
theorem same_new {p : Addr} {o : HO} (h : H p = none) : Same H (upd H p o) := fun b u q => by rw [upd_ne (ne_of_none q h)]; exact q
theorem mask_at {ps : List Addr} {p : Addr} {o : HO} (h : p ∉ ps) (e : H p = some o) : mask H ps p = some o := by
  unfold mask; rw [if_neg h]; exact e
theorem fresh_notin {ps : List Addr} {p : Addr} (live : ∀ q ∈ ps, H q ≠ none) (h : H p = none) : p ∉ ps := fun z => live p z h

inductive Sl where
  | un | val (d : D) | own (ts : List D) | dic (hs : List Int) (kvs : List (D × D))
def DicOk (K : PySem.W.Frag) (B : Hp) (p0 : List Addr) (H : Hp) (ps : List Addr) (σT : List Sl) (σ : L2.St) : Prop := ∀ (i : Nat) (hs : List Int) (kvs : List (D × D)), σT[i]? = some (.dic hs kvs) →
  (∃ (p : Addr) (es : List (Int × Addr × V)), σ[i]? = some (some (.ref p)) ∧ p ∈ ps ∧ B p = none ∧ p ∉ p0 ∧ H p = some (dicO p es) ∧ hs = es.map (·.1) ∧ (kvs.map (·.1)).Nodup ∧ Reps K (mask H ps) (kvs.map (·.1)) (es.map fun e => .ref e.2.1) ∧ Reps K (mask H ps) (kvs.map (·.2)) (es.map fun e => e.2.2)) ∧
  ∀ (j : Nat) (hs' : List Int) (kws : List (D × D)), σT[j]? = some (.dic hs' kws) → i = j
theorem DicOk.to {B B' : Hp} {p0 p0' ps ps' : List Addr} {σT σT' : List Sl} {σ σ' : L2.St} (o : DicOk K B p0 H ps σT σ) (hσ : ∀ (i : Nat) (hs : List Int) (kvs : List (D × D)), σT'[i]? = some (.dic hs kvs) → σT[i]? = some (.dic hs kvs) ∧ σ'[i]? = σ[i]?)
    (hp : ∀ (p : Addr) (φ : Heap → Prop), p ∈ ps → H p = some (.ext φ) → p ∉ p0 → p ∈ ps' ∧ H' p = H p) (hB : ∀ (p : Addr) (φ : Heap → Prop), p ∈ ps → H p = some (.ext φ) → B p = none → p ∉ p0 → B' p = none ∧ p ∉ p0') (hm : Same (mask H ps) (mask H' ps')) : DicOk K B' p0' H' ps' σT' σ' := fun i hs kvs h => by
  obtain ⟨h1, h2⟩ := hσ i hs kvs h
  obtain ⟨⟨p, es, a1, a2, a3, a4, a5, a6, a7, a8, a9⟩, u⟩ := o i hs kvs h1
  obtain ⟨b1, b2⟩ := hp p _ a2 a5 a4
  obtain ⟨c1, c2⟩ := hB p _ a2 a5 a3 a4
  exact ⟨⟨p, es, h2.trans a1, b1, c1, c2, b2.trans a5, a6, a7, a8.same hm, a9.same hm⟩, fun j hs' kws hj => u j hs' kws (hσ j hs' kws hj).1⟩
theorem dic_set {σT : List Sl} {i j : Nat} {s : Sl} {hs : List Int} {kvs : List (D × D)} (hn : ∀ hs kvs, s ≠ .dic hs kvs) (h : (σT.set i s)[j]? = some (.dic hs kvs)) : i ≠ j ∧ σT[j]? = some (.dic hs kvs) := by
  by_cases e : i = j
  · subst e
    have hi : i < σT.length := by simpa using (List.getElem?_eq_some_iff.mp h).1
    rw [List.getElem?_set_self hi] at h
    exact absurd (Option.some.inj h) (hn hs kvs)
  · rw [List.getElem?_set_ne e] at h
    exact ⟨e, h⟩
theorem DicOk.setS {B : Hp} {p0 ps : List Addr} {σT : List Sl} {σ : L2.St} (o : DicOk K B p0 H ps σT σ) {i : Nat} {s : Sl} {v : Option V} (hn : ∀ hs kvs, s ≠ .dic hs kvs) : DicOk K B p0 H ps (σT.set i s) (σ.set i v) :=
  o.to (fun j hs kvs h => let ⟨e, h'⟩ := dic_set hn h; ⟨h', List.getElem?_set_ne e⟩) (fun p φ a b _ => ⟨a, rfl⟩) (fun p φ _ _ a b => ⟨a, b⟩) (L2.Same.refl _)
theorem DicOk.setT {B : Hp} {p0 ps : List Addr} {σT : List Sl} {σ : L2.St} (o : DicOk K B p0 H ps σT σ) {i : Nat} {s : Sl} (hn : ∀ hs kvs, s ≠ .dic hs kvs) : DicOk K B p0 H ps (σT.set i s) σ :=
  o.to (fun j hs kvs h => ⟨(dic_set hn h).2, rfl⟩) (fun p φ a b _ => ⟨a, rfl⟩) (fun p φ _ _ a b => ⟨a, b⟩) (L2.Same.refl _)
theorem DicOk.grow {B : Hp} {p0 ps : List Addr} {σT : List Sl} {σ : L2.St} (o : DicOk K B p0 H ps σT σ) (e : Same H H') : DicOk K B p0 H' ps σT σ :=
  o.to (fun j hs kvs h => ⟨h, rfl⟩) (fun p φ a b _ => ⟨a, (e p _ b).trans b.symm⟩) (fun p φ _ _ a b => ⟨a, b⟩) (mask_same e)
structure Ok (K : PySem.W.Frag) (B : Hp) (p0 : List Addr) (H : Hp) (ps : List Addr) (σT : List Sl) (σ : L2.St) : Prop where
  base : Same B H
  sub : ∀ p ∈ p0, p ∈ ps
  live : ∀ p ∈ ps, H p ≠ none
  len : σT.length = σ.length
  val : ∀ (i : Nat) (d : D), σT[i]? = some (.val d) → ∃ v, σ[i]? = some (some v) ∧ Rep K (mask H ps) d v
  own : ∀ (i : Nat) (ts : List D), σT[i]? = some (.own ts) → ∃ p xs, σ[i]? = some (some (.ref p)) ∧ p ∈ ps ∧ B p = none ∧ p ∉ p0 ∧ H p = some (.lst xs) ∧ Reps K (mask H ps) ts xs
  dis : ∀ (i j : Nat) (ts us : List D) (p : Addr), σT[i]? = some (.own ts) → σT[j]? = some (.own us) → σ[i]? = some (some (.ref p)) → σ[j]? = some (some (.ref p)) → i = j
  dc : DicOk K B p0 H ps σT σ
variable {B : Hp} {p0 ps : List Addr} {σT : List Sl} {σ : L2.St}
theorem Ok.grow (o : Ok K B p0 H ps σT σ) (e : Same H H') : Ok K B p0 H' ps σT σ where
  base := o.base.trans e
  sub := o.sub
  live := fun p hp z => by
    cases q : H p with
    | none => exact o.live p hp q
    | some u => rw [e p u q] at z; cases z
  len := o.len
  val := fun i d h => let ⟨v, h1, h2⟩ := o.val i d h; ⟨v, h1, h2.same (mask_same e)⟩
  own := fun i ts h => let ⟨p, xs, h1, h2, h3, h4, h5, h6⟩ := o.own i ts h; ⟨p, xs, h1, h2, h3, h4, e _ _ h5, h6.same (mask_same e)⟩
  dis := o.dis
  dc := o.dc.grow e
theorem Ok.set (o : Ok K B p0 H ps σT σ) {i : Nat} {d : D} {v : V} (r : Rep K (mask H ps) d v) : Ok K B p0 H ps (σT.set i (.val d)) (σ.set i (some v)) where
  base := o.base
  sub := o.sub
  live := o.live
  len := by simpa using o.len
  val := fun j d' h => by
    by_cases e : i = j
    · subst e
      have hi : i < σT.length := by
        have := (List.getElem?_eq_some_iff.mp h).1
        simpa using this
      rw [List.getElem?_set_self hi] at h
      cases h
      exact ⟨v, by rw [List.getElem?_set_self (by rw [← o.len]; exact hi)], r⟩
    · rw [List.getElem?_set_ne e] at h ⊢
      exact o.val j d' h
  own := fun j ts h => by
    by_cases e : i = j
    · subst e
      have hi : i < σT.length := by
        have := (List.getElem?_eq_some_iff.mp h).1
        simpa using this
      rw [List.getElem?_set_self hi] at h
      cases h
    · rw [List.getElem?_set_ne e] at h ⊢
      exact o.own j ts h
  dis := fun j k ts us p h1 h2 h3 h4 => by
    have ne : ∀ {l : Nat} {ts : List D}, (σT.set i (.val d))[l]? = some (.own ts) → i ≠ l := fun {l ts} h e => by
      subst e
      have hi : i < σT.length := by
        have := (List.getElem?_eq_some_iff.mp h).1
        simpa using this
      rw [List.getElem?_set_self hi] at h
      cases h
    have e1 := ne h1
    have e2 := ne h2
    rw [List.getElem?_set_ne e1] at h1 h3
    rw [List.getElem?_set_ne e2] at h2 h4
    exact o.dis j k ts us p h1 h2 h3 h4
  dc := o.dc.setS fun _ _ z => nomatch z
theorem Ok.setOwn (o : Ok K B p0 H ps σT σ) {i : Nat} {ts : List D} {xs : List V} {p : Addr} (hp : H p = none) (r : Reps K (mask H ps) ts xs) : Ok K B p0 (upd H p (.lst xs)) (p :: ps) (σT.set i (.own ts)) (σ.set i (some (.ref p))) := by
  have hm : mask (upd H p (.lst xs)) (p :: ps) = mask H ps := mask_new hp
  have hps : p ∉ ps := fresh_notin o.live hp
  have hn : ∀ {l : Nat} {us : List D}, i ≠ l → σT[l]? = some (.own us) → σ[l]? ≠ some (some (.ref p)) := fun {l us} _ h z => by
    obtain ⟨q, _, h1, h2, _⟩ := o.own l us h
    rw [z] at h1
    cases h1
    exact hps h2
  refine ⟨o.base.trans (same_new hp), fun q hq => List.mem_cons_of_mem _ (o.sub q hq), fun q hq => ?_, by simpa using o.len, fun j d h => ?_, fun j us h => ?_, fun j k us ws q h1 h2 h3 h4 => ?_, ?_⟩
  · by_cases e : q = p
    · subst e; rw [upd_same]; simp
    · rw [upd_ne e]
      rcases List.mem_cons.mp hq with z | z
      · exact absurd z e
      · exact o.live q z
  · rw [hm]
    by_cases e : i = j
    · subst e
      have hi : i < σT.length := by simpa using (List.getElem?_eq_some_iff.mp h).1
      rw [List.getElem?_set_self hi] at h
      cases h
    · rw [List.getElem?_set_ne e] at h ⊢
      exact o.val j d h
  · rw [hm]
    by_cases e : i = j
    · subst e
      have hi : i < σT.length := by simpa using (List.getElem?_eq_some_iff.mp h).1
      rw [List.getElem?_set_self hi] at h
      cases h
      refine ⟨p, xs, by rw [List.getElem?_set_self (by rw [← o.len]; exact hi)], List.mem_cons_self .., ?_, fun z => hps (o.sub p z), upd_same, r⟩
      cases q : B p with
      | none => rfl
      | some u => rw [o.base p u q] at hp; cases hp
    · rw [List.getElem?_set_ne e] at h ⊢
      obtain ⟨q, ys, h1, h2, h3, h4, h5, h6⟩ := o.own j us h
      refine ⟨q, ys, h1, List.mem_cons_of_mem _ h2, h3, h4, ?_, h6⟩
      rw [upd_ne (fun z : q = p => hps (z ▸ h2))]
      exact h5
  · by_cases e1 : i = j
    · by_cases e2 : i = k
      · exact e1.symm.trans e2
      · subst e1
        have hi : i < σT.length := by simpa using (List.getElem?_eq_some_iff.mp h1).1
        rw [List.getElem?_set_self (by rw [← o.len]; exact hi)] at h3
        cases h3
        rw [List.getElem?_set_ne e2] at h2 h4
        exact absurd h4 (hn e2 h2)
    · by_cases e2 : i = k
      · subst e2
        have hi : i < σT.length := by simpa using (List.getElem?_eq_some_iff.mp h2).1
        rw [List.getElem?_set_self (by rw [← o.len]; exact hi)] at h4
        cases h4
        rw [List.getElem?_set_ne e1] at h1 h3
        exact absurd h3 (hn e1 h1)
      · rw [List.getElem?_set_ne e1] at h1 h3
        rw [List.getElem?_set_ne e2] at h2 h4
        exact o.dis j k us ws q h1 h2 h3 h4
  · exact (o.dc.setS (i := i) (s := .own ts) (v := some (.ref p)) fun _ _ z => nomatch z).to (fun j hs kvs h => ⟨h, rfl⟩) (fun q φ a b _ => ⟨List.mem_cons_of_mem _ a, upd_ne fun z => by rw [z, hp] at b; cases b⟩) (fun q φ _ _ a b => ⟨a, b⟩) (by rw [hm]; exact L2.Same.refl _)
theorem Ok.write (o : Ok K B p0 H ps σT σ) {i : Nat} {ts us : List D} {ys : List V} {p : Addr} (hi : σT[i]? = some (.own ts)) (hσ : σ[i]? = some (some (.ref p))) (r : Reps K (mask H ps) us ys) :
    Ok K B p0 (upd H p (.lst ys)) ps (σT.set i (.own us)) σ := by
  obtain ⟨q, zs, h1, h2, h3, h4, h5, h6⟩ := o.own i ts hi
  rw [hσ] at h1
  cases h1
  have hm : mask (upd H p (.lst ys)) ps = mask H ps := mask_upd h2
  have hil : i < σT.length := (List.getElem?_eq_some_iff.mp hi).1
  refine ⟨fun b u e => ?_, o.sub, fun q hq => ?_, by simpa using o.len, fun j d h => ?_, fun j ws h => ?_, fun j k vs ws q k1 k2 k3 k4 => ?_, ?_⟩
  · have ne : b ≠ p := fun z => by rw [z, h3] at e; cases e
    rw [upd_ne ne]; exact o.base b u e
  · by_cases e : q = p
    · subst e; rw [upd_same]; simp
    · rw [upd_ne e]; exact o.live q hq
  · rw [hm]
    by_cases e : i = j
    · subst e
      rw [List.getElem?_set_self hil] at h
      cases h
    · rw [List.getElem?_set_ne e] at h
      exact o.val j d h
  · rw [hm]
    by_cases e : i = j
    · subst e
      rw [List.getElem?_set_self hil] at h
      cases h
      exact ⟨p, ys, hσ, h2, h3, h4, upd_same, r⟩
    · rw [List.getElem?_set_ne e] at h
      obtain ⟨q, vs, k1, k2, k3, k4, k5, k6⟩ := o.own j ws h
      refine ⟨q, vs, k1, k2, k3, k4, ?_, k6⟩
      rw [upd_ne (fun z : q = p => e (o.dis i j ts ws p hi h hσ (z ▸ k1)))]
      exact k5
  · have back : ∀ {l : Nat} {vs : List D}, (σT.set i (.own us))[l]? = some (.own vs) → ∃ vs', σT[l]? = some (.own vs') := fun {l vs} h => by
      by_cases e : i = l
      · subst e; exact ⟨ts, hi⟩
      · rw [List.getElem?_set_ne e] at h; exact ⟨vs, h⟩
    obtain ⟨vs', k1⟩ := back k1
    obtain ⟨ws', k2⟩ := back k2
    exact o.dis j k vs' ws' q k1 k2 k3 k4
  · exact (o.dc.setT (i := i) (s := .own us) fun _ _ z => nomatch z).to (fun j hs kvs h => ⟨h, rfl⟩) (fun q φ a b _ => ⟨a, upd_ne fun z => by rw [z, h5] at b; cases b⟩) (fun q φ _ _ a b => ⟨a, b⟩) (by rw [hm]; exact L2.Same.refl _)
theorem Ok.share (o : Ok K B p0 H ps σT σ) {i : Nat} {ts : List D} (hi : σT[i]? = some (.own ts)) : ∃ ps', Ok K B p0 H ps' (σT.set i (.val (.list ts))) σ ∧ Same (mask H ps) (mask H ps') := by
  obtain ⟨p, xs, h1, h2, h3, h4, h5, h6⟩ := o.own i ts hi
  have hil : i < σT.length := (List.getElem?_eq_some_iff.mp hi).1
  have hsub : Same (mask H ps) (mask H (ps.filter fun q => decide (q ≠ p))) := mask_sub fun q hq => (List.mem_filter.mp hq).1
  have hpn : p ∉ ps.filter fun q => decide (q ≠ p) := fun z => (of_decide_eq_true (List.mem_filter.mp z).2) rfl
  refine ⟨ps.filter fun q => decide (q ≠ p), ⟨o.base, fun q hq => List.mem_filter.mpr ⟨o.sub q hq, decide_eq_true fun z => h4 (z ▸ hq)⟩, fun q hq => o.live q (List.mem_filter.mp hq).1, by simpa using o.len, fun j d h => ?_, fun j us h => ?_, fun j k us ws q k1 k2 k3 k4 => ?_, ?_⟩, hsub⟩
  · by_cases e : i = j
    · subst e
      rw [List.getElem?_set_self hil] at h
      cases h
      exact ⟨_, h1, .list (SqL.of (mask_at hpn h5)) (h6.same hsub)⟩
    · rw [List.getElem?_set_ne e] at h
      obtain ⟨v, k1, k2⟩ := o.val j d h
      exact ⟨v, k1, k2.same hsub⟩
  · by_cases e : i = j
    · subst e
      rw [List.getElem?_set_self hil] at h
      cases h
    · rw [List.getElem?_set_ne e] at h
      obtain ⟨q, ys, k1, k2, k3, k4, k5, k6⟩ := o.own j us h
      exact ⟨q, ys, k1, List.mem_filter.mpr ⟨k2, decide_eq_true fun z => e (o.dis i j ts us p hi h h1 (z ▸ k1))⟩, k3, k4, k5, k6.same hsub⟩
  · have back : ∀ {l : Nat} {vs : List D}, (σT.set i (.val (.list ts)))[l]? = some (.own vs) → σT[l]? = some (.own vs) := fun {l vs} h => by
      by_cases e : i = l
      · subst e; rw [List.getElem?_set_self hil] at h; cases h
      · rw [List.getElem?_set_ne e] at h; exact h
    exact o.dis j k us ws q (back k1) (back k2) k3 k4
  · exact (o.dc.setT (i := i) (s := .val (.list ts)) fun _ _ z => nomatch z).to (fun j hs kvs h => ⟨h, rfl⟩) (fun q φ a b _ => ⟨List.mem_filter.mpr ⟨a, decide_eq_true fun z => by rw [z, h5] at b; cases b⟩, rfl⟩) (fun q φ _ _ a b => ⟨a, b⟩) hsub

abbrev ET := List Sl → (D → Prop) → Prop
abbrev TTt := List Sl → (Bool → Prop) → Prop
abbrev AT := List Sl → (List D → Prop) → Prop
def PEt (X : Cx) (e : Expr) (t : ET) : Prop := ∃ te : TE, PE X e te ∧ ∀ (B : Hp) (p0 : List Addr) (H : Hp) (ps : List Addr) (σT : List Sl) (σ : L2.St) (Q : D → Prop) (QV : VK), Ok X.K B p0 H ps σT σ → t σT Q →
  (∀ d v H', Same H H' → Rep X.K (mask H' ps) d v → Q d → QV v H') → te σ H QV
def PTt (X : Cx) (e : Expr) (t : TTt) : Prop := ∃ tt : TT, PT X e tt ∧ ∀ (B : Hp) (p0 : List Addr) (H : Hp) (ps : List Addr) (σT : List Sl) (σ : L2.St) (Q : Bool → Prop) (QV : Bool → Hp → Prop), Ok X.K B p0 H ps σT σ → t σT Q →
  (∀ b H', Same H H' → Q b → QV b H') → tt σ H QV
def PWt (X : Cx) (e : Expr) (t : TTt) : Prop := ∃ tt : TT, PW X e tt ∧ ∀ (B : Hp) (p0 : List Addr) (H : Hp) (ps : List Addr) (σT : List Sl) (σ : L2.St) (Q : Bool → Prop) (QV : Bool → Hp → Prop), Ok X.K B p0 H ps σT σ → t σT Q →
  (∀ b H', Same H H' → Q b → QV b H') → tt σ H QV
def PAt (X : Cx) (es : List Expr) (t : AT) : Prop := ∃ ta : TA, PA X es ta ∧ ∀ (B : Hp) (p0 : List Addr) (H : Hp) (ps : List Addr) (σT : List Sl) (σ : L2.St) (Q : List D → Prop) (QV : List V → Hp → Prop), Ok X.K B p0 H ps σT σ → t σT Q →
  (∀ ds vs H', Same H H' → Reps X.K (mask H' ps) ds vs → Q ds → QV vs H') → ta σ H QV
structure EndsT where
  nx : List Sl → Prop
  rt : D → Prop
  bk : List Sl → Prop := fun _ => False
  ct : List Sl → Prop := fun _ => False
  ro : List D → Prop := fun _ => False
  rp : List D → List D → Prop := fun _ _ => False
  xB : Hp → Prop := fun _ => True
abbrev STt := EndsT → List Sl → Prop
structure Fits (K : PySem.W.Frag) (B : Hp) (p0 : List Addr) (H : Hp) (ps : List Addr) (DT : EndsT) (DV : Ends) : Prop where
  nx : ∀ H' ps' σT' σ', Ok K B p0 H' ps' σT' σ' → Same (mask H ps) (mask H' ps') → DT.nx σT' → DV.nx σ' H'
  bk : ∀ H' ps' σT' σ', Ok K B p0 H' ps' σT' σ' → Same (mask H ps) (mask H' ps') → DT.bk σT' → DV.bk σ' H'
  ct : ∀ H' ps' σT' σ', Ok K B p0 H' ps' σT' σ' → Same (mask H ps) (mask H' ps') → DT.ct σT' → DV.ct σ' H'
  rt : ∀ d v H', Same B H' → Rep K (mask H' p0) d v → DT.rt d → DV.rt v H'
  ro : ∀ ts p xs H', Same B H' → B p = none → p ∉ p0 → H' p = some (.lst xs) → Reps K (mask H' (p :: p0)) ts xs → DT.ro ts → DV.rt (.ref p) H'
  rp : ∀ as bs r p q xs ys H', Same B H' → B r = none → B p = none → B q = none → p ≠ q → H' r = some (.tup [.ref p, .ref q]) → H' p = some (.lst xs) → H' q = some (.lst ys) → Reps K (mask H' (p :: q :: p0)) as xs → Reps K (mask H' (p :: q :: p0)) bs ys → DT.rp as bs → DV.rt (.ref r) H'
  xb : DT.xB B
theorem Fits.later {DT : EndsT} {DV : Ends} {ps' : List Addr} (f : Fits K B p0 H ps DT DV) (e : Same (mask H ps) (mask H' ps')) : Fits K B p0 H' ps' DT DV :=
  ⟨fun _ _ _ _ o s q => f.nx _ _ _ _ o (e.trans s) q, fun _ _ _ _ o s q => f.bk _ _ _ _ o (e.trans s) q, fun _ _ _ _ o s q => f.ct _ _ _ _ o (e.trans s) q, f.rt, f.ro, f.rp, f.xb⟩
def PSt (X : Cx) (st : Stmt) (t : STt) : Prop := ∃ ts : TS, PS X st ts ∧ ∀ (B : Hp) (p0 : List Addr) (H : Hp) (ps : List Addr) (σT : List Sl) (σ : L2.St) (DT : EndsT) (DV : Ends), Ok X.K B p0 H ps σT σ → t DT σT → Fits X.K B p0 H ps DT DV → ts DV σ H
def PSst (X : Cx) (st : List Stmt) (t : STt) : Prop := ∃ ts : TS, PSs X st ts ∧ ∀ (B : Hp) (p0 : List Addr) (H : Hp) (ps : List Addr) (σT : List Sl) (σ : L2.St) (DT : EndsT) (DV : Ends), Ok X.K B p0 H ps σT σ → t DT σT → Fits X.K B p0 H ps DT DV → ts DV σ H
def Op2 (X : Cx) (r : R2) (f : D → D → (D → Prop) → Prop) : Prop := ∀ (H : Hp) (ps : List Addr) (d1 d2 : D) (x y : V) (Q : D → Prop) (QV : VK), (∀ p ∈ ps, H p ≠ none) → Rep X.K (mask H ps) d1 x → Rep X.K (mask H ps) d2 y → f d1 d2 Q →
  (∀ d v H', Same H H' → Rep X.K (mask H' ps) d v → Q d → QV v H') → r x y H QV
def CallT (X : Cx) (r : List V → Hp → VK → Prop) (f : List D → (D → Prop) → Prop) : Prop := ∀ (H : Hp) (ps : List Addr) (ds : List D) (xs : List V) (Q : D → Prop) (QV : VK), (∀ p ∈ ps, H p ≠ none) → Reps X.K (mask H ps) ds xs → f ds Q →
  (∀ d v H', Same H H' → Rep X.K (mask H' ps) d v → Q d → QV v H') → r xs H QV
section
variable {X : Cx} {a b e : Expr} {es : List Expr} {ta tb te : ET} {pos : Pos}

inductive VarAt (σ : List Sl) (i : Nat) (Q : D → Prop) : Prop
  | mk (d : D) (h : σ[i]? = some (.val d)) (k : Q d) : VarAt σ i Q
def eVar (i : Nat) : ET := fun σ Q => VarAt σ i Q
def eC (d : D) : ET := fun _ Q => Q d
theorem et_v (i : Nat) {x : Str} {pos : Pos} (hN : X.N[i]? = some x := by rfl) (hv : Vis X.env.scope x := by first | exact Or.inl rfl | exact Or.inr (Or.inl rfl) | exact Or.inr (Or.inr rfl)) (hd : (x == ("__debug__" : Str)) = false := by decide)
    (hcd : (x == ("__classdict__" : Str)) = false := by decide) : PEt X (.Name x pos) (eVar i) :=
  ⟨_, pe_var hN hv hd hcd, fun B p0 H ps σT σ Q QV o h k => by
    obtain ⟨d, e, q⟩ := h
    obtain ⟨v, e1, r⟩ := o.val i d e
    exact ⟨v, e1, k d v H (L2.Same.refl H) r q⟩⟩
theorem et_int {i j pos} : PEt X (.Constant (.int i) j pos) (eC (.int i)) := ⟨_, pe_int, fun _ _ H _ _ _ _ _ _ h k => k _ _ H (L2.Same.refl H) (.int i) h⟩
theorem et_bl {b j pos} : PEt X (.Constant (.bool b) j pos) (eC (.bool b)) := ⟨_, pe_bl, fun _ _ H _ _ _ _ _ _ h k => k _ _ H (L2.Same.refl H) (.bool b) h⟩
theorem et_non {j pos} : PEt X (.Constant .none j pos) (eC .none) := ⟨_, pe_non, fun _ _ H _ _ _ _ _ _ h k => k _ _ H (L2.Same.refl H) .none h⟩
theorem et_str {x j pos} : PEt X (.Constant (.str x) j pos) (eC (.str x)) := ⟨_, pe_str, fun _ _ H _ _ _ _ _ _ h k => k _ _ H (L2.Same.refl H) (.str x) h⟩
theorem et_gint {x : Str} {i : Int} {t : Tok} {pos : Pos} (hg : Gl X x) (hm : X.mg x = some (.int i t)) (hd : (x == ("__debug__" : Str)) = false := by decide) : PEt X (.Name x pos) (eC (.int i)) := ⟨_, pe_glob (v := .int i) hg hm ⟨t, rfl⟩ hd, fun _ _ H _ _ _ _ _ _ h k => k _ _ H (L2.Same.refl H) (.int i) h⟩
def eOp (f : D → D → (D → Prop) → Prop) (ta tb : ET) : ET := fun σ Q => ta σ fun x => tb σ fun y => f x y Q
theorem op_read {r : R2} {f : D → D → (D → Prop) → Prop} (h2 : Op2 X r f) {va vb : TE}
    (ha : ∀ (B : Hp) (p0 : List Addr) (H : Hp) (ps : List Addr) (σT : List Sl) (σ : L2.St) (Q : D → Prop) (QV : VK), Ok X.K B p0 H ps σT σ → ta σT Q → (∀ d v H', Same H H' → Rep X.K (mask H' ps) d v → Q d → QV v H') → va σ H QV)
    (hb : ∀ (B : Hp) (p0 : List Addr) (H : Hp) (ps : List Addr) (σT : List Sl) (σ : L2.St) (Q : D → Prop) (QV : VK), Ok X.K B p0 H ps σT σ → tb σT Q → (∀ d v H', Same H H' → Rep X.K (mask H' ps) d v → Q d → QV v H') → vb σ H QV)
    (B : Hp) (p0 : List Addr) (H : Hp) (ps : List Addr) (σT : List Sl) (σ : L2.St) (Q : D → Prop) (QV : VK) (o : Ok X.K B p0 H ps σT σ) (h : eOp f ta tb σT Q) (k : ∀ d v H', Same H H' → Rep X.K (mask H' ps) d v → Q d → QV v H') : tOp r va vb σ H QV := by
  refine ha B p0 H ps σT σ _ _ o h fun d1 x H1 s1 r1 q1 => ?_
  refine hb B p0 H1 ps σT σ _ _ (o.grow s1) q1 fun d2 y H2 s2 r2 q2 => ?_
  exact h2 H2 ps d1 d2 x y Q QV ((o.grow s1).grow s2).live (r1.same (mask_same s2)) r2 q2 fun d v H' s' r' q' => k d v H' (s1.trans (s2.trans s')) r' q'
theorem et_op {op : Operator} {r : R2} {f : D → D → (D → Prop) → Prop} (ho : OpR X (binaryOp op) r) (h2 : Op2 X r f) (ha : PEt X a ta) (hb : PEt X b tb) : PEt X (.BinOp a op b pos) (eOp f ta tb) := by
  obtain ⟨va, pa, ra⟩ := ha
  obtain ⟨vb, pb, rb⟩ := hb
  exact ⟨_, pe_op ho pa pb, op_read h2 ra rb⟩
theorem et_cmp {op : CmpOp} {r : R2} {f : D → D → (D → Prop) → Prop} (ho : OpR X (compareOp op) r) (h2 : Op2 X r f) (ha : PEt X a ta) (hb : PEt X b tb) (hm : behindInMarks op b = false := by first | exact nomark _ | rfl) : PEt X (.Compare a [op] [b] pos) (eOp f ta tb) := by
  obtain ⟨va, pa, ra⟩ := ha
  obtain ⟨vb, pb, rb⟩ := hb
  exact ⟨_, pe_cmpR ho pa pb hm, op_read h2 ra rb⟩
theorem et_ix {r : R2} {f : D → D → (D → Prop) → Prop} (ho : IxR X r) (h2 : Op2 X r f) (ha : PEt X a ta) (hb : PEt X b tb) (hs : PlainIx b := by intro _ _; rfl) : PEt X (.Subscript a b pos) (eOp f ta tb) := by
  obtain ⟨va, pa, ra⟩ := ha
  obtain ⟨vb, pb, rb⟩ := hb
  exact ⟨_, pe_ix ho pa pb hs, op_read h2 ra rb⟩
def eNeg (ta : ET) : ET := fun σ Q => ta σ fun x => match x with | .int i => Q (.int (-i)) | _ => False
theorem et_neg (ha : PEt X a ta) : PEt X (.UnaryOp .USub a pos) (eNeg ta) := by
  obtain ⟨va, pa, ra⟩ := ha
  refine ⟨_, pe_un un_neg pa, fun B p0 H ps σT σ Q QV o h k => ra B p0 H ps σT σ _ _ o h fun d x H1 s1 r1 q1 => ?_⟩
  cases r1 with
  | int i => exact ⟨i, rfl, k _ _ H1 s1 (.int _) q1⟩
  | _ => exact q1.elim
def aNil : AT := fun _ Q => Q []
def aCons (t : ET) (r : AT) : AT := fun σ Q => t σ fun x => r σ fun xs => Q (x :: xs)
theorem at_nil : PAt X [] aNil := ⟨_, pa_nil, fun _ _ H _ _ _ _ _ _ h k => k _ _ H (L2.Same.refl H) .nil h⟩
theorem at_cons {tr : AT} (ha : PEt X e te) (hr : PAt X es tr) (hs : starEach (e :: es) X.env = (false, eval e X.env) :: starEach es X.env := by rfl) : PAt X (e :: es) (aCons te tr) := by
  obtain ⟨va, pa, ra⟩ := ha
  obtain ⟨vr, pr, rr⟩ := hr
  refine ⟨_, pa_cons pa pr hs, fun B p0 H ps σT σ Q QV o h k => ra B p0 H ps σT σ _ _ o h fun d x H1 s1 r1 q1 => ?_⟩
  refine rr B p0 H1 ps σT σ _ _ (o.grow s1) q1 fun ds xs H2 s2 r2 q2 => ?_
  exact k _ _ H2 (s1.trans s2) (.cons (r1.same (mask_same s2)) r2) q2
def eTup (t : AT) : ET := fun σ Q => t σ fun ds => ds.length ≤ 1000 ∧ Q (.tuple ds)
def eLst (t : AT) : ET := fun σ Q => t σ fun ds => ds.length ≤ 1000 ∧ Q (.list ds)
theorem rep_tup {ps : List Addr} {p : Addr} {ds : List D} {xs : List V} (live : ∀ q ∈ ps, H q ≠ none) (hp : H p = none) (r : Reps K (mask H ps) ds xs) : Rep K (mask (upd H p (.tup xs)) ps) (.tuple ds) (.ref p) :=
  .tuple (SqT.of (mask_at (fresh_notin live hp) upd_same)) (r.same (mask_same (same_new hp)))
theorem rep_lst {ps : List Addr} {p : Addr} {ds : List D} {xs : List V} (live : ∀ q ∈ ps, H q ≠ none) (hp : H p = none) (r : Reps K (mask H ps) ds xs) : Rep K (mask (upd H p (.lst xs)) ps) (.list ds) (.ref p) :=
  .list (SqL.of (mask_at (fresh_notin live hp) upd_same)) (r.same (mask_same (same_new hp)))
theorem le_line {n : Nat} (h : n ≤ 1000) : n ≤ sizeLine := Nat.le_of_lt (small1000 h)
theorem et_tup {x1} {t : AT} (h : PAt X es t) : PEt X (.Tuple es x1 pos) (eTup t) := by
  obtain ⟨v, p, r⟩ := h
  refine ⟨_, pe_tup p, fun B p0 H ps σT σ Q QV o h k => r B p0 H ps σT σ _ _ o h fun ds xs H1 s1 r1 q1 => ⟨le_line (by rw [← r1.length]; exact q1.1), fun q hq => ?_⟩⟩
  exact k _ _ _ (s1.trans (same_new hq)) (rep_tup (o.grow s1).live hq r1) q1.2
theorem et_lst {t : AT} (h : PAt X es t) : PEt X (.List es pos) (eLst t) := by
  obtain ⟨v, p, r⟩ := h
  refine ⟨_, pe_lst p, fun B p0 H ps σT σ Q QV o h k => r B p0 H ps σT σ _ _ o h fun ds xs H1 s1 r1 q1 => ⟨le_line (by rw [← r1.length]; exact q1.1), fun q hq => ?_⟩⟩
  exact k _ _ _ (s1.trans (same_new hq)) (rep_lst (o.grow s1).live hq r1) q1.2
def eCall (f : List D → (D → Prop) → Prop) (t : AT) : ET := fun σ Q => t σ fun ds => f ds Q
abbrev SpT := List D → (D → Prop) → Prop
def liftSp (K : PySem.W.Frag) (sp : SpT) : Sp := fun vs H Q _ => ∃ (ps : List Addr) (ds : List D) (QD : D → Prop), (∀ p ∈ ps, H p ≠ none) ∧ Reps K (mask H ps) ds vs ∧ sp ds QD ∧ ∀ d v H', Same H H' → Rep K (mask H' ps) d v → QD d → Q v H'
theorem et_call {k : Nat} {f : Addr} {fd : FuncData} {pn : List Str} {sp : SpT} {x : Str} {p : Pos} {t : AT} (F : FnOk X.prog X.w X.K X.mg X.base CX0 k f fd pn (liftSp X.K sp)) (hm : X.mg x = some (.ref f)) (hk : PySem.W.keepIn X.K (.ref f) = true) (hb : Binds X.K fd pn [])
    (hr : Room k X.A) (ha : PAt X (e :: es) t) (pc : ∀ {ta : TA}, PA X (e :: es) ta → PE X (.Call (.Name x p) (e :: es) [] pos) (tCall (liftSp X.K sp) [] E0 ta)) : PEt X (.Call (.Name x p) (e :: es) [] pos) (eCall sp t) := by
  obtain ⟨v, pa, ra⟩ := ha
  refine ⟨_, pc pa, fun B p0 H ps σT σ Q QV o h k => ra B p0 H ps σT σ _ _ o h fun ds xs H1 s1 r1 q1 => ?_⟩
  show liftSp X.K sp (xs ++ []) H1 QV E0
  rw [List.append_nil]
  exact ⟨ps, ds, Q, (o.grow s1).live, r1, q1, fun d v H' s' r' q' => k d v H' (s1.trans s') r' q'⟩
def cTest (t : ET) : TTt := fun σ Q => t σ fun x => match x with | .bool b => Q b | _ => False
theorem tt_val (h : PEt X e te) (pt : ∀ {t : TE}, PE X e t → PT X e (tB t)) : PTt X e (cTest te) := by
  obtain ⟨v, p, r⟩ := h
  refine ⟨_, pt p, fun B p0 H ps σT σ Q QV o h k => r B p0 H ps σT σ _ _ o h fun d x H1 s1 r1 q1 => ?_⟩
  cases r1 with
  | bool c => exact ⟨c, rfl, k c H1 s1 q1⟩
  | _ => exact q1.elim
theorem tt_cmp {op : CmpOp} {r : R2} {f : D → D → (D → Prop) → Prop} (ho : OpR X (compareOp op) r) (h2 : Op2 X r f) (ha : PEt X a ta) (hb : PEt X b tb) (hm : behindInMarks op b = false := by first | exact nomark _ | rfl) : PTt X (.Compare a [op] [b] pos) (cTest (eOp f ta tb)) := by
  obtain ⟨va, pa, ra⟩ := ha
  obtain ⟨vb, pb, rb⟩ := hb
  refine ⟨_, pt_cmpR ho pa pb hm, fun B p0 H ps σT σ Q QV o h k => ?_⟩
  refine op_read h2 ra rb B p0 H ps σT σ (fun x => match x with | .bool b => Q b | _ => False) _ o h fun d v H' s' r' q' => ?_
  cases r' with
  | bool c => exact ⟨c, rfl, k c H' s' q'⟩
  | _ => exact q'.elim
def cNot (t : TTt) : TTt := fun σ Q => t σ fun b => Q (!b)
def cAnd (t u : TTt) : TTt := fun σ Q => t σ fun b => if b = true then u σ Q else Q false
def cOr (t u : TTt) : TTt := fun σ Q => t σ fun b => if b = true then Q true else u σ Q
variable {tA tB' : TTt} {rest : List Expr}
theorem tt_not (h : PTt X a tA) : PTt X (.UnaryOp .Not a pos) (cNot tA) := by
  obtain ⟨v, p, r⟩ := h
  exact ⟨_, pt_not p, fun B p0 H ps σT σ Q QV o h k => r B p0 H ps σT σ _ _ o h fun b H' s' q' => k _ H' s' q'⟩
theorem tw_pt (h : PWt X e tA) : PTt X e tA := by
  obtain ⟨v, p, r⟩ := h
  exact ⟨_, p.pt, r⟩
theorem tw_and1 (h : PTt X a tA) : PWt X (.BoolOp .And [a] pos) tA := by
  obtain ⟨v, p, r⟩ := h
  exact ⟨_, pw_and1 p, r⟩
theorem tw_or1 (h : PTt X a tA) : PWt X (.BoolOp .Or [a] pos) tA := by
  obtain ⟨v, p, r⟩ := h
  exact ⟨_, pw_or1 p, r⟩
theorem tw_and (ha : PTt X a tA) (hb : PWt X (.BoolOp .And (b :: rest) pos) tB') : PWt X (.BoolOp .And (a :: b :: rest) pos) (cAnd tA tB') := by
  obtain ⟨va, pa, ra⟩ := ha
  obtain ⟨vb, pb, rb⟩ := hb
  refine ⟨_, pw_and pa pb, fun B p0 H ps σT σ Q QV o h k => ra B p0 H ps σT σ _ _ o h fun c H1 s1 q1 => ?_⟩
  cases c with
  | true => exact rb B p0 H1 ps σT σ Q _ (o.grow s1) q1 fun b H' s' q' => k b H' (s1.trans s') q'
  | false => exact k _ H1 s1 q1
theorem tw_or (ha : PTt X a tA) (hb : PWt X (.BoolOp .Or (b :: rest) pos) tB') : PWt X (.BoolOp .Or (a :: b :: rest) pos) (cOr tA tB') := by
  obtain ⟨va, pa, ra⟩ := ha
  obtain ⟨vb, pb, rb⟩ := hb
  refine ⟨_, pw_or pa pb, fun B p0 H ps σT σ Q QV o h k => ra B p0 H ps σT σ _ _ o h fun c H1 s1 q1 => ?_⟩
  cases c with
  | true => exact k _ H1 s1 q1
  | false => exact rb B p0 H1 ps σT σ Q _ (o.grow s1) q1 fun b H' s' q' => k b H' (s1.trans s') q'
def eAnd (ta tb : ET) : ET := fun σ Q => ta σ fun x => match x with | .bool c => if c = true then tb σ Q else Q (.bool false) | _ => False
theorem et_one {op} (h : PEt X a ta) : PEt X (.BoolOp op [a] pos) ta := by
  obtain ⟨v, p, r⟩ := h
  exact ⟨_, pe_one p, r⟩
theorem et_and (ha : PEt X a ta) (hb : PEt X (.BoolOp .And (b :: rest) pos) tb) : PEt X (.BoolOp .And (a :: b :: rest) pos) (eAnd ta tb) := by
  obtain ⟨va, pa, ra⟩ := ha
  obtain ⟨vb, pb, rb⟩ := hb
  refine ⟨_, pe_and pa pb, fun B p0 H ps σT σ Q QV o h k => ra B p0 H ps σT σ _ _ o h fun d x H1 s1 r1 q1 => ?_⟩
  cases r1 with
  | bool c =>
    refine ⟨c, rfl, ?_⟩
    cases c with
    | true => exact rb B p0 H1 ps σT σ Q _ (o.grow s1) q1 fun d v H' s' r' q' => k d v H' (s1.trans s') r' q'
    | false => exact k _ _ H1 s1 (.bool false) q1
  | _ => exact q1.elim
end
end TL

set_option Elab.async false
set_option linter.all false
set_option maxRecDepth 100000
namespace TL
open PySem PySem.Spec PyProof.Rows L2
variable {K : PySem.W.Frag} {H H' H1 H2 : Hp} {B : Hp} {p0 ps : List Addr} {σT : List Sl} {σ : L2.St}
section
variable {X : Cx} {a b c e : Expr} {es : List Expr} {ta tb tc te : ET} {pos : Pos}
abbrev OT := List Sl → (Option Int → Prop) → Prop
def POt (X : Cx) (e : Option Expr) (t : OT) : Prop := ∃ to : TO, PO X e to ∧ ∀ (B : Hp) (p0 : List Addr) (H : Hp) (ps : List Addr) (σT : List Sl) (σ : L2.St) (Q : Option Int → Prop) (QV : Option Int → Hp → Prop), Ok X.K B p0 H ps σT σ → t σT Q →
  (∀ i H', Same H H' → Q i → QV i H') → to σ H QV
def oNone : OT := fun _ Q => Q none
def oSome (t : ET) : OT := fun σ Q => t σ fun x => match x with | .int i => Q (some i) | _ => False
theorem ot_none : POt X none oNone := ⟨_, po_none, fun _ _ H _ _ _ _ _ _ h k => k _ H (L2.Same.refl H) h⟩
theorem ot_some (h : PEt X e te) : POt X (some e) (oSome te) := by
  obtain ⟨v, p, r⟩ := h
  refine ⟨_, po_some p, fun B p0 H ps σT σ Q QV o h k => r B p0 H ps σT σ _ _ o h fun d x H1 s1 r1 q1 => ?_⟩
  cases r1 with
  | int i => exact ⟨i, rfl, k _ H1 s1 q1⟩
  | _ => exact q1.elim
def SlT (X : Cx) (r : V → Option Int → Option Int → Hp → VK → Prop) (f : D → Option Int → Option Int → (D → Prop) → Prop) : Prop := ∀ (H : Hp) (ps : List Addr) (d : D) (x : V) (lo hi : Option Int) (Q : D → Prop) (QV : VK), (∀ p ∈ ps, H p ≠ none) → Rep X.K (mask H ps) d x → f d lo hi Q →
  (∀ d v H', Same H H' → Rep X.K (mask H' ps) d v → Q d → QV v H') → r x lo hi H QV
def eSl (f : D → Option Int → Option Int → (D → Prop) → Prop) (t : ET) (tl th : OT) : ET := fun σ Q => t σ fun x => tl σ fun l => th σ fun u => f x l u Q
theorem et_slice {r : V → Option Int → Option Int → Hp → VK → Prop} {f : D → Option Int → Option Int → (D → Prop) → Prop} {lo hi : Option Expr} {tl th : OT} {p2 : Pos} (hr : SlR X r) (h2 : SlT X r f) (he : PEt X e te) (hl : POt X lo tl) (hu : POt X hi th) :
    PEt X (.Subscript e (.Slice lo hi none p2) pos) (eSl f te tl th) := by
  obtain ⟨ve, pe, re⟩ := he
  obtain ⟨vl, pl, rl⟩ := hl
  obtain ⟨vu, pu, ru⟩ := hu
  refine ⟨_, pe_slice hr pe pl pu, fun B p0 H ps σT σ Q QV o h k => re B p0 H ps σT σ _ _ o h fun d x H1 s1 r1 q1 => ?_⟩
  refine rl B p0 H1 ps σT σ _ _ (o.grow s1) q1 fun l H2 s2 q2 => ?_
  refine ru B p0 H2 ps σT σ _ _ ((o.grow s1).grow s2) q2 fun u H3 s3 q3 => ?_
  exact h2 H3 ps d x l u Q QV (((o.grow s1).grow s2).grow s3).live ((r1.same (mask_same s2)).same (mask_same s3)) q3 fun d v H' s' r' q' => k d v H' (s1.trans (s2.trans (s3.trans s'))) r' q'

variable {st : Stmt} {rest : List Stmt} {t u : STt}
def sNext : STt := fun DT σ => DT.nx σ
def sSeq (t u : STt) : STt := fun DT σ => t { DT with nx := u DT } σ
theorem st_nil : PSst X [] sNext := ⟨_, pss_nil, fun B p0 H ps σT σ DT DV o h f => f.nx H ps σT σ o (L2.Same.refl _) h⟩
theorem st_cons (h1 : PSt X st t) (h2 : PSst X rest u) : PSst X (st :: rest) (sSeq t u) := by
  obtain ⟨v1, p1, r1⟩ := h1
  obtain ⟨v2, p2, r2⟩ := h2
  refine ⟨_, pss_cons p1 p2, fun B p0 H ps σT σ DT DV o h f => r1 B p0 H ps σT σ { DT with nx := u DT } { DV with nx := v2 DV } o h ⟨fun H' ps' σT' σ' o' s' q' => ?_, f.bk, f.ct, f.rt, f.ro, f.rp, f.xb⟩⟩
  exact r2 B p0 H' ps' σT' σ' DT DV o' q' (f.later s')
theorem st_one (h1 : PSt X st t) : PSst X [st] t := by
  obtain ⟨v1, p1, r1⟩ := h1
  exact ⟨_, pss_one p1, r1⟩
def sShare (i : Nat) (t : STt) : STt := fun DT σ => ∃ ts, σ[i]? = some (.own ts) ∧ t DT (σ.set i (.val (.list ts)))
theorem st_share {sts : List Stmt} (i : Nat) (h : PSst X sts t) : PSst X sts (sShare i t) := by
  obtain ⟨v, p, r⟩ := h
  refine ⟨_, p, fun B p0 H ps σT σ DT DV o h f => ?_⟩
  obtain ⟨ts, e, h⟩ := h
  obtain ⟨ps', o', s'⟩ := o.share e
  exact r B p0 H ps' _ σ DT DV o' h (f.later s')
def sRet (te : ET) : STt := fun DT σ => te σ DT.rt
theorem st_ret (h : PEt X e te) : PSt X (.Return (some e) pos) (sRet te) := by
  obtain ⟨v, p, r⟩ := h
  refine ⟨_, ps_ret p, fun B p0 H ps σT σ DT DV o h f => r B p0 H ps σT σ _ _ o h fun d x H' s' r' q' => ?_⟩
  exact f.rt d x H' (o.base.trans s') (r'.same (mask_sub o.sub)) q'
def sIf (c : TTt) (t u : STt) : STt := fun DT σ => c σ fun b => if b = true then t DT σ else u DT σ
theorem st_if {c : Expr} {a b : List Stmt} {tc : TTt} (hc : PTt X c tc) (ha : PSst X a t) (hb : PSst X b u) : PSt X (.If c a b pos) (sIf tc t u) := by
  obtain ⟨vc, pc, rc⟩ := hc
  obtain ⟨va, pa, ra⟩ := ha
  obtain ⟨vb, pb, rb⟩ := hb
  refine ⟨_, ps_if pc pa pb, fun B p0 H ps σT σ DT DV o h f => rc B p0 H ps σT σ _ _ o h fun d H1 s1 q1 => ?_⟩
  cases d with
  | true => exact ra B p0 H1 ps σT σ DT DV (o.grow s1) q1 (f.later (mask_same s1))
  | false => exact rb B p0 H1 ps σT σ DT DV (o.grow s1) q1 (f.later (mask_same s1))
def sSet (i : Nat) (te : ET) : STt := fun DT σ => te σ fun d => DT.nx (σ.set i (.val d))
theorem st_set {i : Nat} {x : Str} {pos' : Pos} (h : PEt X e te) (ps' : ∀ {v : TE}, PE X e v → PS X (.Assign [.Name x pos'] e pos) (tAsg v (gName i))) : PSt X (.Assign [.Name x pos'] e pos) (sSet i te) := by
  obtain ⟨v, p, r⟩ := h
  refine ⟨_, ps' p, fun B p0 H ps σT σ DT DV o h f => r B p0 H ps σT σ _ _ o h fun d x H' s' r' q' => ?_⟩
  exact f.nx H' ps _ _ ((o.grow s').set r') (mask_same s') q'
def sOwn (i : Nat) (t : AT) : STt := fun DT σ => t σ fun ds => ds.length ≤ 1000 ∧ DT.nx (σ.set i (.own ds))
theorem st_own {i : Nat} {x : Str} {pos' p2 : Pos} {t : AT} (h : PAt X es t) (ps' : ∀ {v : TE}, PE X (.List es p2) v → PS X (.Assign [.Name x pos'] (.List es p2) pos) (tAsg v (gName i))) : PSt X (.Assign [.Name x pos'] (.List es p2) pos) (sOwn i t) := by
  obtain ⟨v, p, r⟩ := h
  refine ⟨_, ps' (pe_lst p), fun B p0 H ps σT σ DT DV o h f => r B p0 H ps σT σ _ _ o h fun ds xs H1 s1 r1 q1 => ⟨le_line (by rw [← r1.length]; exact q1.1), fun q hq => ?_⟩⟩
  exact f.nx _ (q :: ps) _ _ ((o.grow s1).setOwn hq r1) ((mask_same s1).trans (by rw [mask_new hq]; exact L2.Same.refl _)) q1.2
def sApp (i : Nat) (te : ET) : STt := fun DT σ => ∃ ts, σ[i]? = some (.own ts) ∧ te σ fun d => ts.length ≤ 100000 ∧ DT.nx (σ.set i (.own (ts ++ [d])))
theorem st_app {i : Nat} {n e : Expr} {te : ET} {ap cp : Pos} (hn : PE X n (tVar i)) (he : PEt X e te) (hs : starEach [e] X.env = (false, eval e X.env) :: starEach [] X.env := by rfl)
    (pb : ∀ {ta : TA}, PA X [e] ta → PS X (.Expr (.Call (.Attribute n "append" ap) [e] [] cp) pos) (tDrop (tBM X.K "list" rAppend (tVar i) ta))) : PSt X (.Expr (.Call (.Attribute n "append" ap) [e] [] cp) pos) (sApp i te) := by
  obtain ⟨v, p, r⟩ := he
  refine ⟨_, pb (pa_cons p pa_nil hs), fun B p0 H ps σT σ DT DV o h f => ?_⟩
  obtain ⟨ts, e, h⟩ := h
  obtain ⟨q, xs, h1, h2, h3, h4, h5, h6⟩ := o.own i ts e
  refine ⟨.ref q, h1, .inl ⟨rfl, xs, SqL.of h5⟩, r B p0 H ps σT σ _ _ o h fun d x H1 s1 r1 q1 => ?_⟩
  refine ⟨q, xs, x, rfl, rfl, s1 _ _ h5, ?_, ?_⟩
  · rw [← h6.length]
    have : sizeLine = 2 ^ 24 := rfl
    omega
  · have o1 := o.grow s1
    have hr : Reps X.K (mask H1 ps) (ts ++ [d]) (xs ++ [x]) := (h6.same (mask_same s1)).append (.cons r1 .nil)
    exact f.nx _ ps _ σ (o1.write (ys := xs ++ [x]) e h1 hr) ((mask_same s1).trans (by rw [mask_upd h2]; exact L2.Same.refl _)) q1.2

def signs (x : Str) : List D := x.cps.toList.map fun c => .str ⟨#[c]⟩
def itemsOf : D → Option (List D)
  | .list ts => some ts
  | .tuple ts => some ts
  | .str x => some (signs x)
  | _ => none
def noOwn (σ : List Sl) : Prop := ∀ (i : Nat) (s : Sl), (∀ d, s ≠ .val d) → s ≠ .un → σ[i]? ≠ some s
theorem noOwn_set {σ : List Sl} (h : noOwn σ) (i : Nat) (d : D) : noOwn (σ.set i (.val d)) := fun j s hv hu e => by
  by_cases z : i = j
  · subst z
    have hi : i < σ.length := by simpa using (List.getElem?_eq_some_iff.mp e).1
    rw [List.getElem?_set_self hi] at e; exact hv d (Option.some.inj e).symm
  · rw [List.getElem?_set_ne z] at e; exact h j s hv hu e
theorem noOwn.own {σ : List Sl} (h : noOwn σ) (i : Nat) (ts : List D) : σ[i]? ≠ some (.own ts) := h i _ (fun _ z => nomatch z) fun z => nomatch z
theorem noOwn.dic {σ : List Sl} (h : noOwn σ) (i : Nat) (hs : List Int) (kvs : List (D × D)) : σ[i]? ≠ some (.dic hs kvs) := h i _ (fun _ z => nomatch z) fun z => nomatch z
abbrev GT := D → List Sl → (List Sl → Prop) → Prop
def PGt (X : Cx) (tg : Expr) (g : GT) : Prop := ∃ gv : TG, PG X tg gv ∧ ∀ (B : Hp) (p0 : List Addr) (H : Hp) (ps : List Addr) (σT : List Sl) (σ : L2.St) (d : D) (v : V) (Q : List Sl → Prop) (QV : L2.St → Hp → Prop), Ok X.K B p0 H ps σT σ → Rep X.K (mask H ps) d v → g d σT Q →
  (∀ σT' σ', Ok X.K B p0 H ps σT' σ' → (noOwn σT → noOwn σT') → Q σT' → QV σ' H) → gv v σ H QV
def gN (i : Nat) : GT := fun d σ Q => Q (σ.set i (.val d))
theorem gt_name {i : Nat} {x : Str} {p : Pos} (h : PG X (.Name x p) (gName i)) : PGt X (.Name x p) (gN i) :=
  ⟨_, h, fun B p0 H ps σT σ d v Q QV o r h k => k _ _ (o.set r) (fun n => noOwn_set n _ _) h⟩
def gP (i j : Nat) : GT := fun d σ Q => ∃ a b, d = .tuple [a, b] ∧ Q ((σ.set i (.val a)).set j (.val b))
theorem gt_pair {i j : Nat} {t : Expr} (h : PG X t (gTup X.K 2 (gCons (gName i) (gCons (gName j) gNil)))) : PGt X t (gP i j) :=
  ⟨_, h, fun B p0 H ps σT σ d v Q QV o r h k => by
    obtain ⟨a, b, rfl, h⟩ := h
    cases r with
    | @tuple p xs _ hq r =>
      cases r with
      | cons ra r =>
        cases r with
        | cons rb r =>
          cases r
          exact ⟨_, _, rfl, Same.seqT mask_le hq, rfl, _, _, rfl, _, _, rfl, rfl, k _ _ ((o.set ra).set rb) (fun n => noOwn_set (noOwn_set n _ _) _ _) h⟩⟩
structure Runs (K : PySem.W.Frag) (Hs : Hp) (ts : List D) (J : It) : Prop where
  stop : ∀ (i : Nat) (H : Hp), Same Hs H → ts.length ≤ i → J.stop i H
  go : ∀ (i : Nat) (H : Hp), Same Hs H → i < ts.length → J.go i H
  yld : ∀ (i : Nat) (H : Hp) (ps : List Addr) (y : V) (H' : Hp), (∀ p ∈ ps, H p ≠ none) → Same Hs (mask H ps) → i < ts.length → J.yld i H y H' → Same H H' ∧ ∃ dx, ts[i]? = some dx ∧ Rep K (mask H' ps) dx y
abbrev IT := List Sl → (List D → Prop) → Prop
def PIt (X : Cx) (tg iter : Expr) (t : IT) : Prop := ∃ wi : TI, PI X tg iter wi ∧ ∀ (B : Hp) (p0 : List Addr) (H : Hp) (ps : List Addr) (σT : List Sl) (σ : L2.St) (Q : List D → Prop) (R : It → Hp → Prop), Ok X.K B p0 H ps σT σ → t σT Q →
  (∀ ts J H', Same H H' → Runs X.K (mask H' ps) ts J → Q ts → R J H') → wi σ H R
def iVal (te : ET) : IT := fun σ Q => te σ fun d => ∃ ts, itemsOf d = some ts ∧ Q ts
theorem runs_of {x : V} {d : D} {ts : List D} {Hs : Hp} (r : Rep K Hs d x) (hi : itemsOf d = some ts) {R : It → Hp → Prop} (hs : Same Hs H1) (h : ∀ J : It, Runs K Hs ts J → R J H1) :
    (∃ a, x = .ref a ∧ (∃ xs, SqL K H1 a xs) ∧ R (Itl K a) H1) ∨ (∃ a, x = .ref a ∧ (∃ xs, SqT K H1 a xs) ∧ R (Itt K a) H1) ∨ ∃ z, x = .str z ∧ R (Its z) H1 := by
  cases r with
  | @list p xs us q rs =>
    obtain rfl : us = ts := Option.some.inj hi
    refine .inl ⟨p, rfl, ⟨xs, L2.Same.seq hs q⟩, h _ ⟨fun i H e hl => ⟨xs, L2.Same.seq e q, by rw [← rs.length]; exact hl⟩, fun i H e hl => ?_, fun i H ps y H' _ e hl hy => ?_⟩⟩
    · obtain ⟨v, hv, _⟩ := rs.get (List.getElem?_eq_getElem hl)
      exact ⟨xs, v, L2.Same.seq e q, hv⟩
    · obtain ⟨rfl, hy⟩ := hy
      obtain ⟨dx, h1, h2⟩ := rs.get' (hy xs (L2.Same.seq (e.trans mask_le) q))
      exact ⟨L2.Same.refl _, dx, h1, h2.same e⟩
  | @tuple p xs us q rs =>
    obtain rfl : us = ts := Option.some.inj hi
    refine .inr (.inl ⟨p, rfl, ⟨xs, Same.seqT hs q⟩, h _ ⟨fun i H e hl => ⟨xs, Same.seqT e q, by rw [← rs.length]; exact hl⟩, fun i H e hl => ?_, fun i H ps y H' _ e hl hy => ?_⟩⟩)
    · obtain ⟨v, hv, _⟩ := rs.get (List.getElem?_eq_getElem hl)
      exact ⟨xs, v, Same.seqT e q, hv⟩
    · obtain ⟨rfl, hy⟩ := hy
      obtain ⟨dx, h1, h2⟩ := rs.get' (hy xs (Same.seqT (e.trans mask_le) q))
      exact ⟨L2.Same.refl _, dx, h1, h2.same e⟩
  | str z =>
    obtain rfl : signs z = ts := Option.some.inj hi
    have hl : (signs z).length = z.cps.size := by unfold signs; simp
    refine .inr (.inr ⟨z, rfl, h _ ⟨fun i H _ e => by rw [hl] at e; exact e, fun i H _ e => by rw [hl] at e; exact e, fun i H ps y H' _ _ e hy => ?_⟩⟩)
    obtain ⟨rfl, c, h2, rfl⟩ := hy
    refine ⟨L2.Same.refl _, .str ⟨#[c]⟩, ?_, .str _⟩
    unfold signs
    rw [List.getElem?_map]
    have : z.cps.toList[i]? = some c := by simpa using h2
    rw [this]; rfl
  | _ => cases hi
theorem it_val {tg : Expr} (he : PEt X e te) : PIt X tg e (iVal te) := by
  obtain ⟨ve, pe, re⟩ := he
  refine ⟨_, pi_any pe, fun B p0 H ps σT σ Q R o h k => re B p0 H ps σT σ _ _ o h fun d x H1 s1 r1 q1 => ?_⟩
  obtain ⟨ts, hi, q⟩ := q1
  exact runs_of r1 hi mask_le fun J rj => k ts J H1 s1 rj q
def intsTo (n : Nat) : List D := (List.range n).map fun (k : Nat) => PyData.int (k : Int)
def iRange (t : AT) : IT := fun σ Q => t σ fun ds => ∃ n : Int, ds = [.int n] ∧ -(2 ^ 62) ≤ n ∧ n < 2 ^ 62 ∧ Q (intsTo n.toNat)
theorem it_range {tg e : Expr} {t : AT} {p p' : Pos} (ha : PAt X [e] t) (pr : ∀ {ta : TA}, PA X [e] ta → PI X tg (.Call (.Name "range" p) [e] [] p') (iRng1 ta)) : PIt X tg (.Call (.Name "range" p) [e] [] p') (iRange t) := by
  obtain ⟨va, pa, ra⟩ := ha
  refine ⟨_, pr pa, fun B p0 H ps σT σ Q R o h k => ra B p0 H ps σT σ _ _ o h fun ds xs H1 s1 r1 q1 => ?_⟩
  obtain ⟨n, rfl, h1, h2, q⟩ := q1
  cases r1 with
  | cons r1 r2 =>
    cases r2
    cases r1
    refine ⟨n, rfl, h1, h2, k (intsTo n.toNat) _ H1 s1 ?_ q⟩
    have hl : (intsTo n.toNat).length = n.toNat := by unfold intsTo; simp
    refine ⟨fun i H _ e => by rw [hl] at e; exact e, fun i H _ e => by rw [hl] at e; exact e, fun i H ps y H' _ _ e hy => ?_⟩
    obtain ⟨rfl, rfl⟩ := hy
    have ei : (0 : Int) + (i : Int) = (i : Int) := by omega
    rw [ei]
    rw [hl] at e
    refine ⟨L2.Same.refl _, .int i, ?_, .int _⟩
    unfold intsTo
    rw [List.getElem?_map, List.getElem?_range e]; rfl
def sFor (ti : IT) (g : GT) (tb : STt) : STt := fun DT σ => ti σ fun ts => ∃ P : Nat → List Sl → Prop, P 0 σ ∧
  (∀ (k : Nat) (x : D) (σ' : List Sl), ts[k]? = some x → P k σ' → g x σ' fun σ2 => tb { DT with nx := P (k + 1), ct := P (k + 1), bk := DT.nx } σ2) ∧ ∀ σ', P ts.length σ' → DT.nx σ'
theorem st_for {tg iter : Expr} {body : List Stmt} {g : GT} {tb : STt} {ti : IT} (he : PIt X tg iter ti) (hg : PGt X tg g) (hb : PSst X body tb)
    (pf : ∀ {wi : TI} {gv : TG} {bv : TS}, PI X tg iter wi → PG X tg gv → PSs X body bv → PS X (.For tg iter body [] pos) (tFor wi gv bv)) : PSt X (.For tg iter body [] pos) (sFor ti g tb) := by
  obtain ⟨ve, pe, re⟩ := he
  obtain ⟨gv, pg, rg⟩ := hg
  obtain ⟨vb, pb, rb⟩ := hb
  refine ⟨_, pf pe pg pb, fun B p0 H ps σT σ DT DV o h f => re B p0 H ps σT σ _ _ o h fun ts J H1 s1 rj q1 => ?_⟩
  obtain ⟨P, h0, hs, hd⟩ := q1
  refine ⟨fun i m σ' H' => m = ts.length - i ∧ i ≤ ts.length ∧ ∃ ps' σT', Ok X.K B p0 H' ps' σT' σ' ∧ Same (mask H1 ps) (mask H' ps') ∧ P i σT', ⟨_, rfl, Nat.zero_le _, ps, σT, o.grow s1, L2.Same.refl _, h0⟩, ?_⟩
  rintro i m σ' H' ⟨rfl, hle, ps', σT', o', s', p'⟩
  have sH : Same (mask H1 ps) H' := s'.trans mask_le
  have f' : Fits X.K B p0 H' ps' DT DV := f.later ((mask_same s1).trans s')
  by_cases hlt : i < ts.length
  · refine .inr ⟨rj.go i H' sH hlt, fun σ2 H2 => ∃ ps2 σT2, Ok X.K B p0 H2 ps2 σT2 σ2 ∧ Same (mask H1 ps) (mask H2 ps2) ∧ P (i + 1) σT2, fun σ2 H2 z => ⟨ts.length - (i + 1), by omega, rfl, hlt, z⟩, fun y H2 hy' => ?_⟩
    obtain ⟨s2, dx, hx, rx⟩ := rj.yld i H' ps' y H2 o'.live s' hlt hy'
    have f2 := f'.later (mask_same (ps := ps') s2)
    have s'' : Same (mask H1 ps) (mask H2 ps') := s'.trans (mask_same s2)
    refine rg B p0 H2 ps' σT' σ' dx y _ _ (o'.grow s2) rx (hs i dx σT' hx p') fun σT3 σ3 o3 _ q3 => ?_
    exact rb B p0 H2 ps' σT3 σ3 _ _ o3 q3 ⟨fun H4 ps4 σT4 σ4 o4 s4 q4 => ⟨ps4, σT4, o4, s''.trans s4, q4⟩, fun H4 ps4 σT4 σ4 o4 s4 q4 => f2.nx H4 ps4 σT4 σ4 o4 s4 q4, fun H4 ps4 σT4 σ4 o4 s4 q4 => ⟨ps4, σT4, o4, s''.trans s4, q4⟩, f2.rt, f2.ro, f2.rp, f2.xb⟩
  · obtain rfl : i = ts.length := by omega
    exact .inl ⟨rj.stop _ H' sH (Nat.le_refl _), f'.nx H' ps' σT' σ' o' (L2.Same.refl _) (hd σT' p')⟩

def blkSl (σ : List Sl) : Option Nat → Sl
  | none => .un
  | some j => match σ[j]? with | some (.val d) => .val d | _ => .un
def inBlkT (fr : List (Option Nat)) (σ : List Sl) : List Sl := fr.map (blkSl σ)
theorem blkSl_val {σ : List Sl} {q : Option Nat} {d : D} (h : blkSl σ q = .val d) : ∃ j, q = some j ∧ σ[j]? = some (.val d) := by
  cases q with
  | none => cases h
  | some j =>
    refine ⟨j, rfl, ?_⟩
    unfold blkSl at h
    dsimp only at h
    split at h
    · next e => cases h; exact e
    · cases h
theorem blkSl_own {σ : List Sl} {q : Option Nat} {s : Sl} (hv : ∀ d, s ≠ .val d) (hu : s ≠ .un) : blkSl σ q ≠ s := fun h => by
  cases q with
  | none => exact hu h.symm
  | some j =>
    unfold blkSl at h
    dsimp only at h
    split at h
    · exact hv _ h.symm
    · exact hu h.symm
theorem noOwn_blk (fr : List (Option Nat)) (σ : List Sl) : noOwn (inBlkT fr σ) := fun i s hv hu h => by
  unfold inBlkT at h
  rw [List.getElem?_map] at h
  cases hf : fr[i]? with
  | none => rw [hf] at h; cases h
  | some q =>
    rw [hf] at h
    exact blkSl_own hv hu (Option.some.inj h)
theorem Ok.blk (o : Ok K B p0 H ps σT σ) (fr : List (Option Nat)) : Ok K B p0 H ps (inBlkT fr σT) (inBlk fr σ) where
  base := o.base
  sub := o.sub
  live := o.live
  len := by unfold inBlkT inBlk; simp
  val := fun i d h => by
    unfold inBlkT at h
    rw [List.getElem?_map] at h
    cases hf : fr[i]? with
    | none => rw [hf] at h; cases h
    | some q =>
      rw [hf] at h
      obtain ⟨j, rfl, e⟩ := blkSl_val (Option.some.inj h)
      obtain ⟨v, h1, h2⟩ := o.val j d e
      refine ⟨v, ?_, h2⟩
      unfold inBlk
      rw [List.getElem?_map, hf]
      simp [h1]
  own := fun i ts h => absurd h ((noOwn_blk fr σT).own i ts)
  dis := fun i j ts us p h => absurd h ((noOwn_blk fr σT).own i ts)
  dc := fun i hs kvs h => absurd h ((noOwn_blk fr σT).dic i hs kvs)
theorem Ok.adopt (o : Ok K B p0 H ps σT σ) {p : Addr} {u : HO} (hp : H p = none) : Ok K B p0 (upd H p u) (p :: ps) σT σ := by
  have hm : mask (upd H p u) (p :: ps) = mask H ps := mask_new hp
  refine ⟨o.base.trans (same_new hp), fun q hq => List.mem_cons_of_mem _ (o.sub q hq), fun q hq => ?_, o.len, fun i d h => by rw [hm]; exact o.val i d h, fun i ts h => ?_, o.dis, o.dc.to (fun j hs kvs h => ⟨h, rfl⟩) (fun q φ a b _ => ⟨List.mem_cons_of_mem _ a, upd_ne fun z => by rw [z, hp] at b; cases b⟩) (fun q φ _ _ a b => ⟨a, b⟩) (by rw [hm]; exact L2.Same.refl _)⟩
  · by_cases e : q = p
    · subst e; rw [upd_same]; simp
    · rw [upd_ne e]
      rcases List.mem_cons.mp hq with z | z
      · exact absurd z e
      · exact o.live q z
  · rw [hm]
    obtain ⟨q, xs, h1, h2, h3, h4, h5, h6⟩ := o.own i ts h
    exact ⟨q, xs, h1, List.mem_cons_of_mem _ h2, h3, h4, by rw [upd_ne fun z => by rw [z, hp] at h5; cases h5]; exact h5, h6⟩
theorem Ok.aside (o : Ok K B p0 H ps σT σ) {q : Addr} {u : HO} (hp : q ∈ ps) (hB : B q = none) (hn : noOwn σT) : Ok K B p0 (upd H q u) ps σT σ where
  base := fun b w e => by
    rw [upd_ne fun z => by rw [z, hB] at e; cases e]
    exact o.base b w e
  sub := o.sub
  live := fun p hp' => by
    by_cases e : p = q
    · subst e; rw [upd_same]; simp
    · rw [upd_ne e]; exact o.live p hp'
  len := o.len
  val := fun i d h => by rw [mask_upd hp]; exact o.val i d h
  own := fun i ts h => absurd h (hn.own i ts)
  dis := fun i j ts us p h => absurd h (hn.own i ts)
  dc := fun i hs kvs h => absurd h (hn.dic i hs kvs)
def PIft (X : Cx) (ifs : List Expr) (t : TTt) : Prop := ∃ tt : TT, PIf X ifs tt ∧ ∀ (B : Hp) (p0 : List Addr) (H : Hp) (ps : List Addr) (σT : List Sl) (σ : L2.St) (Q : Bool → Prop) (QV : Bool → Hp → Prop), Ok X.K B p0 H ps σT σ → t σT Q →
  (∀ b H', Same H H' → Q b → QV b H') → tt σ H QV
def cTrue : TTt := fun _ Q => Q true
theorem if_nil : PIft X [] cTrue := ⟨_, pif_nil, fun _ _ H _ _ _ _ _ _ h k => k _ H (L2.Same.refl H) h⟩
theorem if_one {t : TTt} (h : PTt X e t) : PIft X [e] t := by
  obtain ⟨v, p, r⟩ := h
  exact ⟨_, pif_one p, r⟩
def eLc (fr : List (Option Nat)) (ti : IT) (g : GT) (tt : TTt) (te : ET) : ET := fun σ Q => ti σ fun ts => ts.length ≤ 100000 ∧ ∃ P : Nat → List Sl → List D → Prop, P 0 (inBlkT fr σ) [] ∧
  (∀ (k : Nat) (x : D) (σ' : List Sl) (ds : List D), ts[k]? = some x → P k σ' ds → g x σ' fun σ2 => tt σ2 fun b => if b = true then te σ2 fun y => P (k + 1) σ2 (ds ++ [y]) else P (k + 1) σ2 ds) ∧ ∀ σ' ds, P ts.length σ' ds → Q (.list ds)
theorem lc_read {fr : List (Option Nat)} {ti : IT} {g : GT} {tt : TTt} {te : ET} {wi : TI} {gv : BP → TG} {vt : BP → TT} {ve : BP → TE}
    (ri : ∀ (B : Hp) (p0 : List Addr) (H : Hp) (ps : List Addr) (σT : List Sl) (σ : L2.St) (Q : List D → Prop) (R : It → Hp → Prop), Ok X.K B p0 H ps σT σ → ti σT Q → (∀ ts J H', Same H H' → Runs X.K (mask H' ps) ts J → Q ts → R J H') → wi σ H R)
    (rg : ∀ (bp : BP) (B : Hp) (p0 : List Addr) (H : Hp) (ps : List Addr) (σT : List Sl) (σ : L2.St) (d : D) (v : V) (Q : List Sl → Prop) (QV : L2.St → Hp → Prop), Ok X.K B p0 H ps σT σ → Rep X.K (mask H ps) d v → g d σT Q → (∀ σT' σ', Ok X.K B p0 H ps σT' σ' → (noOwn σT → noOwn σT') → Q σT' → QV σ' H) → gv bp v σ H QV)
    (rt : ∀ (bp : BP) (B : Hp) (p0 : List Addr) (H : Hp) (ps : List Addr) (σT : List Sl) (σ : L2.St) (Q : Bool → Prop) (QV : Bool → Hp → Prop), Ok X.K B p0 H ps σT σ → tt σT Q → (∀ b H', Same H H' → Q b → QV b H') → vt bp σ H QV)
    (re : ∀ (bp : BP) (B : Hp) (p0 : List Addr) (H : Hp) (ps : List Addr) (σT : List Sl) (σ : L2.St) (Q : D → Prop) (QV : VK), Ok X.K B p0 H ps σT σ → te σT Q → (∀ d v H', Same H H' → Rep X.K (mask H' ps) d v → Q d → QV v H') → ve bp σ H QV)
    (B : Hp) (p0 : List Addr) (H : Hp) (ps : List Addr) (σT : List Sl) (σ : L2.St) (Q : D → Prop) (QV : VK) (o : Ok X.K B p0 H ps σT σ) (h : eLc fr ti g tt te σT Q) (k : ∀ d v H', Same H H' → Rep X.K (mask H' ps) d v → Q d → QV v H') : tLc fr wi gv vt ve σ H QV := by
  refine ri B p0 H ps σT σ _ _ o h fun ts J H1 s1 rj q1 => ?_
  obtain ⟨hz, P, h0, hs, hd⟩ := q1
  intro bp acc hacc
  have hBacc : B acc = none := by
    cases q : B acc with
    | none => rfl
    | some u => rw [(o.grow s1).base acc u q] at hacc; cases hacc
  have hnps : acc ∉ ps := fresh_notin (o.grow s1).live hacc
  refine ⟨fun i m σ' H' => m = ts.length - i ∧ i ≤ ts.length ∧ ∃ σT' ds ys, Ok X.K B p0 H' (acc :: ps) σT' σ' ∧ noOwn σT' ∧ H' acc = some (.lst ys) ∧ ds.length ≤ i ∧ Reps X.K (mask H' (acc :: ps)) ds ys ∧ Same (mask H1 ps) (mask H' (acc :: ps)) ∧ Same H1 H' ∧ P i σT' ds,
    ⟨_, rfl, Nat.zero_le _, inBlkT fr σT, [], [], ((o.grow s1).blk fr).adopt hacc, noOwn_blk fr σT, upd_same, Nat.le_refl _, .nil, by rw [mask_new hacc]; exact L2.Same.refl _, same_new hacc, h0⟩, ?_⟩
  rintro i m σ' H' ⟨rfl, hle, σT', ds, ys, o', n', ha, hl, hr, s', sF, p'⟩
  have hL : sizeLine = 2 ^ 24 := rfl
  by_cases hlt : i < ts.length
  · refine .inr ⟨rj.go i H' (s'.trans mask_le) hlt, fun y H2 hy => ?_⟩
    obtain ⟨s2, dx, hx, rx⟩ := rj.yld i H' (acc :: ps) y H2 o'.live s' hlt hy
    refine rg bp B p0 H2 (acc :: ps) σT' σ' dx y _ _ (o'.grow s2) rx (hs i dx σT' ds hx p') fun σT3 σ3 o3 n3 q3 => ?_
    refine rt bp B p0 H2 (acc :: ps) σT3 σ3 _ _ o3 q3 fun b H4 s4 q4 => ?_
    have s24 := s2.trans s4
    cases b with
    | false =>
      exact ⟨ts.length - (i + 1), by omega, rfl, hlt, σT3, ds, ys, o3.grow s4, n3 n', s24 _ _ ha, by omega, hr.same (mask_same s24), s'.trans (mask_same s24), sF.trans s24, q4⟩
    | true =>
      refine re bp B p0 H4 (acc :: ps) σT3 σ3 _ _ (o3.grow s4) q4 fun d v H5 s5 r5 q5 => ?_
      have s25 := s24.trans s5
      have hm : mask (upd H5 acc (.lst (ys ++ [v]))) (acc :: ps) = mask H5 (acc :: ps) := mask_upd (List.mem_cons_self ..)
      refine ⟨ys, s25 _ _ ha, by rw [← hr.length]; omega, ts.length - (i + 1), by omega, rfl, hlt, σT3, ds ++ [d], ys ++ [v], ((o3.grow s4).grow s5).aside (List.mem_cons_self ..) hBacc (n3 n'), n3 n', upd_same, by rw [List.length_append, List.length_singleton]; omega, ?_, ?_, ?_, q5⟩
      · rw [hm]; exact (hr.same (mask_same s25)).append (.cons r5 .nil)
      · rw [hm]; exact s'.trans (mask_same s25)
      · intro b u e
        have ne : b ≠ acc := fun z => by rw [z, hacc] at e; cases e
        rw [upd_ne ne]; exact (sF.trans s25) b u e
  · obtain rfl : i = ts.length := by omega
    refine .inl ⟨rj.stop _ H' (s'.trans mask_le) (Nat.le_refl _), k (.list ds) _ H' (s1.trans sF) (.list (SqL.of (mask_at hnps ha)) (hr.same (mask_sub fun p hp => List.mem_cons_of_mem _ hp))) (hd σT' ds p')⟩
theorem lc_all {elt iter tg : Expr} {ifs : List Expr} {scope : Scope} {fr : List (Option Nat)} {N' : List Str} {ti : IT} {g : GT} {tt : TTt} {te : ET} (hi : PIt X tg iter ti)
    (hY : ∀ b : BP, PGt (blk X scope N' b) tg g ∧ PIft (blk X scope N' b) ifs tt ∧ PEt (blk X scope N' b) elt te) {M : (TE) → Prop}
    (fin : ∀ {wi : TI} {gv : BP → TG} {vt : BP → TT} {ve : BP → TE}, PI X tg iter wi → (∀ b : BP, PG (blk X scope N' b) tg (gv b) ∧ PIf (blk X scope N' b) ifs (vt b) ∧ PE (blk X scope N' b) elt (ve b)) → M (tLc fr wi gv vt ve)) :
    ∃ v : TE, M v ∧ ∀ (B : Hp) (p0 : List Addr) (H : Hp) (ps : List Addr) (σT : List Sl) (σ : L2.St) (Q : D → Prop) (QV : VK), Ok X.K B p0 H ps σT σ → eLc fr ti g tt te σT Q →
      (∀ d v H', Same H H' → Rep X.K (mask H' ps) d v → Q d → QV v H') → v σ H QV := by
  obtain ⟨wi, pi, ri⟩ := hi
  refine ⟨_, fin (gv := fun b => Classical.choose (hY b).1) (vt := fun b => Classical.choose (hY b).2.1) (ve := fun b => Classical.choose (hY b).2.2) pi fun b => ⟨(Classical.choose_spec (hY b).1).1, (Classical.choose_spec (hY b).2.1).1, (Classical.choose_spec (hY b).2.2).1⟩, ?_⟩
  exact lc_read ri (fun b => (Classical.choose_spec (hY b).1).2) (fun b => (Classical.choose_spec (hY b).2.1).2) fun b => (Classical.choose_spec (hY b).2.2).2
theorem et_lc {elt iter tg : Expr} {ifs : List Expr} {scope : Scope} {fr : List (Option Nat)} {N' : List Str} {ti : IT} {g : GT} {tt : TTt} {te : ET} (hi : PIt X tg iter ti)
    (hY : ∀ b : BP, PGt (blk X scope N' b) tg g ∧ PIft (blk X scope N' b) ifs tt ∧ PEt (blk X scope N' b) elt te)
    (pl : ∀ {wi : TI} {gv : BP → TG} {vt : BP → TT} {ve : BP → TE}, PI X tg iter wi → (∀ b : BP, PG (blk X scope N' b) tg (gv b) ∧ PIf (blk X scope N' b) ifs (vt b) ∧ PE (blk X scope N' b) elt (ve b)) → PE X (.ListComp elt [⟨tg, iter, ifs, 0⟩] scope pos) (tLc fr wi gv vt ve)) :
    PEt X (.ListComp elt [⟨tg, iter, ifs, 0⟩] scope pos) (eLc fr ti g tt te) := lc_all hi hY pl
theorem st_setlc {i : Nat} {x : Str} {px spos : Pos} {elt iter tg : Expr} {ifs : List Expr} {scope : Scope} {fr : List (Option Nat)} {N' : List Str} {ti : IT} {g : GT} {tt : TTt} {te : ET} (hi : PIt X tg iter ti)
    (hY : ∀ b : BP, PGt (blk X scope N' b) tg g ∧ PIft (blk X scope N' b) ifs tt ∧ PEt (blk X scope N' b) elt te)
    (pl : ∀ {wi : TI} {gv : BP → TG} {vt : BP → TT} {ve : BP → TE}, PI X tg iter wi → (∀ b : BP, PG (blk X scope N' b) tg (gv b) ∧ PIf (blk X scope N' b) ifs (vt b) ∧ PE (blk X scope N' b) elt (ve b)) →
      PS X (.Assign [.Name x px] (.ListComp elt [⟨tg, iter, ifs, 0⟩] scope pos) spos) (tAsg (tLc fr wi gv vt ve) (gName i))) :
    PSt X (.Assign [.Name x px] (.ListComp elt [⟨tg, iter, ifs, 0⟩] scope pos) spos) (sSet i (eLc fr ti g tt te)) := by
  obtain ⟨v, p, r⟩ := lc_all (M := fun v => PS X (.Assign [.Name x px] (.ListComp elt [⟨tg, iter, ifs, 0⟩] scope pos) spos) (tAsg v (gName i))) (fr := fr) hi hY pl
  refine ⟨_, p, fun B p0 H ps σT σ DT DV o h f => r B p0 H ps σT σ _ _ o h fun d x H' s' r' q' => ?_⟩
  exact f.nx H' ps _ _ ((o.grow s').set r') (mask_same s') q'

def startT (N : List Str) (ds : List D) : List Sl := ds.map Sl.val ++ List.replicate (N.length - ds.length) .un
theorem ok_start {N : List Str} {ds : List D} {vs : List V} (live : ∀ p ∈ ps, H p ≠ none) (r : Reps K (mask H ps) ds vs) : Ok K H ps H ps (startT N ds) (L2.start N vs) := by
  have hl := r.length
  refine ⟨L2.Same.refl _, fun _ h => h, live, ?_, fun i d h => ?_, fun i ts h => ?_, fun i j ts us p h => ?_, fun i hs kvs h => ?_⟩
  · unfold startT L2.start; simp [hl]
  · unfold startT at h
    by_cases hi : i < ds.length
    · rw [List.getElem?_append_left (by simpa using hi), List.getElem?_map] at h
      cases hd : ds[i]? with
      | none => rw [hd] at h; cases h
      | some d' =>
        rw [hd] at h
        cases h
        obtain ⟨v, h1, h2⟩ := r.get hd
        refine ⟨v, ?_, h2⟩
        unfold L2.start
        rw [List.getElem?_append_left (by rw [List.length_map, ← hl]; exact hi), List.getElem?_map, h1]; rfl
    · rw [List.getElem?_append_right (by simpa using hi), List.getElem?_replicate] at h
      split at h <;> cases h
  · unfold startT at h
    by_cases hi : i < ds.length
    · rw [List.getElem?_append_left (by simpa using hi), List.getElem?_map] at h
      cases hd : ds[i]? with
      | none => rw [hd] at h; cases h
      | some d' => rw [hd] at h; cases h
    · rw [List.getElem?_append_right (by simpa using hi), List.getElem?_replicate] at h
      split at h <;> cases h
  · unfold startT at h
    by_cases hi : i < ds.length
    · rw [List.getElem?_append_left (by simpa using hi), List.getElem?_map] at h
      cases hd : ds[i]? with
      | none => rw [hd] at h; cases h
      | some d' => rw [hd] at h; cases h
    · rw [List.getElem?_append_right (by simpa using hi), List.getElem?_replicate] at h
      split at h <;> cases h
  · unfold startT at h
    by_cases hi : i < ds.length
    · rw [List.getElem?_append_left (by simpa using hi), List.getElem?_map] at h
      cases hd : ds[i]? with
      | none => rw [hd] at h; cases h
      | some d' => rw [hd] at h; cases h
    · rw [List.getElem?_append_right (by simpa using hi), List.getElem?_replicate] at h
      split at h <;> cases h
theorem fnT {P : Program} {w : World} {mg : Str → Option Value} {base : Heap} {x qual : Str} {st : Stmt} {f : Addr} {fd : FuncData} {N pn : List Str} {k : Nat} {sp : SpT} (F : Fun K x qual st f fd) (S : FnScope N pn (defScope st)) (len : ∀ ds Q, sp ds Q → ds.length = pn.length)
    (hbody : ∀ (cdv : Value) (A : Around) (outer : List Env) (s : Shared) (H : Hp) (E : XK), Room k (A.deeper (envOfC qual (defScope st) s.heap.objs.size f cdv)) → ∀ (ds : List D) (Q : D → Prop), sp ds Q →
      ∃ t, PSst (cxOf CX0 P w K mg base N qual (defScope st) f cdv A outer s H E).nox (defBody st) t ∧ t { nx := fun _ => Q .none, rt := Q } (startT N ds)) : FnOk P w K mg base CX0 (k + 1) f fd pn (liftSp K sp) := by
  refine F.ok S (fun vs H Q E h => ?_) fun cdv A outer s H vs Q E hr h => ?_
  · obtain ⟨ps, ds, QD, _, r, q, _⟩ := h
    rw [← r.length]; exact len ds QD q
  · obtain ⟨ps, ds, QD, live, r, q, k⟩ := h
    obtain ⟨t, ⟨ts, p, rd⟩, h⟩ := hbody cdv A outer s H E hr ds QD q
    refine ⟨ts, p, rd H ps H ps _ _ _ _ (ok_start live r) h ⟨fun H' ps' σT' σ' o' s' q' => ?_, fun _ _ _ _ _ _ q' => q'.elim, fun _ _ _ _ _ _ q' => q'.elim, fun d v H' s' r' q' => k d v H' s' r' q', fun _ _ _ _ _ _ _ _ _ q' => q'.elim, fun _ _ _ _ _ _ _ _ _ _ _ _ _ _ _ _ _ _ q' => q'.elim, True.intro⟩⟩
    exact k _ _ H' o'.base .none q'
end
end TL

set_option Elab.async false
set_option linter.all false
set_option maxRecDepth 100000
namespace HT
open PySem PySem.Spec PyProof.Rows
section
variable {prog : Program} {w : World} {A : Around} {E : Value → Shared → Prop} {s : Shared}
theorem getItem_tuple_all {t sl : Addr} {items : Array Value} {vl vu : Value} {lo hi : Option Int} {Q : Value → Shared → Prop} (ht : IsTup s.heap t items) (hs : s.heap.IsSliceOf sl vl vu .none) (pl : IsPart vl lo) (pu : IsPart vu hi)
    (hw : sIx items.size 0 lo = 0 ∧ sIx items.size items.size hi = items.size) (h : Q (.ref t) s) : wpAny (model prog w) A (getItem (.ref t) (.ref sl)) Q E s := by
  obtain ⟨os, hos, hcs, hds⟩ := id hs
  have hTs : s.TypeIs (.ref sl) "slice" := ⟨os, hos, hcs⟩
  unfold getItem
  try with_reducible refine wpAny_holding ?_
  first | refine wpAny_bind (wpAny_pure ?_) | skip
  refine wpAny_bind (wpAny_sequenceKey ht.typeIs (by decide) ?_)
  refine wpAny_bind (wpAny_callSpecial?_slot (name := Str.ofString "__getitem__") ht.typeIs PyProof.Rows.slot_tuple_getitem
    (wpAny_call_entry PyProof.Rows.slot_tuple_getitem ht.typeIs entry_tuple_getitem ?_ (args_tuple_getitem _ _)))
  show wpAny _ _ (Builtin.Tuple.tupleItemsOf (.ref t) >>= _) _ _ s
  refine wpAny_bind (tupleItemsOf_ ht ?_)
  refine wpAny_bind (wpAny_typeOf hTs ?_)
  rw [if_pos (by decide)]
  refine wpAny_bind (sliceApplied_gen hs pl pu ?_)
  have hyes : (((sIx items.size 0 lo : Nat) : Int) == 0 && (1 : Int) == 1 && (sIx items.size items.size hi - sIx items.size 0 lo) == items.size) = true := by
    rw [hw.1, hw.2]; simp
  show wpAny _ _ (if (((sIx items.size 0 lo : Nat) : Int) == 0 && (1 : Int) == 1 && (sIx items.size items.size hi - sIx items.size 0 lo) == items.size) = true then _ else _) _ _ s
  rw [if_pos hyes]
  unfold Builtin.Tuple.tupleIsExact
  refine wpAny_bind (wpAny_bind (wpAny_typeOf ht.typeIs (wpAny_pure ?_)))
  rw [if_pos (by decide)]
  first
    | exact wpAny_bind (wpAny_rule (wpAny_bind (wpAny_pure (wpAny_pure ⟨_, rfl, wpAny_pure h⟩))))
    | exact wpAny_bind (wpAny_rule (wpAny_pure ⟨_, rfl, wpAny_pure h⟩))
    | exact wpAny_bind (wpAny_rule (wpAny_bind (wpAny_pure ⟨_, rfl, wpAny_pure h⟩)))
end
end HT

namespace L2
open PySem PySem.Spec PyProof.Rows
section
variable {X : Cx}
def rSlS : V → Option Int → Option Int → Hp → VK → Prop := fun x lo hi H Q => ∃ z, x = .str z ∧ z.length ≤ sizeLine ∧ Q (.str (Txt.slice z lo hi)) H
theorem sl_str : SlR X rSlS := by
  intro pins s σ H x v vl vu lo hi sl Q I rx hs pl pu h
  obtain ⟨z, rfl, hz, q⟩ := h
  obtain ⟨t, rfl⟩ := rx
  refine ⟨"str", _, PySem.F.slot_str_getitem.lookup, typeIs_str _ _ _, ?_⟩
  have fin : ∀ lo hi : Option Int, Q (.str (Txt.slice z lo hi)) H → (Txt.slice z lo hi).length ≤ sizeLine ∧ ∀ (t' : Tok) (k : Nat), EP X pins σ Q (.str (Txt.slice z lo hi) t') { s with toks := k } := fun lo hi q =>
    ⟨Nat.le_trans (Txt.slice_le z _ _) hz, fun t' k => ⟨.str _, H, I.tok k, ⟨t', rfl⟩, q⟩⟩
  cases pl with
  | none =>
    cases pu with
    | none => exact wpAny_getItem_str_slice (l := none) (u := none) (st := none) hs rfl (post_val_or_str (fin none none q))
    | int j uj => exact wpAny_getItem_str_slice (l := none) (u := some (j, uj)) (st := none) hs rfl (post_val_or_str (fin none (some j) q))
  | int i ui =>
    cases pu with
    | none => exact wpAny_getItem_str_slice (l := some (i, ui)) (u := none) (st := none) hs rfl (post_val_or_str (fin (some i) none q))
    | int j uj => exact wpAny_getItem_str_slice (l := some (i, ui)) (u := some (j, uj)) (st := none) hs rfl (post_val_or_str (fin (some i) (some j) q))
def rSlT2 (K : PySem.W.Frag) : V → Option Int → Option Int → Hp → VK → Prop := fun x lo hi H Q => ∃ a xs, x = .ref a ∧ SqT K H a xs ∧
  ((HT.sIx xs.length 0 lo = 0 ∧ HT.sIx xs.length xs.length hi = xs.length) → Q (.ref a) H) ∧ (¬ (HT.sIx xs.length 0 lo = 0 ∧ HT.sIx xs.length xs.length hi = xs.length) → ∀ p, H p = none → Q (.ref p) (upd H p (.tup (cutV xs lo hi))))
theorem sl_tup2 : SlR X (rSlT2 X.K) := by
  intro pins s σ H x v vl vu lo hi sl Q I rx hs pl pu h
  obtain ⟨a, xs, rfl, hx, q1, q2⟩ := h
  by_cases hw : HT.sIx xs.length 0 lo = 0 ∧ HT.sIx xs.length xs.length hi = xs.length
  · cases rx
    obtain ⟨its, r, ht, hz⟩ := I.tuple hx
    have hlen : its.toArray.size = xs.length := by rw [List.size_toArray]; exact r.length.symm
    exact ⟨"tuple", _, PyProof.Rows.slot_tuple_getitem.lookup, ht.typeIs, HT.getItem_tuple_all ht hs pl pu (by rw [hlen]; exact hw) ⟨.ref a, H, I, rfl, q1 hw⟩⟩
  · exact sl_tup pins s σ H (.ref a) v vl vu lo hi sl Q I rx hs pl pu ⟨a, xs, rfl, hx, hw, q2 hw⟩
def rSlAny (K : PySem.W.Frag) : V → Option Int → Option Int → Hp → VK → Prop := fun x lo hi H Q => rSlL K x lo hi H Q ∨ rSlT2 K x lo hi H Q ∨ rSlS x lo hi H Q
theorem sl_any : SlR X (rSlAny X.K) := sl_list.or (sl_tup2.or sl_str)
def rCatT2 (K : PySem.W.Frag) : R2 := fun x y H Q => ∃ a b xs ys, x = .ref a ∧ y = .ref b ∧ SqT K H a xs ∧ SqT K H b ys ∧ xs.length + ys.length ≤ sizeLine ∧
  (xs = [] → Q (.ref b) H) ∧ (xs ≠ [] → ys = [] → Q (.ref a) H) ∧ (xs ≠ [] → ys ≠ [] → ∀ p, H p = none → Q (.ref p) (upd H p (.tup (xs ++ ys))))
theorem op_catT2 : OpR X (binaryOp .Add) (rCatT2 X.K) := by
  intro pins s σ H x y v u Q I rx ry h
  obtain ⟨a, b, xs, ys, rfl, rfl, ha, hb, hz, q0, q1, q2⟩ := h
  by_cases hx : xs = []
  · cases rx
    cases ry
    obtain ⟨its, r1, p1, _⟩ := I.tuple ha
    obtain ⟨its2, r2, p2, _⟩ := I.tuple hb
    obtain ⟨⟨cls, dd, data, sl⟩, ho, hc, n, hd⟩ := id p1
    obtain ⟨⟨cls2, dd2, data2, sl2⟩, ho2, hc2, n2, hd2⟩ := id p2
    simp only at hc hd hc2 hd2
    subst hc hd hc2 hd2
    have he : its = [] := r1.nil_iff.mpr hx
    exact concat_meets ⟨_, ho, rfl⟩ ⟨_, ho2, rfl⟩ noFill_tuple_add seq_tuple_add PySem.F.slot_tuple_add PySem.F.entry_tuple_add (PySem.F.args_tuple_add_2 _ _) (tuple_addW0 a b its.toArray its2.toArray n n2 dd dd2 sl sl2 (by simp [he])) ⟨ho, ho2, ⟨.ref b, H, I, rfl, q0 hx⟩⟩
  · exact op_catT pins s σ H (.ref a) (.ref b) v u Q I rx ry ⟨a, b, xs, ys, rfl, rfl, ha, hb, hx, hz, q1 hx, q2 hx⟩
def rCatL (K : PySem.W.Frag) : R2 := fun x y H Q => ∃ l b xs zs, x = .ref l ∧ y = .ref b ∧ SqL K H l xs ∧ SqL K H b zs ∧ xs.length + zs.length ≤ sizeLine ∧ ∀ p, H p = none → Q (.ref p) (upd H p (.lst (xs ++ zs)))
theorem op_catL : OpR X (binaryOp .Add) (rCatL X.K) := by
  intro pins s σ H x y v u Q I rx ry h
  obtain ⟨l, b, xs, zs, rfl, rfl, ha, hb, hz, q⟩ := h
  cases rx
  cases ry
  obtain ⟨its, r1, ⟨⟨cls, dd, data, sl⟩, n, ho, hc, hdd, hd⟩, _⟩ := I.list ha
  obtain ⟨its2, r2, ⟨⟨cls2, dd2, data2, sl2⟩, n2, ho2, hc2, hdd2, hd2⟩, _⟩ := I.list hb
  simp only at hc hd hc2 hd2
  subst hc hd hc2 hd2
  have hz' : its.toArray.size + its2.toArray.size ≤ sizeLine := by rw [List.size_toArray, List.size_toArray, ← r1.length, ← r2.length]; exact hz
  refine concat_meets ⟨_, ho, rfl⟩ ⟨_, ho2, rfl⟩ noFill_list_add seq_list_add PySem.F.slot_list_add PySem.F.entry_list_add (PySem.F.args_list_add_2 _ _) (list_addW l b its.toArray its2.toArray n n2 dd dd2 sl sl2 hz') ⟨ho, ho2, ?_⟩
  have ea : its.toArray ++ its2.toArray = (its ++ its2).toArray := by simp
  rw [ea]
  exact ⟨.ref _, _, I.lnew (t' := s.toks) (r1.append r2) (by rw [List.length_append]; exact hz), rfl, q _ I.fresh⟩
def rAddAny (K : PySem.W.Frag) : R2 := fun x y H Q => (rI0 fun i j => .int (i + j)) x y H Q ∨ (∃ i j, x = .str i ∧ y = .str j ∧ i.length + j.length ≤ sizeLine ∧ Q (.str (i ++ j)) H) ∨ rCatT2 K x y H Q ∨ rCatL K x y H Q
theorem op_addAny : OpR X (binaryOp .Add) (rAddAny X.K) := op_add.or (op_add_str.or (op_catT2.or op_catL))
def rMulAny : R2 := fun x y H Q => (rI CMul fun i j => .int (i * j)) x y H Q ∨ ∃ z n, x = .str z ∧ y = .int n ∧ z.length ≤ 1000 ∧ 0 ≤ n ∧ n ≤ 1000 ∧ Q (.str (Txt.mul z n)) H
theorem op_mul_str : OpR X (binaryOp .Mult) (fun x y H Q => ∃ z n, x = .str z ∧ y = .int n ∧ z.length ≤ 1000 ∧ 0 ≤ n ∧ n ≤ 1000 ∧ Q (.str (Txt.mul z n)) H) := by
  intro pins s σ H x y v u Q I rx ry h
  obtain ⟨z, n, rfl, rfl, hz, h0, h1, q⟩ := h
  obtain ⟨t, rfl⟩ := rx
  obtain ⟨t', rfl⟩ := ry
  refine SB.mul ⟨by simp; omega, fun a _ => ?_, fun _ _ => ?_⟩ fun t'' k => ⟨.str _, H, I.tok k, ⟨t'', rfl⟩, q⟩
  · have hn : 1 ≤ n := by omega
    have : (1000 : Int) ≤ (2 ^ 63 - 1) / n := by
      rw [Int.le_ediv_iff_mul_le (by omega)]
      omega
    omega
  · have : z.length * n.toNat ≤ 1000 * 1000 := Nat.mul_le_mul hz (by omega)
    unfold Builtin.Str.tooLong
    have hL : sizeLine = 2 ^ 24 := rfl
    simp only [decide_eq_false_iff_not]
    omega
theorem op_mulAny : OpR X (binaryOp .Mult) rMulAny := op_mul.or op_mul_str
theorem call_all_bls (hc : X.calm = true) : CallR X (.builtin "all") (fun xs H Q => ∃ (p : Addr) (bs : List Bool), xs = [.ref p] ∧ SqL X.K H p (bs.map V.bl) ∧ Q (.bl (bs.all id)) H) := by
  intro pins s σ H xs us Q I r h
  obtain ⟨p, bs, rfl, hq, q⟩ := h
  obtain ⟨u, rfl, rx⟩ := vals1 r
  cases rx
  obtain ⟨its, rv, pl, hz⟩ := I.list hq
  have hne : p ≠ s.heap.objs.size := by
    obtain ⟨o, ho, _⟩ := pl.isList
    exact Nat.ne_of_lt (Heap.lt_size ho)
  have hl1 := pl.isList
  refine call_all_walk (wpAny_pyIter_list hl1 ?_)
  refine ⟨_, _, _, _, _, _, fun i => (bs[i]?).getD true, rfl, Walks.list (A := X.A.in1) (I.ok.hd hc) _ p hne its.toArray, ⟨⟨_, Heap.get?_push_size _ rfl, rfl, rfl⟩, hl1.push _⟩, fun i v s' Q' E' hP hq' => ?_, fun h' tk hk => ?_⟩
  · have hv : its[i]? = some v := by simpa using hP
    have hlen := rv.length
    have hi : i < its.length := (List.getElem?_eq_some_iff.mp hv).1
    have hb : i < bs.length := by rw [List.length_map] at hlen; omega
    obtain ⟨w', h1, h2⟩ := rv.get (i := i) (x := .bl bs[i]) (by rw [List.getElem?_map, List.getElem?_eq_getElem hb]; rfl)
    rw [hv] at h1
    cases h1
    cases h2
    refine wpAny_truthy_bool ?_
    dsimp only at hq'
    rw [List.getElem?_eq_getElem hb] at hq'
    exact hq'
  · have e : (List.range its.toArray.size).all (fun i => (bs[i]?).getD true) = bs.all id := by
      have hlen := rv.length
      rw [List.length_map] at hlen
      rw [List.size_toArray, ← hlen]
      rw [Bool.eq_iff_iff, List.all_eq_true, List.all_eq_true]
      constructor
      · intro h b hb
        obtain ⟨i, hi, rfl⟩ := List.mem_iff_getElem.mp hb
        have := h i (List.mem_range.mpr hi)
        rw [List.getElem?_eq_getElem hi] at this
        exact this
      · intro h i hi
        have hi' := List.mem_range.mp hi
        rw [List.getElem?_eq_getElem hi']
        exact h _ (List.getElem_mem hi')
    rw [e]
    have I1 : Inv X pins σ H { s with heap := s.heap.push { cls := .type "list_iterator", data := .fields #[.ref p, .int 0 0] } } := I.kept (t' := s.toks) fun b o e => Heap.get?_push_of_some _ e
    refine ⟨.bl _, H, I.kept fun b o e => hk b o ?_ (Heap.get?_push_of_some _ e), rfl, q⟩
    intro z
    have : b = s.heap.objs.size := by simpa using z
    exact absurd (Heap.lt_size e) (by rw [this]; exact Nat.lt_irrefl _)
def rIsB : R2 := fun x y H Q => ∃ b, y = .bl b ∧ Q (.bl (decide (x = .bl b))) H
theorem is_bl {x : V} {v : Value} {b : Bool} (r : RelV x v) : plainIs v (.bool b) = true ∧ (v == Value.bool b) = decide (x = .bl b) := by
  cases x with
  | non => cases r; exact ⟨rfl, rfl⟩
  | bl c => cases r; cases b <;> cases c <;> exact ⟨rfl, rfl⟩
  | int _ => obtain ⟨t, rfl⟩ := r; exact ⟨rfl, rfl⟩
  | str _ => obtain ⟨t, rfl⟩ := r; exact ⟨rfl, rfl⟩
  | byt _ => obtain ⟨t, rfl⟩ := r; exact ⟨rfl, rfl⟩
  | flt _ => obtain ⟨t, rfl⟩ := r; exact ⟨rfl, rfl⟩
  | ref _ => cases r; exact ⟨rfl, rfl⟩
  | ty _ => cases r; exact ⟨rfl, rfl⟩
theorem op_isB : OpR X (compareOp .Is) rIsB := by
  intro pins s σ H x y v u Q I rx ry h
  obtain ⟨b, rfl, q⟩ := h
  cases ry
  obtain ⟨h1, h2⟩ := is_bl (b := b) rx
  refine wpAny_is_plain h1 ?_
  rw [h2]
  exact ⟨.bl _, H, I, rfl, q⟩
theorem strs_of : ∀ {ys : List Str} {us : List Value}, Vals (ys.map V.str) us → StrsAre us ys
  | [], _, r => by rw [List.map_nil] at r; cases r; exact .nil
  | y :: ys, us, r => by
    rw [List.map_cons] at r
    cases r with
    | cons r1 r2 =>
      obtain ⟨t, rfl⟩ := r1
      exact .cons y t (strs_of r2)
theorem mt_join : MtR X "str.join" (fun x xs H Q => ∃ z p ys, x = .str z ∧ xs = [.ref p] ∧ SqL X.K H p (ys.map V.str) ∧ (ys.map (·.length)).sum + ys.length * z.length ≤ 16777216 ∧ Q (.str (Txt.join z ys)) H) := by
  intro pins s σ H x xs v us Q I rx r h
  obtain ⟨z, p, ys, rfl, rfl, hq, hz, q⟩ := h
  obtain ⟨t, rfl⟩ := rx
  obtain ⟨u, rfl, ru⟩ := vals1 r
  cases ru
  obtain ⟨its, rv, pl, _⟩ := I.list hq
  exact PyProof.Rows.join_list pl.isList (by simpa using strs_of rv) hz fun t' k => ⟨.str _, H, I.tok k, ⟨t', rfl⟩, q⟩
def tyName (K : PySem.W.Frag) (H : Hp) : V → String → Prop
  | .non, T => T = "NoneType"
  | .bl _, T => T = "bool"
  | .int _, T => T = "int"
  | .str _, T => T = "str"
  | .ref p, T => (T = "list" ∧ ∃ xs, SqL K H p xs) ∨ (T = "tuple" ∧ ∃ xs, SqT K H p xs) ∨ (T = "list" ∧ ∃ P, H p = some (.ext P) ∧ ∀ h : Heap, P h → ∃ o, h.get? p = some o ∧ o.cls = .type "list")
  | _, _ => False
theorem isinst2 {pins : List (Addr × Obj)} {σ : L2.St} {H : Hp} {s : Shared} {A : Around} {E : Value → Shared → Prop} {Q : Value → Shared → Prop} {x : V} {u c : Value} {T : String} {b : Bool} (I : Inv X pins σ H s) (rx : RelV x u) (ty : tyName X.K H x T)
    (e : PySem.W.kitOne X.K (.type T) c = some b) (h : ∀ tk, Q (.bool b) { s with toks := tk }) : wpAny (model X.prog X.w) A (call (.builtin "isinstance") [u, c]) Q E s := by
  cases x with
  | non => cases (show T = "NoneType" from ty); exact isinst_ok I rx .non e h
  | bl y => cases (show T = "bool" from ty); exact isinst_ok I rx (.bl y) e h
  | int i => cases (show T = "int" from ty); exact isinst_ok I rx (.int i) e h
  | str y => cases (show T = "str" from ty); exact isinst_ok I rx (.str y) e h
  | ref p =>
    cases rx
    rcases ty with ⟨rfl, xs, hq⟩ | ⟨rfl, xs, hq⟩ | ⟨rfl, P, hq, hP⟩
    · obtain ⟨its, _, pl, _⟩ := I.list hq
      obtain ⟨o, n, ho, hc, _⟩ := pl
      exact PySem.W.kia_one PySem.W.kitx_list I.kIn ⟨o, ho, hc⟩ e (fun z => nomatch z) h
    · obtain ⟨its, _, pl, _⟩ := I.tuple hq
      obtain ⟨o, ho, hc, _⟩ := pl
      exact PySem.W.kia_one PySem.W.kitx_tuple I.kIn ⟨o, ho, hc⟩ e (fun z => nomatch z) h
    · obtain ⟨o, ho, hc⟩ := hP _ (I.hok p _ hq).1
      exact PySem.W.kia_one PySem.W.kitx_list I.kIn ⟨o, ho, hc⟩ e (fun z => nomatch z) h
  | _ => exact False.elim ty
end
end L2

set_option Elab.async false
set_option linter.all false
set_option maxRecDepth 100000
namespace L2
open PySem PySem.Spec PyProof.Rows
def dstep (l : List Str) (y : Str) : List Str := if y ∈ l then l else l ++ [y]
def dd (ys : List Str) : List Str := ys.foldl dstep []
theorem dstep_mem (l : List Str) (y z : Str) : z ∈ dstep l y ↔ z ∈ l ∨ z = y := by
  unfold dstep
  by_cases h : y ∈ l
  · rw [if_pos h]; exact ⟨.inl, fun q => q.elim id fun e => e ▸ h⟩
  · rw [if_neg h]; simp
theorem dfold_len : ∀ (ys l : List Str), (ys.foldl dstep l).length ≤ l.length + ys.length
  | [], l => by simp
  | y :: ys, l => by
    have ih := dfold_len ys (dstep l y)
    have h1 : (dstep l y).length ≤ l.length + 1 := by
      unfold dstep; split <;> simp
    rw [List.foldl_cons, List.length_cons]
    omega
theorem dd_len (ys : List Str) : (dd ys).length ≤ ys.length := by
  unfold dd
  have := dfold_len ys []
  simpa using this
theorem dd_take_succ (ys : List Str) (i : Nat) (y : Str) (h : ys[i]? = some y) : dd (ys.take (i + 1)) = dstep (dd (ys.take i)) y := by
  unfold dd
  rw [List.take_add_one, h, List.foldl_append]
  rfl

theorem strsAre_get : ∀ {its : List Value} {ys : List Str}, StrsAre its ys → ∀ (i : Nat) (v : Value), its[i]? = some v → ∃ y t, ys[i]? = some y ∧ v = .str y t
  | _, _, .nil, i, v, h => by simp at h
  | _, _, .cons y t _, 0, v, h => by simp at h; exact ⟨y, t, rfl, h.symm⟩
  | _, _, .cons y t r, i + 1, v, h => by
    obtain ⟨z, u, h1, h2⟩ := strsAre_get r i v (by simpa using h)
    exact ⟨z, u, by simpa using h1, h2⟩
theorem setOf_cg {P : Program} {w : World} {h : Heap} {a : Addr} {S S' : Key → Bool} {n n' : Nat} (hS : h.SetOf (mixKind P w) a S n) (e : ∀ k, S k = S' k) (en : n = n') : h.SetOf (mixKind P w) a S' n' := by
  have z : S = S' := funext e
  subst z; subst en; exact hS
section
variable {prog : Program} {w : World} {A : Around}
def DdSet (prog : Program) (w : World) (h : Heap) (S : Addr) (l : List Str) : Prop := h.SetOf (mixKind prog w) S (fun k => match k with | .inr z => decide (z ∈ l) | .inl _ => false) l.length
end
def SetN (P : Program) (w : World) (q : Addr) (n : Nat) : HO := .ext fun h => ∃ S, h.SetOf (mixKind P w) q S n
section
variable {X : Cx}
theorem call_len_setN : CallR X (.builtin "len") (fun xs H Q => ∃ (q : Addr) (n : Nat), xs = [.ref q] ∧ H q = some (SetN X.prog X.w q n) ∧ Q (.int n) H) := by
  intro pins s σ H xs us Q I r h
  obtain ⟨q, n, rfl, hq, hQ⟩ := h
  obtain ⟨u, rfl, rx⟩ := vals1 r
  cases rx
  obtain ⟨⟨S, o, es, ep, t, ho, hex, hd, _, _, hbd, hf, hn⟩, _⟩ := I.hok q _ hq
  subst hn
  refine call_len_set ho hex hd hf ?_ ⟨.int _, H, I.tok _, ⟨_, rfl⟩, hQ⟩
  unfold scanBound at hbd
  omega
end
end L2

set_option Elab.async false
set_option linter.all false
set_option maxRecDepth 100000
namespace TL
open PySem PySem.Spec PyProof.Rows L2
variable {K : PySem.W.Frag} {H H' H1 H2 : Hp} {B : Hp} {p0 ps : List Addr} {σT : List Sl} {σ : L2.St}
section
variable {X : Cx} {a b c e : Expr} {es : List Expr} {ta tb tc te : ET} {pos p : Pos}
def fI (C : Int → Int → Prop) (g : Int → Int → Int) : D → D → (D → Prop) → Prop
  | .int i, .int j, Q => C i j ∧ Q (.int (g i j))
  | _, _, _ => False
def fI0 (g : Int → Int → Int) : D → D → (D → Prop) → Prop
  | .int i, .int j, Q => Q (.int (g i j))
  | _, _, _ => False
def fB0 (g : Int → Int → Bool) : D → D → (D → Prop) → Prop
  | .int i, .int j, Q => Q (.bool (g i j))
  | _, _, _ => False
theorem o_I {C : Int → Int → Prop} {g : Int → Int → Int} : Op2 X (rI C fun i j => .int (g i j)) (fI C g) := by
  intro H ps d1 d2 x y Q QV live r1 r2 h k
  cases r1 with
  | int i =>
    cases r2 with
    | int j => exact ⟨i, j, rfl, rfl, h.1, k _ _ H (L2.Same.refl H) (.int _) h.2⟩
    | _ => exact h.elim
  | _ => exact h.elim
theorem o_I0 {g : Int → Int → Int} : Op2 X (rI0 fun i j => .int (g i j)) (fI0 g) := by
  intro H ps d1 d2 x y Q QV live r1 r2 h k
  cases r1 with
  | int i =>
    cases r2 with
    | int j => exact ⟨i, j, rfl, rfl, k _ _ H (L2.Same.refl H) (.int _) h⟩
    | _ => exact h.elim
  | _ => exact h.elim
theorem o_B0 {g : Int → Int → Bool} : Op2 X (rI0 fun i j => .bl (g i j)) (fB0 g) := by
  intro H ps d1 d2 x y Q QV live r1 r2 h k
  cases r1 with
  | int i =>
    cases r2 with
    | int j => exact ⟨i, j, rfl, rfl, k _ _ H (L2.Same.refl H) (.bool _) h⟩
    | _ => exact h.elim
  | _ => exact h.elim
def fAdd : D → D → (D → Prop) → Prop
  | .int i, .int j, Q => Q (.int (i + j))
  | .str x, .str y, Q => x.length + y.length ≤ 100000 ∧ Q (.str (x ++ y))
  | .tuple x, .tuple y, Q => x.length + y.length ≤ 100000 ∧ Q (.tuple (x ++ y))
  | .list x, .list y, Q => x.length + y.length ≤ 100000 ∧ Q (.list (x ++ y))
  | _, _, _ => False
theorem line5 {n : Nat} (h : n ≤ 100000) : n ≤ sizeLine := by have : sizeLine = 2 ^ 24 := rfl; omega
theorem o_add : Op2 X (rAddAny X.K) fAdd := by
  intro H ps d1 d2 x y Q QV live r1 r2 h k
  cases r1 with
  | int i =>
    cases r2 with
    | int j => exact .inl ⟨i, j, rfl, rfl, k _ _ H (L2.Same.refl H) (.int _) h⟩
    | _ => exact h.elim
  | str i =>
    cases r2 with
    | str j => exact .inr (.inl ⟨i, j, rfl, rfl, line5 h.1, k _ _ H (L2.Same.refl H) (.str _) h.2⟩)
    | _ => exact h.elim
  | tuple q1 s1 =>
    cases r2 with
    | tuple q2 s2 =>
      refine .inr (.inr (.inl ⟨_, _, _, _, rfl, rfl, Same.seqT mask_le q1, Same.seqT mask_le q2, line5 (by rw [← s1.length, ← s2.length]; exact h.1), fun z => ?_, fun z1 z2 => ?_, fun z1 z2 p hp => ?_⟩))
      · subst z
        cases s1
        exact k _ _ H (L2.Same.refl H) (.tuple q2 s2) h.2
      · subst z2
        cases s2
        have e := h.2
        rw [List.append_nil] at e
        exact k _ _ H (L2.Same.refl H) (.tuple q1 s1) e
      · exact k _ _ _ (same_new hp) (rep_tup live hp (s1.append s2)) h.2
    | _ => exact h.elim
  | list q1 s1 =>
    cases r2 with
    | list q2 s2 =>
      exact .inr (.inr (.inr ⟨_, _, _, _, rfl, rfl, L2.Same.seq mask_le q1, L2.Same.seq mask_le q2, line5 (by rw [← s1.length, ← s2.length]; exact h.1), fun p hp => k _ _ _ (same_new hp) (rep_lst live hp (s1.append s2)) h.2⟩))
    | _ => exact h.elim
  | _ => exact h.elim
def fMul : D → D → (D → Prop) → Prop
  | .int i, .int j, Q => CMul i j ∧ Q (.int (i * j))
  | .str z, .int n, Q => z.length ≤ 1000 ∧ 0 ≤ n ∧ n ≤ 1000 ∧ Q (.str (Txt.mul z n))
  | _, _, _ => False
theorem o_mul : Op2 X rMulAny fMul := by
  intro H ps d1 d2 x y Q QV live r1 r2 h k
  cases r1 with
  | int i =>
    cases r2 with
    | int j => exact .inl ⟨i, j, rfl, rfl, h.1, k _ _ H (L2.Same.refl H) (.int _) h.2⟩
    | _ => exact h.elim
  | str z =>
    cases r2 with
    | int n => exact .inr ⟨z, n, rfl, rfl, h.1, h.2.1, h.2.2.1, k _ _ H (L2.Same.refl H) (.str _) h.2.2.2⟩
    | _ => exact h.elim
  | _ => exact h.elim
def eqF : D → D → Option Bool
  | .none, .none => some true
  | .bool x, .bool y => some (decide (x = y))
  | .int x, .int y => some (decide (x = y))
  | .str x, .str y => some (decide (x = y))
  | .str _, .none | .none, .str _ => some false
  | _, _ => none
def fEq (x y : D) (Q : D → Prop) : Prop := match eqF x y with | some c => Q (.bool c) | none => False
def fNe (x y : D) (Q : D → Prop) : Prop := match eqF x y with | some c => Q (.bool (!c)) | none => False
theorem eqF_scal {x y : D} {u v : V} {c : Bool} (r1 : Rep K H x u) (r2 : Rep K H y v) (h : eqF x y = some c) : scal u v = true ∧ decide (u = v) = c := by
  cases r1 <;> cases r2 <;> simp [eqF] at h <;> subst h <;> exact ⟨rfl, by simp⟩
theorem o_eq : Op2 X rEq fEq := by
  intro H ps d1 d2 x y Q QV live r1 r2 h k
  unfold fEq at h
  cases e : eqF d1 d2 with
  | none => rw [e] at h; exact h.elim
  | some c =>
    rw [e] at h
    obtain ⟨h1, h2⟩ := eqF_scal r1 r2 e
    refine ⟨h1, ?_⟩
    rw [h2]
    exact k _ _ H (L2.Same.refl H) (.bool c) h
theorem o_ne : Op2 X rNe fNe := by
  intro H ps d1 d2 x y Q QV live r1 r2 h k
  unfold fNe at h
  cases e : eqF d1 d2 with
  | none => rw [e] at h; exact h.elim
  | some c =>
    rw [e] at h
    obtain ⟨h1, h2⟩ := eqF_scal r1 r2 e
    refine ⟨h1, ?_⟩
    rw [h2]
    exact k _ _ H (L2.Same.refl H) (.bool (!c)) h
def isTrueD (b : Bool) : D → Bool
  | .bool c => decide (c = b)
  | _ => false
theorem Reps.atI {ds : List D} {vs : List V} {i : Int} {d : D} (r : Reps K H ds vs) (h : atI ds i = some d) : ∃ v, atI vs i = some v ∧ Rep K H d v := by
  unfold L2.atI at h ⊢
  rw [← r.length]
  cases e : ixN ds.length i with
  | none => rw [e] at h; cases h
  | some j =>
    rw [e] at h
    exact r.get h
inductive ItemAt (ts : List D) (i : Int) (Q : D → Prop) : Prop
  | mk (d : D) (h : atI ts i = some d) (k : Q d) : ItemAt ts i Q
def fIx (x y : D) (Q : D → Prop) : Prop := match x, y with
  | .list ts, .int i => ItemAt ts i Q
  | .tuple ts, .int i => ItemAt ts i Q
  | .str z, .int i => z.length ≤ 100000 ∧ ∃ c, atI z.cps.toList i = some c ∧ Q (.str ⟨#[c]⟩)
  | _, _ => False
theorem o_ix : Op2 X (rIx X.K) fIx := by
  intro H ps d1 d2 x y Q QV live r1 r2 h k
  cases r2 with
  | int i =>
    cases r1 with
    | list q s =>
      obtain ⟨d, e, h⟩ := h
      obtain ⟨v, e', r⟩ := s.atI e
      exact .inl ⟨_, _, i, v, rfl, rfl, L2.Same.seq mask_le q, e', k _ _ H (L2.Same.refl H) r h⟩
    | tuple q s =>
      obtain ⟨d, e, h⟩ := h
      obtain ⟨v, e', r⟩ := s.atI e
      exact .inr (.inl ⟨_, _, i, v, rfl, rfl, Same.seqT mask_le q, e', k _ _ H (L2.Same.refl H) r h⟩)
    | str z =>
      obtain ⟨hz, c, e, h⟩ := h
      exact .inr (.inr ⟨z, i, c, rfl, rfl, line5 hz, e, k _ _ H (L2.Same.refl H) (.str _) h⟩)
    | _ => exact h.elim
  | _ => cases d1 <;> exact h.elim
def cutD {α : Type} (xs : List α) (lo hi : Option Int) : List α := (xs.drop (HT.sIx xs.length 0 lo)).take (HT.sIx xs.length xs.length hi - HT.sIx xs.length 0 lo)
def fSl (x : D) (lo hi : Option Int) (Q : D → Prop) : Prop := match x with
  | .list ts => Q (.list (cutD ts lo hi))
  | .tuple ts => Q (.tuple (cutD ts lo hi))
  | .str z => z.length ≤ 100000 ∧ Q (.str (Txt.slice z lo hi))
  | _ => False
theorem Reps.cut {ds : List D} {vs : List V} (r : Reps K H ds vs) (lo hi : Option Int) : Reps K H (cutD ds lo hi) (cutV vs lo hi) := by
  unfold cutD cutV
  rw [r.length]
  exact (r.drop _).take _
theorem o_sl : SlT X (rSlAny X.K) fSl := by
  intro H ps d x lo hi Q QV live r h k
  cases r with
  | list q s => exact .inl ⟨_, _, rfl, L2.Same.seq mask_le q, fun p hp => k _ _ _ (same_new hp) (rep_lst live hp (s.cut lo hi)) h⟩
  | @tuple p xs ts q s =>
    refine .inr (.inl ⟨_, _, rfl, Same.seqT mask_le q, fun z => ?_, fun _ p hp => k _ _ _ (same_new hp) (rep_tup live hp (s.cut lo hi)) h⟩)
    have e : cutD ts lo hi = ts := by
      unfold cutD
      rw [s.length, z.1, z.2, Nat.sub_zero, List.drop_zero, ← s.length, List.take_length]
    have h' : Q (.tuple (cutD ts lo hi)) := h
    rw [e] at h'
    exact k _ _ H (L2.Same.refl H) (.tuple q s) h'
  | str z => exact .inr (.inr ⟨z, rfl, line5 h.1, k _ _ H (L2.Same.refl H) (.str _) h.2⟩)
  | _ => exact h.elim
theorem reps_strs : ∀ {ys : List Str} {vs : List V}, Reps K H (ys.map PyData.str) vs → vs = ys.map V.str
  | [], _, r => by rw [List.map_nil] at r; cases r; rfl
  | y :: ys, vs, r => by
    rw [List.map_cons] at r
    cases r with
    | cons r1 r2 =>
      cases r1
      rw [List.map_cons, reps_strs r2]
theorem et_cb {r : List V → Hp → VK → Prop} {f : List D → (D → Prop) → Prop} {t : AT} {g : Expr} (hf : CallT X r f) (ha : PAt X (e :: es) t) (pc : ∀ {ta : TA}, PA X (e :: es) ta → PE X (.Call g (e :: es) [] pos) (tCB r ta)) : PEt X (.Call g (e :: es) [] pos) (eCall f t) := by
  obtain ⟨v, pa, ra⟩ := ha
  refine ⟨_, pc pa, fun B p0 H ps σT σ Q QV o h k => ra B p0 H ps σT σ _ _ o h fun ds xs H1 s1 r1 q1 => ?_⟩
  exact hf H1 ps ds xs Q QV (o.grow s1).live r1 q1 fun d v H' s' r' q' => k d v H' (s1.trans s') r' q'
def f1 (f : D → (D → Prop) → Prop) : List D → (D → Prop) → Prop
  | [d], Q => f d Q
  | _, _ => False
theorem c1 {r : List V → Hp → VK → Prop} {f : D → (D → Prop) → Prop} (h : ∀ (H : Hp) (ps : List Addr) (d : D) (x : V) (Q : D → Prop) (QV : VK), (∀ p ∈ ps, H p ≠ none) → Rep X.K (mask H ps) d x → f d Q →
    (∀ d v H', Same H H' → Rep X.K (mask H' ps) d v → Q d → QV v H') → r [x] H QV) : CallT X r (f1 f) := by
  intro H ps ds xs Q QV live rs hf k
  cases rs with
  | nil => exact hf.elim
  | cons r1 r2 =>
    cases r2 with
    | nil => exact h H ps _ _ Q QV live r1 hf k
    | cons _ _ => exact hf.elim
def gLen (d : D) (Q : D → Prop) : Prop := match d with
  | .list ts => Q (.int ts.length)
  | .tuple ts => Q (.int ts.length)
  | .str z => z.length ≤ 100000 ∧ Q (.int z.length)
  | _ => False
theorem call_lenAny : CallR X (.builtin "len") (fun xs H Q => (∃ p ys, xs = [.ref p] ∧ (SqL X.K H p ys ∨ SqT X.K H p ys) ∧ Q (.int ys.length) H) ∨ ∃ z, xs = [.str z] ∧ z.length ≤ sizeLine ∧ Q (.int z.length) H) := call_len_seq.or call_len_str
theorem c_len : CallT X (fun xs H Q => (∃ p ys, xs = [.ref p] ∧ (SqL X.K H p ys ∨ SqT X.K H p ys) ∧ Q (.int ys.length) H) ∨ ∃ z, xs = [.str z] ∧ z.length ≤ sizeLine ∧ Q (.int z.length) H) (f1 gLen) := c1 fun H ps d x Q QV live r h k => by
  cases r with
  | list q s =>
    refine .inl ⟨_, _, rfl, .inl (L2.Same.seq mask_le q), ?_⟩
    rw [← s.length]
    exact k _ _ H (L2.Same.refl H) (.int _) h
  | tuple q s =>
    refine .inl ⟨_, _, rfl, .inr (Same.seqT mask_le q), ?_⟩
    rw [← s.length]
    exact k _ _ H (L2.Same.refl H) (.int _) h
  | str z => exact .inr ⟨z, rfl, line5 h.1, k _ _ H (L2.Same.refl H) (.int _) h.2⟩
  | _ => exact h.elim
def gTuple (d : D) (Q : D → Prop) : Prop := match d with
  | .list ts => Q (.tuple ts)
  | .tuple ts => Q (.tuple ts)
  | _ => False
theorem c_tuple : CallT X (fun xs H Q => ∃ p ys, xs = [.ref p] ∧ ((SqL X.K H p ys ∧ ∀ l, H l = none → Q (.ref l) (upd H l (.tup ys))) ∨ (SqT X.K H p ys ∧ Q (.ref p) H))) (f1 gTuple) := c1 fun H ps d x Q QV live r h k => by
  cases r with
  | list q s => exact ⟨_, _, rfl, .inl ⟨L2.Same.seq mask_le q, fun l hl => k _ _ _ (same_new hl) (rep_tup live hl s) h⟩⟩
  | tuple q s => exact ⟨_, _, rfl, .inr ⟨Same.seqT mask_le q, k _ _ H (L2.Same.refl H) (.tuple q s) h⟩⟩
  | _ => exact h.elim
theorem reps_bls : ∀ {ys : List Bool} {vs : List V}, Reps K H (ys.map PyData.bool) vs → vs = ys.map V.bl
  | [], _, r => by rw [List.map_nil] at r; cases r; rfl
  | y :: ys, vs, r => by
    rw [List.map_cons] at r
    cases r with
    | cons r1 r2 =>
      cases r1
      rw [List.map_cons, reps_bls r2]
theorem reps_ints : ∀ {ys : List Int} {vs : List V}, Reps K H (ys.map PyData.int) vs → vs = ys.map V.int
  | [], _, r => by rw [List.map_nil] at r; cases r; rfl
  | y :: ys, vs, r => by
    rw [List.map_cons] at r
    cases r with
    | cons r1 r2 =>
      cases r1
      rw [List.map_cons, reps_ints r2]
def gAll (d : D) (Q : D → Prop) : Prop := ∃ bs : List Bool, d = .list (bs.map PyData.bool) ∧ Q (.bool (bs.all id))
theorem c_all : CallT X (fun xs H Q => ∃ (p : Addr) (bs : List Bool), xs = [.ref p] ∧ SqL X.K H p (bs.map V.bl) ∧ Q (.bl (bs.all id)) H) (f1 gAll) := c1 fun H ps d x Q QV live r h k => by
  obtain ⟨bs, rfl, h⟩ := h
  cases r with
  | list q s =>
    have e := reps_bls s
    subst e
    exact ⟨_, bs, rfl, L2.Same.seq mask_le q, k _ _ H (L2.Same.refl H) (.bool _) h⟩
def f2 (f : D → D → (D → Prop) → Prop) : List D → (D → Prop) → Prop
  | [d, d'], Q => f d d' Q
  | _, _ => False
def tyD : D → String
  | .none => "NoneType"
  | .bool _ => "bool"
  | .int _ => "int"
  | .str _ => "str"
  | .list _ => "list"
  | .tuple _ => "tuple"
  | .dict [] => "list"
  | .dict [(.none, _)] => "list"
  | .dict _ => "dict"
def isT (T : String) (d : D) : Bool := (tyD d == T) || (T == "int" && tyD d == "bool")
theorem isT_exc {T : String} {i : Int} {x : D} (h : T ∈ ["int", "str", "list", "tuple", "bool"]) : isT T (.dict [(.int i, x)]) = false := by
  simp only [List.mem_cons, List.not_mem_nil, or_false] at h
  rcases h with rfl | rfl | rfl | rfl | rfl <;> rfl
def isiQ (T : String) (d : D) (Q : D → Prop) : Prop := match d with | .dict ((.str _, _) :: _) => False | d => Q (.bool (isT T d))
theorem isiQ_of {T : String} {d : D} {Q : D → Prop} (h : ∀ x y r, d ≠ .dict ((.str x, y) :: r)) (q : isiQ T d Q) : Q (.bool (isT T d)) := by
  unfold isiQ at q
  split at q
  · exact q.elim
  · exact q
def eIsi (T : String) (te : ET) : ET := fun σ Q => te σ fun d => isiQ T d Q
def KitOk (K : PySem.W.Frag) (T : String) : Prop := ∀ tn ∈ ["NoneType", "bool", "int", "str", "list", "tuple"], PySem.W.kitOne K (.type tn) (.type T) = some ((tn == T) || (T == "int" && tn == "bool"))
def rIsi (K : PySem.W.Frag) (T : String) : List V → Hp → VK → Prop := fun xs H Q => ∃ x b, xs = [x, .ty T] ∧ ((∃ Tn, tyName K H x Tn ∧ PySem.W.kitOne K (.type Tn) (.type T) = some b) ∨ (∃ p C dx, x = .ref p ∧ H p = some (.ext (excAt p C dx)) ∧ (∀ d, dx = some d → ∃ fs, H d = some (.xd fs)) ∧ XCls K C ∧ PySem.W.kitOne K (.ref C) (.type T) = some b)) ∧ Q (.bl b) H
theorem isinst_exc {pins : List (Addr × Obj)} {s : Shared} {σ : L2.St} {H : Hp} {A : Around} {E : Value → Shared → Prop} {Q : Value → Shared → Prop} {p C : Addr} {dx : Option Addr} {c : Value} {b : Bool} (I : Inv X pins σ H s) (hp : H p = some (.ext (excAt p C dx))) (hd : ∀ d, dx = some d → ∃ fs, H d = some (.xd fs)) (x : XCls X.K C)
    (e : PySem.W.kitOne X.K (.ref C) c = some b) (h : ∀ tk, Q (.bool b) { s with toks := tk }) : wpAny (model X.prog X.w) A (call (.builtin "isinstance") [.ref p, c]) Q E s := by
  refine PySem.W.kia_one (kitx_exc x) I.kIn ?_ e (fun z => nomatch z) h
  obtain ⟨⟨o, vs, h1, h2, h3, h4⟩, _⟩ := I.hok p _ hp
  have hn : PySem.W.notCls o = true := by unfold PySem.W.notCls; rw [h4]
  cases dx with
  | none => exact ⟨o, none, h1, h2, hn, by rw [h3]; trivial⟩
  | some d =>
    obtain ⟨fs, hf⟩ := hd d rfl
    obtain ⟨mA, ⟨od, es, ep, he, _⟩, _⟩ := I.hok d _ hf
    exact ⟨o, some od, h1, h2, hn, by rw [h3]; exact he⟩
theorem call_isi {T : String} : CallR X (.builtin "isinstance") (rIsi X.K T) := by
  intro pins s σ H xs us Q I r h
  obtain ⟨x, b, rfl, ⟨Tn, ht, hk⟩ | ⟨p, C, dx, rfl, hp, hd, hx, hk⟩, q⟩ := h
  · obtain ⟨u, w, rfl, ru, rw'⟩ := vals2 r
    cases rw'
    exact isinst2 I ru ht hk fun tk => ⟨.bl b, H, I.tok tk, rfl, q⟩
  · obtain ⟨u, w, rfl, ru, rw'⟩ := vals2 r
    cases rw'
    cases ru
    exact isinst_exc I hp hd hx hk fun tk => ⟨.bl b, H, I.tok tk, rfl, q⟩
theorem et_isi {T : String} {g1 g2 : Expr} (hk : KitOk X.K T) (he : PEt X e te)
    (pc : ∀ {v : TE}, PE X e v → PE X (.Call g1 [e, g2] [] pos) (tCB (rIsi X.K T) (tCons v (tCons (tC (.ty T)) tNil))))
    (hT : T ∈ ["int", "str", "list", "tuple", "bool"] := by decide) : PEt X (.Call g1 [e, g2] [] pos) (eIsi T te) := by
  obtain ⟨v, pe, re⟩ := he
  refine ⟨_, pc pe, fun B p0 H ps σT σ Q QV o h k => re B p0 H ps σT σ _ _ o h fun d x H1 s1 r1 q1 => ?_⟩
  have fin : ∀ tn, tn ∈ ["NoneType", "bool", "int", "str", "list", "tuple"] → tyD d = tn → tyName X.K H1 x tn → rIsi X.K T [x, V.ty T] H1 QV := fun tn hm ht hn => by
    refine ⟨x, _, rfl, .inl ⟨tn, hn, hk tn hm⟩, ?_⟩
    have q : Q (.bool (isT T d)) := isiQ_of (fun x y r z => by subst z; have z2 : ("dict" : String) = tn := ht; subst z2; exact absurd hm (by decide)) q1
    unfold isT at q
    rw [ht] at q
    exact k _ _ H1 s1 (.bool _) q
  cases r1 with
  | none => exact fin "NoneType" (by simp) rfl rfl
  | bool b => exact fin "bool" (by simp) rfl rfl
  | int i => exact fin "int" (by simp) rfl rfl
  | str z => exact fin "str" (by simp) rfl rfl
  | list q s => exact fin "list" (by simp) rfl (.inl ⟨rfl, _, L2.Same.seq mask_le q⟩)
  | tuple q s => exact fin "tuple" (by simp) rfl (.inr (.inl ⟨rfl, _, Same.seqT mask_le q⟩))
  | wild h => exact fin "list" (by simp) rfl (.inr (.inr ⟨rfl, _, mask_le _ _ h, fun _ ⟨_, _, e, _⟩ => ⟨_, e, rfl⟩⟩))
  | tape h _ => exact fin "list" (by simp) rfl (.inr (.inr ⟨rfl, _, mask_le _ _ h, fun _ ⟨_, _, _, _, _, _, _, e, _⟩ => ⟨_, e, rfl⟩⟩))
  | exc x h =>
    refine ⟨_, false, rfl, .inr ⟨_, _, _, rfl, mask_le _ _ h, (fun _ z => nomatch z), x.1, x.2 T hT⟩, ?_⟩
    have q2 : Q (.bool (isT T (.dict _))) := q1
    rw [isT_exc hT] at q2
    exact k _ _ H1 s1 (.bool _) q2
  | excA x h g =>
    refine ⟨_, false, rfl, .inr ⟨_, _, _, rfl, mask_le _ _ h, fun _ z => by cases z; exact ⟨_, mask_le _ _ g⟩, x.1, x.2 T hT⟩, ?_⟩
    have q2 : Q (.bool (isT T (.dict _))) := q1
    rw [isT_exc hT] at q2
    exact k _ _ H1 s1 (.bool _) q2
  | dct _ _ _ _ => exact (show False from q1).elim
  | addr z => exact (show False from q1).elim
def eMeth (f : Str → List D → (D → Prop) → Prop) (te : ET) (t : AT) : ET := fun σ Q => te σ fun d => ∃ z, d = .str z ∧ t σ fun ds => f z ds Q
def gJoin (z : Str) (ds : List D) (Q : D → Prop) : Prop := match ds with | [.list ts] => ∃ ys : List Str, ts = ys.map PyData.str ∧ (ys.map (·.length)).sum + ys.length * z.length ≤ 16777216 ∧ Q (.str (Txt.join z ys)) | _ => False
theorem meth_read {f : Str → List D → (D → Prop) → Prop} {r : V → List V → Hp → VK → Prop} {n g : Expr} {t : AT} (hn : PEt X n te) (ha : PAt X (e :: es) t)
    (hf : ∀ (H : Hp) (ps : List Addr) (z : Str) (ds : List D) (xs : List V) (Q : D → Prop) (QV : VK), Reps X.K (mask H ps) ds xs → f z ds Q → (∀ d v H', Same H H' → Rep X.K (mask H' ps) d v → Q d → QV v H') → r (.str z) xs H QV)
    (pc : ∀ {v : TE} {ta : TA}, PE X n v → PA X (e :: es) ta → PE X (.Call g (e :: es) [] pos) (tBM X.K "str" r v ta)) : PEt X (.Call g (e :: es) [] pos) (eMeth f te t) := by
  obtain ⟨v, pe, re⟩ := hn
  obtain ⟨va, pa, ra⟩ := ha
  refine ⟨_, pc pe pa, fun B p0 H ps σT σ Q QV o h k => re B p0 H ps σT σ _ _ o h fun d x H1 s1 r1 q1 => ?_⟩
  obtain ⟨z, rfl, q1⟩ := q1
  cases r1
  refine ⟨rfl, ra B p0 H1 ps σT σ _ _ (o.grow s1) q1 fun ds xs H2 s2 r2 q2 => ?_⟩
  exact hf H2 ps z ds xs Q QV r2 q2 fun d v H' s' r' q' => k d v H' (s1.trans (s2.trans s')) r' q'
theorem et_join {n : Expr} {ap : Pos} {t : AT} (hn : PEt X n te) (ha : PAt X (e :: es) t)
    (pc : ∀ {v : TE} {ta : TA}, PE X n v → PA X (e :: es) ta → PE X (.Call (.Attribute n "join" ap) (e :: es) [] pos) (tBM X.K "str" (fun x xs H Q => ∃ z p ys, x = .str z ∧ xs = [.ref p] ∧ SqL X.K H p (ys.map V.str) ∧ (ys.map (·.length)).sum + ys.length * z.length ≤ 16777216 ∧ Q (.str (Txt.join z ys)) H) v ta)) : PEt X (.Call (.Attribute n "join" ap) (e :: es) [] pos) (eMeth gJoin te t) :=
  meth_read hn ha (fun H ps z ds xs Q QV r h k => by
    cases r with
    | nil => exact h.elim
    | cons r1 r2 =>
      cases r2 with
      | cons _ _ => cases r1 <;> exact h.elim
      | nil =>
        cases r1 with
        | list q s =>
          obtain ⟨ys, rfl, hz, h⟩ := h
          have e := reps_strs s
          subst e
          exact ⟨z, _, ys, rfl, rfl, L2.Same.seq mask_le q, hz, k _ _ H (L2.Same.refl H) (.str _) h⟩
        | _ => exact h.elim) pc
mutual
theorem Rep.reads {pins : List (Addr × Obj)} {s : Shared} {σ : L2.St} (I : Inv X pins σ H s) : ∀ {d : D} {x : V} {u : Value}, d.hasDict = false → Rep X.K H d x → RelV x u → ∃ as, Reads s.heap u d as
  | _, _, _, _, .none, r => by cases r; exact ⟨_, .none⟩
  | _, _, _, _, .bool b, r => by cases r; exact ⟨_, .bool b⟩
  | _, _, _, _, .int i, r => by obtain ⟨t, rfl⟩ := r; exact ⟨_, .int i t⟩
  | _, _, _, _, .str z, r => by obtain ⟨t, rfl⟩ := r; exact ⟨_, .str z t⟩
  | _, _, _, hd, .list q rs, r => by
    cases r
    obtain ⟨its, rv, ⟨o, n, h1, h2, _, h3⟩, _⟩ := I.list q
    obtain ⟨as, h4⟩ := Reps.reads I hd rs rv
    exact ⟨_, .list h1 h2 h3 (by simpa using h4)⟩
  | _, _, _, hd, .tuple q rs, r => by
    cases r
    obtain ⟨its, rv, ⟨o, h1, h2, n, h3⟩, _⟩ := I.tuple q
    obtain ⟨as, h4⟩ := Reps.reads I hd rs rv
    exact ⟨_, .tuple h1 h2 h3 (by simpa using h4)⟩
  | _, _, _, hd, .wild _, _ => by cases hd
  | _, _, _, hd, .exc _ _, _ => by cases hd
  | _, _, _, hd, .excA _ _ _, _ => by cases hd
  | _, _, _, hd, .tape _ _, _ => by cases hd
  | _, _, _, hd, .addr _, _ => by cases hd
theorem Reps.reads {pins : List (Addr × Obj)} {s : Shared} {σ : L2.St} (I : Inv X pins σ H s) : ∀ {ds : List D} {xs : List V} {us : List Value}, PyData.hasDictAll ds = false → Reps X.K H ds xs → Vals xs us → ∃ as, ReadsAll s.heap us ds as
  | _, _, _, _, .nil, r => by cases r; exact ⟨_, .nil⟩
  | d :: ds, _, _, hd, .cons r1 r2, r => by
    have hd' : (d.hasDict || PyData.hasDictAll ds) = false := hd
    rw [Bool.or_eq_false_iff] at hd'
    cases r with
    | cons v1 v2 =>
      obtain ⟨as, h1⟩ := Rep.reads I hd'.1 r1 v1
      obtain ⟨bs, h2⟩ := Reps.reads I hd'.2 r2 v2
      exact ⟨_, .cons h1 h2⟩
end
end
end TL

set_option Elab.async false
set_option linter.all false
set_option maxRecDepth 100000
namespace TL
open PySem PySem.Spec PyProof.Rows L2
def lcChk (sc out : Scope) (Nx N' : List Str) (fr : List (Option Nat)) : Bool :=
  decide (sc.kind = .function) && sc.names.all (fun y => decide (y.2 ≠ .cell)) && sc.names.all (fun y => decide (y.2 ≠ .free) || decide (out.names.lookup y.1 = some .cell)) && sc.names.all (fun y => decide (y.2 ≠ .local) || decide (sc.names.lookup y.1 = some .local)) && frChk sc.names out.names Nx N' fr
section
variable {X : Cx} {elt iter tg a : Expr} {ifs : List Expr} {scope : Scope} {pos : Pos} {N' : List Str} {fr : List (Option Nat)} {wi : TI} {g : BP → TG} {tt : BP → TT} {te : BP → TE}
theorem lcChk_all {out : Scope} {Nx : List Str} (h : lcChk scope out Nx N' fr = true) : scope.kind = .function ∧ (∀ y ∈ scope.names, y.2 ≠ .cell) ∧ (∀ y ∈ scope.names, y.2 = .free → out.names.lookup y.1 = some .cell) ∧ (∀ y ∈ scope.names, y.2 = .local → scope.names.lookup y.1 = some .local) ∧ frChk scope.names out.names Nx N' fr = true := by
  unfold lcChk at h
  simp only [Bool.and_eq_true, List.all_eq_true, Bool.or_eq_true, decide_eq_true_eq] at h
  obtain ⟨⟨⟨⟨h1, h2⟩, h3⟩, h4⟩, h5⟩ := h
  exact ⟨h1, h2, fun y hy e => (h3 y hy).elim (fun z => absurd e z) id, fun y hy e => (h4 y hy).elim (fun z => absurd e z) id, h5⟩
theorem pe_lcc (h : lcChk scope X.env.scope X.N N' fr = true) (hcalm : X.calm = true) (hi : PI X tg iter wi)
    (hY : ∀ b : BP, PG (blk X scope N' b) tg (g b) ∧ PIf (blk X scope N' b) ifs (tt b) ∧ PE (blk X scope N' b) elt (te b)) (hs : ∀ x, foldedSetIterable iter X.env x = pure x := by intro _; rfl) : PE X (.ListComp elt [⟨tg, iter, ifs, 0⟩] scope pos) (tLc fr wi g tt te) := by
  obtain ⟨h1, h2, h3, h4, h5⟩ := lcChk_all h
  exact pe_lc hcalm h1 h2 h5 h3 h4 hi hY hs
theorem ps_setlcc {i : Nat} {x : Str} {px spos : Pos} (h : lcChk scope X.env.scope X.N N' fr = true) (hN : X.N.Nodup) (hix : X.N[i]? = some x) (hx : Loc X.env.scope x) (hcalm : X.calm = true) (hi : PI X tg iter wi)
    (hY : ∀ b : BP, PG (blk X scope N' b) tg (g b) ∧ PIf (blk X scope N' b) ifs (tt b) ∧ PE (blk X scope N' b) elt (te b))
    (hsw : swapsWith (.ListComp elt [⟨tg, iter, ifs, 0⟩] scope pos) (some (.Name x px)) spos.line X.env = pure true) (hs : ∀ x, foldedSetIterable iter X.env x = pure x := by intro _; rfl) (hf : X.fn x = true ∨ X.env.scope.names.lookup x = some .local := by first | exact .inl rfl | exact .inr rfl) :
    PS X (.Assign [.Name x px] (.ListComp elt [⟨tg, iter, ifs, 0⟩] scope pos) spos) (tAsg (tLc fr wi g tt te) (gName i)) := by
  obtain ⟨h1, h2, h3, h4, h5⟩ := lcChk_all h
  exact ps_setlc hN hix hx hcalm h1 h2 h5 h3 h4 hi hY hsw hs hf
end
theorem bl_all : bootBuiltins "all" = some (.builtin "all") := by decide +kernel
theorem bl_isinstance : bootBuiltins "isinstance" = some (.builtin "isinstance") := by decide +kernel
theorem bl_len : bootBuiltins "len" = some (.builtin "len") := by decide +kernel
theorem bl_set : bootBuiltins "set" = some (.type "set") := by decide +kernel
theorem bl_tuple : bootBuiltins "tuple" = some (.type "tuple") := by decide +kernel
theorem bl_list : bootBuiltins "list" = some (.type "list") := by decide +kernel
theorem bl_str : bootBuiltins "str" = some (.type "str") := by decide +kernel
theorem bl_int : bootBuiltins "int" = some (.type "int") := by decide +kernel
theorem kit_str (K : PySem.W.Frag) : KitOk K "str" := by
  intro tn h
  simp only [List.mem_cons, List.not_mem_nil, or_false] at h
  rcases h with rfl | rfl | rfl | rfl | rfl | rfl <;> first | rfl | (with_unfolding_all rfl) | decide +kernel
theorem kit_tuple (K : PySem.W.Frag) : KitOk K "tuple" := by
  intro tn h
  simp only [List.mem_cons, List.not_mem_nil, or_false] at h
  rcases h with rfl | rfl | rfl | rfl | rfl | rfl <;> first | rfl | (with_unfolding_all rfl) | decide +kernel
theorem set_set {α : Type} (l : List α) (i : Nat) (a b : α) : (l.set i a).set i b = l.set i b := by
  apply List.ext_getElem?
  intro j
  by_cases h : i = j
  · subst h
    by_cases hl : i < l.length
    · rw [List.getElem?_set_self (by simpa using hl), List.getElem?_set_self hl]
    · rw [List.getElem?_eq_none (by simpa using hl), List.getElem?_eq_none (by simpa using hl)]
  · rw [List.getElem?_set_ne h, List.getElem?_set_ne h, List.getElem?_set_ne h]
theorem lc_in {ts : List D} {σb : List Sl} {te : ET} {Q : D → Prop} (R : Nat → D → D → Prop) (hz : ts.length ≤ 100000)
    (ht : ∀ (k : Nat) (x : D) (q : D → Prop), ts[k]? = some x → (∀ y, R k x y → q y) → te (σb.set 0 (.val x)) q)
    (hq : ∀ ys : List D, ys.length = ts.length → (∀ (k : Nat) (x y : D), ts[k]? = some x → ys[k]? = some y → R k x y) → Q (.list ys)) :
    ts.length ≤ 100000 ∧ ∃ P : Nat → List Sl → List D → Prop, P 0 σb [] ∧
      (∀ (k : Nat) (x : D) (σ' : List Sl) (ds : List D), ts[k]? = some x → P k σ' ds → gN 0 x σ' fun σ2 => cTrue σ2 fun b => if b = true then te σ2 fun y => P (k + 1) σ2 (ds ++ [y]) else P (k + 1) σ2 ds) ∧ ∀ σ' ds, P ts.length σ' ds → Q (.list ds) := by
  refine ⟨hz, fun k σ' ds => (∀ x, σ'.set 0 (.val x) = σb.set 0 (.val x)) ∧ ds.length = k ∧ ∀ (j : Nat) (x y : D), ts[j]? = some x → ds[j]? = some y → R j x y, ⟨fun _ => rfl, rfl, fun j x y _ h => by simp at h⟩, fun k x σ' ds hx h => ?_, fun σ' ds h => hq ds h.2.1 h.2.2⟩
  obtain ⟨h1, h2, h3⟩ := h
  show te (σ'.set 0 (.val x)) _
  rw [h1 x]
  refine ht k x _ hx fun y hy => ⟨fun z => set_set _ _ _ _, by simp [h2], fun j x' y' e1 e2 => ?_⟩
  by_cases hj : j < k
  · rw [List.getElem?_append_left (by omega)] at e2
    exact h3 j x' y' e1 e2
  · rw [List.getElem?_append_right (by omega)] at e2
    have : j = k := by
      by_cases e : j = k
      · exact e
      · have : j - ds.length ≠ 0 := by omega
        cases q : j - ds.length with
        | zero => exact absurd q this
        | succ n => rw [q] at e2; simp at e2
    subst this
    rw [hx] at e1
    cases e1
    simp [h2] at e2
    subst e2
    exact hy
theorem lc_map {ts : List D} {σb : List Sl} {te : ET} {Q : D → Prop} (f : D → D) (hz : ts.length ≤ 100000) (ht : ∀ (x : D) (q : D → Prop), x ∈ ts → q (f x) → te (σb.set 0 (.val x)) q) (hq : Q (.list (ts.map f))) :
    ts.length ≤ 100000 ∧ ∃ P : Nat → List Sl → List D → Prop, P 0 σb [] ∧
      (∀ (k : Nat) (x : D) (σ' : List Sl) (ds : List D), ts[k]? = some x → P k σ' ds → gN 0 x σ' fun σ2 => cTrue σ2 fun b => if b = true then te σ2 fun y => P (k + 1) σ2 (ds ++ [y]) else P (k + 1) σ2 ds) ∧ ∀ σ' ds, P ts.length σ' ds → Q (.list ds) := by
  refine lc_in (fun k x y => y = f x) hz (fun k x q hx h => ht x q (List.mem_of_getElem? hx) (h _ rfl)) fun ys hl h => ?_
  have e : ys = ts.map f := by
    apply List.ext_getElem?
    intro i
    rw [List.getElem?_map]
    cases hx : ts[i]? with
    | none =>
      rw [List.getElem?_eq_none (by rw [hl]; exact List.getElem?_eq_none_iff.mp hx)]; rfl
    | some x =>
      have hi : i < ys.length := by rw [hl]; exact (List.getElem?_eq_some_iff.mp hx).1
      have := h i x ys[i] hx (List.getElem?_eq_getElem hi)
      rw [List.getElem?_eq_getElem hi, this]; rfl
  rw [e]; exact hq
theorem lc_filt {ts : List D} {σb : List Sl} {tt : TTt} {te : ET} {Q : D → Prop} (p : D → Bool) (f : D → D) (hz : ts.length ≤ 100000) (hp : ∀ (x : D) (q : Bool → Prop), x ∈ ts → q (p x) → tt (σb.set 0 (.val x)) q)
    (ht : ∀ (x : D) (q : D → Prop), x ∈ ts → q (f x) → te (σb.set 0 (.val x)) q) (hq : Q (.list ((ts.filter p).map f))) :
    ts.length ≤ 100000 ∧ ∃ P : Nat → List Sl → List D → Prop, P 0 σb [] ∧
      (∀ (k : Nat) (x : D) (σ' : List Sl) (ds : List D), ts[k]? = some x → P k σ' ds → gN 0 x σ' fun σ2 => tt σ2 fun b => if b = true then te σ2 fun y => P (k + 1) σ2 (ds ++ [y]) else P (k + 1) σ2 ds) ∧ ∀ σ' ds, P ts.length σ' ds → Q (.list ds) := by
  refine ⟨hz, fun k σ' ds => (∀ x, σ'.set 0 (.val x) = σb.set 0 (.val x)) ∧ ds = ((ts.take k).filter p).map f, ⟨fun _ => rfl, rfl⟩, fun k x σ' ds hx h => ?_, fun σ' ds h => ?_⟩
  · obtain ⟨h1, rfl⟩ := h
    have hm : x ∈ ts := List.mem_of_getElem? hx
    show tt (σ'.set 0 (.val x)) _
    rw [h1 x]
    refine hp x _ hm ?_
    have e : ts.take (k + 1) = ts.take k ++ [x] := by rw [List.take_add_one, hx]; rfl
    cases hb : p x with
    | true =>
      rw [if_pos rfl]
      refine ht x _ hm ⟨fun z => set_set _ _ _ _, ?_⟩
      rw [e, List.filter_append, List.map_append]
      simp [hb]
    | false =>
      rw [if_neg (by decide)]
      refine ⟨fun z => set_set _ _ _ _, ?_⟩
      rw [e, List.filter_append, List.map_append]
      simp [hb]
  · obtain ⟨_, rfl⟩ := h
    rw [List.take_length]
    exact hq

section
variable {fr : List (Option Nat)} {ti : IT} {tt : TTt} {te : ET} {σ : List Sl} {Q : D → Prop} {ts : List D}
abbrev Gives' (ti : IT) (σ : List Sl) (ts : List D) : Prop := ∀ R : List D → Prop, R ts → ti σ R
theorem lcx_map (hti : Gives' ti σ ts) (f : D → D) (hz : ts.length ≤ 100000) (ht : ∀ (x : D) (q : D → Prop), x ∈ ts → q (f x) → te ((inBlkT fr σ).set 0 (.val x)) q) (hq : Q (.list (ts.map f))) : eLc fr ti (gN 0) cTrue te σ Q :=
  hti _ (lc_map (te := te) (Q := Q) f hz ht hq)
theorem lcx_in (hti : Gives' ti σ ts) (R : Nat → D → D → Prop) (hz : ts.length ≤ 100000)
    (ht : ∀ (k : Nat) (x : D) (q : D → Prop), ts[k]? = some x → (∀ y, R k x y → q y) → te ((inBlkT fr σ).set 0 (.val x)) q)
    (hq : ∀ ys : List D, ys.length = ts.length → (∀ (k : Nat) (x y : D), ts[k]? = some x → ys[k]? = some y → R k x y) → Q (.list ys)) : eLc fr ti (gN 0) cTrue te σ Q :=
  hti _ (lc_in (te := te) (Q := Q) R hz ht hq)
theorem lcx_filt (hti : Gives' ti σ ts) (p : D → Bool) (f : D → D) (hz : ts.length ≤ 100000) (hp : ∀ (x : D) (q : Bool → Prop), x ∈ ts → q (p x) → tt ((inBlkT fr σ).set 0 (.val x)) q)
    (ht : ∀ (x : D) (q : D → Prop), x ∈ ts → q (f x) → te ((inBlkT fr σ).set 0 (.val x)) q) (hq : Q (.list ((ts.filter p).map f))) : eLc fr ti (gN 0) tt te σ Q :=
  hti _ (lc_filt (tt := tt) (te := te) (Q := Q) p f hz hp ht hq)
theorem forx {g : GT} {tb : STt} {DT : EndsT} (hti : Gives' ti σ ts) (P : Nat → List Sl → Prop) (h0 : P 0 σ)
    (hs : ∀ (k : Nat) (x : D) (σ' : List Sl), ts[k]? = some x → P k σ' → g x σ' fun σ2 => tb { DT with nx := P (k + 1), ct := P (k + 1), bk := DT.nx } σ2) (hd : ∀ σ', P ts.length σ' → DT.nx σ') : sFor ti g tb DT σ := hti _ ⟨P, h0, hs, hd⟩
end
end TL

set_option Elab.async false
set_option linter.all false
set_option maxRecDepth 100000
namespace TL
open PySem PySem.Spec PyProof.Rows L2
theorem app_codes (x y : Str) : (x ++ y).cps.toList = x.cps.toList ++ y.cps.toList := by
  show (x.cps ++ y.cps).toList = _
  simp
theorem pick_codes (xs : Array Nat) (a k : Nat) : (List.range k).filterMap (fun m => xs[a + m]?) = (xs.toList.drop a).take k := by
  induction k with
  | zero => simp
  | succ k ih =>
    rw [List.range_succ, List.filterMap_append, ih, List.take_add_one, List.getElem?_drop]
    congr 1
    simp only [List.filterMap_cons, List.filterMap_nil]
    rw [Array.getElem?_toList]
    cases xs[a + k]? <;> rfl
theorem clip_ix (v : Option Int) (n d : Nat) (hd : d ≤ n) : (match v with | none => (d : Int) | some i => max 0 (min (if i < 0 then i + (n : Int) else i) (n : Int))) = ((HT.sIx n d v : Nat) : Int) := by
  cases v with
  | none => rfl
  | some i =>
    have := HT.clip_eq i n d
    rw [← this]
    dsimp only
    split <;> omega
theorem clip_ix0 (v : Option Int) (n : Nat) : (match v with | none => (0 : Int) | some i => max 0 (min (if i < 0 then i + (n : Int) else i) (n : Int))) = ((HT.sIx n 0 v : Nat) : Int) := clip_ix v n 0 (Nat.zero_le _)
theorem sr_congr {a a' b b' : Int} (h1 : a = a') (h2 : b = b') : sliceRange a b 1 = sliceRange a' b' 1 := by rw [h1, h2]
theorem slice_codes (z : Str) (lo hi : Option Int) : (Txt.slice z lo hi).cps.toList = cutD z.cps.toList lo hi := by
  have hn : z.cps.toList.length = z.length := by simp [Str.length]
  have ha := HT.sIx_le z.length 0 (Nat.zero_le _) lo
  have hb := HT.sIx_le z.length z.length (Nat.le_refl _) hi
  have hI : Builtin.Str.strSliceIndices lo hi 1 z.length = (List.range (HT.sIx z.length z.length hi - HT.sIx z.length 0 lo)).map (fun k => HT.sIx z.length 0 lo + k) := by
    unfold Builtin.Str.strSliceIndices
    simp only [show (1 : Int) > 0 by decide, if_true]
    refine (sr_congr (clip_ix0 lo z.length) (clip_ix hi z.length z.length (Nat.le_refl _))).trans ?_
    unfold sliceRange
    simp only [show (1 : Int) > 0 by decide, if_true]
    generalize HT.sIx z.length 0 lo = a
    generalize HT.sIx z.length z.length hi = b
    have ec : (if (a : Int) < (b : Int) then ((b : Int) - a + 1 - 1) / 1 else 0).toNat = b - a := by split <;> omega
    rw [ec]
    apply List.map_congr_left
    intro k _
    omega
  unfold Txt.slice cutD
  rw [hn, hI]
  generalize HT.sIx z.length 0 lo = a at *
  generalize HT.sIx z.length z.length hi = b at *
  split
  · next h =>
    simp only [beq_self_eq_true, Bool.true_and, beq_iff_eq, List.length_map, List.length_range] at h
    have h1 : a = 0 := by omega
    have h2 : b - a = z.cps.toList.length := by rw [hn]; exact h
    rw [h2, h1, List.drop_zero, List.take_length]
  · rw [List.filterMap_map]
    exact pick_codes z.cps a (b - a)
theorem join_codes : ∀ ys : List Str, (Txt.join ⟨#[]⟩ ys).cps.toList = (ys.map (·.cps.toList)).flatten := by
  intro ys
  show (Builtin.Str.glued ⟨#[]⟩ ys).cps.toList = _
  rw [StrLaws.glued_eq_join]
  induction ys with
  | nil => rfl
  | cons x ys ih =>
    cases ys with
    | nil => simp [Str.join]
    | cons y r =>
      show (x ++ ⟨#[]⟩ ++ Str.join ⟨#[]⟩ (y :: r)).cps.toList = _
      rw [app_codes, app_codes, ih]
      simp
theorem in_one (x : Str) (c : Nat) : Txt.contains x ⟨#[c]⟩ = decide (c ∈ x.cps.toList) := StrLaws.found_one x c
section
variable {te : ET} {u t e : STt} {c : TTt} {DT : EndsT} {σ : List Sl} {i : Nat}
theorem seq_set (v : D) (h : ∀ q : D → Prop, q v → te σ q) (k : u DT (σ.set i (.val v))) : sSeq (sSet i te) u DT σ := h _ k
theorem seq_setR (R : D → Prop) (h : ∀ q : D → Prop, (∀ v, R v → q v) → te σ q) (k : ∀ v, R v → u DT (σ.set i (.val v))) : sSeq (sSet i te) u DT σ := h _ k
theorem seq_if (R : Bool → Prop) (h : ∀ q : Bool → Prop, (∀ b, R b → q b) → c σ q) (k1 : R true → t { DT with nx := u DT } σ) (k0 : R false → e { DT with nx := u DT } σ) : sSeq (sIf c t e) u DT σ := by
  refine h _ fun b hb => ?_
  cases b with
  | true => rw [if_pos rfl]; exact k1 hb
  | false => rw [if_neg (by decide)]; exact k0 hb
theorem one_if (R : Bool → Prop) (h : ∀ q : Bool → Prop, (∀ b, R b → q b) → c σ q) (k1 : R true → t DT σ) (k0 : R false → e DT σ) : sIf c t e DT σ := by
  refine h _ fun b hb => ?_
  cases b with
  | true => rw [if_pos rfl]; exact k1 hb
  | false => rw [if_neg (by decide)]; exact k0 hb
theorem seq_for {ti : IT} {ts : List D} {g : GT} {tb : STt} (hti : Gives' ti σ ts) (P : Nat → List Sl → Prop) (h0 : P 0 σ)
    (hs : ∀ (k : Nat) (x : D) (σ' : List Sl), ts[k]? = some x → P k σ' → g x σ' fun σ2 => tb { DT with nx := P (k + 1), ct := P (k + 1), bk := u DT } σ2) (hd : ∀ σ', P ts.length σ' → u DT σ') : sSeq (sFor ti g tb) u DT σ :=
  forx (DT := { DT with nx := u DT }) hti P h0 hs hd
theorem seq_own {t : AT} (ds : List D) (hz : ds.length ≤ 1000) (h : ∀ q : List D → Prop, q ds → t σ q) (k : u DT (σ.set i (.own ds))) : sSeq (sOwn i t) u DT σ := h _ ⟨hz, k⟩
theorem seq_app {ts : List D} (v : D) (ho : σ[i]? = some (.own ts)) (hz : ts.length ≤ 100000) (h : ∀ q : D → Prop, q v → te σ q) (k : u DT (σ.set i (.own (ts ++ [v])))) : sSeq (sApp i te) u DT σ := ⟨ts, ho, h _ ⟨hz, k⟩⟩
theorem one_app {ts : List D} (v : D) (ho : σ[i]? = some (.own ts)) (hz : ts.length ≤ 100000) (h : ∀ q : D → Prop, q v → te σ q) (k : DT.nx (σ.set i (.own (ts ++ [v])))) : sApp i te DT σ := ⟨ts, ho, h _ ⟨hz, k⟩⟩
theorem one_set (v : D) (h : ∀ q : D → Prop, q v → te σ q) (k : DT.nx (σ.set i (.val v))) : sSet i te DT σ := h _ k
end
end TL

set_option Elab.async false
set_option linter.all false
set_option maxRecDepth 100000
namespace TL
open PySem PySem.Spec PyProof.Rows L2
mutual
theorem noDict : ∀ {d : D}, d.canLay0 = true → d.hasDict = false
  | .none, _ => rfl
  | .bool _, _ => rfl
  | .int _, _ => rfl
  | .str _, _ => rfl
  | .list _, h => noDictAll h
  | .tuple _, h => noDictAll h
  | .dict _, h => by cases h
theorem noDictAll : ∀ {ds : List D}, PyData.canLayAll0 ds = true → PyData.hasDictAll ds = false
  | [], _ => rfl
  | d :: ds, h => by
    have h' : (d.canLay0 && PyData.canLayAll0 ds) = true := h
    rw [Bool.and_eq_true] at h'
    show (d.hasDict || PyData.hasDictAll ds) = false
    rw [noDict h'.1, noDictAll h'.2]; rfl
end
section
variable {X : Cx} {a b e : Expr} {es : List Expr} {te : ET} {pos : Pos}
def rData (K : PySem.W.Frag) (ok : D → D → Prop) (f : D → D → Bool) : R2 := fun x y H Q => ∃ d1 d2, Rep K H d1 x ∧ Rep K H d2 y ∧ ok d1 d2 ∧ Q (.bl (f d1 d2)) H
def fData (ok : D → D → Prop) (f : D → D → Bool) (x y : D) (Q : D → Prop) : Prop := ok x y ∧ Q (.bool (f x y))
theorem o_data {ok : D → D → Prop} {f : D → D → Bool} : Op2 X (rData X.K ok f) (fData ok f) := by
  intro H ps d1 d2 x y Q QV live r1 r2 h k
  exact ⟨d1, d2, r1.same mask_le, r2.same mask_le, h.1, k _ _ H (L2.Same.refl H) (.bool _) h.2⟩
def okEq (d1 d2 : D) : Prop := d1.canLay0 = true ∧ d2.canLay0 = true ∧ min d1.depth d2.depth ≤ 60
theorem op_eqD {k : Nat} (hr : Room k X.A) : OpR X (compareOp .Eq) (rData X.K okEq PyData.eqv) := by
  intro pins s σ H x y v u Q I rx ry h
  obtain ⟨d1, d2, r1, r2, ⟨c1, c2, hm⟩, q⟩ := h
  obtain ⟨as, h1⟩ := Rep.reads I (noDict c1) r1 rx
  obtain ⟨bs, h2⟩ := Rep.reads I (noDict c2) r2 ry
  exact SeqAt.compareEq_reads h1 h2 c1 c2 (by have := hr.un; omega) ⟨.bl _, H, I, rfl, q⟩
theorem op_neD {k : Nat} (hr : Room k X.A) : OpR X (compareOp .NotEq) (rData X.K okEq fun x y => !PyData.eqv x y) := by
  intro pins s σ H x y v u Q I rx ry h
  obtain ⟨d1, d2, r1, r2, ⟨c1, c2, hm⟩, q⟩ := h
  obtain ⟨as, h1⟩ := Rep.reads I (noDict c1) r1 rx
  obtain ⟨bs, h2⟩ := Rep.reads I (noDict c2) r2 ry
  exact SeqAt.compareNe_reads h1 h2 c1 c2 (by have := hr.un; omega) ⟨.bl _, H, I, rfl, q⟩
def okIn (x y : D) : Prop := match y with
  | .list ts => PyData.canLayAll0 ts = true ∧ x.canLay0 = true ∧ min (PyData.depthAll ts) x.depth ≤ 60
  | .tuple ts => PyData.canLayAll0 ts = true ∧ x.canLay0 = true ∧ min (PyData.depthAll ts) x.depth ≤ 60
  | _ => False
def inD (x y : D) : Bool := match y with
  | .list ts => ts.any fun z => PyData.eqv z x
  | .tuple ts => ts.any fun z => PyData.eqv z x
  | _ => false
theorem op_inData {k : Nat} (hr : Room k X.A) : OpR X (compareOp .In) (rData X.K okIn inD) := by
  intro pins s σ H x y v u Q I rx ry h
  obtain ⟨d1, d2, r1, r2, ho, q⟩ := h
  have hd : d1.hasDict = false ∧ d2.hasDict = false := by
    cases d2 with
    | list ts => exact ⟨noDict ho.2.1, noDictAll ho.1⟩
    | tuple ts => exact ⟨noDict ho.2.1, noDictAll ho.1⟩
    | _ => exact ho.elim
  obtain ⟨as, h1⟩ := Rep.reads I hd.1 r1 rx
  obtain ⟨bs, h2⟩ := Rep.reads I hd.2 r2 ry
  cases d2 with
  | list ts => exact SeqAt.in_list_reads h2 h1 ho.1 ho.2.1 (by have := hr.un; have := ho.2.2; omega) ⟨.bl _, H, I, rfl, q⟩
  | tuple ts => exact SeqAt.in_tuple_reads h2 h1 ho.1 ho.2.1 (by have := hr.un; have := ho.2.2; omega) ⟨.bl _, H, I, rfl, q⟩
  | _ => exact ho.elim
theorem op_notInData {k : Nat} (hr : Room k X.A) : OpR X (compareOp .NotIn) (rData X.K okIn fun x y => !inD x y) := by
  intro pins s σ H x y v u Q I rx ry h
  obtain ⟨d1, d2, r1, r2, ho, q⟩ := h
  have hd : d1.hasDict = false ∧ d2.hasDict = false := by
    cases d2 with
    | list ts => exact ⟨noDict ho.2.1, noDictAll ho.1⟩
    | tuple ts => exact ⟨noDict ho.2.1, noDictAll ho.1⟩
    | _ => exact ho.elim
  obtain ⟨as, h1⟩ := Rep.reads I hd.1 r1 rx
  obtain ⟨bs, h2⟩ := Rep.reads I hd.2 r2 ry
  cases d2 with
  | list ts => exact SeqAt.notIn_list_reads h2 h1 ho.1 ho.2.1 (by have := hr.un; have := ho.2.2; omega) ⟨.bl _, H, I, rfl, q⟩
  | tuple ts => exact SeqAt.notIn_tuple_reads h2 h1 ho.1 ho.2.1 (by have := hr.un; have := ho.2.2; omega) ⟨.bl _, H, I, rfl, q⟩
  | _ => exact ho.elim
def fIn2 (x y : D) (Q : D → Prop) : Prop := match x, y with
  | .str z, .str y => Q (.bool (Txt.contains y z))
  | x, y => okIn x y ∧ Q (.bool (inD x y))
theorem op_in2 {k : Nat} (hr : Room k X.A) : OpR X (compareOp .In) (fun x y H Q => (∃ i j, x = .str i ∧ y = .str j ∧ Q (.bl (!(Builtin.Str.occurrences j i 0 j.length 1).isEmpty)) H) ∨ rData X.K okIn inD x y H Q) := op_in_str.or (op_inData hr)
theorem o_in2 : Op2 X (fun x y H Q => (∃ i j, x = .str i ∧ y = .str j ∧ Q (.bl (!(Builtin.Str.occurrences j i 0 j.length 1).isEmpty)) H) ∨ rData X.K okIn inD x y H Q) fIn2 := by
  intro H ps d1 d2 x y Q QV live r1 r2 h k
  have gen : okIn d1 d2 ∧ Q (.bool (inD d1 d2)) → _ := fun h => (.inr ⟨d1, d2, r1.same mask_le, r2.same mask_le, h.1, k _ _ H (L2.Same.refl H) (.bool _) h.2⟩ : (∃ i j, x = .str i ∧ y = .str j ∧ QV (.bl (!(Builtin.Str.occurrences j i 0 j.length 1).isEmpty)) H) ∨ rData X.K okIn inD x y H QV)
  cases r1 with
  | str z =>
    cases r2 with
    | str w => exact .inl ⟨z, w, rfl, rfl, k _ _ H (L2.Same.refl H) (.bool _) h⟩
    | _ => exact gen h
  | _ => exact gen h
def isNoneD : D → Bool
  | .none => true
  | _ => false
def fIs (x y : D) (Q : D → Prop) : Prop := match y with | .bool b => Q (.bool (isTrueD b x)) | .none => Q (.bool (isNoneD x)) | _ => False
theorem op_is2 : OpR X (compareOp .Is) (fun x y H Q => rIsB x y H Q ∨ (y = .non ∧ Q (.bl (decide (x = .non))) H)) := op_isB.or op_isN
theorem o_is2 : Op2 X (fun x y H Q => rIsB x y H Q ∨ (y = .non ∧ Q (.bl (decide (x = .non))) H)) fIs := by
  intro H ps d1 d2 x y Q QV live r1 r2 h k
  cases r2 with
  | bool b =>
    refine .inl ⟨b, rfl, ?_⟩
    have e : (decide (x = V.bl b)) = isTrueD b d1 := by cases r1 <;> simp [isTrueD]
    rw [e]
    exact k _ _ H (L2.Same.refl H) (.bool _) h
  | none =>
    refine .inr ⟨rfl, ?_⟩
    have e : (decide (x = V.non)) = isNoneD d1 := by cases r1 <;> simp [isNoneD]
    rw [e]
    exact k _ _ H (L2.Same.refl H) (.bool _) h
  | _ => exact h.elim
end
end TL

set_option Elab.async false
set_option linter.all false
set_option maxRecDepth 100000
namespace L2
open PySem PySem.Spec PyProof.Rows
section
variable {P : Program} {w : World} {A : Around} {E : Value → Shared → Prop} {s : Shared}
theorem nextOf_tup {i t : Addr} {k : Nat} {xs : Array Value} {x : Value} {Q : Value → Shared → Prop} (hit : s.heap.IsTupleIter i t k) (ht : s.heap.IsTuple t xs) (hx : xs[k]? = some x)
    (hQ : ∀ h', h'.IsTupleIter i t (k + 1) → Heap.SameBut i s.heap h' → Q x { s with heap := h' }) : wpAny (model P w) A (Builtin.SmallTypes.nextOf (.ref i)) Q E s := by
  obtain ⟨o, ho, hc, hd⟩ := id hit
  obtain ⟨ol, hol, _, nl, hdl⟩ := ht
  unfold Builtin.SmallTypes.nextOf
  refine wpAny_bind (wpAny_callSpecial?_slot (name := Str.ofString "__next__") hit.typeIs F.slot_tuple_iterator_next (wpAny_call_entry F.slot_tuple_iterator_next hit.typeIs F.entry_tuple_iterator_next ?_ (F.args_tuple_iterator_next_1 _)))
  show wpAny _ _ (field (.ref i) 0 >>= _) _ _ s
  refine wpAny_bind (wpAny_field ho hd (x := .ref t) rfl ?_)
  show wpAny _ _ (if (Value.ref t == Value.none) = true then _ else _) _ _ s
  rw [if_neg (show ¬ ((Value.ref t == Value.none) = true) from Bool.false_ne_true)]
  show wpAny _ _ (field (.ref i) 1 >>= _) _ _ s
  refine wpAny_bind (wpAny_field ho hd (x := .int k 0) rfl ?_)
  show wpAny _ _ (seqItems? (.ref t) >>= _) _ _ s
  refine wpAny_bind (wpAny_seqItems hol hdl ?_)
  simp only [Int.toNat_natCast, hx]
  refine wpAny_bind (wpAny_setField ho hd (by simp) (wpAny_pure ⟨x, rfl, wpAny_pure (hQ _ ?_ (Heap.SameBut.update ..))⟩))
  exact ⟨_, Heap.get?_update_self _ ho (Obj.isFreed_of_fields (Obj.data_mapFields hd _)), (Obj.cls_mapFields ..).trans hc, by rw [Obj.data_mapFields hd]; simp [rawInt]⟩
theorem nextOf_tup_end {i t : Addr} {k : Nat} {xs : Array Value} {Q : Value → Shared → Prop} (hh : A.handled = none) (hit : s.heap.IsTupleIter i t k) (ht : s.heap.IsTuple t xs) (hx : xs[k]? = none)
    (hE : ∀ h' e, Heap.ExtBut i s.heap h' → (∃ o, h'.get? e = some o ∧ o.cls = .type "StopIteration") → E (.ref e) { s with heap := h' }) : wpAny (model P w) A (Builtin.SmallTypes.nextOf (.ref i)) Q E s := by
  obtain ⟨o, ho, hc, hd⟩ := id hit
  obtain ⟨ol, hol, _, nl, hdl⟩ := ht
  unfold Builtin.SmallTypes.nextOf
  refine wpAny_bind (wpAny_callSpecial?_slot (name := Str.ofString "__next__") hit.typeIs F.slot_tuple_iterator_next (wpAny_call_entry F.slot_tuple_iterator_next hit.typeIs F.entry_tuple_iterator_next ?_ (F.args_tuple_iterator_next_1 _)))
  show wpAny _ _ (field (.ref i) 0 >>= _) _ _ s
  refine wpAny_bind (wpAny_field ho hd (x := .ref t) rfl ?_)
  show wpAny _ _ (if (Value.ref t == Value.none) = true then _ else _) _ _ s
  rw [if_neg (show ¬ ((Value.ref t == Value.none) = true) from Bool.false_ne_true)]
  show wpAny _ _ (field (.ref i) 1 >>= _) _ _ s
  refine wpAny_bind (wpAny_field ho hd (x := .int k 0) rfl ?_)
  show wpAny _ _ (seqItems? (.ref t) >>= _) _ _ s
  refine wpAny_bind (wpAny_seqItems hol hdl ?_)
  simp only [Int.toNat_natCast, hx]
  refine wpAny_bind (wpAny_rule (wpAny_bind (wpAny_setField ho hd (by simp) ?_)))
  show wpAny _ _ (newExc (.type "StopIteration") [] >>= _) _ _ _
  refine wpAny_bind ?_
  simp only [newExc, newTuple]
  refine wpAny_bind (wpAny_newObj_type ?_ (by size_fits))
  refine wpAny_bind (m := firstArgMember _ _) (wpAny_of_eq (a := Value.none) (by first | rfl | (simp only [firstArgMember]; rfl)) ?_)
  refine wpAny_newObj_type ?_ (by size_fits)
  simp only [raiseNew]
  refine wpAny_bind (wpAny_handled ?_)
  first | rw [show A.in1.handled = none from hh] | rw [hh]
  refine wpAny_bind (wpAny_pure (wpAny_throw ?_))
  exact hE _ _ (((Heap.SameBut.update ..).extBut.push _).push _) ⟨_, Heap.get?_push_size _ rfl, rfl⟩
end
structure Drawn2 (P : Program) (w : World) (i l : Addr) (st : Nat → Heap → Prop) (src : Array Value → Heap → Prop) : Prop where
  stAt : ∀ k h h', st k h → (∀ o, h.get? i = some o → h'.get? i = some o) → st k h'
  srcAt : ∀ xs h h', src xs h → (∀ o, h.get? l = some o → h'.get? l = some o) → src xs h'
  has : ∀ k h, st k h → ∃ o, h.get? i = some o ∧ ∀ v, o.data ≠ .cell v
  item : ∀ (A : Around) (E : Value → Shared → Prop) (s : Shared) (k : Nat) (xs : Array Value) (x : Value) (Q : Value → Shared → Prop), st k s.heap → src xs s.heap → xs[k]? = some x →
    (∀ h', st (k + 1) h' → Heap.SameBut i s.heap h' → Q x { s with heap := h' }) → wpAny (model P w) A (Builtin.SmallTypes.nextOf (.ref i)) Q E s
  fin : ∀ (A : Around) (E : Value → Shared → Prop) (s : Shared) (k : Nat) (xs : Array Value) (Q : Value → Shared → Prop), A.handled = none → st k s.heap → src xs s.heap → xs[k]? = none →
    (∀ h' e, Heap.ExtBut i s.heap h' → (∃ o, h'.get? e = some o ∧ o.cls = .type "StopIteration") → E (.ref e) { s with heap := h' }) → wpAny (model P w) A (Builtin.SmallTypes.nextOf (.ref i)) Q E s
theorem drawn_tup {P : Program} {w : World} (i l : Addr) : Drawn2 P w i l (fun k h => h.IsTupleIter i l k) (fun xs h => h.IsTuple l xs) where
  stAt := fun _ _ _ x e => x.at e
  srcAt := fun _ _ _ x e => x.at e
  has := fun k h x => by obtain ⟨o, e, c, d⟩ := x; exact ⟨o, e, fun v q => by rw [d] at q; cases q⟩
  item := fun _ _ _ _ _ _ _ h1 h2 hx hQ => nextOf_tup h1 h2 hx hQ
  fin := fun _ _ _ _ _ _ hh h1 h2 hx hE => nextOf_tup_end hh h1 h2 hx hE
section
variable {P : Program} {w : World} {A : Around} {E : Value → Shared → Prop} {s : Shared} {z TI TO i1 i2 l1 l2 : Addr} {st1 st2 : Nat → Heap → Prop} {src1 src2 : Array Value → Heap → Prop} {k : Nat} {xs ys : Array Value} {a b : Value}
theorem zip_draw {x y : Value} {Q : Value → Shared → Prop} (d1 : Drawn2 P w i1 l1 st1 src1) (d2 : Drawn2 P w i2 l2 st2 src2) (D : ZipApart z TI TO i1 i2 l1 l2) (hz : IsZip s.heap z TI TO .none) (hTI : IsPair s.heap TI (.ref i1) (.ref i2)) (hTO : IsPair s.heap TO a b)
    (h1 : st1 k s.heap) (h2 : st2 k s.heap) (hl1 : src1 xs s.heap) (hl2 : src2 ys s.heap) (hx : xs[k]? = some x) (hy : ys[k]? = some y)
    (hQ : ∀ h', IsZip h' z TI TO (rawInt s.heap.objs.size) → IsPair h' TO x y → st1 (k + 1) h' → st2 (k + 1) h' → IsPair h' s.heap.objs.size x y → h'.objs.size = s.heap.objs.size + 1 →
      (∀ c o, c ≠ z → c ≠ TO → c ≠ i1 → c ≠ i2 → s.heap.get? c = some o → h'.get? c = some o) → Q (.ref s.heap.objs.size) { s with heap := h' }) :
    wpAny (model P w) A (Builtin.«zip.__next__» ⟨[.ref z], []⟩) (fun fin s' => ∃ v, fin = .done (.ret v) ∧ Q v s') E s := by
  show wpAny _ _ (field (.ref z) 2 >>= _) _ _ _
  refine wpAny_bind (wpAny_field hz rfl (x := .bool false) rfl ?_)
  show wpAny _ _ (field (.ref z) 3 >>= _) _ _ _
  refine wpAny_bind (wpAny_field hz rfl (x := .ref TI) rfl ?_)
  refine wpAny_bind (wpAny_seqItems hTI rfl ?_)
  show wpAny _ _ (Builtin.SmallTypes.ownedTupleIsFree (.ref z) >>= _) _ _ _
  refine wpAny_bind ?_
  unfold Builtin.SmallTypes.ownedTupleIsFree
  refine wpAny_bind (wpAny_field hz rfl (x := .none) rfl (wpAny_pure ?_))
  simp only [if_true]
  refine wpAny_bind (wpAny_rule ?_)
  refine wpAny_bind (wpAny_field hz rfl (x := .ref TO) rfl ?_)
  refine wpAny_bind (wpAny_setField_rec hz (by simp) fun ha hza sa => ?_)
  replace hza : IsZip ha z TI TO .ellipsis := hza
  refine wpAny_bind ?_
  simp only [List.zipIdx_cons, List.zipIdx_nil, List.forIn_cons, List.forIn_nil]
  refine wpAny_bind (wpAny_bind (wpAny_onRaise ?_))
  show wpAny _ _ (Builtin.SmallTypes.nextOf (.ref i1) >>= _) _ _ _
  refine wpAny_bind (d1.item _ _ _ k xs x _ (d1.stAt _ _ _ h1 fun o e => sa.extBut _ _ D.i1z e) (d1.srcAt _ _ _ hl1 fun o e => sa.extBut _ _ D.l1z e) hx fun hb h1b sb => wpAny_pure ?_)
  have tob : IsPair hb TO a b := sb.extBut _ _ D.TOi1 (sa.extBut _ _ D.TOz hTO)
  refine wpAny_bind (wpAny_seqItems tob rfl ?_)
  refine wpAny_bind (wpAny_updateSeq_pair tob fun hc toc sc => ?_)
  replace toc : IsPair hc TO x b := toc
  refine wpAny_bind (wpAny_letGo (wpAny_pure ?_))
  refine wpAny_bind (wpAny_bind (wpAny_onRaise ?_))
  show wpAny _ _ (Builtin.SmallTypes.nextOf (.ref i2) >>= _) _ _ _
  refine wpAny_bind (d2.item _ _ _ k ys y _ (d2.stAt _ _ _ h2 fun o e => sc.extBut _ _ D.TOi2.symm (sb.extBut _ _ D.i12.symm (sa.extBut _ _ D.i2z e)))
    (d2.srcAt _ _ _ hl2 fun o e => sc.extBut _ _ D.l2TO (sb.extBut _ _ D.l2i1 (sa.extBut _ _ D.l2z e))) hy fun hd h2d sd => wpAny_pure ?_)
  have tod : IsPair hd TO x b := sd.extBut _ _ D.TOi2 toc
  refine wpAny_bind (wpAny_seqItems tod rfl ?_)
  refine wpAny_bind (wpAny_updateSeq_pair tod fun he toe se => ?_)
  replace toe : IsPair he TO x y := toe
  refine wpAny_bind (wpAny_letGo (wpAny_pure (wpAny_pure ?_)))
  refine wpAny_bind (wpAny_seqItems toe rfl ?_)
  refine wpAny_bind (wpAny_newTuple ?_)
  have hsz : he.objs.size = s.heap.objs.size := by rw [se.1, sd.1, sc.1, sb.1, sa.1]
  have hze : IsZip he z TI TO .ellipsis := se.extBut _ _ D.TOz.symm (sd.extBut _ _ D.i2z.symm (sc.extBut _ _ D.TOz.symm (sb.extBut _ _ D.i1z.symm hza)))
  have ke : ∀ c o, c ≠ z → c ≠ TO → c ≠ i1 → c ≠ i2 → s.heap.get? c = some o → he.get? c = some o := fun c o c1 c2 c3 c4 e =>
    se.extBut _ _ c2 (sd.extBut _ _ c4 (sc.extBut _ _ c2 (sb.extBut _ _ c3 (sa.extBut _ _ c1 e))))
  have h1e : st1 (k + 1) he := d1.stAt _ _ _ h1b fun o e => se.extBut _ _ D.TOi1.symm (sd.extBut _ _ D.i12 (sc.extBut _ _ D.TOi1.symm e))
  have h2e : st2 (k + 1) he := d2.stAt _ _ _ h2d fun o e => se.extBut _ _ D.TOi2.symm e
  have hzlt : z < he.objs.size := Heap.lt_size hze
  show wpAny _ _ (Builtin.SmallTypes.ownedTupleHandOut (.ref z) (.ref he.objs.size) >>= _) _ _ _
  refine wpAny_bind ?_
  unfold Builtin.SmallTypes.ownedTupleHandOut
  have hzf : IsZip (he.push { cls := .type "tuple", data := .seq #[x, y] }) z TI TO .ellipsis := Heap.get?_push_of_some _ hze
  refine wpAny_bind (wpAny_setField_rec hzf (by simp) fun hg hzg sg => ?_)
  replace hzg : IsZip hg z TI TO (rawInt he.objs.size) := hzg
  refine wpAny_setField_rec hzg (by simp) fun hi hzi si => ?_
  replace hzi : IsZip hi z TI TO (rawInt he.objs.size) := hzi
  have up : ∀ c o, c ≠ z → he.get? c = some o → hi.get? c = some o := fun c o c1 e => si.extBut _ _ c1 (sg.extBut _ _ c1 (Heap.get?_push_of_some _ e))
  have hT : IsPair hi he.objs.size x y := si.extBut _ _ (Nat.ne_of_gt hzlt) (sg.extBut _ _ (Nat.ne_of_gt hzlt) (Heap.get?_push_size _ rfl))
  have hz8 : hi.objs.size = he.objs.size + 1 := by rw [si.1, sg.1, Heap.size_push]
  rw [hsz] at hzi hT hz8
  refine wpAny_pure ⟨_, rfl, ?_⟩
  show Q (.ref he.objs.size) _
  rw [hsz]
  exact hQ hi hzi (up _ _ D.TOz toe) (d1.stAt _ _ _ h1e fun o e => up _ o D.i1z e) (d2.stAt _ _ _ h2e fun o e => up _ o D.i2z e) hT hz8 fun c o c1 c2 c3 c4 e => up c o c1 (ke c o c1 c2 c3 c4 e)
theorem zip_over {Q : Fin → Shared → Prop} (hh : A.handled = none) (d1 : Drawn2 P w i1 l1 st1 src1) (d2 : Drawn2 P w i2 l2 st2 src2) (D : ZipApart z TI TO i1 i2 l1 l2) (hz : IsZip s.heap z TI TO .none) (hTI : IsPair s.heap TI (.ref i1) (.ref i2)) (hTO : IsPair s.heap TO a b)
    (h1 : st1 k s.heap) (h2 : st2 k s.heap) (hl1 : src1 xs s.heap) (hl2 : src2 ys s.heap) (hend : xs[k]? = none ∨ ys[k]? = none)
    (hE : ∀ h' e, (∀ c o, c ≠ z → c ≠ TO → c ≠ i1 → c ≠ i2 → s.heap.get? c = some o → h'.get? c = some o) → (∃ o, h'.get? e = some o ∧ o.cls = .type "StopIteration") → E (.ref e) { s with heap := h' }) :
    wpAny (model P w) A (Builtin.«zip.__next__» ⟨[.ref z], []⟩) Q E s := by
  show wpAny _ _ (field (.ref z) 2 >>= _) _ _ _
  refine wpAny_bind (wpAny_field hz rfl (x := .bool false) rfl ?_)
  show wpAny _ _ (field (.ref z) 3 >>= _) _ _ _
  refine wpAny_bind (wpAny_field hz rfl (x := .ref TI) rfl ?_)
  refine wpAny_bind (wpAny_seqItems hTI rfl ?_)
  show wpAny _ _ (Builtin.SmallTypes.ownedTupleIsFree (.ref z) >>= _) _ _ _
  refine wpAny_bind ?_
  unfold Builtin.SmallTypes.ownedTupleIsFree
  refine wpAny_bind (wpAny_field hz rfl (x := .none) rfl (wpAny_pure ?_))
  simp only [if_true]
  refine wpAny_bind (wpAny_rule ?_)
  refine wpAny_bind (wpAny_field hz rfl (x := .ref TO) rfl ?_)
  refine wpAny_bind (wpAny_setField_rec hz (by simp) fun ha hza sa => ?_)
  replace hza : IsZip ha z TI TO .ellipsis := hza
  refine wpAny_bind ?_
  simp only [List.zipIdx_cons, List.zipIdx_nil, List.forIn_cons, List.forIn_nil]
  refine wpAny_bind (wpAny_bind (wpAny_onRaise ?_))
  show wpAny _ _ (Builtin.SmallTypes.nextOf (.ref i1) >>= _) _ _ _
  have g1 : st1 k ha := d1.stAt _ _ _ h1 fun o e => sa.extBut _ _ D.i1z e
  have q1 : src1 xs ha := d1.srcAt _ _ _ hl1 fun o e => sa.extBut _ _ D.l1z e
  cases hx : xs[k]? with
  | none =>
    refine wpAny_bind (d1.fin _ _ _ k xs _ hh g1 q1 hx fun hb e sb he => ?_)
    obtain ⟨oe, hoe, hce⟩ := he
    have hzb : IsZip hb z TI TO .ellipsis := sb _ _ D.i1z.symm hza
    have hez : e ≠ z := fun x => by subst x; rw [hzb] at hoe; cases hoe; simp at hce
    refine wpAny_setField_rec hzb (by simp) fun hc _ sc => hE hc e (fun c o c1 _ c3 _ x => sc.extBut _ _ c1 (sb _ _ c3 (sa.extBut _ _ c1 x))) ⟨oe, sc.extBut _ _ hez hoe, hce⟩
  | some x =>
    have hy : ys[k]? = none := by rcases hend with h | h; rw [hx] at h; cases h; exact h
    refine wpAny_bind (d1.item _ _ _ k xs x _ g1 q1 hx fun hb h1b sb => wpAny_pure ?_)
    have tob : IsPair hb TO a b := sb.extBut _ _ D.TOi1 (sa.extBut _ _ D.TOz hTO)
    refine wpAny_bind (wpAny_seqItems tob rfl ?_)
    refine wpAny_bind (wpAny_updateSeq_pair tob fun hc toc sc => ?_)
    refine wpAny_bind (wpAny_letGo (wpAny_pure ?_))
    refine wpAny_bind (wpAny_bind (wpAny_onRaise ?_))
    show wpAny _ _ (Builtin.SmallTypes.nextOf (.ref i2) >>= _) _ _ _
    refine wpAny_bind (d2.fin _ _ _ k ys _ hh (d2.stAt _ _ _ h2 fun o e => sc.extBut _ _ D.TOi2.symm (sb.extBut _ _ D.i12.symm (sa.extBut _ _ D.i2z e)))
      (d2.srcAt _ _ _ hl2 fun o e => sc.extBut _ _ D.l2TO (sb.extBut _ _ D.l2i1 (sa.extBut _ _ D.l2z e))) hy fun hd e sd he => ?_)
    obtain ⟨oe, hoe, hce⟩ := he
    have hzd : IsZip hd z TI TO .ellipsis := sd _ _ D.i2z.symm (sc.extBut _ _ D.TOz.symm (sb.extBut _ _ D.i1z.symm hza))
    have hez : e ≠ z := fun x => by subst x; rw [hzd] at hoe; cases hoe; simp at hce
    refine wpAny_setField_rec hzd (by simp) fun hf _ sf => hE hf e (fun c o c1 c2 c3 c4 x => sf.extBut _ _ c1 (sd _ _ c4 (sc.extBut _ _ c2 (sb.extBut _ _ c3 (sa.extBut _ _ c1 x))))) ⟨oe, sf.extBut _ _ hez hoe, hce⟩
theorem zip_item {x y : Value} {Q : Option Value → Shared → Prop} (d1 : Drawn2 P w i1 l1 st1 src1) (d2 : Drawn2 P w i2 l2 st2 src2) (D : ZipApart z TI TO i1 i2 l1 l2) (hz : IsZip s.heap z TI TO .none) (hTI : IsPair s.heap TI (.ref i1) (.ref i2)) (hTO : IsPair s.heap TO a b)
    (h1 : st1 k s.heap) (h2 : st2 k s.heap) (hl1 : src1 xs s.heap) (hl2 : src2 ys s.heap) (hx : xs[k]? = some x) (hy : ys[k]? = some y)
    (hQ : ∀ h', IsZip h' z TI TO (rawInt s.heap.objs.size) → IsPair h' TO x y → st1 (k + 1) h' → st2 (k + 1) h' → IsPair h' s.heap.objs.size x y → h'.objs.size = s.heap.objs.size + 1 →
      (∀ c o, c ≠ z → c ≠ TO → c ≠ i1 → c ≠ i2 → s.heap.get? c = some o → h'.get? c = some o) → Q (some (.ref s.heap.objs.size)) { s with heap := h' }) : wpAny (model P w) A (pyNext (.ref z)) Q E s := by
  have hT : s.TypeIs (.ref z) "zip" := ⟨_, hz, rfl⟩
  unfold pyNext
  exact wpAny_bind (wpAny_attempt (wpAny_callSpecial?_slot (name := Str.ofString "__next__") hT F.slot_zip_next (wpAny_call_entry F.slot_zip_next hT F.entry_zip_next
    (zip_draw d1 d2 D hz hTI hTO h1 h2 hl1 hl2 hx hy fun h' a1 a2 a3 a4 a5 a6 a7 => wpAny_pure (hQ h' a1 a2 a3 a4 a5 a6 a7)) (F.args_zip_next_1 _))))
theorem zip_end {Q : Option Value → Shared → Prop} (hh : A.handled = none) (d1 : Drawn2 P w i1 l1 st1 src1) (d2 : Drawn2 P w i2 l2 st2 src2) (D : ZipApart z TI TO i1 i2 l1 l2) (hz : IsZip s.heap z TI TO .none) (hTI : IsPair s.heap TI (.ref i1) (.ref i2)) (hTO : IsPair s.heap TO a b)
    (h1 : st1 k s.heap) (h2 : st2 k s.heap) (hl1 : src1 xs s.heap) (hl2 : src2 ys s.heap) (hend : xs[k]? = none ∨ ys[k]? = none)
    (hQ : ∀ h', (∀ c o, c ≠ z → c ≠ TO → c ≠ i1 → c ≠ i2 → s.heap.get? c = some o → h'.get? c = some o) → Q none { s with heap := h' }) : wpAny (model P w) A (pyNext (.ref z)) Q E s := by
  have hT : s.TypeIs (.ref z) "zip" := ⟨_, hz, rfl⟩
  unfold pyNext
  refine wpAny_bind (wpAny_attempt (wpAny_callSpecial?_slot (name := Str.ofString "__next__") hT F.slot_zip_next (wpAny_call_entry F.slot_zip_next hT F.entry_zip_next (zip_over hh d1 d2 D hz hTI hTO h1 h2 hl1 hl2 hend fun h' e hk he => ?_) (F.args_zip_next_1 _))))
  obtain ⟨o, ho, hc⟩ := he
  refine wpAny_bind (wpAny_isInstance (T := "StopIteration") (b := true) ⟨o, ho, hc⟩ isSubtype_stop ?_)
  exact wpAny_pure (hQ _ hk)
end
section
variable {X : Cx} {pins : List (Addr × Obj)} {σ : St} {H : Hp} {s : Shared} {h' : Heap}
theorem Inv.turnedL {t' : Nat} {ch : List Addr} (I : Inv X pins σ H s) (hf : ∀ b ∈ ch, FpOk X pins H b) (k : ∀ b o, b ∉ ch → s.heap.get? b = some o → h'.get? b = some o) : Inv X pins σ H { s with heap := h', toks := t' } := by
  have nit : ∀ b u, H b = some u → b ∉ ch := fun b u e z => by rw [(hf b z).1] at e; cases e
  have hL : X.env.locals ∉ ch := fun z => (hf _ z).2.1 rfl
  refine I.step (g' := s.gens) (d' := s.drawn) (ch := ch) (fun b hb => ?_) (fun b o _ _ hc e _ => k b o hc e) (fun b o _ _ hc e _ => ⟨o.slots, k b o hc e⟩) (fun _ _ _ _ n => n)
    (fun b o hc e => ⟨o, k b o hc e⟩) (fun _ _ e => e) (fun _ _ _ e => e) (fun b ps e => ⟨#[], by rw [e]; simp⟩) (fun m hm => ?_) (fun b u e => ?_) I.bare
  · obtain ⟨f0, f1, f2, f3, f4, f5⟩ := hf b hb
    exact ⟨f3, f1, f4, f5⟩
  · obtain ⟨o, es, ep, ho, r⟩ := hm
    exact ⟨o, es, ep, k _ o hL ho, r⟩
  · refine (I.hok b u e).stay (fun c v hc q => k c v ?_ q) (fun _ q => q) fun _ _ q => q
    rcases hc with z | z
    · rw [z]; exact nit b u e
    · exact nit c _ z
theorem Inv.turnedNew {t' : Nat} {ch : List Addr} {T : Addr} {o : HO} (I : Inv X pins σ H s) (hf : ∀ b ∈ ch, FpOk X pins H b) (k : ∀ b u, b ∉ ch → s.heap.get? b = some u → h'.get? b = some u) (hp : s.heap.objs.size ≤ T) (new : ObjOk X.prog X.w (upd H T o) h' T o) :
    Inv X pins σ (upd H T o) { s with heap := h', toks := t' } := by
  have nit : ∀ b u, H b = some u → b ∉ ch := fun b u e z => by rw [(hf b z).1] at e; cases e
  have hL : X.env.locals ∉ ch := fun z => (hf _ z).2.1 rfl
  have hn : H T = none := I.hok.fresh hp
  have ne : ∀ b u, H b = some u → (upd H T o) b = some u := fun b u e => by rw [upd_ne (ne_of_none e hn)]; exact e
  have ne2 : ∀ b u, s.heap.get? b = some u → b ≠ T := fun b u e z => by
    exact absurd (Nat.lt_of_lt_of_le (Heap.lt_size e) hp) (by rw [z]; exact Nat.lt_irrefl _)
  refine I.step (g' := s.gens) (d' := s.drawn) (ch := ch) (fun b hb => ?_) (fun b o _ _ hc e _ => k b o hc e) (fun b o _ _ hc e _ => ⟨o.slots, k b o hc e⟩) (fun b u _ e n => by rw [upd_ne (ne2 b u e)]; exact n)
    (fun b o hc e => ⟨o, k b o hc e⟩) (fun b xs e => ne _ _ e) (fun b u v e => ne _ _ e) (fun b ps e => ⟨#[], by rw [ne _ _ e]; simp⟩) (fun m hm => ?_) (fun b u e => ?_) I.bare
  · obtain ⟨f0, f1, f2, f3, f4, f5⟩ := hf b hb
    exact ⟨f3, f1, f4, f5⟩
  · obtain ⟨o, es, ep, ho, r⟩ := hm
    exact ⟨o, es, ep, k _ o hL ho, r⟩
  · by_cases hb : b = T
    · subst hb; rw [upd_same] at e; cases e; exact new
    · rw [upd_ne hb] at e
      refine (I.hok b u e).stay (fun c v hc q => k c v ?_ q) (fun c q => ne _ _ q) fun c xs q => ne _ _ q
      rcases hc with z | z
      · rw [z]; exact nit b u e
      · exact nit c _ z
end
def Itz (S1 S2 : Hp → List V → Prop) : It :=
  ⟨fun i H => ∃ xs ys x y, S1 H xs ∧ S2 H ys ∧ xs[i]? = some x ∧ ys[i]? = some y,
   fun i H v H' => ∃ p x y, H p = none ∧ v = .ref p ∧ H' = upd H p (.tup [x, y]) ∧ (∀ xs, S1 H xs → xs[i]? = some x) ∧ ∀ ys, S2 H ys → ys[i]? = some y,
   fun i H => ∃ xs ys, S1 H xs ∧ S2 H ys ∧ (xs.length ≤ i ∨ ys.length ≤ i)⟩
structure Src (P : Program) (w : World) (K : PySem.W.Frag) (S : Hp → List V → Prop) (src : Array Value → Heap → Prop) : Prop where
  vals : ∀ (X : Cx), X.prog = P → X.w = w → X.K = K → ∀ {pins : List (Addr × Obj)} {σ : St} {H : Hp} {s : Shared} {xs : List V}, Inv X pins σ H s → S H xs → ∃ its : List Value, Vals xs its ∧ src its.toArray s.heap
  inj : ∀ (X : Cx), X.prog = P → X.w = w → X.K = K → ∀ {pins : List (Addr × Obj)} {σ : St} {H : Hp} {s : Shared} {xs ys : List V}, Inv X pins σ H s → S H xs → S H ys → xs = ys
theorem src_tup {P : Program} {w : World} {K : PySem.W.Frag} (a : Addr) : Src P w K (fun H xs => SqT K H a xs) (fun its h => h.IsTuple a its) where
  vals := fun X hP hw hK _ _ _ _ _ I h => by subst hK; obtain ⟨its, r, p, _⟩ := I.tuple h; exact ⟨its, r, p⟩
  inj := fun X hP hw hK _ _ _ _ _ _ I h h' => by subst hK; exact I.tuple_inj h h'
theorem turn_zip {P : Program} {w : World} {K : PySem.W.Frag} {elts : List Expr} {x1 : Nat} {pos : Pos} {z TI TO i1 i2 l1 l2 : Addr} {st1 st2 : Nat → Heap → Prop} {src1 src2 : Array Value → Heap → Prop} {S1 S2 : Hp → List V → Prop}
    (d1 : Drawn2 P w i1 l1 st1 src1) (d2 : Drawn2 P w i2 l2 st2 src2) (e1 : Src P w K S1 src1) (e2 : Src P w K S2 src2) (D : ZipApart z TI TO i1 i2 l1 l2) :
    Turn P w K (.Tuple elts x1 pos) (Itz S1 S2) [z, TI, TO, i1, i2] z (fun i h => IsZip h z TI TO .none ∧ IsPair h TI (.ref i1) (.ref i2) ∧ (∃ a b, IsPair h TO a b) ∧ st1 i h ∧ st2 i h) where
  mem := by simp
  obj := fun i h st b hb => by
    obtain ⟨hz, hTI, ⟨a, c, hTO⟩, h1, h2⟩ := st
    simp only [List.mem_cons, List.not_mem_nil, or_false] at hb
    rcases hb with rfl | rfl | rfl | rfl | rfl
    · exact ⟨_, hz, fun v q => by cases q⟩
    · exact ⟨_, hTI, fun v q => by cases q⟩
    · exact ⟨_, hTO, fun v q => by cases q⟩
    · exact d1.has i h h1
    · exact d2.has i h h2
  keep := fun i h h' st k => by
    obtain ⟨hz, hTI, ⟨a, b, hTO⟩, h1, h2⟩ := st
    exact ⟨k z (by simp) _ hz, k TI (by simp) _ hTI, ⟨a, b, k TO (by simp) _ hTO⟩, d1.stAt _ _ _ h1 fun o e => k i1 (by simp) o e, d2.stAt _ _ _ h2 fun o e => k i2 (by simp) o e⟩
  item := by
    intro X hP hw hK hc i pins s σ H E I hf st hg
    obtain ⟨hz, hTI, ⟨a, b, hTO⟩, h1, h2⟩ := st
    obtain ⟨xs, ys, x, y, s1, s2, hx, hy⟩ := hg
    obtain ⟨us, r1, q1⟩ := e1.vals X hP hw hK I s1
    obtain ⟨vs, r2, q2⟩ := e2.vals X hP hw hK I s2
    obtain ⟨u, hu, ru⟩ := r1.get hx
    obtain ⟨v, hv, rv⟩ := r2.get hy
    refine zip_item d1 d2 D hz hTI hTO h1 h2 q1 q2 (x := u) (y := v) (by simpa using hu) (by simpa using hv) fun h' a1 a2 a3 a4 a5 a6 a7 => ⟨_, rfl, ?_⟩
    refine wpAny_letOwnedTupleGo_zip (s := { s with heap := h' }) a1 fun h2' hz2 sb => ?_
    have hzlt := Heap.lt_size hz
    have neT : ∀ c o, s.heap.get? c = some o → c ≠ s.heap.objs.size := fun c o e => Nat.ne_of_lt (Heap.lt_size e)
    have kk : ∀ c o, c ∉ [z, TI, TO, i1, i2] → s.heap.get? c = some o → h2'.get? c = some o := fun c o hc' e => by
      simp only [List.mem_cons, List.not_mem_nil, or_false, not_or] at hc'
      exact sb.extBut _ _ hc'.1 (a7 c o hc'.1 hc'.2.2.1 hc'.2.2.2.1 hc'.2.2.2.2 e)
    have hT : IsPair h2' s.heap.objs.size u v := sb.extBut _ _ (Nat.ne_of_gt hzlt) a5
    have I1 : Inv X pins σ (upd H s.heap.objs.size (.tup [x, y])) { s with heap := h2' } := I.turnedNew (t' := s.toks) hf kk (Nat.le_refl _) ⟨(by show 2 ≤ sizeLine; decide), [u, v], .cons ru (.cons rv .nil), ⟨_, hT, rfl, _, rfl, rfl⟩⟩
    refine ⟨.ref s.heap.objs.size, _, I1, rfl, ⟨_, x, y, I.hok.fresh (Nat.le_refl _), rfl, rfl, fun xs' h' => by rw [e1.inj X hP hw hK I h' s1]; exact hx, fun ys' h' => by rw [e2.inj X hP hw hK I h' s2]; exact hy⟩, ?_, fun c hc' => ?_⟩
    · exact ⟨hz2, sb.extBut _ _ D.TIz (a7 _ _ D.TIz D.TITO D.TIi1 D.TIi2 hTI), ⟨_, _, sb.extBut _ _ D.TOz a2⟩, d1.stAt _ _ _ a3 fun o e => sb.extBut _ _ D.i1z e, d2.stAt _ _ _ a4 fun o e => sb.extBut _ _ D.i2z e⟩
    · have hne : c ≠ s.heap.objs.size := by
        simp only [List.mem_cons, List.not_mem_nil, or_false] at hc'
        rcases hc' with rfl | rfl | rfl | rfl | rfl
        · exact neT _ _ hz
        · exact neT _ _ hTI
        · exact neT _ _ hTO
        · obtain ⟨o, e, _⟩ := d1.has _ _ h1; exact neT _ _ e
        · obtain ⟨o, e, _⟩ := d2.has _ _ h2; exact neT _ _ e
      rw [upd_ne hne]
      exact (hf c hc').1
  done := by
    intro X hP hw hK hc i pins s σ H E I hf st hg
    obtain ⟨hz, hTI, ⟨a, b, hTO⟩, h1, h2⟩ := st
    obtain ⟨xs, ys, s1, s2, hle⟩ := hg
    obtain ⟨us, r1, q1⟩ := e1.vals X hP hw hK I s1
    obtain ⟨vs, r2, q2⟩ := e2.vals X hP hw hK I s2
    have n1 := r1.length
    have n2 := r2.length
    refine zip_end (I.ok.hd hc) d1 d2 D hz hTI hTO h1 h2 q1 q2 ?_ fun h' a7 => ⟨rfl, I.turnedL (t' := s.toks) hf fun c o hc' e => ?_⟩
    · rcases hle with q | q
      · exact .inl (Array.getElem?_eq_none (by rw [List.size_toArray]; omega))
      · exact .inr (Array.getElem?_eq_none (by rw [List.size_toArray]; omega))
    · simp only [List.mem_cons, List.not_mem_nil, or_false, not_or] at hc'
      exact a7 c o hc'.1 hc'.2.2.1 hc'.2.2.2.1 hc'.2.2.2.2 e
  self := fun A i s Q E st h => wpAny_pyIter_zip st.1 h
end L2
namespace L2
open PySem PySem.Spec PyProof.Rows
abbrev zH1 (c1 : String) (h : Heap) (l1 : Addr) : Heap := h.push { cls := .type c1, data := .fields #[.ref l1, .int 0 0] }
abbrev zH2 (c1 c2 : String) (h : Heap) (l1 l2 : Addr) : Heap := (zH1 c1 h l1).push { cls := .type c2, data := .fields #[.ref l2, .int 0 0] }
abbrev zH3 (c1 c2 : String) (h : Heap) (l1 l2 : Addr) : Heap := (zH2 c1 c2 h l1 l2).push { cls := .type "tuple", data := .seq #[.ref h.objs.size, .ref (zH1 c1 h l1).objs.size] }
abbrev zH4 (c1 c2 : String) (h : Heap) (l1 l2 : Addr) : Heap := (zH3 c1 c2 h l1 l2).push { cls := .type "tuple", data := .seq #[.none, .none] }
abbrev zH5 (c1 c2 : String) (h : Heap) (l1 l2 : Addr) : Heap := (zH4 c1 c2 h l1 l2).push { cls := .type "zip", data := .fields #[.none, .bool false, .bool false, .ref (zH2 c1 c2 h l1 l2).objs.size, .ref (zH3 c1 c2 h l1 l2).objs.size] }
theorem zip_new_tt (l1 l2 : Addr) (xs ys : Array Value) :
    Meets (Builtin.«zip.__new__» ⟨[.type "zip", .ref l1, .ref l2], []⟩) (fun _ R s => s.heap.IsTuple l1 xs ∧ s.heap.IsTuple l2 ys ∧
      R (.ok (.ret (.ref (zH4 "tuple_iterator" "tuple_iterator" s.heap l1 l2).objs.size))) { s with heap := zH5 "tuple_iterator" "tuple_iterator" s.heap l1 l2 }) :=
  .of_wp fun prog w A R s h => by
    obtain ⟨hp, g, d, tk, os⟩ := s; obtain ⟨hl1, hl2, h⟩ := h
    have hsub := sub_zip
    have hL1 : Heap.IsTuple (Shared.heap ⟨hp, g, d, tk, os⟩) l1 xs := hl1
    have hL2 : Heap.IsTuple (Shared.heap ⟨hp.push { cls := .type "tuple_iterator", data := .fields #[.ref l1, .int 0 0] }, g, d, tk, os⟩) l2 ys := Heap.IsTuple.push hl2 _
    wp_walk using wpAny_pyIter_tuple hL1, wpAny_pyIter_tuple hL2
    exact ⟨_, rfl, h⟩
section
variable {P : Program} {w : World} {A : Around} {E : Value → Shared → Prop} {s : Shared}
theorem call_zip_tt {l1 l2 : Addr} {xs ys : Array Value} {Q : Value → Shared → Prop} (hl1 : s.heap.IsTuple l1 xs) (hl2 : s.heap.IsTuple l2 ys)
    (h : ∀ h', IsZip h' (s.heap.objs.size + 4) (s.heap.objs.size + 2) (s.heap.objs.size + 3) .none → IsPair h' (s.heap.objs.size + 2) (.ref s.heap.objs.size) (.ref (s.heap.objs.size + 1)) →
      IsPair h' (s.heap.objs.size + 3) .none .none → h'.IsTupleIter s.heap.objs.size l1 0 → h'.IsTupleIter (s.heap.objs.size + 1) l2 0 →
      (∀ c o, s.heap.get? c = some o → h'.get? c = some o) → Q (.ref (s.heap.objs.size + 4)) { s with heap := h' }) :
    wpAny (model P w) A (call (.type "zip") [.ref l1, .ref l2]) Q E s := by
  refine callType_new F.called_zip (by decide) (F.typeCall_zip_2 _ _) (F.newCall_zip_2 _ _) (fun obj => F.args_object_init_3 obj _ _) F.entry_zip_new (zip_new_tt l1 l2 xs ys) ⟨hl1, hl2, ?_⟩
  have n1 : (zH1 "tuple_iterator" s.heap l1).objs.size = s.heap.objs.size + 1 := Heap.size_push ..
  have n2 : (zH2 "tuple_iterator" "tuple_iterator" s.heap l1 l2).objs.size = s.heap.objs.size + 2 := by rw [Heap.size_push, n1]
  have n3 : (zH3 "tuple_iterator" "tuple_iterator" s.heap l1 l2).objs.size = s.heap.objs.size + 3 := by rw [Heap.size_push, n2]
  have n4 : (zH4 "tuple_iterator" "tuple_iterator" s.heap l1 l2).objs.size = s.heap.objs.size + 4 := by rw [Heap.size_push, n3]
  have g5 : (zH5 "tuple_iterator" "tuple_iterator" s.heap l1 l2).get? (zH4 "tuple_iterator" "tuple_iterator" s.heap l1 l2).objs.size = some _ := Heap.get?_push_size _ rfl
  have g4 : (zH5 "tuple_iterator" "tuple_iterator" s.heap l1 l2).get? (zH3 "tuple_iterator" "tuple_iterator" s.heap l1 l2).objs.size = some _ := Heap.get?_push_of_some _ (Heap.get?_push_size _ rfl)
  have g3 : (zH5 "tuple_iterator" "tuple_iterator" s.heap l1 l2).get? (zH2 "tuple_iterator" "tuple_iterator" s.heap l1 l2).objs.size = some _ := Heap.get?_push_of_some _ (Heap.get?_push_of_some _ (Heap.get?_push_size _ rfl))
  have g2 : (zH5 "tuple_iterator" "tuple_iterator" s.heap l1 l2).get? (zH1 "tuple_iterator" s.heap l1).objs.size = some _ := Heap.get?_push_of_some _ (Heap.get?_push_of_some _ (Heap.get?_push_of_some _ (Heap.get?_push_size _ rfl)))
  have g1 : (zH5 "tuple_iterator" "tuple_iterator" s.heap l1 l2).get? s.heap.objs.size = some _ := Heap.get?_push_of_some _ (Heap.get?_push_of_some _ (Heap.get?_push_of_some _ (Heap.get?_push_of_some _ (Heap.get?_push_size _ rfl))))
  show _ ∧ _
  rw [n2, n3, n4] at g5
  rw [n1, n2] at g3
  rw [n3] at g4
  rw [n1] at g2
  rw [n4]
  exact ⟨⟨_, g5, rfl⟩, h _ g5 g3 g4 ⟨_, g1, rfl, rfl⟩ ⟨_, g2, rfl, rfl⟩ fun c o x => Heap.get?_push_of_some _ (Heap.get?_push_of_some _ (Heap.get?_push_of_some _ (Heap.get?_push_of_some _ (Heap.get?_push_of_some _ x))))⟩
end
theorem boot_zip : bootBuiltins "zip" = some (.type "zip") := by decide +kernel
def iZip (K : PySem.W.Frag) (ta : TA) : TI := fun σ H R => ta σ H fun vs H1 => ∃ l1 l2 xs ys, vs = [.ref l1, .ref l2] ∧ SqT K H1 l1 xs ∧ SqT K H1 l2 ys ∧ R (Itz (fun H xs => SqT K H l1 xs) fun H xs => SqT K H l2 xs) H1
section
variable {X : Cx}
theorem pi_zip {a b : Expr} {ta : TA} {p pos tpos : Pos} {elts : List Expr} {x1 : Nat} (hg : Gl X "zip") (hm : X.mg "zip" = none) (ha : PA X [a, b] ta) (hs : starEach [a, b] X.env = [(false, eval a X.env), (false, eval b X.env)] := by rfl) (hs2 : starEach [b] X.env = [(false, eval b X.env)] := by rfl) :
    PI X (.Tuple elts x1 tpos) (.Call (.Name "zip" p) [a, b] [] pos) (iZip X.K ta) := by
  intro pins s σ H R I h
  refine Call_ (ld_blt I hg hm boot_zip (PyProof.Rows.callWith_type1 (thn (ha pos pins s σ H _ I h) fun us s1 ⟨vs, H1, I1, r1, q1⟩ => ?_) (by rw [hs, hs2]) (by rw [hs2]; rfl)))
  obtain ⟨l1, l2, xs, ys, rfl, hq1, hq2, q⟩ := q1
  cases r1 with
  | cons r rr =>
    cases rr with
    | cons r' rr =>
      cases rr
      cases r
      cases r'
      obtain ⟨us1, rv1, p1, hz1⟩ := I1.tuple hq1
      obtain ⟨us2, rv2, p2, hz2⟩ := I1.tuple hq2
      have lt1 : l1 < s1.heap.objs.size := p1.lt
      have lt2 : l2 < s1.heap.objs.size := p2.lt
      refine call_zip_tt (show s1.heap.IsTuple l1 us1.toArray from p1) (show s1.heap.IsTuple l2 us2.toArray from p2) fun h' hz hTI hTO hi1 hi2 hk => wpAny_pyIter_zip (s := { s1 with heap := h' }) hz ?_
      refine ⟨_, [s1.heap.objs.size + 4, s1.heap.objs.size + 2, s1.heap.objs.size + 3, s1.heap.objs.size, s1.heap.objs.size + 1], _, _, H1, rfl, I1.kept (t' := s1.toks) hk, turn_zip (drawn_tup _ l1) (drawn_tup _ l2) (src_tup l1) (src_tup l2) (zipApart_new lt1 lt2), ⟨hz, hTI, ⟨_, _, hTO⟩, hi1, hi2⟩, fun c hc => ?_, q⟩
      simp only [List.mem_cons, List.not_mem_nil, or_false] at hc
      have le : s1.heap.objs.size ≤ c := by rcases hc with rfl | rfl | rfl | rfl | rfl <;> first | exact Nat.le_refl _ | exact Nat.le_add_right _ _
      exact I1.fpOk le (I1.hok.fresh le)
end
end L2
namespace TL
open PySem PySem.Spec PyProof.Rows L2
variable {K : PySem.W.Frag}
def zipD (as bs : List D) : List D := (as.zip bs).map fun p => .tuple [p.1, p.2]
theorem zipD_len (as bs : List D) : (zipD as bs).length = min as.length bs.length := by unfold zipD; simp
theorem zipD_get {as bs : List D} {i : Nat} {x : D} (h : (zipD as bs)[i]? = some x) : ∃ a b, as[i]? = some a ∧ bs[i]? = some b ∧ x = .tuple [a, b] := by
  unfold zipD at h
  rw [List.getElem?_map] at h
  cases e : (as.zip bs)[i]? with
  | none => rw [e] at h; cases h
  | some p =>
    rw [e] at h
    obtain ⟨h1, h2⟩ := List.getElem?_zip_eq_some.mp e
    exact ⟨p.1, p.2, h1, h2, (Option.some.inj h).symm⟩
def iZipT (t : AT) : IT := fun σ Q => t σ fun ds => ∃ as bs, ds = [.tuple as, .tuple bs] ∧ Q (zipD as bs)
section
variable {X : Cx} {a b : Expr} {pos : Pos}
theorem it_zip {t : AT} {p p' tpos : Pos} {elts : List Expr} {x1 : Nat} (ha : PAt X [a, b] t) (pz : ∀ {ta : TA}, PA X [a, b] ta → PI X (.Tuple elts x1 tpos) (.Call (.Name "zip" p) [a, b] [] p') (iZip X.K ta)) : PIt X (.Tuple elts x1 tpos) (.Call (.Name "zip" p) [a, b] [] p') (iZipT t) := by
  obtain ⟨va, pa, ra⟩ := ha
  refine ⟨_, pz pa, fun B p0 H ps σT σ Q R o h k => ra B p0 H ps σT σ _ _ o h fun ds xs H1 s1 r1 q1 => ?_⟩
  obtain ⟨as, bs, rfl, q⟩ := q1
  cases r1 with
  | cons r1 r2 =>
    cases r2 with
    | cons r3 r4 =>
      cases r4
      cases r1 with
      | @tuple p1 us _ hq1 rs1 =>
        cases r3 with
        | @tuple p2 vs _ hq2 rs2 =>
          have n1 := rs1.length
          have n2 := rs2.length
          refine ⟨p1, p2, us, vs, rfl, Same.seqT mask_le hq1, Same.seqT mask_le hq2, k _ _ H1 s1 ⟨fun i H e hl => ?_, fun i H e hl => ?_, fun i H ps' y H' live e hl hy => ?_⟩ q⟩
          · rw [zipD_len] at hl
            exact ⟨us, vs, Same.seqT e hq1, Same.seqT e hq2, by omega⟩
          · rw [zipD_len] at hl
            exact ⟨us, vs, us[i], vs[i], Same.seqT e hq1, Same.seqT e hq2, List.getElem?_eq_getElem (by omega), List.getElem?_eq_getElem (by omega)⟩
          · obtain ⟨p, x, y', hp, rfl, rfl, h1, h2⟩ := hy
            obtain ⟨d1, g1, t1⟩ := rs1.get' (h1 us (Same.seqT (e.trans mask_le) hq1))
            obtain ⟨d2, g2, t2⟩ := rs2.get' (h2 vs (Same.seqT (e.trans mask_le) hq2))
            refine ⟨same_new hp, .tuple [d1, d2], ?_, rep_tup live hp (.cons (t1.same e) (.cons (t2.same e) .nil))⟩
            unfold zipD
            rw [List.getElem?_map, (List.getElem?_zip_eq_some (z := (d1, d2))).mpr ⟨g1, g2⟩]; rfl
end
section
variable {fr : List (Option Nat)} {ti : IT} {tt : TTt} {te : ET} {σ : List Sl} {Q : D → Prop} {ts : List D}
theorem set2_set2 {α : Type} (l : List α) (a b c d : α) : (((l.set 0 a).set 1 b).set 0 c).set 1 d = (l.set 0 c).set 1 d := by
  match l with
  | [] => rfl
  | [_] => rfl
  | _ :: _ :: _ => rfl
theorem lcp_map (hti : Gives' ti σ ts) (f : D → D) (hz : ts.length ≤ 100000) (hp : ∀ x ∈ ts, ∃ a b, x = .tuple [a, b]) (ht : ∀ (a b : D) (q : D → Prop), .tuple [a, b] ∈ ts → q (f (.tuple [a, b])) → te (((inBlkT fr σ).set 0 (.val a)).set 1 (.val b)) q) (hq : Q (.list (ts.map f))) : eLc fr ti (gP 0 1) cTrue te σ Q := by
  refine hti _ ⟨hz, fun k σ' ds => (∀ x y, (σ'.set 0 (.val x)).set 1 (.val y) = ((inBlkT fr σ).set 0 (.val x)).set 1 (.val y)) ∧ ds = (ts.take k).map f, ⟨fun _ _ => rfl, rfl⟩, fun k x σ' ds hx h => ?_, fun σ' ds h => ?_⟩
  · obtain ⟨h1, rfl⟩ := h
    have hm : x ∈ ts := List.mem_of_getElem? hx
    obtain ⟨a, b, rfl⟩ := hp x hm
    refine ⟨a, b, rfl, ?_⟩
    show te ((σ'.set 0 (.val a)).set 1 (.val b)) _
    rw [h1 a b]
    refine ht a b _ hm ⟨fun x y => set2_set2 _ _ _ _ _, ?_⟩
    rw [List.take_add_one, hx, List.map_append]; rfl
  · obtain ⟨_, rfl⟩ := h
    rw [List.take_length]; exact hq
end
end TL

set_option Elab.async false
set_option linter.all false
set_option maxRecDepth 100000
namespace L2
open PySem PySem.Spec PyProof.Rows PySem.SeqAt
open AutoSeq1 (wpAny_loadPart')
theorem tuple_indexAt (l : Addr) (items : Array Value) (n : Nat) (dd : Option Addr) (sl : Array (Option Value)) (x : Value) (e : Value → Bool) (j : Nat) (hj : j < items.size) (hit : e items[j] = true) (hno : ∀ m (hm : m < items.size), m < j → e items[m] = false) :
    Meets (Builtin.«tuple.index» ⟨[.ref l, x], []⟩)
      (fun A R s => s.heap.get? l = some { cls := .type "tuple", dict := dd, data := .seq items n, slots := sl } ∧ (∀ y, y ∈ items → EqAt A.in1 s y x (e y)) ∧ R (.ok (.ret (.int j s.toks))) { s with toks := s.toks + 1 }) := by
  intro prog w A R s h
  obtain ⟨hp, g, d, tk, os⟩ := s; obtain ⟨hl, he, h⟩ := h
  unfold Builtin.«tuple.index»
  simp only [Std.Legacy.Range.forIn_eq_forIn_range']
  wp_walk using wpAny_loadPart' hl
  have hN : ([:min items.size items.size] : Std.Legacy.Range).size = items.size := by simp [Std.Legacy.Range.size]
  rw [hN]
  show wpAny _ _ (forIn (List.range' 0 items.size) (none, ()) _) _ _ _
  refine wpAny_forIn_list _ (fun rest b s' => b = (none, ()) ∧ s' = ⟨hp, g, d, tk, os⟩ ∧ ∃ k, rest = List.range' k (items.size - k) ∧ k ≤ j) _ (fun i rest b s' h1 => ?_) (fun b s' h1 => ?_) _ _ ⟨rfl, rfl, 0, by simp, Nat.zero_le _⟩
  · obtain ⟨rfl, rfl, k, hr, hk⟩ := h1
    have hkN : k < items.size := by omega
    have e1 : items.size - k = (items.size - (k + 1)) + 1 := by omega
    rw [e1, List.range'_succ] at hr
    obtain ⟨rfl, rfl⟩ := List.cons.inj hr
    have hi : items[i]? = some items[i] := by simp [hkN]
    rw [hi]
    refine wpAny_bind (he _ (Array.getElem_mem hkN) prog w _ _ ?_)
    by_cases hij : i = j
    · subst hij
      rw [hit, if_pos rfl]
      wp_walk
      exact h
    · have hlt : i < j := by omega
      rw [hno i hkN hlt, if_neg (by decide)]
      exact wpAny_pure ⟨rfl, rfl, i + 1, rfl, hlt⟩
  · obtain ⟨_, _, k, hr, hk⟩ := h1
    have := congrArg List.length hr
    simp at this
    omega
section
variable {X : Cx}
end
end L2
namespace TL
open PySem PySem.Spec PyProof.Rows L2 PySem.SeqAt
section
variable {X : Cx} {a b e : Expr} {es : List Expr} {te ta tb : ET} {pos : Pos}
def okIx (ts : List D) (d : D) (j : Nat) : Prop := PyData.canLayAll0 ts = true ∧ d.canLay0 = true ∧ min (PyData.depthAll ts) d.depth ≤ 60 ∧ (∃ t, ts[j]? = some t ∧ PyData.eqv t d = true) ∧ ∀ (m : Nat) t, m < j → ts[m]? = some t → PyData.eqv t d = false
def rIndex (K : PySem.W.Frag) : V → List V → Hp → VK → Prop := fun x xs H Q => ∃ (y : V) (ts : List D) (d : D) (j : Nat), xs = [y] ∧ Rep K H (.tuple ts) x ∧ Rep K H d y ∧ okIx ts d j ∧ Q (.int j) H
theorem mt_indexU (hu : X.A.units + 200 < cLine) : MtR X "tuple.index" (rIndex X.K) := by
  intro pins s σ H x xs v us Q I rx rv h
  obtain ⟨y, ts, d, j, rfl, r1, r2, ⟨c1, c2, hm, ⟨t, ht, he⟩, hno⟩, q⟩ := h
  obtain ⟨u, rfl, ru⟩ := rv.one
  obtain ⟨as, h1⟩ := Rep.reads I (show (PyData.tuple ts).hasDict = false from noDictAll c1) r1 rx
  obtain ⟨bs, h2⟩ := Rep.reads I (noDict c2) r2 ru
  cases h1 with
  | @tuple l o items n _ as' h3 h4 h5 h6 =>
    have hmap := readsAll_map ts items.toList _ c1 h6
    have hlen : items.size = ts.length := by rw [← hmap, List.length_map, Array.length_toList]
    have hjl : j < ts.length := (List.getElem?_eq_some_iff.mp ht).1
    have hj : j < items.size := by omega
    have rd : ∀ (m : Nat) (hm : m < items.size), ts[m]? = some (readOf s.heap items[m]) := fun m hm => by
      rw [← hmap, List.getElem?_map]
      simp [hm]
    obtain ⟨oc, od, odt, osl⟩ := o
    cases h4
    cases h5
    refine call_meets F.slot_tuple_index ⟨_, h3, rfl⟩ F.entry_tuple_index (F.args_tuple_index_2 _ _) (tuple_indexAt _ items _ od osl u (fun y => PyData.eqv (readOf s.heap y) d) j hj ?_ ?_) ⟨h3, items_eqAt h6 h2 c1 c2 (by have := hu; omega), ?_⟩
    · have := rd j hj
      rw [ht] at this
      rw [← Option.some.inj this]; exact he
    · intro m hm' hlt
      exact hno m _ hlt (rd m hm')
    · exact ⟨.int j, H, I.tok _, ⟨_, rfl⟩, q⟩
theorem mt_index {k : Nat} (hr : Room k X.A) : MtR X "tuple.index" (rIndex X.K) := mt_indexU (by have := hr.un; omega)
def eIndex (te : ET) (t : AT) : ET := fun σ Q => te σ fun d => ∃ ts, d = .tuple ts ∧ t σ fun ds => ∃ (x : D) (j : Nat), ds = [x] ∧ okIx ts x j ∧ Q (.int j)
theorem et_index {n : Expr} {ap : Pos} {t : AT} (hn : PEt X n te) (ha : PAt X (e :: es) t)
    (pc : ∀ {v : TE} {ta : TA}, PE X n v → PA X (e :: es) ta → PE X (.Call (.Attribute n "index" ap) (e :: es) [] pos) (tBM X.K "tuple" (rIndex X.K) v ta)) : PEt X (.Call (.Attribute n "index" ap) (e :: es) [] pos) (eIndex te t) := by
  obtain ⟨v, pe, re⟩ := hn
  obtain ⟨va, pa, ra⟩ := ha
  refine ⟨_, pc pe pa, fun B p0 H ps σT σ Q QV o h k => re B p0 H ps σT σ _ _ o h fun d x H1 s1 r1 q1 => ?_⟩
  obtain ⟨ts, rfl, q1⟩ := q1
  cases r1 with
  | @tuple p xs _ hq rs =>
    refine ⟨.inr (.inl ⟨rfl, .inr ⟨_, Same.seqT mask_le hq⟩⟩), ra B p0 H1 ps σT σ _ _ (o.grow s1) q1 fun ds ys H2 s2 r2 q2 => ?_⟩
    obtain ⟨d, j, rfl, hok, q⟩ := q2
    cases r2 with
    | cons r3 r4 =>
      cases r4
      exact ⟨_, ts, d, j, rfl, (Rep.tuple hq rs).same ((mask_same s2).trans mask_le), r3.same mask_le, hok, k _ _ H2 (s1.trans s2) (.int _) q⟩
theorem Reps.rep {K : PySem.W.Frag} {H : Hp} {ds : List D} {vs : List V} (r : Reps K H ds vs) : ∀ n : Nat, Reps K H (List.replicate n ds).flatten (List.replicate n vs).flatten
  | 0 => .nil
  | n + 1 => by
    rw [List.replicate_succ, List.replicate_succ, List.flatten_cons, List.flatten_cons]
    exact r.append (Reps.rep r n)
end
end TL

set_option Elab.async false
set_option linter.all false
set_option maxRecDepth 100000
namespace TL
open PySem PySem.Spec PyProof.Rows L2
section
variable {K : PySem.W.Frag} {H H' : Hp} {B : Hp} {p0 ps : List Addr} {σT : List Sl} {σ : L2.St}
def flatD : D → Bool
  | .none => true
  | .bool _ => true
  | .int _ => true
  | .str _ => true
  | _ => false
theorem Rep.flat {d : D} {v : V} (r : Rep K H d v) (h : flatD d = true) : Rep K H' d v := by
  cases r with
  | none => exact .none
  | bool b => exact .bool b
  | int i => exact .int i
  | str x => exact .str x
  | _ => cases h
theorem Reps.snoc : ∀ {ts : List D} {d : D} {xs : List V}, Reps K H (ts ++ [d]) xs → ∃ ys y, xs = ys ++ [y] ∧ Reps K H ts ys ∧ Rep K H d y
  | [], d, _, r => by
    rw [List.nil_append] at r
    cases r with
    | cons r1 r2 => cases r2; exact ⟨[], _, rfl, .nil, r1⟩
  | t :: ts, d, _, r => by
    rw [List.cons_append] at r
    cases r with
    | cons r1 r2 =>
      obtain ⟨ys, y, rfl, h1, h2⟩ := Reps.snoc r2
      exact ⟨_ :: ys, y, rfl, .cons r1 h1, h2⟩
theorem Reps.put : ∀ {ts : List D} {xs : List V} (n : Nat) {d : D} {v : V}, Reps K H ts xs → Rep K H d v → Reps K H (ts.set n d) (xs.set n v)
  | _, _, _, _, _, .nil, _ => .nil
  | _, _, 0, _, _, .cons _ t, r => .cons r t
  | _, _, n + 1, _, _, .cons s t, r => .cons s (Reps.put n t r)
def without (H : Hp) (p : Addr) : Hp := fun b => if b = p then none else H b
theorem without_mask {p : Addr} : mask (without H p) ps = mask H (p :: ps) := by
  funext b
  unfold mask without
  by_cases h1 : b = p
  · simp [h1]
  · by_cases h2 : b ∈ ps <;> simp [h1, h2]
theorem without_same {p : Addr} (s : Same H H') (hp : H p = none) : Same H (without H' p) := fun b o e => by
  unfold without
  rw [if_neg fun z => by rw [z, hp] at e; cases e]
  exact s b o e
theorem without_upd {p : Addr} {u : HO} (hx : H p = some u) : upd (without H p) p u = H := by
  funext b
  by_cases h : b = p
  · subst h; rw [upd_same, hx]
  · rw [upd_ne h]
    unfold without
    rw [if_neg h]
theorem Same.free' (s : Same H H') {p : Addr} (h : H' p = none) : H p = none := by
  cases q : H p with
  | none => rfl
  | some u => rw [s p u q] at h; cases h
theorem Ok.takeOwn (o : Ok K B p0 H ps σT σ) {i : Nat} {ts : List D} {xs : List V} {p : Addr} (s : Same H H') (hp : H p = none) (hx : H' p = some (.lst xs)) (r : Reps K (mask H' (p :: ps)) ts xs) :
    Ok K B p0 H' (p :: ps) (σT.set i (.own ts)) (σ.set i (some (.ref p))) := by
  have o1 := o.grow (without_same s hp)
  have hn : without H' p p = none := by unfold without; rw [if_pos rfl]
  have := o1.setOwn (i := i) (ts := ts) (xs := xs) hn (by rw [without_mask]; exact r)
  rwa [without_upd hx] at this
end
section
variable {X : Cx} {a b c e : Expr} {es : List Expr} {ta tb te : ET} {pos : Pos}
def cBorrow (i : Nat) (t : TTt) : TTt := fun σ Q => ∃ ts, σ[i]? = some (.own ts) ∧ t (σ.set i (.val (.list ts))) Q
theorem tt_borrow (i : Nat) {t : TTt} (h : PTt X e t) : PTt X e (cBorrow i t) := by
  obtain ⟨v, p, r⟩ := h
  refine ⟨_, p, fun B p0 H ps σT σ Q QV o h k => ?_⟩
  obtain ⟨ts, e, h⟩ := h
  obtain ⟨ps', o', s'⟩ := o.share e
  exact r B p0 H ps' _ σ _ _ o' h k
abbrev FT := List Sl → (List D → Prop) → Prop
def PFt (X : Cx) (e : Expr) (t : FT) : Prop := ∃ te : TE, PE X e te ∧ ∀ (B : Hp) (p0 : List Addr) (H : Hp) (ps : List Addr) (σT : List Sl) (σ : L2.St) (Q : List D → Prop) (QV : VK), Ok X.K B p0 H ps σT σ → t σT Q →
  (∀ ts p xs H', Same H H' → H p = none → H' p = some (.lst xs) → Reps X.K (mask H' (p :: ps)) ts xs → Q ts → QV (.ref p) H') → te σ H QV
def eFr (t : FT) : ET := fun σ Q => t σ fun ts => Q (.list ts)
theorem et_fr {t : FT} (h : PFt X e t) : PEt X e (eFr t) := by
  obtain ⟨v, p, r⟩ := h
  refine ⟨_, p, fun B p0 H ps σT σ Q QV o h k => r B p0 H ps σT σ _ _ o h fun ts p xs H' s hp hx rs q => k _ _ H' s ?_ q⟩
  exact .list (SqL.of (mask_at (fresh_notin o.live hp) hx)) (rs.same (mask_sub fun q hq => List.mem_cons_of_mem _ hq))
def fLst (t : AT) : FT := fun σ Q => t σ fun ds => ds.length ≤ 1000 ∧ Q ds
theorem ft_lst {t : AT} (h : PAt X es t) : PFt X (.List es pos) (fLst t) := by
  obtain ⟨v, p, r⟩ := h
  refine ⟨_, pe_lst p, fun B p0 H ps σT σ Q QV o h k => r B p0 H ps σT σ _ _ o h fun ds xs H1 s1 r1 q1 => ⟨le_line (by rw [← r1.length]; exact q1.1), fun q hq => ?_⟩⟩
  exact k ds q xs _ (s1.trans (same_new hq)) (Same.free' s1 hq) upd_same (by rw [mask_new hq]; exact r1) q1.2
def fLc (fr : List (Option Nat)) (ti : IT) (g : GT) (tt : TTt) (te : ET) : FT := fun σ Q => ti σ fun ts => ts.length ≤ 100000 ∧ ∃ P : Nat → List Sl → List D → Prop, P 0 (inBlkT fr σ) [] ∧
  (∀ (k : Nat) (x : D) (σ' : List Sl) (ds : List D), ts[k]? = some x → P k σ' ds → g x σ' fun σ2 => tt σ2 fun b => if b = true then te σ2 fun y => P (k + 1) σ2 (ds ++ [y]) else P (k + 1) σ2 ds) ∧ ∀ σ' ds, P ts.length σ' ds → Q ds
def asL (Q : List D → Prop) (d : D) : Prop := match d with | .list ds => Q ds | _ => False
theorem fLc_of {fr : List (Option Nat)} {ti : IT} {g : GT} {tt : TTt} {te : ET} {σ : List Sl} {Q : List D → Prop} (h : eLc fr ti g tt te σ (asL Q)) : fLc fr ti g tt te σ Q := h
theorem lc_readF {fr : List (Option Nat)} {ti : IT} {g : GT} {tt : TTt} {te : ET} {wi : TI} {gv : BP → TG} {vt : BP → TT} {ve : BP → TE}
    (ri : ∀ (B : Hp) (p0 : List Addr) (H : Hp) (ps : List Addr) (σT : List Sl) (σ : L2.St) (Q : List D → Prop) (R : It → Hp → Prop), Ok X.K B p0 H ps σT σ → ti σT Q → (∀ ts J H', Same H H' → Runs X.K (mask H' ps) ts J → Q ts → R J H') → wi σ H R)
    (rg : ∀ (bp : BP) (B : Hp) (p0 : List Addr) (H : Hp) (ps : List Addr) (σT : List Sl) (σ : L2.St) (d : D) (v : V) (Q : List Sl → Prop) (QV : L2.St → Hp → Prop), Ok X.K B p0 H ps σT σ → Rep X.K (mask H ps) d v → g d σT Q → (∀ σT' σ', Ok X.K B p0 H ps σT' σ' → (noOwn σT → noOwn σT') → Q σT' → QV σ' H) → gv bp v σ H QV)
    (rt : ∀ (bp : BP) (B : Hp) (p0 : List Addr) (H : Hp) (ps : List Addr) (σT : List Sl) (σ : L2.St) (Q : Bool → Prop) (QV : Bool → Hp → Prop), Ok X.K B p0 H ps σT σ → tt σT Q → (∀ b H', Same H H' → Q b → QV b H') → vt bp σ H QV)
    (re : ∀ (bp : BP) (B : Hp) (p0 : List Addr) (H : Hp) (ps : List Addr) (σT : List Sl) (σ : L2.St) (Q : D → Prop) (QV : VK), Ok X.K B p0 H ps σT σ → te σT Q → (∀ d v H', Same H H' → Rep X.K (mask H' ps) d v → Q d → QV v H') → ve bp σ H QV)
    (B : Hp) (p0 : List Addr) (H : Hp) (ps : List Addr) (σT : List Sl) (σ : L2.St) (Q : List D → Prop) (QV : VK) (o : Ok X.K B p0 H ps σT σ) (h : fLc fr ti g tt te σT Q) (k : ∀ ts p xs H', Same H H' → H p = none → H' p = some (.lst xs) → Reps X.K (mask H' (p :: ps)) ts xs → Q ts → QV (.ref p) H') : tLc fr wi gv vt ve σ H QV := by
  refine ri B p0 H ps σT σ _ _ o h fun ts J H1 s1 rj q1 => ?_
  obtain ⟨hz, P, h0, hs, hd⟩ := q1
  intro bp acc hacc
  have hBacc : B acc = none := Same.free' (o.grow s1).base hacc
  refine ⟨fun i m σ' H' => m = ts.length - i ∧ i ≤ ts.length ∧ ∃ σT' ds ys, Ok X.K B p0 H' (acc :: ps) σT' σ' ∧ noOwn σT' ∧ H' acc = some (.lst ys) ∧ ds.length ≤ i ∧ Reps X.K (mask H' (acc :: ps)) ds ys ∧ Same (mask H1 ps) (mask H' (acc :: ps)) ∧ Same H1 H' ∧ P i σT' ds,
    ⟨_, rfl, Nat.zero_le _, inBlkT fr σT, [], [], ((o.grow s1).blk fr).adopt hacc, noOwn_blk fr σT, upd_same, Nat.le_refl _, .nil, by rw [mask_new hacc]; exact L2.Same.refl _, same_new hacc, h0⟩, ?_⟩
  rintro i m σ' H' ⟨rfl, hle, σT', ds, ys, o', n', ha, hl, hr, s', sF, p'⟩
  have hL : sizeLine = 2 ^ 24 := rfl
  by_cases hlt : i < ts.length
  · refine .inr ⟨rj.go i H' (s'.trans mask_le) hlt, fun y H2 hy => ?_⟩
    obtain ⟨s2, dx, hx, rx⟩ := rj.yld i H' (acc :: ps) y H2 o'.live s' hlt hy
    refine rg bp B p0 H2 (acc :: ps) σT' σ' dx y _ _ (o'.grow s2) rx (hs i dx σT' ds hx p') fun σT3 σ3 o3 n3 q3 => ?_
    refine rt bp B p0 H2 (acc :: ps) σT3 σ3 _ _ o3 q3 fun b H4 s4 q4 => ?_
    have s24 := s2.trans s4
    cases b with
    | false =>
      exact ⟨ts.length - (i + 1), by omega, rfl, hlt, σT3, ds, ys, o3.grow s4, n3 n', s24 _ _ ha, by omega, hr.same (mask_same s24), s'.trans (mask_same s24), sF.trans s24, q4⟩
    | true =>
      refine re bp B p0 H4 (acc :: ps) σT3 σ3 _ _ (o3.grow s4) q4 fun d v H5 s5 r5 q5 => ?_
      have s25 := s24.trans s5
      have hm : mask (upd H5 acc (.lst (ys ++ [v]))) (acc :: ps) = mask H5 (acc :: ps) := mask_upd (List.mem_cons_self ..)
      refine ⟨ys, s25 _ _ ha, by rw [← hr.length]; omega, ts.length - (i + 1), by omega, rfl, hlt, σT3, ds ++ [d], ys ++ [v], ((o3.grow s4).grow s5).aside (List.mem_cons_self ..) hBacc (n3 n'), n3 n', upd_same, by rw [List.length_append, List.length_singleton]; omega, ?_, ?_, ?_, q5⟩
      · rw [hm]; exact (hr.same (mask_same s25)).append (.cons r5 .nil)
      · rw [hm]; exact s'.trans (mask_same s25)
      · intro b u e
        have ne : b ≠ acc := fun z => by rw [z, hacc] at e; cases e
        rw [upd_ne ne]; exact (sF.trans s25) b u e
  · obtain rfl : i = ts.length := by omega
    exact .inl ⟨rj.stop _ H' (s'.trans mask_le) (Nat.le_refl _), k ds acc ys H' (s1.trans sF) (Same.free' s1 hacc) ha hr (hd σT' ds p')⟩
theorem lc_allF {elt iter tg : Expr} {ifs : List Expr} {scope : Scope} {fr : List (Option Nat)} {N' : List Str} {ti : IT} {g : GT} {tt : TTt} {te : ET} (hi : PIt X tg iter ti)
    (hY : ∀ b : BP, PGt (blk X scope N' b) tg g ∧ PIft (blk X scope N' b) ifs tt ∧ PEt (blk X scope N' b) elt te) {M : (TE) → Prop}
    (fin : ∀ {wi : TI} {gv : BP → TG} {vt : BP → TT} {ve : BP → TE}, PI X tg iter wi → (∀ b : BP, PG (blk X scope N' b) tg (gv b) ∧ PIf (blk X scope N' b) ifs (vt b) ∧ PE (blk X scope N' b) elt (ve b)) → M (tLc fr wi gv vt ve)) :
    ∃ v : TE, M v ∧ ∀ (B : Hp) (p0 : List Addr) (H : Hp) (ps : List Addr) (σT : List Sl) (σ : L2.St) (Q : List D → Prop) (QV : VK), Ok X.K B p0 H ps σT σ → fLc fr ti g tt te σT Q →
      (∀ ts p xs H', Same H H' → H p = none → H' p = some (.lst xs) → Reps X.K (mask H' (p :: ps)) ts xs → Q ts → QV (.ref p) H') → v σ H QV := by
  obtain ⟨wi, pi, ri⟩ := hi
  refine ⟨_, fin (gv := fun b => Classical.choose (hY b).1) (vt := fun b => Classical.choose (hY b).2.1) (ve := fun b => Classical.choose (hY b).2.2) pi fun b => ⟨(Classical.choose_spec (hY b).1).1, (Classical.choose_spec (hY b).2.1).1, (Classical.choose_spec (hY b).2.2).1⟩, ?_⟩
  exact lc_readF ri (fun b => (Classical.choose_spec (hY b).1).2) (fun b => (Classical.choose_spec (hY b).2.1).2) fun b => (Classical.choose_spec (hY b).2.2).2
theorem ft_lc {elt iter tg : Expr} {ifs : List Expr} {scope : Scope} {fr : List (Option Nat)} {N' : List Str} {ti : IT} {g : GT} {tt : TTt} {te : ET} (hi : PIt X tg iter ti)
    (hY : ∀ b : BP, PGt (blk X scope N' b) tg g ∧ PIft (blk X scope N' b) ifs tt ∧ PEt (blk X scope N' b) elt te)
    (pl : ∀ {wi : TI} {gv : BP → TG} {vt : BP → TT} {ve : BP → TE}, PI X tg iter wi → (∀ b : BP, PG (blk X scope N' b) tg (gv b) ∧ PIf (blk X scope N' b) ifs (vt b) ∧ PE (blk X scope N' b) elt (ve b)) → PE X (.ListComp elt [⟨tg, iter, ifs, 0⟩] scope pos) (tLc fr wi gv vt ve)) :
    PFt X (.ListComp elt [⟨tg, iter, ifs, 0⟩] scope pos) (fLc fr ti g tt te) := lc_allF hi hY pl
abbrev SpF := List D → (List D → Prop) → Prop
def liftSpF (K : PySem.W.Frag) (sp : SpF) : Sp := fun vs H Q _ => ∃ (ps : List Addr) (ds : List D) (QD : List D → Prop), (∀ p ∈ ps, H p ≠ none) ∧ Reps K (mask H ps) ds vs ∧ sp ds QD ∧
  ∀ ts p xs H', Same H H' → H p = none → H' p = some (.lst xs) → Reps K (mask H' (p :: ps)) ts xs → QD ts → Q (.ref p) H'
def fCall (sp : SpF) (t : AT) : FT := fun σ Q => t σ fun ds => sp ds Q
theorem ft_call {k : Nat} {f : Addr} {fd : FuncData} {pn : List Str} {sp : SpF} {x : Str} {p : Pos} {t : AT} (F : FnOk X.prog X.w X.K X.mg X.base CX0 k f fd pn (liftSpF X.K sp)) (hm : X.mg x = some (.ref f)) (hk : PySem.W.keepIn X.K (.ref f) = true) (hb : Binds X.K fd pn [])
    (hr : Room k X.A) (ha : PAt X (e :: es) t) (pc : ∀ {ta : TA}, PA X (e :: es) ta → PE X (.Call (.Name x p) (e :: es) [] pos) (tCall (liftSpF X.K sp) [] E0 ta)) : PFt X (.Call (.Name x p) (e :: es) [] pos) (fCall sp t) := by
  obtain ⟨v, pa, ra⟩ := ha
  refine ⟨_, pc pa, fun B p0 H ps σT σ Q QV o h k => ra B p0 H ps σT σ _ _ o h fun ds xs H1 s1 r1 q1 => ?_⟩
  show liftSpF X.K sp (xs ++ []) H1 QV E0
  rw [List.append_nil]
  exact ⟨ps, ds, Q, (o.grow s1).live, r1, q1, fun ts p xs' H' s' hp hx rs q => k ts p xs' H' (s1.trans s') (Same.free' s1 hp) hx rs q⟩
theorem fnF {P : Program} {w : World} {K : PySem.W.Frag} {mg : Str → Option Value} {base : Heap} {x qual : Str} {st : Stmt} {f : Addr} {fd : FuncData} {N pn : List Str} {k : Nat} {sp : SpF} (F : Fun K x qual st f fd) (S : FnScope N pn (defScope st)) (len : ∀ ds Q, sp ds Q → ds.length = pn.length)
    (hbody : ∀ (cdv : Value) (A : Around) (outer : List Env) (s : Shared) (H : Hp) (E : XK), Room k (A.deeper (envOfC qual (defScope st) s.heap.objs.size f cdv)) → ∀ (ds : List D) (Q : List D → Prop), sp ds Q →
      ∃ t, PSst (cxOf CX0 P w K mg base N qual (defScope st) f cdv A outer s H E).nox (defBody st) t ∧ t { nx := fun _ => False, rt := fun _ => False, ro := Q } (startT N ds)) : FnOk P w K mg base CX0 (k + 1) f fd pn (liftSpF K sp) := by
  refine F.ok S (fun vs H Q E h => ?_) fun cdv A outer s H vs Q E hr h => ?_
  · obtain ⟨ps, ds, QD, _, r, q, _⟩ := h
    rw [← r.length]; exact len ds QD q
  · obtain ⟨ps, ds, QD, live, r, q, k⟩ := h
    obtain ⟨t, ⟨ts, p, rd⟩, h⟩ := hbody cdv A outer s H E hr ds QD q
    exact ⟨ts, p, rd H ps H ps _ _ _ _ (ok_start live r) h ⟨fun _ _ _ _ _ _ q' => q'.elim, fun _ _ _ _ _ _ q' => q'.elim, fun _ _ _ _ _ _ q' => q'.elim, fun _ _ _ _ _ q' => q'.elim, fun ts p xs H' s' hB hp hx rs q' => k ts p xs H' s' hB hx rs q', fun _ _ _ _ _ _ _ _ _ _ _ _ _ _ _ _ _ _ q' => q'.elim, True.intro⟩⟩
def sSetF (i : Nat) (t : FT) : STt := fun DT σ => t σ fun ts => DT.nx (σ.set i (.own ts))
theorem setF_read {i : Nat} {t : FT} {v : TE} (r : ∀ (B : Hp) (p0 : List Addr) (H : Hp) (ps : List Addr) (σT : List Sl) (σ : L2.St) (Q : List D → Prop) (QV : VK), Ok X.K B p0 H ps σT σ → t σT Q →
      (∀ ts p xs H', Same H H' → H p = none → H' p = some (.lst xs) → Reps X.K (mask H' (p :: ps)) ts xs → Q ts → QV (.ref p) H') → v σ H QV)
    (B : Hp) (p0 : List Addr) (H : Hp) (ps : List Addr) (σT : List Sl) (σ : L2.St) (DT : EndsT) (DV : Ends) (o : Ok X.K B p0 H ps σT σ) (h : sSetF i t DT σT) (f : Fits X.K B p0 H ps DT DV) : tAsg v (gName i) DV σ H := by
  refine r B p0 H ps σT σ _ _ o h fun ts p xs H' s hp hx rs q => ?_
  exact f.nx H' (p :: ps) _ _ (o.takeOwn s hp hx rs) (by rw [← without_mask]; exact mask_same (without_same s hp)) q
theorem st_setF {i : Nat} {x : Str} {pos' : Pos} {t : FT} (h : PFt X e t) (ps' : ∀ {v : TE}, PE X e v → PS X (.Assign [.Name x pos'] e pos) (tAsg v (gName i))) : PSt X (.Assign [.Name x pos'] e pos) (sSetF i t) := by
  obtain ⟨v, p, r⟩ := h
  exact ⟨_, ps' p, setF_read r⟩
def sRetF (t : FT) : STt := fun DT σ => t σ DT.ro
theorem st_retF {t : FT} (h : PFt X e t) : PSt X (.Return (some e) pos) (sRetF t) := by
  obtain ⟨v, p, r⟩ := h
  refine ⟨_, ps_ret p, fun B p0 H ps σT σ DT DV o h f => r B p0 H ps σT σ _ _ o h fun ts p xs H' s hp hx rs q => ?_⟩
  refine f.ro ts p xs H' (o.base.trans s) (Same.free' o.base hp) (fun z => fresh_notin o.live hp (o.sub p z)) hx (rs.same (mask_sub fun q hq => ?_)) q
  rcases List.mem_cons.mp hq with rfl | hq
  · exact List.mem_cons_self ..
  · exact List.mem_cons_of_mem _ (o.sub q hq)
def sRetOwn (i : Nat) : STt := fun DT σ => ∃ ts, σ[i]? = some (.own ts) ∧ DT.ro ts
theorem st_retOwn {i : Nat} {n : Expr} (hn : PE X n (tVar i)) : PSt X (.Return (some n) pos) (sRetOwn i) := by
  refine ⟨_, ps_ret hn, fun B p0 H ps σT σ DT DV o h f => ?_⟩
  obtain ⟨ts, e, h⟩ := h
  obtain ⟨q, xs, h1, h2, h3, h4, h5, h6⟩ := o.own i ts e
  refine ⟨.ref q, h1, f.ro ts q xs H o.base h3 h4 h5 (h6.same (mask_sub fun z hz => ?_)) h⟩
  rcases List.mem_cons.mp hz with rfl | hz
  · exact h2
  · exact o.sub z hz
def sWhile (c : TTt) (tb : STt) : STt := fun DT σ => ∃ P : Nat → List Sl → Prop, (∃ n, P n σ) ∧ ∀ n σ', P n σ' → c σ' fun b => if b = true then tb { DT with nx := fun σ2 => ∃ m, m < n ∧ P m σ2, ct := fun σ2 => ∃ m, m < n ∧ P m σ2, bk := DT.nx } σ' else DT.nx σ'
theorem st_while {c : Expr} {body : List Stmt} {tc : TTt} {tb : STt} (hc : PTt X c tc) (hb : PSst X body tb) (pw : ∀ {vc : TT} {vb : TS}, PT X c vc → PSs X body vb → PS X (.While c body [] pos) (tWhile vc vb)) : PSt X (.While c body [] pos) (sWhile tc tb) := by
  obtain ⟨vc, pc, rc⟩ := hc
  obtain ⟨vb, pb, rb⟩ := hb
  refine ⟨_, pw pc pb, fun B p0 H ps σT σ DT DV o h f => ?_⟩
  obtain ⟨P, ⟨n0, h0⟩, hs⟩ := h
  refine ⟨fun n σ' H' => ∃ ps' σT', Ok X.K B p0 H' ps' σT' σ' ∧ Same (mask H ps) (mask H' ps') ∧ P n σT', ⟨n0, ps, σT, o, L2.Same.refl _, h0⟩, ?_⟩
  rintro n σ' H' ⟨ps', σT', o', s', p'⟩
  refine rc B p0 H' ps' σT' σ' _ _ o' (hs n σT' p') fun b H1 s1 q1 => ?_
  have f' : Fits X.K B p0 H1 ps' DT DV := (f.later s').later (mask_same s1)
  have s'' : Same (mask H ps) (mask H1 ps') := s'.trans (mask_same s1)
  cases b with
  | true =>
    rw [if_pos rfl] at q1 ⊢
    refine ⟨fun σ2 H2 => ∃ m, m < n ∧ ∃ ps2 σT2, Ok X.K B p0 H2 ps2 σT2 σ2 ∧ Same (mask H ps) (mask H2 ps2) ∧ P m σT2, fun σ2 H2 z => z, ?_⟩
    exact rb B p0 H1 ps' σT' σ' _ _ (o'.grow s1) q1 ⟨fun H4 ps4 σT4 σ4 o4 s4 ⟨m, hm, q4⟩ => ⟨m, hm, ps4, σT4, o4, s''.trans s4, q4⟩, fun H4 ps4 σT4 σ4 o4 s4 q4 => f'.nx H4 ps4 σT4 σ4 o4 s4 q4, fun H4 ps4 σT4 σ4 o4 s4 ⟨m, hm, q4⟩ => ⟨m, hm, ps4, σT4, o4, s''.trans s4, q4⟩, f'.rt, f'.ro, f'.rp, f'.xb⟩
  | false =>
    rw [if_neg (by decide)] at q1 ⊢
    exact f'.nx H1 ps' σT' σ' (o'.grow s1) (L2.Same.refl _) q1
def gP3 (i j k : Nat) : GT := fun d σ Q => ∃ a b c, d = .tuple [a, b, c] ∧ Q (((σ.set i (.val a)).set j (.val b)).set k (.val c))
theorem gt_triple {i j k : Nat} {t : Expr} (h : PG X t (gTup X.K 3 (gCons (gName i) (gCons (gName j) (gCons (gName k) gNil))))) : PGt X t (gP3 i j k) :=
  ⟨_, h, fun B p0 H ps σT σ d v Q QV o r h k => by
    obtain ⟨a, b, c, rfl, h⟩ := h
    cases r with
    | @tuple p xs _ hq r =>
      cases r with
      | cons ra r =>
        cases r with
        | cons rb r =>
          cases r with
          | cons rc r =>
            cases r
            exact ⟨_, _, rfl, Same.seqT mask_le hq, rfl, _, _, rfl, _, _, rfl, _, _, rfl, rfl, k _ _ (((o.set ra).set rb).set rc) (fun n => noOwn_set (noOwn_set (noOwn_set n _ _) _ _) _ _) h⟩⟩
def sUnpG (te : ET) (g : GT) : STt := fun DT σ => te σ fun d => g d σ DT.nx
theorem st_unpG {tg : Expr} {g : GT} (he : PEt X e te) (hg : PGt X tg g) (pa : ∀ {v : TE} {gv : TG}, PE X e v → PG X tg gv → PS X (.Assign [tg] e pos) (tAsg v gv)) : PSt X (.Assign [tg] e pos) (sUnpG te g) := by
  obtain ⟨v, pe, re⟩ := he
  obtain ⟨gv, pg, rg⟩ := hg
  refine ⟨_, pa pe pg, fun B p0 H ps σT σ DT DV o h f => re B p0 H ps σT σ _ _ o h fun d x H1 s1 r1 q1 => ?_⟩
  exact rg B p0 H1 ps σT σ d x _ _ (o.grow s1) r1 q1 fun σT' σ' o' _ q' => f.nx H1 ps _ _ o' (mask_same s1) q'
def eIf (c : TTt) (ta tb : ET) : ET := fun σ Q => c σ fun b => if b = true then ta σ Q else tb σ Q
theorem et_if {tc : TTt} (hc : PTt X c tc) (ha : PEt X a ta) (hb : PEt X b tb) : PEt X (.IfExp c a b pos) (eIf tc ta tb) := by
  obtain ⟨vc, pc, rc⟩ := hc
  obtain ⟨va, pa, ra⟩ := ha
  obtain ⟨vb, pb, rb⟩ := hb
  refine ⟨_, pe_ifExp pc pa pb, fun B p0 H ps σT σ Q QV o h k => rc B p0 H ps σT σ _ _ o h fun d H1 s1 q1 => ?_⟩
  cases d with
  | true =>
    rw [if_pos rfl] at q1 ⊢
    exact ra B p0 H1 ps σT σ Q _ (o.grow s1) q1 fun d v H' s' r' q' => k d v H' (s1.trans s') r' q'
  | false =>
    rw [if_neg (by decide)] at q1 ⊢
    exact rb B p0 H1 ps σT σ Q _ (o.grow s1) q1 fun d v H' s' r' q' => k d v H' (s1.trans s') r' q'
def gInt (d : D) (Q : D → Prop) : Prop := match d with
  | .int i => Q (.int i)
  | .bool b => Q (.int (if b then 1 else 0))
  | _ => False
theorem c_int : CallT X (fun xs H Q => (∃ i, xs = [.int i] ∧ Q (.int i) H) ∨ ∃ k, xs = [.bl k] ∧ Q (.int (if k then 1 else 0)) H) (f1 gInt) := c1 fun H ps d x Q QV live r h k => by
  cases r with
  | int i => exact .inl ⟨i, rfl, k _ _ H (L2.Same.refl H) (.int _) h⟩
  | bool b => exact .inr ⟨b, rfl, k _ _ H (L2.Same.refl H) (.int _) h⟩
  | _ => exact h.elim
end
end TL

set_option Elab.async false
set_option linter.all false
set_option maxRecDepth 100000
namespace L2
open PySem PySem.Spec PyProof.Rows PySem.SeqAt
open AutoSeq1 (wpAny_loadPart')
section
variable {X : Cx} {pins : List (Addr × Obj)} {σ : St} {H : Hp} {s : Shared} {p : Addr}
theorem Inv.retold {u u' : HO} (I : Inv X pins σ H s) (h : H p = some u) (nt : ∀ xs, u ≠ .tup xs) (nf : ∀ o v, u ≠ .frz o v) (nb : ∀ ps, u ≠ .tbl ps) (no : ∀ a, u ≠ .own a) (new : ObjOk X.prog X.w (upd H p u') s.heap p u') : Inv X pins σ (upd H p u') s := by
  have ne : ∀ b v, H b = some v → v ≠ u → upd H p u' b = some v := fun b v e hv => by
    rw [upd_ne fun z => by rw [z, h] at e; exact hv (Option.some.inj e).symm]
    exact e
  have fin := I.step (h' := s.heap) (H' := upd H p u') (g' := s.gens) (t' := s.toks) (d' := s.drawn) (ch := []) (fun b hb => by cases hb) (fun b o _ _ _ e _ => e) (fun b o _ _ _ e _ => ⟨o.slots, e⟩)
    (fun b o _ e n => by rw [upd_ne fun z => by rw [z, h] at n; cases n]; exact n) (fun b o _ e => ⟨o, e⟩) (fun b xs e => ne _ _ e (fun z => nt xs z.symm)) (fun b o v e => ne _ _ e (fun z => nf o v z.symm))
    (fun b ps e => ⟨#[], by rw [ne _ _ e (fun z => nb ps z.symm)]; simp⟩) (fun m hm => hm) (fun b v e => ?_) I.bare
  · exact fin
  · by_cases hb : b = p
    · subst hb; rw [upd_same] at e; cases e; exact new
    · rw [upd_ne hb] at e
      exact (I.hok b v e).stay (fun c w _ q => q) (fun c q => ne _ _ q fun z => no b z.symm) fun c xs q => ne _ _ q fun z => nt xs z.symm
end
theorem extend_lst (l : Addr) (items : Array Value) (n : Nat) (b : Addr) (items2 : Array Value) (n2 : Nat) (dd : Option Addr) (sl : Array (Option Value)) (hc0 : ¬(!items.isEmpty && Builtin.List.listTooLong (items.size + items2.size)) = true) (hc1 : items.size ≤ sizeLine) (hs2 : items.size + items2.size ≤ sizeLine + 1) :
    Meets (Builtin.«list.extend» ⟨[.ref l, .ref b], []⟩) (fun _ R s => s.heap.get? l = some { cls := .type "list", dict := none, data := .seq items n, slots := #[] } ∧ s.heap.get? b = some { cls := .type "list", dict := dd, data := .seq items2 n2, slots := sl } ∧ R (.ok (.ret Value.none)) { s with heap := s.heap.update l (Obj.mapSeq fun x => x ++ items2), toks := s.toks }) :=
  .of_wp fun prog w A R s h => by
    obtain ⟨hp, g, d, tk, os⟩ := s; obtain ⟨hl, hb, h⟩ := h; have f1 := AutoSeq1.idx_int; have f2 := AutoSeq1.sub_tuple_tuple; have f3 := AutoSeq1.sub_list_list; have f4 := AutoSeq1.sub_tuple_list; have f5 := AutoSeq1.sub_list_tuple
    have hz' : (items ++ items2).size ≤ sizeLine + 1 := by rw [Array.size_append]; exact hs2
    wp_walk using (wpAny_updateSeq hl rfl (hz := hc1) (_hz' := hz')), wpAny_loadPart' hl, wpAny_loadPart' hb
    exact ⟨_, rfl, h⟩
section
variable {X : Cx}
def rExtL (K : PySem.W.Frag) : V → List V → Hp → VK → Prop := fun x vs H Q => ∃ l b xs zs, x = .ref l ∧ vs = [.ref b] ∧ H l = some (.lst xs) ∧ SqL K H b zs ∧ xs.length + zs.length ≤ sizeLine ∧ Q .non (upd H l (.lst (xs ++ zs)))
theorem mt_extL : MtM X "list.extend" (rExtL X.K) := by
  intro pins s σ H x vs v us Q I rx rv h
  obtain ⟨l, b, xs, zs, rfl, rfl, hH, hB, hz, q⟩ := h
  cases rx
  obtain ⟨u, rfl, ru⟩ := rv.one
  cases ru
  obtain ⟨z, its, n, r, hl, e⟩ := I.lstM hH
  obtain ⟨its2, r2, ⟨o, n2, e2, hc, hdn, hd⟩, z2⟩ := I.list hB
  have hl2 := r2.length
  have hsz : its.toArray.size + its2.toArray.size ≤ sizeLine := by rw [List.size_toArray, List.size_toArray]; omega
  have hlong : ¬ (!its.toArray.isEmpty && Builtin.List.listTooLong (its.toArray.size + its2.toArray.size)) = true := by
    rw [notLongL hsz, Bool.and_false]
    exact Bool.false_ne_true
  obtain ⟨oc, od, odt, osl⟩ := o
  cases hc
  cases hd
  refine call_meets F.slot_list_extend ⟨_, e, rfl⟩ F.entry_list_extend (F.args_list_extend_2 _ _) (extend_lst l its.toArray n b its2.toArray n2 od osl hlong (by rw [List.size_toArray]; omega) (by omega)) ⟨e, e2, ?_⟩
  refine ⟨.non, _, I.lset (its' := its ++ its2) hH e (by simp) (r.append r2) ?_, rfl, q⟩
  rw [List.length_append]
  omega
end
end L2
namespace TL
open PySem PySem.Spec PyProof.Rows L2
section
variable {X : Cx} {a b c e : Expr} {es : List Expr} {ta tb te : ET} {pos : Pos}
def sExtL (i : Nat) (te : ET) : STt := fun DT σ => ∃ ts, σ[i]? = some (.own ts) ∧ te σ fun d => ∃ us, d = .list us ∧ ts.length + us.length ≤ 100000 ∧ DT.nx (σ.set i (.own (ts ++ us)))
theorem st_extL {i : Nat} {n e : Expr} {te : ET} {ap cp : Pos} (hn : PE X n (tVar i)) (he : PEt X e te) (hs : starEach [e] X.env = (false, eval e X.env) :: starEach [] X.env := by rfl)
    (pb : ∀ {ta : TA}, PA X [e] ta → PS X (.Expr (.Call (.Attribute n "extend" ap) [e] [] cp) pos) (tDrop (tBM X.K "list" (rExtL X.K) (tVar i) ta))) : PSt X (.Expr (.Call (.Attribute n "extend" ap) [e] [] cp) pos) (sExtL i te) := by
  obtain ⟨v, p, r⟩ := he
  refine ⟨_, pb (pa_cons p pa_nil hs), fun B p0 H ps σT σ DT DV o h f => ?_⟩
  obtain ⟨ts, e, h⟩ := h
  obtain ⟨q, xs, h1, h2, h3, h4, h5, h6⟩ := o.own i ts e
  refine ⟨.ref q, h1, .inl ⟨rfl, xs, SqL.of h5⟩, r B p0 H ps σT σ _ _ o h fun d x H1 s1 r1 q1 => ?_⟩
  obtain ⟨us, rfl, hz, q1⟩ := q1
  have o1 := o.grow s1
  cases r1 with
  | @list p2 zs _ hq rs =>
    refine ⟨q, p2, xs, zs, rfl, rfl, s1 _ _ h5, L2.Same.seq mask_le hq, line5 (by rw [← h6.length, ← rs.length]; exact hz), ?_⟩
    have hr : Reps X.K (mask H1 ps) (ts ++ us) (xs ++ zs) := (h6.same (mask_same s1)).append rs
    exact f.nx _ ps _ σ (o1.write (ys := xs ++ zs) e h1 hr) ((mask_same s1).trans (by rw [mask_upd h2]; exact L2.Same.refl _)) q1
theorem fn_never {P : Program} {w : World} {K : PySem.W.Frag} {mg : Str → Option Value} {base : Heap} {k : Nat} {f : Addr} {fd : FuncData} {pn : List Str} : FnOk P w K mg base CX0 k f fd pn (liftSp K fun _ _ => False) :=
  ⟨fun vs H Q E ⟨_, _, _, _, _, h, _⟩ => h.elim, fun A outer s H args us vs Q E _ _ _ _ ⟨_, _, _, _, _, h, _⟩ => h.elim⟩
theorem fn_imp {P : Program} {w : World} {K : PySem.W.Frag} {mg : Str → Option Value} {base : Heap} {k : Nat} {f : Addr} {fd : FuncData} {pn : List Str} {sp sp' : SpT} (F : FnOk P w K mg base CX0 k f fd pn (liftSp K sp)) (h : ∀ ds Q, sp' ds Q → sp ds Q) : FnOk P w K mg base CX0 k f fd pn (liftSp K sp') :=
  F.imp fun vs H Q E ⟨ps, ds, QD, h1, h2, h3, h4⟩ => ⟨ps, ds, QD, h1, h2, h ds QD h3, h4⟩
end
end TL

set_option Elab.async false
set_option linter.all false
set_option maxRecDepth 100000
namespace L2
open PySem PySem.Spec PyProof.Rows
section
variable {X : Cx}
end
end L2
namespace TL
open PySem PySem.Spec PyProof.Rows L2
section
variable {X : Cx} {a b c e : Expr} {es : List Expr} {ta tb te : ET} {pos : Pos}
theorem ints_reps' {K : PySem.W.Frag} {H : Hp} : ∀ ns : List Int, Reps K H (ns.map PyData.int) (ns.map V.int)
  | [] => .nil
  | n :: ns => .cons (.int n) (ints_reps' ns)
end
end TL

set_option Elab.async false
set_option linter.all false
set_option maxRecDepth 100000
namespace TL
open PySem PySem.Spec PyProof.Rows L2
theorem Ok.setUn {K : PySem.W.Frag} {B H : Hp} {p0 ps : List Addr} {σT : List Sl} {σ : L2.St} (o : Ok K B p0 H ps σT σ) {i : Nat} {v : V} : Ok K B p0 H ps (σT.set i .un) (σ.set i (some v)) where
  base := o.base
  sub := o.sub
  live := o.live
  len := by simpa using o.len
  val := fun j d' h => by
    by_cases e : i = j
    · subst e
      have hi : i < σT.length := by
        have := (List.getElem?_eq_some_iff.mp h).1
        simpa using this
      rw [List.getElem?_set_self hi] at h
      cases h
    · rw [List.getElem?_set_ne e] at h ⊢
      exact o.val j d' h
  own := fun j ts h => by
    by_cases e : i = j
    · subst e
      have hi : i < σT.length := by
        have := (List.getElem?_eq_some_iff.mp h).1
        simpa using this
      rw [List.getElem?_set_self hi] at h
      cases h
    · rw [List.getElem?_set_ne e] at h ⊢
      exact o.own j ts h
  dis := fun j k ts us p h1 h2 h3 h4 => by
    have ne : ∀ {l : Nat} {ts : List D}, (σT.set i .un)[l]? = some (.own ts) → i ≠ l := fun {l ts} h e => by
      subst e
      have hi : i < σT.length := by
        have := (List.getElem?_eq_some_iff.mp h).1
        simpa using this
      rw [List.getElem?_set_self hi] at h
      cases h
    have e1 := ne h1
    have e2 := ne h2
    rw [List.getElem?_set_ne e1] at h1 h3
    rw [List.getElem?_set_ne e2] at h2 h4
    exact o.dis j k ts us p h1 h2 h3 h4
  dc := o.dc.setS fun _ _ z => nomatch z
section
variable {X : Cx} {a b c e : Expr} {es : List Expr} {ta tb te : ET} {pos : Pos}
end
end TL

set_option Elab.async false
set_option linter.all false
set_option maxRecDepth 100000
namespace L2
open PySem PySem.Spec PyProof.Rows PySem.SeqAt
section
variable {X : Cx}
end
theorem enumerate_new' (l : Addr) (items : Array Value) :
    Meets (Builtin.«enumerate.__new__» ⟨[.type "enumerate", .ref l], []⟩) (fun _ R s => s.heap.IsList l items ∧
      R (.ok (.ret (.ref (s.heap.push { cls := .type "list_iterator", data := .fields #[.ref l, .int 0 0] }).objs.size)))
        { s with heap := (s.heap.push { cls := .type "list_iterator", data := .fields #[.ref l, .int 0 0] }).push { cls := .type "enumerate", data := .fields #[.none, .bool false, .ref s.heap.objs.size, rawInt 0, .none, .none] } }) :=
  .of_wp fun prog w A R s h => by
    obtain ⟨hp, g, d, tk, os⟩ := s; obtain ⟨hl, h⟩ := h
    have hsub := sub_enumerate
    have hL : Heap.IsList (Shared.heap ⟨hp, g, d, tk, os⟩) l items := hl
    wp_walk
    refine wpAny_stack_any fun st => wpAny_pure ?_
    split
    · rename_i c _ _ _ _ _
      cases (c == Value.type "enumerate")
      · wp_walk using wpAny_pyIter_list hL
        exact ⟨_, rfl, h⟩
      · wp_walk using wpAny_pyIter_list hL
        exact ⟨_, rfl, h⟩
    · wp_walk using wpAny_pyIter_list hL
      exact ⟨_, rfl, h⟩
section
variable {P : Program} {w : World} {A : Around} {E : Value → Shared → Prop} {s : Shared}
theorem call_enumerate' {l : Addr} {items : Array Value} {Q : Value → Shared → Prop} (hl : s.heap.IsList l items)
    (h : ∀ h', IsEnum h' (s.heap.objs.size + 1) s.heap.objs.size 0 .none → h'.IsListIter s.heap.objs.size l 0 → h'.objs.size = s.heap.objs.size + 2 →
      (∀ b o, s.heap.get? b = some o → h'.get? b = some o) → Q (.ref (s.heap.objs.size + 1)) { s with heap := h' }) :
    wpAny (model P w) A (call (.type "enumerate") [.ref l]) Q E s := by
  refine callType_new F.called_enumerate (by decide) (F.typeCall_enumerate_1 _) (F.newCall_enumerate_1 _) (fun obj => F.args_object_init_2 obj _) F.entry_enumerate_new
    (enumerate_new' l items) ⟨hl, ?_⟩
  have hz : (s.heap.push { cls := .type "list_iterator", data := .fields #[.ref l, .int 0 0] }).objs.size = s.heap.objs.size + 1 := Heap.size_push ..
  show _ ∧ _
  rw [hz]
  have he : IsEnum ((s.heap.push { cls := .type "list_iterator", data := .fields #[.ref l, .int 0 0] }).push
      { cls := .type "enumerate", data := .fields #[.none, .bool false, .ref s.heap.objs.size, rawInt 0, .none, .none] }) (s.heap.objs.size + 1) s.heap.objs.size 0 .none := by
    have := Heap.get?_push_size (s.heap.push { cls := .type "list_iterator", data := .fields #[.ref l, .int 0 0] })
      (o := { cls := .type "enumerate", data := .fields #[.none, .bool false, .ref s.heap.objs.size, rawInt 0, .none, .none] }) rfl
    rw [hz] at this; exact this
  exact ⟨⟨_, he, rfl⟩, h _ he ⟨_, Heap.get?_push_of_some _ (Heap.get?_push_size _ rfl), rfl, rfl⟩ (by rw [Heap.size_push, hz]) fun b o x => Heap.get?_push_of_some _ (Heap.get?_push_of_some _ x)⟩
end
def Ite (K : PySem.W.Frag) (a : Addr) : It :=
  ⟨fun i H => ∃ xs x, SqL K H a xs ∧ xs[i]? = some x,
   fun i H v H' => ∃ p x, H p = none ∧ v = .ref p ∧ H' = upd H p (.tup [.int (i : Int), x]) ∧ ∀ xs, SqL K H a xs → xs[i]? = some x,
   fun i H => ∃ xs, SqL K H a xs ∧ xs.length ≤ i⟩
theorem turn_enum {P : Program} {w : World} {K : PySem.W.Frag} {elts : List Expr} {x1 : Nat} {pos : Pos} {e it l : Addr} (hei : e ≠ it) :
    Turn P w K (.Tuple elts x1 pos) (Ite K l) [e, it] e (fun i h => (∃ old, IsEnum h e it (i : Int) old) ∧ h.IsListIter it l i) where
  mem := by simp
  obj := fun i h st b hb => by
    obtain ⟨⟨old, he⟩, hit⟩ := st
    simp only [List.mem_cons, List.not_mem_nil, or_false] at hb
    rcases hb with rfl | rfl
    · exact ⟨_, he, fun v q => by cases q⟩
    · obtain ⟨o, e, c, d⟩ := hit
      exact ⟨o, e, fun v z => by rw [d] at z; cases z⟩
  keep := fun i h h' st k => by
    obtain ⟨⟨old, he⟩, hit⟩ := st
    exact ⟨⟨old, k e (by simp) _ he⟩, hit.at fun o x => k it (by simp) o x⟩
  item := by
    intro X hP hw hK hc i pins s σ H E I hf st hg
    subst hP hw hK
    obtain ⟨⟨old, he⟩, hit⟩ := st
    obtain ⟨xs, x, hq, hx⟩ := hg
    obtain ⟨its, rv, p, hz⟩ := I.list hq
    obtain ⟨u, hu, ru⟩ := rv.get hx
    refine wpAny_pyNext_enum_item he hit p.isList (x := u) (by simpa using hu) hei fun h' a1 a2 a3 a4 a5 => ⟨_, rfl, ?_⟩
    refine wpAny_letOwnedTupleGo_enum (s := { s with heap := h', toks := s.toks + 1 }) a1 fun h2 b1 sb => ?_
    have helt : e < s.heap.objs.size := Heap.lt_size he
    have kk : ∀ c o, c ∉ [e, it] → s.heap.get? c = some o → h2.get? c = some o := fun c o hc' x => by
      simp only [List.mem_cons, List.not_mem_nil, or_false, not_or] at hc'
      exact sb.extBut _ _ hc'.1 (a5 c o hc'.1 hc'.2 x)
    have hT := sb.extBut _ _ (Nat.ne_of_gt helt) a3
    have I1 : Inv X pins σ (upd H s.heap.objs.size (.tup [.int (i : Int), x])) { s with heap := h2, toks := s.toks + 1 } := I.turnedNew (t' := s.toks + 1) hf kk (Nat.le_refl _) ⟨(by show 2 ≤ sizeLine; decide), [.int i s.toks, u], .cons ⟨_, rfl⟩ (.cons ru .nil), ⟨_, hT, rfl, _, rfl, rfl⟩⟩
    refine ⟨.ref s.heap.objs.size, _, I1, rfl, ⟨_, x, I.hok.fresh (Nat.le_refl _), rfl, rfl, fun ys hy => by rw [I.list_inj hy hq]; exact hx⟩, ?_, fun c hc' => ?_⟩
    · exact ⟨⟨_, by rw [Int.natCast_add]; exact b1⟩, a2.at fun o x => sb.extBut _ _ (Ne.symm hei) x⟩
    · have hne : c ≠ s.heap.objs.size := by
        simp only [List.mem_cons, List.not_mem_nil, or_false] at hc'
        rcases hc' with rfl | rfl
        · exact Nat.ne_of_lt helt
        · obtain ⟨o, z, _⟩ := hit; exact Nat.ne_of_lt (Heap.lt_size z)
      rw [upd_ne hne]
      exact (hf c hc').1
  done := by
    intro X hP hw hK hc i pins s σ H E I hf st hg
    subst hP hw hK
    obtain ⟨⟨old, he⟩, hit⟩ := st
    obtain ⟨xs, hq, hx⟩ := hg
    obtain ⟨its, rv, p, hz⟩ := I.list hq
    have hl := rv.length
    refine wpAny_pyNext_enum_end (I.ok.hd hc) he hit p.isList (by simp; omega) fun h' eb => ⟨rfl, I.turnedL (t' := s.toks) hf fun c o hc' x => ?_⟩
    simp only [List.mem_cons, List.not_mem_nil, or_false, not_or] at hc'
    exact eb c o hc'.2 x
  self := fun A i s Q E st h => by
    obtain ⟨⟨old, he⟩, _⟩ := st
    exact wpAny_pyIter_enum he h
theorem boot_enumerate : bootBuiltins "enumerate" = some (.type "enumerate") := by decide +kernel
def iEnum (K : PySem.W.Frag) (ta : TA) : TI := fun σ H R => ta σ H fun vs H1 => ∃ l xs, vs = [.ref l] ∧ SqL K H1 l xs ∧ R (Ite K l) H1
section
variable {X : Cx}
theorem pi_enum {a : Expr} {ta : TA} {p pos tpos : Pos} {elts : List Expr} {x1 : Nat} (hg : Gl X "enumerate") (hm : X.mg "enumerate" = none) (ha : PA X [a] ta) (hs : starEach [a] X.env = [(false, eval a X.env)] := by rfl) :
    PI X (.Tuple elts x1 tpos) (.Call (.Name "enumerate" p) [a] [] pos) (iEnum X.K ta) := by
  intro pins s σ H R I h
  refine Call_ (ld_blt I hg hm boot_enumerate (PyProof.Rows.callWith_type1 (thn (ha pos pins s σ H _ I h) fun us s1 ⟨vs, H1, I1, r1, q1⟩ => ?_) (by rw [hs]; rfl) (by rfl)))
  obtain ⟨l, xs, rfl, hq, q⟩ := q1
  cases r1 with
  | cons r rr =>
    cases rr
    cases r
    obtain ⟨us1, rv1, p1, hz1⟩ := I1.list hq
    refine call_enumerate' p1.isList fun h' he hit hsz hk => wpAny_pyIter_enum (s := { s1 with heap := h' }) he ?_
    refine ⟨_, [s1.heap.objs.size + 1, s1.heap.objs.size], _, _, H1, rfl, I1.kept (t' := s1.toks) hk, turn_enum (e := s1.heap.objs.size + 1) (it := s1.heap.objs.size) (l := l) (Nat.succ_ne_self _), ⟨⟨_, he⟩, hit⟩, fun c hc => ?_, q⟩
    simp only [List.mem_cons, List.not_mem_nil, or_false] at hc
    have le : s1.heap.objs.size ≤ c := by rcases hc with rfl | rfl <;> first | exact Nat.le_refl _ | exact Nat.le_add_right _ _
    exact I1.fpOk le (I1.hok.fresh le)
end
end L2
namespace TL
open PySem PySem.Spec PyProof.Rows L2 PySem.SeqAt
variable {K : PySem.W.Frag}
def enumD (as : List D) : List D := zipD (intsTo as.length) as
theorem enumD_len (as : List D) : (enumD as).length = as.length := by unfold enumD; rw [zipD_len]; unfold intsTo; simp
theorem enumD_get {as : List D} {i : Nat} {a : D} (h : as[i]? = some a) : (enumD as)[i]? = some (.tuple [.int (i : Int), a]) := by
  have hi := (List.getElem?_eq_some_iff.mp h).1
  unfold enumD zipD intsTo
  rw [List.getElem?_map, (List.getElem?_zip_eq_some (z := (PyData.int (i : Int), a))).mpr ⟨by rw [List.getElem?_map, List.getElem?_range hi]; rfl, h⟩]; rfl
def iEnumT (t : AT) : IT := fun σ Q => t σ fun ds => ∃ as, ds = [.list as] ∧ Q (enumD as)
section
variable {X : Cx} {a b c e : Expr} {es : List Expr} {ta tb te : ET} {pos : Pos}
theorem it_enum {t : AT} {p p' tpos : Pos} {elts : List Expr} {x1 : Nat} (ha : PAt X [a] t) (pz : ∀ {ta : TA}, PA X [a] ta → PI X (.Tuple elts x1 tpos) (.Call (.Name "enumerate" p) [a] [] p') (iEnum X.K ta)) : PIt X (.Tuple elts x1 tpos) (.Call (.Name "enumerate" p) [a] [] p') (iEnumT t) := by
  obtain ⟨va, pa, ra⟩ := ha
  refine ⟨_, pz pa, fun B p0 H ps σT σ Q R o h k => ra B p0 H ps σT σ _ _ o h fun ds xs H1 s1 r1 q1 => ?_⟩
  obtain ⟨as, rfl, q⟩ := q1
  cases r1 with
  | cons r1 r2 =>
    cases r2
    cases r1 with
    | @list p1 us _ hq1 rs1 =>
      have n1 := rs1.length
      refine ⟨p1, us, rfl, L2.Same.seq mask_le hq1, k _ _ H1 s1 ⟨fun i H e hl => ?_, fun i H e hl => ?_, fun i H ps' y H' live e hl hy => ?_⟩ q⟩
      · rw [enumD_len] at hl
        exact ⟨us, L2.Same.seq e hq1, by omega⟩
      · rw [enumD_len] at hl
        exact ⟨us, us[i], L2.Same.seq e hq1, List.getElem?_eq_getElem (by omega)⟩
      · obtain ⟨p, x, hp, rfl, rfl, h1⟩ := hy
        obtain ⟨d1, g1, t1⟩ := rs1.get' (h1 us (L2.Same.seq (e.trans mask_le) hq1))
        exact ⟨same_new hp, .tuple [.int (i : Int), d1], enumD_get g1, rep_tup live hp (.cons (.int _) (.cons (t1.same e) .nil))⟩
def rLIndex (K : PySem.W.Frag) : V → List V → Hp → VK → Prop := fun x xs H Q => ∃ (y : V) (ts : List D) (d : D) (j : Nat), xs = [y] ∧ Rep K H (.list ts) x ∧ Rep K H d y ∧ okIx ts d j ∧ j < 1000000 ∧ Q (.int j) H
theorem mt_lindexU (hu : X.A.units + 200 < cLine) : MtR X "list.index" (rLIndex X.K) := by
  intro pins s σ H x xs v us Q I rx rv h
  obtain ⟨y, ts, d, j, rfl, r1, r2, ⟨c1, c2, hm, ⟨t, ht, he⟩, hno⟩, hj0, q⟩ := h
  obtain ⟨u, rfl, ru⟩ := rv.one
  obtain ⟨as, h1⟩ := Rep.reads I (show (PyData.list ts).hasDict = false from noDictAll c1) r1 rx
  obtain ⟨bs, h2⟩ := Rep.reads I (noDict c2) r2 ru
  cases h1 with
  | @list l o items n _ as' h3 h4 h5 h6 =>
    have hmap := readsAll_map ts items.toList _ c1 h6
    have hlen : items.size = ts.length := by rw [← hmap, List.length_map, Array.length_toList]
    have hjl : j < ts.length := (List.getElem?_eq_some_iff.mp ht).1
    have hj : j < items.size := by omega
    have rd : ∀ (m : Nat) (hm : m < items.size), ts[m]? = some (readOf s.heap items[m]) := fun m hm => by
      rw [← hmap, List.getElem?_map]
      simp [hm]
    obtain ⟨oc, od, odt, osl⟩ := o
    cases h4
    cases h5
    refine call_meets F.slot_list_index ⟨_, h3, rfl⟩ F.entry_list_index (F.args_list_index_2 _ _) (list_indexAt _ items _ od osl u (fun y => PyData.eqv (readOf s.heap y) d) j hj (by omega) ?_ ?_) ⟨h3, items_eqAt h6 h2 c1 c2 (by have := hu; omega), ?_⟩
    · have := rd j hj
      rw [ht] at this
      rw [← Option.some.inj this]; exact he
    · intro m hm' hlt
      exact hno m _ hlt (rd m hm')
    · exact ⟨.int j, H, I.tok _, ⟨_, rfl⟩, q⟩
theorem mt_lindex {k : Nat} (hr : Room k X.A) : MtR X "list.index" (rLIndex X.K) := mt_lindexU (by have := hr.un; omega)
def eLIndex (te : ET) (t : AT) : ET := fun σ Q => te σ fun d => ∃ ts, d = .list ts ∧ t σ fun ds => ∃ (x : D) (j : Nat), ds = [x] ∧ okIx ts x j ∧ j < 1000000 ∧ Q (.int j)
theorem et_lindex {n : Expr} {ap : Pos} {t : AT} (hn : PEt X n te) (ha : PAt X (e :: es) t)
    (pc : ∀ {v : TE} {ta : TA}, PE X n v → PA X (e :: es) ta → PE X (.Call (.Attribute n "index" ap) (e :: es) [] pos) (tBM X.K "list" (rLIndex X.K) v ta)) : PEt X (.Call (.Attribute n "index" ap) (e :: es) [] pos) (eLIndex te t) := by
  obtain ⟨v, pe, re⟩ := hn
  obtain ⟨va, pa, ra⟩ := ha
  refine ⟨_, pc pe pa, fun B p0 H ps σT σ Q QV o h k => re B p0 H ps σT σ _ _ o h fun d x H1 s1 r1 q1 => ?_⟩
  obtain ⟨ts, rfl, q1⟩ := q1
  cases r1 with
  | @list p xs _ hq rs =>
    refine ⟨.inl ⟨rfl, _, L2.Same.seq mask_le hq⟩, ra B p0 H1 ps σT σ _ _ (o.grow s1) q1 fun ds ys H2 s2 r2 q2 => ?_⟩
    obtain ⟨d, j, rfl, hok, hj, q⟩ := q2
    cases r2 with
    | cons r3 r4 =>
      cases r4
      exact ⟨_, ts, d, j, rfl, (Rep.list hq rs).same ((mask_same s2).trans mask_le), r3.same mask_le, hok, hj, k _ _ H2 (s1.trans s2) (.int _) q⟩
def sAug (i : Nat) (te : ET) : STt := fun DT σ => ∃ a : Int, σ[i]? = some (.val (.int a)) ∧ te σ fun d => ∃ b : Int, d = .int b ∧ DT.nx (σ.set i (.val (.int (a + b))))
theorem st_aug {i : Nat} {x : Str} {pos' : Pos} (h : PEt X e te) (ps' : ∀ {v : TE}, PE X e v → PS X (.AugAssign (.Name x pos') .Add e pos) (tAug i v (ipI fun i j => i + j))) : PSt X (.AugAssign (.Name x pos') .Add e pos) (sAug i te) := by
  obtain ⟨v, p, r⟩ := h
  refine ⟨_, ps' p, fun B p0 H ps σT σ DT DV o h f => ?_⟩
  obtain ⟨a, ha, h⟩ := h
  obtain ⟨w, e1, rw'⟩ := o.val i _ ha
  cases rw'
  refine ⟨_, e1, r B p0 H ps σT σ _ _ o h fun d x H' s' r' q' => ?_⟩
  obtain ⟨b, rfl, q'⟩ := q'
  cases r'
  exact ⟨_, _, rfl, rfl, f.nx H' ps _ _ ((o.grow s').set (.int _)) (mask_same s') q'⟩
end
end TL
namespace TL
open PySem
end TL
namespace TL
open PySem PySem.Spec PyProof.Rows L2
section
variable {fr : List (Option Nat)} {ti : IT} {tt : TTt} {te : ET} {σ : List Sl} {Q : D → Prop} {ts : List D}
theorem lcp_filt (hti : Gives' ti σ ts) (p : D → Bool) (f : D → D) (hz : ts.length ≤ 100000) (h2 : ∀ x ∈ ts, ∃ a b, x = .tuple [a, b])
    (hp : ∀ (a b : D) (q : Bool → Prop), .tuple [a, b] ∈ ts → q (p (.tuple [a, b])) → tt (((inBlkT fr σ).set 0 (.val a)).set 1 (.val b)) q)
    (ht : ∀ (a b : D) (q : D → Prop), .tuple [a, b] ∈ ts → q (f (.tuple [a, b])) → te (((inBlkT fr σ).set 0 (.val a)).set 1 (.val b)) q) (hq : Q (.list ((ts.filter p).map f))) : eLc fr ti (gP 0 1) tt te σ Q := by
  refine hti _ ⟨hz, fun k σ' ds => (∀ x y, (σ'.set 0 (.val x)).set 1 (.val y) = ((inBlkT fr σ).set 0 (.val x)).set 1 (.val y)) ∧ ds = ((ts.take k).filter p).map f, ⟨fun _ _ => rfl, rfl⟩, fun k x σ' ds hx h => ?_, fun σ' ds h => ?_⟩
  · obtain ⟨h1, rfl⟩ := h
    have hm : x ∈ ts := List.mem_of_getElem? hx
    obtain ⟨a, b, rfl⟩ := h2 x hm
    refine ⟨a, b, rfl, ?_⟩
    show tt ((σ'.set 0 (.val a)).set 1 (.val b)) _
    rw [h1 a b]
    refine hp a b _ hm ?_
    have e : ts.take (k + 1) = ts.take k ++ [.tuple [a, b]] := by rw [List.take_add_one, hx]; rfl
    cases hb : p (.tuple [a, b]) with
    | true =>
      rw [if_pos rfl]
      refine ht a b _ hm ⟨fun x y => set2_set2 _ _ _ _ _, ?_⟩
      rw [e, List.filter_append, List.map_append]
      simp [hb]
    | false =>
      rw [if_neg (by decide)]
      refine ⟨fun x y => set2_set2 _ _ _ _ _, ?_⟩
      rw [e, List.filter_append, List.map_append]
      simp [hb]
  · obtain ⟨_, rfl⟩ := h
    rw [List.take_length]; exact hq
end
end TL

set_option Elab.async false
set_option linter.all false
namespace TL
open PySem PySem.Builtin PySem.Builtin.Str PySem.StrLaws
end TL

set_option Elab.async false
set_option linter.all false
set_option maxRecDepth 100000
namespace L2
open PySem PySem.Spec PyProof.Rows PySem.Builtin.Str
section
variable {X : Cx}
end
end L2
namespace TL
open PySem PySem.Spec PyProof.Rows L2
section
variable {X : Cx} {a b c e : Expr} {es : List Expr} {ta tb te : ET} {pos : Pos}
theorem st_no {s : Stmt} : PSt X s (fun _ _ => False) := ⟨fun _ _ _ => False, fun _ _ _ _ _ _ h => h.elim, fun _ _ _ _ _ _ _ _ _ h _ => h.elim⟩
end
end TL

set_option Elab.async false
set_option linter.all false
set_option maxRecDepth 100000
namespace L2
open PySem PySem.Spec PyProof.Rows PySem.Builtin
section
variable {X : Cx} {e : Expr} {pos : Pos}
end
end L2
namespace TL
open PySem PySem.Spec PyProof.Rows L2
section
variable {X : Cx} {a b c e : Expr} {es : List Expr} {ta tb te : ET} {pos : Pos}
end
end TL

set_option Elab.async false
set_option linter.all false
set_option maxRecDepth 100000
namespace L2
open PySem PySem.Spec PyProof.Rows
section
variable {X : Cx} {pins : List (Addr × Obj)} {σ : St} {H : Hp} {s : Shared} {p q : Addr}
theorem upd_id {u : HO} (h : H p = some u) : upd H p u = H := by
  funext b
  by_cases e : b = p
  · subst e; rw [upd_same, h]
  · rw [upd_ne e]
theorem tape_stable : ∀ h1 h2 : Heap, TL.tapeAt p q h1 → (∀ o, h1.get? p = some o → h2.get? p = some o) → TL.tapeAt p q h2 := fun h1 h2 ⟨a, b, c, ta, tb, tc, n, e, r⟩ k => ⟨a, b, c, ta, tb, tc, n, k _ e, r⟩
def tapeL (q : Addr) (a b c : Int) : HO := .lst [.ref q, .int a, .int b, .int c]
theorem Inv.openTape (I : Inv X pins σ H s) (h : H p = some (.ext (TL.tapeAt p q))) : ∃ a b c : Int, 0 ≤ a ∧ (c = 0 ∨ c = 1) ∧ Inv X pins σ (upd H p (tapeL q a b c)) s := by
  obtain ⟨⟨a, b, c, ta, tb, tc, n, e, ha, hc⟩, _⟩ := I.hok p _ h
  exact ⟨a, b, c, ha, hc, I.retold h (fun xs z => by cases z) (fun o v z => by cases z) (fun ps z => by cases z) (fun a z => by cases z) ⟨Nat.le_of_ble_eq_true rfl, _, n, .cons rfl (.cons ⟨ta, rfl⟩ (.cons ⟨tb, rfl⟩ (.cons ⟨tc, rfl⟩ .nil))), e⟩⟩
theorem Inv.closeTape {a b c : Int} (I : Inv X pins σ H s) (h : H p = some (tapeL q a b c)) (ha : 0 ≤ a) (hc : c = 0 ∨ c = 1) : Inv X pins σ (upd H p (.ext (TL.tapeAt p q))) s := by
  obtain ⟨z, its, n, r, e⟩ := I.hok p _ h
  cases r with
  | cons r0 r => cases r with
    | cons r1 r => cases r with
      | cons r2 r => cases r with
        | cons r3 r =>
          cases r
          cases r0
          obtain ⟨ta, rfl⟩ := r1
          obtain ⟨tb, rfl⟩ := r2
          obtain ⟨tc, rfl⟩ := r3
          exact I.retold h (fun xs z => by cases z) (fun o v z => by cases z) (fun ps z => by cases z) (fun a z => by cases z) ⟨⟨a, b, c, ta, tb, tc, n, e, ha, hc⟩, ⟨_, e⟩, tape_stable⟩
theorem pe_tape {e : Expr} {te : TE} (i : Nat) (h : PE X e te) : PE X e (fun σ H Q => ∃ p q : Addr, σ[i]? = some (some (.ref p)) ∧ H p = some (.ext (TL.tapeAt p q)) ∧ ∀ a b c : Int, 0 ≤ a → (c = 0 ∨ c = 1) →
    te σ (upd H p (tapeL q a b c)) fun v H' => H' = upd H p (tapeL q a b c) ∧ Q v H) := by
  intro pins s σ H Q I ⟨p, q, _, hp, hq⟩
  obtain ⟨a, b, c, ha, hc, I1⟩ := I.openTape hp
  refine thn (h pins s σ _ _ I1 (hq a b c ha hc)) fun u s' ⟨v, H', I', r, e, q'⟩ => ?_
  subst e
  have I2 := I'.closeTape upd_same ha hc
  rw [upd_upd, upd_id hp] at I2
  exact ⟨v, H, I2, r, q'⟩
theorem pg_tape {tg : Expr} {g : TG} (i : Nat) (h : PG X tg g) : PG X tg (fun v σ H Q => ∃ p q : Addr, σ[i]? = some (some (.ref p)) ∧ H p = some (.ext (TL.tapeAt p q)) ∧ ∀ a b c : Int, 0 ≤ a → (c = 0 ∨ c = 1) →
    g v σ (upd H p (tapeL q a b c)) fun σ' H' => (∃ a b c : Int, 0 ≤ a ∧ (c = 0 ∨ c = 1) ∧ H' = upd H p (tapeL q a b c)) ∧ Q σ' H) := by
  intro pins s σ H v u Q I rv ⟨p, q, _, hp, hq⟩
  obtain ⟨a, b, c, ha, hc, I1⟩ := I.openTape hp
  refine thn (h pins s σ _ v u _ I1 rv (hq a b c ha hc)) fun _ s' ⟨σ', H', I', ⟨a, b, c, ha, hc, e⟩, q'⟩ => ?_
  subst e
  have I2 := I'.closeTape upd_same ha hc
  rw [upd_upd, upd_id hp] at I2
  exact ⟨σ', H, I2, q'⟩
theorem pe_mkTape {e : Expr} {te : TE} (h : PE X e te) : PE X e (fun σ H Q => te σ H fun v H' => ∃ (p q : Addr) (a b c : Int), v = .ref p ∧ H' p = some (tapeL q a b c) ∧ 0 ≤ a ∧ (c = 0 ∨ c = 1) ∧ Q (.ref p) (upd H' p (.ext (TL.tapeAt p q)))) := by
  intro pins s σ H Q I hq
  refine thn (h pins s σ H _ I hq) fun u s' ⟨v, H', I', r, q⟩ => ?_
  obtain ⟨p, q, a, b, c, rfl, e, ha, hc, q'⟩ := q
  exact ⟨.ref p, _, I'.closeTape e ha hc, r, q'⟩
end
end L2
namespace TL
open PySem PySem.Spec PyProof.Rows L2
section
variable {X : Cx} {a b c e : Expr} {es : List Expr} {ta tb te : ET} {pos : Pos}
def tapeD (ns : List Int) : D := .dict [(.none, .list (ns.map PyData.int))]
theorem rep_tape {K : PySem.W.Frag} {H : Hp} {ns : List Int} {v : V} (r : Rep K H (tapeD ns) v) : ∃ p q : Addr, v = .ref p ∧ H p = some (.ext (tapeAt p q)) ∧ SqL K H q (ns.map V.int) := by
  unfold tapeD at r
  generalize hg : (PyData.dict [(.none, .list (ns.map PyData.int))]) = d at r
  cases r with
  | @tape p q ms h g =>
    injection hg with hg; injection hg with hg; injection hg with _ hg; injection hg with hg
    have e : ns = ms := by
      have := congrArg (List.map fun d : D => match d with | .int i => i | _ => 0) hg
      simpa [List.map_map, Function.comp_def] using this
    subst e
    exact ⟨p, q, rfl, h, g⟩
  | _ => cases hg
def eTape (i k : Nat) : ET := fun σ Q => ∃ ns, σ[i]? = some (.val (tapeD ns)) ∧ match k with
  | 0 => Q (.list (ns.map PyData.int))
  | 1 => ∀ a : Int, 0 ≤ a → Q (.int a)
  | 2 => ∀ b : Int, Q (.int b)
  | 3 => ∀ c : Int, (c = 0 ∨ c = 1) → Q (.int c)
  | _ => False
theorem et_tape {n ix : Expr} {i : Nat} (k : Nat) (hp : PE X (.Subscript n ix pos) (tOp (rIx X.K) (tVar i) (tC (.int k)))) : PEt X (.Subscript n ix pos) (eTape i k) := by
  refine ⟨_, pe_tape i hp, fun B p0 H ps σT σ Q QV o h kk => ?_⟩
  obtain ⟨ns, e, h⟩ := h
  obtain ⟨v, hv, r⟩ := o.val i _ e
  obtain ⟨p, q, rfl, hH, hq⟩ := rep_tape r
  refine ⟨p, q, hv, mask_le _ _ hH, fun a b c ha hc => ⟨.ref p, hv, ?_⟩⟩
  have fin : ∀ (x : V) (d : D), atI [V.ref q, .int a, .int b, .int c] (k : Int) = some x → Rep X.K (mask H ps) d x → Q d → rIx X.K (.ref p) (.int (k : Int)) (upd H p (tapeL q a b c)) (fun v H' => H' = upd H p (tapeL q a b c) ∧ QV v H) := fun x d hx hr hQ =>
    .inl ⟨p, _, _, x, rfl, rfl, SqL.of upd_same, hx, rfl, kk d x H (L2.Same.refl H) hr hQ⟩
  match k, h with
  | 0, h => exact fin _ _ rfl (.list hq (ints_reps' ns)) h
  | 1, h => exact fin _ _ rfl (.int a) (h a ha)
  | 2, h => exact fin _ _ rfl (.int b) (h b)
  | 3, h => exact fin _ _ rfl (.int c) (h c hc)
def sTapePut (i k : Nat) (te : ET) : STt := fun DT σ => te σ fun d => (∃ ns, σ[i]? = some (.val (tapeD ns))) ∧ (match k with | 1 => ∃ a : Int, d = .int a ∧ 0 ≤ a | 2 => ∃ b : Int, d = .int b | _ => False) ∧ DT.nx σ
theorem st_tapePut {i : Nat} {n ix e : Expr} {p2 : Pos} (k : Nat) (he : PEt X e te) (hg : PG X (.Subscript n ix p2) (gSub (tVar i) (tC (.int k)) rSetL))
    (pa : ∀ {v : TE} {g : TG}, PE X e v → PG X (.Subscript n ix p2) g → PS X (.Assign [.Subscript n ix p2] e pos) (tAsg v g)) : PSt X (.Assign [.Subscript n ix p2] e pos) (sTapePut i k te) := by
  obtain ⟨v, pe, re⟩ := he
  refine ⟨_, pa pe (pg_tape i hg), fun B p0 H ps σT σ DT DV o h f => ?_⟩
  refine re B p0 H ps σT σ _ _ o h fun d x H1 s1 r1 q1 => ?_
  have o1 := o.grow s1
  obtain ⟨⟨ns, e⟩, hd, q1⟩ := q1
  obtain ⟨v, hv, r⟩ := o1.val i _ e
  obtain ⟨p, q, rfl, hH, hq⟩ := rep_tape r
  refine ⟨p, q, hv, mask_le _ _ hH, fun a b c ha hc => ⟨.ref p, hv, ?_⟩⟩
  have nx := f.nx _ ps _ σ o1 (mask_same s1) q1
  match k, hd with
  | 1, ⟨a', hd, ha'⟩ =>
    subst hd; cases r1
    exact ⟨p, _, _, 1, rfl, rfl, upd_same, rfl, ⟨a', b, c, ha', hc, upd_upd⟩, nx⟩
  | 2, ⟨b', hd⟩ =>
    subst hd; cases r1
    exact ⟨p, _, _, 2, rfl, rfl, upd_same, rfl, ⟨a, b', c, ha, hc, upd_upd⟩, nx⟩
def eMkTape (t : FT) : ET := fun σ Q => t σ fun ts => ∃ (ns : List Int) (c : Int), ts = [.list (ns.map PyData.int), .int 0, .int 0, .int c] ∧ (c = 0 ∨ c = 1) ∧ Q (tapeD ns)
theorem et_mkTape {t : FT} (h : PFt X e t) : PEt X e (eMkTape t) := by
  obtain ⟨v, p, r⟩ := h
  refine ⟨_, pe_mkTape p, fun B p0 H ps σT σ Q QV o h k => r B p0 H ps σT σ _ _ o h fun ts p xs H' s hp hx rs q => ?_⟩
  obtain ⟨ns, c, rfl, hc, q⟩ := q
  cases rs with
  | cons r0 rs => cases rs with
    | cons r1 rs => cases rs with
      | cons r2 rs => cases rs with
        | cons r3 rs =>
          cases rs; cases r1; cases r2; cases r3
          cases r0 with
          | @list l xs _ hq hr =>
            have e := reps_ints hr
            subst e
            refine ⟨p, l, 0, 0, c, rfl, hx, Int.le_refl 0, hc, k (tapeD ns) _ _ (fun b u eb => ?_) (.tape (mask_at (fresh_notin o.live hp) upd_same) (L2.Same.seq (fun b u eb => ?_) hq)) q⟩
            · rw [upd_ne fun z => by rw [z, hp] at eb; cases eb]
              exact s b u eb
            · unfold mask at eb ⊢
              by_cases hb : b ∈ p :: ps
              · rw [if_pos hb] at eb; cases eb
              · rw [if_neg hb] at eb
                rw [if_neg fun z => hb (List.mem_cons_of_mem _ z), upd_ne fun z => hb (by rw [z]; exact List.mem_cons_self ..)]
                exact eb
end
end TL
namespace TL
open PySem PySem.Spec PyProof.Rows L2
section
variable {X : Cx} {a b c e : Expr} {es : List Expr} {ta tb te : ET} {pos : Pos}
def constSs : List Expr → Option (List Str)
  | [] => some []
  | .Constant (.str z) _ _ :: es => (constSs es).map (z :: ·)
  | _ => none
theorem at_consts : ∀ {es : List Expr} {zs : List Str}, constSs es = some zs → PAt X es (fun _ Q => Q (zs.map PyData.str))
  | [], zs, h => by
    cases h
    exact at_nil
  | .Constant (.str z) k p :: es, zs, h => by
    have h' : (constSs es).map (z :: ·) = some zs := h
    obtain ⟨ys, hy, rfl⟩ := Option.map_eq_some_iff.mp h'
    exact at_cons et_str (at_consts hy)
theorem st_setN {i : Nat} {x : Str} {pos' : Pos} (hN : X.N.Nodup) (hi : X.N[i]? = some x) (hx : Loc X.env.scope x) (he : PEt X e te) (hs : swapsWith e (some (.Name x pos')) pos.line X.env = pure false := by rfl) (hf : X.fn x = true ∨ X.env.scope.names.lookup x = some .local := by first | exact .inl rfl | exact .inr rfl | assumption) :
    PSt X (.Assign [.Name x pos'] e pos) (sSet i te) := st_set he fun h => ps_set hN hi hx h hs hf
end
end TL

set_option Elab.async false
set_option linter.all false
set_option maxRecDepth 100000
namespace L2
open PySem PySem.Spec PyProof.Rows
section
variable {P : Program} {w : World} {A : Around} {E : Value → Shared → Prop} {s : Shared}
end
section
variable {X : Cx}
end
end L2
namespace TL
open PySem PySem.Spec PyProof.Rows L2
section
variable {X : Cx} {a b : Expr} {pos : Pos}
end
end TL

set_option Elab.async false
set_option linter.all false
set_option maxRecDepth 100000
namespace L2
open PySem PySem.Spec PyProof.Rows PyProof
section
variable {P : Program} {w : World} {A : Around} {E : Value → Shared → Prop} {s : Shared}
end
section
variable {X : Cx}
end
end L2
namespace TL
open PySem PySem.Spec PyProof.Rows L2
section
variable {X : Cx} {a b c e : Expr} {es : List Expr} {ta tb te : ET} {pos : Pos}
end
end TL

set_option Elab.async false
set_option linter.all false
set_option maxRecDepth 100000
namespace L2
open PySem PySem.Spec PyProof.Rows

section
variable {κ : Type} [DecidableEq κ]
def valV (kvs : List (κ × V)) (k : κ) : Option V := (kvs.find? fun kv => decide (kv.1 = k)).map (·.2)
def putK (kvs : List (κ × V)) (k : κ) (v : V) : List (κ × V) :=
  if (kvs.any fun kv => decide (kv.1 = k)) = true then kvs.map (fun kv => if kv.1 = k then (kv.1, v) else kv) else kvs ++ [(k, v)]
def dropK (kvs : List (κ × V)) (k : κ) : List (κ × V) := kvs.filter fun kv => decide (kv.1 ≠ k)

theorem valV_pos {p : κ × V} {r : List (κ × V)} {k : κ} (e : p.1 = k) : valV (p :: r) k = some p.2 := by simp [valV, List.find?_cons, e]
theorem valV_neg {p : κ × V} {r : List (κ × V)} {k : κ} (e : ¬ p.1 = k) : valV (p :: r) k = valV r k := by simp [valV, List.find?_cons, e]
theorem valV_any (k : κ) : ∀ kvs : List (κ × V), (kvs.any fun kv => decide (kv.1 = k)) = (valV kvs k).isSome
  | [] => rfl
  | p :: r => by
    rw [List.any_cons]
    by_cases e : p.1 = k
    · simp only [valV_pos e, decide_eq_true e, Bool.true_or, Option.isSome_some]
    · rw [valV_neg e, decide_eq_false e, Bool.false_or]; exact valV_any k r
theorem RelO.isSome_eq {o : Option V} {u : Option Value} (r : RelO o u) : o.isSome = u.isSome := by
  cases o with
  | none => cases u with
    | none => rfl
    | some _ => exact (show False from r).elim
  | some _ => cases u with
    | none => exact (show False from r).elim
    | some _ => rfl
theorem RelO.getD {o : Option V} {u : Option Value} {d : V} {d' : Value} (r : RelO o u) (rd : RelV d d') : RelV (o.getD d) (u.getD d') := by
  cases o with
  | none => cases u with
    | none => exact rd
    | some _ => exact (show False from r).elim
  | some _ => cases u with
    | none => exact (show False from r).elim
    | some _ => exact r

theorem KV.val {kvs : List (κ × V)} {vs : List (κ × Value)} (r : KV kvs vs) (k : κ) : RelO (valV kvs k) (valueAt vs k) := by
  unfold KV at r
  induction r with
  | nil => exact True.intro
  | @cons p q ps qs h t ih =>
    obtain ⟨h1, h2⟩ := h
    by_cases e : p.1 = k
    · have e' : q.1 = k := h1.symm.trans e
      have b : valueAt (q :: qs) k = some q.2 := by simp [valueAt, List.find?_cons, e']
      rw [valV_pos e, b]; exact h2
    · have e' : ¬ q.1 = k := fun z => e (h1.trans z)
      have b : valueAt (q :: qs) k = valueAt qs k := by simp [valueAt, List.find?_cons, e']
      rw [valV_neg e, b]; exact ih
theorem KV.any {kvs : List (κ × V)} {vs : List (κ × Value)} (r : KV kvs vs) (k : κ) : (kvs.any fun kv => decide (kv.1 = k)) = vs.any fun kv => decide (kv.1 = k) := by
  unfold KV at r
  induction r with
  | nil => rfl
  | cons h t ih => rw [List.any_cons, List.any_cons, ih, h.1]
theorem KV.repl {kvs : List (κ × V)} {vs : List (κ × Value)} (r : KV kvs vs) (k : κ) {y : V} {u : Value} (ry : RelV y u) :
    KV (kvs.map fun kv => if kv.1 = k then (kv.1, y) else kv) (vs.map fun kv => if kv.1 = k then (kv.1, u) else kv) := by
  unfold KV at r ⊢
  induction r with
  | nil => exact .nil
  | @cons p q ps qs h t ih =>
    rw [List.map_cons, List.map_cons]
    refine .cons ?_ ih
    obtain ⟨h1, h2⟩ := h
    by_cases e : p.1 = k
    · rw [if_pos e, if_pos (h1.symm.trans e)]; exact ⟨h1, ry⟩
    · rw [if_neg e, if_neg (fun z => e (h1.trans z))]; exact ⟨h1, h2⟩
theorem KV.put {kvs : List (κ × V)} {vs : List (κ × Value)} (r : KV kvs vs) (k : κ) {y : V} {u : Value} (ry : RelV y u) : KV (putK kvs k y) (stored vs k u) := by
  unfold putK stored
  rw [r.any k]
  by_cases e : (vs.any fun kv => decide (kv.1 = k)) = true
  · rw [if_pos e, if_pos e]; exact r.repl k ry
  · rw [if_neg e, if_neg e]; exact Paired.snoc r ⟨rfl, ry⟩
theorem KV.drop {kvs : List (κ × V)} {vs : List (κ × Value)} (r : KV kvs vs) (k : κ) : KV (dropK kvs k) (without vs k) := by
  unfold KV at r ⊢
  unfold dropK without
  induction r with
  | nil => exact .nil
  | @cons p q ps qs h t ih =>
    obtain ⟨h1, h2⟩ := h
    rw [List.filter_cons, List.filter_cons]
    by_cases e : p.1 = k
    · have a : ¬ decide (p.1 ≠ k) = true := by simp [e]
      have b : ¬ decide (q.1 ≠ k) = true := by simp [h1.symm.trans e]
      rw [if_neg a, if_neg b]; exact ih
    · have e' : ¬ q.1 = k := fun z => e (h1.trans z)
      have a : decide (p.1 ≠ k) = true := by simp [e]
      have b : decide (q.1 ≠ k) = true := by simp [e']
      rw [if_pos a, if_pos b]; exact .cons ⟨h1, h2⟩ ih
theorem KV.keys {kvs : List (κ × V)} {vs : List (κ × Value)} (r : KV kvs vs) : kvs.map (·.1) = vs.map (·.1) := by
  unfold KV at r
  induction r with
  | nil => rfl
  | cons h t ih => rw [List.map_cons, List.map_cons, ih, h.1]
theorem KV.length {kvs : List (κ × V)} {vs : List (κ × Value)} (r : KV kvs vs) : kvs.length = vs.length := Paired.length r
end


abbrev KT (H : Hp) : List (List Key × V) → List (List Key × Addr × Value) → Prop := Paired fun p q => p.1 = q.1 ∧ H q.2.1 = some (.tup (p.1.map kV)) ∧ RelV p.2 q.2.2
theorem KT.val {H : Hp} {kvs : List (List Key × V)} {xs : List (List Key × Addr × Value)} (r : KT H kvs xs) (k : List Key) : RelO (valV kvs k) ((atKey xs k).map (·.2)) := by
  induction r with
  | nil => exact True.intro
  | @cons p q ps qs h t ih =>
    obtain ⟨h1, _, h2⟩ := h
    by_cases e : p.1 = k
    · have e' : q.1 = k := h1.symm.trans e
      have b : atKey (q :: qs) k = some q.2 := by simp [atKey, List.find?_cons, e']
      rw [valV_pos e, b]; exact h2
    · have e' : ¬ q.1 = k := fun z => e (h1.trans z)
      have b : atKey (q :: qs) k = atKey qs k := by simp [atKey, List.find?_cons, e']
      rw [valV_neg e, b]; exact ih
theorem KT.repl {H : Hp} {kvs : List (List Key × V)} {xs : List (List Key × Addr × Value)} (r : KT H kvs xs) (k : List Key) {y : V} {u : Value} (ry : RelV y u) :
    KT H (kvs.map fun kv => if kv.1 = k then (kv.1, y) else kv) (xs.map (putAt k u)) := by
  induction r with
  | nil => exact .nil
  | @cons p q ps qs h t ih =>
    rw [List.map_cons, List.map_cons]
    refine .cons ?_ ih
    obtain ⟨h1, h2, h3⟩ := h
    unfold putAt
    by_cases e : p.1 = k
    · rw [if_pos e, if_pos (h1.symm.trans e)]; exact ⟨h1, h2, ry⟩
    · rw [if_neg e, if_neg (fun z => e (h1.trans z))]; exact ⟨h1, h2, h3⟩
theorem KT.put {H : Hp} {kvs : List (List Key × V)} {xs : List (List Key × Addr × Value)} (r : KT H kvs xs) (k : List Key) {b : Addr} {y : V} {u : Value} (hb : H b = some (.tup (k.map kV))) (ry : RelV y u) :
    KT H (putK kvs k y) (storedH xs k b u) := by
  have e : (kvs.any fun kv => decide (kv.1 = k)) = (atKey xs k).isSome := by
    rw [valV_any, (r.val k).isSome_eq, Option.isSome_map]
  unfold putK storedH
  rw [e]
  by_cases q : (atKey xs k).isSome = true
  · rw [if_pos q, if_pos q]; exact r.repl k ry
  · rw [if_neg q, if_neg q]; exact Paired.snoc r ⟨rfl, hb, ry⟩
theorem KT.keeps {H H' : Hp} {kvs : List (List Key × V)} {xs : List (List Key × Addr × Value)} (r : KT H kvs xs) (ht : ∀ b ys, H b = some (.tup ys) → H' b = some (.tup ys)) : KT H' kvs xs :=
  Paired.mapP r fun _ _ z => ⟨z.1, ht _ _ z.2.1, z.2.2⟩

section
variable {P : Program} {w : World} {H : Hp} {h : Heap} {a : Addr}
end

def DGet (H : Hp) (a : Addr) (y : V) (r : Option V) : Prop :=
  (∃ kvs k, Rd H a (.dK kvs) ∧ y = kV k ∧ r = valV kvs k) ∨ ∃ kvs k b, Rd H a (.dT kvs) ∧ y = .ref b ∧ H b = some (.tup (k.map kV)) ∧ r = valV kvs k
def DPut (H : Hp) (a : Addr) (y v : V) (H' : Hp) : Prop :=
  (∃ kvs k, H a = some (.dK kvs) ∧ y = kV k ∧ kvs.length < sizeLine ∧ H' = upd H a (.dK (putK kvs k v))) ∨
  ∃ kvs k b, H a = some (.dT kvs) ∧ y = .ref b ∧ H b = some (.tup (k.map kV)) ∧ kvs.length < sizeLine ∧ H' = upd H a (.dT (putK kvs k v))
theorem DGet.k {H : Hp} {a : Addr} {kvs : List (Key × V)} {k : Key} (e : H a = some (.dK kvs)) : DGet H a (kV k) (valV kvs k) := .inl ⟨kvs, k, .inl e, rfl, rfl⟩
theorem DGet.t {H : Hp} {a b : Addr} {kvs : List (List Key × V)} {k : List Key} (e : H a = some (.dT kvs)) (eb : H b = some (.tup (k.map kV))) : DGet H a (.ref b) (valV kvs k) := .inr ⟨kvs, k, b, .inl e, rfl, eb, rfl⟩
theorem DPut.k {H : Hp} {a : Addr} {kvs : List (Key × V)} {k : Key} {v : V} (e : H a = some (.dK kvs)) (hl : kvs.length < sizeLine) : DPut H a (kV k) v (upd H a (.dK (putK kvs k v))) := .inl ⟨kvs, k, e, rfl, hl, rfl⟩
theorem DPut.t {H : Hp} {a b : Addr} {kvs : List (List Key × V)} {k : List Key} {v : V} (e : H a = some (.dT kvs)) (eb : H b = some (.tup (k.map kV))) (hl : kvs.length < sizeLine) :
    DPut H a (.ref b) v (upd H a (.dT (putK kvs k v))) := .inr ⟨kvs, k, b, e, rfl, eb, hl, rfl⟩


section
variable {X : Cx} {pins : List (Addr × Obj)} {σ : St} {H : Hp} {s : Shared} {a : Addr} {y v : V} {u r : Value} {o : Option V} {A : Around} {E : Value → Shared → Prop}

theorem Inv.big (I : Inv X pins σ H s) : sysModules < s.heap.objs.size := by
  have h : mainGlobals < s.heap.objs.size := (I.mod.glob.keeps I.bk).lt
  exact Nat.lt_trans (by decide) h

end

section
variable {X : Cx} {pins : List (Addr × Obj)} {σ : St} {H : Hp} {s : Shared} {a : Addr} {kvs : List (Key × V)} {k : Key} {u : Value} {A : Around} {E : Value → Shared → Prop}
end


def NoSl (i : Expr) : Prop := ∀ ov iv, subscripted i false ov iv = operate [ov, iv] (getItem ov iv)
theorem subD_of {prog : Program} {w : World} {A : Around} {E : Value → Shared → Prop} {s : Shared} {env : Env} {value slice : Expr} {pos : Pos} {T id : String} {Q : Value → Shared → Prop}
    (hl : typeLookup (.type T) "__getitem__" = pure (some (.builtin id))) (hs : NoSl slice)
    (h : wpAny (model prog w) A (eval value env) (fun o s₁ => wpAny (model prog w) A (eval slice env) (fun i s₂ => s₂.TypeIs o T ∧ wpAny (model prog w) A (getItem o i) Q E s₂) E s₁) E s) :
    wpAny (model prog w) A (eval (.Subscript value slice pos) env) Q E s := by
  refine Subscript_ (wpAny_mono h (fun o s₁ h₁ => wpAny_mono h₁ (fun i s₂ h₂ => ?_) fun _ _ x => x) fun _ _ x => x)
  obtain ⟨hT, h₂⟩ := h₂
  unfold subscriptTail
  refine wpAny_bind ?_
  rw [getitemInPython_of_ne hT.not_modules]
  refine wpAny_bind (wpAny_specialOf hT hl ?_)
  have fin : wpAny (model prog w) A (subscripted slice false o i) (fun r s₃ => wpAny (model prog w) A (letTemporaryGo value o r >>= fun _ => pure r) Q E s₃) E s₂ := by
    rw [hs o i]
    exact wpAny_operating (wpAny_mono h₂ (fun r s₃ h₃ => wpAny_bind (wpAny_letTemporaryGo (wpAny_pure h₃))) fun _ _ x => x)
  first
    | exact wpAny_pure (wpAny_bind fin)
    | exact wpAny_bind (wpAny_pure (wpAny_bind fin))
    | exact wpAny_bind fin

section
variable {X : Cx} {o i e value : Expr} {pos pos' tpos : Pos} {td ty tv : TE}
end


section
variable {X : Cx} {pos : Pos}
end

end L2

set_option Elab.async false
set_option linter.all false
set_option maxRecDepth 100000
namespace L2
open PySem PySem.Spec PyProof.Rows
noncomputable instance decD : DecidableEq PyData := fun _ _ => Classical.propDecidable _
mutual
def hk : PyData → Bool
  | .none => true
  | .int _ => true
  | .str x => (PyData.str x).canLay0
  | .tuple xs => hkAll xs
  | .bool _ => false
  | .list _ => false
  | .dict _ => false
def hkAll : List PyData → Bool
  | [] => true
  | x :: xs => hk x && hkAll xs
end
mutual
def hashD (w : World) : PyData → Int
  | .none => 0xFCA86420
  | .int i => hashInt i
  | .str x => hashStr w x
  | .tuple xs => reduceHash (Builtin.Tuple.tupleHashOf (hashDs w xs))
  | .bool _ => 0
  | .list _ => 0
  | .dict _ => 0
def hashDs (w : World) : List PyData → List Int
  | [] => []
  | x :: xs => hashD w x :: hashDs w xs
end
mutual
def hdraws : PyData → Nat
  | .tuple xs => hdrawsAll xs + 1
  | .none => 1
  | .int _ => 1
  | .str _ => 1
  | .bool _ => 1
  | .list _ => 1
  | .dict _ => 1
def hdrawsAll : List PyData → Nat
  | [] => 0
  | x :: xs => hdraws x + hdrawsAll xs
end
section
variable {prog : Program} {w : World} {A : Around} {E : Value → Shared → Prop} {s : Shared}
theorem pyHash_non {Q : Int → Shared → Prop} (h : Q 0xFCA86420 { s with toks := s.toks + 1 }) : wpAny (model prog w) A (pyHash .none) Q E s := by
  have hT : s.TypeIs .none "NoneType" := rfl
  unfold pyHash pyHashByItsType
  refine wpAny_bind (wpAny_cRoomFor_byValue rfl ?_)
  refine wpAny_bind (wpAny_specialOf hT PySem.F.slot_NoneType_hash.lookup ?_)
  show wpAny _ _ (if (some (Value.builtin "NoneType.__hash__") == some Value.none) = true then _ else _) Q E s
  rw [if_neg (by rw [beq_builtin_none]; exact Bool.false_ne_true)]
  refine wpAny_bind (wpAny_specialOf hT PySem.F.slot_NoneType_hash.lookup ?_)
  show wpAny _ _ (callSpecialIfBoundUnlessNone? .none "__hash__" _ >>= _) Q E s
  refine wpAny_bind (wpAny_callSpecialIfBoundUnlessNone?_slot hT PySem.F.slot_NoneType_hash (wpAny_call_entry PySem.F.slot_NoneType_hash hT PySem.F.entry_NoneType_hash (show wpAny _ _ (do ret (← mkInt 0xFCA86420)) _ _ s from wpAny_ret_mkInt ?_) (PySem.F.args_NoneType_hash_1 _)))
  show wpAny _ _ (if (decide (-(2 : Int) ^ 63 ≤ 0xFCA86420) && decide ((0xFCA86420 : Int) < 2 ^ 63)) = true then _ else _) Q E _
  rw [if_pos (by decide)]
  exact wpAny_pure h
def HashAt (prog : Program) (w : World) (A : Around) (s : Shared) (d : PyData) (v : Value) : Prop := ∀ (tk : Nat) (E : Value → Shared → Prop) (Q : Int → Shared → Prop), Q (hashD w d) { s with toks := tk + hdraws d } → wpAny (model prog w) A (pyHash v) Q E { s with toks := tk }
theorem hash_tup {xs : List PyData} {a : Addr} {o : Obj} {items : Array Value} {n : Nat} (hu : A.units < cLine) (ho : s.heap.get? a = some o) (hc : o.cls = .type "tuple") (hd : o.data = .seq items n) (hi : Paired (HashAt prog w A.in1 s) xs items.toList) : HashAt prog w A s (.tuple xs) (.ref a) := by
  intro tk E Q h
  have hT : Shared.TypeIs { s with toks := tk } (.ref a) "tuple" := ⟨o, ho, hc⟩
  unfold pyHash
  first | unfold pyHashByItsType | skip
  refine wpAny_bind (wpAny_cRoomFor_or (.inr hu) ?_)
  refine wpAny_bind (wpAny_specialOf hT PySem.F.slot_tuple_hash.lookup ?_)
  show wpAny _ _ (if (some (Value.builtin "tuple.__hash__") == some Value.none) = true then _ else _) Q E _
  rw [if_neg (by rw [beq_builtin_none]; exact Bool.false_ne_true)]
  refine wpAny_bind (wpAny_specialOf hT PySem.F.slot_tuple_hash.lookup ?_)
  show wpAny _ _ (callSpecialIfBoundUnlessNone? (.ref a) "__hash__" _ >>= _) Q E _
  refine wpAny_bind (wpAny_callSpecialIfBoundUnlessNone?_slot hT PySem.F.slot_tuple_hash (wpAny_call_entry PySem.F.slot_tuple_hash hT PySem.F.entry_tuple_hash ?_ (PySem.F.args_tuple_hash_1 _)))
  show wpAny _ _ (Builtin.Tuple.tupleItemsOf (.ref a) >>= _) _ _ _
  refine wpAny_bind (wpAny_tupleItemsOf ho hd ?_)
  refine wpAny_bind ?_
  rw [← Array.forIn_toList]
  refine wpAny_forIn_list _ (fun rest (b : Array Int) s' => ∃ done left : List PyData, xs = done ++ left ∧ Paired (HashAt prog w A.in1 s) left rest ∧ b.toList = hashDs w done ∧ s' = { s with toks := tk + hdrawsAll done }) _ ?_ ?_ _ _ ⟨[], xs, rfl, hi, rfl, rfl⟩
  · rintro x rest b s' ⟨done, left, rfl, hl, hb, rfl⟩
    cases hl with
    | @cons d _ left' _ h1 hl' =>
      have e1 : ∀ ys : List PyData, hashDs w (ys ++ [d]) = hashDs w ys ++ [hashD w d] := fun ys => by
        induction ys with
        | nil => rfl
        | cons y ys ih => show hashD w y :: hashDs w (ys ++ [d]) = _; rw [ih]; rfl
      have e2 : ∀ ys : List PyData, hdrawsAll (ys ++ [d]) = hdrawsAll ys + hdraws d := fun ys => by
        induction ys with
        | nil => show hdraws d + 0 = 0 + hdraws d; omega
        | cons y ys ih => show hdraws y + hdrawsAll (ys ++ [d]) = hdraws y + hdrawsAll ys + hdraws d; rw [ih]; omega
      have fin : ∃ done' left'' : List PyData, done ++ d :: left' = done' ++ left'' ∧ Paired (HashAt prog w A.in1 s) left'' rest ∧ (b.push (hashD w d)).toList = hashDs w done' ∧ ({ s with toks := tk + hdrawsAll done + hdraws d } : Shared) = { s with toks := tk + hdrawsAll done' } :=
        ⟨done ++ [d], left', by simp, hl', by rw [e1, Array.toList_push, hb], by rw [e2, Nat.add_assoc]⟩
      refine wpAny_bind (h1 _ _ _ ?_)
      first
        | exact wpAny_pure fin
        | exact wpAny_bind (wpAny_pure (wpAny_pure fin))
  · rintro b s' ⟨done, left, rfl, hl, hb, rfl⟩
    cases hl
    rw [List.append_nil] at h
    show wpAny _ _ (retInt (Builtin.Tuple.tupleHashOf b.toList)) _ _ _
    rw [hb]
    refine wpAny_ret_mkInt ?_
    have h' : Q (reduceHash (Builtin.Tuple.tupleHashOf (hashDs w done))) { s with toks := tk + (hdrawsAll done + 1) } := h
    show wpAny _ _ (if (decide (-(2 : Int) ^ 63 ≤ Builtin.Tuple.tupleHashOf (hashDs w done)) && decide (Builtin.Tuple.tupleHashOf (hashDs w done) < 2 ^ 63)) = true then _ else _) Q E _
    unfold reduceHash at h'
    by_cases hr : (decide (-(2 : Int) ^ 63 ≤ Builtin.Tuple.tupleHashOf (hashDs w done)) && decide (Builtin.Tuple.tupleHashOf (hashDs w done) < 2 ^ 63)) = true
    · rw [if_pos hr]
      rw [if_pos hr] at h'
      exact wpAny_pure (by simpa [Nat.add_assoc] using h')
    · rw [if_neg hr]
      rw [if_neg hr] at h'
      exact wpAny_bind (wpAny_rule (wpAny_pure (by simpa [Nat.add_assoc] using h')))
mutual
theorem hash_reads (prog : Program) (w : World) (s : Shared) : ∀ (d : PyData) (A : Around) (v : Value) (as : List Addr), Reads s.heap v d as → hk d = true → A.units + d.depth < cLine → HashAt prog w A s d v
  | .none, A, _, _, r, _, _ => by cases r; exact fun tk E Q h => pyHash_non h
  | .int i, A, _, _, r, _, _ => by cases r; exact fun tk E Q h => wpAny_pyHash_int h
  | .str x, A, _, _, r, _, _ => by cases r; exact fun tk E Q h => wpAny_pyHash_str h
  | .tuple xs, A, _, _, r, h, hu => by
    cases r with
    | tuple h1 h2 h3 h4 =>
      have hu' : A.units + (PyData.depthAll xs + 1) < cLine := hu
      exact hash_tup (by omega) h1 h2 h3 (hash_readsAll prog w s xs A.in1 _ _ h4 h (by show A.units + 1 + _ < _; omega))
  | .bool _, _, _, _, _, h, _ => by cases h
  | .list _, _, _, _, _, h, _ => by cases h
  | .dict _, _, _, _, _, h, _ => by cases h
theorem hash_readsAll (prog : Program) (w : World) (s : Shared) : ∀ (xs : List PyData) (A : Around) (vs : List Value) (as : List Addr), ReadsAll s.heap vs xs as → hkAll xs = true → A.units + PyData.depthAll xs < cLine → Paired (HashAt prog w A s) xs vs
  | [], A, _, _, r, _, _ => by cases r; exact .nil
  | x :: xs, A, _, _, r, h, hu => by
    cases r with
    | cons r1 r2 =>
      have h' : (hk x && hkAll xs) = true := h
      rw [Bool.and_eq_true] at h'
      have hu' : A.units + max x.depth (PyData.depthAll xs) < cLine := hu
      exact .cons (hash_reads prog w s x A _ _ r1 h'.1 (by omega)) (hash_readsAll prog w s xs A _ _ r2 h'.2 (by omega))
end
mutual
theorem hk_lay : ∀ {d : PyData}, hk d = true → d.canLay0 = true
  | .none, _ => rfl
  | .int _, _ => rfl
  | .str _, h => h
  | .tuple _, h => hk_layAll h
  | .bool _, h => by cases h
  | .list _, h => by cases h
  | .dict _, h => by cases h
theorem hk_layAll : ∀ {xs : List PyData}, hkAll xs = true → PyData.canLayAll0 xs = true
  | [], _ => rfl
  | x :: xs, h => by
    have h' : (hk x && hkAll xs) = true := h
    rw [Bool.and_eq_true] at h'
    show (x.canLay0 && PyData.canLayAll0 xs) = true
    rw [hk_lay h'.1, hk_layAll h'.2]; rfl
end
mutual
theorem hk_eqv : ∀ {d e : PyData}, hk d = true → hk e = true → PyData.eqv d e = true → d = e
  | .none, .none, _, _, _ => rfl
  | .none, .int _, _, _, h => by cases h
  | .none, .str _, _, _, h => by cases h
  | .none, .tuple _, _, _, h => by cases h
  | .int _, .none, _, _, h => by cases h
  | .int i, .int j, _, _, h => by
    have h' : decide (i = j) = true := by simpa [PyData.eqv] using h
    rw [of_decide_eq_true h']
  | .int _, .str _, _, _, h => by cases h
  | .int _, .tuple _, _, _, h => by cases h
  | .str _, .none, _, _, h => by cases h
  | .str _, .int _, _, _, h => by cases h
  | .str x, .str y, _, _, h => by
    have h' : decide (x = y) = true := by simpa [PyData.eqv] using h
    rw [of_decide_eq_true h']
  | .str _, .tuple _, _, _, h => by cases h
  | .tuple _, .none, _, _, h => by cases h
  | .tuple _, .int _, _, _, h => by cases h
  | .tuple _, .str _, _, _, h => by cases h
  | .tuple xs, .tuple ys, h1, h2, h => by
    have h' : PyData.eqvAll xs ys = true := by simpa [PyData.eqv] using h
    rw [hk_eqvAll h1 h2 h']
  | .bool _, _, h, _, _ => by cases h
  | .list _, _, h, _, _ => by cases h
  | .dict _, _, h, _, _ => by cases h
  | _, .bool _, _, h, _ => by cases h
  | _, .list _, _, h, _ => by cases h
  | _, .dict _, _, h, _ => by cases h
theorem hk_eqvAll : ∀ {xs ys : List PyData}, hkAll xs = true → hkAll ys = true → PyData.eqvAll xs ys = true → xs = ys
  | [], [], _, _, _ => rfl
  | [], _ :: _, _, _, h => by cases h
  | _ :: _, [], _, _, h => by cases h
  | x :: xs, y :: ys, h1, h2, h => by
    have a1 : (hk x && hkAll xs) = true := h1
    have a2 : (hk y && hkAll ys) = true := h2
    rw [Bool.and_eq_true] at a1 a2
    have h' : (PyData.eqv x y && PyData.eqvAll xs ys) = true := by simpa [PyData.eqvAll] using h
    rw [Bool.and_eq_true] at h'
    rw [hk_eqv a1.1 a2.1 h'.1, hk_eqvAll a1.2 a2.2 h'.2]
end
theorem hk_eqv_is {d e : PyData} (h1 : hk d = true) (h2 : hk e = true) : PyData.eqv d e = decide (d = e) := by
  by_cases h : d = e
  · subst h
    rw [SeqAt.eqv_refl d (hk_lay h1), decide_eq_true rfl]
  · rw [decide_eq_false h]
    cases q : PyData.eqv d e with
    | false => rfl
    | true => exact absurd (hk_eqv h1 h2 q) h
mutual
theorem quiet_reads (prog : Program) (w : World) (s : Shared) : ∀ (d : PyData) (A : Around) (E : Value → Shared → Prop) (v : Value) (as : List Addr) (n : Nat) (Q : Bool → Shared → Prop), Reads s.heap v d as → hk d = true → d.depth ≤ n → Q true s → wpAny (model prog w) A (eqIsQuiet n v) Q E s
  | .none, A, E, _, _, n, Q, r, _, _, q => by cases r; rw [eqIsQuiet_byValue n rfl]; exact wpAny_pure q
  | .int i, A, E, _, _, n, Q, r, _, _, q => by cases r; rw [eqIsQuiet_byValue n rfl]; exact wpAny_pure q
  | .str x, A, E, _, _, n, Q, r, _, _, q => by cases r; rw [eqIsQuiet_byValue n rfl]; exact wpAny_pure q
  | .tuple xs, A, E, _, _, 0, Q, r, _, hn, q => by
    have : PyData.depthAll xs + 1 ≤ 0 := hn
    omega
  | .tuple xs, A, E, _, _, n + 1, Q, r, h, hn, q => by
    cases r with
    | @tuple a o vs m _ _ h1 h2 h3 h4 =>
      have hT : s.TypeIs (.ref a) "tuple" := ⟨o, h1, h2⟩
      have hn' : PyData.depthAll xs + 1 ≤ n + 1 := hn
      unfold eqIsQuiet
      refine wpAny_bind (wpAny_specialOf hT PySem.F.slot_tuple_eq.lookup ?_)
      show wpAny _ _ (isInstance (.ref a) (.type "tuple") >>= _) _ _ s
      refine wpAny_bind (wpAny_isInstance hT isSubtype_tuple_tuple ?_)
      simp only [Bool.not_true, Bool.false_eq_true, if_false]
      refine wpAny_bind (wpAny_seqItems h1 h3 ?_)
      refine wpAny_bind ?_
      show wpAny _ _ (forIn vs _ _) _ _ s
      rw [← Array.forIn_toList]
      refine wpAny_forIn_list _ (fun rest r s' => r.1 = none ∧ s' = s ∧ ∀ v ∈ rest, ∀ (Q : Bool → Shared → Prop), Q true s → wpAny (model prog w) A (eqIsQuiet n v) Q E s) _ ?_ ?_ _ _ ⟨rfl, rfl, fun v hv Q hQ => quiet_readsAll prog w s xs A E _ _ n Q h4 h (by omega) v hv hQ⟩
      · rintro v rest r s' ⟨hr, rfl, hall⟩
        refine wpAny_bind (hall v List.mem_cons_self _ ?_)
        simp only [Bool.not_true, Bool.false_eq_true, if_false]
        exact wpAny_pure ⟨rfl, rfl, fun u hu' => hall u (List.mem_cons_of_mem _ hu')⟩
      · rintro ⟨r1, r2⟩ s' ⟨hr, rfl, _⟩
        simp only at hr
        subst hr
        exact wpAny_pure q
  | .bool _, _, _, _, _, _, _, _, h, _, _ => by cases h
  | .list _, _, _, _, _, _, _, _, h, _, _ => by cases h
  | .dict _, _, _, _, _, _, _, _, h, _, _ => by cases h
theorem quiet_readsAll (prog : Program) (w : World) (s : Shared) : ∀ (xs : List PyData) (A : Around) (E : Value → Shared → Prop) (vs : List Value) (as : List Addr) (n : Nat) (Q : Bool → Shared → Prop), ReadsAll s.heap vs xs as → hkAll xs = true → PyData.depthAll xs ≤ n → ∀ v ∈ vs, Q true s → wpAny (model prog w) A (eqIsQuiet n v) Q E s
  | [], A, E, _, _, n, Q, r, _, _, v, hv, _ => by cases r; cases hv
  | x :: xs, A, E, _, _, n, Q, r, h, hn, v, hv, q => by
    cases r with
    | cons r1 r2 =>
      have h' : (hk x && hkAll xs) = true := h
      rw [Bool.and_eq_true] at h'
      have hn' : max x.depth (PyData.depthAll xs) ≤ n := hn
      rcases List.mem_cons.mp hv with rfl | hv
      · exact quiet_reads prog w s x A E _ _ n Q r1 h'.1 (by omega) q
      · exact quiet_readsAll prog w s xs A E _ _ n Q r2 h'.2 (by omega) v hv q
end
mutual
theorem reads_stay {h h' : Heap} (hk' : ∀ (b : Addr) (o : Obj) (vs : Array Value) (n : Nat), h.get? b = some o → o.data = .seq vs n → h'.get? b = some o) : ∀ {d : PyData} {v : Value} {as : List Addr}, Reads h v d as → hk d = true → Reads h' v d as
  | .none, _, _, r, _ => by cases r; exact .none
  | .int i, _, _, r, _ => by cases r; exact .int i _
  | .str x, _, _, r, _ => by cases r; exact .str x _
  | .tuple xs, _, _, r, hh => by
    cases r with
    | tuple h1 h2 h3 h4 => exact .tuple (hk' _ _ _ _ h1 h3) h2 h3 (reads_stayAll hk' h4 hh)
  | .bool _, _, _, _, hh => by cases hh
  | .list _, _, _, _, hh => by cases hh
  | .dict _, _, _, _, hh => by cases hh
theorem reads_stayAll {h h' : Heap} (hk' : ∀ (b : Addr) (o : Obj) (vs : Array Value) (n : Nat), h.get? b = some o → o.data = .seq vs n → h'.get? b = some o) : ∀ {xs : List PyData} {vs : List Value} {as : List Addr}, ReadsAll h vs xs as → hkAll xs = true → ReadsAll h' vs xs as
  | [], _, _, r, _ => by cases r; exact .nil
  | x :: xs, _, _, r, hh => by
    cases r with
    | cons r1 r2 =>
      have hh' : (hk x && hkAll xs) = true := hh
      rw [Bool.and_eq_true] at hh'
      exact .cons (reads_stay hk' r1 hh'.1) (reads_stayAll hk' r2 hh'.2)
end
end
noncomputable def datKind (prog : Program) (w : World) : HeapKind prog w PyData where
  is := fun h k a => hk k = true ∧ k.depth ≤ 8 ∧ ∃ as, Reads h (.ref a) k as
  hash := hashD w
  draws := hdraws
  room := fun A => A.units + 8 < cLine
  inj := fun ⟨h1, _, as, r1⟩ ⟨_, _, bs, r2⟩ => SeqAt.Reads.unique _ _ _ _ _ (hk_lay h1) r1 r2
  keeps := fun ⟨h1, h2, as, r⟩ ho hd hs => ⟨h1, h2, as, reads_stay (fun b o vs n e ed => (hs.2 b (fun z => by
    subst z
    rw [ho] at e
    cases e
    rw [hd] at ed
    cases ed)).trans e) r h1⟩
  pyHash := fun {A E s k a Q} hu ⟨h1, h2, as, r⟩ h => hash_reads prog w s k A _ _ r h1 (by omega) s.toks E Q h
  eqBool := fun {A E s x y a b Q} hu ⟨h1, h2, as, r⟩ ⟨g1, g2, bs, r'⟩ h => SeqAt.eqAt_reads x y A s _ _ _ _ r r' (hk_lay h1) (hk_lay g1) (by omega) prog w E Q (by rw [hk_eqv_is h1 g1]; exact h)
  quiet := fun {A E s k a Q} ⟨h1, h2, as, r⟩ h => quiet_reads prog w s k A E _ _ 8 Q r h1 h2 h
end L2

set_option Elab.async false
set_option linter.all false
set_option maxRecDepth 100000
namespace L2
open PySem PySem.Spec PyProof.Rows TL
def KeyOk (k : D) : Prop := hk k = true ∧ k.depth ≤ 8
structure DK (K : PySem.W.Frag) (w : World) (H : Hp) (es : List (Int × Addr × V)) (ks : List D) : Prop where
  rep : Reps K H ks (es.map fun e => .ref e.2.1)
  nd : ks.Nodup
  ok : ∀ k ∈ ks, KeyOk k
  hs : es.map (·.1) = ks.map (hashD w)
theorem DK.same {K : PySem.W.Frag} {w : World} {H H' : Hp} {es : List (Int × Addr × V)} {ks : List D} (x : DK K w H es ks) (e : Same H H') : DK K w H' es ks := ⟨x.rep.same e, x.nd, x.ok, x.hs⟩
section
variable {X : Cx} {pins : List (Addr × Obj)} {σ : St} {H : Hp} {s : Shared} {p a : Addr} {es : List (Int × Addr × V)} {ks : List D} {k : D} {A : Around} {E : Value → Shared → Prop}
theorem key_is (I : Inv X pins σ H s) (r : Rep X.K H k (.ref a)) (ok : KeyOk k) : (datKind X.prog X.w).is s.heap k a := by
  obtain ⟨as, h⟩ := Rep.reads I (noDict (hk_lay ok.1)) r (u := .ref a) rfl
  exact ⟨ok.1, ok.2, as, h⟩
theorem key_all (I : Inv X pins σ H s) : ∀ {ks : List D} {as : List Addr}, Reps X.K H ks (as.map V.ref) → (∀ k ∈ ks, KeyOk k) → Paired (fun k a => (datKind X.prog X.w).is s.heap k a) ks as
  | [], [], _, _ => .nil
  | [], _ :: _, r, _ => by cases r
  | _ :: _, [], r, _ => by cases r
  | k :: ks, a :: as, r, h => by
    cases r with
    | cons r1 r2 => exact .cons (key_is I r1 (h k (List.mem_cons_self ..))) (key_all I r2 fun z hz => h z (List.mem_cons_of_mem _ hz))
abbrev EX (es : List (Int × Addr × V)) (ks : List D) (xs : List (D × Addr × Value)) : Prop := xs.map (·.1) = ks ∧ Paired (fun (e : Int × Addr × V) (x : D × Addr × Value) => x.2.1 = e.2.1 ∧ RelV e.2.2 x.2.2) es xs
theorem ex_mk (w : World) (prog : Program) : ∀ {es : List (Int × Addr × V)} {ks : List D} {ds : List DictEntry}, Paired EntR es ds → es.map (·.1) = ks.map (hashD w) → ∃ xs, EX es ks xs ∧ ds = xs.map (entryOfKey (datKind prog w))
  | [], [], _, .nil, _ => ⟨[], ⟨rfl, .nil⟩, rfl⟩
  | [], _ :: _, _, _, h => by simp at h
  | _ :: _, [], _, _, h => by simp at h
  | e :: es, k :: ks, _, .cons (b := d) r t, h => by
    rw [List.map_cons, List.map_cons] at h
    injection h with h1 h2
    obtain ⟨xs, ⟨x1, x2⟩, x3⟩ := ex_mk w prog t h2
    refine ⟨(k, e.2.1, d.val) :: xs, ⟨by rw [List.map_cons, x1], .cons ⟨rfl, r.2.2⟩ x2⟩, ?_⟩
    rw [List.map_cons, x3]
    congr 1
    obtain ⟨r1, r2, r3⟩ := r
    show d = ⟨hashD w k, .ref e.2.1, d.val⟩
    rw [← h1, ← r1, ← r2]
theorem ex_addr : ∀ {es : List (Int × Addr × V)} {xs : List (D × Addr × Value)}, Paired (fun (e : Int × Addr × V) (x : D × Addr × Value) => x.2.1 = e.2.1 ∧ RelV e.2.2 x.2.2) es xs → xs.map (fun x => x.2.1) = es.map fun e => e.2.1
  | _, _, .nil => rfl
  | _, _, .cons r t => by rw [List.map_cons, List.map_cons, r.1, ex_addr t]
theorem dic_of (I : Inv X pins σ H s) (h : H p = some (dicO p es)) (dk : DK X.K X.w H es ks) : (p == sysModules) = false ∧ es.length ≤ sizeLine ∧ ∃ xs, EX es ks xs ∧ s.heap.DictOfH (datKind X.prog X.w) p xs := by
  obtain ⟨⟨h1, h2, o, ds, ep, h3, h4, h5, h6⟩, _⟩ := I.hok p _ h
  obtain ⟨xs, x1, x2⟩ := ex_mk X.w X.prog h6 dk.hs
  refine ⟨h1, h2, xs, x1, o, ds, ep, h3, h4, h5, x2, ?_, by rw [x1.1]; exact dk.nd⟩
  have ka := key_all I (as := es.map fun e => e.2.1) (by rw [List.map_map]; exact dk.rep) dk.ok
  have hm := ex_addr x1.2
  rw [← hm, ← x1.1] at ka
  clear hm x2 x1
  intro x hx
  induction xs with
  | nil => cases hx
  | cons y ys ih =>
    rw [List.map_cons, List.map_cons] at ka
    cases ka with
    | cons r t =>
      rcases List.mem_cons.mp hx with rfl | hx
      · exact r
      · exact ih t hx
theorem ex_get {xs : List (D × Addr × Value)} {i : Nat} {e : Int × Addr × V} (ex : EX es ks xs) (nd : ks.Nodup) (hk' : ks[i]? = some k) (he : es[i]? = some e) : ∃ u, atKey xs k = some u ∧ RelV e.2.2 u.2 := by
  obtain ⟨h1, h2⟩ := ex
  have hl : es.length = xs.length := Paired.length h2
  have hi : i < xs.length := by rw [← hl]; exact (List.getElem?_eq_some_iff.mp he).1
  have hx : xs[i]? = some xs[i] := List.getElem?_eq_getElem hi
  have e1 : xs[i].1 = k := by
    have : (xs.map (·.1))[i]? = some k := by rw [h1]; exact hk'
    rw [List.getElem?_map, hx] at this
    exact Option.some.inj this
  refine ⟨xs[i].2, atKey_of_get (by rw [h1]; exact nd) (i := i) (by rw [hx, ← e1]), ?_⟩
  clear hk' nd h1 e1
  induction h2 generalizing i with
  | nil => simp at hi
  | cons r t ih =>
    cases i with
    | zero => simp at he; subst he; exact r.2
    | succ j => exact ih (i := j) (by simpa using he) (by simpa using hl) (by simpa using hi) (List.getElem?_eq_getElem _)
def rDGet (K : PySem.W.Frag) (w : World) : R2 := fun x y H Q => ∃ (p : Addr) (es : List (Int × Addr × V)) (ks : List D) (k : D) (i : Nat) (e : Int × Addr × V), x = .ref p ∧ H p = some (dicO p es) ∧ DK K w H es ks ∧ Rep K H k y ∧ KeyOk k ∧ ks[i]? = some k ∧ es[i]? = some e ∧ Q e.2.2 H
theorem typ_dic (I : Inv X pins σ H s) (h : H p = some (dicO p es)) : s.TypeIs (.ref p) "dict" := by
  obtain ⟨⟨_, _, o, ds, ep, h3, h4, _⟩, _⟩ := I.hok p _ h
  exact ⟨o, h3, h4.1⟩
theorem rep_tup_ref {K : PySem.W.Frag} {xs : List D} {v : V} (r : Rep K H (.tuple xs) v) : ∃ a, v = .ref a := by cases r; exact ⟨_, rfl⟩
end
section
variable {X : Cx} {o i value : Expr} {pos pos' : Pos} {td ty tv : TE}
theorem pe_dgetH (hu : X.A.units + 9 < cLine) (ho : PE X o td) (hi : PE X i ty) (hs : NoSl i) : PE X (.Subscript o i pos) (fun σ H Q => td σ H fun x H1 => ty σ H1 fun y H2 => (∃ a, y = .ref a) ∧ rDGet X.K X.w x y H2 Q) := by
  intro pins s σ H Q I h
  refine subD_of PySem.F.slot_dict_getitem.lookup hs (thn (ho pins s σ H _ I h) fun u s1 ⟨x, H1, I1, rx, q1⟩ => thn (hi pins s1 σ H1 _ I1 q1) fun iv s2 ⟨y, H2, I2, ry, ⟨b, ey⟩, p, es, ks, k, j, e, ex, hp, dk, rk, ok, e1, e2, q2⟩ => ?_)
  subst ex ey
  obtain rfl : u = Value.ref p := rx
  obtain rfl : iv = Value.ref b := ry
  obtain ⟨h1, h2, xs, x1, x2⟩ := dic_of I2 hp dk
  obtain ⟨v, v1, v2⟩ := ex_get x1 dk.nd e1 e2
  exact ⟨typ_dic I2 hp, wpAny_getItem_heap (show X.A.units + 1 + 8 < cLine by omega) (key_is I2 rk ok) x2 v1 ⟨_, H2, I2.tok _, v2, q2⟩⟩
noncomputable def repE : List (Int × Addr × V) → List D → D → V → List (Int × Addr × V)
  | e :: es, k' :: ks, k, v => (if k' = k then (e.1, e.2.1, v) else e) :: repE es ks k v
  | _, _, _, _ => []
noncomputable def putE (w : World) (es : List (Int × Addr × V)) (ks : List D) (k : D) (a : Addr) (v : V) : List (Int × Addr × V) := if k ∈ ks then repE es ks k v else es ++ [(hashD w k, a, v)]
noncomputable def putKs (ks : List D) (k : D) : List D := if k ∈ ks then ks else ks ++ [k]
end
section
variable {w : World} {prog : Program} {es : List (Int × Addr × V)} {ks : List D} {xs : List (D × Addr × Value)} {k : D} {a : Addr} {v : V} {u : Value}
theorem ent_of : ∀ {es : List (Int × Addr × V)} {ks : List D} {xs : List (D × Addr × Value)}, EX es ks xs → es.map (·.1) = ks.map (hashD w) → Paired EntR es (xs.map (entryOfKey (datKind prog w)))
  | [], _, _, ⟨_, .nil⟩, _ => .nil
  | e :: es, [], x :: xs, ⟨h, _⟩, _ => by simp at h
  | e :: es, k :: ks, x :: xs, ⟨h, .cons r t⟩, g => by
    rw [List.map_cons] at h
    injection h with h1 h2
    rw [List.map_cons, List.map_cons] at g
    injection g with g1 g2
    refine .cons ⟨?_, ?_, r.2⟩ (ent_of ⟨h2, t⟩ g2)
    · show hashD w x.1 = e.1
      rw [h1, g1]
    · show Value.ref x.2.1 = Value.ref e.2.1
      rw [r.1]
theorem rep_ex : ∀ {es : List (Int × Addr × V)} {ks : List D} {xs : List (D × Addr × Value)} (k : D), EX es ks xs → RelV v u → EX (repE es ks k v) ks (xs.map (putAt k u))
  | [], ks, [], k, ⟨h, .nil⟩, _ => ⟨by rw [← h]; rfl, by cases ks <;> exact .nil⟩
  | e :: es, [], x :: xs, k, ⟨h, _⟩, _ => by simp at h
  | e :: es, k' :: ks, x :: xs, k, ⟨h, .cons r t⟩, rv => by
    rw [List.map_cons] at h
    injection h with h1 h2
    obtain ⟨i1, i2⟩ := rep_ex (es := es) (ks := ks) (xs := xs) k ⟨h2, t⟩ rv
    unfold repE putAt
    rw [List.map_cons]
    refine ⟨?_, .cons ?_ ?_⟩
    · rw [List.map_cons]
      congr 1
      split <;> exact h1
    · by_cases e1 : k' = k
      · rw [if_pos e1, if_pos (h1.trans e1)]; exact ⟨r.1, rv⟩
      · rw [if_neg e1, if_neg (fun z => e1 (h1.symm.trans z))]; exact r
    · exact i2
theorem ex_put (ex : EX es ks xs) (rv : RelV v u) : EX (putE w es ks k a v) (putKs ks k) (storedH xs k a u) := by
  have hk' : (atKey xs k).isSome = true ↔ k ∈ ks := by
    rw [← ex.1]
    unfold atKey
    rw [Option.isSome_map, List.find?_isSome, List.mem_map]
    exact ⟨fun ⟨x, h1, h2⟩ => ⟨x, h1, of_decide_eq_true h2⟩, fun ⟨x, h1, h2⟩ => ⟨x, h1, decide_eq_true h2⟩⟩
  unfold putE putKs storedH
  by_cases hm : k ∈ ks
  · rw [if_pos hm, if_pos hm, if_pos (hk'.mpr hm)]
    exact rep_ex k ex rv
  · rw [if_neg hm, if_neg hm, if_neg (fun z => hm (hk'.mp z))]
    refine ⟨by rw [List.map_append, ex.1]; rfl, Paired.snoc ex.2 ⟨rfl, rv⟩⟩
theorem repE_fst : ∀ {es : List (Int × Addr × V)} {ks : List D} (k : D), es.length = ks.length → (repE es ks k v).map (·.1) = es.map (·.1) ∧ (repE es ks k v).map (fun e => e.2.1) = es.map (fun e => e.2.1)
  | [], [], k, _ => ⟨rfl, rfl⟩
  | [], _ :: _, k, h => by simp at h
  | _ :: _, [], k, h => by simp at h
  | e :: es, k' :: ks, k, h => by
    obtain ⟨i1, i2⟩ := repE_fst (es := es) (ks := ks) k (by simpa using h)
    unfold repE
    refine ⟨?_, ?_⟩
    · rw [List.map_cons, List.map_cons, i1]; congr 1; split <;> rfl
    · rw [List.map_cons, List.map_cons, i2]; congr 1; split <;> rfl
theorem DK.len {K : PySem.W.Frag} {H : Hp} (x : DK K w H es ks) : es.length = ks.length := by
  have := congrArg List.length x.hs
  simpa using this
theorem DK.put {K : PySem.W.Frag} {H : Hp} (x : DK K w H es ks) (r : Rep K H k (.ref a)) (ok : KeyOk k) : DK K w H (putE w es ks k a v) (putKs ks k) := by
  unfold putE putKs
  by_cases hm : k ∈ ks
  · rw [if_pos hm, if_pos hm]
    obtain ⟨h1, h2⟩ := repE_fst (v := v) k x.len
    refine ⟨?_, x.nd, x.ok, h1.trans x.hs⟩
    have e : (repE es ks k v).map (fun e => V.ref e.2.1) = es.map fun e => V.ref e.2.1 := by
      have := congrArg (List.map V.ref) h2
      rwa [List.map_map, List.map_map] at this
    rw [e]
    exact x.rep
  · rw [if_neg hm, if_neg hm]
    refine ⟨by rw [List.map_append]; exact x.rep.append (.cons r .nil), ?_, fun z hz => ?_, by rw [List.map_append, List.map_append, x.hs]; rfl⟩
    · rw [List.nodup_append]
      exact ⟨x.nd, by simp, fun c hc b hb => by rw [List.mem_singleton.mp hb]; exact fun z => hm (z ▸ hc)⟩
    · rcases List.mem_append.mp hz with hz | hz
      · exact x.ok z hz
      · rw [List.mem_singleton.mp hz]; exact ok
theorem putE_len (h : es.length = ks.length) : (putE w es ks k a v).length ≤ es.length + 1 := by
  unfold putE
  split
  · have := congrArg List.length (repE_fst (v := v) k h).1
    simp at this
    omega
  · simp
end
section
variable {X : Cx} {pins : List (Addr × Obj)} {σ : St} {H : Hp} {s : Shared} {p : Addr} {es : List (Int × Addr × V)} {ks : List D}
theorem dic_stable : ∀ h1 h2 : Heap, DicAt p es h1 → (∀ o, h1.get? p = some o → h2.get? p = some o) → DicAt p es h2 := fun h1 h2 ⟨a, b, o, xs, ep, e, r⟩ k => ⟨a, b, o, xs, ep, k _ e, r⟩
theorem dic_ok {P : Program} {w : World} {H' : Hp} {h' : Heap} {xs : List (D × Addr × Value)} (hd : (p == sysModules) = false) (hl : es.length ≤ sizeLine) (ex : EX es ks xs) (hh : es.map (·.1) = ks.map (hashD w)) (dd : h'.DictOfH (datKind P w) p xs) : ObjOk P w H' h' p (dicO p es) := by
  obtain ⟨o, ds, ep, h1, h2, h3, h4, _⟩ := dd
  exact ⟨⟨hd, hl, o, ds, ep, h1, h2, h3, by rw [h4]; exact ent_of ex hh⟩, ⟨o, h1⟩, dic_stable⟩
end
section
variable {X : Cx} {o i value : Expr} {pos pos' : Pos} {td ty tv : TE}
def sDPutH (K : PySem.W.Frag) (w : World) (td ty tv : TE) : TS := fun D' σ H => tv σ H fun v H1 => td σ H1 fun x H2 => ty σ H2 fun y H3 => ∃ (p a : Addr) (es : List (Int × Addr × V)) (ks : List D) (k : D), x = .ref p ∧ y = .ref a ∧ H3 p = some (dicO p es) ∧ DK K w H3 es ks ∧ Rep K H3 k (.ref a) ∧ KeyOk k ∧ es.length < sizeLine ∧ D'.nx σ (upd H3 p (dicO p (putE w es ks k a v)))
theorem ps_dputH (hu : X.A.units + 9 < cLine) (ho : PE X o td) (hi : PE X i ty) (hv : PE X value tv) (hs : swapsWith value (some (.Subscript o i pos')) pos.line X.env = pure false) :
    PS X (.Assign [.Subscript o i pos'] value pos) (sDPutH X.K X.w td ty tv) := by
  intro pins s σ H D' I h
  refine wpAny_Assign_Subscript (thn (hv pins s σ H _ I h) fun r s1 ⟨v, H1, I1, rv, q1⟩ => thn (ho pins s1 σ H1 _ I1 q1) fun u s2 ⟨x, H2, I2, rx, q2⟩ => thn (hi pins s2 σ H2 _ I2 q2) fun iv s3 ⟨y, H3, I3, ry, p, a, es, ks, k, ex, ey, hp, dk, rk, ok, hl, q3⟩ => ?_) hs
  subst ex ey
  obtain rfl : u = Value.ref p := rx
  obtain rfl : iv = Value.ref a := ry
  obtain ⟨h1, h2, xs, x1, x2⟩ := dic_of I3 hp dk
  refine wpAny_setItem_heap (hsz := by rw [← Paired.length x1.2]; exact h2) (show X.A.units + 1 + 8 < cLine by omega) (key_is I3 rk ok) x2 fun h' dd' hs' => ⟨σ, _, ?_, q3⟩
  have hq : ∃ q, h'.get? p = some q := let ⟨q, _, _, e, _⟩ := dd'; ⟨q, e⟩
  have := putE_len (w := X.w) (k := k) (a := a) (v := v) dk.len
  exact I3.write (x := p) (e := p) (by rw [hp]; exact True.intro) (.inl rfl) (fun b q hb z => (hs'.2 b hb).trans z) hq (dic_ok (ks := putKs ks k) h1 (by omega) (ex_put x1 rv) (dk.put rk ok).hs dd')
def tDNewH : TE := fun _ H Q => ∀ p, H p = none → Q (.ref p) (upd H p (dicO p []))
theorem pe_dnewH : PE X (.Dict [] [] pos) tDNewH := fun pins s σ H Q I h =>
  wpAny_Dict_empty ⟨.ref s.heap.objs.size, _, I.laid (a := s.heap.objs.size) (o := dicO s.heap.objs.size []) (t' := s.toks) (fun _ _ q => Heap.get?_push_of_some _ q) (Nat.le_refl _)
    ⟨⟨beq_eq_false_iff_ne.mpr (Ne.symm (Nat.ne_of_lt I.big)), Nat.zero_le _, _, #[], 0, Heap.get?_push_size _ rfl, ⟨rfl, rfl, rfl⟩, rfl, .nil⟩, ⟨_, Heap.get?_push_size _ rfl⟩, dic_stable⟩, rfl, h _ (I.hok.fresh (Nat.le_refl _))⟩
end
end L2

set_option Elab.async false
set_option linter.all false
set_option maxRecDepth 100000
namespace TL
open PySem PySem.Spec PyProof.Rows L2
noncomputable def dicD (w : World) (kvs : List (D × D)) : D := dicH (kvs.map fun kv => hashD w kv.1) kvs
noncomputable def dicS (w : World) (kvs : List (D × D)) : Sl := .dic (kvs.map fun kv => hashD w kv.1) kvs
noncomputable def putD (kvs : List (D × D)) (k v : D) : List (D × D) := if k ∈ kvs.map (·.1) then kvs.map (fun kv => if kv.1 = k then (kv.1, v) else kv) else kvs ++ [(k, v)]
def KeyT (k : D) : Prop := KeyOk k ∧ ∃ xs, k = .tuple xs
section
variable {K : PySem.W.Frag} {H H' B : Hp} {p0 ps : List Addr} {σT σT' : List Sl} {σ : L2.St} {p : Addr}
theorem Ok.re (o : Ok K B p0 H ps σT σ) (hl : σT'.length = σT.length) (hv : ∀ (j : Nat) (d : D), σT'[j]? = some (.val d) → σT[j]? = some (.val d)) (ho : ∀ (j : Nat) (ts : List D), σT'[j]? = some (.own ts) → σT[j]? = some (.own ts)) (hd : DicOk K B p0 H ps σT' σ) : Ok K B p0 H ps σT' σ where
  base := o.base
  sub := o.sub
  live := o.live
  len := hl.trans o.len
  val := fun j d h => o.val j d (hv j d h)
  own := fun j ts h => o.own j ts (ho j ts h)
  dis := fun i j ts us q h1 h2 h3 h4 => o.dis i j ts us q (ho i ts h1) (ho j us h2) h3 h4
  dc := hd
theorem Ok.poke (o : Ok K B p0 H ps σT σ) {φ : Heap → Prop} {u : HO} (hp : p ∈ ps) (hB : B p = none) (he : H p = some (.ext φ)) (hn : ∀ (j : Nat) (hs : List Int) (kvs : List (D × D)), σT[j]? ≠ some (.dic hs kvs)) : Ok K B p0 (upd H p u) ps σT σ where
  base := fun b w e => by
    rw [upd_ne fun z => by rw [z, hB] at e; cases e]
    exact o.base b w e
  sub := o.sub
  live := fun q hq => by
    by_cases e : q = p
    · subst e; rw [upd_same]; simp
    · rw [upd_ne e]; exact o.live q hq
  len := o.len
  val := fun i d h => by rw [mask_upd hp]; exact o.val i d h
  own := fun i ts h => by
    rw [mask_upd hp]
    obtain ⟨q, xs, h1, h2, h3, h4, h5, h6⟩ := o.own i ts h
    exact ⟨q, xs, h1, h2, h3, h4, by rw [upd_ne fun z => by rw [z, he] at h5; cases h5]; exact h5, h6⟩
  dis := o.dis
  dc := fun i hs kvs h => absurd h (hn i hs kvs)
theorem set_val {i j : Nat} {s : Sl} {d : D} (hs : ∀ d, s ≠ .val d) (h : (σT.set i s)[j]? = some (.val d)) : i ≠ j ∧ σT[j]? = some (.val d) := by
  by_cases e : i = j
  · subst e
    have hi : i < σT.length := by simpa using (List.getElem?_eq_some_iff.mp h).1
    rw [List.getElem?_set_self hi] at h
    exact absurd (Option.some.inj h) (hs d)
  · rw [List.getElem?_set_ne e] at h; exact ⟨e, h⟩
theorem set_own {i j : Nat} {s : Sl} {ts : List D} (hs : ∀ ts, s ≠ .own ts) (h : (σT.set i s)[j]? = some (.own ts)) : i ≠ j ∧ σT[j]? = some (.own ts) := by
  by_cases e : i = j
  · subst e
    have hi : i < σT.length := by simpa using (List.getElem?_eq_some_iff.mp h).1
    rw [List.getElem?_set_self hi] at h
    exact absurd (Option.some.inj h) (hs ts)
  · rw [List.getElem?_set_ne e] at h; exact ⟨e, h⟩
structure DicAtS (K : PySem.W.Frag) (B : Hp) (p0 : List Addr) (H : Hp) (ps : List Addr) (p : Addr) (es : List (Int × Addr × V)) (hs : List Int) (kvs : List (D × D)) : Prop where
  mem : p ∈ ps
  new : B p = none
  out : p ∉ p0
  obj : H p = some (dicO p es)
  hsh : hs = es.map (·.1)
  nd : (kvs.map (·.1)).Nodup
  ks : Reps K (mask H ps) (kvs.map (·.1)) (es.map fun e => .ref e.2.1)
  vs : Reps K (mask H ps) (kvs.map (·.2)) (es.map fun e => e.2.2)
theorem Ok.toDic (o : Ok K B p0 H ps σT σ) {i : Nat} {es : List (Int × Addr × V)} {hs : List Int} {kvs : List (D × D)} (hσ : σ[i]? = some (some (.ref p))) (hn : ∀ (j : Nat) (hs : List Int) (kvs : List (D × D)), i ≠ j → σT[j]? ≠ some (.dic hs kvs)) (x : DicAtS K B p0 H ps p es hs kvs) : Ok K B p0 H ps (σT.set i (.dic hs kvs)) σ := by
  refine o.re (by simp) (fun j d h => (set_val (by intro _ z; cases z) h).2) (fun j ts h => (set_own (by intro _ z; cases z) h).2) fun j hs' kws h => ?_
  have hi : i < σT.length := by rw [o.len]; exact (List.getElem?_eq_some_iff.mp hσ).1
  have only : ∀ (l : Nat) (hs'' : List Int) (kws'' : List (D × D)), (σT.set i (.dic hs kvs))[l]? = some (.dic hs'' kws'') → i = l := fun l hs'' kws'' hl => by
    by_cases e : i = l
    · exact e
    · rw [List.getElem?_set_ne e] at hl; exact absurd hl (hn l hs'' kws'' e)
  obtain rfl := only j hs' kws h
  rw [List.getElem?_set_self hi] at h
  injection h with h
  injection h with h1 h2
  subst h1 h2
  exact ⟨⟨p, es, hσ, x.mem, x.new, x.out, x.obj, x.hsh, x.nd, x.ks, x.vs⟩, fun l hs'' kws'' hl => only l hs'' kws'' hl⟩
theorem Ok.isDic (o : Ok K B p0 H ps σT σ) {i : Nat} {hs : List Int} {kvs : List (D × D)} (h : σT[i]? = some (.dic hs kvs)) : (∃ (p : Addr) (es : List (Int × Addr × V)), σ[i]? = some (some (.ref p)) ∧ DicAtS K B p0 H ps p es hs kvs) ∧ ∀ (j : Nat) (hs' : List Int) (kws : List (D × D)), i ≠ j → σT[j]? ≠ some (.dic hs' kws) := by
  obtain ⟨⟨p, es, a1, a2, a3, a4, a5, a6, a7, a8, a9⟩, u⟩ := o.dc i hs kvs h
  exact ⟨⟨p, es, a1, a2, a3, a4, a5, a6, a7, a8, a9⟩, fun j hs' kws ne e => ne (u j hs' kws e)⟩
theorem Ok.forget (o : Ok K B p0 H ps σT σ) {i : Nat} {hs : List Int} {kvs : List (D × D)} (h : σT[i]? = some (.dic hs kvs)) : Ok K B p0 H ps (σT.set i .un) σ ∧ ∀ (j : Nat) (hs : List Int) (kvs : List (D × D)), (σT.set i .un)[j]? ≠ some (.dic hs kvs) := by
  have no : ∀ (j : Nat) (hs : List Int) (kvs : List (D × D)), (σT.set i .un)[j]? ≠ some (.dic hs kvs) := fun j hs' kws e => by
    obtain ⟨ne, e'⟩ := dic_set (by intro _ _ z; cases z) e
    exact (o.isDic h).2 j hs' kws ne e'
  exact ⟨o.re (by simp) (fun j d h => (set_val (by intro _ z; cases z) h).2) (fun j ts h => (set_own (by intro _ z; cases z) h).2) fun j hs' kws e => absurd e (no j hs' kws), no⟩
theorem Ok.newDic (o : Ok K B p0 H ps σT σ) {i : Nat} (hi : i < σT.length) (hn : ∀ (j : Nat) (hs : List Int) (kvs : List (D × D)), σT[j]? ≠ some (.dic hs kvs)) (hp : H p = none) : Ok K B p0 (upd H p (dicO p [])) (p :: ps) (σT.set i (.dic [] [])) (σ.set i (some (.ref p))) := by
  have o1 := (o.adopt (u := dicO p []) hp).setUn (i := i) (v := .ref p)
  have hσ : (σ.set i (some (V.ref p)))[i]? = some (some (.ref p)) := List.getElem?_set_self (by rw [← o.len]; exact hi)
  have o2 := o1.toDic (i := i) (es := []) (hs := []) (kvs := []) hσ (fun j hs kvs ne e => by
    rw [List.getElem?_set_ne ne] at e; exact hn j hs kvs e) ⟨List.mem_cons_self .., Same.free' o.base hp, fun z => fresh_notin o.live hp (o.sub p z), upd_same, rfl, by simp, .nil, .nil⟩
  rwa [List.set_set] at o2
theorem Ok.shareD (o : Ok K B p0 H ps σT σ) {i : Nat} {hs : List Int} {kvs : List (D × D)} (hi : σT[i]? = some (.dic hs kvs)) : ∃ ps', Ok K B p0 H ps' (σT.set i (.val (dicH hs kvs))) σ ∧ Same (mask H ps) (mask H ps') := by
  obtain ⟨⟨p, es, hσ, x⟩, u⟩ := o.isDic hi
  have hil : i < σT.length := (List.getElem?_eq_some_iff.mp hi).1
  have hsub : Same (mask H ps) (mask H (ps.filter fun q => decide (q ≠ p))) := mask_sub fun q hq => (List.mem_filter.mp hq).1
  have hpn : p ∉ ps.filter fun q => decide (q ≠ p) := fun z => (of_decide_eq_true (List.mem_filter.mp z).2) rfl
  refine ⟨ps.filter fun q => decide (q ≠ p), ⟨o.base, fun q hq => List.mem_filter.mpr ⟨o.sub q hq, decide_eq_true fun z => x.out (z ▸ hq)⟩, fun q hq => o.live q (List.mem_filter.mp hq).1, by simpa using o.len, fun j d h => ?_, fun j us h => ?_, fun j k us ws q k1 k2 k3 k4 => ?_, fun j hs' kws h => ?_⟩, hsub⟩
  · by_cases e : i = j
    · subst e
      rw [List.getElem?_set_self hil] at h
      cases h
      refine ⟨_, hσ, ?_⟩
      have := Rep.dct (K := K) (mask_at hpn x.obj) x.nd (x.ks.same hsub) (x.vs.same hsub)
      rw [← x.hsh] at this
      exact this
    · rw [List.getElem?_set_ne e] at h
      obtain ⟨v, k1, k2⟩ := o.val j d h
      exact ⟨v, k1, k2.same hsub⟩
  · obtain ⟨_, h⟩ := set_own (by intro _ z; cases z) h
    obtain ⟨q, ys, k1, k2, k3, k4, k5, k6⟩ := o.own j us h
    exact ⟨q, ys, k1, List.mem_filter.mpr ⟨k2, decide_eq_true fun z => by rw [z, x.obj] at k5; cases k5⟩, k3, k4, k5, k6.same hsub⟩
  · exact o.dis j k us ws q (set_own (by intro _ z; cases z) k1).2 (set_own (by intro _ z; cases z) k2).2 k3 k4
  · obtain ⟨ne, h⟩ := dic_set (by intro _ _ z; cases z) h
    exact absurd h (u j hs' kws ne)
end
section
variable {X : Cx} {a b e n : Expr} {es : List Expr} {ta tb te tk : ET} {pos : Pos}
def sDNew (i : Nat) : STt := fun DT σ => i < σ.length ∧ (∀ (j : Nat) (hs : List Int) (kvs : List (D × D)), σ[j]? ≠ some (.dic hs kvs)) ∧ DT.nx (σ.set i (.dic [] []))
theorem st_dnew {i : Nat} {x : Str} {pos' p2 : Pos} (ps' : ∀ {v : TE}, PE X (.Dict [] [] p2) v → PS X (.Assign [.Name x pos'] (.Dict [] [] p2) pos) (tAsg v (gName i))) : PSt X (.Assign [.Name x pos'] (.Dict [] [] p2) pos) (sDNew i) := by
  refine ⟨_, ps' pe_dnewH, fun B p0 H ps σT σ DT DV o h f p hp => ?_⟩
  exact f.nx _ (p :: ps) _ _ (o.newDic h.1 h.2.1 hp) (by rw [mask_new hp]; exact L2.Same.refl _) h.2.2
theorem dk_of_rep {K : PySem.W.Frag} {w : World} {H : Hp} {es : List (Int × Addr × V)} {kvs : List (D × D)} (hh : kvs.map (fun kv => hashD w kv.1) = es.map (·.1)) (nd : (kvs.map (·.1)).Nodup) (ok : ∀ kv ∈ kvs, KeyOk kv.1) (r : Reps K H (kvs.map (·.1)) (es.map fun e => .ref e.2.1)) : DK K w H es (kvs.map (·.1)) :=
  ⟨r, nd, fun k hk => by obtain ⟨kv, h1, rfl⟩ := List.mem_map.mp hk; exact ok kv h1, by rw [← hh, List.map_map]; rfl⟩
theorem vals_put {K : PySem.W.Frag} {w : World} {H : Hp} {v : D} {x : V} {a : Addr} : ∀ {es : List (Int × Addr × V)} {kvs : List (D × D)} (k : D), Reps K H (kvs.map (·.2)) (es.map fun e => e.2.2) → Rep K H v x → Reps K H ((putD kvs k v).map (·.2)) ((putE w es (kvs.map (·.1)) k a x).map fun e => e.2.2) := by
  intro es kvs k r rv
  unfold putD putE
  by_cases hm : k ∈ kvs.map (·.1)
  · rw [if_pos hm, if_pos hm]
    clear hm
    induction kvs generalizing es with
    | nil => cases es with
      | nil => exact .nil
      | cons e es => cases r
    | cons kv kvs ih => cases es with
      | nil => cases r
      | cons e es =>
        rw [List.map_cons, List.map_cons] at r
        cases r with
        | cons r1 r2 =>
          rw [List.map_cons, List.map_cons, List.map_cons]
          unfold repE
          rw [List.map_cons]
          refine .cons ?_ (ih r2)
          by_cases e1 : kv.1 = k
          · rw [if_pos e1, if_pos e1]; exact rv
          · rw [if_neg e1, if_neg e1]; exact r1
  · rw [if_neg hm, if_neg hm, List.map_append, List.map_append]
    exact r.append (.cons rv .nil)
theorem putD_keys (kvs : List (D × D)) (k v : D) : (putD kvs k v).map (·.1) = putKs (kvs.map (·.1)) k := by
  unfold putD putKs
  split
  · rw [List.map_map]
    apply List.map_congr_left
    intro kv _
    show (if kv.1 = k then (kv.1, v) else kv).1 = kv.1
    split <;> rfl
  · rw [List.map_append]; rfl
noncomputable def sDPutO (w : World) (i : Nat) (tk tv : ET) : STt := fun DT σ => ∃ kvs, σ[i]? = some (dicS w kvs) ∧ tv σ fun v => tk σ fun k => KeyT k ∧ (∀ kv ∈ kvs, KeyOk kv.1) ∧ kvs.length ≤ 100000 ∧ DT.nx (σ.set i (dicS w (putD kvs k v)))
theorem st_dputO {i : Nat} {p2 : Pos} {value : Expr} {tv : ET} (hu : X.A.units + 9 < cLine) (hn : PE X n (tVar i)) (hk' : PEt X e tk) (hv : PEt X value tv) (hs : swapsWith value (some (.Subscript n e p2)) pos.line X.env = pure false := by rfl) :
    PSt X (.Assign [.Subscript n e p2] value pos) (sDPutO X.w i tk tv) := by
  obtain ⟨vv, pv', rv⟩ := hv
  obtain ⟨vk, pk, rk⟩ := hk'
  refine ⟨_, ps_dputH hu hn pk pv' hs, fun B p0 H ps σT σ DT DV o h f => ?_⟩
  obtain ⟨kvs, hi, h⟩ := h
  obtain ⟨⟨p, es, hσ, x⟩, u⟩ := o.isDic hi
  refine rv B p0 H ps σT σ _ _ o h fun v y H1 s1 r1 q1 => ⟨.ref p, hσ, rk B p0 H1 ps σT σ _ _ (o.grow s1) q1 fun k z H2 s2 r2 q2 => ?_⟩
  obtain ⟨⟨kok, ys, rfl⟩, hok, hlen, q⟩ := q2
  obtain ⟨a, rfl⟩ := rep_tup_ref r2
  have s12 := s1.trans s2
  have o2 := o.grow s12
  have hm := mask_same (ps := ps) s12
  have ks2 := x.ks.same hm
  have vs2 := x.vs.same hm
  have ob2 := s12 _ _ x.obj
  have dk2 := dk_of_rep (w := X.w) x.hsh x.nd hok ks2
  have hl : es.length = kvs.length := by
    have := congrArg List.length x.hsh
    simpa using this.symm
  have hL : sizeLine = 2 ^ 24 := rfl
  have dk3 := dk2.put (v := y) r2 kok
  refine ⟨p, a, es, kvs.map (·.1), _, rfl, rfl, ob2, dk2.same mask_le, r2.same mask_le, kok, by omega, ?_⟩
  obtain ⟨o3, no3⟩ := o2.forget (i := i) hi
  have o4 := o3.poke (u := dicO p (putE X.w es (kvs.map (·.1)) (.tuple ys) a y)) x.mem x.new ob2 no3
  have hm4 : mask (upd H2 p (dicO p (putE X.w es (kvs.map (·.1)) (.tuple ys) a y))) ps = mask H2 ps := mask_upd x.mem
  have o5 := o4.toDic (i := i) (es := putE X.w es (kvs.map (·.1)) (.tuple ys) a y) (hs := (putD kvs (.tuple ys) v).map fun kv => hashD X.w kv.1) (kvs := putD kvs (.tuple ys) v) hσ (fun j hs kws _ => no3 j hs kws)
    ⟨x.mem, x.new, x.out, upd_same, ?_, ?_, ?_, ?_⟩
  · rw [List.set_set] at o5
    exact f.nx _ ps _ σ o5 (by rw [hm4]; exact hm) q
  · rw [dk3.hs, ← putD_keys kvs _ v, List.map_map]; rfl
  · rw [putD_keys]; exact dk3.nd
  · rw [hm4, putD_keys]; exact dk3.rep
  · rw [hm4]; exact vals_put _ vs2 (r1.same (mask_same s2))
theorem Reps.two {K : PySem.W.Frag} {H : Hp} {i : Nat} : ∀ {kvs : List (D × D)} {es : List (Int × Addr × V)} {kv : D × D}, Reps K H (kvs.map (·.2)) (es.map fun e => e.2.2) → kvs[i]? = some kv → ∃ e, es[i]? = some e ∧ Rep K H kv.2 e.2.2 := by
  intro kvs es kv r h
  obtain ⟨v, h1, h2⟩ := r.get (i := i) (d := kv.2) (by rw [List.getElem?_map, h]; rfl)
  rw [List.getElem?_map] at h1
  obtain ⟨e, e1, rfl⟩ := Option.map_eq_some_iff.mp h1
  exact ⟨e, e1, h2⟩
noncomputable def eDGetO (w : World) (i : Nat) (tk : ET) : ET := fun σ Q => ∃ kvs, σ[i]? = some (dicS w kvs) ∧ tk σ fun k => KeyT k ∧ (∀ kv ∈ kvs, KeyOk kv.1) ∧ ∃ v, (k, v) ∈ kvs ∧ Q v
theorem et_dgetO {i : Nat} (hu : X.A.units + 9 < cLine) (hn : PE X n (tVar i)) (hk' : PEt X e tk) (hs : NoSl e) : PEt X (.Subscript n e pos) (eDGetO X.w i tk) := by
  obtain ⟨vk, pk, rk⟩ := hk'
  refine ⟨_, pe_dgetH hu hn pk hs, fun B p0 H ps σT σ Q QV o h k => ?_⟩
  obtain ⟨kvs, hi, h⟩ := h
  obtain ⟨⟨p, es, hσ, x⟩, u⟩ := o.isDic hi
  refine ⟨.ref p, hσ, rk B p0 H ps σT σ _ _ o h fun kd z H1 s1 r1 q1 => ?_⟩
  obtain ⟨⟨kok, ys, rfl⟩, hok, v, hm, q⟩ := q1
  obtain ⟨a, rfl⟩ := rep_tup_ref r1
  obtain ⟨j, hj⟩ := List.getElem?_of_mem hm
  have hm1 := mask_same (ps := ps) s1
  obtain ⟨en, e1, e2⟩ := (x.vs.same hm1).two hj
  exact ⟨⟨a, rfl⟩, p, es, kvs.map (·.1), _, j, en, rfl, s1 _ _ x.obj, (dk_of_rep (w := X.w) x.hsh x.nd hok (x.ks.same hm1)).same mask_le, r1.same mask_le, kok, by rw [List.getElem?_map, hj]; rfl, e1, k _ _ H1 s1 e2 q⟩
theorem rep_dic {K : PySem.W.Frag} {H : Hp} {w : World} {kvs : List (D × D)} {v : V} (r : Rep K H (dicD w kvs) v) : ∃ (p : Addr) (es : List (Int × Addr × V)), v = .ref p ∧ H p = some (dicO p es) ∧ kvs.map (fun kv => hashD w kv.1) = es.map (·.1) ∧ (kvs.map (·.1)).Nodup ∧ Reps K H (kvs.map (·.1)) (es.map fun e => .ref e.2.1) ∧ Reps K H (kvs.map (·.2)) (es.map fun e => e.2.2) := by
  unfold dicD dicH at r
  generalize hg : (PyData.dict ((.str "{}", .list ((kvs.map fun kv => hashD w kv.1).map PyData.int)) :: kvs)) = d at r
  cases r with
  | @dct p es kws h1 h2 h3 h4 =>
    injection hg with hg
    injection hg with hg1 hg2
    subst hg2
    injection hg1 with _ hg1
    injection hg1 with hg1
    have e := congrArg (List.map fun d : D => match d with | .int i => i | _ => 0) hg1
    simp only [List.map_map, Function.comp_def] at e
    exact ⟨p, es, rfl, h1, e, h2, h3, h4⟩
  | addr z =>
    injection hg with hg
    injection hg with hg1 hg2
    injection hg1 with hg1 _
    injection hg1 with hg1
    exact absurd hg1 (by decide +kernel)
  | _ => cases hg
def sShareD (i : Nat) (t : STt) : STt := fun DT σ => ∃ hs kvs, σ[i]? = some (.dic hs kvs) ∧ t DT (σ.set i (.val (dicH hs kvs)))
theorem st_shareD {sts : List Stmt} {t : STt} (i : Nat) (h : PSst X sts t) : PSst X sts (sShareD i t) := by
  obtain ⟨v, p, r⟩ := h
  refine ⟨_, p, fun B p0 H ps σT σ DT DV o h f => ?_⟩
  obtain ⟨hs, kvs, e, h⟩ := h
  obtain ⟨ps', o', s'⟩ := o.shareD e
  exact r B p0 H ps' _ σ DT DV o' h (f.later s')
end
end TL

set_option Elab.async false
set_option linter.all false
set_option maxRecDepth 100000
namespace L2
open PySem PySem.Spec PyProof.Rows TL
def itF (d : Addr) (i n ep : Nat) (x0 x1 k v : Value) : Array Value := #[x0, x1, .ref d, .int i 0, .int n 0, .int ep 0, k, v]
abbrev ItAt (h : Heap) (it d : Addr) (i n ep : Nat) (x0 x1 k v : Value) : Prop := h.get? it = some { cls := .type "dict_itemiterator", dict := none, data := .fields (itF d i n ep x0 x1 k v), slots := #[] }
def Gave (h : Heap) (it : Addr) (x0 x1 : Value) : Prop := (x0 = .none ∨ ∃ (a : Addr) (o : Obj), x0 = rawInt a ∧ h.get? a = some o ∧ a ≠ it) ∧ ∃ f, x1 = .bool f
def RawD (h : Heap) (d : Addr) (xs : Array DictEntry) (ep : Nat) : Prop := ∃ o, h.get? d = some o ∧ o.data = .dict xs ep
section
variable {prog : Program} {w : World} {A : Around} {E : Value → Shared → Prop} {s : Shared} {it d : Addr} {i ep : Nat} {xs : Array DictEntry} {x0 x1 k v : Value}
theorem alive_load {a : Addr} {o : Obj} {Q : Option Obj → Shared → Prop} (ho : s.heap.get? a = some o) (h : Q (some o) s) : wpAny (model prog w) A (loadIfAlive a) Q E s := by
  have h' : Q (s.heap.get? a) s := by rw [ho]; exact h
  exact fun _ _ _ => h'
theorem items_next {Q : Option Value → Shared → Prop} (hit : ItAt s.heap it d i xs.size ep x0 x1 k v) (hg : Gave s.heap it x0 x1) (hd : RawD s.heap d xs ep) (hlt : i < xs.size)
    (hQ : ∀ (h' : Heap) (y0 y1 k' v' : Value), ItAt h' it d (i + 1) xs.size ep y0 y1 k' v' → Gave h' it y0 y1 → h'.get? s.heap.objs.size = some { cls := .type "tuple", data := .seq #[xs[i].key, xs[i].val] } → h'.objs.size = s.heap.objs.size + 1 →
      (∀ b o, b ≠ it → s.heap.get? b = some o → h'.get? b = some o) → Q (some (.ref s.heap.objs.size)) { s with heap := h' }) : wpAny (model prog w) A (pyNext (.ref it)) Q E s := by
  obtain ⟨H, gs, dr, tk, os⟩ := s
  obtain ⟨od, hod, hdd⟩ := hd
  have hT : Shared.TypeIs ⟨H, gs, dr, tk, os⟩ (.ref it) "dict_itemiterator" := ⟨_, hit, rfl⟩
  have own1 : Builtin.Dict_items.ownsTuple "dict_itemiterator" = true := by decide
  unfold pyNext
  refine wpAny_bind (wpAny_attempt (wpAny_callSpecial?_slot (name := Str.ofString "__next__") hT PySem.F.slot_dict_itemiterator_next (wpAny_call_entry PySem.F.slot_dict_itemiterator_next hT PySem.F.entry_dict_itemiterator_next ?_ (PySem.F.args_dict_itemiterator_next_1 _))))
  refine wpAny_bind (wpAny_pure (wpAny_bind (wpAny_bind ?_)))
  first | refine wpAny_bind (wpAny_typeNameOfWhole_itemiter hT (wpAny_pure ?_)) | refine wpAny_bind (wpAny_typeNameOf_itemiter hT (wpAny_pure ?_))
  refine wpAny_bind (wpAny_fieldsOf hit rfl ?_)
  simp only [own1, if_true]
  show wpAny _ _ (if (Value.ref d == Value.none) = true then _ else _) _ _ _
  rw [if_neg (show ¬ ((Value.ref d == Value.none) = true) from Bool.false_ne_true)]
  refine wpAny_bind (wpAny_pure (wpAny_bind (wpAny_dictEntries hod hdd ?_)))
  rw [if_neg (by simp)]
  refine wpAny_bind (wpAny_pure (wpAny_bind (wpAny_dictEpoch hod hdd ?_)))
  rw [if_neg (by simp)]
  refine wpAny_pure ?_
  simp only [show ¬ ((i : Int) < 0) from by omega, if_false, Int.toNat_natCast, Array.getElem?_eq_getElem hlt]
  refine wpAny_bind ?_
  first | refine wpAny_bind (wpAny_typeNameOfWhole_itemiter hT (wpAny_pure ?_)) | refine wpAny_bind (wpAny_typeNameOf_itemiter hT (wpAny_pure ?_))
  refine wpAny_bind (wpAny_isOneOf_itemiter hT ?_)
  show wpAny _ _ (setField (.ref it) 3 (rawInt ((i : Int) + 1)) >>= _) _ _ ⟨H, gs, dr, tk, os⟩
  refine wpAny_bind (wpAny_setField_rec hit (by simp [itF]) fun H1 e1 s1 => ?_)
  replace s1 : Heap.SameBut it H H1 := s1
  replace e1 : ItAt H1 it d (i + 1) xs.size ep x0 x1 k v := by
    have e : ((i + 1 : Nat) : Int) = (i : Int) + 1 := by omega
    unfold ItAt itF; rw [e]; simpa [rawInt, itF] using e1
  have hT1 : Shared.TypeIs ⟨H1, gs, dr, tk, os⟩ (.ref it) "dict_itemiterator" := ⟨_, e1, rfl⟩
  refine wpAny_bind (wpAny_holding (wpAny_bind (wpAny_isOneOf_itemiter hT1 (wpAny_bind (wpAny_isOneOf_itemiter hT1 ?_)))))
  show wpAny _ _ (Builtin.Dict_items.pairFromOwner (.ref it) 6 xs[i].key xs[i].val) _ _ ⟨H1, gs, dr, tk, os⟩
  unfold Builtin.Dict_items.pairFromOwner
  refine wpAny_bind (wpAny_newTuple ?_)
  generalize hH2 : H1.push { cls := .type "tuple", data := .seq #[xs[i].key, xs[i].val] } = H2
  have e2 : ItAt H2 it d (i + 1) xs.size ep x0 x1 k v := by rw [← hH2]; exact Heap.get?_push_of_some _ e1
  have z1 : H1.objs.size = H.objs.size := s1.1
  have hil : it < H.objs.size := Heap.lt_size hit
  have t2 : H2.get? H.objs.size = some { cls := .type "tuple", data := .seq #[xs[i].key, xs[i].val] } := by rw [← hH2, ← z1]; exact Heap.get?_push_size _ rfl
  have z2 : H2.objs.size = H.objs.size + 1 := by rw [← hH2, Heap.size_push, z1]
  have k2 : ∀ b o, b ≠ it → H.get? b = some o → H2.get? b = some o := fun b o hb e => by rw [← hH2]; exact Heap.get?_push_of_some _ (s1.extBut b o hb e)
  have hne : H.objs.size ≠ it := Nat.ne_of_gt hil
  show wpAny _ _ (Builtin.Dict_items.ownedTupleIsFree (.ref it) >>= _) _ _ ⟨H2, gs, dr, tk, os⟩
  rw [z1]
  clear hH2 e1 s1 hT1 z1
  unfold Builtin.Dict_items.ownedTupleIsFree
  obtain ⟨hg0, f, rfl⟩ := hg
  rcases hg0 with rfl | ⟨a, oa, rfl, ha, hai⟩
  · refine wpAny_bind (wpAny_bind (wpAny_field e2 rfl (x := .none) rfl (wpAny_pure ?_)))
    simp only [if_true]
    refine wpAny_bind (wpAny_field e2 rfl (x := k) rfl (wpAny_bind (wpAny_field e2 rfl (x := v) rfl ?_)))
    refine wpAny_bind (wpAny_setField_rec e2 (by simp [itF]) fun H3 e3 s3 => ?_)
    replace s3 : Heap.SameBut it H2 H3 := s3
    replace e3 : ItAt H3 it d (i + 1) xs.size ep .none (.bool f) xs[i].key v := e3
    refine wpAny_bind (wpAny_setField_rec e3 (by simp [itF]) fun H4 e4 s4 => ?_)
    replace s4 : Heap.SameBut it H3 H4 := s4
    replace e4 : ItAt H4 it d (i + 1) xs.size ep .none (.bool f) xs[i].key xs[i].val := e4
    refine wpAny_bind (wpAny_setField_rec e4 (by simp [itF]) fun H5 e5 s5 => ?_)
    replace s5 : Heap.SameBut it H4 H5 := s5
    replace e5 : ItAt H5 it d (i + 1) xs.size ep (rawInt H.objs.size) (.bool f) xs[i].key xs[i].val := e5
    refine wpAny_bind (wpAny_setField_rec e5 (by simp [itF]) fun H6 e6 s6 => ?_)
    replace s6 : Heap.SameBut it H5 H6 := s6
    replace e6 : ItAt H6 it d (i + 1) xs.size ep (rawInt H.objs.size) (.bool false) xs[i].key xs[i].val := e6
    have up : ∀ b o, b ≠ it → H2.get? b = some o → H6.get? b = some o := fun b o hb e => s6.extBut b o hb (s5.extBut b o hb (s4.extBut b o hb (s3.extBut b o hb e)))
    exact wpAny_bind (wpAny_letGo (wpAny_pure (wpAny_pure ⟨_, rfl, wpAny_pure (hQ H6 _ _ _ _ e6 ⟨.inr ⟨_, _, rfl, up _ _ hne t2, hne⟩, _, rfl⟩ (up _ _ hne t2) (by rw [s6.1, s5.1, s4.1, s3.1, z2]) fun b o hb e => up b o hb (k2 b o hb e))⟩)))
  · have fin : ∀ H3 : Heap, ItAt H3 it d (i + 1) xs.size ep (rawInt a) (.bool true) k v → Heap.SameBut it H2 H3 → Q (some (.ref H.objs.size)) ⟨H3, gs, dr, tk, os⟩ := fun H3 e3 s3 =>
      hQ H3 _ _ _ _ e3 ⟨.inr ⟨a, oa, rfl, s3.extBut _ _ hai (k2 a oa hai ha), hai⟩, _, rfl⟩ (s3.extBut _ _ hne t2) (by rw [s3.1, z2]) fun b o hb e => s3.extBut b o hb (k2 b o hb e)
    refine wpAny_bind (wpAny_bind (wpAny_field e2 rfl (x := rawInt a) rfl ?_))
    show wpAny _ _ (loadIfAlive ((a : Int).toNat) >>= _) _ _ _
    rw [Int.toNat_natCast]
    refine wpAny_bind (alive_load (k2 a oa hai ha) ?_)
    simp only [Option.isNone_some, Bool.false_eq_true, if_false]
    refine wpAny_bind (wpAny_field e2 rfl (x := .bool f) rfl ?_)
    cases f with
    | true =>
      rw [if_neg (show ¬ ((Value.bool true != Value.bool true) = true) from Bool.false_ne_true)]
      refine wpAny_pure ?_
      simp only [Bool.false_eq_true, if_false]
      exact wpAny_pure (wpAny_pure ⟨_, rfl, wpAny_pure (fin H2 e2 (Heap.SameBut.refl _ _))⟩)
    | false =>
      rw [if_pos (show (Value.bool false != Value.bool true) = true from rfl)]
      refine wpAny_bind (wpAny_setField_rec e2 (by simp [itF]) fun H3 e3 s3 => ?_)
      refine wpAny_pure ?_
      simp only [Bool.false_eq_true, if_false]
      exact wpAny_pure (wpAny_pure ⟨_, rfl, wpAny_pure (fin H3 e3 s3)⟩)
theorem items_end {Q : Option Value → Shared → Prop} (hh : A.handled = none) (hit : ItAt s.heap it d i xs.size ep x0 x1 k v) (hd : RawD s.heap d xs ep) (hge : xs.size ≤ i)
    (hQ : ∀ h', Heap.ExtBut it s.heap h' → Q none { s with heap := h' }) : wpAny (model prog w) A (pyNext (.ref it)) Q E s := by
  obtain ⟨od, hod, hdd⟩ := hd
  have hT : s.TypeIs (.ref it) "dict_itemiterator" := ⟨_, hit, rfl⟩
  have own1 : Builtin.Dict_items.ownsTuple "dict_itemiterator" = true := by decide
  unfold pyNext
  refine wpAny_bind (wpAny_attempt (wpAny_callSpecial?_slot (name := Str.ofString "__next__") hT PySem.F.slot_dict_itemiterator_next (wpAny_call_entry PySem.F.slot_dict_itemiterator_next hT PySem.F.entry_dict_itemiterator_next ?_ (PySem.F.args_dict_itemiterator_next_1 _))))
  refine wpAny_bind (wpAny_pure (wpAny_bind (wpAny_bind ?_)))
  first | refine wpAny_bind (wpAny_typeNameOfWhole_itemiter hT (wpAny_pure ?_)) | refine wpAny_bind (wpAny_typeNameOf_itemiter hT (wpAny_pure ?_))
  refine wpAny_bind (wpAny_fieldsOf hit rfl ?_)
  simp only [own1, if_true]
  show wpAny _ _ (if (Value.ref d == Value.none) = true then _ else _) _ _ s
  rw [if_neg (show ¬ ((Value.ref d == Value.none) = true) from Bool.false_ne_true)]
  refine wpAny_bind (wpAny_pure (wpAny_bind (wpAny_dictEntries hod hdd ?_)))
  rw [if_neg (by simp)]
  refine wpAny_bind (wpAny_pure (wpAny_bind (wpAny_dictEpoch hod hdd ?_)))
  rw [if_neg (by simp)]
  refine wpAny_pure ?_
  simp only [show ¬ ((i : Int) < 0) from by omega, if_false, Int.toNat_natCast, Array.getElem?_eq_none hge]
  refine wpAny_bind ?_
  first | refine wpAny_bind (wpAny_typeNameOfWhole_itemiter hT (wpAny_pure ?_)) | refine wpAny_bind (wpAny_typeNameOf_itemiter hT (wpAny_pure ?_))
  show wpAny _ _ (setField (.ref it) 2 .none >>= _) _ _ s
  refine wpAny_bind (wpAny_setField hit rfl (by simp [itF]) ?_)
  show wpAny _ _ (newExc (.type "StopIteration") [] >>= _) _ _ _
  refine wpAny_bind ?_
  simp only [newExc, newTuple]
  refine wpAny_bind (wpAny_newObj_type ?_ (by size_fits))
  refine wpAny_bind (m := firstArgMember _ _) (wpAny_of_eq (a := Value.none) (by first | rfl | (simp only [firstArgMember]; rfl)) ?_)
  refine wpAny_newObj_type ?_ (by size_fits)
  simp only [raiseNew]
  refine wpAny_bind (wpAny_handled ?_)
  first | rw [show A.in1.handled = none from hh] | rw [hh]
  refine wpAny_bind (wpAny_pure (wpAny_throw ?_))
  refine wpAny_bind (wpAny_isInstance (T := "StopIteration") (b := true) ⟨_, Heap.get?_push_size _ rfl, rfl⟩ isSubtype_stop ?_)
  exact wpAny_pure (hQ _ (((Heap.SameBut.update ..).extBut.push _).push _))
structure Got (xs : Array DictEntry) (S it lo : Addr) (h : Heap) (as : List Addr) : Prop where
  rise : as.Pairwise (· < ·)
  above : ∀ a ∈ as, lo ≤ a ∧ a ≠ S ∧ a ≠ it
  tups : ∀ (j : Nat) (a : Addr), as[j]? = some a → ∃ e, xs[j]? = some e ∧ h.get? a = some { cls := .type "tuple", data := .seq #[e.key, e.val] }
theorem Got.stay {S lo : Addr} {h h' : Heap} {as : List Addr} (g : Got xs S it lo h as) (hk : ∀ b o, b ≠ S → b ≠ it → h.get? b = some o → h'.get? b = some o) : Got xs S it lo h' as :=
  ⟨g.rise, g.above, fun j a e => by
    obtain ⟨x, h1, h2⟩ := g.tups j a e
    obtain ⟨_, n1, n2⟩ := g.above a (List.mem_of_getElem? e)
    exact ⟨x, h1, hk _ _ n1 n2 h2⟩⟩
theorem Gave.stay {h h' : Heap} {x0 x1 : Value} (g : Gave h it x0 x1) (hk : ∀ b o, b ≠ it → h.get? b = some o → ∃ o', h'.get? b = some o') : Gave h' it x0 x1 := by
  obtain ⟨g, f⟩ := g
  refine ⟨?_, f⟩
  rcases g with g | ⟨a, o, e, ha, hn⟩
  · exact .inl g
  · obtain ⟨o', h'⟩ := hk a o hn ha
    exact .inr ⟨a, o', e, h', hn⟩
theorem items_loop {S : Addr} {R : Result → Shared → Prop} (hh : A.handled = none) (hSI : S ≠ it) (hSd : d ≠ S) (hdi : d ≠ it) (hn : xs.size ≤ sizeLine) (res : Value) {h0 : Heap} {lo : Addr}
    (hR : ∀ (h' : Heap) (tk : Nat) (acc : Array Value) (c : Nat) (as : List Addr), (∀ b o, b ≠ S → b ≠ it → h0.get? b = some o → h'.get? b = some o) → h'.get? S = some { cls := .type "list", dict := none, data := .seq acc c, slots := #[] } → as.length = xs.size → Got xs S it lo h' as → acc.toList = as.map Value.ref → R (.ok (.ret res)) { s with heap := h', toks := tk }) :
    ∀ (m i : Nat) (h : Heap) (tk c : Nat) (acc : Array Value) (as : List Addr) (x0 x1 k v : Value), xs.size - i = m → i ≤ xs.size → ItAt h it d i xs.size ep x0 x1 k v → Gave h it x0 x1 → RawD h d xs ep → (∀ b o, b ≠ S → b ≠ it → h0.get? b = some o → h.get? b = some o) →
      h.get? S = some { cls := .type "list", dict := none, data := .seq acc c, slots := #[] } → acc.toList = as.map Value.ref → as.length = i → Got xs S it lo h as → lo ≤ h.objs.size →
      codeAny (model prog w) A (.builtin "list.extend.loop" ⟨[.ref S, .ref it, res], []⟩) R { s with heap := h, toks := tk } := by
  intro m
  induction m with
  | zero =>
    intro i h tk c acc as x0 x1 k v hm hi hit hg hd hk hS hacc hal hG hlo
    refine codeAny_builtin PySem.F.entry_extend_loop ?_
    rw [Around.under_plainId PySem.F.plain_extend_loop _]
    show wpAny _ A.in1 (pyNext (.ref it) >>= _) _ _ _
    refine wpAny_bind (items_end (s := { s with heap := h, toks := tk }) (A := A.in1) (xs := xs) hh hit hd (by omega) fun h' he => ?_)
    exact wpAny_pure (hR h' tk acc c as (fun b o n1 n2 e => he b o n2 (hk b o n1 n2 e)) (he S _ hSI hS) (by omega) (hG.stay fun b o _ n2 e => he b o n2 e) hacc)
  | succ m ih =>
    intro i h tk c acc as x0 x1 k v hm hi hit hg hd hk hS hacc hal hG hlo
    have hlt : i < xs.size := by omega
    have hsz : acc.size = i := by rw [← Array.length_toList, hacc, List.length_map, hal]
    have hSl : S < h.objs.size := Heap.lt_size hS
    have hil : it < h.objs.size := Heap.lt_size hit
    refine codeAny_builtin PySem.F.entry_extend_loop ?_
    rw [Around.under_plainId PySem.F.plain_extend_loop _]
    show wpAny _ A.in1 (pyNext (.ref it) >>= _) _ _ _
    refine wpAny_bind (items_next (s := { s with heap := h, toks := tk }) (A := A.in1) hit hg hd hlt fun h' y0 y1 k' v' hit' hg' ht hz hkp => ?_)
    dsimp only at ht hz hkp ⊢
    have hS' := hkp S _ hSI hS
    have up : ∀ b o, b ≠ S → h'.get? b = some o → (h'.update S (Obj.mapSeq (·.push (Value.ref h.objs.size)))).get? b = some o := fun b o hb e => (Heap.get?_update_other _ _ (Ne.symm hb)).trans e
    have hSn := Heap.get?_update_self (Obj.mapSeq (·.push (Value.ref h.objs.size))) hS' rfl
    have kk : ∀ b o, b ≠ S → b ≠ it → h.get? b = some o → (h'.update S (Obj.mapSeq (·.push (Value.ref h.objs.size)))).get? b = some o := fun b o n1 n2 e => up b o n1 (hkp b o n2 e)
    show wpAny _ A.in1 (updateSeq S (·.push (Value.ref h.objs.size)) >>= _) _ _ _
    refine wpAny_bind (wpAny_updateSeq hS' rfl (wpAny_pure ⟨plainId_quiet PySem.F.plain_extend_loop _, ih (i + 1) _ tk _ (acc.push (Value.ref h.objs.size)) (as ++ [h.objs.size]) y0 y1 k' v' (by omega) hlt (up it _ (Ne.symm hSI) hit') (hg'.stay fun b o _ e => ?_) (let ⟨o, h1, h2⟩ := hd; ⟨o, kk d o hSd hdi h1, h2⟩)
      (fun b o n1 n2 e => kk b o n1 n2 (hk b o n1 n2 e)) hSn (by rw [Array.toList_push, hacc, List.map_append]; rfl) (by rw [List.length_append, hal]; rfl) ⟨?_, fun a ha => ?_, fun j a hj => ?_⟩ ?_⟩) (by rw [hsz]; omega) (by show (acc.push (Value.ref h.objs.size)).size ≤ sizeLine + 1; rw [Array.size_push, hsz]; omega))
    · by_cases hb : b = S
      · exact ⟨_, by rw [hb]; exact hSn⟩
      · exact ⟨o, up b o hb e⟩
    · refine List.pairwise_append.mpr ⟨hG.rise, List.pairwise_singleton _ _, fun a ha b hb => ?_⟩
      rw [List.mem_singleton.mp hb]
      obtain ⟨j, hj⟩ := List.getElem?_of_mem ha
      obtain ⟨_, _, h2⟩ := hG.tups j a hj
      exact Heap.lt_size h2
    · rcases List.mem_append.mp ha with ha | ha
      · exact hG.above a ha
      · rw [List.mem_singleton.mp ha]; exact ⟨hlo, Nat.ne_of_gt hSl, Nat.ne_of_gt hil⟩
    · by_cases hjl : j < as.length
      · rw [List.getElem?_append_left hjl] at hj
        exact (hG.stay kk).tups j a hj
      · rw [List.getElem?_append_right (by omega)] at hj
        have hj0 : j - as.length = 0 := by
          cases hq : j - as.length with
          | zero => rfl
          | succ q => rw [hq] at hj; simp at hj
        rw [hj0] at hj
        have ea : h.objs.size = a := by simpa using hj
        have ej : j = i := by omega
        subst ea ej
        exact ⟨xs[j], Array.getElem?_eq_getElem hlt, up _ _ (Nat.ne_of_gt hSl) ht⟩
    · have e := up _ _ (Nat.ne_of_gt hSl) ht
      exact Nat.le_of_lt (Nat.lt_of_le_of_lt hlo (Heap.lt_size e))
def viewAt (v d : Addr) (h : Heap) : Prop := ∃ o, h.get? v = some o ∧ o.cls = .type "dict_items" ∧ o.data = .fields #[.ref d]
theorem items_iter {vw : Addr} {Q : Value → Shared → Prop} (hv : viewAt vw d s.heap) (hd : RawD s.heap d xs ep)
    (hQ : Q (.ref s.heap.objs.size) { s with heap := s.heap.push { cls := .type "dict_itemiterator", data := .fields (itF d 0 xs.size ep .none (.bool false) .none .none) } }) : wpAny (model prog w) A (pyIter (.ref vw)) Q E s := by
  obtain ⟨ov, hov, hcv, hdv⟩ := hv
  obtain ⟨o, ho, hdat⟩ := hd
  have hT : s.TypeIs (.ref vw) "dict_items" := ⟨ov, hov, hcv⟩
  refine wpAny_pyIter_slot hT PySem.F.slot_dict_items_iter (wpAny_call_entry PySem.F.slot_dict_items_iter hT PySem.F.entry_dict_items_iter ?_ (PySem.F.args_dict_items_iter_1 _))
  unfold Builtin.«dict_items.__iter__»
  refine wpAny_bind (wpAny_pure (wpAny_bind ?_))
  unfold Builtin.Dict_items.dictOf
  refine wpAny_bind (wpAny_field hov hdv (x := .ref d) rfl (wpAny_pure (wpAny_bind ?_)))
  unfold Builtin.Dict_items.newIterator
  refine wpAny_bind (wpAny_dictEntries ho hdat (wpAny_bind (wpAny_dictEpoch ho hdat ?_)))
  have own1 : Builtin.Dict_items.ownsTuple "dict_itemiterator" = true := by decide
  simp only [own1, if_true]
  refine wpAny_newObj_type (wpAny_pure ⟨_, rfl, "dict_itemiterator", _, ⟨_, Heap.get?_push_size _ rfl, rfl⟩, PySem.F.slot_dict_itemiterator_next.lookup, ?_⟩)
    (by simp only [sizeOk, Builtin.Dict_items.ownedTupleFields, List.size_toArray, List.length_append, List.length_cons, List.length_nil, sizeLine_eq]; omega)
  simpa [rawInt, itF, Builtin.Dict_items.ownedTupleFields] using hQ
theorem items_hint {vw : Addr} (hT : s.TypeIs (.ref vw) "dict_items") {Q : Bool → Shared → Prop} (h : Q false s) : wpAny (model prog w) A (Builtin.List.listLengthHint (.ref vw)) Q E s := PySem.W.kdx_hint hT h
theorem call_list_items {vw : Addr} {Q : Value → Shared → Prop} (hh : A.handled = none) (hv : viewAt vw d s.heap) (hd : RawD s.heap d xs ep) (hn : xs.size ≤ sizeLine)
    (hQ : ∀ (h' : Heap) (tk : Nat) (acc : Array Value) (c : Nat) (as : List Addr), (∀ b o, s.heap.get? b = some o → h'.get? b = some o) → h'.get? s.heap.objs.size = some { cls := .type "list", dict := none, data := .seq acc c, slots := #[] } → as.length = xs.size → Got xs s.heap.objs.size (s.heap.objs.size + 1) s.heap.objs.size h' as → acc.toList = as.map Value.ref → Q (.ref s.heap.objs.size) { s with heap := h', toks := tk }) :
    wpAny (model prog w) A (call (.type "list") [.ref vw]) Q E s := by
  have hvl : vw < s.heap.objs.size := let ⟨_, ho, _⟩ := hv; Heap.lt_size ho
  have hdl : d < s.heap.objs.size := let ⟨_, ho, _⟩ := hd; Heap.lt_size ho
  refine callType_codes (Q₁ := fun obj s₁ => obj = .ref s.heap.objs.size ∧ s₁ = { s with heap := s.heap.push { cls := .type "list", data := .seq #[] } }) PySem.F.called_list (PySem.F.typeCall_list_1 _) PySem.F.entry_list_init (code_list_new _ ⟨rfl, rfl⟩) fun obj s₁ h₁ => ?_
  obtain ⟨rfl, rfl⟩ := h₁
  generalize hG1 : s.heap.push { cls := .type "list", data := .seq #[] } = G1
  have hS : G1.get? s.heap.objs.size = some { cls := .type "list", data := .seq #[] } := by rw [← hG1]; exact Heap.get?_push_size _ rfl
  have k1 : ∀ b o, s.heap.get? b = some o → G1.get? b = some o := fun b o e => by rw [← hG1]; exact Heap.get?_push_of_some _ e
  have z1 : G1.objs.size = s.heap.objs.size + 1 := by rw [← hG1, Heap.size_push]
  generalize hSz : s.heap.objs.size = S at *
  refine ⟨⟨_, hS, rfl⟩, PySem.F.args_list_init_2 _ _, ?_⟩
  show wpAny _ _ (do let old ← Builtin.List.listItems (.ref S); Builtin.List.listUpdate (.ref S) (fun _ => #[]); letGo old.toList.reverse; Builtin.List.listExtendWith (.ref S) (.ref vw) .none) _ _ _
  refine wpAny_bind ?_
  unfold Builtin.List.listItems
  refine wpAny_bind (wpAny_seqItems hS rfl (wpAny_pure ?_))
  show wpAny _ _ (updateSeq S (fun _ => #[]) >>= fun _ => letGo (#[] : Array Value).toList.reverse >>= fun _ => Builtin.List.listExtendWith (.ref S) (.ref vw) .none) _ _ _
  refine wpAny_bind (wpAny_updateSeq hS rfl ?_)
  have hS2 := Heap.get?_update_self (Obj.mapSeq (fun _ => (#[] : Array Value))) hS rfl
  generalize hG2 : G1.update S (Obj.mapSeq (fun _ => (#[] : Array Value))) = G2 at hS2
  have k2 : ∀ b o, b ≠ S → G1.get? b = some o → G2.get? b = some o := fun b o hb e => by rw [← hG2]; exact (Heap.get?_update_other _ _ (Ne.symm hb)).trans e
  have z2 : G2.objs.size = S + 1 := by rw [← hG2, Heap.size_update, z1]
  have hv2 : viewAt vw d G2 := let ⟨o, h1, h2⟩ := hv; ⟨o, k2 vw o (Nat.ne_of_lt hvl) (k1 vw o h1), h2⟩
  have hd2 : RawD G2 d xs ep := let ⟨o, h1, h2⟩ := hd; ⟨o, k2 d o (Nat.ne_of_lt hdl) (k1 d o h1), h2⟩
  refine wpAny_bind (wpAny_letGo ?_)
  unfold Builtin.List.listExtendWith
  have hT2 : Shared.TypeIs { s with heap := G2 } (.ref vw) "dict_items" := let ⟨o, h1, h2, _⟩ := hv2; ⟨o, h1, h2⟩
  refine wpAny_bind (wpAny_typeOf hT2 ?_)
  have b1 : Builtin.List.listSameRef (.ref S) (.ref vw) = false := by
    show (S == vw) = false
    exact beq_eq_false_iff_ne.mpr (Nat.ne_of_gt hvl)
  have b2 : (Value.type "dict_items" == Value.type "list") = false := by decide
  have b3 : (Value.type "dict_items" == Value.type "tuple") = false := by decide
  simp only [b1, b2, b3, Bool.or_false, Bool.false_eq_true, if_false]
  refine wpAny_bind (items_iter (s := { s with heap := G2 }) hv2 hd2 ?_)
  show wpAny _ _ _ _ _ { s with heap := G2.push _ }
  generalize hG3 : G2.push { cls := .type "dict_itemiterator", data := .fields (itF d 0 xs.size ep .none (.bool false) .none .none) } = G3
  have k3 : ∀ b o, G2.get? b = some o → G3.get? b = some o := fun b o e => by rw [← hG3]; exact Heap.get?_push_of_some _ e
  have hI3 : ItAt G3 (S + 1) d 0 xs.size ep .none (.bool false) .none .none := by rw [← hG3, ← z2]; exact Heap.get?_push_size _ rfl
  have z3 : G3.objs.size = S + 2 := by rw [← hG3, Heap.size_push, z2]
  have hT3 : Shared.TypeIs { s with heap := G3 } (.ref vw) "dict_items" := let ⟨o, h1, h2⟩ := hT2; ⟨o, k3 _ _ h1, h2⟩
  refine wpAny_bind (wpAny_holding (items_hint hT3 ?_))
  have neSI : S ≠ S + 1 := Nat.ne_of_lt (Nat.lt_succ_self _)
  have key : ∀ (h : Heap) (c tk : Nat), (∀ b o, b ≠ S → G3.get? b = some o → h.get? b = some o) → S ≤ h.objs.size → h.get? S = some { cls := .type "list", dict := none, data := .seq #[] c, slots := #[] } →
      codeAny (model prog w) A.in1 (.builtin "list.extend.loop" ⟨[.ref S, .ref (S + 1), .none], []⟩) (wants (fun r s₂ => r = Value.none ∧ Q (.ref S) s₂) E) { s with heap := h, toks := tk } := fun h c tk kk hlo hSh => by
    refine items_loop (s := s) (xs := xs) (ep := ep) (h0 := G3) (lo := S) (A := A.in1) (by simp [hh]) neSI (Nat.ne_of_lt hdl) (Nat.ne_of_lt (Nat.lt_succ_of_lt hdl)) hn .none (fun h' tk' acc c' as hk hS' hl hG hacc => ⟨rfl, ?_⟩)
      xs.size 0 h tk c #[] [] _ _ _ _ (Nat.sub_zero _) (Nat.zero_le _) (kk _ _ (Ne.symm neSI) hI3) ⟨.inl rfl, _, rfl⟩ (let ⟨o, h1, h2⟩ := hd2; ⟨o, kk d o (Nat.ne_of_lt hdl) (k3 _ _ h1), h2⟩) (fun b o n1 _ e => kk b o n1 e) hSh rfl rfl ⟨List.Pairwise.nil, (fun _ ha => nomatch ha), (fun j a hj => by simp at hj)⟩ hlo
    refine hQ h' tk' acc c' as (fun b o e => ?_) hS' hl hG hacc
    have hb : b < S := by rw [← hSz]; exact Heap.lt_size e
    exact hk b o (Nat.ne_of_lt hb) (Nat.ne_of_lt (Nat.lt_succ_of_lt hb)) (k3 b o (k2 b o (Nat.ne_of_lt hb) (k1 b o e)))
  dsimp only
  rw [z2]
  refine wpAny_ite_split (fun _ => ?_) (fun _ => wpAny_pure ⟨plainId_quiet PySem.F.plain_extend_loop _, key _ _ _ (fun b o _ e => e) (by rw [z3]; omega) (k3 _ _ hS2)⟩)
  have hS3 := k3 _ _ hS2
  refine wpAny_bind (wpAny_rule (wpAny_bind ?_))
  show wpAny _ _ (updateSeq S (·.push .none) >>= fun _ => updateSeq S (·.pop)) _ _ _
  refine wpAny_bind (wpAny_updateSeq hS3 rfl ?_)
  have hS4 := Heap.get?_update_self (Obj.mapSeq (·.push Value.none)) hS3 rfl
  refine wpAny_updateSeq (hz := by seq_fits) hS4 rfl ?_
  have hS5 := Heap.get?_update_self (Obj.mapSeq (·.pop)) hS4 rfl
  exact wpAny_pure ⟨plainId_quiet PySem.F.plain_extend_loop _, key _ _ _ (fun b o hb e => (Heap.get?_update_other _ _ (Ne.symm hb)).trans ((Heap.get?_update_other _ _ (Ne.symm hb)).trans e)) (Nat.le_of_lt (Heap.lt_size hS5)) hS5⟩
end
section
variable {X : Cx} {pins : List (Addr × Obj)} {σ : St} {H H' : Hp} {s : Shared}
theorem Inv.laidM {h' : Heap} {t' : Nat} (I : Inv X pins σ H s) (k : ∀ b u, s.heap.get? b = some u → h'.get? b = some u) (sH : Same H H') (new : ∀ a o, H' a = some o → H a = none → s.heap.objs.size ≤ a ∧ ObjOk X.prog X.w H' h' a o) : Inv X pins σ H' { s with heap := h', toks := t' } := by
  refine I.un ⟨fun b ob q _ _ _ => k b ob q, fun b ob q _ _ _ => ⟨ob.slots, k b ob q⟩, fun b ob q n _ => ?_, fun b ob q _ => ⟨ob, k b ob q⟩, fun b xs q => sH _ _ q, fun b o u q => sH _ _ q, fun b ps q => ⟨#[], by rw [sH _ _ q]; simp⟩⟩ fun a o e => ?_
  · cases e : H' b with
    | none => rfl
    | some o => exact absurd (Heap.lt_size q) (Nat.not_lt.mpr (new b o e n).1)
  · cases q : H a with
    | none => exact (new a o e q).2
    | some u =>
      have e' := sH _ _ q
      rw [e] at e'
      cases e'
      exact (I.hok a o q).stay (fun b v _ z => k b v z) (fun b z => sH _ _ z) fun b xs z => sH _ _ z
def viewO (v p : Addr) : HO := .ext (viewAt v p)
theorem mt_items : MtR X "dict.items" (fun x xs H Q => xs = [] ∧ ∃ (p : Addr) (es : List (Int × Addr × V)), x = .ref p ∧ H p = some (dicO p es) ∧ ∀ v, H v = none → Q (.ref v) (upd H v (viewO v p))) := by
  intro pins s σ H x xs v us Q I rx r h
  obtain ⟨rfl, p, es, rfl, hp, q⟩ := h
  cases rx
  cases r
  have hT := typ_dic I hp
  obtain ⟨⟨hs, _⟩, _⟩ := I.hok p _ hp
  refine wpAny_call_entry PySem.F.slot_dict_items hT PySem.F.entry_dict_items ?_ (PySem.F.args_dict_items_1 _)
  unfold Builtin.«dict.items»
  refine wpAny_bind ?_
  unfold Builtin.Dict.noArgs
  refine wpAny_bind (wpAny_notOrdered_dict hT ?_)
  show wpAny _ _ (pure p) _ _ s
  refine wpAny_pure ?_
  show wpAny _ _ (Builtin.Dict.showsAll p >>= _) _ _ s
  unfold Builtin.Dict.showsAll
  rw [if_neg (by rw [hs]; exact Bool.false_ne_true)]
  refine wpAny_bind (wpAny_pure (wpAny_bind (wpAny_newObj_type (wpAny_pure ⟨_, rfl, ?_⟩))))
  exact ⟨.ref s.heap.objs.size, _, I.laid (t' := s.toks) (o := viewO s.heap.objs.size p) (fun _ _ e => Heap.get?_push_of_some _ e) (Nat.le_refl _) ⟨⟨_, Heap.get?_push_size _ rfl, rfl, rfl⟩, ⟨_, Heap.get?_push_size _ rfl⟩, fun h1 h2 ⟨o, e, r⟩ k => ⟨o, k _ e, r⟩⟩, rfl, q _ (I.hok.fresh (Nat.le_refl _))⟩
end
end L2

set_option Elab.async false
set_option linter.all false
set_option maxRecDepth 100000
namespace L2
open PySem PySem.Spec PyProof.Rows TL
section
variable {X : Cx} {o : Expr} {to : TE} {apos cpos : Pos}
theorem pe_ditems (ho : PE X o to) (hbase : attributeBase o "items" X.env (eval o X.env) = eval o X.env := by rfl) (hline : (apos.endLine == cpos.line) = true := by rfl) :
    PE X (.Call (.Attribute o "items" apos) [] [] cpos) (fun σ H Q => to σ H fun x H1 => ∃ (p : Addr) (es : List (Int × Addr × V)), x = .ref p ∧ H1 p = some (dicO p es) ∧ ∀ v, H1 v = none → Q (.ref v) (upd H1 v (viewO v p))) := by
  intro pins s σ H Q I h
  refine wpAny_Call_method0_late hbase hline (thn (ho pins s σ H _ I h) fun v s1 ⟨x, H1, I1, r1, p, es, ex, hp, q1⟩ => ?_)
  subst ex
  obtain rfl : v = Value.ref p := r1
  obtain ⟨⟨_, _, ob, ds, ep, h3, h4, _⟩, _⟩ := I1.hok p _ hp
  exact ⟨"dict", "dict.items", PySem.F.plainAttrs_dict, PySem.F.slot_dict_items, PySem.F.type_dict_items, typ_dic I1 hp, fun a e => by cases e; exact ⟨ob, h3, h4.2.1⟩, Calls.callWith_builtin rfl (PySem.evalArgs_none (mt_items pins s1 σ H1 (.ref p) [] (.ref p) [] Q I1 rfl .nil ⟨rfl, p, es, rfl, hp, q1⟩))⟩
end
theorem look_zip {β : Type} {b : Addr} {y : β} : ∀ {as : List Addr} {ys : List β} {j : Nat}, as.Nodup → as[j]? = some b → ys[j]? = some y → (as.zip ys).lookup b = some y
  | [], _, j, _, h, _ => by simp at h
  | a :: as, [], j, _, _, h => by simp at h
  | a :: as, z :: ys, 0, _, h1, h2 => by
    simp at h1 h2
    subst h1 h2
    simp [List.lookup]
  | a :: as, z :: ys, j + 1, nd, h1, h2 => by
    rw [List.nodup_cons] at nd
    have h1' : as[j]? = some b := by simpa using h1
    have h2' : ys[j]? = some y := by simpa using h2
    have ne : (b == a) = false := beq_eq_false_iff_ne.mpr fun e => nd.1 (e ▸ List.mem_of_getElem? h1')
    rw [List.zip_cons_cons, List.lookup_cons, ne]
    exact look_zip nd.2 h1' h2'
theorem look_mem {β : Type} {b : Addr} {y : β} : ∀ {as : List Addr} {ys : List β}, (as.zip ys).lookup b = some y → ∃ j : Nat, as[j]? = some b ∧ ys[j]? = some y
  | [], _, h => by simp [List.lookup] at h
  | a :: as, [], h => by simp [List.lookup] at h
  | a :: as, z :: ys, h => by
    rw [List.zip_cons_cons, List.lookup_cons] at h
    cases e : (b == a) with
    | true =>
      rw [e] at h
      have e' : b = a := eq_of_beq e
      exact ⟨0, by simp [e'], by simpa using h⟩
    | false =>
      rw [e] at h
      obtain ⟨j, h1, h2⟩ := look_mem h
      exact ⟨j + 1, by simpa using h1, by simpa using h2⟩
section
variable {X : Cx}
theorem entR_get : ∀ {es : List (Int × Addr × V)} {ds : List DictEntry} {j : Nat} {d : DictEntry}, Paired EntR es ds → ds[j]? = some d → ∃ e, es[j]? = some e ∧ EntR e d
  | _, _, _, _, .nil, h => by simp at h
  | _, _, 0, _, .cons r t, h => by simp at h; subst h; exact ⟨_, rfl, r⟩
  | _, _, j + 1, d, .cons r t, h => by
    obtain ⟨e, h1, h2⟩ := entR_get (j := j) (d := d) t (by simpa using h)
    exact ⟨e, by simpa using h1, h2⟩
theorem call_list_itemsR (hc : X.calm = true) : CallR X (.type "list") (fun xs H Q => ∃ (v p : Addr) (es : List (Int × Addr × V)), xs = [.ref v] ∧ H v = some (viewO v p) ∧ H p = some (dicO p es) ∧
    ∀ (as : List Addr) (l : Addr) (H' : Hp), Same H H' → H l = none → as.length = es.length → (∀ (j : Nat) (a : Addr) (e : Int × Addr × V), as[j]? = some a → es[j]? = some e → H a = none ∧ H' a = some (.tup [.ref e.2.1, e.2.2])) → H' l = some (.lst (as.map V.ref)) → Q (.ref l) H') := by
  intro pins s σ H xs us Q I r h
  obtain ⟨v, p, es, rfl, hv, hp, q⟩ := h
  obtain ⟨u, rfl, rx⟩ := vals1 r
  cases rx
  obtain ⟨hva, _⟩ := I.hok v _ hv
  obtain ⟨⟨_, hlen, ob, ds, ep, h3, h4, h5, h6⟩, _⟩ := I.hok p _ hp
  have hsz : es.length = ds.size := by rw [← Array.length_toList]; exact Paired.length h6
  refine call_list_items (xs := ds) (ep := ep) (d := p) (I.ok.hd hc) hva ⟨ob, h3, h5⟩ (by omega) fun h' tk acc c as kk hS hal hG hacc => ?_
  have nd : as.Nodup := hG.rise.imp fun h => Nat.ne_of_lt h
  generalize hl : s.heap.objs.size = l at *
  let pr : List HO := es.map fun e => HO.tup [.ref e.2.1, e.2.2]
  let H' : Hp := fun b => if b = l then some (.lst (as.map V.ref)) else match (as.zip pr).lookup b with | some o => some o | none => H b
  have frl : ∀ a, l ≤ a → H a = none := fun a ha => I.hok.fresh (by rw [hl]; exact ha)
  have at_as : ∀ (j : Nat) (a : Addr) (e : Int × Addr × V), as[j]? = some a → es[j]? = some e → H' a = some (.tup [.ref e.2.1, e.2.2]) := fun j a e h1 h2 => by
    have na : a ≠ l := (hG.above a (List.mem_of_getElem? h1)).2.1
    show (if a = l then _ else _) = _
    rw [if_neg na, look_zip nd h1 (y := HO.tup [.ref e.2.1, e.2.2]) (by show (es.map _)[j]? = _; rw [List.getElem?_map, h2]; rfl)]
  have sH : Same H H' := fun b o e => by
    have nb : ¬ l ≤ b := fun z => by rw [frl b z] at e; cases e
    show (if b = l then _ else _) = _
    rw [if_neg (show ¬ b = l from fun z => nb (Nat.le_of_eq z.symm))]
    cases hq : (as.zip pr).lookup b with
    | none => exact e
    | some y =>
      obtain ⟨j, h1, _⟩ := look_mem hq
      exact absurd (hG.above b (List.mem_of_getElem? h1)).1 nb
  have hlH : H' l = some (.lst (as.map V.ref)) := if_pos rfl
  refine ⟨.ref l, H', I.laidM (t' := tk) kk sH fun a o e n => ?_, rfl, q as l H' sH (frl l (Nat.le_refl _)) (by omega) (fun j a e h1 h2 => ⟨frl a (hG.above a (List.mem_of_getElem? h1)).1, at_as j a e h1 h2⟩) hlH⟩
  have hL : sizeLine = 2 ^ 24 := rfl
  by_cases ea : a = l
  · subst ea
    rw [hlH] at e
    cases e
    refine ⟨by rw [hl]; exact Nat.le_refl _, by rw [List.length_map]; omega, acc.toList, c, ?_, by simpa using hS⟩
    rw [hacc]
    clear hacc hG nd pr H' frl at_as sH hlH q hS hal
    induction as with
    | nil => exact .nil
    | cons x as ih => exact .cons rfl ih
  · have e' : (match (as.zip pr).lookup a with | some o => some o | none => H a) = some o := by
      have := e
      show _ = _
      rw [← this]
      exact (if_neg ea).symm
    cases hq : (as.zip pr).lookup a with
    | none => rw [hq] at e'; rw [n] at e'; cases e'
    | some y =>
      rw [hq] at e'
      cases e'
      obtain ⟨j, h1, h2⟩ := look_mem hq
      obtain ⟨d, d1, d2⟩ := hG.tups j a h1
      obtain ⟨en, e1, e2⟩ := entR_get h6 (j := j) (d := d) (by simpa using d1)
      have h2' : (es.map fun e => HO.tup [.ref e.2.1, e.2.2])[j]? = some o := h2
      rw [List.getElem?_map, e1] at h2'
      cases h2'
      exact ⟨by rw [hl]; exact (hG.above a (List.mem_of_getElem? h1)).1, by show 2 ≤ sizeLine; omega, [d.key, d.val], .cons e2.2.1 (.cons e2.2.2 .nil), ⟨_, d2, rfl, _, rfl, rfl⟩⟩
end
end L2
namespace TL
open PySem PySem.Spec PyProof.Rows L2
theorem reps_of_get {K : PySem.W.Frag} {H : Hp} : ∀ {ds : List D} {vs : List V}, ds.length = vs.length → (∀ (j : Nat) (d : D) (v : V), ds[j]? = some d → vs[j]? = some v → Rep K H d v) → Reps K H ds vs
  | [], [], _, _ => .nil
  | [], _ :: _, h, _ => by simp at h
  | _ :: _, [], h, _ => by simp at h
  | d :: ds, v :: vs, h, k => .cons (k 0 d v rfl rfl) (reps_of_get (by simpa using h) fun j d' v' h1 h2 => k (j + 1) d' v' (by simpa using h1) (by simpa using h2))
section
variable {X : Cx} {n : Expr} {te : ET} {pos : Pos}
def eItems (w : World) (te : ET) : ET := fun σ Q => te σ fun d => ∃ kvs, d = dicD w kvs ∧ Q (.list (kvs.map fun kv => .tuple [kv.1, kv.2]))
theorem et_litems {g1 : Expr} {ap cp : Pos} (he : PEt X n te)
    (pc : ∀ {v : TE}, PE X n v → PE X (.Call g1 [.Call (.Attribute n "items" ap) [] [] cp] [] pos) (tCB (fun xs H Q => ∃ (v p : Addr) (es : List (Int × Addr × V)), xs = [.ref v] ∧ H v = some (viewO v p) ∧ H p = some (dicO p es) ∧
    ∀ (as : List Addr) (l : Addr) (H' : Hp), Same H H' → H l = none → as.length = es.length → (∀ (j : Nat) (a : Addr) (e : Int × Addr × V), as[j]? = some a → es[j]? = some e → H a = none ∧ H' a = some (.tup [.ref e.2.1, e.2.2])) → H' l = some (.lst (as.map V.ref)) → Q (.ref l) H')
      (tCons (fun σ H Q => v σ H fun x H1 => ∃ (p : Addr) (es : List (Int × Addr × V)), x = .ref p ∧ H1 p = some (dicO p es) ∧ ∀ v, H1 v = none → Q (.ref v) (upd H1 v (viewO v p))) tNil))) :
    PEt X (.Call g1 [.Call (.Attribute n "items" ap) [] [] cp] [] pos) (eItems X.w te) := by
  obtain ⟨v, pe, re⟩ := he
  refine ⟨_, pc pe, fun B p0 H ps σT σ Q QV o h k => re B p0 H ps σT σ _ _ o h fun d x H1 s1 r1 q1 => ?_⟩
  obtain ⟨kvs, rfl, q⟩ := q1
  obtain ⟨p, es, rfl, h1, h2, h3, h4, h5⟩ := rep_dic r1
  have hp := mask_le _ _ h1
  refine ⟨p, es, rfl, hp, fun vw hvw => ⟨vw, p, es, rfl, upd_same, (by rw [upd_ne (ne_of_none hp hvw)]; exact hp), fun as l H' sH hl hal hat hL => ?_⟩⟩
  have s2 : Same H1 H' := (same_new hvw).trans sH
  have live := (o.grow s1).live
  have fr : ∀ a, upd H1 vw (viewO vw p) a = none → a ∉ ps := fun a ha => fresh_notin live (Same.free' (same_new hvw) ha)
  have hlen : kvs.length = es.length := by
    have := congrArg List.length h2
    simpa using this
  refine k _ _ H' (s1.trans s2) (.list (SqL.of (mask_at (fr l hl) hL)) (reps_of_get (by rw [List.length_map, List.length_map]; omega) fun j d v e1 e2 => ?_)) q
  rw [List.getElem?_map] at e1 e2
  obtain ⟨kv, k1, rfl⟩ := Option.map_eq_some_iff.mp e1
  obtain ⟨a, a1, rfl⟩ := Option.map_eq_some_iff.mp e2
  obtain ⟨e, he⟩ : ∃ e, es[j]? = some e := ⟨_, List.getElem?_eq_getElem (by rw [← hlen]; exact (List.getElem?_eq_some_iff.mp k1).1)⟩
  obtain ⟨f1, f2⟩ := hat j a e a1 he
  have ms := mask_same (ps := ps) s2
  obtain ⟨x1, y1, y2⟩ := (h4.same ms).get (i := j) (d := kv.1) (by rw [List.getElem?_map, k1]; rfl)
  obtain ⟨x2, z1, z2⟩ := (h5.same ms).get (i := j) (d := kv.2) (by rw [List.getElem?_map, k1]; rfl)
  rw [List.getElem?_map, he] at y1 z1
  cases y1
  cases z1
  exact .tuple (SqT.of (mask_at (fr a f1) f2)) (.cons y2 (.cons z2 .nil))
end
end TL

set_option Elab.async false
set_option linter.all false
set_option maxRecDepth 100000
namespace L2
open PySem PySem.Spec PyProof.Rows
section
variable {prog : Program} {w : World} {A : Around}
theorem ddset_loopL {R : Result → Shared → Prop} {I ax : Addr} (S : Addr) (hS1 : S ≠ I) (hS2 : S ≠ ax) (hax : ax ≠ I) (hh : A.handled = none) {its : List Value} {ys : List Str} (hys : StrsAre its ys) (hb : ys.length + 1 < scanBound) :
    ∀ (k i : Nat) (s : Shared), its.length - i = k → i ≤ its.length → s.heap.IsListIter I ax i → s.heap.IsList ax its.toArray → DdSet prog w s.heap S (dd (ys.take i)) →
      (∀ h' tk, (∀ b o, b ≠ S → b ≠ I → s.heap.get? b = some o → h'.get? b = some o) → DdSet prog w h' S (dd ys) → R (.ok (.ret .none)) { s with heap := h', toks := tk }) →
      codeAny (model prog w) A (.builtin "set.update.loop" ⟨[.ref S, .ref I], []⟩) R s := by
  have hlen : its.length = ys.length := by
    clear hb
    induction hys with
    | nil => rfl
    | cons y t _ ih => simp [ih]
  intro k
  induction k with
  | zero =>
    intro i s hk hi h1 h2 h3 hR
    obtain rfl : i = its.length := by omega
    refine codeAny_builtin PyProof.Rows.F.entry_set_update_loop ?_
    rw [Around.under_plainId PyProof.Rows.F.plain_set_update_loop _]
    show wpAny _ A.in1 (pyNext (.ref I) >>= _) _ _ s
    refine wpAny_bind ((Walks.list (prog := prog) (w := w) (A := A.in1) hh I ax hax its.toArray).done s _ _ (by rw [List.size_toArray]; exact ⟨h1, h2⟩) fun h' tk kk => ?_)
    show wpAny _ A.in1 (ret Value.none) _ _ _
    refine wpAny_pure (hR h' tk (fun b o _ hb e => kk b o (by simpa using hb) e) ?_)
    rw [List.take_of_length_le (by omega)] at h3
    obtain ⟨o, es, ep, t, ho, rest⟩ := h3
    exact ⟨o, es, ep, t, kk S o (by simpa using hS1) ho, rest⟩
  | succ k ih =>
    intro i s hk hi h1 h2 h3 hR
    have hlt : i < its.length := by omega
    refine codeAny_builtin PyProof.Rows.F.entry_set_update_loop ?_
    rw [Around.under_plainId PyProof.Rows.F.plain_set_update_loop _]
    show wpAny _ A.in1 (pyNext (.ref I) >>= _) _ _ s
    refine wpAny_bind ((Walks.list (prog := prog) (w := w) (A := A.in1) hh I ax hax its.toArray).item i s _ _ (by rw [List.size_toArray]; exact hlt) ⟨h1, h2⟩ fun v h' tk hP st' kk => ?_)
    have hv : its[i]? = some v := by simpa using hP
    have hyv := strsAre_get hys i v hv
    obtain ⟨y, t, hy, rfl⟩ := hyv
    have h3' : DdSet prog w h' S (dd (ys.take i)) := by
      obtain ⟨o, es, ep, tb, ho, rest⟩ := h3
      exact ⟨o, es, ep, tb, kk S o (by simpa using hS1) ho, rest⟩
    show wpAny _ A.in1 (holding [Value.str y t] (setAdd S (.str y t)) >>= _) _ _ _
    refine wpAny_bind (wpAny_holding ?_)
    unfold setAdd
    refine wpAny_holding (wpAny_bind ((mixKind prog w).pyHash (k := Sum.inr y) (mixKind_str _ _ _ _) ?_))
    have hroom : (dd (ys.take i)).length + 1 < scanBound := by
      have := dd_len (ys.take i)
      rw [List.length_take] at this
      omega
    refine wpAny_setAddHashed_of (knd := mixKind prog w) (s := { s with heap := h', toks := tk + 1 }) (mixKind_str _ _ _ _) rfl h3' hroom fun h2' hsb hS2' => ?_
    have h3n : DdSet prog w h2' S (dd (ys.take (i + 1))) := by
      rw [dd_take_succ ys i y hy]
      refine setOf_cg hS2' (fun k' => ?_) ?_
      · cases k' with
        | inl n =>
          show (false || decide ((Sum.inl n : Key) = Sum.inr y)) = false
          rw [key_lr]; rfl
        | inr z =>
          show (decide (z ∈ dd (ys.take i)) || decide ((Sum.inr z : Key) = Sum.inr y)) = decide (z ∈ dstep (dd (ys.take i)) y)
          rw [key_rr, Bool.eq_iff_iff]
          simp only [Bool.or_eq_true, decide_eq_true_eq, dstep_mem]
      · show (if decide (y ∈ dd (ys.take i)) = true then _ else _) = (dstep (dd (ys.take i)) y).length
        unfold dstep
        by_cases hm : y ∈ dd (ys.take i)
        · rw [if_pos (decide_eq_true hm), if_pos hm]
        · rw [if_neg (by simpa using hm), if_neg hm]; simp
    refine wpAny_pure ⟨plainId_quiet PyProof.Rows.F.plain_set_update_loop _, ih (i + 1) _ (by omega) hlt (st'.1.at fun o e => (hsb.2 I (Ne.symm hS1)).trans e) (st'.2.at fun o e => (hsb.2 ax (Ne.symm hS2)).trans e) h3n fun h4 tk4 kk4 h5 => ?_⟩
    exact hR h4 tk4 (fun b o hb1 hb2 e => kk4 b o hb1 hb2 ((hsb.2 b hb1).trans (kk b o (by simpa using hb2) e))) h5
end
section
variable {X : Cx}
set_option maxHeartbeats 3200000 in
theorem call_set_list {prog : Program} {w : World} {A : Around} {E : Value → Shared → Prop} {s : Shared} {l : Addr} {its : List Value} {ys : List Str} {Q : Value → Shared → Prop}
    (hh : A.handled = none) (hl : s.heap.IsList l its.toArray) (hys : StrsAre its ys) (hb : ys.length + 1 < scanBound)
    (h : ∀ (h' : Heap) (tk : Nat), DdSet prog w h' s.heap.objs.size (dd ys) → (∀ b o, s.heap.get? b = some o → h'.get? b = some o) → Q (.ref s.heap.objs.size) { s with heap := h', toks := tk }) :
    wpAny (model prog w) A (call (.type "set") [.ref l]) Q E s := by
  obtain ⟨c0, tl0, hm0⟩ := PySem.F.called_set.mro
  have hmk := PySem.F.called_set.made
  have hsb0 := PySem.F.called_set.sub
  refine wpAny_call (codeAny_of_tree ?_)
  show wpAny _ _ (callAny (.type "set") _) _ _ _
  refine wpAny_pure ⟨Code.quiet_builtin _ (by decide +kernel), codeAny_builtin PySem.F.entry_type_call ?_⟩
  rw [Around.under_plain (weight_type_call_type "set" [.ref l] []) rfl]
  have k1 := PySem.F.called_set.notType
  have k2 := PySem.F.called_set.canCreate
  have k3 := PySem.F.typeCall_set_1 (.ref l)
  repeat (any_goals (first | assumption | wp_step))
  refine codeAny_mono (code_set_new_1 (.ref l) (E := E) (Q₁ := fun obj s1 => ∃ led : Bool, obj = .ref s.heap.objs.size ∧ s1 = { s with heap := s.heap.push { cls := .type "set", dict := none, data := .set #[] 0 (.fresh 0 0 led) } }) fun led => ⟨led, rfl, rfl⟩) fun r s1 hr => ?_
  cases r with
  | error e => exact hr
  | ok fl =>
    cases fl with
    | ret obj =>
      obtain ⟨led, rfl, rfl⟩ := hr
      have gS : (s.heap.push { cls := .type "set", dict := none, data := .set #[] 0 (.fresh 0 0 led) }).get? s.heap.objs.size = some { cls := .type "set", dict := none, data := .set #[] 0 (.fresh 0 0 led) } := Heap.get?_push_size _ rfl
      have tS : Shared.TypeIs { s with heap := s.heap.push { cls := .type "set", dict := none, data := .set #[] 0 (.fresh 0 0 led) } } (.ref s.heap.objs.size) "set" := ⟨_, gS, rfl⟩
      have k4 := PySem.F.called_set.init.lookup
      have k5 := PySem.F.called_set.init.bind (.ref s.heap.objs.size)
      repeat (any_goals (first | assumption | wp_step))
      refine codeAny_mono (codeAny_call_builtin (R := wants (fun r s2 => r = .none ∧ ∃ h' tk, s2 = { s with heap := h', toks := tk } ∧ DdSet prog w h' s.heap.objs.size (dd ys) ∧ (∀ b o, s.heap.get? b = some o → h'.get? b = some o)) E) PySem.F.called_set.init.plain PySem.F.entry_set_init (check_set_init_1 tS ?_)) fun r2 s2 hr2 => ?_
      · obtain ⟨⟨ocls, odict, odata, oslots⟩, hol, hcl, nl, hdl⟩ := hl
        simp only at hcl hdl
        subst hcl; subst hdl
        have gl : (s.heap.push { cls := .type "set", dict := none, data := .set #[] 0 (.fresh 0 0 led) }).get? l = some { cls := .type "list", dict := odict, data := .seq its.toArray nl, slots := oslots } := Heap.get?_push_of_some _ hol
        have k6 := PySem.F.sub_list_set
        have k7 := PySem.F.sub_list_frozenset
        have k8 : (Value.type "list" == Value.type "dict") = false := by decide
        have tl1 : (s.heap.push { cls := .type "set", dict := none, data := .set #[] 0 (.fresh 0 0 led) }).IsList l its.toArray := ⟨_, gl, rfl, nl, rfl⟩
        unfold Builtin.«set.__init__» noKeywords Builtin.Frozenset.updateFrom
        generalize hPI : pyIter = PI
        wp_walk
        subst hPI
        refine wpAny_pyIter_list tl1 (wpAny_bind (wpAny_runValue ?_))
        have lS : l < s.heap.objs.size := Heap.lt_size hol
        have h3 : A.in1.in1.handled = none := by simp [hh]
        refine ddset_loopL s.heap.objs.size ?_ (Nat.ne_of_gt lS) ?_ h3 hys hb its.length 0 _ (by omega) (Nat.zero_le _) ?_ ?_ ?_ fun h' tk kk hD => ?_
        · show s.heap.objs.size ≠ (s.heap.push _).objs.size
          rw [Heap.size_push]; exact Nat.ne_of_lt (Nat.lt_succ_self _)
        · show l ≠ (s.heap.push _).objs.size
          rw [Heap.size_push]; exact Nat.ne_of_lt (Nat.lt_succ_of_lt lS)
        · exact ⟨_, Heap.get?_push_size _ rfl, rfl, rfl⟩
        · exact tl1.at fun o e => Heap.get?_push_of_some _ e
        · exact ⟨_, #[], 0, _, Heap.get?_push_of_some _ gS, ⟨rfl, rfl, rfl⟩, rfl, fun e he => by simp at he, fun k => by cases k <;> simp [dd], by unfold scanBound; simp, rfl, rfl⟩
        · show wpAny _ _ _ _ _ _
          refine wpAny_pure ?_
          show wpAny _ _ (ret Value.none) _ _ _
          refine wpAny_pure ⟨rfl, h', tk, rfl, hD, fun b o e => kk b o (Nat.ne_of_lt (Heap.lt_size e)) ?_ (Heap.get?_push_of_some _ (Heap.get?_push_of_some _ e))⟩
          show b ≠ (s.heap.push _).objs.size
          rw [Heap.size_push]; exact Nat.ne_of_lt (Nat.lt_succ_of_lt (Heap.lt_size e))
      · cases r2 with
        | error e => exact hr2
        | ok fl2 =>
          cases fl2 with
          | ret r =>
            obtain ⟨rfl, h', tk, rfl, hD, kk⟩ := hr2
            repeat (any_goals (first | assumption | wp_step))
            exact h _ _ hD kk
          | _ => exact hr2.elim
    | _ => exact hr.elim
theorem call_set_strsL (hc : X.calm = true) : CallR X (.type "set") (fun xs H Q => ∃ (p : Addr) (ys : List Str), xs = [.ref p] ∧ SqL X.K H p (ys.map V.str) ∧ ys.length ≤ 1000 ∧ ∀ q, H q = none → Q (.ref q) (upd H q (SetN X.prog X.w q (dd ys).length))) := by
  intro pins s σ H xs us Q I r h
  obtain ⟨p, ys, rfl, hq, hz, q⟩ := h
  obtain ⟨u, rfl, rx⟩ := vals1 r
  cases rx
  obtain ⟨its, rv, pl, _⟩ := I.list hq
  refine call_set_list (I.ok.hd hc) pl.isList (strs_of rv) (by unfold scanBound; omega) fun h' tk hD kk => ?_
  obtain ⟨o, es, ep, t, ho, rest⟩ := id hD
  refine ⟨.ref _, _, I.laid kk (Nat.le_refl _) (show ObjOk X.prog X.w _ h' _ (SetN X.prog X.w s.heap.objs.size (dd ys).length) from ⟨⟨_, hD⟩, ⟨o, ho⟩, ?_⟩), rfl, q _ (I.hok.fresh (Nat.le_refl _))⟩
  rintro h1 h2 ⟨S, o, es, ep, t, ho, rest⟩ k
  exact ⟨S, o, es, ep, t, k o ho, rest⟩
end
end L2
namespace TL
open PySem PySem.Spec PyProof.Rows L2
section
variable {X : Cx} {e : Expr} {te : ET} {pos : Pos}
def eLenSetL (te : ET) : ET := fun σ Q => te σ fun d => ∃ ys : List Str, d = .list (ys.map PyData.str) ∧ ys.length ≤ 1000 ∧ Q (.int (dd ys).length)
theorem et_lensetL {g1 g2 : Expr} {p2 : Pos} (he : PEt X e te) (hs : starEach [e] X.env = (false, eval e X.env) :: starEach [] X.env := by rfl)
    (pc : ∀ {v : TE}, PA X [e] (tCons v tNil) → PE X (.Call g1 [.Call g2 [e] [] p2] [] pos) (tCB (fun xs H Q => ∃ (q : Addr) (n : Nat), xs = [.ref q] ∧ H q = some (SetN X.prog X.w q n) ∧ Q (.int n) H)
      (tCons (tCB (fun xs H Q => ∃ (p : Addr) (ys : List Str), xs = [.ref p] ∧ SqL X.K H p (ys.map V.str) ∧ ys.length ≤ 1000 ∧ ∀ q, H q = none → Q (.ref q) (upd H q (SetN X.prog X.w q (dd ys).length))) (tCons v tNil)) tNil))) :
    PEt X (.Call g1 [.Call g2 [e] [] p2] [] pos) (eLenSetL te) := by
  obtain ⟨v, pe, re⟩ := he
  refine ⟨_, pc (pa_cons pe pa_nil hs), fun B p0 H ps σT σ Q QV o h k => re B p0 H ps σT σ _ _ o h fun d x H1 s1 r1 q1 => ?_⟩
  obtain ⟨ys, rfl, hz, q⟩ := q1
  cases r1 with
  | list hq s =>
    have e := reps_strs s
    subst e
    refine ⟨_, ys, rfl, L2.Same.seq mask_le hq, hz, fun w hw => ⟨w, _, rfl, upd_same, k _ _ _ (s1.trans (same_new hw)) (.int _) q⟩⟩
end
end TL

set_option Elab.async false
set_option linter.all false
set_option maxRecDepth 100000
namespace TL
open PySem PySem.Spec PyProof.Rows L2
section
variable {X : Cx} {e g : Expr} {pos : Pos}
def eListOwn (i : Nat) : ET := fun σ Q => ∃ ts, σ[i]? = some (.own ts) ∧ Q (.list ts)
theorem et_listOwn {i : Nat} (hn : PE X e (tVar i)) (hs : starEach [e] X.env = (false, eval e X.env) :: starEach [] X.env := by rfl)
    (pc : ∀ {v : TE}, PA X [e] (tCons v tNil) → PE X (.Call g [e] [] pos) (tCB (fun xs H Q => ∃ p ys, xs = [.ref p] ∧ (SqL X.K H p ys ∨ SqT X.K H p ys) ∧ ∀ l, H l = none → Q (.ref l) (upd H l (.lst ys))) (tCons v tNil))) :
    PEt X (.Call g [e] [] pos) (eListOwn i) := by
  refine ⟨_, pc (pa_cons hn pa_nil hs), fun B p0 H ps σT σ Q QV o h k => ?_⟩
  obtain ⟨ts, e, h⟩ := h
  obtain ⟨q, xs, h1, h2, h3, h4, h5, h6⟩ := o.own i ts e
  exact ⟨.ref q, h1, q, xs, rfl, .inl (SqL.of h5), fun l hl => k _ _ _ (same_new hl) (rep_lst o.live hl h6) h⟩
end
end TL

set_option Elab.async false
set_option linter.all false
set_option maxRecDepth 100000
namespace K64
open PySem L2 TL
def top (i : Nat) : Stmt := PySem.Challenge.pw_leafjudge_k64_whole_trees_of_rules.main.body.getD i (.Pass ⟨0, 0, 0, 0⟩)
set_option genInjectivity false in
set_option genSizeOf false in
structure Adr where
  a_side_of : Addr
  f_side_of : FuncData
  a_field_asked : Addr
  f_field_asked : FuncData
  a_entries_to_yes : Addr
  f_entries_to_yes : FuncData
  a_values_held : Addr
  f_values_held : FuncData
  a_parted : Addr
  f_parted : FuncData
  a_numbers_on : Addr
  f_numbers_on : FuncData
  a_rows_at : Addr
  f_rows_at : FuncData
  a_many_cases : Addr
  f_many_cases : FuncData
  a_all_cases : Addr
  f_all_cases : FuncData
  a_entries_of : Addr
  f_entries_of : FuncData
  a_longer_by : Addr
  f_longer_by : FuncData
  a_fits : Addr
  f_fits : FuncData
  a_answered : Addr
  f_answered : FuncData
  a_all_answered : Addr
  f_all_answered : FuncData
  a_tree_of : Addr
  f_tree_of : FuncData
  a_tree_for_all : Addr
  f_tree_for_all : FuncData
  a_first_apart : Addr
  f_first_apart : FuncData
  a__law_tape : Addr
  f__law_tape : FuncData
  a__law_draw : Addr
  f__law_draw : FuncData
  a__law_names : Addr
  f__law_names : FuncData
  a__law_form : Addr
  f__law_form : FuncData
  a__law_whole : Addr
  f__law_whole : FuncData
  a__law_cases : Addr
  f__law_cases : FuncData
  a__law_side : Addr
  f__law_side : FuncData
  a__law_way : Addr
  f__law_way : FuncData
  a__law_part : Addr
  f__law_part : FuncData
  a__law_rule : Addr
  f__law_rule : FuncData
  a__law_fits : Addr
  f__law_fits : FuncData
  a__law_answer : Addr
  f__law_answer : FuncData
  a__law_knots : Addr
  f__law_knots : FuncData
  a__law_right : Addr
  f__law_right : FuncData
  a_law : Addr
  f_law : FuncData
  t_MOST_CASES : Tok
  t_MOST_CASES_BACK : Tok
structure Txt (K : PySem.W.Frag) (mg : Str → Option Value) (A : Adr) : Prop where
  m_side_of : mg "side_of" = some (.ref A.a_side_of)
  k_side_of : PySem.W.keepIn K (.ref A.a_side_of) = true
  F_side_of : Fun K "side_of" "side_of" (top 1) A.a_side_of A.f_side_of
  d_side_of : Binds K A.f_side_of ["form", "question", "stray", "case"] []
  m_field_asked : mg "field_asked" = some (.ref A.a_field_asked)
  k_field_asked : PySem.W.keepIn K (.ref A.a_field_asked) = true
  F_field_asked : Fun K "field_asked" "field_asked" (top 2) A.a_field_asked A.f_field_asked
  d_field_asked : Binds K A.f_field_asked ["form", "question"] []
  m_entries_to_yes : mg "entries_to_yes" = some (.ref A.a_entries_to_yes)
  k_entries_to_yes : PySem.W.keepIn K (.ref A.a_entries_to_yes) = true
  F_entries_to_yes : Fun K "entries_to_yes" "entries_to_yes" (top 3) A.a_entries_to_yes A.f_entries_to_yes
  d_entries_to_yes : Binds K A.f_entries_to_yes ["question", "stray", "field"] []
  m_values_held : mg "values_held" = some (.ref A.a_values_held)
  k_values_held : PySem.W.keepIn K (.ref A.a_values_held) = true
  F_values_held : Fun K "values_held" "values_held" (top 4) A.a_values_held A.f_values_held
  d_values_held : Binds K A.f_values_held ["question", "field"] []
  m_parted : mg "parted" = some (.ref A.a_parted)
  k_parted : PySem.W.keepIn K (.ref A.a_parted) = true
  F_parted : Fun K "parted" "parted" (top 5) A.a_parted A.f_parted
  d_parted : Binds K A.f_parted ["form", "question", "stray", "rows"] []
  m_numbers_on : mg "numbers_on" = some (.ref A.a_numbers_on)
  k_numbers_on : PySem.W.keepIn K (.ref A.a_numbers_on) = true
  F_numbers_on : Fun K "numbers_on" "numbers_on" (top 6) A.a_numbers_on A.f_numbers_on
  d_numbers_on : Binds K A.f_numbers_on ["side", "sides"] []
  m_rows_at : mg "rows_at" = some (.ref A.a_rows_at)
  k_rows_at : PySem.W.keepIn K (.ref A.a_rows_at) = true
  F_rows_at : Fun K "rows_at" "rows_at" (top 8) A.a_rows_at A.f_rows_at
  d_rows_at : Binds K A.f_rows_at ["rows", "numbers"] []
  m_many_cases : mg "many_cases" = some (.ref A.a_many_cases)
  k_many_cases : PySem.W.keepIn K (.ref A.a_many_cases) = true
  F_many_cases : Fun K "many_cases" "many_cases" (top 15) A.a_many_cases A.f_many_cases
  d_many_cases : Binds K A.f_many_cases ["form"] []
  m_all_cases : mg "all_cases" = some (.ref A.a_all_cases)
  k_all_cases : PySem.W.keepIn K (.ref A.a_all_cases) = true
  F_all_cases : Fun K "all_cases" "all_cases" (top 16) A.a_all_cases A.f_all_cases
  d_all_cases : Binds K A.f_all_cases ["form"] []
  m_entries_of : mg "entries_of" = some (.ref A.a_entries_of)
  k_entries_of : PySem.W.keepIn K (.ref A.a_entries_of) = true
  F_entries_of : Fun K "entries_of" "entries_of" (top 17) A.a_entries_of A.f_entries_of
  d_entries_of : Binds K A.f_entries_of ["field"] []
  m_longer_by : mg "longer_by" = some (.ref A.a_longer_by)
  k_longer_by : PySem.W.keepIn K (.ref A.a_longer_by) = true
  F_longer_by : Fun K "longer_by" "longer_by" (top 18) A.a_longer_by A.f_longer_by
  d_longer_by : Binds K A.f_longer_by ["beginnings", "entries"] []
  m_fits : mg "fits" = some (.ref A.a_fits)
  k_fits : PySem.W.keepIn K (.ref A.a_fits) = true
  F_fits : Fun K "fits" "fits" (top 20) A.a_fits A.f_fits
  d_fits : Binds K A.f_fits ["form", "rule", "case"] []
  m_answered : mg "answered" = some (.ref A.a_answered)
  k_answered : PySem.W.keepIn K (.ref A.a_answered) = true
  F_answered : Fun K "answered" "answered" (top 21) A.a_answered A.f_answered
  d_answered : Binds K A.f_answered ["form", "rules", "case"] []
  m_all_answered : mg "all_answered" = some (.ref A.a_all_answered)
  k_all_answered : PySem.W.keepIn K (.ref A.a_all_answered) = true
  F_all_answered : Fun K "all_answered" "all_answered" (top 22) A.a_all_answered A.f_all_answered
  d_all_answered : Binds K A.f_all_answered ["form", "rules", "most"] []
  m_tree_of : mg "tree_of" = some (.ref A.a_tree_of)
  k_tree_of : PySem.W.keepIn K (.ref A.a_tree_of) = true
  F_tree_of : Fun K "tree_of" "tree_of" (top 25) A.a_tree_of A.f_tree_of
  d_tree_of : Binds K A.f_tree_of ["form", "rules"] []
  m_tree_for_all : mg "tree_for_all" = some (.ref A.a_tree_for_all)
  k_tree_for_all : PySem.W.keepIn K (.ref A.a_tree_for_all) = true
  F_tree_for_all : Fun K "tree_for_all" "tree_for_all" (top 26) A.a_tree_for_all A.f_tree_for_all
  d_tree_for_all : Binds K A.f_tree_for_all ["form", "rows"] []
  m_first_apart : mg "first_apart" = some (.ref A.a_first_apart)
  k_first_apart : PySem.W.keepIn K (.ref A.a_first_apart) = true
  F_first_apart : Fun K "first_apart" "first_apart" (top 27) A.a_first_apart A.f_first_apart
  d_first_apart : Binds K A.f_first_apart ["form", "rows"] []
  m__law_tape : mg "_law_tape" = some (.ref A.a__law_tape)
  k__law_tape : PySem.W.keepIn K (.ref A.a__law_tape) = true
  F__law_tape : Fun K "_law_tape" "_law_tape" (top 29) A.a__law_tape A.f__law_tape
  d__law_tape : Binds K A.f__law_tape ["_law_script"] []
  m__law_draw : mg "_law_draw" = some (.ref A.a__law_draw)
  k__law_draw : PySem.W.keepIn K (.ref A.a__law_draw) = true
  F__law_draw : Fun K "_law_draw" "_law_draw" (top 30) A.a__law_draw A.f__law_draw
  d__law_draw : Binds K A.f__law_draw ["_law_tape_here", "_law_many"] []
  m__law_names : mg "_law_names" = some (.ref A.a__law_names)
  k__law_names : PySem.W.keepIn K (.ref A.a__law_names) = true
  F__law_names : Fun K "_law_names" "_law_names" (top 31) A.a__law_names A.f__law_names
  d__law_names : Binds K A.f__law_names ["_law_tape_here", "_law_many"] []
  m__law_form : mg "_law_form" = some (.ref A.a__law_form)
  k__law_form : PySem.W.keepIn K (.ref A.a__law_form) = true
  F__law_form : Fun K "_law_form" "_law_form" (top 32) A.a__law_form A.f__law_form
  d__law_form : Binds K A.f__law_form ["_law_tape_here", "_law_fields", "_law_values"] []
  m__law_whole : mg "_law_whole" = some (.ref A.a__law_whole)
  k__law_whole : PySem.W.keepIn K (.ref A.a__law_whole) = true
  F__law_whole : Fun K "_law_whole" "_law_whole" (top 33) A.a__law_whole A.f__law_whole
  d__law_whole : Binds K A.f__law_whole ["_law_form_here"] []
  m__law_cases : mg "_law_cases" = some (.ref A.a__law_cases)
  k__law_cases : PySem.W.keepIn K (.ref A.a__law_cases) = true
  F__law_cases : Fun K "_law_cases" "_law_cases" (top 34) A.a__law_cases A.f__law_cases
  d__law_cases : Binds K A.f__law_cases ["_law_form_here"] []
  m__law_side : mg "_law_side" = some (.ref A.a__law_side)
  k__law_side : PySem.W.keepIn K (.ref A.a__law_side) = true
  F__law_side : Fun K "_law_side" "_law_side" (top 35) A.a__law_side A.f__law_side
  d__law_side : Binds K A.f__law_side ["_law_form_here", "_law_knot", "_law_case"] []
  m__law_way : mg "_law_way" = some (.ref A.a__law_way)
  k__law_way : PySem.W.keepIn K (.ref A.a__law_way) = true
  F__law_way : Fun K "_law_way" "_law_way" (top 36) A.a__law_way A.f__law_way
  d__law_way : Binds K A.f__law_way ["_law_form_here", "_law_tree", "_law_case"] []
  m__law_part : mg "_law_part" = some (.ref A.a__law_part)
  k__law_part : PySem.W.keepIn K (.ref A.a__law_part) = true
  F__law_part : Fun K "_law_part" "_law_part" (top 37) A.a__law_part A.f__law_part
  d__law_part : Binds K A.f__law_part ["_law_tape_here", "_law_values"] []
  m__law_rule : mg "_law_rule" = some (.ref A.a__law_rule)
  k__law_rule : PySem.W.keepIn K (.ref A.a__law_rule) = true
  F__law_rule : Fun K "_law_rule" "_law_rule" (top 38) A.a__law_rule A.f__law_rule
  d__law_rule : Binds K A.f__law_rule ["_law_tape_here", "_law_form_here"] []
  m__law_fits : mg "_law_fits" = some (.ref A.a__law_fits)
  k__law_fits : PySem.W.keepIn K (.ref A.a__law_fits) = true
  F__law_fits : Fun K "_law_fits" "_law_fits" (top 39) A.a__law_fits A.f__law_fits
  d__law_fits : Binds K A.f__law_fits ["_law_rule_here", "_law_case"] []
  m__law_answer : mg "_law_answer" = some (.ref A.a__law_answer)
  k__law_answer : PySem.W.keepIn K (.ref A.a__law_answer) = true
  F__law_answer : Fun K "_law_answer" "_law_answer" (top 40) A.a__law_answer A.f__law_answer
  d__law_answer : Binds K A.f__law_answer ["_law_rules", "_law_case"] []
  m__law_knots : mg "_law_knots" = some (.ref A.a__law_knots)
  k__law_knots : PySem.W.keepIn K (.ref A.a__law_knots) = true
  F__law_knots : Fun K "_law_knots" "_law_knots" (top 41) A.a__law_knots A.f__law_knots
  d__law_knots : Binds K A.f__law_knots ["_law_form_here", "_law_tree", "_law_deep"] []
  m__law_right : mg "_law_right" = some (.ref A.a__law_right)
  k__law_right : PySem.W.keepIn K (.ref A.a__law_right) = true
  F__law_right : Fun K "_law_right" "_law_right" (top 42) A.a__law_right A.f__law_right
  d__law_right : Binds K A.f__law_right ["_law_form_here", "_law_rules", "_law_tree"] []
  m_law : mg "law" = some (.ref A.a_law)
  k_law : PySem.W.keepIn K (.ref A.a_law) = true
  F_law : Fun K "law" "law" (top 43) A.a_law A.f_law
  d_law : Binds K A.f_law ["_law_script"] []
  c_MOST_CASES : mg "MOST_CASES" = some (.int 2000 A.t_MOST_CASES)
  c_MOST_CASES_BACK : mg "MOST_CASES_BACK" = some (.int 500 A.t_MOST_CASES_BACK)
  b_ValueError : mg "ValueError" = none
  b_all : mg "all" = none
  b_enumerate : mg "enumerate" = none
  b_int : mg "int" = none
  b_isinstance : mg "isinstance" = none
  b_len : mg "len" = none
  b_list : mg "list" = none
  b_range : mg "range" = none
  b_set : mg "set" = none
  b_str : mg "str" = none
  b_tuple : mg "tuple" = none
  b_zip : mg "zip" = none
def letters : Str := "abcdefghijklmnopqrstuvwxyz"
def sgn (c : Nat) : Bool := Txt.contains letters ⟨#[c]⟩
def nmS (z : Str) : Bool := decide (1 ≤ z.length) && decide (z.length ≤ 8) && z.cps.toList.all sgn
def nm : D → Bool
  | .str z => nmS z
  | _ => false
def txt : D → Str
  | .str z => z
  | _ => ""
def nms (d : D) (lo hi : Int) : Bool := match d with | .tuple ts => decide (lo ≤ ts.length) && decide ((ts.length : Int) ≤ hi) && ts.all nm && decide ((ts.map txt).Nodup) | _ => false
def fld : D → Bool
  | .tuple [n, vs] => nm n && nms vs 2 5
  | _ => false
def fst : D → D
  | .tuple (n :: _) => n
  | _ => .none
def flds : D → Bool
  | .tuple ts => decide (1 ≤ ts.length) && decide (ts.length ≤ 5) && ts.all fld && decide ((ts.map fun t => txt (fst t)).Nodup)
  | _ => false
def Bits (n : Nat) (bs : List Int) : Prop := bs.length = n ∧ ∀ b ∈ bs, 0 ≤ b ∧ b < 4096
def Nms (n : Nat) (ys : List Str) : Prop := ys.length = n ∧ (∀ y ∈ ys, nmS y = true) ∧ ys.Nodup
def fldD (f : Str × List Str) : D := .tuple [.str f.1, .tuple (f.2.map PyData.str)]
def frmD (fs : List (Str × List Str)) (an : List Str) : D := .tuple [.tuple (fs.map fldD), .tuple (an.map PyData.str)]
structure Form (fs : List (Str × List Str)) (an : List Str) : Prop where
  n1 : 1 ≤ fs.length
  n5 : fs.length ≤ 5
  nd : Nms fs.length (fs.map (·.1))
  vs : ∀ f ∈ fs, 2 ≤ f.2.length ∧ f.2.length ≤ 5 ∧ Nms f.2.length f.2
  a2 : 2 ≤ an.length
  a4 : an.length ≤ 4
  an : Nms an.length an
def sp__law_tape : SpF := fun ds Q => ∃ ns : List Int, ds = [.list (ns.map PyData.int)] ∧ ns.length ≤ 63 ∧ ∀ c : Int, (c = 0 ∨ c = 1) → Q [.list (ns.map PyData.int), .int 0, .int 0, .int c]
def sp__law_draw : SpT := fun ds Q => ∃ (ns : List Int) (m : Int), ds = [tapeD ns, .int m] ∧ ns.length ≤ 63 ∧ 0 < m ∧ m ≤ 10000 ∧ ∀ r : Int, 0 ≤ r → r < m → Q (.int r)
def sp__law_names : SpT := fun ds Q => ∃ (ns : List Int) (m : Nat), ds = [tapeD ns, .int m] ∧ ns.length ≤ 63 ∧ 1 ≤ m ∧ m ≤ 5 ∧ ∀ ys, Nms m ys → Q (.list (ys.map PyData.str))
def sp__law_form : SpT := fun ds Q => ∃ (ns : List Int) (f v : Nat), ds = [tapeD ns, .int f, .int v] ∧ ns.length ≤ 63 ∧ 1 ≤ f ∧ f ≤ 5 ∧ 2 ≤ v ∧ v ≤ 5 ∧ ∀ fs an, Form fs an → fs.length ≤ f → (∀ x ∈ fs, x.2.length ≤ v) → Q (frmD fs an)
theorem atI_in {α : Type} {xs : List α} {i : Int} (h0 : 0 ≤ i) (h1 : i < xs.length) : ∃ a, a ∈ xs ∧ L2.atI xs i = some a ∧ xs[i.toNat]? = some a := by
  have hi : i.toNat < xs.length := by omega
  refine ⟨xs[i.toNat], List.getElem_mem hi, ?_, List.getElem?_eq_getElem hi⟩
  have := L2.atI_nat (xs := xs) (j := i.toNat) (v := xs[i.toNat]) (List.getElem?_eq_getElem hi)
  rwa [show ((i.toNat : Nat) : Int) = i by omega] at this
theorem intsTo_len (n : Nat) : (intsTo n).length = n := by unfold intsTo; simp
theorem intsTo_get {n k : Nat} {x : D} (h : (intsTo n)[k]? = some x) : k < n ∧ x = .int k := by
  unfold intsTo at h
  rw [List.getElem?_map] at h
  by_cases hk : k < n
  · rw [List.getElem?_range hk] at h
    cases h
    exact ⟨hk, rfl⟩
  · rw [List.getElem?_eq_none (by simpa using hk)] at h
    cases h
theorem cut_ns {α : Type} (xs : List α) (j : Nat) : cutD xs none (some (j : Int)) = xs.take j := by
  unfold cutD
  rw [HT.sIx_none, HT.sIx_nat, List.drop_zero, Nat.sub_zero]
  by_cases h : j ≤ xs.length
  · rw [Nat.min_eq_left h]
  · rw [Nat.min_eq_right (by omega), List.take_length, List.take_of_length_le (by omega)]
theorem cut_sn {α : Type} (xs : List α) (i : Nat) : cutD xs (some (i : Int)) none = xs.drop i := by
  unfold cutD
  rw [HT.sIx_none, HT.sIx_nat]
  by_cases h : i ≤ xs.length
  · rw [Nat.min_eq_left h, List.take_of_length_le (by rw [List.length_drop]; omega)]
  · rw [Nat.min_eq_right (by omega), List.drop_eq_nil_of_le (Nat.le_refl _), List.drop_eq_nil_of_le (by omega)]
    simp
theorem cut_ss {α : Type} (xs : List α) (i j : Nat) : cutD xs (some (i : Int)) (some (j : Int)) = (xs.drop i).take (j - i) := by
  unfold cutD
  rw [HT.sIx_nat, HT.sIx_nat]
  apply List.ext_getElem?
  intro k
  rw [List.getElem?_take, List.getElem?_take, List.getElem?_drop, List.getElem?_drop]
  by_cases hi : i ≤ xs.length
  · rw [Nat.min_eq_left hi]
    by_cases hj : j ≤ xs.length
    · rw [Nat.min_eq_left hj]
    · rw [Nat.min_eq_right (by omega)]
      by_cases h1 : k < xs.length - i
      · rw [if_pos h1, if_pos (by omega)]
      · rw [if_neg h1]
        by_cases h2 : k < j - i
        · rw [if_pos h2, List.getElem?_eq_none (by omega)]
        · rw [if_neg h2]
  · rw [if_neg (by omega)]
    by_cases h2 : k < j - i
    · rw [if_pos h2, List.getElem?_eq_none (by omega)]
    · rw [if_neg h2]
theorem cut_map {α β : Type} (f : α → β) (xs : List α) (lo hi : Option Int) : cutD (xs.map f) lo hi = (cutD xs lo hi).map f := by
  unfold cutD
  rw [List.length_map, List.map_take, List.map_drop]
theorem nmS_of {z : Str} (h1 : 1 ≤ z.cps.toList.length) (h2 : z.cps.toList.length ≤ 8) (h3 : ∀ c ∈ z.cps.toList, c ∈ letters.cps.toList) : nmS z = true := by
  have e : z.length = z.cps.toList.length := by simp [Str.length]
  unfold nmS
  rw [e, decide_eq_true h1, decide_eq_true h2]
  simp only [Bool.true_and, List.all_eq_true]
  intro c hc
  unfold sgn
  rw [in_one]
  exact decide_eq_true (h3 c hc)
theorem nmS_iff {z : Str} (h : nmS z = true) : 1 ≤ z.length ∧ z.length ≤ 8 ∧ ∀ c ∈ z.cps.toList, c ∈ letters.cps.toList := by
  unfold nmS at h
  simp only [Bool.and_eq_true, decide_eq_true_eq, List.all_eq_true] at h
  refine ⟨h.1.1, h.1.2, fun c hc => ?_⟩
  have := h.2 c hc
  unfold sgn at this
  rw [in_one] at this
  exact of_decide_eq_true this
theorem nodup_range {α : Type} {n : Nat} (F : Nat → α) (inj : ∀ i j, i < n → j < n → F i = F j → i = j) : ((List.range n).map F).Nodup := by
  rw [List.Nodup, List.pairwise_map]
  have : (List.range n).Nodup := List.nodup_range
  refine List.Pairwise.imp_of_mem (fun {a b} ha hb hab e => ?_) this
  exact hab (inj a b (by simpa using ha) (by simpa using hb) e)
theorem letters_nd : letters.cps.toList.Nodup := by decide +kernel
theorem letters_len : letters.cps.toList.length = 26 := by decide +kernel
theorem nth_inj {xs : List Nat} (nd : xs.Nodup) {i j : Nat} {c : Nat} (h1 : xs[i]? = some c) (h2 : xs[j]? = some c) : i = j := by
  obtain ⟨a1, a2⟩ := List.getElem?_eq_some_iff.mp h1
  obtain ⟨b1, b2⟩ := List.getElem?_eq_some_iff.mp h2
  exact (List.getElem_inj nd).mp (a2.trans b2.symm)
theorem signs_of : ∀ {ys : List D}, (∀ y ∈ ys, ∃ c, c ∈ letters.cps.toList ∧ y = .str ⟨#[c]⟩) → ∃ cs : List Nat, ys = cs.map (fun c => PyData.str ⟨#[c]⟩) ∧ ∀ c ∈ cs, c ∈ letters.cps.toList
  | [], _ => ⟨[], rfl, fun c h => by simp at h⟩
  | y :: ys, h => by
    obtain ⟨c, hc, rfl⟩ := h y (List.mem_cons_self ..)
    obtain ⟨cs, rfl, h2⟩ := signs_of (ys := ys) fun y hy => h y (List.mem_cons_of_mem _ hy)
    refine ⟨c :: cs, rfl, fun d hd => ?_⟩
    rcases List.mem_cons.mp hd with rfl | hd
    · exact hc
    · exact h2 d hd
theorem join_signs (cs : List Nat) : (Txt.join ⟨#[]⟩ (cs.map fun c => ⟨#[c]⟩)).cps.toList = cs := by
  rw [join_codes, List.map_map]
  induction cs with
  | nil => rfl
  | cons c cs ih => rw [List.map_cons, List.flatten_cons, ih]; rfl
theorem atI_strs {ys : List Str} {k : Nat} (h : k < ys.length) : L2.atI (ys.map PyData.str) (k : Int) = some (.str ys[k]) := L2.atI_nat (by rw [List.getElem?_map, List.getElem?_eq_getElem h]; rfl)
theorem seq_tapePut1 {te : ET} {u : STt} {DT : EndsT} {σ : List Sl} {i : Nat} (ns : List Int) (hσ : σ[i]? = some (.val (tapeD ns))) (a : Int) (h : ∀ q : D → Prop, q (.int a) → te σ q) (ha : 0 ≤ a) (k : u DT σ) : sSeq (sTapePut i 1 te) u DT σ := h _ ⟨⟨ns, hσ⟩, ⟨a, rfl, ha⟩, k⟩
theorem seq_tapePut2 {te : ET} {u : STt} {DT : EndsT} {σ : List Sl} {i : Nat} (ns : List Int) (hσ : σ[i]? = some (.val (tapeD ns))) (a : Int) (h : ∀ q : D → Prop, q (.int a) → te σ q) (k : u DT σ) : sSeq (sTapePut i 2 te) u DT σ := h _ ⟨⟨ns, hσ⟩, ⟨a, rfl⟩, k⟩
theorem one_tapePut2 {te : ET} {DT : EndsT} {σ : List Sl} {i : Nat} (ns : List Int) (hσ : σ[i]? = some (.val (tapeD ns))) (a : Int) (h : ∀ q : D → Prop, q (.int a) → te σ q) (k : DT.nx σ) : sTapePut i 2 te DT σ := h _ ⟨⟨ns, hσ⟩, ⟨a, rfl⟩, k⟩
theorem seq_ifsetC {c : TTt} {te : ET} {u : STt} {DT : EndsT} {σ : List Sl} {i : Nat} (C : Prop) (R : D → Prop) (h : ∀ q : Bool → Prop, (∀ b, (b = true → C) → q b) → c σ q) (h1 : C → ∀ q : D → Prop, (∀ d, R d → q d) → te σ q) (d0 : D) (h0 : σ[i]? = some (.val d0)) (r0 : R d0) (k : ∀ d, R d → u DT (σ.set i (.val d))) : sSeq (sIf c (sSet i te) sNext) u DT σ := by
  refine h _ fun b hb => ?_
  cases b with
  | true =>
    rw [if_pos rfl]
    exact h1 (hb rfl) _ k
  | false =>
    rw [if_neg (by decide)]
    have e : σ.set i (.val d0) = σ := by
      apply List.ext_getElem?
      intro j
      by_cases hj : i = j
      · subst hj
        rw [List.getElem?_set_self (List.getElem?_eq_some_iff.mp h0).1, h0]
      · rw [List.getElem?_set_ne hj]
    have := k d0 r0
    rw [e] at this
    exact this
theorem nms_rangeN {n : Nat} (F : Nat → Str) (h : ∀ i, i < n → nmS (F i) = true) (inj : ∀ i j, i < n → j < n → F i = F j → i = j) : Nms n ((List.range n).map F) :=
  ⟨by simp, fun y hy => by
    obtain ⟨i, hi, rfl⟩ := List.mem_map.mp hy
    exact h i (by simpa using hi), nodup_range F inj⟩
theorem nms_turnN {n : Nat} {ys : List Str} (h : Nms n ys) (t : Nat) {m : Nat} (hm : m ≤ n) : Nms m ((ys.drop t ++ ys.take t).take m) := by
  have hp : (ys.drop t ++ ys.take t).Perm ys := by
    have : (ys.take t ++ ys.drop t).Perm ys := by rw [List.take_append_drop]
    exact List.perm_append_comm.trans this
  refine ⟨?_, fun y hy => h.2.1 y (hp.mem_iff.mp (List.mem_of_mem_take hy)), (hp.nodup_iff.mpr h.2.2).sublist (List.take_sublist _ _)⟩
  rw [List.length_take, hp.length_eq, h.1]
  omega
theorem nms_turnW {n : Nat} {ys : List Str} (h : Nms n ys) (t : Nat) : Nms n (ys.drop t ++ ys.take t) := by
  have e := nms_turnN h t (Nat.le_refl n)
  rwa [List.take_of_length_le] at e
  rw [List.length_append, List.length_drop, List.length_take, h.1]
  omega
theorem nms_takeN {n : Nat} {ys : List Str} (h : Nms n ys) {m : Nat} (hm : m ≤ n) : Nms m (ys.take m) := ⟨by rw [List.length_take, h.1]; omega, fun y hy => h.2.1 y (List.mem_of_mem_take hy), h.2.2.sublist (List.take_sublist _ _)⟩
def names12 : List Str := ["say", "ask", "is", "upto", "yes", "no", "all", "in", "and", "put", "out", "tree"]
theorem nms12 : Nms 12 names12 := ⟨rfl, by decide +kernel, by decide +kernel⟩
theorem atI_modI {ns : List Int} (h : 0 < ns.length) (i : Int) : ∃ x : Int, L2.atI (ns.map PyData.int) (i % ((ns.map PyData.int).length : Nat)) = some (.int x) := by
  rw [List.length_map]
  obtain ⟨a, hm, ha, _⟩ := atI_in (xs := ns.map PyData.int) (i := i % (ns.length : Nat)) (Int.emod_nonneg _ (by omega)) (by rw [List.length_map]; exact Int.emod_lt_of_pos _ (by omega))
  obtain ⟨b, hb, rfl⟩ := List.mem_map.mp hm
  exact ⟨b, ha⟩
@[irreducible] def cAt (i : Nat) : Nat := letters.cps.toList.getD i 0
theorem cAt_get {i : Nat} (h : i < 26) : letters.cps.toList[i]? = some (cAt i) := by
  have hl : i < letters.cps.toList.length := by rw [letters_len]; exact h
  unfold cAt
  rw [List.getD_eq_getElem?_getD, List.getElem?_eq_getElem hl]; rfl

theorem cAt_mem {i : Nat} (h : i < 26) : cAt i ∈ letters.cps.toList := List.mem_of_getElem? (cAt_get h)
def wordAt (z : Str) (t k c : Nat) : Str := Txt.slice z none (some (t : Int)) ++ ⟨#[c]⟩ ++ Txt.slice z (some ((t : Int) + 1)) (some (k : Int))
theorem wordAt_codes (z : Str) (t k c : Nat) : (wordAt z t k c).cps.toList = z.cps.toList.take t ++ (c :: (z.cps.toList.drop (t + 1)).take (k - (t + 1))) := by
  unfold wordAt
  rw [app_codes, app_codes, slice_codes, slice_codes]
  have e2 : (t : Int) + 1 = ((t + 1 : Nat) : Int) := by omega
  rw [e2, cut_ss, cut_ns]
  simp
theorem nms_base {z : Str} (hz8 : z.cps.toList.length = 8) (hzl : ∀ c ∈ z.cps.toList, c ∈ letters.cps.toList) {k m : Nat} (hk : 1 ≤ k) (hkm : k + m ≤ 9) : Nms m ((List.range m).map fun j : Nat => Txt.slice z none (some ((k : Int) + (j : Int)))) := by
  have e : ∀ j : Nat, (Txt.slice z none (some ((k : Int) + (j : Int)))).cps.toList = z.cps.toList.take (k + j) := fun j => by
    rw [slice_codes]; exact cut_ns _ (k + j)
  refine nms_rangeN _ (fun i hi => ?_) fun i j hi hj h => ?_
  · refine nmS_of ?_ ?_ fun c hc => ?_
    · rw [e, List.length_take]; omega
    · rw [e, List.length_take]; omega
    · rw [e] at hc; exact hzl c (List.mem_of_mem_take hc)
  · have e1 := e i
    rw [h, e j] at e1
    have := congrArg List.length e1
    rw [List.length_take, List.length_take] at this
    omega
theorem nms_words {z : Str} (hz8 : z.cps.toList.length = 8) (hzl : ∀ c ∈ z.cps.toList, c ∈ letters.cps.toList) {k t s m : Nat} (hk : k ≤ 8) (ht : t < k) (hm : m ≤ 26) : Nms m ((List.range m).map fun j : Nat => wordAt z t k (cAt ((s + j) % 26))) := by
  refine nms_rangeN _ (fun i hi => ?_) fun i j hi hj h => ?_
  · have e := wordAt_codes z t k (cAt ((s + i) % 26))
    refine nmS_of ?_ ?_ fun c hc => ?_
    · rw [e, List.length_append, List.length_cons]; omega
    · rw [e, List.length_append, List.length_cons, List.length_take, List.length_take, List.length_drop]; omega
    · rw [e] at hc
      rcases List.mem_append.mp hc with hc | hc
      · exact hzl c (List.mem_of_mem_take hc)
      · rcases List.mem_cons.mp hc with rfl | hc
        · exact cAt_mem (Nat.mod_lt _ (by decide))
        · exact hzl c (List.mem_of_mem_drop (List.mem_of_mem_take hc))
  · have e1 := wordAt_codes z t k (cAt ((s + i) % 26))
    have h' : wordAt z t k (cAt ((s + i) % 26)) = wordAt z t k (cAt ((s + j) % 26)) := h
    rw [h', wordAt_codes] at e1
    have e2 := List.append_cancel_left e1
    have e3 : cAt ((s + j) % 26) = cAt ((s + i) % 26) := (List.cons.inj e2).1
    have l1 := cAt_get (i := (s + i) % 26) (Nat.mod_lt _ (by decide))
    have l2 := cAt_get (i := (s + j) % 26) (Nat.mod_lt _ (by decide))
    rw [e3] at l2
    have := nth_inj letters_nd l1 l2
    omega
theorem wordAt_len (z : Str) (hz8 : z.cps.toList.length = 8) (t k c : Nat) : (Txt.slice z none (some (t : Int))).length + 1 ≤ 100000 ∧ (Txt.slice z none (some (t : Int)) ++ (⟨#[c]⟩ : Str)).length + (Txt.slice z (some ((t : Int) + 1)) (some (k : Int))).length ≤ 100000 := by
  have a1 := Txt.slice_le z none (some (t : Int))
  have a2 := Txt.slice_le z (some ((t : Int) + 1)) (some (k : Int))
  have a3 : z.length = z.cps.toList.length := by simp [Str.length]
  have a4 : (Txt.slice z none (some (t : Int)) ++ (⟨#[c]⟩ : Str)).length = (Txt.slice z none (some (t : Int))).length + 1 := by
    show ((Txt.slice z none (some (t : Int))).cps ++ #[_]).size = _
    rw [Array.size_append]; rfl
  rw [a4]
  omega
def okV (f : Str × List Str) (d : D) : Bool := match d with | .none => true | .str z => decide (z ∈ f.2) | _ => false
def isAns (an : List Str) (d : D) : Bool := match d with | .str z => decide (z ∈ an) | _ => false
structure Cd (d : D) : Prop where
  lay : d.canLay0 = true
  dep : d.depth ≤ 60
structure Th (n m : Nat) (d : D) : Prop where
  bulk : d.bulk ≤ n
  fit : d.leavesShort 110 = true
  shw : d.showable = true
  nodict : d.hasDict = false
  depth : d.depth ≤ m
  lay : d.canLay0 = true
theorem Th.mono {n n' m m' : Nat} {d : D} (h : Th n m d) (hn : n ≤ n') (hm : m ≤ m') : Th n' m' d := ⟨Nat.le_trans h.bulk hn, h.fit, h.shw, h.nodict, Nat.le_trans h.depth hm, h.lay⟩
theorem th_all {n m : Nat} : ∀ {ts : List D}, (∀ t ∈ ts, Th n m t) → PyData.bulkAll ts ≤ ts.length * (n + 1) ∧ PyData.leavesShortAll 110 ts = true ∧ PyData.showableAll ts = true ∧ PyData.hasDictAll ts = false ∧ PyData.depthAll ts ≤ m ∧ PyData.canLayAll0 ts = true
  | [], _ => ⟨Nat.zero_le _, rfl, rfl, rfl, Nat.zero_le _, rfl⟩
  | t :: ts, h => by
    have a := h t (List.mem_cons_self ..)
    obtain ⟨b1, b2, b3, b4, b5, b6⟩ := th_all (ts := ts) fun x hx => h x (List.mem_cons_of_mem _ hx)
    refine ⟨?_, ?_, ?_, ?_, ?_, ?_⟩
    · show t.bulk + 1 + PyData.bulkAll ts ≤ (ts.length + 1) * (n + 1)
      have := a.bulk
      rw [Nat.add_mul, Nat.one_mul]
      omega
    · show (t.leavesShort 110 && PyData.leavesShortAll 110 ts) = true
      rw [a.fit, b2]; rfl
    · show (t.showable && PyData.showableAll ts) = true
      rw [a.shw, b3]; rfl
    · show (t.hasDict || PyData.hasDictAll ts) = false
      rw [a.nodict, b4]; rfl
    · show max t.depth (PyData.depthAll ts) ≤ m
      exact Nat.max_le.mpr ⟨a.depth, b5⟩
    · show (t.canLay0 && PyData.canLayAll0 ts) = true
      rw [a.lay, b6]; rfl
theorem th_tup (n m k : Nat) {N M : Nat} {ts : List D} (h : ∀ t ∈ ts, Th n m t) (hl : ts.length ≤ k) (hN : k * (n + 1) ≤ N) (hM : m + 1 ≤ M) : Th N M (.tuple ts) := by
  obtain ⟨b1, b2, b3, b4, b5, b6⟩ := th_all h
  have : ts.length * (n + 1) ≤ k * (n + 1) := Nat.mul_le_mul_right _ hl
  exact ⟨by show PyData.bulkAll ts ≤ N; omega, b2, b3, b4, by show PyData.depthAll ts + 1 ≤ M; omega, b6⟩
theorem th_lst (n m k : Nat) {N M : Nat} {ts : List D} (h : ∀ t ∈ ts, Th n m t) (hl : ts.length ≤ k) (hN : k * (n + 1) ≤ N) (hM : m + 1 ≤ M) : Th N M (.list ts) := by
  obtain ⟨b1, b2, b3, b4, b5, b6⟩ := th_all h
  have : ts.length * (n + 1) ≤ k * (n + 1) := Nat.mul_le_mul_right _ hl
  exact ⟨by show PyData.bulkAll ts ≤ N; omega, b2, b3, b4, by show PyData.depthAll ts + 1 ≤ M; omega, b6⟩
theorem th_none {n m : Nat} : Th n m .none := ⟨Nat.zero_le _, rfl, rfl, rfl, Nat.zero_le _, rfl⟩
theorem strOk_small {z : Str} (hc : ∀ c ∈ z.cps.toList, c < 1000) : PyData.strOk z = true := by
  unfold PyData.strOk
  rw [← Array.all_toList, List.all_eq_true]
  intro c h1
  have := hc c h1
  exact decide_eq_true (by omega)
theorem th_str {n m : Nat} {z : Str} (h : z.length ≤ n) (hc : ∀ c ∈ z.cps.toList, c < 1000) : Th n m (.str z) := by
  refine ⟨h, ?_, rfl, rfl, Nat.zero_le _, strOk_small hc⟩
  show (z.cps.toList.all fun c => decide (c < 16 ^ 8)) = true
  rw [List.all_eq_true]
  intro c h1
  have := hc c h1
  exact decide_eq_true (by omega)
theorem let_small {c : Nat} (h : c ∈ letters.cps.toList) : c < 128 := by
  have : ∀ c ∈ letters.cps.toList, c < 128 := by decide +kernel
  exact this c h
theorem nm_small {y : Str} (h : nmS y = true) : y.length ≤ 8 ∧ ∀ c ∈ y.cps.toList, c < 128 := ⟨(nmS_iff h).2.1, fun c hc => let_small ((nmS_iff h).2.2 c hc)⟩
theorem th_name {y : Str} (h : nmS y = true) {n m : Nat} (hn : 8 ≤ n) : Th n m (.str y) := th_str (Nat.le_trans (nm_small h).1 hn) fun c hc => by have := (nm_small h).2 c hc; omega
theorem th_strs {ys : List Str} (h : ∀ y ∈ ys, nmS y = true) {n m : Nat} (hn : 8 ≤ n) : ∀ t ∈ ys.map PyData.str, Th n m t := fun t ht => by
  obtain ⟨y, hy, rfl⟩ := List.mem_map.mp ht
  exact th_name (h y hy) hn
theorem th_names {ys : List Str} (h : ∀ y ∈ ys, nmS y = true) (hl : ys.length ≤ 8) : Th 72 1 (.tuple (ys.map PyData.str)) := th_tup 8 0 8 (th_strs h (Nat.le_refl _)) (by rw [List.length_map]; exact hl) (by decide) (by decide)
theorem all_nil {n m : Nat} : ∀ t ∈ ([] : List D), Th n m t := fun t h => by simp at h
theorem all_cons {n m : Nat} {a : D} {ts : List D} (h : Th n m a) (hs : ∀ t ∈ ts, Th n m t) : ∀ t ∈ a :: ts, Th n m t := fun t ht => by
  rcases List.mem_cons.mp ht with rfl | ht
  · exact h
  · exact hs t ht
theorem all_app {n m : Nat} {as bs : List D} (h : ∀ t ∈ as, Th n m t) (hs : ∀ t ∈ bs, Th n m t) : ∀ t ∈ as ++ bs, Th n m t := fun t ht => (List.mem_append.mp ht).elim (h t) (hs t)
theorem Th.cd {n m : Nat} {d : D} (h : Th n m d) (hm : m ≤ 60) : Cd d := ⟨h.lay, Nat.le_trans h.depth hm⟩
theorem lay_mem : ∀ {ts : List D} {t : D}, PyData.canLayAll0 ts = true → t ∈ ts → t.canLay0 = true
  | a :: r, t, h, hm => by
    have h' : (a.canLay0 && PyData.canLayAll0 r) = true := h
    rw [Bool.and_eq_true] at h'
    rcases List.mem_cons.mp hm with rfl | hm
    · exact h'.1
    · exact lay_mem h'.2 hm
theorem depth_mem : ∀ {ts : List D} {t : D}, t ∈ ts → t.depth ≤ PyData.depthAll ts
  | a :: r, t, hm => by
    show t.depth ≤ max a.depth (PyData.depthAll r)
    rcases List.mem_cons.mp hm with rfl | hm
    · exact Nat.le_max_left _ _
    · exact Nat.le_trans (depth_mem hm) (Nat.le_max_right _ _)
theorem Cd.item {ts : List D} {t : D} (h : Cd (.tuple ts)) (ht : t ∈ ts) : Cd t := ⟨lay_mem h.lay ht, by
  have h1 : PyData.depthAll ts + 1 ≤ 60 := h.dep
  have := depth_mem ht
  omega⟩
section
variable {fs : List (Str × List Str)} {an : List Str}
theorem Form.name (F : Form fs an) {f : Str × List Str} (h : f ∈ fs) : nmS f.1 = true := F.nd.2.1 _ (List.mem_map.mpr ⟨f, h, rfl⟩)
theorem Form.vals (F : Form fs an) {f : Str × List Str} (h : f ∈ fs) : ∀ y ∈ f.2, nmS y = true := (F.vs f h).2.2.2.1
theorem Form.fld (F : Form fs an) {f : Str × List Str} (h : f ∈ fs) : Th 146 2 (fldD f) := th_tup 72 1 2 (all_cons (th_name (F.name h) (by decide)) (all_cons (th_names (F.vals h) (by have := (F.vs f h).2.1; omega)) all_nil)) (Nat.le_of_ble_eq_true rfl) (by decide) (by decide)
theorem Form.flds (F : Form fs an) : Th 735 3 (.tuple (fs.map fldD)) := th_tup 146 2 5 (fun t ht => by
  obtain ⟨f, hf, rfl⟩ := List.mem_map.mp ht
  exact F.fld hf) (by rw [List.length_map]; exact F.n5) (by decide) (by decide)
theorem Form.ans (F : Form fs an) : Th 72 1 (.tuple (an.map PyData.str)) := th_names F.an.2.1 (by have := F.a4; omega)
theorem Form.form (F : Form fs an) : Th 1472 4 (frmD fs an) := th_tup 735 3 2 (all_cons F.flds (all_cons (F.ans.mono (by decide) (by decide)) all_nil)) (Nat.le_of_ble_eq_true rfl) (by decide) (by decide)
end
theorem fIn2_tup {x : D} {ts : List D} {Q : D → Prop} (h1 : okIn x (.tuple ts)) (h2 : Q (.bool (inD x (.tuple ts)))) : fIn2 x (.tuple ts) Q := by
  cases x <;> exact ⟨h1, h2⟩
theorem fIn2_lst {x : D} {ts : List D} {Q : D → Prop} (h1 : okIn x (.list ts)) (h2 : Q (.bool (inD x (.list ts)))) : fIn2 x (.list ts) Q := by
  cases x <;> exact ⟨h1, h2⟩
theorem any_strs (d : D) (ys : List Str) : ((ys.map PyData.str).any fun z => PyData.eqv z d) = isAns ys d := by
  induction ys with
  | nil => cases d <;> rfl
  | cons y ys ih =>
    rw [List.map_cons, List.any_cons, ih]
    cases d with
    | str z =>
      show ((y == z) || decide (z ∈ ys)) = decide (z ∈ y :: ys)
      rw [Bool.eq_iff_iff]
      simp only [Bool.or_eq_true, beq_iff_eq, decide_eq_true_eq, List.mem_cons]
      exact ⟨fun h => h.imp Eq.symm id, fun h => h.imp Eq.symm id⟩
    | _ => rfl
theorem ok_strs {ys : List Str} (h : ∀ y ∈ ys, nmS y = true) {d : D} (hd : Cd d) : okIn d (.tuple (ys.map PyData.str)) := by
  obtain ⟨_, _, _, _, b5, b6⟩ := th_all (th_strs h (Nat.le_refl 8) (m := 0))
  exact ⟨b6, hd.lay, by have := hd.dep; omega⟩
theorem ok_entries {ys : List Str} (h : ∀ y ∈ ys, nmS y = true) {d : D} (hd : Cd d) : okIn d (.tuple (ys.map PyData.str ++ [.none])) := by
  obtain ⟨_, _, _, _, b5, b6⟩ := th_all (all_app (th_strs h (Nat.le_refl 8) (m := 0)) (all_cons th_none all_nil))
  exact ⟨b6, hd.lay, by have := hd.dep; omega⟩
theorem idx_min : ∀ {ys : List Str} {z : Str} {m : Nat}, m < ys.idxOf z → ys[m]? ≠ some z
  | [], z, m, h => by simp at h
  | y :: ys, z, m, h => by
    rw [List.idxOf_cons] at h
    by_cases e : y = z
    · subst e
      simp at h
    · have e' : (y == z) = false := by simpa using e
      rw [e'] at h
      simp only [cond_false] at h
      cases m with
      | zero => simpa using e
      | succ m =>
        rw [List.getElem?_cons_succ]
        exact idx_min (by omega)
theorem Bits.drop {n : Nat} {bs : List Int} (h : Bits n bs) (k : Nat) : Bits (n - k) (bs.drop k) := ⟨by rw [List.length_drop, h.1], fun b hb => h.2 b (List.mem_of_mem_drop hb)⟩
def isCase (fs : List (Str × List Str)) (d : D) : Bool := match d with | .tuple ts => decide (ts.length = fs.length) && (fs.zip ts).all (fun p => okV p.1 p.2) | _ => false
section
variable {fs : List (Str × List Str)} {an : List Str}
theorem case_get {cs : List D} (h : isCase fs (.tuple cs) = true) : cs.length = fs.length ∧ ∀ (k : Nat) f c, fs[k]? = some f → cs[k]? = some c → okV f c = true := by
  unfold isCase at h
  simp only [Bool.and_eq_true, decide_eq_true_eq, List.all_eq_true] at h
  refine ⟨h.1, fun k f c h1 h2 => ?_⟩
  exact h.2 (f, c) (List.mem_of_getElem? ((List.getElem?_zip_eq_some (z := (f, c))).mpr ⟨h1, h2⟩))
theorem case_of {cs : List D} (hl : cs.length = fs.length) (h : ∀ (k : Nat) f c, fs[k]? = some f → cs[k]? = some c → okV f c = true) : isCase fs (.tuple cs) = true := by
  unfold isCase
  simp only [Bool.and_eq_true, decide_eq_true_eq, List.all_eq_true]
  refine ⟨hl, fun p hp => ?_⟩
  obtain ⟨k, hk⟩ := List.getElem?_of_mem hp
  obtain ⟨h1, h2⟩ := List.getElem?_zip_eq_some.mp hk
  exact h k p.1 p.2 h1 h2
theorem case_items (F : Form fs an) {cs : List D} (h : isCase fs (.tuple cs) = true) {n m : Nat} (hn : 8 ≤ n) : ∀ c ∈ cs, Th n m c := fun c hc => by
  obtain ⟨hl, hv⟩ := case_get h
  obtain ⟨k, hk⟩ := List.getElem?_of_mem hc
  have hk' : k < fs.length := by rw [← hl]; exact (List.getElem?_eq_some_iff.mp hk).1
  have := hv k fs[k] c (List.getElem?_eq_getElem hk') hk
  cases c with
  | none => exact th_none
  | str z => exact th_name (F.vals (List.getElem_mem hk') z (of_decide_eq_true this)) hn
  | _ => cases this
end
def rowD (r : List D × Str) : D := .tuple [.tuple r.1, .str r.2]
def qOk (f : Str × List Str) (k v : D) : Bool := match k, v with
  | .str kk, .str z => decide (z ∈ f.2) && (decide (kk = "is") || (decide (kk = "upto") && decide (f.2.idxOf z + 1 < f.2.length)))
  | _, _ => false
def isN (n : D) (f : Str × List Str) : Bool := match n with | .str z => decide (f.1 = z) | _ => false
def isQ (fs : List (Str × List Str)) (d : D) : Bool := match d with
  | .tuple [k, n, v] => fs.any fun f => isN n f && qOk f k v
  | _ => false
def mkQ (k : Str) (f : Str × List Str) (z : Str) : D := .tuple [.str k, .str f.1, .str z]
theorem idx_le {ys : List Str} {z : Str} {j : Nat} (h : ys[j]? = some z) : ys.idxOf z ≤ j := by
  by_cases q : ys.idxOf z ≤ j
  · exact q
  · exact absurd h (idx_min (by omega))
theorem isQ_mk {fs : List (Str × List Str)} {f : Str × List Str} {k : Str} {z : Str} (hf : f ∈ fs) (h : qOk f (.str k) (.str z) = true) : isQ fs (mkQ k f z) = true := by
  show (fs.any fun g => isN (.str f.1) g && qOk g (.str k) (.str z)) = true
  rw [List.any_eq_true]
  refine ⟨f, hf, ?_⟩
  show (decide (f.1 = f.1) && qOk f (.str k) (.str z)) = true
  rw [h, decide_eq_true rfl]; rfl
theorem nm_is : nmS "is" = true := by decide +kernel
theorem nm_upto : nmS "upto" = true := by decide +kernel
theorem th_mkQ {fs : List (Str × List Str)} {an : List Str} (F : Form fs an) {k : Str} (hk : nmS k = true) {f : Str × List Str} (hf : f ∈ fs) {z : Str} (hz : z ∈ f.2) : Th 27 1 (mkQ k f z) :=
  th_tup 8 0 3 (all_cons (th_name hk (Nat.le_refl _)) (all_cons (th_name (F.name hf) (Nat.le_refl _)) (all_cons (th_name (F.vals hf z hz) (Nat.le_refl _)) all_nil))) (Nat.le_of_ble_eq_true rfl) (by decide) (by decide)
theorem okIx_strs {ys : List Str} (hy : ∀ y ∈ ys, nmS y = true) {z : Str} (hz : z ∈ ys) : okIx (ys.map PyData.str) (.str z) (ys.idxOf z) := by
  have hzi : ys.idxOf z < ys.length := List.idxOf_lt_length_iff.mpr hz
  obtain ⟨_, _, _, _, d5, d6⟩ := th_all (th_strs hy (Nat.le_refl 8) (m := 0))
  refine ⟨d6, (th_name (hy z hz) (Nat.le_refl 8) (m := 0)).lay, by omega, ⟨.str z, ?_, ?_⟩, fun m t hm ht => ?_⟩
  · rw [List.getElem?_map, List.getElem?_eq_getElem hzi, List.getElem_idxOf hzi]; rfl
  · show (z == z) = true
    simp
  · rw [List.getElem?_map] at ht
    cases e2 : ys[m]? with
    | none => rw [e2] at ht; cases ht
    | some y =>
      rw [e2] at ht
      cases ht
      show (y == z) = false
      have : y ≠ z := fun q => by
        subst q
        exact idx_min hm e2
      simpa using this
inductive Tr | say (a : Str) | ask (k n v s : Str) (y m : Tr)
def trD : Tr → D
  | .say a => .tuple [.str "say", .str a]
  | .ask k n v s y m => .tuple [.str "ask", .tuple [.str k, .str n, .str v], .str s, trD y, trD m]
def Tr.dep : Tr → Nat
  | .say _ => 0
  | .ask _ _ _ _ y m => max y.dep m.dep + 1
def Tr.kn : Tr → Nat
  | .say _ => 0
  | .ask _ _ _ _ y m => y.kn + m.kn + 1
def TrOk (fs : List (Str × List Str)) (an : List Str) : Tr → Prop
  | .say a => a ∈ an
  | .ask k n v s y m => isQ fs (.tuple [.str k, .str n, .str v]) = true ∧ (s = "yes" ∨ s = "no") ∧ TrOk fs an y ∧ TrOk fs an m
theorem isQ_str {fs : List (Str × List Str)} {k n v : Str} (h : isQ fs (.tuple [.str k, .str n, .str v]) = true) : ∃ f ∈ fs, f.1 = n ∧ v ∈ f.2 ∧ (k = "is" ∨ (k = "upto" ∧ f.2.idxOf v + 1 < f.2.length)) := by
  obtain ⟨f, hf, hq⟩ := List.any_eq_true.mp (h : (fs.any fun f => isN (.str n) f && qOk f (.str k) (.str v)) = true)
  rw [Bool.and_eq_true] at hq
  have h2 : (decide (v ∈ f.2) && (decide (k = "is") || (decide (k = "upto") && decide (f.2.idxOf v + 1 < f.2.length)))) = true := hq.2
  simp only [Bool.and_eq_true, Bool.or_eq_true, decide_eq_true_eq] at h2
  exact ⟨f, hf, of_decide_eq_true hq.1, h2.1, h2.2⟩
theorem nm_yes : nmS "yes" = true := by decide +kernel
theorem nm_no : nmS "no" = true := by decide +kernel
theorem nm_say : nmS "say" = true := by decide +kernel
theorem nm_ask : nmS "ask" = true := by decide +kernel
theorem th_q {fs : List (Str × List Str)} {an : List Str} (F : Form fs an) {k n v : Str} (h : isQ fs (.tuple [.str k, .str n, .str v]) = true) : Th 27 1 (.tuple [.str k, .str n, .str v]) := by
  obtain ⟨f, hf, rfl, hv, hk⟩ := isQ_str h
  refine th_mkQ F ?_ hf hv
  rcases hk with rfl | ⟨rfl, _⟩
  · exact nm_is
  · exact nm_upto
theorem th_tree {fs : List (Str × List Str)} {an : List Str} (F : Form fs an) : ∀ t : Tr, TrOk fs an t → Th (68 * t.kn + 18) (t.dep + 1) (trD t)
  | .say a, h => th_tup 8 0 2 (all_cons (th_name nm_say (Nat.le_refl _)) (all_cons (th_name (F.an.2.1 a h) (Nat.le_refl _)) all_nil)) (Nat.le_of_ble_eq_true rfl) (by show 2 * (8 + 1) ≤ 68 * 0 + 18; decide) (Nat.le_refl _)
  | .ask k n v s y m, h => by
    obtain ⟨hq, hs, hy, hm⟩ := h
    have iy := th_tree F y hy
    have im := th_tree F m hm
    have q := th_q F hq
    have sn : nmS s = true := by
      rcases hs with rfl | rfl
      · exact nm_yes
      · exact nm_no
    have sl := th_name sn (n := 8) (m := 0) (Nat.le_refl _)
    have al := th_name nm_ask (n := 8) (m := 0) (Nat.le_refl _)
    have e1 : PyData.bulk (trD (.ask k n v s y m)) = (PyData.str "ask").bulk + 1 + ((PyData.tuple [.str k, .str n, .str v]).bulk + 1 + ((PyData.str s).bulk + 1 + ((trD y).bulk + 1 + ((trD m).bulk + 1 + 0)))) := rfl
    have e2 : PyData.depth (trD (.ask k n v s y m)) = max (PyData.str "ask").depth (max (PyData.tuple [.str k, .str n, .str v]).depth (max (PyData.str s).depth (max (trD y).depth (max (trD m).depth 0)))) + 1 := rfl
    refine ⟨?_, ?_, ?_, ?_, ?_, ?_⟩
    · rw [e1]
      have a1 := iy.bulk
      have a2 := im.bulk
      have a3 := q.bulk
      have a4 := sl.bulk
      have a5 := al.bulk
      show _ ≤ 68 * (y.kn + m.kn + 1) + 18
      omega
    · show ((PyData.str "ask").leavesShort 110 && ((PyData.tuple [.str k, .str n, .str v]).leavesShort 110 && ((PyData.str s).leavesShort 110 && ((trD y).leavesShort 110 && ((trD m).leavesShort 110 && true))))) = true
      rw [al.fit, q.fit, sl.fit, iy.fit, im.fit]; rfl
    · show ((PyData.str "ask").showable && ((PyData.tuple [.str k, .str n, .str v]).showable && ((PyData.str s).showable && ((trD y).showable && ((trD m).showable && true))))) = true
      rw [al.shw, q.shw, sl.shw, iy.shw, im.shw]; rfl
    · show ((PyData.str "ask").hasDict || ((PyData.tuple [.str k, .str n, .str v]).hasDict || ((PyData.str s).hasDict || ((trD y).hasDict || ((trD m).hasDict || false))))) = false
      rw [al.nodict, q.nodict, sl.nodict, iy.nodict, im.nodict]; rfl
    · rw [e2]
      have a1 := iy.depth
      have a2 := im.depth
      have a3 := q.depth
      have a4 := sl.depth
      have a5 := al.depth
      show _ ≤ max y.dep m.dep + 1 + 1
      omega
    · show ((PyData.str "ask").canLay0 && ((PyData.tuple [.str k, .str n, .str v]).canLay0 && ((PyData.str s).canLay0 && ((trD y).canLay0 && ((trD m).canLay0 && true))))) = true
      rw [al.lay, q.lay, sl.lay, iy.lay, im.lay]; rfl
theorem seq_while {c : TTt} {tb u : STt} {DT : EndsT} {σ : List Sl} (P : Nat → List Sl → Prop) (n0 : Nat) (h0 : P n0 σ)
    (hs : ∀ n σ', P n σ' → ∃ b : Bool, (∀ q : Bool → Prop, q b → c σ' q) ∧ (if b = true then tb { DT with nx := fun σ2 => ∃ m, m < n ∧ P m σ2, ct := fun σ2 => ∃ m, m < n ∧ P m σ2, bk := u DT } σ' else u DT σ')) : sSeq (sWhile c tb) u DT σ :=
  ⟨P, ⟨n0, h0⟩, fun n σ' hp => let ⟨_, h1, h2⟩ := hs n σ' hp; h1 _ h2⟩
def sideOf (f : Str × List Str) (k v st : Str) (c : D) : Str := match c with
  | .none => st
  | .str z => if k = "is" then (if z = v then "yes" else "no") else if f.2.idxOf z ≤ f.2.idxOf v then "yes" else "no"
  | _ => ""
def sideS (fs : List (Str × List Str)) (k n v st : Str) (cs : List D) : Str := match fs[(fs.map (·.1)).idxOf n]?, cs[(fs.map (·.1)).idxOf n]? with
  | some f, some c => sideOf f k v st c
  | _, _ => ""
def sp_side_of : SpT := fun ds Q => ∃ (fs : List (Str × List Str)) (an : List Str) (k n v st : Str) (cs : List D), ds = [frmD fs an, .tuple [.str k, .str n, .str v], .str st, .tuple cs] ∧ Form fs an ∧ isQ fs (.tuple [.str k, .str n, .str v]) = true ∧ (st = "yes" ∨ st = "no") ∧ isCase fs (.tuple cs) = true ∧ Q (.str (sideS fs k n v st cs))
def onSide (fs : List (Str × List Str)) (k n v st : Str) (rs : List (List D × Str)) (w : Str) (x : D) : Bool := match x with
  | .int i => match L2.atI rs i with | some r => decide (sideS fs k n v st r.1 = w) | none => false
  | _ => false
def sideIx (fs : List (Str × List Str)) (k n v st : Str) (rs : List (List D × Str)) (w : Str) : List D := (intsTo rs.length).filter (onSide fs k n v st rs w)
theorem name_at {fs : List (Str × List Str)} {an : List Str} (F : Form fs an) {j : Nat} {f : Str × List Str} (h : fs[j]? = some f) : (fs.map (·.1)).idxOf f.1 = j := by
  have hm : f.1 ∈ fs.map (·.1) := List.mem_map.mpr ⟨f, List.mem_of_getElem? h, rfl⟩
  have hi : (fs.map (·.1)).idxOf f.1 < (fs.map (·.1)).length := List.idxOf_lt_length_iff.mpr hm
  have h1 : (fs.map (·.1))[(fs.map (·.1)).idxOf f.1]? = some f.1 := by rw [List.getElem?_eq_getElem hi, List.getElem_idxOf hi]
  have h2 : (fs.map (·.1))[j]? = some f.1 := by rw [List.getElem?_map, h]; rfl
  exact (List.getElem?_inj hi F.nd.2.2).mp (h1.trans h2.symm)
theorem sideS_at {fs : List (Str × List Str)} {an : List Str} (F : Form fs an) {k n v st : Str} {cs : List D} {j : Nat} {f : Str × List Str} {c : D} (h1 : fs[j]? = some f) (h2 : cs[j]? = some c) (hn : f.1 = n) : sideS fs k n v st cs = sideOf f k v st c := by
  subst hn
  unfold sideS
  rw [name_at F h1, h1, h2]
def sdD (fs : List (Str × List Str)) (k n v st : Str) (x : D) : D := match x with | .tuple [.tuple cs, _] => .str (sideS fs k n v st cs) | _ => .none
theorem seq_unp3 {te : ET} {u : STt} {DT : EndsT} {σ : List Sl} {i j l : Nat} {a b c : D} (h : ∀ q : D → Prop, q (.tuple [a, b, c]) → te σ q) (k : u DT (((σ.set i (.val a)).set j (.val b)).set l (.val c))) : sSeq (sUnpG te (gP3 i j l)) u DT σ := h _ ⟨a, b, c, rfl, k⟩
theorem one_extL {te : ET} {DT : EndsT} {σ : List Sl} {i : Nat} {ts us : List D} (ho : σ[i]? = some (.own ts)) (hz : ts.length + us.length ≤ 100000) (h : ∀ q : D → Prop, q (.list us) → te σ q) (k : DT.nx (σ.set i (.own (ts ++ us)))) : sExtL i te DT σ := ⟨ts, ho, h _ ⟨us, rfl, hz, k⟩⟩
theorem onSide_at {fs : List (Str × List Str)} {k n v st : Str} {rs : List (List D × Str)} {w : Str} {j : Nat} {r : List D × Str} (h : rs[j]? = some r) : onSide fs k n v st rs w (.int (j : Int)) = decide (sideS fs k n v st r.1 = w) := by
  show (match L2.atI rs (j : Int) with | some r => decide (sideS fs k n v st r.1 = w) | none => false) = _
  rw [L2.atI_nat h]
def held (k v : Str) (f : Str × List Str) : List Str := if k = "is" then [v] else f.2.take (f.2.idxOf v + 1)
def sp_values_held : SpT := fun ds Q => ∃ (k n v : Str) (f : Str × List Str), ds = [.tuple [.str k, .str n, .str v], fldD f] ∧ (∀ y ∈ f.2, nmS y = true) ∧ v ∈ f.2 ∧ f.2.length ≤ 5 ∧ Q (.tuple ((held k v f).map PyData.str))
theorem held_side {f : Str × List Str} {k v st z : Str} (hz : z ∈ f.2) : (if isAns (held k v f) (.str z) = true then ("yes" : Str) else "no") = sideOf f k v st (.str z) := by
  show (if decide (z ∈ held k v f) = true then ("yes" : Str) else "no") = if k = "is" then (if z = v then ("yes" : Str) else "no") else if f.2.idxOf z ≤ f.2.idxOf v then ("yes" : Str) else "no"
  unfold held
  by_cases hk : k = "is"
  · rw [if_pos hk, if_pos hk]
    by_cases e : z = v
    · rw [if_pos e, if_pos (decide_eq_true (List.mem_singleton.mpr e))]
    · rw [if_neg e, if_neg (fun q => e (List.mem_singleton.mp (of_decide_eq_true q)))]
  · rw [if_neg hk, if_neg hk]
    have hi : f.2.idxOf z < f.2.length := List.idxOf_lt_length_iff.mpr hz
    by_cases e : f.2.idxOf z ≤ f.2.idxOf v
    · rw [if_pos e, if_pos]
      refine decide_eq_true (List.mem_of_getElem? (i := f.2.idxOf z) ?_)
      rw [List.getElem?_take, if_pos (by omega), List.getElem?_eq_getElem hi, List.getElem_idxOf hi]
    · rw [if_neg e, if_neg]
      intro q
      obtain ⟨i, hi'⟩ := List.getElem?_of_mem (of_decide_eq_true q)
      have hl := (List.getElem?_eq_some_iff.mp hi').1
      rw [List.length_take] at hl
      rw [List.getElem?_take, if_pos (by omega)] at hi'
      have := idx_le hi'
      omega
theorem held_mem {f : Str × List Str} {k v y : Str} (hv : v ∈ f.2) (h : y ∈ held k v f) : y ∈ f.2 := by
  unfold held at h
  split at h
  · rw [List.mem_singleton.mp h]; exact hv
  · exact List.mem_of_mem_take h
def toYes (k v st : Str) (f : Str × List Str) : List D := (held k v f).map PyData.str ++ (if st = "yes" then [PyData.none] else [])
def sp_entries_to_yes : SpT := fun ds Q => ∃ (k n v st : Str) (f : Str × List Str), ds = [.tuple [.str k, .str n, .str v], .str st, fldD f] ∧ (∀ y ∈ f.2, nmS y = true) ∧ v ∈ f.2 ∧ f.2.length ≤ 5 ∧ Q (.tuple (toYes k v st f))
def sp_field_asked : SpT := fun ds Q => ∃ (fs : List (Str × List Str)) (an : List Str) (k n v : Str) (f : Str × List Str) (j : Nat), ds = [frmD fs an, .tuple [.str k, .str n, .str v]] ∧ Form fs an ∧ fs[j]? = some f ∧ f.1 = n ∧ Q (.int (j : Int))
theorem held_len {k v : Str} {f : Str × List Str} (h : f.2.length ≤ 5) : (held k v f).length ≤ 5 := by
  unfold held
  split
  · show 1 ≤ 5; decide
  · rw [List.length_take]; omega
theorem in_toYes {k v st : Str} {f : Str × List Str} (hst : st = "yes" ∨ st = "no") {c : D} (hc : okV f c = true) : (if inD c (.tuple (toYes k v st f)) = true then ("yes" : Str) else "no") = sideOf f k v st c := by
  have e : inD c (.tuple (toYes k v st f)) = (isAns (held k v f) c || ((if st = "yes" then [PyData.none] else []).any fun z => PyData.eqv z c)) := by
    show ((toYes k v st f).any fun z => PyData.eqv z c) = _
    unfold toYes
    rw [List.any_append, any_strs]
  cases c with
  | none =>
    rw [e]
    rcases hst with rfl | rfl <;> rfl
  | str z =>
    have hz : z ∈ f.2 := of_decide_eq_true hc
    have e2 : ((if st = "yes" then [PyData.none] else []).any fun x => PyData.eqv x (.str z)) = false := by
      rcases hst with rfl | rfl <;> rfl
    rw [e, e2, Bool.or_false]
    exact held_side hz
  | _ => cases hc
theorem ok_toYes {k v st : Str} {f : Str × List Str} (hf : ∀ y ∈ f.2, nmS y = true) (hv : v ∈ f.2) {d : D} (hd : Cd d) : okIn d (.tuple (toYes k v st f)) := by
  unfold toYes
  split
  · exact ok_entries (fun y hy => hf y (held_mem hv hy)) hd
  · rw [List.append_nil]; exact ok_strs (fun y hy => hf y (held_mem hv hy)) hd
def onW (w : Str) (x : D) : Bool := match x with | .tuple [_, .str s] => decide (s = w) | _ => false
def isAt (ss : List Str) (w : Str) (x : D) : Bool := match x with | .int i => (match L2.atI ss i with | some s => decide (s = w) | none => false) | _ => false
def atS (ss : List Str) (x : D) : D := match x with | .int i => (match L2.atI ss i with | some s => .str s | none => .none) | _ => .none
def fstT (x : D) : D := match x with | .tuple [a, _] => a | _ => x
theorem enum_strs (ss : List Str) : enumD (ss.map PyData.str) = (intsTo ss.length).map fun x => .tuple [x, atS ss x] := by
  apply List.ext_getElem?
  intro i
  cases h : ss[i]? with
  | none =>
    have hl := List.getElem?_eq_none_iff.mp h
    rw [List.getElem?_eq_none (by rw [enumD_len, List.length_map]; exact hl), List.getElem?_eq_none (by rw [List.length_map, intsTo_len]; exact hl)]
  | some s =>
    have hl := (List.getElem?_eq_some_iff.mp h).1
    rw [enumD_get (a := .str s) (by rw [List.getElem?_map, h]; rfl), List.getElem?_map]
    unfold intsTo
    rw [List.getElem?_map, List.getElem?_range hl]
    show _ = some (PyData.tuple [.int (i : Int), match L2.atI ss (i : Int) with | some s => .str s | none => .none])
    rw [L2.atI_nat h]
theorem enum_filter (ss : List Str) (w : Str) : ((enumD (ss.map PyData.str)).filter (onW w)).map fstT = (intsTo ss.length).filter (isAt ss w) := by
  rw [enum_strs, List.filter_map, List.map_map]
  have e1 : (fstT ∘ fun x => PyData.tuple [x, atS ss x]) = id := by funext x; rfl
  have e2 : (onW w ∘ fun x => PyData.tuple [x, atS ss x]) = isAt ss w := by
    funext x
    cases x with
    | int i =>
      show onW w (.tuple [.int i, (match L2.atI ss i with | some s => PyData.str s | none => .none)]) = (match L2.atI ss i with | some s => decide (s = w) | none => false)
      cases L2.atI ss i <;> rfl
    | _ => rfl
  rw [e1, e2, List.map_id]
theorem side_ix {fs : List (Str × List Str)} {k n v st : Str} {rs : List (List D × Str)} (w : Str) : (intsTo (rs.map fun r => sideS fs k n v st r.1).length).filter (isAt (rs.map fun r => sideS fs k n v st r.1) w) = sideIx fs k n v st rs w := by
  unfold sideIx
  rw [List.length_map]
  apply List.filter_congr
  intro x hx
  obtain ⟨j, hj⟩ := List.getElem?_of_mem hx
  obtain ⟨hjl, rfl⟩ := intsTo_get hj
  have hr : rs[j]? = some rs[j] := List.getElem?_eq_getElem hjl
  rw [onSide_at hr]
  show (match L2.atI (rs.map fun r => sideS fs k n v st r.1) (j : Int) with | some s => decide (s = w) | none => false) = _
  rw [L2.atI_nat (v := sideS fs k n v st rs[j].1) (by rw [List.getElem?_map, hr]; rfl)]
def entD (f : Str × List Str) : List D := f.2.map PyData.str ++ [.none]
def prodF : List (List D) → List (List D)
  | [] => [[]]
  | e :: L => e.flatMap fun x => (prodF L).map (x :: ·)
def longerC (bs : List (List D)) (es : List D) : List (List D) := bs.flatMap fun b => es.map fun x => b ++ [x]
theorem fold_prod : ∀ (L : List (List D)) (bs : List (List D)), L.foldl longerC bs = bs.flatMap fun b => (prodF L).map (b ++ ·)
  | [], bs => by
    show bs = bs.flatMap fun b => [b ++ []]
    induction bs with
    | nil => rfl
    | cons b bs ih => rw [List.flatMap_cons, ← ih, List.append_nil]; rfl
  | e :: L, bs => by
    show L.foldl longerC (longerC bs e) = _
    rw [fold_prod L]
    unfold longerC
    rw [List.flatMap_assoc]
    congr 1
    funext b
    show _ = (e.flatMap fun x => (prodF L).map (x :: ·)).map (b ++ ·)
    rw [List.flatMap_map, List.map_flatMap]
    congr 1
    funext x
    rw [List.map_map]
    congr 1
    funext l
    show b ++ [x] ++ l = b ++ (x :: l)
    rw [List.append_assoc]; rfl
theorem fold_whole (L : List (List D)) : L.foldl longerC [[]] = prodF L := by
  rw [fold_prod]
  show (prodF L).map ([] ++ ·) ++ [] = _
  rw [List.append_nil]
  exact List.map_id _
noncomputable def InL : List (List D) → List D → Bool
  | [], [] => true
  | e :: L, x :: c => decide (x ∈ e) && InL L c
  | _, _ => false
theorem mem_prod : ∀ (L : List (List D)) (c : List D), c ∈ prodF L ↔ InL L c = true
  | [], [] => by simp [prodF, InL]
  | [], _ :: _ => by simp [prodF, InL]
  | e :: L, [] => by simp [prodF, InL]
  | e :: L, x :: c => by
    have ih := mem_prod L c
    show (x :: c) ∈ (e.flatMap fun x => (prodF L).map (x :: ·)) ↔ (decide (x ∈ e) && InL L c) = true
    rw [Bool.and_eq_true, decide_eq_true_eq, ← ih, List.mem_flatMap]
    constructor
    · rintro ⟨y, hy, h⟩
      obtain ⟨d, hd, e'⟩ := List.mem_map.mp h
      cases e'
      exact ⟨hy, hd⟩
    · rintro ⟨hx, hc⟩
      exact ⟨x, hx, List.mem_map.mpr ⟨c, hc, rfl⟩⟩
theorem InL_get : ∀ {L : List (List D)} {c : List D}, InL L c = true → c.length = L.length ∧ ∀ (j : Nat) e x, L[j]? = some e → c[j]? = some x → x ∈ e
  | [], [], _ => ⟨rfl, fun j e x h => by simp at h⟩
  | [], _ :: _, h => by cases h
  | _ :: _, [], h => by cases h
  | e :: L, x :: c, h => by
    have h' : (decide (x ∈ e) && InL L c) = true := h
    rw [Bool.and_eq_true, decide_eq_true_eq] at h'
    obtain ⟨h1, h2⟩ := InL_get h'.2
    refine ⟨by rw [List.length_cons, List.length_cons, h1], fun j e' x' he hx => ?_⟩
    cases j with
    | zero =>
      simp only [List.getElem?_cons_zero, Option.some.injEq] at he hx
      subst he hx
      exact h'.1
    | succ j =>
      simp only [List.getElem?_cons_succ] at he hx
      exact h2 j e' x' he hx
def anyNil (L : List (List D)) : Bool := L.any List.isEmpty
theorem prod_nil : ∀ L : List (List D), prodF L = [] ↔ anyNil L = true
  | [] => by simp [prodF, anyNil]
  | e :: L => by
    have ih := prod_nil L
    show (e.flatMap fun x => (prodF L).map (x :: ·)) = [] ↔ (e.isEmpty || L.any List.isEmpty) = true
    rw [Bool.or_eq_true]
    constructor
    · intro h
      cases e with
      | nil => exact .inl rfl
      | cons x e =>
        rw [List.flatMap_cons, List.append_eq_nil_iff] at h
        exact .inr (ih.mp (List.map_eq_nil_iff.mp h.1))
    · rintro (h | h)
      · cases e with
        | nil => rfl
        | cons x e => cases h
      · rw [ih.mpr h]
        induction e with
        | nil => rfl
        | cons x e ih2 => rw [List.flatMap_cons, ih2]; rfl
theorem prod_len : ∀ (L : List (List D)) (n : Nat), (∀ e ∈ L, e.length ≤ n) → (prodF L).length ≤ n ^ L.length
  | [], n, _ => Nat.le_refl 1
  | e :: L, n, h => by
    have ih := prod_len L n fun e he => h e (List.mem_cons_of_mem _ he)
    have he := h e (List.mem_cons_self ..)
    show (e.flatMap fun x => (prodF L).map (x :: ·)).length ≤ n ^ (L.length + 1)
    have : (e.flatMap fun x => (prodF L).map (x :: ·)).length = e.length * (prodF L).length := by
      clear he h
      induction e with
      | nil => simp
      | cons x e ih => rw [List.flatMap_cons, List.length_append, ih, List.length_map, List.length_cons, Nat.add_mul]; omega
    rw [this, Nat.pow_succ, Nat.mul_comm (n ^ L.length)]
    exact Nat.mul_le_mul he ih
def atB : List D → Nat → (D → Bool) → Bool
  | [], _, _ => true
  | x :: _, 0, g => g x
  | _ :: c, j + 1, g => atB c j g
theorem atB_get {g : D → Bool} {x : D} : ∀ {c : List D} {j : Nat}, c[j]? = some x → atB c j g = g x
  | [], j, h => by simp at h
  | y :: c, 0, h => by
    simp only [List.getElem?_cons_zero, Option.some.injEq] at h
    subst h; rfl
  | y :: c, j + 1, h => by
    simp only [List.getElem?_cons_succ] at h
    exact atB_get (c := c) (j := j) h
def jx (fs : List (Str × List Str)) (n : Str) : Nat := (fs.map (·.1)).idxOf n
def sideG (fs : List (Str × List Str)) (k n v s : Str) (x : D) : Bool := match fs[jx fs n]? with | some f => decide (sideOf f k v s x = "yes") | none => false
def LetsOk (fs : List (Str × List Str)) (L : List (List D)) : Prop := L.length = fs.length ∧ ∀ (j : Nat) f e, fs[j]? = some f → L[j]? = some e → ∃ p : D → Bool, e = (entD f).filter p
theorem LetsOk.whole (fs : List (Str × List Str)) : LetsOk fs (fs.map entD) := ⟨List.length_map _, fun j f e hf he => by
  rw [List.getElem?_map, hf] at he
  cases he
  exact ⟨fun _ => true, (List.filter_eq_self.mpr fun _ _ => rfl).symm⟩⟩
def ansL (fs : List (Str × List Str)) : Tr → List D → Str
  | .say a, _ => a
  | .ask k n v s y m, c => if atB c (jx fs n) (sideG fs k n v s) then ansL fs y c else ansL fs m c
def manyC (fs : List (Str × List Str)) : Nat := fs.foldl (fun a f => a * (f.2.length + 1)) 1
def longer (bs : List (List D)) (es : List D) : List (List D) := (bs.map fun b => es.map fun e => b ++ [e]).flatten
def allC (fs : List (Str × List Str)) : List (List D) := fs.foldl (fun bs f => longer bs (entD f)) [[]]
def sp_many_cases : SpT := fun ds Q => ∃ (fs : List (Str × List Str)) (an : List Str), ds = [frmD fs an] ∧ Form fs an ∧ Q (.int ((manyC fs : Nat) : Int))
def sp_longer_by : SpF := fun ds Q => ∃ (bs : List (List D)) (es : List D), ds = [.list (bs.map PyData.tuple), .tuple es] ∧ (∀ b ∈ bs, b.length ≤ 10) ∧ bs.length * es.length ≤ 50000 ∧ es.length ≤ 10 ∧ Q ((longer bs es).map PyData.tuple)
def sp_all_cases : SpF := fun ds Q => ∃ (fs : List (Str × List Str)) (an : List Str), ds = [frmD fs an] ∧ Form fs an ∧ manyC fs ≤ 2000 ∧ Q ((allC fs).map PyData.tuple)
theorem longer_len (bs : List (List D)) (es : List D) : (longer bs es).length = bs.length * es.length := by
  unfold longer
  induction bs with
  | nil => simp
  | cons b bs ih =>
    rw [List.map_cons, List.flatten_cons, List.length_append, List.length_map, ih, List.length_cons, Nat.add_mul, Nat.one_mul]
    omega
theorem manyC_snoc (fs : List (Str × List Str)) (f : Str × List Str) : manyC (fs ++ [f]) = manyC fs * (f.2.length + 1) := by unfold manyC; rw [List.foldl_append]; rfl
theorem allC_snoc (fs : List (Str × List Str)) (f : Str × List Str) : allC (fs ++ [f]) = longer (allC fs) (entD f) := by unfold allC; rw [List.foldl_append]; rfl
theorem snoc_ind {α : Type} {P : List α → Prop} (h0 : P []) (h1 : ∀ l a, P l → P (l ++ [a])) : ∀ l, P l := fun l => by
  rw [← List.reverse_reverse l]
  induction l.reverse with
  | nil => exact h0
  | cons a r ih => rw [List.reverse_cons]; exact h1 _ _ ih
theorem allC_len : ∀ fs : List (Str × List Str), (allC fs).length = manyC fs := snoc_ind rfl fun fs f ih => by
  rw [allC_snoc, manyC_snoc, longer_len, ih]
  unfold entD
  rw [List.length_append, List.length_map]; rfl
theorem mem_longer {bs : List (List D)} {es : List D} {c : List D} (h : c ∈ longer bs es) : ∃ b ∈ bs, ∃ e ∈ es, c = b ++ [e] := by
  unfold longer at h
  obtain ⟨l, hl, hc⟩ := List.mem_flatten.mp h
  obtain ⟨b, hb, rfl⟩ := List.mem_map.mp hl
  obtain ⟨e, he, rfl⟩ := List.mem_map.mp hc
  exact ⟨b, hb, e, he, rfl⟩
theorem allC_case : ∀ (fs : List (Str × List Str)), ∀ c ∈ allC fs, isCase fs (.tuple c) = true := snoc_ind (fun c hc => by
    have : c = [] := List.mem_singleton.mp hc
    rw [this]; rfl) fun fs f ih c hc => by
  rw [allC_snoc] at hc
  obtain ⟨b, hb, e, he, rfl⟩ := mem_longer hc
  obtain ⟨h1, h2⟩ := case_get (ih b hb)
  refine case_of (by rw [List.length_append, List.length_append, h1]; rfl) fun k g x hg hx => ?_
  by_cases hk : k < fs.length
  · rw [List.getElem?_append_left hk] at hg
    rw [List.getElem?_append_left (by omega)] at hx
    exact h2 k g x hg hx
  · rw [List.getElem?_append_right (by omega)] at hg
    rw [List.getElem?_append_right (by omega), h1] at hx
    have hk0 : k - fs.length = 0 := by
      have := (List.getElem?_eq_some_iff.mp hg).1
      simp at this
      omega
    rw [hk0] at hg hx
    cases hg
    cases hx
    unfold entD at he
    rcases List.mem_append.mp he with he | he
    · obtain ⟨z, hz, rfl⟩ := List.mem_map.mp he
      exact decide_eq_true hz
    · rw [List.mem_singleton.mp he]; rfl
theorem manyC_pos : ∀ fs : List (Str × List Str), 1 ≤ manyC fs := snoc_ind (Nat.le_refl _) fun fs f ih => by
  rw [manyC_snoc]
  exact Nat.mul_pos ih (by omega)
theorem manyC_mono {fs : List (Str × List Str)} (k : Nat) : manyC (fs.take k) ≤ manyC fs := by
  have : ∀ gs hs : List (Str × List Str), manyC gs ≤ manyC (gs ++ hs) := fun gs hs => by
    refine snoc_ind (P := fun hs => manyC gs ≤ manyC (gs ++ hs)) (by rw [List.append_nil]; exact Nat.le_refl _) (fun l a ih => ?_) hs
    rw [← List.append_assoc, manyC_snoc]
    exact Nat.le_trans ih (Nat.le_mul_of_pos_right _ (by omega))
  have h := this (fs.take k) (fs.drop k)
  rwa [List.take_append_drop] at h
def isSay : Tr → Bool
  | .say _ => true
  | .ask _ _ _ _ _ _ => false
def letsD (L : List (List D)) : D := .tuple (L.map PyData.tuple)
def ruleD (r : List (List D) × Str) : D := .tuple [letsD r.1, .str r.2]
def casesD (cs : List (List D)) : D := .list (cs.map PyData.tuple)
def Small (fs : List (Str × List Str)) : Prop := fs.length ≤ 3 ∧ ∀ f ∈ fs, f.2.length ≤ 4
def sp_entries_of : SpT := fun ds Q => ∃ f : Str × List Str, ds = [fldD f] ∧ f.2.length ≤ 5 ∧ Q (.tuple (f.2.map PyData.str ++ [.none]))
def sp_whole_lets : SpT := fun ds Q => ∃ (fs : List (Str × List Str)) (an : List Str), ds = [frmD fs an] ∧ Form fs an ∧ Q (letsD (fs.map entD))
def sp__law_whole : SpT := sp_whole_lets
def sp__law_cases : SpT := fun ds Q => ∃ (fs : List (Str × List Str)) (an : List Str), ds = [frmD fs an] ∧ Form fs an ∧ Small fs ∧ Q (casesD (prodF (fs.map entD)))
def sp__law_side : SpT := fun ds Q => ∃ (fs : List (Str × List Str)) (an : List Str) (k n v s : Str) (y m : Tr) (cs : List D), ds = [frmD fs an, trD (.ask k n v s y m), .tuple cs] ∧ Form fs an ∧ TrOk fs an (.ask k n v s y m) ∧ isCase fs (.tuple cs) = true ∧ Q (.str (sideS fs k n v s cs))
def sp__law_way : SpT := fun ds Q => ∃ (fs : List (Str × List Str)) (an : List Str) (t : Tr) (cs : List D), ds = [frmD fs an, trD t, .tuple cs] ∧ Form fs an ∧ TrOk fs an t ∧ isCase fs (.tuple cs) = true ∧ t.dep ≤ 40 ∧ ∀ w : List D, Q (.tuple [.list w, .str (ansL fs t cs)])
def sp__law_fits : SpT := fun ds Q => ∃ (fs : List (Str × List Str)) (an : List Str) (r : List (List D) × Str) (c : List D), ds = [ruleD r, .tuple c] ∧ Form fs an ∧ LetsOk fs r.1 ∧ isCase fs (.tuple c) = true ∧ Q (.bool (InL r.1 c))
def ansD : Option (List (List D) × Str) → D
  | some r => .str r.2
  | none => .none
def sp__law_answer : SpT := fun ds Q => ∃ (fs : List (Str × List Str)) (an : List Str) (rs : List (List (List D) × Str)) (c : List D), ds = [.list (rs.map ruleD), .tuple c] ∧ Form fs an ∧ (∀ r ∈ rs, LetsOk fs r.1) ∧ isCase fs (.tuple c) = true ∧ Q (ansD (rs.find? (fun r => InL r.1 c)))
def sp_law : SpT := fun ds Q => ∃ ns : List Int, ds = [.list (ns.map PyData.int)] ∧ ns.length ≤ 63 ∧ Q (.bool true)
theorem okEq_of {x y : D} (h1 : Cd x) (h2 : Cd y) : okEq x y := ⟨h1.lay, h2.lay, by have := h1.dep; omega⟩
theorem cd_str {z : Str} (h : nmS z = true) : Cd (.str z) := (th_name h (n := 8) (m := 0) (Nat.le_refl _)).cd (by decide)
noncomputable def inX (x : D) : D := match x with | .tuple [x, .tuple l] => .bool (decide (x ∈ l)) | _ => .none
theorem fits_all : ∀ (c : List D) (L : List (List D)), c.length = L.length → (!inD (.bool false) (.list ((zipD c (L.map PyData.tuple)).map inX))) = InL L c ∧ PyData.canLayAll0 ((zipD c (L.map PyData.tuple)).map inX) = true
  | [], [], _ => ⟨rfl, rfl⟩
  | [], _ :: _, h => by simp at h
  | _ :: _, [], h => by simp at h
  | x :: c, e :: L, h => by
    obtain ⟨i2, i3⟩ := fits_all c L (by simpa using h)
    have ez : zipD (x :: c) ((e :: L).map PyData.tuple) = .tuple [x, .tuple e] :: zipD c (L.map PyData.tuple) := rfl
    rw [ez, List.map_cons]
    refine ⟨?_, i3⟩
    show (!(PyData.eqv (.bool (decide (x ∈ e))) (.bool false) || inD (.bool false) (.list _))) = (decide (x ∈ e) && InL L c)
    rw [Bool.not_or, i2]
    congr 1
    cases decide (x ∈ e) <;> rfl
def Ent (x : D) : Prop := x = .none ∨ ∃ z, nmS z = true ∧ x = .str z
theorem Ent.th {x : D} (h : Ent x) {n m : Nat} (hn : 8 ≤ n) : Th n m x := by
  rcases h with rfl | ⟨z, hz, rfl⟩
  · exact th_none
  · exact th_name hz hn
theorem eqv_ent {x y : D} (hx : Ent x) (hy : Ent y) : PyData.eqv x y = decide (x = y) := by
  rcases hx with rfl | ⟨z, hz, rfl⟩ <;> rcases hy with rfl | ⟨w, hw, rfl⟩
  · exact (decide_eq_true rfl).symm
  · exact (decide_eq_false (fun z => nomatch z)).symm
  · exact (decide_eq_false (fun z => nomatch z)).symm
  · show (z == w) = _
    rw [Bool.eq_iff_iff]
    simp
theorem any_ent {x : D} (hx : Ent x) : ∀ {ts : List D}, (∀ t ∈ ts, Ent t) → (ts.any fun z => PyData.eqv z x) = decide (x ∈ ts)
  | [], _ => (decide_eq_false (by simp)).symm
  | t :: ts, h => by
    rw [List.any_cons, any_ent hx fun t ht => h t (List.mem_cons_of_mem _ ht), eqv_ent (h t (List.mem_cons_self ..)) hx, Bool.eq_iff_iff]
    simp only [Bool.or_eq_true, decide_eq_true_eq, List.mem_cons]
    exact ⟨fun z => z.imp Eq.symm id, fun z => z.imp Eq.symm id⟩
theorem okIn_ent {x : D} (hx : Ent x) {ts : List D} (h : ∀ t ∈ ts, Ent t) : okIn x (.list ts) ∧ okIn x (.tuple ts) := by
  obtain ⟨_, _, _, _, b5, b6⟩ := th_all (n := 8) (m := 0) fun t ht => (h t ht).th (Nat.le_refl 8)
  have hc := ((hx.th (n := 8) (m := 0) (Nat.le_refl 8)).cd (by decide))
  exact ⟨⟨b6, hc.lay, by have := hc.dep; omega⟩, ⟨b6, hc.lay, by have := hc.dep; omega⟩⟩
section
variable {fs : List (Str × List Str)} {an : List Str}
theorem ent_entD (F : Form fs an) {f : Str × List Str} (hf : f ∈ fs) : ∀ x ∈ entD f, Ent x := fun x hx => by
  rcases List.mem_append.mp hx with hx | hx
  · obtain ⟨z, hz, rfl⟩ := List.mem_map.mp hx
    exact .inr ⟨z, F.vals hf z hz, rfl⟩
  · rw [List.mem_singleton.mp hx]; exact .inl rfl
theorem okV_entD {f : Str × List Str} {x : D} (h : x ∈ entD f) : okV f x = true := by
  rcases List.mem_append.mp h with h | h
  · obtain ⟨z, hz, rfl⟩ := List.mem_map.mp h
    exact decide_eq_true hz
  · rw [List.mem_singleton.mp h]; rfl
theorem LetsOk.sub {L : List (List D)} (h : LetsOk fs L) {j : Nat} {f : Str × List Str} {e : List D} (hf : fs[j]? = some f) (he : L[j]? = some e) : ∀ x ∈ e, x ∈ entD f := fun x hx => by
  obtain ⟨p, rfl⟩ := h.2 j f e hf he
  exact (List.mem_filter.mp hx).1
theorem lets_case {L : List (List D)} (h : LetsOk fs L) {c : List D} (hc : InL L c = true) : isCase fs (.tuple c) = true := by
  obtain ⟨h1, h2⟩ := InL_get hc
  refine case_of (h1.trans h.1) fun k f x hf hx => ?_
  have hk : k < L.length := by rw [h.1]; exact (List.getElem?_eq_some_iff.mp hf).1
  have hL : L[k]? = some L[k] := List.getElem?_eq_getElem hk
  exact okV_entD (h.sub hf hL x (h2 k _ x hL hx))
theorem jx_get (F : Form fs an) {k n v : Str} (h : isQ fs (.tuple [.str k, .str n, .str v]) = true) : ∃ f, fs[jx fs n]? = some f ∧ f ∈ fs ∧ f.1 = n ∧ v ∈ f.2 ∧ (k = "is" ∨ k = "upto") := by
  obtain ⟨f, hf, hfn, hv, hk⟩ := isQ_str h
  obtain ⟨j, hj⟩ := List.getElem?_of_mem hf
  have : jx fs n = j := by rw [← hfn]; exact name_at F hj
  exact ⟨f, by rw [this]; exact hj, hf, hfn, hv, hk.imp id fun z => z.1⟩
theorem sideOf_yn {f : Str × List Str} {k v s : Str} (hs : s = "yes" ∨ s = "no") {x : D} (hx : okV f x = true) : sideOf f k v s x = "yes" ∨ sideOf f k v s x = "no" := by
  rw [← in_toYes hs hx]
  split
  · exact .inl rfl
  · exact .inr rfl
theorem sideS_atB (F : Form fs an) {k n v s : Str} (hq : isQ fs (.tuple [.str k, .str n, .str v]) = true) (hs : s = "yes" ∨ s = "no") {c : List D} (hc : isCase fs (.tuple c) = true) : sideS fs k n v s c = (if atB c (jx fs n) (sideG fs k n v s) then ("yes" : Str) else "no") := by
  obtain ⟨f, hf, hfm, hfn, hv, hk⟩ := jx_get F hq
  obtain ⟨hl, hcv⟩ := case_get hc
  have hj : jx fs n < c.length := by rw [hl]; exact (List.getElem?_eq_some_iff.mp hf).1
  have hx : c[jx fs n]? = some c[jx fs n] := List.getElem?_eq_getElem hj
  have hok := hcv _ f _ hf hx
  rw [sideS_at F hf hx hfn, atB_get hx]
  unfold sideG
  rw [hf]
  show _ = if decide (sideOf f k v s c[jx fs n] = "yes") = true then ("yes" : Str) else "no"
  rcases sideOf_yn (k := k) (v := v) hs hok with e | e
  · rw [e, if_pos (decide_eq_true rfl)]
  · rw [e, if_neg (by decide +kernel)]
end
theorem lcx_sub {fr : List (Option Nat)} {ti : IT} {tt : TTt} {te : ET} {σ : List Sl} {Q : D → Prop} {ts : List D} (hti : Gives' ti σ ts) (hz : ts.length ≤ 100000) (hp : ∀ (x : D) (q : Bool → Prop), x ∈ ts → (∀ b, q b) → tt ((inBlkT fr σ).set 0 (.val x)) q)
    (ht : ∀ (x : D) (q : D → Prop), x ∈ ts → q x → te ((inBlkT fr σ).set 0 (.val x)) q) (hq : ∀ zs : List D, zs.Sublist ts → Q (.list zs)) : eLc fr ti (gN 0) tt te σ Q := by
  refine hti _ ⟨hz, fun k σ' ds => (∀ x, σ'.set 0 (.val x) = (inBlkT fr σ).set 0 (.val x)) ∧ ds.Sublist (ts.take k), ⟨fun _ => rfl, List.Sublist.refl _⟩, fun k x σ' ds hx h => ?_, fun σ' ds h => ?_⟩
  · obtain ⟨h1, h2⟩ := h
    have hm : x ∈ ts := List.mem_of_getElem? hx
    have e : ts.take (k + 1) = ts.take k ++ [x] := by rw [List.take_add_one, hx]; rfl
    show tt (σ'.set 0 (.val x)) _
    rw [h1 x]
    refine hp x _ hm fun b => ?_
    cases b with
    | true =>
      rw [if_pos rfl]
      refine ht x _ hm ⟨fun z => set_set _ _ _ _, ?_⟩
      rw [e]; exact h2.append (List.Sublist.refl _)
    | false =>
      rw [if_neg (by decide)]
      refine ⟨fun z => set_set _ _ _ _, ?_⟩
      rw [e]; exact h2.trans (List.sublist_append_left _ _)
  · have h2 : ds.Sublist (ts.take ts.length) := h.2
    rw [List.take_length] at h2
    exact hq ds h2
theorem eqv_exact {x y : D} (h : Ent y) : PyData.eqv x y = decide (x = y) := by
  rcases h with rfl | ⟨z, hz, rfl⟩
  · cases x <;> first | exact (decide_eq_true rfl).symm | exact (decide_eq_false (fun z => nomatch z)).symm
  · cases x with
    | str w =>
      show (w == z) = _
      rw [Bool.eq_iff_iff]; simp
    | _ => exact (decide_eq_false (fun z => nomatch z)).symm
theorem eqvAll_exact : ∀ {xs ys : List D}, (∀ y ∈ ys, Ent y) → PyData.eqvAll xs ys = decide (xs = ys)
  | [], [], _ => (decide_eq_true rfl).symm
  | [], _ :: _, _ => (decide_eq_false (by simp)).symm
  | _ :: _, [], _ => (decide_eq_false (by simp)).symm
  | x :: xs, y :: ys, h => by
    show (PyData.eqv x y && PyData.eqvAll xs ys) = _
    rw [eqv_exact (h y (List.mem_cons_self ..)), eqvAll_exact fun z hz => h z (List.mem_cons_of_mem _ hz), Bool.eq_iff_iff]
    simp
theorem filt_sub {xs es : List D} (h : xs.Sublist es) : es.Nodup → es.filter (fun e => decide (e ∈ xs)) = xs := by
  induction h with
  | slnil => intro _; rfl
  | cons a h ih =>
    intro hn
    obtain ⟨h1, h2⟩ := List.nodup_cons.mp hn
    rw [List.filter_cons_of_neg (by simpa using fun z => h1 (h.subset z))]
    exact ih h2
  | cons_cons a h ih =>
    rename_i l1 l2
    intro hn
    obtain ⟨h1, h2⟩ := List.nodup_cons.mp hn
    rw [List.filter_cons_of_pos (by simp)]
    congr 1
    rw [← ih h2]
    apply List.filter_congr
    intro e he
    rw [ih h2, Bool.eq_iff_iff]
    simp only [decide_eq_true_eq, List.mem_cons]
    exact ⟨fun z => z.resolve_left fun q => h1 (q ▸ he), .inr⟩
def RuleG (fs : List (Str × List Str)) (an : List Str) (r : List (List D) × Str) : Prop := LetsOk fs r.1 ∧ anyNil r.1 = false ∧ r.2 ∈ an
def sp__law_part : SpT := fun ds Q => ∃ (ns : List Int) (fs : List (Str × List Str)) (an : List Str) (f : Str × List Str), ds = [tapeD ns, .tuple (entD f)] ∧ ns.length ≤ 63 ∧ Form fs an ∧ f ∈ fs ∧ ∀ xs : List D, xs ≠ [] → xs.Sublist (entD f) → Q (.tuple xs)
def sp__law_rule : SpT := fun ds Q => ∃ (ns : List Int) (fs : List (Str × List Str)) (an : List Str), ds = [tapeD ns, frmD fs an] ∧ ns.length ≤ 63 ∧ Form fs an ∧ ∀ r, RuleG fs an r → Q (ruleD r)
section
variable {fs : List (Str × List Str)} {an : List Str}
theorem entD_nd (F : Form fs an) {f : Str × List Str} (hf : f ∈ fs) : (entD f).Nodup := by
  have hd := (F.vs f hf).2.2.2.2
  unfold entD
  rw [List.nodup_append]
  refine ⟨List.Pairwise.map _ (fun a b h z => h (by injection z)) hd, by simp, fun a ha b hb => ?_⟩
  obtain ⟨z, _, rfl⟩ := List.mem_map.mp ha
  rw [List.mem_singleton.mp hb]
  exact fun q => nomatch q
theorem entD_len (f : Str × List Str) : (entD f).length = f.2.length + 1 := by unfold entD; rw [List.length_append, List.length_map]; rfl
theorem sub_ent (F : Form fs an) {f : Str × List Str} (hf : f ∈ fs) {xs : List D} (h : xs.Sublist (entD f)) : (∀ x ∈ xs, Ent x) ∧ xs.length ≤ 6 := by
  refine ⟨fun x hx => ent_entD F hf x (h.subset hx), ?_⟩
  have := h.length_le
  rw [entD_len] at this
  have := (F.vs f hf).2.1
  omega
theorem sub_filt (F : Form fs an) {f : Str × List Str} (hf : f ∈ fs) {xs : List D} (h : xs.Sublist (entD f)) : ∃ p : D → Bool, xs = (entD f).filter p := ⟨_, (filt_sub h (entD_nd F hf)).symm⟩
theorem let_th (F : Form fs an) {f : Str × List Str} (hf : f ∈ fs) {xs : List D} (h : xs.Sublist (entD f)) : Th 60 1 (.tuple xs) := by
  obtain ⟨h1, h2⟩ := sub_ent F hf h
  exact th_tup 8 0 6 (fun t ht => (h1 t ht).th (Nat.le_refl 8)) h2 (by decide) (by decide)
theorem lets_th (F : Form fs an) {L : List (List D)} (h : LetsOk fs L) : (∀ t ∈ L.map PyData.tuple, Th 60 1 t) ∧ L.length ≤ 5 := by
  refine ⟨fun t ht => ?_, by rw [h.1]; exact F.n5⟩
  obtain ⟨e, he, rfl⟩ := List.mem_map.mp ht
  obtain ⟨j, hj⟩ := List.getElem?_of_mem he
  have hjl : j < fs.length := by rw [← h.1]; exact (List.getElem?_eq_some_iff.mp hj).1
  obtain ⟨p, rfl⟩ := h.2 j _ e (List.getElem?_eq_getElem hjl) hj
  exact let_th F (List.getElem_mem hjl) List.filter_sublist
theorem rule_th (F : Form fs an) {r : List (List D) × Str} (h : RuleG fs an r) : Th 305 2 (letsD r.1) ∧ Th 8 0 (.str r.2) ∧ Th 612 3 (ruleD r) := by
  obtain ⟨h1, h2⟩ := lets_th F h.1
  have a : Th 305 2 (letsD r.1) := th_tup 60 1 5 h1 (by rw [List.length_map]; exact h2) (by decide) (by decide)
  have b : Th 8 0 (.str r.2) := th_name (F.an.2.1 _ h.2.2) (Nat.le_refl _)
  exact ⟨a, b, th_tup 305 2 2 (all_cons a (all_cons (b.mono (by decide) (by decide)) all_nil)) (Nat.le_of_ble_eq_true rfl) (by decide) (by decide)⟩
end
noncomputable def inB (x : D) : Bool := match x with | .tuple [.tuple l, x] => decide (x ∈ l) | _ => false
theorem inB_all : ∀ (L : List (List D)) (c : List D), c.length = L.length → (((zipD (L.map PyData.tuple) c).map inB).all id) = InL L c
  | [], [], _ => rfl
  | [], _ :: _, h => by simp at h
  | _ :: _, [], h => by simp at h
  | e :: L, x :: c, h => by
    have ih := inB_all L c (by simpa using h)
    show ((decide (x ∈ e)) && ((zipD (L.map PyData.tuple) c).map inB).all id) = (decide (x ∈ e) && InL L c)
    rw [ih]
theorem one_setR {te : ET} {DT : EndsT} {σ : List Sl} {i : Nat} (R : D → Prop) (h : ∀ q : D → Prop, (∀ v, R v → q v) → te σ q) (k : ∀ v, R v → DT.nx (σ.set i (.val v))) : sSet i te DT σ := h _ k
def LetsTo (fs : List (Str × List Str)) (k : Nat) (L : List (List D)) : Prop := L.length = k ∧ ∀ (j : Nat) f e, fs[j]? = some f → L[j]? = some e → e ≠ [] ∧ e.Sublist (entD f)
theorem letsTo_all {fs : List (Str × List Str)} {an : List Str} (F : Form fs an) {L : List (List D)} (h : LetsTo fs fs.length L) : LetsOk fs L ∧ anyNil L = false := by
  refine ⟨⟨h.1, fun j f e hf he => sub_filt F (List.mem_of_getElem? hf) (h.2 j f e hf he).2⟩, ?_⟩
  cases e : anyNil L with
  | false => rfl
  | true =>
    obtain ⟨l, hl, hn⟩ := List.any_eq_true.mp e
    obtain ⟨j, hj⟩ := List.getElem?_of_mem hl
    have hjl : j < fs.length := by rw [← h.1]; exact (List.getElem?_eq_some_iff.mp hj).1
    exact absurd (List.isEmpty_iff.mp hn) (h.2 j _ l (List.getElem?_eq_getElem hjl) hj).1
theorem letsTo_snoc {fs : List (Str × List Str)} {k : Nat} {L : List (List D)} (h : LetsTo fs k L) {f : Str × List Str} (hf : fs[k]? = some f) {e : List D} (h1 : e ≠ []) (h2 : e.Sublist (entD f)) : LetsTo fs (k + 1) (L ++ [e]) := by
  refine ⟨by rw [List.length_append, h.1]; rfl, fun j g x hg hx => ?_⟩
  by_cases hj : j < k
  · rw [List.getElem?_append_left (by rw [h.1]; exact hj)] at hx
    exact h.2 j g x hg hx
  · have hjk : j = k := by
      have := (List.getElem?_eq_some_iff.mp hx).1
      rw [List.length_append, h.1] at this
      have : j < k + 1 := this
      omega
    subst hjk
    rw [List.getElem?_append_right (by rw [h.1]; exact Nat.le_refl _), h.1, Nat.sub_self] at hx
    cases hx
    rw [hf] at hg
    cases hg
    exact ⟨h1, h2⟩
theorem rules_of {fs : List (Str × List Str)} {an : List Str} : ∀ {ys : List D}, (∀ y ∈ ys, ∃ r, RuleG fs an r ∧ y = ruleD r) → ∃ rs : List (List (List D) × Str), (∀ r ∈ rs, RuleG fs an r) ∧ ys = rs.map ruleD
  | [], _ => ⟨[], (fun _ h => by cases h), rfl⟩
  | y :: ys, h => by
    obtain ⟨c, hc, rfl⟩ := h y (List.mem_cons_self ..)
    obtain ⟨cs, hcs, rfl⟩ := rules_of fun z hz => h z (List.mem_cons_of_mem _ hz)
    refine ⟨c :: cs, fun z hz => ?_, rfl⟩
    rcases List.mem_cons.mp hz with rfl | hz
    · exact hc
    · exact hcs z hz
theorem eqv_q (k n v k' n' v' : Str) : PyData.eqv (.tuple [.str k, .str n, .str v]) (.tuple [.str k', .str n', .str v']) = decide (k = k' ∧ n = n' ∧ v = v') := by
  show ((k == k') && ((n == n') && ((v == v') && true))) = _
  rw [Bool.eq_iff_iff]
  simp
theorem eqv_tr : ∀ t u : Tr, PyData.eqv (trD t) (trD u) = true ↔ t = u
  | .say a, .say b => by
    show ((("say" : Str) == "say") && ((a == b) && true)) = true ↔ _
    simp
  | .say a, .ask k n v s y m => by
    refine ⟨fun h => ?_, fun h => nomatch h⟩
    have h' : ((("say" : Str) == "ask") && ((PyData.eqv (.str a) (.tuple [.str k, .str n, .str v])) && false)) = true := h
    rw [show (("say" : Str) == "ask") = false by decide +kernel] at h'
    cases h'
  | .ask k n v s y m, .say a => by
    refine ⟨fun h => ?_, fun h => nomatch h⟩
    have h' : ((("ask" : Str) == "say") && ((PyData.eqv (.tuple [.str k, .str n, .str v]) (.str a)) && false)) = true := h
    rw [show (("ask" : Str) == "say") = false by decide +kernel] at h'
    cases h'
  | .ask k n v s y m, .ask k' n' v' s' y' m' => by
    show ((("ask" : Str) == "ask") && (PyData.eqv (.tuple [.str k, .str n, .str v]) (.tuple [.str k', .str n', .str v']) && ((s == s') && (PyData.eqv (trD y) (trD y') && (PyData.eqv (trD m) (trD m') && true))))) = true ↔ _
    rw [eqv_q]
    simp only [Bool.and_eq_true, decide_eq_true_eq, beq_iff_eq, eqv_tr y y', eqv_tr m m', and_true, Tr.ask.injEq]
    exact ⟨fun ⟨_, ⟨a, b, c⟩, d, e, f⟩ => ⟨a, b, c, d, e, f⟩, fun ⟨a, b, c, d, e, f⟩ => ⟨trivial, ⟨a, b, c⟩, d, e, f⟩⟩
section
variable {fs : List (Str × List Str)} {an : List Str}
theorem cd_tr (F : Form fs an) {t : Tr} (h : TrOk fs an t) (hd : t.dep ≤ 40) : Cd (trD t) := (th_tree F t h).cd (by omega)
end
theorem allC_prod : ∀ fs : List (Str × List Str), allC fs = prodF (fs.map entD) := fun fs => by
  rw [← fold_whole]
  have : ∀ (gs : List (Str × List Str)) (bs : List (List D)), gs.foldl (fun bs f => longer bs (entD f)) bs = (gs.map entD).foldl longerC bs := fun gs => by
    induction gs with
    | nil => exact fun _ => rfl
    | cons g gs ih => exact fun bs => by rw [List.foldl_cons, List.map_cons, List.foldl_cons, ih]; congr 1
  exact this fs [[]]
theorem many_le {fs : List (Str × List Str)} (S : Small fs) : (prodF (fs.map entD)).length ≤ 125 ∧ manyC fs ≤ 125 := by
  have e : manyC fs = (prodF (fs.map entD)).length := by rw [← allC_prod, allC_len]
  have h1 := prod_len (fs.map entD) 5 fun e he => by
    obtain ⟨f, hf, rfl⟩ := List.mem_map.mp he
    have := S.2 f hf
    unfold entD
    rw [List.length_append, List.length_map]; show _ + 1 ≤ 5; omega
  have h2 : 5 ^ (fs.map entD).length ≤ 5 ^ 3 := Nat.pow_le_pow_right (by decide) (by rw [List.length_map]; exact S.1)
  rw [e]
  omega
noncomputable def posD (e : List D) (x : D) : Nat := e.idxOf x
def Bef (L : List (List D)) (c d : List D) : Prop := ∃ j : Nat, (∀ i, i < j → c[i]? = d[i]?) ∧ ∃ e x y, L[j]? = some e ∧ c[j]? = some x ∧ d[j]? = some y ∧ posD e x < posD e y
theorem pairwise_flat {α β : Type} {R : β → β → Prop} {S : α → α → Prop} {f : α → List β} : ∀ {l : List α}, l.Pairwise S → (∀ a ∈ l, (f a).Pairwise R) → (∀ a b, a ∈ l → b ∈ l → S a b → ∀ x ∈ f a, ∀ y ∈ f b, R x y) → (l.flatMap f).Pairwise R
  | [], _, _, _ => List.Pairwise.nil
  | a :: l, hs, h1, h2 => by
    rw [List.pairwise_cons] at hs
    rw [List.flatMap_cons, List.pairwise_append]
    refine ⟨h1 a (List.mem_cons_self ..), pairwise_flat hs.2 (fun b hb => h1 b (List.mem_cons_of_mem _ hb)) fun b c hb hc => h2 b c (List.mem_cons_of_mem _ hb) (List.mem_cons_of_mem _ hc), fun x hx y hy => ?_⟩
    obtain ⟨b, hb, hy⟩ := List.mem_flatMap.mp hy
    exact h2 a b (List.mem_cons_self ..) (List.mem_cons_of_mem _ hb) (hs.1 b hb) x hx y hy
theorem pos_pairwise : ∀ {e : List D}, e.Nodup → e.Pairwise fun x y => posD e x < posD e y := fun {e} h => by
  rw [List.pairwise_iff_getElem]
  intro i j hi hj hij
  unfold posD
  rw [h.idxOf_getElem i hi, h.idxOf_getElem j hj]
  exact hij
theorem prod_order : ∀ {L : List (List D)}, (∀ e ∈ L, e.Nodup) → (prodF L).Pairwise (Bef L)
  | [], _ => List.pairwise_singleton _ _
  | e :: L, h => by
    have ih := prod_order fun e he => h e (List.mem_cons_of_mem _ he)
    show (e.flatMap fun x => (prodF L).map (x :: ·)).Pairwise (Bef (e :: L))
    refine pairwise_flat (pos_pairwise (h e (List.mem_cons_self ..))) (fun x _ => ?_) fun x y _ _ hxy c hc d hd => ?_
    · rw [List.pairwise_map]
      refine ih.imp fun {c d} ⟨j, h1, e', x', y', h2, h3, h4, h5⟩ => ⟨j + 1, fun i hi => ?_, e', x', y', by simpa using h2, by simpa using h3, by simpa using h4, h5⟩
      cases i with
      | zero => rfl
      | succ i => simpa using h1 i (by omega)
    · obtain ⟨c', _, rfl⟩ := List.mem_map.mp hc
      obtain ⟨d', _, rfl⟩ := List.mem_map.mp hd
      exact ⟨0, fun i hi => by omega, e, x, y, rfl, rfl, rfl, hxy⟩
theorem entD_nodup {fs : List (Str × List Str)} {an : List Str} (F : Form fs an) {f : Str × List Str} (hf : f ∈ fs) : (entD f).Nodup := by
  unfold entD
  rw [List.nodup_append]
  refine ⟨?_, by simp, fun a ha b hb => ?_⟩
  · have hnd := (F.vs f hf).2.2.2.2
    rw [List.nodup_iff_pairwise_ne] at hnd ⊢
    rw [List.pairwise_map]
    exact hnd.imp fun h z => h (by injection z)
  · obtain ⟨z, _, rfl⟩ := List.mem_map.mp ha
    rw [List.mem_singleton.mp hb]
    exact fun z => nomatch z
theorem none_last {f : Str × List Str} {x : D} (hx : x ∈ entD f) : posD (entD f) x ≤ posD (entD f) .none := by
  have hn : PyData.none ∉ f.2.map PyData.str := fun z => by obtain ⟨_, _, e⟩ := List.mem_map.mp z; cases e
  have e : posD (entD f) .none = f.2.length := by
    unfold posD entD
    rw [List.idxOf_append, if_neg hn, List.length_map]
    simp
  rw [e]
  have := List.idxOf_lt_length_iff.mpr hx
  unfold posD
  unfold entD at this ⊢
  rw [List.length_append, List.length_map, List.length_singleton] at this
  omega
theorem head_val {fs : List (Str × List Str)} {an : List Str} (F : Form fs an) {c : List D} {l : List (List D)} (hs : (c :: l).Sublist (prodF (fs.map entD))) {j : Nat} (h1 : ∀ i, i < j → ∀ d ∈ l, d[i]? = c[i]?) {d : List D} (hd : d ∈ l) (h2 : d[j]? ≠ c[j]?) : ∃ f v, fs[j]? = some f ∧ v ∈ f.2 ∧ c[j]? = some (.str v) := by
  have hp := (prod_order (L := fs.map entD) fun e he => by
    obtain ⟨f, hf, rfl⟩ := List.mem_map.mp he
    exact entD_nodup F hf).sublist hs
  rw [List.pairwise_cons] at hp
  obtain ⟨k, k1, e, x, y, k2, k3, k4, k5⟩ := hp.1 d hd
  have hk : k = j := by
    rcases Nat.lt_trichotomy k j with hlt | he | hgt
    · have := h1 k hlt d hd
      rw [k3, k4] at this
      have := Option.some.inj this
      subst this
      omega
    · exact he
    · exact absurd (k1 j hgt).symm h2
  subst hk
  rw [List.getElem?_map] at k2
  obtain ⟨f, hf, rfl⟩ := Option.map_eq_some_iff.mp k2
  have hcm : c ∈ prodF (fs.map entD) := hs.subset (List.mem_cons_self ..)
  have hdm : d ∈ prodF (fs.map entD) := hs.subset (List.mem_cons_of_mem _ hd)
  have hxm := (InL_get ((mem_prod _ c).mp hcm)).2 k _ x (by rw [List.getElem?_map, hf]; rfl) k3
  have hym := (InL_get ((mem_prod _ d).mp hdm)).2 k _ y (by rw [List.getElem?_map, hf]; rfl) k4
  have hyl := none_last hym
  rcases List.mem_append.mp hxm with hx | hx
  · obtain ⟨v, hv, rfl⟩ := List.mem_map.mp hx
    exact ⟨f, v, hf, hv, k3⟩
  · rw [List.mem_singleton.mp hx] at k5
    omega
noncomputable def cntJ (l : List (List D)) (e : List D) (j : Nat) : Nat := (e.filter fun x => decide (∃ c ∈ l, c[j]? = some x)).length
noncomputable def mu (l : List (List D)) : List (List D) → Nat → Nat
  | [], _ => 0
  | e :: L, j => cntJ l e j + mu l L (j + 1)
theorem filter_len_mono {α : Type} {p q : α → Bool} : ∀ {l : List α}, (∀ x ∈ l, p x = true → q x = true) → (l.filter p).length ≤ (l.filter q).length
  | [], _ => Nat.le_refl _
  | x :: l, h => by
    have ih := filter_len_mono (l := l) fun y hy => h y (List.mem_cons_of_mem _ hy)
    rw [List.filter_cons, List.filter_cons]
    cases hp : p x with
    | true => rw [if_pos rfl, if_pos (h x (List.mem_cons_self ..) hp)]; simpa using ih
    | false =>
      rw [if_neg (by decide)]
      split
      · simp; omega
      · exact ih
theorem filter_len_lt {α : Type} {p q : α → Bool} : ∀ {l : List α}, (∀ x ∈ l, p x = true → q x = true) → (∃ x ∈ l, q x = true ∧ p x = false) → (l.filter p).length < (l.filter q).length
  | [], _, ⟨x, hx, _⟩ => by cases hx
  | x :: l, h, ⟨y, hy, hq, hp⟩ => by
    have h' := fun y hy => h y (List.mem_cons_of_mem x hy)
    have m := filter_len_mono (l := l) h'
    rw [List.filter_cons, List.filter_cons]
    rcases List.mem_cons.mp hy with rfl | hy
    · rw [if_pos hq, if_neg (by rw [hp]; decide)]
      simp; omega
    · have ih := filter_len_lt (l := l) h' ⟨y, hy, hq, hp⟩
      cases hpx : p x with
      | true => rw [if_pos rfl, if_pos (h x (List.mem_cons_self ..) hpx)]; simpa using ih
      | false =>
        rw [if_neg (by decide)]
        split
        · simp; omega
        · exact ih
theorem mu_mono {l l' : List (List D)} (h : ∀ c ∈ l, c ∈ l') : ∀ (L : List (List D)) (j : Nat), mu l L j ≤ mu l' L j
  | [], _ => Nat.le_refl _
  | e :: L, j => Nat.add_le_add (filter_len_mono fun x _ hx => decide_eq_true (let ⟨c, hc, hx⟩ := of_decide_eq_true hx; ⟨c, h c hc, hx⟩)) (mu_mono h L (j + 1))
theorem mu_lt {l l' : List (List D)} (h : ∀ c ∈ l, c ∈ l') {e : List D} {x : D} : ∀ {L : List (List D)} {i j : Nat}, L[i]? = some e → x ∈ e → (∃ c ∈ l', c[j + i]? = some x) → (∀ c ∈ l, c[j + i]? ≠ some x) → mu l L j < mu l' L j
  | [], i, j, he, _, _, _ => by simp at he
  | e0 :: L, 0, j, he, hx, h1, h2 => by
    simp only [List.getElem?_cons_zero, Option.some.injEq] at he
    subst he
    refine Nat.add_lt_add_of_lt_of_le (filter_len_lt (fun y _ hy => decide_eq_true (let ⟨c, hc, hy⟩ := of_decide_eq_true hy; ⟨c, h c hc, hy⟩)) ⟨x, hx, decide_eq_true h1, decide_eq_false fun ⟨c, hc, z⟩ => h2 c hc z⟩) (mu_mono h L (j + 1))
  | e0 :: L, i + 1, j, he, hx, h1, h2 => by
    simp only [List.getElem?_cons_succ] at he
    have ej : j + (i + 1) = j + 1 + i := by omega
    rw [ej] at h1
    refine Nat.add_lt_add_of_le_of_lt (filter_len_mono fun y _ hy => decide_eq_true (let ⟨c, hc, hy⟩ := of_decide_eq_true hy; ⟨c, h c hc, hy⟩)) (mu_lt h he hx h1 fun c hc => by rw [← ej]; exact h2 c hc)
theorem mu_le : ∀ (l L : List (List D)) (j : Nat), (∀ e ∈ L, e.length ≤ 5) → mu l L j ≤ 5 * L.length
  | l, [], j, _ => Nat.zero_le _
  | l, e :: L, j, h => by
    have h1 := List.length_filter_le (fun x => decide (∃ c ∈ l, c[j]? = some x)) e
    have h2 := h e (List.mem_cons_self ..)
    have h3 := mu_le l L (j + 1) fun e he => h e (List.mem_cons_of_mem _ he)
    show cntJ l e j + mu l L (j + 1) ≤ 5 * (L.length + 1)
    unfold cntJ
    omega
def pickN {α : Type} (l : List α) (p : α → Bool) : List Nat := (List.range l.length).filter fun j => match l[j]? with | some a => p a | none => false
theorem pickN_cons {α : Type} (a : α) (l : List α) (p : α → Bool) : pickN (a :: l) p = (if p a then [0] else []) ++ (pickN l p).map (· + 1) := by
  unfold pickN
  rw [List.length_cons, List.range_succ_eq_map, List.filter_cons]
  have e : ((List.range l.length).map Nat.succ).filter (fun j => match (a :: l)[j]? with | some a => p a | none => false) = ((List.range l.length).filter fun j => match l[j]? with | some a => p a | none => false).map (· + 1) := by
    rw [List.filter_map]; rfl
  rw [e]
  show (if p a = true then _ else _) = _
  split <;> rfl
theorem pickN_get {α : Type} (p : α → Bool) : ∀ l : List α, (pickN l p).map (fun j => l[j]?) = (l.filter p).map some
  | [] => rfl
  | a :: l => by
    rw [pickN_cons, List.map_append, List.map_map, List.filter_cons]
    have e : ((fun j => (a :: l)[j]?) ∘ fun x => x + 1) = fun j => l[j]? := by funext j; rfl
    rw [e, pickN_get p l]
    cases hp : p a with
    | true => rw [if_pos rfl, if_pos rfl]; rfl
    | false => rw [if_neg (by decide), if_neg (by decide)]; rfl
theorem side_pick (fs : List (Str × List Str)) (k n v st : Str) (rs : List (List D × Str)) (w : Str) : sideIx fs k n v st rs w = (pickN rs fun r => decide (sideS fs k n v st r.1 = w)).map fun (j : Nat) => .int (j : Int) := by
  unfold sideIx pickN intsTo
  rw [List.filter_map]
  congr 1
  apply List.filter_congr
  intro j hj
  have hjl : j < rs.length := by simpa using hj
  show onSide fs k n v st rs w (.int (j : Int)) = _
  rw [List.getElem?_eq_getElem hjl, onSide_at (List.getElem?_eq_getElem hjl)]
noncomputable def rowsD (l : List (List D)) (ans : List D → Str) : List D := l.map fun c => rowD (c, ans c)
def sp_numbers_on : SpT := fun ds Q => ∃ (w : Str) (ss : List Str), ds = [.str w, .list (ss.map PyData.str)] ∧ ss.length ≤ 500 ∧ Q (.list ((intsTo ss.length).filter (isAt ss w)))
def sp_parted : SpT := fun ds Q => ∃ (fs : List (Str × List Str)) (an : List Str) (k n v st : Str) (rs : List (List D × Str)), ds = [frmD fs an, .tuple [.str k, .str n, .str v], .str st, .list (rs.map rowD)] ∧ Form fs an ∧ isQ fs (.tuple [.str k, .str n, .str v]) = true ∧ (st = "yes" ∨ st = "no") ∧ (∀ r ∈ rs, isCase fs (.tuple r.1) = true) ∧ rs.length ≤ 500 ∧
  Q (.tuple [.list (sideIx fs k n v st rs "yes"), .list (sideIx fs k n v st rs "no")])
def sp_rows_at : SpT := fun ds Q => ∃ (rs : List (List D × Str)) (p : List D × Str → Bool), ds = [.list (rs.map rowD), .list ((pickN rs p).map fun (j : Nat) => .int (j : Int))] ∧ rs.length ≤ 500 ∧ Q (.list ((rs.filter p).map rowD))
def sp_fits : SpT := fun ds Q => ∃ (fs : List (Str × List Str)) (an : List Str) (r : List (List D) × Str) (c : List D), ds = [frmD fs an, ruleD r, .tuple c] ∧ Form fs an ∧ LetsOk fs r.1 ∧ isCase fs (.tuple c) = true ∧ Q (.bool (InL r.1 c))
def sp_answered : SpT := fun ds Q => ∃ (fs : List (Str × List Str)) (an : List Str) (rs : List (List (List D) × Str)) (c : List D), ds = [frmD fs an, .list (rs.map ruleD), .tuple c] ∧ Form fs an ∧ (∀ r ∈ rs, LetsOk fs r.1) ∧ isCase fs (.tuple c) = true ∧ Q (ansD (rs.find? (fun r => InL r.1 c)))
noncomputable def ansOf (rs : List (List (List D) × Str)) (c : List D) : Str := match rs.find? (fun r => InL r.1 c) with | some r => r.2 | none => ""
def AllAns (fs : List (Str × List Str)) (rs : List (List (List D) × Str)) : Prop := ∀ c ∈ prodF (fs.map entD), rs.find? (fun r => InL r.1 c) ≠ none
theorem ansD_of {fs : List (Str × List Str)} {rs : List (List (List D) × Str)} (h : AllAns fs rs) {c : List D} (hc : c ∈ prodF (fs.map entD)) : ansD (rs.find? (fun r => InL r.1 c)) = .str (ansOf rs c) := by
  unfold ansOf
  cases hx : rs.find? (fun r => InL r.1 c) with
  | none => exact absurd hx (h c hc)
  | some r => rfl
theorem ansOf_mem {fs : List (Str × List Str)} {an : List Str} {rs : List (List (List D) × Str)} (h : AllAns fs rs) (ha : ∀ r ∈ rs, r.2 ∈ an) {c : List D} (hc : c ∈ prodF (fs.map entD)) : ansOf rs c ∈ an := by
  unfold ansOf
  cases hx : rs.find? (fun r => InL r.1 c) with
  | none => exact absurd hx (h c hc)
  | some r => exact ha r (List.mem_of_find?_eq_some hx)
noncomputable def sp_all_answered (w : World) : SpT := fun ds Q => ∃ (fs : List (Str × List Str)) (an : List Str) (rs : List (List (List D) × Str)), ds = [frmD fs an, .list (rs.map ruleD), .int 500] ∧ Form fs an ∧ Small fs ∧ (∀ r ∈ rs, LetsOk fs r.1) ∧ AllAns fs rs ∧ Q (dicD w ((prodF (fs.map entD)).map fun c => (.tuple c, .str (ansOf rs c))))
def TreeFor (fs : List (Str × List Str)) (an : List Str) (l : List (List D)) (ans : List D → Str) (n : Nat) (t : Tr) : Prop := TrOk fs an t ∧ t.dep ≤ n ∧ t.kn + 1 ≤ l.length ∧ ∀ c ∈ l, ansL fs t c = ans c
def sp_tree_of : SpT := fun ds Q => ∃ (fs : List (Str × List Str)) (an : List Str) (rs : List (List (List D) × Str)), ds = [frmD fs an, .list (rs.map ruleD)] ∧ Form fs an ∧ Small fs ∧ (∀ r ∈ rs, LetsOk fs r.1 ∧ r.2 ∈ an) ∧ AllAns fs rs ∧ ∀ t, TreeFor fs an (prodF (fs.map entD)) (ansOf rs) 15 t → Q (trD t)
def sp_tree_for_all_lt (dd : Nat) : SpT := fun ds Q => ∃ (fs : List (Str × List Str)) (an : List Str) (l : List (List D)) (ans : List D → Str), ds = [frmD fs an, .list (rowsD l ans)] ∧ Form fs an ∧ Small fs ∧ l ≠ [] ∧ l.Sublist (prodF (fs.map entD)) ∧ (∀ c ∈ l, ans c ∈ an) ∧ mu l (fs.map entD) 0 < dd ∧ mu l (fs.map entD) 0 ≤ 15 ∧
  ∀ t, TreeFor fs an l ans (mu l (fs.map entD) 0) t → Q (trD t)
def sp_tree_for_all : SpT := sp_tree_for_all_lt 16
theorem never_tree_for_all {ds : List D} {Q : D → Prop} (h : sp_tree_for_all_lt 0 ds Q) : False := by
  obtain ⟨_, _, _, _, _, _, _, _, _, _, h, _⟩ := h
  omega
def sp_first_apart : SpT := fun ds Q => ∃ (fs : List (Str × List Str)) (an : List Str) (c : List D) (l : List (List D)) (ans : List D → Str), ds = [frmD fs an, .list (rowsD (c :: l) ans)] ∧ Form fs an ∧ Small fs ∧ (c :: l).Sublist (prodF (fs.map entD)) ∧ (∃ d ∈ l, d ≠ c) ∧
  ∀ (j : Nat) (f : Str × List Str) (v : Str), fs[j]? = some f → v ∈ f.2 → c[j]? = some (.str v) → (∃ d ∈ l, d[j]? ≠ some (.str v)) → Q (.tuple [.str "is", .str f.1, .str v])
def rowI (rs : List (List D × Str)) (x : D) : D := match x with | .int i => (match L2.atI rs i with | some r => rowD r | none => .none) | _ => .none
theorem rowI_at {rs : List (List D × Str)} {j : Nat} {r : List D × Str} (h : rs[j]? = some r) : rowI rs (.int (j : Int)) = rowD r := by
  show (match L2.atI rs (j : Int) with | some r => rowD r | none => .none) = _
  rw [L2.atI_nat h]
theorem pickN_lt {α : Type} {l : List α} {p : α → Bool} {j : Nat} (h : j ∈ pickN l p) : j < l.length := by
  have := (List.mem_filter.mp h).1
  simpa using this
theorem pickN_le {α : Type} (l : List α) (p : α → Bool) : (pickN l p).length ≤ l.length := by
  have := List.length_filter_le (fun j => match l[j]? with | some a => p a | none => false) (List.range l.length)
  rw [List.length_range] at this
  exact this
theorem rowI_pick (rs : List (List D × Str)) (p : List D × Str → Bool) : ((pickN rs p).map fun (j : Nat) => PyData.int (j : Int)).map (rowI rs) = (rs.filter p).map rowD := by
  have h := congrArg (fun z => z.map fun o : Option (List D × Str) => match o with | some r => rowD r | none => .none) (pickN_get p rs)
  rw [List.map_map, List.map_map] at h
  rw [List.map_map]
  refine Eq.trans ?_ h
  apply List.map_congr_left
  intro j hj
  have hjl := pickN_lt hj
  have hr : rs[j]? = some rs[j] := List.getElem?_eq_getElem hjl
  show rowI rs (.int (j : Int)) = (match rs[j]? with | some r => rowD r | none => .none)
  rw [rowI_at hr, hr]
theorem prod_nd {fs : List (Str × List Str)} {an : List Str} (F : Form fs an) : (prodF (fs.map entD)).Nodup := by
  have h := prod_order (L := fs.map entD) fun e he => by
    obtain ⟨f, hf, rfl⟩ := List.mem_map.mp he
    exact entD_nodup F hf
  rw [List.nodup_iff_pairwise_ne]
  refine h.imp fun {c d} ⟨j, _, e, x, y, _, h3, h4, h5⟩ z => ?_
  subst z
  rw [h3] at h4
  have := Option.some.inj h4
  subst this
  omega
theorem put_next {l : List (List D)} {g : List D → D} (hn : l.Nodup) {k : Nat} {c : List D} (h : l[k]? = some c) : putD ((l.take k).map fun c => (PyData.tuple c, g c)) (.tuple c) (g c) = (l.take (k + 1)).map fun c => (PyData.tuple c, g c) := by
  unfold putD
  have hnot : PyData.tuple c ∉ ((l.take k).map fun c => (PyData.tuple c, g c)).map (·.1) := fun z => by
    obtain ⟨kv, hkv, e⟩ := List.mem_map.mp z
    obtain ⟨c', hc', rfl⟩ := List.mem_map.mp hkv
    have : c' = c := by injection e
    subst this
    obtain ⟨i, hi⟩ := List.getElem?_of_mem hc'
    have hil := (List.getElem?_eq_some_iff.mp hi).1
    rw [List.length_take] at hil
    rw [List.getElem?_take, if_pos (by omega)] at hi
    have := (List.getElem?_inj (i := i) (j := k) (List.getElem?_eq_some_iff.mp hi).1 hn).mp (hi.trans h.symm)
    omega
  rw [if_neg hnot, List.take_add_one, h, List.map_append]; rfl
theorem mu_small {fs : List (Str × List Str)} (S : Small fs) (l : List (List D)) : mu l (fs.map entD) 0 ≤ 15 := by
  have := mu_le l (fs.map entD) 0 fun e he => by
    obtain ⟨f, hf, rfl⟩ := List.mem_map.mp he
    have := S.2 f hf
    unfold entD
    rw [List.length_append, List.length_map]; show _ + 1 ≤ 5; omega
  rw [List.length_map] at this
  have := S.1
  omega
theorem key_case {fs : List (Str × List Str)} {an : List Str} (F : Form fs an) {c : List D} (h : isCase fs (.tuple c) = true) : KeyT (.tuple c) := by
  have he : ∀ x ∈ c, hk x = true := fun x hx => by
    obtain ⟨hl, hv⟩ := case_get h
    obtain ⟨k, hkx⟩ := List.getElem?_of_mem hx
    have hk' : k < fs.length := by rw [← hl]; exact (List.getElem?_eq_some_iff.mp hkx).1
    have := hv k fs[k] x (List.getElem?_eq_getElem hk') hkx
    cases x with
    | none => rfl
    | str z => exact (th_name (F.vals (List.getElem_mem hk') z (of_decide_eq_true this)) (n := 8) (m := 0) (Nat.le_refl _)).lay
    | _ => cases this
  have hall : ∀ {l : List D}, (∀ x ∈ l, hk x = true) → hkAll l = true := fun {l} => by
    induction l with
    | nil => exact fun _ => rfl
    | cons a l ih =>
      intro hh
      show (hk a && hkAll l) = true
      rw [hh a (List.mem_cons_self ..), ih fun x hx => hh x (List.mem_cons_of_mem _ hx)]; rfl
  have ht := th_tup (N := 50) (M := 1) 8 0 5 (case_items F h (Nat.le_refl 8)) (by rw [(case_get h).1]; exact F.n5) (by decide) (by decide)
  exact ⟨⟨hall he, Nat.le_trans ht.depth (by decide)⟩, c, rfl⟩
theorem dfold_mem : ∀ (ys l : List Str) (z : Str), z ∈ ys.foldl dstep l ↔ z ∈ l ∨ z ∈ ys
  | [], l, z => by simp
  | y :: ys, l, z => by rw [List.foldl_cons, dfold_mem ys, dstep_mem, List.mem_cons, or_assoc]
theorem dd_one (y : Str) (ys : List Str) : (dd (y :: ys)).length = 1 ↔ ∀ z ∈ ys, z = y := by
  constructor
  · intro h z hz
    obtain ⟨a, ha⟩ := List.length_eq_one_iff.mp h
    have m : ∀ x, x ∈ y :: ys → x = a := fun x hx => by
      have : x ∈ dd (y :: ys) := (dfold_mem _ _ _).mpr (.inr hx)
      rw [ha] at this
      exact List.mem_singleton.mp this
    rw [m z (List.mem_cons_of_mem _ hz), m y (List.mem_cons_self ..)]
  · intro h
    have : ∀ l : List Str, (∀ z ∈ l, z = y) → l.foldl dstep [y] = [y] := fun l => by
      induction l with
      | nil => exact fun _ => rfl
      | cons a l ih =>
        intro hh
        rw [List.foldl_cons, hh a (List.mem_cons_self ..)]
        have e : dstep [y] y = [y] := by unfold dstep; rw [if_pos (List.mem_singleton.mpr rfl)]
        rw [e]; exact ih fun z hz => hh z (List.mem_cons_of_mem _ hz)
    show (ys.foldl dstep (dstep [] y)).length = 1
    have e : dstep [] y = [y] := by unfold dstep; rw [if_neg (by simp)]; rfl
    rw [e, this ys h]; rfl
theorem side_is {fs : List (Str × List Str)} {an : List Str} (F : Form fs an) {j : Nat} {f : Str × List Str} {v : Str} (hf : fs[j]? = some f) (hv : v ∈ f.2) {c : List D} (hc : isCase fs (.tuple c) = true) : sideS fs "is" f.1 v "no" c = (if c[j]? = some (.str v) then ("yes" : Str) else "no") ∧ atB c (jx fs f.1) (sideG fs "is" f.1 v "no") = decide (c[j]? = some (.str v)) ∧ isQ fs (.tuple [.str "is", .str f.1, .str v]) = true := by
  have hfm := List.mem_of_getElem? hf
  have hq : isQ fs (.tuple [.str "is", .str f.1, .str v]) = true := isQ_mk hfm (by
    show (decide (v ∈ f.2) && (decide (("is" : Str) = "is") || _)) = true
    rw [decide_eq_true hv]; rfl)
  obtain ⟨hl, hcv⟩ := case_get hc
  have hjc : j < c.length := by rw [hl]; exact (List.getElem?_eq_some_iff.mp hf).1
  have hcj : c[j]? = some c[j] := List.getElem?_eq_getElem hjc
  have hok := hcv j f _ hf hcj
  have e1 : sideS fs "is" f.1 v "no" c = (if c[j]? = some (.str v) then ("yes" : Str) else "no") := by
    rw [sideS_at F hf hcj rfl, hcj]
    generalize c[j] = x at hok
    cases x with
    | none => rw [if_neg (by intro z; cases z)]; rfl
    | str z =>
      have e0 : sideOf f "is" v "no" (.str z) = if z = v then ("yes" : Str) else "no" := by
        unfold sideOf
        dsimp only
        rw [if_pos rfl]
      rw [e0]
      by_cases e : z = v
      · rw [if_pos e, if_pos (by rw [e])]
      · rw [if_neg e, if_neg (by intro q; injection q with q; injection q with q; exact e q)]
    | _ => cases hok
  refine ⟨e1, ?_, hq⟩
  have e2 := sideS_atB F hq (.inr rfl) hc
  rw [e1] at e2
  have ny : ¬ ("no" : Str) = "yes" := by decide +kernel
  by_cases h : c[j]? = some (.str v)
  · rw [if_pos h] at e2
    rw [decide_eq_true h]
    cases hb : atB c (jx fs f.1) (sideG fs "is" f.1 v "no") with
    | true => rfl
    | false => rw [hb, if_neg (by decide)] at e2; exact absurd e2.symm ny
  · rw [if_neg h] at e2
    rw [decide_eq_false h]
    cases hb : atB c (jx fs f.1) (sideG fs "is" f.1 v "no") with
    | false => rfl
    | true => rw [hb, if_pos rfl] at e2; exact absurd e2 ny
theorem filt_two {α : Type} (p : α → Bool) : ∀ l : List α, (l.filter p).length + (l.filter fun x => !p x).length = l.length
  | [] => rfl
  | a :: l => by
    have := filt_two p l
    rw [List.filter_cons, List.filter_cons, List.length_cons]
    cases p a <;> simp <;> omega
noncomputable def rowP (ans : List D → Str) (c : List D) : List D × Str := (c, ans c)
theorem rowsD_eq (l : List (List D)) (ans : List D → Str) : rowsD l ans = (l.map (rowP ans)).map rowD := by unfold rowsD; rw [List.map_map]; rfl
theorem rows_filt (l : List (List D)) (ans : List D → Str) (p : List D → Bool) : ((l.map (rowP ans)).filter fun r => p r.1) = (l.filter p).map (rowP ans) := by
  rw [List.filter_map]; rfl
theorem _root_.L2.Room.u9 {k : Nat} {A : Around} (r : Room k A) : A.units + 9 < cLine := by have := r.un; omega
def sp__law_knots_lt (dd : Nat) : SpT := fun ds Q => ∃ (fs : List (Str × List Str)) (an : List Str) (t : Tr) (deep : Nat), ds = [frmD fs an, trD t, .int (deep : Int)] ∧ Form fs an ∧ TrOk fs an t ∧ t.dep + deep ≤ 30 ∧ t.dep < dd ∧ t.dep ≤ 15 ∧ Q (.int (t.kn : Int))
def sp__law_knots : SpT := sp__law_knots_lt 16
theorem never__law_knots {ds : List D} {Q : D → Prop} (h : sp__law_knots_lt 0 ds Q) : False := by
  obtain ⟨_, _, _, _, _, _, _, _, h, _⟩ := h
  omega
def sp__law_right : SpT := fun ds Q => ∃ (fs : List (Str × List Str)) (an : List Str) (rs : List (List (List D) × Str)) (t : Tr), ds = [frmD fs an, .list (rs.map ruleD), trD t] ∧ Form fs an ∧ Small fs ∧ (∀ r ∈ rs, LetsOk fs r.1) ∧ AllAns fs rs ∧ TreeFor fs an (prodF (fs.map entD)) (ansOf rs) 15 t ∧ Q (.bool true)
theorem seq_dnew {w : World} {u : STt} {DT : EndsT} {σ : List Sl} {i : Nat} (hi : i < σ.length) (hn : ∀ (j : Nat) (hs : List Int) (kvs : List (D × D)), σ[j]? ≠ some (.dic hs kvs)) (k : u DT (σ.set i (dicS w []))) : sSeq (sDNew i) u DT σ := ⟨hi, hn, k⟩
theorem seq_dput {w : World} {tk tv : ET} {u : STt} {DT : EndsT} {σ : List Sl} {i : Nat} {kvs : List (D × D)} (k v : D) (h : σ[i]? = some (dicS w kvs)) (hv : ∀ q : D → Prop, q v → tv σ q) (hk : ∀ q : D → Prop, q k → tk σ q) (h1 : KeyT k) (h2 : ∀ kv ∈ kvs, KeyOk kv.1) (h3 : kvs.length ≤ 100000) (kk : u DT (σ.set i (dicS w (putD kvs k v)))) : sSeq (sDPutO w i tk tv) u DT σ := ⟨kvs, h, hv _ (hk _ ⟨h1, h2, h3, kk⟩)⟩
theorem ent_case {fs : List (Str × List Str)} {an : List Str} (F : Form fs an) {c : List D} (h : isCase fs (.tuple c) = true) {j : Nat} {x : D} (hx : c[j]? = some x) : Ent x := by
  obtain ⟨hl, hv⟩ := case_get h
  have hj : j < fs.length := by rw [← hl]; exact (List.getElem?_eq_some_iff.mp hx).1
  have := hv j fs[j] x (List.getElem?_eq_getElem hj) hx
  cases x with
  | none => exact .inl rfl
  | str z => exact .inr ⟨z, F.vals (List.getElem_mem hj) z (of_decide_eq_true this), rfl⟩
  | _ => cases this
theorem rows_at0 (c : List D) (l : List (List D)) (ans : List D → Str) : L2.atI (rowsD (c :: l) ans) 0 = some (rowD (c, ans c)) := L2.atI_nat (xs := rowsD (c :: l) ans) (j := 0) rfl
theorem atI_neg {ys : List Str} (h : 0 < ys.length) : ∃ v, ys[ys.length - 1]? = some v ∧ L2.atI (ys.map PyData.str) (-1) = some (.str v) := by
  obtain ⟨xs, v, rfl⟩ : ∃ xs v, ys = xs ++ [v] := ⟨ys.dropLast, ys.getLast (fun e => by rw [e] at h; cases h), (List.dropLast_concat_getLast _).symm⟩
  refine ⟨v, by simp, ?_⟩
  rw [List.map_append]
  exact L2.atI_last _ _
theorem filt_name : ∀ {l : List (Str × List Str)} {f : Str × List Str}, (l.map (·.1)).Nodup → f ∈ l → l.filter (fun g => decide (g.1 = f.1)) = [f]
  | [], f, _, h => by cases h
  | g :: l, f, hn, h => by
    rw [List.map_cons, List.nodup_cons] at hn
    rw [List.filter_cons]
    rcases List.mem_cons.mp h with rfl | h
    · rw [if_pos (decide_eq_true rfl)]
      congr 1
      rw [List.filter_eq_nil_iff]
      intro x hx
      have : ¬ x.1 = f.1 := fun e => hn.1 (List.mem_map.mpr ⟨x, hx, e⟩)
      simpa using this
    · have : ¬ g.1 = f.1 := fun e => hn.1 (List.mem_map.mpr ⟨f, h, e.symm⟩)
      rw [if_neg (by simpa using this)]
      exact filt_name hn.2 h
def nameB (n : Str) (x : D) : Bool := match x with | .tuple [.str z, _] => decide (z = n) | _ => false
def valsD (x : D) : D := match x with | .tuple [_, vs] => vs | _ => .none
theorem vals_one {fs : List (Str × List Str)} {an : List Str} (F : Form fs an) {f : Str × List Str} (hf : f ∈ fs) : ((fs.map fldD).filter (nameB f.1)).map valsD = [.tuple (f.2.map PyData.str)] := by
  rw [List.filter_map]
  have e : fs.filter (nameB f.1 ∘ fldD) = [f] := filt_name F.nd.2.2 hf
  rw [e]; rfl
theorem upto_last {f : Str × List Str} (hn : f.2.Nodup) {v w : Str} (h : f.2.idxOf v + 1 < f.2.length) (hw : f.2[f.2.length - 1]? = some w) : v ≠ w := fun e => by
  subst e
  obtain ⟨hl, hv⟩ := List.getElem?_eq_some_iff.mp hw
  have := hn.idxOf_getElem _ hl
  rw [hv] at this
  omega
theorem nin_strs {ys : List Str} {z : Str} (h : z ∈ ys) : (!inD (.str z) (.tuple (ys.map PyData.str))) = false := by
  have e : inD (.str z) (.tuple (ys.map PyData.str)) = isAns ys (.str z) := any_strs _ _
  rw [e]
  have : isAns ys (.str z) = true := decide_eq_true h
  rw [this]; rfl
theorem nm_yn2 : ∀ y ∈ (["yes", "no"] : List Str), nmS y = true := fun y hy => by
  rcases List.mem_cons.mp hy with rfl | hy
  · exact nm_yes
  · rw [List.mem_singleton.mp hy]; exact nm_no
theorem nm_iu2 : ∀ y ∈ (["is", "upto"] : List Str), nmS y = true := fun y hy => by
  rcases List.mem_cons.mp hy with rfl | hy
  · exact nm_is
  · rw [List.mem_singleton.mp hy]; exact nm_upto
theorem isT_tup (xs : List D) : isT "tuple" (.tuple xs) = true := rfl
theorem seq_ifN {c : TTt} {ta u : STt} {DT : EndsT} {σ : List Sl} (R : Bool → Prop) (P : List Sl → Prop) (h : ∀ q : Bool → Prop, (∀ b, R b → q b) → c σ q) (ha : R true → ∀ DT' : EndsT, (∀ σ', P σ' → DT'.nx σ') → ta DT' σ) (hb : R false → P σ) (hu : ∀ σ', P σ' → u DT σ') : sSeq (sIf c ta sNext) u DT σ := h _ fun b hr => by
  cases b with
  | true => exact ha hr { DT with nx := u DT } hu
  | false => exact hu _ (hb hr)
theorem nil_whole (fs : List (Str × List Str)) : anyNil (fs.map entD) = false := by
  cases h : anyNil (fs.map entD) with
  | false => rfl
  | true =>
    have := manyC_pos fs
    rw [← allC_len, allC_prod, (prod_nil _).mpr h] at this
    cases this
theorem all_snoc {fs : List (Str × List Str)} (rs : List (List (List D) × Str)) (a : Str) : AllAns fs (rs ++ [(fs.map entD, a)]) := fun c hc z => by
  rw [List.find?_eq_none] at z
  have := z (fs.map entD, a) (List.mem_append_right _ (List.mem_singleton.mpr rfl))
  exact this ((mem_prod _ c).mp hc)
noncomputable def ansX (rs : List (List (List D) × Str)) (x : D) : D := match x with | .tuple c => ansD (rs.find? (fun r => InL r.1 c)) | _ => .none

end K64

namespace K64
open PySem L2 TL

section
variable {P : Program} {w : World} {K : PySem.W.Frag} {mg : Str → Option Value} {base : Heap} {A : Adr}
theorem sc_entries_of : FnScope ["field"] ["field"] (defScope (top 17)) := ⟨rfl, rfl, rfl, by decide +kernel, rfl, by decide +kernel, by decide +kernel⟩
set_option maxHeartbeats 4000000 in
theorem ok_entries_of (T : Txt K mg A) : FnOk P w K mg base CX0 1 A.a_entries_of A.f_entries_of ["field"] (liftSp K sp_entries_of) := by
  refine fnT T.F_entries_of sc_entries_of (fun ds Q h => by obtain ⟨f, rfl, hf, h⟩ := h; rfl) fun cdv Ar outer s H E hr ds Q h => ?_
  obtain ⟨f, rfl, hf, h⟩ := h
  have nd := sc_entries_of.nd
  refine ⟨_, (st_one (st_ret (et_op op_addAny o_add (et_ix ix_seq o_ix (et_v 0) et_int) (et_tup (at_cons et_non at_nil))))), ?_⟩
  show sRet _ _ [.val (fldD f)]
  refine ⟨_, rfl, _, rfl, Nat.le_of_ble_eq_true rfl, ?_, h⟩
  rw [List.length_map]
  simp only [List.length_cons, List.length_nil]
  omega

theorem sc_values_held : FnScope ["question", "field"] ["question", "field"] (defScope (top 4)) := ⟨rfl, rfl, rfl, by decide +kernel, rfl, by decide +kernel, by decide +kernel⟩
set_option maxHeartbeats 4000000 in
theorem ok_values_held (T : Txt K mg A) : FnOk P w K mg base CX0 1 A.a_values_held A.f_values_held ["question", "field"] (liftSp K sp_values_held) := by
  refine fnT T.F_values_held sc_values_held (fun ds Q h => by obtain ⟨k, n, v, f, rfl, hn, hv, hl, h⟩ := h; rfl) fun cdv Ar outer s H E hr ds Q h => ?_
  obtain ⟨k, n, v, f, rfl, hn, hv, hl, h⟩ := h
  have nd := sc_values_held.nd
  refine ⟨_, (st_cons (st_if (tt_cmp op_eq o_eq (et_ix ix_seq o_ix (et_v 0) et_int) et_str)
  (st_one (st_ret (et_tup (at_cons (et_ix ix_seq o_ix (et_v 0) et_int) at_nil))))
  st_nil)
  (st_one (st_ret (et_slice sl_any o_sl (et_ix ix_seq o_ix (et_v 1) et_int) ot_none (ot_some (et_op op_addAny o_add (et_index (et_ix ix_seq o_ix (et_v 1) et_int) (at_cons (et_ix ix_seq o_ix (et_v 0) et_int) at_nil) (fun h ha => pe_bm PySem.F.plainAttrs_tuple PySem.F.slot_tuple_index PySem.F.type_tuple_index (mt_index hr) h ha)) et_int)))))), ?_⟩
  show sSeq _ _ _ [.val (.tuple [.str k, .str n, .str v]), .val (fldD f)]
  unfold held at h
  refine seq_if (fun b => b = decide (k = "is")) (fun q hq => ⟨_, rfl, _, rfl, hq _ rfl⟩) (fun hT => ?_) fun hF => ?_
  · rw [if_pos (of_decide_eq_true hT.symm)] at h
    exact ⟨_, rfl, _, rfl, Nat.le_of_ble_eq_true rfl, h⟩
  · try unfold sNext
    dsimp only
    rw [if_neg (of_decide_eq_false hF.symm)] at h
    refine ⟨_, rfl, _, rfl, _, rfl, _, rfl, _, rfl, _, rfl, _, rfl, _, _, rfl, okIx_strs hn hv, ?_⟩
    show Q (.tuple (cutD (f.2.map PyData.str) none (some ((f.2.idxOf v : Int) + 1))))
    have e : ((f.2.idxOf v : Nat) : Int) + 1 = ((f.2.idxOf v + 1 : Nat) : Int) := rfl
    rw [e, cut_map, cut_ns]; exact h

theorem sc_field_asked : FnScope ["form", "question"] ["form", "question"] (defScope (top 2)) := ⟨rfl, rfl, rfl, by decide +kernel, rfl, by decide +kernel, by decide +kernel⟩
set_option maxHeartbeats 4000000 in
theorem ok_field_asked (T : Txt K mg A) : FnOk P w K mg base CX0 1 A.a_field_asked A.f_field_asked ["form", "question"] (liftSp K sp_field_asked) := by
  refine fnT T.F_field_asked sc_field_asked (fun ds Q h => by obtain ⟨fs, an, k, n, v, f0, j, rfl, F, hj, hfn, h⟩ := h; rfl) fun cdv Ar outer s H E hr ds Q h => ?_
  obtain ⟨fs, an, k, n, v, f0, j, rfl, F, hj, hfn, h⟩ := h
  have nd := sc_field_asked.nd
  refine ⟨_, (st_one (st_ret (et_lindex (et_lc (fr := [none]) (N' := ["field"]) (it_val (et_ix ix_seq o_ix (et_v 0) et_int)) (fun b => ⟨(gt_name (pg_name (i := 0) (show List.Nodup (["field"] : List Str) from by decide +kernel) rfl (by first | exact Or.inl rfl | exact Or.inr rfl))), if_nil, (et_ix ix_seq o_ix (et_v 0) et_int)⟩) (fun hi hY => pe_lcc (show lcChk _ (defScope (top 2)) ["form", "question"] ["field"] [none] = true from by decide +kernel) rfl hi hY)) (at_cons (et_ix ix_seq o_ix (et_v 1) et_int) at_nil) (fun h ha => pe_bm PySem.F.plainAttrs_list PySem.F.slot_list_index PySem.F.type_list_index (mt_lindex hr) h ha)))), ?_⟩
  have n5 := F.n5
  have hjl := (List.getElem?_eq_some_iff.mp hj).1
  have ej : (fs.map (·.1)).idxOf n = j := by rw [← hfn]; exact name_at F hj
  have hnm : n ∈ fs.map (·.1) := List.mem_map.mpr ⟨f0, List.mem_of_getElem? hj, hfn⟩
  show eLIndex _ _ _ Q
  dsimp only [eLIndex]
  refine lcx_map (ts := fs.map fldD) (fun R h => ⟨_, rfl, _, rfl, _, rfl, h⟩) fst (by rw [List.length_map]; omega) (fun x q hx hq => ?_) ?_
  · obtain ⟨f, hf, rfl⟩ := List.mem_map.mp hx
    exact ⟨_, rfl, _, rfl, hq⟩
  · have e : (fs.map fldD).map fst = (fs.map (·.1)).map PyData.str := by rw [List.map_map, List.map_map]; rfl
    rw [e]
    have := okIx_strs F.nd.2.1 hnm
    rw [ej] at this
    exact ⟨_, rfl, _, rfl, _, rfl, _, j, rfl, this, by omega, h⟩

theorem sc_entries_to_yes : FnScope ["question", "stray", "field"] ["question", "stray", "field"] (defScope (top 3)) := ⟨rfl, rfl, rfl, by decide +kernel, rfl, by decide +kernel, by decide +kernel⟩
set_option maxHeartbeats 4000000 in
theorem ok_entries_to_yes (T : Txt K mg A)
    (F_values_held : FnOk P w K mg base CX0 1 A.a_values_held A.f_values_held ["question", "field"] (liftSp K sp_values_held)) : FnOk P w K mg base CX0 2 A.a_entries_to_yes A.f_entries_to_yes ["question", "stray", "field"] (liftSp K sp_entries_to_yes) := by
  refine fnT T.F_entries_to_yes sc_entries_to_yes (fun ds Q h => by obtain ⟨k, n, v, st, f, rfl, hn, hv, hl, h⟩ := h; rfl) fun cdv Ar outer s H E hr ds Q h => ?_
  obtain ⟨k, n, v, st, f, rfl, hn, hv, hl, h⟩ := h
  have nd := sc_entries_to_yes.nd
  refine ⟨_, (st_one (st_ret (et_op op_addAny o_add (et_call F_values_held T.m_values_held T.k_values_held T.d_values_held (hr.mono (by decide)) (at_cons (et_v 0) (at_cons (et_v 2) at_nil)) (fun h => pe_call F_values_held (hr.mono (by decide)) rfl T.m_values_held T.k_values_held T.d_values_held .nil pass0 h)) (et_if (tt_cmp op_eq o_eq (et_v 1) et_str) (et_tup (at_cons et_non at_nil)) (et_tup at_nil))))), ?_⟩
  have hhl := held_len (k := k) (v := v) hl
  refine ⟨_, rfl, _, rfl, k, n, v, f, rfl, hn, hv, hl, _, rfl, ?_⟩
  unfold toYes at h
  show (if decide (st = "yes") = true then _ else _)
  by_cases e : st = "yes"
  · rw [if_pos (decide_eq_true e)]
    rw [if_pos e] at h
    exact ⟨Nat.le_of_ble_eq_true rfl, by rw [List.length_map]; show _ + 1 ≤ _; omega, h⟩
  · rw [if_neg (by simpa using e)]
    rw [if_neg e] at h
    exact ⟨Nat.le_of_ble_eq_true rfl, by rw [List.length_map]; show _ + 0 ≤ _; omega, h⟩

theorem sc_side_of : FnScope ["form", "question", "stray", "case", "number"] ["form", "question", "stray", "case"] (defScope (top 1)) := ⟨rfl, rfl, rfl, by decide +kernel, rfl, by decide +kernel, by decide +kernel⟩
set_option maxHeartbeats 4000000 in
theorem ok_side_of (T : Txt K mg A)
    (F_entries_to_yes : FnOk P w K mg base CX0 2 A.a_entries_to_yes A.f_entries_to_yes ["question", "stray", "field"] (liftSp K sp_entries_to_yes))
    (F_field_asked : FnOk P w K mg base CX0 1 A.a_field_asked A.f_field_asked ["form", "question"] (liftSp K sp_field_asked)) : FnOk P w K mg base CX0 3 A.a_side_of A.f_side_of ["form", "question", "stray", "case"] (liftSp K sp_side_of) := by
  refine fnT T.F_side_of sc_side_of (fun ds Q h => by obtain ⟨fs, an, k, n, v, st, cs, rfl, F, hq, hst, hc, h⟩ := h; rfl) fun cdv Ar outer s H E hr ds Q h => ?_
  obtain ⟨fs, an, k, n, v, st, cs, rfl, F, hq, hst, hc, h⟩ := h
  have nd := sc_side_of.nd
  refine ⟨_, (st_cons (st_set (i := 4) (et_call F_field_asked T.m_field_asked T.k_field_asked T.d_field_asked (hr.mono (by decide)) (at_cons (et_v 0) (at_cons (et_v 1) at_nil)) (fun h => pe_call F_field_asked (hr.mono (by decide)) rfl T.m_field_asked T.k_field_asked T.d_field_asked .nil pass0 h)) (fun h => ps_set (i := 4) nd rfl (by first | exact Or.inl rfl | exact Or.inr rfl) h))
  (st_one (st_ret (et_if (tt_cmp (op_in2 hr) o_in2 (et_ix ix_seq o_ix (et_v 3) (et_v 4)) (et_call F_entries_to_yes T.m_entries_to_yes T.k_entries_to_yes T.d_entries_to_yes (hr.mono (by decide)) (at_cons (et_v 1) (at_cons (et_v 2) (at_cons (et_ix ix_seq o_ix (et_ix ix_seq o_ix (et_v 0) et_int) (et_v 4)) at_nil))) (fun h => pe_call F_entries_to_yes (hr.mono (by decide)) rfl T.m_entries_to_yes T.k_entries_to_yes T.d_entries_to_yes .nil pass0 h))) et_str et_str)))), ?_⟩
  show sSeq _ _ _ [.val (frmD fs an), .val (.tuple [.str k, .str n, .str v]), .val (.str st), .val (.tuple cs), .un]
  obtain ⟨hcl, hcv⟩ := case_get hc
  obtain ⟨f0, hf0, hfn, hv0, hk0⟩ := isQ_str hq
  obtain ⟨j, hj⟩ := List.getElem?_of_mem hf0
  have hjl := (List.getElem?_eq_some_iff.mp hj).1
  have hcj : cs[j]? = some cs[j] := List.getElem?_eq_getElem (by omega)
  generalize hcc : cs[j] = c at hcj
  have hca : L2.atI cs (j : Int) = some c := L2.atI_nat hcj
  have hfa : L2.atI (fs.map fldD) (j : Int) = some (fldD f0) := L2.atI_nat (by rw [List.getElem?_map, hj]; rfl)
  have hok := hcv j f0 c hj hcj
  rw [sideS_at F hj hcj hfn] at h
  have hcd : Cd c := by
    cases c with
    | none => exact (th_none (n := 8) (m := 0)).cd (by decide)
    | str z => exact (th_name (F.vals hf0 z (of_decide_eq_true hok)) (n := 8) (m := 0) (Nat.le_refl _)).cd (by decide)
    | _ => cases hok
  refine seq_set (.int (j : Int)) (fun q hq => ⟨_, rfl, _, rfl, fs, an, k, n, v, f0, j, rfl, F, hj, hfn, hq⟩) ?_
  refine ⟨_, rfl, _, rfl, _, hca, _, rfl, _, rfl, _, rfl, _, rfl, _, rfl, _, hfa, k, n, v, st, f0, rfl, F.vals hf0, hv0, (F.vs f0 hf0).2.1, fIn2_tup (ok_toYes (F.vals hf0) hv0 hcd) ?_⟩
  rw [← in_toYes hst hok] at h
  show (if inD c (.tuple (toYes k v st f0)) = true then _ else _)
  cases hb : inD c (.tuple (toYes k v st f0)) with
  | true => rw [if_pos rfl]; rw [hb, if_pos rfl] at h; exact h
  | false => rw [if_neg (by decide)]; rw [hb, if_neg (by decide)] at h; exact h

theorem sc_numbers_on : FnScope ["side", "sides"] ["side", "sides"] (defScope (top 6)) := ⟨rfl, rfl, rfl, by decide +kernel, rfl, by decide +kernel, by decide +kernel⟩
set_option maxHeartbeats 4000000 in
theorem ok_numbers_on (T : Txt K mg A) : FnOk P w K mg base CX0 1 A.a_numbers_on A.f_numbers_on ["side", "sides"] (liftSp K sp_numbers_on) := by
  refine fnT T.F_numbers_on sc_numbers_on (fun ds Q h => by obtain ⟨w, ss, rfl, hl, h⟩ := h; rfl) fun cdv Ar outer s H E hr ds Q h => ?_
  obtain ⟨w, ss, rfl, hl, h⟩ := h
  have nd := sc_numbers_on.nd
  refine ⟨_, (st_one (st_ret (et_lc (fr := [none, none, some 0]) (N' := ["number", "found", "side"]) (it_enum (at_cons (et_v 1) at_nil) (fun h => pi_enum rfl T.b_enumerate h)) (fun b => ⟨(gt_pair (pg_tup rfl (pgs_cons (pg_name (i := 0) (show List.Nodup (["number", "found", "side"] : List Str) from by decide +kernel) rfl (by first | exact Or.inl rfl | exact Or.inr rfl)) (pgs_cons (pg_name (i := 1) (show List.Nodup (["number", "found", "side"] : List Str) from by decide +kernel) rfl (by first | exact Or.inl rfl | exact Or.inr rfl)) pgs_nil)))), (if_one (tt_cmp op_eq o_eq (et_v 1) (et_v 2))), (et_v 0)⟩) (fun hi hY => pe_lcc (show lcChk _ (defScope (top 6)) ["side", "sides"] ["number", "found", "side"] [none, none, some 0] = true from by decide +kernel) rfl hi hY)))), ?_⟩
  rw [← enum_filter] at h
  refine lcp_filt (ts := enumD (ss.map PyData.str)) (fun R h => ⟨_, rfl, _, rfl, h⟩) (onW w) fstT (by rw [enumD_len, List.length_map]; omega) (fun x hx => ?_) (fun a b q hm hq => ?_) (fun a b q hm hq => ?_) h
  · rw [enum_strs] at hx
    obtain ⟨y, _, rfl⟩ := List.mem_map.mp hx
    exact ⟨_, _, rfl⟩
  · obtain ⟨i, hi⟩ := List.getElem?_of_mem hm
    have hil := (List.getElem?_eq_some_iff.mp hi).1
    rw [enumD_len, List.length_map] at hil
    rw [enumD_get (a := .str ss[i]) (by rw [List.getElem?_map, List.getElem?_eq_getElem hil]; rfl)] at hi
    cases hi
    exact ⟨_, rfl, _, rfl, hq⟩
  · exact ⟨_, rfl, hq⟩

theorem sc_parted : FnScope ["form", "question", "stray", "rows", "sides"] ["form", "question", "stray", "rows"] (defScope (top 5)) := ⟨rfl, rfl, rfl, by decide +kernel, rfl, by decide +kernel, by decide +kernel⟩
set_option maxHeartbeats 4000000 in
theorem ok_parted (T : Txt K mg A)
    (F_numbers_on : FnOk P w K mg base CX0 1 A.a_numbers_on A.f_numbers_on ["side", "sides"] (liftSp K sp_numbers_on))
    (F_side_of : FnOk P w K mg base CX0 3 A.a_side_of A.f_side_of ["form", "question", "stray", "case"] (liftSp K sp_side_of)) : FnOk P w K mg base CX0 4 A.a_parted A.f_parted ["form", "question", "stray", "rows"] (liftSp K sp_parted) := by
  refine fnT T.F_parted sc_parted (fun ds Q h => by obtain ⟨fs, an, k, n, v, st, rs, rfl, F, hq, hst, hok, hrl, h⟩ := h; rfl) fun cdv Ar outer s H E hr ds Q h => ?_
  obtain ⟨fs, an, k, n, v, st, rs, rfl, F, hq, hst, hok, hrl, h⟩ := h
  have nd := sc_parted.nd
  refine ⟨_, (st_cons (st_setlc (i := 4) (fr := [none, some 0, some 1, some 2]) (N' := ["row", "form", "question", "stray"]) (it_val (et_v 3)) (fun b => ⟨(gt_name (pg_name (i := 0) (show List.Nodup (["row", "form", "question", "stray"] : List Str) from by decide +kernel) rfl (by first | exact Or.inl rfl | exact Or.inr rfl))), if_nil, (et_call F_side_of T.m_side_of T.k_side_of T.d_side_of (hr.mono (by decide)) (at_cons (et_v 1) (at_cons (et_v 2) (at_cons (et_v 3) (at_cons (et_ix ix_seq o_ix (et_v 0) et_int) at_nil)))) (fun h => pe_call F_side_of (hr.mono (by decide)) rfl T.m_side_of T.k_side_of T.d_side_of .nil pass0 h))⟩) (fun hi hY => ps_setlcc (show lcChk _ (defScope (top 5)) ["form", "question", "stray", "rows", "sides"] ["row", "form", "question", "stray"] [none, some 0, some 1, some 2] = true from by decide +kernel) nd rfl (by first | exact Or.inl rfl | exact Or.inr rfl) rfl hi hY rfl))
  (st_one (st_ret (et_tup (at_cons (et_call F_numbers_on T.m_numbers_on T.k_numbers_on T.d_numbers_on (hr.mono (by decide)) (at_cons et_str (at_cons (et_v 4) at_nil)) (fun h => pe_call F_numbers_on (hr.mono (by decide)) rfl T.m_numbers_on T.k_numbers_on T.d_numbers_on .nil pass0 h)) (at_cons (et_call F_numbers_on T.m_numbers_on T.k_numbers_on T.d_numbers_on (hr.mono (by decide)) (at_cons et_str (at_cons (et_v 4) at_nil)) (fun h => pe_call F_numbers_on (hr.mono (by decide)) rfl T.m_numbers_on T.k_numbers_on T.d_numbers_on .nil pass0 h)) at_nil)))))), ?_⟩
  show sSeq _ _ _ [.val (frmD fs an), .val (.tuple [.str k, .str n, .str v]), .val (.str st), .val (.list (rs.map rowD)), .un]
  have e : (rs.map rowD).map (sdD fs k n v st) = (rs.map fun r => sideS fs k n v st r.1).map PyData.str := by rw [List.map_map, List.map_map]; rfl
  refine seq_set (.list ((rs.map fun r => sideS fs k n v st r.1).map PyData.str)) (fun q hq' => ?_) ?_
  · refine lcx_map (ts := rs.map rowD) (fun R h => ⟨_, rfl, _, rfl, h⟩) (sdD fs k n v st) (by rw [List.length_map]; omega) (fun x q hx hq' => ?_) ?_
    · obtain ⟨r, hr, rfl⟩ := List.mem_map.mp hx
      exact ⟨_, rfl, _, rfl, _, rfl, _, rfl, _, rfl, fs, an, k, n, v, st, r.1, rfl, F, hq, hst, hok r hr, hq'⟩
    · rw [e]; exact hq'
  rw [← side_ix, ← side_ix] at h
  exact ⟨_, rfl, "yes", _, rfl, by rw [List.length_map]; exact hrl, _, rfl, "no", _, rfl, by rw [List.length_map]; exact hrl, (Nat.le_of_ble_eq_true rfl), h⟩

theorem sc_rows_at : FnScope ["rows", "numbers"] ["rows", "numbers"] (defScope (top 8)) := ⟨rfl, rfl, rfl, by decide +kernel, rfl, by decide +kernel, by decide +kernel⟩
set_option maxHeartbeats 4000000 in
theorem ok_rows_at (T : Txt K mg A) : FnOk P w K mg base CX0 1 A.a_rows_at A.f_rows_at ["rows", "numbers"] (liftSp K sp_rows_at) := by
  refine fnT T.F_rows_at sc_rows_at (fun ds Q h => by obtain ⟨rs, p, rfl, hl, h⟩ := h; rfl) fun cdv Ar outer s H E hr ds Q h => ?_
  obtain ⟨rs, p, rfl, hl, h⟩ := h
  have nd := sc_rows_at.nd
  refine ⟨_, (st_one (st_ret (et_lc (fr := [none, some 0]) (N' := ["number", "rows"]) (it_val (et_v 1)) (fun b => ⟨(gt_name (pg_name (i := 0) (show List.Nodup (["number", "rows"] : List Str) from by decide +kernel) rfl (by first | exact Or.inl rfl | exact Or.inr rfl))), if_nil, (et_ix ix_seq o_ix (et_v 1) (et_v 0))⟩) (fun hi hY => pe_lcc (show lcChk _ (defScope (top 8)) ["rows", "numbers"] ["number", "rows"] [none, some 0] = true from by decide +kernel) rfl hi hY)))), ?_⟩
  refine lcx_map (ts := (pickN rs p).map fun (j : Nat) => .int (j : Int)) (fun R h => ⟨_, rfl, _, rfl, h⟩) (rowI rs) (by rw [List.length_map]; have := pickN_le rs p; omega) (fun x q hx hq => ?_) (by rw [rowI_pick]; exact h)
  obtain ⟨j, hj, rfl⟩ := List.mem_map.mp hx
  have hjl := pickN_lt hj
  have hr : rs[j]? = some rs[j] := List.getElem?_eq_getElem hjl
  rw [rowI_at hr] at hq
  exact ⟨_, rfl, _, rfl, _, L2.atI_nat (by rw [List.getElem?_map, hr]; rfl), hq⟩

theorem sc_many_cases : FnScope ["form", "many", "field"] ["form"] (defScope (top 15)) := ⟨rfl, rfl, rfl, by decide +kernel, rfl, by decide +kernel, by decide +kernel⟩
set_option maxHeartbeats 4000000 in
theorem ok_many_cases (T : Txt K mg A)
    (F_entries_of : FnOk P w K mg base CX0 1 A.a_entries_of A.f_entries_of ["field"] (liftSp K sp_entries_of)) : FnOk P w K mg base CX0 2 A.a_many_cases A.f_many_cases ["form"] (liftSp K sp_many_cases) := by
  refine fnT T.F_many_cases sc_many_cases (fun ds Q h => by obtain ⟨fs, an, rfl, F, h⟩ := h; rfl) fun cdv Ar outer s H E hr ds Q h => ?_
  obtain ⟨fs, an, rfl, F, h⟩ := h
  have nd := sc_many_cases.nd
  refine ⟨_, (st_cons (st_set (i := 1) et_int (fun h => ps_set (i := 1) nd rfl (by first | exact Or.inl rfl | exact Or.inr rfl) h))
  (st_cons (st_for (it_val (et_ix ix_seq o_ix (et_v 0) et_int)) (gt_name (pg_name (i := 2) nd rfl (by first | exact Or.inl rfl | exact Or.inr rfl)))
  (st_one (st_set (i := 1) (et_op op_mulAny o_mul (et_v 1) (et_cb c_len (at_cons (et_call F_entries_of T.m_entries_of T.k_entries_of T.d_entries_of (hr.mono (by decide)) (at_cons (et_v 2) at_nil) (fun h => pe_call F_entries_of (hr.mono (by decide)) rfl T.m_entries_of T.k_entries_of T.d_entries_of .nil pass0 h)) at_nil) (fun h => pe_callB call_lenAny rfl T.b_len bl_len h))) (fun h => ps_set (i := 1) nd rfl (by first | exact Or.inl rfl | exact Or.inr rfl) h))) (fun hi hg hb => ps_for PassesOwn.never rfl hi hg hb))
  (st_one (st_ret (et_v 1))))), ?_⟩
  show sSeq _ _ _ [.val (frmD fs an), .un, .un]
  refine seq_set (.int 1) (fun q hq => hq) ?_
  refine seq_for (ts := fs.map fldD) (fun R h => ⟨_, rfl, _, rfl, _, rfl, h⟩)
    (fun k σ => ∃ s2 : Sl, σ = [.val (frmD fs an), .val (.int ((manyC (fs.take k) : Nat) : Int)), s2]) ⟨_, rfl⟩ (fun k x σ' hx hP => ?_) fun σ' hP => ?_
  · obtain ⟨s2, rfl⟩ := hP
    rw [List.getElem?_map] at hx
    obtain ⟨f, hfk, rfl⟩ := Option.map_eq_some_iff.mp hx
    have v5 := (F.vs f (List.mem_of_getElem? hfk)).2.1
    have el : (f.2.map PyData.str ++ [PyData.none]).length = f.2.length + 1 := by rw [List.length_append, List.length_map]; rfl
    refine one_set (.int ((manyC (fs.take (k + 1)) : Nat) : Int)) (fun q hq => ⟨_, rfl, _, rfl, f, rfl, v5, ?_⟩) ⟨_, rfl⟩
    refine ⟨.inr ⟨by omega, by rw [el]; omega⟩, ?_⟩
    have e : fs.take (k + 1) = fs.take k ++ [f] := by rw [List.take_add_one, hfk]; rfl
    rw [e, manyC_snoc] at hq
    show q (.int (((manyC (fs.take k) : Nat) : Int) * (((f.2.map PyData.str ++ [PyData.none]).length : Nat) : Int)))
    rw [el, ← Int.natCast_mul]
    exact hq
  · obtain ⟨s2, rfl⟩ := hP
    rw [List.length_map, List.take_length]
    exact ⟨_, rfl, h⟩

theorem sc_longer_by : FnScope ["beginnings", "entries", "longer", "beginning", "entry"] ["beginnings", "entries"] (defScope (top 18)) := ⟨rfl, rfl, rfl, by decide +kernel, rfl, by decide +kernel, by decide +kernel⟩
set_option maxHeartbeats 4000000 in
theorem ok_longer_by (T : Txt K mg A) : FnOk P w K mg base CX0 1 A.a_longer_by A.f_longer_by ["beginnings", "entries"] (liftSpF K sp_longer_by) := by
  refine fnF T.F_longer_by sc_longer_by (fun ds Q h => by obtain ⟨bs, es, rfl, hb, hz, he, h⟩ := h; rfl) fun cdv Ar outer s H E hr ds Q h => ?_
  obtain ⟨bs, es, rfl, hb, hz, he, h⟩ := h
  have nd := sc_longer_by.nd
  refine ⟨_, (st_cons (st_own (i := 2) at_nil (fun h => ps_set (i := 2) nd rfl (by first | exact Or.inl rfl | exact Or.inr rfl) h))
  (st_cons (st_for (it_val (et_v 0)) (gt_name (pg_name (i := 3) nd rfl (by first | exact Or.inl rfl | exact Or.inr rfl)))
  (st_one (st_for (it_val (et_v 1)) (gt_name (pg_name (i := 4) nd rfl (by first | exact Or.inl rfl | exact Or.inr rfl)))
  (st_one (st_app (i := 2) (pv 2) (et_op op_addAny o_add (et_v 3) (et_tup (at_cons (et_v 4) at_nil))) (pb := fun h => ps_expr (pe_bm PySem.F.plainAttrs_list PySem.F.slot_list_append PySem.F.type_list_append mt_append (pv 2) h)))) (fun hi hg hb => ps_for PassesOwn.never rfl hi hg hb))) (fun hi hg hb => ps_for PassesOwn.never rfl hi hg hb))
  (st_one (st_retOwn (pv 2))))), ?_⟩
  show sSeq _ _ _ [.val (.list (bs.map PyData.tuple)), .val (.tuple es), .un, .un, .un]
  refine seq_own [] (by decide) (fun q hq => hq) ?_
  refine seq_for (ts := bs.map PyData.tuple) (fun R h => ⟨_, rfl, _, rfl, h⟩)
    (fun k σ => ∃ s3 s4 : Sl, σ = [.val (.list (bs.map PyData.tuple)), .val (.tuple es), .own ((longer (bs.take k) es).map PyData.tuple), s3, s4]) ⟨_, _, rfl⟩ (fun k x σ' hx hP => ?_) fun σ' hP => ?_
  · obtain ⟨s3, s4, rfl⟩ := hP
    rw [List.getElem?_map] at hx
    obtain ⟨b, hbk, rfl⟩ := Option.map_eq_some_iff.mp hx
    have hkl := (List.getElem?_eq_some_iff.mp hbk).1
    have hbl := hb b (List.mem_of_getElem? hbk)
    have hl1 : (longer (bs.take k) es).length ≤ 50000 := by
      rw [longer_len, List.length_take]
      exact Nat.le_trans (Nat.mul_le_mul_right _ (by omega)) hz
    have e : bs.take (k + 1) = bs.take k ++ [b] := by rw [List.take_add_one, hbk]; rfl
    have e2 : longer (bs.take (k + 1)) es = longer (bs.take k) es ++ es.map fun x => b ++ [x] := by
      unfold longer
      rw [e, List.map_append, List.flatten_append]
      show _ ++ [es.map fun x => b ++ [x]].flatten = _
      rw [List.flatten_singleton]
    refine forx (ts := es) (fun R h => ⟨_, rfl, _, rfl, h⟩)
      (fun j σ => ∃ s4 : Sl, σ = [.val (.list (bs.map PyData.tuple)), .val (.tuple es), .own ((longer (bs.take k) es ++ (es.take j).map fun x => b ++ [x]).map PyData.tuple), .val (.tuple b), s4]) ⟨s4, by rw [List.take_zero, List.map_nil, List.append_nil]; rfl⟩ (fun j x σ' hx hP => ?_) fun σ' hP => ?_
    · obtain ⟨s4, rfl⟩ := hP
      refine one_app (ts := (longer (bs.take k) es ++ (es.take j).map fun x => b ++ [x]).map PyData.tuple) (.tuple (b ++ [x])) rfl (by rw [List.length_map, List.length_append, List.length_map, List.length_take]; omega) (fun q hq => ⟨_, rfl, _, rfl, Nat.le_of_ble_eq_true rfl, ?_, hq⟩) ⟨.val x, ?_⟩
      · simp only [List.length_cons, List.length_nil]; omega
      · rw [List.take_add_one, hx]
        show _ = [_, _, Sl.own ((longer (bs.take k) es ++ (es.take j ++ [x]).map fun x => b ++ [x]).map PyData.tuple), _, _]
        rw [List.map_append (l₁ := es.take j), ← List.append_assoc, List.map_append (l₂ := [x].map fun x => b ++ [x])]; rfl
    · obtain ⟨s4, rfl⟩ := hP
      rw [List.take_length, ← e2]
      exact ⟨_, _, rfl⟩
  · obtain ⟨s3, s4, rfl⟩ := hP
    rw [List.length_map, List.take_length]
    exact ⟨_, rfl, h⟩

theorem sc_all_cases : FnScope ["form", "cases", "field"] ["form"] (defScope (top 16)) := ⟨rfl, rfl, rfl, by decide +kernel, rfl, by decide +kernel, by decide +kernel⟩
set_option maxHeartbeats 4000000 in
theorem ok_all_cases (T : Txt K mg A)
    (F_entries_of : FnOk P w K mg base CX0 1 A.a_entries_of A.f_entries_of ["field"] (liftSp K sp_entries_of))
    (F_longer_by : FnOk P w K mg base CX0 1 A.a_longer_by A.f_longer_by ["beginnings", "entries"] (liftSpF K sp_longer_by))
    (F_many_cases : FnOk P w K mg base CX0 2 A.a_many_cases A.f_many_cases ["form"] (liftSp K sp_many_cases)) : FnOk P w K mg base CX0 3 A.a_all_cases A.f_all_cases ["form"] (liftSpF K sp_all_cases) := by
  refine fnF T.F_all_cases sc_all_cases (fun ds Q h => by obtain ⟨fs, an, rfl, F, hm, h⟩ := h; rfl) fun cdv Ar outer s H E hr ds Q h => ?_
  obtain ⟨fs, an, rfl, F, hm, h⟩ := h
  have nd := sc_all_cases.nd
  refine ⟨_, (st_cons (st_if (tt_cmp op_gt o_B0 (et_call F_many_cases T.m_many_cases T.k_many_cases T.d_many_cases (hr.mono (by decide)) (at_cons (et_v 0) at_nil) (fun h => pe_call F_many_cases (hr.mono (by decide)) rfl T.m_many_cases T.k_many_cases T.d_many_cases .nil pass0 h)) (et_gint rfl T.c_MOST_CASES))
  (st_one st_no)
  st_nil)
  (st_cons (st_own (i := 1) (at_cons (et_tup at_nil) at_nil) (fun h => ps_set (i := 1) nd rfl (by first | exact Or.inl rfl | exact Or.inr rfl) h))
  (st_cons (st_for (it_val (et_ix ix_seq o_ix (et_v 0) et_int)) (gt_name (pg_name (i := 2) nd rfl (by first | exact Or.inl rfl | exact Or.inr rfl)))
  (st_share 1 (st_one (st_setF (i := 1) (ft_call F_longer_by T.m_longer_by T.k_longer_by T.d_longer_by (hr.mono (by decide)) (at_cons (et_v 1) (at_cons (et_call F_entries_of T.m_entries_of T.k_entries_of T.d_entries_of (hr.mono (by decide)) (at_cons (et_v 2) at_nil) (fun h => pe_call F_entries_of (hr.mono (by decide)) rfl T.m_entries_of T.k_entries_of T.d_entries_of .nil pass0 h)) at_nil)) (fun h => pe_call F_longer_by (hr.mono (by decide)) rfl T.m_longer_by T.k_longer_by T.d_longer_by .nil pass0 h)) (fun h => ps_set (i := 1) nd rfl (by first | exact Or.inl rfl | exact Or.inr rfl) h)))) (fun hi hg hb => ps_for PassesOwn.never rfl hi hg hb))
  (st_one (st_retOwn (pv 1)))))), ?_⟩
  show sSeq _ _ _ [.val (frmD fs an), .un, .un]
  refine seq_if (fun b => b = false) (fun q hq => ⟨_, rfl, fs, an, rfl, F, hq _ (decide_eq_false (by omega))⟩) (fun hT => by cases hT) fun _ => ?_
  try unfold sNext
  dsimp only
  refine seq_own [.tuple []] (by decide) (fun q hq => ⟨Nat.le_of_ble_eq_true rfl, hq⟩) ?_
  refine seq_for (ts := fs.map fldD) (fun R h => ⟨_, rfl, _, rfl, _, rfl, h⟩)
    (fun k σ => ∃ s2 : Sl, σ = [.val (frmD fs an), .own ((allC (fs.take k)).map PyData.tuple), s2]) ⟨_, rfl⟩ (fun k x σ' hx hP => ?_) fun σ' hP => ?_
  · obtain ⟨s2, rfl⟩ := hP
    rw [List.getElem?_map] at hx
    obtain ⟨f, hfk, rfl⟩ := Option.map_eq_some_iff.mp hx
    have v5 := (F.vs f (List.mem_of_getElem? hfk)).2.1
    have n5 := F.n5
    have e : fs.take (k + 1) = fs.take k ++ [f] := by rw [List.take_add_one, hfk]; rfl
    have hmk : manyC (fs.take k) ≤ 2000 := Nat.le_trans (manyC_mono k) hm
    refine ⟨_, rfl, ?_⟩
    refine ⟨_, rfl, _, rfl, f, rfl, v5, allC (fs.take k), entD f, rfl, fun c hc => ?_, ?_, ?_, ?_⟩
    · have := (case_get (allC_case _ c hc)).1
      rw [List.length_take] at this
      omega
    · rw [allC_len]
      unfold entD
      rw [List.length_append, List.length_map]
      exact Nat.le_trans (Nat.mul_le_mul hmk (show f.2.length + 1 ≤ 6 by omega)) (by decide)
    · unfold entD
      rw [List.length_append, List.length_map]
      simp only [List.length_cons, List.length_nil]; omega
    · rw [e, allC_snoc]
      exact ⟨_, rfl⟩
  · obtain ⟨s2, rfl⟩ := hP
    rw [List.length_map, List.take_length]
    exact ⟨_, rfl, h⟩

theorem sc_fits : FnScope ["form", "rule", "case"] ["form", "rule", "case"] (defScope (top 20)) := ⟨rfl, rfl, rfl, by decide +kernel, rfl, by decide +kernel, by decide +kernel⟩
set_option maxHeartbeats 4000000 in
theorem ok_fits (T : Txt K mg A) : FnOk P w K mg base CX0 1 A.a_fits A.f_fits ["form", "rule", "case"] (liftSp K sp_fits) := by
  refine fnT T.F_fits sc_fits (fun ds Q h => by obtain ⟨fs, an, r, c, rfl, F, hL, hc, h⟩ := h; rfl) fun cdv Ar outer s H E hr ds Q h => ?_
  obtain ⟨fs, an, r, c, rfl, F, hL, hc, h⟩ := h
  have nd := sc_fits.nd
  refine ⟨_, (st_one (st_ret (et_cb c_all (at_cons (et_lc (fr := [none, none]) (N' := ["let", "entry"]) (it_zip (at_cons (et_ix ix_seq o_ix (et_v 1) et_int) (at_cons (et_v 2) at_nil)) (fun h => pi_zip rfl T.b_zip h)) (fun b => ⟨(gt_pair (pg_tup rfl (pgs_cons (pg_name (i := 0) (show List.Nodup (["let", "entry"] : List Str) from by decide +kernel) rfl (by first | exact Or.inl rfl | exact Or.inr rfl)) (pgs_cons (pg_name (i := 1) (show List.Nodup (["let", "entry"] : List Str) from by decide +kernel) rfl (by first | exact Or.inl rfl | exact Or.inr rfl)) pgs_nil)))), if_nil, (et_cmp (op_in2 hr) o_in2 (et_v 1) (et_v 0))⟩) (fun hi hY => pe_lcc (show lcChk _ (defScope (top 20)) ["form", "rule", "case"] ["let", "entry"] [none, none] = true from by decide +kernel) rfl hi hY)) at_nil) (fun h => pe_callB (call_all_bls rfl) rfl T.b_all bl_all h)))), ?_⟩
  obtain ⟨L, a⟩ := r
  obtain ⟨hcl, hcv⟩ := case_get hc
  have n5 := F.n5
  have hL1 : L.length = fs.length := hL.1
  have each : ∀ e x, .tuple [e, x] ∈ zipD (L.map PyData.tuple) c → ∃ l, e = .tuple l ∧ Ent x ∧ ∀ t ∈ l, Ent t := fun e x hm => by
    obtain ⟨i, hi⟩ := List.getElem?_of_mem hm
    obtain ⟨e', x', h2, h1, he⟩ := zipD_get hi
    simp only [PyData.tuple.injEq, List.cons.injEq, and_true] at he
    obtain ⟨rfl, rfl⟩ := he
    rw [List.getElem?_map] at h2
    obtain ⟨l, hl, rfl⟩ := Option.map_eq_some_iff.mp h2
    have hil : i < fs.length := by rw [← hL1]; exact (List.getElem?_eq_some_iff.mp hl).1
    have hf : fs[i]? = some fs[i] := List.getElem?_eq_getElem hil
    have hfm := List.getElem_mem hil
    refine ⟨l, rfl, ?_, fun t ht => ent_entD F hfm t (hL.sub hf hl t ht)⟩
    have := hcv i _ x hf h1
    cases x with
    | none => exact .inl rfl
    | str z => exact .inr ⟨z, F.vals hfm z (of_decide_eq_true this), rfl⟩
    | _ => cases this
  show eCall (f1 gAll) _ _ Q
  dsimp only [eCall, aCons, aNil]
  refine lcp_map (ts := zipD (L.map PyData.tuple) c) (fun R h => ⟨_, rfl, _, rfl, _, rfl, _, _, rfl, h⟩) (fun x => .bool (inB x)) (by rw [zipD_len]; rw [List.length_map]; omega) (fun x hx => ?_) (fun e x q hm hq => ?_) ?_
  · obtain ⟨i, hi⟩ := List.getElem?_of_mem hx
    obtain ⟨x', e', _, _, rfl⟩ := zipD_get hi
    exact ⟨_, _, rfl⟩
  · obtain ⟨l, rfl, hx, hl⟩ := each e x hm
    refine ⟨_, rfl, _, rfl, fIn2_tup (okIn_ent hx hl).2 ?_⟩
    show q (.bool (l.any fun z => PyData.eqv z x))
    rw [any_ent hx hl]; exact hq
  · refine ⟨(zipD (L.map PyData.tuple) c).map inB, by rw [List.map_map]; rfl, ?_⟩
    rw [inB_all L c (hcl.trans hL1.symm)]; exact h

theorem sc_answered : FnScope ["form", "rules", "case", "rule"] ["form", "rules", "case"] (defScope (top 21)) := ⟨rfl, rfl, rfl, by decide +kernel, rfl, by decide +kernel, by decide +kernel⟩
set_option maxHeartbeats 4000000 in
theorem ok_answered (T : Txt K mg A)
    (F_fits : FnOk P w K mg base CX0 1 A.a_fits A.f_fits ["form", "rule", "case"] (liftSp K sp_fits)) : FnOk P w K mg base CX0 2 A.a_answered A.f_answered ["form", "rules", "case"] (liftSp K sp_answered) := by
  refine fnT T.F_answered sc_answered (fun ds Q h => by obtain ⟨fs, an, rs, c, rfl, F, hL, hc, h⟩ := h; rfl) fun cdv Ar outer s H E hr ds Q h => ?_
  obtain ⟨fs, an, rs, c, rfl, F, hL, hc, h⟩ := h
  have nd := sc_answered.nd
  refine ⟨_, (st_cons (st_for (it_val (et_v 1)) (gt_name (pg_name (i := 3) nd rfl (by first | exact Or.inl rfl | exact Or.inr rfl)))
  (st_one (st_if (tt_val (et_call F_fits T.m_fits T.k_fits T.d_fits (hr.mono (by decide)) (at_cons (et_v 0) (at_cons (et_v 3) (at_cons (et_v 2) at_nil))) (fun h => pe_call F_fits (hr.mono (by decide)) rfl T.m_fits T.k_fits T.d_fits .nil pass0 h)) (fun h => pt_val h))
  (st_one (st_ret (et_ix ix_seq o_ix (et_v 3) et_int)))
  st_nil)) (fun hi hg hb => ps_for PassesOwn.never rfl hi hg hb))
  (st_one (st_ret et_non))), ?_⟩
  show sSeq _ _ _ [.val (frmD fs an), .val (.list (rs.map ruleD)), .val (.tuple c), .un]
  refine seq_for (ts := rs.map ruleD) (fun R h => ⟨_, rfl, _, rfl, h⟩)
    (fun i σ => ∃ s2 : Sl, σ = [.val (frmD fs an), .val (.list (rs.map ruleD)), .val (.tuple c), s2] ∧ ∀ r ∈ rs.take i, InL r.1 c = false) ⟨_, rfl, fun r hr => by simp at hr⟩ (fun i x σ' hx hP => ?_) fun σ' hP => ?_
  · obtain ⟨s2, rfl, hno⟩ := hP
    rw [List.getElem?_map] at hx
    obtain ⟨r, hri, rfl⟩ := Option.map_eq_some_iff.mp hx
    have hrm := List.mem_of_getElem? hri
    refine one_if (fun b => b = InL r.1 c) (fun q hq => ⟨_, rfl, _, rfl, _, rfl, fs, an, r, c, rfl, F, hL r hrm, hc, hq _ rfl⟩) (fun hT => ?_) fun hF => ?_
    · have e : rs.find? (fun r => InL r.1 c) = some r := by
        have hil := (List.getElem?_eq_some_iff.mp hri).1
        have e0 : rs = rs.take i ++ (r :: rs.drop (i + 1)) := by
          have e1 : rs[i] = r := (List.getElem?_eq_some_iff.mp hri).2
          rw [← e1, ← List.drop_eq_getElem_cons hil, List.take_append_drop]
        rw [e0, List.find?_append]
        have e2 : (rs.take i).find? (fun r => InL r.1 c) = none := by
          rw [List.find?_eq_none]
          intro r' hr' hx'
          rw [hno r' hr'] at hx'
          cases hx'
        rw [e2, Option.none_or, List.find?_cons_of_pos (by exact hT.symm)]
      rw [e] at h
      exact ⟨_, rfl, _, rfl, h⟩
    · refine ⟨_, rfl, fun r' hr' => ?_⟩
      rw [List.take_add_one, hri] at hr'
      rcases List.mem_append.mp hr' with hr' | hr'
      · exact hno r' hr'
      · rw [List.mem_singleton.mp hr']; exact hF.symm
  · obtain ⟨s2, rfl, hno⟩ := hP
    rw [List.length_map, List.take_length] at hno
    have e : rs.find? (fun r => InL r.1 c) = none := by
      rw [List.find?_eq_none]
      intro r' hr' hx'
      rw [hno r' hr'] at hx'
      cases hx'
    rw [e] at h
    exact h

theorem sc_all_answered : FnScope ["form", "rules", "most", "answers", "case"] ["form", "rules", "most"] (defScope (top 22)) := ⟨rfl, rfl, rfl, by decide +kernel, rfl, by decide +kernel, by decide +kernel⟩
set_option maxHeartbeats 4000000 in
theorem ok_all_answered (T : Txt K mg A)
    (F_all_cases : FnOk P w K mg base CX0 3 A.a_all_cases A.f_all_cases ["form"] (liftSpF K sp_all_cases))
    (F_answered : FnOk P w K mg base CX0 2 A.a_answered A.f_answered ["form", "rules", "case"] (liftSp K sp_answered))
    (F_many_cases : FnOk P w K mg base CX0 2 A.a_many_cases A.f_many_cases ["form"] (liftSp K sp_many_cases)) : FnOk P w K mg base CX0 4 A.a_all_answered A.f_all_answered ["form", "rules", "most"] (liftSp K (sp_all_answered w)) := by
  refine fnT T.F_all_answered sc_all_answered (fun ds Q h => by obtain ⟨fs, an, rs, rfl, F, S, hL, hA, h⟩ := h; rfl) fun cdv Ar outer s H E hr ds Q h => ?_
  obtain ⟨fs, an, rs, rfl, F, S, hL, hA, h⟩ := h
  have nd := sc_all_answered.nd
  refine ⟨_, (st_cons (st_if (tt_cmp op_gt o_B0 (et_call F_many_cases T.m_many_cases T.k_many_cases T.d_many_cases (hr.mono (by decide)) (at_cons (et_v 0) at_nil) (fun h => pe_call F_many_cases (hr.mono (by decide)) rfl T.m_many_cases T.k_many_cases T.d_many_cases .nil pass0 h)) (et_v 2))
  (st_one st_no)
  st_nil)
  (st_cons (st_dnew (i := 3) (fun h => ps_set (i := 3) nd rfl (by first | exact Or.inl rfl | exact Or.inr rfl) h))
  (st_cons (st_for (it_val (et_fr (ft_call F_all_cases T.m_all_cases T.k_all_cases T.d_all_cases (hr.mono (by decide)) (at_cons (et_v 0) at_nil) (fun h => pe_call F_all_cases (hr.mono (by decide)) rfl T.m_all_cases T.k_all_cases T.d_all_cases .nil pass0 h)))) (gt_name (pg_name (i := 4) nd rfl (by first | exact Or.inl rfl | exact Or.inr rfl)))
  (st_cons (st_dputO (i := 3) hr.u9 (pv 3) (et_v 4) (et_call F_answered T.m_answered T.k_answered T.d_answered (hr.mono (by decide)) (at_cons (et_v 0) (at_cons (et_v 1) (at_cons (et_v 4) at_nil))) (fun h => pe_call F_answered (hr.mono (by decide)) rfl T.m_answered T.k_answered T.d_answered .nil pass0 h)))
  (st_one (st_if (tt_cmp op_is2 o_is2 (et_dgetO (i := 3) hr.u9 (pv 3) (et_v 4) (by intro _ _; rfl)) et_non)
  (st_one st_no)
  st_nil))) (fun hi hg hb => ps_for PassesOwn.never rfl hi hg hb))
  (st_shareD 3 (st_one (st_ret (et_v 3))))))), ?_⟩
  show sSeq _ _ _ [.val (frmD fs an), .val (.list (rs.map ruleD)), .val (.int 500), .un, .un]
  obtain ⟨p1, p2⟩ := many_le S
  refine seq_if (fun b => b = false) (fun q hq => ⟨_, rfl, fs, an, rfl, F, _, rfl, hq _ (decide_eq_false (by omega))⟩) (fun hT => by cases hT) fun _ => ?_
  try unfold sNext
  dsimp only
  refine seq_dnew (w := w) (show 3 < 5 by decide) (fun j hs kvs hj => ?_) ?_
  · rcases j with _ | _ | _ | _ | _ | j <;> simp at hj
  have keyT : ∀ c ∈ prodF (fs.map entD), KeyT (.tuple c) := fun c hc => key_case F (lets_case (LetsOk.whole fs) ((mem_prod _ c).mp hc))
  have keys : ∀ k, ∀ kv ∈ ((prodF (fs.map entD)).take k).map (fun c => (PyData.tuple c, PyData.str (ansOf rs c))), KeyOk kv.1 := fun k kv hkv => by
    obtain ⟨c, hc, rfl⟩ := List.mem_map.mp hkv
    exact (keyT c (List.mem_of_mem_take hc)).1
  refine seq_for (ts := (prodF (fs.map entD)).map PyData.tuple) (fun R h => ⟨_, rfl, fs, an, rfl, F, by omega, _, rfl, by rw [allC_prod]; exact h⟩)
    (fun k σ => ∃ s4 : Sl, σ = [.val (frmD fs an), .val (.list (rs.map ruleD)), .val (.int 500), dicS w (((prodF (fs.map entD)).take k).map fun c => (PyData.tuple c, PyData.str (ansOf rs c))), s4]) ⟨_, rfl⟩ (fun k x σ' hx hP => ?_) fun σ' hP => ?_
  · obtain ⟨s4, rfl⟩ := hP
    rw [List.getElem?_map] at hx
    obtain ⟨c, hck, rfl⟩ := Option.map_eq_some_iff.mp hx
    have hcm := List.mem_of_getElem? hck
    have hcc := lets_case (LetsOk.whole fs) ((mem_prod _ c).mp hcm)
    have hkl : (((prodF (fs.map entD)).take k).map fun c => (PyData.tuple c, PyData.str (ansOf rs c))).length ≤ 125 := by rw [List.length_map, List.length_take]; omega
    refine seq_dput (w := w) (.tuple c) (.str (ansOf rs c)) rfl (fun q hq => ⟨_, rfl, _, rfl, _, rfl, fs, an, rs, c, rfl, F, hL, hcc, by rw [ansD_of hA hcm]; exact hq⟩) (fun q hq => ⟨_, rfl, hq⟩) (keyT c hcm) (keys k) (by omega) ?_
    rw [put_next (prod_nd F) hck]
    have hin : (PyData.tuple c, PyData.str (ansOf rs c)) ∈ ((prodF (fs.map entD)).take (k + 1)).map fun c => (PyData.tuple c, PyData.str (ansOf rs c)) := List.mem_map.mpr ⟨c, by rw [List.take_add_one, hck]; simp, rfl⟩
    refine one_if (fun b => b = false) (fun q hq => ⟨_, rfl, _, rfl, keyT c hcm, keys (k + 1), _, hin, hq _ rfl⟩) (fun hT => by cases hT) fun _ => ⟨_, rfl⟩
  · obtain ⟨s4, rfl⟩ := hP
    rw [List.length_map, List.take_length]
    exact ⟨_, _, rfl, _, rfl, h⟩

theorem sc_first_apart : FnScope ["form", "rows", "case", "number"] ["form", "rows"] (defScope (top 27)) := ⟨rfl, rfl, rfl, by decide +kernel, rfl, by decide +kernel, by decide +kernel⟩
set_option maxHeartbeats 4000000 in
theorem ok_first_apart (T : Txt K mg A) : FnOk P w K mg base CX0 1 A.a_first_apart A.f_first_apart ["form", "rows"] (liftSp K sp_first_apart) := by
  refine fnT T.F_first_apart sc_first_apart (fun ds Q h => by obtain ⟨fs, an, c, l, ans, rfl, F, S, hs, hd, h⟩ := h; rfl) fun cdv Ar outer s H E hr ds Q h => ?_
  obtain ⟨fs, an, c, l, ans, rfl, F, S, hs, hd, h⟩ := h
  have nd := sc_first_apart.nd
  refine ⟨_, (st_cons (st_set (i := 2) (et_ix ix_seq o_ix (et_ix ix_seq o_ix (et_v 1) et_int) et_int) (fun h => ps_set (i := 2) nd rfl (by first | exact Or.inl rfl | exact Or.inr rfl) h))
  (st_cons (st_set (i := 3) et_int (fun h => ps_set (i := 3) nd rfl (by first | exact Or.inl rfl | exact Or.inr rfl) h))
  (st_cons (st_while (tt_val (et_cb c_all (at_cons (et_lc (fr := [none, some 3, some 2]) (N' := ["row", "number", "case"]) (it_val (et_v 1)) (fun b => ⟨(gt_name (pg_name (i := 0) (show List.Nodup (["row", "number", "case"] : List Str) from by decide +kernel) rfl (by first | exact Or.inl rfl | exact Or.inr rfl))), if_nil, (et_cmp (op_eqD hr) o_data (et_ix ix_seq o_ix (et_ix ix_seq o_ix (et_v 0) et_int) (et_v 1)) (et_ix ix_seq o_ix (et_v 2) (et_v 1)))⟩) (fun hi hY => pe_lcc (show lcChk _ (defScope (top 27)) ["form", "rows", "case", "number"] ["row", "number", "case"] [none, some 3, some 2] = true from by decide +kernel) rfl hi hY)) at_nil) (fun h => pe_callB (call_all_bls rfl) rfl T.b_all bl_all h)) (fun h => pt_val h))
  (st_one (st_aug (i := 3) et_int (fun h => ps_aug nd rfl (by first | exact Or.inl rfl | exact Or.inr rfl) h ip_add))) (fun hc hb => ps_while PassesOwn.never hc hb))
  (st_one (st_ret (et_tup (at_cons et_str (at_cons (et_ix ix_seq o_ix (et_ix ix_seq o_ix (et_ix ix_seq o_ix (et_v 0) et_int) (et_v 3)) et_int) (at_cons (et_ix ix_seq o_ix (et_v 2) (et_v 3)) at_nil))))))))), ?_⟩
  show sSeq _ _ _ [.val (frmD fs an), .val (.list (rowsD (c :: l) ans)), .un, .un]
  have n5 := F.n5
  obtain ⟨p1, p2⟩ := many_le S
  have hlen : (c :: l).length ≤ 125 := Nat.le_trans hs.length_le p1
  have hcase : ∀ d ∈ c :: l, isCase fs (.tuple d) = true := fun d hd => lets_case (LetsOk.whole fs) ((mem_prod _ d).mp (hs.subset hd))
  have hcl : ∀ d ∈ c :: l, d.length = fs.length := fun d hd => (case_get (hcase d hd)).1
  have hc0 := hcl c (List.mem_cons_self ..)
  refine seq_set (.tuple c) (fun q hq => ⟨_, rfl, (⟨_, rows_at0 c l ans, ⟨_, rfl, hq⟩⟩ : ItemAt (rowsD (c :: l) ans) 0 _)⟩) ?_
  refine seq_set (.int ((0 : Nat) : Int)) (fun q hq => hq) ?_
  refine seq_while (fun n σ => ∃ m : Nat, σ = [.val (frmD fs an), .val (.list (rowsD (c :: l) ans)), .val (.tuple c), .val (.int (m : Int))] ∧ n = fs.length - m ∧ m < fs.length ∧ ∀ i, i < m → ∀ d ∈ l, d[i]? = c[i]?) fs.length ⟨0, rfl, rfl, F.n1, fun i hi => by omega⟩ fun n σ' hP => ?_
  obtain ⟨m, rfl, rfl, hm, hall⟩ := hP
  have hcm : c[m]? = some c[m] := List.getElem?_eq_getElem (by omega)
  refine ⟨(c :: l).all fun d => decide (d[m]? = c[m]?), fun q hq => ?_, ?_⟩
  · show eCall (f1 gAll) _ _ _
    dsimp only [eCall, aCons, aNil]
    refine lcx_map (ts := rowsD (c :: l) ans) (fun R h => ⟨_, rfl, _, rfl, h⟩) (fun x => match x with | .tuple [.tuple d, _] => .bool (decide (d[m]? = c[m]?)) | _ => .none) (by unfold rowsD; rw [List.length_map]; omega) (fun x q hx hq => ?_) ?_
    · obtain ⟨d, hdm, rfl⟩ := List.mem_map.mp hx
      have hdl := hcl d hdm
      have hdj : d[m]? = some d[m] := List.getElem?_eq_getElem (by omega)
      have e1 := ent_case F (hcase d hdm) hdj
      have e2 := ent_case F (hcase c (List.mem_cons_self ..)) hcm
      refine ⟨_, rfl, _, rfl, _, rfl, _, L2.atI_nat hdj, _, rfl, _, rfl, _, L2.atI_nat hcm, okEq_of ((e1.th (n := 8) (m := 0) (Nat.le_refl 8)).cd (by decide)) ((e2.th (n := 8) (m := 0) (Nat.le_refl 8)).cd (by decide)), ?_⟩
      show q (.bool (PyData.eqv d[m] c[m]))
      rw [eqv_ent e1 e2]
      have hq' : q (.bool (decide (d[m]? = c[m]?))) := hq
      rw [hdj, hcm] at hq'
      simpa using hq'
    · refine ⟨(c :: l).map fun d => decide (d[m]? = c[m]?), ?_, ?_⟩
      · unfold rowsD; rw [List.map_map, List.map_map]; rfl
      · rw [List.all_map]; exact hq
  · cases hb : (c :: l).all fun d => decide (d[m]? = c[m]?) with
    | true =>
      rw [if_pos rfl]
      have hal : ∀ d ∈ l, d[m]? = c[m]? := fun d hd => of_decide_eq_true (List.all_eq_true.mp hb d (List.mem_cons_of_mem _ hd))
      have hnew : ∀ i, i < m + 1 → ∀ d ∈ l, d[i]? = c[i]? := fun i hi d hd => by
        by_cases e : i = m
        · rw [e]; exact hal d hd
        · exact hall i (by omega) d hd
      have hm1 : m + 1 < fs.length := by
        by_cases e : m + 1 < fs.length
        · exact e
        · obtain ⟨d, hdl, hdc⟩ := hd
          refine absurd (List.ext_getElem? fun i => ?_) hdc
          by_cases e2 : i < m + 1
          · exact hnew i e2 d hdl
          · rw [List.getElem?_eq_none (by rw [hcl d (List.mem_cons_of_mem _ hdl)]; omega), List.getElem?_eq_none (by omega)]
      exact ⟨_, rfl, _, rfl, fs.length - (m + 1), by omega, m + 1, rfl, rfl, hm1, hnew⟩
    | false =>
      rw [if_neg (by decide)]
      obtain ⟨d, hdm, hdn⟩ : ∃ d ∈ l, d[m]? ≠ c[m]? := by
        obtain ⟨d, hdm, hdd⟩ := List.all_eq_false.mp hb
        have hne : d[m]? ≠ c[m]? := fun z => hdd (decide_eq_true z)
        rcases List.mem_cons.mp hdm with rfl | hdm
        · exact absurd rfl hne
        · exact ⟨d, hdm, hne⟩
      obtain ⟨f, v, hf, hv, hcv⟩ := head_val F hs hall hdm hdn
      have hfa : L2.atI (fs.map fldD) (m : Int) = some (fldD f) := L2.atI_nat (by rw [List.getElem?_map, hf]; rfl)
      exact ⟨_, rfl, _, rfl, _, rfl, _, hfa, _, rfl, _, rfl, _, rfl, _, L2.atI_nat hcv, (Nat.le_of_ble_eq_true rfl), h m f v hf hv hcv ⟨d, hdm, by rw [← hcv]; exact hdn⟩⟩

theorem sc_tree_for_all : FnScope ["form", "rows", "question", "sides", "yes", "no"] ["form", "rows"] (defScope (top 26)) := ⟨rfl, rfl, rfl, by decide +kernel, rfl, by decide +kernel, by decide +kernel⟩
set_option maxHeartbeats 4000000 in
theorem step_tree_for_all (dd : Nat) (T : Txt K mg A)
    (F_first_apart : FnOk P w K mg base CX0 1 A.a_first_apart A.f_first_apart ["form", "rows"] (liftSp K sp_first_apart))
    (F_parted : FnOk P w K mg base CX0 4 A.a_parted A.f_parted ["form", "question", "stray", "rows"] (liftSp K sp_parted))
    (F_rows_at : FnOk P w K mg base CX0 1 A.a_rows_at A.f_rows_at ["rows", "numbers"] (liftSp K sp_rows_at))
    (F_tree_for_all : FnOk P w K mg base CX0 (5 + dd) A.a_tree_for_all A.f_tree_for_all ["form", "rows"] (liftSp K (sp_tree_for_all_lt dd))) : FnOk P w K mg base CX0 (5 + dd + 1) A.a_tree_for_all A.f_tree_for_all ["form", "rows"] (liftSp K (sp_tree_for_all_lt (dd + 1))) := by
  refine fnT T.F_tree_for_all sc_tree_for_all (fun ds Q h => by obtain ⟨fs, an, l, ans, rfl, F, S, hne, hs, ha, hm, hm15, h⟩ := h; rfl) fun cdv Ar outer s H E hr ds Q h => ?_
  obtain ⟨fs, an, l, ans, rfl, F, S, hne, hs, ha, hm, hm15, h⟩ := h
  have nd := sc_tree_for_all.nd
  refine ⟨_, (st_cons (st_if (tt_cmp op_eq o_eq (et_lensetL (et_lc (fr := [none]) (N' := ["row"]) (it_val (et_v 1)) (fun b => ⟨(gt_name (pg_name (i := 0) (show List.Nodup (["row"] : List Str) from by decide +kernel) rfl (by first | exact Or.inl rfl | exact Or.inr rfl))), if_nil, (et_ix ix_seq o_ix (et_v 0) et_int)⟩) (fun hi hY => pe_lcc (show lcChk _ (defScope (top 26)) ["form", "rows", "question", "sides", "yes", "no"] ["row"] [none] = true from by decide +kernel) rfl hi hY)) (pc := fun h => pe_callB call_len_setN rfl T.b_len bl_len (pa_cons (pe_callTy (call_set_strsL rfl) rfl T.b_set bl_set h) pa_nil))) et_int)
  (st_one (st_ret (et_tup (at_cons et_str (at_cons (et_ix ix_seq o_ix (et_ix ix_seq o_ix (et_v 1) et_int) et_int) at_nil)))))
  st_nil)
  (st_cons (st_set (i := 2) (et_call F_first_apart T.m_first_apart T.k_first_apart T.d_first_apart (hr.mono (by omega)) (at_cons (et_v 0) (at_cons (et_v 1) at_nil)) (fun h => pe_call F_first_apart (hr.mono (by omega)) rfl T.m_first_apart T.k_first_apart T.d_first_apart .nil pass0 h)) (fun h => ps_set (i := 2) nd rfl (by first | exact Or.inl rfl | exact Or.inr rfl) h))
  (st_cons (st_set (i := 3) (et_call F_parted T.m_parted T.k_parted T.d_parted (hr.mono (by omega)) (at_cons (et_v 0) (at_cons (et_v 2) (at_cons et_str (at_cons (et_v 1) at_nil)))) (fun h => pe_call F_parted (hr.mono (by omega)) rfl T.m_parted T.k_parted T.d_parted .nil pass0 h)) (fun h => ps_set (i := 3) nd rfl (by first | exact Or.inl rfl | exact Or.inr rfl) h))
  (st_cons (st_set (i := 4) (et_call F_tree_for_all T.m_tree_for_all T.k_tree_for_all T.d_tree_for_all (hr.mono (by omega)) (at_cons (et_v 0) (at_cons (et_call F_rows_at T.m_rows_at T.k_rows_at T.d_rows_at (hr.mono (by omega)) (at_cons (et_v 1) (at_cons (et_ix ix_seq o_ix (et_v 3) et_int) at_nil)) (fun h => pe_call F_rows_at (hr.mono (by omega)) rfl T.m_rows_at T.k_rows_at T.d_rows_at .nil pass0 h)) at_nil)) (fun h => pe_call F_tree_for_all (hr.mono (by omega)) rfl T.m_tree_for_all T.k_tree_for_all T.d_tree_for_all .nil pass0 h)) (fun h => ps_set (i := 4) nd rfl (by first | exact Or.inl rfl | exact Or.inr rfl) h))
  (st_cons (st_set (i := 5) (et_call F_tree_for_all T.m_tree_for_all T.k_tree_for_all T.d_tree_for_all (hr.mono (by omega)) (at_cons (et_v 0) (at_cons (et_call F_rows_at T.m_rows_at T.k_rows_at T.d_rows_at (hr.mono (by omega)) (at_cons (et_v 1) (at_cons (et_ix ix_seq o_ix (et_v 3) et_int) at_nil)) (fun h => pe_call F_rows_at (hr.mono (by omega)) rfl T.m_rows_at T.k_rows_at T.d_rows_at .nil pass0 h)) at_nil)) (fun h => pe_call F_tree_for_all (hr.mono (by omega)) rfl T.m_tree_for_all T.k_tree_for_all T.d_tree_for_all .nil pass0 h)) (fun h => ps_set (i := 5) nd rfl (by first | exact Or.inl rfl | exact Or.inr rfl) h))
  (st_one (st_ret (et_if (tt_cmp (op_eqD hr) o_data (et_v 4) (et_v 5)) (et_v 4) (et_tup (at_cons et_str (at_cons (et_v 2) (at_cons et_str (at_cons (et_v 4) (at_cons (et_v 5) at_nil)))))))))))))), ?_⟩
  show sSeq _ _ _ [.val (frmD fs an), .val (.list (rowsD l ans)), .un, .un, .un, .un]
  obtain ⟨p1, p2⟩ := many_le S
  have hcase : ∀ d ∈ l, isCase fs (.tuple d) = true := fun d hd => lets_case (LetsOk.whole fs) ((mem_prod _ d).mp (hs.subset hd))
  have hlen : l.length ≤ 125 := Nat.le_trans hs.length_le p1
  obtain ⟨c, l0, hl⟩ : ∃ c l0, l = c :: l0 := by
    cases l with
    | nil => exact absurd rfl hne
    | cons c l0 => exact ⟨c, l0, rfl⟩
  have hcm : c ∈ l := by rw [hl]; exact List.mem_cons_self ..
  have hra : L2.atI (rowsD l ans) 0 = some (rowD (c, ans c)) := by rw [hl]; exact rows_at0 c l0 ans
  refine seq_if (fun b => b = decide ((L2.dd (l.map ans)).length = 1)) (fun q hq => ?_) (fun hT => ?_) fun hF => ?_
  · dsimp only [cTest, eOp, eLenSetL]
    refine lcx_map (ts := rowsD l ans) (fun R h => ⟨_, rfl, _, rfl, h⟩) (fun x => match x with | .tuple [_, a] => a | _ => .none) (by unfold rowsD; rw [List.length_map]; omega) (fun x q hx hq => ?_) ?_
    · obtain ⟨d, hdm, rfl⟩ := List.mem_map.mp hx
      exact ⟨_, rfl, _, rfl, hq⟩
    · refine ⟨l.map ans, ?_, by rw [List.length_map]; omega, ?_⟩
      · unfold rowsD; rw [List.map_map, List.map_map]; rfl
      · refine hq _ ?_
        show decide (((L2.dd (l.map ans)).length : Int) = 1) = _
        rw [Bool.eq_iff_iff, decide_eq_true_eq, decide_eq_true_eq]; omega
  · have h1 : (L2.dd (l.map ans)).length = 1 := of_decide_eq_true hT.symm
    rw [hl, List.map_cons, dd_one] at h1
    refine ⟨_, rfl, _, hra, _, rfl, (Nat.le_of_ble_eq_true rfl), h (.say (ans c)) ⟨ha c hcm, Nat.zero_le _, ?_, fun d hd => ?_⟩⟩
    · rw [hl]; show 0 + 1 ≤ _ + 1; omega
    · rw [hl] at hd
      show ans c = ans d
      rcases List.mem_cons.mp hd with rfl | hd
      · rfl
      · exact (h1 _ (List.mem_map.mpr ⟨d, hd, rfl⟩)).symm
  · try unfold sNext
    dsimp only
    have h1 : ¬ (L2.dd (l.map ans)).length = 1 := of_decide_eq_false hF.symm
    rw [hl, List.map_cons, dd_one] at h1
    have hex : ∃ d ∈ l0, d ≠ c := by
      refine Classical.byContradiction fun z => h1 fun a hm => ?_
      obtain ⟨d, hd, rfl⟩ := List.mem_map.mp hm
      by_cases e : d = c
      · rw [e]
      · exact absurd ⟨d, hd, e⟩ z
    refine seq_setR (fun x => ∃ (j : Nat) (f : Str × List Str) (v : Str), fs[j]? = some f ∧ v ∈ f.2 ∧ c[j]? = some (.str v) ∧ (∃ d ∈ l, d[j]? ≠ some (.str v)) ∧ x = .tuple [.str "is", .str f.1, .str v]) (fun q hq => ⟨_, rfl, _, rfl, fs, an, c, l0, ans, by rw [hl], F, S, by rw [← hl]; exact hs, hex, fun j f v h1 h2 h3 ⟨d, hd, h4⟩ => hq _ ⟨j, f, v, h1, h2, h3, ⟨d, by rw [hl]; exact List.mem_cons_of_mem _ hd, h4⟩, rfl⟩⟩) ?_
    rintro _ ⟨j, f, v, hf, hv, hcv, ⟨d0, hd0, hdv⟩, rfl⟩
    have hq : isQ fs (.tuple [.str "is", .str f.1, .str v]) = true := (side_is F hf hv (hcase c hcm)).2.2
    let py : List D → Bool := fun d => decide (d[j]? = some (.str v))
    have ny : ¬ ("no" : Str) = "yes" := by decide +kernel
    have sy : ∀ d ∈ l, decide (sideS fs "is" f.1 v "no" d = "yes") = py d := fun d hd => by
      rw [(side_is F hf hv (hcase d hd)).1]
      show decide ((if d[j]? = some (.str v) then ("yes" : Str) else "no") = "yes") = decide (d[j]? = some (.str v))
      by_cases e : d[j]? = some (.str v)
      · rw [if_pos e, decide_eq_true e, decide_eq_true rfl]
      · rw [if_neg e, decide_eq_false e, decide_eq_false ny]
    have sn : ∀ d ∈ l, decide (sideS fs "is" f.1 v "no" d = "no") = !py d := fun d hd => by
      rw [(side_is F hf hv (hcase d hd)).1]
      show decide ((if d[j]? = some (.str v) then ("yes" : Str) else "no") = "no") = !decide (d[j]? = some (.str v))
      by_cases e : d[j]? = some (.str v)
      · rw [if_pos e, decide_eq_true e, decide_eq_false (fun z => ny z.symm)]; rfl
      · rw [if_neg e, decide_eq_false e, decide_eq_true rfl]; rfl
    have part : ∀ (w : Str) (p : List D → Bool), (∀ d ∈ l, decide (sideS fs "is" f.1 v "no" d = w) = p d) → ((l.map (rowP ans)).filter fun r => decide (sideS fs "is" f.1 v "no" r.1 = w)).map rowD = rowsD (l.filter p) ans := fun w p hp => by
      rw [rows_filt l ans fun c => decide (sideS fs "is" f.1 v "no" c = w), rowsD_eq]
      congr 2
      exact List.filter_congr hp
    have hrl : (l.map (rowP ans)).length ≤ 500 := by rw [List.length_map]; omega
    refine seq_set (.tuple [.list (sideIx fs "is" f.1 v "no" (l.map (rowP ans)) "yes"), .list (sideIx fs "is" f.1 v "no" (l.map (rowP ans)) "no")]) (fun q hq' => ⟨_, rfl, _, rfl, _, rfl, fs, an, "is", f.1, v, "no", l.map (rowP ans), by rw [rowsD_eq], F, hq, .inr rfl, fun r hr => ?_, hrl, hq'⟩) ?_
    · obtain ⟨d, hd, rfl⟩ := List.mem_map.mp hr
      exact hcase d hd
    rw [side_pick, side_pick]
    have subY : (l.filter py).Sublist l := List.filter_sublist
    have subN : (l.filter fun d => !py d).Sublist l := List.filter_sublist
    have neY : c ∈ l.filter py := List.mem_filter.mpr ⟨hcm, decide_eq_true hcv⟩
    have neN : d0 ∈ l.filter fun d => !py d := List.mem_filter.mpr ⟨hd0, by show (!decide (_ = _)) = true; rw [decide_eq_false hdv]; rfl⟩
    have hfe : (fs.map entD)[j]? = some (entD f) := by rw [List.getElem?_map, hf]; rfl
    have muN : mu (l.filter fun d => !py d) (fs.map entD) 0 < mu l (fs.map entD) 0 := mu_lt (fun d hd => subN.subset hd) hfe (x := .str v) (List.mem_append_left _ (List.mem_map.mpr ⟨v, hv, rfl⟩)) ⟨c, hcm, by rw [Nat.zero_add]; exact hcv⟩ fun d hd z => by
      rw [Nat.zero_add] at z
      have := (List.mem_filter.mp hd).2
      have e : py d = true := decide_eq_true z
      rw [e] at this
      cases this
    have hd0l := (case_get (hcase d0 hd0)).1
    have hjl := (List.getElem?_eq_some_iff.mp hf).1
    have hd0j : d0[j]? = some d0[j] := List.getElem?_eq_getElem (by omega)
    have muY : mu (l.filter py) (fs.map entD) 0 < mu l (fs.map entD) 0 := mu_lt (fun d hd => subY.subset hd) hfe (x := d0[j]) ((InL_get ((mem_prod _ d0).mp (hs.subset hd0))).2 j _ _ hfe hd0j) ⟨d0, hd0, by rw [Nat.zero_add]; exact hd0j⟩ fun d hd z => by
      rw [Nat.zero_add] at z
      have : d[j]? = some (.str v) := of_decide_eq_true (List.mem_filter.mp hd).2
      rw [z] at this
      exact hdv (hd0j.trans this)
    refine seq_setR (fun x => ∃ t, TreeFor fs an (l.filter py) ans (mu (l.filter py) (fs.map entD) 0) t ∧ x = trD t) (fun q hq' => ⟨_, rfl, _, rfl, _, rfl, _, rfl, l.map (rowP ans), _, by rw [rowsD_eq], hrl, ?_⟩) ?_
    · rw [part "yes" py sy]
      exact ⟨fs, an, l.filter py, ans, rfl, F, S, fun z => by rw [z] at neY; simp at neY, subY.trans hs, fun d hd => ha d (subY.subset hd), by omega, by omega, fun t ht => hq' _ ⟨t, ht, rfl⟩⟩
    rintro _ ⟨ty, hty, rfl⟩
    refine seq_setR (fun x => ∃ t, TreeFor fs an (l.filter fun d => !py d) ans (mu (l.filter fun d => !py d) (fs.map entD) 0) t ∧ x = trD t) (fun q hq' => ⟨_, rfl, _, rfl, _, rfl, _, rfl, l.map (rowP ans), _, by rw [rowsD_eq], hrl, ?_⟩) ?_
    · rw [part "no" (fun d => !py d) sn]
      exact ⟨fs, an, l.filter fun d => !py d, ans, rfl, F, S, fun z => by rw [z] at neN; simp at neN, subN.trans hs, fun d hd => ha d (subN.subset hd), by omega, by omega, fun t ht => hq' _ ⟨t, ht, rfl⟩⟩
    rintro _ ⟨tn, htn, rfl⟩
    obtain ⟨y1, y2, y3, y4⟩ := hty
    obtain ⟨m1, m2, m3, m4⟩ := htn
    have two := filt_two py l
    have ey := eqv_tr ty tn
    refine ⟨_, rfl, _, rfl, okEq_of (cd_tr F y1 (by omega)) (cd_tr F m1 (by omega)), ?_⟩
    show (if PyData.eqv (trD ty) (trD tn) = true then _ else _)
    by_cases e : ty = tn
    · rw [if_pos (ey.mpr e)]
      refine ⟨_, rfl, h ty ⟨y1, by omega, by omega, fun d hd => ?_⟩⟩
      by_cases ed : py d = true
      · exact y4 d (List.mem_filter.mpr ⟨hd, ed⟩)
      · rw [e]; exact m4 d (List.mem_filter.mpr ⟨hd, by simpa using ed⟩)
    · rw [if_neg (fun z => e (ey.mp z))]
      refine ⟨_, rfl, _, rfl, _, rfl, (Nat.le_of_ble_eq_true rfl), h (.ask "is" f.1 v "no" ty tn) ⟨⟨hq, .inr rfl, y1, m1⟩, ?_, ?_, fun d hd => ?_⟩⟩
      · show max ty.dep tn.dep + 1 ≤ _
        omega
      · show ty.kn + tn.kn + 1 + 1 ≤ _
        omega
      · show (if atB d (jx fs f.1) (sideG fs "is" f.1 v "no") = true then _ else _) = _
        rw [(side_is F hf hv (hcase d hd)).2.1]
        by_cases ed : d[j]? = some (.str v)
        · rw [if_pos (decide_eq_true ed)]
          exact y4 d (List.mem_filter.mpr ⟨hd, decide_eq_true ed⟩)
        · rw [if_neg (by simpa using ed)]
          exact m4 d (List.mem_filter.mpr ⟨hd, by show (!decide (_ = _)) = true; rw [decide_eq_false ed]; rfl⟩)

theorem ok_tree_for_all (T : Txt K mg A)
    (F_first_apart : FnOk P w K mg base CX0 1 A.a_first_apart A.f_first_apart ["form", "rows"] (liftSp K sp_first_apart))
    (F_parted : FnOk P w K mg base CX0 4 A.a_parted A.f_parted ["form", "question", "stray", "rows"] (liftSp K sp_parted))
    (F_rows_at : FnOk P w K mg base CX0 1 A.a_rows_at A.f_rows_at ["rows", "numbers"] (liftSp K sp_rows_at)) : FnOk P w K mg base CX0 21 A.a_tree_for_all A.f_tree_for_all ["form", "rows"] (liftSp K sp_tree_for_all) := by
  have h : ∀ dd : Nat, FnOk P w K mg base CX0 (5 + dd) A.a_tree_for_all A.f_tree_for_all ["form", "rows"] (liftSp K (sp_tree_for_all_lt dd)) := fun dd => by
    induction dd with
    | zero => exact fn_imp fn_never fun ds Q h => never_tree_for_all h
    | succ dd ih => exact step_tree_for_all dd T F_first_apart F_parted F_rows_at ih
  exact h 16
theorem sc_tree_of : FnScope ["form", "rules", "answers"] ["form", "rules"] (defScope (top 25)) := ⟨rfl, rfl, rfl, by decide +kernel, rfl, by decide +kernel, by decide +kernel⟩
set_option maxHeartbeats 4000000 in
theorem ok_tree_of (T : Txt K mg A)
    (F_all_answered : FnOk P w K mg base CX0 4 A.a_all_answered A.f_all_answered ["form", "rules", "most"] (liftSp K (sp_all_answered w)))
    (F_tree_for_all : FnOk P w K mg base CX0 21 A.a_tree_for_all A.f_tree_for_all ["form", "rows"] (liftSp K sp_tree_for_all)) : FnOk P w K mg base CX0 22 A.a_tree_of A.f_tree_of ["form", "rules"] (liftSp K sp_tree_of) := by
  refine fnT T.F_tree_of sc_tree_of (fun ds Q h => by obtain ⟨fs, an, rs, rfl, F, S, hR, hA, h⟩ := h; rfl) fun cdv Ar outer s H E hr ds Q h => ?_
  obtain ⟨fs, an, rs, rfl, F, S, hR, hA, h⟩ := h
  have nd := sc_tree_of.nd
  refine ⟨_, (st_cons (st_set (i := 2) (et_call F_all_answered T.m_all_answered T.k_all_answered T.d_all_answered (hr.mono (by decide)) (at_cons (et_v 0) (at_cons (et_v 1) (at_cons (et_gint rfl T.c_MOST_CASES_BACK) at_nil))) (fun h => pe_call F_all_answered (hr.mono (by decide)) rfl T.m_all_answered T.k_all_answered T.d_all_answered .nil pass0 h)) (fun h => ps_set (i := 2) nd rfl (by first | exact Or.inl rfl | exact Or.inr rfl) h))
  (st_one (st_ret (et_call F_tree_for_all T.m_tree_for_all T.k_tree_for_all T.d_tree_for_all (hr.mono (by decide)) (at_cons (et_v 0) (at_cons (et_litems (et_v 2) (pc := fun h => pe_callTy (call_list_itemsR rfl) rfl T.b_list bl_list (pa_cons (pe_ditems h) pa_nil))) at_nil)) (fun h => pe_call F_tree_for_all (hr.mono (by decide)) rfl T.m_tree_for_all T.k_tree_for_all T.d_tree_for_all .nil pass0 h))))), ?_⟩
  show sSeq _ _ _ [.val (frmD fs an), .val (.list (rs.map ruleD)), .un]
  refine seq_set (dicD w ((prodF (fs.map entD)).map fun c => (PyData.tuple c, PyData.str (ansOf rs c)))) (fun q hq => ⟨_, rfl, _, rfl, fs, an, rs, rfl, F, S, fun r hr => (hR r hr).1, hA, hq⟩) ?_
  have hmu : mu (prodF (fs.map entD)) (fs.map entD) 0 ≤ 15 := mu_small S _
  have hne : prodF (fs.map entD) ≠ [] := fun z => by
    have := manyC_pos fs
    rw [← allC_len, allC_prod, z] at this
    cases this
  exact ⟨_, rfl, _, rfl, _, rfl, fs, an, prodF (fs.map entD), ansOf rs, (congrArg (fun z => [frmD fs an, PyData.list z]) (List.map_map ..)), F, S, hne, List.Sublist.refl _, fun c hc => ansOf_mem hA (fun r hr => (hR r hr).2) hc, by omega, hmu, fun t ht => h t ⟨ht.1, by have := ht.2.1; omega, ht.2.2.1, ht.2.2.2⟩⟩

theorem sc__law_tape : FnScope ["_law_script", "_law_way_here"] ["_law_script"] (defScope (top 29)) := ⟨rfl, rfl, rfl, by decide +kernel, rfl, by decide +kernel, by decide +kernel⟩
set_option maxHeartbeats 4000000 in
theorem ok__law_tape (T : Txt K mg A) : FnOk P w K mg base CX0 1 A.a__law_tape A.f__law_tape ["_law_script"] (liftSpF K sp__law_tape) := by
  refine fnF T.F__law_tape sc__law_tape (fun ds Q h => by obtain ⟨ns, rfl, hl, h⟩ := h; rfl) fun cdv Ar outer s H E hr ds Q h => ?_
  obtain ⟨ns, rfl, hl, h⟩ := h
  have nd := sc__law_tape.nd
  refine ⟨_, (st_cons (st_set (i := 1) et_int (fun h => ps_set (i := 1) nd rfl (by first | exact Or.inl rfl | exact Or.inr rfl) h))
  (st_cons (st_if (tt_cmp op_gt o_B0 (et_cb c_len (at_cons (et_v 0) at_nil) (fun h => pe_callB call_lenAny rfl T.b_len bl_len h)) et_int)
  (st_one (st_set (i := 1) (et_op op_mod o_I (et_ix ix_seq o_ix (et_v 0) et_int) et_int) (fun h => ps_set (i := 1) nd rfl (by first | exact Or.inl rfl | exact Or.inr rfl) h)))
  st_nil)
  (st_one (st_retF (ft_lst (at_cons (et_slice sl_any o_sl (et_v 0) ot_none (ot_some et_int)) (at_cons et_int (at_cons et_int (at_cons (et_v 1) at_nil))))))))), ?_⟩
  show sSeq _ _ _ [.val (.list (ns.map PyData.int)), .un]
  refine seq_set (.int 0) (fun q hq => hq) ?_
  refine seq_ifsetC (0 < ns.length) (fun d => ∃ c : Int, d = .int c ∧ (c = 0 ∨ c = 1)) (fun q hq => ⟨_, rfl, hq _ fun hb => ?_⟩) (fun hn q hq => ?_) (.int 0) rfl ⟨0, rfl, .inl rfl⟩ ?_
  · have hb' : ((ns.map PyData.int).length : Int) > 0 := of_decide_eq_true hb
    rw [List.length_map] at hb'
    omega
  · have e : L2.atI (ns.map PyData.int) 0 = some (.int ns[0]) := L2.atI_nat (j := 0) (by rw [List.getElem?_map, List.getElem?_eq_getElem hn]; rfl)
    refine ⟨_, rfl, _, e, (show (0 : Int) < 2 by decide), hq _ ⟨_, rfl, ?_⟩⟩
    omega
  rintro _ ⟨c, rfl, hc⟩
  have ecut : cutD (ns.map PyData.int) none (some 63) = ns.map PyData.int := by
    have := cut_ns (ns.map PyData.int) 63
    rw [List.take_of_length_le (by rw [List.length_map]; exact hl)] at this
    exact this
  refine ⟨_, rfl, _, rfl, (Nat.le_of_ble_eq_true rfl), ?_⟩
  rw [ecut]
  exact h c hc

theorem sc__law_draw : FnScope ["_law_tape_here", "_law_many", "_law_script", "_law_spot", "_law_cell", "_law_left", "_law_mixed"] ["_law_tape_here", "_law_many"] (defScope (top 30)) := ⟨rfl, rfl, rfl, by decide +kernel, rfl, by decide +kernel, by decide +kernel⟩
set_option maxHeartbeats 4000000 in
theorem ok__law_draw (T : Txt K mg A) : FnOk P w K mg base CX0 1 A.a__law_draw A.f__law_draw ["_law_tape_here", "_law_many"] (liftSp K sp__law_draw) := by
  refine fnT T.F__law_draw sc__law_draw (fun ds Q h => by obtain ⟨ns, m, rfl, hl, hm0, hm1, h⟩ := h; rfl) fun cdv Ar outer s H E hr ds Q h => ?_
  obtain ⟨ns, m, rfl, hl, hm0, hm1, h⟩ := h
  have nd := sc__law_draw.nd
  refine ⟨_, (st_cons (st_set (i := 2) (et_tape (i := 0) 0 (pe_ix ix_seq (pv 0) pe_int (by intro _ _; rfl))) (fun h => ps_set (i := 2) nd rfl (by first | exact Or.inl rfl | exact Or.inr rfl) h))
  (st_cons (st_set (i := 3) (et_tape (i := 0) 1 (pe_ix ix_seq (pv 0) pe_int (by intro _ _; rfl))) (fun h => ps_set (i := 3) nd rfl (by first | exact Or.inl rfl | exact Or.inr rfl) h))
  (st_cons (st_tapePut (i := 0) 1 (et_op op_addAny o_add (et_v 3) et_int) (pg_sub (pv 0) pe_int set_list) (fun he hg => ps_asg he hg))
  (st_cons (st_set (i := 4) et_int (fun h => ps_set (i := 4) nd rfl (by first | exact Or.inl rfl | exact Or.inr rfl) h))
  (st_cons (st_if (tt_cmp op_gt o_B0 (et_cb c_len (at_cons (et_v 2) at_nil) (fun h => pe_callB call_lenAny rfl T.b_len bl_len h)) et_int)
  (st_one (st_set (i := 4) (et_ix ix_seq o_ix (et_v 2) (et_op op_mod o_I (et_if (tt_cmp op_eq o_eq (et_tape (i := 0) 3 (pe_ix ix_seq (pv 0) pe_int (by intro _ _; rfl))) et_int) (et_op op_fdiv o_I (et_v 3) et_int) (et_v 3)) (et_cb c_len (at_cons (et_v 2) at_nil) (fun h => pe_callB call_lenAny rfl T.b_len bl_len h)))) (fun h => ps_set (i := 4) nd rfl (by first | exact Or.inl rfl | exact Or.inr rfl) h)))
  st_nil)
  (st_cons (st_if (tt_cmp op_eq o_eq (et_tape (i := 0) 3 (pe_ix ix_seq (pv 0) pe_int (by intro _ _; rfl))) et_int)
  (st_cons (st_if (tt_cmp op_eq o_eq (et_op op_mod o_I (et_v 3) et_int) et_int)
  (st_one (st_tapePut (i := 0) 2 (et_op op_fdiv o_I (et_v 4) et_int) (pg_sub (pv 0) pe_int set_list) (fun he hg => ps_asg he hg)))
  st_nil)
  (st_cons (st_set (i := 5) (et_tape (i := 0) 2 (pe_ix ix_seq (pv 0) pe_int (by intro _ _; rfl))) (fun h => ps_set (i := 5) nd rfl (by first | exact Or.inl rfl | exact Or.inr rfl) h))
  (st_cons (st_tapePut (i := 0) 2 (et_op op_fdiv o_I (et_v 5) (et_v 1)) (pg_sub (pv 0) pe_int set_list) (fun he hg => ps_asg he hg))
  (st_one (st_ret (et_op op_mod o_I (et_v 5) (et_v 1)))))))
  st_nil)
  (st_cons (st_set (i := 6) (et_op op_mod o_I (et_op op_mulAny o_mul (et_op op_addAny o_add (et_op op_mod o_I (et_v 4) et_int) et_int) (et_op op_addAny o_add (et_op op_addAny o_add (et_op op_mulAny o_mul (et_op op_mod o_I (et_v 3) et_int) et_int) et_int) (et_v 3))) et_int) (fun h => ps_set (i := 6) nd rfl (by first | exact Or.inl rfl | exact Or.inr rfl) h))
  (st_cons (st_set (i := 6) (et_op op_mod o_I (et_op op_addAny o_add (et_op op_addAny o_add (et_op op_mulAny o_mul (et_v 6) (et_v 6)) (et_op op_mulAny o_mul et_int (et_v 6))) (et_v 3)) et_int) (fun h => ps_set (i := 6) nd rfl (by first | exact Or.inl rfl | exact Or.inr rfl) h))
  (st_one (st_ret (et_op op_mod o_I (et_op op_mod o_I (et_op op_mulAny o_mul (et_v 6) et_int) et_int) (et_v 1)))))))))))), ?_⟩
  show sSeq _ _ _ [.val (tapeD ns), .val (.int m), .un, .un, .un, .un, .un]
  have p60 : (0 : Int) < 60 := by decide
  refine seq_set (.list (ns.map PyData.int)) (fun q hq => ⟨ns, rfl, hq⟩) ?_
  refine seq_setR (fun d => ∃ a : Int, d = .int a ∧ 0 ≤ a) (fun q hq => ⟨ns, rfl, fun a ha => hq _ ⟨a, rfl, ha⟩⟩) ?_
  rintro _ ⟨a, rfl, ha⟩
  refine seq_tapePut1 ns rfl (a + 1) (fun q hq => ⟨_, rfl, hq⟩) (by omega) ?_
  refine seq_set (.int 0) (fun q hq => hq) ?_
  refine seq_ifsetC (0 < ns.length) (fun d => ∃ c : Int, d = .int c) (fun q hq => ⟨_, rfl, hq _ fun hb => ?_⟩) (fun hn q hq => ?_) (.int 0) rfl ⟨0, rfl⟩ ?_
  · have hb' : ((ns.map PyData.int).length : Int) > 0 := of_decide_eq_true hb
    rw [List.length_map] at hb'
    omega
  · have hp : (0 : Int) < ((ns.map PyData.int).length : Nat) := by rw [List.length_map]; omega
    refine ⟨_, rfl, ns, rfl, fun c hc => ?_⟩
    show (if decide (c = 1) = true then _ else _)
    split
    · obtain ⟨x, hx⟩ := atI_modI hn (a / 60)
      exact ⟨_, rfl, ⟨by decide, by decide⟩, _, rfl, hp, _, hx, hq _ ⟨x, rfl⟩⟩
    · obtain ⟨x, hx⟩ := atI_modI hn a
      exact ⟨_, rfl, _, rfl, hp, _, hx, hq _ ⟨x, rfl⟩⟩
  rintro _ ⟨c, rfl⟩
  refine seq_if (fun _ => True) (fun q hq => ⟨ns, rfl, fun w hw => hq _ trivial⟩) (fun _ => ?_) fun _ => ?_
  · refine seq_if (fun _ => True) (fun q hq => ⟨_, rfl, p60, hq _ trivial⟩) (fun _ => ?_) fun _ => ?_
    · refine one_tapePut2 ns rfl (c / 2) (fun q hq => ⟨_, rfl, ⟨by decide, by decide⟩, hq⟩) ?_
      dsimp only
      refine seq_setR (fun d => ∃ b : Int, d = .int b) (fun q hq => ⟨ns, rfl, fun b => hq _ ⟨b, rfl⟩⟩) ?_
      rintro _ ⟨b, rfl⟩
      refine seq_tapePut2 ns rfl (b / m) (fun q hq => ⟨_, rfl, _, rfl, ⟨hm0, by omega⟩, hq⟩) ?_
      exact ⟨_, rfl, _, rfl, hm0, h _ (Int.emod_nonneg _ (by omega)) (Int.emod_lt_of_pos _ hm0)⟩
    · unfold sNext
      dsimp only
      refine seq_setR (fun d => ∃ b : Int, d = .int b) (fun q hq => ⟨ns, rfl, fun b => hq _ ⟨b, rfl⟩⟩) ?_
      rintro _ ⟨b, rfl⟩
      refine seq_tapePut2 ns rfl (b / m) (fun q hq => ⟨_, rfl, _, rfl, ⟨hm0, by omega⟩, hq⟩) ?_
      exact ⟨_, rfl, _, rfl, hm0, h _ (Int.emod_nonneg _ (by omega)) (Int.emod_lt_of_pos _ hm0)⟩
  · unfold sNext
    dsimp only
    have q1 : (0 : Int) < 1000003 := by decide
    have q2 : (0 : Int) < 997 := by decide
    have q3 : (0 : Int) < 1000033 := by decide
    have q4 : (0 : Int) < 999983 := by decide
    have q5 : (0 : Int) < 65537 := by decide
    have c0 : (0 : Int) ≤ c % 1000003 ∧ c % 1000003 < 1000003 := ⟨Int.emod_nonneg _ (by decide), Int.emod_lt_of_pos _ (by decide)⟩
    have a0 : (0 : Int) ≤ a % 997 ∧ a % 997 < 997 := ⟨Int.emod_nonneg _ (by decide), Int.emod_lt_of_pos _ (by decide)⟩
    refine seq_setR (fun d => ∃ x : Int, d = .int x ∧ 0 ≤ x ∧ x < 1000033) (fun q hq => ⟨_, rfl, q1, _, rfl, q2, .inr ⟨by decide, by decide⟩, _, rfl, .inl ⟨by omega, by omega⟩, q3, hq _ ⟨_, rfl, Int.emod_nonneg _ (by decide), Int.emod_lt_of_pos _ (by decide)⟩⟩) ?_
    rintro _ ⟨x, rfl, x0, x1⟩
    refine seq_setR (fun d => ∃ x : Int, d = .int x ∧ 0 ≤ x ∧ x < 999983) (fun q hq => ⟨_, rfl, _, rfl, .inl ⟨by omega, by omega⟩, _, rfl, .inl ⟨by decide, by decide⟩, _, rfl, q4, hq _ ⟨_, rfl, Int.emod_nonneg _ (by decide), Int.emod_lt_of_pos _ (by decide)⟩⟩) ?_
    rintro _ ⟨y, rfl, y0, y1⟩
    exact ⟨_, rfl, .inl ⟨by omega, by omega⟩, q5, _, rfl, hm0, h _ (Int.emod_nonneg _ (by omega)) (Int.emod_lt_of_pos _ hm0)⟩

theorem sc__law_names : FnScope ["_law_tape_here", "_law_many", "_law_letters", "_law_way_here", "_law_some", "_law_turn", "_law_base", "_law_size", "_law_names_here", "_law_at", "_law_start"] ["_law_tape_here", "_law_many"] (defScope (top 31)) := ⟨rfl, rfl, rfl, by decide +kernel, rfl, by decide +kernel, by decide +kernel⟩
set_option maxHeartbeats 4000000 in
theorem ok__law_names (T : Txt K mg A)
    (F__law_draw : FnOk P w K mg base CX0 1 A.a__law_draw A.f__law_draw ["_law_tape_here", "_law_many"] (liftSp K sp__law_draw)) : FnOk P w K mg base CX0 2 A.a__law_names A.f__law_names ["_law_tape_here", "_law_many"] (liftSp K sp__law_names) := by
  refine fnT T.F__law_names sc__law_names (fun ds Q h => by obtain ⟨ns, m, rfl, hl, hm1, hm5, h⟩ := h; rfl) fun cdv Ar outer s H E hr ds Q h => ?_
  obtain ⟨ns, m, rfl, hl, hm1, hm5, h⟩ := h
  have nd := sc__law_names.nd
  refine ⟨_, (st_cons (st_set (i := 2) et_str (fun h => ps_set (i := 2) nd rfl (by first | exact Or.inl rfl | exact Or.inr rfl) h))
  (st_cons (st_set (i := 3) (et_call F__law_draw T.m__law_draw T.k__law_draw T.d__law_draw (hr.mono (by decide)) (at_cons (et_v 0) (at_cons et_int at_nil)) (fun h => pe_call F__law_draw (hr.mono (by decide)) rfl T.m__law_draw T.k__law_draw T.d__law_draw .nil pass0 h)) (fun h => ps_set (i := 3) nd rfl (by first | exact Or.inl rfl | exact Or.inr rfl) h))
  (st_cons (st_if (tt_cmp op_eq o_eq (et_v 3) et_int)
  (st_cons (st_setN (i := 4) nd rfl (by first | exact Or.inl rfl | exact Or.inr rfl) (et_lst (at_consts rfl)))
  (st_cons (st_set (i := 5) (et_call F__law_draw T.m__law_draw T.k__law_draw T.d__law_draw (hr.mono (by decide)) (at_cons (et_v 0) (at_cons et_int at_nil)) (fun h => pe_call F__law_draw (hr.mono (by decide)) rfl T.m__law_draw T.k__law_draw T.d__law_draw .nil pass0 h)) (fun h => ps_set (i := 5) nd rfl (by first | exact Or.inl rfl | exact Or.inr rfl) h))
  (st_one (st_ret (et_slice sl_any o_sl (et_op op_addAny o_add (et_slice sl_any o_sl (et_v 4) (ot_some (et_v 5)) ot_none) (et_slice sl_any o_sl (et_v 4) ot_none (ot_some (et_v 5)))) ot_none (ot_some (et_v 1)))))))
  st_nil)
  (st_cons (st_set (i := 6) (et_join et_str (at_cons (et_lc (fr := [none, some 2, some 0]) (N' := ["_law_k", "_law_letters", "_law_tape_here"]) (it_range (at_cons et_int at_nil) (fun h => pi_range1 rfl T.b_range h)) (fun b => ⟨(gt_name (pg_name (i := 0) (show List.Nodup (["_law_k", "_law_letters", "_law_tape_here"] : List Str) from by decide +kernel) rfl (by first | exact Or.inl rfl | exact Or.inr rfl))), if_nil, (et_ix ix_seq o_ix (et_v 1) (et_call F__law_draw T.m__law_draw T.k__law_draw T.d__law_draw (hr.mono (by decide)) (at_cons (et_v 2) (at_cons et_int at_nil)) (fun h => pe_call F__law_draw (hr.mono (by decide)) rfl T.m__law_draw T.k__law_draw T.d__law_draw .nil pass0 h)))⟩) (fun hi hY => pe_lcc (show lcChk _ (defScope (top 31)) ["_law_tape_here", "_law_many", "_law_letters", "_law_way_here", "_law_some", "_law_turn", "_law_base", "_law_size", "_law_names_here", "_law_at", "_law_start"] ["_law_k", "_law_letters", "_law_tape_here"] [none, some 2, some 0] = true from by decide +kernel) rfl hi hY)) at_nil) (fun h ha => pe_bm PySem.F.plainAttrs_str PySem.F.slot_str_join PySem.F.type_str_join mt_join h ha)) (fun h => ps_set (i := 6) nd rfl (by first | exact Or.inl rfl | exact Or.inr rfl) h))
  (st_cons (st_if (tt_cmp op_eq o_eq (et_v 3) et_int)
  (st_cons (st_set (i := 7) (et_op op_addAny o_add et_int (et_call F__law_draw T.m__law_draw T.k__law_draw T.d__law_draw (hr.mono (by decide)) (at_cons (et_v 0) (at_cons (et_op op_sub o_I0 et_int (et_v 1)) at_nil)) (fun h => pe_call F__law_draw (hr.mono (by decide)) rfl T.m__law_draw T.k__law_draw T.d__law_draw .nil pass0 h))) (fun h => ps_set (i := 7) nd rfl (by first | exact Or.inl rfl | exact Or.inr rfl) h))
  (st_cons (st_setlc (i := 8) (fr := [none, some 6, some 7]) (N' := ["_law_k", "_law_base", "_law_size"]) (it_range (at_cons (et_v 1) at_nil) (fun h => pi_range1 rfl T.b_range h)) (fun b => ⟨(gt_name (pg_name (i := 0) (show List.Nodup (["_law_k", "_law_base", "_law_size"] : List Str) from by decide +kernel) rfl (by first | exact Or.inl rfl | exact Or.inr rfl))), if_nil, (et_slice sl_any o_sl (et_v 1) ot_none (ot_some (et_op op_addAny o_add (et_v 2) (et_v 0))))⟩) (fun hi hY => ps_setlcc (show lcChk _ (defScope (top 31)) ["_law_tape_here", "_law_many", "_law_letters", "_law_way_here", "_law_some", "_law_turn", "_law_base", "_law_size", "_law_names_here", "_law_at", "_law_start"] ["_law_k", "_law_base", "_law_size"] [none, some 6, some 7] = true from by decide +kernel) nd rfl (by first | exact Or.inl rfl | exact Or.inr rfl) rfl hi hY rfl))
  (st_cons (st_set (i := 5) (et_call F__law_draw T.m__law_draw T.k__law_draw T.d__law_draw (hr.mono (by decide)) (at_cons (et_v 0) (at_cons (et_v 1) at_nil)) (fun h => pe_call F__law_draw (hr.mono (by decide)) rfl T.m__law_draw T.k__law_draw T.d__law_draw .nil pass0 h)) (fun h => ps_set (i := 5) nd rfl (by first | exact Or.inl rfl | exact Or.inr rfl) h))
  (st_cons (st_ret (et_op op_addAny o_add (et_slice sl_any o_sl (et_v 8) (ot_some (et_v 5)) ot_none) (et_slice sl_any o_sl (et_v 8) ot_none (ot_some (et_v 5)))))
  (st_share 8 st_nil)))))
  st_nil)
  (st_cons (st_set (i := 7) (et_op op_addAny o_add et_int (et_call F__law_draw T.m__law_draw T.k__law_draw T.d__law_draw (hr.mono (by decide)) (at_cons (et_v 0) (at_cons et_int at_nil)) (fun h => pe_call F__law_draw (hr.mono (by decide)) rfl T.m__law_draw T.k__law_draw T.d__law_draw .nil pass0 h))) (fun h => ps_set (i := 7) nd rfl (by first | exact Or.inl rfl | exact Or.inr rfl) h))
  (st_cons (st_set (i := 9) (et_call F__law_draw T.m__law_draw T.k__law_draw T.d__law_draw (hr.mono (by decide)) (at_cons (et_v 0) (at_cons (et_v 7) at_nil)) (fun h => pe_call F__law_draw (hr.mono (by decide)) rfl T.m__law_draw T.k__law_draw T.d__law_draw .nil pass0 h)) (fun h => ps_set (i := 9) nd rfl (by first | exact Or.inl rfl | exact Or.inr rfl) h))
  (st_cons (st_set (i := 10) (et_call F__law_draw T.m__law_draw T.k__law_draw T.d__law_draw (hr.mono (by decide)) (at_cons (et_v 0) (at_cons et_int at_nil)) (fun h => pe_call F__law_draw (hr.mono (by decide)) rfl T.m__law_draw T.k__law_draw T.d__law_draw .nil pass0 h)) (fun h => ps_set (i := 10) nd rfl (by first | exact Or.inl rfl | exact Or.inr rfl) h))
  (st_one (st_ret (et_lc (fr := [none, some 6, some 2, some 7, some 9, some 10]) (N' := ["_law_k", "_law_base", "_law_letters", "_law_size", "_law_at", "_law_start"]) (it_range (at_cons (et_v 1) at_nil) (fun h => pi_range1 rfl T.b_range h)) (fun b => ⟨(gt_name (pg_name (i := 0) (show List.Nodup (["_law_k", "_law_base", "_law_letters", "_law_size", "_law_at", "_law_start"] : List Str) from by decide +kernel) rfl (by first | exact Or.inl rfl | exact Or.inr rfl))), if_nil, (et_op op_addAny o_add (et_op op_addAny o_add (et_slice sl_any o_sl (et_v 1) ot_none (ot_some (et_v 4))) (et_ix ix_seq o_ix (et_v 2) (et_op op_mod o_I (et_op op_addAny o_add (et_v 5) (et_v 0)) et_int))) (et_slice sl_any o_sl (et_v 1) (ot_some (et_op op_addAny o_add (et_v 4) et_int)) (ot_some (et_v 3))))⟩) (fun hi hY => pe_lcc (show lcChk _ (defScope (top 31)) ["_law_tape_here", "_law_many", "_law_letters", "_law_way_here", "_law_some", "_law_turn", "_law_base", "_law_size", "_law_names_here", "_law_at", "_law_start"] ["_law_k", "_law_base", "_law_letters", "_law_size", "_law_at", "_law_start"] [none, some 6, some 2, some 7, some 9, some 10] = true from by decide +kernel) rfl hi hY)))))))))))), ?_⟩
  show sSeq _ _ _ [.val (tapeD ns), .val (.int m), .un, .un, .un, .un, .un, .un, .un, .un, .un]
  refine seq_set (.str letters) (fun q hq => hq) ?_
  refine seq_setR (fun d => ∃ w : Int, d = .int w) (fun q hq => ⟨_, rfl, ns, 4, rfl, hl, by decide, by decide, fun r _ _ => hq _ ⟨r, rfl⟩⟩) ?_
  rintro _ ⟨w, rfl⟩
  have nat : ∀ r : Int, 0 ≤ r → ∃ t : Nat, PyData.int r = .int (t : Int) ∧ r = (t : Int) := fun r h0 => ⟨r.toNat, by rw [Int.toNat_of_nonneg h0], (Int.toNat_of_nonneg h0).symm⟩
  refine seq_if (fun b => b = decide (w = 0)) (fun q hq => ⟨_, rfl, hq _ rfl⟩) (fun _ => ?_) fun _ => ?_
  · refine seq_set (.list (names12.map PyData.str)) (fun q hq => ⟨by decide, hq⟩) ?_
    refine seq_setR (fun d => ∃ t : Nat, d = .int (t : Int)) (fun q hq => ⟨_, rfl, ns, 12, rfl, hl, by decide, by decide, fun r h0 _ => hq _ ((nat r h0).imp fun _ e => e.1)⟩) ?_
    rintro _ ⟨t, rfl⟩
    refine ⟨_, rfl, _, rfl, _, rfl, _, rfl, ?_, _, rfl, ?_⟩
    · rw [cut_map, cut_map, List.length_map, List.length_map, cut_sn, cut_ns, List.length_drop, List.length_take]
      show 12 - t + min t 12 ≤ 100000
      omega
    · show Q (.list (cutD (cutD (names12.map PyData.str) (some (t : Int)) none ++ cutD (names12.map PyData.str) none (some (t : Int))) none (some (m : Int))))
      rw [cut_map, cut_map, ← List.map_append, cut_map, cut_sn, cut_ns, cut_ns]
      exact h _ (nms_turnN nms12 t (by omega))
  · unfold sNext
    dsimp only
    refine seq_setR (fun d => ∃ z : Str, d = .str z ∧ z.cps.toList.length = 8 ∧ ∀ c ∈ z.cps.toList, c ∈ letters.cps.toList) (fun q hq => ?_) ?_
    · refine ⟨_, rfl, ?_⟩
      refine lcx_in (ts := intsTo 8) (fun R h => ⟨8, rfl, by decide, by decide, h⟩) (fun _ _ y => ∃ c, c ∈ letters.cps.toList ∧ y = .str ⟨#[c]⟩) (by decide) (fun j x q hx hq => ?_) fun ys hl' hy => ?_
      · refine ⟨_, rfl, _, rfl, ns, 26, rfl, hl, by decide, by decide, fun r h0 h1 => ?_⟩
        obtain ⟨c, hc, hcc, _⟩ := atI_in (xs := letters.cps.toList) (i := r) h0 (by rw [letters_len]; exact h1)
        exact ⟨by decide, c, hcc, hq _ ⟨c, hc, rfl⟩⟩
      · obtain ⟨cs, rfl, hcl⟩ := signs_of (ys := ys) fun y hy' => by
          obtain ⟨j, hj, rfl⟩ := List.mem_iff_getElem.mp hy'
          have hjt : j < (intsTo 8).length := by rw [← hl']; exact hj
          exact hy j (intsTo 8)[j] _ (List.getElem?_eq_getElem hjt) (List.getElem?_eq_getElem hj)
        have hl8 : cs.length = 8 := by rw [List.length_map, intsTo_len] at hl'; exact hl'
        refine ⟨cs.map fun c => ⟨#[c]⟩, by rw [List.map_map]; rfl, ?_, hq _ ⟨_, rfl, ?_, ?_⟩⟩
        · rw [List.length_map, List.map_map, hl8]
          have : (List.map ((fun x : Str => x.length) ∘ fun c => (⟨#[c]⟩ : Str)) cs).sum = cs.length := by
            clear hl8 hl' hy hcl
            induction cs with
            | nil => rfl
            | cons a l ih => rw [List.map_cons, List.sum_cons, ih, List.length_cons]; show 1 + _ = _; omega
          rw [this, hl8]
          decide
        · rw [show (Txt.join (Str.ofString "") (cs.map fun c => ⟨#[c]⟩)).cps.toList = cs from join_signs cs]; exact hl8
        · rw [show (Txt.join (Str.ofString "") (cs.map fun c => ⟨#[c]⟩)).cps.toList = cs from join_signs cs]; exact hcl
    rintro _ ⟨z, rfl, hz8, hzl⟩
    have hz : z.length ≤ 100000 := by
      have : z.length = z.cps.toList.length := by simp [Str.length]
      omega
    refine seq_if (fun b => b = decide (w = 1)) (fun q hq => ⟨_, rfl, hq _ rfl⟩) (fun _ => ?_) fun _ => ?_
    · refine seq_setR (fun d => ∃ k : Nat, d = .int (k : Int) ∧ 1 ≤ k ∧ k + m ≤ 9) (fun q hq => ⟨_, rfl, _, rfl, ns, 9 - (m : Int), rfl, hl, by omega, by omega, fun r h0 h1 => hq _ ⟨(1 + r).toNat, by rw [Int.toNat_of_nonneg (by omega)], by omega, by omega⟩⟩) ?_
      rintro _ ⟨k, rfl, hk1, hk9⟩
      refine seq_set (.list (((List.range m).map fun j : Nat => Txt.slice z none (some ((k : Int) + (j : Int)))).map PyData.str)) (fun q hq => ?_) ?_
      · refine lcx_map (ts := intsTo m) (fun R h => ⟨_, rfl, (m : Int), rfl, by omega, by omega, by simpa using h⟩) (fun x => match x with | .int j => .str (Txt.slice z none (some ((k : Int) + j))) | _ => .none) (by rw [intsTo_len]; omega) (fun x q hx hq => ?_) ?_
        · obtain ⟨j, hj, rfl⟩ := List.mem_map.mp hx
          exact ⟨_, rfl, _, rfl, _, rfl, hz, hq⟩
        · unfold intsTo
          rw [List.map_map]
          rw [List.map_map] at hq
          exact hq
      refine seq_setR (fun d => ∃ t : Nat, d = .int (t : Int)) (fun q hq => ⟨_, rfl, _, rfl, ns, (m : Int), rfl, hl, by omega, by omega, fun r h0 _ => hq _ ((nat r h0).imp fun _ e => e.1)⟩) ?_
      rintro _ ⟨t, rfl⟩
      have hnb := nms_base hz8 hzl hk1 hk9
      have fin : ∀ ys : List Str, Nms m ys → (cutD (ys.map PyData.str) (some (t : Int)) none).length + (cutD (ys.map PyData.str) none (some (t : Int))).length ≤ 100000 ∧ Q (.list (cutD (ys.map PyData.str) (some (t : Int)) none ++ cutD (ys.map PyData.str) none (some (t : Int)))) := fun ys hy => by
        have h1 := hy.1
        rw [cut_map, cut_map, ← List.map_append, List.length_map, List.length_map, cut_sn, cut_ns, List.length_drop, List.length_take]
        exact ⟨by omega, h _ (nms_turnW hy t)⟩
      exact ⟨_, rfl, _, rfl, _, rfl, _, rfl, fin _ hnb⟩
    · try unfold sNext
      dsimp only
      refine seq_setR (fun d => ∃ k : Nat, d = .int (k : Int) ∧ 1 ≤ k ∧ k ≤ 8) (fun q hq => ⟨_, rfl, ns, 8, rfl, hl, by decide, by decide, fun r h0 h1 => hq _ ⟨(1 + r).toNat, by rw [Int.toNat_of_nonneg (by omega)], by omega, by omega⟩⟩) ?_
      rintro _ ⟨k, rfl, hk1, hk8⟩
      refine seq_setR (fun d => ∃ t : Nat, d = .int (t : Int) ∧ t < k) (fun q hq => ⟨_, rfl, _, rfl, ns, (k : Int), rfl, hl, by omega, by omega, fun r h0 h1 => hq _ ⟨r.toNat, by rw [Int.toNat_of_nonneg h0], by omega⟩⟩) ?_
      rintro _ ⟨t, rfl, htk⟩
      refine seq_setR (fun d => ∃ s : Nat, d = .int (s : Int)) (fun q hq => ⟨_, rfl, ns, 26, rfl, hl, by decide, by decide, fun r h0 _ => hq _ ((nat r h0).imp fun _ e => e.1)⟩) ?_
      rintro _ ⟨s, rfl⟩
      refine lcx_map (ts := intsTo m) (fun R h => ⟨_, rfl, (m : Int), rfl, by omega, by omega, by simpa using h⟩) (fun x => match x with | .int j => .str (wordAt z t k (cAt ((s + j.toNat) % 26))) | _ => .none) (by rw [intsTo_len]; omega) (fun x q hx hq => ?_) ?_
      · obtain ⟨j, hj, rfl⟩ := List.mem_map.mp hx
        have e : ((s : Int) + (j : Int)) % 26 = (((s + j) % 26 : Nat) : Int) := by omega
        have hc := cAt_get (i := (s + j) % 26) (Nat.mod_lt _ (by decide))
        have hca : L2.atI letters.cps.toList (((s : Int) + (j : Int)) % 26) = some (cAt ((s + j) % 26)) := by rw [e]; exact L2.atI_nat hc
        obtain ⟨w1, w2⟩ := wordAt_len z hz8 t k (cAt ((s + j) % 26))
        exact ⟨_, rfl, _, rfl, hz, _, rfl, _, rfl, _, rfl, (show (0 : Int) < 26 by decide), by decide, _, hca, w1, _, rfl, _, rfl, _, rfl, hz, w2, hq⟩
      · unfold intsTo
        rw [List.map_map]
        have := h _ (nms_words hz8 hzl (k := k) (t := t) (s := s) (m := m) hk8 htk (by omega))
        rw [List.map_map] at this
        exact this

theorem sc__law_form : FnScope ["_law_tape_here", "_law_fields", "_law_values", "_law_many", "_law_names_here", "_law_some", "_law_k", "_law_size", "_law_words"] ["_law_tape_here", "_law_fields", "_law_values"] (defScope (top 32)) := ⟨rfl, rfl, rfl, by decide +kernel, rfl, by decide +kernel, by decide +kernel⟩
set_option maxHeartbeats 4000000 in
theorem ok__law_form (T : Txt K mg A)
    (F__law_draw : FnOk P w K mg base CX0 1 A.a__law_draw A.f__law_draw ["_law_tape_here", "_law_many"] (liftSp K sp__law_draw))
    (F__law_names : FnOk P w K mg base CX0 2 A.a__law_names A.f__law_names ["_law_tape_here", "_law_many"] (liftSp K sp__law_names)) : FnOk P w K mg base CX0 3 A.a__law_form A.f__law_form ["_law_tape_here", "_law_fields", "_law_values"] (liftSp K sp__law_form) := by
  refine fnT T.F__law_form sc__law_form (fun ds Q h => by obtain ⟨ns, f, v, rfl, hl, hf1, hf5, hv2, hv5, h⟩ := h; rfl) fun cdv Ar outer s H E hr ds Q h => ?_
  obtain ⟨ns, f, v, rfl, hl, hf1, hf5, hv2, hv5, h⟩ := h
  have nd := sc__law_form.nd
  refine ⟨_, (st_cons (st_set (i := 3) (et_op op_addAny o_add et_int (et_call F__law_draw T.m__law_draw T.k__law_draw T.d__law_draw (hr.mono (by decide)) (at_cons (et_v 0) (at_cons (et_v 1) at_nil)) (fun h => pe_call F__law_draw (hr.mono (by decide)) rfl T.m__law_draw T.k__law_draw T.d__law_draw .nil pass0 h))) (fun h => ps_set (i := 3) nd rfl (by first | exact Or.inl rfl | exact Or.inr rfl) h))
  (st_cons (st_set (i := 4) (et_call F__law_names T.m__law_names T.k__law_names T.d__law_names (hr.mono (by decide)) (at_cons (et_v 0) (at_cons (et_v 3) at_nil)) (fun h => pe_call F__law_names (hr.mono (by decide)) rfl T.m__law_names T.k__law_names T.d__law_names .nil pass0 h)) (fun h => ps_set (i := 4) nd rfl (by first | exact Or.inl rfl | exact Or.inr rfl) h))
  (st_cons (st_own (i := 5) at_nil (fun h => ps_set (i := 5) nd rfl (by first | exact Or.inl rfl | exact Or.inr rfl) h))
  (st_cons (st_for (it_range (at_cons (et_v 3) at_nil) (fun h => pi_range1 rfl T.b_range h)) (gt_name (pg_name (i := 6) nd rfl (by first | exact Or.inl rfl | exact Or.inr rfl)))
  (st_cons (st_set (i := 7) (et_op op_addAny o_add et_int (et_call F__law_draw T.m__law_draw T.k__law_draw T.d__law_draw (hr.mono (by decide)) (at_cons (et_v 0) (at_cons (et_op op_sub o_I0 (et_v 2) et_int) at_nil)) (fun h => pe_call F__law_draw (hr.mono (by decide)) rfl T.m__law_draw T.k__law_draw T.d__law_draw .nil pass0 h))) (fun h => ps_set (i := 7) nd rfl (by first | exact Or.inl rfl | exact Or.inr rfl) h))
  (st_cons (st_set (i := 8) (et_v 4) (fun h => ps_set (i := 8) nd rfl (by first | exact Or.inl rfl | exact Or.inr rfl) h))
  (st_cons (st_if (tw_pt (tw_or (tt_cmp op_gt o_B0 (et_v 7) (et_v 3)) (tw_or1 (tt_cmp op_gt o_B0 (et_call F__law_draw T.m__law_draw T.k__law_draw T.d__law_draw (hr.mono (by decide)) (at_cons (et_v 0) (at_cons et_int at_nil)) (fun h => pe_call F__law_draw (hr.mono (by decide)) rfl T.m__law_draw T.k__law_draw T.d__law_draw .nil pass0 h)) et_int))))
  (st_one (st_set (i := 8) (et_call F__law_names T.m__law_names T.k__law_names T.d__law_names (hr.mono (by decide)) (at_cons (et_v 0) (at_cons (et_v 7) at_nil)) (fun h => pe_call F__law_names (hr.mono (by decide)) rfl T.m__law_names T.k__law_names T.d__law_names .nil pass0 h)) (fun h => ps_set (i := 8) nd rfl (by first | exact Or.inl rfl | exact Or.inr rfl) h)))
  st_nil)
  (st_one (st_app (i := 5) (pv 5) (et_tup (at_cons (et_ix ix_seq o_ix (et_v 4) (et_v 6)) (at_cons (et_cb c_tuple (at_cons (et_slice sl_any o_sl (et_v 8) ot_none (ot_some (et_v 7))) at_nil) (fun h => pe_callTy call_tuple_of rfl T.b_tuple bl_tuple h)) at_nil))) (pb := fun h => ps_expr (pe_bm PySem.F.plainAttrs_list PySem.F.slot_list_append PySem.F.type_list_append mt_append (pv 5) h))))))) (fun hi hg hb => ps_for PassesOwn.never rfl hi hg hb))
  (st_share 5 (st_one (st_ret (et_tup (at_cons (et_cb c_tuple (at_cons (et_v 5) at_nil) (fun h => pe_callTy call_tuple_of rfl T.b_tuple bl_tuple h)) (at_cons (et_cb c_tuple (at_cons (et_call F__law_names T.m__law_names T.k__law_names T.d__law_names (hr.mono (by decide)) (at_cons (et_v 0) (at_cons (et_op op_addAny o_add et_int (et_call F__law_draw T.m__law_draw T.k__law_draw T.d__law_draw (hr.mono (by decide)) (at_cons (et_v 0) (at_cons et_int at_nil)) (fun h => pe_call F__law_draw (hr.mono (by decide)) rfl T.m__law_draw T.k__law_draw T.d__law_draw .nil pass0 h))) at_nil)) (fun h => pe_call F__law_names (hr.mono (by decide)) rfl T.m__law_names T.k__law_names T.d__law_names .nil pass0 h)) at_nil) (fun h => pe_callTy call_tuple_of rfl T.b_tuple bl_tuple h)) at_nil)))))))))), ?_⟩
  show sSeq _ _ _ [.val (tapeD ns), .val (.int f), .val (.int v), .un, .un, .un, .un, .un, .un]
  refine seq_setR (fun d => ∃ m : Nat, d = .int (m : Int) ∧ 1 ≤ m ∧ m ≤ f) (fun q hq => ⟨_, rfl, _, rfl, ns, (f : Int), rfl, hl, by omega, by omega, fun r h0 h1 => hq _ ⟨(1 + r).toNat, by rw [Int.toNat_of_nonneg (by omega)], by omega, by omega⟩⟩) ?_
  rintro _ ⟨m, rfl, hm1, hmf⟩
  refine seq_setR (fun d => ∃ ys, Nms m ys ∧ d = .list (ys.map PyData.str)) (fun q hq => ⟨_, rfl, _, rfl, ns, m, rfl, hl, hm1, by omega, fun ys hy => hq _ ⟨ys, hy, rfl⟩⟩) ?_
  rintro _ ⟨ys, hy, rfl⟩
  refine seq_own [] (by decide) (fun q hq => hq) ?_
  refine seq_for (ts := intsTo m) (fun R h => ⟨_, rfl, (m : Int), rfl, by omega, by omega, by simpa using h⟩)
    (fun j σ => ∃ (fs : List (Str × List Str)) (s6 s7 s8 : Sl), σ = [.val (tapeD ns), .val (.int f), .val (.int v), .val (.int m), .val (.list (ys.map PyData.str)), .own (fs.map fldD), s6, s7, s8] ∧ fs.map (·.1) = ys.take j ∧ ∀ x ∈ fs, 2 ≤ x.2.length ∧ x.2.length ≤ v ∧ Nms x.2.length x.2) ⟨[], _, _, _, rfl, by simp, fun x hx => by simp at hx⟩ (fun j x σ' hx hP => ?_) fun σ' hP => ?_
  · obtain ⟨hj, rfl⟩ := intsTo_get hx
    obtain ⟨fs, s6, s7, s8, rfl, hfn, hfv⟩ := hP
    have hjy : j < ys.length := by rw [hy.1]; exact hj
    have hfl : fs.length ≤ j := by
      have := congrArg List.length hfn
      rw [List.length_map, List.length_take] at this
      omega
    refine seq_setR (fun d => ∃ k : Nat, d = .int (k : Int) ∧ 2 ≤ k ∧ k ≤ v) (fun q hq => ⟨_, rfl, _, rfl, ns, (v : Int) - 1, rfl, hl, by omega, by omega, fun r h0 h1 => hq _ ⟨(2 + r).toNat, by rw [Int.toNat_of_nonneg (by omega)], by omega, by omega⟩⟩) ?_
    rintro _ ⟨k, rfl, hk2, hkv⟩
    refine seq_set (.list (ys.map PyData.str)) (fun q hq => ⟨_, rfl, hq⟩) ?_
    have fin : ∀ (ws : List Str) (n : Nat), Nms n ws → k ≤ n → ∃ (fs' : List (Str × List Str)), fs'.map (·.1) = ys.take (j + 1) ∧ (∀ x ∈ fs', 2 ≤ x.2.length ∧ x.2.length ≤ v ∧ Nms x.2.length x.2) ∧ fs'.map fldD = fs.map fldD ++ [fldD (ys[j], ws.take k)] := fun ws n hw hkn => by
      have hk := nms_takeN hw hkn
      refine ⟨fs ++ [(ys[j], ws.take k)], ?_, fun x hx => ?_, by rw [List.map_append]; rfl⟩
      · rw [List.map_append, hfn, List.take_add_one, List.getElem?_eq_getElem hjy]; rfl
      · rcases List.mem_append.mp hx with hx | hx
        · exact hfv x hx
        · rw [List.mem_singleton.mp hx]
          show 2 ≤ (ws.take k).length ∧ (ws.take k).length ≤ v ∧ Nms (ws.take k).length (ws.take k)
          rw [hk.1]
          exact ⟨hk2, hkv, hk⟩
    have hya : L2.atI (ys.map PyData.str) (j : Int) = some (.str ys[j]) := atI_strs hjy
    refine seq_if (fun b => b = false → k ≤ m) (fun q hq => ?_) (fun _ => ?_) fun hF => ?_
    · refine ⟨_, rfl, _, rfl, ?_⟩
      show (if decide ((k : Int) > (m : Int)) = true then _ else _)
      by_cases e : (k : Int) > (m : Int)
      · rw [if_pos (decide_eq_true e)]
        exact hq _ fun z => by cases z
      · rw [if_neg (by simpa using e)]
        exact ⟨_, rfl, ns, 4, rfl, hl, by decide, by decide, fun r _ _ => hq _ fun _ => by omega⟩
    · refine ⟨_, rfl, _, rfl, ns, k, rfl, hl, by omega, by omega, fun ws hw => ?_⟩
      obtain ⟨fs', h1, h2, h3⟩ := fin ws k hw (Nat.le_refl _)
      refine one_app (ts := fs.map fldD) (fldD (ys[j], ws.take k)) rfl (by rw [List.length_map]; omega) (fun q hq => ⟨_, rfl, _, rfl, _, hya, _, rfl, _, rfl, ?_⟩) ⟨fs', _, _, _, by rw [h3]; rfl, h1, h2⟩
      show _ ∧ q (.tuple [.str ys[j], .tuple (cutD (ws.map PyData.str) none (some (k : Int)))])
      rw [cut_map, cut_ns]
      exact ⟨(Nat.le_of_ble_eq_true rfl), hq⟩
    · unfold sNext
      dsimp only
      obtain ⟨fs', h1, h2, h3⟩ := fin ys m hy (hF rfl)
      refine one_app (ts := fs.map fldD) (fldD (ys[j], ys.take k)) rfl (by rw [List.length_map]; omega) (fun q hq => ⟨_, rfl, _, rfl, _, hya, _, rfl, _, rfl, ?_⟩) ⟨fs', _, _, _, by rw [h3]; rfl, h1, h2⟩
      show _ ∧ q (.tuple [.str ys[j], .tuple (cutD (ys.map PyData.str) none (some (k : Int)))])
      rw [cut_map, cut_ns]
      exact ⟨(Nat.le_of_ble_eq_true rfl), hq⟩
  · obtain ⟨fs, s6, s7, s8, rfl, hfn, hfv⟩ := hP
    rw [intsTo_len, List.take_of_length_le (by rw [hy.1]; exact Nat.le_refl _)] at hfn
    have hfl : fs.length = m := by
      have := congrArg List.length hfn
      rw [List.length_map, hy.1] at this
      exact this
    refine ⟨_, rfl, _, rfl, _, rfl, _, rfl, ns, 3, rfl, hl, by decide, by decide, fun r h0 h1 => ⟨ns, (2 + r).toNat, by rw [Int.toNat_of_nonneg (by omega)], hl, by omega, by omega, fun an ha => ⟨(Nat.le_of_ble_eq_true rfl), ?_⟩⟩⟩
    have hal := ha.1
    refine h fs an ⟨by omega, by omega, by rw [hfn, hfl]; exact hy, fun x hx => ?_, by omega, by omega, by rw [hal]; exact ha⟩ (by omega) fun x hx => (hfv x hx).2.1
    obtain ⟨x1, x2, x3⟩ := hfv x hx
    exact ⟨x1, by omega, x3⟩

theorem sc__law_whole : FnScope ["_law_form_here"] ["_law_form_here"] (defScope (top 33)) := ⟨rfl, rfl, rfl, by decide +kernel, rfl, by decide +kernel, by decide +kernel⟩
set_option maxHeartbeats 4000000 in
theorem ok__law_whole (T : Txt K mg A) : FnOk P w K mg base CX0 1 A.a__law_whole A.f__law_whole ["_law_form_here"] (liftSp K sp__law_whole) := by
  refine fnT T.F__law_whole sc__law_whole (fun ds Q h => by obtain ⟨fs, an, rfl, F, h⟩ := h; rfl) fun cdv Ar outer s H E hr ds Q h => ?_
  obtain ⟨fs, an, rfl, F, h⟩ := h
  have nd := sc__law_whole.nd
  refine ⟨_, (st_one (st_ret (et_cb c_tuple (at_cons (et_lc (fr := [none]) (N' := ["_law_field"]) (it_val (et_ix ix_seq o_ix (et_v 0) et_int)) (fun b => ⟨(gt_name (pg_name (i := 0) (show List.Nodup (["_law_field"] : List Str) from by decide +kernel) rfl (by first | exact Or.inl rfl | exact Or.inr rfl))), if_nil, (et_op op_addAny o_add (et_ix ix_seq o_ix (et_v 0) et_int) (et_tup (at_cons et_non at_nil)))⟩) (fun hi hY => pe_lcc (show lcChk _ (defScope (top 33)) ["_law_form_here"] ["_law_field"] [none] = true from by decide +kernel) rfl hi hY)) at_nil) (fun h => pe_callTy call_tuple_of rfl T.b_tuple bl_tuple h)))), ?_⟩
  have n5 := F.n5
  have e : (fs.map fldD).map (fun x => match x with | .tuple [_, .tuple vs] => .tuple (vs ++ [.none]) | _ => x) = (fs.map entD).map PyData.tuple := by rw [List.map_map, List.map_map]; rfl
  show eCall (f1 gTuple) _ _ Q
  dsimp only [eCall, aCons, aNil]
  refine lcx_map (ts := fs.map fldD) (fun R h => ⟨_, rfl, _, rfl, _, rfl, h⟩) (fun x => match x with | .tuple [_, .tuple vs] => .tuple (vs ++ [.none]) | _ => x) (by rw [List.length_map]; omega) (fun x q hx hq => ?_) ?_
  · obtain ⟨f, hf, rfl⟩ := List.mem_map.mp hx
    have v5 := (F.vs f hf).2.1
    exact ⟨_, rfl, _, rfl, (Nat.le_of_ble_eq_true rfl), by rw [List.length_map]; show _ + 1 ≤ _; omega, hq⟩
  · show Q (.tuple _)
    rw [e]; exact h

theorem sc__law_cases : FnScope ["_law_form_here", "_law_cases_here", "_law_values", "_law_longer", "_law_case"] ["_law_form_here"] (defScope (top 34)) := ⟨rfl, rfl, rfl, by decide +kernel, rfl, by decide +kernel, by decide +kernel⟩
set_option maxHeartbeats 4000000 in
theorem ok__law_cases (T : Txt K mg A)
    (F__law_whole : FnOk P w K mg base CX0 1 A.a__law_whole A.f__law_whole ["_law_form_here"] (liftSp K sp__law_whole)) : FnOk P w K mg base CX0 2 A.a__law_cases A.f__law_cases ["_law_form_here"] (liftSp K sp__law_cases) := by
  refine fnT T.F__law_cases sc__law_cases (fun ds Q h => by obtain ⟨fs, an, rfl, F, S, h⟩ := h; rfl) fun cdv Ar outer s H E hr ds Q h => ?_
  obtain ⟨fs, an, rfl, F, S, h⟩ := h
  have nd := sc__law_cases.nd
  refine ⟨_, (st_cons (st_set (i := 1) (et_lst (at_cons (et_tup at_nil) at_nil)) (fun h => ps_set (i := 1) nd rfl (by first | exact Or.inl rfl | exact Or.inr rfl) h))
  (st_cons (st_for (it_val (et_call F__law_whole T.m__law_whole T.k__law_whole T.d__law_whole (hr.mono (by decide)) (at_cons (et_v 0) at_nil) (fun h => pe_call F__law_whole (hr.mono (by decide)) rfl T.m__law_whole T.k__law_whole T.d__law_whole .nil pass0 h))) (gt_name (pg_name (i := 2) nd rfl (by first | exact Or.inl rfl | exact Or.inr rfl)))
  (st_cons (st_own (i := 3) at_nil (fun h => ps_set (i := 3) nd rfl (by first | exact Or.inl rfl | exact Or.inr rfl) h))
  (st_cons (st_for (it_val (et_v 1)) (gt_name (pg_name (i := 4) nd rfl (by first | exact Or.inl rfl | exact Or.inr rfl)))
  (st_one (st_extL (i := 3) (pv 3) (et_lc (fr := [none, some 4]) (N' := ["_law_value", "_law_case"]) (it_val (et_v 2)) (fun b => ⟨(gt_name (pg_name (i := 0) (show List.Nodup (["_law_value", "_law_case"] : List Str) from by decide +kernel) rfl (by first | exact Or.inl rfl | exact Or.inr rfl))), if_nil, (et_op op_addAny o_add (et_v 1) (et_tup (at_cons (et_v 0) at_nil)))⟩) (fun hi hY => pe_lcc (show lcChk _ (defScope (top 34)) ["_law_form_here", "_law_cases_here", "_law_values", "_law_longer", "_law_case"] ["_law_value", "_law_case"] [none, some 4] = true from by decide +kernel) rfl hi hY)) (pb := fun h => ps_expr (pe_bm PySem.F.plainAttrs_list PySem.F.slot_list_extend PySem.F.type_list_extend mt_extL (pv 3) h)))) (fun hi hg hb => ps_for PassesOwn.never rfl hi hg hb))
  (st_share 3 (st_one (st_set (i := 1) (et_v 3) (fun h => ps_set (i := 1) nd rfl (by first | exact Or.inl rfl | exact Or.inr rfl) h)))))) (fun hi hg hb => ps_for PassesOwn.never rfl hi hg hb))
  (st_one (st_ret (et_v 1))))), ?_⟩
  show sSeq _ _ _ [.val (frmD fs an), .un, .un, .un, .un]
  obtain ⟨f3, v4⟩ := S
  have hlen : ∀ i, (((fs.map entD).take i).foldl longerC [[]]).length ≤ 125 := fun i => by
    rw [fold_whole]
    have h1 := prod_len ((fs.map entD).take i) 5 fun e he => by
      obtain ⟨f, hf, rfl⟩ := List.mem_map.mp (List.mem_of_mem_take he)
      have := v4 f hf
      unfold entD
      rw [List.length_append, List.length_map]; show _ + 1 ≤ 5; omega
    have h2 : 5 ^ ((fs.map entD).take i).length ≤ 5 ^ 3 := Nat.pow_le_pow_right (by decide) (by rw [List.length_take, List.length_map]; omega)
    omega
  refine seq_set (casesD [[]]) (fun q hq => ⟨(Nat.le_of_ble_eq_true rfl), (Nat.le_of_ble_eq_true rfl), hq⟩) ?_
  refine seq_for (ts := (fs.map entD).map PyData.tuple) (fun R h => ⟨_, rfl, fs, an, rfl, F, _, rfl, h⟩)
    (fun i σ => ∃ s2 s3 s4 : Sl, σ = [.val (frmD fs an), .val (casesD (((fs.map entD).take i).foldl longerC [[]])), s2, s3, s4]) ⟨_, _, _, rfl⟩ (fun i x σ' hx hP => ?_) fun σ' hP => ?_
  · obtain ⟨s2, s3, s4, rfl⟩ := hP
    rw [List.getElem?_map] at hx
    obtain ⟨e, hei, rfl⟩ := Option.map_eq_some_iff.mp hx
    have h0 := hlen i
    have h1 := hlen (i + 1)
    have es : ((fs.map entD).take (i + 1)).foldl longerC [[]] = longerC (((fs.map entD).take i).foldl longerC [[]]) e := by rw [List.take_add_one, hei]; show (_ ++ [e]).foldl longerC [[]] = _; rw [List.foldl_append]; rfl
    rw [es] at h1
    have hel : e.length ≤ 5 := by
      obtain ⟨f, hf, rfl⟩ := List.mem_map.mp (List.mem_of_getElem? hei)
      have := v4 f hf
      unfold entD
      rw [List.length_append, List.length_map]; show _ + 1 ≤ 5; omega
    have hcl : ∀ c ∈ (((fs.map entD).take i).foldl longerC [[]]), c.length ≤ 3 := fun c hc => by
      rw [fold_whole, mem_prod] at hc
      rw [(InL_get hc).1, List.length_take, List.length_map]; omega
    generalize ((fs.map entD).take i).foldl longerC [[]] = cs at h0 h1 es hcl
    refine seq_own [] (Nat.le_of_ble_eq_true rfl) (fun q hq => hq) ?_
    refine seq_for (ts := cs.map PyData.tuple) (fun R h => ⟨_, rfl, _, rfl, h⟩)
      (fun j σ => ∃ s4 : Sl, σ = [.val (frmD fs an), .val (casesD cs), .val (.tuple e), .own ((longerC (cs.take j) e).map PyData.tuple), s4]) ⟨_, rfl⟩ (fun j x σ' hx hP => ?_) fun σ' hP => ?_
    · obtain ⟨s4, rfl⟩ := hP
      rw [List.getElem?_map] at hx
      obtain ⟨c, hcj, rfl⟩ := Option.map_eq_some_iff.mp hx
      have hc3 := hcl c (List.mem_of_getElem? hcj)
      have hlj : (longerC (cs.take j) e).length ≤ 1000 := by
        have : ∀ l : List (List D), (longerC l e).length = l.length * e.length := fun l => by
          unfold longerC
          induction l with
          | nil => simp
          | cons a l ih => rw [List.flatMap_cons, List.length_append, ih, List.length_map, List.length_cons, Nat.add_mul]; omega
        rw [this, List.length_take]
        have h6 : min j cs.length * e.length ≤ 125 * 5 := Nat.mul_le_mul (by omega) hel
        omega
      refine one_extL (ts := (longerC (cs.take j) e).map PyData.tuple) (us := (e.map fun x => c ++ [x]).map PyData.tuple) rfl (by rw [List.length_map, List.length_map, List.length_map]; omega) (fun q hq => ?_) ⟨.val (.tuple c), ?_⟩
      · refine lcx_map (ts := e) (fun R h => ⟨_, rfl, _, rfl, h⟩) (fun x => .tuple (c ++ [x])) (by omega) (fun x q hx hq => ⟨_, rfl, _, rfl, (Nat.le_of_ble_eq_true rfl), by show _ + 1 ≤ _; omega, hq⟩) ?_
        rw [List.map_map] at hq; exact hq
      · have e2 : longerC (cs.take (j + 1)) e = longerC (cs.take j) e ++ e.map fun x => c ++ [x] := by
          rw [List.take_add_one, hcj]
          unfold longerC
          rw [List.flatMap_append]
          show _ ++ ((e.map fun x => c ++ [x]) ++ []) = _
          rw [List.append_nil]
        rw [e2, List.map_append]; rfl
    · obtain ⟨s4, rfl⟩ := hP
      refine ⟨_, rfl, ?_⟩
      refine one_set (casesD (longerC cs e)) (fun q hq => ⟨_, rfl, ?_⟩) ⟨_, _, _, by rw [es]; rfl⟩
      rw [List.length_map, List.take_length]; exact hq
  · obtain ⟨s2, s3, s4, rfl⟩ := hP
    rw [List.length_map, List.take_length, fold_whole]
    exact ⟨_, rfl, h⟩

theorem sc__law_side : FnScope ["_law_form_here", "_law_knot", "_law_case", "_law_kind", "_law_name", "_law_value", "_law_at", "_law_values"] ["_law_form_here", "_law_knot", "_law_case"] (defScope (top 35)) := ⟨rfl, rfl, rfl, by decide +kernel, rfl, by decide +kernel, by decide +kernel⟩
set_option maxHeartbeats 4000000 in
theorem ok__law_side (T : Txt K mg A) : FnOk P w K mg base CX0 1 A.a__law_side A.f__law_side ["_law_form_here", "_law_knot", "_law_case"] (liftSp K sp__law_side) := by
  refine fnT T.F__law_side sc__law_side (fun ds Q h => by obtain ⟨fs, an, k, n, v, s, y, m, cs, rfl, F, ht, hc, h⟩ := h; rfl) fun cdv Ar outer s H E hr ds Q h => ?_
  obtain ⟨fs, an, k, n, v, s, y, m, cs, rfl, F, ht, hc, h⟩ := h
  have nd := sc__law_side.nd
  refine ⟨_, (st_cons (st_unpG (et_ix ix_seq o_ix (et_v 1) et_int) (gt_triple (pg_tup rfl (pgs_cons (pg_name (i := 3) nd rfl (by first | exact Or.inl rfl | exact Or.inr rfl)) (pgs_cons (pg_name (i := 4) nd rfl (by first | exact Or.inl rfl | exact Or.inr rfl)) (pgs_cons (pg_name (i := 5) nd rfl (by first | exact Or.inl rfl | exact Or.inr rfl)) pgs_nil))))) (fun he hg => ps_asg he hg))
  (st_cons (st_set (i := 6) (et_lindex (et_lc (fr := [none]) (N' := ["_law_field"]) (it_val (et_ix ix_seq o_ix (et_v 0) et_int)) (fun b => ⟨(gt_name (pg_name (i := 0) (show List.Nodup (["_law_field"] : List Str) from by decide +kernel) rfl (by first | exact Or.inl rfl | exact Or.inr rfl))), if_nil, (et_ix ix_seq o_ix (et_v 0) et_int)⟩) (fun hi hY => pe_lcc (show lcChk _ (defScope (top 35)) ["_law_form_here", "_law_knot", "_law_case", "_law_kind", "_law_name", "_law_value", "_law_at", "_law_values"] ["_law_field"] [none] = true from by decide +kernel) rfl hi hY)) (at_cons (et_v 4) at_nil) (fun h ha => pe_bm PySem.F.plainAttrs_list PySem.F.slot_list_index PySem.F.type_list_index (mt_lindex hr) h ha)) (fun h => ps_set (i := 6) nd rfl (by first | exact Or.inl rfl | exact Or.inr rfl) h))
  (st_cons (st_set (i := 7) (et_ix ix_seq o_ix (et_ix ix_seq o_ix (et_ix ix_seq o_ix (et_v 0) et_int) (et_v 6)) et_int) (fun h => ps_set (i := 7) nd rfl (by first | exact Or.inl rfl | exact Or.inr rfl) h))
  (st_cons (st_if (tt_cmp op_is2 o_is2 (et_ix ix_seq o_ix (et_v 2) (et_v 6)) et_non)
  (st_one (st_ret (et_ix ix_seq o_ix (et_v 1) et_int)))
  st_nil)
  (st_cons (st_if (tw_pt (tw_or (tt_cmp op_eq o_eq (et_ix ix_seq o_ix (et_v 2) (et_v 6)) (et_v 5)) (tw_or1 (tw_pt (tw_and (tt_cmp op_eq o_eq (et_v 3) et_str) (tw_and1 (tt_cmp op_lt o_B0 (et_index (et_v 7) (at_cons (et_ix ix_seq o_ix (et_v 2) (et_v 6)) at_nil) (fun h ha => pe_bm PySem.F.plainAttrs_tuple PySem.F.slot_tuple_index PySem.F.type_tuple_index (mt_index hr) h ha)) (et_index (et_v 7) (at_cons (et_v 5) at_nil) (fun h ha => pe_bm PySem.F.plainAttrs_tuple PySem.F.slot_tuple_index PySem.F.type_tuple_index (mt_index hr) h ha)))))))))
  (st_one (st_ret et_str))
  st_nil)
  (st_one (st_ret et_str))))))), ?_⟩
  show sSeq _ _ _ [.val (frmD fs an), .val (trD (.ask k n v s y m)), .val (.tuple cs), .un, .un, .un, .un, .un]
  obtain ⟨hq, hs, _, _⟩ := ht
  obtain ⟨hcl, hcv⟩ := case_get hc
  have n5 := F.n5
  obtain ⟨f0, hj, hf0, hfn, hv0, hk0⟩ := jx_get F hq
  generalize jx fs n = j at hj
  have hjl := (List.getElem?_eq_some_iff.mp hj).1
  have ej : (fs.map (·.1)).idxOf n = j := by rw [← hfn]; exact name_at F hj
  have hnm : n ∈ fs.map (·.1) := List.mem_map.mpr ⟨f0, hf0, hfn⟩
  have hcj : cs[j]? = some cs[j] := List.getElem?_eq_getElem (by omega)
  generalize hcc : cs[j] = c at hcj
  have hca : L2.atI cs (j : Int) = some c := L2.atI_nat hcj
  have hfa : L2.atI (fs.map fldD) (j : Int) = some (fldD f0) := L2.atI_nat (by rw [List.getElem?_map, hj]; rfl)
  have hok := hcv j f0 c hj hcj
  rw [sideS_at F hj hcj hfn] at h
  refine seq_unp3 (a := .str k) (b := .str n) (c := .str v) (fun q hq => ⟨_, rfl, _, rfl, hq⟩) ?_
  refine seq_set (.int (j : Int)) (fun q hq => ?_) ?_
  · dsimp only [eLIndex]
    refine lcx_map (ts := fs.map fldD) (fun R h => ⟨_, rfl, _, rfl, _, rfl, h⟩) fst (by rw [List.length_map]; omega) (fun x q hx hq => ?_) ?_
    · obtain ⟨f, hf, rfl⟩ := List.mem_map.mp hx
      exact ⟨_, rfl, _, rfl, hq⟩
    · have e : (fs.map fldD).map fst = (fs.map (·.1)).map PyData.str := by rw [List.map_map, List.map_map]; rfl
      rw [e]
      have := okIx_strs F.nd.2.1 hnm
      rw [ej] at this
      exact ⟨_, rfl, _, rfl, _, j, rfl, this, by omega, hq⟩
  refine seq_set (.tuple (f0.2.map PyData.str)) (fun q hq => ⟨_, rfl, _, rfl, _, rfl, _, hfa, _, rfl, hq⟩) ?_
  refine seq_if (fun b => b = isNoneD c) (fun q hq => ⟨_, rfl, _, rfl, _, hca, hq _ rfl⟩) (fun hT => ?_) fun hF => ?_
  · cases c with
    | none => exact ⟨_, rfl, _, rfl, h⟩
    | _ => cases hT
  try unfold sNext
  dsimp only
  cases c with
  | none => cases hF
  | str z =>
    have hz : z ∈ f0.2 := of_decide_eq_true hok
    have i1 := okIx_strs (F.vals hf0) hz
    have i2 := okIx_strs (F.vals hf0) hv0
    have nd0 := (F.vs f0 hf0).2.2.2.2
    have h' : Q (.str (if k = "is" then (if z = v then "yes" else "no") else if f0.2.idxOf z ≤ f0.2.idxOf v then "yes" else "no")) := h
    have key : (if (decide (z = v) || (decide (k = "upto") && decide ((f0.2.idxOf z : Int) < (f0.2.idxOf v : Int)))) = true then ("yes" : Str) else "no") = (if k = "is" then (if z = v then ("yes" : Str) else "no") else if f0.2.idxOf z ≤ f0.2.idxOf v then ("yes" : Str) else "no") := by
      by_cases e : z = v
      · subst e
        rw [decide_eq_true rfl, Bool.true_or, if_pos rfl]
        split
        · exact (if_pos rfl).symm
        · exact (if_pos (Nat.le_refl _)).symm
      · rw [decide_eq_false e, Bool.false_or]
        rcases hk0 with rfl | rfl
        · rw [if_pos rfl, if_neg e, if_neg]
          rw [decide_eq_false (by decide +kernel)]; simp
        · rw [if_neg (show ¬ ("upto" : Str) = "is" by decide +kernel), decide_eq_true rfl, Bool.true_and]
          have hne : f0.2.idxOf z ≠ f0.2.idxOf v := fun z' => e (by
            have h1 := List.getElem_idxOf (List.idxOf_lt_length_iff.mpr hz)
            have h2 := List.getElem_idxOf (List.idxOf_lt_length_iff.mpr hv0)
            rw [← h1, ← h2]
            congr 1)
          by_cases l : f0.2.idxOf z ≤ f0.2.idxOf v
          · rw [if_pos l, if_pos (decide_eq_true (by omega))]
          · rw [if_neg l, if_neg (by rw [decide_eq_false (by omega)]; decide)]
    rw [← key] at h'
    refine seq_if (fun b => b = (decide (z = v) || (decide (k = "upto") && decide ((f0.2.idxOf z : Int) < (f0.2.idxOf v : Int))))) (fun q hq => ⟨_, rfl, _, rfl, _, hca, _, rfl, ?_⟩) (fun hT => ?_) fun hF => ?_
    · show (if decide (z = v) = true then q true else _)
      by_cases e : z = v
      · rw [if_pos (decide_eq_true e)]
        exact hq _ (by rw [decide_eq_true e]; rfl)
      · rw [if_neg (by rw [decide_eq_false e]; decide)]
        refine ⟨_, rfl, ?_⟩
        show (if decide (k = "upto") = true then _ else q false)
        by_cases e2 : k = "upto"
        · rw [if_pos (decide_eq_true e2)]
          refine ⟨_, rfl, _, rfl, _, rfl, _, rfl, _, hca, _, _, rfl, i1, _, rfl, _, rfl, _, rfl, _, _, rfl, i2, ?_⟩
          refine hq _ ?_
          rw [decide_eq_false e, decide_eq_true e2]; rfl
        · rw [if_neg (by rw [decide_eq_false e2]; decide)]
          exact hq _ (by rw [decide_eq_false e, decide_eq_false e2]; rfl)
    · rw [← hT, if_pos rfl] at h'
      exact h'
    · try unfold sNext
      dsimp only
      rw [← hF, if_neg (by decide)] at h'
      exact h'
  | _ => cases hok

theorem sc__law_way : FnScope ["_law_form_here", "_law_tree", "_law_case", "_law_way_here", "_law_side_here"] ["_law_form_here", "_law_tree", "_law_case"] (defScope (top 36)) := ⟨rfl, rfl, rfl, by decide +kernel, rfl, by decide +kernel, by decide +kernel⟩
set_option maxHeartbeats 4000000 in
theorem ok__law_way (T : Txt K mg A)
    (F__law_side : FnOk P w K mg base CX0 1 A.a__law_side A.f__law_side ["_law_form_here", "_law_knot", "_law_case"] (liftSp K sp__law_side)) : FnOk P w K mg base CX0 2 A.a__law_way A.f__law_way ["_law_form_here", "_law_tree", "_law_case"] (liftSp K sp__law_way) := by
  refine fnT T.F__law_way sc__law_way (fun ds Q h => by obtain ⟨fs, an, t, cs, rfl, F, ht, hc, hd, h⟩ := h; rfl) fun cdv Ar outer s H E hr ds Q h => ?_
  obtain ⟨fs, an, t, cs, rfl, F, ht, hc, hd, h⟩ := h
  have nd := sc__law_way.nd
  refine ⟨_, (st_cons (st_own (i := 3) at_nil (fun h => ps_set (i := 3) nd rfl (by first | exact Or.inl rfl | exact Or.inr rfl) h))
  (st_cons (st_while (tt_cmp op_eq o_eq (et_ix ix_seq o_ix (et_v 1) et_int) et_str)
  (st_cons (st_set (i := 4) (et_call F__law_side T.m__law_side T.k__law_side T.d__law_side (hr.mono (by decide)) (at_cons (et_v 0) (at_cons (et_v 1) (at_cons (et_v 2) at_nil))) (fun h => pe_call F__law_side (hr.mono (by decide)) rfl T.m__law_side T.k__law_side T.d__law_side .nil pass0 h)) (fun h => ps_set (i := 4) nd rfl (by first | exact Or.inl rfl | exact Or.inr rfl) h))
  (st_cons (st_app (i := 3) (pv 3) (et_tup (at_cons (et_ix ix_seq o_ix (et_v 1) et_int) (at_cons (et_v 4) at_nil))) (pb := fun h => ps_expr (pe_bm PySem.F.plainAttrs_list PySem.F.slot_list_append PySem.F.type_list_append mt_append (pv 3) h)))
  (st_one (st_set (i := 1) (et_ix ix_seq o_ix (et_v 1) (et_op op_addAny o_add et_int (et_cb c_int (at_cons (et_cmp op_eq o_eq (et_v 4) et_str) at_nil) (fun h => pe_callTy call_int1 rfl T.b_int bl_int h)))) (fun h => ps_set (i := 1) nd rfl (by first | exact Or.inl rfl | exact Or.inr rfl) h))))) (fun hc hb => ps_while PassesOwn.never hc hb))
  (st_share 3 (st_one (st_ret (et_tup (at_cons (et_v 3) (at_cons (et_ix ix_seq o_ix (et_v 1) et_int) at_nil)))))))), ?_⟩
  show sSeq _ _ _ [.val (frmD fs an), .val (trD t), .val (.tuple cs), .un, .un]
  refine seq_own [] (Nat.le_of_ble_eq_true rfl) (fun q hq => hq) ?_
  refine seq_while (fun N σ => ∃ (p : Tr) (done : List D) (s4 : Sl), σ = [.val (frmD fs an), .val (trD p), .val (.tuple cs), .own done, s4] ∧ N = p.dep ∧ TrOk fs an p ∧ ansL fs p cs = ansL fs t cs ∧ done.length + p.dep ≤ 40) t.dep ⟨t, [], _, rfl, rfl, ht, rfl, by show 0 + t.dep ≤ 40; omega⟩ fun N σ' hP => ?_
  obtain ⟨p, done, s4, rfl, rfl, hp, hpa, hl⟩ := hP
  refine ⟨!isSay p, fun q hq => ?_, ?_⟩
  · cases p with
    | say a => exact ⟨_, rfl, _, rfl, hq⟩
    | ask k n v s y m => exact ⟨_, rfl, _, rfl, hq⟩
  cases p with
  | say a =>
    show (if false = true then _ else _)
    rw [if_neg (by decide)]
    have : a = ansL fs t cs := hpa
    subst this
    exact ⟨_, rfl, _, rfl, _, rfl, _, rfl, (Nat.le_of_ble_eq_true rfl), h done⟩
  | ask k n v s y m =>
    show (if true = true then _ else _)
    rw [if_pos rfl]
    have hp' := hp
    obtain ⟨hq, hs, hy, hm⟩ := hp'
    have e1 : (Tr.ask k n v s y m).dep = max y.dep m.dep + 1 := rfl
    rw [e1] at hl ⊢
    have hsd := sideS_atB F hq hs hc
    refine seq_set (.str (sideS fs k n v s cs)) (fun q hq' => ⟨_, rfl, _, rfl, _, rfl, fs, an, k, n, v, s, y, m, cs, rfl, F, hp, hc, hq'⟩) ?_
    refine seq_app (ts := done) (.tuple [.tuple [.str k, .str n, .str v], .str (sideS fs k n v s cs)]) rfl (by omega) (fun q hq => ⟨_, rfl, _, rfl, _, rfl, (Nat.le_of_ble_eq_true rfl), hq⟩) ?_
    have hpa' : (if atB cs (jx fs n) (sideG fs k n v s) then ansL fs y cs else ansL fs m cs) = ansL fs t cs := hpa
    cases hg : atB cs (jx fs n) (sideG fs k n v s) with
    | true =>
      rw [hg, if_pos rfl] at hsd hpa'
      rw [hsd]
      refine one_set (trD y) (fun q hq => ⟨_, rfl, _, rfl, ?_⟩) ⟨y.dep, by omega, y, _, _, rfl, rfl, hy, hpa', by rw [List.length_append]; show _ + 1 + _ ≤ _; omega⟩
      exact ⟨_, rfl, hq⟩
    | false =>
      rw [hg, if_neg (by decide)] at hsd hpa'
      rw [hsd]
      refine one_set (trD m) (fun q hq => ⟨_, rfl, _, rfl, ?_⟩) ⟨m.dep, by omega, m, _, _, rfl, rfl, hm, hpa', by rw [List.length_append]; show _ + 1 + _ ≤ _; omega⟩
      exact ⟨_, rfl, hq⟩

theorem sc__law_part : FnScope ["_law_tape_here", "_law_values", "_law_part_here"] ["_law_tape_here", "_law_values"] (defScope (top 37)) := ⟨rfl, rfl, rfl, by decide +kernel, rfl, by decide +kernel, by decide +kernel⟩
set_option maxHeartbeats 4000000 in
theorem ok__law_part (T : Txt K mg A)
    (F__law_draw : FnOk P w K mg base CX0 1 A.a__law_draw A.f__law_draw ["_law_tape_here", "_law_many"] (liftSp K sp__law_draw)) : FnOk P w K mg base CX0 2 A.a__law_part A.f__law_part ["_law_tape_here", "_law_values"] (liftSp K sp__law_part) := by
  refine fnT T.F__law_part sc__law_part (fun ds Q h => by obtain ⟨ns, fs, an, f, rfl, hl, F, hf, h⟩ := h; rfl) fun cdv Ar outer s H E hr ds Q h => ?_
  obtain ⟨ns, fs, an, f, rfl, hl, F, hf, h⟩ := h
  have nd := sc__law_part.nd
  refine ⟨_, (st_cons (st_set (i := 2) (et_cb c_tuple (at_cons (et_lc (fr := [none, some 0]) (N' := ["_law_value", "_law_tape_here"]) (it_val (et_v 1)) (fun b => ⟨(gt_name (pg_name (i := 0) (show List.Nodup (["_law_value", "_law_tape_here"] : List Str) from by decide +kernel) rfl (by first | exact Or.inl rfl | exact Or.inr rfl))), (if_one (tt_cmp op_eq o_eq (et_call F__law_draw T.m__law_draw T.k__law_draw T.d__law_draw (hr.mono (by decide)) (at_cons (et_v 1) (at_cons et_int at_nil)) (fun h => pe_call F__law_draw (hr.mono (by decide)) rfl T.m__law_draw T.k__law_draw T.d__law_draw .nil pass0 h)) et_int)), (et_v 0)⟩) (fun hi hY => pe_lcc (show lcChk _ (defScope (top 37)) ["_law_tape_here", "_law_values", "_law_part_here"] ["_law_value", "_law_tape_here"] [none, some 0] = true from by decide +kernel) rfl hi hY)) at_nil) (fun h => pe_callTy call_tuple_of rfl T.b_tuple bl_tuple h)) (fun h => ps_set (i := 2) nd rfl (by first | exact Or.inl rfl | exact Or.inr rfl) h))
  (st_cons (st_if (tt_cmp (op_eqD hr) o_data (et_v 2) (et_tup at_nil))
  (st_one (st_set (i := 2) (et_tup (at_cons (et_ix ix_seq o_ix (et_v 1) (et_call F__law_draw T.m__law_draw T.k__law_draw T.d__law_draw (hr.mono (by decide)) (at_cons (et_v 0) (at_cons (et_cb c_len (at_cons (et_v 1) at_nil) (fun h => pe_callB call_lenAny rfl T.b_len bl_len h)) at_nil)) (fun h => pe_call F__law_draw (hr.mono (by decide)) rfl T.m__law_draw T.k__law_draw T.d__law_draw .nil pass0 h))) at_nil)) (fun h => ps_set (i := 2) nd rfl (by first | exact Or.inl rfl | exact Or.inr rfl) h)))
  st_nil)
  (st_one (st_ret (et_v 2))))), ?_⟩
  show sSeq _ _ _ [.val (tapeD ns), .val (.tuple (entD f)), .un]
  have v5 := (F.vs f hf).2.1
  have hel := entD_len f
  refine seq_setR (fun d => ∃ xs : List D, xs.Sublist (entD f) ∧ d = .tuple xs) (fun q hq => ?_) ?_
  · show eCall (f1 gTuple) _ _ q
    dsimp only [eCall, aCons, aNil]
    refine lcx_sub (ts := entD f) (fun R h => ⟨_, rfl, _, rfl, h⟩) (by omega) (fun x q hx hq => ⟨_, rfl, ns, 2, rfl, hl, by decide, by decide, fun r _ _ => hq _⟩) (fun x q hx hq => ⟨_, rfl, hq⟩) fun zs hz => hq _ ⟨zs, hz, rfl⟩
  rintro _ ⟨xs, hxs, rfl⟩
  obtain ⟨hE, h6⟩ := sub_ent F hf hxs
  have cd0 : Cd (.tuple []) := ⟨rfl, by decide⟩
  refine seq_if (fun b => b = decide (xs = [])) (fun q hq => ⟨_, rfl, (Nat.le_of_ble_eq_true rfl), okEq_of ((let_th F hf hxs).cd (by decide)) cd0, hq _ (eqvAll_exact (fun y hy => by simp at hy))⟩) (fun hT => ?_) fun hF => ?_
  · obtain ⟨r, hr⟩ : ∃ e, e = entD f := ⟨_, rfl⟩
    refine one_setR (fun d => ∃ x, x ∈ entD f ∧ d = .tuple [x]) (fun q hq => ⟨_, rfl, _, rfl, _, rfl, ns, _, rfl, hl, by omega, by omega, fun r h0 h1 => ?_⟩) ?_
    · obtain ⟨x, hm, ha, _⟩ := atI_in (xs := entD f) (i := r) h0 h1
      exact ⟨_, ha, (Nat.le_of_ble_eq_true rfl), hq _ ⟨x, hm, rfl⟩⟩
    · rintro _ ⟨x, hx, rfl⟩
      exact ⟨_, rfl, h [x] (by simp) (List.singleton_sublist.mpr hx)⟩
  · try unfold sNext
    dsimp only
    have hne : xs ≠ [] := of_decide_eq_false hF.symm
    exact ⟨_, rfl, h xs hne hxs⟩

theorem sc__law_rule : FnScope ["_law_tape_here", "_law_form_here", "_law_lets", "_law_values", "_law_part_here"] ["_law_tape_here", "_law_form_here"] (defScope (top 38)) := ⟨rfl, rfl, rfl, by decide +kernel, rfl, by decide +kernel, by decide +kernel⟩
set_option maxHeartbeats 4000000 in
theorem ok__law_rule (T : Txt K mg A)
    (F__law_draw : FnOk P w K mg base CX0 1 A.a__law_draw A.f__law_draw ["_law_tape_here", "_law_many"] (liftSp K sp__law_draw))
    (F__law_part : FnOk P w K mg base CX0 2 A.a__law_part A.f__law_part ["_law_tape_here", "_law_values"] (liftSp K sp__law_part))
    (F__law_whole : FnOk P w K mg base CX0 1 A.a__law_whole A.f__law_whole ["_law_form_here"] (liftSp K sp__law_whole)) : FnOk P w K mg base CX0 3 A.a__law_rule A.f__law_rule ["_law_tape_here", "_law_form_here"] (liftSp K sp__law_rule) := by
  refine fnT T.F__law_rule sc__law_rule (fun ds Q h => by obtain ⟨ns, fs, an, rfl, hl, F, h⟩ := h; rfl) fun cdv Ar outer s H E hr ds Q h => ?_
  obtain ⟨ns, fs, an, rfl, hl, F, h⟩ := h
  have nd := sc__law_rule.nd
  refine ⟨_, (st_cons (st_own (i := 2) at_nil (fun h => ps_set (i := 2) nd rfl (by first | exact Or.inl rfl | exact Or.inr rfl) h))
  (st_cons (st_for (it_val (et_call F__law_whole T.m__law_whole T.k__law_whole T.d__law_whole (hr.mono (by decide)) (at_cons (et_v 1) at_nil) (fun h => pe_call F__law_whole (hr.mono (by decide)) rfl T.m__law_whole T.k__law_whole T.d__law_whole .nil pass0 h))) (gt_name (pg_name (i := 3) nd rfl (by first | exact Or.inl rfl | exact Or.inr rfl)))
  (st_cons (st_set (i := 4) (et_v 3) (fun h => ps_set (i := 4) nd rfl (by first | exact Or.inl rfl | exact Or.inr rfl) h))
  (st_cons (st_if (tt_cmp op_gt o_B0 (et_call F__law_draw T.m__law_draw T.k__law_draw T.d__law_draw (hr.mono (by decide)) (at_cons (et_v 0) (at_cons et_int at_nil)) (fun h => pe_call F__law_draw (hr.mono (by decide)) rfl T.m__law_draw T.k__law_draw T.d__law_draw .nil pass0 h)) et_int)
  (st_one (st_set (i := 4) (et_call F__law_part T.m__law_part T.k__law_part T.d__law_part (hr.mono (by decide)) (at_cons (et_v 0) (at_cons (et_v 3) at_nil)) (fun h => pe_call F__law_part (hr.mono (by decide)) rfl T.m__law_part T.k__law_part T.d__law_part .nil pass0 h)) (fun h => ps_set (i := 4) nd rfl (by first | exact Or.inl rfl | exact Or.inr rfl) h)))
  st_nil)
  (st_one (st_app (i := 2) (pv 2) (et_v 4) (pb := fun h => ps_expr (pe_bm PySem.F.plainAttrs_list PySem.F.slot_list_append PySem.F.type_list_append mt_append (pv 2) h)))))) (fun hi hg hb => ps_for PassesOwn.never rfl hi hg hb))
  (st_share 2 (st_one (st_ret (et_tup (at_cons (et_cb c_tuple (at_cons (et_v 2) at_nil) (fun h => pe_callTy call_tuple_of rfl T.b_tuple bl_tuple h)) (at_cons (et_ix ix_seq o_ix (et_ix ix_seq o_ix (et_v 1) et_int) (et_call F__law_draw T.m__law_draw T.k__law_draw T.d__law_draw (hr.mono (by decide)) (at_cons (et_v 0) (at_cons (et_cb c_len (at_cons (et_ix ix_seq o_ix (et_v 1) et_int) at_nil) (fun h => pe_callB call_lenAny rfl T.b_len bl_len h)) at_nil)) (fun h => pe_call F__law_draw (hr.mono (by decide)) rfl T.m__law_draw T.k__law_draw T.d__law_draw .nil pass0 h))) at_nil)))))))), ?_⟩
  show sSeq _ _ _ [.val (tapeD ns), .val (frmD fs an), .un, .un, .un]
  have n5 := F.n5
  refine seq_own [] (Nat.le_of_ble_eq_true rfl) (fun q hq => hq) ?_
  refine seq_for (ts := (fs.map entD).map PyData.tuple) (fun R h => ⟨_, rfl, fs, an, rfl, F, _, rfl, h⟩)
    (fun k σ => ∃ (L : List (List D)) (s3 s4 : Sl), σ = [.val (tapeD ns), .val (frmD fs an), .own (L.map PyData.tuple), s3, s4] ∧ LetsTo fs k L) ⟨[], _, _, rfl, rfl, fun j f e _ he => by simp at he⟩ (fun k x σ' hx hP => ?_) fun σ' hP => ?_
  · obtain ⟨L, s3, s4, rfl, hL⟩ := hP
    rw [List.getElem?_map] at hx
    obtain ⟨e, hei, rfl⟩ := Option.map_eq_some_iff.mp hx
    rw [List.getElem?_map] at hei
    obtain ⟨f, hf, rfl⟩ := Option.map_eq_some_iff.mp hei
    have hfm := List.mem_of_getElem? hf
    have hk := (List.getElem?_eq_some_iff.mp hf).1
    have hne : entD f ≠ [] := fun z => by have := entD_len f; rw [z] at this; cases this
    refine seq_set (.tuple (entD f)) (fun q hq => ⟨_, rfl, hq⟩) ?_
    refine seq_ifsetC True (fun d => ∃ e : List D, e ≠ [] ∧ e.Sublist (entD f) ∧ d = .tuple e) (fun q hq => ⟨_, rfl, ns, 4, rfl, hl, by decide, by decide, fun r _ _ => hq _ fun _ => trivial⟩) (fun _ q hq => ⟨_, rfl, _, rfl, ns, fs, an, f, rfl, hl, F, hfm, fun xs h1 h2 => hq _ ⟨xs, h1, h2, rfl⟩⟩) (.tuple (entD f)) rfl ⟨_, hne, List.Sublist.refl _, rfl⟩ ?_
    rintro _ ⟨e, he1, he2, rfl⟩
    refine one_app (ts := L.map PyData.tuple) (.tuple e) rfl (by rw [List.length_map, hL.1]; omega) (fun q hq => ⟨_, rfl, hq⟩) ⟨L ++ [e], .val (.tuple (entD f)), .val (.tuple e), ?_, letsTo_snoc hL hf he1 he2⟩
    rw [List.map_append]; rfl
  · obtain ⟨L, s3, s4, rfl, hL⟩ := hP
    rw [List.length_map, List.length_map] at hL
    obtain ⟨hO, hN⟩ := letsTo_all F hL
    have a2 := F.a2
    have a4 := F.a4
    refine ⟨_, rfl, _, rfl, _, rfl, _, rfl, _, rfl, _, rfl, _, rfl, ns, _, rfl, hl, by rw [List.length_map]; omega, by rw [List.length_map]; omega, fun r h0 h1 => ?_⟩
    obtain ⟨x, hm, ha, _⟩ := atI_in (xs := an.map PyData.str) (i := r) h0 h1
    obtain ⟨a, haa, rfl⟩ := List.mem_map.mp hm
    exact ⟨_, ha, (Nat.le_of_ble_eq_true rfl), h (L, a) ⟨hO, hN, haa⟩⟩

theorem sc__law_fits : FnScope ["_law_rule_here", "_law_case"] ["_law_rule_here", "_law_case"] (defScope (top 39)) := ⟨rfl, rfl, rfl, by decide +kernel, rfl, by decide +kernel, by decide +kernel⟩
set_option maxHeartbeats 4000000 in
theorem ok__law_fits (T : Txt K mg A) : FnOk P w K mg base CX0 1 A.a__law_fits A.f__law_fits ["_law_rule_here", "_law_case"] (liftSp K sp__law_fits) := by
  refine fnT T.F__law_fits sc__law_fits (fun ds Q h => by obtain ⟨fs, an, r, c, rfl, F, hL, hc, h⟩ := h; rfl) fun cdv Ar outer s H E hr ds Q h => ?_
  obtain ⟨fs, an, r, c, rfl, F, hL, hc, h⟩ := h
  have nd := sc__law_fits.nd
  refine ⟨_, (st_one (st_ret (et_cmp (op_notInData hr) o_data et_bl (et_lc (fr := [none, none]) (N' := ["_law_value", "_law_part_here"]) (it_zip (at_cons (et_v 1) (at_cons (et_ix ix_seq o_ix (et_v 0) et_int) at_nil)) (fun h => pi_zip rfl T.b_zip h)) (fun b => ⟨(gt_pair (pg_tup rfl (pgs_cons (pg_name (i := 0) (show List.Nodup (["_law_value", "_law_part_here"] : List Str) from by decide +kernel) rfl (by first | exact Or.inl rfl | exact Or.inr rfl)) (pgs_cons (pg_name (i := 1) (show List.Nodup (["_law_value", "_law_part_here"] : List Str) from by decide +kernel) rfl (by first | exact Or.inl rfl | exact Or.inr rfl)) pgs_nil)))), if_nil, (et_cmp (op_in2 hr) o_in2 (et_v 0) (et_v 1))⟩) (fun hi hY => pe_lcc (show lcChk _ (defScope (top 39)) ["_law_rule_here", "_law_case"] ["_law_value", "_law_part_here"] [none, none] = true from by decide +kernel) rfl hi hY))))), ?_⟩
  obtain ⟨L, a⟩ := r
  obtain ⟨hcl, hcv⟩ := case_get hc
  have n5 := F.n5
  have hL1 : L.length = fs.length := hL.1
  have each : ∀ x e, .tuple [x, e] ∈ zipD c (L.map PyData.tuple) → ∃ l, e = .tuple l ∧ Ent x ∧ ∀ t ∈ l, Ent t := fun x e hm => by
    obtain ⟨i, hi⟩ := List.getElem?_of_mem hm
    obtain ⟨x', e', h1, h2, he⟩ := zipD_get hi
    simp only [PyData.tuple.injEq, List.cons.injEq, and_true] at he
    obtain ⟨rfl, rfl⟩ := he
    rw [List.getElem?_map] at h2
    obtain ⟨l, hl, rfl⟩ := Option.map_eq_some_iff.mp h2
    have hil : i < fs.length := by rw [← hL1]; exact (List.getElem?_eq_some_iff.mp hl).1
    have hf : fs[i]? = some fs[i] := List.getElem?_eq_getElem hil
    have hfm := List.getElem_mem hil
    refine ⟨l, rfl, ?_, fun t ht => ent_entD F hfm t (hL.sub hf hl t ht)⟩
    have := hcv i _ x hf h1
    cases x with
    | none => exact .inl rfl
    | str z => exact .inr ⟨z, F.vals hfm z (of_decide_eq_true this), rfl⟩
    | _ => cases this
  obtain ⟨a2, a3⟩ := fits_all c L (hcl.trans hL1.symm)
  show eOp _ _ _ _ Q
  dsimp only [eOp, eC]
  refine lcp_map (ts := zipD c (L.map PyData.tuple)) (fun R h => ⟨_, rfl, _, rfl, _, rfl, _, _, rfl, h⟩) inX (by rw [zipD_len, List.length_map]; omega) (fun x hx => ?_) (fun x e q hm hq => ?_) ?_
  · obtain ⟨i, hi⟩ := List.getElem?_of_mem hx
    obtain ⟨x', e', _, _, rfl⟩ := zipD_get hi
    exact ⟨_, _, rfl⟩
  · obtain ⟨l, rfl, hx, hl⟩ := each x e hm
    refine ⟨_, rfl, _, rfl, fIn2_tup (okIn_ent hx hl).2 ?_⟩
    show q (.bool (l.any fun z => PyData.eqv z x))
    rw [any_ent hx hl]; exact hq
  · refine ⟨⟨a3, rfl, by show min _ 0 ≤ 60; omega⟩, ?_⟩
    show Q (.bool (!inD (.bool false) (.list _)))
    rw [a2]; exact h

theorem sc__law_answer : FnScope ["_law_rules", "_law_case", "_law_rule_here"] ["_law_rules", "_law_case"] (defScope (top 40)) := ⟨rfl, rfl, rfl, by decide +kernel, rfl, by decide +kernel, by decide +kernel⟩
set_option maxHeartbeats 4000000 in
theorem ok__law_answer (T : Txt K mg A)
    (F__law_fits : FnOk P w K mg base CX0 1 A.a__law_fits A.f__law_fits ["_law_rule_here", "_law_case"] (liftSp K sp__law_fits)) : FnOk P w K mg base CX0 2 A.a__law_answer A.f__law_answer ["_law_rules", "_law_case"] (liftSp K sp__law_answer) := by
  refine fnT T.F__law_answer sc__law_answer (fun ds Q h => by obtain ⟨fs, an, rs, c, rfl, F, hL, hc, h⟩ := h; rfl) fun cdv Ar outer s H E hr ds Q h => ?_
  obtain ⟨fs, an, rs, c, rfl, F, hL, hc, h⟩ := h
  have nd := sc__law_answer.nd
  refine ⟨_, (st_cons (st_for (it_val (et_v 0)) (gt_name (pg_name (i := 2) nd rfl (by first | exact Or.inl rfl | exact Or.inr rfl)))
  (st_one (st_if (tt_val (et_call F__law_fits T.m__law_fits T.k__law_fits T.d__law_fits (hr.mono (by decide)) (at_cons (et_v 2) (at_cons (et_v 1) at_nil)) (fun h => pe_call F__law_fits (hr.mono (by decide)) rfl T.m__law_fits T.k__law_fits T.d__law_fits .nil pass0 h)) (fun h => pt_val h))
  (st_one (st_ret (et_ix ix_seq o_ix (et_v 2) et_int)))
  st_nil)) (fun hi hg hb => ps_for PassesOwn.never rfl hi hg hb))
  (st_one (st_ret et_non))), ?_⟩
  show sSeq _ _ _ [.val (.list (rs.map ruleD)), .val (.tuple c), .un]
  refine seq_for (ts := rs.map ruleD) (fun R h => ⟨_, rfl, _, rfl, h⟩)
    (fun i σ => ∃ s2 : Sl, σ = [.val (.list (rs.map ruleD)), .val (.tuple c), s2] ∧ ∀ r ∈ rs.take i, InL r.1 c = false) ⟨_, rfl, fun r hr => by simp at hr⟩ (fun i x σ' hx hP => ?_) fun σ' hP => ?_
  · obtain ⟨s2, rfl, hno⟩ := hP
    rw [List.getElem?_map] at hx
    obtain ⟨r, hri, rfl⟩ := Option.map_eq_some_iff.mp hx
    have hrm := List.mem_of_getElem? hri
    refine one_if (fun b => b = InL r.1 c) (fun q hq => ⟨_, rfl, _, rfl, fs, an, r, c, rfl, F, hL r hrm, hc, hq _ rfl⟩) (fun hT => ?_) fun hF => ?_
    · have e : rs.find? (fun r => InL r.1 c) = some r := by
        have hil := (List.getElem?_eq_some_iff.mp hri).1
        have e0 : rs = rs.take i ++ (r :: rs.drop (i + 1)) := by
          have e1 : rs[i] = r := (List.getElem?_eq_some_iff.mp hri).2
          rw [← e1, ← List.drop_eq_getElem_cons hil, List.take_append_drop]
        rw [e0, List.find?_append]
        have e2 : (rs.take i).find? (fun r => InL r.1 c) = none := by
          rw [List.find?_eq_none]
          intro r' hr' hx'
          rw [hno r' hr'] at hx'
          cases hx'
        rw [e2, Option.none_or, List.find?_cons_of_pos (by exact hT.symm)]
      rw [e] at h
      exact ⟨_, rfl, _, rfl, h⟩
    · refine ⟨_, rfl, fun r' hr' => ?_⟩
      rw [List.take_add_one, hri] at hr'
      rcases List.mem_append.mp hr' with hr' | hr'
      · exact hno r' hr'
      · rw [List.mem_singleton.mp hr']; exact hF.symm
  · obtain ⟨s2, rfl, hno⟩ := hP
    rw [List.length_map, List.take_length] at hno
    have e : rs.find? (fun r => InL r.1 c) = none := by
      rw [List.find?_eq_none]
      intro r' hr' hx'
      rw [hno r' hr'] at hx'
      cases hx'
    rw [e] at h
    exact h

theorem sc__law_knots : FnScope ["_law_form_here", "_law_tree", "_law_deep", "_law_question", "_law_values"] ["_law_form_here", "_law_tree", "_law_deep"] (defScope (top 41)) := ⟨rfl, rfl, rfl, by decide +kernel, rfl, by decide +kernel, by decide +kernel⟩
set_option maxHeartbeats 4000000 in
theorem step__law_knots (dd : Nat) (T : Txt K mg A)
    (F__law_knots : FnOk P w K mg base CX0 (1 + dd) A.a__law_knots A.f__law_knots ["_law_form_here", "_law_tree", "_law_deep"] (liftSp K (sp__law_knots_lt dd))) : FnOk P w K mg base CX0 (1 + dd + 1) A.a__law_knots A.f__law_knots ["_law_form_here", "_law_tree", "_law_deep"] (liftSp K (sp__law_knots_lt (dd + 1))) := by
  refine fnT T.F__law_knots sc__law_knots (fun ds Q h => by obtain ⟨fs, an, t, deep, rfl, F, ht, h30, hd, h15, h⟩ := h; rfl) fun cdv Ar outer s H E hr ds Q h => ?_
  obtain ⟨fs, an, t, deep, rfl, F, ht, h30, hd, h15, h⟩ := h
  have nd := sc__law_knots.nd
  refine ⟨_, (st_cons (st_if (tw_pt (tw_or (tt_not (tt_val (et_isi (kit_tuple _) (et_v 1) (fun h => pe_callB call_isi rfl T.b_isinstance bl_isinstance (pa_cons h (pa_cons (pe_bltn rfl T.b_tuple bl_tuple rfl) pa_nil)))) (fun h => pt_val h))) (tw_or1 (tt_cmp op_lt o_B0 (et_cb c_len (at_cons (et_v 1) at_nil) (fun h => pe_callB call_lenAny rfl T.b_len bl_len h)) et_int))))
  (st_one (st_ret et_int))
  st_nil)
  (st_cons (st_if (tt_cmp op_eq o_eq (et_ix ix_seq o_ix (et_v 1) et_int) et_str)
  (st_one (st_ret (et_ix ix_seq o_ix (et_lst (at_cons et_int (at_cons et_int at_nil))) (et_cb c_int (at_cons (et_and (et_cmp op_eq o_eq (et_cb c_len (at_cons (et_v 1) at_nil) (fun h => pe_callB call_lenAny rfl T.b_len bl_len h)) et_int) (et_and (et_isi (kit_str _) (et_ix ix_seq o_ix (et_v 1) et_int) (fun h => pe_callB call_isi rfl T.b_isinstance bl_isinstance (pa_cons h (pa_cons (pe_bltn rfl T.b_str bl_str rfl) pa_nil)))) (et_one (et_cmp (op_in2 hr) o_in2 (et_ix ix_seq o_ix (et_v 1) et_int) (et_ix ix_seq o_ix (et_v 0) et_int))))) at_nil) (fun h => pe_callTy call_int1 rfl T.b_int bl_int h)))))
  st_nil)
  (st_cons (st_if (tw_pt (tw_or (tt_cmp op_ne o_ne (et_ix ix_seq o_ix (et_v 1) et_int) et_str) (tw_or (tt_cmp op_ne o_ne (et_cb c_len (at_cons (et_v 1) at_nil) (fun h => pe_callB call_lenAny rfl T.b_len bl_len h)) et_int) (tw_or (tt_cmp op_eq o_eq (et_v 2) et_int) (tw_or1 (tt_cmp (op_notInData hr) o_data (et_ix ix_seq o_ix (et_v 1) et_int) (et_tup (at_cons et_str (at_cons et_str at_nil)))))))))
  (st_one (st_ret et_int))
  st_nil)
  (st_cons (st_set (i := 3) (et_ix ix_seq o_ix (et_v 1) et_int) (fun h => ps_set (i := 3) nd rfl (by first | exact Or.inl rfl | exact Or.inr rfl) h))
  (st_cons (st_if (tw_pt (tw_or (tt_not (tt_val (et_isi (kit_tuple _) (et_v 3) (fun h => pe_callB call_isi rfl T.b_isinstance bl_isinstance (pa_cons h (pa_cons (pe_bltn rfl T.b_tuple bl_tuple rfl) pa_nil)))) (fun h => pt_val h))) (tw_or (tt_cmp op_ne o_ne (et_cb c_len (at_cons (et_v 3) at_nil) (fun h => pe_callB call_lenAny rfl T.b_len bl_len h)) et_int) (tw_or1 (tt_cmp (op_notInData hr) o_data (et_ix ix_seq o_ix (et_v 3) et_int) (et_tup (at_cons et_str (at_cons et_str at_nil))))))))
  (st_one (st_ret et_int))
  st_nil)
  (st_cons (st_setlc (i := 4) (fr := [none, some 3]) (N' := ["_law_field", "_law_question"]) (it_val (et_ix ix_seq o_ix (et_v 0) et_int)) (fun b => ⟨(gt_name (pg_name (i := 0) (show List.Nodup (["_law_field", "_law_question"] : List Str) from by decide +kernel) rfl (by first | exact Or.inl rfl | exact Or.inr rfl))), (if_one (tt_cmp op_eq o_eq (et_ix ix_seq o_ix (et_v 0) et_int) (et_ix ix_seq o_ix (et_v 1) et_int))), (et_ix ix_seq o_ix (et_v 0) et_int)⟩) (fun hi hY => ps_setlcc (show lcChk _ (defScope (top 41)) ["_law_form_here", "_law_tree", "_law_deep", "_law_question", "_law_values"] ["_law_field", "_law_question"] [none, some 3] = true from by decide +kernel) nd rfl (by first | exact Or.inl rfl | exact Or.inr rfl) rfl hi hY rfl))
  (st_cons (st_if (tw_pt (tw_or (tt_cmp (op_eqD hr) o_data (et_v 4) (et_lst at_nil)) (tw_or (tt_cmp (op_notInData hr) o_data (et_ix ix_seq o_ix (et_v 3) et_int) (et_ix ix_seq o_ix (et_v 4) et_int)) (tw_or1 (tw_pt (tw_and (tt_cmp (op_eqD hr) o_data (et_ix ix_seq o_ix (et_v 3) et_int) et_str) (tw_and1 (tt_cmp (op_eqD hr) o_data (et_ix ix_seq o_ix (et_v 3) et_int) (et_ix ix_seq o_ix (et_ix ix_seq o_ix (et_v 4) et_int) (et_neg et_int))))))))))
  (st_one (st_ret et_int))
  st_nil)
  (st_one (st_ret (et_op op_addAny o_add (et_op op_addAny o_add et_int (et_call F__law_knots T.m__law_knots T.k__law_knots T.d__law_knots (hr.mono (by omega)) (at_cons (et_v 0) (at_cons (et_ix ix_seq o_ix (et_v 1) et_int) (at_cons (et_op op_addAny o_add (et_v 2) et_int) at_nil))) (fun h => pe_call F__law_knots (hr.mono (by omega)) rfl T.m__law_knots T.k__law_knots T.d__law_knots .nil pass0 h))) (et_call F__law_knots T.m__law_knots T.k__law_knots T.d__law_knots (hr.mono (by omega)) (at_cons (et_v 0) (at_cons (et_ix ix_seq o_ix (et_v 1) et_int) (at_cons (et_op op_addAny o_add (et_v 2) et_int) at_nil))) (fun h => pe_call F__law_knots (hr.mono (by omega)) rfl T.m__law_knots T.k__law_knots T.d__law_knots .nil pass0 h)))))))))))), ?_⟩
  cases t with
  | say a =>
    show sSeq _ _ _ [.val (frmD fs an), .val (.tuple [.str "say", .str a]), .val (.int (deep : Int)), .un, .un]
    have ha : a ∈ an := ht
    refine seq_if (fun b => b = false) (fun q hq => ?_) (fun hT => by cases hT) fun _ => ?_
    · refine ⟨_, rfl, ?_⟩
      show (if (!isT "tuple" (.tuple [.str "say", .str a])) = true then q true else _)
      rw [isT_tup, if_neg (by decide)]
      exact ⟨_, rfl, hq _ rfl⟩
    try unfold sNext
    dsimp only
    refine seq_if (fun b => b = true) (fun q hq => ⟨_, rfl, _, rfl, hq _ (decide_eq_true rfl)⟩) (fun _ => ?_) fun hF => by cases hF
    refine ⟨(Nat.le_of_ble_eq_true rfl), _, rfl, ?_⟩
    dsimp only [eCall, aCons, aNil, f1, gLen, eC, eOp, fEq, eqF, eAnd, eIsi, isiQ]
    refine (if_pos rfl).mpr ?_
    refine ⟨_, rfl, _, rfl, ?_⟩
    refine (if_pos rfl).mpr ?_
    refine ⟨_, rfl, _, rfl, _, rfl, _, rfl, fIn2_tup (ok_strs F.an.2.1 (cd_str (F.an.2.1 a ha))) ?_⟩
    show gInt (.bool ((an.map PyData.str).any fun z => PyData.eqv z (.str a))) _
    rw [any_strs, show isAns an (.str a) = true from decide_eq_true ha]
    exact ⟨_, rfl, h⟩
  | ask k n v s y m =>
    show sSeq _ _ _ [.val (frmD fs an), .val (.tuple [.str "ask", .tuple [.str k, .str n, .str v], .str s, trD y, trD m]), .val (.int (deep : Int)), .un, .un]
    obtain ⟨hq, hs, hy, hm⟩ := ht
    have hdp : max y.dep m.dep + 1 + deep ≤ 30 := h30
    have hdd : max y.dep m.dep + 1 < dd + 1 := hd
    have hd15 : max y.dep m.dep + 1 ≤ 15 := h15
    obtain ⟨f, hf, hfn, hv, hk⟩ := isQ_str hq
    have hkn : k = "is" ∨ k = "upto" := hk.imp id fun z => z.1
    have v5 := (F.vs f hf).2.1
    have v2 := (F.vs f hf).1
    have n5 := F.n5
    refine seq_if (fun b => b = false) (fun q hq => ?_) (fun hT => by cases hT) fun _ => ?_
    · refine ⟨_, rfl, ?_⟩
      show (if (!isT "tuple" (.tuple [.str "ask", .tuple [.str k, .str n, .str v], .str s, trD y, trD m])) = true then q true else _)
      rw [isT_tup, if_neg (by decide)]
      exact ⟨_, rfl, hq _ rfl⟩
    try unfold sNext
    dsimp only
    refine seq_if (fun b => b = false) (fun q hq => ⟨_, rfl, _, rfl, hq _ (decide_eq_false (by decide +kernel))⟩) (fun hT => by cases hT) fun _ => ?_
    try unfold sNext
    dsimp only
    refine seq_if (fun b => b = false) (fun q hq => ?_) (fun hT => by cases hT) fun _ => ?_
    · refine ⟨_, rfl, _, rfl, ?_⟩
      show (if (!decide (("ask" : Str) = "ask")) = true then q true else _)
      rw [if_neg (by rw [decide_eq_true rfl]; decide)]
      refine ⟨_, rfl, ?_⟩
      show (if (!decide ((5 : Int) = 5)) = true then q true else _)
      rw [if_neg (by decide)]
      refine ⟨_, rfl, ?_⟩
      show (if decide ((deep : Int) = 30) = true then q true else _)
      rw [if_neg (by rw [decide_eq_false (by omega)]; decide)]
      refine ⟨_, rfl, _, rfl, (Nat.le_of_ble_eq_true rfl), ok_strs (ys := ["yes", "no"]) nm_yn2 (cd_str ?_), hq _ (nin_strs (ys := ["yes", "no"]) ?_)⟩
      · rcases hs with rfl | rfl
        · exact nm_yes
        · exact nm_no
      · rcases hs with rfl | rfl <;> simp
    try unfold sNext
    dsimp only
    refine seq_set (.tuple [.str k, .str n, .str v]) (fun q hq => ⟨_, rfl, _, rfl, hq⟩) ?_
    have nk : nmS k = true := by rcases hkn with rfl | rfl <;> first | exact nm_is | exact nm_upto
    refine seq_if (fun b => b = false) (fun q hq => ?_) (fun hT => by cases hT) fun _ => ?_
    · refine ⟨_, rfl, ?_⟩
      show (if (!isT "tuple" (.tuple [.str k, .str n, .str v])) = true then q true else _)
      rw [isT_tup, if_neg (by decide)]
      refine ⟨_, rfl, ?_⟩
      show (if (!decide ((3 : Int) = 3)) = true then q true else _)
      rw [if_neg (by decide)]
      refine ⟨_, rfl, _, rfl, (Nat.le_of_ble_eq_true rfl), ok_strs (ys := ["is", "upto"]) nm_iu2 (cd_str nk), hq _ (nin_strs (ys := ["is", "upto"]) ?_)⟩
      rcases hkn with rfl | rfl <;> simp
    try unfold sNext
    dsimp only
    refine seq_set (.list [.tuple (f.2.map PyData.str)]) (fun q hq => ?_) ?_
    · refine lcx_filt (ts := fs.map fldD) (fun R h => ⟨_, rfl, _, rfl, _, rfl, h⟩) (nameB n) valsD (by rw [List.length_map]; omega) (fun x q hx hq => ?_) (fun x q hx hq => ?_) (by rw [← hfn, vals_one F hf]; exact hq)
      · obtain ⟨g, hg, rfl⟩ := List.mem_map.mp hx
        exact ⟨_, rfl, _, rfl, _, rfl, _, rfl, hq⟩
      · obtain ⟨g, hg, rfl⟩ := List.mem_map.mp hx
        exact ⟨_, rfl, _, rfl, hq⟩
    have nv : nmS v = true := F.vals hf v hv
    obtain ⟨w, hw, hwa⟩ := atI_neg (ys := f.2) (by omega)
    have nw : nmS w = true := F.vals hf w (List.mem_of_getElem? hw)
    have tv : Th 60 2 (.list [.tuple (f.2.map PyData.str)]) := th_lst 50 1 1 (all_cons (th_tup 8 0 5 (th_strs (F.vals hf) (Nat.le_refl 8)) (by rw [List.length_map]; exact v5) (by decide) (by decide)) all_nil) (Nat.le_refl _) (by decide) (by decide)
    have te : Th 60 2 (.list []) := th_lst 0 0 0 all_nil (Nat.le_refl _) (Nat.zero_le _) (by decide)
    refine seq_if (fun b => b = false) (fun q hq => ?_) (fun hT => by cases hT) fun _ => ?_
    · refine ⟨_, rfl, (Nat.le_of_ble_eq_true rfl), okEq_of (tv.cd (by decide)) (te.cd (by decide)), ?_⟩
      show (if PyData.eqv (.list [.tuple (f.2.map PyData.str)]) (.list []) = true then q true else _)
      rw [show PyData.eqv (.list [.tuple (f.2.map PyData.str)]) (.list []) = false from rfl, if_neg (by decide)]
      refine ⟨_, rfl, _, rfl, _, rfl, _, rfl, ok_strs (F.vals hf) (cd_str nv), ?_⟩
      show (if (!inD (.str v) (.tuple (f.2.map PyData.str))) = true then q true else _)
      rw [nin_strs hv, if_neg (by decide)]
      refine ⟨_, rfl, _, rfl, okEq_of (cd_str nk) (cd_str nm_upto), ?_⟩
      show (if PyData.eqv (.str k) (.str "upto") = true then _ else q false)
      cases hb : PyData.eqv (.str k) (.str "upto") with
      | false => rw [if_neg (by decide)]; exact hq _ rfl
      | true =>
        rw [if_pos rfl]
        refine ⟨_, rfl, _, rfl, _, rfl, _, rfl, _, hwa, okEq_of (cd_str nv) (cd_str nw), hq _ ?_⟩
        have hku : k = "upto" := by
          have hb' : (k == ("upto" : Str)) = true := hb
          simpa using hb'
        have hne : v ≠ w := by
          rcases hk with e | ⟨_, e⟩
          · rw [e] at hku; exact absurd hku (by decide +kernel)
          · exact upto_last (F.vs f hf).2.2.2.2 e hw
        show (v == w) = false
        simpa using hne
    try unfold sNext
    dsimp only
    have e1 : (deep : Int) + 1 = ((deep + 1 : Nat) : Int) := by omega
    refine ⟨_, rfl, _, rfl, _, rfl, _, rfl, fs, an, y, deep + 1, (congrArg (fun z => [frmD fs an, trD y, .int z]) e1 : [frmD fs an, trD y, .int _] = _), F, hy, by omega, by omega, by omega, _, rfl, _, rfl, _, rfl, _, rfl, fs, an, m, deep + 1, (congrArg (fun z => [frmD fs an, trD m, .int z]) e1 : [frmD fs an, trD m, .int _] = _), F, hm, by omega, by omega, by omega, ?_⟩
    show Q (.int (1 + (y.kn : Int) + (m.kn : Int)))
    have e : (1 + (y.kn : Int) + (m.kn : Int)) = (((Tr.ask k n v s y m).kn : Nat) : Int) := by show _ = ((y.kn + m.kn + 1 : Nat) : Int); omega
    rw [e]; exact h

theorem ok__law_knots (T : Txt K mg A) : FnOk P w K mg base CX0 17 A.a__law_knots A.f__law_knots ["_law_form_here", "_law_tree", "_law_deep"] (liftSp K sp__law_knots) := by
  have h : ∀ dd : Nat, FnOk P w K mg base CX0 (1 + dd) A.a__law_knots A.f__law_knots ["_law_form_here", "_law_tree", "_law_deep"] (liftSp K (sp__law_knots_lt dd)) := fun dd => by
    induction dd with
    | zero => exact fn_imp fn_never fun ds Q h => never__law_knots h
    | succ dd ih => exact step__law_knots dd T ih
  exact h 16
theorem sc__law_right : FnScope ["_law_form_here", "_law_rules", "_law_tree"] ["_law_form_here", "_law_rules", "_law_tree"] (defScope (top 42)) := ⟨rfl, rfl, rfl, by decide +kernel, rfl, by decide +kernel, by decide +kernel⟩
set_option maxHeartbeats 4000000 in
theorem ok__law_right (T : Txt K mg A)
    (F__law_answer : FnOk P w K mg base CX0 2 A.a__law_answer A.f__law_answer ["_law_rules", "_law_case"] (liftSp K sp__law_answer))
    (F__law_cases : FnOk P w K mg base CX0 2 A.a__law_cases A.f__law_cases ["_law_form_here"] (liftSp K sp__law_cases))
    (F__law_knots : FnOk P w K mg base CX0 17 A.a__law_knots A.f__law_knots ["_law_form_here", "_law_tree", "_law_deep"] (liftSp K sp__law_knots))
    (F__law_way : FnOk P w K mg base CX0 2 A.a__law_way A.f__law_way ["_law_form_here", "_law_tree", "_law_case"] (liftSp K sp__law_way)) : FnOk P w K mg base CX0 18 A.a__law_right A.f__law_right ["_law_form_here", "_law_rules", "_law_tree"] (liftSp K sp__law_right) := by
  refine fnT T.F__law_right sc__law_right (fun ds Q h => by obtain ⟨fs, an, rs, t, rfl, F, S, hL, hA, hT, h⟩ := h; rfl) fun cdv Ar outer s H E hr ds Q h => ?_
  obtain ⟨fs, an, rs, t, rfl, F, S, hL, hA, hT, h⟩ := h
  have nd := sc__law_right.nd
  refine ⟨_, (st_cons (st_if (tt_cmp op_gt o_B0 (et_call F__law_knots T.m__law_knots T.k__law_knots T.d__law_knots (hr.mono (by decide)) (at_cons (et_v 0) (at_cons (et_v 2) (at_cons et_int at_nil))) (fun h => pe_call F__law_knots (hr.mono (by decide)) rfl T.m__law_knots T.k__law_knots T.d__law_knots .nil pass0 h)) et_int)
  (st_one (st_ret et_bl))
  st_nil)
  (st_one (st_ret (et_cb c_all (at_cons (et_lc (fr := [none, some 1, some 0, some 2]) (N' := ["_law_case", "_law_rules", "_law_form_here", "_law_tree"]) (it_val (et_call F__law_cases T.m__law_cases T.k__law_cases T.d__law_cases (hr.mono (by decide)) (at_cons (et_v 0) at_nil) (fun h => pe_call F__law_cases (hr.mono (by decide)) rfl T.m__law_cases T.k__law_cases T.d__law_cases .nil pass0 h))) (fun b => ⟨(gt_name (pg_name (i := 0) (show List.Nodup (["_law_case", "_law_rules", "_law_form_here", "_law_tree"] : List Str) from by decide +kernel) rfl (by first | exact Or.inl rfl | exact Or.inr rfl))), if_nil, (et_cmp op_eq o_eq (et_ix ix_seq o_ix (et_call F__law_way T.m__law_way T.k__law_way T.d__law_way (hr.mono (by decide)) (at_cons (et_v 2) (at_cons (et_v 3) (at_cons (et_v 0) at_nil))) (fun h => pe_call F__law_way (hr.mono (by decide)) rfl T.m__law_way T.k__law_way T.d__law_way .nil pass0 h)) et_int) (et_call F__law_answer T.m__law_answer T.k__law_answer T.d__law_answer (hr.mono (by decide)) (at_cons (et_v 1) (at_cons (et_v 0) at_nil)) (fun h => pe_call F__law_answer (hr.mono (by decide)) rfl T.m__law_answer T.k__law_answer T.d__law_answer .nil pass0 h)))⟩) (fun hi hY => pe_lcc (show lcChk _ (defScope (top 42)) ["_law_form_here", "_law_rules", "_law_tree"] ["_law_case", "_law_rules", "_law_form_here", "_law_tree"] [none, some 1, some 0, some 2] = true from by decide +kernel) rfl hi hY)) at_nil) (fun h => pe_callB (call_all_bls rfl) rfl T.b_all bl_all h))))), ?_⟩
  show sSeq _ _ _ [.val (frmD fs an), .val (.list (rs.map ruleD)), .val (trD t)]
  obtain ⟨p1, p2⟩ := many_le S
  obtain ⟨t1, t2, t3, t4⟩ := hT
  refine seq_if (fun b => b = false) (fun q hq => ⟨_, rfl, _, rfl, fs, an, t, 0, rfl, F, t1, by omega, by omega, by omega, hq _ (decide_eq_false (by omega))⟩) (fun hT => by cases hT) fun _ => ?_
  try unfold sNext
  dsimp only
  show eCall (f1 gAll) _ _ Q
  dsimp only [eCall, aCons, aNil]
  refine lcx_map (ts := (prodF (fs.map entD)).map PyData.tuple) (fun R h => ⟨_, rfl, fs, an, rfl, F, S, _, rfl, h⟩) (fun _ => .bool true) (by rw [List.length_map]; omega) (fun x q hx hq => ?_) ?_
  · obtain ⟨c, hcm, rfl⟩ := List.mem_map.mp hx
    have hc := lets_case (LetsOk.whole fs) ((mem_prod _ c).mp hcm)
    refine ⟨_, rfl, _, rfl, _, rfl, fs, an, t, c, rfl, F, t1, hc, by omega, fun w => ⟨_, rfl, _, rfl, _, rfl, fs, an, rs, c, rfl, F, hL, hc, ?_⟩⟩
    rw [ansD_of hA hcm, ← t4 c hcm]
    show q (.bool (decide (ansL fs t c = ansL fs t c)))
    rw [decide_eq_true rfl]; exact hq
  · refine ⟨((prodF (fs.map entD)).map PyData.tuple).map fun _ => true, by rw [List.map_map, List.map_map, List.map_map]; rfl, ?_⟩
    rw [show (((prodF (fs.map entD)).map PyData.tuple).map fun _ => true).all id = true from List.all_eq_true.mpr fun b hb => by obtain ⟨_, _, rfl⟩ := List.mem_map.mp hb; rfl]
    exact h

theorem sc_law : FnScope ["_law_script", "_law_tape_here", "_law_form_here", "_law_rules", "_law_handed"] ["_law_script"] (defScope (top 43)) := ⟨rfl, rfl, rfl, by decide +kernel, rfl, by decide +kernel, by decide +kernel⟩
set_option maxHeartbeats 4000000 in
theorem ok_law (T : Txt K mg A)
    (F__law_answer : FnOk P w K mg base CX0 2 A.a__law_answer A.f__law_answer ["_law_rules", "_law_case"] (liftSp K sp__law_answer))
    (F__law_cases : FnOk P w K mg base CX0 2 A.a__law_cases A.f__law_cases ["_law_form_here"] (liftSp K sp__law_cases))
    (F__law_draw : FnOk P w K mg base CX0 1 A.a__law_draw A.f__law_draw ["_law_tape_here", "_law_many"] (liftSp K sp__law_draw))
    (F__law_form : FnOk P w K mg base CX0 3 A.a__law_form A.f__law_form ["_law_tape_here", "_law_fields", "_law_values"] (liftSp K sp__law_form))
    (F__law_right : FnOk P w K mg base CX0 18 A.a__law_right A.f__law_right ["_law_form_here", "_law_rules", "_law_tree"] (liftSp K sp__law_right))
    (F__law_rule : FnOk P w K mg base CX0 3 A.a__law_rule A.f__law_rule ["_law_tape_here", "_law_form_here"] (liftSp K sp__law_rule))
    (F__law_tape : FnOk P w K mg base CX0 1 A.a__law_tape A.f__law_tape ["_law_script"] (liftSpF K sp__law_tape))
    (F__law_whole : FnOk P w K mg base CX0 1 A.a__law_whole A.f__law_whole ["_law_form_here"] (liftSp K sp__law_whole))
    (F_tree_of : FnOk P w K mg base CX0 22 A.a_tree_of A.f_tree_of ["form", "rules"] (liftSp K sp_tree_of)) : FnOk P w K mg base CX0 24 A.a_law A.f_law ["_law_script"] (liftSp K sp_law) := by
  refine fnT T.F_law sc_law (fun ds Q h => by obtain ⟨ns, rfl, hl, h⟩ := h; rfl) fun cdv Ar outer s H E hr ds Q h => ?_
  obtain ⟨ns, rfl, hl, h⟩ := h
  have nd := sc_law.nd
  refine ⟨_, (st_cons (st_set (i := 1) (et_mkTape (ft_call F__law_tape T.m__law_tape T.k__law_tape T.d__law_tape (hr.mono (by decide)) (at_cons (et_v 0) at_nil) (fun h => pe_call F__law_tape (hr.mono (by decide)) rfl T.m__law_tape T.k__law_tape T.d__law_tape .nil pass0 h))) (fun h => ps_set (i := 1) nd rfl (by first | exact Or.inl rfl | exact Or.inr rfl) h))
  (st_cons (st_set (i := 2) (et_call F__law_form T.m__law_form T.k__law_form T.d__law_form (hr.mono (by decide)) (at_cons (et_v 1) (at_cons et_int (at_cons et_int at_nil))) (fun h => pe_call F__law_form (hr.mono (by decide)) rfl T.m__law_form T.k__law_form T.d__law_form .nil pass0 h)) (fun h => ps_set (i := 2) nd rfl (by first | exact Or.inl rfl | exact Or.inr rfl) h))
  (st_cons (st_setF (i := 3) (ft_lc (fr := [none, some 1, some 2]) (N' := ["_law_k", "_law_tape_here", "_law_form_here"]) (it_range (at_cons (et_call F__law_draw T.m__law_draw T.k__law_draw T.d__law_draw (hr.mono (by decide)) (at_cons (et_v 1) (at_cons et_int at_nil)) (fun h => pe_call F__law_draw (hr.mono (by decide)) rfl T.m__law_draw T.k__law_draw T.d__law_draw .nil pass0 h)) at_nil) (fun h => pi_range1 rfl T.b_range h)) (fun b => ⟨(gt_name (pg_name (i := 0) (show List.Nodup (["_law_k", "_law_tape_here", "_law_form_here"] : List Str) from by decide +kernel) rfl (by first | exact Or.inl rfl | exact Or.inr rfl))), if_nil, (et_call F__law_rule T.m__law_rule T.k__law_rule T.d__law_rule (hr.mono (by decide)) (at_cons (et_v 1) (at_cons (et_v 2) at_nil)) (fun h => pe_call F__law_rule (hr.mono (by decide)) rfl T.m__law_rule T.k__law_rule T.d__law_rule .nil pass0 h))⟩) (fun hi hY => pe_lcc (show lcChk _ (defScope (top 43)) ["_law_script", "_law_tape_here", "_law_form_here", "_law_rules", "_law_handed"] ["_law_k", "_law_tape_here", "_law_form_here"] [none, some 1, some 2] = true from by decide +kernel) rfl hi hY)) (fun h => ps_set (i := 3) nd rfl (by first | exact Or.inl rfl | exact Or.inr rfl) h))
  (st_cons (st_if (tt_borrow 3 (tt_cmp (op_in2 hr) o_in2 et_non (et_lc (fr := [none, some 3]) (N' := ["_law_case", "_law_rules"]) (it_val (et_call F__law_cases T.m__law_cases T.k__law_cases T.d__law_cases (hr.mono (by decide)) (at_cons (et_v 2) at_nil) (fun h => pe_call F__law_cases (hr.mono (by decide)) rfl T.m__law_cases T.k__law_cases T.d__law_cases .nil pass0 h))) (fun b => ⟨(gt_name (pg_name (i := 0) (show List.Nodup (["_law_case", "_law_rules"] : List Str) from by decide +kernel) rfl (by first | exact Or.inl rfl | exact Or.inr rfl))), if_nil, (et_call F__law_answer T.m__law_answer T.k__law_answer T.d__law_answer (hr.mono (by decide)) (at_cons (et_v 1) (at_cons (et_v 0) at_nil)) (fun h => pe_call F__law_answer (hr.mono (by decide)) rfl T.m__law_answer T.k__law_answer T.d__law_answer .nil pass0 h))⟩) (fun hi hY => pe_lcc (show lcChk _ (defScope (top 43)) ["_law_script", "_law_tape_here", "_law_form_here", "_law_rules", "_law_handed"] ["_law_case", "_law_rules"] [none, some 3] = true from by decide +kernel) rfl hi hY))))
  (st_one (st_app (i := 3) (pv 3) (et_tup (at_cons (et_call F__law_whole T.m__law_whole T.k__law_whole T.d__law_whole (hr.mono (by decide)) (at_cons (et_v 2) at_nil) (fun h => pe_call F__law_whole (hr.mono (by decide)) rfl T.m__law_whole T.k__law_whole T.d__law_whole .nil pass0 h)) (at_cons (et_ix ix_seq o_ix (et_ix ix_seq o_ix (et_v 2) et_int) (et_call F__law_draw T.m__law_draw T.k__law_draw T.d__law_draw (hr.mono (by decide)) (at_cons (et_v 1) (at_cons (et_cb c_len (at_cons (et_ix ix_seq o_ix (et_v 2) et_int) at_nil) (fun h => pe_callB call_lenAny rfl T.b_len bl_len h)) at_nil)) (fun h => pe_call F__law_draw (hr.mono (by decide)) rfl T.m__law_draw T.k__law_draw T.d__law_draw .nil pass0 h))) at_nil))) (pb := fun h => ps_expr (pe_bm PySem.F.plainAttrs_list PySem.F.slot_list_append PySem.F.type_list_append mt_append (pv 3) h))))
  st_nil)
  (st_cons (st_set (i := 4) (et_listOwn (i := 3) (pv 3) (pc := fun h => pe_callTy call_list_of rfl T.b_list bl_list h)) (fun h => ps_set (i := 4) nd rfl (by first | exact Or.inl rfl | exact Or.inr rfl) h))
  (st_share 3 (st_cons (st_if (tw_pt (tw_or (tt_not (tt_val (et_call F__law_right T.m__law_right T.k__law_right T.d__law_right (hr.mono (by decide)) (at_cons (et_v 2) (at_cons (et_v 3) (at_cons (et_call F_tree_of T.m_tree_of T.k_tree_of T.d_tree_of (hr.mono (by decide)) (at_cons (et_v 2) (at_cons (et_v 4) at_nil)) (fun h => pe_call F_tree_of (hr.mono (by decide)) rfl T.m_tree_of T.k_tree_of T.d_tree_of .nil pass0 h)) at_nil))) (fun h => pe_call F__law_right (hr.mono (by decide)) rfl T.m__law_right T.k__law_right T.d__law_right .nil pass0 h)) (fun h => pt_val h))) (tw_or1 (tt_cmp (op_neD hr) o_data (et_v 4) (et_v 3)))))
  (st_one (st_ret et_bl))
  st_nil)
  (st_one (st_ret (et_and (et_call F__law_right T.m__law_right T.k__law_right T.d__law_right (hr.mono (by decide)) (at_cons (et_v 2) (at_cons (et_v 3) (at_cons (et_call F_tree_of T.m_tree_of T.k_tree_of T.d_tree_of (hr.mono (by decide)) (at_cons (et_v 2) (at_cons (et_v 4) at_nil)) (fun h => pe_call F_tree_of (hr.mono (by decide)) rfl T.m_tree_of T.k_tree_of T.d_tree_of .nil pass0 h)) at_nil))) (fun h => pe_call F__law_right (hr.mono (by decide)) rfl T.m__law_right T.k__law_right T.d__law_right .nil pass0 h)) (et_one (et_cmp (op_eqD hr) o_data (et_v 4) (et_v 3))))))))))))), ?_⟩
  show sSeq _ _ _ [.val (.list (ns.map PyData.int)), .un, .un, .un, .un]
  refine seq_set (tapeD ns) (fun q hq => ⟨_, rfl, ns, rfl, hl, fun c hc => ⟨ns, c, rfl, hc, hq⟩⟩) ?_
  refine seq_setR (fun d => ∃ fs an, Form fs an ∧ Small fs ∧ d = frmD fs an) (fun q hq => ⟨_, rfl, ns, 3, 4, rfl, hl, by decide, by decide, by decide, by decide, fun fs an F h3 h5 => hq _ ⟨fs, an, F, ⟨h3, h5⟩, rfl⟩⟩) ?_
  rintro _ ⟨fs, an, F, S, rfl⟩
  obtain ⟨p1, p2⟩ := many_le S
  refine (show fLc [none, some 1, some 2] _ (gN 0) cTrue (eCall sp__law_rule (aCons (eVar 1) (aCons (eVar 2) aNil))) _ _ from fLc_of ⟨_, rfl, ns, 7, rfl, hl, by decide, by decide, fun r h0 h1 => ⟨r, rfl, by omega, by omega, ?_⟩⟩)
  refine lc_in (ts := intsTo r.toNat) (te := eCall sp__law_rule (aCons (eVar 1) (aCons (eVar 2) aNil))) (fun _ _ y => ∃ r, RuleG fs an r ∧ y = ruleD r) (by rw [intsTo_len]; omega) (fun k x q hx hq => ⟨_, rfl, _, rfl, ns, fs, an, rfl, hl, F, fun r hr => hq _ ⟨r, hr, rfl⟩⟩) fun ys hyl hy => ?_
  obtain ⟨rs, hR, rfl⟩ := rules_of (fs := fs) (an := an) (ys := ys) fun y hyy => by
    obtain ⟨i, hi⟩ := List.getElem?_of_mem hyy
    have hil := (List.getElem?_eq_some_iff.mp hi).1
    exact hy i _ y (List.getElem?_eq_getElem (by omega)) hi
  have hrl : rs.length ≤ 8 := by rw [List.length_map, intsTo_len] at hyl; omega
  have hlay : ∀ {rs : List (List (List D) × Str)}, (∀ r ∈ rs, RuleG fs an r) → Cd (.list (rs.map ruleD)) := fun hR => by
    obtain ⟨_, _, _, _, b5, b6⟩ := th_all (n := 612) (m := 3) fun t ht => by
      obtain ⟨r, hr, rfl⟩ := List.mem_map.mp ht
      exact (rule_th F (hR r hr)).2.2
    exact ⟨b6, by show _ + 1 ≤ 60; omega⟩
  unfold asL
  dsimp only
  show sSeq _ _ _ [.val (.list (ns.map PyData.int)), .val (tapeD ns), .val (frmD fs an), .own (rs.map ruleD), .un]
  refine seq_ifN (fun b => b = false → AllAns fs rs) (fun σ' => ∃ qs : List (List (List D) × Str), σ' = [.val (.list (ns.map PyData.int)), .val (tapeD ns), .val (frmD fs an), .own (qs.map ruleD), .un] ∧ (∀ r ∈ qs, RuleG fs an r) ∧ AllAns fs qs ∧ qs.length ≤ 9) (fun q hq => ?_) (fun _ DT' hn => ?_) (fun hA => ⟨rs, rfl, hR, hA rfl, by omega⟩) ?_
  · refine ⟨_, rfl, ?_⟩
    dsimp only [cTest, eOp, eC]
    refine lcx_map (ts := (prodF (fs.map entD)).map PyData.tuple) (fun R h => ⟨_, rfl, fs, an, rfl, F, S, _, rfl, h⟩) (ansX rs) (by rw [List.length_map]; omega) (fun x q hx hq => ?_) ?_
    · obtain ⟨c, hcm, rfl⟩ := List.mem_map.mp hx
      exact ⟨_, rfl, _, rfl, fs, an, rs, c, rfl, F, fun r hr => (hR r hr).1, lets_case (LetsOk.whole fs) ((mem_prod _ c).mp hcm), hq⟩
    · have hE : ∀ x ∈ ((prodF (fs.map entD)).map PyData.tuple).map (ansX rs), Ent x := fun x hx => by
        obtain ⟨y, hy, rfl⟩ := List.mem_map.mp hx
        obtain ⟨c, hcm, rfl⟩ := List.mem_map.mp hy
        show Ent (ansD (rs.find? (fun r => InL r.1 c)))
        cases hf : rs.find? (fun r => InL r.1 c) with
        | none => exact .inl rfl
        | some r => exact .inr ⟨r.2, F.an.2.1 _ (hR r (List.mem_of_find?_eq_some hf)).2.2, rfl⟩
      refine fIn2_lst (okIn_ent (.inl rfl) hE).1 (hq _ fun hb => ?_)
      have hb : ((((prodF (fs.map entD)).map PyData.tuple).map (ansX rs)).any fun z => PyData.eqv z PyData.none) = false := hb
      rw [any_ent (.inl rfl) hE] at hb
      have hno := of_decide_eq_false hb
      intro c hcm z
      refine hno (List.mem_map.mpr ⟨.tuple c, List.mem_map.mpr ⟨c, hcm, rfl⟩, ?_⟩)
      show ansD (rs.find? (fun r => InL r.1 c)) = .none
      rw [z]; rfl
  · refine ⟨rs.map ruleD, rfl, _, rfl, fs, an, rfl, F, _, rfl, _, rfl, _, rfl, _, rfl, _, rfl, ns, (an.length : Int), by rw [List.length_map], hl, by have := F.a2; omega, by have := F.a4; omega, fun i h0 h1 => ?_⟩
    obtain ⟨t, hm, ha, _⟩ := atI_in (xs := an.map PyData.str) (i := i) h0 (by rw [List.length_map]; exact h1)
    obtain ⟨a, haa, rfl⟩ := List.mem_map.mp hm
    refine ⟨_, ha, (Nat.le_of_ble_eq_true rfl), by rw [List.length_map]; omega, hn _ ⟨rs ++ [(fs.map entD, a)], by rw [List.map_append]; rfl, fun r hr => ?_, all_snoc rs a, by rw [List.length_append]; show _ + 1 ≤ 9; omega⟩⟩
    rcases List.mem_append.mp hr with hr | hr
    · exact hR r hr
    · rw [List.mem_singleton.mp hr]
      exact ⟨LetsOk.whole fs, nil_whole fs, haa⟩
  rintro _ ⟨qs, rfl, hR2, hA2, hl2⟩
  have hsp : ∀ r ∈ qs, LetsOk fs r.1 ∧ r.2 ∈ an := fun r hr => ⟨(hR2 r hr).1, (hR2 r hr).2.2⟩
  refine seq_set (.list (qs.map ruleD)) (fun q hq => ⟨_, rfl, hq⟩) ?_
  refine ⟨_, rfl, ?_⟩
  have eqq : PyData.eqv (.list (qs.map ruleD)) (.list (qs.map ruleD)) = true := PySem.SeqAt.eqv_refl _ (hlay hR2).lay
  refine seq_if (fun b => b = false) (fun q hq => ⟨_, rfl, _, rfl, _, rfl, _, rfl, fs, an, qs, rfl, F, S, hsp, hA2, fun t ht => ⟨fs, an, qs, t, rfl, F, S, fun r hr => (hsp r hr).1, hA2, ht, ?_⟩⟩) (fun hT => by cases hT) fun _ => ?_
  · show (if (!true) = true then q true else _)
    rw [if_neg (by decide)]
    refine ⟨_, rfl, _, rfl, okEq_of (hlay hR2) (hlay hR2), hq _ ?_⟩
    show (!PyData.eqv (.list (qs.map ruleD)) (.list (qs.map ruleD))) = false
    rw [eqq]; rfl
  try unfold sNext
  dsimp only
  refine ⟨_, rfl, _, rfl, _, rfl, _, rfl, fs, an, qs, rfl, F, S, hsp, hA2, fun t ht => ⟨fs, an, qs, t, rfl, F, S, fun r hr => (hsp r hr).1, hA2, ht, ?_⟩⟩
  show (if true = true then _ else _)
  rw [if_pos rfl]
  refine ⟨_, rfl, _, rfl, okEq_of (hlay hR2) (hlay hR2), ?_⟩
  show Q (.bool (PyData.eqv (.list (qs.map ruleD)) (.list (qs.map ruleD))))
  rw [eqq]; exact h

theorem len1 {α : Type} {P : List α → Prop} (h : ∀ a0, P [a0]) : ∀ us : List α, us.length = 1 → P us
  | [a0], _ => h a0
theorem len2 {α : Type} {P : List α → Prop} (h : ∀ a0 a1, P [a0, a1]) : ∀ us : List α, us.length = 2 → P us
  | [a0, a1], _ => h a0 a1
theorem len3 {α : Type} {P : List α → Prop} (h : ∀ a0 a1 a2, P [a0, a1, a2]) : ∀ us : List α, us.length = 3 → P us
  | [a0, a1, a2], _ => h a0 a1 a2
theorem len4 {α : Type} {P : List α → Prop} (h : ∀ a0 a1 a2 a3, P [a0, a1, a2, a3]) : ∀ us : List α, us.length = 4 → P us
  | [a0, a1, a2, a3], _ => h a0 a1 a2 a3
set_option maxHeartbeats 4000000 in
theorem all_mk {l : PySem.W.OpenLaw} {w : World} {K : PySem.W.Frag} {h : Heap} {mg : Str → Option Value} {fa : Addr} (X : K.In h) (G : h.Ns mainGlobals mg) (hfa : mg "law" = some (.ref fa))
    {f_side_of : Addr} {od_side_of an_side_of : Option Addr} {sl_side_of : Array (Option Value)} {oc_side_of kV_side_of dc_side_of pm_side_of cd_side_of ct_side_of : Value}
    (a_side_of : PySem.W.nsIn K mainGlobals "side_of" = some (some (.ref f_side_of))) (l_side_of : K.lookup f_side_of = some ⟨oc_side_of, od_side_of, .func (PySem.W.fnOf "side_of" "side_of" (defArgs (top 1)) (defBody (top 1)) (defScope (top 1)) .none kV_side_of dc_side_of pm_side_of an_side_of cd_side_of ct_side_of), sl_side_of⟩) (c_side_of : PySem.W.codeIn K cd_side_of "side_of" = true) (k_side_of : PySem.W.keepIn K (.ref f_side_of) = true)
    {f_field_asked : Addr} {od_field_asked an_field_asked : Option Addr} {sl_field_asked : Array (Option Value)} {oc_field_asked kV_field_asked dc_field_asked pm_field_asked cd_field_asked ct_field_asked : Value}
    (a_field_asked : PySem.W.nsIn K mainGlobals "field_asked" = some (some (.ref f_field_asked))) (l_field_asked : K.lookup f_field_asked = some ⟨oc_field_asked, od_field_asked, .func (PySem.W.fnOf "field_asked" "field_asked" (defArgs (top 2)) (defBody (top 2)) (defScope (top 2)) .none kV_field_asked dc_field_asked pm_field_asked an_field_asked cd_field_asked ct_field_asked), sl_field_asked⟩) (c_field_asked : PySem.W.codeIn K cd_field_asked "field_asked" = true) (k_field_asked : PySem.W.keepIn K (.ref f_field_asked) = true)
    {f_entries_to_yes : Addr} {od_entries_to_yes an_entries_to_yes : Option Addr} {sl_entries_to_yes : Array (Option Value)} {oc_entries_to_yes kV_entries_to_yes dc_entries_to_yes pm_entries_to_yes cd_entries_to_yes ct_entries_to_yes : Value}
    (a_entries_to_yes : PySem.W.nsIn K mainGlobals "entries_to_yes" = some (some (.ref f_entries_to_yes))) (l_entries_to_yes : K.lookup f_entries_to_yes = some ⟨oc_entries_to_yes, od_entries_to_yes, .func (PySem.W.fnOf "entries_to_yes" "entries_to_yes" (defArgs (top 3)) (defBody (top 3)) (defScope (top 3)) .none kV_entries_to_yes dc_entries_to_yes pm_entries_to_yes an_entries_to_yes cd_entries_to_yes ct_entries_to_yes), sl_entries_to_yes⟩) (c_entries_to_yes : PySem.W.codeIn K cd_entries_to_yes "entries_to_yes" = true) (k_entries_to_yes : PySem.W.keepIn K (.ref f_entries_to_yes) = true)
    {f_values_held : Addr} {od_values_held an_values_held : Option Addr} {sl_values_held : Array (Option Value)} {oc_values_held kV_values_held dc_values_held pm_values_held cd_values_held ct_values_held : Value}
    (a_values_held : PySem.W.nsIn K mainGlobals "values_held" = some (some (.ref f_values_held))) (l_values_held : K.lookup f_values_held = some ⟨oc_values_held, od_values_held, .func (PySem.W.fnOf "values_held" "values_held" (defArgs (top 4)) (defBody (top 4)) (defScope (top 4)) .none kV_values_held dc_values_held pm_values_held an_values_held cd_values_held ct_values_held), sl_values_held⟩) (c_values_held : PySem.W.codeIn K cd_values_held "values_held" = true) (k_values_held : PySem.W.keepIn K (.ref f_values_held) = true)
    {f_parted : Addr} {od_parted an_parted : Option Addr} {sl_parted : Array (Option Value)} {oc_parted kV_parted dc_parted pm_parted cd_parted ct_parted : Value}
    (a_parted : PySem.W.nsIn K mainGlobals "parted" = some (some (.ref f_parted))) (l_parted : K.lookup f_parted = some ⟨oc_parted, od_parted, .func (PySem.W.fnOf "parted" "parted" (defArgs (top 5)) (defBody (top 5)) (defScope (top 5)) .none kV_parted dc_parted pm_parted an_parted cd_parted ct_parted), sl_parted⟩) (c_parted : PySem.W.codeIn K cd_parted "parted" = true) (k_parted : PySem.W.keepIn K (.ref f_parted) = true)
    {f_numbers_on : Addr} {od_numbers_on an_numbers_on : Option Addr} {sl_numbers_on : Array (Option Value)} {oc_numbers_on kV_numbers_on dc_numbers_on pm_numbers_on cd_numbers_on ct_numbers_on : Value}
    (a_numbers_on : PySem.W.nsIn K mainGlobals "numbers_on" = some (some (.ref f_numbers_on))) (l_numbers_on : K.lookup f_numbers_on = some ⟨oc_numbers_on, od_numbers_on, .func (PySem.W.fnOf "numbers_on" "numbers_on" (defArgs (top 6)) (defBody (top 6)) (defScope (top 6)) .none kV_numbers_on dc_numbers_on pm_numbers_on an_numbers_on cd_numbers_on ct_numbers_on), sl_numbers_on⟩) (c_numbers_on : PySem.W.codeIn K cd_numbers_on "numbers_on" = true) (k_numbers_on : PySem.W.keepIn K (.ref f_numbers_on) = true)
    {f_rows_at : Addr} {od_rows_at an_rows_at : Option Addr} {sl_rows_at : Array (Option Value)} {oc_rows_at kV_rows_at dc_rows_at pm_rows_at cd_rows_at ct_rows_at : Value}
    (a_rows_at : PySem.W.nsIn K mainGlobals "rows_at" = some (some (.ref f_rows_at))) (l_rows_at : K.lookup f_rows_at = some ⟨oc_rows_at, od_rows_at, .func (PySem.W.fnOf "rows_at" "rows_at" (defArgs (top 8)) (defBody (top 8)) (defScope (top 8)) .none kV_rows_at dc_rows_at pm_rows_at an_rows_at cd_rows_at ct_rows_at), sl_rows_at⟩) (c_rows_at : PySem.W.codeIn K cd_rows_at "rows_at" = true) (k_rows_at : PySem.W.keepIn K (.ref f_rows_at) = true)
    {f_many_cases : Addr} {od_many_cases an_many_cases : Option Addr} {sl_many_cases : Array (Option Value)} {oc_many_cases kV_many_cases dc_many_cases pm_many_cases cd_many_cases ct_many_cases : Value}
    (a_many_cases : PySem.W.nsIn K mainGlobals "many_cases" = some (some (.ref f_many_cases))) (l_many_cases : K.lookup f_many_cases = some ⟨oc_many_cases, od_many_cases, .func (PySem.W.fnOf "many_cases" "many_cases" (defArgs (top 15)) (defBody (top 15)) (defScope (top 15)) .none kV_many_cases dc_many_cases pm_many_cases an_many_cases cd_many_cases ct_many_cases), sl_many_cases⟩) (c_many_cases : PySem.W.codeIn K cd_many_cases "many_cases" = true) (k_many_cases : PySem.W.keepIn K (.ref f_many_cases) = true)
    {f_all_cases : Addr} {od_all_cases an_all_cases : Option Addr} {sl_all_cases : Array (Option Value)} {oc_all_cases kV_all_cases dc_all_cases pm_all_cases cd_all_cases ct_all_cases : Value}
    (a_all_cases : PySem.W.nsIn K mainGlobals "all_cases" = some (some (.ref f_all_cases))) (l_all_cases : K.lookup f_all_cases = some ⟨oc_all_cases, od_all_cases, .func (PySem.W.fnOf "all_cases" "all_cases" (defArgs (top 16)) (defBody (top 16)) (defScope (top 16)) .none kV_all_cases dc_all_cases pm_all_cases an_all_cases cd_all_cases ct_all_cases), sl_all_cases⟩) (c_all_cases : PySem.W.codeIn K cd_all_cases "all_cases" = true) (k_all_cases : PySem.W.keepIn K (.ref f_all_cases) = true)
    {f_entries_of : Addr} {od_entries_of an_entries_of : Option Addr} {sl_entries_of : Array (Option Value)} {oc_entries_of kV_entries_of dc_entries_of pm_entries_of cd_entries_of ct_entries_of : Value}
    (a_entries_of : PySem.W.nsIn K mainGlobals "entries_of" = some (some (.ref f_entries_of))) (l_entries_of : K.lookup f_entries_of = some ⟨oc_entries_of, od_entries_of, .func (PySem.W.fnOf "entries_of" "entries_of" (defArgs (top 17)) (defBody (top 17)) (defScope (top 17)) .none kV_entries_of dc_entries_of pm_entries_of an_entries_of cd_entries_of ct_entries_of), sl_entries_of⟩) (c_entries_of : PySem.W.codeIn K cd_entries_of "entries_of" = true) (k_entries_of : PySem.W.keepIn K (.ref f_entries_of) = true)
    {f_longer_by : Addr} {od_longer_by an_longer_by : Option Addr} {sl_longer_by : Array (Option Value)} {oc_longer_by kV_longer_by dc_longer_by pm_longer_by cd_longer_by ct_longer_by : Value}
    (a_longer_by : PySem.W.nsIn K mainGlobals "longer_by" = some (some (.ref f_longer_by))) (l_longer_by : K.lookup f_longer_by = some ⟨oc_longer_by, od_longer_by, .func (PySem.W.fnOf "longer_by" "longer_by" (defArgs (top 18)) (defBody (top 18)) (defScope (top 18)) .none kV_longer_by dc_longer_by pm_longer_by an_longer_by cd_longer_by ct_longer_by), sl_longer_by⟩) (c_longer_by : PySem.W.codeIn K cd_longer_by "longer_by" = true) (k_longer_by : PySem.W.keepIn K (.ref f_longer_by) = true)
    {f_fits : Addr} {od_fits an_fits : Option Addr} {sl_fits : Array (Option Value)} {oc_fits kV_fits dc_fits pm_fits cd_fits ct_fits : Value}
    (a_fits : PySem.W.nsIn K mainGlobals "fits" = some (some (.ref f_fits))) (l_fits : K.lookup f_fits = some ⟨oc_fits, od_fits, .func (PySem.W.fnOf "fits" "fits" (defArgs (top 20)) (defBody (top 20)) (defScope (top 20)) .none kV_fits dc_fits pm_fits an_fits cd_fits ct_fits), sl_fits⟩) (c_fits : PySem.W.codeIn K cd_fits "fits" = true) (k_fits : PySem.W.keepIn K (.ref f_fits) = true)
    {f_answered : Addr} {od_answered an_answered : Option Addr} {sl_answered : Array (Option Value)} {oc_answered kV_answered dc_answered pm_answered cd_answered ct_answered : Value}
    (a_answered : PySem.W.nsIn K mainGlobals "answered" = some (some (.ref f_answered))) (l_answered : K.lookup f_answered = some ⟨oc_answered, od_answered, .func (PySem.W.fnOf "answered" "answered" (defArgs (top 21)) (defBody (top 21)) (defScope (top 21)) .none kV_answered dc_answered pm_answered an_answered cd_answered ct_answered), sl_answered⟩) (c_answered : PySem.W.codeIn K cd_answered "answered" = true) (k_answered : PySem.W.keepIn K (.ref f_answered) = true)
    {f_all_answered : Addr} {od_all_answered an_all_answered : Option Addr} {sl_all_answered : Array (Option Value)} {oc_all_answered kV_all_answered dc_all_answered pm_all_answered cd_all_answered ct_all_answered : Value}
    (a_all_answered : PySem.W.nsIn K mainGlobals "all_answered" = some (some (.ref f_all_answered))) (l_all_answered : K.lookup f_all_answered = some ⟨oc_all_answered, od_all_answered, .func (PySem.W.fnOf "all_answered" "all_answered" (defArgs (top 22)) (defBody (top 22)) (defScope (top 22)) .none kV_all_answered dc_all_answered pm_all_answered an_all_answered cd_all_answered ct_all_answered), sl_all_answered⟩) (c_all_answered : PySem.W.codeIn K cd_all_answered "all_answered" = true) (k_all_answered : PySem.W.keepIn K (.ref f_all_answered) = true)
    {f_tree_of : Addr} {od_tree_of an_tree_of : Option Addr} {sl_tree_of : Array (Option Value)} {oc_tree_of kV_tree_of dc_tree_of pm_tree_of cd_tree_of ct_tree_of : Value}
    (a_tree_of : PySem.W.nsIn K mainGlobals "tree_of" = some (some (.ref f_tree_of))) (l_tree_of : K.lookup f_tree_of = some ⟨oc_tree_of, od_tree_of, .func (PySem.W.fnOf "tree_of" "tree_of" (defArgs (top 25)) (defBody (top 25)) (defScope (top 25)) .none kV_tree_of dc_tree_of pm_tree_of an_tree_of cd_tree_of ct_tree_of), sl_tree_of⟩) (c_tree_of : PySem.W.codeIn K cd_tree_of "tree_of" = true) (k_tree_of : PySem.W.keepIn K (.ref f_tree_of) = true)
    {f_tree_for_all : Addr} {od_tree_for_all an_tree_for_all : Option Addr} {sl_tree_for_all : Array (Option Value)} {oc_tree_for_all kV_tree_for_all dc_tree_for_all pm_tree_for_all cd_tree_for_all ct_tree_for_all : Value}
    (a_tree_for_all : PySem.W.nsIn K mainGlobals "tree_for_all" = some (some (.ref f_tree_for_all))) (l_tree_for_all : K.lookup f_tree_for_all = some ⟨oc_tree_for_all, od_tree_for_all, .func (PySem.W.fnOf "tree_for_all" "tree_for_all" (defArgs (top 26)) (defBody (top 26)) (defScope (top 26)) .none kV_tree_for_all dc_tree_for_all pm_tree_for_all an_tree_for_all cd_tree_for_all ct_tree_for_all), sl_tree_for_all⟩) (c_tree_for_all : PySem.W.codeIn K cd_tree_for_all "tree_for_all" = true) (k_tree_for_all : PySem.W.keepIn K (.ref f_tree_for_all) = true)
    {f_first_apart : Addr} {od_first_apart an_first_apart : Option Addr} {sl_first_apart : Array (Option Value)} {oc_first_apart kV_first_apart dc_first_apart pm_first_apart cd_first_apart ct_first_apart : Value}
    (a_first_apart : PySem.W.nsIn K mainGlobals "first_apart" = some (some (.ref f_first_apart))) (l_first_apart : K.lookup f_first_apart = some ⟨oc_first_apart, od_first_apart, .func (PySem.W.fnOf "first_apart" "first_apart" (defArgs (top 27)) (defBody (top 27)) (defScope (top 27)) .none kV_first_apart dc_first_apart pm_first_apart an_first_apart cd_first_apart ct_first_apart), sl_first_apart⟩) (c_first_apart : PySem.W.codeIn K cd_first_apart "first_apart" = true) (k_first_apart : PySem.W.keepIn K (.ref f_first_apart) = true)
    {f__law_tape : Addr} {od__law_tape an__law_tape : Option Addr} {sl__law_tape : Array (Option Value)} {oc__law_tape kV__law_tape dc__law_tape pm__law_tape cd__law_tape ct__law_tape : Value}
    (a__law_tape : PySem.W.nsIn K mainGlobals "_law_tape" = some (some (.ref f__law_tape))) (l__law_tape : K.lookup f__law_tape = some ⟨oc__law_tape, od__law_tape, .func (PySem.W.fnOf "_law_tape" "_law_tape" (defArgs (top 29)) (defBody (top 29)) (defScope (top 29)) .none kV__law_tape dc__law_tape pm__law_tape an__law_tape cd__law_tape ct__law_tape), sl__law_tape⟩) (c__law_tape : PySem.W.codeIn K cd__law_tape "_law_tape" = true) (k__law_tape : PySem.W.keepIn K (.ref f__law_tape) = true)
    {f__law_draw : Addr} {od__law_draw an__law_draw : Option Addr} {sl__law_draw : Array (Option Value)} {oc__law_draw kV__law_draw dc__law_draw pm__law_draw cd__law_draw ct__law_draw : Value}
    (a__law_draw : PySem.W.nsIn K mainGlobals "_law_draw" = some (some (.ref f__law_draw))) (l__law_draw : K.lookup f__law_draw = some ⟨oc__law_draw, od__law_draw, .func (PySem.W.fnOf "_law_draw" "_law_draw" (defArgs (top 30)) (defBody (top 30)) (defScope (top 30)) .none kV__law_draw dc__law_draw pm__law_draw an__law_draw cd__law_draw ct__law_draw), sl__law_draw⟩) (c__law_draw : PySem.W.codeIn K cd__law_draw "_law_draw" = true) (k__law_draw : PySem.W.keepIn K (.ref f__law_draw) = true)
    {f__law_names : Addr} {od__law_names an__law_names : Option Addr} {sl__law_names : Array (Option Value)} {oc__law_names kV__law_names dc__law_names pm__law_names cd__law_names ct__law_names : Value}
    (a__law_names : PySem.W.nsIn K mainGlobals "_law_names" = some (some (.ref f__law_names))) (l__law_names : K.lookup f__law_names = some ⟨oc__law_names, od__law_names, .func (PySem.W.fnOf "_law_names" "_law_names" (defArgs (top 31)) (defBody (top 31)) (defScope (top 31)) .none kV__law_names dc__law_names pm__law_names an__law_names cd__law_names ct__law_names), sl__law_names⟩) (c__law_names : PySem.W.codeIn K cd__law_names "_law_names" = true) (k__law_names : PySem.W.keepIn K (.ref f__law_names) = true)
    {f__law_form : Addr} {od__law_form an__law_form : Option Addr} {sl__law_form : Array (Option Value)} {oc__law_form kV__law_form dc__law_form pm__law_form cd__law_form ct__law_form : Value}
    (a__law_form : PySem.W.nsIn K mainGlobals "_law_form" = some (some (.ref f__law_form))) (l__law_form : K.lookup f__law_form = some ⟨oc__law_form, od__law_form, .func (PySem.W.fnOf "_law_form" "_law_form" (defArgs (top 32)) (defBody (top 32)) (defScope (top 32)) .none kV__law_form dc__law_form pm__law_form an__law_form cd__law_form ct__law_form), sl__law_form⟩) (c__law_form : PySem.W.codeIn K cd__law_form "_law_form" = true) (k__law_form : PySem.W.keepIn K (.ref f__law_form) = true)
    {f__law_whole : Addr} {od__law_whole an__law_whole : Option Addr} {sl__law_whole : Array (Option Value)} {oc__law_whole kV__law_whole dc__law_whole pm__law_whole cd__law_whole ct__law_whole : Value}
    (a__law_whole : PySem.W.nsIn K mainGlobals "_law_whole" = some (some (.ref f__law_whole))) (l__law_whole : K.lookup f__law_whole = some ⟨oc__law_whole, od__law_whole, .func (PySem.W.fnOf "_law_whole" "_law_whole" (defArgs (top 33)) (defBody (top 33)) (defScope (top 33)) .none kV__law_whole dc__law_whole pm__law_whole an__law_whole cd__law_whole ct__law_whole), sl__law_whole⟩) (c__law_whole : PySem.W.codeIn K cd__law_whole "_law_whole" = true) (k__law_whole : PySem.W.keepIn K (.ref f__law_whole) = true)
    {f__law_cases : Addr} {od__law_cases an__law_cases : Option Addr} {sl__law_cases : Array (Option Value)} {oc__law_cases kV__law_cases dc__law_cases pm__law_cases cd__law_cases ct__law_cases : Value}
    (a__law_cases : PySem.W.nsIn K mainGlobals "_law_cases" = some (some (.ref f__law_cases))) (l__law_cases : K.lookup f__law_cases = some ⟨oc__law_cases, od__law_cases, .func (PySem.W.fnOf "_law_cases" "_law_cases" (defArgs (top 34)) (defBody (top 34)) (defScope (top 34)) .none kV__law_cases dc__law_cases pm__law_cases an__law_cases cd__law_cases ct__law_cases), sl__law_cases⟩) (c__law_cases : PySem.W.codeIn K cd__law_cases "_law_cases" = true) (k__law_cases : PySem.W.keepIn K (.ref f__law_cases) = true)
    {f__law_side : Addr} {od__law_side an__law_side : Option Addr} {sl__law_side : Array (Option Value)} {oc__law_side kV__law_side dc__law_side pm__law_side cd__law_side ct__law_side : Value}
    (a__law_side : PySem.W.nsIn K mainGlobals "_law_side" = some (some (.ref f__law_side))) (l__law_side : K.lookup f__law_side = some ⟨oc__law_side, od__law_side, .func (PySem.W.fnOf "_law_side" "_law_side" (defArgs (top 35)) (defBody (top 35)) (defScope (top 35)) .none kV__law_side dc__law_side pm__law_side an__law_side cd__law_side ct__law_side), sl__law_side⟩) (c__law_side : PySem.W.codeIn K cd__law_side "_law_side" = true) (k__law_side : PySem.W.keepIn K (.ref f__law_side) = true)
    {f__law_way : Addr} {od__law_way an__law_way : Option Addr} {sl__law_way : Array (Option Value)} {oc__law_way kV__law_way dc__law_way pm__law_way cd__law_way ct__law_way : Value}
    (a__law_way : PySem.W.nsIn K mainGlobals "_law_way" = some (some (.ref f__law_way))) (l__law_way : K.lookup f__law_way = some ⟨oc__law_way, od__law_way, .func (PySem.W.fnOf "_law_way" "_law_way" (defArgs (top 36)) (defBody (top 36)) (defScope (top 36)) .none kV__law_way dc__law_way pm__law_way an__law_way cd__law_way ct__law_way), sl__law_way⟩) (c__law_way : PySem.W.codeIn K cd__law_way "_law_way" = true) (k__law_way : PySem.W.keepIn K (.ref f__law_way) = true)
    {f__law_part : Addr} {od__law_part an__law_part : Option Addr} {sl__law_part : Array (Option Value)} {oc__law_part kV__law_part dc__law_part pm__law_part cd__law_part ct__law_part : Value}
    (a__law_part : PySem.W.nsIn K mainGlobals "_law_part" = some (some (.ref f__law_part))) (l__law_part : K.lookup f__law_part = some ⟨oc__law_part, od__law_part, .func (PySem.W.fnOf "_law_part" "_law_part" (defArgs (top 37)) (defBody (top 37)) (defScope (top 37)) .none kV__law_part dc__law_part pm__law_part an__law_part cd__law_part ct__law_part), sl__law_part⟩) (c__law_part : PySem.W.codeIn K cd__law_part "_law_part" = true) (k__law_part : PySem.W.keepIn K (.ref f__law_part) = true)
    {f__law_rule : Addr} {od__law_rule an__law_rule : Option Addr} {sl__law_rule : Array (Option Value)} {oc__law_rule kV__law_rule dc__law_rule pm__law_rule cd__law_rule ct__law_rule : Value}
    (a__law_rule : PySem.W.nsIn K mainGlobals "_law_rule" = some (some (.ref f__law_rule))) (l__law_rule : K.lookup f__law_rule = some ⟨oc__law_rule, od__law_rule, .func (PySem.W.fnOf "_law_rule" "_law_rule" (defArgs (top 38)) (defBody (top 38)) (defScope (top 38)) .none kV__law_rule dc__law_rule pm__law_rule an__law_rule cd__law_rule ct__law_rule), sl__law_rule⟩) (c__law_rule : PySem.W.codeIn K cd__law_rule "_law_rule" = true) (k__law_rule : PySem.W.keepIn K (.ref f__law_rule) = true)
    {f__law_fits : Addr} {od__law_fits an__law_fits : Option Addr} {sl__law_fits : Array (Option Value)} {oc__law_fits kV__law_fits dc__law_fits pm__law_fits cd__law_fits ct__law_fits : Value}
    (a__law_fits : PySem.W.nsIn K mainGlobals "_law_fits" = some (some (.ref f__law_fits))) (l__law_fits : K.lookup f__law_fits = some ⟨oc__law_fits, od__law_fits, .func (PySem.W.fnOf "_law_fits" "_law_fits" (defArgs (top 39)) (defBody (top 39)) (defScope (top 39)) .none kV__law_fits dc__law_fits pm__law_fits an__law_fits cd__law_fits ct__law_fits), sl__law_fits⟩) (c__law_fits : PySem.W.codeIn K cd__law_fits "_law_fits" = true) (k__law_fits : PySem.W.keepIn K (.ref f__law_fits) = true)
    {f__law_answer : Addr} {od__law_answer an__law_answer : Option Addr} {sl__law_answer : Array (Option Value)} {oc__law_answer kV__law_answer dc__law_answer pm__law_answer cd__law_answer ct__law_answer : Value}
    (a__law_answer : PySem.W.nsIn K mainGlobals "_law_answer" = some (some (.ref f__law_answer))) (l__law_answer : K.lookup f__law_answer = some ⟨oc__law_answer, od__law_answer, .func (PySem.W.fnOf "_law_answer" "_law_answer" (defArgs (top 40)) (defBody (top 40)) (defScope (top 40)) .none kV__law_answer dc__law_answer pm__law_answer an__law_answer cd__law_answer ct__law_answer), sl__law_answer⟩) (c__law_answer : PySem.W.codeIn K cd__law_answer "_law_answer" = true) (k__law_answer : PySem.W.keepIn K (.ref f__law_answer) = true)
    {f__law_knots : Addr} {od__law_knots an__law_knots : Option Addr} {sl__law_knots : Array (Option Value)} {oc__law_knots kV__law_knots dc__law_knots pm__law_knots cd__law_knots ct__law_knots : Value}
    (a__law_knots : PySem.W.nsIn K mainGlobals "_law_knots" = some (some (.ref f__law_knots))) (l__law_knots : K.lookup f__law_knots = some ⟨oc__law_knots, od__law_knots, .func (PySem.W.fnOf "_law_knots" "_law_knots" (defArgs (top 41)) (defBody (top 41)) (defScope (top 41)) .none kV__law_knots dc__law_knots pm__law_knots an__law_knots cd__law_knots ct__law_knots), sl__law_knots⟩) (c__law_knots : PySem.W.codeIn K cd__law_knots "_law_knots" = true) (k__law_knots : PySem.W.keepIn K (.ref f__law_knots) = true)
    {f__law_right : Addr} {od__law_right an__law_right : Option Addr} {sl__law_right : Array (Option Value)} {oc__law_right kV__law_right dc__law_right pm__law_right cd__law_right ct__law_right : Value}
    (a__law_right : PySem.W.nsIn K mainGlobals "_law_right" = some (some (.ref f__law_right))) (l__law_right : K.lookup f__law_right = some ⟨oc__law_right, od__law_right, .func (PySem.W.fnOf "_law_right" "_law_right" (defArgs (top 42)) (defBody (top 42)) (defScope (top 42)) .none kV__law_right dc__law_right pm__law_right an__law_right cd__law_right ct__law_right), sl__law_right⟩) (c__law_right : PySem.W.codeIn K cd__law_right "_law_right" = true) (k__law_right : PySem.W.keepIn K (.ref f__law_right) = true)
    {f_law : Addr} {od_law an_law : Option Addr} {sl_law : Array (Option Value)} {oc_law kV_law dc_law pm_law cd_law ct_law : Value}
    (a_law : PySem.W.nsIn K mainGlobals "law" = some (some (.ref f_law))) (l_law : K.lookup f_law = some ⟨oc_law, od_law, .func (PySem.W.fnOf "law" "law" (defArgs (top 43)) (defBody (top 43)) (defScope (top 43)) .none kV_law dc_law pm_law an_law cd_law ct_law), sl_law⟩) (c_law : PySem.W.codeIn K cd_law "law" = true) (k_law : PySem.W.keepIn K (.ref f_law) = true)
    {t_MOST_CASES : Tok} (e_MOST_CASES : PySem.W.nsIn K mainGlobals "MOST_CASES" = some (some (.int 2000 t_MOST_CASES)))
    {t_MOST_CASES_BACK : Tok} (e_MOST_CASES_BACK : PySem.W.nsIn K mainGlobals "MOST_CASES_BACK" = some (some (.int 500 t_MOST_CASES_BACK)))
    (z_ValueError : PySem.W.nsIn K mainGlobals "ValueError" = some none)
    (z_all : PySem.W.nsIn K mainGlobals "all" = some none)
    (z_enumerate : PySem.W.nsIn K mainGlobals "enumerate" = some none)
    (z_int : PySem.W.nsIn K mainGlobals "int" = some none)
    (z_isinstance : PySem.W.nsIn K mainGlobals "isinstance" = some none)
    (z_len : PySem.W.nsIn K mainGlobals "len" = some none)
    (z_list : PySem.W.nsIn K mainGlobals "list" = some none)
    (z_range : PySem.W.nsIn K mainGlobals "range" = some none)
    (z_set : PySem.W.nsIn K mainGlobals "set" = some none)
    (z_str : PySem.W.nsIn K mainGlobals "str" = some none)
    (z_tuple : PySem.W.nsIn K mainGlobals "tuple" = some none)
    (z_zip : PySem.W.nsIn K mainGlobals "zip" = some none) :
    ∃ fd : FuncData, (∀ (s : Shared) (v : Value), BindsTo s fd ⟨[v], []⟩ [("_law_script", v)]) ∧ ∀ base : Heap, K.In base → base.Ns mainGlobals mg → FnOk l.prog w K mg base CX0 24 fa fd ["_law_script"] (liftSp K sp_law) := by
  have e := hfa.symm.trans (PySem.W.mg_of X G a_law)
  cases e
  have F_side_of := fun_mk (st := top 1) l_side_of c_side_of k_side_of
  have b_side_of := F_side_of.binds (ps := ["form", "question", "stray", "case"]) fun _ _ _ _ _ _ => len4 fun _ _ _ _ => rfl
  have F_field_asked := fun_mk (st := top 2) l_field_asked c_field_asked k_field_asked
  have b_field_asked := F_field_asked.binds (ps := ["form", "question"]) fun _ _ _ _ _ _ => len2 fun _ _ => rfl
  have F_entries_to_yes := fun_mk (st := top 3) l_entries_to_yes c_entries_to_yes k_entries_to_yes
  have b_entries_to_yes := F_entries_to_yes.binds (ps := ["question", "stray", "field"]) fun _ _ _ _ _ _ => len3 fun _ _ _ => rfl
  have F_values_held := fun_mk (st := top 4) l_values_held c_values_held k_values_held
  have b_values_held := F_values_held.binds (ps := ["question", "field"]) fun _ _ _ _ _ _ => len2 fun _ _ => rfl
  have F_parted := fun_mk (st := top 5) l_parted c_parted k_parted
  have b_parted := F_parted.binds (ps := ["form", "question", "stray", "rows"]) fun _ _ _ _ _ _ => len4 fun _ _ _ _ => rfl
  have F_numbers_on := fun_mk (st := top 6) l_numbers_on c_numbers_on k_numbers_on
  have b_numbers_on := F_numbers_on.binds (ps := ["side", "sides"]) fun _ _ _ _ _ _ => len2 fun _ _ => rfl
  have F_rows_at := fun_mk (st := top 8) l_rows_at c_rows_at k_rows_at
  have b_rows_at := F_rows_at.binds (ps := ["rows", "numbers"]) fun _ _ _ _ _ _ => len2 fun _ _ => rfl
  have F_many_cases := fun_mk (st := top 15) l_many_cases c_many_cases k_many_cases
  have b_many_cases := F_many_cases.binds (ps := ["form"]) fun _ _ _ _ _ _ => len1 fun _ => rfl
  have F_all_cases := fun_mk (st := top 16) l_all_cases c_all_cases k_all_cases
  have b_all_cases := F_all_cases.binds (ps := ["form"]) fun _ _ _ _ _ _ => len1 fun _ => rfl
  have F_entries_of := fun_mk (st := top 17) l_entries_of c_entries_of k_entries_of
  have b_entries_of := F_entries_of.binds (ps := ["field"]) fun _ _ _ _ _ _ => len1 fun _ => rfl
  have F_longer_by := fun_mk (st := top 18) l_longer_by c_longer_by k_longer_by
  have b_longer_by := F_longer_by.binds (ps := ["beginnings", "entries"]) fun _ _ _ _ _ _ => len2 fun _ _ => rfl
  have F_fits := fun_mk (st := top 20) l_fits c_fits k_fits
  have b_fits := F_fits.binds (ps := ["form", "rule", "case"]) fun _ _ _ _ _ _ => len3 fun _ _ _ => rfl
  have F_answered := fun_mk (st := top 21) l_answered c_answered k_answered
  have b_answered := F_answered.binds (ps := ["form", "rules", "case"]) fun _ _ _ _ _ _ => len3 fun _ _ _ => rfl
  have F_all_answered := fun_mk (st := top 22) l_all_answered c_all_answered k_all_answered
  have b_all_answered := F_all_answered.binds (ps := ["form", "rules", "most"]) fun _ _ _ _ _ _ => len3 fun _ _ _ => rfl
  have F_tree_of := fun_mk (st := top 25) l_tree_of c_tree_of k_tree_of
  have b_tree_of := F_tree_of.binds (ps := ["form", "rules"]) fun _ _ _ _ _ _ => len2 fun _ _ => rfl
  have F_tree_for_all := fun_mk (st := top 26) l_tree_for_all c_tree_for_all k_tree_for_all
  have b_tree_for_all := F_tree_for_all.binds (ps := ["form", "rows"]) fun _ _ _ _ _ _ => len2 fun _ _ => rfl
  have F_first_apart := fun_mk (st := top 27) l_first_apart c_first_apart k_first_apart
  have b_first_apart := F_first_apart.binds (ps := ["form", "rows"]) fun _ _ _ _ _ _ => len2 fun _ _ => rfl
  have F__law_tape := fun_mk (st := top 29) l__law_tape c__law_tape k__law_tape
  have b__law_tape := F__law_tape.binds (ps := ["_law_script"]) fun _ _ _ _ _ _ => len1 fun _ => rfl
  have F__law_draw := fun_mk (st := top 30) l__law_draw c__law_draw k__law_draw
  have b__law_draw := F__law_draw.binds (ps := ["_law_tape_here", "_law_many"]) fun _ _ _ _ _ _ => len2 fun _ _ => rfl
  have F__law_names := fun_mk (st := top 31) l__law_names c__law_names k__law_names
  have b__law_names := F__law_names.binds (ps := ["_law_tape_here", "_law_many"]) fun _ _ _ _ _ _ => len2 fun _ _ => rfl
  have F__law_form := fun_mk (st := top 32) l__law_form c__law_form k__law_form
  have b__law_form := F__law_form.binds (ps := ["_law_tape_here", "_law_fields", "_law_values"]) fun _ _ _ _ _ _ => len3 fun _ _ _ => rfl
  have F__law_whole := fun_mk (st := top 33) l__law_whole c__law_whole k__law_whole
  have b__law_whole := F__law_whole.binds (ps := ["_law_form_here"]) fun _ _ _ _ _ _ => len1 fun _ => rfl
  have F__law_cases := fun_mk (st := top 34) l__law_cases c__law_cases k__law_cases
  have b__law_cases := F__law_cases.binds (ps := ["_law_form_here"]) fun _ _ _ _ _ _ => len1 fun _ => rfl
  have F__law_side := fun_mk (st := top 35) l__law_side c__law_side k__law_side
  have b__law_side := F__law_side.binds (ps := ["_law_form_here", "_law_knot", "_law_case"]) fun _ _ _ _ _ _ => len3 fun _ _ _ => rfl
  have F__law_way := fun_mk (st := top 36) l__law_way c__law_way k__law_way
  have b__law_way := F__law_way.binds (ps := ["_law_form_here", "_law_tree", "_law_case"]) fun _ _ _ _ _ _ => len3 fun _ _ _ => rfl
  have F__law_part := fun_mk (st := top 37) l__law_part c__law_part k__law_part
  have b__law_part := F__law_part.binds (ps := ["_law_tape_here", "_law_values"]) fun _ _ _ _ _ _ => len2 fun _ _ => rfl
  have F__law_rule := fun_mk (st := top 38) l__law_rule c__law_rule k__law_rule
  have b__law_rule := F__law_rule.binds (ps := ["_law_tape_here", "_law_form_here"]) fun _ _ _ _ _ _ => len2 fun _ _ => rfl
  have F__law_fits := fun_mk (st := top 39) l__law_fits c__law_fits k__law_fits
  have b__law_fits := F__law_fits.binds (ps := ["_law_rule_here", "_law_case"]) fun _ _ _ _ _ _ => len2 fun _ _ => rfl
  have F__law_answer := fun_mk (st := top 40) l__law_answer c__law_answer k__law_answer
  have b__law_answer := F__law_answer.binds (ps := ["_law_rules", "_law_case"]) fun _ _ _ _ _ _ => len2 fun _ _ => rfl
  have F__law_knots := fun_mk (st := top 41) l__law_knots c__law_knots k__law_knots
  have b__law_knots := F__law_knots.binds (ps := ["_law_form_here", "_law_tree", "_law_deep"]) fun _ _ _ _ _ _ => len3 fun _ _ _ => rfl
  have F__law_right := fun_mk (st := top 42) l__law_right c__law_right k__law_right
  have b__law_right := F__law_right.binds (ps := ["_law_form_here", "_law_rules", "_law_tree"]) fun _ _ _ _ _ _ => len3 fun _ _ _ => rfl
  have F_law := fun_mk (st := top 43) l_law c_law k_law
  have b_law := F_law.binds (ps := ["_law_script"]) fun _ _ _ _ _ _ => len1 fun _ => rfl
  have T : Txt K mg { a_side_of := f_side_of, f_side_of := PySem.W.fnOf "side_of" "side_of" (defArgs (top 1)) (defBody (top 1)) (defScope (top 1)) .none kV_side_of dc_side_of pm_side_of an_side_of cd_side_of ct_side_of, a_field_asked := f_field_asked, f_field_asked := PySem.W.fnOf "field_asked" "field_asked" (defArgs (top 2)) (defBody (top 2)) (defScope (top 2)) .none kV_field_asked dc_field_asked pm_field_asked an_field_asked cd_field_asked ct_field_asked, a_entries_to_yes := f_entries_to_yes, f_entries_to_yes := PySem.W.fnOf "entries_to_yes" "entries_to_yes" (defArgs (top 3)) (defBody (top 3)) (defScope (top 3)) .none kV_entries_to_yes dc_entries_to_yes pm_entries_to_yes an_entries_to_yes cd_entries_to_yes ct_entries_to_yes, a_values_held := f_values_held, f_values_held := PySem.W.fnOf "values_held" "values_held" (defArgs (top 4)) (defBody (top 4)) (defScope (top 4)) .none kV_values_held dc_values_held pm_values_held an_values_held cd_values_held ct_values_held, a_parted := f_parted, f_parted := PySem.W.fnOf "parted" "parted" (defArgs (top 5)) (defBody (top 5)) (defScope (top 5)) .none kV_parted dc_parted pm_parted an_parted cd_parted ct_parted, a_numbers_on := f_numbers_on, f_numbers_on := PySem.W.fnOf "numbers_on" "numbers_on" (defArgs (top 6)) (defBody (top 6)) (defScope (top 6)) .none kV_numbers_on dc_numbers_on pm_numbers_on an_numbers_on cd_numbers_on ct_numbers_on, a_rows_at := f_rows_at, f_rows_at := PySem.W.fnOf "rows_at" "rows_at" (defArgs (top 8)) (defBody (top 8)) (defScope (top 8)) .none kV_rows_at dc_rows_at pm_rows_at an_rows_at cd_rows_at ct_rows_at, a_many_cases := f_many_cases, f_many_cases := PySem.W.fnOf "many_cases" "many_cases" (defArgs (top 15)) (defBody (top 15)) (defScope (top 15)) .none kV_many_cases dc_many_cases pm_many_cases an_many_cases cd_many_cases ct_many_cases, a_all_cases := f_all_cases, f_all_cases := PySem.W.fnOf "all_cases" "all_cases" (defArgs (top 16)) (defBody (top 16)) (defScope (top 16)) .none kV_all_cases dc_all_cases pm_all_cases an_all_cases cd_all_cases ct_all_cases, a_entries_of := f_entries_of, f_entries_of := PySem.W.fnOf "entries_of" "entries_of" (defArgs (top 17)) (defBody (top 17)) (defScope (top 17)) .none kV_entries_of dc_entries_of pm_entries_of an_entries_of cd_entries_of ct_entries_of, a_longer_by := f_longer_by, f_longer_by := PySem.W.fnOf "longer_by" "longer_by" (defArgs (top 18)) (defBody (top 18)) (defScope (top 18)) .none kV_longer_by dc_longer_by pm_longer_by an_longer_by cd_longer_by ct_longer_by, a_fits := f_fits, f_fits := PySem.W.fnOf "fits" "fits" (defArgs (top 20)) (defBody (top 20)) (defScope (top 20)) .none kV_fits dc_fits pm_fits an_fits cd_fits ct_fits, a_answered := f_answered, f_answered := PySem.W.fnOf "answered" "answered" (defArgs (top 21)) (defBody (top 21)) (defScope (top 21)) .none kV_answered dc_answered pm_answered an_answered cd_answered ct_answered, a_all_answered := f_all_answered, f_all_answered := PySem.W.fnOf "all_answered" "all_answered" (defArgs (top 22)) (defBody (top 22)) (defScope (top 22)) .none kV_all_answered dc_all_answered pm_all_answered an_all_answered cd_all_answered ct_all_answered, a_tree_of := f_tree_of, f_tree_of := PySem.W.fnOf "tree_of" "tree_of" (defArgs (top 25)) (defBody (top 25)) (defScope (top 25)) .none kV_tree_of dc_tree_of pm_tree_of an_tree_of cd_tree_of ct_tree_of, a_tree_for_all := f_tree_for_all, f_tree_for_all := PySem.W.fnOf "tree_for_all" "tree_for_all" (defArgs (top 26)) (defBody (top 26)) (defScope (top 26)) .none kV_tree_for_all dc_tree_for_all pm_tree_for_all an_tree_for_all cd_tree_for_all ct_tree_for_all, a_first_apart := f_first_apart, f_first_apart := PySem.W.fnOf "first_apart" "first_apart" (defArgs (top 27)) (defBody (top 27)) (defScope (top 27)) .none kV_first_apart dc_first_apart pm_first_apart an_first_apart cd_first_apart ct_first_apart, a__law_tape := f__law_tape, f__law_tape := PySem.W.fnOf "_law_tape" "_law_tape" (defArgs (top 29)) (defBody (top 29)) (defScope (top 29)) .none kV__law_tape dc__law_tape pm__law_tape an__law_tape cd__law_tape ct__law_tape, a__law_draw := f__law_draw, f__law_draw := PySem.W.fnOf "_law_draw" "_law_draw" (defArgs (top 30)) (defBody (top 30)) (defScope (top 30)) .none kV__law_draw dc__law_draw pm__law_draw an__law_draw cd__law_draw ct__law_draw, a__law_names := f__law_names, f__law_names := PySem.W.fnOf "_law_names" "_law_names" (defArgs (top 31)) (defBody (top 31)) (defScope (top 31)) .none kV__law_names dc__law_names pm__law_names an__law_names cd__law_names ct__law_names, a__law_form := f__law_form, f__law_form := PySem.W.fnOf "_law_form" "_law_form" (defArgs (top 32)) (defBody (top 32)) (defScope (top 32)) .none kV__law_form dc__law_form pm__law_form an__law_form cd__law_form ct__law_form, a__law_whole := f__law_whole, f__law_whole := PySem.W.fnOf "_law_whole" "_law_whole" (defArgs (top 33)) (defBody (top 33)) (defScope (top 33)) .none kV__law_whole dc__law_whole pm__law_whole an__law_whole cd__law_whole ct__law_whole, a__law_cases := f__law_cases, f__law_cases := PySem.W.fnOf "_law_cases" "_law_cases" (defArgs (top 34)) (defBody (top 34)) (defScope (top 34)) .none kV__law_cases dc__law_cases pm__law_cases an__law_cases cd__law_cases ct__law_cases, a__law_side := f__law_side, f__law_side := PySem.W.fnOf "_law_side" "_law_side" (defArgs (top 35)) (defBody (top 35)) (defScope (top 35)) .none kV__law_side dc__law_side pm__law_side an__law_side cd__law_side ct__law_side, a__law_way := f__law_way, f__law_way := PySem.W.fnOf "_law_way" "_law_way" (defArgs (top 36)) (defBody (top 36)) (defScope (top 36)) .none kV__law_way dc__law_way pm__law_way an__law_way cd__law_way ct__law_way, a__law_part := f__law_part, f__law_part := PySem.W.fnOf "_law_part" "_law_part" (defArgs (top 37)) (defBody (top 37)) (defScope (top 37)) .none kV__law_part dc__law_part pm__law_part an__law_part cd__law_part ct__law_part, a__law_rule := f__law_rule, f__law_rule := PySem.W.fnOf "_law_rule" "_law_rule" (defArgs (top 38)) (defBody (top 38)) (defScope (top 38)) .none kV__law_rule dc__law_rule pm__law_rule an__law_rule cd__law_rule ct__law_rule, a__law_fits := f__law_fits, f__law_fits := PySem.W.fnOf "_law_fits" "_law_fits" (defArgs (top 39)) (defBody (top 39)) (defScope (top 39)) .none kV__law_fits dc__law_fits pm__law_fits an__law_fits cd__law_fits ct__law_fits, a__law_answer := f__law_answer, f__law_answer := PySem.W.fnOf "_law_answer" "_law_answer" (defArgs (top 40)) (defBody (top 40)) (defScope (top 40)) .none kV__law_answer dc__law_answer pm__law_answer an__law_answer cd__law_answer ct__law_answer, a__law_knots := f__law_knots, f__law_knots := PySem.W.fnOf "_law_knots" "_law_knots" (defArgs (top 41)) (defBody (top 41)) (defScope (top 41)) .none kV__law_knots dc__law_knots pm__law_knots an__law_knots cd__law_knots ct__law_knots, a__law_right := f__law_right, f__law_right := PySem.W.fnOf "_law_right" "_law_right" (defArgs (top 42)) (defBody (top 42)) (defScope (top 42)) .none kV__law_right dc__law_right pm__law_right an__law_right cd__law_right ct__law_right, a_law := fa, f_law := PySem.W.fnOf "law" "law" (defArgs (top 43)) (defBody (top 43)) (defScope (top 43)) .none kV_law dc_law pm_law an_law cd_law ct_law, t_MOST_CASES := t_MOST_CASES, t_MOST_CASES_BACK := t_MOST_CASES_BACK } := { m_side_of := PySem.W.mg_of X G a_side_of, k_side_of := k_side_of, F_side_of := F_side_of, d_side_of := b_side_of, m_field_asked := PySem.W.mg_of X G a_field_asked, k_field_asked := k_field_asked, F_field_asked := F_field_asked, d_field_asked := b_field_asked, m_entries_to_yes := PySem.W.mg_of X G a_entries_to_yes, k_entries_to_yes := k_entries_to_yes, F_entries_to_yes := F_entries_to_yes, d_entries_to_yes := b_entries_to_yes, m_values_held := PySem.W.mg_of X G a_values_held, k_values_held := k_values_held, F_values_held := F_values_held, d_values_held := b_values_held, m_parted := PySem.W.mg_of X G a_parted, k_parted := k_parted, F_parted := F_parted, d_parted := b_parted, m_numbers_on := PySem.W.mg_of X G a_numbers_on, k_numbers_on := k_numbers_on, F_numbers_on := F_numbers_on, d_numbers_on := b_numbers_on, m_rows_at := PySem.W.mg_of X G a_rows_at, k_rows_at := k_rows_at, F_rows_at := F_rows_at, d_rows_at := b_rows_at, m_many_cases := PySem.W.mg_of X G a_many_cases, k_many_cases := k_many_cases, F_many_cases := F_many_cases, d_many_cases := b_many_cases, m_all_cases := PySem.W.mg_of X G a_all_cases, k_all_cases := k_all_cases, F_all_cases := F_all_cases, d_all_cases := b_all_cases, m_entries_of := PySem.W.mg_of X G a_entries_of, k_entries_of := k_entries_of, F_entries_of := F_entries_of, d_entries_of := b_entries_of, m_longer_by := PySem.W.mg_of X G a_longer_by, k_longer_by := k_longer_by, F_longer_by := F_longer_by, d_longer_by := b_longer_by, m_fits := PySem.W.mg_of X G a_fits, k_fits := k_fits, F_fits := F_fits, d_fits := b_fits, m_answered := PySem.W.mg_of X G a_answered, k_answered := k_answered, F_answered := F_answered, d_answered := b_answered, m_all_answered := PySem.W.mg_of X G a_all_answered, k_all_answered := k_all_answered, F_all_answered := F_all_answered, d_all_answered := b_all_answered, m_tree_of := PySem.W.mg_of X G a_tree_of, k_tree_of := k_tree_of, F_tree_of := F_tree_of, d_tree_of := b_tree_of, m_tree_for_all := PySem.W.mg_of X G a_tree_for_all, k_tree_for_all := k_tree_for_all, F_tree_for_all := F_tree_for_all, d_tree_for_all := b_tree_for_all, m_first_apart := PySem.W.mg_of X G a_first_apart, k_first_apart := k_first_apart, F_first_apart := F_first_apart, d_first_apart := b_first_apart, m__law_tape := PySem.W.mg_of X G a__law_tape, k__law_tape := k__law_tape, F__law_tape := F__law_tape, d__law_tape := b__law_tape, m__law_draw := PySem.W.mg_of X G a__law_draw, k__law_draw := k__law_draw, F__law_draw := F__law_draw, d__law_draw := b__law_draw, m__law_names := PySem.W.mg_of X G a__law_names, k__law_names := k__law_names, F__law_names := F__law_names, d__law_names := b__law_names, m__law_form := PySem.W.mg_of X G a__law_form, k__law_form := k__law_form, F__law_form := F__law_form, d__law_form := b__law_form, m__law_whole := PySem.W.mg_of X G a__law_whole, k__law_whole := k__law_whole, F__law_whole := F__law_whole, d__law_whole := b__law_whole, m__law_cases := PySem.W.mg_of X G a__law_cases, k__law_cases := k__law_cases, F__law_cases := F__law_cases, d__law_cases := b__law_cases, m__law_side := PySem.W.mg_of X G a__law_side, k__law_side := k__law_side, F__law_side := F__law_side, d__law_side := b__law_side, m__law_way := PySem.W.mg_of X G a__law_way, k__law_way := k__law_way, F__law_way := F__law_way, d__law_way := b__law_way, m__law_part := PySem.W.mg_of X G a__law_part, k__law_part := k__law_part, F__law_part := F__law_part, d__law_part := b__law_part, m__law_rule := PySem.W.mg_of X G a__law_rule, k__law_rule := k__law_rule, F__law_rule := F__law_rule, d__law_rule := b__law_rule, m__law_fits := PySem.W.mg_of X G a__law_fits, k__law_fits := k__law_fits, F__law_fits := F__law_fits, d__law_fits := b__law_fits, m__law_answer := PySem.W.mg_of X G a__law_answer, k__law_answer := k__law_answer, F__law_answer := F__law_answer, d__law_answer := b__law_answer, m__law_knots := PySem.W.mg_of X G a__law_knots, k__law_knots := k__law_knots, F__law_knots := F__law_knots, d__law_knots := b__law_knots, m__law_right := PySem.W.mg_of X G a__law_right, k__law_right := k__law_right, F__law_right := F__law_right, d__law_right := b__law_right, m_law := PySem.W.mg_of X G a_law, k_law := k_law, F_law := F_law, d_law := b_law, c_MOST_CASES := PySem.W.mg_of X G e_MOST_CASES, c_MOST_CASES_BACK := PySem.W.mg_of X G e_MOST_CASES_BACK, b_ValueError := PySem.W.mg_none_of X G z_ValueError, b_all := PySem.W.mg_none_of X G z_all, b_enumerate := PySem.W.mg_none_of X G z_enumerate, b_int := PySem.W.mg_none_of X G z_int, b_isinstance := PySem.W.mg_none_of X G z_isinstance, b_len := PySem.W.mg_none_of X G z_len, b_list := PySem.W.mg_none_of X G z_list, b_range := PySem.W.mg_none_of X G z_range, b_set := PySem.W.mg_none_of X G z_set, b_str := PySem.W.mg_none_of X G z_str, b_tuple := PySem.W.mg_none_of X G z_tuple, b_zip := PySem.W.mg_none_of X G z_zip }
  refine ⟨PySem.W.fnOf "law" "law" (defArgs (top 43)) (defBody (top 43)) (defScope (top 43)) .none kV_law dc_law pm_law an_law cd_law ct_law, fun s v => .of_eq rfl, fun base _ _ => ?_⟩
  have O__law_fits := ok__law_fits (P := l.prog) (w := w) (base := base) T
  have O__law_answer := ok__law_answer (P := l.prog) (w := w) (base := base) T (F__law_fits := O__law_fits)
  have O__law_whole := ok__law_whole (P := l.prog) (w := w) (base := base) T
  have O__law_cases := ok__law_cases (P := l.prog) (w := w) (base := base) T (F__law_whole := O__law_whole)
  have O__law_draw := ok__law_draw (P := l.prog) (w := w) (base := base) T
  have O__law_names := ok__law_names (P := l.prog) (w := w) (base := base) T (F__law_draw := O__law_draw)
  have O__law_form := ok__law_form (P := l.prog) (w := w) (base := base) T (F__law_draw := O__law_draw) (F__law_names := O__law_names)
  have O__law_knots := ok__law_knots (P := l.prog) (w := w) (base := base) T
  have O__law_side := ok__law_side (P := l.prog) (w := w) (base := base) T
  have O__law_way := ok__law_way (P := l.prog) (w := w) (base := base) T (F__law_side := O__law_side)
  have O__law_right := ok__law_right (P := l.prog) (w := w) (base := base) T (F__law_answer := O__law_answer) (F__law_cases := O__law_cases) (F__law_knots := O__law_knots) (F__law_way := O__law_way)
  have O__law_part := ok__law_part (P := l.prog) (w := w) (base := base) T (F__law_draw := O__law_draw)
  have O__law_rule := ok__law_rule (P := l.prog) (w := w) (base := base) T (F__law_draw := O__law_draw) (F__law_part := O__law_part) (F__law_whole := O__law_whole)
  have O__law_tape := ok__law_tape (P := l.prog) (w := w) (base := base) T
  have O_entries_of := ok_entries_of (P := l.prog) (w := w) (base := base) T
  have O_longer_by := ok_longer_by (P := l.prog) (w := w) (base := base) T
  have O_many_cases := ok_many_cases (P := l.prog) (w := w) (base := base) T (F_entries_of := O_entries_of)
  have O_all_cases := ok_all_cases (P := l.prog) (w := w) (base := base) T (F_entries_of := O_entries_of) (F_longer_by := O_longer_by) (F_many_cases := O_many_cases)
  have O_fits := ok_fits (P := l.prog) (w := w) (base := base) T
  have O_answered := ok_answered (P := l.prog) (w := w) (base := base) T (F_fits := O_fits)
  have O_all_answered := ok_all_answered (P := l.prog) (w := w) (base := base) T (F_all_cases := O_all_cases) (F_answered := O_answered) (F_many_cases := O_many_cases)
  have O_first_apart := ok_first_apart (P := l.prog) (w := w) (base := base) T
  have O_numbers_on := ok_numbers_on (P := l.prog) (w := w) (base := base) T
  have O_values_held := ok_values_held (P := l.prog) (w := w) (base := base) T
  have O_entries_to_yes := ok_entries_to_yes (P := l.prog) (w := w) (base := base) T (F_values_held := O_values_held)
  have O_field_asked := ok_field_asked (P := l.prog) (w := w) (base := base) T
  have O_side_of := ok_side_of (P := l.prog) (w := w) (base := base) T (F_entries_to_yes := O_entries_to_yes) (F_field_asked := O_field_asked)
  have O_parted := ok_parted (P := l.prog) (w := w) (base := base) T (F_numbers_on := O_numbers_on) (F_side_of := O_side_of)
  have O_rows_at := ok_rows_at (P := l.prog) (w := w) (base := base) T
  have O_tree_for_all := ok_tree_for_all (P := l.prog) (w := w) (base := base) T (F_first_apart := O_first_apart) (F_parted := O_parted) (F_rows_at := O_rows_at)
  have O_tree_of := ok_tree_of (P := l.prog) (w := w) (base := base) T (F_all_answered := O_all_answered) (F_tree_for_all := O_tree_for_all)
  have O_law := ok_law (P := l.prog) (w := w) (base := base) T (F__law_answer := O__law_answer) (F__law_cases := O__law_cases) (F__law_draw := O__law_draw) (F__law_form := O__law_form) (F__law_right := O__law_right) (F__law_rule := O__law_rule) (F__law_tape := O__law_tape) (F__law_whole := O__law_whole) (F_tree_of := O_tree_of)
  exact O_law
theorem mask_nil {H : Hp} : Same H (mask H []) := fun b o e => by
  unfold mask
  rw [if_neg (by simp)]
  exact e
theorem ints_reps {K : PySem.W.Frag} {H : Hp} : ∀ ns : List Int, Reps K H (ns.map PyData.int) (ns.map V.int)
  | [] => .nil
  | n :: ns => .cons (.int n) (ints_reps ns)
theorem walk {l : PySem.W.OpenLaw} {q : Program} {loose : List Str} {XP : (Str → Option Value) → Heap → Prop} {YP : World → Heap → Prop} {d : DefRec} {K : Params → PySem.W.Frag} (hn : l.most = some 63) (hdf : d.params.defaults = [])
    (hY : ∀ (w : World) (h : Heap), YP w h → (K w.params).In h)
    (F : ∀ (w : World) (mg : Str → Option Value) (fa : Addr) (h : Heap), (K w.params).In h → h.Ns mainGlobals mg → mg d.name = some (.ref fa) →
      ∃ fd : FuncData, (∀ (s : Shared) (u : Value), BindsTo s fd ⟨[u], []⟩ [("_law_script", u)]) ∧ ∀ base : Heap, (K w.params).In base → base.Ns mainGlobals mg → FnOk l.prog w (K w.params) mg base CX0 24 fa fd ["_law_script"] (liftSp (K w.params) sp_law)) :
    PySem.W.WalkO q loose XP YP l.row.toRowW d [] (fun f vs => PySem.call f vs) :=
  L2.walk_of (n := 63) (k := 24) (x := "_law_script") (CX := fun _ => CX0) (sp := fun w => liftSp (K w.params) sp_law) hn (by decide) hdf ⟨rfl, by decide, by decide, rfl⟩ hY F
    (fun w H a ns hl _ hS => ⟨[], [.list (ns.map PyData.int)], fun d => d = .bool true, fun p hp => by simp at hp, .cons (.list (L2.Same.seq mask_nil hS) (ints_reps ns)) .nil, ⟨ns, rfl, hl, rfl⟩, fun d v H' _ r q => by subst q; cases r; rfl⟩) fun _ _ _ _ _ z => z
end
end K64
open PySem PySem.W PyProof.Rows
set_option maxRecDepth 100000 in
set_option maxHeartbeats 0 in
theorem PySem.Challenge.cw_leafjudge_k64_whole_trees_of_rules_holds : PySem.Challenge.rw_leafjudge_k64_whole_trees_of_rules.Holds := by
  w_on; o_law; k_head; (case hw => w_witness2)
  k_fill
  refine K64.walk (l := PySem.Challenge.rw_leafjudge_k64_whole_trees_of_rules) rfl rfl (fun w h Y => PySem.W.kIn_of Y) ?F
  case F =>
    intro w mg fa h KX G hmg
    refine' K64.all_mk KX G hmg ?a_side_of ?l_side_of ?c_side_of ?k_side_of ?a_field_asked ?l_field_asked ?c_field_asked ?k_field_asked ?a_entries_to_yes ?l_entries_to_yes ?c_entries_to_yes ?k_entries_to_yes ?a_values_held ?l_values_held ?c_values_held ?k_values_held ?a_parted ?l_parted ?c_parted ?k_parted ?a_numbers_on ?l_numbers_on ?c_numbers_on ?k_numbers_on ?a_rows_at ?l_rows_at ?c_rows_at ?k_rows_at ?a_many_cases ?l_many_cases ?c_many_cases ?k_many_cases ?a_all_cases ?l_all_cases ?c_all_cases ?k_all_cases ?a_entries_of ?l_entries_of ?c_entries_of ?k_entries_of ?a_longer_by ?l_longer_by ?c_longer_by ?k_longer_by ?a_fits ?l_fits ?c_fits ?k_fits ?a_answered ?l_answered ?c_answered ?k_answered ?a_all_answered ?l_all_answered ?c_all_answered ?k_all_answered ?a_tree_of ?l_tree_of ?c_tree_of ?k_tree_of ?a_tree_for_all ?l_tree_for_all ?c_tree_for_all ?k_tree_for_all ?a_first_apart ?l_first_apart ?c_first_apart ?k_first_apart ?a__law_tape ?l__law_tape ?c__law_tape ?k__law_tape ?a__law_draw ?l__law_draw ?c__law_draw ?k__law_draw ?a__law_names ?l__law_names ?c__law_names ?k__law_names ?a__law_form ?l__law_form ?c__law_form ?k__law_form ?a__law_whole ?l__law_whole ?c__law_whole ?k__law_whole ?a__law_cases ?l__law_cases ?c__law_cases ?k__law_cases ?a__law_side ?l__law_side ?c__law_side ?k__law_side ?a__law_way ?l__law_way ?c__law_way ?k__law_way ?a__law_part ?l__law_part ?c__law_part ?k__law_part ?a__law_rule ?l__law_rule ?c__law_rule ?k__law_rule ?a__law_fits ?l__law_fits ?c__law_fits ?k__law_fits ?a__law_answer ?l__law_answer ?c__law_answer ?k__law_answer ?a__law_knots ?l__law_knots ?c__law_knots ?k__law_knots ?a__law_right ?l__law_right ?c__law_right ?k__law_right ?a_law ?l_law ?c_law ?k_law ?e_MOST_CASES ?e_MOST_CASES_BACK ?z_ValueError ?z_all ?z_enumerate ?z_int ?z_isinstance ?z_len ?z_list ?z_range ?z_set ?z_str ?z_tuple ?z_zip
    (case a_side_of => k_is)
    (case l_side_of => k_is)
    (case c_side_of => k_is)
    (case k_side_of => k_is)
    (case a_field_asked => k_is)
    (case l_field_asked => k_is)
    (case c_field_asked => k_is)
    (case k_field_asked => k_is)
    (case a_entries_to_yes => k_is)
    (case l_entries_to_yes => k_is)
    (case c_entries_to_yes => k_is)
    (case k_entries_to_yes => k_is)
    (case a_values_held => k_is)
    (case l_values_held => k_is)
    (case c_values_held => k_is)
    (case k_values_held => k_is)
    (case a_parted => k_is)
    (case l_parted => k_is)
    (case c_parted => k_is)
    (case k_parted => k_is)
    (case a_numbers_on => k_is)
    (case l_numbers_on => k_is)
    (case c_numbers_on => k_is)
    (case k_numbers_on => k_is)
    (case a_rows_at => k_is)
    (case l_rows_at => k_is)
    (case c_rows_at => k_is)
    (case k_rows_at => k_is)
    (case a_many_cases => k_is)
    (case l_many_cases => k_is)
    (case c_many_cases => k_is)
    (case k_many_cases => k_is)
    (case a_all_cases => k_is)
    (case l_all_cases => k_is)
    (case c_all_cases => k_is)
    (case k_all_cases => k_is)
    (case a_entries_of => k_is)
    (case l_entries_of => k_is)
    (case c_entries_of => k_is)
    (case k_entries_of => k_is)
    (case a_longer_by => k_is)
    (case l_longer_by => k_is)
    (case c_longer_by => k_is)
    (case k_longer_by => k_is)
    (case a_fits => k_is)
    (case l_fits => k_is)
    (case c_fits => k_is)
    (case k_fits => k_is)
    (case a_answered => k_is)
    (case l_answered => k_is)
    (case c_answered => k_is)
    (case k_answered => k_is)
    (case a_all_answered => k_is)
    (case l_all_answered => k_is)
    (case c_all_answered => k_is)
    (case k_all_answered => k_is)
    (case a_tree_of => k_is)
    (case l_tree_of => k_is)
    (case c_tree_of => k_is)
    (case k_tree_of => k_is)
    (case a_tree_for_all => k_is)
    (case l_tree_for_all => k_is)
    (case c_tree_for_all => k_is)
    (case k_tree_for_all => k_is)
    (case a_first_apart => k_is)
    (case l_first_apart => k_is)
    (case c_first_apart => k_is)
    (case k_first_apart => k_is)
    (case a__law_tape => k_is)
    (case l__law_tape => k_is)
    (case c__law_tape => k_is)
    (case k__law_tape => k_is)
    (case a__law_draw => k_is)
    (case l__law_draw => k_is)
    (case c__law_draw => k_is)
    (case k__law_draw => k_is)
    (case a__law_names => k_is)
    (case l__law_names => k_is)
    (case c__law_names => k_is)
    (case k__law_names => k_is)
    (case a__law_form => k_is)
    (case l__law_form => k_is)
    (case c__law_form => k_is)
    (case k__law_form => k_is)
    (case a__law_whole => k_is)
    (case l__law_whole => k_is)
    (case c__law_whole => k_is)
    (case k__law_whole => k_is)
    (case a__law_cases => k_is)
    (case l__law_cases => k_is)
    (case c__law_cases => k_is)
    (case k__law_cases => k_is)
    (case a__law_side => k_is)
    (case l__law_side => k_is)
    (case c__law_side => k_is)
    (case k__law_side => k_is)
    (case a__law_way => k_is)
    (case l__law_way => k_is)
    (case c__law_way => k_is)
    (case k__law_way => k_is)
    (case a__law_part => k_is)
    (case l__law_part => k_is)
    (case c__law_part => k_is)
    (case k__law_part => k_is)
    (case a__law_rule => k_is)
    (case l__law_rule => k_is)
    (case c__law_rule => k_is)
    (case k__law_rule => k_is)
    (case a__law_fits => k_is)
    (case l__law_fits => k_is)
    (case c__law_fits => k_is)
    (case k__law_fits => k_is)
    (case a__law_answer => k_is)
    (case l__law_answer => k_is)
    (case c__law_answer => k_is)
    (case k__law_answer => k_is)
    (case a__law_knots => k_is)
    (case l__law_knots => k_is)
    (case c__law_knots => k_is)
    (case k__law_knots => k_is)
    (case a__law_right => k_is)
    (case l__law_right => k_is)
    (case c__law_right => k_is)
    (case k__law_right => k_is)
    (case a_law => k_is)
    (case l_law => k_is)
    (case c_law => k_is)
    (case k_law => k_is)
    (case e_MOST_CASES => k_is)
    (case e_MOST_CASES_BACK => k_is)
    (case z_ValueError => k_is)
    (case z_all => k_is)
    (case z_enumerate => k_is)
    (case z_int => k_is)
    (case z_isinstance => k_is)
    (case z_len => k_is)
    (case z_list => k_is)
    (case z_range => k_is)
    (case z_set => k_is)
    (case z_str => k_is)
    (case z_tuple => k_is)
    (case z_zip => k_is)
