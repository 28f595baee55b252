import PyProof.Rows.All
import Wide.All
import OpenK.AllK
import Wide.FinOn
import Lean
import PyProof.EqAt
import PyProof.EqKinds
import PyProof.TupleCall
import PyProof.NeKinds
import PyProof.ConsumeWalk
import PyProof.FitsBits
import PyProof.Rows.Range3
import PyProof.Rows.TupAdd
import PyProof.ListRange
import PyProof.Rows.CallKwBuiltin
import KE.KSortAsk
import KE.KSortTup
import PyProof.Rows.RuleN_abs
import PySem.Challenge.RW_waithouse_k26_whole_schedules_in_order
set_option Elab.async false
set_option linter.all false
set_option maxRecDepth 100000
/-! THE HAND LAYER, for ints, bools, texts, own classes, LISTS and tuples (index, slices, in, append, pop ..), calls, loops. Paste it whole ahead of your own text; what your proof does not reach may be deleted. -/
namespace L2
open PySem PySem.Spec PyProof.Rows

/-- a key: an int or a str -/
abbrev Key := Sum Int Str
def keyIs : Key → Value → Bool
  | .inl k, v => Value.isInt k v
  | .inr x, v => Value.isStrOf x v
def keyH (w : World) : Key → Int
  | .inl k => hashInt k
  | .inr x => hashStr w x
theorem keyIs_shape : ∀ {k : Key} {v : Value}, keyIs k v = true → (∃ i t, k = Sum.inl i ∧ v = Value.int i t) ∨ (∃ x t, k = Sum.inr x ∧ v = Value.str x t)
  | .inl i, v, h => by
    obtain ⟨t, e⟩ := Value.isInt_shape (k := i) (v := v) h
    exact .inl ⟨i, t, rfl, e⟩
  | .inr x, v, h => by
    obtain ⟨t, e⟩ := Value.isStrOf_shape (x := x) (v := v) h
    exact .inr ⟨x, t, rfl, e⟩
theorem key_ll (a b : Int) : decide ((Sum.inl a : Key) = Sum.inl b) = (a == b) := by
  by_cases e : a = b
  · subst e; simp
  · have h : ¬ (Sum.inl a : Key) = Sum.inl b := fun q => e (Sum.inl.inj q)
    rw [decide_eq_false h]
    exact (beq_eq_false_iff_ne.mpr e).symm
theorem key_rr (a b : Str) : decide ((Sum.inr a : Key) = Sum.inr b) = decide (a = b) := by
  by_cases e : a = b
  · subst e; simp
  · have h : ¬ (Sum.inr a : Key) = Sum.inr b := fun q => e (Sum.inr.inj q)
    rw [decide_eq_false h, decide_eq_false e]
theorem key_lr (a : Int) (b : Str) : decide ((Sum.inl a : Key) = Sum.inr b) = false := decide_eq_false (fun q => nomatch q)
theorem key_rl (a : Str) (b : Int) : decide ((Sum.inr a : Key) = Sum.inl b) = false := decide_eq_false (fun q => nomatch q)

def mixKind (prog : Program) (w : World) : PySem.KeyKind prog w Key where
  is := keyIs
  hash := keyH w
  inj := fun v a b ha hb => by
    rcases keyIs_shape ha with ⟨i, t, rfl, rfl⟩ | ⟨x, t, rfl, rfl⟩
    · rcases keyIs_shape hb with ⟨j, u, rfl, e⟩ | ⟨y, u, rfl, e⟩
      · injection e with e1 _; rw [e1]
      · exact nomatch e
    · rcases keyIs_shape hb with ⟨j, u, rfl, e⟩ | ⟨y, u, rfl, e⟩
      · exact nomatch e
      · injection e with e1 _; rw [e1]
  byValue := fun k v h => by
    rcases keyIs_shape h with ⟨i, t, rfl, rfl⟩ | ⟨x, t, rfl, rfl⟩ <;> rfl
  pyHash := fun hv h => by
    rcases keyIs_shape hv with ⟨i, t, rfl, rfl⟩ | ⟨x, t, rfl, rfl⟩
    · exact wpAny_pyHash_int h
    · exact wpAny_pyHash_str h
  eqBool := fun hu hv h => by
    rcases keyIs_shape hu with ⟨i, t, rfl, rfl⟩ | ⟨x, t, rfl, rfl⟩
    · rcases keyIs_shape hv with ⟨j, u, rfl, rfl⟩ | ⟨y, u, rfl, rfl⟩
      · rw [key_ll] at h; exact wpAny_eqBool_int h
      · rw [key_lr] at h; exact SeqAt.EqAt.int_str i t y u _ _ _ _ h
    · rcases keyIs_shape hv with ⟨j, u, rfl, rfl⟩ | ⟨y, u, rfl, rfl⟩
      · rw [key_rl] at h; exact SeqAt.EqAt.str_int x t j u _ _ _ _ h
      · rw [key_rr] at h; exact wpAny_eqBool_str h
  «strs» := fun k x t v h => by
    rcases keyIs_shape h with ⟨i, u, rfl, e⟩ | ⟨y, u, rfl, e⟩
    · exact nomatch e
    · injection e with e1 _
      subst e1
      cases v <;> rfl

end L2

namespace L2
open PySem PySem.Spec PyProof.Rows

/-- a value, without the heap -/
inductive V where
  | non | bl (b : Bool) | int (i : Int) | str (x : Str) | byt (b : Array UInt8) | flt (b : UInt64) | ref (a : Addr) | ty (n : String)
  deriving DecidableEq

def RelV : V → Value → Prop
  | .non, u => u = Value.none
  | .bl b, u => u = Value.bool b
  | .int i, u => ∃ t, u = Value.int i t
  | .str x, u => ∃ t, u = Value.str x t
  | .byt b, u => ∃ t, u = Value.bytes b t
  | .flt b, u => ∃ t, u = Value.float b t
  | .ref a, u => u = Value.ref a
  | .ty n, u => u = Value.type n

abbrev Vals : List V → List Value → Prop := Paired RelV
theorem Vals.length {xs : List V} {us : List Value} (r : Vals xs us) : xs.length = us.length := Paired.length r
theorem Vals.get : ∀ {xs : List V} {us : List Value} {i : Nat} {x : V}, Vals xs us → xs[i]? = some x → ∃ u, us[i]? = some u ∧ RelV x u
  | _, _, _, _, .nil, e => by simp at e
  | _, _, 0, _, .cons r _, e => by simp at e; subst e; exact ⟨_, rfl, r⟩
  | _, _, i + 1, x, .cons _ t, e => by
    obtain ⟨u, h1, h2⟩ := Vals.get (i := i) (x := x) t (by simpa using e)
    exact ⟨u, by simpa using h1, h2⟩
theorem Vals.set {x : V} {u : Value} (r : RelV x u) : ∀ {xs : List V} {us : List Value} (i : Nat), Vals xs us → Vals (xs.set i x) (us.set i u)
  | _, _, _, .nil => .nil
  | _, _, 0, .cons _ t => .cons r t
  | _, _, i + 1, .cons q t => .cons q (Vals.set r i t)
theorem Vals.append : ∀ {xs ys : List V} {us ws : List Value}, Vals xs us → Vals ys ws → Vals (xs ++ ys) (us ++ ws)
  | _, _, _, _, .nil, s => s
  | _, _, _, _, .cons r t, s => .cons r (Vals.append t s)
def RelO : Option V → Option Value → Prop
  | some v, some u => RelV v u
  | none, none => True
  | _, _ => False
def KV {κ : Type} : List (κ × V) → List (κ × Value) → Prop := Paired fun (p : κ × V) (q : κ × Value) => p.1 = q.1 ∧ RelV p.2 q.2

/-- a key of a dict (00_mix): an int or a text -/
def kV : Key → V
  | .inl i => .int i
  | .inr x => .str x

/-- what stands at a tracked address -/
inductive HO where
  /-- a list -/
  | lst (xs : List V)
  /-- a tuple (never changes) -/
  | tup (xs : List V)
  /-- a dict whose keys are ints and texts; one whose keys are tuples of ints and texts (the empty one is both) -/
  | dK (kvs : List (Key × V)) | dT (kvs : List (List Key × V))
  /-- a set of ints: its members, its size -/
  | set (S : Int → Bool) (n : Nat)
  /-- an instance of the class at C, its dict at dx, its attributes -/
  | ins (C dx : Addr) (fs : List (Str × V))
  /-- the dict of the instance at x -/
  | own (x : Addr)
  /-- the dict of an exception -/
  | xd (fs : List (Str × V))
  /-- a bound method, f of x -/
  | met (f x : Addr)
  /-- a range object lo, lo + 1, .. below hi -/
  | rng (lo hi : Int)
  /-- a thing that is known to the object (the script; a dict while a loop walks it): read, never written while it is so -/
  | frz (o : Obj) (u : HO)
  /-- a code object's table -/
  | tbl (ps : Array Value)
  /-- any other thing, by what is true of its one object (a def of one's own: SetO a S n := HO.ext fun h => ..) -/
  | ext (φ : Heap → Prop)

abbrev Hp := Addr → Option HO
def upd (H : Hp) (a : Addr) (o : HO) : Hp := fun b => if b = a then some o else H b
theorem upd_same {H : Hp} {a : Addr} {o : HO} : upd H a o a = some o := by unfold upd; rw [if_pos rfl]
theorem upd_ne {H : Hp} {a b : Addr} {o : HO} (h : b ≠ a) : upd H a o b = H b := by unfold upd; rw [if_neg h]
/-- two objects of different content stand apart -/
theorem ne_of {H : Hp} {a b : Addr} {o u : HO} (h : H a = some o) (h' : H b = some u) (d : o ≠ u) : a ≠ b := by
  intro e; subst e; rw [h] at h'; exact d (Option.some.inj h')
theorem ne_of_none {H : Hp} {a b : Addr} {o : HO} (h : H a = some o) (h' : H b = none) : a ≠ b := by
  intro e; subst e; rw [h] at h'; cases h'

section
variable (P : Program) (w : World)
def ObjOk (H : Hp) (h : Heap) (a : Addr) : HO → Prop
  | .lst xs => xs.length ≤ sizeLine ∧ ∃ (its : List Value) (n : Nat), Vals xs its ∧ h.get? a = some { cls := .type "list", data := .seq its.toArray n }
  | .tup xs => xs.length ≤ sizeLine ∧ ∃ its : List Value, Vals xs its ∧ IsTup h a its.toArray
  | .dK kvs => kvs.length ≤ sizeLine ∧ (a == sysModules) = false ∧ ∃ vs, KV kvs vs ∧ h.DictOf (mixKind P w) a vs
  | .dT kvs => kvs.length ≤ sizeLine ∧ (a == sysModules) = false ∧ ∃ xs : List (List Key × Addr × Value),
      Paired (fun (p : List Key × V) (q : List Key × Addr × Value) => p.1 = q.1 ∧ H q.2.1 = some (.tup (p.1.map kV)) ∧ RelV p.2 q.2.2) kvs xs ∧
      ∃ o es ep, h.get? a = some o ∧ o.ExactDict ∧ o.data = .dict es ep ∧ es.toList = xs.map (entryOfKey (tupleKind (mixKind P w))) ∧ (xs.map (·.1)).Nodup
  | .set S n => h.SetOf (intKind P w) a S n
  | .ins C dx fs => H dx = some (.own a) ∧ fs.length ≤ 1000 ∧ dx ≠ a ∧ h.get? a = some (PySem.W.instObj C dx) ∧
      ∃ mA, h.Ns1 dx mA ∧ (∀ f, RelO (fs.lookup f) (mA f)) ∧ PySem.Within mA (fs.map (·.1))
  | .own _ => ∃ o, h.get? a = some o
  | .xd fs => ∃ mA, h.Ns1 a mA ∧ ∀ f, RelO (fs.lookup f) (mA f)
  | .rng lo hi => ∃ t u v, h.get? a = some { cls := .type "range", data := .fields #[.int lo t, .int hi u, .int 1 v] }
  | .frz o u => h.get? a = some o ∧ ObjOk H h a u
  | .tbl ps => h.get? a = some { cls := .none, data := .fields ps }
  | .met f x => h.get? a = some (PySem.W.methodObj (.ref f) (.ref x))
  | .ext φ => φ h ∧ (∃ o, h.get? a = some o) ∧ ∀ h1 h2 : Heap, φ h1 → (∀ o, h1.get? a = some o → h2.get? a = some o) → φ h2
/-- the abstract heap is held -/
def HOk (H : Hp) (h : Heap) : Prop := ∀ a o, H a = some o → ObjOk P w H h a o
end

section
variable {P : Program} {w : World} {H H' : Hp} {h h' : Heap} {a : Addr} {o : HO}
theorem ObjOk.lt (x : ObjOk P w H h a o) : a < h.objs.size := by
  cases o with
  | lst xs => obtain ⟨_, _, _, _, e⟩ := x; exact Heap.lt_size e
  | tup xs => obtain ⟨_, _, _, p⟩ := x; exact p.lt
  | dK kvs => obtain ⟨_, _, _, _, o, _, _, e, _⟩ := x; exact Heap.lt_size e
  | dT kvs => obtain ⟨_, _, _, _, o, _, _, e, _⟩ := x; exact Heap.lt_size e
  | set S n => obtain ⟨o, _, _, _, e, _⟩ := x; exact Heap.lt_size e
  | ins C dx fs => obtain ⟨_, _, _, e, _⟩ := x; exact Heap.lt_size e
  | own y => obtain ⟨_, e⟩ := x; exact Heap.lt_size e
  | xd fs => obtain ⟨_, ⟨_, _, _, e, _⟩, _⟩ := x; exact Heap.lt_size e
  | rng lo hi => obtain ⟨_, _, _, e⟩ := x; exact Heap.lt_size e
  | frz ob u => obtain ⟨e, _⟩ := x; exact Heap.lt_size e
  | tbl ps => exact Heap.lt_size (show h.get? a = some _ from x)
  | met f y => exact Heap.lt_size (show h.get? a = some _ from x)
  | ext φ => obtain ⟨_, ⟨_, e⟩, _⟩ := x; exact Heap.lt_size e
theorem Paired.mapP {α β : Type} {F G : α → β → Prop} : ∀ {l₁ : List α} {l₂ : List β}, Paired F l₁ l₂ → (∀ a b, F a b → G a b) → Paired G l₁ l₂
  | _, _, .nil, _ => .nil
  | _, _, .cons r t, f => .cons (f _ _ r) (Paired.mapP t f)
/-- what an object's description leans on: its own object, its own dict, the tuples -/
theorem ObjOk.stay (x : ObjOk P w H h a o) (k : ∀ b u, (b = a ∨ H b = some (.own a)) → h.get? b = some u → h'.get? b = some u)
    (ho : ∀ b, H b = some (.own a) → H' b = some (.own a)) (ht : ∀ b xs, H b = some (.tup xs) → H' b = some (.tup xs)) : ObjOk P w H' h' a o := by
  induction o with
  | lst xs => obtain ⟨z, its, n, r, e⟩ := x; exact ⟨z, its, n, r, k _ _ (.inl rfl) e⟩
  | tup xs => obtain ⟨z, its, r, ob, e, c⟩ := x; exact ⟨z, its, r, ob, k _ _ (.inl rfl) e, c⟩
  | dK kvs => obtain ⟨z, y, vs, r, ob, es, ep, e, c⟩ := x; exact ⟨z, y, vs, r, ob, es, ep, k _ _ (.inl rfl) e, c⟩
  | dT kvs =>
    obtain ⟨z, y, xs, r, ob, es, ep, e, c⟩ := x
    exact ⟨z, y, xs, Paired.mapP r fun p q z => ⟨z.1, ht _ _ z.2.1, z.2.2⟩, ob, es, ep, k _ _ (.inl rfl) e, c⟩
  | set S n => obtain ⟨ob, es, ep, t, e, c⟩ := x; exact ⟨ob, es, ep, t, k _ _ (.inl rfl) e, c⟩
  | ins C dx fs =>
    obtain ⟨d, z, ne, e, mA, ⟨od, es, ep, e2, c⟩, r⟩ := x
    exact ⟨ho _ d, z, ne, k _ _ (.inl rfl) e, mA, ⟨od, es, ep, k _ _ (.inr d) e2, c⟩, r⟩
  | own y => obtain ⟨ob, e⟩ := x; exact ⟨ob, k _ _ (.inl rfl) e⟩
  | xd fs => obtain ⟨mA, ⟨od, es, ep, e, c⟩, r⟩ := x; exact ⟨mA, ⟨od, es, ep, k _ _ (.inl rfl) e, c⟩, r⟩
  | rng lo hi => obtain ⟨t, u, v, e⟩ := x; exact ⟨t, u, v, k _ _ (.inl rfl) e⟩
  | frz ob u ih => obtain ⟨e, q⟩ := x; exact ⟨k _ _ (.inl rfl) e, ih q⟩
  | tbl ps =>
    have e : h.get? a = some { cls := .none, data := .fields ps } := x
    show h'.get? a = some { cls := .none, data := .fields ps }
    exact k a _ (.inl rfl) e
  | met f y =>
    have e : h.get? a = some (PySem.W.methodObj (.ref f) (.ref y)) := x
    show h'.get? a = some (PySem.W.methodObj (.ref f) (.ref y))
    exact k a _ (.inl rfl) e
  | ext φ => obtain ⟨p, ⟨o, e⟩, st⟩ := x; exact ⟨st _ _ p fun o q => k _ _ (.inl rfl) q, ⟨o, k _ _ (.inl rfl) e⟩, st⟩
theorem HOk.lt (x : HOk P w H h) (e : H a = some o) : a < h.objs.size := (x a o e).lt
theorem HOk.fresh (x : HOk P w H h) (e : h.objs.size ≤ a) : H a = none := by
  cases q : H a with
  | none => rfl
  | some u => exact absurd (Nat.lt_of_lt_of_le (x.lt q) e) (Nat.lt_irrefl _)
/-- every object of the heap is kept -/
theorem HOk.kept (x : HOk P w H h) (k : ∀ b u, h.get? b = some u → h'.get? b = some u) : HOk P w H h' := fun a o e =>
  (x a o e).stay (fun b u _ q => k b u q) (fun _ q => q) fun _ _ q => q
/-- a new object is laid and tracked -/
theorem HOk.laid (x : HOk P w H h) (k : ∀ b u, h.get? b = some u → h'.get? b = some u) (hp : h.objs.size ≤ a) (new : ObjOk P w (upd H a o) h' a o) : HOk P w (upd H a o) h' := fun b u e => by
  have hn := x.fresh hp
  by_cases hb : b = a
  · subst hb; rw [upd_same] at e; cases e; exact new
  · rw [upd_ne hb] at e
    exact (x b u e).stay (fun c v _ q => k c v q) (fun c q => by rw [upd_ne (ne_of_none q hn)]; exact q) fun c xs q => by rw [upd_ne (ne_of_none q hn)]; exact q
end

/-- what may be read as u: it is u, or a known u -/
def Rd (H : Hp) (a : Addr) (u : HO) : Prop := H a = some u ∨ ∃ o, H a = some (.frz o u)
theorem Rd.ok {P : Program} {w : World} {H : Hp} {h : Heap} {a : Addr} {u : HO} (r : Rd H a u) (x : HOk P w H h) : ObjOk P w H h a u := by
  rcases r with r | ⟨o, r⟩
  · exact x a u r
  · obtain ⟨_, q⟩ := x a _ r
    exact q
/-- what may be written -/
def Mut : Option HO → Prop
  | some (.lst _) => True
  | some (.dK _) => True
  | some (.dT _) => True
  | some (.set _ _) => True
  | some (.ins _ _ _) => True
  | some (.ext _) => True
  | _ => False
section
variable {P : Program} {w : World} {H : Hp} {h h' : Heap} {x e : Addr} {o' : HO}
/-- the object at e is changed: x itself, or the dict of the instance x -/
theorem HOk.write (ok : HOk P w H h) (mu : Mut (H x)) (he : e = x ∨ H e = some (.own x)) (k : ∀ b u, b ≠ e → h.get? b = some u → h'.get? b = some u) (heo : ∃ u, h'.get? e = some u)
    (new : ObjOk P w (upd H x o') h' x o') : HOk P w (upd H x o') h' := fun b u q => by
  have nown : ∀ c y, H c = some (.own y) → c ≠ x := fun c y r z => by subst z; rw [r] at mu; exact mu
  have ntup : ∀ c xs, H c = some (.tup xs) → c ≠ x := fun c xs r z => by subst z; rw [r] at mu; exact mu
  by_cases hb : b = x
  · subst hb; rw [upd_same] at q; cases q; exact new
  · rw [upd_ne hb] at q
    by_cases hbe : b = e
    · have q' : H b = some (.own x) := by
        rcases he with z | z
        · exact absurd (hbe.trans z) hb
        · rw [hbe]; exact z
      rw [q] at q'; cases q'
      obtain ⟨v, hv⟩ := heo
      exact ⟨v, by rw [hbe]; exact hv⟩
    · refine (ok b u q).stay (fun c v hc r => k c v ?_ r) (fun c r => by rw [upd_ne (nown c b r)]; exact r) fun c xs r => by rw [upd_ne (ntup c xs r)]; exact r
      rcases hc with rfl | hc
      · exact hbe
      · rintro rfl
        rcases he with z | z
        · exact nown c b hc z
        · rw [hc] at z; cases z; exact hb rfl
end

/-! ### kept unless tracked; of the frames at fs (the callers') the slots may change (an exception that passes writes there); of the records at ex (iterators) nothing is said -/
structure Un (fs ex : List Addr) (H H' : Hp) (h h' : Heap) : Prop where
  keep : ∀ b o, h.get? b = some o → H b = none → b ∉ fs → b ∉ ex → h'.get? b = some o
  slot : ∀ b o, h.get? b = some o → H b = none → b ∈ fs → b ∉ ex → ∃ sl, h'.get? b = some { o with slots := sl }
  free : ∀ b o, h.get? b = some o → H b = none → b ∉ ex → H' b = none
  there : ∀ b o, h.get? b = some o → b ∉ ex → ∃ o', h'.get? b = some o'
  tups : ∀ b xs, H b = some (.tup xs) → H' b = some (.tup xs)
  frzs : ∀ b o u, H b = some (.frz o u) → H' b = some (.frz o u)
  tbls : ∀ b ps, H b = some (.tbl ps) → ∃ more, H' b = some (.tbl (ps ++ more))
section
variable {fs fs' ex ex' : List Addr} {H H1 H2 : Hp} {h h1 h2 h' : Heap} {a x e : Addr} {o : HO}
theorem Un.any (u : Un fs ex H H1 h h1) {b : Addr} {ob : Obj} (q : h.get? b = some ob) (n : H b = none) (hx : b ∉ ex) : ∃ sl, h1.get? b = some { ob with slots := sl } := by
  by_cases hb : b ∈ fs
  · exact u.slot b ob q n hb hx
  · exact ⟨ob.slots, u.keep b ob q n hb hx⟩
theorem Un.kept (k : ∀ b u, h.get? b = some u → h'.get? b = some u) : Un fs ex H H h h' :=
  ⟨fun b ob q _ _ _ => k b ob q, fun b ob q _ _ _ => ⟨ob.slots, k b ob q⟩, fun _ _ _ n _ => n, fun b ob q _ => ⟨ob, k b ob q⟩, fun _ _ q => q, fun _ _ _ q => q, fun _ ps q => ⟨#[], by rw [q]; simp⟩⟩
theorem Un.refl : Un fs ex H H h h := Un.kept fun _ _ q => q
theorem Un.laid (k : ∀ b u, h.get? b = some u → h'.get? b = some u) (hp : h.objs.size ≤ a) (hn : H a = none) : Un fs ex H (upd H a o) h h' where
  keep := fun b u q _ _ _ => k b u q
  slot := fun b u q _ _ _ => ⟨u.slots, k b u q⟩
  free := fun b u q n _ => by rw [upd_ne (Nat.ne_of_lt (Nat.lt_of_lt_of_le (Heap.lt_size q) hp))]; exact n
  there := fun b u q _ => ⟨u, k b u q⟩
  tups := fun b xs q => by rw [upd_ne (ne_of_none q hn)]; exact q
  frzs := fun b u xs q => by rw [upd_ne (ne_of_none q hn)]; exact q
  tbls := fun b ps q => ⟨#[], by rw [upd_ne (ne_of_none q hn), q]; simp⟩
theorem Un.write (mu : Mut (H x)) (he : e = x ∨ H e = some (.own x)) (k : ∀ b u, b ≠ e → h.get? b = some u → h'.get? b = some u) (heo : ∃ u, h'.get? e = some u) : Un fs ex H (upd H x o) h h' := by
  have hx : ∀ b, H b = none → b ≠ x := fun b n z => by subst z; rw [n] at mu; exact mu
  have hb : ∀ b, H b = none → b ≠ e := fun b n z => by
    subst z
    rcases he with r | r
    · exact hx b n r
    · rw [n] at r; cases r
  have hm : ∀ b u, H b = some u → ¬ Mut (some u) → b ≠ x := fun b u q nm z => by subst z; rw [q] at mu; exact nm mu
  refine ⟨fun b u q n _ _ => k b u (hb b n) q, fun b u q n _ _ => ⟨u.slots, k b u (hb b n) q⟩, fun b u q n _ => by rw [upd_ne (hx b n)]; exact n, fun b u q _ => ?_,
    fun b xs q => by rw [upd_ne (hm b _ q fun z => z)]; exact q, fun b u xs q => by rw [upd_ne (hm b _ q fun z => z)]; exact q, fun b ps q => ⟨#[], by rw [upd_ne (hm b _ q fun z => z), q]; simp⟩⟩
  by_cases hbe : b = e
  · subst hbe; exact heo
  · exact ⟨u, k b u hbe q⟩
end

/-! ### the heap without what is tracked -/
def trk (h : Heap) (H : Hp) : List Addr := (List.range h.objs.size).filter fun a => (H a).isSome
def hidT (h : Heap) (H : Hp) : Heap := PySem.W.hideAll h (trk h H)
theorem hidT_size (h : Heap) (H : Hp) : (hidT h H).objs.size = h.objs.size := PySem.W.hideAll_size _ _
theorem hidT_get {h : Heap} {H : Hp} {b : Addr} {o : Obj} (e : h.get? b = some o) (n : H b = none) : (hidT h H).get? b = some o :=
  PySem.W.hideAll_get _ e fun hm => by
    have q : (H b).isSome = true := (List.mem_filter.mp hm).2
    rw [n] at q; simp at q
theorem of_hidT {h : Heap} {H : Hp} {b : Addr} {o : Obj} (e : (hidT h H).get? b = some o) : h.get? b = some o ∧ H b = none := by
  have e' : h.get? b = some o := PySem.W.of_hideAll (trk h H) e
  refine ⟨e', ?_⟩
  cases q : H b with
  | none => rfl
  | some x =>
    have hm : b ∈ trk h H := List.mem_filter.mpr ⟨List.mem_range.mpr (Heap.lt_size e'), by simp [q]⟩
    have z : (hidT h H).get? b = none := PySem.W.hideAll_none (trk h H) hm
    rw [z] at e; cases e

/-! ### OpenK's ledger, filled with every new object but one -/
end L2

namespace L2
open PySem PySem.Spec PyProof.Rows

/-- the module's facts, over the base: the heap at the law's entry without what is tracked there -/
structure Mod (K : PySem.W.Frag) (mg : Str → Option Value) (base : Heap) : Prop where
  kin : K.In base
  glob : base.Ns mainGlobals mg
  blt : ∃ mb, base.Ns builtinsNs mb ∧ ∀ x : Str, x ≠ "__name__" → mb x = bootBuiltins x
  nolimit : base.NoLimit

/-- the context: a def's body (or a comprehension's block) running. base: fixed through the whole law; s₀, H₀: the entry; outer: the frames whose slots others may change (a def's callers); stack: all frames that run;
   ex: iterators that were made ahead of the entry and are walked here (a comprehension's); fn: the names whose cells were made at the entry (a def: all; a comprehension's block: its own); calm: not within an except suite; pn: pins that every state bears; xe: what is wanted of an exception that leaves the code -/
structure Cx where
  prog : Program
  w : World
  K : PySem.W.Frag
  mg : Str → Option Value
  base : Heap
  A : Around
  N : List Str
  s₀ : Shared
  H₀ : Hp
  env : Env
  outer : List Env
  stack : List Env
  ex : List Addr
  fn : Str → Bool
  calm : Bool
  pn : List (Addr × Obj)
  xe : Value → Shared → Prop
/-- the callers' frames -/
def frs (l : List Env) : List Addr := l.filterMap (·.frame)
abbrev Cx.fs (X : Cx) : List Addr := frs X.outer

def Vis (sc : Scope) (x : Str) : Prop := sc.names.lookup x = some .local ∨ sc.names.lookup x = some .cell ∨ sc.names.lookup x = some .free
def Loc (sc : Scope) (x : Str) : Prop := sc.names.lookup x = some .local ∨ sc.names.lookup x = some .cell
def Look (env : Env) (h : Heap) (m : Str → Option Value) (x : Str) (u : Value) : Prop :=
  (env.kindOf x = some .local ∧ m x = some u) ∨ ((env.kindOf x = some .cell ∨ env.kindOf x = some .free) ∧ ∃ c, env.cells.lookup x = some c ∧ h.IsCell c (some u))

structure Cx.Ok (X : Cx) : Prop where
  mod : Mod X.K X.mg X.base
  kind : X.env.scope.kind = .function
  glob : X.env.globals = mainGlobals
  blt : X.env.builtins = builtinsNs
  above : X.s₀.heap.objs.size ≤ X.env.locals
  inj : ∀ x y c, X.env.cells.lookup x = some c → X.env.cells.lookup y = some c → x = y
  has : ∀ x, (X.env.kindOf x = some .cell ∨ X.env.kindOf x = some .free) → ∃ c, X.env.cells.lookup x = some c
  cab : ∀ x c, X.fn x = true → X.env.cells.lookup x = some c → X.s₀.heap.objs.size ≤ c
  hd : X.calm = true → X.A.handled = none
  frames : X.A.frames = some X.stack
  stk : X.stack = X.outer ∨ (X.stack = X.env :: X.outer ∧ X.env.frame = some X.env.locals)
  exf : ∀ b ∈ X.ex, b ≠ X.env.locals ∧ ∀ x c, X.env.cells.lookup x = some c → c ≠ b
  bs : ∀ b o, X.base.get? b = some o → X.s₀.heap.get? b = some o ∧ X.H₀ b = none
  bsz : X.base.objs.size ≤ X.s₀.heap.objs.size
  noex : ∀ b o, X.base.get? b = some o → b ∉ X.ex
  exfs : ∀ b ∈ X.ex, b ∉ X.fs
  funs : X.s₀.heap.FunFrames X.base X.outer
  frf : ∀ b ∈ X.fs, X.H₀ b = none

structure Inv (X : Cx) (pins : List (Addr × Obj)) (σ : List (Option V)) (H : Hp) (s : Shared) : Prop where
  ok : X.Ok
  os : s.os = X.s₀.os
  bare : AllBare s.gens
  base : Un X.fs X.ex X.H₀ H X.s₀.heap s.heap
  loc : ∃ m, s.heap.Ns X.env.locals m ∧ ∀ (i : Nat) (x : Str) (v : V), X.N[i]? = some x → σ[i]? = some (some v) → Vis X.env.scope x → ∃ u, RelV v u ∧ Look X.env s.heap m x u
  cell : ∀ x c, X.env.cells.lookup x = some c → ∃ v, s.heap.IsCell c v
  free : H X.env.locals = none
  freeC : ∀ x c, X.env.cells.lookup x = some c → H c = none
  pin : ∀ p ∈ X.pn ++ pins, s.heap.get? p.1 = some p.2 ∧ H p.1 = none ∧ p.1 ≠ X.env.locals ∧ p.1 ∉ X.fs ∧ ∀ v, p.2.data ≠ .cell v
  hok : HOk X.prog X.w H s.heap
  len : σ.length = X.N.length

section
variable {X : Cx} {pins : List (Addr × Obj)} {σ : List (Option V)} {H H' : Hp} {s : Shared} {h' : Heap}

theorem Cx.Ok.nofr (ok : X.Ok) {b : Addr} {o : Obj} (e : X.base.get? b = some o) : b ∉ X.fs := fun hb => by
  have := (ok.funs.mem hb).1
  rw [e] at this; cases this
theorem Inv.bs (I : Inv X pins σ H s) : ∀ b o, X.base.get? b = some o → s.heap.get? b = some o ∧ H b = none := fun b o e =>
  ⟨I.base.keep b o (I.ok.bs b o e).1 (I.ok.bs b o e).2 (I.ok.nofr e) (I.ok.noex b o e), I.base.free b o (I.ok.bs b o e).1 (I.ok.bs b o e).2 (I.ok.noex b o e)⟩
theorem Inv.bk (I : Inv X pins σ H s) : ∀ b o, X.base.get? b = some o → s.heap.get? b = some o := fun b o e => (I.bs b o e).1
theorem Inv.mod (I : Inv X pins σ H s) : Mod X.K X.mg X.base := I.ok.mod
theorem Inv.kIn (I : Inv X pins σ H s) : X.K.In s.heap := I.ok.mod.kin.keeps I.bk
theorem Inv.lt (I : Inv X pins σ H s) : X.env.locals < s.heap.objs.size := let ⟨_, hn, _⟩ := I.loc; hn.lt
theorem Inv.sz (I : Inv X pins σ H s) : X.s₀.heap.objs.size ≤ s.heap.objs.size := Nat.le_trans I.ok.above (Nat.le_of_lt I.lt)
theorem Inv.nofs (I : Inv X pins σ H s) {a : Addr} (h : s.heap.objs.size ≤ a) : a ∉ X.fs := fun hb => by
  obtain ⟨_, o, ho, _⟩ := I.ok.funs.mem hb
  exact absurd (Nat.lt_of_lt_of_le (Heap.lt_size ho) (Nat.le_trans I.sz h)) (Nat.lt_irrefl _)
theorem Inv.cne (I : Inv X pins σ H s) : ∀ x c, X.env.cells.lookup x = some c → c ≠ X.env.locals := fun x c e z => by
  obtain ⟨v, o, ho, hd⟩ := I.cell x c e
  obtain ⟨m, ⟨o', es, ep, ho', hd', _⟩, _⟩ := I.loc
  rw [z, ho'] at ho; cases ho; rw [hd'] at hd; cases hd
theorem Inv.funs (I : Inv X pins σ H s) : s.heap.FunFrames X.base X.outer := by
  have all : ∀ (l : List Env), (∀ b ∈ frs l, b ∈ X.fs) → X.s₀.heap.FunFrames X.base l → s.heap.FunFrames X.base l := by
    intro l
    induction l with
    | nil => intro _ _; trivial
    | cons env r ih =>
      intro hs hl
      obtain ⟨hk, ⟨L, o, hf, hn, ho, hd⟩, hr⟩ := hl
      have hL : L ∈ X.fs := hs L (by unfold frs; rw [List.filterMap_cons, hf]; exact List.mem_cons_self)
      obtain ⟨sl, e⟩ := I.base.slot L o ho (I.ok.frf L hL) hL fun z => I.ok.exfs L z hL
      exact ⟨hk, ⟨L, _, hf, hn, e, hd⟩, ih (fun b hb => hs b (by unfold frs; rw [List.filterMap_cons, hf]; exact List.mem_cons_of_mem _ hb)) hr⟩
  exact all X.outer (fun _ hb => hb) I.ok.funs

/-- the frames that run, for a call -/
theorem Inv.stack (I : Inv X pins σ H s) : s.heap.FunFrames X.base X.stack := by
  rcases I.ok.stk with e | ⟨e, hf⟩
  · rw [e]; exact I.funs
  · rw [e]
    obtain ⟨m, hn, _⟩ := I.loc
    refine .cons (by rw [I.ok.kind]; decide) hf hn ?_ I.funs
    exact Heap.get?_none_of_le (Nat.le_trans I.ok.bsz I.ok.above)
theorem Inv.stkSub (I : Inv X pins σ H s) : ∀ b ∈ frs X.stack, b ∈ X.env.locals :: X.fs := fun b hb => by
  rcases I.ok.stk with e | ⟨e, hf⟩
  · rw [e] at hb; exact List.mem_cons_of_mem _ hb
  · rw [e] at hb
    unfold frs at hb
    rw [List.filterMap_cons, hf] at hb
    exact hb
theorem Inv.stkFree (I : Inv X pins σ H s) : ∀ b ∈ frs X.stack, H b = none := fun b hb => by
  rcases List.mem_cons.mp (I.stkSub b hb) with e | hb
  · rw [e]; exact I.free
  · obtain ⟨_, o, ho, _⟩ := I.ok.funs.mem hb
    exact I.base.free b o ho (I.ok.frf b hb) fun z => I.ok.exfs b z hb

/-- THE STEP: the untracked objects but the frame and the records at ch are kept (the callers' frames up to slots), the frame's map is kept, the new abstract heap is held -/
theorem Inv.step {g' : Array GenState} {t' : Nat} {d' : Drawn} {ch : List Addr} (I : Inv X pins σ H s)
    (hch : ∀ b ∈ ch, (b ∈ X.ex ∨ X.s₀.heap.objs.size ≤ b) ∧ b ≠ X.env.locals ∧ (∀ x c, X.env.cells.lookup x = some c → c ≠ b) ∧ ∀ p ∈ X.pn ++ pins, p.1 ≠ b)
    (keep : ∀ b o, b ≠ X.env.locals → b ∉ X.fs → b ∉ ch → s.heap.get? b = some o → H b = none → h'.get? b = some o)
    (slot : ∀ b o, b ≠ X.env.locals → b ∈ X.fs → b ∉ ch → s.heap.get? b = some o → H b = none → ∃ sl, h'.get? b = some { o with slots := sl }) (free : ∀ b o, b ∉ ch → s.heap.get? b = some o → H b = none → H' b = none)
    (there : ∀ b o, b ∉ ch → s.heap.get? b = some o → ∃ o', h'.get? b = some o')
    (tups : ∀ b xs, H b = some (.tup xs) → H' b = some (.tup xs)) (frzs : ∀ b o u, H b = some (.frz o u) → H' b = some (.frz o u)) (tbls : ∀ b ps, H b = some (.tbl ps) → ∃ more, H' b = some (.tbl (ps ++ more)))
    (ns : ∀ m, s.heap.Ns X.env.locals m → h'.Ns X.env.locals m) (hok : HOk X.prog X.w H' h') (hg : AllBare g') :
    Inv X pins σ H' { s with heap := h', gens := g', drawn := d', toks := t' } := by
  have neL : ∀ b o, X.s₀.heap.get? b = some o → b ≠ X.env.locals := fun b o e => Nat.ne_of_lt (Nat.lt_of_lt_of_le (Heap.lt_size e) I.ok.above)
  have neC : ∀ b o, X.s₀.heap.get? b = some o → b ∉ X.ex → b ∉ ch := fun b o e hx hb => by
    rcases (hch b hb).1 with z | z
    · exact hx z
    · exact absurd (Nat.lt_of_lt_of_le (Heap.lt_size e) z) (Nat.lt_irrefl _)
  have cellK : ∀ x c, X.env.cells.lookup x = some c → ∀ v, s.heap.IsCell c v → h'.IsCell c v := fun x c e v ⟨o, ho, hd⟩ => by
    have nch : c ∉ ch := fun z => (hch c z).2.2.1 x c e rfl
    by_cases hc : c ∈ X.fs
    · obtain ⟨sl, q⟩ := slot c o (I.cne x c e) hc nch ho (I.freeC x c e)
      exact ⟨_, q, hd⟩
    · exact ⟨o, keep c o (I.cne x c e) hc nch ho (I.freeC x c e), hd⟩
  refine ⟨I.ok, I.os, hg, ⟨fun b o e n hb hx => ?_, fun b o e n hb hx => ?_, fun b o e n hx => ?_, fun b o e hx => ?_, fun b xs e => tups b xs (I.base.tups b xs e), fun b o xs e => frzs b o xs (I.base.frzs b o xs e), fun b ps e => ?_⟩, ?_, fun x c e => ?_, ?_, fun x c e => ?_, fun p hp => ?_, hok, I.len⟩
  · exact keep b o (neL b o e) hb (neC b o e hx) (I.base.keep b o e n hb hx) (I.base.free b o e n hx)
  · obtain ⟨sl, e1⟩ := I.base.slot b o e n hb hx
    obtain ⟨sl', e2⟩ := slot b _ (neL b o e) hb (neC b o e hx) e1 (I.base.free b o e n hx)
    exact ⟨sl', e2⟩
  · obtain ⟨o', e1⟩ := I.base.there b o e hx
    exact free b o' (neC b o e hx) e1 (I.base.free b o e n hx)
  · obtain ⟨o', e1⟩ := I.base.there b o e hx
    exact there b o' (neC b o e hx) e1
  · obtain ⟨m1, e1⟩ := I.base.tbls b ps e
    obtain ⟨m2, e2⟩ := tbls b _ e1
    exact ⟨m1 ++ m2, by rw [e2, Array.append_assoc]⟩
  · obtain ⟨m, hn, hl⟩ := I.loc
    refine ⟨m, ns m hn, fun i x v e1 e2 e3 => ?_⟩
    obtain ⟨u, r, l⟩ := hl i x v e1 e2 e3
    refine ⟨u, r, ?_⟩
    rcases l with l | ⟨k, c, e, z⟩
    · exact .inl l
    · exact .inr ⟨k, c, e, cellK x c e _ z⟩
  · obtain ⟨v, z⟩ := I.cell x c e
    exact ⟨v, cellK x c e v z⟩
  · obtain ⟨m, ⟨o, _, _, ho, _⟩, _⟩ := I.loc
    exact free _ o (fun z => (hch _ z).2.1 rfl) ho I.free
  · obtain ⟨v, o, ho, hd⟩ := I.cell x c e
    exact free c o (fun z => (hch c z).2.2.1 x c e rfl) ho (I.freeC x c e)
  · obtain ⟨e, n, ne, nf, d⟩ := I.pin p hp
    have nch : p.1 ∉ ch := fun z => (hch p.1 z).2.2.2 p hp rfl
    exact ⟨keep p.1 p.2 ne nf nch e n, free p.1 p.2 nch e n, ne, nf, d⟩
/-- .. where the frame's own object is kept too -/
theorem Inv.un {t' : Nat} (I : Inv X pins σ H s) (u : Un X.fs [] H H' s.heap h') (hok : HOk X.prog X.w H' h') : Inv X pins σ H' { s with heap := h', toks := t' } := by
  obtain ⟨m, ⟨o, es, ep, ho, r⟩, _⟩ := id I.loc
  obtain ⟨sl, hL⟩ := u.any ho I.free (by simp)
  exact I.step (g' := s.gens) (d' := s.drawn) (ch := []) (fun _ z => nomatch z) (fun b o _ hb _ e n => u.keep b o e n hb (by simp)) (fun b o _ hb _ e n => u.slot b o e n hb (by simp)) (fun b o _ e n => u.free b o e n (by simp)) (fun b o _ e => u.there b o e (by simp)) u.tups u.frzs u.tbls (fun m' hm => by
    obtain ⟨o', es', ep', ho', r'⟩ := hm
    rw [ho] at ho'; cases ho'
    exact ⟨_, es', ep', hL, r'⟩) hok I.bare
/-- behind a call (or a comprehension's block): the slots of this frame may have changed too, the records at ch may have turned -/
theorem Inv.call {g' : Array GenState} {t' : Nat} {d' : Drawn} {ch : List Addr} (I : Inv X pins σ H s) (u : Un (frs X.stack) ch H H' s.heap h') (hok : HOk X.prog X.w H' h') (hg : AllBare g')
    (hch : ∀ b ∈ ch, (b ∈ X.ex ∨ X.s₀.heap.objs.size ≤ b) ∧ b ≠ X.env.locals ∧ (∀ x c, X.env.cells.lookup x = some c → c ≠ b) ∧ ∀ p ∈ X.pn ++ pins, p.1 ≠ b) :
    Inv X pins σ H' { s with heap := h', gens := g', drawn := d', toks := t' } := by
  obtain ⟨m, ⟨o, es, ep, ho, r⟩, _⟩ := id I.loc
  obtain ⟨sl, hL⟩ := u.any ho I.free fun z => (hch _ z).2.1 rfl
  exact I.step (ch := ch) hch (fun b o hL hb hc e n => u.keep b o e n (fun z => (List.mem_cons.mp (I.stkSub b z)).elim hL hb) hc) (fun b o _ _ hc e n => u.any e n hc) (fun b o hc e n => u.free b o e n hc) (fun b o hc e => u.there b o e hc) u.tups u.frzs u.tbls (fun m' hm => by
    obtain ⟨o', es', ep', ho', r'⟩ := hm
    rw [ho] at ho'; cases ho'
    exact ⟨_, es', ep', hL, r'⟩) hok hg
/-- an untracked record of ours (an iterator) has turned -/
theorem Inv.turned {t' : Nat} {it : Addr} (I : Inv X pins σ H s) (k : ∀ b o, b ≠ it → s.heap.get? b = some o → h'.get? b = some o) (hn : H it = none) (hL : it ≠ X.env.locals)
    (h1 : it ∈ X.ex ∨ X.s₀.heap.objs.size ≤ it) (h2 : ∀ x c, X.env.cells.lookup x = some c → c ≠ it) (h3 : ∀ p ∈ X.pn ++ pins, p.1 ≠ it) : Inv X pins σ H { s with heap := h', toks := t' } := by
  have nit : ∀ b u, H b = some u → b ≠ it := fun b u e z => by rw [z, hn] at e; cases e
  refine I.step (g' := s.gens) (d' := s.drawn) (ch := [it]) (fun b hb => ?_) (fun b o _ _ hc e _ => k b o (fun z => hc (by simp [z])) e) (fun b o _ _ hc e _ => ⟨o.slots, k b o (fun z => hc (by simp [z])) e⟩) (fun _ _ _ _ n => n)
    (fun b o hc e => ⟨o, k b o (fun z => hc (by simp [z])) e⟩) (fun _ _ e => e) (fun _ _ _ e => e) (fun b ps e => ⟨#[], by rw [e]; simp⟩) (fun m hm => ?_) (fun b u e => ?_) I.bare
  · have e : b = it := by simpa using hb
    subst e
    exact ⟨h1, hL, h2, h3⟩
  · obtain ⟨o, es, ep, ho, r⟩ := hm
    exact ⟨o, es, ep, k _ o (Ne.symm hL) ho, r⟩
  · refine (I.hok b u e).stay (fun c v hc q => k c v ?_ q) (fun _ q => q) fun _ _ q => q
    rcases hc with z | z
    · rw [z]; exact nit b u e
    · exact nit c _ z
theorem Inv.tok (I : Inv X pins σ H s) (t : Nat) : Inv X pins σ H { s with toks := t } := I.un (h' := s.heap) (t' := t) Un.refl I.hok
/-- all objects kept -/
theorem Inv.kept {t' : Nat} (I : Inv X pins σ H s) (k : ∀ b u, s.heap.get? b = some u → h'.get? b = some u) : Inv X pins σ H { s with heap := h', toks := t' } := I.un (Un.kept k) (I.hok.kept k)
/-- a new object laid and tracked -/
theorem Inv.laid {a : Addr} {o : HO} {t' : Nat} (I : Inv X pins σ H s) (k : ∀ b u, s.heap.get? b = some u → h'.get? b = some u) (hp : s.heap.objs.size ≤ a) (new : ObjOk X.prog X.w (upd H a o) h' a o) :
    Inv X pins σ (upd H a o) { s with heap := h', toks := t' } := I.un (Un.laid k hp (I.hok.fresh hp)) (I.hok.laid k hp new)
/-- an object written -/
theorem Inv.write {x e : Addr} {o : HO} {t' : Nat} (I : Inv X pins σ H s) (mu : Mut (H x)) (he : e = x ∨ H e = some (.own x)) (k : ∀ b u, b ≠ e → s.heap.get? b = some u → h'.get? b = some u) (heo : ∃ u, h'.get? e = some u)
    (new : ObjOk X.prog X.w (upd H x o) h' x o) : Inv X pins σ (upd H x o) { s with heap := h', toks := t' } := I.un (Un.write mu he k heo) (I.hok.write mu he k heo new)
/-- forgetting slots, pins -/
theorem Inv.weak {σ' : List (Option V)} (I : Inv X pins σ H s) (hl : σ'.length = σ.length) (w : ∀ (i : Nat) v, σ'[i]? = some (some v) → σ[i]? = some (some v)) : Inv X pins σ' H s :=
  ⟨I.ok, I.os, I.bare, I.base, let ⟨m, hn, hl'⟩ := I.loc; ⟨m, hn, fun i x v e1 e2 e3 => hl' i x v e1 (w i v e2) e3⟩, I.cell, I.free, I.freeC, I.pin, I.hok, hl.trans I.len⟩
theorem Inv.pins_of {pins' : List (Addr × Obj)} (I : Inv X pins σ H s) (h : ∀ p ∈ pins', s.heap.get? p.1 = some p.2 ∧ H p.1 = none ∧ p.1 ≠ X.env.locals ∧ p.1 ∉ X.fs ∧ ∀ v, p.2.data ≠ .cell v) : Inv X pins' σ H s :=
  ⟨I.ok, I.os, I.bare, I.base, I.loc, I.cell, I.free, I.freeC, fun p hp => (List.mem_append.mp hp).elim (fun z => I.pin p (List.mem_append_left _ z)) (h p), I.hok, I.len⟩

theorem nodup_ix {N : List Str} (hN : N.Nodup) {i j : Nat} {x : Str} (a : N[i]? = some x) (b : N[j]? = some x) : i = j := by
  obtain ⟨h1, e1⟩ := List.getElem?_eq_some_iff.mp a
  obtain ⟨h2, e2⟩ := List.getElem?_eq_some_iff.mp b
  exact (List.getElem_inj hN).mp (e1.trans e2.symm)

/-- a name is stored; what changed -/
theorem store_ok2 {M : Model} {A : Around} {E : Value → Shared → Prop} {i : Nat} {x : Str} {v : V} {u : Value} {Q : Unit → Shared → Prop} (I : Inv X pins σ H s) (hN : X.N.Nodup) (hi : X.N[i]? = some x) (hx : Loc X.env.scope x) (r : RelV v u)
    (h : ∀ s', Inv X pins (σ.set i (some v)) H s' → (∃ a, Heap.SameBut a s.heap s'.heap ∧ (a = X.env.locals ∨ X.env.cells.lookup x = some a)) → Q () s') (hf : X.fn x = true ∨ X.env.scope.names.lookup x = some .local := by first | exact .inl rfl | exact .inr rfl | assumption) : wpAny M A (storeName X.env x u) Q E s := by
  obtain ⟨m, hn, hl⟩ := id I.loc
  have hcls : (X.env.scope.kind == .class || (X.env.scope.kind == .module && X.env.locals != X.env.globals)) = false := by rw [I.ok.kind]; rfl
  have hiσ : i < σ.length := by rw [I.len]; exact (List.getElem?_eq_some_iff.mp hi).1
  have cne := I.cne
  have tracked : ∀ {a : Addr} {h' : Heap}, (∃ o, s.heap.get? a = some o ∧ H a = none) → Heap.SameBut a s.heap h' → HOk X.prog X.w H h' := fun {a h'} ha hs b ob e => by
    obtain ⟨_, _, hfree⟩ := ha
    refine (I.hok b ob e).stay (fun c w' hc q => (hs.2 c ?_).trans q) (fun _ q => q) fun _ _ q => q
    rintro rfl
    rcases hc with rfl | hc
    · rw [hfree] at e; cases e
    · rw [hfree] at hc; cases hc
  rcases hx with hk | hk
  · refine wpAny_storeName_local hk hn (fun h' hn' hs => ?_) hcls
    obtain ⟨oL, _, _, hoL, _⟩ := id hn
    refine h _ ⟨I.ok, I.os, I.bare, ⟨fun b o e n hb hx => ?_, fun b o e n hb hx => ?_, I.base.free, fun b o e hx => ?_, I.base.tups, I.base.frzs, I.base.tbls⟩, ⟨_, hn', fun j y v' e1 e2 e3 => ?_⟩, fun y c e => ?_, I.free, I.freeC, fun p hp => ?_, tracked ⟨oL, hoL, I.free⟩ hs, by simpa using I.len⟩ ⟨_, hs, .inl rfl⟩
    · exact (hs.2 b (Nat.ne_of_lt (Nat.lt_of_lt_of_le (Heap.lt_size e) I.ok.above))).trans (I.base.keep b o e n hb hx)
    · obtain ⟨sl, e1⟩ := I.base.slot b o e n hb hx
      exact ⟨sl, (hs.2 b (Nat.ne_of_lt (Nat.lt_of_lt_of_le (Heap.lt_size e) I.ok.above))).trans e1⟩
    · obtain ⟨o', e1⟩ := I.base.there b o e hx
      exact ⟨o', (hs.2 b (Nat.ne_of_lt (Nat.lt_of_lt_of_le (Heap.lt_size e) I.ok.above))).trans e1⟩
    · by_cases hj : j = i
      · subst hj
        rw [hi] at e1; cases e1
        rw [List.getElem?_set_self hiσ] at e2
        cases e2
        exact ⟨u, r, .inl ⟨hk, by simp⟩⟩
      · rw [List.getElem?_set_ne (Ne.symm hj)] at e2
        obtain ⟨u', r', q⟩ := hl j y v' e1 e2 e3
        refine ⟨u', r', ?_⟩
        rcases q with ⟨k, e⟩ | ⟨k, c, e, z⟩
        · refine .inl ⟨k, ?_⟩
          have : y ≠ x := fun e => hj (nodup_ix hN e1 (e ▸ hi))
          simp [this, e]
        · exact .inr ⟨k, c, e, z.sameBut hs (cne y c e)⟩
    · obtain ⟨w', z⟩ := I.cell y c e
      exact ⟨w', z.sameBut hs (cne y c e)⟩
    · obtain ⟨e, n, ne, nf, d⟩ := I.pin p hp
      exact ⟨(hs.2 p.1 ne).trans e, n, ne, nf, d⟩
  · have hfn : X.fn x = true := by
      rcases hf with z | z
      · exact z
      · rw [z] at hk; cases hk
    obtain ⟨c, hc⟩ := I.ok.has x (.inl hk)
    obtain ⟨w', z⟩ := I.cell x c hc
    refine wpAny_storeName_cell I.ok.kind hk hc z (fun h' hc' hs => ?_)
    obtain ⟨oc, hoc, hocd⟩ := id z
    refine h { s with heap := h' } ⟨I.ok, I.os, I.bare, ⟨fun b o e n hb hx => ?_, fun b o e n hb hx => ?_, I.base.free, fun b o e hx => ?_, I.base.tups, I.base.frzs, I.base.tbls⟩, ⟨m, hn.sameBut hs (Ne.symm (cne x c hc)), fun j y v' e1 e2 e3 => ?_⟩, fun y c' e => ?_, I.free, I.freeC, fun p hp => ?_, tracked ⟨oc, hoc, I.freeC x c hc⟩ hs, by simpa using I.len⟩ ⟨c, hs, .inr hc⟩
    · exact (hs.2 b (Nat.ne_of_lt (Nat.lt_of_lt_of_le (Heap.lt_size e) (I.ok.cab x c hfn hc)))).trans (I.base.keep b o e n hb hx)
    · obtain ⟨sl, e1⟩ := I.base.slot b o e n hb hx
      exact ⟨sl, (hs.2 b (Nat.ne_of_lt (Nat.lt_of_lt_of_le (Heap.lt_size e) (I.ok.cab x c hfn hc)))).trans e1⟩
    · obtain ⟨o', e1⟩ := I.base.there b o e hx
      exact ⟨o', (hs.2 b (Nat.ne_of_lt (Nat.lt_of_lt_of_le (Heap.lt_size e) (I.ok.cab x c hfn hc)))).trans e1⟩
    · by_cases hj : j = i
      · subst hj
        rw [hi] at e1; cases e1
        rw [List.getElem?_set_self hiσ] at e2
        cases e2
        exact ⟨u, r, .inr ⟨.inl hk, c, hc, hc'⟩⟩
      · rw [List.getElem?_set_ne (Ne.symm hj)] at e2
        obtain ⟨u', r', q⟩ := hl j y v' e1 e2 e3
        refine ⟨u', r', ?_⟩
        rcases q with q | ⟨k, c', e, z'⟩
        · exact .inl q
        · refine .inr ⟨k, c', e, z'.sameBut hs ?_⟩
          rintro rfl
          exact hj (nodup_ix hN e1 (I.ok.inj _ _ _ e hc ▸ hi))
    · by_cases hcc : c' = c
      · subst hcc; exact ⟨_, hc'⟩
      · obtain ⟨w2, z2⟩ := I.cell y c' e
        exact ⟨w2, z2.sameBut hs hcc⟩
    · obtain ⟨e, n, ne, nf, d⟩ := I.pin p hp
      refine ⟨(hs.2 p.1 ?_).trans e, n, ne, nf, d⟩
      intro q
      rw [q, hoc] at e
      have q' : oc = p.2 := Option.some.inj e
      exact d w' (by rw [← q']; exact hocd)
theorem store_ok {M : Model} {A : Around} {E : Value → Shared → Prop} {i : Nat} {x : Str} {v : V} {u : Value} {Q : Unit → Shared → Prop} (I : Inv X pins σ H s) (hN : X.N.Nodup) (hi : X.N[i]? = some x) (hx : Loc X.env.scope x) (r : RelV v u)
    (h : ∀ s', Inv X pins (σ.set i (some v)) H s' → Q () s') (hf : X.fn x = true ∨ X.env.scope.names.lookup x = some .local := by first | exact .inl rfl | exact .inr rfl | assumption) : wpAny M A (storeName X.env x u) Q E s :=
  store_ok2 I hN hi hx r (fun s' I' _ => h s' I') hf
/-- behind a call or a block, the state as it is -/
theorem Inv.call' {s' : Shared} {ch : List Addr} (I : Inv X pins σ H s) (ho : s'.os = s.os) (u : Un (frs X.stack) ch H H' s.heap s'.heap) (hok : HOk X.prog X.w H' s'.heap) (hg : AllBare s'.gens)
    (hch : ∀ b ∈ ch, (b ∈ X.ex ∨ X.s₀.heap.objs.size ≤ b) ∧ b ≠ X.env.locals ∧ (∀ x c, X.env.cells.lookup x = some c → c ≠ b) ∧ ∀ p ∈ X.pn ++ pins, p.1 ≠ b) : Inv X pins σ H' s' := by
  obtain ⟨h', g', d', t', o'⟩ := s'
  have e : o' = s.os := ho
  subst e
  exact I.call (g' := g') (t' := t') (d' := d') u hok hg hch
end

/-! ### the judgements -/
/-- an exception: its class, its own dict's address (where it has one), the abstract heap behind it -/
abbrev XK := Value → Option Addr → Hp → Prop
abbrev St := List (Option V)
abbrev VK := V → Hp → Prop
/-- an expression's reading; a test's; an argument list's -/
abbrev TE := St → Hp → VK → Prop
abbrev TT := St → Hp → (Bool → Hp → Prop) → Prop
abbrev TA := St → Hp → (List V → Hp → Prop) → Prop
/-- what is wanted behind a statement -/
structure Ends where
  nx : St → Hp → Prop
  rt : VK
  bk : St → Hp → Prop := fun _ _ => False
  ct : St → Hp → Prop := fun _ _ => False
abbrev TS := Ends → St → Hp → Prop

def EP (X : Cx) (pins : List (Addr × Obj)) (σ : St) (Q : VK) (u : Value) (s' : Shared) : Prop := ∃ v H', Inv X pins σ H' s' ∧ RelV v u ∧ Q v H'
def TP (X : Cx) (pins : List (Addr × Obj)) (σ : St) (Q : Bool → Hp → Prop) (b : Bool) (s' : Shared) : Prop := ∃ H', Inv X pins σ H' s' ∧ Q b H'
def AP (X : Cx) (pins : List (Addr × Obj)) (σ : St) (Q : List V → Hp → Prop) (us : List Value) (s' : Shared) : Prop := ∃ vs H', Inv X pins σ H' s' ∧ Vals vs us ∧ Q vs H'
def SP (X : Cx) (pins : List (Addr × Obj)) (D : Ends) (f : Flow) (s' : Shared) : Prop :=
  match f with
  | .next => ∃ σ' H', Inv X pins σ' H' s' ∧ D.nx σ' H'
  | .brk => ∃ σ' H', Inv X pins σ' H' s' ∧ D.bk σ' H'
  | .cont => ∃ σ' H', Inv X pins σ' H' s' ∧ D.ct σ' H'
  | .ret u => ∃ v σ' H', Inv X pins σ' H' s' ∧ RelV v u ∧ D.rt v H'

def PE (X : Cx) (e : Expr) (t : TE) : Prop :=
  ∀ (pins : List (Addr × Obj)) (s : Shared) (σ : St) (H : Hp) (Q : VK), Inv X pins σ H s → t σ H Q → wpAny (model X.prog X.w) X.A (eval e X.env) (EP X pins σ Q) X.xe s
def PT (X : Cx) (e : Expr) (t : TT) : Prop :=
  ∀ (pins : List (Addr × Obj)) (s : Shared) (σ : St) (H : Hp) (Q : Bool → Hp → Prop), Inv X pins σ H s → t σ H Q → wpAny (model X.prog X.w) X.A (isTrue e X.env (eval e X.env)) (TP X pins σ Q) X.xe s
/-- a test whatever its 'whole' is (and, or) -/
def PW (X : Cx) (e : Expr) (t : TT) : Prop :=
  ∀ (whole : Sem Value) (pins : List (Addr × Obj)) (s : Shared) (σ : St) (H : Hp) (Q : Bool → Hp → Prop), Inv X pins σ H s → t σ H Q → wpAny (model X.prog X.w) X.A (isTrue e X.env whole) (TP X pins σ Q) X.xe s
theorem PW.pt {X : Cx} {e : Expr} {t : TT} (h : PW X e t) : PT X e t := h _
/-- an argument list (no star), from the left -/
def PA (X : Cx) (es : List Expr) (t : TA) : Prop :=
  ∀ (pos : Pos) (pins : List (Addr × Obj)) (s : Shared) (σ : St) (H : Hp) (Q : List V → Hp → Prop), Inv X pins σ H s → t σ H Q → wpAny (model X.prog X.w) X.A (spliced (backTo pos (starEach es X.env))) (AP X pins σ Q) X.xe s
def PS (X : Cx) (st : Stmt) (t : TS) : Prop :=
  ∀ (pins : List (Addr × Obj)) (s : Shared) (σ : St) (H : Hp) (D : Ends), Inv X pins σ H s → t D σ H → wpAny (model X.prog X.w) X.A (exec st X.env) (SP X pins D) X.xe s
def PSs (X : Cx) (st : List Stmt) (t : TS) : Prop :=
  ∀ (pins : List (Addr × Obj)) (s : Shared) (σ : St) (H : Hp) (D : Ends), Inv X pins σ H s → t D σ H → wpAny (model X.prog X.w) X.A (execs st X.env) (SP X pins D) X.xe s
/-- weaken the end -/
theorem thn {α : Type} {t : Sem α} {Q Q' : α → Shared → Prop} {M : Model} {A : Around} {E : Value → Shared → Prop} {s : Shared} (h : wpAny M A t Q E s) (hQ : ∀ a s, Q a s → Q' a s) : wpAny M A t Q' E s := wpAny_mono h hQ fun _ _ x => x
end L2

namespace L2
open PySem PySem.Spec PyProof.Rows
section
variable {X : Cx}

/-! ### names and constants -/
def tVar (i : Nat) : TE := fun σ H Q => ∃ v, σ[i]? = some (some v) ∧ Q v H
def tC (v : V) : TE := fun _ H Q => Q v H
theorem pe_var {i : Nat} {x : Str} {pos : Pos} (hN : X.N[i]? = some x) (hv : Vis X.env.scope x) (hd : (x == ("__debug__" : Str)) = false := by decide) (hcd : (x == ("__classdict__" : Str)) = false := by decide) : PE X (.Name x pos) (tVar i) := by
  intro pins s σ H Q I h
  obtain ⟨v, e, h⟩ := h
  obtain ⟨m, hn, hl⟩ := I.loc
  obtain ⟨u, r, l⟩ := hl i x v hN e hv
  have fin : EP X pins σ Q u s := ⟨v, H, I, r, h⟩
  rcases l with ⟨hk, hm⟩ | ⟨hk, c, hc, hcell⟩
  · exact wpAny_Name (wpAny_loadName_local I.ok.kind hk hn hm fin) hd
  · rcases hk with hk | hk
    · exact wpAny_Name (wpAny_loadName_cell I.ok.kind hk hc hcell fin) hd
    · exact wpAny_Name (wpAny_loadName_free I.ok.kind hk hc hcell fin hcd) hd
theorem pe_int {i j pos} : PE X (.Constant (.int i) j pos) (tC (.int i)) := fun _ _ _ H _ I h => wpAny_Constant_int ⟨.int i, H, I.tok _, ⟨_, rfl⟩, h⟩
theorem pe_bl {b j pos} : PE X (.Constant (.bool b) j pos) (tC (.bl b)) := fun _ _ _ H _ I h => Constant_bool ⟨.bl b, H, I, rfl, h⟩
theorem pe_non {j pos} : PE X (.Constant .none j pos) (tC .non) := fun _ _ _ H _ I h => Constant_none ⟨.non, H, I, rfl, h⟩
theorem pe_str {x j pos} : PE X (.Constant (.str x) j pos) (tC (.str x)) := fun _ _ _ H _ I h => Calls.Constant_str ⟨.str x, H, I.tok _, ⟨_, rfl⟩, h⟩

/-- a global name of the def -/
def Gl (X : Cx) (x : Str) : Prop := X.env.kindOf x = some .globalImplicit
theorem ld_glob {E : Value → Shared → Prop} {pins : List (Addr × Obj)} {s : Shared} {σ : St} {H : Hp} {x : Str} {u : Value} {pos : Pos} {Q : Value → Shared → Prop} (I : Inv X pins σ H s) (hg : Gl X x) (hm : X.mg x = some u) (h : Q u s)
    (hd : (x == ("__debug__" : Str)) = false := by decide) : wpAny (model X.prog X.w) X.A (eval (.Name x pos) X.env) Q E s :=
  Calls.Name_function_global I.ok.kind hg (Calls.loadGlobal_global (by rw [I.ok.glob]; exact I.mod.glob.keeps I.bk) hm h) hd
theorem ld_blt {E : Value → Shared → Prop} {pins : List (Addr × Obj)} {s : Shared} {σ : St} {H : Hp} {x : Str} {u : Value} {pos : Pos} {Q : Value → Shared → Prop} (I : Inv X pins σ H s) (hg : Gl X x) (hm : X.mg x = none) (hv : bootBuiltins x = some u) (h : Q u s)
    (hn : x ≠ "__name__" := by decide) (hd : (x == ("__debug__" : Str)) = false := by decide) : wpAny (model X.prog X.w) X.A (eval (.Name x pos) X.env) Q E s := by
  obtain ⟨mb, h1, h2⟩ := I.mod.blt
  exact Calls.Name_function_global I.ok.kind hg (Calls.loadGlobal_builtin (by rw [I.ok.glob]; exact I.mod.glob.keeps I.bk) hm (by rw [I.ok.blt]; exact h1.keeps I.bk) ((h2 x hn).trans hv) h) hd
/-! ### arithmetic -/
variable {a b : Expr} {ta tb : TE} {pos : Pos}
/-! ### comparisons -/
def PC (X : Cx) (op : CmpOp) (a b : Expr) (t : TE) : Prop :=
  ∀ (pins : List (Addr × Obj)) (s : Shared) (σ : St) (H : Hp) (Q : VK), Inv X pins σ H s → t σ H Q →
    wpAny (model X.prog X.w) X.A (eval a X.env) (fun v s₁ => wpAny (model X.prog X.w) X.A (eval b X.env) (fun u s₂ => wpAny (model X.prog X.w) X.A (compareOp op v u) (EP X pins σ Q) X.xe s₂) X.xe s₁) X.xe s
/-- a comparison as a value, as a test -/
def tB (t : TE) : TT := fun σ H Q => t σ H fun x H1 => ∃ c, x = .bl c ∧ Q c H1
/-- an expression whose value is a bool, as a test -/
theorem pt_val {e : Expr} {t : TE} (h : PE X e t) (he : ∀ whole, isTrue e X.env whole = (do let v ← whole; standAt e.pos; holding [v] (truthy v)) := by intro _; rfl) : PT X e (tB t) := by
  intro pins s σ H Q I hw
  refine isTrue_plain (thn (h pins s σ H _ I hw) fun v s1 ⟨x, H1, I1, r1, q1⟩ => ?_) (he _)
  obtain ⟨d, rfl, q⟩ := q1
  cases r1
  exact wpAny_truthy_bool ⟨H1, I1, q⟩

/-! ### and, or, not -/
variable {tA tB' : TT} {rest : List Expr}
def tAnd (t u : TT) : TT := fun σ H Q => t σ H fun c H1 => if c = true then u σ H1 Q else Q false H1
def tOr (t u : TT) : TT := fun σ H Q => t σ H fun c H1 => if c = true then Q true H1 else u σ H1 Q
def tNot (t : TT) : TT := fun σ H Q => t σ H fun c H1 => Q (!c) H1
theorem pw_and1 (ha : PT X a tA) : PW X (.BoolOp .And [a] pos) tA := by
  intro wh pins s σ H Q I h
  refine isTrue_and (thn (ha pins s σ H Q I h) fun c s1 e => ?_)
  cases c with
  | true => exact isTrue_and_nil e
  | false => exact e
theorem pw_or1 (ha : PT X a tA) : PW X (.BoolOp .Or [a] pos) tA := by
  intro wh pins s σ H Q I h
  refine isTrue_or (thn (ha pins s σ H Q I h) fun c s1 e => ?_)
  cases c with
  | false => exact isTrue_or_nil e
  | true => exact e
theorem pw_and (ha : PT X a tA) (hb : PW X (.BoolOp .And (b :: rest) pos) tB') : PW X (.BoolOp .And (a :: b :: rest) pos) (tAnd tA tB') := by
  intro wh pins s σ H Q I h
  refine isTrue_and (thn (ha pins s σ H _ I h) fun c s1 ⟨H1, I1, q1⟩ => ?_)
  cases c with
  | true => exact hb wh pins s1 σ H1 Q I1 q1
  | false => exact ⟨H1, I1, q1⟩
theorem pw_or (ha : PT X a tA) (hb : PW X (.BoolOp .Or (b :: rest) pos) tB') : PW X (.BoolOp .Or (a :: b :: rest) pos) (tOr tA tB') := by
  intro wh pins s σ H Q I h
  refine isTrue_or (thn (ha pins s σ H _ I h) fun c s1 ⟨H1, I1, q1⟩ => ?_)
  cases c with
  | true => exact ⟨H1, I1, q1⟩
  | false => exact hb wh pins s1 σ H1 Q I1 q1
theorem pt_not (ha : PT X a tA) : PT X (.UnaryOp .Not a pos) (tNot tA) := by
  intro pins s σ H Q I h
  exact isTrue_not (ha pins s σ H (fun c H1 => Q (!c) H1) I h)
/-- .. as values (bools) -/
def tAndV (ta tb : TE) : TE := fun σ H Q => ta σ H fun x H1 => ∃ c, x = .bl c ∧ if c = true then tb σ H1 Q else Q (.bl false) H1
def tOrV (ta tb : TE) : TE := fun σ H Q => ta σ H fun x H1 => ∃ c, x = .bl c ∧ if c = true then Q (.bl true) H1 else tb σ H1 Q
theorem pe_one {op} {t : TE} (h : PE X a t) : PE X (.BoolOp op [a] pos) t := fun pins s σ H Q I hw => BoolOp_one (h pins s σ H Q I hw)
theorem pe_and (ha : PE X a ta) (hb : PE X (.BoolOp .And (b :: rest) pos) tb) : PE X (.BoolOp .And (a :: b :: rest) pos) (tAndV ta tb) := by
  intro pins s σ H Q I h
  refine BoolOp_and (thn (ha pins s σ H _ I h) fun v s1 ⟨x, H1, I1, r1, q1⟩ => ?_)
  obtain ⟨c, rfl, q1⟩ := q1
  cases r1
  refine wpAny_truthy_bool ?_
  cases c with
  | true => exact hb pins s1 σ H1 Q I1 q1
  | false => exact ⟨.bl false, H1, I1, rfl, q1⟩
theorem pe_or (ha : PE X a ta) (hb : PE X (.BoolOp .Or (b :: rest) pos) tb) : PE X (.BoolOp .Or (a :: b :: rest) pos) (tOrV ta tb) := by
  intro pins s σ H Q I h
  refine BoolOp_or (thn (ha pins s σ H _ I h) fun v s1 ⟨x, H1, I1, r1, q1⟩ => ?_)
  obtain ⟨c, rfl, q1⟩ := q1
  cases r1
  refine wpAny_truthy_bool ?_
  cases c with
  | false => exact hb pins s1 σ H1 Q I1 q1
  | true => exact ⟨.bl true, H1, I1, rfl, q1⟩
/-- a if t else b -/
def tIf (t : TT) (ta tb : TE) : TE := fun σ H Q => t σ H fun c H1 => if c = true then ta σ H1 Q else tb σ H1 Q
theorem pe_ifExp {c : Expr} (hc : PT X c tA) (ha : PE X a ta) (hb : PE X b tb) : PE X (.IfExp c a b pos) (tIf tA ta tb) := by
  intro pins s σ H Q I h
  refine wpAny_IfExp (thn (hc pins s σ H _ I h) fun d s1 ⟨H1, I1, q1⟩ => ?_)
  cases d with
  | true => exact ha pins s1 σ H1 Q I1 q1
  | false => exact hb pins s1 σ H1 Q I1 q1
end
end L2

namespace L2
open PySem PySem.Spec PyProof.Rows

/-! ### a list, a tuple that is read: tracked, frozen, or an object of the module -/
def SqL (K : PySem.W.Frag) (H : Hp) (a : Addr) (xs : List V) : Prop :=
  Rd H a (.lst xs) ∨
    ∃ (o : Obj) (its : Array Value) (n : Nat), K.lookup a = some o ∧ o.cls = .type "list" ∧ o.dict = none ∧ o.data = .seq its n ∧ its.size ≤ sizeLine ∧ Vals xs its.toList
def SqT (K : PySem.W.Frag) (H : Hp) (a : Addr) (xs : List V) : Prop :=
  Rd H a (.tup xs) ∨
    ∃ (o : Obj) (its : Array Value) (n : Nat), K.lookup a = some o ∧ o.cls = .type "tuple" ∧ o.data = .seq its n ∧ its.size ≤ sizeLine ∧ Vals xs its.toList
def absV : Value → Option V
  | .none => some .non
  | .bool b => some (.bl b)
  | .int i _ => some (.int i)
  | .str x _ => some (.str x)
  | .bytes b _ => some (.byt b)
  | .float b _ => some (.flt b)
  | .ref a => some (.ref a)
  | .type n => some (.ty n)
  | _ => none
theorem RelV.abs {x : V} {u : Value} (r : RelV x u) : absV u = some x := by
  cases x with
  | non => cases r; rfl
  | bl _ => cases r; rfl
  | int _ => obtain ⟨t, rfl⟩ := r; rfl
  | str _ => obtain ⟨t, rfl⟩ := r; rfl
  | byt _ => obtain ⟨t, rfl⟩ := r; rfl
  | flt _ => obtain ⟨t, rfl⟩ := r; rfl
  | ref _ => cases r; rfl
  | ty _ => cases r; rfl
theorem RelV.inj {x y : V} {u : Value} (r : RelV x u) (q : RelV y u) : x = y := Option.some.inj (r.abs.symm.trans q.abs)
theorem Vals.inj : ∀ {xs ys : List V} {us : List Value}, Vals xs us → Vals ys us → xs = ys
  | _, _, _, .nil, .nil => rfl
  | _, _, _, .cons r t, .cons r' t' => by rw [r.inj r', Vals.inj t t']
section
variable {X : Cx} {pins : List (Addr × Obj)} {σ : St} {H : Hp} {s : Shared} {a : Addr} {xs ys : List V}
theorem SqL.of {K : PySem.W.Frag} (h : H a = some (.lst xs)) : SqL K H a xs := .inl (.inl h)
theorem SqT.of {K : PySem.W.Frag} (h : H a = some (.tup xs)) : SqT K H a xs := .inl (.inl h)
theorem Inv.list (I : Inv X pins σ H s) (h : SqL X.K H a xs) : ∃ its : List Value, Vals xs its ∧ PlainL s.heap a its.toArray ∧ xs.length ≤ sizeLine := by
  rcases h with h | ⟨o, its, n, hk, hc, hd, hs, hz, r⟩
  · obtain ⟨z, its, n, r, e⟩ := h.ok I.hok
    exact ⟨its, r, ⟨_, n, e, rfl, rfl, rfl⟩, z⟩
  · refine ⟨its.toList, r, ⟨o, n, I.kIn a o hk, hc, hd, by simpa using hs⟩, ?_⟩
    have e := r.length
    simp only [Array.length_toList] at e
    omega
theorem Inv.tuple (I : Inv X pins σ H s) (h : SqT X.K H a xs) : ∃ its : List Value, Vals xs its ∧ IsTup s.heap a its.toArray ∧ xs.length ≤ sizeLine := by
  rcases h with h | ⟨o, its, n, hk, hc, hs, hz, r⟩
  · obtain ⟨z, its, r, p⟩ := h.ok I.hok
    exact ⟨its, r, p, z⟩
  · refine ⟨its.toList, r, ⟨o, I.kIn a o hk, hc, n, by simpa using hs⟩, ?_⟩
    have e := r.length
    simp only [Array.length_toList] at e
    omega
theorem Inv.list_inj (I : Inv X pins σ H s) (h : SqL X.K H a xs) (h' : SqL X.K H a ys) : xs = ys := by
  obtain ⟨its, r, ⟨o, n, e, _, _, d⟩, _⟩ := I.list h
  obtain ⟨its', r', ⟨o', n', e', _, _, d'⟩, _⟩ := I.list h'
  rw [e] at e'; cases e'
  rw [d] at d'
  injection d' with d1 _
  have : its = its' := by simpa using congrArg Array.toList d1
  subst this
  exact r.inj r'
end

/-! ### another wish about exceptions -/
abbrev Cx.wish (X : Cx) (E : Value → Shared → Prop) : Cx := { X with xe := E }
/-- no exception leaves -/
abbrev Cx.nox (X : Cx) : Cx := X.wish fun _ _ => False
theorem Cx.Ok.wish {X : Cx} (ok : X.Ok) (E : Value → Shared → Prop) : (X.wish E).Ok :=
  ⟨ok.mod, ok.kind, ok.glob, ok.blt, ok.above, ok.inj, ok.has, ok.cab, ok.hd, ok.frames, ok.stk, ok.exf, ok.bs, ok.bsz, ok.noex, ok.exfs, ok.funs, ok.frf⟩
theorem Cx.Ok.unwish {X : Cx} {E : Value → Shared → Prop} (ok : (X.wish E).Ok) : X.Ok :=
  ⟨ok.mod, ok.kind, ok.glob, ok.blt, ok.above, ok.inj, ok.has, ok.cab, ok.hd, ok.frames, ok.stk, ok.exf, ok.bs, ok.bsz, ok.noex, ok.exfs, ok.funs, ok.frf⟩
section
variable {X : Cx} {pins : List (Addr × Obj)} {σ : St} {H : Hp} {s : Shared} {E : Value → Shared → Prop}
theorem Inv.wish (I : Inv X pins σ H s) (E : Value → Shared → Prop) : Inv (X.wish E) pins σ H s := ⟨I.ok.wish E, I.os, I.bare, I.base, I.loc, I.cell, I.free, I.freeC, I.pin, I.hok, I.len⟩
theorem Inv.unwish (I : Inv (X.wish E) pins σ H s) : Inv X pins σ H s := ⟨I.ok.unwish, I.os, I.bare, I.base, I.loc, I.cell, I.free, I.freeC, I.pin, I.hok, I.len⟩
theorem SP.unwish {D : Ends} {f : Flow} {s' : Shared} (h : SP (X.wish E) pins D f s') : SP X pins D f s' := by
  cases f with
  | next => obtain ⟨σ', H', I, q⟩ := h; exact ⟨σ', H', I.unwish, q⟩
  | brk => obtain ⟨σ', H', I, q⟩ := h; exact ⟨σ', H', I.unwish, q⟩
  | cont => obtain ⟨σ', H', I, q⟩ := h; exact ⟨σ', H', I.unwish, q⟩
  | ret u => obtain ⟨v, σ', H', I, r, q⟩ := h; exact ⟨v, σ', H', I.unwish, r, q⟩
theorem PSs.nox {st : List Stmt} {t : TS} (h : PSs X.nox st t) : PSs X st t := fun pins s σ H D I hw =>
  wpAny_mono (h pins s σ H D (I.wish _) hw) (fun _ _ q => q.unwish) fun _ _ z => False.elim z
end

/-! ### blocks and small statements -/
section
variable {X : Cx} {st : Stmt} {rest : List Stmt} {t u : TS} {e : Expr} {te : TE} {pos : Pos}
def tNext : TS := fun D σ H => D.nx σ H
def tSeq (t u : TS) : TS := fun D σ H => t { D with nx := u D } σ H
theorem pss_nil : PSs X [] tNext := fun _ _ σ H _ I h => wpAny_execs_nil ⟨σ, H, I, h⟩
theorem pss_cons (h1 : PS X st t) (h2 : PSs X rest u) : PSs X (st :: rest) (tSeq t u) := by
  intro pins s σ H D I h
  refine wpAny_execs_cons (thn (h1 pins s σ H { D with nx := u D } I h) fun f s1 q => ?_)
  cases f with
  | next =>
    obtain ⟨σ', H', I', q⟩ := q
    exact h2 pins s1 σ' H' D I' q
  | ret v => exact q
  | brk => exact q
  | cont => exact q
theorem pss_one (h1 : PS X st t) : PSs X [st] t := by
  intro pins s σ H D I h
  refine wpAny_execs_cons (thn (h1 pins s σ H D I h) fun f s1 q => ?_)
  cases f with
  | next => exact wpAny_execs_nil q
  | ret v => exact q
  | brk => exact q
  | cont => exact q
/-- in a def's body nothing is shown -/
theorem Inv.quiet {pins : List (Addr × Obj)} {σ : St} {H : Hp} {s : Shared} (I : Inv X pins σ H s) : interactive X.env = false := by simp [interactive, I.ok.kind]
/-- an expression whose value is dropped -/
def tDrop (te : TE) : TS := fun D σ H => te σ H fun _ H1 => D.nx σ H1
theorem ps_expr (he : PE X e te) (hs : swapsWith e none pos.line X.env = pure false := by rfl) : PS X (.Expr e pos) (tDrop te) := by
  intro pins s σ H D I h
  exact wpAny_Expr_any (thn (he pins s σ H _ I h) fun v s1 ⟨x, H1, I1, r1, q1⟩ => ⟨σ, H1, I1, q1⟩) I.quiet hs
def tRet (te : TE) : TS := fun D σ H => te σ H D.rt
theorem ps_ret (he : PE X e te) : PS X (.Return (some e) pos) (tRet te) := by
  intro pins s σ H D I h
  exact wpAny_Return_some (thn (he pins s σ H _ I h) fun v s1 ⟨x, H1, I1, r1, q1⟩ => ⟨x, σ, H1, I1, r1, q1⟩)
def tIfS (c : TT) (t u : TS) : TS := fun D σ H => c σ H fun b H1 => if b = true then t D σ H1 else u D σ H1
theorem ps_if {c : Expr} {a b : List Stmt} {tc : TT} (hc : PT X c tc) (ha : PSs X a t) (hb : PSs X b u) : PS X (.If c a b pos) (tIfS tc t u) := by
  intro pins s σ H D I h
  refine wpAny_If (thn (hc pins s σ H _ I h) fun d s1 ⟨H1, I1, q1⟩ => ?_)
  cases d with
  | true => exact ha pins s1 σ H1 D I1 q1
  | false => exact hb pins s1 σ H1 D I1 q1
end

/-! ### targets -/
abbrev TG := V → St → Hp → (St → Hp → Prop) → Prop
abbrev TGs := List V → St → Hp → (St → Hp → Prop) → Prop
def PG (X : Cx) (target : Expr) (t : TG) : Prop :=
  ∀ (pins : List (Addr × Obj)) (s : Shared) (σ : St) (H : Hp) (v : V) (u : Value) (Q : St → Hp → Prop), Inv X pins σ H s → RelV v u → t v σ H Q →
    wpAny (model X.prog X.w) X.A (assign target X.env u) (fun _ s' => ∃ σ' H', Inv X pins σ' H' s' ∧ Q σ' H') X.xe s
/-- several targets, one after another -/
def PGs (X : Cx) (ts : List Expr) (t : TGs) : Prop :=
  ∀ (pins : List (Addr × Obj)) (s : Shared) (σ : St) (H : Hp) (vs : List V) (us : List Value) (Q : St → Hp → Prop), Inv X pins σ H s → Vals vs us → t vs σ H Q →
    wpAny (model X.prog X.w) X.A (assignInOrder ((assignEach ts X.env).map (·.2)) us) (fun _ s' => ∃ σ' H', Inv X pins σ' H' s' ∧ Q σ' H') X.xe s
/-- o[i] = v, by values -/
abbrev TSet := V → V → V → Hp → (Hp → Prop) → Prop
def PSet (X : Cx) (t : TSet) : Prop :=
  ∀ (pins : List (Addr × Obj)) (s : Shared) (σ : St) (H : Hp) (o i v : V) (ov iv u : Value) (Q : Hp → Prop), Inv X pins σ H s → RelV o ov → RelV i iv → RelV v u → t o i v H Q →
    wpAny (model X.prog X.w) X.A (setItem ov iv u) (fun _ s' => ∃ H', Inv X pins σ H' s' ∧ Q H') X.xe s
section
variable {X : Cx} {pos : Pos}
def gName (i : Nat) : TG := fun v σ H Q => Q (σ.set i (some v)) H
theorem pg_name {i : Nat} {x : Str} (hN : X.N.Nodup) (hi : X.N[i]? = some x) (hx : Loc X.env.scope x) (hf : X.fn x = true ∨ X.env.scope.names.lookup x = some .local := by first | exact .inl rfl | exact .inr rfl | assumption) : PG X (.Name x pos) (gName i) := by
  intro pins s σ H v u Q I r h
  exact wpAny_assign_Name (store_ok I hN hi hx r (fun s' I' => ⟨_, H, I', h⟩) hf)
/-- o[i] = .. -/
def gSub (to ti : TE) (t : TSet) : TG := fun v σ H Q => to σ H fun o H1 => ti σ H1 fun i H2 => t o i v H2 fun H3 => Q σ H3
theorem pg_sub {o i : Expr} {to ti : TE} {t : TSet} (ho : PE X o to) (hi : PE X i ti) (hs : PSet X t)
    (ha : ∀ v, assign (.Subscript o i pos) X.env v = (do
      let ov ← holding [v] (eval o X.env)
      let iv ← holding [v, ov] (eval i X.env)
      standAt pos
      holding [v, ov, iv] (setItem ov iv v)
      release [v, ov, iv] []) := by intro _; rfl) : PG X (.Subscript o i pos) (gSub to ti t) := by
  intro pins s σ H v u Q I r h
  rw [ha]
  refine wpAny_bind (wpAny_holding (thn (ho pins s σ H _ I h) fun ov s1 ⟨x, H1, I1, r1, q1⟩ => ?_))
  refine wpAny_bind (wpAny_holding (thn (hi pins s1 σ H1 _ I1 q1) fun iv s2 ⟨y, H2, I2, r2, q2⟩ => ?_))
  refine wpAny_bind (wpAny_standAt (wpAny_bind (wpAny_holding (thn (hs pins s2 σ H2 x y v ov iv u _ I2 r1 r2 r q2) fun _ s3 ⟨H3, I3, q3⟩ => ?_))))
  exact wpAny_release ⟨σ, H3, I3, q3⟩
/-- target = value -/
def tAsg (te : TE) (g : TG) : TS := fun D σ H => te σ H fun x H1 => g x σ H1 D.nx
theorem ps_asg {tg e : Expr} {te : TE} {g : TG} (he : PE X e te) (hg : PG X tg g) (hs : swapsWithSole [tg] e pos.line X.env = pure false := by rfl) (hw : swappedStores [tg] e X.env = pure none := by rfl)
    (h1 : (assignEach [tg] X.env).map (·.2) = [assign tg X.env] := by rfl) : PS X (.Assign [tg] e pos) (tAsg te g) := by
  intro pins s σ H D I h
  refine wpAny_Assign_stores (thn (he pins s σ H _ I h) fun v s1 ⟨x, H1, I1, r1, q1⟩ => ?_) hs hw
  rw [h1]
  exact thn (hg pins s1 σ H1 x v _ I1 r1 q1) fun _ s2 q => q
/-- name = value -/
theorem ps_set {i : Nat} {x : Str} {e : Expr} {te : TE} {pos' : Pos} (hN : X.N.Nodup) (hi : X.N[i]? = some x) (hx : Loc X.env.scope x) (he : PE X e te) (hs : swapsWith e (some (.Name x pos')) pos.line X.env = pure false := by rfl) (hf : X.fn x = true ∨ X.env.scope.names.lookup x = some .local := by first | exact .inl rfl | exact .inr rfl | assumption) :
    PS X (.Assign [.Name x pos'] e pos) (tAsg te (gName i)) := by
  intro pins s σ H D I h
  refine wpAny_Assign_Name (thn (he pins s σ H _ I h) fun v s1 ⟨y, H1, I1, r1, q1⟩ => ?_) hs
  exact store_ok I1 hN hi hx r1 (fun s2 I2 => ⟨_, H1, I2, q1⟩) hf
end

/-! ### while -/
section
variable {X : Cx} {pos : Pos}
end

/-! ### what a loop or a comprehension walks -/
/-- at turn i: it yields x (the heap may grow), or it stops -/
structure It where
  go : Nat → Hp → Prop
  yld : Nat → Hp → V → Hp → Prop
  stop : Nat → Hp → Prop
/-- the iterator's own objects may turn: they are not the frame's, not pinned, younger than the entry (or a comprehension's own) -/
def FpOk (X : Cx) (pins : List (Addr × Obj)) (H : Hp) (b : Addr) : Prop :=
  H b = none ∧ b ≠ X.env.locals ∧ b ∉ X.fs ∧ (b ∈ X.ex ∨ X.s₀.heap.objs.size ≤ b) ∧ (∀ x c, X.env.cells.lookup x = some c → c ≠ b) ∧ ∀ p ∈ X.pn ++ pins, p.1 ≠ b
theorem Inv.fpOk {X : Cx} {pins : List (Addr × Obj)} {σ : St} {H H' : Hp} {s : Shared} {b : Addr} (I : Inv X pins σ H s) (hb : s.heap.objs.size ≤ b) (hn : H' b = none) : FpOk X pins H' b := by
  refine ⟨hn, Nat.ne_of_gt (Nat.lt_of_lt_of_le I.lt hb), I.nofs hb, .inr (Nat.le_trans I.sz hb), fun x c e z => ?_, fun p hp z => ?_⟩
  · obtain ⟨v, q⟩ := I.cell x c e
    exact absurd (Nat.lt_of_lt_of_le q.lt (by rw [z]; exact hb)) (Nat.lt_irrefl _)
  · exact absurd (Nat.lt_of_lt_of_le (Heap.lt_size (I.pin p hp).1) (by rw [z]; exact hb)) (Nat.lt_irrefl _)
structure Turn (P : Program) (w : World) (K : PySem.W.Frag) (tg : Expr) (J : It) (fp : List Addr) (it : Addr) (tn : Nat → Heap → Prop) : Prop where
  mem : it ∈ fp
  obj : ∀ i h, tn i h → ∀ b ∈ fp, ∃ o, h.get? b = some o ∧ ∀ v, o.data ≠ .cell v
  keep : ∀ i h h', tn i h → (∀ b ∈ fp, ∀ o, h.get? b = some o → h'.get? b = some o) → tn i h'
  item : ∀ (X : Cx), X.prog = P → X.w = w → X.K = K → X.calm = true → ∀ (i : Nat) (pins : List (Addr × Obj)) (s : Shared) (σ : St) (H : Hp) (E : Value → Shared → Prop), Inv X pins σ H s → (∀ b ∈ fp, FpOk X pins H b) → tn i s.heap → J.go i H →
    wpAny (model P w) X.A (pyNext (.ref it)) (fun r s1 => ∃ u, r = some u ∧
      wpAny (model P w) X.A (letOwnedTupleGo tg (.ref it) u) (fun _ s2 => ∃ x H', Inv X pins σ H' s2 ∧ RelV x u ∧ J.yld i H x H' ∧ tn (i + 1) s2.heap ∧ ∀ b ∈ fp, H' b = none) E s1) E s
  done : ∀ (X : Cx), X.prog = P → X.w = w → X.K = K → X.calm = true → ∀ (i : Nat) (pins : List (Addr × Obj)) (s : Shared) (σ : St) (H : Hp) (E : Value → Shared → Prop), Inv X pins σ H s → (∀ b ∈ fp, FpOk X pins H b) → tn i s.heap → J.stop i H →
    wpAny (model P w) X.A (pyNext (.ref it)) (fun r s1 => r = none ∧ Inv X pins σ H s1) E s
  self : ∀ (A : Around) (i : Nat) (s : Shared) (Q : Value → Shared → Prop) (E : Value → Shared → Prop), tn i s.heap → Q (.ref it) s → wpAny (model P w) A (pyIter (.ref it)) Q E s
abbrev TI := St → Hp → (It → Hp → Prop) → Prop
/-- an iterator has come -/
def PIE (X : Cx) (pins : List (Addr × Obj)) (σ : St) (tg : Expr) (R : It → Hp → Prop) (itv : Value) (s2 : Shared) : Prop :=
  ∃ (it : Addr) (fp : List Addr) (tn : Nat → Heap → Prop) (J : It) (H' : Hp), itv = .ref it ∧ Inv X pins σ H' s2 ∧ Turn X.prog X.w X.K tg J fp it tn ∧ tn 0 s2.heap ∧ (∀ b ∈ fp, FpOk X pins H' b) ∧ R J H'
def PI (X : Cx) (tg iter : Expr) (wi : TI) : Prop :=
  ∀ (pins : List (Addr × Obj)) (s : Shared) (σ : St) (H : Hp) (R : It → Hp → Prop), Inv X pins σ H s → wi σ H R →
    wpAny (model X.prog X.w) X.A (eval iter X.env) (fun v s1 => wpAny (model X.prog X.w) X.A (pyIter v) (PIE X pins σ tg R) X.xe s1) X.xe s

/-- the step ahead of the store is nothing for an iterator that keeps no tuple -/
theorem go_of {M : Model} {A : Around} {E : Value → Shared → Prop} {s : Shared} {tg : Expr} {it : Addr} {u : Value} {o : Obj} {n : String} {vs : Array Value} {Q : Unit → Shared → Prop} (ho : s.heap.get? it = some o) (hc : o.cls = .type n) (hd : o.data = .fields vs)
    (hn : ["enumerate", "zip", "dict_itemiterator", "dict_reverseitemiterator", "odict_iterator", "itertools.zip_longest", "itertools.pairwise"].contains n = false) (hQ : Q () s) : wpAny M A (letOwnedTupleGo tg (.ref it) u) Q E s := by
  unfold letOwnedTupleGo
  cases tg <;> first
    | exact wpAny_pure hQ
    | (cases u <;> first
        | exact wpAny_pure hQ
        | (refine wpAny_bind (wpAny_load ho ?_)
           rw [hc, hd]
           show wpAny M A (if (["enumerate", "zip", "dict_itemiterator", "dict_reverseitemiterator", "odict_iterator", "itertools.zip_longest", "itertools.pairwise"].contains n && vs[0]? == some (rawInt _)) = true then _ else _) Q E s
           rw [if_neg (by intro h; rw [hn, Bool.false_and] at h; cases h)]
           exact wpAny_pure hQ))

/-- the list at a, as it stands at each turn (a loop may append to it) -/
def Itl (K : PySem.W.Frag) (a : Addr) : It :=
  ⟨fun i H => ∃ xs x, SqL K H a xs ∧ xs[i]? = some x, fun i H x H' => H' = H ∧ ∀ xs, SqL K H a xs → xs[i]? = some x, fun i H => ∃ xs, SqL K H a xs ∧ xs.length ≤ i⟩
/-- lo, lo + 1, .. (n of them) -/
def Itr (lo : Int) (n : Nat) : It := ⟨fun i _ => i < n, fun i H x H' => H' = H ∧ x = .int (lo + i), fun i _ => n ≤ i⟩
theorem turn_list {P : Program} {w : World} {K : PySem.W.Frag} {tg : Expr} (a it : Addr) : Turn P w K tg (Itl K a) [it] it (fun i h => h.IsListIter it a i) where
  mem := by simp
  obj := fun i h st b hb => by
    have e : b = it := by simpa using hb
    subst e
    obtain ⟨o, e, c, d⟩ := st
    exact ⟨o, e, fun v z => by rw [d] at z; cases z⟩
  keep := fun i h h' st k => st.at fun o e => k it (by simp) o e
  item := by
    intro X hP hw hK hc i pins s σ H E I hf st hg
    subst hP hw hK
    obtain ⟨xs, x, hq, hx⟩ := hg
    obtain ⟨its, rv, p, hz⟩ := I.list hq
    obtain ⟨u, hu, ru⟩ := rv.get hx
    obtain ⟨f0, f1, f2, f3, f4, f5⟩ := hf it (by simp)
    refine wpAny_pyNext_list_item st p.isList (x := u) (by simpa using hu) fun h' st' sb => ?_
    have I1 : Inv X pins σ H { s with heap := h' } := I.turned (t' := s.toks) (fun b o hb e => (sb.2 b hb).trans e) f0 f1 f3 f4 f5
    obtain ⟨o, e, c, d⟩ := id st'
    exact ⟨u, rfl, go_of (s := { s with heap := h' }) e c d (by decide) ⟨x, H, I1, ru, ⟨rfl, fun ys hy => by rw [I.list_inj hy hq]; exact hx⟩, st', fun b hb => (hf b hb).1⟩⟩
  done := by
    intro X hP hw hK hc i pins s σ H E I hf st hg
    subst hP hw hK
    obtain ⟨xs, hq, hx⟩ := hg
    obtain ⟨its, rv, p, hz⟩ := I.list hq
    obtain ⟨f0, f1, f2, f3, f4, f5⟩ := hf it (by simp)
    have hl := rv.length
    exact wpAny_pyNext_list_end (I.ok.hd hc) st p.isList (by simp; omega) fun h' eb => ⟨rfl, I.turned (t' := s.toks) (fun b o hb e => eb b o hb e) f0 f1 f3 f4 f5⟩
  self := fun _ _ _ _ _ st h => wpAny_pyIter_listiter st h
theorem turn_range {P : Program} {w : World} {K : PySem.W.Frag} {tg : Expr} (it : Addr) (lo : Int) (n : Nat) : Turn P w K tg (Itr lo n) [it] it (fun i h => IsRangeIter h it (lo + (i : Nat) * 1) ((n : Int) - (i : Nat)) 1) where
  mem := by simp
  obj := fun i h st b hb => by
    have e : b = it := by simpa using hb
    subst e
    exact ⟨_, st, fun v z => by
      have z' : Data.fields _ = Data.cell v := z
      cases z'⟩
  keep := fun i h h' st k => k it (by simp) _ st
  item := by
    intro X hP hw hK hc i pins s σ H E I hf st hg
    subst hP hw hK
    obtain ⟨f0, f1, f2, f3, f4, f5⟩ := hf it (by simp)
    have W := Walks.range (prog := X.prog) (w := X.w) (I.ok.hd hc) it lo 1 n
    refine W.item i s _ _ hg st fun v h' tk hv st' kk => ?_
    obtain ⟨t, rfl⟩ := hv
    have I1 : Inv X pins σ H { s with heap := h', toks := tk } := I.turned (fun b o hb e => kk b o (by simpa using hb) e) f0 f1 f3 f4 f5
    refine ⟨_, rfl, go_of (s := { s with heap := h', toks := tk }) (n := "range_iterator") st' rfl rfl (by decide) ⟨.int (lo + i), H, I1, ⟨t, ?_⟩, ⟨rfl, rfl⟩, st', fun b hb => (hf b hb).1⟩⟩
    rw [Int.mul_one]
  done := by
    intro X hP hw hK hc i pins s σ H E I hf st hg
    subst hP hw hK
    obtain ⟨f0, f1, f2, f3, f4, f5⟩ := hf it (by simp)
    exact wpAny_pyNext_range_end (I.ok.hd hc) st (by have : n ≤ i := hg; omega) fun h' eb => ⟨rfl, I.turned (t' := s.toks) (fun b o hb e => eb b o hb e) f0 f1 f3 f4 f5⟩
  self := fun _ _ _ _ _ st h => wpAny_pyIter_rangeiter st h
end L2

namespace L2
open PySem PySem.Spec PyProof.Rows
section
variable {X : Cx} {tg : Expr}
def iList (K : PySem.W.Frag) (tl : TE) : TI := fun σ H R => tl σ H fun x H1 => ∃ a, x = .ref a ∧ (∃ xs, SqL K H1 a xs) ∧ R (Itl K a) H1
theorem pi_list {l : Expr} {tl : TE} (hl : PE X l tl) : PI X tg l (iList X.K tl) := by
  intro pins s σ H R I h
  refine thn (hl pins s σ H _ I h) fun v s1 ⟨x, H1, I1, r1, q1⟩ => ?_
  obtain ⟨a, e, ⟨xs, hq⟩, q⟩ := q1
  subst e
  cases r1
  obtain ⟨its, rv, p, hz⟩ := I1.list hq
  refine wpAny_pyIter_list p.isList ?_
  refine ⟨s1.heap.objs.size, [s1.heap.objs.size], _, _, H1, rfl, I1.kept (t' := s1.toks) fun b o e => Heap.get?_push_of_some _ e, turn_list a _, ⟨_, Heap.get?_push_size _ rfl, rfl, rfl⟩, fun b hb => ?_, q⟩
  have e : b = s1.heap.objs.size := by simpa using hb
  subst e
  exact I1.fpOk (Nat.le_refl _) (I1.hok.fresh (Nat.le_refl _))
/-- a range object just made, walked -/
theorem range_it {pins : List (Addr × Obj)} {σ : St} {H : Hp} {s : Shared} {R : It → Hp → Prop} {E : Value → Shared → Prop} {lo hi : Int} {t u v : Tok} {tk : Nat} (I : Inv X pins σ H s) (h1 : -(2 ^ 62) ≤ lo) (h2 : lo < 2 ^ 62) (h3 : -(2 ^ 62) ≤ hi) (h4 : hi < 2 ^ 62)
    (q : R (Itr lo (hi - lo).toNat) H) : wpAny (model X.prog X.w) X.A (pyIter (.ref s.heap.objs.size)) (PIE X pins σ tg R) E { s with heap := s.heap.push { cls := .type "range", data := .fields #[.int lo t, .int hi u, .int 1 v] }, toks := tk } := by
  refine wpAny_pyIter_range (IsRange.new ..) (small_one h1 h2 h3 h4) ?_
  have I1 : Inv X pins σ H { s with heap := s.heap.push { cls := .type "range", data := .fields #[.int lo t, .int hi u, .int 1 v] }, toks := tk } := I.kept fun b o e => Heap.get?_push_of_some _ e
  refine ⟨(s.heap.push { cls := .type "range", data := .fields #[.int lo t, .int hi u, .int 1 v] }).objs.size, [(s.heap.push { cls := .type "range", data := .fields #[.int lo t, .int hi u, .int 1 v] }).objs.size], _, _, H, rfl,
    I1.kept (t' := tk) fun b o e => Heap.get?_push_of_some _ e, turn_range _ lo (hi - lo).toNat, ?_, fun b hb => ?_, q⟩
  · have e1 : lo + ((0 : Nat) : Int) * 1 = lo := by simp
    have e2 : (((hi - lo).toNat : Nat) : Int) - ((0 : Nat) : Int) = Builtin.Range.rangeSize lo hi 1 := by rw [rangeSize_one]; split <;> omega
    show IsRangeIter _ _ (lo + ((0 : Nat) : Int) * 1) ((((hi - lo).toNat : Nat) : Int) - ((0 : Nat) : Int)) 1
    rw [e1, e2]
    exact Heap.get?_push_size _ rfl
  · have e : b = (s.heap.push { cls := .type "range", data := .fields #[.int lo t, .int hi u, .int 1 v] }).objs.size := by simpa using hb
    subst e
    exact I1.fpOk (Nat.le_refl _) (I1.hok.fresh (Nat.le_refl _))
def iRng1 (ta : TA) : TI := fun σ H R => ta σ H fun vs H1 => ∃ j : Int, vs = [.int j] ∧ -(2 ^ 62) ≤ j ∧ j < 2 ^ 62 ∧ R (Itr 0 j.toNat) H1
theorem pi_range1 {a : Expr} {ta : TA} {p pos : Pos} (hg : Gl X "range") (hm : X.mg "range" = none) (ha : PA X [a] ta) (hs : starEach [a] X.env = [(false, eval a X.env)] := by rfl) : PI X tg (.Call (.Name "range" p) [a] [] pos) (iRng1 ta) := by
  intro pins s σ H R I h
  refine Call_ (ld_blt I hg hm boot_range (PyProof.Rows.callWith_type1 (thn (ha pos pins s σ H _ I h) fun us s1 ⟨vs, H1, I1, r1, q1⟩ => ?_) hs rfl))
  obtain ⟨j, e, q1, q2, q⟩ := q1
  subst e
  cases r1 with
  | cons r rr =>
    cases rr
    obtain ⟨t, rfl⟩ := r
    exact call_range_1 (range_it I1 (by omega) (by omega) q1 q2 (by simpa using q))
/-! ### for -/
/-- W: the invariant by the turn and a measure; N: what the body is to reach -/
def tFor (wi : TI) (g : TG) (tb : TS) : TS := fun D σ H => wi σ H fun J H1 => ∃ W : Nat → Nat → St → Hp → Prop, (∃ m, W 0 m σ H1) ∧ ∀ i m σ H, W i m σ H →
  (J.stop i H ∧ D.nx σ H) ∨ (J.go i H ∧ ∃ N : St → Hp → Prop, (∀ σ' H', N σ' H' → ∃ m', m' < m ∧ W (i + 1) m' σ' H') ∧ ∀ x H', J.yld i H x H' → g x σ H' fun σ2 H2 => tb { D with nx := N, ct := N, bk := D.nx } σ2 H2)
/-- the records at fp as they stand -/
def pinsAt (fp : List Addr) (h : Heap) : List (Addr × Obj) := fp.filterMap fun b => (h.get? b).map fun o => (b, o)
theorem mem_pinsAt {fp : List Addr} {h : Heap} {b : Addr} {o : Obj} (hb : b ∈ fp) (e : h.get? b = some o) : (b, o) ∈ pinsAt fp h := List.mem_filterMap.mpr ⟨b, hb, by rw [e]; rfl⟩
theorem of_pinsAt {fp : List Addr} {h : Heap} {p : Addr × Obj} (hp : p ∈ pinsAt fp h) : p.1 ∈ fp ∧ h.get? p.1 = some p.2 := by
  obtain ⟨b, hb, e⟩ := List.mem_filterMap.mp hp
  cases q : h.get? b with
  | none => rw [q] at e; cases e
  | some o =>
    rw [q] at e
    have e' : (b, o) = p := Option.some.inj e
    subst e'
    exact ⟨hb, q⟩
theorem Inv.pinned {pins : List (Addr × Obj)} {σ : St} {H : Hp} {s : Shared} {fp : List Addr} (I : Inv X pins σ H s) (hf : ∀ b ∈ fp, FpOk X pins H b) (ho : ∀ b ∈ fp, ∃ o, s.heap.get? b = some o ∧ ∀ v, o.data ≠ .cell v) : Inv X (pins ++ pinsAt fp s.heap) σ H s :=
  I.pins_of fun p hp => (List.mem_append.mp hp).elim (fun z => I.pin p (List.mem_append_right _ z)) fun z => by
    obtain ⟨hb, e⟩ := of_pinsAt z
    obtain ⟨f0, f1, f2, _⟩ := hf p.1 hb
    obtain ⟨o, e', d⟩ := ho p.1 hb
    rw [e] at e'; cases e'
    exact ⟨e, f0, f1, f2, d⟩
theorem Inv.unpinned {pins pl : List (Addr × Obj)} {σ : St} {H : Hp} {s : Shared} (I : Inv X (pins ++ pl) σ H s) : Inv X pins σ H s := I.pins_of fun p hp => I.pin p (List.mem_append_right _ (List.mem_append_left _ hp))
theorem ps_for {iter : Expr} {body : List Stmt} {wi : TI} {g : TG} {tb : TS} {pos : Pos} (hp : PassesOwn (model X.prog X.w) X.A X.env X.xe) (hc : X.calm = true) (hi : PI X tg iter wi) (hg : PG X tg g) (hb : PSs X body tb)
    (hs : ∀ x, foldedSetIterable iter X.env x = pure x := by intro _; rfl) : PS X (.For tg iter body [] pos) (tFor wi g tb) := by
  intro pins s σ H D I h
  refine wpAny_For (thn (hi pins s σ H _ I h) fun v s1 h1 => thn h1 fun itv s2 h2 => ?_) hs
  obtain ⟨it, fp, tn, J, H2, e, I2, T, st2, f2, W, ⟨m0, w0⟩, turn⟩ := h2
  subst e
  -- what stays true of the iterator's objects through the loop
  have stat : ∀ {H' : Hp}, (∀ b ∈ fp, H' b = none) → ∀ b ∈ fp, FpOk X pins H' b := fun hn b hb => ⟨hn b hb, (f2 b hb).2⟩
  refine codeAny_forLoop_any (fun n s' => ∃ i σ' H', Inv X pins σ' H' s' ∧ tn i s'.heap ∧ (∀ b ∈ fp, H' b = none) ∧ W i n σ' H') ?_ m0 ⟨0, σ, H2, I2, st2, fun b hb => (f2 b hb).1, w0⟩
  rintro n s3 ⟨i, σ3, H3, I3, st3, fr3, w3⟩
  rcases turn i n σ3 H3 w3 with ⟨stop, qn⟩ | ⟨go, N, hN, step⟩
  · refine wpAny_passesOwn hp (thn (T.done X rfl rfl rfl hc i pins s3 σ3 H3 X.xe I3 (stat fr3) st3 stop) fun r s4 ⟨hr, I4⟩ => ?_)
    subst hr
    exact wpAny_execs_nil ⟨σ3, H3, I4, qn⟩
  · refine wpAny_passesOwn hp (thn (T.item X rfl rfl rfl hc i pins s3 σ3 H3 X.xe I3 (stat fr3) st3 go) fun r s4 ⟨u, hr, h4⟩ => ?_)
    subst hr
    refine wpAny_passesOwn hp (thn h4 fun _ s5 ⟨x, H5, I5, r5, y5, st5, fr5⟩ => ?_)
    have I5' := I5.pinned (stat fr5) (T.obj _ _ st5)
    refine wpAny_passesOwn hp (thn (hg _ s5 σ3 H5 x u _ I5' r5 (step x H5 y5)) fun _ s6 ⟨σ6, H6, I6, q6⟩ => ?_)
    refine wpAny_passesOwn hp (thn (hb _ s6 σ6 H6 _ I6 q6) fun f s7 q7 => ?_)
    have again : ∀ {σ7 : St} {H7 : Hp}, Inv X (pins ++ pinsAt fp s5.heap) σ7 H7 s7 → N σ7 H7 → ∃ m, m < n ∧ ∃ i σ' H', Inv X pins σ' H' s7 ∧ tn i s7.heap ∧ (∀ b ∈ fp, H' b = none) ∧ W i m σ' H' := fun {σ7 H7} I7 n7 => by
      obtain ⟨m', hm, w7⟩ := hN σ7 H7 n7
      refine ⟨m', hm, i + 1, σ7, H7, I7.unpinned, T.keep _ _ _ st5 fun b hb o e => (I7.pin (b, o) (List.mem_append_right _ (List.mem_append_right _ (mem_pinsAt hb e)))).1, fun b hb => ?_, w7⟩
      obtain ⟨o, e, d⟩ := T.obj _ _ st5 b hb
      exact (I7.pin (b, o) (List.mem_append_right _ (List.mem_append_right _ (mem_pinsAt hb e)))).2.1
    cases f with
    | next => obtain ⟨σ7, H7, I7, n7⟩ := q7; exact again I7 n7
    | cont => obtain ⟨σ7, H7, I7, n7⟩ := q7; exact again I7 n7
    | brk => obtain ⟨σ7, H7, I7, q7⟩ := q7; exact ⟨σ7, H7, I7.unpinned, q7⟩
    | ret v => obtain ⟨x7, σ7, H7, I7, r7, q7⟩ := q7; exact ⟨x7, σ7, H7, I7.unpinned, r7, q7⟩
end

/-! ### the forms one uses -/
/-- over a list that the body leaves as it is -/
theorem for_list {K : PySem.W.Frag} {a : Addr} {xs : List V} {g : TG} {tb : TS} {D : Ends} {σ : St} {H : Hp} (Pv : Nat → St → Hp → Prop) (h0 : Pv 0 σ H) (hl : ∀ i σ H, i ≤ xs.length → Pv i σ H → SqL K H a xs)
    (hs : ∀ i x σ H, xs[i]? = some x → Pv i σ H → g x σ H fun σ2 H2 => tb { D with nx := Pv (i + 1), ct := Pv (i + 1), bk := D.nx } σ2 H2) (hd : ∀ σ H, Pv xs.length σ H → D.nx σ H) :
    ∃ W : Nat → Nat → St → Hp → Prop, (∃ m, W 0 m σ H) ∧ ∀ i m σ H, W i m σ H →
      ((Itl K a).stop i H ∧ D.nx σ H) ∨ ((Itl K a).go i H ∧ ∃ N : St → Hp → Prop, (∀ σ' H', N σ' H' → ∃ m', m' < m ∧ W (i + 1) m' σ' H') ∧ ∀ x H', (Itl K a).yld i H x H' → g x σ H' fun σ2 H2 => tb { D with nx := N, ct := N, bk := D.nx } σ2 H2) := by
  refine ⟨fun i m σ H => m = xs.length - i ∧ i ≤ xs.length ∧ Pv i σ H, ⟨xs.length, by simp, Nat.zero_le _, h0⟩, ?_⟩
  rintro i m σ H ⟨rfl, hi, p⟩
  have q := hl i σ H hi p
  by_cases hlt : i < xs.length
  · refine .inr ⟨⟨xs, xs[i], q, by simp [hlt]⟩, Pv (i + 1), fun σ' H' p' => ⟨xs.length - (i + 1), by omega, rfl, hlt, p'⟩, fun x H' y => ?_⟩
    obtain ⟨e, y⟩ := y
    subst e
    exact hs i x σ _ (y xs q) p
  · have e : i = xs.length := by omega
    subst e
    exact .inl ⟨⟨xs, q, Nat.le_refl _⟩, hd σ H p⟩
theorem for_range {lo : Int} {n : Nat} {g : TG} {tb : TS} {D : Ends} {σ : St} {H : Hp} (Pv : Nat → St → Hp → Prop) (h0 : Pv 0 σ H)
    (hs : ∀ i σ H, i < n → Pv i σ H → g (.int (lo + i)) σ H fun σ2 H2 => tb { D with nx := Pv (i + 1), ct := Pv (i + 1), bk := D.nx } σ2 H2) (hd : ∀ σ H, Pv n σ H → D.nx σ H) :
    ∃ W : Nat → Nat → St → Hp → Prop, (∃ m, W 0 m σ H) ∧ ∀ i m σ H, W i m σ H →
      ((Itr lo n).stop i H ∧ D.nx σ H) ∨ ((Itr lo n).go i H ∧ ∃ N : St → Hp → Prop, (∀ σ' H', N σ' H' → ∃ m', m' < m ∧ W (i + 1) m' σ' H') ∧ ∀ x H', (Itr lo n).yld i H x H' → g x σ H' fun σ2 H2 => tb { D with nx := N, ct := N, bk := D.nx } σ2 H2) := by
  refine ⟨fun i m σ H => m = n - i ∧ i ≤ n ∧ Pv i σ H, ⟨n, by simp, Nat.zero_le _, h0⟩, ?_⟩
  rintro i m σ H ⟨rfl, hi, p⟩
  by_cases hlt : i < n
  · refine .inr ⟨hlt, Pv (i + 1), fun σ' H' p' => ⟨n - (i + 1), by omega, rfl, hlt, p'⟩, fun x H' y => ?_⟩
    obtain ⟨e, y⟩ := y
    subst e y
    exact hs i σ _ hlt p
  · have e : i = n := by omega
    subst e
    exact .inl ⟨Nat.le_refl _, hd σ H p⟩
end L2

namespace L2
open PySem PySem.Spec PyProof.Rows

abbrev R2 := V → V → Hp → VK → Prop
/-- a two-place operation on values: f is binaryOp op, inplaceOp op or compareOp op -/
def OpR (X : Cx) (f : Value → Value → Sem Value) (r : R2) : Prop :=
  ∀ (pins : List (Addr × Obj)) (s : Shared) (σ : St) (H : Hp) (x y : V) (v u : Value) (Q : VK), Inv X pins σ H s → RelV x v → RelV y u → r x y H Q →
    wpAny (model X.prog X.w) X.A (f v u) (EP X pins σ Q) X.xe s
/-- a one-place operation -/
def UnR (X : Cx) (f : Value → Sem Value) (r : V → Hp → VK → Prop) : Prop :=
  ∀ (pins : List (Addr × Obj)) (s : Shared) (σ : St) (H : Hp) (x : V) (v : Value) (Q : VK), Inv X pins σ H s → RelV x v → r x H Q →
    wpAny (model X.prog X.w) X.A (f v) (EP X pins σ Q) X.xe s
/-- a call of a value that is known (a builtin, a type) with values -/
def CallR (X : Cx) (f : Value) (r : List V → Hp → VK → Prop) : Prop :=
  ∀ (pins : List (Addr × Obj)) (s : Shared) (σ : St) (H : Hp) (xs : List V) (us : List Value) (Q : VK), Inv X pins σ H s → Vals xs us → r xs H Q →
    wpAny (model X.prog X.w) X.A (call f us) (EP X pins σ Q) X.xe s
def tOp (r : R2) (ta tb : TE) : TE := fun σ H Q => ta σ H fun x H1 => tb σ H1 fun y H2 => r x y H2 Q
def tUn (r : V → Hp → VK → Prop) (ta : TE) : TE := fun σ H Q => ta σ H fun x H1 => r x H1 Q
/-- ints in, under C, and a value out -/
def rI (C : Int → Int → Prop) (g : Int → Int → V) : R2 := fun x y H Q => ∃ i j, x = .int i ∧ y = .int j ∧ C i j ∧ Q (g i j) H
def rI0 (g : Int → Int → V) : R2 := fun x y H Q => ∃ i j, x = .int i ∧ y = .int j ∧ Q (g i j) H
def rU (g : Int → V) : V → Hp → VK → Prop := fun x H Q => ∃ i, x = .int i ∧ Q (g i) H

section
variable {X : Cx} {a b c : Expr} {ta tb tc : TE} {pos : Pos}

theorem binT (ha : PE X a ta) (hb : PE X b tb) {pins : List (Addr × Obj)} {s : Shared} {σ : St} {H : Hp} {R : V → V → Hp → Prop} (I : Inv X pins σ H s)
    (h : ta σ H fun x H1 => tb σ H1 fun y H2 => R x y H2) {Q : Value → Shared → Prop} {f : Value → Value → Sem Value}
    (hf : ∀ v u s2 x y H2, Inv X pins σ H2 s2 → RelV x v → RelV y u → R x y H2 → wpAny (model X.prog X.w) X.A (f v u) Q X.xe s2) :
    wpAny (model X.prog X.w) X.A (eval a X.env) (fun v s₁ => wpAny (model X.prog X.w) X.A (eval b X.env) (fun u s₂ => wpAny (model X.prog X.w) X.A (f v u) Q X.xe s₂) X.xe s₁) X.xe s := by
  refine thn (ha pins s σ H _ I h) fun v s1 ⟨x, H1, I1, r1, q1⟩ => ?_
  refine thn (hb pins s1 σ H1 _ I1 q1) fun u s2 ⟨y, H2, I2, r2, q2⟩ => ?_
  exact hf v u s2 x y H2 I2 r1 r2 q2

theorem pe_op {op : Operator} {r : R2} (ho : OpR X (binaryOp op) r) (ha : PE X a ta) (hb : PE X b tb) : PE X (.BinOp a op b pos) (tOp r ta tb) := by
  intro pins s σ H Q I h
  exact wpAny_BinOp (binT ha hb I h fun v u s2 x y H2 I2 rx ry q => ho pins s2 σ H2 x y v u Q I2 rx ry q)
theorem pe_un {op : UnaryOp} {r : V → Hp → VK → Prop} (ho : UnR X (unaryOp op) r) (ha : PE X a ta) : PE X (.UnaryOp op a pos) (tUn r ta) := by
  intro pins s σ H Q I h
  exact UnaryOp_ (thn (ha pins s σ H _ I h) fun v s1 ⟨x, H1, I1, r1, q1⟩ => ho pins s1 σ H1 x v Q I1 r1 q1)
/-! ### ints -/
theorem opI {f : Value → Value → Sem Value} {C : Int → Int → Prop} {g : Int → Int → Int}
    (rule : ∀ (i j : Int) (t u : Tok) (s : Shared) (Q : Value → Shared → Prop) (E : Value → Shared → Prop), C i j → Q (.int (g i j) s.toks) { s with toks := s.toks + 1 } → wpAny (model X.prog X.w) X.A (f (.int i t) (.int j u)) Q E s) :
    OpR X f (rI C fun i j => .int (g i j)) := by
  intro pins s σ H x y v u Q I rx ry h
  obtain ⟨i, j, rfl, rfl, hc, q⟩ := h
  obtain ⟨t, rfl⟩ := rx
  obtain ⟨t', rfl⟩ := ry
  exact rule i j t t' s _ _ hc ⟨.int (g i j), H, I.tok _, ⟨_, rfl⟩, q⟩
theorem opI0 {f : Value → Value → Sem Value} {g : Int → Int → Int}
    (rule : ∀ (i j : Int) (t u : Tok) (s : Shared) (Q : Value → Shared → Prop) (E : Value → Shared → Prop), Q (.int (g i j) s.toks) { s with toks := s.toks + 1 } → wpAny (model X.prog X.w) X.A (f (.int i t) (.int j u)) Q E s) :
    OpR X f (rI0 fun i j => .int (g i j)) := by
  intro pins s σ H x y v u Q I rx ry h
  obtain ⟨i, j, rfl, rfl, q⟩ := h
  obtain ⟨t, rfl⟩ := rx
  obtain ⟨t', rfl⟩ := ry
  exact rule i j t t' s _ _ ⟨.int (g i j), H, I.tok _, ⟨_, rfl⟩, q⟩
theorem opB0 {f : Value → Value → Sem Value} {g : Int → Int → Bool}
    (rule : ∀ (i j : Int) (t u : Tok) (s : Shared) (Q : Value → Shared → Prop) (E : Value → Shared → Prop), Q (.bool (g i j)) s → wpAny (model X.prog X.w) X.A (f (.int i t) (.int j u)) Q E s) :
    OpR X f (rI0 fun i j => .bl (g i j)) := by
  intro pins s σ H x y v u Q I rx ry h
  obtain ⟨i, j, rfl, rfl, q⟩ := h
  obtain ⟨t, rfl⟩ := rx
  obtain ⟨t', rfl⟩ := ry
  exact rule i j t t' s _ _ ⟨.bl (g i j), H, I, rfl, q⟩

def CDiv (i j : Int) : Prop := 0 < j ∧ j < 1073741824
def CPow (i j : Int) : Prop := 0 ≤ j ∧ j ≤ 1000000 ∧ i.natAbs < 2 ^ 64
def CMul (i j : Int) : Prop := (-(2 ^ 64) < i ∧ i < 2 ^ 64) ∨ (-(2 ^ 64) < j ∧ j < 2 ^ 64)
theorem CMul.ok {i j : Int} (h : CMul i j) : IntMulOk i j := by
  rcases h with ⟨h1, h2⟩ | ⟨h1, h2⟩
  · exact .of_left (intBits_le_64 h1 h2)
  · exact .of_right (intBits_le_64 h1 h2)
theorem op_add : OpR X (binaryOp .Add) (rI0 fun i j => .int (i + j)) := opI0 fun _ _ _ _ _ _ _ q => add_int q
theorem op_sub : OpR X (binaryOp .Sub) (rI0 fun i j => .int (i - j)) := opI0 fun _ _ _ _ _ _ _ q => sub_int q
theorem op_mul : OpR X (binaryOp .Mult) (rI CMul fun i j => .int (i * j)) := opI fun _ _ _ _ _ _ _ hc q => mul_int q hc.ok
/-- // by a positive divisor -/
theorem op_fdiv : OpR X (binaryOp .FloorDiv) (rI CDiv fun i j => .int (i / j)) := opI fun i j _ _ _ _ _ hc q => by
  have h1 : (0 : Int) < j := hc.1
  have h2 : j < 1073741824 := hc.2
  exact floordiv_int (by omega) (by rw [Int.fdiv_eq_ediv_of_nonneg i (by omega)]; exact q) (.inl (PyProof.noPylong_small (by omega)))
/-- % by a positive divisor of any size -/
theorem op_mod : OpR X (binaryOp .Mod) (rI (fun _ j => 0 < j) fun i j => .int (i % j)) := opI fun i j _ _ _ _ _ hc q => by
  have h1 : (0 : Int) < j := hc
  exact mod_int' (by omega) (by rw [Int.fmod_eq_emod_of_nonneg i (by omega)]; exact q)
theorem op_pow : OpR X (binaryOp .Pow) (rI CPow fun i j => .int (i ^ j.toNat)) := opI fun _ _ _ _ _ _ _ hc q => pow_int_small hc.1 hc.2.1 hc.2.2 q
theorem unI {f : Value → Sem Value} {g : Int → Int}
    (rule : ∀ (i : Int) (t : Tok) (s : Shared) (Q : Value → Shared → Prop) (E : Value → Shared → Prop), Q (.int (g i) s.toks) { s with toks := s.toks + 1 } → wpAny (model X.prog X.w) X.A (f (.int i t)) Q E s) :
    UnR X f (rU fun i => .int (g i)) := by
  intro pins s σ H x v Q I rx h
  obtain ⟨i, rfl, q⟩ := h
  obtain ⟨t, rfl⟩ := rx
  exact rule i t s _ _ ⟨.int (g i), H, I.tok _, ⟨_, rfl⟩, q⟩
theorem un_neg : UnR X (unaryOp .USub) (rU fun i => .int (-i)) := unI fun _ _ _ _ _ q => neg_int q
/-! ### bools among ints: n += (a < b) -/
end

/-! ### comparisons -/
/-- the scalars that == tells apart as data does -/
def scal : V → V → Bool
  | .non, .non => true | .non, .int _ => true | .int _, .non => true | .non, .bl _ => true | .bl _, .non => true | .non, .str _ => true | .str _, .non => true
  | .int _, .int _ => true | .bl _, .bl _ => true | .str _, .str _ => true | .byt _, .byt _ => true
  | .int _, .str _ => true | .str _, .int _ => true | .bl _, .str _ => true | .str _, .bl _ => true
  | _, _ => false
def rEq : R2 := fun x y H Q => scal x y = true ∧ Q (.bl (decide (x = y))) H
theorem dec_int {i j : Int} : decide (V.int i = V.int j) = (i == j) := by
  rw [Bool.eq_iff_iff]
  simp
theorem dec_bl {i j : Bool} : decide (V.bl i = V.bl j) = (i == j) := by
  rw [Bool.eq_iff_iff]
  simp
theorem dec_str {i j : Str} : decide (V.str i = V.str j) = (i == j) := by
  rw [Bool.eq_iff_iff]
  simp
theorem dec_byt {i j : Array UInt8} : decide (V.byt i = V.byt j) = (i.toList == j.toList) := by
  rw [Bool.eq_iff_iff]
  cases i
  cases j
  simp

section
variable {X : Cx} {a b c : Expr} {ta tb tc : TE} {pos : Pos}
theorem fin_bl {pins : List (Addr × Obj)} {σ : St} {H : Hp} {s : Shared} {Q : VK} {k k' : Bool} (I : Inv X pins σ H s) (q : Q (.bl k) H) (e : k = k') : EP X pins σ Q (.bool k') s := by
  subst e
  exact ⟨.bl k, H, I, rfl, q⟩
theorem op_eq : OpR X (compareOp .Eq) rEq := by
  intro pins s σ H x y v u Q I rx ry h
  obtain ⟨hs, q⟩ := h
  cases x with
  | non =>
    cases rx
    cases y with
    | non => cases ry; exact PySem.EqNone.eq_none_none (fin_bl I q (by simp))
    | bl j => cases ry; exact PySem.EqNone.eq_none_bool (fin_bl I q (by simp))
    | int j => obtain ⟨t', rfl⟩ := ry; exact PySem.EqNone.eq_none_int (fin_bl I q (by simp))
    | str j => obtain ⟨t', rfl⟩ := ry; exact PySem.EqNone.eq_none_str (fin_bl I q (by simp))
    | _ => exact absurd (show false = true from hs) Bool.false_ne_true
  | bl i =>
    cases rx
    cases y with
    | non => cases ry; exact PySem.EqNone.eq_bool_none (fin_bl I q (by simp))
    | bl j => cases ry; exact eq_bool (fin_bl I q dec_bl)
    | str j => obtain ⟨t', rfl⟩ := ry; exact PySem.EqMixed.eq_bool_str (fin_bl I q (by simp))
    | _ => exact absurd (show false = true from hs) Bool.false_ne_true
  | int i =>
    obtain ⟨t, rfl⟩ := rx
    cases y with
    | non => cases ry; exact PySem.EqNone.eq_int_none (fin_bl I q (by simp))
    | int j => obtain ⟨t', rfl⟩ := ry; exact eq_int (fin_bl I q dec_int)
    | str j => obtain ⟨t', rfl⟩ := ry; exact PySem.EqMixed.eq_int_str (fin_bl I q (by simp))
    | _ => exact absurd (show false = true from hs) Bool.false_ne_true
  | str i =>
    obtain ⟨t, rfl⟩ := rx
    cases y with
    | non => cases ry; exact PySem.EqNone.eq_str_none (fin_bl I q (by simp))
    | bl j => cases ry; exact PySem.EqMixed.eq_str_bool (fin_bl I q (by simp))
    | int j => obtain ⟨t', rfl⟩ := ry; exact PySem.EqMixed.eq_str_int (fin_bl I q (by simp))
    | str j => obtain ⟨t', rfl⟩ := ry; exact eq_str (fin_bl I q dec_str)
    | _ => exact absurd (show false = true from hs) Bool.false_ne_true
  | byt i =>
    obtain ⟨t, rfl⟩ := rx
    cases y with
    | byt j => obtain ⟨t', rfl⟩ := ry; exact PySem.W.eq_bytes (fin_bl I q dec_byt)
    | _ => exact absurd (show false = true from hs) Bool.false_ne_true
  | _ => cases y <;> exact absurd (show false = true from hs) Bool.false_ne_true
theorem op_lt : OpR X (compareOp .Lt) (rI0 fun i j => .bl (decide (i < j))) := opB0 fun _ _ _ _ _ _ _ q => lt_int q
theorem op_le : OpR X (compareOp .LtE) (rI0 fun i j => .bl (decide (i ≤ j))) := opB0 fun _ _ _ _ _ _ _ q => le_int q
theorem op_gt : OpR X (compareOp .Gt) (rI0 fun i j => .bl (decide (j < i))) := opB0 fun _ _ _ _ _ _ _ q => gt_int q
/-- is None, is not None: the right side a value none -/
theorem op_isN : OpR X (compareOp .Is) (fun x y H Q => y = .non ∧ Q (.bl (decide (x = .non))) H) := by
  intro pins s σ H x y v u Q I rx ry h
  obtain ⟨rfl, q⟩ := h
  cases ry
  refine is_none_gen (fin_bl I q ?_)
  cases x <;> first
    | (cases rx; rfl)
    | (obtain ⟨t, rfl⟩ := rx; rfl)
theorem op_notN : OpR X (compareOp .IsNot) (fun x y H Q => y = .non ∧ Q (.bl (!decide (x = .non))) H) := by
  intro pins s σ H x y v u Q I rx ry h
  obtain ⟨rfl, q⟩ := h
  cases ry
  refine isnot_none_gen (fin_bl I q ?_)
  cases x <;> first
    | (cases rx; rfl)
    | (obtain ⟨t, rfl⟩ := rx; rfl)

theorem nomark (b : Expr) {op : CmpOp} (h : op ≠ .In := by decide) (h2 : op ≠ .NotIn := by decide) : behindInMarks op b = false := by
  have e1 : (op == CmpOp.In) = false := by cases op <;> first | rfl | exact absurd rfl h
  have e2 : (op == CmpOp.NotIn) = false := by cases op <;> first | rfl | exact absurd rfl h2
  cases b <;> simp [behindInMarks, e1, e2]
/-- a comparison as a value; hm: nomark b, or (for in, not in) by with_unfolding_all rfl -/
theorem pe_cmpR {op : CmpOp} {r : R2} (ho : OpR X (compareOp op) r) (ha : PE X a ta) (hb : PE X b tb) (hm : behindInMarks op b = false) : PE X (.Compare a [op] [b] pos) (tOp r ta tb) := by
  intro pins s σ H Q I h
  exact wpAny_Compare1 (binT ha hb I h fun v u s2 x y H2 I2 rx ry q => ho pins s2 σ H2 x y v u Q I2 rx ry q) hm
/-- a reading of a value as a test -/
def tTest (t : TE) : TT := fun σ H Q => t σ H fun x H' => ∃ k, x = .bl k ∧ Q k H'
theorem pt_cmpR {op : CmpOp} {r : R2} (ho : OpR X (compareOp op) r) (ha : PE X a ta) (hb : PE X b tb) (hm : behindInMarks op b = false) : PT X (.Compare a [op] [b] pos) (tTest (tOp r ta tb)) := by
  intro pins s σ H Q I h
  refine wpAny_isTrue_Compare1 (thn (ha pins s σ H _ I h) fun v s1 ⟨x, H1, I1, r1, q1⟩ => thn (hb pins s1 σ H1 _ I1 q1) fun u s2 ⟨y, H2, I2, r2, q2⟩ =>
    thn (ho pins s2 σ H2 x y v u _ I2 r1 r2 q2) fun c s3 ⟨z, H3, I3, r3, k, e, q3⟩ => ?_) hm
  subst e
  cases r3
  exact wpAny_truthy_bool ⟨H3, I3, q3⟩
/-! ### truth -/
theorem line63 : (sizeLine : Nat) < 2 ^ 63 := by rw [sizeLine_eq]; decide
/-! ### strs and bytes -/
/-! ### scalar builtins, by CallR -/
theorem vals1 {x : V} {us : List Value} (r : Vals [x] us) : ∃ u, us = [u] ∧ RelV x u := by
  cases r with
  | cons r1 r2 => cases r2; exact ⟨_, rfl, r1⟩
theorem vals2 {x y : V} {us : List Value} (r : Vals [x, y] us) : ∃ u w', us = [u, w'] ∧ RelV x u ∧ RelV y w' := by
  cases r with
  | cons r1 r2 =>
    cases r2 with
    | cons r3 r4 => cases r4; exact ⟨_, _, rfl, r1, r3⟩
theorem call_min2 (hc : X.calm = true) : CallR X (.builtin "min") (fun xs H Q => ∃ i j, xs = [.int i, .int j] ∧ Q (.int (if j < i then j else i)) H) := by
  intro pins s σ H xs us Q I r h
  obtain ⟨i, j, rfl, q⟩ := h
  obtain ⟨u, w', rfl, ⟨t, rfl⟩, ⟨t', rfl⟩⟩ := vals2 r
  refine min_two_ints (I.ok.hd hc) fun h' tk k => ⟨_, H, I.kept k, ?_, q⟩
  by_cases hj : j < i
  · rw [if_pos hj, if_pos hj]; exact ⟨_, rfl⟩
  · rw [if_neg hj, if_neg hj]; exact ⟨_, rfl⟩
end
end L2

namespace L2
open PySem PySem.Spec PyProof.Rows

/-! ### an instance, its attributes a map -/
structure ObjM (h : Heap) (x dx C : Addr) (mA : Str → Option Value) : Prop where
  obj : h.get? x = some (PySem.W.instObj C dx)
  ns : h.Ns1 dx mA
  ne : dx ≠ x

theorem lookIn_ns {h : Heap} {dx : Addr} {mA : Str → Option Value} (n : h.Ns1 dx mA) : ∃ od, h.get? dx = some od ∧ ∀ name, PySem.W.lookIn name od = some (mA name) := by
  obtain ⟨o, es, ep, ho, hd, hk, _, hm⟩ := n
  refine ⟨o, ho, fun name => ?_⟩
  have e := hm name
  unfold nsFind findBy at e
  rw [← Array.find?_toList] at e
  unfold PySem.W.lookIn
  rw [hd]
  dsimp only
  split
  · rename_i y q
    rw [q] at e
    exact congrArg some e
  · rename_i q
    rw [q] at e
    have a : es.toList.any (·.refKey) = false := by
      rw [List.any_eq_false]
      intro y hy
      obtain ⟨z, t, hkey⟩ := hk y (Array.mem_toList_iff.mp hy)
      simp [DictEntry.refKey, hkey]
    have a' : ¬ es.toList.any (·.refKey) = true := by rw [a]; exact Bool.false_ne_true
    rw [if_neg a']
    exact congrArg some e

theorem ObjM.look {h : Heap} {x dx C : Addr} {mA : Str → Option Value} (I : ObjM h x dx C mA) : ∃ od, PySem.W.InstAt h x (PySem.W.instObj C dx) C (some od) ∧ ∀ name, PySem.W.lookIn name od = some (mA name) :=
  let ⟨od, ho, hl⟩ := lookIn_ns I.ns
  ⟨od, ⟨I.obj, rfl, rfl, ho⟩, hl⟩

section
variable {prog : Program} {w : World} {A : Around} {E : Value → Shared → Prop} {s : Shared} {K : PySem.W.Frag} {x dx C f : Addr} {mA : Str → Option Value} {name : Str} {v : Value}

theorem get_map {expr : Bool} {Q : Value → Shared → Prop} (X : K.In s.heap) (I : ObjM s.heap x dx C mA) (hg : PySem.W.plainGet K C name = true) (hh : PySem.W.hasDictIn K C = true)
    (ha : PySem.W.findIn K (.ref C) name = some none) (hv : mA name = some v) (hv' : PySem.W.handedIn v = true) (h : Q v { s with toks := s.toks + 1 }) :
    wpAny (model prog w) A (getAttr (.ref x) name expr) Q E s := by
  obtain ⟨od, J, hl⟩ := I.look
  exact PySem.W.get_value X J (PySem.W.plainGet_of hg).1 (PySem.W.findObj_own hh ha rfl (by rw [hl, hv])) hv' h

theorem get_meth {pl : Sem Bool} {Q : Value × List Value → Shared → Prop} (X : K.In s.heap) (I : ObjM s.heap x dx C mA) (hg : PySem.W.plainGet K C name = true)
    (hf : PySem.W.findIn K (.ref C) name = some (some (.ref f))) (ht : PySem.W.isFn K (.ref f) = true) (hv : mA name = none) (h : Q (.ref f, [.ref x]) s) :
    wpAny (model prog w) A (getMethod (.ref x) name pl) Q E s := by
  obtain ⟨od, J, hl⟩ := I.look
  exact PySem.W.method_fn X J (PySem.W.plainGet_of hg).1 (PySem.W.plainGet_of hg).2 hf (beq_iff_eq.mp ht) (by show (PySem.W.lookIn name od).map (·.isSome) = some false; rw [hl, hv]; rfl) h

theorem set_map {ns : List Str} {Q : Unit → Shared → Prop} (X : K.In s.heap) (I : ObjM s.heap x dx C mA)
    (hs : PySem.W.findIn K (.ref C) "__setattr__" = some (some (.builtin "object.__setattr__"))) (hp : PySem.W.plainOver K C = true) (ht : PySem.W.takerIn K C name = some none) (hh : PySem.W.hasDictIn K C = true)
    (hw : PySem.Within mA ns) (hsz : ns.length ≤ sizeLine)
    (h : ∀ h', ObjM h' x dx C (fun y => if y = name then some v else mA y) → Heap.SameBut dx s.heap h' → Q () { s with heap := h', toks := s.toks + 2 }) :
    wpAny (model prog w) A (setAttr (.ref x) name v) Q E s := by
  obtain ⟨od, J, hl⟩ := I.look
  refine PySem.W.set_plain X J hs (PySem.W.osa_open (s := { s with toks := s.toks + 1 }) (r := none) X J hp ht fun b => ?_)
  obtain ⟨cd, hc, hd'⟩ := PySem.W.any_some hh
  have hx : s.heap.get? x = some ⟨.ref C, some dx, .plain, #[]⟩ := I.obj
  refine wpAny_bind (wpAny_pure (wpAny_bind (wpAny_bind (wpAny_loadPart hx (wpAny_bind (PySem.W.Looks.here (s := { s with toks := s.toks + 1 }) (PySem.W.looks_clsIn X hc) ?_))))))
  rw [hd']
  refine wpAny_pure (a := some dx) (wpAny_bind (wpAny_pure (wpAny_bind ?_)))
  refine wpAny_nsSet1 (s := { s with toks := s.toks + 1 }) I.ns fun h' hn2 hs2 => ?_
  obtain ⟨oD, esD, epD, hoD, hdD, hcD⟩ := hn2.count (PySem.Within.cons name v hw)
  refine wpAny_bind (wpAny_lookBehind hoD (by rw [hdD]; exact pastItsLine_dict (Nat.le_trans hcD (by rw [List.length_cons]; omega))) ?_)
  exact wpAny_pure (h _ ⟨(hs2.2 _ (Ne.symm I.ne)).trans I.obj, hn2, I.ne⟩ hs2)

/-- C(..): the dict at the heap's end, the instance behind it; then its __init__ -/
theorem make_map {R : Result → Shared → Prop} {vs : List Value} {kw : List (Str × Value)} (X : K.In s.heap) (hm : PySem.W.makesIn K C = true)
    (hi : PySem.W.findIn K (.ref C) "__init__" = some (some (.ref f))) (hf : PySem.W.typeIn K (.ref f) = some (.type "function"))
    (h : codeAny (model prog w) (A.under (.builtin "type.__call__" ⟨.ref C :: vs, kw⟩)) (.call (.ref f) ⟨.ref (s.heap.objs.size + 1) :: vs, kw⟩) (PySem.W.InitBack (s.heap.objs.size + 1) R)
      { s with heap := (s.heap.push PySem.W.emptyDict).push (PySem.W.instObj C s.heap.objs.size) }) :
    codeAny (model prog w) A (.call (.ref C) ⟨vs, kw⟩) R s := by
  obtain ⟨hh, g, d, t, os⟩ := s
  exact PySem.W.make_core (PySem.W.makes_of X hm) (PySem.W.looks_findIn X hi) (fun self => PySem.W.bind_fn X self hf) (.inl rfl) h
end

/-! ### the attributes as a list of pairs -/
def putF (f : Str) (v : V) : List (Str × V) → List (Str × V)
  | [] => [(f, v)]
  | (g, x) :: r => if g = f then (g, v) :: r else (g, x) :: putF f v r
theorem lookup_putF (f g : Str) (v : V) : ∀ fs : List (Str × V), (putF f v fs).lookup g = if g = f then some v else fs.lookup g
  | [] => by
    show List.lookup g [(f, v)] = _
    by_cases h : g = f
    · have hb : (g == f) = true := beq_iff_eq.mpr h
      simp only [List.lookup, hb, if_pos h]
    · have hb : (g == f) = false := beq_eq_false_iff_ne.mpr h
      simp only [List.lookup, hb, if_neg h]
  | (k, x) :: r => by
    have ih := lookup_putF f g v r
    rw [show putF f v ((k, x) :: r) = (if k = f then (k, v) :: r else (k, x) :: putF f v r) from rfl]
    by_cases hk : k = f
    · rw [if_pos hk]
      by_cases h : g = k
      · have hb : (g == k) = true := beq_iff_eq.mpr h
        simp only [List.lookup, hb, if_pos (h.trans hk)]
      · have hb : (g == k) = false := beq_eq_false_iff_ne.mpr h
        simp only [List.lookup, hb, if_neg (fun e : g = f => h (e.trans hk.symm))]
    · rw [if_neg hk]
      by_cases h : g = k
      · have hb : (g == k) = true := beq_iff_eq.mpr h
        simp only [List.lookup, hb, if_neg (fun e : g = f => hk (h.symm.trans e))]
      · have hb : (g == k) = false := beq_eq_false_iff_ne.mpr h
        simp only [List.lookup, hb]
        exact ih
theorem keys_putF (f : Str) (v : V) : ∀ fs : List (Str × V), f ∈ (putF f v fs).map (·.1) ∧ ∀ g, g ∈ fs.map (·.1) → g ∈ (putF f v fs).map (·.1)
  | [] => ⟨by simp [putF], fun g h => by simp at h⟩
  | (k, x) :: r => by
    obtain ⟨i1, i2⟩ := keys_putF f v r
    rw [show putF f v ((k, x) :: r) = (if k = f then (k, v) :: r else (k, x) :: putF f v r) from rfl]
    by_cases hk : k = f
    · rw [if_pos hk]
      subst hk
      exact ⟨by simp, fun g h => by simpa using h⟩
    · rw [if_neg hk]
      refine ⟨?_, fun g h => ?_⟩
      · rw [List.map_cons]
        exact List.mem_cons_of_mem _ i1
      · rw [List.map_cons] at h ⊢
        rcases List.mem_cons.mp h with e | e
        · exact List.mem_cons.mpr (.inl e)
        · exact List.mem_cons_of_mem _ (i2 g e)
theorem length_putF (f : Str) (v : V) : ∀ fs : List (Str × V), (putF f v fs).length ≤ fs.length + 1
  | [] => by simp [putF]
  | (k, x) :: r => by
    have ih := length_putF f v r
    rw [show putF f v ((k, x) :: r) = (if k = f then (k, v) :: r else (k, x) :: putF f v r) from rfl]
    by_cases hk : k = f
    · rw [if_pos hk, List.length_cons, List.length_cons]; omega
    · rw [if_neg hk, List.length_cons, List.length_cons]; omega

theorem RelO.some_of {v : V} {o : Option Value} (r : RelO (some v) o) : ∃ u, o = some u ∧ RelV v u := by
  cases o with
  | none => exact (show False from r).elim
  | some u => exact ⟨u, rfl, r⟩
theorem RelO.none_of {o : Option Value} (r : RelO none o) : o = none := by
  cases o with
  | none => rfl
  | some u => exact (show False from r).elim
theorem handed_of {v : V} {u : Value} (r : RelV v u) : PySem.W.handedIn u = true := by
  cases v with
  | non => cases (show u = Value.none from r); rfl
  | bl b => cases (show u = Value.bool b from r); rfl
  | int i => obtain ⟨t, e⟩ := (show ∃ t, u = Value.int i t from r); cases e; rfl
  | str x => obtain ⟨t, e⟩ := (show ∃ t, u = Value.str x t from r); cases e; rfl
  | byt b => obtain ⟨t, e⟩ := (show ∃ t, u = Value.bytes b t from r); cases e; rfl
  | flt b => obtain ⟨t, e⟩ := (show ∃ t, u = Value.float b t from r); cases e; rfl
  | ref a => cases (show u = Value.ref a from r); rfl
  | ty n => cases (show u = Value.type n from r); rfl

section
variable {P : Program} {w : World} {H H' : Hp} {h h' : Heap} {a C dx : Addr} {fs fs' : List (Str × V)}
theorem ins_get (hok : HOk P w H h) (e : H a = some (.ins C dx fs)) : ∃ mA, ObjM h a dx C mA ∧ (∀ f, RelO (fs.lookup f) (mA f)) ∧ PySem.Within mA (fs.map (·.1)) ∧ fs.length ≤ 1000 ∧ H dx = some (.own a) := by
  obtain ⟨d, z, ne, ob, mA, n, r, q⟩ := (show ObjOk P w H h a (.ins C dx fs) from hok a _ e)
  exact ⟨mA, ⟨ob, n, ne⟩, r, q, z, d⟩
end

/-! ### what of the text a class must have -/
structure Cls (K : PySem.W.Frag) (C : Addr) : Prop where
  pg : PySem.W.plainGet K C Str.empty = true
  hd : PySem.W.hasDictIn K C = true
  po : PySem.W.plainOver K C = true
  sa : PySem.W.findIn K (.ref C) "__setattr__" = some (some (.builtin "object.__setattr__"))
theorem Cls.get {K : PySem.W.Frag} {C : Addr} (c : Cls K C) (f : Str) : PySem.W.plainGet K C f = true := c.pg
/-- no class of it has the name -/
def NoAttr (K : PySem.W.Frag) (C : Addr) (f : Str) : Prop := PySem.W.findIn K (.ref C) f = some none
theorem NoAttr.taker {K : PySem.W.Frag} {C : Addr} {f : Str} (n : NoAttr K C f) : PySem.W.takerIn K C f = some none := by
  unfold PySem.W.takerIn
  rw [show PySem.W.findIn K (.ref C) f = some none from n]
  rfl
/-- a method: a plain def of the class or of one above it -/
structure Meth (K : PySem.W.Frag) (C : Addr) (m : Str) (f : Addr) : Prop where
  at_ : PySem.W.findIn K (.ref C) m = some (some (.ref f))
  fn : PySem.W.isFn K (.ref f) = true
  kp : PySem.W.keepIn K (.ref f) = true

section
variable {X : Cx} {pins : List (Addr × Obj)} {σ : St} {H : Hp} {s : Shared} {a C dx : Addr} {fs : List (Str × V)} {f : Str} {v : V} {A : Around} {E : Value → Shared → Prop}

theorem getattr_ok {b : Bool} {Q : Value → Shared → Prop} (I : Inv X pins σ H s) (e : H a = some (.ins C dx fs)) (c : Cls X.K C) (n : NoAttr X.K C f) (l : fs.lookup f = some v)
    (h : ∀ u s', Inv X pins σ H s' → RelV v u → Q u s') : wpAny (model X.prog X.w) A (getAttr (.ref a) f b) Q E s := by
  obtain ⟨mA, O, r, _, _, _⟩ := ins_get I.hok e
  obtain ⟨u, hu, ru⟩ := RelO.some_of (v := v) (o := mA f) (by rw [← l]; exact r f)
  exact get_map I.kIn O (c.get f) c.hd n hu (handed_of ru) (h u _ (I.tok _) ru)

theorem getmeth_ok {m : Str} {g : Addr} {pl : Sem Bool} {Q : Value × List Value → Shared → Prop} (I : Inv X pins σ H s) (e : H a = some (.ins C dx fs)) (c : Cls X.K C) (k : Meth X.K C m g) (l : fs.lookup m = none)
    (h : Q (.ref g, [.ref a]) s) : wpAny (model X.prog X.w) A (getMethod (.ref a) m pl) Q E s := by
  obtain ⟨mA, O, r, _, _, _⟩ := ins_get I.hok e
  have hn : mA m = none := RelO.none_of (by rw [← l]; exact r m)
  exact get_meth I.kIn O (c.get m) k.at_ k.fn hn h

theorem setattr_ok {y : V} {u : Value} {Q : Unit → Shared → Prop} (I : Inv X pins σ H s) (e : H a = some (.ins C dx fs)) (c : Cls X.K C) (n : NoAttr X.K C f) (hl : fs.length < 1000) (ry : RelV y u)
    (h : ∀ s', Inv X pins σ (upd H a (.ins C dx (putF f y fs))) s' → Q () s') : wpAny (model X.prog X.w) A (setAttr (.ref a) f u) Q E s := by
  obtain ⟨mA, O, r, wi, _, ho⟩ := ins_get I.hok e
  have hz : (fs.map (·.1)).length ≤ sizeLine := by rw [List.length_map, sizeLine_eq]; omega
  refine set_map I.kIn O c.sa c.po n.taker c.hd wi hz fun h' O' sb => h _ ?_
  have hd : ∃ o, h'.get? dx = some o := let ⟨o, _, _, e', _⟩ := O'.ns; ⟨o, e'⟩
  refine I.write (x := a) (e := dx) (by rw [e]; exact True.intro) (.inr ho) (fun b q hb z => (sb.2 b hb).trans z) hd ?_
  refine ⟨by rw [upd_ne O.ne]; exact ho, ?_, O.ne, O'.obj, _, O'.ns, fun g => ?_, fun g hg => ?_⟩
  · have := length_putF f y fs; omega
  · show RelO ((putF f y fs).lookup g) (if g = f then some u else mA g)
    rw [lookup_putF]
    by_cases q : g = f
    · rw [if_pos q, if_pos q]; exact ry
    · rw [if_neg q, if_neg q]; exact r g
  · by_cases q : g = f
    · rw [q]; exact (keys_putF f y fs).1
    · refine (keys_putF f y fs).2 g (wi g fun z => hg ?_)
      show (if g = f then some u else mA g) = none
      rw [if_neg q]; exact z

/-- a new instance, tracked, without attributes -/
theorem Inv.made (I : Inv X pins σ H s) : Inv X pins σ (upd (upd H s.heap.objs.size (.own (s.heap.objs.size + 1))) (s.heap.objs.size + 1) (.ins C s.heap.objs.size []))
    { s with heap := (s.heap.push PySem.W.emptyDict).push (PySem.W.instObj C s.heap.objs.size) } := by
  have e1 : (s.heap.push PySem.W.emptyDict).get? s.heap.objs.size = some PySem.W.emptyDict := Heap.get?_push_size s.heap rfl
  have e2 : ((s.heap.push PySem.W.emptyDict).push (PySem.W.instObj C s.heap.objs.size)).get? (s.heap.objs.size + 1) = some (PySem.W.instObj C s.heap.objs.size) := by
    have := Heap.get?_push_size (s.heap.push PySem.W.emptyDict) (o := PySem.W.instObj C s.heap.objs.size) rfl
    rwa [Heap.size_push] at this
  have e3 : (s.heap.push PySem.W.emptyDict).Ns s.heap.objs.size (fun _ => none) := ⟨PySem.W.emptyDict, #[], _, e1, rfl, (fun e he => absurd he (by simp)), fun _ => rfl⟩
  have I1 := I.laid (a := s.heap.objs.size) (o := .own (s.heap.objs.size + 1)) (h' := s.heap.push PySem.W.emptyDict) (t' := s.toks) (fun b u q => Heap.get?_push_of_some _ q) (Nat.le_refl _) ⟨_, e1⟩
  refine I1.laid (a := s.heap.objs.size + 1) (o := .ins C s.heap.objs.size []) (t' := s.toks) (fun b u q => Heap.get?_push_of_some _ q) (Nat.le_of_eq (Heap.size_push _ _)) ?_
  have ne : s.heap.objs.size ≠ s.heap.objs.size + 1 := Nat.ne_of_lt (Nat.lt_succ_self _)
  refine ⟨by rw [upd_ne ne, upd_same], Nat.zero_le _, ne, e2, fun _ => none, (Heap.Ns1.of_empty e3).at fun o q => Heap.get?_push_of_some _ q, fun _ => True.intro, fun y hy => absurd rfl hy⟩

/-- e.f where nothing but the object is asked: through attributeBase (super) and the last hold -/
theorem attr_of {prog : Program} {w : World} {env : Env} {e : Expr} {f : Str} {pos : Pos} {s : Shared} {Q : Value → Shared → Prop} (hb : attributeBase e f env (eval e env) = eval e env)
    (h : wpAny (model prog w) A (eval e env) (fun o s₁ => wpAny (model prog w) A (getAttr o f true) Q E s₁) E s) : wpAny (model prog w) A (eval (.Attribute e f pos) env) Q E s :=
  Attribute_any_ h (by rw [arm_eval_Attribute, hb])
end

/-! ### readings and rules -/
/-- e.f, an attribute of the instance -/
def tFld (K : PySem.W.Frag) (ta : TE) (f : Str) : TE := fun σ H Q => ta σ H fun x H1 => ∃ a C dx fs v, x = .ref a ∧ H1 a = some (.ins C dx fs) ∧ Cls K C ∧ NoAttr K C f ∧ fs.lookup f = some v ∧ Q v H1
/-- e.f = value -/
def sFld (K : PySem.W.Frag) (ta tv : TE) (f : Str) : TS := fun D σ H => tv σ H fun y H1 => ta σ H1 fun x H2 => ∃ a C dx fs, x = .ref a ∧ H2 a = some (.ins C dx fs) ∧ Cls K C ∧ NoAttr K C f ∧ fs.length < 1000 ∧
  D.nx σ (upd H2 a (.ins C dx (putF f y fs)))
section
variable {X : Cx} {o e value : Expr} {f : Str} {pos pos' tpos : Pos} {ta tv : TE}
theorem pe_fld (he : PE X e ta) (hb : attributeBase e f X.env (eval e X.env) = eval e X.env) : PE X (.Attribute e f pos) (tFld X.K ta f) := by
  intro pins s σ H Q I h
  refine attr_of hb (thn (he pins s σ H _ I h) fun u s1 ⟨x, H1, I1, rx, a, C, dx, fs, v, ex, ea, c, n, l, q⟩ => ?_)
  subst ex
  obtain rfl : u = Value.ref a := rx
  exact getattr_ok I1 ea c n l fun u' s2 I2 ru => ⟨v, H1, I2, ru, q⟩
theorem ps_fld (ha : PE X o ta) (hv : PE X value tv) (hs : swapsWith value (some (.Attribute o f pos')) pos.line X.env = pure false) : PS X (.Assign [.Attribute o f pos'] value pos) (sFld X.K ta tv f) := by
  intro pins s σ H D I h
  refine plainObj_wpAny_Assign_Attribute (thn (hv pins s σ H _ I h) fun u s1 ⟨y, H1, I1, ry, q⟩ => thn (ha pins s1 σ H1 _ I1 q) fun ov s2 ⟨x, H2, I2, rx, a, C, dx, fs, ex, ea, c, n, l, q2⟩ => ?_) hs
  subst ex
  obtain rfl : ov = Value.ref a := rx
  exact setattr_ok I2 ea c n l ry fun s3 I3 => ⟨σ, _, I3, q2⟩
end

/-! ### isinstance -/
section
variable {X : Cx} {pins : List (Addr × Obj)} {σ : St} {H : Hp} {s : Shared} {A : Around} {E : Value → Shared → Prop} {Q : Value → Shared → Prop} {c : Value} {b : Bool}
end
end L2

namespace L2
open PySem PySem.Spec PyProof.Rows

/-! ### room -/
structure Room (k : Nat) (A : Around) : Prop where
  hd : A.handled = none
  dp : A.depth + 3 * k + 5 < recursionLimit
  un : A.units + 16 * k + 200 < cLine
theorem Room.mono {j k : Nat} {A : Around} (r : Room k A) (h : j ≤ k) : Room j A := ⟨r.hd, by have := r.dp; omega, by have := r.un; omega⟩
theorem Room.deeper {k : Nat} {A : Around} (r : Room (k + 1) A) (env : Env) : Room k (A.deeper env) :=
  ⟨r.hd, by have := r.dp; show A.depth + 1 + 3 * k + 5 < _; omega, by have := r.un; show A.units + 3 + 16 * k + 200 < _; omega⟩
theorem make_depth {A : Around} {C : Addr} {us : List Value} {kw : List (Str × Value)} : (A.under (.builtin "type.__call__" ⟨.ref C :: us, kw⟩)).depth = A.depth + 1 := by
  first | rfl | simp [Around.under, Code.weight, Code.isCreation, Code.isGuard, Code.isCaller, Code.frames, Code.isFrame, guardIds]
theorem make_units {A : Around} {C : Addr} {us : List Value} {kw : List (Str × Value)} : (A.under (.builtin "type.__call__" ⟨.ref C :: us, kw⟩)).units = A.units + 1 := by
  first | rfl | simp [Around.under, Code.cUnits, Code.frames, Code.isFrame]
theorem Room.make {k : Nat} {A : Around} (r : Room (k + 1) A) (C : Addr) (us : List Value) (kw : List (Str × Value)) : Room k (A.under (.builtin "type.__call__" ⟨.ref C :: us, kw⟩)) :=
  ⟨r.hd, by have := r.dp; rw [make_depth]; omega, by have := r.un; rw [make_units]; omega⟩
theorem Room.depth {k : Nat} {A : Around} (r : Room k A) : A.depth < recursionLimit := by have := r.dp; omega
theorem Room.units {k : Nat} {A : Around} (r : Room k A) : A.units + 64 < cLine := by have := r.un; omega
/-! ### argument lists and displays -/
def tNil : TA := fun _ H Q => Q [] H
def tCons (ta : TE) (tr : TA) : TA := fun σ H Q => ta σ H fun x H1 => tr σ H1 fun xs H2 => Q (x :: xs) H2
section
variable {X : Cx} {e : Expr} {es : List Expr} {te : TE} {t : TA} {pos : Pos}
theorem pa_nil : PA X [] tNil := fun _ _ _ _ H Q I h => Calls.spliced_nil ⟨[], H, I, .nil, h⟩
theorem pa_cons (ha : PE X e te) (hr : PA X es t) (hs : starEach (e :: es) X.env = (false, eval e X.env) :: starEach es X.env := by rfl) : PA X (e :: es) (tCons te t) := by
  intro pos pins s σ H Q I h
  rw [hs]
  show wpAny _ _ (spliced ((false, eval e X.env) :: backTo pos (starEach es X.env))) _ _ s
  refine Calls.spliced_cons (thn (ha pins s σ H _ I h) fun u s1 ⟨x, H1, I1, r1, q1⟩ => ?_)
  exact thn (hr pos pins s1 σ H1 _ I1 q1) fun us s2 ⟨xs, H2, I2, r2, q2⟩ => ⟨x :: xs, H2, I2, .cons r1 r2, q2⟩

/-- a tuple, a list of written items -/
def tTup (t : TA) : TE := fun σ H Q => t σ H fun xs H1 => xs.length ≤ sizeLine ∧ ∀ p, H1 p = none → Q (.ref p) (upd H1 p (.tup xs))
def tLst (t : TA) : TE := fun σ H Q => t σ H fun xs H1 => xs.length ≤ sizeLine ∧ ∀ p, H1 p = none → Q (.ref p) (upd H1 p (.lst xs))
theorem pe_tup {x1} (h : PA X es t) : PE X (.Tuple es x1 pos) (tTup t) := by
  intro pins s σ H Q I hq
  refine wpAny_Tuple_spliced (thn (h pos pins s σ H _ I hq) fun us s1 ⟨xs, H1, I1, r, z, q⟩ => ⟨by rw [← r.length]; exact z, ?_⟩)
  have hf : H1 s1.heap.objs.size = none := I1.hok.fresh (Nat.le_refl _)
  refine ⟨.ref s1.heap.objs.size, upd H1 s1.heap.objs.size (.tup xs), I1.laid (t' := s1.toks) (fun b u e => Heap.get?_push_of_some _ e) (Nat.le_refl _) ?_, rfl, q _ hf⟩
  exact ⟨z, us, r, ⟨_, Heap.get?_push_size _ rfl, rfl, _, rfl⟩⟩
theorem pe_lst (h : PA X es t) : PE X (.List es pos) (tLst t) := by
  intro pins s σ H Q I hq
  refine wpAny_List_spliced (thn (h pos pins s σ H _ I hq) fun us s1 ⟨xs, H1, I1, r, z, q⟩ => ⟨by rw [← r.length]; exact z, ?_⟩)
  have hf : H1 s1.heap.objs.size = none := I1.hok.fresh (Nat.le_refl _)
  refine ⟨.ref s1.heap.objs.size, upd H1 s1.heap.objs.size (.lst xs), I1.laid (t' := s1.toks) (fun b u e => Heap.get?_push_of_some _ e) (Nat.le_refl _) ?_, rfl, q _ hf⟩
  exact ⟨z, us, 0, r, Heap.get?_push_size _ rfl⟩
end

/-! ### what a def promises -/
/-- a def's promise: the bound arguments in the parameters' order, the heap, the wanted end, the wanted exception -/
abbrev Sp := List V → Hp → VK → XK → Prop
/-- how an exception lies behind a call (file 08 gives it): the callers' frames, abstract heap and state ahead of the call, the wish, the exception, the state -/
abbrev CXT := List Env → Hp → Shared → XK → Value → Shared → Prop

/-- the state at a call -/
structure Env0 (P : Program) (w : World) (K : PySem.W.Frag) (mg : Str → Option Value) (base : Heap) (A : Around) (outer : List Env) (s : Shared) (H : Hp) : Prop where
  frames : A.frames = some outer
  mod : Mod K mg base
  bs : ∀ b o, base.get? b = some o → s.heap.get? b = some o ∧ H b = none
  bsz : base.objs.size ≤ s.heap.objs.size
  funs : s.heap.FunFrames base outer
  frf : ∀ b ∈ frs outer, H b = none
  hok : HOk P w H s.heap
  bare : AllBare s.gens
/-- a call's end -/
def CE (outer : List Env) (P : Program) (w : World) (H : Hp) (s : Shared) (Q : VK) (u : Value) (s' : Shared) : Prop :=
  ∃ v H', s'.os = s.os ∧ AllBare s'.gens ∧ Un (frs outer) [] H H' s.heap s'.heap ∧ HOk P w H' s'.heap ∧ RelV v u ∧ Q v H'
def CR (CX : CXT) (outer : List Env) (P : Program) (w : World) (H : Hp) (s : Shared) (Q : VK) (E : XK) (r : Result) (s' : Shared) : Prop :=
  match r with
  | .ok (.ret u) => CE outer P w H s Q u s'
  | .ok _ => False
  | .error e => CX outer H s E e s'
structure FnOk (P : Program) (w : World) (K : PySem.W.Frag) (mg : Str → Option Value) (base : Heap) (CX : CXT) (k : Nat) (f : Addr) (fd : FuncData) (ps : List Str) (sp : Sp) : Prop where
  len : ∀ vs H Q E, sp vs H Q E → vs.length = ps.length
  run : ∀ (A : Around) (outer : List Env) (s : Shared) (H : Hp) (args : Args) (us : List Value) (vs : List V) (Q : VK) (E : XK), Room k A → Env0 P w K mg base A outer s H → BindsTo s fd args (ps.zip us) → Vals vs us → sp vs H Q E →
    codeAny (model P w) A (.call (.ref f) args) (CR CX outer P w H s Q E) s
theorem Env0.make {P : Program} {w : World} {K : PySem.W.Frag} {mg : Str → Option Value} {base : Heap} {A : Around} {outer : List Env} {s : Shared} {H : Hp} (e : Env0 P w K mg base A outer s H) (C : Addr) (us : List Value) (kw : List (Str × Value)) :
    Env0 P w K mg base (A.under (.builtin "type.__call__" ⟨.ref C :: us, kw⟩)) outer s H := ⟨by first | exact e.frames | (simpa [Around.under, Code.envs, Code.isFrame, pushEnvs] using e.frames), e.mod, e.bs, e.bsz, e.funs, e.frf, e.hok, e.bare⟩
section
variable {X : Cx} {pins : List (Addr × Obj)} {σ : St} {H : Hp} {s s' : Shared}
/-- from a body: what a callee wants -/
theorem Inv.env0 (I : Inv X pins σ H s) : Env0 X.prog X.w X.K X.mg X.base X.A X.stack s H :=
  ⟨I.ok.frames, I.ok.mod, I.bs, Nat.le_trans I.ok.bsz I.sz, I.stack, I.stkFree, I.hok, I.bare⟩
/-- behind a call -/
theorem Inv.after {Q : VK} {u : Value} (I : Inv X pins σ H s) (h : CE X.stack X.prog X.w H s Q u s') : EP X pins σ Q u s' := by
  obtain ⟨v, H', os, bare, un, hok, r, q⟩ := h
  obtain ⟨hh, g, d, t, os'⟩ := s'
  obtain rfl : os' = s.os := os
  exact ⟨v, H', I.call (h' := hh) (g' := g) (d' := d) (t' := t) (ch := []) un hok bare (fun b z => absurd z (by simp)), r, q⟩
end

/-! ### calls -/
/-- f(..): the written arguments, then the defaults dvs; E: what is wanted of an exception -/
def tCall (sp : Sp) (dvs : List V) (E : XK) (t : TA) : TE := fun σ H Q => t σ H fun vs H1 => sp (vs ++ dvs) H1 Q E
/-- o.m(..) of an instance of the class at C -/
def tMeth (C : Addr) (m : Str) (sp : Sp) (dvs : List V) (E : XK) (ta : TE) (t : TA) : TE := fun σ H Q => ta σ H fun x H1 => ∃ a dx fs, x = .ref a ∧ H1 a = some (.ins C dx fs) ∧ fs.lookup m = none ∧
  t σ H1 fun vs H2 => sp (x :: (vs ++ dvs)) H2 Q E
/-- C(..): a new instance and its dict, then __init__ -/
def tMake (C : Addr) (sp : Sp) (dvs : List V) (E : XK) (t : TA) : TE := fun σ H Q => t σ H fun vs H1 => ∀ x dx, H1 x = none → H1 dx = none → dx ≠ x →
  sp (.ref x :: (vs ++ dvs)) (upd (upd H1 dx (.own x)) x (.ins C dx [])) (fun v H2 => v = .non ∧ Q (.ref x) H2) E

/-- how the parameters are bound: us the positional arguments, kw the keywords' values by name, ds the defaults that fill up -/
def Binds (K : PySem.W.Frag) (fd : FuncData) (ps : List Str) (ds : List Value) : Prop :=
  ∀ (s : Shared) (us : List Value), K.In s.heap → (us ++ ds).length = ps.length → BindsTo s fd ⟨us, []⟩ (ps.zip (us ++ ds))
/-- every parameter is given -/
theorem Binds.all {K : PySem.W.Frag} {fd : FuncData} {ps : List Str} (h : ∀ us : List Value, us.length = ps.length → bindArgs fd ⟨us, []⟩ = pure (ps.zip us)) : Binds K fd ps [] := fun s us _ hl => by
  rw [List.append_nil] at hl ⊢
  exact .of_eq (h us hl)

/-- an exception of a callee reaches what this body wants of exceptions -/
def Passes (CX : CXT) (X : Cx) (E : XK) : Prop := ∀ (pins : List (Addr × Obj)) (σ : St) (H : Hp) (s : Shared) (e : Value) (s' : Shared), Inv X pins σ H s → CX X.stack H s E e s' → X.xe e s'

section
variable {X : Cx} {CX : CXT} {k : Nat} {f C : Addr} {fd : FuncData} {ps : List Str} {sp : Sp} {dvs : List V} {ds : List Value} {E : XK} {x m : Str} {p pos apos : Pos} {e o : Expr} {es : List Expr} {ta : TE} {t : TA}

/-- the callee runs -/
theorem run_fn {pins : List (Addr × Obj)} {σ : St} {H : Hp} {s : Shared} {Q : VK} {us : List Value} {vs : List V} (F : FnOk X.prog X.w X.K X.mg X.base CX k f fd ps sp) (hr : Room k X.A) (hb : Binds X.K fd ps ds) (hd : Vals dvs ds) (hx : Passes CX X E)
    (I : Inv X pins σ H s) (r : Vals vs us) (h : sp (vs ++ dvs) H Q E) : wpAny (model X.prog X.w) X.A (call (.ref f) us) (EP X pins σ Q) X.xe s := by
  have r2 : Vals (vs ++ dvs) (us ++ ds) := r.append hd
  have hl : (us ++ ds).length = ps.length := by rw [← r2.length]; exact F.len _ _ _ _ h
  refine wpAny_call (codeAny_mono (F.run X.A X.stack s H ⟨us, []⟩ (us ++ ds) (vs ++ dvs) Q E hr I.env0 (hb s us I.kIn hl) r2 h) fun r s' hq => ?_)
  cases r with
  | error e => exact hx pins σ H s e s' I hq
  | ok fl =>
    cases fl with
    | ret u => exact I.after hq
    | next => exact False.elim hq
    | brk => exact False.elim hq
    | cont => exact False.elim hq

theorem pe_call (F : FnOk X.prog X.w X.K X.mg X.base CX k f fd ps sp) (hr : Room k X.A) (hg : Gl X x) (hm : X.mg x = some (.ref f)) (hk : PySem.W.keepIn X.K (.ref f) = true) (hb : Binds X.K fd ps ds) (hd : Vals dvs ds) (hx : Passes CX X E)
    (ha : PA X (e :: es) t) (hdb : (x == ("__debug__" : Str)) = false := by decide) (he : starEach (e :: es) X.env = (false, eval e X.env) :: starEach es X.env := by rfl) (hpl : (backTo pos (starEach es X.env)).any (·.1) = false := by rfl) :
    PE X (.Call (.Name x p) (e :: es) [] pos) (tCall sp dvs E t) := by
  intro pins s σ H Q I h
  refine wpAny_Call_Name_kw (ld_glob I hg hm ?_ hdb)
  refine PySem.W.callWith_K (h₀ := X.base) I.ok.mod.kin hk (thn (ha pos pins s σ H _ I h) fun us s1 ⟨vs, H1, I1, r, q⟩ => ⟨I1.kIn, ?_⟩) he hpl
  exact run_fn F hr hb hd hx I1 r q
/-- o.m(e, ..) -/
theorem pe_meth {pl : Sem Bool} (he : PE X o ta) (c : Cls X.K C) (hm : Meth X.K C m f) (F : FnOk X.prog X.w X.K X.mg X.base CX k f fd ps sp) (hr : Room k X.A) (hb : Binds X.K fd ps ds) (hd : Vals dvs ds) (hx : Passes CX X E) (ha : PA X (e :: es) t)
    (hst : starEach (e :: es) X.env = (false, eval e X.env) :: starEach es X.env := by rfl) (hpl : (backTo pos (starEach es X.env)).any (·.1) = false := by rfl)
    (ht : eval (.Call (.Attribute o m apos) (e :: es) [] pos) X.env = (do
      let ov ← eval o X.env
      standAt apos.atName
      let (f, first) ← holding [ov] (getMethod ov m pl)
      callWith pos f first (backTo pos (starEach (e :: es) X.env)) (backToKw pos (keywordEach [] X.env))) := by rfl) :
    PE X (.Call (.Attribute o m apos) (e :: es) [] pos) (tMeth C m sp dvs E ta t) := by
  intro pins s σ H Q I h
  refine PySem.W.methodCall_KW (pl := pl) (thn (he pins s σ H _ I h) fun u s1 ⟨x, H1, I1, rx, a, dx, fs, ex, ea, l, q⟩ => ?_) ht
  subst ex
  obtain rfl : u = Value.ref a := rx
  refine getmeth_ok I1 ea c hm l ?_
  refine PySem.W.callWith_K (first := [.ref a]) (h₀ := X.base) I.ok.mod.kin hm.kp (thn (ha pos pins s1 σ H1 _ I1 q) fun us s2 ⟨vs, H2, I2, r, q2⟩ => ⟨I2.kIn, ?_⟩) hst hpl
  exact run_fn (us := .ref a :: us) (vs := .ref a :: vs) F hr hb hd hx I2 (.cons rfl r) q2
/-- o.m() -/
theorem pe_meth0 {pl : Sem Bool} (he : PE X o ta) (c : Cls X.K C) (hm : Meth X.K C m f) (F : FnOk X.prog X.w X.K X.mg X.base CX k f fd ps sp) (hr : Room k X.A) (hb : Binds X.K fd ps ds) (hd : Vals dvs ds) (hx : Passes CX X E)
    (ht : eval (.Call (.Attribute o m apos) [] [] pos) X.env = (do
      let ov ← eval o X.env
      standAt apos.atName
      let (f, first) ← holding [ov] (getMethod ov m pl)
      callWith pos f first (backTo pos (starEach [] X.env)) (backToKw pos (keywordEach [] X.env))) := by rfl) :
    PE X (.Call (.Attribute o m apos) [] [] pos) (tMeth C m sp dvs E ta tNil) := by
  intro pins s σ H Q I h
  refine PySem.W.methodCall_KW (pl := pl) (thn (he pins s σ H _ I h) fun u s1 ⟨x, H1, I1, rx, a, dx, fs, ex, ea, l, q⟩ => ?_) ht
  subst ex
  obtain rfl : u = Value.ref a := rx
  refine getmeth_ok I1 ea c hm l ?_
  exact PySem.W.callWith_K0 (first := [.ref a]) I1.kIn hm.kp (run_fn (us := [.ref a]) (vs := [.ref a]) F hr hb hd hx I1 (.cons rfl .nil) q)

/-- what a class must have to be made -/
structure Mk (K : PySem.W.Frag) (C f : Addr) : Prop where
  makes : PySem.W.makesIn K C = true
  init : PySem.W.findIn K (.ref C) "__init__" = some (some (.ref f))
  fn : PySem.W.isFn K (.ref f) = true
  kp : PySem.W.keepIn K (.ref C) = true

theorem run_make {pins : List (Addr × Obj)} {σ : St} {H : Hp} {s : Shared} {Q : VK} {us : List Value} {vs : List V} (M : Mk X.K C f) (F : FnOk X.prog X.w X.K X.mg X.base CX k f fd ps sp) (hr : Room (k + 1) X.A) (hb : Binds X.K fd ps ds) (hd : Vals dvs ds)
    (hx : Passes CX X E) (I : Inv X pins σ H s) (r : Vals vs us)
    (h : ∀ x dx, H x = none → H dx = none → dx ≠ x → sp (.ref x :: (vs ++ dvs)) (upd (upd H dx (.own x)) x (.ins C dx [])) (fun v H2 => v = .non ∧ Q (.ref x) H2) E) :
    wpAny (model X.prog X.w) X.A (call (.ref C) us) (EP X pins σ Q) X.xe s := by
  have hq := h (s.heap.objs.size + 1) s.heap.objs.size (I.hok.fresh (Nat.le_succ _)) (I.hok.fresh (Nat.le_refl _)) (Nat.ne_of_lt (Nat.lt_succ_self _))
  have I2 := Inv.made (C := C) I
  have r2 : Vals (V.ref (s.heap.objs.size + 1) :: (vs ++ dvs)) (Value.ref (s.heap.objs.size + 1) :: (us ++ ds)) := .cons rfl (r.append hd)
  have hl : (Value.ref (s.heap.objs.size + 1) :: us ++ ds).length = ps.length := by
    have e := r2.length
    rw [F.len _ _ _ _ hq] at e
    exact e.symm
  refine wpAny_call (make_map (f := f) I.kIn M.makes M.init (beq_iff_eq.mp M.fn) (codeAny_mono (F.run _ X.stack _ _ ⟨Value.ref (s.heap.objs.size + 1) :: us, []⟩ (Value.ref (s.heap.objs.size + 1) :: (us ++ ds)) _ _ E (hr.make C us [])
    (I2.env0.make C us []) (hb _ (Value.ref (s.heap.objs.size + 1) :: us) I2.kIn hl) r2 hq) fun r s' hq' => ?_))
  cases r with
  | error e => exact hx pins σ _ _ e s' I2 hq'
  | ok fl =>
    cases fl with
    | ret u =>
      obtain ⟨v, H', I3, rv, ev, q3⟩ := I2.after hq'
      subst ev
      exact ⟨rv, ⟨V.ref (s.heap.objs.size + 1), H', I3, rfl, q3⟩⟩
    | next => exact False.elim hq'
    | brk => exact False.elim hq'
    | cont => exact False.elim hq'
theorem pe_make (M : Mk X.K C f) (F : FnOk X.prog X.w X.K X.mg X.base CX k f fd ps sp) (hr : Room (k + 1) X.A) (hg : Gl X x) (hm : X.mg x = some (.ref C)) (hb : Binds X.K fd ps ds) (hd : Vals dvs ds) (hx : Passes CX X E)
    (ha : PA X (e :: es) t) (hdb : (x == ("__debug__" : Str)) = false := by decide) (he : starEach (e :: es) X.env = (false, eval e X.env) :: starEach es X.env := by rfl) (hpl : (backTo pos (starEach es X.env)).any (·.1) = false := by rfl) :
    PE X (.Call (.Name x p) (e :: es) [] pos) (tMake C sp dvs E t) := by
  intro pins s σ H Q I h
  refine wpAny_Call_Name_kw (ld_glob I hg hm ?_ hdb)
  refine PySem.W.callWith_K (h₀ := X.base) I.ok.mod.kin M.kp (thn (ha pos pins s σ H _ I h) fun us s1 ⟨vs, H1, I1, r, q⟩ => ⟨I1.kIn, ?_⟩) he hpl
  exact run_make M F hr hb hd hx I1 r q
end

/-! ### keywords -/
/-- the values of the keywords, from the left -/
def PK (X : Cx) (kws : List Keyword) (t : TA) : Prop :=
  ∀ (pos : Pos) (pins : List (Addr × Obj)) (s : Shared) (σ : St) (H : Hp) (Q : List V → Hp → Prop), Inv X pins σ H s → t σ H Q → wpAny (model X.prog X.w) X.A (evalAll ((backToKw pos (keywordEach kws X.env)).map (·.2))) (AP X pins σ Q) X.xe s
section
variable {X : Cx} {CX : CXT} {k : Nat} {f C : Addr} {fd : FuncData} {ps ks : List Str} {sp : Sp} {E : XK} {x m : Str} {p pos apos kpos : Pos} {e o : Expr} {es : List Expr} {kws : List Keyword} {te ta : TE} {t tk : TA} {nm : Option Str}
theorem pk_nil : PK X [] tNil := fun _ _ _ _ H Q I h => wpAny_evalAll_nil ⟨[], H, I, .nil, h⟩
theorem pk_cons (ha : PE X e te) (hr : PK X kws t) : PK X (⟨nm, e, kpos⟩ :: kws) (tCons te t) := by
  intro pos pins s σ H Q I h
  show wpAny _ _ (evalAll ((do let v ← eval e X.env; standAt pos; pure v) :: (backToKw pos (keywordEach kws X.env)).map (·.2))) _ _ s
  refine wpAny_evalAll_cons (wpAny_bind (thn (ha pins s σ H _ I h) fun u s1 ⟨x, H1, I1, r1, q1⟩ => wpAny_bind (wpAny_standAt (wpAny_pure ?_))))
  exact thn (hr pos pins s1 σ H1 _ I1 q1) fun us s2 ⟨xs, H2, I2, r2, q2⟩ => ⟨x :: xs, H2, I2, .cons r1 r2, q2⟩

variable {g : List Value → List Value → List Value} {gV : List V → List V → List V}
end

/-! ### a def's body keeps its promise -/
/-- names: the parameters first -/
structure FnScope (N P : List Str) (sc : Scope) : Prop where
  kind : sc.kind = .function
  co : sc.isCoroutine = false
  gen : sc.isGenerator = false
  nd : N.Nodup
  pre : N.take P.length = P
  par : ∀ x ∈ P, sc.names.lookup x = some .local ∨ sc.names.lookup x = some .cell
  nofree : ∀ y ∈ sc.names, y.2 ≠ .free

theorem bindL_out {kindOf : Str → Option NameKind} {x : Str} : ∀ {binds : List (Str × Value)} {m : Str → Option Value}, (∀ v, (x, v) ∉ binds) → bindL kindOf binds m x = m x
  | [], _, _ => rfl
  | (n, v) :: r, m, h => by
    unfold bindL
    rw [bindL_out fun w hw => h w (List.mem_cons_of_mem _ hw)]
    split
    · have : x ≠ n := by rintro rfl; exact h v List.mem_cons_self
      simp [this]
    · rfl
theorem bindC_out {kindOf : Str → Option NameKind} {x : Str} : ∀ {binds : List (Str × Value)} {m : Str → Option Value}, (∀ v, (x, v) ∉ binds) → bindC kindOf binds m x = m x
  | [], _, _ => rfl
  | (n, v) :: r, m, h => by
    unfold bindC
    rw [bindC_out fun w hw => h w (List.mem_cons_of_mem _ hw)]
    split
    · rfl
    · have : x ≠ n := by rintro rfl; exact h v List.mem_cons_self
      simp [this]
theorem bindL_get {kindOf : Str → Option NameKind} {x : Str} {v : Value} : ∀ {P : List Str} {vs : List Value} {i : Nat} {m : Str → Option Value}, P.Nodup → P[i]? = some x → vs[i]? = some v → kindOf x = some .local →
    bindL kindOf (P.zip vs) m x = some v
  | [], _, _, _, _, h, _, _ => by simp at h
  | _ :: _, [], _, _, _, _, h, _ => by simp at h
  | p :: P, w :: vs, 0, m, nd, h1, h2, hk => by
    simp at h1 h2; subst h1; subst h2
    show bindL kindOf ((p, w) :: P.zip vs) m p = _
    unfold bindL
    rw [bindL_out fun v hv => (List.nodup_cons.mp nd).1 (List.of_mem_zip hv).1, if_pos hk]
    simp
  | p :: P, w :: vs, i + 1, m, nd, h1, h2, hk => by
    show bindL kindOf ((p, w) :: P.zip vs) m x = _
    unfold bindL
    exact bindL_get (i := i) (List.nodup_cons.mp nd).2 (by simpa using h1) (by simpa using h2) hk
theorem bindC_get {kindOf : Str → Option NameKind} {x : Str} {v : Value} : ∀ {P : List Str} {vs : List Value} {i : Nat} {m : Str → Option Value}, P.Nodup → P[i]? = some x → vs[i]? = some v → kindOf x ≠ some .local →
    bindC kindOf (P.zip vs) m x = some v
  | [], _, _, _, _, h, _, _ => by simp at h
  | _ :: _, [], _, _, _, _, h, _ => by simp at h
  | p :: P, w :: vs, 0, m, nd, h1, h2, hk => by
    simp at h1 h2; subst h1; subst h2
    show bindC kindOf ((p, w) :: P.zip vs) m p = _
    unfold bindC
    rw [bindC_out fun v hv => (List.nodup_cons.mp nd).1 (List.of_mem_zip hv).1, if_neg hk]
    simp
  | p :: P, w :: vs, i + 1, m, nd, h1, h2, hk => by
    show bindC kindOf ((p, w) :: P.zip vs) m x = _
    unfold bindC
    exact bindC_get (i := i) (List.nodup_cons.mp nd).2 (by simpa using h1) (by simpa using h2) hk

/-- the names' values at the entry -/
def start (N : List Str) (vs : List V) : St := vs.map some ++ List.replicate (N.length - vs.length) none

/-- the context of a def's body, at its entry; an exception leaves the frame, then lies as CX says -/
def cxOf (CX : CXT) (P : Program) (w : World) (K : PySem.W.Frag) (mg : Str → Option Value) (base : Heap) (N : List Str) (qual : Str) (scope : Scope) (f : Addr) (cd : Value) (A : Around) (outer : List Env) (s : Shared) (H : Hp) (E : XK) : Cx where
  prog := P
  w := w
  K := K
  mg := mg
  base := base
  A := A.deeper (envOfC qual scope s.heap.objs.size f cd)
  N := N
  s₀ := s
  H₀ := H
  env := envOfC qual scope s.heap.objs.size f cd
  outer := outer
  stack := envOfC qual scope s.heap.objs.size f cd :: outer
  ex := []
  calm := true
  fn := fun _ => true
  pn := []
  xe := fun e s' => wpAny (model P w) (A.deeper (envOfC qual scope s.heap.objs.size f cd)) (leaving (envOfC qual scope s.heap.objs.size f cd) e) (fun _ s'' => CX outer H s E e s'') (fun e' s'' => CX outer H s E e' s'') s'

theorem cell_has {sc : Scope} {n : Nat} {x : Str} (h : sc.names.lookup x = some .cell) : ∃ c, (cellsFrom n sc.names []).lookup x = some c := by
  have q := PySem.W.cellsFrom_some sc.names n [] (.inl h)
  exact Option.isSome_iff_exists.mp q

theorem inv_start {CX : CXT} {P : Program} {w : World} {K : PySem.W.Frag} {mg : Str → Option Value} {base : Heap} {N ps : List Str} {qual : Str} {scope : Scope} {f : Addr} {cd : Value} {A : Around} {outer : List Env} {s s1 : Shared} {H : Hp} {E : XK} {us : List Value} {vs : List V}
    (S : FnScope N ps scope) (hd : A.handled = none) (e0 : Env0 P w K mg base A outer s H) (hl : vs.length = ps.length) (r : Vals vs us)
    (x : InCallC s s.heap.objs.size (bindL (envOfC qual scope s.heap.objs.size f cd).kindOf (ps.zip us) fun _ => none) (cellsFrom (s.heap.objs.size + 1) scope.names []) (bindC (envOfC qual scope s.heap.objs.size f cd).kindOf (ps.zip us) fun _ => none) s1) :
    Inv (cxOf CX P w K mg base N qual scope f cd A outer s H E) [] (start N vs) H s1 := by
  have hpl : ps.length ≤ N.length := by have := congrArg List.length S.pre; rw [List.length_take] at this; omega
  obtain ⟨h1, tk, rfl, hk⟩ := x.done
  have noA : ∀ b : Addr, b ∉ (cxOf CX P w K mg base N qual scope f cd A outer s H E).ex := fun b z => absurd (show b ∈ ([] : List Addr) from z) (by simp)
  refine ⟨⟨e0.mod, S.kind, rfl, rfl, Nat.le_refl _, fun y z c h1 h2 => ?_, fun y hy => ?_, fun y c _ h => ?_, fun _ => hd, Around.frames_deeper e0.frames, .inr ⟨rfl, rfl⟩, fun b z => absurd z (noA b), e0.bs, e0.bsz, fun b _ _ => noA b, fun b z => absurd z (noA b), e0.funs, e0.frf⟩,
    rfl, e0.bare, Un.kept hk, ⟨_, x.toInCall.ns, fun i y v h1 h2 h3 => ?_⟩, fun y c h => ⟨_, x.cell y c h⟩, e0.hok.fresh (Nat.le_refl _), fun y c h => ?_, fun p hp => absurd (show p ∈ ([] : List (Addr × Obj)) from hp) (by simp), e0.hok.kept hk, ?_⟩
  · exact name_of_addr x.apart (PySem.mem_of_lookup h1) (PySem.mem_of_lookup h2)
  · have hy : scope.names.lookup y = some .cell ∨ scope.names.lookup y = some .free := hy
    rcases hy with hy | hy
    · exact cell_has hy
    · exact absurd rfl (S.nofree _ (PySem.mem_of_lookup hy))
  · exact Nat.le_of_lt (x.above y c (PySem.mem_of_lookup h))
  · have hi : i < vs.length := by
      unfold start at h2
      by_cases hi : i < vs.length
      · exact hi
      · rw [List.getElem?_append_right (by simpa using hi)] at h2
        rw [List.getElem?_replicate] at h2
        split at h2 <;> cases h2
    have ha : vs[i]? = some v := by
      unfold start at h2
      rw [List.getElem?_append_left (by simpa using hi), List.getElem?_map] at h2
      cases e : vs[i]? with
      | none => rw [e] at h2; cases h2
      | some a => rw [e] at h2; cases h2; rfl
    obtain ⟨u, hu, rv⟩ := r.get ha
    have hp : ps[i]? = some y := by
      rw [← S.pre, List.getElem?_take_of_lt (by omega)]; exact h1
    have ndP : ps.Nodup := by rw [← S.pre]; exact S.nd.sublist (List.take_sublist _ _)
    refine ⟨u, rv, ?_⟩
    rcases S.par y (List.mem_of_getElem? hp) with k | k
    · exact .inl ⟨k, bindL_get ndP hp hu k⟩
    · obtain ⟨c, e⟩ := cell_has (n := s.heap.objs.size + 1) k
      refine .inr ⟨.inl k, c, e, ?_⟩
      have q := x.cell y c e
      rw [bindC_get ndP hp hu (by show scope.names.lookup y ≠ _; rw [k]; decide)] at q
      exact q
  · exact e0.hok.fresh (Nat.le_of_lt (x.above y c (PySem.mem_of_lookup h)))
  · unfold start
    show _ = N.length
    rw [List.length_append, List.length_map, List.length_replicate]
    omega

/-- THE RULE: a def (or a method) of the text, by its body. The body's reading t is chosen for each entry; it is run at the parameters' values -/
theorem fn_of {CX : CXT} {P : Program} {w : World} {K : PySem.W.Frag} {mg : Str → Option Value} {base : Heap} {k : Nat} {f : Addr} {name qual : Str} {params : Arguments} {body : List Stmt} {scope : Scope} {dV kV doc pm cdv ct oc : Value} {an od : Option Addr}
    {osl : Array (Option Value)} {N ps : List Str} {sp : Sp} (lk : K.lookup f = some ⟨oc, od, .func (PySem.W.fnOf name qual params body scope dV kV doc pm an cdv ct), osl⟩) (hcd : PySem.W.codeIn K cdv qual = true) (S : FnScope N ps scope)
    (len : ∀ vs H Q E, sp vs H Q E → vs.length = ps.length)
    (hbody : ∀ (A : Around) (outer : List Env) (s : Shared) (H : Hp) (vs : List V) (Q : VK) (E : XK), Room k (A.deeper (envOfC qual scope s.heap.objs.size f cdv)) → sp vs H Q E →
      ∃ t, PSs (cxOf CX P w K mg base N qual scope f cdv A outer s H E) body t ∧ t { nx := fun _ H' => Q .non H', rt := Q } (start N vs) H) :
    FnOk P w K mg base CX (k + 1) f (PySem.W.fnOf name qual params body scope dV kV doc pm an cdv ct) ps sp := by
  refine ⟨len, fun A outer s H args us vs Q E hr e0 hb r hsp => ?_⟩
  have hl := len _ _ _ _ hsp
  have KX : K.In s.heap := e0.mod.kin.keeps fun b o e => (e0.bs b o e).1
  have lim : s.heap.NoLimit := e0.mod.nolimit.keeps fun b o e => (e0.bs b o e).1
  have hkind : ∀ y ∈ ps.zip us, scope.names.lookup y.1 = some .local ∨ (scope.names.lookup y.1 = some .cell ∧ ((cellsFrom (s.heap.objs.size + 1) scope.names []).lookup y.1).isSome = true) := fun ⟨n, v⟩ hy => by
    rcases S.par n (List.of_mem_zip hy).1 with q | q
    · exact .inl q
    · exact .inr ⟨q, PySem.W.cellsFrom_some _ _ _ (.inl q)⟩
  refine codeAny_call_function hr.depth (KX _ _ lk) rfl S.co S.gen rfl (PySem.W.codeRec_of KX hcd) (hb _ _ _ _ ?_)
  refine wpAny_newFunctionEnv_cells S.kind hkind fun env he s1 x => ?_
  subst he
  refine ⟨lim.keeps x.toInCall.keep, codeAny_func ?_⟩
  obtain ⟨t, ht, hq⟩ := hbody A outer s H vs Q E (hr.deeper _) hsp
  have I : Inv (cxOf CX P w K mg base N qual scope f cdv A outer s H E) [] (start N vs) H s1 := inv_start S hr.hd e0 hl r x
  refine wpAny_mono (ht [] s1 (start N vs) H _ I hq) (fun fl s' hs => ?_) fun e s' hs => hs
  have fin : ∀ {σ' : St} {H' : Hp} {v : V} {u : Value}, Inv (cxOf CX P w K mg base N qual scope f cdv A outer s H E) [] σ' H' s' → RelV v u → Q v H' → CE outer P w H s Q u s' :=
    fun {σ' H' v u} J rv q => ⟨v, H', J.os, J.bare, J.base, J.hok, rv, q⟩
  cases fl with
  | ret u =>
    obtain ⟨v, σ', H', J, rv, q⟩ := hs
    exact fin J rv q
  | next =>
    obtain ⟨σ', H', J, q⟩ := hs
    exact fin (v := V.non) (u := Value.none) J rfl q
  | brk =>
    obtain ⟨_, _, _, q⟩ := hs
    exact False.elim q
  | cont =>
    obtain ⟨_, _, _, q⟩ := hs
    exact False.elim q
end L2

namespace L2
open PySem PySem.Spec PyProof.Rows
section
variable {X : Cx} {x : Str} {p pos : Pos} {e : Expr} {es : List Expr} {t : TA} {id T : String} {r : List V → Hp → VK → Prop}

def tCB (r : List V → Hp → VK → Prop) (t : TA) : TE := fun σ H Q => t σ H fun vs H1 => r vs H1 Q
/-- f(e, ..), f a built-in function -/
theorem pe_callB (hc : CallR X (.builtin id) r) (hg : Gl X x) (hm : X.mg x = none) (hv : bootBuiltins x = some (.builtin id)) (ha : PA X (e :: es) t) (hn : x ≠ "__name__" := by decide) (hdb : (x == ("__debug__" : Str)) = false := by decide)
    (he : starEach (e :: es) X.env = (false, eval e X.env) :: starEach es X.env := by rfl) (hpl : (backTo pos (starEach es X.env)).any (·.1) = false := by rfl) : PE X (.Call (.Name x p) (e :: es) [] pos) (tCB r t) := by
  intro pins s σ H Q I h
  refine wpAny_Call_Name_kw (ld_blt I hg hm hv ?_ hn hdb)
  exact PyProof.Rows.callWith_builtin1 (thn (ha pos pins s σ H _ I h) fun us s1 ⟨vs, H1, I1, r1, q1⟩ => hc pins s1 σ H1 vs us Q I1 r1 q1) he hpl
/-- T(e, ..), T a built-in type -/
theorem pe_callTy (hc : CallR X (.type T) r) (hg : Gl X x) (hm : X.mg x = none) (hv : bootBuiltins x = some (.type T)) (ha : PA X (e :: es) t) (hn : x ≠ "__name__" := by decide) (hdb : (x == ("__debug__" : Str)) = false := by decide)
    (he : starEach (e :: es) X.env = (false, eval e X.env) :: starEach es X.env := by rfl) (hpl : (backTo pos (starEach es X.env)).any (·.1) = false := by rfl) : PE X (.Call (.Name x p) (e :: es) [] pos) (tCB r t) := by
  intro pins s σ H Q I h
  refine wpAny_Call_Name_kw (ld_blt I hg hm hv ?_ hn hdb)
  exact PyProof.Rows.callWith_type1 (thn (ha pos pins s σ H _ I h) fun us s1 ⟨vs, H1, I1, r1, q1⟩ => hc pins s1 σ H1 vs us Q I1 r1 q1) he hpl
end
end L2

namespace HT
open PySem PyProof.Rows

section
open PySem.SeqAt
open PySem.AutoSeq1 (wpAny_loadPart')
open PySem.MeetsSeq PySem.MeetsSeq2 PySem.MeetsSeq3

end

section
variable {prog : Program} {w : World} {A : Around} {E : Value → Shared → Prop} {s : Shared}

/-! ### t[a:b], not the whole -/
end
end HT

namespace L2
open PySem PySem.Spec PyProof.Rows

/-! ### the parts of a slice -/
abbrev TO := St → Hp → (Option Int → Hp → Prop) → Prop
/-- a slice's part (left out, or an int) -/
def PO (X : Cx) (e : Option Expr) (t : TO) : Prop :=
  ∀ (pins : List (Addr × Obj)) (s : Shared) (σ : St) (H : Hp) (Q : Option Int → Hp → Prop), Inv X pins σ H s → t σ H Q →
    wpAny (model X.prog X.w) X.A (evalPart e X.env) (fun u s' => ∃ o H', Inv X pins σ H' s' ∧ IsPart u o ∧ Q o H') X.xe s
section
variable {X : Cx} {e : Expr} {te : TE} {lo hi : Option Expr} {tl th : TO} {pos p2 : Pos}

/-! ### t < u, t + u -/
end
end L2

namespace L2
open PySem PySem.Spec PyProof.Rows

/-! ### places -/
/-- the place that an index of any sign means -/
def ixN (n : Nat) (i : Int) : Option Nat := if 0 ≤ i then (if i < n then some i.toNat else none) else if -(n : Int) ≤ i then some (i + n).toNat else none
def atI {α : Type} (xs : List α) (i : Int) : Option α := (ixN xs.length i).bind fun j => xs[j]?
theorem ixN_seq {n : Nat} {i : Int} {j : Nat} (h : ixN n i = some j) : seqIndex? i n = some j ∧ j < n ∧ -(n : Int) ≤ i ∧ i < n := by
  unfold ixN at h
  by_cases h0 : 0 ≤ i
  · rw [if_pos h0] at h
    by_cases h1 : i < n
    · rw [if_pos h1] at h
      have e : i.toNat = j := Option.some.inj h
      exact ⟨by rw [seqIndex_of h0 h1, e], by omega, by omega, h1⟩
    · rw [if_neg h1] at h; cases h
  · rw [if_neg h0] at h
    by_cases h1 : -(n : Int) ≤ i
    · rw [if_pos h1] at h
      have e : (i + n).toNat = j := Option.some.inj h
      exact ⟨by rw [seqIndex_neg (by omega) h1, e], by omega, h1, by omega⟩
    · rw [if_neg h1] at h; cases h
theorem atI_get {α : Type} {xs : List α} {i : Int} {v : α} (h : atI xs i = some v) : ∃ j, seqIndex? i xs.length = some j ∧ xs[j]? = some v ∧ j < xs.length ∧ -(xs.length : Int) ≤ i ∧ i < xs.length := by
  unfold atI at h
  cases e : ixN xs.length i with
  | none => rw [e] at h; cases h
  | some j =>
    rw [e] at h
    obtain ⟨h1, h2, h3, h4⟩ := ixN_seq e
    exact ⟨j, h1, h, h2, h3, h4⟩
theorem atI_nat {α : Type} {xs : List α} {j : Nat} {v : α} (h : xs[j]? = some v) : atI xs (j : Int) = some v := by
  have hj : j < xs.length := (List.getElem?_eq_some_iff.mp h).1
  have e : ixN xs.length (j : Int) = some j := by
    unfold ixN
    rw [if_pos (by omega), if_pos (by omega)]; simp
  unfold atI; rw [e]; exact h
/-! ### what may be subscripted -/
/-- what stands as an index of a plain subscript -/
def PlainIx (b : Expr) : Prop := ∀ o i, subscripted b false o i = operate [o, i] (getItem o i)
/-- a subscript by values -/
def IxR (X : Cx) (r : R2) : Prop :=
  ∀ (value slice : Expr) (pins : List (Addr × Obj)) (s : Shared) (σ : St) (H : Hp) (x y : V) (v u : Value) (Q : VK), Inv X pins σ H s → RelV x v → RelV y u → r x y H Q →
    subscripted slice false v u = operate [v, u] (getItem v u) → wpAny (model X.prog X.w) X.A (subscriptTail value slice v u) (EP X pins σ Q) X.xe s
/-- a call of a builtin's method by values: the receiver, the arguments -/
def MtR (X : Cx) (id : String) (r : V → List V → Hp → VK → Prop) : Prop :=
  ∀ (pins : List (Addr × Obj)) (s : Shared) (σ : St) (H : Hp) (x : V) (xs : List V) (v : Value) (us : List Value) (Q : VK), Inv X pins σ H s → RelV x v → Vals xs us → r x xs H Q →
    wpAny (model X.prog X.w) X.A (call (.builtin id) (v :: us)) (EP X pins σ Q) X.xe s
section
variable {X : Cx} {a b : Expr} {ta tb : TE} {pos : Pos}
/-- a[b] -/
theorem pe_ix {r : R2} (hr : IxR X r) (ha : PE X a ta) (hb : PE X b tb) (hs : PlainIx b) : PE X (.Subscript a b pos) (tOp r ta tb) := by
  intro pins s σ H Q I h
  exact Subscript_ (binT ha hb I h fun v u s2 x y H2 I2 rx ry q => hr a b pins s2 σ H2 x y v u Q I2 rx ry q (hs _ _))

def rIxL (K : PySem.W.Frag) : R2 := fun x y H Q => ∃ p xs i v, x = .ref p ∧ y = .int i ∧ SqL K H p xs ∧ atI xs i = some v ∧ Q v H
def rIxT (K : PySem.W.Frag) : R2 := fun x y H Q => ∃ p xs i v, x = .ref p ∧ y = .int i ∧ SqT K H p xs ∧ atI xs i = some v ∧ Q v H
theorem ix_list : IxR X (rIxL X.K) := by
  intro value slice pins s σ H x y v u Q I rx ry h hs
  obtain ⟨p, xs, i, z, rfl, rfl, hq, he, q⟩ := h
  cases rx
  obtain ⟨t, rfl⟩ := ry
  obtain ⟨its, r, pl, hz⟩ := I.list hq
  obtain ⟨j, h1, h2, h3, h4, h5⟩ := atI_get he
  obtain ⟨w, ew, rw'⟩ := r.get h2
  have hl := r.length
  have hn := line63
  have fin : EP X pins σ Q w s := ⟨z, H, I, rw', q⟩
  by_cases h0 : 0 ≤ i
  · have hj : i.toNat = j := by
      rw [seqIndex_of h0 h5] at h1
      exact Option.some.inj h1
    exact item_listR pl.isList h0 (by omega) (by rw [hj]; simpa using ew) fin hs
  · have hj : (i + (its.toArray.size : Int)).toNat = j := by
      rw [seqIndex_neg (by omega) h4] at h1
      rw [List.size_toArray, ← hl]
      exact Option.some.inj h1
    exact subscriptTail_builtinR (x := w) pl.isList.typeIs slot_list_getitem.lookup
      (wpAny_getItem_list_neg (Q := fun r s' => r = w ∧ EP X pins σ Q r s') pl.isList (by omega) (by rw [List.size_toArray] <;> omega) (by omega) (by rw [hj]; simpa using ew) ⟨rfl, fin⟩) hs
theorem ix_tup : IxR X (rIxT X.K) := by
  intro value slice pins s σ H x y v u Q I rx ry h hs
  obtain ⟨p, xs, i, z, rfl, rfl, hq, he, q⟩ := h
  cases rx
  obtain ⟨t, rfl⟩ := ry
  obtain ⟨its, r, pl, hz⟩ := I.tuple hq
  obtain ⟨j, h1, h2, h3, h4, h5⟩ := atI_get he
  obtain ⟨w, ew, rw'⟩ := r.get h2
  have hl := r.length
  have hn := line63
  have fin : EP X pins σ Q w s := ⟨z, H, I, rw', q⟩
  exact subscriptTail_builtinR (x := w) pl.typeIs slot_tuple_getitem.lookup
    (getItem_tuple (j := j) (Q := fun r s' => r = w ∧ EP X pins σ Q r s') pl (by omega) (by omega) (by rw [List.size_toArray, ← hl]; exact h1) (by simpa using ew) ⟨rfl, fin⟩) hs
/-! ### xs[i] = v, any sign -/
/-- the list's object behind a store -/
theorem mapSeq_set (its : List Value) (n j : Nat) (u : Value) : Obj.mapSeq (·.setIfInBounds j u) { cls := .type "list", data := .seq its.toArray n } = { cls := .type "list", data := .seq (its.set j u).toArray n } := by
  simp [Obj.mapSeq]
theorem Inv.lst {pins : List (Addr × Obj)} {σ : St} {H : Hp} {s : Shared} {p : Addr} {xs : List V} (I : Inv X pins σ H s) (h : H p = some (.lst xs)) :
    ∃ (its : List Value) (n : Nat), Vals xs its ∧ s.heap.get? p = some { cls := .type "list", data := .seq its.toArray n } ∧ xs.length ≤ sizeLine := by
  obtain ⟨z, its, n, r, e⟩ := I.hok p _ h
  exact ⟨its, n, r, e, z⟩
/-- the list at p is written by an update of its object -/
theorem Inv.lstUpd {pins : List (Addr × Obj)} {σ : St} {H : Hp} {s : Shared} {p : Addr} {xs ys : List V} {its its' : List Value} {n n' : Nat} {f : Obj → Obj} (I : Inv X pins σ H s) (h : H p = some (.lst xs))
    (ho : s.heap.get? p = some { cls := .type "list", data := .seq its.toArray n }) (hf : f { cls := .type "list", data := .seq its.toArray n } = { cls := .type "list", data := .seq its'.toArray n' }) (r : Vals ys its') (hz : ys.length ≤ sizeLine) (t : Nat) :
    Inv X pins σ (upd H p (.lst ys)) { s with heap := s.heap.update p f, toks := t } := by
  have e : (s.heap.update p f).get? p = some { cls := .type "list", data := .seq its'.toArray n' } := by
    rw [Heap.get?_update_self f ho (by rw [hf] <;> rfl), hf]
  refine I.write (x := p) (e := p) (by rw [h]; trivial) (.inl rfl) (fun b u hb q => (Heap.get?_update_other _ _ (Ne.symm hb)).trans q) ⟨_, e⟩ ?_
  exact ⟨hz, its', n', r, e⟩
def rSetL : V → V → V → Hp → (Hp → Prop) → Prop := fun o i v H Q => ∃ p xs k j, o = .ref p ∧ i = .int k ∧ H p = some (.lst xs) ∧ ixN xs.length k = some j ∧ Q (upd H p (.lst (xs.set j v)))
theorem set_list : PSet X rSetL := by
  intro pins s σ H o i v ov iv u Q I ro ri rv h
  obtain ⟨p, xs, k, j, rfl, rfl, hp, hj, q⟩ := h
  cases ro
  obtain ⟨t, rfl⟩ := ri
  obtain ⟨its, n, r, ho, hz⟩ := I.lst hp
  obtain ⟨h1, h2, h3, h4⟩ := ixN_seq hj
  have hl := r.length
  have hn := line63
  have I' : Inv X pins σ (upd H p (.lst (xs.set j v))) { s with heap := s.heap.update p (Obj.mapSeq (·.setIfInBounds j u)) } :=
    I.lstUpd hp ho (mapSeq_set its n j u) (r.set rv j) (by rw [List.length_set]; exact hz) s.toks
  by_cases h0 : 0 ≤ k
  · have hk : k.toNat = j := by
      rw [seqIndex_of h0 h4] at h1
      exact Option.some.inj h1
    exact PySem.W.ki_setAt ho h0 (by omega) (by rw [List.size_toArray, ← hl]; exact h4) (by rw [hk]; exact ⟨_, I', q⟩)
  · have hk : (k + (its.toArray.size : Int)).toNat = j := by
      rw [seqIndex_neg (by omega) h3] at h1
      rw [List.size_toArray, ← hl]
      exact Option.some.inj h1
    exact PySem.W.ki_setBack ho (by omega) (by rw [List.size_toArray, ← hl]; exact h3) (by omega) (by rw [hk]; exact ⟨_, I', q⟩)

/-! ### slices -/
/-! ### in, not in: flat items -/
/-! ### len, list(x), tuple(x) of any list or tuple that is read -/
theorem call_len_seq : CallR X (.builtin "len") (fun xs H Q => ∃ p ys, xs = [.ref p] ∧ (SqL X.K H p ys ∨ SqT X.K H p ys) ∧ Q (.int ys.length) H) := by
  intro pins s σ H xs us Q I r h
  obtain ⟨p, ys, rfl, hq, q⟩ := h
  obtain ⟨u, rfl, rx⟩ := vals1 r
  cases rx
  have hn := line63
  rcases hq with hq | hq
  · obtain ⟨its, r', pl, hz⟩ := I.list hq
    have hlen := r'.length
    exact Calls.call_len_list pl.isList (by simp only [List.size_toArray] <;> omega) ⟨.int ys.length, H, I.tok _, ⟨s.toks + 1, by rw [List.size_toArray, hlen]⟩, q⟩
  · obtain ⟨its, r', pl, hz⟩ := I.tuple hq
    have hlen := r'.length
    exact len_tuple pl (by simp only [List.size_toArray] <;> omega) ⟨.int ys.length, H, I.tok _, ⟨s.toks + 1, by rw [List.size_toArray, hlen]⟩, q⟩
theorem call_list_of : CallR X (.type "list") (fun xs H Q => ∃ p ys, xs = [.ref p] ∧ (SqL X.K H p ys ∨ SqT X.K H p ys) ∧ ∀ l, H l = none → Q (.ref l) (upd H l (.lst ys))) := by
  intro pins s σ H xs us Q I r h
  obtain ⟨p, ys, rfl, hq, q⟩ := h
  obtain ⟨u, rfl, rx⟩ := vals1 r
  cases rx
  have fin : ∀ (its : List Value), Vals ys its → ys.length ≤ sizeLine → ∀ (h' : Heap) (c' : Nat), (∀ b o', s.heap.get? b = some o' → h'.get? b = some o') →
      h'.get? s.heap.objs.size = some { cls := .type "list", dict := none, data := .seq its.toArray c', slots := #[] } → EP X pins σ Q (.ref s.heap.objs.size) { s with heap := h' } := fun its r' hz h' c' kp e =>
    ⟨.ref s.heap.objs.size, _, I.laid (t' := s.toks) kp (Nat.le_refl _) (show ObjOk X.prog X.w _ h' _ (.lst ys) from ⟨hz, its, c', r', e⟩), rfl, q _ (I.hok.fresh (Nat.le_refl _))⟩
  rcases hq with hq | hq
  · obtain ⟨its, r', pl, hz⟩ := I.list hq
    have hlen := r'.length
    obtain ⟨o, ho, hc, n, hd⟩ := pl.isList
    exact call_list_seq p (.inl rfl) ho hc hd (fun h' c' kp e => fin its r' hz h' c' kp e) (by simp only [List.size_toArray] <;> omega)
  · obtain ⟨its, r', pl, hz⟩ := I.tuple hq
    have hlen := r'.length
    obtain ⟨o, ho, hc, n, hd⟩ := pl
    exact call_list_seq p (.inr rfl) ho hc hd (fun h' c' kp e => fin its r' hz h' c' kp e) (by simp only [List.size_toArray] <;> omega)
theorem call_tuple_of : CallR X (.type "tuple") (fun xs H Q => ∃ p ys, xs = [.ref p] ∧ ((SqL X.K H p ys ∧ ∀ l, H l = none → Q (.ref l) (upd H l (.tup ys))) ∨ (SqT X.K H p ys ∧ Q (.ref p) H))) := by
  intro pins s σ H xs us Q I r h
  obtain ⟨p, ys, rfl, h⟩ := h
  obtain ⟨u, rfl, rx⟩ := vals1 r
  cases rx
  rcases h with ⟨hq, q⟩ | ⟨hq, q⟩
  · obtain ⟨its, r', pl, hz⟩ := I.list hq
    have hlen := r'.length
    refine call_tuple_list pl.isList (fun h' kp => ?_) (by simp only [List.size_toArray] <;> omega)
    have I1 : Inv X pins σ H { s with heap := h' } := I.kept (t' := s.toks) kp
    have I2 : Inv X pins σ (upd H h'.objs.size (.tup ys)) { s with heap := h'.push { cls := .type "tuple", data := .seq its.toArray } } :=
      I1.laid (t' := s.toks) (fun b o e => Heap.get?_push_of_some _ e) (Nat.le_refl _) (show ObjOk X.prog X.w _ _ _ (.tup ys) from ⟨hz, its, r', IsTup.new _ _⟩)
    exact ⟨.ref h'.objs.size, _, I2, rfl, q _ (I1.hok.fresh (Nat.le_refl _))⟩
  · obtain ⟨its, r', pl, hz⟩ := I.tuple hq
    exact call_tuple_same pl ⟨.ref p, H, I, rfl, q⟩

/-! ### the call of a builtin's method: o.m(..) -/
/-- the value is of that builtin type -/
def tyV (K : PySem.W.Frag) (T : String) (x : V) (H : Hp) : Prop := match x with
  | .str _ => T = "str"
  | .int _ => T = "int"
  | .ref p => (T = "list" ∧ ∃ xs, SqL K H p xs) ∨ (T = "tuple" ∧ ∃ o, K.lookup p = some o ∧ o.cls = .type "tuple" ∧ o.dict = none) ∨
      (T = "dict" ∧ ((∃ kvs, H p = some (.dK kvs)) ∨ ∃ kvs, H p = some (.dT kvs))) ∨ (T = "set" ∧ ∃ S n, H p = some (.set S n))
  | _ => False
theorem tyV_is {pins : List (Addr × Obj)} {σ : St} {H : Hp} {s : Shared} {T : String} {x : V} {v : Value} (I : Inv X pins σ H s) (r : RelV x v) (ty : tyV X.K T x H) :
    s.TypeIs v T ∧ ∀ a, v = .ref a → ∃ ob, s.heap.get? a = some ob ∧ ob.dict = none := by
  cases x with
  | str z =>
    obtain ⟨t, rfl⟩ := r
    cases (show T = "str" from ty)
    exact ⟨typeIs_str s z t, fun _ e => nomatch e⟩
  | int i =>
    obtain ⟨t, rfl⟩ := r
    cases (show T = "int" from ty)
    exact ⟨typeIs_int s i t, fun _ e => nomatch e⟩
  | ref p =>
    cases r
    rcases ty with ⟨rfl, xs, hq⟩ | ⟨rfl, o, hk, hc, hd⟩ | ⟨rfl, hk⟩ | ⟨rfl, S, n, hk⟩
    · obtain ⟨its, _, pl, _⟩ := I.list hq
      refine ⟨pl.isList.typeIs, fun a e => ?_⟩
      cases e
      obtain ⟨o, n, e, c, hd, _⟩ := pl
      exact ⟨o, e, hd⟩
    · refine ⟨⟨o, I.kIn p o hk, hc⟩, fun a e => ?_⟩
      cases e
      exact ⟨o, I.kIn _ o hk, hd⟩
    · have z : ∃ o, s.heap.get? p = some o ∧ o.ExactDict := by
        rcases hk with ⟨kvs, hk⟩ | ⟨kvs, hk⟩
        · obtain ⟨_, _, _, _, o, _, _, e, ex, _⟩ := I.hok p _ hk
          exact ⟨o, e, ex⟩
        · obtain ⟨_, _, _, _, o, _, _, e, ex, _⟩ := I.hok p _ hk
          exact ⟨o, e, ex⟩
      obtain ⟨o, e, ex⟩ := z
      refine ⟨⟨o, e, ex.1⟩, fun a e2 => ?_⟩
      cases e2
      exact ⟨o, e, ex.2.1⟩
    · obtain ⟨o, _, _, _, e, ex, _⟩ := I.hok p _ hk
      refine ⟨⟨o, e, ex.1⟩, fun a e2 => ?_⟩
      cases e2
      exact ⟨o, e, ex.2.1⟩
  | _ => exact False.elim ty
def tBM (K : PySem.W.Frag) (T : String) (r : V → List V → Hp → VK → Prop) (to : TE) (t : TA) : TE := fun σ H Q => to σ H fun x H1 => tyV K T x H1 ∧ t σ H1 fun xs H2 => r x xs H2 Q
variable {o e : Expr} {es : List Expr} {to : TE} {t : TA} {name : Str} {apos cpos : Pos} {T id : String} {r : V → List V → Hp → VK → Prop}
theorem pe_bm (pa : PlainAttrs T) (slot : Slot T name id) (hty : typeOf (.builtin id) = pure (.type "method_descriptor")) (hm : MtR X id r) (ho : PE X o to) (ha : PA X (e :: es) t)
    (hbase : attributeBase o name X.env (eval o X.env) = eval o X.env := by rfl)
    (hfew : ((backTo cpos (starEach (e :: es) X.env)).all (fun x => !x.1) && (backToKw cpos (keywordEach [] X.env)).all (fun x => x.1.isSome)
      && decide ((e :: es).length + ([] : List Keyword).length + (if ([] : List Keyword).isEmpty then 0 else 1) < 30)) = true := by rfl)
    (hline : (apos.endLine == cpos.line) = true := by rfl) (hs : starEach (e :: es) X.env = (false, eval e X.env) :: starEach es X.env := by rfl) (hplain : (backTo cpos (starEach es X.env)).any (·.1) = false := by rfl) :
    PE X (.Call (.Attribute o name apos) (e :: es) [] cpos) (tBM X.K T r to t) := by
  intro pins s σ H Q I h
  refine wpAny_Call_method_late hbase hfew hline rfl (thn (ho pins s σ H _ I h) fun v s1 ⟨x, H1, I1, r1, ty, q1⟩ => ?_)
  obtain ⟨h1, h2⟩ := tyV_is I1 r1 ty
  refine ⟨T, id, pa, slot, hty, h1, h2, ?_⟩
  have hA := ha cpos pins s1 σ H1 _ I1 q1
  rw [hs] at hA ⊢
  refine Calls.callWith_builtin (by show (false || (backTo cpos (starEach es X.env)).any (·.1)) = false; rw [hplain] <;> rfl) (Calls.evalArgs_plain ?_)
  exact thn hA fun us s2 ⟨vs, H2, I2, r2, q2⟩ => hm pins s2 σ H2 x vs v us Q I2 r1 r2 q2
/- xs.append(e), list.index on a module's tuple .. are MtR facts of 06m -/
end
end L2

namespace L2
open PySem PySem.Spec PyProof.Rows

def MtM (X : Cx) (id : String) (r : V → List V → Hp → VK → Prop) : Prop :=
  ∀ (pins : List (Addr × Obj)) (s : Shared) (σ : St) (H : Hp) (x : V) (xs : List V) (v : Value) (us : List Value) (Q : VK), Inv X pins σ H s → RelV x v → Vals xs us → r x xs H Q →
    wpAny (model X.prog X.w) X.A (call (.builtin id) (v :: us)) (EP X pins σ Q) X.xe s

/-! ### lists of values -/
theorem Vals.one : ∀ {x : V} {us : List Value}, Vals [x] us → ∃ u, us = [u] ∧ RelV x u
  | _, _, .cons r .nil => ⟨_, rfl, r⟩
section
variable {X : Cx} {pins : List (Addr × Obj)} {σ : St} {H : Hp} {s : Shared} {l b : Addr} {xs ys zs : List V}

/-! ### the two steps: a tracked list is rewritten, a new list is laid -/
theorem Inv.lset {its its' : List Value} {n : Nat} {f : Array Value → Array Value} {t' : Nat} (I : Inv X pins σ H s) (hH : H l = some (.lst xs))
    (e : s.heap.get? l = some { cls := .type "list", data := .seq its.toArray n }) (hf : f its.toArray = its'.toArray) (hv : Vals ys its') (hz : ys.length ≤ sizeLine) :
    Inv X pins σ (upd H l (.lst ys)) { s with heap := s.heap.update l (Obj.mapSeq f), toks := t' } := by
  have q := PySem.IsL.update e f
  rw [hf] at q
  refine I.write (x := l) (e := l) (by rw [hH]; exact trivial) (.inl rfl) (fun b' u hb hu => (Heap.get?_update_other s.heap (Obj.mapSeq f) (Ne.symm hb)).trans hu) ⟨_, q⟩ ?_
  exact ⟨hz, its', _, hv, q⟩
theorem Inv.lstM (I : Inv X pins σ H s) (hH : H l = some (.lst xs)) : xs.length ≤ sizeLine ∧ ∃ (its : List Value) (n : Nat), Vals xs its ∧ xs.length = its.length ∧ s.heap.get? l = some { cls := .type "list", data := .seq its.toArray n } := by
  obtain ⟨z, its, n, r, e⟩ := I.hok l _ hH
  exact ⟨z, its, n, r, r.length, e⟩

end

section
variable {X : Cx}

/-! ### methods -/
def rAppend : V → List V → Hp → VK → Prop := fun x vs H Q => ∃ l xs y, x = .ref l ∧ vs = [y] ∧ H l = some (.lst xs) ∧ xs.length < sizeLine ∧ Q .non (upd H l (.lst (xs ++ [y])))
theorem mt_append : MtM X "list.append" rAppend := by
  intro pins s σ H x vs v us Q I rx rv h
  obtain ⟨l, xs, y, rfl, rfl, hH, hz, q⟩ := h
  cases rx
  obtain ⟨u, rfl, ru⟩ := rv.one
  obtain ⟨z, its, n, r, hl, e⟩ := I.lstM hH
  refine call_meets F.slot_list_append ⟨_, e, rfl⟩ F.entry_list_append (F.args_list_append_2 _ _) (PySem.list_append l its.toArray n u (by rw [List.size_toArray]; omega)) ⟨e, ?_⟩
  refine ⟨.non, _, I.lset (its' := its ++ [u]) hH e (by simp) (r.append (.cons ru .nil)) ?_, rfl, q⟩
  rw [List.length_append, List.length_singleton]
  omega

/-! ### list + list, list += list, list * int -/
/-! ### del xs[i] -/
end

/-! ### xs[a:b] = ys -/
section
variable {prog : Program} {w : World} {A : Around} {E : Value → Shared → Prop} {s : Shared}
end

section
variable {X : Cx}
end
end L2

namespace Att
open PySem PySem.W PySem.Calls PyProof.Rows

/-! ### the script -/
theorem ints_of_wellAll {P : Params} {h : Heap} : ∀ (ns : List Int) (vs : List Value), WellAll P h vs (ns.map WData.int) → IntsAre vs ns := by
  intro ns
  induction ns with
  | nil =>
    intro vs w
    rw [List.map_nil] at w
    cases w
    exact .nil
  | cons n ns ih =>
    intro vs w
    rw [List.map_cons] at w
    cases w with
    | cons a b =>
      cases a
      exact .cons _ _ (ih _ b)

theorem script_of {l : OpenLaw} {n : Nat} (hn : l.most = some n) {P : Params} {h : Heap} {args : List WData} {vals : List Value}
    (hpre : l.row.toRowW.claim.pre args = true) (hwl : WellAll P h vals args) :
    ∃ a vs ns, vals = [Value.ref a] ∧ args = [WData.list (ns.map WData.int)] ∧ h.get? a = some { cls := .type "list", data := .seq vs.toArray } ∧ IntsAre vs ns ∧ ns.length ≤ n := by
  have hsh : WShape.hasAll [] args [.list .int] = true := (pre_splitW hpre).1
  have hc : l.pre.holds [] { args := args } = true := (pre_splitW hpre).2
  obtain ⟨d, r, rfl, h1, h2⟩ := hasAllW_cons hsh
  obtain rfl := hasAllW_nil h2
  obtain ⟨xs, rfl, h3⟩ := hasW_list h1
  obtain ⟨ns, rfl⟩ := items_int h3
  have hlen : ns.length ≤ n := by
    unfold OpenLaw.pre at hc
    have h4 : (WTm.not (.lt (.lit (.int (n : Int))) (.len (.arg 0)))).holds [] { args := [.list (ns.map .int)] } = true := by
      have h4 := (holds_andW hc).1
      rw [hn] at h4
      exact h4
    have h5 := condW_of h4 (w_not (w_lt w_lit (w_len_list (w_arg rfl))))
    rw [List.length_map] at h5
    refine Nat.le_of_not_lt fun q => ?_
    have q' : (n : Int) < ((ns.length : Nat) : Int) := by omega
    first
      | (rw [decide_eq_true q'] at h5; exact absurd h5 (by decide))
      | (simp at h5; omega)
  cases hwl with
  | cons w1 w2 =>
    cases w2
    cases w1 with
    | list ho hall => exact ⟨_, _, ns, rfl, rfl, ho, ints_of_wellAll ns _ hall, hlen⟩

theorem post_true (l : OpenLaw) (args : List WData) : l.row.toRowW.claim.post args (.bool true) args = true :=
  postW_of (r := l.row.toRowW) (X := (true == true))
    (show WShape.has [] (.bool true) .bool = true by first | rfl | decide | simp [WShape.has, WShape.arms, WShape.armsAll])
    (show (WTm.eq .res (.lit (.bool true))).value [] { args := args, res := some (.bool true), after := args } = some (.bool (true == true)) from w_eq_bool (w_res rfl) w_lit) rfl

/-! ### the attachment: holds_open's last premise (the goal 'hc' behind k_head) from a wpAny of the law's body -/
/-- the same from a codeAny of the CALL (for a layer whose function contracts speak of calls) -/
theorem attach_call {l : OpenLaw} {n : Nat} {q : Program} {loose : List Str} {XP : (Str → Option Value) → Heap → Prop} {YP : World → Heap → Prop} {d : DefRec}
    (hn : l.most = some n) (hdf : d.params.defaults = [])
    (call : ∀ (w : World) (s₀ s₁ : Shared) (mg mb : Str → Option Value) (fa : Addr) (o : Obj) (pm cd doc : Value) (a : Addr) (vs : List Value) (ns : List Int),
      Ground q loose [] XP w s₀ mg mb s₁.heap → YP w s₁.heap →
      s₁.heap.get? fa = some o → o.data = .func (docDef d.name d.params d.body d.scope pm cd doc) → s₁.heap.CodeRec cd d.name → mg d.name = some (.ref fa) →
      s₁.heap.get? a = some { cls := .type "list", data := .seq vs.toArray } → IntsAre vs ns → ns.length ≤ n → s₁.gens = #[] →
      codeAny (model l.prog w) callerA (.call (.ref fa) ⟨[.ref a], []⟩) (fun r s' => r = .ok (.ret (.bool true)) ∧ OldK s₁.heap s'.heap ∧ s'.os = s₁.os ∧ AllBare s'.gens) s₁) :
    WalkO q loose XP YP l.row.toRowW d [] (fun f vs => PySem.call f vs) := by
  intro w s₀ s₁ mg mb G Y fa o pm cd doc dV kV ho hd hcd hD hmg hg args vals as hpre hlay hrd hwl hlo
  obtain rfl : dV = .none := Dflts.none hD hdf
  obtain rfl : kV = .none := Dflts.noKw hD
  obtain ⟨a, vs, ns, rfl, rfl, hobj, hints, hlen⟩ := script_of hn hpre hwl
  refine enter_call (codeAny_mono (call w s₀ s₁ mg mb fa o pm cd doc a vs ns G Y ho (fd_plain hd) hcd hmg hobj hints hlen hg) fun r s' hq => ?_)
  obtain ⟨rfl, h2, h3, h4⟩ := hq
  exact ⟨.inl ⟨.bool true, .bool true, [], rfl, fun _ => rfl, .bool true, post_true l _, fun _ => ⟨List.Pairwise.nil, fun _ hm => (nomatch hm)⟩⟩, h2, h3, h4⟩

/-! ### rules over ANY heap (no ledger) from facts about the written part K: the library's own take a ledger (News) for what they write -/
section
variable {prog : Program} {w : World} {A : Around} {E : Value → Shared → Prop} {s : Shared} {K : Frag}

/-! the whole heap as the ledger: makes every rule that writes through a ledger a rule over any heap -/
end
end Att

namespace L2
open PySem PySem.Spec PyProof.Rows

theorem vals_ints : ∀ {vs : List Value} {ns : List Int}, IntsAre vs ns → Vals (ns.map V.int) vs
  | _, _, .nil => .nil
  | _, _, .cons n t h => .cons ⟨t, rfl⟩ (vals_ints h)

/-- nothing is tracked but the script, known to the object (or it is an object of the module) -/
def Only (H : Hp) : Prop := ∀ b, H b = none ∨ ∃ o xs, H b = some (.frz o (.lst xs))

/-- THE HEAD: the law's promise, at the heap behind the top. F, the promise of the law's def, may use that base is part of the heap (so K.In base, base.Ns mainGlobals mg stand in Mod) -/
theorem law_call {P : Program} {w : World} {K : PySem.W.Frag} {mg mb : Str → Option Value} {CX : CXT} {k : Nat} {fa a : Addr} {fd : FuncData} {x : Str} {sp : Sp} {s₁ : Shared} {vs : List Value} {ns : List Int}
    (KX : K.In s₁.heap) (hns : s₁.heap.Ns mainGlobals mg) (hb : s₁.heap.Ns builtinsNs mb) (hbb : ∀ x : Str, x ≠ "__name__" → mb x = bootBuiltins x) (hlim : s₁.heap.NoLimit) (hg : s₁.gens = #[])
    (ha : s₁.heap.get? a = some { cls := .type "list", data := .seq vs.toArray }) (hi : IntsAre vs ns) (hl : ns.length ≤ sizeLine) (hr : Room k callerA)
    (F : ∀ base : Heap, K.In base → base.Ns mainGlobals mg → FnOk P w K mg base CX k fa fd [x] sp) (hbind : ∀ (s : Shared) (u : Value), BindsTo s fd ⟨[u], []⟩ [(x, u)])
    (hsp : ∀ H : Hp, Only H → SqL K H a (ns.map V.int) → sp [.ref a] H (fun v _ => v = .bl true) fun _ _ _ => False)
    (hCX : ∀ H e s', CX [] H s₁ (fun _ _ _ => False) e s' → False) :
    codeAny (model P w) callerA (.call (.ref fa) ⟨[.ref a], []⟩) (fun r s' => r = .ok (.ret (.bool true)) ∧ OldK s₁.heap s'.heap ∧ s'.os = s₁.os ∧ AllBare s'.gens) s₁ := by
  have rv := vals_ints hi
  have lenV := hi.length
  -- from an abstract heap in which nothing but the script may be tracked
  have core : ∀ H : Hp, Only H → SqL K H a (ns.map V.int) → HOk P w H s₁.heap → (∀ b, H b ≠ none → b = a) → (H a ≠ none → K.lookup a = none) →
      codeAny (model P w) callerA (.call (.ref fa) ⟨[.ref a], []⟩) (fun r s' => r = .ok (.ret (.bool true)) ∧ OldK s₁.heap s'.heap ∧ s'.os = s₁.os ∧ AllBare s'.gens) s₁ := by
    intro H hO hS hok hA hK
    have base_of : ∀ {b : Addr} {o : Obj}, s₁.heap.get? b = some o → H b = none → (hidT s₁.heap H).get? b = some o := fun e n => hidT_get e n
    have noA : ∀ {b : Addr} {o : Obj} {es : Array DictEntry} {ep : Nat}, s₁.heap.get? b = some o → o.data = .dict es ep → H b = none := fun {b o es ep} e d => by
      cases q : H b with
      | none => rfl
      | some u =>
        have e' : b = a := hA b (by rw [q]; simp)
        subst e'
        rw [ha] at e; cases e
        have d' : Data.seq vs.toArray _ = Data.dict es ep := d
        cases d'
    have nsK : ∀ {b : Addr} {m : Str → Option Value}, s₁.heap.Ns b m → (hidT s₁.heap H).Ns b m := fun {b m} ⟨o, es, ep, e, d, r⟩ => ⟨o, es, ep, base_of e (noA e d), d, r⟩
    have hKb : K.In (hidT s₁.heap H) := fun b o e => base_of (KX b o e) (by
      cases q : H b with
      | none => rfl
      | some u =>
        have e' : b = a := hA b (by rw [q]; simp)
        subst e'
        rw [hK (by rw [q]; simp)] at e; cases e)
    have hM : Mod K mg (hidT s₁.heap H) := ⟨hKb, nsK hns, ⟨mb, nsK hb, hbb⟩, let ⟨mc, h1, h2⟩ := hlim; ⟨mc, nsK h1, h2⟩⟩
    have e0 : Env0 P w K mg (hidT s₁.heap H) callerA [] s₁ H := ⟨rfl, hM, fun b o e => of_hidT e, Nat.le_of_eq (hidT_size _ _), trivial, fun b hb => absurd (show b ∈ ([] : List Addr) from hb) (by simp), hok, .of_eq hg⟩
    refine codeAny_mono ((F _ hKb (nsK hns)).run callerA [] s₁ H ⟨[.ref a], []⟩ [.ref a] [.ref a] _ _ hr e0 (hbind s₁ (.ref a)) (.cons rfl .nil) (hsp H hO hS)) fun r s' h => ?_
    cases r with
    | error e => exact (hCX H e s' h).elim
    | ok fl =>
      cases fl with
      | next => exact False.elim h
      | brk => exact False.elim h
      | cont => exact False.elim h
      | ret u =>
        obtain ⟨v, H', os, bare, un, hok', r', q⟩ := h
        have q' : v = .bl true := q
        subst q'
        obtain rfl : u = Value.bool true := r'
        refine ⟨rfl, OldK.of_keep fun b o e => ?_, os, bare⟩
        cases q : H b with
        | none => exact un.keep b o e q (by intro z; exact absurd (show b ∈ ([] : List Addr) from z) (by simp)) (by simp)
        | some u =>
          rcases hO b with z | ⟨ob, xs, z⟩
          · rw [q] at z; cases z
          · have z2 := un.frzs b ob _ z
            obtain ⟨e1, _⟩ := hok b _ z
            obtain ⟨e2, _⟩ := hok' b _ z2
            rw [e] at e1; cases e1
            exact e2
  cases hk : K.lookup a with
  | some o =>
    -- the script is one of the module's own objects
    have e := KX a o hk
    rw [ha] at e
    cases e
    refine core (fun _ => none) (fun _ => .inl rfl) (.inr ⟨_, vs.toArray, _, hk, rfl, rfl, rfl, by rw [List.size_toArray, lenV]; exact hl, by simpa using rv⟩) (fun b u z => by have z' : (none : Option HO) = some u := z; cases z') (fun b z => absurd rfl z) fun z => absurd rfl z
  | none =>
    refine core (fun b => if b = a then some (.frz { cls := .type "list", data := .seq vs.toArray } (.lst (ns.map V.int))) else none) (fun b => ?_) (.inl (.inr ⟨{ cls := .type "list", data := .seq vs.toArray }, if_pos rfl⟩)) (fun b u z => ?_) (fun b z => ?_) fun _ => hk
    · by_cases hb : b = a
      · exact .inr ⟨_, _, if_pos hb⟩
      · exact .inl (if_neg hb)
    · by_cases hb : b = a
      · have z' := (if_pos hb).symm.trans z
        cases z'
        subst hb
        exact ⟨ha, by rw [List.length_map]; exact hl, vs, _, rv, ha⟩
      · have z' := (if_neg hb).symm.trans z
        cases z'
    · by_cases hb : b = a
      · exact hb
      · exact absurd (if_neg hb) z
end L2

namespace L2
open PySem PySem.Spec PyProof.Rows

/-- the goal that k_head leaves (case hc), from the law's promise. F gives the function object fd (K's own) once, then the promise over every base -/
theorem walk_of {l : PySem.W.OpenLaw} {n k : Nat} {q : Program} {loose : List Str} {XP : (Str → Option Value) → Heap → Prop} {YP : World → Heap → Prop} {d : DefRec} {K : Params → PySem.W.Frag} {CX : World → CXT} {sp : World → Sp} {x : Str}
    (hn : l.most = some n) (hn2 : n ≤ sizeLine) (hdf : d.params.defaults = []) (hr : Room k callerA)
    (hY : ∀ (w : World) (h : Heap), YP w h → (K w.params).In h)
    (F : ∀ (w : World) (mg : Str → Option Value) (fa : Addr) (h : Heap), (K w.params).In h → h.Ns mainGlobals mg → mg d.name = some (.ref fa) →
      ∃ fd : FuncData, (∀ (s : Shared) (u : Value), BindsTo s fd ⟨[u], []⟩ [(x, u)]) ∧
        ∀ base : Heap, (K w.params).In base → base.Ns mainGlobals mg → FnOk l.prog w (K w.params) mg base (CX w) k fa fd [x] (sp w))
    (hsp : ∀ (w : World) (H : Hp) (a : Addr) (ns : List Int), ns.length ≤ n → Only H → SqL (K w.params) H a (ns.map V.int) → sp w [.ref a] H (fun v _ => v = .bl true) fun _ _ _ => False)
    (hCX : ∀ (w : World) (H : Hp) (s : Shared) (e : Value) (s' : Shared), CX w [] H s (fun _ _ _ => False) e s' → False) :
    PySem.W.WalkO q loose XP YP l.row.toRowW d [] (fun f vs => PySem.call f vs) := by
  refine Att.attach_call hn hdf fun w s₀ s₁ mg mb fa o pm cd doc a vs ns G Y ho hd hcd hmg hobj hints hlen hg => ?_
  have KX := hY w _ Y
  obtain ⟨fd, hb, hF⟩ := F w mg fa _ KX G.T.g hmg
  exact law_call KX G.T.g G.T.b G.T.builtins G.T.nolimit hg hobj hints (Nat.le_trans hlen hn2) hr hF hb (fun H hO hS => hsp w H a ns hlen hO hS) fun H e s' => hCX w H s₁ e s'
end L2

/-! SHORT WORDS over the layer: a def of the text, its body, what a loop and a test want. -/
namespace L2
open PySem PySem.Spec PyProof.Rows

/-! ### the text by places -/
/-- the j-th statement of a class's body -/
def inClass (s : Stmt) (j : Nat) : Stmt := match s with
  | .ClassDef _ _ _ body _ _ _ _ _ _ _ => body.getD j (.Pass ⟨0, 0, 0, 0⟩)
  | _ => .Pass ⟨0, 0, 0, 0⟩
def defArgs (s : Stmt) : Arguments := match s with
  | .FunctionDef _ a _ _ _ _ _ _ _ _ => a
  | _ => { posonlyargs := [], args := [], vararg := none, kwonlyargs := [], kw_defaults := [], kwarg := none, defaults := [] }
def defBody (s : Stmt) : List Stmt := match s with
  | .FunctionDef _ _ b _ _ _ _ _ _ _ => b
  | _ => []
def defScope (s : Stmt) : Scope := match s with
  | .FunctionDef _ _ _ _ _ _ sc _ _ _ => sc
  | _ => { kind := .function, names := [], isGenerator := false, isCoroutine := false }

/-! ### no exception leaves a def -/
abbrev CX0 : CXT := fun _ _ _ _ _ _ => False
abbrev E0 : XK := fun _ _ _ => False
theorem pass0 {X : Cx} : Passes CX0 X E0 := fun _ _ _ _ _ _ _ h => h.elim

/-! ### a def (or method) of the text as it stands behind the top -/
structure Fun (K : PySem.W.Frag) (x qual : Str) (st : Stmt) (f : Addr) (fd : FuncData) : Prop where
  ex : ∃ (oc : Value) (od : Option Addr) (kV doc pm : Value) (an : Option Addr) (cdv ct : Value) (osl : Array (Option Value)),
    fd = PySem.W.fnOf x qual (defArgs st) (defBody st) (defScope st) .none kV doc pm an cdv ct ∧ K.lookup f = some ⟨oc, od, .func fd, osl⟩ ∧ PySem.W.codeIn K cdv qual = true
  kp : PySem.W.keepIn K (.ref f) = true
section
variable {P : Program} {w : World} {K : PySem.W.Frag} {mg : Str → Option Value} {base : Heap}
/-- THE RULE for a def: its body as a term of rules, and the reading of that term -/
theorem Fun.ok {x qual : Str} {st : Stmt} {f : Addr} {fd : FuncData} {N ps : List Str} {k : Nat} {sp : Sp} (F : Fun K x qual st f fd) (S : FnScope N ps (defScope st)) (len : ∀ vs H Q E, sp vs H Q E → vs.length = ps.length)
    (hbody : ∀ (cdv : Value) (A : Around) (outer : List Env) (s : Shared) (H : Hp) (vs : List V) (Q : VK) (E : XK), Room k (A.deeper (envOfC qual (defScope st) s.heap.objs.size f cdv)) → sp vs H Q E →
      ∃ t, PSs (cxOf CX0 P w K mg base N qual (defScope st) f cdv A outer s H E).nox (defBody st) t ∧ t { nx := fun _ H' => Q .non H', rt := Q } (start N vs) H) : FnOk P w K mg base CX0 (k + 1) f fd ps sp := by
  obtain ⟨oc, od, kV, doc, pm, an, cdv, ct, osl, rfl, lk, hcd⟩ := F.ex
  refine fn_of lk hcd S len fun A outer s H vs Q E hr hsp => ?_
  obtain ⟨t, h, q⟩ := hbody cdv A outer s H vs Q E hr hsp
  exact ⟨t, h.nox, q⟩
/-- how its arguments bind (no defaults): h is «fun _ _ _ _ _ _ us hl => match us, hl with | [_, _], _ => rfl», one _ a parameter -/
theorem Fun.binds {x qual : Str} {st : Stmt} {f : Addr} {fd : FuncData} {ps : List Str} (F : Fun K x qual st f fd)
    (h : ∀ (kV doc pm : Value) (an : Option Addr) (cdv ct : Value) (us : List Value), us.length = ps.length → bindArgs (PySem.W.fnOf x qual (defArgs st) (defBody st) (defScope st) .none kV doc pm an cdv ct) ⟨us, []⟩ = pure (ps.zip us)) : Binds K fd ps [] := by
  obtain ⟨oc, od, kV, doc, pm, an, cdv, ct, osl, rfl, lk, hcd⟩ := F.ex
  exact .all (h kV doc pm an cdv ct)
theorem fun_mk {x qual : Str} {st : Stmt} {f : Addr} {oc : Value} {od an : Option Addr} {osl : Array (Option Value)} {kV doc pm cdv ct : Value} (l : K.lookup f = some ⟨oc, od, .func (PySem.W.fnOf x qual (defArgs st) (defBody st) (defScope st) .none kV doc pm an cdv ct), osl⟩)
    (c : PySem.W.codeIn K cdv qual = true) (k : PySem.W.keepIn K (.ref f) = true) : Fun K x qual st f (PySem.W.fnOf x qual (defArgs st) (defBody st) (defScope st) .none kV doc pm an cdv ct) := ⟨⟨oc, od, kV, doc, pm, an, cdv, ct, osl, rfl, l, c⟩, k⟩
end
theorem small1000 {n : Nat} (h : n ≤ 1000) : n < sizeLine := Nat.lt_of_le_of_lt h (by decide)

/-! ### expressions in short: the name that stands in the i-th slot -/
section
variable {X : Cx}
theorem pv (i : Nat) {x : Str} {pos : Pos} (hN : X.N[i]? = some x := by rfl) (hv : Vis X.env.scope x := by first | exact Or.inl rfl | exact Or.inr (Or.inl rfl) | exact Or.inr (Or.inr rfl)) (hd : (x == ("__debug__" : Str)) = false := by decide)
    (hcd : (x == ("__classdict__" : Str)) = false := by decide) : PE X (.Name x pos) (tVar i) := pe_var hN hv hd hcd
end

/-! ### tests -/
theorem iteF {A B : Prop} (h : B) : if false = true then A else B := by
  rw [if_neg Bool.false_ne_true]
  exact h
theorem iteT {A B : Prop} (h : A) : if true = true then A else B := by
  rw [if_pos rfl]
  exact h
theorem ite2 {c A B : Prop} [Decidable c] (h1 : c → A) (h2 : ¬ c → B) : if c then A else B := by
  by_cases h : c
  · rw [if_pos h]
    exact h1 h
  · rw [if_neg h]
    exact h2 h
/-! ### heaps -/
/-- all that was tracked is as it was -/
def Same (H H' : Hp) : Prop := ∀ b o, H b = some o → H' b = some o
theorem Same.trans {H H1 H2 : Hp} (a : Same H H1) (b : Same H1 H2) : Same H H2 := fun c o h => b c o (a c o h)
theorem Same.seq {K : PySem.W.Frag} {H H' : Hp} {a : Addr} {xs : List V} (e : Same H H') (h : SqL K H a xs) : SqL K H' a xs := by
  rcases h with (h | ⟨o, h⟩) | h
  · exact .inl (.inl (e _ _ h))
  · exact .inl (.inr ⟨o, e _ _ h⟩)
  · exact .inr h

end L2
set_option Elab.async false
set_option linter.all false
set_option maxRecDepth 100000
set_option maxHeartbeats 4000000
namespace L2
open PySem PySem.Spec PyProof.Rows

/-! ### a list comprehension with one `for x in ..` -/
section
variable {X : Cx} {pins : List (Addr × Obj)} {σ : St} {H : Hp} {s : Shared} {D : Addr} {o : HO}
/-- an untracked object of ours comes to be tracked -/
theorem Inv.track (I : Inv X pins σ H s) (hf : FpOk X pins H D) (h0 : X.s₀.heap.objs.size ≤ D) (new : ObjOk X.prog X.w (upd H D o) s.heap D o) : Inv X pins σ (upd H D o) s := by
  obtain ⟨f0, f1, f2, f3, f4, f5⟩ := hf
  have ne : ∀ b u, H b = some u → b ≠ D := fun b u e => ne_of_none e f0
  refine ⟨I.ok, I.os, I.bare, ⟨I.base.keep, I.base.slot, fun b u e n hx => ?_, I.base.there, fun b xs e => ?_, fun b u xs e => ?_, fun b ps e => ?_⟩, I.loc, I.cell, ?_, fun y c e => ?_, fun p hp => ?_, fun b u e => ?_, I.len⟩
  · rw [upd_ne (Nat.ne_of_lt (Nat.lt_of_lt_of_le (Heap.lt_size e) h0))]
    exact I.base.free b u e n hx
  · have q := I.base.tups b xs e
    rw [upd_ne (ne b _ q)]; exact q
  · have q := I.base.frzs b u xs e
    rw [upd_ne (ne b _ q)]; exact q
  · obtain ⟨m, q⟩ := I.base.tbls b ps e
    exact ⟨m, by rw [upd_ne (ne b _ q)]; exact q⟩
  · rw [upd_ne (Ne.symm f1)]; exact I.free
  · rw [upd_ne (f4 y c e)]; exact I.freeC y c e
  · obtain ⟨a, b, c, d, e⟩ := I.pin p hp
    exact ⟨a, by rw [upd_ne (f5 p hp)]; exact b, c, d, e⟩
  · by_cases hb : b = D
    · subst hb
      rw [upd_same] at e
      cases e
      exact new
    · rw [upd_ne hb] at e
      exact (I.hok b u e).stay (fun _ _ _ q => q) (fun c q => by rw [upd_ne (ne c _ q)]; exact q) fun c xs q => by rw [upd_ne (ne c _ q)]; exact q
end

/-- the closure's cells, gathered -/
def gather (cells : List (Str × Addr)) : List (Str × NameKind) → List (Str × Addr) → List (Str × Addr)
  | [], cs => cs
  | (n, k) :: r, cs => gather cells r (if (k == NameKind.free) = true then (n, (cells.lookup n).getD 0) :: cs else cs)
theorem closure_eq {scope : Scope} {env : Env} (h : ∀ y ∈ scope.names, y.2 = NameKind.free → ∃ c, env.cells.lookup y.1 = some c) : closureFor scope env = pure (gather env.cells scope.names []) := by
  have all : ∀ (l : List (Str × NameKind)) (cs : List (Str × Addr)), (∀ y ∈ l, y.2 = NameKind.free → ∃ c, env.cells.lookup y.1 = some c) →
      (forIn l cs (fun (x : Str × NameKind) (r : List (Str × Addr)) => if (x.2 == NameKind.free) = true then (do let a ← cellOf env x.1; pure (ForInStep.yield ((x.1, a) :: r)) : Sem (ForInStep (List (Str × Addr)))) else pure (ForInStep.yield r))) = (pure (gather env.cells l cs) : Sem (List (Str × Addr))) := by
    intro l
    induction l with
    | nil => intro cs _; rfl
    | cons y r ih =>
      intro cs hy
      obtain ⟨n, k⟩ := y
      rw [List.forIn_cons]
      by_cases hk : k = NameKind.free
      · subst hk
        obtain ⟨c, hc⟩ := hy (n, .free) List.mem_cons_self rfl
        have e1 : cellOf env n = pure c := by unfold cellOf; rw [hc]
        simp only [beq_self_eq_true, if_true, e1, pure_bind]
        rw [ih _ fun z hz => hy z (List.mem_cons_of_mem _ hz)]
        simp only [gather, beq_self_eq_true, if_true]
        rw [show List.lookup n env.cells = some c from hc]
        rfl
      · have e1 : (k == NameKind.free) = false := by simpa using hk
        simp only [e1, Bool.false_eq_true, if_false, pure_bind]
        rw [ih _ fun z hz => hy z (List.mem_cons_of_mem _ hz)]
        simp only [gather, e1, Bool.false_eq_true, if_false]
  have e := all scope.names [] h
  unfold closureFor
  simp only []
  exact (bind_pure _).trans e
theorem gather_sub {cells : List (Str × Addr)} : ∀ (l : List (Str × NameKind)) (cs : List (Str × Addr)), (∀ y ∈ l, y.2 = NameKind.free → ∃ c, cells.lookup y.1 = some c) →
    (∀ y c, (y, c) ∈ cs → cells.lookup y = some c) → ∀ y c, (y, c) ∈ gather cells l cs → cells.lookup y = some c
  | [], _, _, h, y, c, hm => h y c hm
  | (n, k) :: r, cs, hl, h, y, c, hm => by
    refine gather_sub r _ (fun z hz => hl z (List.mem_cons_of_mem _ hz)) (fun y' c' hm' => ?_) y c hm
    by_cases hk : (k == NameKind.free) = true
    · rw [if_pos hk] at hm'
      rcases List.mem_cons.mp hm' with e | e
      · have e1 : y' = n := congrArg Prod.fst e
        have e2 : c' = (cells.lookup n).getD 0 := congrArg Prod.snd e
        obtain ⟨d, hd⟩ := hl (n, k) List.mem_cons_self (by simpa using hk)
        have hd' : cells.lookup n = some d := hd
        rw [e1, e2, hd']; rfl
      · exact h y' c' e
    · rw [if_neg hk] at hm'
      exact h y' c' hm'
theorem gather_mono {cells : List (Str × Addr)} : ∀ (l : List (Str × NameKind)) (cs : List (Str × Addr)) (p : Str × Addr), p ∈ cs → p ∈ gather cells l cs
  | [], _, _, h => h
  | (n, k) :: r, cs, p, h => gather_mono r _ p (by split; exact List.mem_cons_of_mem _ h; exact h)
theorem gather_has {cells : List (Str × Addr)} : ∀ (l : List (Str × NameKind)) (cs : List (Str × Addr)) (y : Str × NameKind), y ∈ l → y.2 = NameKind.free → ∃ c, (y.1, c) ∈ gather cells l cs
  | [], _, _, h, _ => nomatch h
  | (n, k) :: r, cs, y, h, hf => by
    rcases List.mem_cons.mp h with e | e
    · subst e
      have hk : (k == NameKind.free) = true := by simpa using hf
      exact ⟨(cells.lookup n).getD 0, gather_mono r _ _ (by rw [if_pos hk]; exact List.mem_cons_self)⟩
    · exact gather_has r _ y e hf
theorem lookup_mem {α : Type} : ∀ {l : List (Str × α)} {y : Str} {c : α}, (y, c) ∈ l → ∃ d, l.lookup y = some d ∧ (y, d) ∈ l
  | [], _, _, h => nomatch h
  | (n, a) :: r, y, c, h => by
    by_cases e : y = n
    · subst e
      exact ⟨a, by simp [List.lookup_cons], List.mem_cons_self⟩
    · have e1 : (y == n) = false := by simpa using e
      rcases List.mem_cons.mp h with q | q
      · exact absurd (congrArg Prod.fst q) e
      · obtain ⟨d, h1, h2⟩ := lookup_mem q
        exact ⟨d, by rw [List.lookup_cons, e1]; exact h1, List.mem_cons_of_mem _ h2⟩
theorem lookup_of_mem_lookup {α : Type} {l : List (Str × α)} {y : Str} {c : α} (h : l.lookup y = some c) : (y, c) ∈ l := PySem.mem_of_lookup h

/-- what a comprehension's scope must be; osc, ON: of the def around it; x: its target; F: the names that it takes from around, fr: their slots there -/
def compChk (osc : Scope) (ON : List Str) (scope : Scope) (x : Str) (F : List Str) (fr : List Nat) : Bool :=
  decide (scope.kind = .function) && (scope.names.all fun y => decide (y.2 ≠ .cell)) && (scope.names.all fun y => decide (y.2 = .local → scope.names.lookup y.1 = some .local)) &&
  decide (scope.names.lookup x = some .local) && (scope.names.all fun y => decide (y.2 = .free → osc.names.lookup y.1 = some .cell ∨ osc.names.lookup y.1 = some .free)) &&
  decide ((x :: F).Nodup) && (F.all fun y => decide (scope.names.lookup y = some .free)) && decide (F.map some = fr.map fun i => ON[i]?)
structure CompOk (osc : Scope) (ON : List Str) (scope : Scope) (x : Str) (F : List Str) (fr : List Nat) : Prop where
  kind : scope.kind = .function
  nocell : ∀ y ∈ scope.names, y.2 ≠ .cell
  loc : ∀ y ∈ scope.names, y.2 = .local → scope.names.lookup y.1 = some .local
  tx : scope.names.lookup x = some .local
  free : ∀ y ∈ scope.names, y.2 = .free → osc.names.lookup y.1 = some .cell ∨ osc.names.lookup y.1 = some .free
  nd : (x :: F).Nodup
  fre : ∀ y ∈ F, scope.names.lookup y = some .free
  slots : F.map some = fr.map fun i => ON[i]?
theorem CompOk.of {osc : Scope} {ON : List Str} {scope : Scope} {x : Str} {F : List Str} {fr : List Nat} (h : compChk osc ON scope x F fr = true) : CompOk osc ON scope x F fr := by
  unfold compChk at h
  simp only [Bool.and_eq_true, decide_eq_true_eq, List.all_eq_true] at h
  obtain ⟨⟨⟨⟨⟨⟨⟨h1, h2⟩, h3⟩, h4⟩, h5⟩, h6⟩, h7⟩, h8⟩ := h
  exact ⟨h1, h2, h3, h4, h5, h6, h7, h8⟩

/-- the context of the comprehension's block -/
def compCx (X : Cx) (N : List Str) (scope : Scope) (s3 : Shared) (H3 : Hp) (ex : List Addr) : Cx :=
  { X with N := N, s₀ := s3, H₀ := H3, env := compEnvC scope (gather X.env.cells scope.names []) s3.heap.objs.size X.env, outer := X.stack, ex := ex, fn := fun _ => false, pn := [], xe := fun _ _ => False }

/-- the tests of a comprehension -/
def PTs (X : Cx) (ifs : List Expr) (t : TT) : Prop :=
  ∀ (pins : List (Addr × Obj)) (s : Shared) (σ : St) (H : Hp) (Q : Bool → Hp → Prop), Inv X pins σ H s → t σ H Q →
    wpAny (model X.prog X.w) X.A (forIn ifs true fun c r => if r = true then do let ok ← isTrue c X.env (eval c X.env); pure (ForInStep.yield ok) else pure (ForInStep.yield r)) (TP X pins σ Q) X.xe s
def tYes : TT := fun _ H Q => Q true H
theorem pts_nil {X : Cx} : PTs X [] tYes := fun _ _ _ H _ I h => wpAny_tests_nil ⟨H, I, h⟩
theorem pts_one {X : Cx} {c : Expr} {t : TT} (h : PT X c t) : PTs X [c] t := fun pins s σ H Q I q => wpAny_tests_one (h pins s σ H Q I q)

/-- the names' values in the block, ahead of the target's store -/
def compSt (σ : St) (fr : List Nat) : St := none :: fr.map fun i => (σ[i]?).join

/-- the turns: what the iterator yields, the tests, the element; acc: the elements so far -/
def CompGo (fr : List Nat) (tt : TT) (te : TE) (σ : St) (Q : VK) (J : It) (H1 : Hp) : Prop := ∃ W : Nat → Nat → List V → Hp → Prop, (∃ m, W 0 m [] H1) ∧ ∀ i m acc H, W i m acc H →
  (J.stop i H ∧ acc.length ≤ sizeLine ∧ ∀ p, H p = none → Q (.ref p) (upd H p (.lst acc))) ∨
  (J.go i H ∧ acc.length < sizeLine ∧ ∀ x H', J.yld i H x H' → tt ((compSt σ fr).set 0 (some x)) H' fun b H2 =>
    if b = true then te ((compSt σ fr).set 0 (some x)) H2 fun y H3 => ∃ m', m' < m ∧ W (i + 1) m' (acc ++ [y]) H3 else ∃ m', m' < m ∧ W (i + 1) m' acc H2)
def tComp (wi : TI) (fr : List Nat) (tt : TT) (te : TE) : TE := fun σ H Q => wi σ H (CompGo fr tt te σ Q)

section
variable {X : Cx}
theorem relabel_names (scope : Scope) (env : Env) (x : Str) (k : NameKind) (h : (relabel scope env).names.lookup x = some k) : ∃ k', scope.names.lookup x = some k' ∧ (k = k' ∨ (k' = .free ∧ k = .cell)) := by
  have all : ∀ (l : List (Str × NameKind)), (l.map fun (n, k) => if (k == NameKind.free && env.scope.kind == .function && env.kindOf n == some .cell) then (n, NameKind.cell) else (n, k)).lookup x = some k →
      ∃ k', l.lookup x = some k' ∧ (k = k' ∨ (k' = .free ∧ k = .cell)) := by
    intro l
    induction l with
    | nil => intro h; simp at h
    | cons y r ih =>
      obtain ⟨n, j⟩ := y
      intro h
      by_cases e : x = n
      · subst e
        refine ⟨j, by simp [List.lookup_cons], ?_⟩
        simp only [List.map_cons] at h
        by_cases hc : (j == NameKind.free && env.scope.kind == .function && env.kindOf x == some .cell) = true
        · rw [if_pos hc] at h
          simp [List.lookup_cons] at h
          simp only [Bool.and_eq_true] at hc
          exact .inr ⟨by simpa using hc.1.1, h.symm⟩
        · rw [if_neg hc] at h
          simp [List.lookup_cons] at h
          exact .inl h.symm
      · have e1 : (x == n) = false := by simpa using e
        simp only [List.map_cons] at h
        have h' : (r.map fun (n, k) => if (k == NameKind.free && env.scope.kind == .function && env.kindOf n == some .cell) then (n, NameKind.cell) else (n, k)).lookup x = some k := by
          by_cases hc : (j == NameKind.free && env.scope.kind == .function && env.kindOf n == some .cell) = true
          · rw [if_pos hc, List.lookup_cons, e1] at h; exact h
          · rw [if_neg hc, List.lookup_cons, e1] at h; exact h
        obtain ⟨k', q1, q2⟩ := ih h'
        exact ⟨k', by rw [List.lookup_cons, e1]; exact q1, q2⟩
  exact all scope.names h

theorem Inv.closes {pins : List (Addr × Obj)} {σ : St} {H : Hp} {s : Shared} {scope : Scope} {x : Str} {F : List Str} {fr : List Nat} (I : Inv X pins σ H s) (C : CompOk X.env.scope X.N scope x F fr) :
    ∀ y ∈ scope.names, y.2 = NameKind.free → ∃ c, X.env.cells.lookup y.1 = some c := fun y hy hf => I.ok.has y.1 (C.free y hy hf)
theorem Inv.gsub {pins : List (Addr × Obj)} {σ : St} {H : Hp} {s : Shared} {scope : Scope} {x : Str} {F : List Str} {fr : List Nat} (I : Inv X pins σ H s) (C : CompOk X.env.scope X.N scope x F fr) {y : Str} {c : Addr}
    (h : (gather X.env.cells scope.names []).lookup y = some c) : X.env.cells.lookup y = some c :=
  gather_sub scope.names [] (I.closes C) (fun _ _ z => nomatch z) y c (lookup_of_mem_lookup h)
end
end L2
set_option Elab.async false
set_option linter.all false
set_option maxRecDepth 100000
set_option maxHeartbeats 4000000
namespace L2
open PySem PySem.Spec PyProof.Rows
section
variable {X : Cx}
/-- the block's entry -/
theorem inv_comp {pins : List (Addr × Obj)} {σ : St} {H : Hp} {s : Shared} {scope : Scope} {x : Str} {F : List Str} {fr : List Nat} {ex : List Addr} {h' : Heap} {tk : Nat} (I : Inv X pins σ H s) (C : CompOk X.env.scope X.N scope x F fr)
    (hx : ∀ b ∈ ex, FpOk X pins H b ∧ b < s.heap.objs.size) (hn : h'.Ns s.heap.objs.size fun _ => none) (k : ∀ b o, s.heap.get? b = some o → h'.get? b = some o) :
    Inv (compCx X (x :: F) scope s H ex) [] (compSt σ fr) H { s with heap := h', toks := tk } := by
  have hCn : H s.heap.objs.size = none := I.hok.fresh (Nat.le_refl _)
  have hcl : ∀ {y : Str} {c : Addr}, (gather X.env.cells scope.names []).lookup y = some c → X.env.cells.lookup y = some c := fun h => I.gsub C h
  have clt : ∀ {y : Str} {c : Addr}, X.env.cells.lookup y = some c → c < s.heap.objs.size := fun {y c} h => by
    obtain ⟨v, q⟩ := I.cell y c h
    exact q.lt
  have stk : ∀ b, b ∈ frs X.stack → b = X.env.locals ∨ b ∈ X.fs := fun b hb => List.mem_cons.mp (I.stkSub b hb)
  refine ⟨⟨I.ok.mod, C.kind, I.ok.glob, I.ok.blt, Nat.le_refl _, fun y z c h1 h2 => I.ok.inj y z c (hcl h1) (hcl h2), fun y hy => ?_, fun y c hf => (nomatch hf), I.ok.hd, I.ok.frames, .inl rfl, fun b hb => ⟨Nat.ne_of_lt (hx b hb).2, fun y c h => (hx b hb).1.2.2.2.2.1 y c (hcl h)⟩,
    I.bs, Nat.le_trans I.ok.bsz I.sz, fun b o e hb => ?_, fun b hb => ?_, I.stack, I.stkFree⟩, rfl, I.bare, Un.kept k, ⟨_, hn, fun i y v h1 h2 h3 => ?_⟩, fun y c h => ?_, hCn, fun y c h => I.freeC y c (hcl h), fun p hp => absurd (show p ∈ ([] : List (Addr × Obj)) from hp) (by simp), I.hok.kept k, ?_⟩
  · have hy' : ∃ c, (y, c) ∈ gather X.env.cells scope.names [] := by
      have go : ∀ kk, (relabel scope X.env).names.lookup y = some kk → kk ≠ .local → kk ≠ .globalExplicit → kk ≠ .globalImplicit → ∃ c, (y, c) ∈ gather X.env.cells scope.names [] := fun kk h n1 n2 n3 => by
        obtain ⟨k', q1, q2⟩ := relabel_names scope X.env y kk h
        have hm := lookup_of_mem_lookup q1
        have hfree : k' = .free := by
          rcases q2 with e | ⟨e, _⟩
          · subst e
            cases kk with
            | «local» => exact absurd rfl n1
            | cell => exact absurd rfl (C.nocell _ hm)
            | free => rfl
            | globalExplicit => exact absurd rfl n2
            | globalImplicit => exact absurd rfl n3
          · exact e
        exact gather_has scope.names [] (y, k') hm hfree
      rcases hy with hy | hy
      · exact go _ hy (by decide) (by decide) (by decide)
      · exact go _ hy (by decide) (by decide) (by decide)
    obtain ⟨c, hc⟩ := hy'
    obtain ⟨d, hd, _⟩ := lookup_mem hc
    exact ⟨d, hd⟩
  · exact absurd e (by
      have h1 := (hx b hb).1
      have h2 := I.bs b o e
      rcases h1.2.2.2.1 with z | z
      · exact fun _ => I.ok.noex b o e z
      · exact fun _ => absurd (Nat.lt_of_lt_of_le (Heap.lt_size (I.ok.bs b o e).1) z) (Nat.lt_irrefl _))
  · intro hb2
    obtain ⟨h0, h1, h2, _⟩ := (hx b hb).1
    rcases stk b hb2 with z | z
    · exact h1 z
    · exact h2 z
  · -- a name's value at the entry
    cases i with
    | zero => simp [compSt] at h2
    | succ j =>
      have h1' : F[j]? = some y := (List.getElem?_cons_succ (a := x) (l := F) (i := j)).symm.trans h1
      have h2' : (fr.map fun i => (σ[i]?).join)[j]? = some (some v) := by simpa [compSt] using h2
      have hs := congrArg (fun l => l[j]?) C.slots
      simp only [List.getElem?_map, h1', Option.map_some] at hs
      rw [List.getElem?_map] at h2'
      cases hj : fr[j]? with
      | none => rw [hj] at hs; simp at hs
      | some t =>
        rw [hj] at hs h2'
        simp only [Option.map_some, Option.some.injEq] at hs h2'
        have h3' : σ[t]? = some (some v) := by
          cases e : σ[t]? with
          | none => rw [e] at h2'; simp at h2'
          | some w' => rw [e] at h2'; simp at h2'; rw [h2']
        -- what kind the name has
        have hfr := C.fre y (List.mem_of_getElem? h1')
        have hm := lookup_of_mem_lookup hfr
        have hvis : Vis X.env.scope y ∧ (∃ c, (gather X.env.cells scope.names []).lookup y = some c) ∧ (X.env.kindOf y = some .cell ∨ X.env.kindOf y = some .free) := by
          obtain ⟨c, hc⟩ := gather_has (cells := X.env.cells) scope.names [] (y, .free) hm rfl
          obtain ⟨d, hd, _⟩ := lookup_mem hc
          rcases C.free (y, .free) hm rfl with z | z
          · exact ⟨.inr (.inl z), ⟨d, hd⟩, .inl z⟩
          · exact ⟨.inr (.inr z), ⟨d, hd⟩, .inr z⟩
        obtain ⟨hv, ⟨c, hc⟩, hkd⟩ := hvis
        obtain ⟨m, hm, hl⟩ := I.loc
        obtain ⟨u, r, l⟩ := hl t y v hs.symm h3' hv
        refine ⟨u, r, .inr ⟨?_, c, hc, ?_⟩⟩
        · rcases h3 with z | z | z
          · exfalso
            obtain ⟨k', q1, q2⟩ := relabel_names scope X.env y .local z
            rw [hfr] at q1
            cases q1
            rcases q2 with q | ⟨_, q⟩ <;> cases q
          · exact .inl z
          · exact .inr z
        · rcases l with ⟨hk, _⟩ | ⟨_, c', hc', hcell⟩
          · rcases hkd with z | z <;> rw [z] at hk <;> cases hk
          · have e := hcl hc
            rw [e] at hc'; cases hc'
            obtain ⟨oc, ho, hd⟩ := hcell
            exact ⟨oc, k _ _ ho, hd⟩
  · obtain ⟨v, oc, ho, hd⟩ := I.cell y c (hcl h)
    exact ⟨v, oc, k _ _ ho, hd⟩
  · have := congrArg List.length C.slots
    simp at this
    show (compSt σ fr).length = (x :: F).length
    simp [compSt, this]
end
end L2
set_option Elab.async false
set_option linter.all false
set_option maxRecDepth 100000
set_option maxHeartbeats 4000000
namespace L2
open PySem PySem.Spec PyProof.Rows
theorem after_pure {α : Type} {M : Model} {A : Around} {P : Unit → Shared → Prop} {E' : Value → Shared → Prop} {t : Sem α} {Q : α → Shared → Prop} {E : Value → Shared → Prop} {s : Shared}
    (h : wpAny M A (pure () : Sem Unit) P E' s) (k : P () s → wpAny M A t Q E s) : wpAny M A t Q E s := fun Γ p hΓ => k (h Γ p hΓ) Γ p hΓ
section
variable {X : Cx}
end
end L2
set_option Elab.async false
set_option linter.all false
set_option maxRecDepth 100000
set_option maxHeartbeats 4000000
namespace L2
open PySem PySem.Spec PyProof.Rows
section
variable {X : Cx}
/-! ### isinstance(x, c), c one built-in type -/
/-! ### x is True, x is False -/
end

/-! ### two things told alike are equal -/
inductive Dt where
  | non | bl (b : Bool) | int (i : Int) | str (x : Str)
  | tup (xs : List Dt) | lst (xs : List Dt)
def Told (K : PySem.W.Frag) (H : Hp) : Nat → V → Dt → Prop
  | 0, v, d => match v, d with
    | .non, .non => True
    | .bl a, .bl b => a = b
    | .int a, .int b => a = b
    | .str a, .str b => a = b
    | _, _ => False
  | n + 1, v, d => match v, d with
    | .non, .non => True
    | .bl a, .bl b => a = b
    | .int a, .int b => a = b
    | .str a, .str b => a = b
    | .ref a, .tup ds => ∃ xs, SqT K H a xs ∧ Paired (Told K H n) xs ds
    | .ref a, .lst ds => ∃ xs, SqL K H a xs ∧ Paired (Told K H n) xs ds
    | _, _ => False
section
variable {X : Cx} {pins : List (Addr × Obj)} {σ : St} {H : Hp} {s : Shared}
theorem told_get {K : PySem.W.Frag} {n : Nat} : ∀ {xs ys : List V} {ds : List Dt}, Paired (Told K H n) xs ds → Paired (Told K H n) ys ds → xs.length = ys.length ∧ ∀ (j : Nat) (x y : V), xs[j]? = some x → ys[j]? = some y → ∃ d, Told K H n x d ∧ Told K H n y d
  | _, _, _, .nil, .nil => ⟨rfl, fun j x y h _ => by simp at h⟩
  | _, _, _, .cons r t, .cons q u => by
    obtain ⟨h1, h2⟩ := told_get t u
    refine ⟨by simp [h1], fun j x y e1 e2 => ?_⟩
    cases j with
    | zero => simp at e1 e2; subst e1; subst e2; exact ⟨_, r, q⟩
    | succ j => exact h2 j x y (by simpa using e1) (by simpa using e2)
theorem units_in1 {A : Around} : A.in1.units = A.units + 1 := rfl
open PySem.SeqAt in
theorem told_eq (I : Inv X pins σ H s) : ∀ (n : Nat) (A : Around) (x y : V) (u v : Value) (d : Dt), A.units + n < cLine → RelV x u → RelV y v → Told X.K H n x d → Told X.K H n y d → EqAt A s u v true := by
  intro n
  induction n with
  | zero =>
    intro A x y u v d hu rx ry hx hy
    cases d with
    | non => cases x <;> first | exact hx.elim | (cases y <;> first | exact hy.elim | (cases rx; cases ry; exact EqAt.same _))
    | bl b => cases x <;> first | exact hx.elim | (cases y <;> first | exact hy.elim | (cases rx; cases ry; cases hx; cases hy; exact EqAt.same _))
    | int b =>
      cases x with
      | int i =>
        cases y with
        | int j =>
          obtain ⟨t, rfl⟩ := rx
          obtain ⟨t', rfl⟩ := ry
          have e1 : i = b := hx
          have e2 : j = b := hy
          have q := EqAt.int_int (A := A) (s := s) i t j t'
          rw [e1, e2, beq_self_eq_true] at q
          rw [e1, e2]
          exact q
        | _ => exact hy.elim
      | _ => exact hx.elim
    | str b =>
      cases x with
      | str i =>
        cases y with
        | str j =>
          obtain ⟨t, rfl⟩ := rx
          obtain ⟨t', rfl⟩ := ry
          have e1 : i = b := hx
          have e2 : j = b := hy
          have q := EqAt.str_str (A := A) (s := s) i t j t'
          rw [e1, e2, beq_self_eq_true] at q
          rw [e1, e2]
          exact q
        | _ => exact hy.elim
      | _ => exact hx.elim
    | tup ds => cases x <;> exact hx.elim
    | lst ds => cases x <;> exact hx.elim
  | succ n ih =>
    intro A x y u v d hu rx ry hx hy
    cases d with
    | non => cases x <;> first | exact hx.elim | (cases y <;> first | exact hy.elim | (cases rx; cases ry; exact EqAt.same _))
    | bl b => cases x <;> first | exact hx.elim | (cases y <;> first | exact hy.elim | (cases rx; cases ry; cases hx; cases hy; exact EqAt.same _))
    | int b =>
      cases x with
      | int i =>
        cases y with
        | int j =>
          obtain ⟨t, rfl⟩ := rx
          obtain ⟨t', rfl⟩ := ry
          have e1 : i = b := hx
          have e2 : j = b := hy
          have q := EqAt.int_int (A := A) (s := s) i t j t'
          rw [e1, e2, beq_self_eq_true] at q
          rw [e1, e2]
          exact q
        | _ => exact hy.elim
      | _ => exact hx.elim
    | str b =>
      cases x with
      | str i =>
        cases y with
        | str j =>
          obtain ⟨t, rfl⟩ := rx
          obtain ⟨t', rfl⟩ := ry
          have e1 : i = b := hx
          have e2 : j = b := hy
          have q := EqAt.str_str (A := A) (s := s) i t j t'
          rw [e1, e2, beq_self_eq_true] at q
          rw [e1, e2]
          exact q
        | _ => exact hy.elim
      | _ => exact hx.elim
    | tup ds =>
      cases x with
      | ref a =>
        cases y with
        | ref b =>
          cases rx
          cases ry
          by_cases hab : a = b
          · subst hab; exact EqAt.same _
          obtain ⟨xs, h1, h2⟩ := hx
          obtain ⟨ys, g1, g2⟩ := hy
          obtain ⟨its, rv, p, _⟩ := I.tuple h1
          obtain ⟨its', rv', p', _⟩ := I.tuple g1
          obtain ⟨l1, l2⟩ := told_get h2 g2
          have L1 := rv.length
          have L2 := rv'.length
          have q := RcAt.tuples (A := A) (s := s) (e := fun _ => true) (show s.heap.IsTuple a its.toArray from p) (show s.heap.IsTuple b its'.toArray from p') (by omega) fun j h1 h2 => by
            have j1 : j < xs.length := by simpa [L1] using h1
            have j2 : j < ys.length := by simpa [L2] using h2
            obtain ⟨d, t1, t2⟩ := l2 j _ _ (List.getElem?_eq_getElem j1) (List.getElem?_eq_getElem j2)
            obtain ⟨u1, e1, r1⟩ := rv.get (List.getElem?_eq_getElem j1)
            obtain ⟨u2, e2, r2⟩ := rv'.get (List.getElem?_eq_getElem j2)
            have f1 : its.toArray[j] = u1 := by
              have := (List.getElem?_eq_some_iff.mp e1).2
              simpa using this
            have f2 : its'.toArray[j] = u2 := by
              have := (List.getElem?_eq_some_iff.mp e2).2
              simpa using this
            rw [f1, f2]
            exact ih A.in1 _ _ u1 u2 d (by rw [units_in1]; omega) r1 r2 t1 t2
          have e : ((List.range (min its.toArray.size its'.toArray.size)).all (fun _ => true) && its.toArray.size == its'.toArray.size) = true := by
            simp
            omega
          rw [e] at q
          exact EqAt.of_refs hab q
        | _ => exact hy.elim
      | _ => exact hx.elim
    | lst ds =>
      cases x with
      | ref a =>
        cases y with
        | ref b =>
          cases rx
          cases ry
          by_cases hab : a = b
          · subst hab; exact EqAt.same _
          obtain ⟨xs, h1, h2⟩ := hx
          obtain ⟨ys, g1, g2⟩ := hy
          obtain ⟨its, rv, p, _⟩ := I.list h1
          obtain ⟨its', rv', p', _⟩ := I.list g1
          obtain ⟨l1, l2⟩ := told_get h2 g2
          have L1 := rv.length
          have L2 := rv'.length
          have q := RcAt.lists (A := A) (s := s) (e := fun _ => true) p.isList p'.isList (by simp; omega) (by omega) fun j h1 h2 => by
            have j1 : j < xs.length := by simpa [L1] using h1
            have j2 : j < ys.length := by simpa [L2] using h2
            obtain ⟨d, t1, t2⟩ := l2 j _ _ (List.getElem?_eq_getElem j1) (List.getElem?_eq_getElem j2)
            obtain ⟨u1, e1, r1⟩ := rv.get (List.getElem?_eq_getElem j1)
            obtain ⟨u2, e2, r2⟩ := rv'.get (List.getElem?_eq_getElem j2)
            have f1 : its.toArray[j] = u1 := by
              have := (List.getElem?_eq_some_iff.mp e1).2
              simpa using this
            have f2 : its'.toArray[j] = u2 := by
              have := (List.getElem?_eq_some_iff.mp e2).2
              simpa using this
            rw [f1, f2]
            exact ih A.in1 _ _ u1 u2 d (by rw [units_in1]; omega) r1 r2 t1 t2
          have e : (List.range its.toArray.size).all (fun _ => true) = true := by simp
          rw [e] at q
          exact EqAt.of_refs hab q
        | _ => exact hy.elim
      | _ => exact hx.elim
end
end L2
set_option Elab.async false
set_option linter.all false
set_option maxRecDepth 100000
set_option maxHeartbeats 4000000
namespace L2
open PySem PySem.Spec PyProof.Rows
section
variable {X : Cx} {pins : List (Addr × Obj)} {σ : St} {H : Hp} {s : Shared}
/-- the items of two things told alike -/
theorem told_items (I : Inv X pins σ H s) {n : Nat} {A : Around} {xs ys : List V} {its its' : List Value} {ds : List Dt} (hu : A.units + 1 + n < cLine) (h2 : Paired (Told X.K H n) xs ds) (g2 : Paired (Told X.K H n) ys ds) (rv : Vals xs its) (rv' : Vals ys its') :
    its.toArray.size = its'.toArray.size ∧ ∀ j (h1 : j < its.toArray.size) (h2 : j < its'.toArray.size), PySem.SeqAt.EqAt A.in1 s its.toArray[j] its'.toArray[j] true := by
  obtain ⟨l1, l2⟩ := told_get h2 g2
  have L1 := rv.length
  have L2 := rv'.length
  refine ⟨by simp; omega, fun j h1 h2 => ?_⟩
  have j1 : j < xs.length := by simpa [L1] using h1
  have j2 : j < ys.length := by simpa [L2] using h2
  obtain ⟨d, t1, t2⟩ := l2 j _ _ (List.getElem?_eq_getElem j1) (List.getElem?_eq_getElem j2)
  obtain ⟨u1, e1, r1⟩ := rv.get (List.getElem?_eq_getElem j1)
  obtain ⟨u2, e2, r2⟩ := rv'.get (List.getElem?_eq_getElem j2)
  have f1 : its.toArray[j] = u1 := by
    have := (List.getElem?_eq_some_iff.mp e1).2
    simpa using this
  have f2 : its'.toArray[j] = u2 := by
    have := (List.getElem?_eq_some_iff.mp e2).2
    simpa using this
  rw [f1, f2]
  exact told_eq I n A.in1 _ _ u1 u2 d (by rw [units_in1]; omega) r1 r2 t1 t2
def lstsTold (K : PySem.W.Frag) (x y : V) (H : Hp) : Prop := ∃ n a b xs ys ds, n ≤ 8 ∧ x = .ref a ∧ y = .ref b ∧ SqL K H a xs ∧ SqL K H b ys ∧ Paired (Told K H n) xs ds ∧ Paired (Told K H n) ys ds
open PySem.SeqAt in
theorem op_eqL (hu : X.A.units + 64 < cLine) : OpR X (compareOp .Eq) (fun x y H Q => lstsTold X.K x y H ∧ Q (.bl true) H) := by
  intro pins s σ H x y v u Q I rx ry h
  obtain ⟨⟨n, a, b, xs, ys, ds, hn, rfl, rfl, h1, h2, h3, h4⟩, q⟩ := h
  cases rx
  cases ry
  obtain ⟨its, rv, p, _⟩ := I.list h1
  obtain ⟨its', rv', p', _⟩ := I.list h2
  obtain ⟨k1, k2⟩ := told_items I (A := X.A) (n := n) (by omega) h3 h4 rv rv'
  refine eq_listAt (e := fun _ => true) p.isList p'.isList k1 (by omega) k2 ?_
  have e : (List.range its.toArray.size).all (fun _ => true) = true := by simp
  rw [e]
  exact ⟨.bl true, H, I, rfl, q⟩
end
/-! ### comprehensions, the forms one uses -/
/-- over a range, each element told from the turn's number alone; what is held of the heap stays -/
theorem comp_range {lo : Int} {n : Nat} {fr : List Nat} {te : TE} {σ : St} {H : Hp} {Q : VK} (Pv : Nat → List V → Hp → Prop) (hn : n ≤ sizeLine) (h0 : Pv 0 [] H) (hlen : ∀ i acc H, Pv i acc H → acc.length = i)
    (hs : ∀ i acc H, i < n → Pv i acc H → ∀ R : VK, (∀ y H1, Pv (i + 1) (acc ++ [y]) H1 → R y H1) → te ((compSt σ fr).set 0 (some (.int (lo + i)))) H R)
    (hd : ∀ acc H, Pv n acc H → ∀ p, H p = none → Q (.ref p) (upd H p (.lst acc))) :
    CompGo fr tYes te σ Q (Itr lo n) H := by
  refine ⟨fun i m acc H => m = n - i ∧ i ≤ n ∧ Pv i acc H, ⟨n, by simp, Nat.zero_le _, h0⟩, ?_⟩
  rintro i m acc H ⟨rfl, hi, p⟩
  have hl := hlen i acc H p
  by_cases hlt : i < n
  · refine .inr ⟨hlt, by omega, fun x H' y => ?_⟩
    obtain ⟨e, y⟩ := y
    subst e y
    unfold tYes
    refine iteT ?_
    exact hs i acc _ hlt p _ fun y H1 q => ⟨n - (i + 1), by omega, rfl, hlt, q⟩
  · have e : i = n := by omega
    subst e
    exact .inl ⟨Nat.le_refl _, by omega, hd acc H p⟩
end L2
set_option Elab.async false
set_option linter.all false
set_option maxRecDepth 100000
set_option maxHeartbeats 4000000
namespace L2
open PySem PySem.Spec PyProof.Rows
/-- a def of the text that may be called, with its promise -/
structure Cal (P : Program) (w : World) (K : PySem.W.Frag) (mg : Str → Option Value) (base : Heap) (k : Nat) (x : Str) (ps : List Str) (sp : Sp) where
  f : Addr
  fd : FuncData
  ok : FnOk P w K mg base CX0 k f fd ps sp
  b : Binds K fd ps []
  kp : PySem.W.keepIn K (.ref f) = true
  mg : mg x = some (.ref f)
theorem pec {X : Cx} {k : Nat} {x : Str} {ps : List Str} {sp : Sp} {p pos : Pos} {e : Expr} {es : List Expr} {t : TA} (C : Cal X.prog X.w X.K X.mg X.base k x ps sp) (hr : Room k X.A) (hg : Gl X x) (ha : PA X (e :: es) t)
    (hdb : (x == ("__debug__" : Str)) = false := by decide) (he : starEach (e :: es) X.env = (false, eval e X.env) :: starEach es X.env := by rfl) (hpl : (backTo pos (starEach es X.env)).any (·.1) = false := by rfl) :
    PE X (.Call (.Name x p) (e :: es) [] pos) (tCall sp [] E0 t) := pe_call C.ok hr hg C.mg C.kp C.b .nil pass0 ha hdb he hpl
theorem Same.seqT {K : PySem.W.Frag} {H H' : Hp} {a : Addr} {xs : List V} (e : Same H H') (h : SqT K H a xs) : SqT K H' a xs := by
  rcases h with (h | ⟨o, h⟩) | h
  · exact .inl (.inl (e _ _ h))
  · exact .inl (.inr ⟨o, e _ _ h⟩)
  · exact .inr h
theorem same_new {H : Hp} {p : Addr} (h : H p = none) (o : HO) : Same H (upd H p o) := fun b u q => by rw [upd_ne (ne_of_none q h)]; exact q
theorem at_int {ns : List Int} {i : Int} (h0 : 0 ≤ i) (h1 : i < ns.length) : atI (ns.map V.int) i = some (.int (ns.getD i.toNat 0)) := by
  have hk : i.toNat < ns.length := by omega
  have ek : i = ((i.toNat : Nat) : Int) := by omega
  have q : atI (ns.map V.int) ((i.toNat : Nat) : Int) = some (.int (ns.getD i.toNat 0)) := atI_nat (by
    rw [List.getElem?_map, List.getElem?_eq_getElem hk, List.getD_eq_getElem?_getD, List.getElem?_eq_getElem hk]; rfl)
  rw [← ek] at q
  exact q
theorem small {n : Nat} (h : n ≤ 1000) : n ≤ sizeLine := Nat.le_of_lt (small1000 h)
theorem told_ints {K : PySem.W.Frag} {H : Hp} : ∀ (ns : List Int), Paired (Told K H 0) (ns.map V.int) (ns.map Dt.int)
  | [] => .nil
  | n :: r => .cons (show n = n from rfl) (told_ints r)
/-- an end: a number or None -/
def ov : Option Int → V
  | none => .non
  | some i => .int i
end L2
set_option Elab.async false
set_option linter.all false
set_option maxRecDepth 100000
set_option maxHeartbeats 4000000
namespace L2
open PySem PySem.Spec PyProof.Rows
section
variable {prog : Program} {w : World} {A : Around} {E : Value → Shared → Prop} {s : Shared}
/-! ### zip of two tuples, its items kept by a name -/
end
end L2
set_option Elab.async false
set_option linter.all false
set_option maxRecDepth 100000
set_option maxHeartbeats 4000000
namespace L2
open PySem PySem.Spec PyProof.Rows
section
variable {prog : Program} {w : World} {A : Around} {E : Value → Shared → Prop} {s : Shared}
/-! ### the making of a zip -/
end
end L2
set_option Elab.async false
set_option linter.all false
set_option maxRecDepth 100000
set_option maxHeartbeats 4000000
namespace L2
open PySem PySem.Spec PyProof.Rows
end L2
set_option Elab.async false
set_option linter.all false
set_option maxRecDepth 100000
set_option maxHeartbeats 4000000
namespace L2
open PySem PySem.Spec PyProof.Rows
/-- the place of the least, of the greatest: the first of them -/
def leastAt (ns : List Int) : Nat := argBest (fun i j => decide (ns.getD i 0 < ns.getD j 0)) (ns.length - 1)
def greatestAt (ns : List Int) : Nat := argBest (fun i j => decide (ns.getD i 0 > ns.getD j 0)) (ns.length - 1)
theorem argBest_le {bt : Nat → Nat → Bool} : ∀ k, argBest bt k ≤ k
  | 0 => Nat.le_refl _
  | k + 1 => by
    unfold argBest
    split
    · exact Nat.le_refl _
    · exact Nat.le_succ_of_le (argBest_le k)
theorem vals_at {ns : List Int} {us : List Value} (r : Vals (ns.map V.int) us) {i : Nat} {v : Value} (h : us.toArray[i]? = some v) : ∃ t, v = .int (ns.getD i 0) t := by
  have h' : us[i]? = some v := by simpa using h
  have hl := r.length
  have hi : i < ns.length := by
    have := (List.getElem?_eq_some_iff.mp h').1
    rw [List.length_map] at hl; omega
  obtain ⟨u, e, q⟩ := r.get (i := i) (x := .int (ns.getD i 0)) (by rw [List.getElem?_map, List.getElem?_eq_getElem hi, List.getD_eq_getElem?_getD, List.getElem?_eq_getElem hi]; rfl)
  rw [h'] at e
  cases e
  exact q
section
variable {X : Cx}
theorem call_minT (hc : X.calm = true) : CallR X (.builtin "min") (fun xs H Q => ∃ (p : Addr) (ns : List Int), xs = [.ref p] ∧ SqT X.K H p (ns.map V.int) ∧ 0 < ns.length ∧ Q (.int (ns.getD (leastAt ns) 0)) H) := by
  intro pins s σ H xs us Q I r h
  obtain ⟨p, ns, rfl, hq, hn, q⟩ := h
  obtain ⟨u, rfl, ru⟩ := r.one
  cases ru
  obtain ⟨its, rv, ht, _⟩ := I.tuple hq
  have hl := rv.length
  have T : s.heap.IsTuple p its.toArray := ht
  have lt : p < s.heap.objs.size := by obtain ⟨o, e, _⟩ := T; exact Heap.lt_size e
  have hsz : its.toArray.size = ns.length := by rw [List.size_toArray, ← hl, List.length_map]
  refine call_min_walk (wpAny_pyIter_tuple T ⟨_, _, _, _, _, _, _, rfl, Walks.tuple (show X.A.in1.handled = none from I.ok.hd hc) s.heap.objs.size p (Nat.ne_of_lt lt) its.toArray, ⟨⟨_, Heap.get?_push_size _ rfl, rfl, rfl⟩, T.at fun o e => Heap.get?_push_of_some _ e⟩, fun b hb => ?_, by rw [hsz]; exact hn,
    CmpOf.ints_lt (fun i => ns.getD i 0) (fun i v e => vals_at rv e), fun v h' tk hP hk => ?_⟩)
  · simp only [List.mem_cons, List.not_mem_nil, or_false] at hb
    rw [Heap.size_push]
    rcases hb with e | e
    · rw [e]; exact Nat.lt_succ_self _
    · rw [e]; exact Nat.lt_succ_of_lt lt
  · rw [hsz] at hP
    obtain ⟨t, rfl⟩ := vals_at rv hP
    refine ⟨.int _, H, I.kept fun b o e => hk b o ?_ (Heap.get?_push_of_some _ e), ⟨t, rfl⟩, q⟩
    intro hm
    simp only [List.mem_cons, List.not_mem_nil, or_false] at hm
    exact absurd (Heap.lt_size e) (by rw [hm]; exact Nat.lt_irrefl _)
end
/-! ### comprehensions over a tuple, over a zip of two tuples -/
end L2
set_option Elab.async false
set_option linter.all false
set_option maxRecDepth 100000
set_option maxHeartbeats 4000000
namespace L2
open PySem PySem.Spec PyProof.Rows
/-! ### the same rules where the fragment is named (within a comprehension's block) -/
section
variable {X : Cx} {K : PySem.W.Frag}
theorem ix_tupK (h : X.K = K) : IxR X (rIxT K) := h ▸ ix_tup
theorem ix_listK (h : X.K = K) : IxR X (rIxL K) := h ▸ ix_list
end
end L2
set_option Elab.async false
set_option linter.all false
set_option maxRecDepth 100000
set_option maxHeartbeats 4000000
namespace L2
open PySem PySem.Spec PyProof.Rows
section
variable {X : Cx}
theorem comp_core {use : Option (Value → Sem Unit)} {S : Value → Shared → Prop} {elt iter : Expr} {x : Str} {px : Pos} {ifs : List Expr} {scope : Scope} {pos : Pos} {wi : TI} {tt : TT} {te : TE} (F : List Str) (fr : List Nat) (hc : X.calm = true) (hi : PI X (.Name x px) iter wi)
    (ht : ∀ s3 H3 ex, PTs (compCx X (x :: F) scope s3 H3 ex) ifs tt) (he : ∀ s3 H3 ex, PE (compCx X (x :: F) scope s3 H3 ex) elt te)
    {pins : List (Addr × Obj)} {s : Shared} {σ : St} {H : Hp} {Q : VK} {p2 : Pos} (I : Inv X pins σ H s) (h : tComp wi fr tt te σ H Q) (hk : compChk X.env.scope X.N scope x F fr = true) (hs : ∀ x, foldedSetIterable iter X.env x = pure x)
    (fin : ∀ (s5 : Shared) (H5 : Hp) (D C : Addr) (m : Str → Option Value), Inv X pins σ H5 s5 → s5.heap.Ns C m → FpOk X pins H5 C → Q (.ref D) H5 → compPost (model X.prog X.w) X.A X.xe use S (.ref D) C (.ok .next) s5) :
    wpAny (model X.prog X.w) X.A (comprehension (.ListComp elt [⟨.Name x px, iter, ifs, 0⟩] scope pos) scope X.env p2 (newList []) false (eval iter X.env) use) S X.xe s := by
  have C := CompOk.of hk
  refine wpAny_comprehension_free (use := use) rfl hs (closure_eq (I.closes C)) C.kind C.loc ?_
  refine thn (hi pins s σ H _ I h) fun v s1 h1 => thn h1 fun itv s2 h2 => ?_
  obtain ⟨it, fp, tn, J, H2, e, I2, T, st2, f2, W, ⟨m0, w0⟩, turn⟩ := h2
  subst e
  refine wpAny_newObj_type (wpAny_newFunctionEnv C.nocell (by intro y hy; simp at hy) (fun h₁ hns₁ hsb₁ => ?_) C.kind)
  dsimp only at hns₁ hsb₁ ⊢
  generalize hs3 : ({ s2 with heap := s2.heap.push { cls := .type "list", dict := none, data := .seq ([] : List Value).toArray } } : Shared) = s3
  have e3 : s3.heap = s2.heap.push { cls := .type "list", dict := none, data := .seq ([] : List Value).toArray } := by rw [← hs3]
  rw [← e3] at hns₁ hsb₁ ⊢
  have sz3 : s3.heap.objs.size = s2.heap.objs.size + 1 := by rw [e3, Heap.size_push]
  generalize hD : s2.heap.objs.size = D at sz3 ⊢
  have I3 : Inv X pins σ H2 s3 := by
    rw [← hs3]
    exact I2.kept (t' := s2.toks) fun b o e => Heap.get?_push_of_some _ e
  have hDX : ∀ {H' : Hp}, H' D = none → FpOk X pins H' D := fun {H'} hn => I2.fpOk (H' := H') (by rw [hD]; exact Nat.le_refl _) hn
  have hCX : ∀ {H' : Hp}, H' s3.heap.objs.size = none → FpOk X pins H' s3.heap.objs.size := fun {H'} hn => I3.fpOk (H' := H') (Nat.le_refl _) hn
  have hD2 : H2 D = none := by rw [← hD]; exact I2.hok.fresh (Nat.le_refl _)
  have ltf : ∀ b ∈ fp, b < D := fun b hb => by
    obtain ⟨o, ho, _⟩ := T.obj 0 _ st2 b hb
    rw [← hD]
    exact Heap.lt_size ho
  have ltD : D < s3.heap.objs.size := by rw [sz3]; exact Nat.lt_succ_self _
  have getD3 : s3.heap.get? D = some { cls := .type "list", dict := none, data := .seq ([] : List Value).toArray } := by
    rw [e3, ← hD]
    exact Heap.get?_push_size _ rfl
  have old : ∀ b o, s3.heap.get? b = some o → h₁.get? b = some o := fun b o e => hsb₁.extBut b o (Nat.ne_of_lt (Heap.lt_size e)) (Heap.get?_push_of_some _ e)
  have J0 : Inv (compCx X (x :: F) scope s3 H2 (D :: fp)) [] (compSt σ fr) H2 { s3 with heap := h₁, toks := s3.toks + ([] : List (Str × Value)).length } := by
    refine inv_comp I3 C (fun b hb => ?_) (by simpa using hns₁) old
    rcases List.mem_cons.mp hb with e | hb
    · subst e; exact ⟨hDX hD2, ltD⟩
    · exact ⟨f2 b hb, Nat.lt_trans (ltf b hb) ltD⟩
  have nfs : ∀ b, b ≠ X.env.locals → b ∉ X.fs → b ∉ frs X.stack := fun b h1 h2 hb => by
    rcases List.mem_cons.mp (I3.stkSub b hb) with z | z
    · exact h1 z
    · exact h2 z
  have gs : ∀ {y : Str} {c : Addr}, (gather X.env.cells scope.names []).lookup y = some c → X.env.cells.lookup y = some c := fun h => I.gsub C h
  -- what is true of the block's iterator
  have fpY : ∀ {H' : Hp} {oD : Obj}, (∀ b ∈ fp, H' b = none) → ∀ b ∈ fp, FpOk (compCx X (x :: F) scope s3 H2 (D :: fp)) [(D, oD)] H' b := fun {H' oD} hn b hb => by
    obtain ⟨g0, g1, g2, g3, g4, g5⟩ := f2 b hb
    refine ⟨hn b hb, Nat.ne_of_lt (Nat.lt_trans (ltf b hb) ltD), nfs b g1 g2, .inl (List.mem_cons_of_mem _ hb), fun y c e => g4 y c (gs e), fun p hp => ?_⟩
    have e : p = (D, oD) := by
      have : p ∈ ([] : List (Addr × Obj)) ++ [(D, oD)] := hp
      simpa using this
    rw [e]
    exact Nat.ne_of_gt (ltf b hb)
  have pinD : ∀ {H' : Hp} {s' : Shared} {oD : Obj} {σ' : St}, Inv (compCx X (x :: F) scope s3 H2 (D :: fp)) [] σ' H' s' → H' D = none → s'.heap.get? D = some oD → (∀ v, oD.data ≠ .cell v) → Inv (compCx X (x :: F) scope s3 H2 (D :: fp)) [(D, oD)] σ' H' s' := fun {H' s' oD σ'} I' hn e hd => by
    refine I'.pins_of fun p hp => ?_
    have ep : p = (D, oD) := by simpa using hp
    subst ep
    obtain ⟨g0, g1, g2, _⟩ := hDX hD2
    exact ⟨e, hn, Nat.ne_of_lt ltD, nfs D g1 g2, hd⟩
  have unpin : ∀ {H' : Hp} {s' : Shared} {pl : List (Addr × Obj)} {σ' : St}, Inv (compCx X (x :: F) scope s3 H2 (D :: fp)) pl σ' H' s' → Inv (compCx X (x :: F) scope s3 H2 (D :: fp)) [] σ' H' s' := fun I' => I'.pins_of fun p hp => nomatch hp
  have post : ∀ (s' : Shared), s' = { s3 with heap := h₁, toks := s3.toks + ([] : List (Str × Value)).length } →
      codeAny (model X.prog X.w) X.A (.compLoop (.ListComp elt [⟨.Name x px, iter, ifs, 0⟩] scope pos) 0 (.ref it) (.ref D) (compEnvC scope (gather X.env.cells scope.names []) s3.heap.objs.size X.env))
        (compPost (model X.prog X.w) X.A X.xe use S (.ref D) s3.heap.objs.size) s' := by
    rintro s' rfl
    refine codeAny_compLoop_tests (fun n s' => ∃ i acc its H' oD, Inv (compCx X (x :: F) scope s3 H2 (D :: fp)) [] (compSt σ fr) H' s' ∧ tn i s'.heap ∧ (∀ b ∈ fp, H' b = none) ∧ H' D = none ∧
      s'.heap.get? D = some oD ∧ (∃ n, oD = { cls := .type "list", data := .seq (its : List Value).toArray n }) ∧ Vals acc its ∧ W i n acc H') ?_ m0 ⟨0, [], [], H2, _, J0, ?_, fun b hb => (f2 b hb).1, hD2, old _ _ getD3, ⟨0, rfl⟩, .nil, w0⟩
    · rintro n s4 ⟨i, acc, its, H4, oD, I4, st4, fr4, n4, g4, ⟨nn, rfl⟩, v4, w4⟩
      have hdat : ∀ v, ({ cls := .type "list", data := .seq its.toArray nn } : Obj).data ≠ .cell v := fun v z => by cases z
      have I4' := pinD I4 n4 g4 hdat
      rcases turn i n acc H4 w4 with ⟨stop, hz, q⟩ | ⟨go, hz, step⟩
      · refine wpAny_mono (T.done (compCx X (x :: F) scope s3 H2 (D :: fp)) rfl rfl rfl hc i [(D, _)] s4 (compSt σ fr) H4 (fun _ _ => False) I4' (fpY fr4) st4 stop) (fun r s5 ⟨hr, I5⟩ => ?_) fun _ _ z => False.elim z
        subst hr
        obtain ⟨m, hm, _⟩ := I5.loc
        obtain ⟨g5, n5, _⟩ := I5.pin (D, _) (List.mem_append_right _ List.mem_cons_self)
        have hC5 : H4 s3.heap.objs.size = none := I5.free
        have IX : Inv X pins σ H4 s5 := I3.call' (ch := D :: fp) I5.os I5.base I5.hok I5.bare fun b hb => by
          rcases List.mem_cons.mp hb with e | hb
          · subst e
            obtain ⟨g0, g1, g2, g3, g4, g5⟩ := hDX hD2
            exact ⟨g3, g1, g4, g5⟩
          · obtain ⟨g0, g1, g2, g3, g4, g5⟩ := f2 b hb
            exact ⟨g3, g1, g4, g5⟩
        have hC6 : (upd H4 D (.lst acc)) s3.heap.objs.size = none := by rw [upd_ne (Nat.ne_of_gt ltD)]; exact hC5
        exact fin s5 _ D _ m (IX.track (o := .lst acc) (hDX n5) (by rw [← hD]; exact I2.sz) ⟨hz, its, nn, v4, g5⟩) hm (hCX hC6) (q D n5)
      · refine wpAny_mono (T.item (compCx X (x :: F) scope s3 H2 (D :: fp)) rfl rfl rfl hc i [(D, _)] s4 (compSt σ fr) H4 (fun _ _ => False) I4' (fpY fr4) st4 go) (fun r s5 ⟨u, hr, h5⟩ => ?_) fun _ _ z => False.elim z
        subst hr
        refine after_pure (show wpAny _ _ (pure () : Sem Unit) _ _ s5 from h5) fun ⟨y, H6, I6, r6, y6, st6, fr6⟩ => ?_
        have hl : (compCx X (x :: F) scope s3 H2 (D :: fp)).env.scope.names.lookup x = some .local := lookup_relabel_local C.tx
        -- the target's store, the iterator and the list held fast
        have I6' := I6.pinned (fp := fp) (fun b hb => ⟨fr6 b hb, (fpY (oD := { cls := .type "list", data := .seq its.toArray nn }) fr4 b hb).2⟩) (T.obj _ _ st6)
        have PGx : PG (compCx X (x :: F) scope s3 H2 (D :: fp)) (.Name x px) (gName 0) := pg_name C.nd rfl (.inl hl) (.inr hl)
        refine wpAny_mono (PGx _ s5 (compSt σ fr) H6 y u (fun σ7 H7 => σ7 = (compSt σ fr).set 0 (some y) ∧ H7 = H6) I6' r6 ⟨rfl, rfl⟩) (fun _ s7 ⟨σ7, H7, I7, q7⟩ => ?_) fun _ _ z => False.elim z
        obtain ⟨rfl, rfl⟩ := q7
        refine wpAny_mono (ht s3 H2 (D :: fp) _ s7 _ H7 _ I7 (step y H7 y6)) (fun b s8 ⟨H8, I8, q8⟩ => ?_) fun _ _ z => False.elim z
        -- what is held fast
        have held : ∀ {σ9 : St} {H9 : Hp} {s9 : Shared}, Inv (compCx X (x :: F) scope s3 H2 (D :: fp)) ([(D, { cls := .type "list", data := .seq its.toArray nn })] ++ pinsAt fp s5.heap) σ9 H9 s9 →
            tn (i + 1) s9.heap ∧ (∀ b ∈ fp, H9 b = none) ∧ H9 D = none ∧ s9.heap.get? D = some { cls := .type "list", data := .seq its.toArray nn } := fun {σ9 H9 s9} I9 => by
          refine ⟨T.keep _ _ _ st6 fun b hb o e => (I9.pin (b, o) (List.mem_append_right _ (List.mem_append_right _ (mem_pinsAt hb e)))).1, fun b hb => ?_, ?_, ?_⟩
          · obtain ⟨o, e, _⟩ := T.obj _ _ st6 b hb
            exact (I9.pin (b, o) (List.mem_append_right _ (List.mem_append_right _ (mem_pinsAt hb e)))).2.1
          · exact (I9.pin (D, _) (List.mem_append_right _ (List.mem_append_left _ List.mem_cons_self))).2.1
          · exact (I9.pin (D, _) (List.mem_append_right _ (List.mem_append_left _ List.mem_cons_self))).1
        have forget : ∀ {H9 : Hp} {s9 : Shared} {pl : List (Addr × Obj)}, Inv (compCx X (x :: F) scope s3 H2 (D :: fp)) pl ((compSt σ fr).set 0 (some y)) H9 s9 → Inv (compCx X (x :: F) scope s3 H2 (D :: fp)) [] (compSt σ fr) H9 s9 := fun {H9 s9 pl} I9 => by
          refine (unpin I9).weak (by simp) fun j v e => ?_
          cases j with
          | zero => simp [compSt] at e
          | succ j => simpa [compSt] using e
        cases b with
        | false =>
          obtain ⟨m', hm', w8⟩ := q8
          obtain ⟨a1, a2, a3, a4⟩ := held I8
          exact ⟨m', hm', i + 1, acc, its, H8, _, forget I8, a1, a2, a3, a4, ⟨nn, rfl⟩, v4, w8⟩
        | true =>
          refine wpAny_mono (he s3 H2 (D :: fp) _ s8 _ H8 _ I8 q8) (fun yv s9 ⟨z9, H9, I9, r9, m', hm', w9⟩ => ?_) fun _ _ z => False.elim z
          obtain ⟨a1, a2, a3, a4⟩ := held I9
          have hlen := v4.length
          refine wpAny_list_append_plain (items := its.toArray) ⟨nn, a4⟩ (fun h' hp' hsb' => ?_) (by rw [List.size_toArray]; omega)
          obtain ⟨n2, hp2⟩ := hp'
          have e2 : its.toArray.push yv = (its ++ [yv]).toArray := by simp
          rw [e2] at hp2
          have I10 := forget I9
          obtain ⟨d0, d1, d2, d3, d4, d5⟩ := hDX hD2
          have I11 : Inv (compCx X (x :: F) scope s3 H2 (D :: fp)) [] (compSt σ fr) H9 { s9 with heap := h' } :=
            I10.turned (t' := s9.toks) (it := D) (fun b o hb e => (hsb'.2 b hb).trans e) a3 (Nat.ne_of_lt ltD) (.inl List.mem_cons_self) (fun y c e => d4 y c (gs e)) fun p hp => absurd (show p ∈ ([] : List (Addr × Obj)) from hp) (by simp)
          refine ⟨m', hm', i + 1, acc ++ [z9], its ++ [yv], H9, _, I11, T.keep _ _ _ a1 fun b hb o e => (hsb'.2 b (Nat.ne_of_lt (ltf b hb))).trans e, a2, a3, hp2, ⟨n2, rfl⟩, v4.append (.cons r9 .nil), w9⟩
    · exact T.keep _ _ _ st2 fun b hb o e => old b o (by rw [e3]; exact Heap.get?_push_of_some _ e)
  refine codeAny_compStart_list (post _ (by rw [← hs3])) (T.self X.A 0 _ _ _ ?_ (post _ (by rw [← hs3])))
  exact T.keep _ _ _ st2 fun b hb o e => old b o (by rw [e3]; exact Heap.get?_push_of_some _ e)

/-- x = [.. for ..] at a plain local: the store stands within the block -/
theorem ps_setComp {y : Str} {j : Nat} {elt iter : Expr} {x : Str} {px py : Pos} {ifs : List Expr} {scope : Scope} {pos spos : Pos} {wi : TI} {tt : TT} {te : TE} (F : List Str) (fr : List Nat) (hN : X.N.Nodup) (hj : X.N[j]? = some y) (hy : X.env.scope.names.lookup y = some .local) (hc : X.calm = true) (hi : PI X (.Name x px) iter wi)
    (ht : ∀ s3 H3 ex, PTs (compCx X (x :: F) scope s3 H3 ex) ifs tt) (he : ∀ s3 H3 ex, PE (compCx X (x :: F) scope s3 H3 ex) elt te)
    (hsw : swapsWith (.ListComp elt [⟨.Name x px, iter, ifs, 0⟩] scope pos) (some (.Name y py)) spos.line X.env = pure true := by rfl)
    (hk : compChk X.env.scope X.N scope x F fr = true := by rfl) (hs : ∀ x, foldedSetIterable iter X.env x = pure x := by intro _; rfl) :
    PS X (.Assign [.Name y py] (.ListComp elt [⟨.Name x px, iter, ifs, 0⟩] scope pos) spos) (tAsg (tComp wi fr tt te) (gName j)) := by
  intro pins s σ H D0 I h
  rw [exec_Assign_Name_used _ _ _ _ hsw]
  refine wpAny_bind (wpAny_standAt (wpAny_bind ?_))
  show wpAny _ X.A (do let _ ← comprehension (.ListComp elt [⟨.Name x px, iter, ifs, 0⟩] scope pos) scope X.env _ (newList []) false (eval iter X.env) (some (assign (.Name y py) X.env))) _ _ s
  refine wpAny_bind (wpAny_mono (comp_core (use := some (assign (.Name y py) X.env)) (S := fun _ s' => SP X pins D0 .next s') F fr hc hi ht he I h hk hs fun s5 H5 D C m IT hm hC q => ?_) (fun _ s' hq => wpAny_pure (wpAny_pure hq)) fun _ _ e => e)
  obtain ⟨c0, c1, c2, c3, c4, c5⟩ := hC
  show wpAny _ X.A (assign (.Name y py) X.env (.ref D)) _ _ _
  refine wpAny_assign_Name (store_ok2 IT hN hj (.inl hy) (v := .ref D) rfl (fun s6 I6 hsb => ?_) (.inr hy))
  obtain ⟨b, hsb, hb⟩ := hsb
  have hCb : C ≠ b := by
    rcases hb with e | e
    · rw [e]; exact c1
    · exact fun z => c4 y b e z.symm
  refine ⟨m, hm.sameBut hsb hCb, fun h' hs' => ?_⟩
  exact ⟨_, H5, I6.turned (t' := s6.toks) (it := C) (fun b o hb e => (hs'.2 b hb).trans e) c0 c1 c3 c4 c5, q⟩
end
end L2
set_option Elab.async false
set_option linter.all false
set_option maxRecDepth 100000
set_option maxHeartbeats 4000000
namespace L2
open PySem PySem.Spec PyProof.Rows

/-! ### an exception in flight -/
theorem HOk.over {P : Program} {w : World} {H : Hp} {h B : Heap} (x : HOk P w H h) (k : ∀ b u o, H b = some u → h.get? b = some o → B.get? b = some o) : HOk P w H B := fun a o e => by
  refine (x a o e).stay (fun b u hb q => ?_) (fun _ q => q) fun _ _ q => q
  rcases hb with z | z
  · subst z; exact k _ _ _ e q
  · exact k _ _ _ z q

/-- seen from the state s (abstract heap H) ahead of the call: the exception at x flies over the frames l; B: the heap at the raise, without the frames that run -/
structure Fly (P : Program) (w : World) (l : List Env) (H : Hp) (s : Shared) (x : Addr) (cls a0 : Value) (H' : Hp) (B : Heap) (s' : Shared) : Prop where
  os : s'.os = s.os
  bare : AllBare s'.gens
  fly : Heap.FlyingW B l x cls a0 s'.heap
  keep : ∀ b o, s.heap.get? b = some o → H b = none → b ∉ frs l → B.get? b = some o
  slot : ∀ b o, s.heap.get? b = some o → b ∈ frs l → ∃ sl, s'.heap.get? b = some { o with slots := sl }
  free : ∀ b o, s.heap.get? b = some o → H b = none → H' b = none
  there : ∀ b o, s.heap.get? b = some o → b ∉ frs l → ∃ o', B.get? b = some o'
  tups : ∀ b xs, H b = some (.tup xs) → H' b = some (.tup xs)
  frzs : ∀ b o u, H b = some (.frz o u) → H' b = some (.frz o u)
  tbls : ∀ b ps, H b = some (.tbl ps) → ∃ more, H' b = some (.tbl (ps ++ more))
  hok : HOk P w H' B
section
variable {P : Program} {w : World} {l : List Env} {H H' : Hp} {s s' : Shared} {x : Addr} {cls a0 : Value} {B : Heap}
theorem Fly.un (F : Fly P w l H s x cls a0 H' B s') : Un (frs l) [] H H' s.heap s'.heap where
  keep := fun b o e n hb _ => F.fly.1 b o (F.keep b o e n hb)
  slot := fun b o e _ hb _ => F.slot b o e hb
  free := fun b o e n _ => F.free b o e n
  there := fun b o e _ => by
    by_cases hb : b ∈ frs l
    · obtain ⟨sl, q⟩ := F.slot b o e hb
      exact ⟨_, q⟩
    · obtain ⟨o', q⟩ := F.there b o e hb
      exact ⟨o', F.fly.1 b o' q⟩
  tups := F.tups
  frzs := F.frzs
  tbls := F.tbls
theorem Fly.hok' (F : Fly P w l H s x cls a0 H' B s') : HOk P w H' s'.heap := F.hok.kept F.fly.1
/-- the flight goes on in another heap -/
theorem Fly.move {h : Heap} {t : Nat} (F : Fly P w l H s x cls a0 H' B s') (f : Heap.FlyingW B l x cls a0 h) (u : s'.heap.UpToSlots h) : Fly P w l H s x cls a0 H' B { s' with heap := h, toks := t } where
  os := F.os
  bare := F.bare
  fly := f
  keep := F.keep
  slot := fun b o e hb => by
    obtain ⟨sl, q⟩ := F.slot b o e hb
    obtain ⟨_, oe, h1, h2⟩ := F.fly.2.2.1.mem hb
    rw [q] at h1
    cases h1
    obtain ⟨sl', q'⟩ := u b _ q h2
    exact ⟨sl', q'⟩
  free := F.free
  there := F.there
  tups := F.tups
  frzs := F.frzs
  tbls := F.tbls
  hok := F.hok
end
/-- how an exception lies behind a call -/
def CXx (P : Program) (w : World) : CXT := fun l H s E e s' => ∃ x cls a0 H' B, e = .ref x ∧ Fly P w l H s x cls a0 H' B s' ∧ E cls none H'

section
variable {X : Cx} {pins : List (Addr × Obj)} {σ : St} {H H' : Hp} {s s' : Shared} {x : Addr} {cls a0 : Value} {B : Heap}
theorem Inv.notL (I : Inv X pins σ H s) {b : Addr} {o : Obj} (e : X.s₀.heap.get? b = some o) (hb : b ∉ X.fs) : b ∉ frs X.stack := fun z => by
  rcases List.mem_cons.mp (I.stkSub b z) with q | q
  · exact absurd q (Nat.ne_of_lt (Nat.lt_of_lt_of_le (Heap.lt_size e) I.ok.above))
  · exact hb q
end

/-! ### a def's body: an exception made here, one that passes -/
/-- what is raised here reaches what is wanted of exceptions -/
def Made (X : Cx) (E : XK) : Prop := ∀ (pins : List (Addr × Obj)) (σ : St) (H : Hp) (s : Shared) (h' : Heap) (e : Addr) (cls : Value) (vs : List Value), Inv X pins σ H s → Heap.MadeExcOf s.heap h' e cls vs → E cls none H → X.xe (.ref e) { s with heap := h' }
section
variable {P : Program} {w : World} {K : PySem.W.Frag} {mg : Str → Option Value} {base : Heap} {N : List Str} {qual : Str} {scope : Scope} {f : Addr} {cd : Value} {A : Around} {outer : List Env} {s : Shared} {H : Hp} {E E' : XK}
theorem made_def : Made (cxOf (CXx P w) P w K mg base N qual scope f cd A outer s H E) E := by
  intro pins σ H1 s1 h' e cls vs I hx q
  have hin : ∀ env ∈ (envOfC qual scope s.heap.objs.size f cd :: outer), ∀ b, env.frame = some b → b ∈ frs (envOfC qual scope s.heap.objs.size f cd :: outer) := fun env he b hb => List.mem_filterMap.mpr ⟨env, he, hb⟩
  have hnot : ∀ b u, H1 b = some u → b ∉ frs (envOfC qual scope s.heap.objs.size f cd :: outer) := fun b u e hb => by
    have := I.stkFree b hb
    rw [e] at this
    cases this
  show wpAny (model P w) (A.deeper (envOfC qual scope s.heap.objs.size f cd)) (leaving (envOfC qual scope s.heap.objs.size f cd) (.ref e)) _ _ _
  refine wpAny_leaves_madeW (base := PySem.W.hideAll s1.heap (frs (envOfC qual scope s.heap.objs.size f cd :: outer))) (h := s1.heap) I.ok.frames rfl (fun b o z => PySem.W.of_hideAll _ z) (PySem.W.funFrames_hide I.stack hin) hx fun h2 t fl tup bt up => ?_
  refine ⟨e, cls, .ref t, H1, PySem.W.hideAll s1.heap (frs (envOfC qual scope s.heap.objs.size f cd :: outer)), rfl, ⟨I.os, I.bare, fl, fun b o e n hb => ?_, fun b o e hb => ?_, fun b o e n => I.base.free b o e n (fun z => nomatch z), fun b o e hb => ?_, I.base.tups, I.base.frzs, I.base.tbls, ?_⟩, q⟩
  · exact PySem.W.hideAll_get _ (I.base.keep b o e n hb (fun z => nomatch z)) (I.notL e hb)
  · obtain ⟨sl, q1⟩ := I.base.slot b o e (I.ok.frf b hb) hb (fun z => nomatch z)
    have hb' : b ∈ frs (envOfC qual scope s.heap.objs.size f cd :: outer) := by
      obtain ⟨env, he, hf⟩ := List.mem_filterMap.mp hb
      exact hin env (List.mem_cons_of_mem _ he) b hf
    obtain ⟨_, oe, h3, h4⟩ := I.stack.mem hb'
    rw [q1] at h3
    cases h3
    obtain ⟨sl2, q2⟩ := up b _ (hx.keeps _ _ q1) h4
    exact ⟨sl2, q2⟩
  · obtain ⟨o', q1⟩ := I.base.there b o e (fun z => nomatch z)
    exact ⟨o', PySem.W.hideAll_get _ q1 (I.notL e hb)⟩
  · exact I.hok.over fun b u o e q1 => PySem.W.hideAll_get _ q1 (hnot b u e)
end
end L2
set_option Elab.async false
set_option linter.all false
set_option maxRecDepth 100000
set_option maxHeartbeats 4000000
namespace L2
open PySem PySem.Spec PyProof.Rows

/-! ### own error classes under ValueError -/
/-- the classes that ValueError stands under -/
abbrev VB : List Value := [.type "ValueError", .type "Exception", .type "BaseException", .type "object"]
theorem exc_obj {K : PySem.W.Frag} {h : Heap} {C : Addr} {bmB : List Value} {newId : String} (X : K.In h) (q : PySem.W.excIn K C bmB newId = true) :
    ∃ bm N nm qn bs hd sn sub ab col dd k0 k1 k2 k3 k5 mN, h.get? C = some (excClassObj nm qn C N bs bm hd sn sub ab col dd k0 k1 k2 k3 k5 newId) ∧ h.Ns N mN ∧ mN "__init__" = none ∧ OwnTail h bmB bm := by
  unfold PySem.W.excIn at q
  split at q
  case h_2 => exact absurd q Bool.false_ne_true
  case h_1 dd cd sl look =>
    split at q
    case h_2 => exact absurd q Bool.false_ne_true
    case h_1 C' bm k0 k1 k2 k3 n k5 hm hs =>
      rw [Bool.and_eq_true, Bool.and_eq_true, Bool.and_eq_true, Bool.and_eq_true, Bool.and_eq_true] at q
      obtain ⟨⟨⟨⟨⟨qc, qn⟩, qd⟩, qt⟩, qo⟩, qi⟩ := q
      have e1 : C' = C := beq_iff_eq.mp qc
      have e2 : n = newId := beq_iff_eq.mp qn
      have e3 : cd.hasDel = false := by simpa using qd
      have hsl : sl = #[k0, k1, k2, k3, some (.builtin n), k5] := by
        apply Array.toList_inj.mp
        exact hs
      have ho := X _ _ look
      subst e1 e2
      cases cd with
      | mk nm bs mro ns qname hdct sn sub ab col del =>
        have e3' : del = false := e3
        have e4 : mro = .ref C' :: bm := hm
        subst e3' e4
        rw [hsl] at ho
        exact ⟨bm, ns, nm, qname, bs, hdct, sn, sub, ab, col, dd, k0, k1, k2, k3, k5, _, ho, Heap.Ns.of_isNs (PySem.W.isNs_of_in X qo), PySem.W.nsMap_none_of_in X qo (beq_iff_eq.mp qi), PySem.W.tail_of_in X qt⟩
section
variable {X : Cx} {x : Str} {C : Addr} {np cpos pos : Pos} {e : Expr} {es : List Expr} {t : TA} {E : XK}
/-- raise C(e, ..), C a class of one's own without an __init__ -/
def tRaise (E : XK) (C : Addr) (t : TA) : TS := fun _ σ H => t σ H fun vs H1 => vs.length ≤ sizeLine ∧ E (.ref C) none H1
theorem ps_raise (hm : Made X E) (hc : X.calm = true) (hg : Gl X x) (hmg : X.mg x = some (.ref C)) (hC : PySem.W.excIn X.K C VB "ValueError.__new__" = true) (ha : PA X (e :: es) t)
    (hdb : (x == ("__debug__" : Str)) = false := by decide) (he : starEach (e :: es) X.env = (false, eval e X.env) :: starEach es X.env := by rfl) (hpl : (backTo cpos (starEach es X.env)).any (·.1) = false := by rfl) :
    PS X (.Raise (some (.Call (.Name x np) (e :: es) [] cpos)) none pos) (tRaise E C t) := by
  intro pins s σ H D I h
  obtain ⟨bm, N, nm, qn, bs, hd, sn, sub, ab, col, dd, k0, k1, k2, k3, k5, mN, h1, h2, h3, h4⟩ := exc_obj I.mod.kin hC
  have hall : (backTo cpos (starEach (e :: es) X.env)).any (·.1) = false := by
    rw [he]
    show (false || (backTo cpos (starEach es X.env)).any (·.1)) = false
    rw [Bool.false_or]
    exact hpl
  refine wpAny_Raise_call_subT (mN := mN) (nm := nm) (q := qn) (N := N) (bs := bs) (hdct := hd) (sn := sn) (sub := sub) (ab := ab) (col := col) (dd := dd) (k0 := k0) (k1 := k1) (k2 := k2) (k3 := k3) (k5 := k5) PySem.F.excBase_ValueError (h4.hasType PySem.F.excBase_ValueError.hasBase) (I.ok.hd hc) hall h3 (ld_glob I hg hmg ⟨rfl, ?_⟩ hdb)
  have hv := ha cpos pins s σ H _ I h
  rw [he] at hv ⊢
  refine Calls.evalArgs_plain (thn hv fun vs s2 hv2 => ?_)
  obtain ⟨ws, H2, I2, r, hz, q⟩ := hv2
  exact ⟨rfl, by rw [← r.length]; exact hz, I2.bk _ _ h1, h2.keeps I2.bk, h4.keeps I2.bk, fun h' e' hx => hm pins σ H2 s2 h' e' _ _ I2 hx q⟩
end

/-! ### texts with places in them: what stands in them is not followed -/
section
variable {X : Cx}
def PJ (X : Cx) (es : List Expr) (n : Nat) (t : St → Hp → (Hp → Prop) → Prop) : Prop :=
  ∀ (pins : List (Addr × Obj)) (s : Shared) (σ : St) (H : Hp) (acc : Str) (R : Str → Shared → Prop) (Q : Hp → Prop), Inv X pins σ H s → acc.length + n ≤ sizeLine → t σ H Q →
    (∀ out s' H', Inv X pins σ H' s' → out.length ≤ sizeLine → Q H' → R out s') → Joins (model X.prog X.w) X.A X.xe (evalEach es X.env) acc R s
def jNil : St → Hp → (Hp → Prop) → Prop := fun _ H Q => Q H
def jInt (te : TE) (t : St → Hp → (Hp → Prop) → Prop) : St → Hp → (Hp → Prop) → Prop := fun σ H Q => te σ H fun v H1 => ∃ a : Int, v = .int a ∧ a.natAbs.log2 < 1920 ∧ (Str.ofString (toString a)).length ≤ 100 ∧ t σ H1 Q
theorem pj_nil : PJ X [] 0 jNil := fun pins s σ H acc R Q I hz h k => k acc s H I (by omega) h
theorem pj_str {y : Str} {j pos} {es : List Expr} {n : Nat} {t : St → Hp → (Hp → Prop) → Prop} (h : PJ X es n t) : PJ X (.Constant (.str y) j pos :: es) (y.length + n) t := by
  intro pins s σ H acc R Q I hz hq k
  have hl : (acc ++ y).length = acc.length + y.length := strLen_append acc y
  refine Calls.Constant_str ⟨y, s.toks, rfl, by omega, ?_⟩
  exact h pins { s with toks := s.toks + 1 } σ H (acc ++ y) R Q (I.tok _) (by omega) hq k
theorem pj_int {e : Expr} {te : TE} {pos : Pos} {es : List Expr} {n : Nat} {t : St → Hp → (Hp → Prop) → Prop} (he : PE X e te) (h : PJ X es n t) : PJ X (.FormattedValue e (-1) none pos :: es) (100 + n) (jInt te t) := by
  intro pins s σ H acc R Q I hz hq k
  show wpAny _ _ (eval (.FormattedValue e (-1) none pos) X.env) _ _ s
  refine wpAny_FormattedValue_plain (thn (he pins s σ H _ I hq) fun v s1 h1 => ?_)
  obtain ⟨v', H1, I1, r, a, e1, h2, h3, h4⟩ := h1
  subst e1
  obtain ⟨tk, rfl⟩ := r
  refine wpAny_formatField_int h2 ⟨Str.ofString (toString a), s1.toks + 1, rfl, ?_, ?_⟩
  · have hl := strLen_append acc (Str.ofString (toString a))
    omega
  · have hl := strLen_append acc (Str.ofString (toString a))
    exact h pins { s1 with toks := s1.toks + 1 + 1 } σ H1 _ R Q (I1.tok _) (by omega) h4 k
def tJoin (t : St → Hp → (Hp → Prop) → Prop) : TE := fun σ H Q => t σ H fun H1 => ∀ y : Str, Q (.str y) H1
theorem pe_join {v1 v2 : Expr} {rest : List Expr} {n : Nat} {t : St → Hp → (Hp → Prop) → Prop} {pos : Pos} (h : PJ X (v1 :: v2 :: rest) n t) (hn : n ≤ sizeLine := by decide) : PE X (.JoinedStr (v1 :: v2 :: rest) pos) (tJoin t) := by
  intro pins s σ H Q I hq
  refine wpAny_JoinedStr (h pins s σ H Str.empty _ _ I (by rw [show Str.empty.length = 0 from rfl]; omega) hq fun out s' H' I' hz q => ⟨hz, ?_⟩)
  exact ⟨.str out, H', I'.tok _, ⟨_, rfl⟩, q out⟩
theorem digit_len (a : Int) (h0 : 0 ≤ a) (h1 : a < 9) : a.natAbs.log2 < 1920 ∧ (Str.ofString (toString a)).length ≤ 100 := by
  have h : a = 0 ∨ a = 1 ∨ a = 2 ∨ a = 3 ∨ a = 4 ∨ a = 5 ∨ a = 6 ∨ a = 7 ∨ a = 8 := by omega
  rcases h with rfl | rfl | rfl | rfl | rfl | rfl | rfl | rfl | rfl <;> exact ⟨by decide, by decide +kernel⟩
end

/-! ### defs that may raise -/
section
variable {P : Program} {w : World} {K : PySem.W.Frag} {mg : Str → Option Value} {base : Heap}
/-- a def by its body, exceptions and all -/
theorem Fun.okX {x qual : Str} {st : Stmt} {f : Addr} {fd : FuncData} {N ps : List Str} {k : Nat} {sp : Sp} (F : Fun K x qual st f fd) (S : FnScope N ps (defScope st)) (len : ∀ vs H Q E, sp vs H Q E → vs.length = ps.length)
    (hb : ∀ (cdv : Value) (A : Around) (outer : List Env) (s : Shared) (H : Hp) (vs : List V) (Q : VK) (E : XK), Room k (A.deeper (envOfC qual (defScope st) s.heap.objs.size f cdv)) → sp vs H Q E →
      ∃ t, PSs (cxOf (CXx P w) P w K mg base N qual (defScope st) f cdv A outer s H E) (defBody st) t ∧ t { nx := fun _ H' => Q .non H', rt := Q } (start N vs) H) : FnOk P w K mg base (CXx P w) (k + 1) f fd ps sp := by
  obtain ⟨oc, od, kV, doc, pm, an, cdv, ct, osl, rfl, lk, hcd⟩ := F.ex
  exact fn_of lk hcd S len fun A outer s H vs Q E hr hsp => hb cdv A outer s H vs Q E hr hsp
end
section
variable {X : Cx} {k : Nat} {x : Str} {ps : List Str} {sp : Sp} {p pos : Pos} {e : Expr} {es : List Expr} {t : TA} {E : XK}
/-- an exception of a callee reaches what is wanted; Z: by the names' values at the call -/
def Acc (X : Cx) (Z : St → XK) : Prop := ∀ (pins : List (Addr × Obj)) (σ : St) (H : Hp) (s : Shared) (e : Value) (s' : Shared), Inv X pins σ H s → CXx X.prog X.w X.stack H s (Z σ) e s' → X.xe e s'
end
end L2
set_option Elab.async false
set_option linter.all false
set_option maxRecDepth 100000
set_option maxHeartbeats 4000000
namespace L2
open PySem PySem.Spec PyProof.Rows

/-! ### isinstance of an exception of one's own -/
/-- what the class at D must be like -/
structure ExcK (K : PySem.W.Frag) (D : Addr) : Prop where
  ga : PySem.W.findIn K (.ref D) "__getattribute__" = some (some (.builtin "BaseException.__getattribute__"))
  hook : PySem.W.findIn K (.ref D) "__getattr__" = some none
  at_ : PySem.W.findIn K (.ref D) "__class__" = some (some (.builtin "object.__class__"))
  exc : PySem.W.mroIn K D (.type "BaseException") = some true
  obj : PySem.W.mroIn K D (.type "object") = some true
  cls : (PySem.W.clsIn K D).isSome = true
section
variable {prog : Program} {w : World} {A : Around} {E : Value → Shared → Prop} {K : PySem.W.Frag} {x D : Addr} {o : Obj}
theorem exc_type {M : Model} {h : Heap} (e : h.get? x = some o) (c : o.cls = .ref D) : PySem.W.Looks M h (typeOf (.ref x)) (.ref D) := by
  rw [← c]
  exact (PySem.W.Looks.ld e).andThen .now
end
section
variable {X : Cx}
end
end L2
set_option Elab.async false
set_option linter.all false
set_option maxRecDepth 100000
set_option maxHeartbeats 4000000
namespace L2
open PySem PySem.Spec PyProof.Rows

/-! ### try .. except -/
section
variable {M : Model} {A : Around} {E : Value → Shared → Prop} {K : PySem.W.Frag} {x C D : Addr} {s : Shared} {Q : Bool → Shared → Prop} {b : Bool} {o : Obj}
theorem exc_matches (X : K.In s.heap) (hC : PySem.W.typeIn K (.ref C) = some (.type "type")) (hcl : (PySem.W.clsIn K C).isSome = true) (hb : PySem.W.mroIn K C (.type "BaseException") = some true) (hs : PySem.W.subIn K (.ref D) (.ref C) = some b)
    (e : s.heap.get? x = some o) (c : o.cls = .ref D) (q : Q b s) : wpAny M A (excMatches (.ref x) (.ref C)) Q E s := by
  have L0 := exc_type (M := M) e c
  have L1 := PySem.W.looks_typeIn (M := M) X hC
  have L2 := PySem.W.looks_mroIn (M := M) X hb
  have L3 := PySem.W.looks_subIn (M := M) X hs
  have L4 : PySem.W.Looks M s.heap (isType (.ref C)) true := by
    unfold PySem.W.clsIn at hcl
    split at hcl
    · rename_i c' d' cd' sl' ho
      intro A' Q' E' s' k q'
      unfold isType loadHead
      exact wpAny_bind (wpAny_loadPart (k _ _ (X _ _ ho)) (wpAny_pure q'))
    · exact absurd hcl (by simp)
  have f := tc_notTuple
  obtain ⟨hh, g, dr, t, os⟩ := s
  unfold excMatches isInstance isExcClass
  repeat (first | with_reducible refine PySem.W.Looks.at (by assumption) ?_ | wp_step)
  cases b <;> (repeat (first | with_reducible refine PySem.W.Looks.at (by assumption) ?_ | wp_step)) <;> exact q
end
/-- the context of an except suite -/
abbrev Cx.under (X : Cx) (x : Addr) : Cx := { X with A := X.A.mark (some (.ref x)), calm := false, xe := fun _ _ => False }
/-- the context of a try's body -/
abbrev Cx.tried (X : Cx) (E : Value → Shared → Prop) (pn : List (Addr × Obj)) : Cx := { X with xe := E, pn := pn }
section
variable {X : Cx} {pins : List (Addr × Obj)} {σ : St} {H : Hp} {s : Shared}
theorem Cx.Ok.under (ok : X.Ok) (x : Addr) : (X.under x).Ok := ⟨ok.mod, ok.kind, ok.glob, ok.blt, ok.above, ok.inj, ok.has, ok.cab, (fun z => nomatch z), ok.frames, ok.stk, ok.exf, ok.bs, ok.bsz, ok.noex, ok.exfs, ok.funs, ok.frf⟩
theorem Inv.under (I : Inv X pins σ H s) (x : Addr) : Inv (X.under x) pins σ H s := ⟨I.ok.under x, I.os, I.bare, I.base, I.loc, I.cell, I.free, I.freeC, I.pin, I.hok, I.len⟩
theorem Inv.ununder {x : Addr} (I : Inv (X.under x) pins σ H s) (ok : X.Ok) : Inv X pins σ H s := ⟨ok, I.os, I.bare, I.base, I.loc, I.cell, I.free, I.freeC, I.pin, I.hok, I.len⟩
theorem Cx.Ok.tried (ok : X.Ok) (E : Value → Shared → Prop) (pn : List (Addr × Obj)) : (X.tried E pn).Ok := ⟨ok.mod, ok.kind, ok.glob, ok.blt, ok.above, ok.inj, ok.has, ok.cab, ok.hd, ok.frames, ok.stk, ok.exf, ok.bs, ok.bsz, ok.noex, ok.exfs, ok.funs, ok.frf⟩
theorem Inv.tried (I : Inv X pins σ H s) (E : Value → Shared → Prop) : Inv (X.tried E (X.pn ++ pins)) [] σ H s :=
  ⟨I.ok.tried E _, I.os, I.bare, I.base, I.loc, I.cell, I.free, I.freeC, fun p hp => I.pin p (by simpa using hp), I.hok, I.len⟩
theorem Inv.untried {E : Value → Shared → Prop} {pl : List (Addr × Obj)} (I : Inv (X.tried E (X.pn ++ pins)) pl σ H s) (ok : X.Ok) : Inv X pins σ H s :=
  ⟨ok, I.os, I.bare, I.base, I.loc, I.cell, I.free, I.freeC, fun p hp => I.pin p (List.mem_append_left _ hp), I.hok, I.len⟩
/-- the exception at x has come to this frame -/
def Landed (X : Cx) (pins : List (Addr × Obj)) (σ : St) (H : Hp) (x : Addr) (cls : Value) (s : Shared) : Prop := Inv X pins σ H s ∧ ∃ a0 B Hs ss, Inv X pins σ Hs ss ∧ Fly X.prog X.w X.stack Hs ss x cls a0 H B s
abbrev THd := Value → Ends → St → Hp → Prop
/-- the handlers of a try -/
def PH (X : Cx) (hs : List ExceptHandler) (t : THd) : Prop :=
  ∀ (pins : List (Addr × Obj)) (s : Shared) (σ : St) (H : Hp) (D : Ends) (x : Addr) (cls : Value), Landed X pins σ H x cls s → t cls D σ H → wpAny (model X.prog X.w) X.A (handleBy (.ref x) X.env hs) (SP X pins D) X.xe s
def hNone : THd := fun _ _ _ _ => False
theorem ph_nil : PH X [] hNone := fun _ _ _ _ _ _ _ _ h => h.elim
/-- the class of a handler -/
structure HdK (K : PySem.W.Frag) (C : Addr) : Prop where
  ty : PySem.W.typeIn K (.ref C) = some (.type "type")
  cls : (PySem.W.clsIn K C).isSome = true
  exc : PySem.W.mroIn K C (.type "BaseException") = some true
def hBare (K : PySem.W.Frag) (C : Addr) (th : TS) (rest : THd) : THd := fun cls D σ H => ∃ (G : Addr) (b : Bool), cls = .ref G ∧ PySem.W.subIn K (.ref G) (.ref C) = some b ∧
  if b = true then th D σ H else rest cls D σ H
theorem Landed.again {x : Addr} {cls : Value} {Q : Unit → Shared → Prop} {A : Around} {E : Value → Shared → Prop} {M : Model} (L : Landed X pins σ H x cls s) (h : ∀ s', Landed X pins σ H x cls s' → Q () s') : wpAny M A (setFlight (.ref x) none) Q E s := by
  obtain ⟨I, a0, B, Hs, ss, Is, F⟩ := L
  refine lands_againW F.fly fun h6 fl up => h _ ?_
  have F6 := F.move (t := s.toks) fl up
  exact ⟨Is.call' F6.os F6.un F6.hok' F6.bare (fun b z => nomatch z), a0, B, Hs, ss, Is, F6⟩
end
end L2
set_option Elab.async false
set_option linter.all false
set_option maxRecDepth 100000
set_option maxHeartbeats 4000000
namespace L2
open PySem PySem.Spec PyProof.Rows
section
variable {X : Cx} {c n : Str} {C : Addr} {i : Nat} {np pos : Pos} {b₀ : Stmt} {suite : List Stmt} {rest : List ExceptHandler} {th : TS} {tr : THd}
theorem SP.ununder {x : Addr} {pins : List (Addr × Obj)} {D : Ends} {f : Flow} {s : Shared} (h : SP (X.under x) pins D f s) (ok : X.Ok) : SP X pins D f s := by
  cases f with
  | next => obtain ⟨σ, H, I, q⟩ := h; exact ⟨σ, H, I.ununder ok, q⟩
  | brk => obtain ⟨σ, H, I, q⟩ := h; exact ⟨σ, H, I.ununder ok, q⟩
  | cont => obtain ⟨σ, H, I, q⟩ := h; exact ⟨σ, H, I.ununder ok, q⟩
  | ret u => obtain ⟨v, σ, H, I, r, q⟩ := h; exact ⟨v, σ, H, I.ununder ok, r, q⟩
/-- except C: .. -/
theorem ph_bare (hg : Gl X c) (hm : X.mg c = some (.ref C)) (k : HdK X.K C) (hb : ∀ x, PSs (X.under x) (b₀ :: suite) th) (hr : PH X rest tr)
    (hd : (c == ("__debug__" : Str)) = false := by decide) : PH X (.ExceptHandler (some (.Name c np)) none (b₀ :: suite) pos :: rest) (hBare X.K C th tr) := by
  intro pins s σ H D x cls L h
  obtain ⟨G, b, rfl, hs, h⟩ := h
  obtain ⟨I, a0, B, Hs, ss, Is, F⟩ := id L
  obtain ⟨ob, hob, hoc⟩ := F.fly.there
  refine wpAny_handleBy_cons (codeAny_handlers_test (ld_glob (X := X.under x) (I.under x) hg hm ?_ hd)) (fun q => nomatch q)
  refine exc_matches I.kIn k.ty k.cls k.exc hs hob hoc ?_
  cases b with
  | false => exact hr pins s σ H D x _ L h
  | true =>
    refine codeAny_handlers_suite (L.again fun s6 L6 => ?_)
    exact wpAny_mono (hb x pins s6 _ _ _ (L6.1.under x) h) (fun f s9 q => SP.ununder q I.ok) (fun _ _ z => z.elim)

/-- try: body, without else and finally; Z: what is wanted of an exception of the body, by the names' values at its call -/
def tTry (tb : (St → XK) → TS) (th : THd) : TS := fun D σ H => tb (fun σ' cls _ H' => th cls D σ' H') D σ H
theorem ps_try {body : List Stmt} {h₀ : ExceptHandler} {hs : List ExceptHandler} {tb : (St → XK) → TS} {th : THd} (hst : X.stack = X.env :: X.outer) (hfr : X.env.frame = some X.env.locals)
    (hb : ∀ (Z : St → XK) (E : Value → Shared → Prop) (pn : List (Addr × Obj)), Acc (X.tried E pn) Z → PSs (X.tried E pn) body (tb Z)) (hh : PH X (h₀ :: hs) th) : PS X (.Try body (h₀ :: hs) [] [] pos) (tTry tb th) := by
  intro pins s σ H D I h
  have sp : ∀ {E : Value → Shared → Prop} {f : Flow} {s1 : Shared}, SP (X.tried E (X.pn ++ pins)) [] D f s1 → SP X pins D f s1 := fun {E f s1} q => by
    cases f with
    | next => obtain ⟨σ, H, J, q⟩ := q; exact ⟨σ, H, J.untried I.ok, q⟩
    | brk => obtain ⟨σ, H, J, q⟩ := q; exact ⟨σ, H, J.untried I.ok, q⟩
    | cont => obtain ⟨σ, H, J, q⟩ := q; exact ⟨σ, H, J.untried I.ok, q⟩
    | ret u => obtain ⟨v, σ, H, J, r, q⟩ := q; exact ⟨v, σ, H, J.untried I.ok, r, q⟩
  refine wpAny_Try_except (wpAny_mono (hb (fun σ' cls _ H' => th cls D σ' H') _ (X.pn ++ pins) ?_ [] s σ H D (I.tried _) h) (fun f s1 q => ?_) fun _ _ z => z)
  · intro pl σ2 H2 s2 e s3 J hx
    obtain ⟨x, cls, a0, H', B, rfl, F, q⟩ := hx
    have J2 := J.untried I.ok
    have F' : Fly X.prog X.w (X.env :: X.outer) H2 s2 x cls a0 H' B s3 := by rw [← hst]; exact F
    have fr : X.A.frames = some (X.env :: X.outer) := by rw [← hst]; exact I.ok.frames
    show wpAny _ _ (noteFrame (.ref x) X.env) _ _ _
    refine wpAny_looks_onW fr hfr F'.fly fun h4 held up4 => ?_
    refine wpAny_landsW held fun h5 fl up5 => ?_
    have F5 : Fly X.prog X.w X.stack H2 s2 x cls a0 H' B { s3 with heap := h5 } := by
      rw [hst]
      exact F'.move (t := s3.toks) fl (up4.trans up5)
    exact hh pins _ σ2 H' D x cls ⟨J2.call' F5.os F5.un F5.hok' F5.bare (fun b z => nomatch z), a0, B, H2, s2, J2, F5⟩ q
  · have q' := sp q
    cases f with
    | next => exact wpAny_execs_nil q'
    | brk => exact q'
    | cont => exact q'
    | ret u => exact q'
end
end L2
set_option Elab.async false
set_option linter.all false
set_option maxRecDepth 100000
set_option maxHeartbeats 4000000
namespace L2
open PySem PySem.Spec PyProof.Rows
theorem cls_of_dict {K : PySem.W.Frag} {D : Addr} (h : PySem.W.hasDictIn K D = true) : (PySem.W.clsIn K D).isSome = true := by
  unfold PySem.W.hasDictIn at h
  cases q : PySem.W.clsIn K D with
  | none => rw [q] at h; exact absurd h (by simp)
  | some z => rfl
section
variable {X : Cx} {K : PySem.W.Frag}
end
/-! ### sum of a list of ints -/
section
variable {X : Cx}
end
/-! ### a comprehension over a list -/
theorem comp_list {K : PySem.W.Frag} {a : Addr} {xs : List V} {fr : List Nat} {te : TE} {σ : St} {H : Hp} {Q : VK} (Pv : Nat → List V → Hp → Prop) (hn : xs.length ≤ sizeLine) (h0 : Pv 0 [] H) (hlen : ∀ i acc H, Pv i acc H → acc.length = i) (hl : ∀ i acc H, Pv i acc H → SqL K H a xs)
    (hs : ∀ i acc H x, xs[i]? = some x → Pv i acc H → ∀ R : VK, (∀ y H1, Pv (i + 1) (acc ++ [y]) H1 → R y H1) → te ((compSt σ fr).set 0 (some x)) H R)
    (hd : ∀ acc H, Pv xs.length acc H → ∀ p, H p = none → Q (.ref p) (upd H p (.lst acc))) : CompGo fr tYes te σ Q (Itl K a) H := by
  refine ⟨fun i m acc H => m = xs.length - i ∧ i ≤ xs.length ∧ Pv i acc H, ⟨xs.length, by simp, Nat.zero_le _, h0⟩, ?_⟩
  rintro i m acc H ⟨rfl, hi, p⟩
  have ha := hlen i acc H p
  have q := hl i acc H p
  by_cases hlt : i < xs.length
  · refine .inr ⟨⟨xs, xs[i], q, by simp [hlt]⟩, by omega, fun x H' y => ?_⟩
    obtain ⟨e, y⟩ := y
    subst e
    unfold tYes
    refine iteT ?_
    exact hs i acc _ x (y xs q) p _ fun y H1 q => ⟨xs.length - (i + 1), by omega, rfl, hlt, q⟩
  · have e : i = xs.length := by omega
    subst e
    exact .inl ⟨⟨xs, q, Nat.le_refl _⟩, by omega, hd acc H p⟩
end L2
set_option Elab.async false
set_option linter.all false
set_option maxRecDepth 100000
set_option maxHeartbeats 4000000
namespace L2
open PySem PySem.Spec PyProof.Rows
section
variable {X : Cx} {K : PySem.W.Frag}
theorem bools_at {bs : List Bool} {us : List Value} (r : Vals (bs.map V.bl) us) {i : Nat} {v : Value} (h : us.toArray[i]? = some v) : v = .bool (bs.getD i true) := by
  have h' : us[i]? = some v := by simpa using h
  have hl := r.length
  have hi : i < bs.length := by
    have := (List.getElem?_eq_some_iff.mp h').1
    rw [List.length_map] at hl; omega
  obtain ⟨u, e, q⟩ := r.get (i := i) (x := .bl (bs.getD i true)) (by rw [List.getElem?_map, List.getElem?_eq_getElem hi, List.getD_eq_getElem?_getD, List.getElem?_eq_getElem hi]; rfl)
  rw [h'] at e
  cases e
  cases q
  rfl
theorem call_list_ofK (h : X.K = K) : CallR X (.type "list") (fun xs H Q => ∃ p ys, xs = [.ref p] ∧ (SqL K H p ys ∨ SqT K H p ys) ∧ ∀ l, H l = none → Q (.ref l) (upd H l (.lst ys))) := h ▸ call_list_of
end
/-! ### a comprehension over a list, with a test -/
theorem comp_listF {K : PySem.W.Frag} {a : Addr} {xs : List V} {fr : List Nat} {tt : TT} {te : TE} {σ : St} {H : Hp} {Q : VK} (Pv : Nat → List V → Hp → Prop) (hn : xs.length ≤ sizeLine) (h0 : Pv 0 [] H) (hlen : ∀ i acc H, Pv i acc H → acc.length ≤ i) (hl : ∀ i acc H, Pv i acc H → SqL K H a xs)
    (hs : ∀ i acc H x, xs[i]? = some x → Pv i acc H → ∀ (R : VK) (Z : Hp → Prop), (∀ y H1, Pv (i + 1) (acc ++ [y]) H1 → R y H1) → (∀ H1, Pv (i + 1) acc H1 → Z H1) → tt ((compSt σ fr).set 0 (some x)) H fun b H2 => if b = true then te ((compSt σ fr).set 0 (some x)) H2 R else Z H2)
    (hd : ∀ acc H, Pv xs.length acc H → ∀ p, H p = none → Q (.ref p) (upd H p (.lst acc))) : CompGo fr tt te σ Q (Itl K a) H := by
  refine ⟨fun i m acc H => m = xs.length - i ∧ i ≤ xs.length ∧ Pv i acc H, ⟨xs.length, by simp, Nat.zero_le _, h0⟩, ?_⟩
  rintro i m acc H ⟨rfl, hi, p⟩
  have ha := hlen i acc H p
  have q := hl i acc H p
  by_cases hlt : i < xs.length
  · refine .inr ⟨⟨xs, xs[i], q, by simp [hlt]⟩, by omega, fun x H' y => ?_⟩
    obtain ⟨e, y⟩ := y
    subst e
    exact hs i acc _ x (y xs q) p _ _ (fun y H1 q => ⟨xs.length - (i + 1), by omega, rfl, hlt, q⟩) fun H1 q => ⟨xs.length - (i + 1), by omega, rfl, hlt, q⟩
  · have e : i = xs.length := by omega
    subst e
    exact .inl ⟨⟨xs, q, Nat.le_refl _⟩, by omega, hd acc H p⟩
end L2
set_option Elab.async false
set_option linter.all false
set_option maxRecDepth 100000
set_option maxHeartbeats 4000000
namespace L2
open PySem PySem.Spec PyProof.Rows
section
variable {X : Cx}
end
end L2
set_option Elab.async false
set_option linter.all false
set_option maxRecDepth 100000
set_option maxHeartbeats 4000000
namespace L2
open PySem PySem.Spec PyProof.Rows
section
variable {X : Cx} {K : PySem.W.Frag}
end
end L2
set_option Elab.async false
set_option linter.all false
set_option maxRecDepth 100000
set_option maxHeartbeats 4000000
namespace L2
open PySem PySem.Spec PyProof.Rows
section
variable {X : Cx}
end
end L2
set_option Elab.async false
set_option linter.all false
set_option maxRecDepth 100000
set_option maxHeartbeats 4000000
namespace L2
open PySem PySem.Spec PyProof.Rows
/-! ### min and max of a list with a default -/
/-- what the walk holds behind j items -/
def HeldB (P : Nat → Value → Prop) (bt : Nat → Nat → Bool) (j : Nat) (ar : Array Value) : Prop := (j = 0 ∧ ar = #[]) ∨ ∃ vb, 0 < j ∧ ar = #[vb, vb] ∧ P (argBest bt (j - 1)) vb
/-- a built-in function is called with names -/
def CallRK (X : Cx) (f : Value) (ks : List Str) (r : List V → List V → Hp → VK → Prop) : Prop := ∀ (pins : List (Addr × Obj)) (s : Shared) (σ : St) (H : Hp) (xs : List V) (us : List Value) (zs : List V) (ws : List Value) (Q : VK), Inv X pins σ H s → Vals xs us → Vals zs ws → r xs zs H Q → wpAny (model X.prog X.w) X.A (call f us (ks.zip ws)) (EP X pins σ Q) X.xe s
section
variable {prog : Program} {w : World} {A : Around} {E : Value → Shared → Prop} {s : Shared}
theorem call_kw_tree {id : String} {b : Builtin} {args : List Value} {kw : List (Str × Value)} {Q : Value → Shared → Prop} (hk : builtinKind id = none) (hp : plainId id = true) (hb : entryFor table id = some b) (ha : argsOk id ⟨args, kw⟩)
    (hc : wpAny (model prog w) A.in1 (b ⟨args, kw⟩) (fun fin s' => match fin with | .done f => (match (Except.ok f : Result) with | .ok (.ret v) => Q v s' | .ok _ => False | .error e => E e s') | .again c' => c'.quiet = true ∧ codeAny (model prog w) A c' (fun r s' => match r with | .ok (.ret v) => Q v s' | .ok _ => False | .error e => E e s') s') E s) :
    wpAny (model prog w) A (call (.builtin id) args kw) Q E s := by
  refine wpAny_call (codeAny_call_builtin hp hb ?_)
  simp only [checkBuiltinCall, hk]
  cases hg : Manifest.signature? id with
  | none => exact wpAny_pure hc
  | some sg =>
    have h2 : Bind.checkArgs id sg ⟨args, kw⟩ = pure () := by simpa only [argsOk, hg] using ha
    simp only [h2]
    exact wpAny_pure hc
end
section
variable {X : Cx} {id : String} {x : Str} {p pos : Pos} {e : Expr} {es : List Expr} {kws : List Keyword} {t tk : TA} {r : List V → List V → Hp → VK → Prop} {ks : List Str}
def tCBK (r : List V → List V → Hp → VK → Prop) (t tk : TA) : TE := fun σ H Q => t σ H fun vs H1 => tk σ H1 fun zs H2 => r vs zs H2 Q
/-- f(e, .., k = v), f a built-in function -/
theorem pe_callBK (hc : CallRK X (.builtin id) ks r) (hg : Gl X x) (hm : X.mg x = none) (hv : bootBuiltins x = some (.builtin id)) (ha : PA X (e :: es) t) (hkw : PK X kws tk) (hn : x ≠ "__name__" := by decide) (hdb : (x == ("__debug__" : Str)) = false := by decide)
    (hks : (backToKw pos (keywordEach kws X.env)).filterMap (·.1) = ks := by rfl) (he : backTo pos (starEach (e :: es) X.env) = (false, eval e X.env) :: backTo pos (starEach es X.env) := by rfl) (hpl : (backTo pos (starEach (e :: es) X.env)).any (·.1) = false := by rfl)
    (hall : (backToKw pos (keywordEach kws X.env)).all (·.1.isSome) = true := by rfl) (hno : (backToKw pos (keywordEach kws X.env)).any (·.1.isNone) = false := by rfl) : PE X (.Call (.Name x p) (e :: es) kws pos) (tCBK r t tk) := by
  intro pins s σ H Q I h
  refine wpAny_Call_Name_kw (ld_blt I hg hm hv ?_ hn hdb)
  refine PyProof.Rows.callWith_kw (thn (ha pos pins s σ H _ I h) fun us s1 ⟨vs, H1, I1, r1, q1⟩ => thn (hkw pos pins s1 σ H1 _ I1 q1) fun ws s2 ⟨zs, H2, I2, r2, q2⟩ => ?_) he hpl hall hno
  rw [hks]
  exact hc pins s2 σ H2 vs us zs ws Q I2 r1 r2 q2
end

theorem argsD_max (a d : Value) : argsOk "max" ⟨[a], [("default", d)]⟩ := by unfold argsOk; kernel_rfl
theorem bindD_max (d : Value) : Builtin.Builtins.bindParams "max" ["key", "default"] 0 ⟨[], [("default", d)]⟩ = pure [none, some d] := rfl
section
variable {prog : Program} {w : World} {A : Around} {R : Result → Shared → Prop} {J Z : Addr} {fp wr : List Addr} {n : Nat} {P : Nat → Value → Prop} {St : Nat → Heap → Prop}
theorem loopD_max (W : Walks prog w A.in1 J fp wr n P St) (bt : Nat → Nat → Bool) (hcmp : CmpOf prog w A.in1 .Gt P bt) (hZ : Z ∉ fp) (d : Value) :
    ∀ (k j : Nat) (s : Shared) (ar : Array Value) (c : Nat), n - j = k → j ≤ n → St j s.heap → HeldB P bt j ar → s.heap.get? Z = some ⟨.type "list", none, .seq ar c, #[]⟩ →
      (∀ v h' tk, (n = 0 ∧ v = d ∨ 0 < n ∧ P (argBest bt (n - 1)) v) → (∀ b o, b ∉ wr → b ≠ Z → s.heap.get? b = some o → h'.get? b = some o) → R (.ok (.ret v)) { s with heap := h', toks := tk }) →
      codeAny (model prog w) A (.builtin "max.loop" ⟨[.ref J, .none, .ref Z], [("default", d)]⟩) R s := by
  have hw : Z ∉ wr := fun h => hZ (W.sub _ h)
  have nm : (toString "max" ++ toString ".loop" : String) = "max.loop" := by decide
  intro k
  induction k with
  | zero =>
    intro j s ar c hk hj hst hb hz hR
    have e : j = n := by omega
    subst e
    refine codeAny_builtin PySem.F.entry_max_loop ?_
    rw [Around.under_plainId PySem.F.plain_max_loop _]
    show wpAny _ A.in1 (seqItems? (.ref Z) >>= _) _ _ s
    refine wpAny_bind (wpAny_seqItems hz rfl ?_)
    show wpAny _ A.in1 (tryCatch (pyNext (.ref J)) _ >>= _) _ _ s
    refine wpAny_bind (wpAny_tryCatch (W.done s _ _ hst fun h' tk hk' => ?_))
    have hz' := hk' Z _ hw hz
    rcases hb with ⟨j0, rfl⟩ | ⟨vb, j0, rfl, hP⟩
    · show wpAny _ A.in1 (rule _ >>= _) _ _ _
      refine wpAny_bind (wpAny_rule (wpAny_pure ?_))
      exact hR d h' tk (.inl ⟨j0, rfl⟩) fun b o h1 _ e => hk' b o h1 e
    · show wpAny _ A.in1 (updateSeq Z (fun _ => #[]) >>= _) _ _ _
      refine wpAny_bind (wpAny_updateSeq hz' rfl (wpAny_bind (wpAny_letGo (wpAny_pure ?_))))
      exact hR vb _ tk (.inr ⟨j0, hP⟩) fun b o h1 h2 e => (Heap.get?_update_other _ _ (Ne.symm h2)).trans (hk' b o h1 e)
  | succ k ih =>
    intro j s ar c hk hj hst hb hz hR
    have hlt : j < n := by omega
    refine codeAny_builtin PySem.F.entry_max_loop ?_
    rw [Around.under_plainId PySem.F.plain_max_loop _]
    show wpAny _ A.in1 (seqItems? (.ref Z) >>= _) _ _ s
    refine wpAny_bind (wpAny_seqItems hz rfl ?_)
    show wpAny _ A.in1 (tryCatch (pyNext (.ref J)) _ >>= _) _ _ s
    refine wpAny_bind (wpAny_tryCatch (W.item j s _ _ hlt hst fun v h' tk hP hst' hk' => ?_))
    have hz' := hk' Z _ hw hz
    have fr : ∀ (f : Obj → Obj), St (j + 1) (h'.update Z f) := fun f => W.frame _ _ _ hst' fun b hbf o e => (Heap.get?_update_other _ _ (fun h : Z = b => hZ (by rw [h]; exact hbf))).trans e
    rcases hb with ⟨j0, rfl⟩ | ⟨vb, j0, rfl, hPb⟩
    · show wpAny _ A.in1 (updateSeq Z (fun _ => #[v, v]) >>= _) _ _ _
      refine wpAny_bind (wpAny_updateSeq hz' rfl ?_)
      rw [nm]
      refine wpAny_pure ⟨plainId_quiet PySem.F.plain_max_loop _, ih (j + 1) _ #[v, v] _ (by omega) hlt (fr _) (.inr ⟨v, by omega, rfl, ?_⟩) (Heap.get?_update_self _ hz' rfl) fun v' h2 tk2 hP' hk2 => ?_⟩
      · subst j0; exact hP
      · exact hR v' h2 tk2 hP' fun b o h1 h2 e => hk2 b o h1 h2 ((Heap.get?_update_other _ _ (Ne.symm h2)).trans (hk' b o h1 e))
    · have ej : argBest bt (j + 1 - 1) = if bt j (argBest bt (j - 1)) then j else argBest bt (j - 1) := by
        obtain ⟨i, rfl⟩ : ∃ i, j = i + 1 := ⟨j - 1, by omega⟩
        rfl
      show wpAny _ A.in1 (tryCatch (holding [v, v] (richCompare .Gt v vb >>= _)) _ >>= _) _ _ _
      refine wpAny_bind (wpAny_tryCatch (wpAny_holding (wpAny_bind (hcmp j (argBest bt (j - 1)) v vb _ _ _ hP hPb ?_))))
      refine wpAny_bind (wpAny_holding (wpAny_truthy_bool ?_))
      refine wpAny_bind (wpAny_letGo (wpAny_pure ?_))
      cases hbt : bt j (argBest bt (j - 1)) with
      | true =>
        simp only [if_true]
        refine wpAny_bind (wpAny_updateSeq hz' rfl (wpAny_bind (wpAny_letGo ?_)))
        rw [nm]
        refine wpAny_pure ⟨plainId_quiet PySem.F.plain_max_loop _, ih (j + 1) _ #[v, v] _ (by omega) hlt (fr _) (.inr ⟨v, by omega, rfl, ?_⟩) (Heap.get?_update_self _ hz' rfl) fun v' h2 tk2 hP' hk2 => ?_⟩
        · rw [ej, hbt]; exact hP
        · exact hR v' h2 tk2 hP' fun b o h1 h2 e => hk2 b o h1 h2 ((Heap.get?_update_other _ _ (Ne.symm h2)).trans (hk' b o h1 e))
      | false =>
        simp only [Bool.false_eq_true, if_false]
        refine wpAny_bind (wpAny_letGo ?_)
        rw [nm]
        refine wpAny_pure ⟨plainId_quiet PySem.F.plain_max_loop _, ih (j + 1) _ #[vb, vb] c (by omega) hlt hst' (.inr ⟨vb, by omega, rfl, ?_⟩) hz' fun v' h2 tk2 hP' hk2 => ?_⟩
        · rw [ej, hbt]; exact hPb
        · exact hR v' h2 tk2 hP' fun b o h1 h2 e => hk2 b o h1 h2 (hk' b o h1 e)
end
section
variable {prog : Program} {w : World} {A : Around} {E : Value → Shared → Prop} {s : Shared}
theorem walkD_max {x d : Value} {Q : Value → Shared → Prop}
    (h : wpAny (model prog w) A.in1 (pyIter x) (fun it s₂ => ∃ J fp wr n P St bt, it = .ref J ∧ Walks prog w A.in1 J fp wr n P St ∧ St 0 s₂.heap ∧ (∀ b ∈ fp, b < s₂.heap.objs.size) ∧ CmpOf prog w A.in1 .Gt P bt ∧
      ∀ v h' tk, (n = 0 ∧ v = d ∨ 0 < n ∧ P (argBest bt (n - 1)) v) → (∀ b o, b ∉ wr → s₂.heap.get? b = some o → h'.get? b = some o) → Q v { s₂ with heap := h', toks := tk }) E s) :
    wpAny (model prog w) A (call (.builtin "max") [x] [("default", d)]) Q E s := by
  have nm : (toString "max" ++ toString ".loop" : String) = "max.loop" := by decide
  refine call_kw_tree PySem.F.kind_max PySem.F.plain_max PySem.F.entry_max (argsD_max _ _) ?_
  show wpAny _ A.in1 (Builtin.Builtins.bindParams "max" ["key", "default"] 0 ⟨[], [("default", d)]⟩ >>= _) _ _ s
  refine wpAny_bind (wpAny_of_eq (bindD_max d) ?_)
  refine wpAny_bind (wpAny_pure ?_)
  refine wpAny_bind (wpAny_mono h (fun it s₂ h₂ => ?_) fun _ _ e => e)
  obtain ⟨J, fp, wr, n, P, St, bt, rfl, W, hst, hfp, hcmp, hQ⟩ := h₂
  refine wpAny_bind (wpAny_newObj_type ?_)
  have hZ : s₂.heap.objs.size ∉ fp := fun hm => Nat.lt_irrefl _ (hfp _ hm)
  rw [nm]
  refine wpAny_pure ⟨plainId_quiet PySem.F.plain_max_loop _, loopD_max W bt hcmp hZ d n 0 _ #[] _ rfl (Nat.zero_le _) (W.frame _ _ _ hst fun b _ o e => Heap.get?_push_of_some _ e) (.inl ⟨rfl, rfl⟩) (Heap.get?_push_size _ rfl) fun v h' tk hP hk => ?_⟩
  exact hQ v h' tk hP fun b o hbw e => hk b o hbw (Nat.ne_of_lt (Heap.lt_size e)) (Heap.get?_push_of_some _ e)
end
def maxO (ns : List Int) : Option Int := if ns.length = 0 then none else some (ns.getD (greatestAt ns) 0)
section
variable {X : Cx}
theorem call_maxD (hc : X.calm = true) : CallRK X (.builtin "max") ["default"] (fun xs zs H Q => ∃ (p : Addr) (ns : List Int), xs = [.ref p] ∧ zs = [.non] ∧ SqL X.K H p (ns.map V.int) ∧ Q (ov (maxO ns)) H) := by
  intro pins s σ H xs us zs ws Q I r rz h
  obtain ⟨p, ns, rfl, rfl, hq, q⟩ := h
  obtain ⟨u, rfl, ru⟩ := r.one
  cases ru
  obtain ⟨u, rfl, ru⟩ := rz.one
  cases ru
  obtain ⟨its, rv, pl, _⟩ := I.list hq
  have hl := rv.length
  have T : s.heap.IsList p its.toArray := pl.isList
  have lt : p < s.heap.objs.size := by obtain ⟨o, e, _⟩ := T; exact Heap.lt_size e
  have hsz : its.toArray.size = ns.length := by rw [List.size_toArray, ← hl, List.length_map]
  refine walkD_max (wpAny_pyIter_list T ⟨_, _, _, _, _, _, _, rfl, Walks.list (show X.A.in1.handled = none from I.ok.hd hc) s.heap.objs.size p (Nat.ne_of_lt lt) its.toArray, ⟨⟨_, Heap.get?_push_size _ rfl, rfl, rfl⟩, T.push _⟩, fun b hb => ?_,
    CmpOf.ints_gt (fun i => ns.getD i 0) (fun i v e => vals_at rv e), fun v h' tk hP hk => ?_⟩)
  · simp only [List.mem_cons, List.not_mem_nil, or_false] at hb
    rw [Heap.size_push]
    rcases hb with e | e
    · rw [e]; exact Nat.lt_succ_self _
    · rw [e]; exact Nat.lt_succ_of_lt lt
  · have kp : Inv X pins σ H { s with heap := h', toks := tk } := I.kept fun b o e => hk b o (fun hm => by
      simp only [List.mem_cons, List.not_mem_nil, or_false] at hm
      exact absurd (Heap.lt_size e) (by rw [hm]; exact Nat.lt_irrefl _)) (Heap.get?_push_of_some _ e)
    rw [hsz] at hP
    rcases hP with ⟨h0, rfl⟩ | ⟨h0, hP⟩
    · rw [show maxO ns = none from if_pos h0] at q
      exact ⟨.non, H, kp, rfl, q⟩
    · obtain ⟨t, rfl⟩ := vals_at rv hP
      rw [show maxO ns = some (ns.getD (greatestAt ns) 0) from if_neg (by omega)] at q
      exact ⟨.int _, H, kp, ⟨t, rfl⟩, q⟩
end

theorem argsD_min (a d : Value) : argsOk "min" ⟨[a], [("default", d)]⟩ := by unfold argsOk; kernel_rfl
theorem bindD_min (d : Value) : Builtin.Builtins.bindParams "min" ["key", "default"] 0 ⟨[], [("default", d)]⟩ = pure [none, some d] := rfl
section
variable {prog : Program} {w : World} {A : Around} {R : Result → Shared → Prop} {J Z : Addr} {fp wr : List Addr} {n : Nat} {P : Nat → Value → Prop} {St : Nat → Heap → Prop}
theorem loopD_min (W : Walks prog w A.in1 J fp wr n P St) (bt : Nat → Nat → Bool) (hcmp : CmpOf prog w A.in1 .Lt P bt) (hZ : Z ∉ fp) (d : Value) :
    ∀ (k j : Nat) (s : Shared) (ar : Array Value) (c : Nat), n - j = k → j ≤ n → St j s.heap → HeldB P bt j ar → s.heap.get? Z = some ⟨.type "list", none, .seq ar c, #[]⟩ →
      (∀ v h' tk, (n = 0 ∧ v = d ∨ 0 < n ∧ P (argBest bt (n - 1)) v) → (∀ b o, b ∉ wr → b ≠ Z → s.heap.get? b = some o → h'.get? b = some o) → R (.ok (.ret v)) { s with heap := h', toks := tk }) →
      codeAny (model prog w) A (.builtin "min.loop" ⟨[.ref J, .none, .ref Z], [("default", d)]⟩) R s := by
  have hw : Z ∉ wr := fun h => hZ (W.sub _ h)
  have nm : (toString "min" ++ toString ".loop" : String) = "min.loop" := by decide
  intro k
  induction k with
  | zero =>
    intro j s ar c hk hj hst hb hz hR
    have e : j = n := by omega
    subst e
    refine codeAny_builtin PySem.F.entry_min_loop ?_
    rw [Around.under_plainId PySem.F.plain_min_loop _]
    show wpAny _ A.in1 (seqItems? (.ref Z) >>= _) _ _ s
    refine wpAny_bind (wpAny_seqItems hz rfl ?_)
    show wpAny _ A.in1 (tryCatch (pyNext (.ref J)) _ >>= _) _ _ s
    refine wpAny_bind (wpAny_tryCatch (W.done s _ _ hst fun h' tk hk' => ?_))
    have hz' := hk' Z _ hw hz
    rcases hb with ⟨j0, rfl⟩ | ⟨vb, j0, rfl, hP⟩
    · show wpAny _ A.in1 (rule _ >>= _) _ _ _
      refine wpAny_bind (wpAny_rule (wpAny_pure ?_))
      exact hR d h' tk (.inl ⟨j0, rfl⟩) fun b o h1 _ e => hk' b o h1 e
    · show wpAny _ A.in1 (updateSeq Z (fun _ => #[]) >>= _) _ _ _
      refine wpAny_bind (wpAny_updateSeq hz' rfl (wpAny_bind (wpAny_letGo (wpAny_pure ?_))))
      exact hR vb _ tk (.inr ⟨j0, hP⟩) fun b o h1 h2 e => (Heap.get?_update_other _ _ (Ne.symm h2)).trans (hk' b o h1 e)
  | succ k ih =>
    intro j s ar c hk hj hst hb hz hR
    have hlt : j < n := by omega
    refine codeAny_builtin PySem.F.entry_min_loop ?_
    rw [Around.under_plainId PySem.F.plain_min_loop _]
    show wpAny _ A.in1 (seqItems? (.ref Z) >>= _) _ _ s
    refine wpAny_bind (wpAny_seqItems hz rfl ?_)
    show wpAny _ A.in1 (tryCatch (pyNext (.ref J)) _ >>= _) _ _ s
    refine wpAny_bind (wpAny_tryCatch (W.item j s _ _ hlt hst fun v h' tk hP hst' hk' => ?_))
    have hz' := hk' Z _ hw hz
    have fr : ∀ (f : Obj → Obj), St (j + 1) (h'.update Z f) := fun f => W.frame _ _ _ hst' fun b hbf o e => (Heap.get?_update_other _ _ (fun h : Z = b => hZ (by rw [h]; exact hbf))).trans e
    rcases hb with ⟨j0, rfl⟩ | ⟨vb, j0, rfl, hPb⟩
    · show wpAny _ A.in1 (updateSeq Z (fun _ => #[v, v]) >>= _) _ _ _
      refine wpAny_bind (wpAny_updateSeq hz' rfl ?_)
      rw [nm]
      refine wpAny_pure ⟨plainId_quiet PySem.F.plain_min_loop _, ih (j + 1) _ #[v, v] _ (by omega) hlt (fr _) (.inr ⟨v, by omega, rfl, ?_⟩) (Heap.get?_update_self _ hz' rfl) fun v' h2 tk2 hP' hk2 => ?_⟩
      · subst j0; exact hP
      · exact hR v' h2 tk2 hP' fun b o h1 h2 e => hk2 b o h1 h2 ((Heap.get?_update_other _ _ (Ne.symm h2)).trans (hk' b o h1 e))
    · have ej : argBest bt (j + 1 - 1) = if bt j (argBest bt (j - 1)) then j else argBest bt (j - 1) := by
        obtain ⟨i, rfl⟩ : ∃ i, j = i + 1 := ⟨j - 1, by omega⟩
        rfl
      show wpAny _ A.in1 (tryCatch (holding [v, v] (richCompare .Lt v vb >>= _)) _ >>= _) _ _ _
      refine wpAny_bind (wpAny_tryCatch (wpAny_holding (wpAny_bind (hcmp j (argBest bt (j - 1)) v vb _ _ _ hP hPb ?_))))
      refine wpAny_bind (wpAny_holding (wpAny_truthy_bool ?_))
      refine wpAny_bind (wpAny_letGo (wpAny_pure ?_))
      cases hbt : bt j (argBest bt (j - 1)) with
      | true =>
        simp only [if_true]
        refine wpAny_bind (wpAny_updateSeq hz' rfl (wpAny_bind (wpAny_letGo ?_)))
        rw [nm]
        refine wpAny_pure ⟨plainId_quiet PySem.F.plain_min_loop _, ih (j + 1) _ #[v, v] _ (by omega) hlt (fr _) (.inr ⟨v, by omega, rfl, ?_⟩) (Heap.get?_update_self _ hz' rfl) fun v' h2 tk2 hP' hk2 => ?_⟩
        · rw [ej, hbt]; exact hP
        · exact hR v' h2 tk2 hP' fun b o h1 h2 e => hk2 b o h1 h2 ((Heap.get?_update_other _ _ (Ne.symm h2)).trans (hk' b o h1 e))
      | false =>
        simp only [Bool.false_eq_true, if_false]
        refine wpAny_bind (wpAny_letGo ?_)
        rw [nm]
        refine wpAny_pure ⟨plainId_quiet PySem.F.plain_min_loop _, ih (j + 1) _ #[vb, vb] c (by omega) hlt hst' (.inr ⟨vb, by omega, rfl, ?_⟩) hz' fun v' h2 tk2 hP' hk2 => ?_⟩
        · rw [ej, hbt]; exact hPb
        · exact hR v' h2 tk2 hP' fun b o h1 h2 e => hk2 b o h1 h2 (hk' b o h1 e)
end
section
variable {prog : Program} {w : World} {A : Around} {E : Value → Shared → Prop} {s : Shared}
theorem walkD_min {x d : Value} {Q : Value → Shared → Prop}
    (h : wpAny (model prog w) A.in1 (pyIter x) (fun it s₂ => ∃ J fp wr n P St bt, it = .ref J ∧ Walks prog w A.in1 J fp wr n P St ∧ St 0 s₂.heap ∧ (∀ b ∈ fp, b < s₂.heap.objs.size) ∧ CmpOf prog w A.in1 .Lt P bt ∧
      ∀ v h' tk, (n = 0 ∧ v = d ∨ 0 < n ∧ P (argBest bt (n - 1)) v) → (∀ b o, b ∉ wr → s₂.heap.get? b = some o → h'.get? b = some o) → Q v { s₂ with heap := h', toks := tk }) E s) :
    wpAny (model prog w) A (call (.builtin "min") [x] [("default", d)]) Q E s := by
  have nm : (toString "min" ++ toString ".loop" : String) = "min.loop" := by decide
  refine call_kw_tree PySem.F.kind_min PySem.F.plain_min PySem.F.entry_min (argsD_min _ _) ?_
  show wpAny _ A.in1 (Builtin.Builtins.bindParams "min" ["key", "default"] 0 ⟨[], [("default", d)]⟩ >>= _) _ _ s
  refine wpAny_bind (wpAny_of_eq (bindD_min d) ?_)
  refine wpAny_bind (wpAny_pure ?_)
  refine wpAny_bind (wpAny_mono h (fun it s₂ h₂ => ?_) fun _ _ e => e)
  obtain ⟨J, fp, wr, n, P, St, bt, rfl, W, hst, hfp, hcmp, hQ⟩ := h₂
  refine wpAny_bind (wpAny_newObj_type ?_)
  have hZ : s₂.heap.objs.size ∉ fp := fun hm => Nat.lt_irrefl _ (hfp _ hm)
  rw [nm]
  refine wpAny_pure ⟨plainId_quiet PySem.F.plain_min_loop _, loopD_min W bt hcmp hZ d n 0 _ #[] _ rfl (Nat.zero_le _) (W.frame _ _ _ hst fun b _ o e => Heap.get?_push_of_some _ e) (.inl ⟨rfl, rfl⟩) (Heap.get?_push_size _ rfl) fun v h' tk hP hk => ?_⟩
  exact hQ v h' tk hP fun b o hbw e => hk b o hbw (Nat.ne_of_lt (Heap.lt_size e)) (Heap.get?_push_of_some _ e)
end
def minO (ns : List Int) : Option Int := if ns.length = 0 then none else some (ns.getD (leastAt ns) 0)
section
variable {X : Cx}
theorem call_minD (hc : X.calm = true) : CallRK X (.builtin "min") ["default"] (fun xs zs H Q => ∃ (p : Addr) (ns : List Int), xs = [.ref p] ∧ zs = [.non] ∧ SqL X.K H p (ns.map V.int) ∧ Q (ov (minO ns)) H) := by
  intro pins s σ H xs us zs ws Q I r rz h
  obtain ⟨p, ns, rfl, rfl, hq, q⟩ := h
  obtain ⟨u, rfl, ru⟩ := r.one
  cases ru
  obtain ⟨u, rfl, ru⟩ := rz.one
  cases ru
  obtain ⟨its, rv, pl, _⟩ := I.list hq
  have hl := rv.length
  have T : s.heap.IsList p its.toArray := pl.isList
  have lt : p < s.heap.objs.size := by obtain ⟨o, e, _⟩ := T; exact Heap.lt_size e
  have hsz : its.toArray.size = ns.length := by rw [List.size_toArray, ← hl, List.length_map]
  refine walkD_min (wpAny_pyIter_list T ⟨_, _, _, _, _, _, _, rfl, Walks.list (show X.A.in1.handled = none from I.ok.hd hc) s.heap.objs.size p (Nat.ne_of_lt lt) its.toArray, ⟨⟨_, Heap.get?_push_size _ rfl, rfl, rfl⟩, T.push _⟩, fun b hb => ?_,
    CmpOf.ints_lt (fun i => ns.getD i 0) (fun i v e => vals_at rv e), fun v h' tk hP hk => ?_⟩)
  · simp only [List.mem_cons, List.not_mem_nil, or_false] at hb
    rw [Heap.size_push]
    rcases hb with e | e
    · rw [e]; exact Nat.lt_succ_self _
    · rw [e]; exact Nat.lt_succ_of_lt lt
  · have kp : Inv X pins σ H { s with heap := h', toks := tk } := I.kept fun b o e => hk b o (fun hm => by
      simp only [List.mem_cons, List.not_mem_nil, or_false] at hm
      exact absurd (Heap.lt_size e) (by rw [hm]; exact Nat.lt_irrefl _)) (Heap.get?_push_of_some _ e)
    rw [hsz] at hP
    rcases hP with ⟨h0, rfl⟩ | ⟨h0, hP⟩
    · rw [show minO ns = none from if_pos h0] at q
      exact ⟨.non, H, kp, rfl, q⟩
    · obtain ⟨t, rfl⟩ := vals_at rv hP
      rw [show minO ns = some (ns.getD (leastAt ns) 0) from if_neg (by omega)] at q
      exact ⟨.int _, H, kp, ⟨t, rfl⟩, q⟩
end

section
variable {X : Cx}
end
/-- a comprehension over a range with a test -/
theorem comp_rangeF {lo : Int} {n : Nat} {fr : List Nat} {tt : TT} {te : TE} {σ : St} {H : Hp} {Q : VK} (Pv : Nat → List V → Hp → Prop) (hn : n ≤ sizeLine) (h0 : Pv 0 [] H) (hlen : ∀ i acc H, Pv i acc H → acc.length ≤ i)
    (hs : ∀ i acc H, i < n → Pv i acc H → ∀ (R : VK) (Z : Hp → Prop), (∀ y H1, Pv (i + 1) (acc ++ [y]) H1 → R y H1) → (∀ H1, Pv (i + 1) acc H1 → Z H1) → tt ((compSt σ fr).set 0 (some (.int (lo + i)))) H fun b H2 => if b = true then te ((compSt σ fr).set 0 (some (.int (lo + i)))) H2 R else Z H2)
    (hd : ∀ acc H, Pv n acc H → ∀ p, H p = none → Q (.ref p) (upd H p (.lst acc))) : CompGo fr tt te σ Q (Itr lo n) H := by
  refine ⟨fun i m acc H => m = n - i ∧ i ≤ n ∧ Pv i acc H, ⟨n, by simp, Nat.zero_le _, h0⟩, ?_⟩
  rintro i m acc H ⟨rfl, hi, p⟩
  have hl := hlen i acc H p
  by_cases hlt : i < n
  · refine .inr ⟨hlt, by omega, fun x H' y => ?_⟩
    obtain ⟨e, y⟩ := y
    subst e y
    exact hs i acc _ hlt p _ _ (fun y H1 q => ⟨n - (i + 1), by omega, rfl, hlt, q⟩) fun H1 q => ⟨n - (i + 1), by omega, rfl, hlt, q⟩
  · have e : i = n := by omega
    subst e
    exact .inl ⟨Nat.le_refl _, by omega, hd acc H p⟩
end L2
set_option Elab.async false
set_option linter.all false
set_option maxRecDepth 100000
set_option maxHeartbeats 4000000
namespace L2
open PySem PySem.Spec PyProof.Rows
/-! ### methods of own classes, with their promises -/
structure MCal (P : Program) (w : World) (K : PySem.W.Frag) (mg : Str → Option Value) (base : Heap) (C : Addr) (k : Nat) (m : Str) (ps : List Str) (sp : Sp) where
  f : Addr
  fd : FuncData
  ok : FnOk P w K mg base CX0 k f fd ps sp
  b : Binds K fd ps []
  mt : Meth K C m f
/-- one that may raise -/
structure MCalX (P : Program) (w : World) (K : PySem.W.Frag) (mg : Str → Option Value) (base : Heap) (C : Addr) (k : Nat) (m : Str) (ps : List Str) (sp : Sp) where
  f : Addr
  fd : FuncData
  ok : FnOk P w K mg base (CXx P w) k f fd ps sp
  b : Binds K fd ps []
  mt : Meth K C m f
/-- a class that is made -/
structure MkCal (P : Program) (w : World) (K : PySem.W.Frag) (mg : Str → Option Value) (base : Heap) (C : Addr) (k : Nat) (x : Str) (ps : List Str) (sp : Sp) where
  f : Addr
  fd : FuncData
  ok : FnOk P w K mg base CX0 k f fd ps sp
  b : Binds K fd ps []
  mkd : Mk K C f
  mg : mg x = some (.ref C)
section
variable {X : Cx} {k : Nat} {m : Str} {C : Addr} {ps : List Str} {sp : Sp} {apos pos : Pos} {o e : Expr} {es : List Expr} {ta : TE} {t : TA}
/-- o.m(e, ..) within a try -/
def tMethZ (C : Addr) (m : Str) (sp : Sp) (Z : St → XK) (ta : TE) (t : TA) : TE := fun σ H Q => ta σ H fun x H1 => ∃ a dx fs, x = .ref a ∧ H1 a = some (.ins C dx fs) ∧ fs.lookup m = none ∧ t σ H1 fun vs H2 => sp (x :: vs) H2 Q (Z σ)
theorem pemZ {Z : St → XK} {pl : Sem Bool} (he : PE X o ta) (c : Cls X.K C) (M : MCalX X.prog X.w X.K X.mg X.base C k m ps sp) (hr : Room k X.A) (hp : Acc X Z) (ha : PA X (e :: es) t)
    (hst : starEach (e :: es) X.env = (false, eval e X.env) :: starEach es X.env := by rfl) (hpl : (backTo pos (starEach es X.env)).any (·.1) = false := by rfl)
    (ht : eval (.Call (.Attribute o m apos) (e :: es) [] pos) X.env = (do let u ← eval o X.env; standAt apos.atName; let (g, fst) ← holding [u] (getMethod u m pl); callWith pos g fst (backTo pos (starEach (e :: es) X.env)) (backToKw pos (keywordEach [] X.env))) := by rfl) :
    PE X (.Call (.Attribute o m apos) (e :: es) [] pos) (tMethZ C m sp Z ta t) := by
  intro pins s σ H Q I h
  refine PySem.W.methodCall_KW (pl := pl) (thn (he pins s σ H _ I h) fun u s1 ⟨x, H1, I1, rx, a, dx, fs, ex, ea, l, q⟩ => ?_) ht
  subst ex
  obtain rfl : u = Value.ref a := rx
  refine getmeth_ok I1 ea c M.mt l ?_
  refine PySem.W.callWith_K (first := [.ref a]) (h₀ := X.base) I.ok.mod.kin M.mt.kp (thn (ha pos pins s1 σ H1 _ I1 q) fun us s2 ⟨vs, H2, I2, r, q2⟩ => ⟨I2.kIn, ?_⟩) hst hpl
  have r2 : Vals (V.ref a :: vs) (Value.ref a :: us) := .cons rfl r
  refine wpAny_call (codeAny_mono (M.ok.run X.A X.stack s2 H2 ⟨Value.ref a :: us, []⟩ (Value.ref a :: us) (V.ref a :: vs) Q (Z σ) hr I2.env0 ?_ r2 q2) fun rs s3 hq => ?_)
  · have hl : (Value.ref a :: us).length = ps.length := by rw [← r2.length]; exact M.ok.len _ _ _ _ q2
    have hb := M.b s2 (Value.ref a :: us) I2.kIn (by rw [List.append_nil]; exact hl)
    rw [List.append_nil] at hb
    exact hb
  · match rs, hq with
    | .error x, hq => exact hp pins σ H2 s2 x s3 I2 hq
    | .ok (.ret u), hq => exact I2.after hq
    | .ok .next, hq => exact False.elim hq
    | .ok .brk, hq => exact False.elim hq
    | .ok .cont, hq => exact False.elim hq
end
end L2
set_option Elab.async false
set_option linter.all false
set_option maxRecDepth 100000
set_option maxHeartbeats 4000000
namespace L2
open PySem PySem.Spec PyProof.Rows
section
variable {X : Cx}
/-- // by a long divisor -/
def CDivL (i j : Int) : Prop := 0 < j ∧ j < 10 ^ 100
theorem op_fdivL : OpR X (binaryOp .FloorDiv) (rI CDivL fun i j => .int (i / j)) := opI fun i j _ _ _ _ _ hc q => by
  have h1 : (0 : Int) < j := hc.1
  have h2 : j < 10 ^ 100 := hc.2
  have h3 : j.natAbs < 2 ^ 9000 := by
    have e : j.natAbs < 10 ^ 100 := by omega
    exact Nat.lt_trans e (by decide +kernel)
  have h4 : j.natAbs.log2 < 9000 := (Nat.log2_lt (by omega)).mpr h3
  exact floordiv_int (by omega) (by rw [Int.fdiv_eq_ediv_of_nonneg i (by omega)]; exact q) (.inl (PyProof.noPylong_of_log2 h4))
end
end L2
set_option Elab.async false
set_option linter.all false
set_option maxRecDepth 100000
set_option maxHeartbeats 4000000
namespace L2
open PySem PySem.Spec PyProof.Rows
/-! ### == of lists of tuples (or of lists) of ints, whatever the answer -/
section
variable {X : Cx} {pins : List (Addr × Obj)} {σ : St} {H : Hp} {s : Shared}
end
end L2
set_option Elab.async false
set_option linter.all false
set_option maxRecDepth 100000
set_option maxHeartbeats 4000000
namespace L2
open PySem PySem.Spec PyProof.Rows
/-! ### lists by their length (smaller than a match of each def's own) -/
theorem lenE1 : ∀ {us : List Value}, us.length = 1 → ∃ a, us = [a]
  | [a], _ => ⟨a, rfl⟩
theorem lenE2 : ∀ {us : List Value}, us.length = 2 → ∃ a b, us = [a, b]
  | [a, b], _ => ⟨a, b, rfl⟩
theorem lenE3 : ∀ {us : List Value}, us.length = 3 → ∃ a b c, us = [a, b, c]
  | [a, b, c], _ => ⟨a, b, c, rfl⟩
theorem lenE4 : ∀ {us : List Value}, us.length = 4 → ∃ a b c d, us = [a, b, c, d]
  | [a, b, c, d], _ => ⟨a, b, c, d, rfl⟩
/-! ### any of a list of bools -/
theorem boot_anyL : bootBuiltins "any" = some (.builtin "any") := PyProof.Rows.Boot.any
section
variable {X : Cx} {K : PySem.W.Frag}
/-- pe_comp by way of comp_core (which ps_setComp wants too): the smaller text -/
theorem pe_compS {elt iter : Expr} {x : Str} {px : Pos} {ifs : List Expr} {scope : Scope} {pos : Pos} {wi : TI} {tt : TT} {te : TE} (F : List Str) (fr : List Nat) (hc : X.calm = true) (hi : PI X (.Name x px) iter wi)
    (ht : ∀ s3 H3 ex, PTs (compCx X (x :: F) scope s3 H3 ex) ifs tt) (he : ∀ s3 H3 ex, PE (compCx X (x :: F) scope s3 H3 ex) elt te)
    (hk : compChk X.env.scope X.N scope x F fr = true := by rfl) (hs : ∀ x, foldedSetIterable iter X.env x = pure x := by intro _; rfl) :
    PE X (.ListComp elt [⟨.Name x px, iter, ifs, 0⟩] scope pos) (tComp wi fr tt te) := by
  intro pins s σ H Q I h
  rw [eval_ListComp]
  refine comp_core (use := none) F fr hc hi ht he I h hk hs fun s5 H5 D C m IT hm hC q => ?_
  obtain ⟨c0, c1, c2, c3, c4, c5⟩ := hC
  refine ⟨m, hm, fun h' hs' => ?_⟩
  exact ⟨.ref D, H5, IT.turned (t' := s5.toks) (it := C) (fun b o hb e => (hs'.2 b hb).trans e) c0 c1 c3 c4 c5, rfl, q⟩
theorem any_range (bs : List Bool) : ((List.range bs.length).any fun i => bs.getD i true) = bs.any id := by
  rw [Bool.eq_iff_iff, List.any_eq_true, List.any_eq_true]
  constructor
  · rintro ⟨i, hi, h⟩
    have hi := List.mem_range.mp hi
    rw [List.getD_eq_getElem?_getD, List.getElem?_eq_getElem hi, Option.getD_some] at h
    exact ⟨_, List.getElem_mem hi, h⟩
  · rintro ⟨x, hx, h⟩
    obtain ⟨i, hi, e⟩ := List.mem_iff_getElem.mp hx
    refine ⟨i, List.mem_range.mpr hi, ?_⟩
    rw [List.getD_eq_getElem?_getD, List.getElem?_eq_getElem hi, Option.getD_some, e]
    exact h
theorem call_any (hc : X.calm = true) : CallR X (.builtin "any") (fun xs H Q => ∃ (p : Addr) (bs : List Bool), xs = [.ref p] ∧ SqL X.K H p (bs.map V.bl) ∧ Q (.bl (bs.any id)) H) := by
  intro pins s σ H xs us Q I r h
  obtain ⟨p, bs, rfl, hq, q⟩ := h
  obtain ⟨u, rfl, ru⟩ := r.one
  cases ru
  obtain ⟨its, rv, pl, _⟩ := I.list hq
  have hl := rv.length
  have T : s.heap.IsList p its.toArray := pl.isList
  have lt : p < s.heap.objs.size := by obtain ⟨o, e, _⟩ := T; exact Heap.lt_size e
  have hsz : its.toArray.size = bs.length := by rw [List.size_toArray, ← hl, List.length_map]
  refine call_any_walk (wpAny_pyIter_list T ⟨s.heap.objs.size, _, _, _, _, _, fun i => bs.getD i true, rfl, Walks.list (show X.A.in1.handled = none from I.ok.hd hc) s.heap.objs.size p (Nat.ne_of_lt lt) its.toArray, ⟨⟨_, Heap.get?_push_size _ rfl, rfl, rfl⟩, T.push _⟩, fun i v s' Q' E' hP hQ => ?_, fun h' tk hk => ?_⟩)
  · rw [bools_at rv hP]
    exact wpAny_truthy_bool hQ
  · rw [hsz, any_range]
    refine ⟨.bl _, H, I.kept fun b o e => hk b o ?_ (Heap.get?_push_of_some _ e), rfl, q⟩
    intro hm
    simp only [List.mem_cons, List.not_mem_nil, or_false] at hm
    exact absurd (Heap.lt_size e) (by rw [hm]; exact Nat.lt_irrefl _)
end
end L2
set_option Elab.async false
set_option linter.all false
set_option maxRecDepth 100000
set_option maxHeartbeats 4000000
namespace L2
open PySem PySem.Spec PyProof.Rows
/-! ### a def (or method) with defaults, of which all parameters are given -/
section
variable {P : Program} {w : World} {K : PySem.W.Frag} {mg : Str → Option Value} {base : Heap}
end
end L2
set_option Elab.async false
set_option linter.all false
set_option maxRecDepth 100000
set_option maxHeartbeats 4000000
namespace L2
open PySem PySem.W PyProof.Rows
/-! ### the library's tree of questions that sorts, asked of an order: what comes out is in order -/
def krun (lt : Nat → Nat → Bool) {α : Type} : KasT α → α
  | .ret a => a
  | .ask i j k => krun lt (k (lt i j))
theorem krun_bind (lt : Nat → Nat → Bool) {α β : Type} (f : α → KasT β) : ∀ t : KasT α, krun lt (t.bind f) = krun lt (f (krun lt t))
  | .ret _ => rfl
  | .ask i j k => krun_bind lt f (k (lt i j))
structure Swo (lt : Nat → Nat → Bool) : Prop where
  asym : ∀ a b, lt a b = true → lt b a = false
  trans : ∀ a b c, lt b a = false → lt c b = false → lt c a = false
section
variable {lt : Nat → Nat → Bool}
theorem Swo.irr (O : Swo lt) (a : Nat) : lt a a = false := by
  cases h : lt a a with
  | false => rfl
  | true => rw [← h]; exact O.asym a a h
abbrev gA (p : Array Nat) (i : Nat) : Nat := p.getD i 0
theorem gA_of {p q : Array Nat} {i j : Nat} (h : p[i]? = q[j]?) : gA p i = gA q j := by
  simp only [gA, Array.getD_eq_getD_getElem?, h]
def Up (lt : Nat → Nat → Bool) (p : Array Nat) (k : Nat) : Prop := ∀ i j, i ≤ j → j < k → lt (gA p j) (gA p i) = false
def Down (lt : Nat → Nat → Bool) (p : Array Nat) (k : Nat) : Prop := ∀ i j, i ≤ j → j < k → lt (gA p i) (gA p j) = false
theorem rev_get {p : Array Nat} {i j : Nat} (hj : j ≤ p.size) (k : Nat) : gA (kas_rev p i j) k = if i ≤ k ∧ k < j then gA p (i + j - 1 - k) else gA p k := by
  have h := getElem?_mirror_all (xs := p) (i := i) hj k
  unfold kas_rev
  split
  · next c => rw [if_pos c] at h; exact gA_of h
  · next c => rw [if_neg c] at h; exact gA_of h
theorem rev_size {p : Array Nat} (i j : Nat) : (kas_rev p i j).size = p.size := mirror_size _ _ _ _
theorem rev_perm {p : Array Nat} (i j : Nat) : (kas_rev p i j).Perm p := mirror_perm _ _ _ _
theorem Up.one (O : Swo lt) (p : Array Nat) : Up lt p 1 := fun i j h1 h2 => by
  have e1 : i = 0 := by omega
  have e2 : j = 0 := by omega
  rw [e1, e2]; exact O.irr _
theorem Up.snoc (O : Swo lt) {p : Array Nat} {m : Nat} (h1 : 1 ≤ m) (h : Up lt p m) (hl : lt (gA p m) (gA p (m - 1)) = false) : Up lt p (m + 1) := fun i j h2 h3 => by
  by_cases c : j < m
  · exact h i j h2 c
  · have e : j = m := by omega
    subst e
    by_cases d : i = j
    · rw [d]; exact O.irr _
    · exact O.trans _ _ _ (h i (j - 1) (by omega) (by omega)) hl
theorem asc_ok (O : Swo lt) (p : Array Nat) : ∀ f m, 1 ≤ m → Up lt p m → Up lt p (krun lt (kas_asc p f m)) ∧ m ≤ krun lt (kas_asc p f m) ∧ krun lt (kas_asc p f m) ≤ m + f ∧ (krun lt (kas_asc p f m) < m + f → lt (gA p (krun lt (kas_asc p f m))) (gA p (krun lt (kas_asc p f m) - 1)) = true)
  | 0, m, h1, h => ⟨h, Nat.le_refl _, Nat.le_refl _, fun hlt => absurd hlt (by show ¬ m < m + 0; omega)⟩
  | f + 1, m, h1, h => by
    show Up lt p (krun lt (if lt (gA p m) (gA p (m - 1)) = true then .ret m else kas_asc p f (m + 1))) ∧ m ≤ krun lt (if lt (gA p m) (gA p (m - 1)) = true then .ret m else kas_asc p f (m + 1)) ∧ krun lt (if lt (gA p m) (gA p (m - 1)) = true then .ret m else kas_asc p f (m + 1)) ≤ m + (f + 1) ∧ (krun lt (if lt (gA p m) (gA p (m - 1)) = true then .ret m else kas_asc p f (m + 1)) < m + (f + 1) → lt (gA p (krun lt (if lt (gA p m) (gA p (m - 1)) = true then .ret m else kas_asc p f (m + 1)))) (gA p (krun lt (if lt (gA p m) (gA p (m - 1)) = true then .ret m else kas_asc p f (m + 1)) - 1)) = true)
    cases c : lt (gA p m) (gA p (m - 1)) with
    | true =>
      rw [if_pos rfl]
      exact ⟨h, Nat.le_refl _, by show m ≤ m + (f + 1); omega, fun _ => c⟩
    | false =>
      rw [if_neg (by decide)]
      obtain ⟨a, b, d, e⟩ := asc_ok O p f (m + 1) (by omega) (h.snoc O h1 c)
      exact ⟨a, by omega, by omega, fun hl => e (by omega)⟩
theorem place_ok (O : Swo lt) {p : Array Nat} {k : Nat} (hs : Up lt p k) : ∀ f l r, r ≤ k → l ≤ r → r - l ≤ f → (∀ i, i < l → lt (gA p k) (gA p i) = false) → (∀ i, r ≤ i → i < k → lt (gA p k) (gA p i) = true) →
    krun lt (kas_place p k f l r) ≤ k ∧ (∀ i, i < krun lt (kas_place p k f l r) → lt (gA p k) (gA p i) = false) ∧ ∀ i, krun lt (kas_place p k f l r) ≤ i → i < k → lt (gA p k) (gA p i) = true
  | 0, l, r, hr, hl, hf, h1, h2 => by
    have e : l = r := by omega
    subst e
    exact ⟨hr, h1, h2⟩
  | f + 1, l, r, hr, hl, hf, h1, h2 => by
    unfold kas_place
    by_cases c : l ≥ r
    · rw [if_pos c]
      have e : l = r := by omega
      subst e
      exact ⟨hr, h1, h2⟩
    · rw [if_neg c]
      have hm1 : l ≤ (l + r) / 2 := by omega
      have hm2 : (l + r) / 2 < r := by omega
      generalize (l + r) / 2 = m at hm1 hm2
      show krun lt (if lt (gA p k) (gA p m) = true then kas_place p k f l m else kas_place p k f (m + 1) r) ≤ k ∧ (∀ i, i < krun lt (if lt (gA p k) (gA p m) = true then kas_place p k f l m else kas_place p k f (m + 1) r) → lt (gA p k) (gA p i) = false) ∧ ∀ i, krun lt (if lt (gA p k) (gA p m) = true then kas_place p k f l m else kas_place p k f (m + 1) r) ≤ i → i < k → lt (gA p k) (gA p i) = true
      cases d : lt (gA p k) (gA p m) with
      | true =>
        rw [if_pos rfl]
        refine place_ok O hs f l m (by omega) hm1 (by omega) h1 fun i hi hk => ?_
        cases e : lt (gA p k) (gA p i) with
        | true => rfl
        | false =>
          have := O.trans _ _ _ (hs m i hi hk) e
          rw [d] at this; cases this
      | false =>
        rw [if_neg (by decide)]
        refine place_ok O hs f (m + 1) r hr (by omega) (by omega) (fun i hi => ?_) h2
        exact O.trans _ _ _ (hs i m (by omega) (by omega)) d
theorem bin_ok (O : Swo lt) : ∀ f (p : Array Nat) k, k + f ≤ p.size → Up lt p k → Up lt (krun lt (kas_bin f p k)) (k + f) ∧ (krun lt (kas_bin f p k)).Perm p ∧ (krun lt (kas_bin f p k)).size = p.size
  | 0, p, k, _, h => ⟨h, .refl _, rfl⟩
  | f + 1, p, k, hz, h => by
    unfold kas_bin
    rw [krun_bind]
    obtain ⟨a, b, c⟩ := place_ok O h k 0 k (Nat.le_refl _) (Nat.zero_le _) (by omega) (fun i hi => absurd hi (by omega)) (fun i h1 h2 => absurd h2 (by omega))
    generalize krun lt (kas_place p k k 0 k) = x at a b c
    have gb : ∀ i, gA (bubble p k (k - x)) i = if i = x then gA p k else if x < i ∧ i ≤ k then gA p (i - 1) else gA p i := fun i => by
      have h := getElem?_bubble (xs := p) (src := k) (by omega) (k - x) (by omega) i
      rw [show k - (k - x) = x by omega] at h
      split
      · next c => rw [if_pos c] at h; exact gA_of h
      · next c =>
        rw [if_neg c] at h
        split
        · next d => rw [if_pos d] at h; exact gA_of h
        · next d => rw [if_neg d] at h; exact gA_of h
    have up : Up lt (bubble p k (k - x)) (k + 1) := fun i j h1 h2 => by
      rw [gb i, gb j]
      by_cases ei : i = x
      · rw [if_pos ei]
        by_cases ej : j = x
        · rw [if_pos ej]; exact O.irr _
        · rw [if_neg ej, if_pos (by omega)]
          exact O.asym _ _ (c (j - 1) (by omega) (by omega))
      · rw [if_neg ei]
        by_cases ej : j = x
        · rw [if_pos ej, if_neg (by omega)]
          exact b i (by omega)
        · rw [if_neg ej]
          by_cases ci : x < i ∧ i ≤ k
          · rw [if_pos ci, if_pos (by omega)]
            exact h (i - 1) (j - 1) (by omega) (by omega)
          · rw [if_neg ci]
            by_cases cj : x < j ∧ j ≤ k
            · rw [if_pos cj]
              exact h i (j - 1) (by omega) (by omega)
            · rw [if_neg cj]
              exact h i j h1 (by omega)
    obtain ⟨r1, r2, r3⟩ := bin_ok O f (bubble p k (k - x)) (k + 1) (by rw [bubble_size]; omega) up
    exact ⟨by rw [show k + (f + 1) = k + 1 + f by omega]; exact r1, r2.trans (bubble_perm _ _ _), by rw [r3, bubble_size]⟩
theorem Down.snoc (O : Swo lt) {p : Array Nat} {k : Nat} (h1 : 1 ≤ k) (h : Down lt p k) (hl : lt (gA p (k - 1)) (gA p k) = false) : Down lt p (k + 1) := fun i j h2 h3 => by
  by_cases c : j < k
  · exact h i j h2 c
  · have e : j = k := by omega
    subst e
    by_cases d : i = j
    · rw [d]; exact O.irr _
    · exact O.trans _ _ _ hl (h i (j - 1) (by omega) (by omega))
/-- a falling run whose last q + 1 are alike -/
structure DI (lt : Nat → Nat → Bool) (p : Array Nat) (k q : Nat) : Prop where
  le : q + 1 ≤ k
  dn : Down lt p k
  eq : ∀ i j, k - (q + 1) ≤ i → i < k → k - (q + 1) ≤ j → j < k → lt (gA p i) (gA p j) = false
theorem DI.rev (D : DI lt p k q) (hz : k ≤ p.size) : Down lt (kas_rev p (k - (q + 1)) k) k := fun i j h1 h2 => by
  have hl := D.le
  rw [rev_get hz, rev_get hz]
  by_cases ci : k - (q + 1) ≤ i ∧ i < k
  · rw [if_pos ci, if_pos (by omega)]
    exact D.eq _ _ (by omega) (by omega) (by omega) (by omega)
  · rw [if_neg ci]
    by_cases cj : k - (q + 1) ≤ j ∧ j < k
    · rw [if_pos cj]
      exact D.dn _ _ (by omega) (by omega)
    · rw [if_neg cj]
      exact D.dn _ _ h1 h2
theorem DI.zero (O : Swo lt) {p : Array Nat} {k : Nat} (h1 : 1 ≤ k) (h : Down lt p k) : DI lt p k 0 := ⟨h1, h, fun i j a b c d => by
  have e : i = j := by omega
  rw [e]; exact O.irr _⟩
theorem desc_ok (O : Swo lt) : ∀ f (p : Array Nat) k q, k + f ≤ p.size → DI lt p k q →
    DI lt (krun lt (kas_desc f p k q)).1 (krun lt (kas_desc f p k q)).2.1 (krun lt (kas_desc f p k q)).2.2 ∧ (krun lt (kas_desc f p k q)).2.1 ≤ k + f ∧ (krun lt (kas_desc f p k q)).1.Perm p ∧ (krun lt (kas_desc f p k q)).1.size = p.size
  | 0, p, k, q, hz, D => ⟨D, Nat.le_refl _, .refl _, rfl⟩
  | f + 1, p, k, q, hz, D => by
    have hl := D.le
    unfold kas_desc
    show let r := krun lt (if lt (gA p k) (gA p (k - 1)) = true then (if q > 0 then kas_desc f (kas_rev p (k - (q + 1)) k) (k + 1) 0 else kas_desc f p (k + 1) 0) else .ask (gA p (k - 1)) (gA p k) fun d => if d = true then .ret (p, k, q) else kas_desc f p (k + 1) (q + 1)); DI lt r.1 r.2.1 r.2.2 ∧ r.2.1 ≤ k + (f + 1) ∧ r.1.Perm p ∧ r.1.size = p.size
    cases c : lt (gA p k) (gA p (k - 1)) with
    | true =>
      rw [if_pos rfl]
      have c' := O.asym _ _ c
      by_cases hq : q > 0
      · rw [if_pos hq]
        have dn := (D.rev (by omega)).snoc O (by omega) (by
          rw [rev_get (by omega), rev_get (by omega), if_pos (by omega), if_neg (by omega)]
          exact O.trans _ _ _ c' (D.dn _ _ (by omega) (by omega)))
        obtain ⟨a, b, d, e⟩ := desc_ok O f (kas_rev p (k - (q + 1)) k) (k + 1) 0 (by rw [rev_size]; omega) (.zero O (by omega) dn)
        exact ⟨a, by omega, d.trans (rev_perm _ _), by rw [e, rev_size]⟩
      · rw [if_neg hq]
        obtain ⟨a, b, d, e⟩ := desc_ok O f p (k + 1) 0 (by omega) (.zero O (by omega) (D.dn.snoc O (by omega) c'))
        exact ⟨a, by omega, d, e⟩
    | false =>
      rw [if_neg (by decide)]
      show let r := krun lt (if lt (gA p (k - 1)) (gA p k) = true then .ret (p, k, q) else kas_desc f p (k + 1) (q + 1)); DI lt r.1 r.2.1 r.2.2 ∧ r.2.1 ≤ k + (f + 1) ∧ r.1.Perm p ∧ r.1.size = p.size
      cases d : lt (gA p (k - 1)) (gA p k) with
      | true =>
        rw [if_pos rfl]
        exact ⟨D, by show k ≤ k + (f + 1); omega, .refl _, rfl⟩
      | false =>
        rw [if_neg (by decide)]
        have D' : DI lt p (k + 1) (q + 1) := ⟨by omega, D.dn.snoc O (by omega) d, fun i j a1 a2 a3 a4 => by
          by_cases ci : i < k
          · by_cases cj : j < k
            · exact D.eq _ _ (by omega) ci (by omega) cj
            · have ej : j = k := by omega
              subst ej
              exact O.trans _ _ _ d (D.eq _ _ (by omega) ci (by omega) (by omega))
          · have ei : i = k := by omega
            subst ei
            by_cases cj : j < i
            · exact O.trans _ _ _ (D.eq _ _ (by omega) (by omega) (by omega) cj) c
            · have ej : j = i := by omega
              rw [ej]; exact O.irr _⟩
        obtain ⟨a, b, e, g⟩ := desc_ok O f p (k + 1) (q + 1) (by omega) D'
        exact ⟨a, by omega, e, g⟩
theorem rev_up {p : Array Nat} {n : Nat} (hz : n ≤ p.size) (h : Down lt p n) : Up lt (kas_rev p 0 n) n := fun i j h1 h2 => by
  rw [rev_get hz, rev_get hz, if_pos (by omega), if_pos (by omega)]
  exact h _ _ (by omega) (by omega)
/-- what comes of the first run -/
def Run (lt : Nat → Nat → Bool) (p : Array Nat) (n : Nat) (r : Nat × Array Nat) : Prop := Up lt r.2 r.1 ∧ 1 ≤ r.1 ∧ r.1 ≤ n ∧ r.2.Perm p ∧ r.2.size = p.size
theorem tail3_ok (O : Swo lt) {p : Array Nat} {n nrem : Nat} (h1 : 1 ≤ n) (hn : n ≤ nrem) (hz : nrem ≤ p.size) (h : Down lt p n) : Run lt p nrem (krun lt (kas_tail3 n nrem p)) := by
  unfold kas_tail3
  rw [krun_bind]
  obtain ⟨a, b, c, _⟩ := asc_ok O (kas_rev p 0 n) (nrem - n) n h1 (rev_up (by omega) h)
  exact ⟨a, by show 1 ≤ krun lt _; omega, by show krun lt _ ≤ nrem; omega, rev_perm _ _, rev_size _ _⟩
theorem descPart_ok (O : Swo lt) {p : Array Nat} {n nrem : Nat} (h1 : 1 ≤ n) (hn : n + 1 ≤ nrem) (hz : nrem ≤ p.size) (h : Down lt p (n + 1)) : Run lt p nrem (krun lt (kas_descPart n nrem p)) := by
  unfold kas_descPart
  rw [krun_bind]
  obtain ⟨a, b, c, d⟩ := desc_ok O (nrem - (n + 1)) p (n + 1) 0 (by omega) (.zero O (by omega) h)
  generalize krun lt (kas_desc (nrem - (n + 1)) p (n + 1) 0) = r at a b c d
  obtain ⟨p', k, q⟩ := r
  dsimp only at a b c d ⊢
  have hl := a.le
  by_cases hq : q > 0
  · rw [if_pos hq]
    obtain ⟨x1, x2, x3, x4, x5⟩ := tail3_ok O (p := kas_rev p' (k - (q + 1)) k) (n := k) (nrem := nrem) (by omega) (by omega) (by rw [rev_size]; omega) (a.rev (by omega))
    exact ⟨x1, x2, x3, (x4.trans (rev_perm _ _)).trans c, by rw [x5, rev_size, d]⟩
  · rw [if_neg hq]
    obtain ⟨x1, x2, x3, x4, x5⟩ := tail3_ok O (p := p') (n := k) (nrem := nrem) (by omega) (by omega) (by omega) a.dn
    exact ⟨x1, x2, x3, x4.trans c, by rw [x5, d]⟩
theorem count_ok (O : Swo lt) {p : Array Nat} {nrem : Nat} (h1 : 1 ≤ nrem) (hz : nrem ≤ p.size) : Run lt p nrem (krun lt (kas_count nrem p)) := by
  unfold kas_count
  rw [krun_bind]
  obtain ⟨a, b, c, d⟩ := asc_ok O p (nrem - 1) 1 (Nat.le_refl _) (Up.one O p)
  generalize krun lt (kas_asc p (nrem - 1) 1) = n at a b c d
  by_cases e : (n == nrem) = true
  · rw [if_pos e]
    exact ⟨a, b, by show n ≤ nrem; omega, .refl _, rfl⟩
  · rw [if_neg e]
    have ne : n ≠ nrem := fun h => e (by rw [h]; exact beq_self_eq_true _)
    have hd := O.asym _ _ (d (by omega))
    by_cases hn : n > 1
    · rw [if_pos hn]
      show Run lt p nrem (krun lt (if lt (gA p 0) (gA p (n - 1)) = true then .ret (n, p) else kas_descPart n nrem (kas_rev p 0 n)))
      cases cc : lt (gA p 0) (gA p (n - 1)) with
      | true =>
        rw [if_pos rfl]
        exact ⟨a, b, by show n ≤ nrem; omega, .refl _, rfl⟩
      | false =>
        rw [if_neg (by decide)]
        have all : ∀ i j, i < n → j < n → lt (gA p i) (gA p j) = false := fun i j hi hj =>
          O.trans _ _ _ (O.trans _ _ _ (a j (n - 1) (by omega) (by omega)) cc) (a 0 i (Nat.zero_le _) hi)
        have dn : Down lt (kas_rev p 0 n) n := fun i j x y => by
          rw [rev_get (by omega), rev_get (by omega), if_pos (by omega), if_pos (by omega)]
          exact all _ _ (by omega) (by omega)
        obtain ⟨x1, x2, x3, x4, x5⟩ := descPart_ok O (p := kas_rev p 0 n) (n := n) (nrem := nrem) b (by omega) (by rw [rev_size]; omega) (dn.snoc O b (by
          rw [rev_get (by omega), rev_get (by omega), if_pos (by omega), if_neg (by omega)]
          exact O.trans _ _ _ hd (all _ _ (by omega) (by omega))))
        exact ⟨x1, x2, x3, x4.trans (rev_perm _ _), by rw [x5, rev_size]⟩
    · rw [if_neg hn]
      have e1 : n = 1 := by omega
      subst e1
      exact descPart_ok O (Nat.le_refl _) (by omega) hz ((show Down lt p 1 from fun i j x y => by
        have e1 : i = 0 := by omega
        have e2 : j = 0 := by omega
        rw [e1, e2]; exact O.irr _).snoc O (Nat.le_refl _) hd)
/-- the tree that sorts n things: a permutation of the places, in order -/
theorem sort_ok (O : Swo lt) {n : Nat} (h1 : 1 ≤ n) : Up lt (krun lt (kas_sort n)) n ∧ (krun lt (kas_sort n)).Perm (List.toArray (List.range n)) ∧ (krun lt (kas_sort n)).size = n := by
  unfold kas_sort
  rw [krun_bind]
  have hz : (List.toArray (List.range n)).size = n := by simp
  obtain ⟨a, b, c, d, e⟩ := count_ok O (p := List.toArray (List.range n)) (nrem := n) h1 (by omega)
  generalize krun lt (kas_count n (List.toArray (List.range n))) = r at a b c d e
  obtain ⟨k, p⟩ := r
  dsimp only at a b c d e ⊢
  by_cases hk : k < n
  · rw [if_pos hk, show max k 1 = k by omega]
    obtain ⟨x1, x2, x3⟩ := bin_ok O (n - k) p k (by omega) a
    exact ⟨by rw [show k + (n - k) = n by omega] at x1; exact x1, x2.trans d, by rw [x3, e, hz]⟩
  · rw [if_neg hk]
    have ek : k = n := by omega
    subst ek
    exact ⟨a, d, by rw [show krun lt (KasT.ret p) = p from rfl, e, hz]⟩
end
end L2
set_option Elab.async false
set_option linter.all false
set_option maxRecDepth 100000
set_option maxHeartbeats 4000000
namespace L2
open PySem PySem.W PyProof.Rows
/-! ### what the sorting tree asks lies within the list -/
def AskP (n : Nat) {α : Type} (Post : α → Prop) : KasT α → Prop
  | .ret a => Post a
  | .ask i j k => i < n ∧ j < n ∧ ∀ b, AskP n Post (k b)
theorem AskP.bind {n : Nat} {α β : Type} {P1 : α → Prop} {P2 : β → Prop} {f : α → KasT β} (hf : ∀ a, P1 a → AskP n P2 (f a)) : ∀ t : KasT α, AskP n P1 t → AskP n P2 (t.bind f)
  | .ret a, h => hf a h
  | .ask i j k, h => ⟨h.1, h.2.1, fun b => AskP.bind hf (k b) (h.2.2 b)⟩
theorem krun_wpN {n : Nat} {lt : Nat → Nat → Bool} {α : Type} {Post : α → Prop} {cmp : Nat → Nat → (Bool → Shared → Prop) → Shared → Prop} {Q : α → Shared → Prop} {s : Shared} (hc : ∀ i j C, i < n → j < n → C (lt i j) s → cmp i j C s) : ∀ t : KasT α, AskP n Post t → Q (krun lt t) s → t.kasWp cmp Q s
  | .ret _, _, h => h
  | .ask i j k, a, h => hc i j _ a.1 a.2.1 (krun_wpN hc (k (lt i j)) (a.2.2 _) h)
def LtA (n : Nat) (p : Array Nat) : Prop := ∀ x ∈ p, x < n
theorem LtA.at {n : Nat} {p : Array Nat} (h0 : 0 < n) (h : LtA n p) (i : Nat) : p.getD i 0 < n := by
  by_cases c : i < p.size
  · have e : p.getD i 0 = p[i] := by simp [Array.getD, c]
    rw [e]; exact h _ (Array.getElem_mem c)
  · have e : p.getD i 0 = 0 := by simp [Array.getD, c]
    rw [e]; exact h0
theorem LtA.perm {n : Nat} {p q : Array Nat} (h : LtA n p) (e : q.Perm p) : LtA n q := fun x hx => h x (e.mem_iff.mp hx)
section
variable {n : Nat} (h0 : 0 < n)
include h0
theorem ask_asc {p : Array Nat} (h : LtA n p) : ∀ f m, AskP n (fun _ => True) (kas_asc p f m)
  | 0, _ => trivial
  | f + 1, m => ⟨h.at h0 _, h.at h0 _, fun b => by
    cases b with
    | true => exact trivial
    | false => exact ask_asc h f (m + 1)⟩
theorem ask_desc : ∀ f (p : Array Nat) k q, LtA n p → AskP n (fun r => LtA n r.1) (kas_desc f p k q)
  | 0, _, _, _, h => h
  | f + 1, p, k, q, h => ⟨h.at h0 _, h.at h0 _, fun b => by
    cases b with
    | true =>
      show AskP n _ (if q > 0 then kas_desc f (kas_rev p (k - (q + 1)) k) (k + 1) 0 else kas_desc f p (k + 1) 0)
      by_cases c : q > 0
      · rw [if_pos c]; exact ask_desc f _ _ _ (h.perm (rev_perm _ _))
      · rw [if_neg c]; exact ask_desc f _ _ _ h
    | false =>
      refine ⟨h.at h0 _, h.at h0 _, fun d => ?_⟩
      cases d with
      | true => exact h
      | false => exact ask_desc f _ _ _ h⟩
theorem ask_tail3 {p : Array Nat} (m nrem : Nat) (h : LtA n p) : AskP n (fun r => LtA n r.2) (kas_tail3 m nrem p) := by
  unfold kas_tail3
  refine AskP.bind (P1 := fun _ => True) (fun _ _ => ?_) _ (ask_asc h0 (h.perm (rev_perm _ _)) _ _)
  exact h.perm (rev_perm _ _)
theorem ask_descPart {p : Array Nat} (m nrem : Nat) (h : LtA n p) : AskP n (fun r => LtA n r.2) (kas_descPart m nrem p) := by
  refine AskP.bind (fun r hr => ?_) _ (ask_desc h0 _ _ _ _ h)
  by_cases c : r.2.2 > 0
  · rw [if_pos c]; exact ask_tail3 h0 _ _ (LtA.perm hr (rev_perm _ _))
  · rw [if_neg c]; exact ask_tail3 h0 _ _ hr
theorem ask_count {p : Array Nat} (nrem : Nat) (h : LtA n p) : AskP n (fun r => LtA n r.2) (kas_count nrem p) := by
  refine AskP.bind (fun m _ => ?_) _ (ask_asc h0 h _ _)
  by_cases c : (m == nrem) = true
  · rw [if_pos c]; exact h
  · rw [if_neg c]
    by_cases d : m > 1
    · rw [if_pos d]
      refine ⟨h.at h0 _, h.at h0 _, fun b => ?_⟩
      cases b with
      | true => exact h
      | false => exact ask_descPart h0 _ _ (h.perm (rev_perm _ _))
    · rw [if_neg d]; exact ask_descPart h0 _ _ h
theorem ask_place {p : Array Nat} (k : Nat) (h : LtA n p) : ∀ f l r, AskP n (fun _ => True) (kas_place p k f l r)
  | 0, _, _ => trivial
  | f + 1, l, r => by
    unfold kas_place
    by_cases c : l ≥ r
    · rw [if_pos c]; exact trivial
    · rw [if_neg c]
      refine ⟨h.at h0 _, h.at h0 _, fun b => ?_⟩
      cases b with
      | true => exact ask_place k h f _ _
      | false => exact ask_place k h f _ _
theorem ask_bin : ∀ f (p : Array Nat) k, LtA n p → AskP n (fun _ => True) (kas_bin f p k)
  | 0, _, _, _ => trivial
  | f + 1, p, k, h => AskP.bind (fun l _ => ask_bin f _ _ (h.perm (bubble_perm _ _ _))) _ (ask_place h0 k h _ _ _)
theorem ask_sort : AskP n (fun _ => True) (kas_sort n) := by
  refine AskP.bind (fun r hr => ?_) _ (ask_count h0 n (fun x hx => List.mem_range.mp (by simpa using hx)))
  by_cases c : r.1 < n
  · rw [if_pos c]; exact ask_bin h0 _ _ _ hr
  · rw [if_neg c]; exact trivial
end
theorem pget {α β : Type} {F : α → β → Prop} : ∀ {l₁ : List α} {l₂ : List β} {i : Nat} {x : α}, Paired F l₁ l₂ → l₁[i]? = some x → ∃ y, l₂[i]? = some y ∧ F x y
  | _, _, _, _, .nil, h => by simp at h
  | _, _, 0, _, .cons r _, h => ⟨_, rfl, by simp at h; subst h; exact r⟩
  | _, _, i + 1, _, .cons _ t, h => by
    obtain ⟨y, h1, h2⟩ := pget (i := i) t (by simpa using h)
    exact ⟨y, by simpa using h1, h2⟩
/-! ### pairs of ints, in order -/
def lexB (a b : Int × Int) : Bool := decide (a.1 < b.1 ∨ (a.1 = b.1 ∧ a.2 < b.2))
def lexN (ms : List (Int × Int)) (i j : Nat) : Bool := lexB (ms.getD i (0, 0)) (ms.getD j (0, 0))
theorem lexN_swo (ms : List (Int × Int)) : Swo (lexN ms) where
  asym a b h := by
    have h := of_decide_eq_true h
    exact decide_eq_false (by omega)
  trans a b c h g := by
    have h := of_decide_eq_false h
    have g := of_decide_eq_false g
    exact decide_eq_false (by omega)
/-- a tuple of two ints in the heap -/
def PrAt (h : Heap) (v : Value) (m : Int × Int) : Prop := ∃ a o t u n, v = .ref a ∧ h.get? a = some o ∧ o.cls = .type "tuple" ∧ o.data = .seq #[.int m.1 t, .int m.2 u] n
theorem pr_tups {h : Heap} : ∀ {vs : List Value} {ms : List (Int × Int)}, Paired (PrAt h) vs ms → ∃ fs, KatTups h vs fs ∧ fs.length = vs.length ∧ ∀ f ∈ fs, ∃ i t, f = Value.int i t
  | _, _, .nil => ⟨[], trivial, rfl, fun f hf => by cases hf⟩
  | _, _, .cons ⟨a, o, t, u, n, e, ho, hc, hd⟩ r => by
    obtain ⟨fs, k, l, g⟩ := pr_tups r
    subst e
    refine ⟨_ :: fs, KatTups.cons ho hc hd rfl k, by simp [l], fun f hf => ?_⟩
    rcases List.mem_cons.mp hf with rfl | hf
    · exact ⟨_, _, rfl⟩
    · exact g f hf
section
variable {prog : Program} {w : World} {A : Around} {E : Value → Shared → Prop} {s : Shared}
theorem pr_kind {vs : List Value} {ms : List (Int × Int)} {Q : SortKind → Shared → Prop} (p : Paired (PrAt s.heap) vs ms) (h2 : 0 < vs.length) (h : Q (tuples' true) s) : wpAny (model prog w) A (keyKind' vs.toArray) Q E s := by
  obtain ⟨fs, k, l, g⟩ := pr_tups p
  refine kat_kind (T := .type "int") k (by omega) (fun v hv => ?_) (by rfl) h
  obtain ⟨i, t, rfl⟩ := g v hv
  exact Looks.of_pure rfl
theorem pr_lt {v v' : Value} {m m' : Int × Int} {C : Bool → Shared → Prop} (h : PrAt s.heap v m) (h' : PrAt s.heap v' m') (q : C (lexB m m') s) : wpAny (model prog w) A (keyLt' (tuples' true) v v') C E s := by
  obtain ⟨a, o, t, u, n, rfl, ho, hc, hd⟩ := h
  obtain ⟨a', o', t', u', n', rfl, ho', hc', hd'⟩ := h'
  refine kat_lt ho hd ho' hd' (kat_cons (wpAny_eqBool_int ?_))
  by_cases e : m.1 = m'.1
  · rw [show (m.1 == m'.1) = true by simp [e]]
    refine kat_yes (kat_cons (wpAny_eqBool_int ?_))
    by_cases e2 : m.2 = m'.2
    · rw [show (m.2 == m'.2) = true by simp [e2]]
      refine kat_yes (kat_nil ?_)
      have : lexB m m' = false := decide_eq_false (by omega)
      rw [this] at q
      exact q
    · rw [show (m.2 == m'.2) = false by simp [e2]]
      refine kat_no ?_
      refine kat_one _ _ (wpAny_lt_int ?_)
      have : lexB m m' = decide (m.2 < m'.2) := decide_eq_decide.mpr (by omega)
      rw [this] at q
      exact q
  · rw [show (m.1 == m'.1) = false by simp [e]]
    refine kat_no ?_
    refine oneLt_int ?_
    have : lexB m m' = decide (m.1 < m'.1) := decide_eq_decide.mpr (by omega)
    rw [this] at q
    exact q
/-- list.sort of tuples of two ints -/
theorem sort_prs {a : Addr} {vs : List Value} {ms : List (Int × Int)} {n : Nat} {P : PySem.Fin → Shared → Prop} (ho : s.heap.get? a = some (seqObj "list" vs.toArray n))
    (hp : Paired (PrAt s.heap) vs ms) (h1 : 0 < vs.length) (h64 : vs.length < 64)
    (h : ∀ (q : List Nat), q.Perm (List.range vs.length) → q.Pairwise (fun i j => lexN ms j i = false) → P (.done (.ret .none)) { s with heap := sortedHeap s.heap a vs (q.map fun i => vs.getD i Value.none).toArray }) :
    wpAny (model prog w) A (Builtin.«list.sort» ⟨[.ref a], []⟩) P E s := by
  rw [list_sort_plain]
  have ha : a < s.heap.objs.size := Heap.lt_size ho
  refine wpAny_bind (listItems_at ho rfl ?_)
  refine wpAny_bind (listUpdate_at ho rfl ?_)
  obtain ⟨e1, ho1⟩ : ∃ e1, (s.heap.update a (Obj.mapSeq fun _ => #[])).get? a = some (seqObj "list" #[] e1) := ⟨_, get?_update_seq ho (fun _ => #[])⟩
  refine wpAny_bind (seqEpoch_at ho1 rfl ?_)
  refine wpAny_bind (wpAny_newTuple ?_)
  refine wpAny_bind (wpAny_newList ?_)
  refine wpAny_holding ?_
  have ho6 : (((s.heap.update a (Obj.mapSeq fun _ => #[])).push (seqObj "tuple" vs.toArray 0)).push (seqObj "list" #[] 0)).get? a = some (seqObj "list" #[] e1) := by
    rw [Heap.get?_push_ne _ _ _ (by rw [size_push', Heap.size_update]; exact Nat.ne_of_lt (Nat.lt_succ_of_lt ha)), Heap.get?_push_ne _ _ _ (by rw [Heap.size_update]; exact Nat.ne_of_lt ha)]
    exact ho1
  have keep : ∀ b o, b ≠ a → s.heap.get? b = some o → (((s.heap.update a (Obj.mapSeq fun _ => #[])).push (seqObj "tuple" vs.toArray 0)).push (seqObj "list" #[] 0)).get? b = some o := fun b o hb e =>
    Heap.get?_push_of_some _ (Heap.get?_push_of_some _ (by rw [Heap.get?_update_ne _ _ _ _ hb]; exact e))
  have hp6 : Paired (PrAt (((s.heap.update a (Obj.mapSeq fun _ => #[])).push (seqObj "tuple" vs.toArray 0)).push (seqObj "list" #[] 0))) vs ms := Paired.mapP hp fun v m ⟨b, o, t, u, k, e, hb, hc, hd⟩ => by
    refine ⟨b, o, t, u, k, e, keep b o (fun z => ?_) hb, hc, hd⟩
    subst z
    rw [ho] at hb
    cases hb
    exact absurd (Value.type.inj hc) (by decide)
  show wpAny (model prog w) A _ P E { s with heap := ((s.heap.update a (Obj.mapSeq fun _ => #[])).push (seqObj "tuple" vs.toArray 0)).push (seqObj "list" #[] 0) }
  dsimp only
  have hsz : vs.toArray.size = vs.length := by simp
  by_cases h2 : vs.toArray.size < 2
  · rw [if_pos h2, if_pos h2]
    refine wpAny_bind (wpAny_pure ?_)
    rw [StateT.run_pure]
    refine wpAny_bind (wpAny_pure ?_)
    dsimp only
    refine wpAny_bind (seqEpoch_at ho6 rfl ?_)
    refine wpAny_bind (listUpdate_at ho6 rfl ?_ (hsz2 := by rw [Array.size_map]; show (pairsOf vs).size ≤ _; rw [pairsOf_size, sizeLine_eq]; omega))
    simp only [bne_self_eq_false, Bool.false_eq_true, if_false]
    obtain ⟨v, rfl⟩ : ∃ v, vs = [v] := by
      match vs, hsz, h2, h1 with
      | [], _, _, h1 => simp at h1
      | [v], _, _, _ => exact ⟨v, rfl⟩
      | _ :: _ :: _, _, h2, _ => simp at h2; omega
    have e : Array.map (fun x => x.2) (arrOf (SortSt.mk' general' (([v] : List Value).toArray.zip ([v] : List Value).toArray) #[] 7 none)) = (List.map (fun i => [v].getD i Value.none) [0]).toArray := by
      show Array.map _ (([v] : List Value).toArray.zip ([v] : List Value).toArray) = _
      simp
    have q := h [0] (by simp) (List.pairwise_singleton _ _)
    rw [← e] at q
    exact wpAny_pure q
  · rw [if_neg h2, if_neg h2]
    have h2' : 2 ≤ vs.length := by rw [hsz] at h2; omega
    obtain ⟨up, pm, sz⟩ := sort_ok (lexN_swo ms) h1
    refine wpAny_bind (pr_kind (s := { s with heap := ((s.heap.update a (Obj.mapSeq fun _ => #[])).push (seqObj "tuple" vs.toArray 0)).push (seqObj "list" #[] 0) }) hp6 h1 ?_)
    have ask : (kas_sort vs.length).kasWp (kas_ask prog w A (tuples' true) vs) (fun p s' => p = krun (lexN ms) (kas_sort vs.length) ∧ s' = { s with heap := ((s.heap.update a (Obj.mapSeq fun _ => #[])).push (seqObj "tuple" vs.toArray 0)).push (seqObj "list" #[] 0) }) { s with heap := ((s.heap.update a (Obj.mapSeq fun _ => #[])).push (seqObj "tuple" vs.toArray 0)).push (seqObj "list" #[] 0) } := by
      refine krun_wpN (n := vs.length) (lt := lexN ms) (fun i j C hi hj hC => ?_) _ (ask_sort h1) ⟨rfl, rfl⟩
      have hlen := Paired.length hp
      obtain ⟨mi, hmi, pi⟩ := pget hp6 (List.getElem?_eq_getElem hi)
      obtain ⟨mj, hmj, pj⟩ := pget hp6 (List.getElem?_eq_getElem hj)
      have ei : ms.getD i (0, 0) = mi := by rw [List.getD_eq_getElem?_getD, hmi]; rfl
      have ej : ms.getD j (0, 0) = mj := by rw [List.getD_eq_getElem?_getD, hmj]; rfl
      have vi : vs.getD i Value.none = vs[i] := by rw [List.getD_eq_getElem?_getD, List.getElem?_eq_getElem hi]; rfl
      have vj : vs.getD j Value.none = vs[j] := by rw [List.getD_eq_getElem?_getD, List.getElem?_eq_getElem hj]; rfl
      unfold kas_ask
      rw [vi, vj]
      unfold lexN at hC
      rw [ei, ej] at hC
      exact pr_lt (s := { s with heap := _ }) pi pj hC
    refine wpAny_bind (wpAny_mono (kat_run (Q := fun st' s' => arrOf st' = (krun (lexN ms) (kas_sort vs.length)).map (kas_item (vs.toArray.zip vs.toArray)) ∧ failedOf st' = none ∧ s' = { s with heap := ((s.heap.update a (Obj.mapSeq fun _ => #[])).push (seqObj "tuple" vs.toArray 0)).push (seqObj "list" #[] 0) })
      rfl h2' h64 (fun p' st' s' a1 a2 a3 a4 => ⟨by rw [a2, a4.1], a3, a4.2⟩) ask) ?_ fun _ _ e => e)
    rintro ⟨⟨⟩, st'⟩ s' ⟨har, hf, rfl⟩
    dsimp only
    have hout := kat_snds (vs := vs) (ks := vs) rfl har
    generalize hpq : (krun (lexN ms) (kas_sort vs.length)) = p at har hout up pm sz
    rw [hout]
    refine wpAny_bind (seqEpoch_at ho6 rfl ?_)
    refine wpAny_bind (listUpdate_at ho6 rfl ?_ (hsz2 := by rw [List.size_toArray, List.length_map, Array.length_toList, sz, sizeLine_eq]; omega))
    rw [hf]
    simp only [bne_self_eq_false, Bool.false_eq_true, if_false]
    refine wpAny_pure (h p.toList ?_ ?_)
    · have := pm.toList
      simpa using this
    · refine List.pairwise_iff_getElem.mpr fun i j hi hj hij => ?_
      have := up i j (by omega) (by rw [Array.length_toList, sz] at hj; exact hj)
      rw [Array.length_toList] at hi hj
      simpa [gA, Array.getD, hi, hj] using this
theorem sorted_prs {l : Addr} {vs : List Value} {ms : List (Int × Int)} {Q : Value → Shared → Prop} (hl : s.heap.IsList l vs.toArray) (hp : Paired (PrAt s.heap) vs ms) (h1 : 0 < vs.length) (h64 : vs.length < 64)
    (h : ∀ (q : List Nat), q.Perm (List.range vs.length) → q.Pairwise (fun i j => lexN ms j i = false) → Q (.ref (s.heap.objs.size + 1)) { s with heap := sortedAll s.heap vs (q.map fun i => vs.getD i Value.none).toArray }) :
    wpAny (model prog w) A (call (.builtin "sorted") [.ref l]) Q E s := by
  refine Calls.call_function_entry kind_sorted plain_sorted entry_sorted (args_sorted1 _) ?_
  unfold Builtin.«sorted»
  refine wpAny_bind (m := checkCount "sorted" 1 1 _) (wpAny_pure ?_)
  refine wpAny_bind (collect_list hl ?_)
  refine wpAny_bind (wpAny_newList ?_)
  have hsz : ((s.heap.push (seqObj "list" #[] 0)).update s.heap.objs.size (Obj.mapSeq (· ++ vs.toArray))).objs.size = s.heap.objs.size + 1 := by
    rw [Heap.size_update, size_push']
  have hoL : (((s.heap.push (seqObj "list" #[] 0)).update s.heap.objs.size (Obj.mapSeq (· ++ vs.toArray))).push (seqObj "list" vs.toArray 0)).get? (s.heap.objs.size + 1) = some (seqObj "list" vs.toArray 0) := by
    rw [← hsz]; exact Heap.get?_push_size _ rfl
  have keep : ∀ b o, s.heap.get? b = some o → (((s.heap.push (seqObj "list" #[] 0)).update s.heap.objs.size (Obj.mapSeq (· ++ vs.toArray))).push (seqObj "list" vs.toArray 0)).get? b = some o := fun b o q => by
    have hlt : b < s.heap.objs.size := Heap.lt_size q
    rw [Heap.get?_push_ne _ _ _ (by rw [hsz]; exact Nat.ne_of_lt (Nat.lt_succ_of_lt hlt)), Heap.get?_update_ne _ _ _ _ (Nat.ne_of_lt hlt), Heap.get?_push_ne _ _ _ (Nat.ne_of_lt hlt)]
    exact q
  have hp' : Paired (PrAt (((s.heap.push (seqObj "list" #[] 0)).update s.heap.objs.size (Obj.mapSeq (· ++ vs.toArray))).push (seqObj "list" vs.toArray 0))) vs ms := Paired.mapP hp fun v m ⟨b, o, t, u, k, e, hb, hc, hd⟩ => ⟨b, o, t, u, k, e, keep b o hb, hc, hd⟩
  show wpAny _ _ _ _ _ { s with heap := ((s.heap.push (seqObj "list" #[] 0)).update s.heap.objs.size (Obj.mapSeq (· ++ vs.toArray))).push (seqObj "list" vs.toArray 0) }
  rw [hsz]
  refine wpAny_bind (wpAny_holding (wpAny_call_entry slot_list_sort ⟨_, hoL, rfl⟩ entry_list_sort (sort_prs (s := { s with heap := _ }) hoL hp' h1 h64 fun q a1 a2 => ⟨_, rfl, ?_⟩) (args_list_sort _)))
  exact wpAny_pure ⟨_, rfl, h q a1 a2⟩
end
theorem keep_sorted {h : Heap} {vs : List Value} {out : Array Value} : (∀ b o, h.get? b = some o → (sortedAll h vs out).get? b = some o) ∧ ∃ c, (sortedAll h vs out).get? (h.objs.size + 1) = some (seqObj "list" out c) := by
  have hsz : ((h.push (seqObj "list" #[] 0)).update h.objs.size (Obj.mapSeq (· ++ vs.toArray))).objs.size = h.objs.size + 1 := by
    rw [Heap.size_update, size_push']
  have hoL : (((h.push (seqObj "list" #[] 0)).update h.objs.size (Obj.mapSeq (· ++ vs.toArray))).push (seqObj "list" vs.toArray 0)).get? (h.objs.size + 1) = some (seqObj "list" vs.toArray 0) := by
    rw [← hsz]; exact Heap.get?_push_size _ rfl
  have keep : ∀ b o, h.get? b = some o → (((h.push (seqObj "list" #[] 0)).update h.objs.size (Obj.mapSeq (· ++ vs.toArray))).push (seqObj "list" vs.toArray 0)).get? b = some o := fun b o q => by
    have hlt : b < h.objs.size := Heap.lt_size q
    rw [Heap.get?_push_ne _ _ _ (by rw [hsz]; exact Nat.ne_of_lt (Nat.lt_succ_of_lt hlt)), Heap.get?_update_ne _ _ _ _ (Nat.ne_of_lt hlt), Heap.get?_push_ne _ _ _ (Nat.ne_of_lt hlt)]
    exact q
  unfold sortedAll
  generalize ((h.push (seqObj "list" #[] 0)).update h.objs.size (Obj.mapSeq (· ++ vs.toArray))).push (seqObj "list" vs.toArray 0) = h1 at hoL keep
  unfold sortedHeap
  have e1 := get?_update_seq hoL (fun _ => (#[] : Array Value))
  have e2 := Heap.get?_push_of_some (seqObj "tuple" vs.toArray 0) e1
  have e3 := Heap.get?_push_of_some (seqObj "list" #[] 0) e2
  refine ⟨fun b o q => ?_, _, get?_update_seq e3 (fun _ => out)⟩
  have hlt : b < h.objs.size := Heap.lt_size q
  have nb : b ≠ h.objs.size + 1 := Nat.ne_of_lt (Nat.lt_succ_of_lt hlt)
  rw [Heap.get?_update_ne _ _ _ _ nb]
  exact Heap.get?_push_of_some _ (Heap.get?_push_of_some _ (by rw [Heap.get?_update_ne _ _ _ _ nb]; exact keep _ _ q))
/-- tuples of two ints, told -/
def ArePr (H : Hp) : List V → List (Int × Int) → Prop := Paired fun v m => ∃ a, v = .ref a ∧ H a = some (.tup [.int m.1, .int m.2])
section
variable {X : Cx}
theorem call_sortedP {K : PySem.W.Frag} (hK : X.K = K) : CallR X (.builtin "sorted") (fun xs H Q => ∃ p ys ms, xs = [.ref p] ∧ SqL K H p ys ∧ ArePr H ys ms ∧ 0 < ys.length ∧ ys.length < 64 ∧
    ∀ l (q : List Nat), H l = none → q.Perm (List.range ys.length) → q.Pairwise (fun i j => lexN ms j i = false) → Q (.ref l) (upd H l (.lst (q.map fun i => ys.getD i .non)))) := by
  subst hK
  intro pins s σ H xs us Q I r h
  obtain ⟨p, ys, ms, rfl, hq, hp, h1, h64, q⟩ := h
  obtain ⟨u, rfl, rx⟩ := vals1 r
  cases rx
  obtain ⟨its, r', pl, hz⟩ := I.list hq
  have hlen := r'.length
  have hpr : ∀ {ys : List V} {its : List Value} {ms : List (Int × Int)}, Vals ys its → ArePr H ys ms → Paired (PrAt s.heap) its ms := by
    intro ys its ms rv ap
    induction rv generalizing ms with
    | nil => cases ap; exact .nil
    | cons hv _ ih =>
      cases ap with
      | cons hm t =>
        refine .cons ?_ (ih t)
        obtain ⟨a, rfl, ha⟩ := hm
        cases hv
        obtain ⟨its2, r2, pl2, _⟩ := I.tuple (SqT.of ha)
        obtain ⟨o, ho, hc, n, hd⟩ := pl2
        cases r2 with
        | cons v1 r3 =>
          cases r3 with
          | cons v2 r4 =>
            cases r4
            obtain ⟨t1, rfl⟩ := v1
            obtain ⟨t2, rfl⟩ := v2
            exact ⟨a, o, t1, t2, n, rfl, ho, hc, hd⟩
  refine sorted_prs pl.isList (hpr r' hp) (by omega) (by omega) fun w a1 a2 => ?_
  rw [← hlen] at a1
  obtain ⟨kp, c, e⟩ := keep_sorted (h := s.heap) (vs := its) (out := (w.map fun i => its.getD i Value.none).toArray)
  have hw : w.length = ys.length := by rw [a1.length_eq, List.length_range]
  have rv : Vals (w.map fun i => ys.getD i .non) (w.map fun i => its.getD i Value.none) := by
    have hb : ∀ i ∈ w, i < ys.length := fun i hi => List.mem_range.mp (a1.mem_iff.mp hi)
    clear a1 a2 hw e kp
    induction w with
    | nil => exact .nil
    | cons i w ih =>
      refine .cons ?_ (ih fun j hj => hb j (List.mem_cons_of_mem _ hj))
      have hi := hb i (List.mem_cons_self ..)
      obtain ⟨u, hu, ru⟩ := Vals.get r' (List.getElem?_eq_getElem hi)
      show RelV (ys.getD i V.non) (its.getD i Value.none)
      rw [List.getD_eq_getElem?_getD, List.getD_eq_getElem?_getD, List.getElem?_eq_getElem hi, hu]
      exact ru
  exact ⟨.ref (s.heap.objs.size + 1), _, I.laid (t' := s.toks) kp (Nat.le_succ _) (show ObjOk X.prog X.w _ (sortedAll s.heap its _) _ (.lst (w.map fun i => ys.getD i .non)) from ⟨by rw [List.length_map, hw]; exact hz, _, c, rv, e⟩), rfl, q _ w (I.hok.fresh (Nat.le_succ _)) a1 a2⟩
theorem call_absI : CallR X (.builtin "abs") (fun xs H Q => ∃ i, xs = [.int i] ∧ Q (.int (if i < 0 then -i else i)) H) := by
  intro pins s σ H xs us Q I r h
  obtain ⟨i, rfl, q⟩ := h
  obtain ⟨u, rfl, t, rfl⟩ := vals1 r
  exact call_abs_int fun u tk => ⟨.int (if i < 0 then -i else i), H, I.tok tk, ⟨_, rfl⟩, q⟩
end
end L2
namespace Toy
open PySem PySem.Spec PyProof.Rows L2
def top (i : Nat) : Stmt := PySem.Challenge.pw_waithouse_k26_whole_schedules_in_order.main.body.getD i (.Pass ⟨0, 0, 0, 0⟩)
abbrev s_lies_between : Stmt := top 4
abbrev s_least_time : Stmt := top 6
abbrev s_greatest_time : Stmt := top 7
abbrev s_points_set : Stmt := top 8
abbrev s_points_open : Stmt := top 9
abbrev s_limit : Stmt := top 11
abbrev s_course : Stmt := top 13
abbrev s_turn : Stmt := top 15
abbrev s_must_follow : Stmt := top 17
abbrev s_wide : Stmt := top 21
abbrev s_wide_row : Stmt := top 22
abbrev s_table_of : Stmt := top 23
abbrev s_held : Stmt := top 24
abbrev s_shuts : Stmt := top 25
abbrev s_held_row : Stmt := top 26
abbrev s_total : Stmt := top 27
abbrev s_lesser : Stmt := top 28
abbrev s_law_cell : Stmt := top 30
abbrev s_law_bag : Stmt := top 32
abbrev s_law_take : Stmt := top 33
abbrev s_law_big : Stmt := top 34
abbrev s_law_bounds : Stmt := top 35
abbrev s_law_done : Stmt := top 36
abbrev s_law : Stmt := top 37
abbrev s_Clock___init__ : Stmt := inClass (top 19) 0
abbrev s_Clock_now : Stmt := inClass (top 19) 1
abbrev s_Clock_setting : Stmt := inClass (top 19) 2
abbrev s_Clock_limit : Stmt := inClass (top 19) 3
abbrev s_Clock_turn : Stmt := inClass (top 19) 4
abbrev s_Clock_wait : Stmt := inClass (top 19) 6
abbrev s_Clock_mark : Stmt := inClass (top 19) 7
structure Cl where
  WaitError : Addr
  NoTime : Addr
  Clock : Addr
structure Txt (K : PySem.W.Frag) (mg : Str → Option Value) (cl : Cl) : Prop where
  z_abs : mg "abs" = none
  z_any : mg "any" = none
  z_len : mg "len" = none
  z_list : mg "list" = none
  z_max : mg "max" = none
  z_min : mg "min" = none
  z_range : mg "range" = none
  z_sorted : mg "sorted" = none
  z_tuple : mg "tuple" = none
  g_WaitError : mg "WaitError" = some (.ref cl.WaitError)
  g_NoTime : mg "NoTime" = some (.ref cl.NoTime)
  g_Clock : mg "Clock" = some (.ref cl.Clock)
  x_NoTime : PySem.W.excIn K cl.NoTime VB "ValueError.__new__" = true
  k_NoTime : ExcK K cl.NoTime
  h_NoTime : HdK K cl.NoTime
  cl_Clock : Cls K cl.Clock
  n_Clock_rows : NoAttr K cl.Clock "rows"
  n_Clock_times : NoAttr K cl.Clock "times"
  n_Clock_present : NoAttr K cl.Clock "present"
/-- the gap is kept -/
def okLow (s : Int) : Option Int → Bool
  | none => true
  | some l => decide (l ≤ s)
def okHigh (s : Int) : Option Int → Bool
  | none => true
  | some h => decide (s ≤ h)
def kept (s : Int) (low high : Option Int) : Bool := okLow s low && okHigh s high
/-- the time from a to b -/
def tm (ns : List Int) (a b : Int) : Int := ns.getD b.toNat 0 - ns.getD a.toNat 0
def sp_law_cell (K : PySem.W.Frag) : Sp := fun vs H Q _ => ∃ (a : Addr) (ns : List Int) (k : Int), vs = [.ref a, .int k] ∧ SqL K H a (ns.map V.int) ∧ ns.length ≤ 63 ∧ 0 ≤ k ∧ k ≤ 100 ∧ ∀ i : Int, Q (.int i) H
def sp_law (K : PySem.W.Frag) : Sp := fun vs H Q _ => ∃ (a : Addr) (ns : List Int), vs = [.ref a] ∧ SqL K H a (ns.map V.int) ∧ ns.length ≤ 63 ∧ ∀ H', Q (.bl true) H'
/-! bounds: triples of numbers, each a tuple of its own -/
abbrev Bd := Int × Int × Int
def bv (m : Bd) : List V := [.int m.1, .int m.2.1, .int m.2.2]
def AreB (H : Hp) : List V → List Bd → Prop := Paired fun v m => ∃ p, v = .ref p ∧ H p = some (.tup (bv m))
theorem AreB.same {H H' : Hp} {vs : List V} {ms : List Bd} (s : Same H H') (h : AreB H vs ms) : AreB H' vs ms := Paired.mapP h fun _ _ ⟨p, e, q⟩ => ⟨p, e, s _ _ q⟩
theorem AreB.len {H : Hp} {vs : List V} {ms : List Bd} (h : AreB H vs ms) : vs.length = ms.length := Paired.length h
theorem AreB.get {H : Hp} : ∀ {vs : List V} {ms : List Bd} {i : Nat} {v : V}, AreB H vs ms → vs[i]? = some v → ∃ p m, ms[i]? = some m ∧ v = .ref p ∧ H p = some (.tup (bv m))
  | _, _, _, _, .nil, e => by simp at e
  | _, _, 0, _, .cons ⟨p, e1, q⟩ _, e => by
    simp at e
    exact ⟨p, _, rfl, e.symm.trans e1, q⟩
  | _, _, i + 1, v, .cons _ t, e => by
    obtain ⟨p, m, h1, h2⟩ := AreB.get (i := i) (v := v) t (by simpa using e)
    exact ⟨p, m, by simpa using h1, h2⟩
theorem AreB.snoc {H : Hp} {vs : List V} {ms : List Bd} {p : Addr} {m : Bd} (h : AreB H vs ms) (e : H p = some (.tup (bv m))) : AreB H (vs ++ [.ref p]) (ms ++ [m]) := Paired.snoc h ⟨p, rfl, e⟩
theorem atI_of {α : Type} {xs : List α} {i : Int} {n : Nat} {v : α} (h0 : 0 ≤ i) (hn : i.toNat = n) (h : xs[n]? = some v) : atI xs i = some v := by
  have e : i = ((n : Nat) : Int) := by omega
  rw [e]
  exact atI_nat h
def bKept (ms : List Int) (m : Bd) : Bool := decide (tm ms m.1 m.2.1 ≤ m.2.2)
/-! tables, chains, rings: the mathematics of bounds -/
abbrev Tab := List (List (Option Int))
def ent (t : Tab) (a b : Int) : Option Int := (t.getD a.toNat []).getD b.toNat none
def inN (a : Int) (n : Nat) : Prop := 0 ≤ a ∧ a < n
inductive Path (bs : List Bd) : Int → Int → Int → Prop where
  | nil (a : Int) : Path bs a a 0
  | cons {a x b c d : Int} (h : (a, x, c) ∈ bs) (r : Path bs x b d) : Path bs a b (c + d)
theorem Path.one {bs : List Bd} {a b c : Int} (h : (a, b, c) ∈ bs) : Path bs a b c := by
  have q := Path.cons h (.nil b)
  rw [Int.add_zero] at q
  exact q
theorem Path.trans {bs : List Bd} {a b c d e : Int} (p : Path bs a b c) : Path bs b d e → Path bs a d (c + e) := by
  induction p with
  | nil a => intro q; rw [Int.zero_add]; exact q
  | cons h r ih =>
    intro q
    rw [Int.add_assoc]
    exact .cons h (ih q)
theorem Path.mono {bs cs : List Bd} {a b c : Int} (p : Path bs a b c) (h : ∀ m ∈ bs, m ∈ cs) : Path cs a b c := by
  induction p with
  | nil a => exact .nil a
  | cons k r ih => exact .cons (h _ k) ih
theorem Path.keep {bs : List Bd} {ns : List Int} (hk : ∀ m ∈ bs, bKept ns m = true) {a b c : Int} (p : Path bs a b c) : tm ns a b ≤ c := by
  induction p with
  | nil a => unfold tm; omega
  | cons h r ih =>
    have q : tm ns _ _ ≤ _ := of_decide_eq_true (hk _ h)
    unfold tm at q ih ⊢
    simp only at q
    omega
def Within (n : Nat) (bs : List Bd) : Prop := ∀ m ∈ bs, inN m.1 n ∧ inN m.2.1 n
def NegR (bs : List Bd) : Prop := ∃ a c, c < 0 ∧ Path bs a a c
/-- t is the table of the bounds -/
structure Right (n : Nat) (bs : List Bd) (t : Tab) : Prop where
  len : t.length = n
  row : ∀ r ∈ t, r.length = n
  low : ∀ a b c, inN a n → inN b n → Path bs a b c → ∃ e, ent t a b = some e ∧ e ≤ c
  hit : ∀ a b e, inN a n → inN b n → ent t a b = some e → Path bs a b e
theorem Right.self {n : Nat} {bs : List Bd} {t : Tab} (R : Right n bs t) {a : Int} (ha : inN a n) : ent t a a = some 0 := by
  obtain ⟨e, h1, h2⟩ := R.low a a 0 ha ha (.nil a)
  have p := R.hit a a e ha ha h1
  obtain ⟨e', h3, h4⟩ := R.low a a (e + e) ha ha (p.trans p)
  rw [h1] at h3
  cases h3
  have : e = 0 := by omega
  rw [h1, this]
theorem Right.tri {n : Nat} {bs : List Bd} {t : Tab} (R : Right n bs t) {a p b x y : Int} (ha : inN a n) (hp : inN p n) (hb : inN b n) (h1 : ent t a p = some x) (h2 : ent t p b = some y) : ∃ e, ent t a b = some e ∧ e ≤ x + y :=
  R.low a b (x + y) ha hb ((R.hit a p x ha hp h1).trans (R.hit p b y hp hb h2))
def Lies (n : Nat) (t : Tab) (ns : List Int) : Prop := ∀ a b, inN a n → inN b n → ∀ e, ent t a b = some e → tm ns a b ≤ e
theorem Right.lies {n : Nat} {bs : List Bd} {t : Tab} (R : Right n bs t) {ns : List Int} (hk : ∀ m ∈ bs, bKept ns m = true) : Lies n t ns := fun a b ha hb e h => (R.hit a b e ha hb h).keep hk
theorem noneg_kept {bs : List Bd} {ns : List Int} (hk : ∀ m ∈ bs, bKept ns m = true) : ¬ NegR bs := by
  rintro ⟨a, c, hc, p⟩
  have := p.keep hk
  unfold tm at this
  omega
theorem ent_nat (t : Tab) (i j : Nat) : ent t (i : Int) (j : Int) = (t.getD i []).getD j none := by
  unfold ent; rw [Int.toNat_natCast, Int.toNat_natCast]
/-! tables in the heap -/
def RowsAt (H : Hp) : List Addr → Tab → Prop := Paired fun r row => H r = some (.lst (row.map ov))
structure TabAt (H : Hp) (p : Addr) (rs : List Addr) (t : Tab) : Prop where
  ob : H p = some (.lst (rs.map V.ref))
  rows : RowsAt H rs t
def Square (n : Nat) (t : Tab) : Prop := t.length = n ∧ ∀ r ∈ t, r.length = n
theorem Right.square {n : Nat} {bs : List Bd} {t : Tab} (R : Right n bs t) : Square n t := ⟨R.len, R.row⟩
theorem TabAt.same {H H' : Hp} {p : Addr} {rs : List Addr} {t : Tab} (s : Same H H') (h : TabAt H p rs t) : TabAt H' p rs t := ⟨s _ _ h.ob, Paired.mapP h.rows fun _ _ q => s _ _ q⟩
theorem paired_get {α β : Type} {F : α → β → Prop} : ∀ {l₁ : List α} {l₂ : List β} {i : Nat} {x : α}, Paired F l₁ l₂ → l₁[i]? = some x → ∃ y, l₂[i]? = some y ∧ F x y
  | _, _, _, _, .nil, e => by simp at e
  | _, _, 0, _, .cons r _, e => by simp at e; subst e; exact ⟨_, rfl, r⟩
  | _, _, i + 1, x, .cons _ t, e => by
    obtain ⟨y, h1, h2⟩ := paired_get (i := i) (x := x) t (by simpa using e)
    exact ⟨y, by simpa using h1, h2⟩
theorem TabAt.at {H : Hp} {p : Addr} {rs : List Addr} {t : Tab} {n : Nat} (T : TabAt H p rs t) (S : Square n t) {a b : Int} (ha : inN a n) (hb : inN b n) :
    ∃ (r : Addr) (row : List (Option Int)), atI (rs.map V.ref) a = some (.ref r) ∧ H r = some (.lst (row.map ov)) ∧ atI (row.map ov) b = some (ov (ent t a b)) := by
  have hl := Paired.length T.rows
  have h1 : a.toNat < rs.length := by have := ha.1; have := ha.2; have := S.1; omega
  obtain ⟨row, e1, e2⟩ := paired_get T.rows (List.getElem?_eq_getElem h1)
  have hr := S.2 row (List.mem_of_getElem? e1)
  have h2 : b.toNat < row.length := by have := hb.1; have := hb.2; omega
  refine ⟨rs[a.toNat], row, atI_of ha.1 rfl ?_, e2, atI_of hb.1 rfl ?_⟩
  · rw [List.getElem?_map, List.getElem?_eq_getElem h1]; rfl
  · have q : ent t a b = row[b.toNat] := by
      unfold ent
      simp only [List.getD_eq_getElem?_getD]
      rw [e1, Option.getD_some, List.getElem?_eq_getElem h2, Option.getD_some]
    rw [q, List.getElem?_map, List.getElem?_eq_getElem h2]
    rfl
/-! the program's tables: mathematics -/
def tot : Option Int → Option Int → Option Int
  | some x, some y => some (x + y)
  | _, _ => none
def les : Option Int → Option Int → Option Int
  | none, y => y
  | some x, none => some x
  | some x, some y => some (if y < x then y else x)
def mkT (n : Nat) (f : Int → Int → Option Int) : Tab := (List.range n).map fun (i : Nat) => (List.range n).map fun (j : Nat) => f (i : Int) (j : Int)
theorem mkT_square (n : Nat) (f : Int → Int → Option Int) : Square n (mkT n f) := by
  refine ⟨by unfold mkT; simp, fun r hr => ?_⟩
  unfold mkT at hr
  obtain ⟨i, _, e⟩ := List.mem_map.mp hr
  rw [← e]; simp
theorem mkT_ent {n : Nat} (f : Int → Int → Option Int) {a b : Int} (ha : inN a n) (hb : inN b n) : ent (mkT n f) a b = f a b := by
  obtain ⟨i, rfl⟩ : ∃ i : Nat, a = (i : Int) := ⟨a.toNat, by have := ha.1; omega⟩
  obtain ⟨j, rfl⟩ : ∃ j : Nat, b = (j : Int) := ⟨b.toNat, by have := hb.1; omega⟩
  have hi : i < n := by have := ha.2; omega
  have hj : j < n := by have := hb.2; omega
  rw [ent_nat]
  unfold mkT
  simp [List.getD_eq_getElem?_getD, hi, hj]
def wideT (n : Nat) : Tab := mkT n fun a b => if a = b then some 0 else none
def heldF (t : Tab) (m : Bd) (a b : Int) : Option Int := les (ent t a b) (tot (tot (ent t a m.1) (some m.2.2)) (ent t m.2.1 b))
def heldT (n : Nat) (t : Tab) (m : Bd) : Tab := mkT n (heldF t m)
def shutB (t : Tab) (m : Bd) : Bool := match ent t m.2.1 m.1 with
  | none => false
  | some e => decide (e + m.2.2 < 0)
theorem Path.none {a b c : Int} (p : Path [] a b c) : a = b ∧ c = 0 := by
  cases p with
  | nil => exact ⟨rfl, rfl⟩
  | cons h _ => exact (nomatch h)
theorem wide_right (n : Nat) : Right n [] (wideT n) where
  len := (mkT_square n _).1
  row := (mkT_square n _).2
  low a b c ha hb p := by
    obtain ⟨rfl, rfl⟩ := p.none
    exact ⟨0, by unfold wideT; rw [mkT_ent _ ha hb, if_pos rfl], Int.le_refl _⟩
  hit a b e ha hb h := by
    unfold wideT at h
    rw [mkT_ent _ ha hb] at h
    by_cases q : a = b
    · rw [if_pos q] at h
      cases h
      rw [q]; exact .nil b
    · rw [if_neg q] at h; cases h
theorem held_old {t : Tab} {m : Bd} {a b e : Int} (h : ent t a b = some e) : ∃ f, heldF t m a b = some f ∧ f ≤ e := by
  unfold heldF
  rw [h]
  cases tot (tot (ent t a m.1) (some m.2.2)) (ent t m.2.1 b) with
  | none => exact ⟨e, rfl, Int.le_refl _⟩
  | some y =>
    refine ⟨_, rfl, ?_⟩
    split <;> omega
theorem held_new {t : Tab} {m : Bd} {a b e1 e2 : Int} (h1 : ent t a m.1 = some e1) (h2 : ent t m.2.1 b = some e2) : ∃ f, heldF t m a b = some f ∧ f ≤ e1 + m.2.2 + e2 := by
  unfold heldF
  rw [h1, h2]
  cases ent t a b with
  | none => exact ⟨_, rfl, Int.le_refl _⟩
  | some x =>
    refine ⟨_, rfl, ?_⟩
    split <;> omega
theorem held_from {t : Tab} {m : Bd} {a b e : Int} (h : heldF t m a b = some e) : ent t a b = some e ∨ ∃ e1 e2, ent t a m.1 = some e1 ∧ ent t m.2.1 b = some e2 ∧ e = e1 + m.2.2 + e2 := by
  unfold heldF at h
  cases h1 : ent t a m.1 with
  | none =>
    rw [h1] at h
    have e0 : tot (tot none (some m.2.2)) (ent t m.2.1 b) = none := by cases ent t m.2.1 b <;> rfl
    rw [e0] at h
    cases h3 : ent t a b with
    | none => rw [h3] at h; cases h
    | some x => rw [h3] at h; exact .inl h
  | some e1 =>
    rw [h1] at h
    cases h2 : ent t m.2.1 b with
    | none =>
      rw [h2] at h
      have e0 : tot (tot (some e1) (some m.2.2)) none = none := rfl
      rw [e0] at h
      cases h3 : ent t a b with
      | none => rw [h3] at h; cases h
      | some x => rw [h3] at h; exact .inl h
    | some e2 =>
      rw [h2] at h
      have e0 : tot (tot (some e1) (some m.2.2)) (some e2) = some (e1 + m.2.2 + e2) := rfl
      rw [e0] at h
      cases h3 : ent t a b with
      | none => rw [h3] at h; exact .inr ⟨e1, e2, rfl, rfl, (Option.some.inj h).symm⟩
      | some x =>
        rw [h3] at h
        have h' := Option.some.inj h
        by_cases c : e1 + m.2.2 + e2 < x
        · rw [if_pos c] at h'
          exact .inr ⟨e1, e2, rfl, rfl, h'.symm⟩
        · rw [if_neg c] at h'
          exact .inl (by rw [h'])
theorem shut_neg {n : Nat} {bs : List Bd} {t : Tab} {m : Bd} (R : Right n bs t) (h1 : inN m.1 n) (h2 : inN m.2.1 n) (h : shutB t m = true) : NegR (bs ++ [m]) := by
  unfold shutB at h
  cases e : ent t m.2.1 m.1 with
  | none => rw [e] at h; cases h
  | some z =>
    rw [e] at h
    have h' : z + m.2.2 < 0 := of_decide_eq_true h
    have p := (R.hit _ _ z h2 h1 e).mono (cs := bs ++ [m]) fun x hx => List.mem_append_left _ hx
    exact ⟨m.1, m.2.2 + z, by omega, .cons (List.mem_append_right _ (List.mem_singleton.mpr rfl)) p⟩
theorem held_low {n : Nat} {bs : List Bd} {t : Tab} {m : Bd} (R : Right n bs t) (hw : Within n (bs ++ [m])) (h : shutB t m = false) {a b d : Int} (p : Path (bs ++ [m]) a b d) : inN a n → inN b n → ∃ e, heldF t m a b = some e ∧ e ≤ d := by
  have hm := hw m (List.mem_append_right _ (List.mem_singleton.mpr rfl))
  induction p with
  | nil a => exact fun ha _ => held_old (R.self ha)
  | @cons a z b k d' hin r ih =>
    intro ha hb
    have hz : inN z n := (hw _ hin).2
    obtain ⟨e, g1, g2⟩ := ih hz hb
    rcases List.mem_append.mp hin with hin | hin
    · obtain ⟨k', q1, q2⟩ := R.low a z k ha hz (.one hin)
      rcases held_from g1 with g | ⟨e1, e2, f1, f2, f3⟩
      · obtain ⟨x, y1, y2⟩ := R.tri ha hz hb q1 g
        obtain ⟨f, w1, w2⟩ := held_old (m := m) y1
        exact ⟨f, w1, by omega⟩
      · obtain ⟨x, y1, y2⟩ := R.tri ha hz hm.1 q1 f1
        obtain ⟨f, w1, w2⟩ := held_new y1 f2
        exact ⟨f, w1, by omega⟩
    · have em := List.mem_singleton.mp hin
      have ea : a = m.1 := by rw [← em]
      have ez : z = m.2.1 := by rw [← em]
      have ek : k = m.2.2 := by rw [← em]
      subst ea ez ek
      rcases held_from g1 with g | ⟨e1, e2, f1, f2, f3⟩
      · obtain ⟨f, w1, w2⟩ := held_new (R.self ha) g
        exact ⟨f, w1, by omega⟩
      · obtain ⟨f, w1, w2⟩ := held_new (R.self ha) f2
        unfold shutB at h
        rw [f1] at h
        have h' : ¬ e1 + m.2.2 < 0 := of_decide_eq_false h
        exact ⟨f, w1, by omega⟩
theorem held_right {n : Nat} {bs : List Bd} {t : Tab} {m : Bd} (R : Right n bs t) (hw : Within n (bs ++ [m])) (h : shutB t m = false) : Right n (bs ++ [m]) (heldT n t m) where
  len := (mkT_square n _).1
  row := (mkT_square n _).2
  low a b c ha hb p := by
    unfold heldT
    rw [mkT_ent _ ha hb]
    exact held_low R hw h p ha hb
  hit a b e ha hb q := by
    have hm := hw m (List.mem_append_right _ (List.mem_singleton.mpr rfl))
    unfold heldT at q
    rw [mkT_ent _ ha hb] at q
    have mo : ∀ x ∈ bs, x ∈ bs ++ [m] := fun x hx => List.mem_append_left _ hx
    rcases held_from q with g | ⟨e1, e2, f1, f2, f3⟩
    · exact (R.hit a b e ha hb g).mono mo
    · have p1 := (R.hit a m.1 e1 ha hm.1 f1).mono mo
      have p2 := (R.hit m.2.1 b e2 hm.2 hb f2).mono mo
      have p0 : Path (bs ++ [m]) m.1 m.2.1 m.2.2 := .one (List.mem_append_right _ (List.mem_singleton.mpr rfl))
      rw [f3]
      exact (p1.trans p0).trans p2
theorem NegR.mono {bs cs : List Bd} (h : NegR bs) (hs : ∀ m ∈ bs, m ∈ cs) : NegR cs := by
  obtain ⟨a, c, hc, p⟩ := h
  exact ⟨a, c, hc, p.mono hs⟩
/-! tables in the heap, made new -/
theorem TabAt.rowAt {H : Hp} {p : Addr} {rs : List Addr} {t : Tab} {n : Nat} (T : TabAt H p rs t) (S : Square n t) {a : Int} (ha : inN a n) :
    ∃ (r : Addr) (row : List (Option Int)), atI (rs.map V.ref) a = some (.ref r) ∧ H r = some (.lst (row.map ov)) ∧ row.length = n ∧ ∀ b, inN b n → atI (row.map ov) b = some (ov (ent t a b)) := by
  have hl := Paired.length T.rows
  have h1 : a.toNat < rs.length := by have := ha.1; have := ha.2; have := S.1; omega
  obtain ⟨row, e1, e2⟩ := paired_get T.rows (List.getElem?_eq_getElem h1)
  have hr := S.2 row (List.mem_of_getElem? e1)
  refine ⟨rs[a.toNat], row, atI_of ha.1 rfl ?_, e2, hr, fun b hb => atI_of hb.1 rfl ?_⟩
  · rw [List.getElem?_map, List.getElem?_eq_getElem h1]; rfl
  · have h2 : b.toNat < row.length := by have := hb.1; have := hb.2; omega
    have q : ent t a b = row[b.toNat] := by
      unfold ent
      simp only [List.getD_eq_getElem?_getD]
      rw [e1, Option.getD_some, List.getElem?_eq_getElem h2, Option.getD_some]
    rw [q, List.getElem?_map, List.getElem?_eq_getElem h2]
    rfl
theorem TabAt.len {H : Hp} {p : Addr} {rs : List Addr} {t : Tab} {n : Nat} (T : TabAt H p rs t) (S : Square n t) : (rs.map V.ref).length = n := by
  rw [List.length_map, Paired.length T.rows]; exact S.1
structure NewT (H H' : Hp) (p : Addr) (rs : List Addr) (t : Tab) : Prop where
  p0 : H p = none
  r0 : ∀ r ∈ rs, H r = none
  nd : (p :: rs).Nodup
  sm : Same H H'
  tb : TabAt H' p rs t
theorem none_of {H H' : Hp} (s : Same H H') {p : Addr} (h : H' p = none) : H p = none := by
  cases e : H p with
  | none => rfl
  | some o => rw [s _ _ e] at h; cases h
/-- a comprehension over a range that makes a new row in each turn -/
theorem comp_rows {n : Nat} {fr : List Nat} {te : TE} {σ : L2.St} {H : Hp} {Q : VK} (f : Nat → List (Option Int)) (hn : n ≤ sizeLine)
    (hs : ∀ i H1, i < n → Same H H1 → ∀ R : VK, (∀ r H2, H1 r = none → Same H1 H2 → H2 r = some (.lst ((f i).map ov)) → R (.ref r) H2) → te ((compSt σ fr).set 0 (some (.int (0 + (i : Int))))) H1 R)
    (hd : ∀ p rs H', NewT H H' p rs ((List.range n).map f) → Q (.ref p) H') : CompGo fr tYes te σ Q (Itr 0 n) H := by
  refine comp_range (lo := 0) (n := n) (fun i acc H1 => Same H H1 ∧ ∃ rs : List Addr, acc = rs.map V.ref ∧ (∀ r ∈ rs, H r = none) ∧ rs.Nodup ∧ RowsAt H1 rs ((List.range i).map f)) hn ⟨fun _ _ e => e, [], rfl, fun _ h => (nomatch h), .nil, .nil⟩
    (fun i acc H1 ⟨_, rs, e, _, _, w⟩ => by rw [e, List.length_map, Paired.length w]; simp) ?_ ?_
  · rintro i acc H1 hi ⟨s1, rs, rfl, r0, nd, w⟩ R kR
    refine hs i H1 hi s1 _ fun r H2 n0 s2 e2 => kR _ _ ⟨s1.trans s2, rs ++ [r], by simp, fun x hx => ?_, ?_, ?_⟩
    · rcases List.mem_append.mp hx with hx | hx
      · exact r0 x hx
      · rw [List.mem_singleton.mp hx]; exact none_of s1 n0
    · rw [List.nodup_append]
      refine ⟨nd, by simp, fun x hx y hy => ?_⟩
      rw [List.mem_singleton.mp hy]
      rintro rfl
      obtain ⟨k, hk⟩ := List.mem_iff_getElem?.mp hx
      obtain ⟨_, _, q⟩ := paired_get w hk
      rw [q] at n0; cases n0
    · rw [List.range_succ, List.map_append]
      exact Paired.snoc (Paired.mapP w fun _ _ q => s2 _ _ q) e2
  · rintro acc H1 ⟨s1, rs, rfl, r0, nd, w⟩ p hp
    have hne : ∀ x ∈ rs, x ≠ p := fun x hx e => by
      obtain ⟨k, hk⟩ := List.mem_iff_getElem?.mp hx
      obtain ⟨_, _, q⟩ := paired_get w hk
      rw [e, hp] at q; cases q
    refine hd p rs _ ⟨none_of s1 hp, r0, List.nodup_cons.mpr ⟨fun h => hne p h rfl, nd⟩, s1.trans (same_new hp _), upd_same, ?_⟩
    exact Paired.mapP w fun _ _ q => same_new hp _ _ _ q
/-- a comprehension over a range whose turns leave the heap -/
theorem comp_vals {n : Nat} {fr : List Nat} {te : TE} {σ : L2.St} {H : Hp} {Q : VK} (f : Nat → V) (hn : n ≤ sizeLine)
    (hs : ∀ i, i < n → ∀ R : VK, R (f i) H → te ((compSt σ fr).set 0 (some (.int (0 + (i : Int))))) H R)
    (hd : ∀ p, H p = none → Q (.ref p) (upd H p (.lst ((List.range n).map f)))) : CompGo fr tYes te σ Q (Itr 0 n) H := by
  refine comp_range (lo := 0) (n := n) (fun i acc H1 => H1 = H ∧ acc = (List.range i).map f) hn ⟨rfl, rfl⟩ (fun i acc H1 ⟨_, e⟩ => by rw [e]; simp) ?_ ?_
  · rintro i acc H1 hi ⟨rfl, rfl⟩ R kR
    exact hs i hi _ (kR _ _ ⟨rfl, by rw [List.range_succ, List.map_append]; rfl⟩)
  · rintro acc H1 ⟨rfl, rfl⟩ p hp
    exact hd p hp
def sp_total (_ : PySem.W.Frag) : Sp := fun vs H Q _ => ∃ x y : Option Int, vs = [ov x, ov y] ∧ Q (ov (tot x y)) H
def sp_lesser (_ : PySem.W.Frag) : Sp := fun vs H Q _ => ∃ x y : Option Int, vs = [ov x, ov y] ∧ Q (ov (les x y)) H
def sp_wide_row (_ : PySem.W.Frag) : Sp := fun vs H Q _ => ∃ (n : Nat) (a : Int), vs = [.int n, .int a] ∧ n ≤ 100 ∧ ∀ r, H r = none → Q (.ref r) (upd H r (.lst (((List.range n).map fun (j : Nat) => if a = (j : Int) then some (0 : Int) else none).map ov)))
def sp_wide (_ : PySem.W.Frag) : Sp := fun vs H Q _ => ∃ n : Nat, vs = [.int n] ∧ n ≤ 100 ∧ ∀ p rs H', NewT H H' p rs (wideT n) → Q (.ref p) H'
def sp_shuts (K : PySem.W.Frag) : Sp := fun vs H Q _ => ∃ (u p : Addr) (m : Bd) (rs : List Addr) (t : Tab) (n : Nat), vs = [.ref u, .ref p] ∧ SqT K H u (bv m) ∧ TabAt H p rs t ∧ Square n t ∧ inN m.1 n ∧ inN m.2.1 n ∧ Q (.bl (shutB t m)) H
def sp_held_row (K : PySem.W.Frag) : Sp := fun vs H Q _ => ∃ (u p : Addr) (a : Int) (m : Bd) (rs : List Addr) (t : Tab) (n : Nat), vs = [.ref p, .int a, .ref u] ∧ SqT K H u (bv m) ∧ TabAt H p rs t ∧ Square n t ∧ n ≤ 100 ∧ inN a n ∧ inN m.1 n ∧ inN m.2.1 n ∧ ∀ r, H r = none → Q (.ref r) (upd H r (.lst (((List.range n).map fun (j : Nat) => heldF t m a (j : Int)).map ov)))
/-- a table or none, in the heap -/
def IsT (H : Hp) (v : V) (n : Nat) (bs : List Bd) : Prop := (v = .non ∧ NegR bs) ∨ ∃ p rs t, v = .ref p ∧ TabAt H p rs t ∧ Right n bs t
def sp_held (K : PySem.W.Frag) : Sp := fun vs H Q _ => ∃ (u : Addr) (v : V) (m : Bd), vs = [v, .ref u] ∧ SqT K H u (bv m) ∧
  ((v = .non ∧ Q .non H) ∨ ∃ (p : Addr) (rs : List Addr) (t : Tab) (n : Nat), v = .ref p ∧ TabAt H p rs t ∧ Square n t ∧ n ≤ 100 ∧ inN m.1 n ∧ inN m.2.1 n ∧ (shutB t m = true → Q .non H) ∧ (shutB t m = false → ∀ p' rs' H', NewT H H' p' rs' (heldT n t m) → Q (.ref p') H'))
theorem int_at {ns : List Int} {i : Nat} {x : V} (h : (ns.map V.int)[i]? = some x) : i < ns.length ∧ x = .int (ns.getD i 0) := by
  rw [List.getElem?_map] at h
  cases e : ns[i]? with
  | none => rw [e] at h; cases h
  | some z =>
    rw [e] at h
    refine ⟨(List.getElem?_eq_some_iff.mp e).1, ?_⟩
    rw [List.getD_eq_getElem?_getD, e]
    exact (Option.some.inj h).symm
theorem same_refl (H : Hp) : Same H H := fun _ _ e => e
theorem ixN_of {n : Nat} {k : Int} (h0 : 0 ≤ k) (h1 : k < n) : ixN n k = some k.toNat := by
  unfold ixN
  rw [if_pos h0, if_pos h1]
/-- a copy of a table: each row is copied -/
theorem comp_copies {K : PySem.W.Frag} {p : Addr} {rs : List Addr} {t : Tab} {fr : List Nat} {te : TE} {σ : L2.St} {H : Hp} {Q : VK} (T : TabAt H p rs t) (hn : rs.length ≤ sizeLine)
    (hs : ∀ (i : Nat) (H1 : Hp) (r : Addr) (row : List (Option Int)), rs[i]? = some r → Same H H1 → H1 r = some (.lst (row.map ov)) → ∀ R : VK, (∀ l, H1 l = none → R (.ref l) (upd H1 l (.lst (row.map ov)))) → te ((compSt σ fr).set 0 (some (.ref r))) H1 R)
    (hd : ∀ p' rs' H', NewT H H' p' rs' t → Q (.ref p') H') : CompGo fr tYes te σ Q (Itl K p) H := by
  have hl := Paired.length T.rows
  refine comp_list (K := K) (a := p) (xs := rs.map V.ref) (fun i acc H1 => i ≤ rs.length ∧ Same H H1 ∧ ∃ ls : List Addr, acc = ls.map V.ref ∧ (∀ r ∈ ls, H r = none) ∧ ls.Nodup ∧ RowsAt H1 ls (t.take i)) (by rw [List.length_map]; exact hn) ⟨Nat.zero_le _, fun _ _ e => e, [], rfl, fun _ h => (nomatch h), .nil, .nil⟩
    (fun i acc H1 ⟨hi, _, ls, e, _, _, w⟩ => by rw [e, List.length_map, Paired.length w, List.length_take]; omega) (fun i acc H1 ⟨_, s, _⟩ => SqL.of (s _ _ T.ob)) ?_ ?_
  · rintro i acc H1 x hx ⟨hi, s1, ls, rfl, r0, nd, w⟩ R kR
    rw [List.getElem?_map] at hx
    cases e : rs[i]? with
    | none => rw [e] at hx; cases hx
    | some r =>
      rw [e] at hx
      have ex : x = V.ref r := (Option.some.inj hx).symm
      subst ex
      obtain ⟨row, e1, e2⟩ := paired_get T.rows e
      have hlt := (List.getElem?_eq_some_iff.mp e).1
      refine hs i H1 r row e s1 (s1 _ _ e2) _ fun l n0 => kR _ _ ⟨hlt, s1.trans (same_new n0 _), ls ++ [l], by simp, fun y hy => ?_, ?_, ?_⟩
      · rcases List.mem_append.mp hy with hy | hy
        · exact r0 y hy
        · rw [List.mem_singleton.mp hy]; exact none_of s1 n0
      · rw [List.nodup_append]
        refine ⟨nd, by simp, fun y hy z hz => ?_⟩
        rw [List.mem_singleton.mp hz]
        rintro rfl
        obtain ⟨k, hk⟩ := List.mem_iff_getElem?.mp hy
        obtain ⟨_, _, q⟩ := paired_get w hk
        rw [q] at n0; cases n0
      · rw [List.take_add_one, e1]
        exact Paired.snoc (Paired.mapP w fun _ _ q => same_new n0 _ _ _ q) upd_same
  · rintro acc H1 ⟨hi, s1, ls, rfl, r0, nd, w⟩ p' hp
    rw [List.length_map, hl, List.take_length] at w
    have hne : ∀ x ∈ ls, x ≠ p' := fun x hx e => by
      obtain ⟨k, hk⟩ := List.mem_iff_getElem?.mp hx
      obtain ⟨_, _, q⟩ := paired_get w hk
      rw [e, hp] at q; cases q
    refine hd p' ls _ ⟨none_of s1 hp, r0, List.nodup_cons.mpr ⟨fun h => hne p' h rfl, nd⟩, s1.trans (same_new hp _), upd_same, ?_⟩
    exact Paired.mapP w fun _ _ q => same_new hp _ _ _ q
/-! schedules picked from a table -/
theorem least_le (ns : List Int) : ∀ k j, j ≤ k → ns.getD (argBest (fun i j => decide (ns.getD i 0 < ns.getD j 0)) k) 0 ≤ ns.getD j 0
  | 0, j, h => by have : j = 0 := by omega
                  subst this; exact Int.le_refl _
  | k + 1, j, h => by
    have ih := least_le ns k
    unfold argBest
    by_cases c : ns.getD (k + 1) 0 < ns.getD (argBest (fun i j => decide (ns.getD i 0 < ns.getD j 0)) k) 0
    · rw [if_pos (decide_eq_true c)]
      by_cases hj : j ≤ k
      · have := ih j hj; omega
      · have : j = k + 1 := by omega
        subst this; exact Int.le_refl _
    · rw [if_neg (by rw [decide_eq_false c]; exact Bool.false_ne_true)]
      by_cases hj : j ≤ k
      · exact ih j hj
      · have : j = k + 1 := by omega
        subst this; omega
theorem greatest_ge (ns : List Int) : ∀ k j, j ≤ k → ns.getD j 0 ≤ ns.getD (argBest (fun i j => decide (ns.getD i 0 > ns.getD j 0)) k) 0
  | 0, j, h => by have : j = 0 := by omega
                  subst this; exact Int.le_refl _
  | k + 1, j, h => by
    have ih := greatest_ge ns k
    unfold argBest
    by_cases c : ns.getD (k + 1) 0 > ns.getD (argBest (fun i j => decide (ns.getD i 0 > ns.getD j 0)) k) 0
    · rw [if_pos (decide_eq_true c)]
      by_cases hj : j ≤ k
      · have := ih j hj; omega
      · have : j = k + 1 := by omega
        subst this; exact Int.le_refl _
    · rw [if_neg (by rw [decide_eq_false c]; exact Bool.false_ne_true)]
      by_cases hj : j ≤ k
      · exact ih j hj
      · have : j = k + 1 := by omega
        subst this; omega
theorem getD_mem {ns : List Int} {i : Nat} (h : i < ns.length) : ns.getD i 0 ∈ ns := by
  rw [List.getD_eq_getElem?_getD, List.getElem?_eq_getElem h]; exact List.getElem_mem h
theorem mem_getD {ns : List Int} {x : Int} (h : x ∈ ns) : ∃ i, i < ns.length ∧ ns.getD i 0 = x := by
  obtain ⟨i, hi, e⟩ := List.mem_iff_getElem.mp h
  exact ⟨i, hi, by rw [List.getD_eq_getElem?_getD, List.getElem?_eq_getElem hi]; exact e⟩
theorem leastAt_lt {ns : List Int} (h : 0 < ns.length) : leastAt ns < ns.length := by
  unfold leastAt
  have := argBest_le (bt := fun i j => decide (ns.getD i 0 < ns.getD j 0)) (ns.length - 1)
  omega
theorem greatestAt_lt {ns : List Int} (h : 0 < ns.length) : greatestAt ns < ns.length := by
  unfold greatestAt
  have := argBest_le (bt := fun i j => decide (ns.getD i 0 > ns.getD j 0)) (ns.length - 1)
  omega
theorem leastAt_spec {ns : List Int} (h : 0 < ns.length) : ns.getD (leastAt ns) 0 ∈ ns ∧ ∀ x ∈ ns, ns.getD (leastAt ns) 0 ≤ x := by
  refine ⟨getD_mem (leastAt_lt h), fun x hx => ?_⟩
  obtain ⟨i, hi, rfl⟩ := mem_getD hx
  exact least_le ns (ns.length - 1) i (by omega)
theorem greatestAt_spec {ns : List Int} (h : 0 < ns.length) : ns.getD (greatestAt ns) 0 ∈ ns ∧ ∀ x ∈ ns, x ≤ ns.getD (greatestAt ns) 0 := by
  refine ⟨getD_mem (greatestAt_lt h), fun x hx => ?_⟩
  obtain ⟨i, hi, rfl⟩ := mem_getD hx
  exact greatest_ge ns (ns.length - 1) i (by omega)
def sp_table_of (K : PySem.W.Frag) : Sp := fun vs H Q _ => ∃ (n : Nat) (r : Addr) (qs : List V) (bs : List Bd), vs = [.int n, .ref r] ∧ SqL K H r qs ∧ AreB H qs bs ∧ 1 ≤ n ∧ n ≤ 8 ∧ Within n bs ∧ bs.length ≤ 150 ∧ ∀ v H', Same H H' → IsT H' v n bs → Q v H'
/-! settings, rooms, fillings: mathematics -/
def stt (ss : List (Option Int)) (p : Int) : Option Int := ss.getD p.toNat none
theorem at_stt {ss : List (Option Int)} {p : Int} (h0 : 0 ≤ p) (h1 : p < ss.length) : atI (ss.map ov) p = some (ov (stt ss p)) := atI_of h0 rfl (by
  have h : p.toNat < ss.length := by omega
  unfold stt
  rw [List.getElem?_map, List.getD_eq_getElem?_getD, List.getElem?_eq_getElem h]; rfl)
theorem at_some {ss : List (Option Int)} {p s : Int} (h0 : 0 ≤ p) (h1 : p < ss.length) (h : stt ss p = some s) : atI (ss.map ov) p = some (.int s) := by
  have := at_stt h0 h1
  rw [h] at this; exact this
structure IsLow (n : Nat) (t : Tab) (ss : List (Option Int)) (x : Int) (lo : Option Int) : Prop where
  hit : ∀ l, lo = some l → ∃ p s e, inN p n ∧ stt ss p = some s ∧ ent t x p = some e ∧ l = s - e
  all : ∀ p s e, inN p n → stt ss p = some s → ent t x p = some e → ∃ l, lo = some l ∧ s - e ≤ l
structure IsHigh (n : Nat) (t : Tab) (ss : List (Option Int)) (x : Int) (hi : Option Int) : Prop where
  hit : ∀ h, hi = some h → ∃ p s e, inN p n ∧ stt ss p = some s ∧ ent t p x = some e ∧ h = s + e
  all : ∀ p s e, inN p n → stt ss p = some s → ent t p x = some e → ∃ h, hi = some h ∧ h ≤ s + e
/-- a time of the room -/
def InRoom (lo hi : Option Int) (z : Int) : Prop := (∀ l, lo = some l → l ≤ z) ∧ ∀ h, hi = some h → z ≤ h
theorem maxO_spec (ns : List Int) : (∀ m, maxO ns = some m → m ∈ ns) ∧ ∀ x ∈ ns, ∃ m, maxO ns = some m ∧ x ≤ m := by
  unfold maxO
  by_cases c : ns.length = 0
  · rw [if_pos c]
    refine ⟨fun m h => (nomatch h), fun x hx => ?_⟩
    rw [List.length_eq_zero_iff.mp c] at hx; cases hx
  · rw [if_neg c]
    obtain ⟨h1, h2⟩ := greatestAt_spec (ns := ns) (by omega)
    exact ⟨fun m h => by cases h; exact h1, fun x hx => ⟨_, rfl, h2 x hx⟩⟩
theorem minO_spec (ns : List Int) : (∀ m, minO ns = some m → m ∈ ns) ∧ ∀ x ∈ ns, ∃ m, minO ns = some m ∧ m ≤ x := by
  unfold minO
  by_cases c : ns.length = 0
  · rw [if_pos c]
    refine ⟨fun m h => (nomatch h), fun x hx => ?_⟩
    rw [List.length_eq_zero_iff.mp c] at hx; cases hx
  · rw [if_neg c]
    obtain ⟨h1, h2⟩ := leastAt_spec (ns := ns) (by omega)
    exact ⟨fun m h => by cases h; exact h1, fun x hx => ⟨_, rfl, h2 x hx⟩⟩
def sp_points_set (_ : PySem.W.Frag) : Sp := fun vs H Q _ => ∃ (r : Addr) (ss : List (Option Int)), vs = [.ref r] ∧ H r = some (.lst (ss.map ov)) ∧ ss.length ≤ 100 ∧ ∀ r' H' (zs : List Int), Same H H' → H' r' = some (.lst (zs.map V.int)) → zs.length ≤ ss.length → (∀ z, z ∈ zs ↔ inN z ss.length ∧ ∃ s, stt ss z = some s) → Q (.ref r') H'
/-! rooms told by their two ends, each by a def of its own -/
def sp_least_time (_ : PySem.W.Frag) : Sp := fun vs H Q _ => ∃ (p : Addr) (rs : List Addr) (t : Tab) (n : Nat) (r : Addr) (ss : List (Option Int)) (x : Int), vs = [.ref p, .ref r, .int x] ∧ TabAt H p rs t ∧ Square n t ∧ n ≤ 100 ∧ H r = some (.lst (ss.map ov)) ∧ ss.length = n ∧ inN x n ∧ ∀ lo H', Same H H' → IsLow n t ss x lo → Q (ov lo) H'
def sp_greatest_time (_ : PySem.W.Frag) : Sp := fun vs H Q _ => ∃ (p : Addr) (rs : List Addr) (t : Tab) (n : Nat) (r : Addr) (ss : List (Option Int)) (x : Int), vs = [.ref p, .ref r, .int x] ∧ TabAt H p rs t ∧ Square n t ∧ n ≤ 100 ∧ H r = some (.lst (ss.map ov)) ∧ ss.length = n ∧ inN x n ∧ ∀ hi H', Same H H' → IsHigh n t ss x hi → Q (ov hi) H'
def sp_points_open (_ : PySem.W.Frag) : Sp := fun vs H Q _ => ∃ (r : Addr) (ss : List (Option Int)), vs = [.ref r] ∧ H r = some (.lst (ss.map ov)) ∧ ss.length ≤ 100 ∧ ∀ r' H' (zs : List Int), Same H H' → H' r' = some (.lst (zs.map V.int)) → zs.length ≤ ss.length → (∀ z, z ∈ zs ↔ inN z ss.length ∧ stt ss z = none) → Q (.ref r') H'
/-! the laws' own checks of rooms and fillings -/
/-- the setting's times are the schedule's -/
def Holds (n : Nat) (ss : List (Option Int)) (ts : List Int) : Prop := ∀ p s, inN p n → stt ss p = some s → ts.getD p.toNat 0 = s
/-- ways that go on alike, but for the heap and the names' values -/
theorem restJ {G : Prop} (C : Hp → L2.St → Prop) {P : Hp → L2.St → Prop} (h : (∀ H σ, C H σ → P H σ) → G) (r : ∀ H σ, C H σ → P H σ) : G := h r
/-! limits and courses: mathematics -/
/-- no open point is below z -/
def From (n : Nat) (ss : List (Option Int)) (z : Int) (ts : List Int) : Prop := ∀ x, inN x n → stt ss x = none → z ≤ ts.getD x.toNat 0
/-- hi is the limit -/
structure IsLim (n : Nat) (t : Tab) (ss : List (Option Int)) (hi : Option Int) : Prop where
  hit : ∀ h, hi = some h → ∃ p x s e, inN p n ∧ inN x n ∧ stt ss p = some s ∧ stt ss x = none ∧ ent t p x = some e ∧ h = s + e
  all : ∀ p x s e, inN p n → inN x n → stt ss p = some s → stt ss x = none → ent t p x = some e → ∃ h, hi = some h ∧ h ≤ s + e
/-- the open points stand as if set at z -/
def startsO (ss : List (Option Int)) (z : Int) : List (Option Int) := ss.map fun o => some (o.getD z)
theorem startsO_len (ss : List (Option Int)) (z : Int) : (startsO ss z).length = ss.length := List.length_map _
theorem stt_starts {ss : List (Option Int)} {n : Nat} (hl : ss.length = n) {z p : Int} (hp : inN p n) : stt (startsO ss z) p = some ((stt ss p).getD z) := by
  have h1 := hp.1
  have h2 := hp.2
  have h : p.toNat < ss.length := by omega
  unfold stt startsO
  rw [List.getD_eq_getElem?_getD, List.getElem?_map, List.getElem?_eq_getElem h, List.getD_eq_getElem?_getD, List.getElem?_eq_getElem h]
  rfl
theorem low_some {n : Nat} {bs : List Bd} {t : Tab} {ss : List (Option Int)} {x z : Int} {lo : Option Int} (R : Right n bs t) (hl : ss.length = n) (hx : inN x n) (L : IsLow n t (startsO ss z) x lo) : ∃ l, lo = some l := by
  obtain ⟨l, h, _⟩ := L.all x _ 0 hx (stt_starts hl hx) (R.self hx)
  exact ⟨l, h⟩
theorem snoc_get {α : Type} {l : List α} {y : α} {j : Nat} {o : α} (h : (l ++ [y])[j]? = some o) : l[j]? = some o ∨ (j = l.length ∧ o = y) := by
  by_cases c : j < l.length
  · rw [List.getElem?_append_left c] at h; exact .inl h
  · rw [List.getElem?_append_right (by omega)] at h
    have c2 : j - l.length < 1 := by
      have := (List.getElem?_eq_some_iff.mp h).1
      simpa using this
    have ej : j = l.length := by omega
    subst ej
    rw [Nat.sub_self] at h
    exact .inr ⟨rfl, (Option.some.inj h).symm⟩
theorem get_getD {zs : List Int} {i : Nat} {x : Int} (hi : i < zs.length) (h : zs.getD i 0 = x) : zs[i]? = some x := by
  rw [List.getElem?_eq_getElem hi, ← h, List.getD_eq_getElem?_getD, List.getElem?_eq_getElem hi]; rfl
/-- the highs of the open points, of which the least is the limit -/
theorem lim_of {n : Nat} {t : Tab} {ss : List (Option Int)} {zs : List Int} {os : List (Option Int)} {m : Option Int} (mz : ∀ z, z ∈ zs ↔ inN z n ∧ stt ss z = none) (lo : os.length = zs.length) (g : ∀ (j : Nat) (o : Option Int), os[j]? = some o → ∃ x, zs[j]? = some x ∧ IsHigh n t ss x o) (m1 : ∀ z, m = some z → some z ∈ os) (m2 : ∀ z, some z ∈ os → ∃ z', m = some z' ∧ z' ≤ z) : IsLim n t ss m where
  hit h e := by
    obtain ⟨j, hj⟩ := List.mem_iff_getElem?.mp (m1 h e)
    obtain ⟨x, hx, U⟩ := g j _ hj
    obtain ⟨p, s, e', p1, p2, p3, p4⟩ := U.hit h rfl
    obtain ⟨x1, x2⟩ := (mz x).mp (List.mem_of_getElem? hx)
    exact ⟨p, x, s, e', p1, x1, p2, x2, p3, p4⟩
  all p x s e hp hx hs hn he := by
    obtain ⟨j, hj⟩ := List.mem_iff_getElem?.mp ((mz x).mpr ⟨hx, hn⟩)
    have hl := (List.getElem?_eq_some_iff.mp hj).1
    have ho : os[j]? = some os[j] := List.getElem?_eq_getElem (by omega)
    obtain ⟨x', hx', U⟩ := g j _ ho
    rw [hj] at hx'; cases hx'
    obtain ⟨h, h1, h2⟩ := U.all p s e hp hs he
    rw [h1] at ho
    obtain ⟨z', z1, z2⟩ := m2 h (List.mem_of_getElem? ho)
    exact ⟨z', z1, by omega⟩
theorem ov_at {os : List (Option Int)} {i : Nat} {y : V} (hy : (os.map ov)[i]? = some y) : ∃ o, os[i]? = some o ∧ y = ov o := by
  rw [List.getElem?_map] at hy
  cases e : os[i]? with
  | none => rw [e] at hy; cases hy
  | some o => rw [e] at hy; exact ⟨o, rfl, (Option.some.inj hy).symm⟩
theorem ov_keep {os : List (Option Int)} {ms : List Int} {i : Nat} {o : Option Int} (ho : os[i]? = some o) (g2 : ∀ j z, j < i → os[j]? = some (some z) → z ∈ ms) : ∀ ms' : List Int, (∀ z ∈ ms, z ∈ ms') → (∀ z, o = some z → z ∈ ms') → ∀ j z, j < i + 1 → os[j]? = some (some z) → z ∈ ms' := fun ms' h1 h2 j z hj hz => by
  by_cases c : j < i
  · exact h1 z (g2 j z c hz)
  · have ej : j = i := by omega
    subst ej
    rw [ho] at hz
    exact h2 z (Option.some.inj hz)
def sp_limit (_ : PySem.W.Frag) : Sp := fun vs H Q _ => ∃ (p : Addr) (rs : List Addr) (t : Tab) (n : Nat) (r : Addr) (ss : List (Option Int)), vs = [.ref p, .ref r] ∧ TabAt H p rs t ∧ Square n t ∧ n ≤ 100 ∧ H r = some (.lst (ss.map ov)) ∧ ss.length = n ∧ ∀ hi H', Same H H' → IsLim n t ss hi → Q (ov hi) H'
def sp_course (_ : PySem.W.Frag) : Sp := fun vs H Q _ => ∃ (p : Addr) (rs : List Addr) (t : Tab) (n : Nat) (bs : List Bd) (r : Addr) (ss : List (Option Int)) (z : Int), vs = [.ref p, .ref r, .int z] ∧ TabAt H p rs t ∧ Right n bs t ∧ n ≤ 100 ∧ H r = some (.lst (ss.map ov)) ∧ ss.length = n ∧ ∀ (u : Addr) (ts : List Int) (H' : Hp), Same H H' → H u = none → H' u = some (.tup (ts.map V.int)) → ts.length = n → (∀ x, inN x n → IsLow n t (startsO ss z) x (some (ts.getD x.toNat 0))) → Q (.ref u) H'
/-! turns -/
def lowZ (z : Int) : Option Int → Int
  | none => z
  | some w => if w < z then z else w
/-- o is the turn of x -/
def IsTurn (n : Nat) (t : Tab) (ss : List (Option Int)) (z x : Int) : Option (Int × Option Int) → Prop
  | none => (∃ s, stt ss x = some s) ∨ (∃ y e, inN y n ∧ stt ss y = none ∧ ent t x y = some e ∧ e < 0) ∨ ∃ lw h, IsLow n t ss x lw ∧ IsLim n t ss (some h) ∧ h < lowZ z lw
  | some (l, hi) => stt ss x = none ∧ (∀ y e, inN y n → stt ss y = none → ent t x y = some e → 0 ≤ e) ∧ ∃ lw, IsLow n t ss x lw ∧ IsLim n t ss hi ∧ l = lowZ z lw ∧ ∀ h, hi = some h → l ≤ h
theorem lowZ_ge (z : Int) (lw : Option Int) : z ≤ lowZ z lw ∧ ∀ w, lw = some w → w ≤ lowZ z lw := by
  cases lw with
  | none => exact ⟨Int.le_refl _, fun w h => (nomatch h)⟩
  | some w =>
    unfold lowZ
    constructor
    · dsimp only; split <;> omega
    · intro w' h; cases h; dsimp only; split <;> omega
theorem lowZ_le {z v : Int} {lw : Option Int} (h1 : z ≤ v) (h2 : ∀ w, lw = some w → w ≤ v) : lowZ z lw ≤ v := by
  cases lw with
  | none => exact h1
  | some w =>
    have := h2 w rfl
    unfold lowZ; dsimp only; split <;> omega
def lowC (t : Tab) (ss : List (Option Int)) (x : Int) (i : Nat) : Option Int := match stt ss (i : Int), ent t x (i : Int) with
  | some s, some e => some (s - e)
  | _, _ => none
theorem lowC_some {t : Tab} {ss : List (Option Int)} {x : Int} {i : Nat} {l : Int} : lowC t ss x i = some l ↔ ∃ s e, stt ss (i : Int) = some s ∧ ent t x (i : Int) = some e ∧ l = s - e := by
  unfold lowC
  cases e1 : stt ss (i : Int) with
  | none => exact ⟨fun h => (nomatch h), fun ⟨s, e, h, _⟩ => (nomatch h)⟩
  | some s =>
    cases e2 : ent t x (i : Int) with
    | none => exact ⟨fun h => (nomatch h), fun ⟨s, e, _, h, _⟩ => (nomatch h)⟩
    | some e => exact ⟨fun h => ⟨s, e, rfl, rfl, (Option.some.inj h).symm⟩, fun ⟨s', e', h1, h2, h3⟩ => by cases h1; cases h2; rw [h3]⟩
theorem low_ex {n : Nat} {t : Tab} {ss : List (Option Int)} {x : Int} : ∃ lw, IsLow n t ss x lw := by
  refine ⟨maxO ((List.range n).filterMap (lowC t ss x)), fun l h => ?_, fun p s e hp hs he => ?_⟩
  · obtain ⟨i, hi, e⟩ := List.mem_filterMap.mp ((maxO_spec _).1 l h)
    obtain ⟨s, e', h1, h2, h3⟩ := lowC_some.mp e
    have := List.mem_range.mp hi
    exact ⟨(i : Int), s, e', ⟨by omega, by omega⟩, h1, h2, h3⟩
  · have h1 := hp.1
    have h2 := hp.2
    obtain ⟨k, rfl⟩ : ∃ k : Nat, p = (k : Int) := ⟨p.toNat, by omega⟩
    exact (maxO_spec _).2 _ (List.mem_filterMap.mpr ⟨k, List.mem_range.mpr (by omega), lowC_some.mpr ⟨s, e, hs, he, rfl⟩⟩)
/-- the soonest course has x as low as its turn -/
theorem low_turn {n : Nat} {bs : List Bd} {t : Tab} {ss : List (Option Int)} {z x c : Int} {lw : Option Int} (R : Right n bs t) (hl : ss.length = n) (hx : inN x n) (hno : stt ss x = none) (hf : ∀ y e, inN y n → stt ss y = none → ent t x y = some e → 0 ≤ e) (A : IsLow n t (startsO ss z) x (some c)) (L : IsLow n t ss x lw) : c = lowZ z lw := by
  have h1 : c ≤ lowZ z lw := by
    obtain ⟨p, s, e, p1, p2, p3, p4⟩ := A.hit c rfl
    rw [stt_starts hl p1] at p2
    obtain ⟨g1, g2⟩ := lowZ_ge z lw
    cases es : stt ss p with
    | some s' =>
      rw [es] at p2
      cases p2
      obtain ⟨l, l1, l2⟩ := L.all p s' e p1 es p3
      have := g2 l l1
      simp only [Option.getD_some] at p4
      omega
    | none =>
      rw [es] at p2
      cases p2
      have := hf p e p1 es p3
      simp only [Option.getD_none] at p4
      omega
  have h2 : lowZ z lw ≤ c := by
    refine lowZ_le ?_ fun w hw => ?_
    · obtain ⟨l, l1, l2⟩ := A.all x _ 0 hx (stt_starts hl hx) (R.self hx)
      cases l1
      rw [hno, Option.getD_none] at l2
      omega
    · obtain ⟨p, s, e, p1, p2, p3, p4⟩ := L.hit w hw
      obtain ⟨l, l1, l2⟩ := A.all p _ e p1 (stt_starts hl p1) p3
      cases l1
      rw [p2, Option.getD_some] at l2
      omega
  omega
/-- the first of the open points in a course has a turn -/
theorem first_turn {n : Nat} {bs : List Bd} {t : Tab} {ss : List (Option Int)} {ts : List Int} {z x : Int} {o : Option (Int × Option Int)} (li : Lies n t ts) (ho : Holds n ss ts) (hf : From n ss z ts) (hx : inN x n) (hno : stt ss x = none) (hm : ∀ y, inN y n → stt ss y = none → ts.getD x.toNat 0 ≤ ts.getD y.toNat 0) (B : IsTurn n t ss z x o) : o ≠ none := by
  intro e
  subst e
  rcases B with ⟨s, h⟩ | ⟨y, e, h1, h2, h3, h4⟩ | ⟨lw, h, L, M, h1⟩
  · rw [hno] at h; cases h
  · have g1 := li x y hx h1 e h3
    have g2 := hm y h1 h2
    unfold tm at g1
    omega
  · have g1 : lowZ z lw ≤ ts.getD x.toNat 0 := lowZ_le (hf x hx hno) fun w hw => by
      obtain ⟨p, s, e, p1, p2, p3, p4⟩ := L.hit w hw
      have := li x p hx p1 e p3
      unfold tm at this
      rw [ho p s p1 p2] at this
      omega
    obtain ⟨p, y, s, e, p1, p2, p3, p4, p5, p6⟩ := M.hit h rfl
    have g2 := li p y p1 p2 e p5
    unfold tm at g2
    rw [ho p s p1 p3] at g2
    have g3 := hm y p2 p4
    omega
/-- a turn as it is told -/
def TurnAt (H : Hp) (v : V) (o : Option (Int × Option Int)) : Prop := (v = .non ∧ o = none) ∨ ∃ u l hi, v = .ref u ∧ H u = some (.tup [.int l, ov hi]) ∧ o = some (l, hi)
def sp_must_follow (_ : PySem.W.Frag) : Sp := fun vs H Q _ => ∃ (p : Addr) (rs : List Addr) (t : Tab) (n : Nat) (r : Addr) (ss : List (Option Int)) (x : Int), vs = [.ref p, .ref r, .int x] ∧ TabAt H p rs t ∧ Square n t ∧ n ≤ 100 ∧ H r = some (.lst (ss.map ov)) ∧ ss.length = n ∧ inN x n ∧ ∀ (b : Bool) H', Same H H' → (b = true ↔ ∃ y e, inN y n ∧ stt ss y = none ∧ ent t x y = some e ∧ e < 0) → Q (.bl b) H'
def sp_turn (_ : PySem.W.Frag) : Sp := fun vs H Q _ => ∃ (p : Addr) (rs : List Addr) (t : Tab) (n : Nat) (bs : List Bd) (r : Addr) (ss : List (Option Int)) (z x : Int), vs = [.ref p, .ref r, .int z, .int x] ∧ TabAt H p rs t ∧ Right n bs t ∧ n ≤ 100 ∧ H r = some (.lst (ss.map ov)) ∧ ss.length = n ∧ inN x n ∧ ∀ v o H', Same H H' → IsTurn n t ss z x o → TurnAt H' v o → Q v H'
def sp_lies_between (_ : PySem.W.Frag) : Sp := fun vs H Q _ => ∃ (s : Int) (low high : Option Int), vs = [.int s, ov low, ov high] ∧ Q (.bl (kept s low high)) H
/-- all but what stands at x is as it was -/
def But (x : Addr) (H H' : Hp) : Prop := ∀ b o, H b = some o → b ≠ x → H' b = some o
theorem But.tab {x : Addr} {H H' : Hp} {p : Addr} {rs : List Addr} {t : Tab} (h : But x H H') (T : TabAt H p rs t) (hp : p ≠ x) (hr : ∀ r ∈ rs, r ≠ x) : TabAt H' p rs t := by
  refine ⟨h _ _ T.ob hp, ?_⟩
  have rows := T.rows
  have go : ∀ {rs : List Addr} {t : Tab}, RowsAt H rs t → (∀ r ∈ rs, r ≠ x) → RowsAt H' rs t := by
    intro rs t w
    induction w with
    | nil => exact fun _ => .nil
    | cons e _ ih => exact fun hr => .cons (h _ _ e (hr _ (List.mem_cons_self ..))) (ih fun r hm => hr r (List.mem_cons_of_mem _ hm))
  exact go rows hr
theorem But.areB {x : Addr} {H H' : Hp} {qs : List V} {bs : List Bd} {xs : List V} (h : But x H H') (hx : H x = some (.lst xs)) (a : AreB H qs bs) : AreB H' qs bs :=
  Paired.mapP a fun _ _ ⟨p, e, q⟩ => ⟨p, e, h _ _ q (ne_of q hx (fun z => by cases z))⟩
theorem but_same {x : Addr} {H H' : Hp} (s : Same H H') : But x H H' := fun b o e _ => s b o e
theorem But.trans {x : Addr} {H H' H'' : Hp} (h : But x H H') (g : But x H' H'') : But x H H'' := fun b o e n => g b o (h b o e n) n
/-! clocks: objects in the heap -/
theorem kept_iff {z : Int} {lo hi : Option Int} : kept z lo hi = true ↔ InRoom lo hi z := by
  unfold kept InRoom
  rw [Bool.and_eq_true]
  refine and_congr ?_ ?_
  · cases lo with
    | none => exact ⟨fun _ l h => (nomatch h), fun _ => rfl⟩
    | some l => exact ⟨fun h y e => by cases e; exact of_decide_eq_true h, fun h => decide_eq_true (h l rfl)⟩
  · cases hi with
    | none => exact ⟨fun _ l h => (nomatch h), fun _ => rfl⟩
    | some l => exact ⟨fun h y e => by cases e; exact of_decide_eq_true h, fun h => decide_eq_true (h l rfl)⟩
theorem f_rt : ¬ (("rows" : Str) = "times") := by decide +kernel
theorem f_rp : ¬ (("rows" : Str) = "present") := by decide +kernel
theorem f_tp : ¬ (("times" : Str) = "present") := by decide +kernel
theorem putF_twice (f : Str) (v w : V) : ∀ fs : List (Str × V), putF f w (putF f v fs) = putF f w fs
  | [] => by
    show (if f = f then [(f, w)] else _) = _
    rw [if_pos rfl]; rfl
  | (g, x) :: r => by
    show putF f w (if g = f then (g, v) :: r else (g, x) :: putF f v r) = (if g = f then (g, w) :: r else (g, x) :: putF f w r)
    by_cases h : g = f
    · rw [if_pos h, if_pos h]
      show (if g = f then (g, w) :: r else _) = _
      rw [if_pos h]
    · rw [if_neg h, if_neg h]
      show (if g = f then _ else (g, x) :: putF f w (putF f v r)) = _
      rw [if_neg h, putF_twice f v w r]
def fldc (pr pt : Addr) (z : Int) : List (Str × V) := putF "present" (.int z) (putF "times" (.ref pt) (putF "rows" (.ref pr) []))
theorem fldc_put (pr pt : Addr) (z w : Int) : putF "present" (.int w) (fldc pr pt z) = fldc pr pt w := putF_twice _ _ _ _
theorem fldc_rows (pr pt : Addr) (z : Int) : (fldc pr pt z).lookup ("rows" : Str) = some (.ref pr) := by
  unfold fldc
  rw [lookup_putF, if_neg f_rp, lookup_putF, if_neg f_rt, lookup_putF, if_pos rfl]
theorem fldc_times (pr pt : Addr) (z : Int) : (fldc pr pt z).lookup ("times" : Str) = some (.ref pt) := by
  unfold fldc
  rw [lookup_putF, if_neg f_tp, lookup_putF, if_pos rfl]
theorem fldc_present (pr pt : Addr) (z : Int) : (fldc pr pt z).lookup ("present" : Str) = some (.int z) := by
  unfold fldc
  rw [lookup_putF, if_pos rfl]
theorem fldc_no (pr pt : Addr) (z : Int) {m : Str} (h0 : ¬ m = "present") (h1 : ¬ m = "times") (h2 : ¬ m = "rows") : (fldc pr pt z).lookup m = none := by
  unfold fldc
  rw [lookup_putF, if_neg h0, lookup_putF, if_neg h1, lookup_putF, if_neg h2]
  all_goals rfl
theorem TabAt.neIns {H : Hp} {p x C dx : Addr} {rs : List Addr} {t : Tab} {fs : List (Str × V)} (T : TabAt H p rs t) (hx : H x = some (.ins C dx fs)) : p ≠ x ∧ ∀ r ∈ rs, r ≠ x := by
  refine ⟨ne_of T.ob hx (fun z => by cases z), fun r hr => ?_⟩
  obtain ⟨k, hk⟩ := List.mem_iff_getElem?.mp hr
  obtain ⟨_, _, q⟩ := paired_get T.rows hk
  exact ne_of q hx (fun z => by cases z)
/-- all but what stands at two addresses is as it was -/
def But2 (x y : Addr) (H H' : Hp) : Prop := ∀ b o, H b = some o → b ≠ x → b ≠ y → H' b = some o
theorem But2.trans {x y : Addr} {H H' H'' : Hp} (h : But2 x y H H') (g : But2 x y H' H'') : But2 x y H H'' := fun b o e n m => g b o (h b o e n m) n m
structure ClockAt (C : Addr) (H : Hp) (x pr pt : Addr) (rr : List Addr) (n : Nat) (t : Tab) (ss : List (Option Int)) (z : Int) : Prop where
  ob : ∃ dx, H x = some (.ins C dx (fldc pr pt z))
  tb : TabAt H pr rr t
  tm : H pt = some (.lst (ss.map ov))
  len : ss.length = n
  np : pr ≠ pt
  nr : ∀ r ∈ rr, r ≠ pt
theorem ClockAt.same {C : Addr} {H H' : Hp} {x pr pt : Addr} {rr : List Addr} {n : Nat} {t : Tab} {ss : List (Option Int)} {z : Int} (s : Same H H') (W : ClockAt C H x pr pt rr n t ss z) : ClockAt C H' x pr pt rr n t ss z := by
  obtain ⟨dx, h⟩ := W.ob
  exact ⟨⟨dx, s _ _ h⟩, W.tb.same s, s _ _ W.tm, W.len, W.np, W.nr⟩
theorem ClockAt.other {C : Addr} {H H' : Hp} {x pr pt q : Addr} {rr : List Addr} {n : Nat} {t : Tab} {ss : List (Option Int)} {z : Int} {xs : List V} (W : ClockAt C H x pr pt rr n t ss z) (h : But q H H') (hq : H q = some (.lst xs)) (n1 : pr ≠ q) (n2 : pt ≠ q) (n3 : ∀ r ∈ rr, r ≠ q) : ClockAt C H' x pr pt rr n t ss z := by
  obtain ⟨dx, g⟩ := W.ob
  exact ⟨⟨dx, h _ _ g (Ne.symm (ne_of hq g (fun z => by cases z)))⟩, h.tab W.tb n1 n3, h _ _ W.tm n2, W.len, W.np, W.nr⟩
/-- w lies in the turn -/
def InTurn (o : Option (Int × Option Int)) (w : Int) : Prop := ∃ l hi, o = some (l, hi) ∧ InRoom (some l) hi w
def sp_Clock___init__ (_ : PySem.W.Frag) (cl : Cl) : Sp := fun vs H Q _ => ∃ (x dx p : Addr) (rs : List Addr) (t : Tab) (n : Nat) (z : Int), vs = [.ref x, .ref p, .int z] ∧ H x = some (.ins cl.Clock dx []) ∧ TabAt H p rs t ∧ Square n t ∧ n ≤ 100 ∧
  ∀ pr rr pt H', ClockAt cl.Clock H' x pr pt rr n t (List.replicate n none) z → But x H H' → H pr = none → H pt = none → (∀ r ∈ rr, H r = none) → Q .non H'
def sp_Clock_now (_ : PySem.W.Frag) (cl : Cl) : Sp := fun vs H Q _ => ∃ (x pr pt : Addr) (rr : List Addr) (n : Nat) (t : Tab) (ss : List (Option Int)) (z : Int), vs = [.ref x] ∧ ClockAt cl.Clock H x pr pt rr n t ss z ∧ Q (.int z) H
def sp_Clock_setting (_ : PySem.W.Frag) (cl : Cl) : Sp := fun vs H Q _ => ∃ (x pr pt : Addr) (rr : List Addr) (n : Nat) (t : Tab) (ss : List (Option Int)) (z : Int), vs = [.ref x] ∧ ClockAt cl.Clock H x pr pt rr n t ss z ∧ ∀ r H', Same H H' → H r = none → H' r = some (.lst (ss.map ov)) → Q (.ref r) H'
def sp_Clock_limit (_ : PySem.W.Frag) (cl : Cl) : Sp := fun vs H Q _ => ∃ (x pr pt : Addr) (rr : List Addr) (n : Nat) (t : Tab) (ss : List (Option Int)) (z : Int), vs = [.ref x] ∧ ClockAt cl.Clock H x pr pt rr n t ss z ∧ Square n t ∧ n ≤ 100 ∧ ∀ hi H', Same H H' → IsLim n t ss hi → Q (ov hi) H'
def sp_Clock_turn (_ : PySem.W.Frag) (cl : Cl) : Sp := fun vs H Q _ => ∃ (x pr pt : Addr) (rr : List Addr) (n : Nat) (t : Tab) (bs : List Bd) (ss : List (Option Int)) (z y : Int), vs = [.ref x, .int y] ∧ ClockAt cl.Clock H x pr pt rr n t ss z ∧ Right n bs t ∧ n ≤ 100 ∧ inN y n ∧ ∀ v o H', Same H H' → IsTurn n t ss z y o → TurnAt H' v o → Q v H'
def sp_Clock_wait (_ : PySem.W.Frag) (cl : Cl) : Sp := fun vs H Q E => ∃ (x pr pt : Addr) (rr : List Addr) (n : Nat) (t : Tab) (ss : List (Option Int)) (z w : Int), vs = [.ref x, .int w] ∧ ClockAt cl.Clock H x pr pt rr n t ss z ∧ Square n t ∧ n ≤ 100 ∧
  ∀ hi, IsLim n t ss hi → (InRoom (some z) hi w → ∀ H', ClockAt cl.Clock H' x pr pt rr n t ss w → But2 x pt H H' → Q .non H') ∧ (¬ InRoom (some z) hi w → ∀ H', Same H H' → E (.ref cl.NoTime) none H')
def sp_Clock_mark (_ : PySem.W.Frag) (cl : Cl) : Sp := fun vs H Q E => ∃ (x pr pt : Addr) (rr : List Addr) (n : Nat) (t : Tab) (bs : List Bd) (ss : List (Option Int)) (z y w : Int), vs = [.ref x, .int y, .int w] ∧ ClockAt cl.Clock H x pr pt rr n t ss z ∧ Right n bs t ∧ n ≤ 8 ∧ inN y n ∧
  ∀ o, IsTurn n t ss z y o → (InTurn o w → ∀ H', ClockAt cl.Clock H' x pr pt rr n t (ss.set y.toNat (some w)) w → But2 x pt H H' → Q .non H') ∧ (¬ InTurn o w → ∀ H', Same H H' → E (.ref cl.NoTime) none H')
/-! bags of numbers -/
def sp_law_take (_ : PySem.W.Frag) : Sp := fun vs H Q _ => ∃ (b : Addr) (u v m : Int), vs = [.ref b, .int m] ∧ H b = some (.lst [.int u, .int v]) ∧ 0 ≤ v ∧ v < 1000000 ∧ 0 < m ∧ m < 10 ^ 100 ∧ ∀ z u' v' H', But b H H' → H' b = some (.lst [.int u', .int v']) → 0 ≤ v' → v' ≤ v + 1 → 0 ≤ z → z < m → Q (.int z) H'
theorem but_upd {b : Addr} {H : Hp} (o : HO) : But b H (upd H b o) := fun c x e h => by rw [upd_ne h]; exact e
/-! all schedules go through, set in their order -/
def BagAt (H : Hp) (b : Addr) (k : Int) : Prop := ∃ u v : Int, H b = some (.lst [.int u, .int v]) ∧ 0 ≤ v ∧ v ≤ k
theorem BagAt.same {H H' : Hp} {b : Addr} {k : Int} (B : BagAt H b k) (h : Same H H') : BagAt H' b k := by
  obtain ⟨u, v, e, h1, h2⟩ := B
  exact ⟨u, v, h _ _ e, h1, h2⟩
theorem BagAt.but {H H' : Hp} {b c : Addr} {k : Int} (B : BagAt H b k) (h : But c H H') (n : b ≠ c) : BagAt H' b k := by
  obtain ⟨u, v, e, h1, h2⟩ := B
  exact ⟨u, v, h _ _ e n, h1, h2⟩
theorem seq_but {K : PySem.W.Frag} {H H1 H' : Hp} {a b : Addr} {xs : List V} (hb : H b = none) (s : Same H H1) (h : SqL K H a xs) (bt : But b H1 H') : SqL K H' a xs := by
  rcases h with (h | ⟨o, h⟩) | h
  · exact .inl (.inl (bt _ _ (s _ _ h) (ne_of_none h hb)))
  · exact .inl (.inr ⟨o, bt _ _ (s _ _ h) (ne_of_none h hb)⟩)
  · exact .inr h
/-- who is the next in time may be set at its time -/
theorem lim_next {n : Nat} {t : Tab} {ss : List (Option Int)} {ts : List Int} {x : Int} {hi : Option Int} (li : Lies n t ts) (ho : Holds n ss ts) (hm : ∀ y, inN y n → stt ss y = none → ts.getD x.toNat 0 ≤ ts.getD y.toNat 0) (M : IsLim n t ss hi) : ∀ h, hi = some h → ts.getD x.toNat 0 ≤ h := fun h e => by
  obtain ⟨p, y, s, e, p1, p2, p3, p4, p5, p6⟩ := M.hit h e
  have g2 := li p y p1 p2 e p5
  unfold tm at g2
  rw [ho p s p1 p3] at g2
  have g3 := hm y p2 p4
  omega
theorem turn_next {n : Nat} {bs : List Bd} {t : Tab} {ss : List (Option Int)} {ts : List Int} {z x : Int} {o : Option (Int × Option Int)} (R : Right n bs t) (li : Lies n t ts) (ho : Holds n ss ts) (hf : From n ss z ts) (hx : inN x n) (hno : stt ss x = none) (hm : ∀ y, inN y n → stt ss y = none → ts.getD x.toNat 0 ≤ ts.getD y.toNat 0) (B : IsTurn n t ss z x o) : InTurn o (ts.getD x.toNat 0) := by
  have h0 := first_turn (bs := bs) li ho hf hx hno hm B
  cases o with
  | none => exact absurd rfl h0
  | some o =>
    obtain ⟨l, hi⟩ := o
    obtain ⟨_, _, lw, L, M, e, _⟩ := B
    refine ⟨l, hi, rfl, fun l' e' => ?_, lim_next li ho hm M⟩
    cases e'
    rw [e]
    exact lowZ_le (hf x hx hno) fun w hw => by
      obtain ⟨p, s, e, p1, p2, p3, p4⟩ := L.hit w hw
      have := li x p hx p1 e p3
      unfold tm at this
      rw [ho p s p1 p2] at this
      omega
/-- the points of q are set at their times, the others are open -/
structure SetBy (n : Nat) (ts : List Int) (q : List Nat) (ss : List (Option Int)) : Prop where
  at_ : ∀ k, k < n → k ∈ q → ss.getD k none = some (ts.getD k 0)
  op : ∀ k, k < n → ¬ k ∈ q → ss.getD k none = none
theorem SetBy.set {n : Nat} {ts : List Int} {q : List Nat} {ss : List (Option Int)} (h : SetBy n ts q ss) (hl : ss.length = n) {k : Nat} (hk : k < n) : SetBy n ts (q ++ [k]) (ss.set k (some (ts.getD k 0))) where
  at_ j hj hm := by
    by_cases c : k = j
    · subst c
      rw [List.getD_eq_getElem?_getD, List.getElem?_set_self (by omega)]; rfl
    · rw [List.getD_eq_getElem?_getD, List.getElem?_set_ne c, ← List.getD_eq_getElem?_getD]
      refine h.at_ j hj ?_
      rcases List.mem_append.mp hm with hm | hm
      · exact hm
      · exact absurd (List.mem_singleton.mp hm).symm c
  op j hj hm := by
    have c : k ≠ j := fun e => hm (List.mem_append_right _ (List.mem_singleton.mpr e.symm))
    rw [List.getD_eq_getElem?_getD, List.getElem?_set_ne c, ← List.getD_eq_getElem?_getD]
    exact h.op j hj fun hm' => hm (List.mem_append_left _ hm')
theorem SetBy.holds {n : Nat} {ts : List Int} {q : List Nat} {ss : List (Option Int)} (h : SetBy n ts q ss) : Holds n ss ts := fun p s hp e => by
  have h0 := hp.1
  have h1 := hp.2
  unfold stt at e
  by_cases c : p.toNat ∈ q
  · rw [h.at_ _ (by omega) c] at e
    exact Option.some.inj e
  · rw [h.op _ (by omega) c] at e; cases e
theorem SetBy.opens {n : Nat} {ts : List Int} {q : List Nat} {ss : List (Option Int)} (h : SetBy n ts q ss) {y : Int} (hy : inN y n) (e : stt ss y = none) : ¬ y.toNat ∈ q := fun c => by
  have h0 := hy.1
  have h1 := hy.2
  unfold stt at e
  rw [h.at_ _ (by omega) c] at e; cases e
theorem SetBy.start (n : Nat) (ts : List Int) : SetBy n ts [] (List.replicate n none) where
  at_ _ _ h := by cases h
  op k hk _ := by rw [List.getD_eq_getElem?_getD, List.getElem?_replicate, if_pos hk]; rfl
theorem SetBy.whole {n : Nat} {ts : List Int} {q : List Nat} {ss : List (Option Int)} (h : SetBy n ts q ss) (hl : ss.length = n) (ht : ts.length = n) (hq : ∀ k, k < n → k ∈ q) : ss.map ov = ts.map V.int := by
  apply List.ext_getElem?
  intro i
  rw [List.getElem?_map, List.getElem?_map]
  by_cases c : i < n
  · have e := h.at_ i c (hq i c)
    rw [List.getD_eq_getElem?_getD, List.getD_eq_getElem?_getD, List.getElem?_eq_getElem (by omega), List.getElem?_eq_getElem (by omega)] at e
    rw [List.getElem?_eq_getElem (by omega), List.getElem?_eq_getElem (by omega)]
    have e' : ss[i]'(by omega) = some (ts[i]'(by omega)) := e
    rw [Option.map_some, Option.map_some, e']; rfl
  · rw [List.getElem?_eq_none (by omega), List.getElem?_eq_none (by omega)]; rfl
theorem dec_true {c : Prop} [Decidable c] {Q : VK} {H : Hp} (hc : c) (q : Q (.bl true) H) : Q (.bl (decide c)) H := by
  rw [decide_eq_true hc]
  exact q
theorem abs_sgn {x e : Int} (hx : 0 ≤ x) (he : e = 1 ∨ e = -1) : (if e * x < 0 then -(e * x) else e * x) = x := by
  rcases he with rfl | rfl
  · rw [if_neg (by omega)]; omega
  · by_cases c : (-1 : Int) * x < 0
    · rw [if_pos c]; omega
    · rw [if_neg c]; omega
/-- the pairs of the law's order -/
def ordP (ts : List Int) (e : Int) (n : Nat) : List (Int × Int) := (List.range n).map fun i => (ts.getD i 0, e * (i : Int))
theorem ordP_at {ts : List Int} {e : Int} {n i : Nat} (h : i < n) : (ordP ts e n).getD i (0, 0) = (ts.getD i 0, e * (i : Int)) := by
  unfold ordP
  rw [List.getD_eq_getElem?_getD, List.getElem?_map, List.getElem?_range h]; rfl
theorem ordP_le {ts : List Int} {e : Int} {n i j : Nat} (hi : i < n) (hj : j < n) (h : lexN (ordP ts e n) j i = false) : ts.getD i 0 ≤ ts.getD j 0 := by
  unfold lexN lexB at h
  rw [ordP_at hi, ordP_at hj] at h
  have := of_decide_eq_false h
  dsimp only at this
  omega
theorem pairs_snoc {H : Hp} {ys : List V} {ms : List (Int × Int)} {p : Addr} {m : Int × Int} (h : ArePr H ys ms) (e : H p = some (.tup [.int m.1, .int m.2])) : ArePr H (ys ++ [.ref p]) (ms ++ [m]) := Paired.snoc h ⟨p, rfl, e⟩
theorem pairs_same {H H' : Hp} {ys : List V} {ms : List (Int × Int)} (s : Same H H') (h : ArePr H ys ms) : ArePr H' ys ms := Paired.mapP h fun _ _ ⟨p, e, q⟩ => ⟨p, e, s _ _ q⟩
theorem made_same {H : Hp} {x d C : Addr} (nx : H x = none) (nd : H d = none) (ne : d ≠ x) : Same H (upd (upd H d (.own x)) x (.ins C d [])) := (same_new nd _).trans (same_new (by rw [upd_ne (Ne.symm ne)]; exact nx) _)
def sp_law_bag (_ : PySem.W.Frag) : Sp := fun vs H Q _ => ∃ c : Int, vs = [.int c] ∧ ∀ r H' u v, Same H H' → H r = none → H' r = some (.lst [.int u, .int v]) → 0 ≤ v → v ≤ 1 → Q (.ref r) H'
def sp_law_big (_ : PySem.W.Frag) : Sp := fun vs H Q _ => ∃ (b : Addr) (k : Int), vs = [.ref b] ∧ BagAt H b k ∧ k < 900000 ∧ ∀ z H', But b H H' → BagAt H' b (k + 2) → Q (.int z) H'
def sp_law_bounds (_ : PySem.W.Frag) : Sp := fun vs H Q _ => ∃ (b t : Addr) (k m : Int) (ns : List Int), vs = [.ref b, .int m, .ref t] ∧ BagAt H b k ∧ k < 1000 ∧ 0 ≤ m ∧ m ≤ 20 ∧ H t = some (.tup (ns.map V.int)) ∧ 0 < ns.length ∧ ns.length ≤ 8 ∧
  ∀ r H' qs bs, But b H H' → H r = none → H' r = some (.lst qs) → AreB H' qs bs → bs.length ≤ 20 → Within ns.length bs → (∀ m ∈ bs, bKept ns m = true) → Q (.ref r) H'
def sp_law_done (_ : PySem.W.Frag) (cl : Cl) : Sp := fun vs H Q _ => ∃ (x pr pt : Addr) (rr : List Addr) (n : Nat) (t : Tab) (bs : List Bd) (ss : List (Option Int)) (z y : Int) (f : Bool) (ts : List Int), vs = [.ref x, .int y, .int (ts.getD y.toNat 0), .bl f] ∧ ClockAt cl.Clock H x pr pt rr n t ss z ∧ Right n bs t ∧ n ≤ 8 ∧ inN y n ∧
  Lies n t ts ∧ Holds n ss ts ∧ From n ss z ts ∧ stt ss y = none ∧ (∀ y', inN y' n → stt ss y' = none → ts.getD y.toNat 0 ≤ ts.getD y'.toNat 0) ∧ ∀ H', ClockAt cl.Clock H' x pr pt rr n t (ss.set y.toNat (some (ts.getD y.toNat 0))) (ts.getD y.toNat 0) → But2 x pt H H' → Q (.bl true) H'
section
variable {P : Program} {w : World} {K : PySem.W.Frag} {mg : Str → Option Value} {base : Heap} {cl : Cl}
seal L2.PSs L2.PS L2.PE L2.PA L2.PT L2.PI L2.PG L2.PGs L2.PTs L2.PW L2.PC L2.PO
theorem sc_lies_between : FnScope ["time", "low", "high"] ["time", "low", "high"] (defScope s_lies_between) := ⟨rfl, rfl, rfl, by decide +kernel, rfl, by decide +kernel, by decide +kernel⟩
theorem ok_lies_between {f : Addr} {fd : FuncData} (F : Fun K "lies_between" "lies_between" s_lies_between f fd) (T : Txt K mg cl)  : FnOk P w K mg base CX0 1 f fd ["time", "low", "high"] (sp_lies_between K) := by
  refine F.ok sc_lies_between (fun vs H Q E h => ?_) (fun cdv A outer s H vs Q E hr h => ?_)
  · obtain ⟨s, low, high, rfl, q⟩ := h
    rfl
  · obtain ⟨s, low, high, rfl, q⟩ := h
    refine ⟨_, (pss_one (ps_ret (pe_and (pe_or (pe_cmpR op_isN (pv 1) pe_non (nomark _)) (pe_one (pe_cmpR op_le (pv 1) (pv 0) (nomark _)))) (pe_one (pe_or (pe_cmpR op_isN (pv 2) pe_non (nomark _)) (pe_one (pe_cmpR op_le (pv 0) (pv 2) (nomark _)))))))), ?_⟩
    have q2 : ∀ (k : Bool), k = okHigh s high → okLow s low = true → Q (.bl k) H := fun k e1 e2 => by
      have e : kept s low high = k := by unfold kept; rw [e2, e1, Bool.true_and]
      rw [← e]; exact q
    have q0 : okLow s low = false → Q (.bl false) H := fun e2 => by
      have e : kept s low high = false := by unfold kept; rw [e2, Bool.false_and]
      rw [← e]; exact q
    have hi : ∀ (e2 : okLow s low = true), tOrV (tOp (fun x y H Q => y = .non ∧ Q (.bl (decide (x = .non))) H) (tVar 2) (tC .non)) (tOp (rI0 fun i j => .bl (decide (i ≤ j))) (tVar 0) (tVar 2)) [some (.int s), some (ov low), some (ov high)] H Q := fun e2 => by
      refine ⟨_, rfl, rfl, _, rfl, ?_⟩
      cases high with
      | none => exact iteT (q2 true rfl e2)
      | some h => exact iteF ⟨_, rfl, _, rfl, _, _, rfl, rfl, q2 _ rfl e2⟩
    refine ⟨_, rfl, rfl, _, rfl, ?_⟩
    cases low with
    | none => exact iteT ⟨_, rfl, iteT (hi rfl)⟩
    | some l =>
      refine iteF ⟨_, rfl, _, rfl, _, _, rfl, rfl, _, rfl, ?_⟩
      cases e : decide (l ≤ s) with
      | true => exact iteT (hi e)
      | false => exact iteF (q0 e)
theorem sc_points_set : FnScope ["setting"] ["setting"] (defScope s_points_set) := ⟨rfl, rfl, rfl, by decide +kernel, rfl, by decide +kernel, by decide +kernel⟩
theorem ok_points_set {f : Addr} {fd : FuncData} (F : Fun K "points_set" "points_set" s_points_set f fd) (T : Txt K mg cl)  : FnOk P w K mg base CX0 1 f fd ["setting"] (sp_points_set K) := by
  refine F.ok sc_points_set (fun vs H Q E h => ?_) (fun cdv A outer s H vs Q E hr h => ?_)
  · obtain ⟨r, ss, rfl, hrr, hn, q⟩ := h
    rfl
  · obtain ⟨r, ss, rfl, hrr, hn, q⟩ := h
    refine ⟨_, (pss_one (ps_ret (pe_compS ["setting"] [0] rfl (pi_range1 rfl T.z_range (pa_cons (pe_callB call_len_seq rfl T.z_len PySem.boot_len (pa_cons (pv 0) pa_nil)) pa_nil)) (fun _ _ _ => pts_one (pt_cmpR op_notN (pe_ix (ix_listK (K := K) rfl) (pv 1) (pv 0) (fun _ _ => rfl)) pe_non (nomark _))) (fun _ _ _ => (pv 0)) (hk := by kernel_rfl)))), ?_⟩
    refine ⟨_, rfl, r, _, rfl, .inl (SqL.of hrr), ((ss.length : Nat) : Int), by rw [List.length_map], by omega, by omega, comp_rangeF (lo := 0) (n := ((ss.length : Nat) : Int).toNat) (fun i acc H1 => H1 = H ∧ ∃ zs : List Int, acc = zs.map V.int ∧ zs.length ≤ i ∧ ∀ z, z ∈ zs ↔ (0 ≤ z ∧ z < i) ∧ ∃ s, stt ss z = some s) (small (by omega)) ⟨rfl, [], rfl, Nat.le_refl _, fun z => ⟨fun h => (nomatch h), fun h => by have := h.1; omega⟩⟩ (fun i acc H1 ⟨_, zs, e, h, _⟩ => by rw [e, List.length_map]; exact h) ?_ ?_⟩
    · rintro i acc H1 hi ⟨rfl, zs, rfl, hz, g⟩ R Z kR kZ
      have ei : (0 + (i : Int)) = (i : Int) := Int.zero_add _
      refine ⟨_, rfl, _, rfl, r, _, _, _, rfl, rfl, SqL.of hrr, at_stt (by omega) (by omega), rfl, _, rfl, ?_⟩
      cases e : stt ss (0 + (i : Int)) with
      | none =>
        refine iteF (kZ _ ⟨rfl, zs, rfl, by omega, fun z => ?_⟩)
        rw [g z]
        refine ⟨fun ⟨h1, h2⟩ => ⟨⟨h1.1, by omega⟩, h2⟩, fun ⟨h1, s, h2⟩ => ⟨⟨h1.1, ?_⟩, s, h2⟩⟩
        by_cases c : z = (i : Int)
        · rw [ei] at e; rw [c, e] at h2; cases h2
        · omega
      | some s =>
        refine iteT ⟨_, rfl, kR _ _ ⟨rfl, zs ++ [0 + (i : Int)], by simp, by simp; omega, fun z => ?_⟩⟩
        rw [List.mem_append, g z, List.mem_singleton]
        constructor
        · rintro (⟨h1, h2⟩ | h)
          · exact ⟨⟨h1.1, by omega⟩, h2⟩
          · rw [h]; exact ⟨⟨by omega, by omega⟩, s, e⟩
        · rintro ⟨h1, h2⟩
          by_cases c : z = 0 + (i : Int)
          · exact .inr c
          · exact .inl ⟨⟨h1.1, by omega⟩, h2⟩
    · rintro acc H1 ⟨rfl, zs, rfl, hz, g⟩ p hp
      refine q p _ zs (same_new hp _) upd_same (by omega) fun z => ?_
      rw [g z]
      refine and_congr_left fun _ => ?_
      unfold inN
      constructor <;> (intro h; exact ⟨h.1, by omega⟩)
theorem sc_points_open : FnScope ["setting"] ["setting"] (defScope s_points_open) := ⟨rfl, rfl, rfl, by decide +kernel, rfl, by decide +kernel, by decide +kernel⟩
theorem ok_points_open {f : Addr} {fd : FuncData} (F : Fun K "points_open" "points_open" s_points_open f fd) (T : Txt K mg cl)  : FnOk P w K mg base CX0 1 f fd ["setting"] (sp_points_open K) := by
  refine F.ok sc_points_open (fun vs H Q E h => ?_) (fun cdv A outer s H vs Q E hr h => ?_)
  · obtain ⟨r, ss, rfl, hrr, hn, q⟩ := h
    rfl
  · obtain ⟨r, ss, rfl, hrr, hn, q⟩ := h
    refine ⟨_, (pss_one (ps_ret (pe_compS ["setting"] [0] rfl (pi_range1 rfl T.z_range (pa_cons (pe_callB call_len_seq rfl T.z_len PySem.boot_len (pa_cons (pv 0) pa_nil)) pa_nil)) (fun _ _ _ => pts_one (pt_cmpR op_isN (pe_ix (ix_listK (K := K) rfl) (pv 1) (pv 0) (fun _ _ => rfl)) pe_non (nomark _))) (fun _ _ _ => (pv 0)) (hk := by kernel_rfl)))), ?_⟩
    refine ⟨_, rfl, r, _, rfl, .inl (SqL.of hrr), ((ss.length : Nat) : Int), by rw [List.length_map], by omega, by omega, comp_rangeF (lo := 0) (n := ((ss.length : Nat) : Int).toNat) (fun i acc H1 => H1 = H ∧ ∃ zs : List Int, acc = zs.map V.int ∧ zs.length ≤ i ∧ ∀ z, z ∈ zs ↔ (0 ≤ z ∧ z < i) ∧ stt ss z = none) (small (by omega)) ⟨rfl, [], rfl, Nat.le_refl _, fun z => ⟨fun h => (nomatch h), fun h => by have := h.1; omega⟩⟩ (fun i acc H1 ⟨_, zs, e, h, _⟩ => by rw [e, List.length_map]; exact h) ?_ ?_⟩
    · rintro i acc H1 hi ⟨rfl, zs, rfl, hz, g⟩ R Z kR kZ
      have ei : (0 + (i : Int)) = (i : Int) := Int.zero_add _
      refine ⟨_, rfl, _, rfl, r, _, _, _, rfl, rfl, SqL.of hrr, at_stt (by omega) (by omega), rfl, _, rfl, ?_⟩
      cases e : stt ss (0 + (i : Int)) with
      | some s =>
        refine iteF (kZ _ ⟨rfl, zs, rfl, by omega, fun z => ?_⟩)
        rw [g z]
        refine ⟨fun ⟨h1, h2⟩ => ⟨⟨h1.1, by omega⟩, h2⟩, fun ⟨h1, h2⟩ => ⟨⟨h1.1, ?_⟩, h2⟩⟩
        by_cases c : z = (i : Int)
        · rw [ei] at e; rw [c, e] at h2; cases h2
        · omega
      | none =>
        refine iteT ⟨_, rfl, kR _ _ ⟨rfl, zs ++ [0 + (i : Int)], by simp, by simp; omega, fun z => ?_⟩⟩
        rw [List.mem_append, g z, List.mem_singleton]
        constructor
        · rintro (⟨h1, h2⟩ | h)
          · exact ⟨⟨h1.1, by omega⟩, h2⟩
          · rw [h]; exact ⟨⟨by omega, by omega⟩, e⟩
        · rintro ⟨h1, h2⟩
          by_cases c : z = 0 + (i : Int)
          · exact .inr c
          · exact .inl ⟨⟨h1.1, by omega⟩, h2⟩
    · rintro acc H1 ⟨rfl, zs, rfl, hz, g⟩ p hp
      refine q p _ zs (same_new hp _) upd_same (by omega) fun z => ?_
      rw [g z]
      refine and_congr_left fun _ => ?_
      unfold inN
      constructor <;> (intro h; exact ⟨h.1, by omega⟩)
theorem sc_must_follow : FnScope ["table", "setting", "x"] ["table", "setting", "x"] (defScope s_must_follow) := ⟨rfl, rfl, rfl, by decide +kernel, rfl, by decide +kernel, by decide +kernel⟩
theorem ok_must_follow {f : Addr} {fd : FuncData} (F : Fun K "must_follow" "must_follow" s_must_follow f fd) (T : Txt K mg cl) (C_points_open : Cal P w K mg base 1 "points_open" ["setting"] (sp_points_open K)) : FnOk P w K mg base CX0 2 f fd ["table", "setting", "x"] (sp_must_follow K) := by
  refine F.ok sc_must_follow (fun vs H Q E h => ?_) (fun cdv A outer s H vs Q E hr h => ?_)
  · obtain ⟨p, rs, t, n, r, ss, x, rfl, hT, hS, hn, hrr, hl, hx, q⟩ := h
    rfl
  · obtain ⟨p, rs, t, n, r, ss, x, rfl, hT, hS, hn, hrr, hl, hx, q⟩ := h
    refine ⟨_, (pss_one (ps_ret (pe_callB (call_any rfl) rfl T.z_any boot_anyL (pa_cons (pe_compS ["table", "x"] [0, 2] rfl (pi_list (pec C_points_open (hr.mono (by decide)) rfl (pa_cons (pv 1) pa_nil))) (fun _ _ _ => pts_nil) (fun _ _ _ => (pe_and (pe_cmpR op_notN (pe_ix (ix_listK (K := K) rfl) (pe_ix (ix_listK (K := K) rfl) (pv 1) (pv 2) (fun _ _ => rfl)) (pv 0) (fun _ _ => rfl)) pe_non (nomark _)) (pe_one (pe_cmpR op_lt (pe_ix (ix_listK (K := K) rfl) (pe_ix (ix_listK (K := K) rfl) (pv 1) (pv 2) (fun _ _ => rfl)) (pv 0) (fun _ _ => rfl)) pe_int (nomark _))))) (hk := by kernel_rfl)) pa_nil)))), ?_⟩
    obtain ⟨rx, row, x1, x2, x3, x4⟩ := hT.rowAt hS hx
    refine ⟨_, rfl, r, ss, rfl, hrr, by omega, fun r1 H1 zs s1 e1 lz mz => ?_⟩
    rw [hl] at mz
    have T1 := hT.same s1
    refine ⟨r1, rfl, ⟨_, SqL.of e1⟩, comp_list (K := K) (a := r1) (xs := zs.map V.int) (fun i acc H2 => H2 = H1 ∧ ∃ fs : List Bool, acc = fs.map V.bl ∧ fs.length = i ∧ ∀ (j : Nat) (b : Bool), fs[j]? = some b → ∃ y, zs[j]? = some y ∧ (b = true ↔ ∃ e, ent t x y = some e ∧ e < 0)) (by rw [List.length_map]; exact small (by omega)) ⟨rfl, [], rfl, rfl, fun j o h => by simp at h⟩ (fun i acc H2 ⟨_, os, e, h, _⟩ => by rw [e, List.length_map]; exact h) (fun i acc H2 ⟨e, _⟩ => by rw [e]; exact SqL.of e1) ?_ ?_⟩
    · rintro i acc H2 y hy ⟨rfl, fs, rfl, lf, g⟩ R kR
      obtain ⟨hi, ey⟩ := int_at hy
      generalize hpz : zs.getD i 0 = pz at ey
      subst ey
      have hz := get_getD hi hpz
      obtain ⟨hpN, hno⟩ := (mz pz).mp (List.mem_of_getElem? hz)
      have k2 : ∀ b : Bool, (b = true ↔ ∃ e, ent t x pz = some e ∧ e < 0) → R (.bl b) H2 := fun b hb => kR _ _ ⟨rfl, fs ++ [b], by simp, by simp [lf], fun j o' hj => by
        rcases snoc_get hj with h | ⟨rfl, rfl⟩
        · exact g j o' h
        · rw [lf]; exact ⟨pz, hz, hb⟩⟩
      have x5 := x4 _ hpN
      refine ⟨_, rfl, _, rfl, p, _, _, _, rfl, rfl, SqL.of T1.ob, x1, _, rfl, rx, _, _, _, rfl, rfl, SqL.of (s1 _ _ x2), x5, rfl, _, rfl, ?_⟩
      cases e : ent t x pz with
      | none => exact iteF (k2 false ⟨fun h => (nomatch h), fun ⟨e', h, _⟩ => by rw [e] at h; cases h⟩)
      | some w =>
        rw [e] at x5
        refine iteT ⟨_, rfl, _, rfl, p, _, _, _, rfl, rfl, SqL.of T1.ob, x1, _, rfl, rx, _, _, _, rfl, rfl, SqL.of (s1 _ _ x2), x5, _, _, rfl, rfl, k2 _ ⟨fun h => ⟨w, e, of_decide_eq_true h⟩, fun ⟨e', h, h'⟩ => ?_⟩⟩
        rw [e] at h; cases h
        exact decide_eq_true h'
    · rintro acc H2 ⟨rfl, fs, rfl, lf, g⟩ pL hpL
      rw [List.length_map] at lf
      refine ⟨pL, fs, rfl, SqL.of upd_same, q _ _ (s1.trans (same_new hpL _)) ?_⟩
      rw [List.any_eq_true]
      constructor
      · rintro ⟨b, hb, h⟩
        obtain ⟨j, hj⟩ := List.mem_iff_getElem?.mp hb
        obtain ⟨y, y1, y2⟩ := g j b hj
        obtain ⟨e, e1', e2⟩ := y2.mp h
        obtain ⟨m1, m2⟩ := (mz y).mp (List.mem_of_getElem? y1)
        exact ⟨y, e, m1, m2, e1', e2⟩
      · rintro ⟨y, e, m1, m2, e1', e2⟩
        obtain ⟨j, hj⟩ := List.mem_iff_getElem?.mp ((mz y).mpr ⟨m1, m2⟩)
        have hjl := (List.getElem?_eq_some_iff.mp hj).1
        have hf : fs[j]? = some fs[j] := List.getElem?_eq_getElem (by omega)
        obtain ⟨y', y1, y2⟩ := g j _ hf
        rw [hj] at y1; cases y1
        exact ⟨_, List.mem_of_getElem? hf, y2.mpr ⟨e, e1', e2⟩⟩
theorem sc_wide_row : FnScope ["count", "a"] ["count", "a"] (defScope s_wide_row) := ⟨rfl, rfl, rfl, by decide +kernel, rfl, by decide +kernel, by decide +kernel⟩
theorem ok_wide_row {f : Addr} {fd : FuncData} (F : Fun K "wide_row" "wide_row" s_wide_row f fd) (T : Txt K mg cl)  : FnOk P w K mg base CX0 1 f fd ["count", "a"] (sp_wide_row K) := by
  refine F.ok sc_wide_row (fun vs H Q E h => ?_) (fun cdv A outer s H vs Q E hr h => ?_)
  · obtain ⟨n, a, rfl, hn, q⟩ := h
    rfl
  · obtain ⟨n, a, rfl, hn, q⟩ := h
    refine ⟨_, (pss_one (ps_ret (pe_compS ["a"] [1] rfl (pi_range1 rfl T.z_range (pa_cons (pv 0) pa_nil)) (fun _ _ _ => pts_nil) (fun _ _ _ => (pe_ifExp (pt_cmpR op_eq (pv 1) (pv 0) (nomark _)) pe_int pe_non)) (hk := by kernel_rfl)))), ?_⟩
    refine ⟨_, rfl, (n : Int), rfl, by omega, by omega, comp_vals (n := ((n : Nat) : Int).toNat) (fun j => ov (if a = (j : Int) then some (0 : Int) else none)) (small (by omega)) ?_ ?_⟩
    · intro i hi R kR
      refine ⟨_, rfl, _, rfl, rfl, _, rfl, ?_⟩
      refine ite2 (fun c => ?_) (fun c => ?_)
      · have c' := of_decide_eq_true c
        have e : a = (i : Int) := by have := V.int.inj c'; omega
        rw [if_pos e] at kR
        exact kR
      · have c' := of_decide_eq_false (Bool.eq_false_iff.mpr c)
        have e : ¬ a = (i : Int) := fun e => c' (by rw [e, Int.zero_add])
        rw [if_neg e] at kR
        exact kR
    · intro p hp
      have := q p hp
      rw [List.map_map] at this
      rw [Int.toNat_natCast]
      exact this
theorem sc_shuts : FnScope ["bound", "table", "back"] ["bound", "table"] (defScope s_shuts) := ⟨rfl, rfl, rfl, by decide +kernel, rfl, by decide +kernel, by decide +kernel⟩
theorem ok_shuts {f : Addr} {fd : FuncData} (F : Fun K "shuts" "shuts" s_shuts f fd) (T : Txt K mg cl)  : FnOk P w K mg base CX0 1 f fd ["bound", "table"] (sp_shuts K) := by
  refine F.ok sc_shuts (fun vs H Q E h => ?_) (fun cdv A outer s H vs Q E hr h => ?_)
  · obtain ⟨u, p, m, rs, t, n, rfl, hB, hT, hS, h1, h2, q⟩ := h
    rfl
  · obtain ⟨u, p, m, rs, t, n, rfl, hB, hT, hS, h1, h2, q⟩ := h
    refine ⟨_, (pss_cons (ps_set (i := 2) sc_shuts.nd rfl (Or.inl rfl) (pe_ix ix_list (pe_ix ix_list (pv 1) (pe_ix ix_tup (pv 0) pe_int (fun _ _ => rfl)) (fun _ _ => rfl)) (pe_ix ix_tup (pv 0) pe_int (fun _ _ => rfl)) (fun _ _ => rfl)))
      (pss_one (ps_ret (pe_and (pe_cmpR op_notN (pv 2) pe_non (nomark _)) (pe_one (pe_cmpR op_lt (pe_op op_add (pv 2) (pe_ix ix_tup (pv 0) pe_int (fun _ _ => rfl))) pe_int (nomark _))))))), ?_⟩
    obtain ⟨r, row, g1, g2, g3⟩ := hT.at hS h2 h1
    refine ⟨_, rfl, _, rfl, u, _, 1, _, rfl, rfl, hB, rfl, p, _, _, _, rfl, rfl, SqL.of hT.ob, g1, _, rfl, u, _, 0, _, rfl, rfl, hB, rfl, r, _, _, _, rfl, rfl, SqL.of g2, g3, ?_⟩
    refine ⟨_, rfl, rfl, _, rfl, ?_⟩
    unfold shutB at q
    cases e : ent t m.2.1 m.1 with
    | none => rw [e] at q; exact iteF q
    | some z =>
      rw [e] at q
      exact iteT ⟨_, rfl, _, rfl, u, _, 2, _, rfl, rfl, hB, rfl, _, _, rfl, rfl, _, _, rfl, rfl, q⟩
theorem sc_total : FnScope ["one", "other"] ["one", "other"] (defScope s_total) := ⟨rfl, rfl, rfl, by decide +kernel, rfl, by decide +kernel, by decide +kernel⟩
theorem ok_total {f : Addr} {fd : FuncData} (F : Fun K "total" "total" s_total f fd) (T : Txt K mg cl)  : FnOk P w K mg base CX0 1 f fd ["one", "other"] (sp_total K) := by
  refine F.ok sc_total (fun vs H Q E h => ?_) (fun cdv A outer s H vs Q E hr h => ?_)
  · obtain ⟨x, y, rfl, q⟩ := h
    rfl
  · obtain ⟨x, y, rfl, q⟩ := h
    refine ⟨_, (pss_cons (ps_if (PW.pt (pw_or (pt_cmpR op_isN (pv 0) pe_non (nomark _)) (pw_or1 (pt_cmpR op_isN (pv 1) pe_non (nomark _)))))
      (pss_one (ps_ret pe_non))
      pss_nil)
      (pss_one (ps_ret (pe_op op_add (pv 0) (pv 1))))), ?_⟩
    refine ⟨_, rfl, rfl, _, rfl, ?_⟩
    cases x with
    | none => exact iteT (iteT q)
    | some x =>
      refine iteF ⟨_, rfl, rfl, _, rfl, ?_⟩
      cases y with
      | none => exact iteT q
      | some y => exact iteF ⟨_, rfl, _, rfl, _, _, rfl, rfl, q⟩
theorem sc_lesser : FnScope ["one", "other"] ["one", "other"] (defScope s_lesser) := ⟨rfl, rfl, rfl, by decide +kernel, rfl, by decide +kernel, by decide +kernel⟩
theorem ok_lesser {f : Addr} {fd : FuncData} (F : Fun K "lesser" "lesser" s_lesser f fd) (T : Txt K mg cl)  : FnOk P w K mg base CX0 1 f fd ["one", "other"] (sp_lesser K) := by
  refine F.ok sc_lesser (fun vs H Q E h => ?_) (fun cdv A outer s H vs Q E hr h => ?_)
  · obtain ⟨x, y, rfl, q⟩ := h
    rfl
  · obtain ⟨x, y, rfl, q⟩ := h
    refine ⟨_, (pss_cons (ps_if (pt_cmpR op_isN (pv 0) pe_non (nomark _))
      (pss_one (ps_ret (pv 1)))
      pss_nil)
      (pss_cons (ps_if (pt_cmpR op_isN (pv 1) pe_non (nomark _))
      (pss_one (ps_ret (pv 0)))
      pss_nil)
      (pss_one (ps_ret (pe_callB (call_min2 rfl) rfl T.z_min boot_min (pa_cons (pv 0) (pa_cons (pv 1) pa_nil))))))), ?_⟩
    refine ⟨_, rfl, rfl, _, rfl, ?_⟩
    cases x with
    | none => exact iteT ⟨_, rfl, q⟩
    | some x =>
      refine iteF ⟨_, rfl, rfl, _, rfl, ?_⟩
      cases y with
      | none => exact iteT ⟨_, rfl, q⟩
      | some y => exact iteF ⟨_, rfl, _, rfl, x, y, rfl, q⟩
theorem sc_law_cell : FnScope ["_law_script", "_law_k", "_law_seed", "_law_some"] ["_law_script", "_law_k"] (defScope s_law_cell) := ⟨rfl, rfl, rfl, by decide +kernel, rfl, by decide +kernel, by decide +kernel⟩
theorem ok_law_cell {f : Addr} {fd : FuncData} (F : Fun K "_law_cell" "_law_cell" s_law_cell f fd) (T : Txt K mg cl)  : FnOk P w K mg base CX0 1 f fd ["_law_script", "_law_k"] (sp_law_cell K) := by
  refine F.ok sc_law_cell (fun vs H Q E h => ?_) (fun cdv A outer s H vs Q E hr h => ?_)
  · obtain ⟨a, ns, k, rfl, hS, h63, h0, h1, q⟩ := h
    rfl
  · obtain ⟨a, ns, k, rfl, hS, h63, h0, h1, q⟩ := h
    refine ⟨_, (pss_cons (ps_if (pt_cmpR op_lt (pv 1) (pe_callB call_len_seq rfl T.z_len PySem.boot_len (pa_cons (pv 0) pa_nil)) (nomark _))
      (pss_one (ps_ret (pe_ix ix_list (pv 0) (pv 1) (fun _ _ => rfl))))
      pss_nil)
      (pss_cons (ps_set (i := 2) sc_law_cell.nd rfl (Or.inl rfl) (pe_op op_mul (pv 1) pe_int))
      (pss_cons (ps_if (pt_cmpR op_gt (pe_callB call_len_seq rfl T.z_len PySem.boot_len (pa_cons (pv 0) pa_nil)) pe_int (nomark _))
      (pss_one (ps_set (i := 2) sc_law_cell.nd rfl (Or.inl rfl) (pe_op op_add (pv 2) (pe_op op_mod (pe_ix ix_list (pv 0) (pe_op op_mod (pv 1) (pe_callB call_len_seq rfl T.z_len PySem.boot_len (pa_cons (pv 0) pa_nil))) (fun _ _ => rfl)) pe_int))))
      pss_nil)
      (pss_cons (ps_set (i := 3) sc_law_cell.nd rfl (Or.inl rfl) (pe_op op_mod (pe_op op_mul (pv 2) pe_int) pe_int))
      (pss_one (ps_ret (pe_op op_mod (pe_op op_fdiv (pe_op op_mul (pv 3) (pe_op op_add (pe_op op_add (pv 3) (pe_op op_mul pe_int (pv 1))) pe_int)) pe_int) pe_int))))))), ?_⟩
    have hl : (ns.map V.int).length = ns.length := List.length_map _
    refine ⟨_, rfl, _, rfl, a, _, rfl, .inl hS, _, _, rfl, rfl, _, rfl, ?_⟩
    refine ite2 (fun c => ?_) (fun c => ?_)
    · have c' : k < (((ns.map V.int).length : Nat) : Int) := of_decide_eq_true c
      rw [hl] at c'
      exact ⟨_, rfl, _, rfl, a, _, k, _, rfl, rfl, hS, at_int h0 c', q _⟩
    · refine ⟨_, rfl, _, _, rfl, rfl, .inl ⟨by omega, by omega⟩, _, rfl, a, _, rfl, .inl hS, _, _, rfl, rfl, _, rfl, ?_⟩
      have fin : ∀ z : Int, tSeq (tAsg (tOp (rI (fun _ j => 0 < j) fun i j => .int (i % j)) (tOp (rI CMul fun i j => .int (i * j)) (tVar 2) (tC (.int 48271))) (tC (.int 65537))) (gName 3))
          (tRet (tOp (rI (fun _ j => 0 < j) fun i j => .int (i % j)) (tOp (rI CDiv fun i j => .int (i / j)) (tOp (rI CMul fun i j => .int (i * j)) (tVar 3) (tOp (rI0 fun i j => .int (i + j)) (tOp (rI0 fun i j => .int (i + j)) (tVar 3) (tOp (rI CMul fun i j => .int (i * j)) (tC (.int 2)) (tVar 1))) (tC (.int 1)))) (tC (.int 7))) (tC (.int 65521)))) { nx := fun _ H' => Q .non H', rt := Q } [some (.ref a), some (.int k), some (.int z), none] H := fun z => by
        refine ⟨_, rfl, _, _, rfl, rfl, .inr ⟨by decide, by decide⟩, _, _, rfl, rfl, (by show (0 : Int) < 65537; decide), ?_⟩
        have m1 := Int.emod_nonneg (z * 48271) (show (65537 : Int) ≠ 0 by decide)
        have m2 := Int.emod_lt_of_pos (z * 48271) (show (0 : Int) < 65537 by decide)
        exact ⟨_, rfl, _, rfl, _, rfl, _, _, rfl, rfl, .inl ⟨by decide, by decide⟩, _, _, rfl, rfl, _, _, rfl, rfl, _, _, rfl, rfl, .inl ⟨by omega, by omega⟩, _, _, rfl, rfl, ⟨by decide, by decide⟩, _, _, rfl, rfl, (by show (0 : Int) < 65521; decide), q _⟩
      refine ite2 (fun c2 => ?_) (fun c2 => fin _)
      have c3 : (0 : Int) < (((ns.map V.int).length : Nat) : Int) := of_decide_eq_true c2
      have m1 := Int.emod_nonneg k (show (((ns.map V.int).length : Nat) : Int) ≠ 0 by omega)
      have m2 := Int.emod_lt_of_pos k c3
      refine ⟨_, rfl, _, rfl, _, rfl, _, rfl, a, _, rfl, .inl hS, _, _, rfl, rfl, c3, a, _, _, _, rfl, rfl, hS, at_int m1 (by rw [hl] at m2 ⊢; exact m2), _, _, rfl, rfl, (by show (0 : Int) < 65537; decide), _, _, rfl, rfl, fin _⟩
theorem sc_law_bag : FnScope ["_law_cell_here"] ["_law_cell_here"] (defScope s_law_bag) := ⟨rfl, rfl, rfl, by decide +kernel, rfl, by decide +kernel, by decide +kernel⟩
theorem ok_law_bag {f : Addr} {fd : FuncData} (F : Fun K "_law_bag" "_law_bag" s_law_bag f fd) (T : Txt K mg cl)  : FnOk P w K mg base CX0 1 f fd ["_law_cell_here"] (sp_law_bag K) := by
  refine F.ok sc_law_bag (fun vs H Q E h => ?_) (fun cdv A outer s H vs Q E hr h => ?_)
  · obtain ⟨c, rfl, q⟩ := h
    rfl
  · obtain ⟨c, rfl, q⟩ := h
    refine ⟨_, (pss_cons (ps_if (PW.pt (pw_and (pt_cmpR op_eq (pe_op op_mod (pv 0) pe_int) pe_int (nomark _)) (pw_and1 (PW.pt (pw_or (pt_cmpR op_lt (pv 0) (pe_un un_neg pe_int) (nomark _)) (pw_or1 (pt_cmpR op_lt pe_int (pv 0) (nomark _))))))))
      (pss_one (ps_ret (pe_lst (pa_cons (pe_op op_fdiv (pv 0) pe_int) (pa_cons pe_int pa_nil)))))
      pss_nil)
      (pss_one (ps_ret (pe_lst (pa_cons (pe_op op_fdiv (pv 0) pe_int) (pa_cons pe_int pa_nil)))))), ?_⟩
    refine ⟨_, rfl, _, _, rfl, rfl, (by show (0 : Int) < 2; decide), rfl, _, rfl, ?_⟩
    refine ite2 (fun _ => ?_) (fun _ => ?_)
    · refine ⟨_, rfl, _, rfl, _, _, rfl, rfl, _, rfl, ?_⟩
      refine ite2 (fun _ => ?_) (fun _ => ?_)
      · refine iteT ⟨_, rfl, _, _, rfl, rfl, ⟨by decide, by decide⟩, (by show 2 ≤ sizeLine; decide), fun r hr0 => ?_⟩
        exact q r _ _ 0 (same_new hr0 _) hr0 upd_same (by decide) (by decide)
      · refine ⟨_, rfl, _, _, rfl, rfl, _, rfl, ?_⟩
        refine ite2 (fun _ => ?_) (fun _ => ?_)
        · refine ⟨_, rfl, _, _, rfl, rfl, ⟨by decide, by decide⟩, (by show 2 ≤ sizeLine; decide), fun r hr0 => ?_⟩
          exact q r _ _ 0 (same_new hr0 _) hr0 upd_same (by decide) (by decide)
        · refine ⟨_, rfl, _, _, rfl, rfl, ⟨by decide, by decide⟩, (by show 2 ≤ sizeLine; decide), fun r hr0 => ?_⟩
          exact q r _ _ 1 (same_new hr0 _) hr0 upd_same (by decide) (by decide)
    · refine iteF ⟨_, rfl, _, _, rfl, rfl, ⟨by decide, by decide⟩, (by show 2 ≤ sizeLine; decide), fun r hr0 => ?_⟩
      exact q r _ _ 1 (same_new hr0 _) hr0 upd_same (by decide) (by decide)
theorem sc_law_take : FnScope ["_law_bag_here", "_law_many", "_law_some"] ["_law_bag_here", "_law_many"] (defScope s_law_take) := ⟨rfl, rfl, rfl, by decide +kernel, rfl, by decide +kernel, by decide +kernel⟩
theorem ok_law_take {f : Addr} {fd : FuncData} (F : Fun K "_law_take" "_law_take" s_law_take f fd) (T : Txt K mg cl)  : FnOk P w K mg base CX0 1 f fd ["_law_bag_here", "_law_many"] (sp_law_take K) := by
  refine F.ok sc_law_take (fun vs H Q E h => ?_) (fun cdv A outer s H vs Q E hr h => ?_)
  · obtain ⟨b, u, v, m, rfl, hb, v0, v1, m0, m1, q⟩ := h
    rfl
  · obtain ⟨b, u, v, m, rfl, hb, v0, v1, m0, m1, q⟩ := h
    refine ⟨_, (pss_cons (ps_if (pt_cmpR op_eq (pe_ix ix_list (pv 0) pe_int (fun _ _ => rfl)) pe_int (nomark _))
      (pss_cons (ps_set (i := 2) sc_law_take.nd rfl (Or.inl rfl) (pe_op op_mod (pe_ix ix_list (pv 0) pe_int (fun _ _ => rfl)) (pv 1)))
      (pss_cons (ps_asg (pe_op op_fdivL (pe_ix ix_list (pv 0) pe_int (fun _ _ => rfl)) (pv 1)) (pg_sub (pv 0) pe_int set_list))
      (pss_one (ps_ret (pv 2)))))
      pss_nil)
      (pss_cons (ps_asg (pe_op op_mod (pe_op op_add (pe_op op_add (pe_op op_mul (pe_ix ix_list (pv 0) pe_int (fun _ _ => rfl)) pe_int) (pe_op op_mul (pe_op op_mul pe_int (pe_ix ix_list (pv 0) pe_int (fun _ _ => rfl))) (pe_ix ix_list (pv 0) pe_int (fun _ _ => rfl)))) pe_int) pe_int) (pg_sub (pv 0) pe_int set_list))
      (pss_cons (ps_asg (pe_op op_add (pe_ix ix_list (pv 0) pe_int (fun _ _ => rfl)) pe_int) (pg_sub (pv 0) pe_int set_list))
      (pss_one (ps_ret (pe_op op_mod (pe_op op_mod (pe_op op_mul (pe_ix ix_list (pv 0) pe_int (fun _ _ => rfl)) pe_int) pe_int) (pv 1))))))), ?_⟩
    refine ⟨_, rfl, b, _, 1, _, rfl, rfl, SqL.of hb, rfl, rfl, _, rfl, ?_⟩
    refine ite2 (fun c => ?_) (fun c => ?_)
    · refine ⟨_, rfl, b, _, 0, _, rfl, rfl, SqL.of hb, rfl, _, rfl, _, _, rfl, rfl, m0, ?_⟩
      refine ⟨_, rfl, b, _, 0, _, rfl, rfl, SqL.of hb, rfl, _, rfl, _, _, rfl, rfl, ⟨m0, m1⟩, _, rfl, b, _, _, _, rfl, rfl, hb, rfl, ?_⟩
      exact ⟨_, rfl, q _ _ v _ (but_upd _) upd_same v0 (by omega) (Int.emod_nonneg _ (by omega)) (Int.emod_lt_of_pos _ m0)⟩
    · refine ⟨_, rfl, b, _, 0, _, rfl, rfl, SqL.of hb, rfl, _, _, rfl, rfl, .inr ⟨by decide, by decide⟩, _, rfl, b, _, 1, _, rfl, rfl, SqL.of hb, rfl, _, _, rfl, rfl, .inl ⟨by decide, by decide⟩, _, rfl, b, _, 1, _, rfl, rfl, SqL.of hb, rfl, _, _, rfl, rfl, .inr ⟨by omega, by omega⟩, _, _, rfl, rfl, _, _, rfl, rfl, _, _, rfl, rfl, (by show (0 : Int) < 2147483647; decide), _, rfl, b, _, _, _, rfl, rfl, hb, rfl, ?_⟩
      dsimp only
      generalize (u * 48271 + 7919 * v * v + 17) % 2147483647 = w
      have b1 : But b H (upd H b (.lst [.int w, .int v])) := but_upd _
      have e1 : (upd H b (.lst [.int w, .int v])) b = some (.lst [.int w, .int v]) := upd_same
      have eH : upd H b (.lst ([V.int u, V.int v].set (Int.toNat 0) (.int w))) = upd H b (.lst [.int w, .int v]) := rfl
      rw [eH]
      generalize upd H b (.lst [.int w, .int v]) = H1 at b1 e1 ⊢
      refine ⟨_, rfl, b, _, 1, _, rfl, rfl, SqL.of e1, rfl, _, _, rfl, rfl, _, rfl, b, _, _, _, rfl, rfl, e1, rfl, ?_⟩
      have b2 : But b H (upd H1 b (.lst [.int w, .int (v + 1)])) := b1.trans (but_upd _)
      have e2 : (upd H1 b (.lst [.int w, .int (v + 1)])) b = some (.lst [.int w, .int (v + 1)]) := upd_same
      have eH2 : upd H1 b (.lst ([V.int w, V.int v].set (Int.toNat 1) (.int (v + 1)))) = upd H1 b (.lst [.int w, .int (v + 1)]) := rfl
      dsimp only
      rw [eH2]
      generalize upd H1 b (.lst [.int w, .int (v + 1)]) = H2 at b2 e2 ⊢
      refine ⟨_, rfl, b, _, 0, _, rfl, rfl, SqL.of e2, rfl, _, _, rfl, rfl, .inr ⟨by decide, by decide⟩, _, _, rfl, rfl, (by show (0 : Int) < 2147483629; decide), _, rfl, _, _, rfl, rfl, m0, ?_⟩
      exact q _ w (v + 1) _ b2 e2 (by omega) (by omega) (Int.emod_nonneg _ (by omega)) (Int.emod_lt_of_pos _ m0)
theorem sc_law_big : FnScope ["_law_bag_here"] ["_law_bag_here"] (defScope s_law_big) := ⟨rfl, rfl, rfl, by decide +kernel, rfl, by decide +kernel, by decide +kernel⟩
theorem ok_law_big {f : Addr} {fd : FuncData} (F : Fun K "_law_big" "_law_big" s_law_big f fd) (T : Txt K mg cl) (C_law_take : Cal P w K mg base 1 "_law_take" ["_law_bag_here", "_law_many"] (sp_law_take K)) : FnOk P w K mg base CX0 2 f fd ["_law_bag_here"] (sp_law_big K) := by
  refine F.ok sc_law_big (fun vs H Q E h => ?_) (fun cdv A outer s H vs Q E hr h => ?_)
  · obtain ⟨b, k, rfl, ⟨u, v, hb, v0, v1⟩, hk, q⟩ := h
    rfl
  · obtain ⟨b, k, rfl, ⟨u, v, hb, v0, v1⟩, hk, q⟩ := h
    refine ⟨_, (pss_cons (ps_if (pt_cmpR op_eq (pec C_law_take (hr.mono (by decide)) rfl (pa_cons (pv 0) (pa_cons pe_int pa_nil))) pe_int (nomark _))
      (pss_one (ps_ret (pe_op op_sub (pec C_law_take (hr.mono (by decide)) rfl (pa_cons (pv 0) (pa_cons (pe_op op_add (pe_op op_mul pe_int (pe_op op_pow pe_int pe_int)) pe_int) pa_nil))) (pe_op op_pow pe_int pe_int))))
      pss_nil)
      (pss_one (ps_ret (pe_op op_sub (pec C_law_take (hr.mono (by decide)) rfl (pa_cons (pv 0) (pa_cons pe_int pa_nil))) pe_int)))), ?_⟩
    refine ⟨_, rfl, b, u, v, 4, rfl, hb, v0, by omega, by decide, by decide, fun w u1 v1' H1 b1 e1 p1 p2 w0 w1 => ⟨rfl, _, rfl, ?_⟩⟩
    refine ite2 (fun _ => ?_) (fun _ => ?_)
    · refine ⟨_, rfl, _, _, rfl, rfl, ⟨by decide, by decide, by decide⟩, _, _, rfl, rfl, .inl ⟨by decide, by decide⟩, _, _, rfl, rfl, b, u1, v1', _, rfl, e1, p1, by omega, (by show (0 : Int) < 2 * 10 ^ 60 + 1; decide), (by show (2 * 10 ^ 60 + 1 : Int) < 10 ^ 100; decide), fun z u2 v2 H2 b2 e2 r1 r2 z0 z1 => ⟨_, _, rfl, rfl, ⟨by decide, by decide, by decide⟩, _, _, rfl, rfl, ?_⟩⟩
      exact q (z - 10 ^ 60) H2 (b1.trans b2) ⟨u2, v2, e2, r1, by omega⟩
    · refine ⟨_, rfl, b, u1, v1', 21, rfl, e1, p1, by omega, by decide, by decide, fun z u2 v2 H2 b2 e2 r1 r2 z0 z1 => ⟨_, _, rfl, rfl, ?_⟩⟩
      exact q (z - 10) H2 (b1.trans b2) ⟨u2, v2, e2, r1, by omega⟩
theorem sc_law_bounds : FnScope ["_law_bag_here", "_law_many", "_law_times", "_law_bounds_here", "_law_k", "_law_a", "_law_b", "_law_slack"] ["_law_bag_here", "_law_many", "_law_times"] (defScope s_law_bounds) := ⟨rfl, rfl, rfl, by decide +kernel, rfl, by decide +kernel, by decide +kernel⟩
theorem ok_law_bounds {f : Addr} {fd : FuncData} (F : Fun K "_law_bounds" "_law_bounds" s_law_bounds f fd) (T : Txt K mg cl) (C_law_take : Cal P w K mg base 1 "_law_take" ["_law_bag_here", "_law_many"] (sp_law_take K)) : FnOk P w K mg base CX0 2 f fd ["_law_bag_here", "_law_many", "_law_times"] (sp_law_bounds K) := by
  refine F.ok sc_law_bounds (fun vs H Q E h => ?_) (fun cdv A outer s H vs Q E hr h => ?_)
  · obtain ⟨b, t, k, m, ns, rfl, ⟨u, v, hb, v0, v1⟩, hk, m0, m20, ht, n0, n8, q⟩ := h
    rfl
  · obtain ⟨b, t, k, m, ns, rfl, ⟨u, v, hb, v0, v1⟩, hk, m0, m20, ht, n0, n8, q⟩ := h
    refine ⟨_, (pss_cons (ps_set (i := 3) sc_law_bounds.nd rfl (Or.inl rfl) (pe_lst pa_nil))
      (pss_cons (ps_for PassesOwn.never rfl (pi_range1 rfl T.z_range (pa_cons (pec C_law_take (hr.mono (by decide)) rfl (pa_cons (pv 0) (pa_cons (pe_op op_add (pv 1) pe_int) pa_nil))) pa_nil)) (pg_name (i := 4) sc_law_bounds.nd rfl (Or.inl rfl))
      (pss_cons (ps_set (i := 5) sc_law_bounds.nd rfl (Or.inl rfl) (pec C_law_take (hr.mono (by decide)) rfl (pa_cons (pv 0) (pa_cons (pe_callB call_len_seq rfl T.z_len PySem.boot_len (pa_cons (pv 2) pa_nil)) pa_nil))))
      (pss_cons (ps_set (i := 6) sc_law_bounds.nd rfl (Or.inl rfl) (pec C_law_take (hr.mono (by decide)) rfl (pa_cons (pv 0) (pa_cons (pe_callB call_len_seq rfl T.z_len PySem.boot_len (pa_cons (pv 2) pa_nil)) pa_nil))))
      (pss_cons (ps_set (i := 7) sc_law_bounds.nd rfl (Or.inl rfl) (pec C_law_take (hr.mono (by decide)) rfl (pa_cons (pv 0) (pa_cons pe_int pa_nil))))
      (pss_cons (ps_if (pt_cmpR op_eq (pec C_law_take (hr.mono (by decide)) rfl (pa_cons (pv 0) (pa_cons pe_int pa_nil))) pe_int (nomark _))
      (pss_one (ps_set (i := 7) sc_law_bounds.nd rfl (Or.inl rfl) (pec C_law_take (hr.mono (by decide)) rfl (pa_cons (pv 0) (pa_cons (pe_op op_pow pe_int pe_int) pa_nil)))))
      pss_nil)
      (pss_one (ps_expr (pe_bm PySem.F.plainAttrs_list PySem.F.slot_list_append PySem.F.type_list_append mt_append (pv 3) (pa_cons (pe_tup (pa_cons (pv 5) (pa_cons (pv 6) (pa_cons (pe_op op_add (pe_op op_sub (pe_ix ix_tup (pv 2) (pv 6) (fun _ _ => rfl)) (pe_ix ix_tup (pv 2) (pv 5) (fun _ _ => rfl))) (pv 7)) pa_nil)))) pa_nil)))))))))
      (pss_one (ps_ret (pv 3))))), ?_⟩
    have hln : (ns.map V.int).length = ns.length := List.length_map _
    refine ⟨(by show 0 ≤ sizeLine; decide), fun r hr0 => ?_⟩
    have s1 := same_new hr0 (.lst [])
    have e1 : (upd H r (.lst [])) r = some (.lst []) := upd_same
    generalize upd H r (.lst []) = H1 at s1 e1 ⊢
    have nrb : r ≠ b := Ne.symm (ne_of_none hb hr0)
    have ntb : t ≠ b := ne_of ht hb (fun z => by cases z)
    have ntr : t ≠ r := ne_of_none ht hr0
    refine ⟨_, rfl, _, rfl, _, _, rfl, rfl, b, u, v, _, rfl, s1 _ _ hb, v0, by omega, by omega, by omega, fun cnt u2 v2 H2 b2 e2 p1 p2 c0 c1 => ?_⟩
    have c1 : cnt < m + 1 := c1
    refine ⟨cnt, rfl, by omega, by omega, for_range (lo := 0) (n := cnt.toNat) (fun i σ H3 => But b H H3 ∧ BagAt H3 b (k + 1 + 5 * (i : Int)) ∧ (∃ qs bs, H3 r = some (.lst qs) ∧ AreB H3 qs bs ∧ bs.length = i ∧ Within ns.length bs ∧ ∀ m ∈ bs, bKept ns m = true) ∧ ∃ u4 u5 u6 u7, σ = [some (.ref b), some (.int m), some (.ref t), some (.ref r), u4, u5, u6, u7])
      ⟨fun c o e h => b2 _ _ (s1 _ _ e) h, ⟨u2, v2, e2, p1, by omega⟩, ⟨[], [], b2 _ _ e1 nrb, .nil, rfl, fun _ h => (nomatch h), fun _ h => (nomatch h)⟩, _, _, _, _, rfl⟩ ?_ ?_⟩
    · rintro i σ H3 hi ⟨b3, ⟨w3, x3, h3, y0, y1⟩, ⟨qs, bs, r3, A3, l3, w3', k3⟩, u4, u5, u6, u7, rfl⟩
      have t3 := b3 _ _ ht ntb
      refine ⟨_, rfl, _, rfl, t, _, rfl, .inr (SqT.of t3), b, w3, x3, _, rfl, h3, y0, by omega, by omega, by omega, fun x v4 x4 H4 b4 e4 z0 z1 xa xb => ?_⟩
      have t4 := b4 _ _ t3 ntb
      refine ⟨_, rfl, _, rfl, t, _, rfl, .inr (SqT.of t4), b, v4, x4, _, rfl, e4, z0, by omega, by omega, by omega, fun y v5 x5 H5 b5 e5 z2 z3 ya yb => ?_⟩
      have hx : inN x ns.length := ⟨xa, by rw [hln] at xb; exact xb⟩
      have hy : inN y ns.length := ⟨ya, by rw [hln] at yb; exact yb⟩
      have t5 := b5 _ _ t4 ntb
      refine ⟨_, rfl, b, v5, x5, 6, rfl, e5, z2, by omega, by decide, by decide, fun sl v6 x6 H6 b6 e6 z4 z5 sl0 sl1 => ?_⟩
      refine ⟨_, rfl, b, v6, x6, 5, rfl, e6, z4, by omega, by decide, by decide, fun d v7 x7 H7 b7 e7 z6 z7 _ _ => ⟨rfl, _, rfl, ?_⟩⟩
      have b37 := (b4.trans b5).trans (b6.trans b7)
      have t7 := b37 _ _ t3 ntb
      apply restJ (C := fun H8 σ => But b H3 H8 ∧ BagAt H8 b (k + 1 + 5 * ((i + 1 : Nat) : Int)) ∧ ∃ (s8 : Int) (u4 : Option V), 0 ≤ s8 ∧ σ = [some (.ref b), some (.int m), some (.ref t), some (.ref r), u4, some (.int x), some (.int y), some (.int s8)])
      · intro rest
        refine ite2 (fun _ => ?h1) (fun _ => ?h2)
        case h2 =>
          generalize hσ : (List.set _ _ _ : L2.St) = σ'
          generalize hH : H7 = Hx
          exact rest Hx σ' (by rw [← hH]; exact ⟨b37, ⟨v7, x7, e7, z6, by omega⟩, sl, _, sl0, by rw [← hσ]; rfl⟩)
        case h1 =>
          refine ⟨_, rfl, _, _, rfl, rfl, ⟨by decide, by decide, by decide⟩, b, v7, x7, _, rfl, e7, z6, by omega, (by show (0 : Int) < 10 ^ 30; decide), (by show (10 ^ 30 : Int) < 10 ^ 100; decide), fun sk v8 x8 H8 b8 e8 z8 z9 sk0 sk1 => ?_⟩
          exact rest _ _ ⟨b37.trans b8, ⟨v8, x8, e8, z8, by omega⟩, sk, _, sk0, rfl⟩
      rintro H8 _ ⟨b38, B8, s8, u4', hs8, rfl⟩
      have t8 := b38 _ _ t3 ntb
      have r8 := b38 _ _ r3 nrb
      have lq := A3.len
      refine ⟨_, rfl, .inl ⟨rfl, _, SqL.of r8⟩, _, rfl, _, rfl, _, rfl, _, rfl, t, _, _, _, rfl, rfl, SqT.of t8, at_int hy.1 hy.2, _, rfl, _, rfl, t, _, _, _, rfl, rfl, SqT.of t8, at_int hx.1 hx.2, _, _, rfl, rfl, _, rfl, _, _, rfl, rfl, (by show 3 ≤ sizeLine; decide), fun p hp => ⟨r, qs, _, rfl, rfl, same_new hp _ _ _ r8, small1000 (by omega), ?_⟩⟩
      dsimp only
      have s9 := same_new hp (.tup [.int x, .int y, .int (ns.getD y.toNat 0 - ns.getD x.toNat 0 + s8)])
      have p9 : (upd H8 p (.tup [.int x, .int y, .int (ns.getD y.toNat 0 - ns.getD x.toNat 0 + s8)])) p = some (.tup (bv (x, y, ns.getD y.toNat 0 - ns.getD x.toNat 0 + s8))) := upd_same
      generalize upd H8 p (.tup [.int x, .int y, .int (ns.getD y.toNat 0 - ns.getD x.toNat 0 + s8)]) = H9 at s9 p9 ⊢
      have r9 := s9 _ _ r8
      have b9 : But r H9 (upd H9 r (.lst (qs ++ [.ref p]))) := fun c o e h => by rw [upd_ne h]; exact e
      have hAB := b9.areB r9 (((b38.areB h3 A3).same s9).snoc p9)
      have B9 := ((B8.same s9).but b9 (Ne.symm nrb))
      refine ⟨fun c o e h => b9 _ _ (s9 _ _ (b38 _ _ (b3 _ _ e h) h)) (ne_of_none e hr0), B9, ⟨_, _, upd_same, hAB, by rw [List.length_append, l3]; rfl, fun m hm => ?_, fun m hm => ?_⟩, _, _, _, _, rfl⟩
      · rcases List.mem_append.mp hm with hm | hm
        · exact w3' m hm
        · rw [List.mem_singleton.mp hm]; exact ⟨hx, hy⟩
      · rcases List.mem_append.mp hm with hm | hm
        · exact k3 m hm
        · rw [List.mem_singleton.mp hm]
          refine decide_eq_true ?_
          unfold tm; dsimp only; omega
    · rintro σ H3 ⟨b3, _, ⟨qs, bs, r3, A3, l3, w3, k3⟩, u4, u5, u6, u7, rfl⟩
      exact ⟨_, rfl, q r H3 qs bs b3 hr0 r3 A3 (by omega) w3 k3⟩
theorem sc_Clock___init__ : FnScope ["self", "table", "start"] ["self", "table", "start"] (defScope s_Clock___init__) := ⟨rfl, rfl, rfl, by decide +kernel, rfl, by decide +kernel, by decide +kernel⟩
theorem ok_Clock___init__ {f : Addr} {fd : FuncData} (F : Fun K "__init__" "Clock.__init__" s_Clock___init__ f fd) (T : Txt K mg cl)  : FnOk P w K mg base CX0 1 f fd ["self", "table", "start"] (sp_Clock___init__ K cl) := by
  refine F.ok sc_Clock___init__ (fun vs H Q E h => ?_) (fun cdv A outer s H vs Q E hr h => ?_)
  · obtain ⟨x, dx, p, rs, t, n, z, rfl, hx, hT, hS, hn, q⟩ := h
    rfl
  · obtain ⟨x, dx, p, rs, t, n, z, rfl, hx, hT, hS, hn, q⟩ := h
    refine ⟨_, (pss_cons (ps_fld (pv 0) (pe_compS [] [] rfl (pi_list (pv 1)) (fun _ _ _ => pts_nil) (fun _ _ _ => (pe_callTy (call_list_ofK (K := K) rfl) rfl T.z_list boot_list (pa_cons (pv 0) pa_nil))) (hk := by kernel_rfl)) rfl)
      (pss_cons (ps_fld (pv 0) (pe_compS [] [] rfl (pi_list (pv 1)) (fun _ _ _ => pts_nil) (fun _ _ _ => pe_non) (hk := by kernel_rfl)) rfl)
      (pss_one (ps_fld (pv 0) (pv 2) rfl)))), ?_⟩
    have hlr := hT.len hS
    have hsz : rs.length ≤ sizeLine := by rw [List.length_map] at hlr; rw [hlr]; exact small (by omega)
    refine ⟨_, rfl, p, rfl, ⟨_, SqL.of hT.ob⟩, comp_copies hT hsz ?_ fun pr rr H1 N => ?_⟩
    · intro i H1' r row _ _ hr R' kR
      exact ⟨_, rfl, r, _, rfl, .inl (SqL.of hr), fun l hl => kR l hl⟩
    have x1 := N.sm _ _ hx
    have T1 := hT.same N.sm
    refine ⟨_, rfl, x, cl.Clock, dx, [], rfl, x1, T.cl_Clock, T.n_Clock_rows, (by show 0 < 1000; decide), ?_⟩
    have b1 : But x H1 (upd H1 x (.ins cl.Clock dx (putF "rows" (.ref pr) []))) := fun b o e h => by rw [upd_ne h]; exact e
    obtain ⟨k1, k2⟩ := T1.neIns x1
    obtain ⟨k3, k4⟩ := N.tb.neIns x1
    have T2 := b1.tab T1 k1 k2
    have P2 := b1.tab N.tb k3 k4
    have x2 : (upd H1 x (.ins cl.Clock dx (putF "rows" (.ref pr) []))) x = some (.ins cl.Clock dx (putF "rows" (.ref pr) [])) := upd_same
    generalize upd H1 x (.ins cl.Clock dx (putF "rows" (.ref pr) [])) = H2 at b1 T2 P2 x2 ⊢
    refine ⟨_, rfl, p, rfl, ⟨_, SqL.of T2.ob⟩, comp_list (K := K) (a := p) (xs := rs.map V.ref) (fun i acc H3 => H3 = H2 ∧ acc = List.replicate i V.non) (by rw [List.length_map]; exact hsz) ⟨rfl, rfl⟩ (fun i acc H3 ⟨_, e⟩ => by rw [e, List.length_replicate]) (fun i acc H3 ⟨e, _⟩ => by rw [e]; exact SqL.of T2.ob) ?_ ?_⟩
    · rintro i acc H3 y hy ⟨rfl, rfl⟩ R kR
      exact kR _ _ ⟨rfl, by rw [List.replicate_succ']⟩
    rintro acc H3 ⟨rfl, rfl⟩ pt hpt
    rw [hlr]
    have em : List.replicate n V.non = (List.replicate n (none : Option Int)).map ov := by rw [List.map_replicate]; rfl
    have s3 := same_new hpt (.lst (List.replicate n V.non))
    have e3 : (upd H3 pt (.lst (List.replicate n V.non))) pt = some (.lst ((List.replicate n (none : Option Int)).map ov)) := by rw [upd_same, em]
    generalize upd H3 pt (.lst (List.replicate n V.non)) = H4 at s3 e3 ⊢
    have x4 := s3 _ _ x2
    refine ⟨_, rfl, x, cl.Clock, dx, _, rfl, x4, T.cl_Clock, T.n_Clock_times, (by show 1 < 1000; decide), ?_⟩
    have P4 := P2.same s3
    have b4 : But x H4 (upd H4 x (.ins cl.Clock dx (putF "times" (.ref pt) (putF "rows" (.ref pr) [])))) := fun b o e h => by rw [upd_ne h]; exact e
    have nx : pt ≠ x := ne_of e3 x4 (fun z => by cases z)
    have n2 : ∀ b o, H3 b = some o → b ≠ pt := fun b o e => ne_of_none e hpt
    have bx : But x H H4 := fun b o e h => s3 _ _ (b1 _ _ (N.sm _ _ e) h)
    have x5 : (upd H4 x (.ins cl.Clock dx (putF "times" (.ref pt) (putF "rows" (.ref pr) [])))) x = some (.ins cl.Clock dx (putF "times" (.ref pt) (putF "rows" (.ref pr) []))) := upd_same
    have e5 := b4 _ _ e3 nx
    have P5 := b4.tab P4 k3 k4
    generalize upd H4 x (.ins cl.Clock dx (putF "times" (.ref pt) (putF "rows" (.ref pr) []))) = H5 at b4 x5 e5 P5 ⊢
    refine ⟨_, rfl, _, rfl, x, cl.Clock, dx, _, rfl, x5, T.cl_Clock, T.n_Clock_present, (by show 2 < 1000; decide), ?_⟩
    have b5 : But x H5 (upd H5 x (.ins cl.Clock dx (fldc pr pt z))) := fun b o e h => by rw [upd_ne h]; exact e
    refine q pr rr pt _ ⟨⟨dx, upd_same⟩, b5.tab P5 k3 k4, b5 _ _ e5 nx, List.length_replicate .., n2 _ _ P2.ob, fun r hr => ?_⟩ ((bx.trans b4).trans b5) N.p0 ?_ N.r0
    · obtain ⟨k, hk⟩ := List.mem_iff_getElem?.mp hr
      obtain ⟨_, _, g⟩ := paired_get P2.rows hk
      exact n2 _ _ g
    · cases e : H pt with
      | none => rfl
      | some o =>
        by_cases c : pt = x
        · exact absurd c nx
        · have := b1 _ _ (N.sm _ _ e) c
          rw [hpt] at this; cases this
theorem sc_Clock_now : FnScope ["self"] ["self"] (defScope s_Clock_now) := ⟨rfl, rfl, rfl, by decide +kernel, rfl, by decide +kernel, by decide +kernel⟩
theorem ok_Clock_now {f : Addr} {fd : FuncData} (F : Fun K "now" "Clock.now" s_Clock_now f fd) (T : Txt K mg cl)  : FnOk P w K mg base CX0 1 f fd ["self"] (sp_Clock_now K cl) := by
  refine F.ok sc_Clock_now (fun vs H Q E h => ?_) (fun cdv A outer s H vs Q E hr h => ?_)
  · obtain ⟨x, pr, pt, rr, n, t, ss, z, rfl, W, q⟩ := h
    rfl
  · obtain ⟨x, pr, pt, rr, n, t, ss, z, rfl, W, q⟩ := h
    refine ⟨_, (pss_one (ps_ret (pe_fld (pv 0) rfl))), ?_⟩
    obtain ⟨dx, hx⟩ := W.ob
    exact ⟨_, rfl, x, cl.Clock, dx, _, _, rfl, hx, T.cl_Clock, T.n_Clock_present, fldc_present _ _ _, q⟩
theorem sc_Clock_setting : FnScope ["self"] ["self"] (defScope s_Clock_setting) := ⟨rfl, rfl, rfl, by decide +kernel, rfl, by decide +kernel, by decide +kernel⟩
theorem ok_Clock_setting {f : Addr} {fd : FuncData} (F : Fun K "setting" "Clock.setting" s_Clock_setting f fd) (T : Txt K mg cl)  : FnOk P w K mg base CX0 1 f fd ["self"] (sp_Clock_setting K cl) := by
  refine F.ok sc_Clock_setting (fun vs H Q E h => ?_) (fun cdv A outer s H vs Q E hr h => ?_)
  · obtain ⟨x, pr, pt, rr, n, t, ss, z, rfl, W, q⟩ := h
    rfl
  · obtain ⟨x, pr, pt, rr, n, t, ss, z, rfl, W, q⟩ := h
    refine ⟨_, (pss_one (ps_ret (pe_callTy call_list_of rfl T.z_list boot_list (pa_cons (pe_fld (pv 0) rfl) pa_nil)))), ?_⟩
    obtain ⟨dx, hx⟩ := W.ob
    exact ⟨_, rfl, x, cl.Clock, dx, _, _, rfl, hx, T.cl_Clock, T.n_Clock_times, fldc_times _ _ _, pt, _, rfl, .inl (SqL.of W.tm), fun l hl => q l _ (same_new hl _) hl upd_same⟩
theorem sc_least_time : FnScope ["table", "setting", "x"] ["table", "setting", "x"] (defScope s_least_time) := ⟨rfl, rfl, rfl, by decide +kernel, rfl, by decide +kernel, by decide +kernel⟩
theorem ok_least_time {f : Addr} {fd : FuncData} (F : Fun K "least_time" "least_time" s_least_time f fd) (T : Txt K mg cl) (C_points_set : Cal P w K mg base 1 "points_set" ["setting"] (sp_points_set K)) : FnOk P w K mg base CX0 2 f fd ["table", "setting", "x"] (sp_least_time K) := by
  refine F.ok sc_least_time (fun vs H Q E h => ?_) (fun cdv A outer s H vs Q E hr h => ?_)
  · obtain ⟨p, rs, t, n, r, ss, x, rfl, hT, hS, hn, hrr, hl, hx, q⟩ := h
    rfl
  · obtain ⟨p, rs, t, n, r, ss, x, rfl, hT, hS, hn, hrr, hl, hx, q⟩ := h
    refine ⟨_, (pss_one (ps_ret (pe_callBK (call_maxD rfl) rfl T.z_max boot_max (pa_cons (pe_compS ["setting", "table", "x"] [1, 0, 2] rfl (pi_list (pec C_points_set (hr.mono (by decide)) rfl (pa_cons (pv 1) pa_nil))) (fun _ _ _ => pts_one (pt_cmpR op_notN (pe_ix (ix_listK (K := K) rfl) (pe_ix (ix_listK (K := K) rfl) (pv 2) (pv 3) (fun _ _ => rfl)) (pv 0) (fun _ _ => rfl)) pe_non (nomark _))) (fun _ _ _ => (pe_op op_sub (pe_ix (ix_listK (K := K) rfl) (pv 1) (pv 0) (fun _ _ => rfl)) (pe_ix (ix_listK (K := K) rfl) (pe_ix (ix_listK (K := K) rfl) (pv 2) (pv 3) (fun _ _ => rfl)) (pv 0) (fun _ _ => rfl)))) (hk := by kernel_rfl)) pa_nil) (pk_cons pe_non pk_nil)))), ?_⟩
    obtain ⟨rx, row, x1, x2, x3, x4⟩ := hT.rowAt hS hx
    refine ⟨_, rfl, r, ss, rfl, hrr, by omega, fun r1 H1 zs s1 e1 lz mz => ?_⟩
    have r0 := s1 _ _ hrr
    have T1 := hT.same s1
    refine ⟨r1, rfl, ⟨_, SqL.of e1⟩, comp_listF (K := K) (a := r1) (xs := zs.map V.int) (fun i acc H2 => H2 = H1 ∧ ∃ ls : List Int, acc = ls.map V.int ∧ ls.length ≤ i ∧ (∀ l ∈ ls, ∃ p s e, inN p n ∧ stt ss p = some s ∧ ent t x p = some e ∧ l = s - e) ∧ ∀ j, j < i → ∀ p, zs[j]? = some p → ∀ s e, stt ss p = some s → ent t x p = some e → s - e ∈ ls) (by rw [List.length_map]; exact small (by omega)) ⟨rfl, [], rfl, Nat.le_refl _, fun _ h => (nomatch h), fun j h => absurd h (by omega)⟩ (fun i acc H2 ⟨_, ls, e, h, _⟩ => by rw [e, List.length_map]; exact h) (fun i acc H2 ⟨e, _⟩ => by rw [e]; exact SqL.of e1) ?_ ?_⟩
    · rintro i acc H2 y hy ⟨rfl, ls, rfl, hls, g1, g2⟩ R Z kR kZ
      obtain ⟨hi, ey⟩ := int_at hy
      generalize hpz : zs.getD i 0 = pz at ey
      subst ey
      have hz : zs[i]? = some pz := by rw [List.getElem?_eq_getElem hi, ← hpz, List.getD_eq_getElem?_getD, List.getElem?_eq_getElem hi]; rfl
      obtain ⟨hpN, s, hs⟩ := (mz pz).mp (List.mem_of_getElem? hz)
      rw [hl] at hpN
      have keep : ∀ (ls' : List Int), (∀ l ∈ ls, l ∈ ls') → (∀ e, ent t x pz = some e → s - e ∈ ls') → ∀ j, j < i + 1 → ∀ p, zs[j]? = some p → ∀ s e, stt ss p = some s → ent t x p = some e → s - e ∈ ls' := fun ls' h1 h2 j hj p hp s' e hs' he => by
        by_cases c : j < i
        · exact h1 _ (g2 j c p hp s' e hs' he)
        · have ej : j = i := by omega
          subst ej
          rw [hz] at hp; cases hp
          rw [hs] at hs'; cases hs'
          exact h2 e he
      refine ⟨_, rfl, _, rfl, p, _, _, _, rfl, rfl, SqL.of T1.ob, x1, _, rfl, rx, _, _, _, rfl, rfl, SqL.of (s1 _ _ x2), x4 _ hpN, rfl, _, rfl, ?_⟩
      cases e : ent t x pz with
      | none => exact iteF (kZ _ ⟨rfl, ls, rfl, by omega, g1, keep ls (fun _ h => h) fun e' he => by rw [e] at he; cases he⟩)
      | some z =>
        have x5 : atI (row.map ov) pz = some (V.int z) := by have := x4 _ hpN; rw [e] at this; exact this
        refine iteT ⟨_, rfl, _, rfl, r, _, _, _, rfl, rfl, SqL.of r0, at_some hpN.1 (by have := hpN.2; omega) hs, _, rfl, _, rfl, p, _, _, _, rfl, rfl, SqL.of T1.ob, x1, _, rfl, rx, _, _, _, rfl, rfl, SqL.of (s1 _ _ x2), x5, _, _, rfl, rfl, kR _ _ ⟨rfl, ls ++ [s - z], by simp, by simp; omega, fun l hl' => ?_, keep _ (fun _ h => List.mem_append_left _ h) fun e' he => ?_⟩⟩
        · rcases List.mem_append.mp hl' with h | h
          · exact g1 l h
          · rw [List.mem_singleton.mp h]; exact ⟨pz, s, z, hpN, hs, e, rfl⟩
        · rw [e] at he; cases he
          exact List.mem_append_right _ (List.mem_singleton.mpr rfl)
    rintro acc H2 ⟨rfl, ls, rfl, hls, g1, g2⟩ pL hpL
    refine ⟨pL, ls, rfl, rfl, SqL.of upd_same, q (maxO ls) _ (s1.trans (same_new hpL _)) ⟨fun l h => g1 l ((maxO_spec ls).1 l h), fun p s e hp h1 h2 => ?_⟩⟩
    obtain ⟨j, hj⟩ := List.mem_iff_getElem?.mp ((mz p).mpr ⟨by rw [hl]; exact hp, s, h1⟩)
    exact (maxO_spec ls).2 _ (g2 j (by have := (List.getElem?_eq_some_iff.mp hj).1; rw [List.length_map]; exact this) p hj s e h1 h2)
theorem sc_greatest_time : FnScope ["table", "setting", "x"] ["table", "setting", "x"] (defScope s_greatest_time) := ⟨rfl, rfl, rfl, by decide +kernel, rfl, by decide +kernel, by decide +kernel⟩
theorem ok_greatest_time {f : Addr} {fd : FuncData} (F : Fun K "greatest_time" "greatest_time" s_greatest_time f fd) (T : Txt K mg cl) (C_points_set : Cal P w K mg base 1 "points_set" ["setting"] (sp_points_set K)) : FnOk P w K mg base CX0 2 f fd ["table", "setting", "x"] (sp_greatest_time K) := by
  refine F.ok sc_greatest_time (fun vs H Q E h => ?_) (fun cdv A outer s H vs Q E hr h => ?_)
  · obtain ⟨p, rs, t, n, r, ss, x, rfl, hT, hS, hn, hrr, hl, hx, q⟩ := h
    rfl
  · obtain ⟨p, rs, t, n, r, ss, x, rfl, hT, hS, hn, hrr, hl, hx, q⟩ := h
    refine ⟨_, (pss_one (ps_ret (pe_callBK (call_minD rfl) rfl T.z_min boot_min (pa_cons (pe_compS ["setting", "x", "table"] [1, 2, 0] rfl (pi_list (pec C_points_set (hr.mono (by decide)) rfl (pa_cons (pv 1) pa_nil))) (fun _ _ _ => pts_one (pt_cmpR op_notN (pe_ix (ix_listK (K := K) rfl) (pe_ix (ix_listK (K := K) rfl) (pv 3) (pv 0) (fun _ _ => rfl)) (pv 2) (fun _ _ => rfl)) pe_non (nomark _))) (fun _ _ _ => (pe_op op_add (pe_ix (ix_listK (K := K) rfl) (pv 1) (pv 0) (fun _ _ => rfl)) (pe_ix (ix_listK (K := K) rfl) (pe_ix (ix_listK (K := K) rfl) (pv 3) (pv 0) (fun _ _ => rfl)) (pv 2) (fun _ _ => rfl)))) (hk := by kernel_rfl)) pa_nil) (pk_cons pe_non pk_nil)))), ?_⟩
    refine ⟨_, rfl, r, ss, rfl, hrr, by omega, fun r2 H4 ws s4 e4 lw mw => ?_⟩
    have r4 := s4 _ _ hrr
    have T4 := hT.same s4
    refine ⟨r2, rfl, ⟨_, SqL.of e4⟩, comp_listF (K := K) (a := r2) (xs := ws.map V.int) (fun i acc H5 => H5 = H4 ∧ ∃ hs : List Int, acc = hs.map V.int ∧ hs.length ≤ i ∧ (∀ l ∈ hs, ∃ p s e, inN p n ∧ stt ss p = some s ∧ ent t p x = some e ∧ l = s + e) ∧ ∀ j, j < i → ∀ p, ws[j]? = some p → ∀ s e, stt ss p = some s → ent t p x = some e → s + e ∈ hs) (by rw [List.length_map]; exact small (by omega)) ⟨rfl, [], rfl, Nat.le_refl _, fun _ h => (nomatch h), fun j h => absurd h (by omega)⟩ (fun i acc H2 ⟨_, ls, e, h, _⟩ => by rw [e, List.length_map]; exact h) (fun i acc H2 ⟨e, _⟩ => by rw [e]; exact SqL.of e4) ?_ ?_⟩
    · rintro i acc H5 y hy ⟨rfl, hs, rfl, hhs, k1, k2⟩ R Z kR kZ
      obtain ⟨hi, ey⟩ := int_at hy
      generalize hpz : ws.getD i 0 = pz at ey
      subst ey
      have hz : ws[i]? = some pz := by rw [List.getElem?_eq_getElem hi, ← hpz, List.getD_eq_getElem?_getD, List.getElem?_eq_getElem hi]; rfl
      obtain ⟨hpN, s, hs'⟩ := (mw pz).mp (List.mem_of_getElem? hz)
      rw [hl] at hpN
      obtain ⟨ry, rowy, y1, y2, y3⟩ := T4.at hS hpN hx
      have keep : ∀ (ls' : List Int), (∀ l ∈ hs, l ∈ ls') → (∀ e, ent t pz x = some e → s + e ∈ ls') → ∀ j, j < i + 1 → ∀ p, ws[j]? = some p → ∀ s e, stt ss p = some s → ent t p x = some e → s + e ∈ ls' := fun ls' h1 h2 j hj p hp s2 e hs2 he => by
        by_cases c : j < i
        · exact h1 _ (k2 j c p hp s2 e hs2 he)
        · have ej : j = i := by omega
          subst ej
          rw [hz] at hp; cases hp
          rw [hs'] at hs2; cases hs2
          exact h2 e he
      refine ⟨_, rfl, _, rfl, p, _, _, _, rfl, rfl, SqL.of T4.ob, y1, _, rfl, ry, _, _, _, rfl, rfl, SqL.of y2, y3, rfl, _, rfl, ?_⟩
      cases e : ent t pz x with
      | none => exact iteF (kZ _ ⟨rfl, hs, rfl, by omega, k1, keep hs (fun _ h => h) fun e' he => by rw [e] at he; cases he⟩)
      | some z =>
        rw [e] at y3
        refine iteT ⟨_, rfl, _, rfl, r, _, _, _, rfl, rfl, SqL.of r4, at_some hpN.1 (by have := hpN.2; omega) hs', _, rfl, _, rfl, p, _, _, _, rfl, rfl, SqL.of T4.ob, y1, _, rfl, ry, _, _, _, rfl, rfl, SqL.of y2, y3, _, _, rfl, rfl, kR _ _ ⟨rfl, hs ++ [s + z], by simp, by simp; omega, fun l hl' => ?_, keep _ (fun _ h => List.mem_append_left _ h) fun e' he => ?_⟩⟩
        · rcases List.mem_append.mp hl' with h | h
          · exact k1 l h
          · rw [List.mem_singleton.mp h]; exact ⟨pz, s, z, hpN, hs', e, rfl⟩
        · rw [e] at he; cases he
          exact List.mem_append_right _ (List.mem_singleton.mpr rfl)
    rintro acc H5 ⟨rfl, hs, rfl, hhs, k1, k2⟩ pH hpH
    refine ⟨pH, hs, rfl, rfl, SqL.of upd_same, q (minO hs) _ (s4.trans (same_new hpH _)) ⟨fun l h => k1 l ((minO_spec hs).1 l h), fun p s e hp h1 h2 => ?_⟩⟩
    obtain ⟨j, hj⟩ := List.mem_iff_getElem?.mp ((mw p).mpr ⟨by rw [hl]; exact hp, s, h1⟩)
    exact (minO_spec hs).2 _ (k2 j (by have := (List.getElem?_eq_some_iff.mp hj).1; rw [List.length_map]; exact this) p hj s e h1 h2)
theorem sc_limit : FnScope ["table", "setting", "ends"] ["table", "setting"] (defScope s_limit) := ⟨rfl, rfl, rfl, by decide +kernel, rfl, by decide +kernel, by decide +kernel⟩
theorem ok_limit {f : Addr} {fd : FuncData} (F : Fun K "limit" "limit" s_limit f fd) (T : Txt K mg cl) (C_greatest_time : Cal P w K mg base 2 "greatest_time" ["table", "setting", "x"] (sp_greatest_time K)) (C_points_open : Cal P w K mg base 1 "points_open" ["setting"] (sp_points_open K)) : FnOk P w K mg base CX0 3 f fd ["table", "setting"] (sp_limit K) := by
  refine F.ok sc_limit (fun vs H Q E h => ?_) (fun cdv A outer s H vs Q E hr h => ?_)
  · obtain ⟨p, rs, t, n, r, ss, rfl, hT, hS, hn, hrr, hl, q⟩ := h
    rfl
  · obtain ⟨p, rs, t, n, r, ss, rfl, hT, hS, hn, hrr, hl, q⟩ := h
    refine ⟨_, (pss_cons (ps_setComp (j := 2) ["table", "setting"] [0, 1] sc_limit.nd rfl rfl rfl (pi_list (pec C_points_open (hr.mono (by decide)) rfl (pa_cons (pv 1) pa_nil))) (fun _ _ _ => pts_nil) (fun _ _ _ => (pec C_greatest_time (hr.mono (by decide)) rfl (pa_cons (pv 1) (pa_cons (pv 2) (pa_cons (pv 0) pa_nil))))) (hk := by kernel_rfl))
      (pss_one (ps_ret (pe_callBK (call_minD rfl) rfl T.z_min boot_min (pa_cons (pe_compS [] [] rfl (pi_list (pv 2)) (fun _ _ _ => pts_one (pt_cmpR op_notN (pv 0) pe_non (nomark _))) (fun _ _ _ => (pv 0)) (hk := by kernel_rfl)) pa_nil) (pk_cons pe_non pk_nil))))), ?_⟩
    refine ⟨_, rfl, r, ss, rfl, hrr, by omega, fun r1 H1 zs s1 e1 lz mz => ?_⟩
    rw [hl] at mz
    refine ⟨r1, rfl, ⟨_, SqL.of e1⟩, comp_list (K := K) (a := r1) (xs := zs.map V.int) (fun i acc H2 => Same H1 H2 ∧ ∃ os : List (Option Int), acc = os.map ov ∧ os.length = i ∧ ∀ (j : Nat) (o : Option Int), os[j]? = some o → ∃ x, zs[j]? = some x ∧ IsHigh n t ss x o) (by rw [List.length_map]; exact small (by omega)) ⟨same_refl _, [], rfl, rfl, fun j o h => by simp at h⟩ (fun i acc H2 ⟨_, os, e, h, _⟩ => by rw [e, List.length_map]; exact h) (fun i acc H2 ⟨s, _⟩ => SqL.of (s _ _ e1)) ?_ ?_⟩
    · rintro i acc H2 y hy ⟨s2, os, rfl, lo, g⟩ R kR
      obtain ⟨hi, ey⟩ := int_at hy
      generalize hpz : zs.getD i 0 = pz at ey
      subst ey
      have hz := get_getD hi hpz
      obtain ⟨hpN, hno⟩ := (mz pz).mp (List.mem_of_getElem? hz)
      refine ⟨_, rfl, _, rfl, _, rfl, p, rs, t, n, r, ss, pz, rfl, (hT.same s1).same s2, hS, hn, s2 _ _ (s1 _ _ hrr), hl, hpN, fun o H3 s3 U => kR _ _ ⟨s2.trans s3, os ++ [o], by simp, by simp [lo], fun j o' hj => ?_⟩⟩
      rcases snoc_get hj with h | ⟨rfl, rfl⟩
      · exact g j o' h
      · rw [lo]; exact ⟨pz, hz, U⟩
    · rintro acc H2 ⟨s2, os, rfl, lo, g⟩ pL hpL
      rw [List.length_map] at lo
      have s3 := same_new hpL (.lst (os.map ov))
      have e3 : (upd H2 pL (.lst (os.map ov))) pL = some (.lst (os.map ov)) := upd_same
      generalize upd H2 pL (.lst (os.map ov)) = H3 at s3 e3 ⊢
      have s03 := (s1.trans s2).trans s3
      refine ⟨_, rfl, pL, rfl, ⟨_, SqL.of e3⟩, comp_listF (K := K) (a := pL) (xs := os.map ov) (fun i acc H4 => H4 = H3 ∧ ∃ ms : List Int, acc = ms.map V.int ∧ ms.length ≤ i ∧ (∀ z ∈ ms, some z ∈ os) ∧ ∀ j z, j < i → os[j]? = some (some z) → z ∈ ms) (by rw [List.length_map]; exact small (by omega)) ⟨rfl, [], rfl, Nat.le_refl _, fun _ h => (nomatch h), fun j z h => absurd h (by omega)⟩ (fun i acc H4 ⟨_, ms, e, h, _⟩ => by rw [e, List.length_map]; exact h) (fun i acc H4 ⟨e, _⟩ => by rw [e]; exact SqL.of e3) ?_ ?_⟩
      · rintro i acc H4 y hy ⟨rfl, ms, rfl, hms, g1, g2⟩ R Z kR kZ
        obtain ⟨o, ho, rfl⟩ := ov_at hy
        have keep := ov_keep ho g2
        refine ⟨_, rfl, rfl, _, rfl, ?_⟩
        cases o with
        | none => exact iteF (kZ _ ⟨rfl, ms, rfl, by omega, g1, keep ms (fun _ h => h) fun z h => (nomatch h)⟩)
        | some z =>
          refine iteT ⟨_, rfl, kR _ _ ⟨rfl, ms ++ [z], by rw [List.map_append]; rfl, by simp; omega, fun w hw => ?_, keep _ (fun _ h => List.mem_append_left _ h) fun w h => by cases h; exact List.mem_append_right _ (List.mem_singleton.mpr rfl)⟩⟩
          rcases List.mem_append.mp hw with h | h
          · exact g1 w h
          · rw [List.mem_singleton.mp h]; exact List.mem_of_getElem? ho
      · rintro acc H4 ⟨rfl, ms, rfl, hms, g1, g2⟩ pM hpM
        rw [List.length_map] at g2
        refine ⟨pM, ms, rfl, rfl, SqL.of upd_same, q (minO ms) _ (s03.trans (same_new hpM _)) (lim_of mz lo g (fun z h => g1 z ((minO_spec ms).1 z h)) fun z h => ?_)⟩
        obtain ⟨j, hj⟩ := List.mem_iff_getElem?.mp h
        exact (minO_spec ms).2 z (g2 j z (List.getElem?_eq_some_iff.mp hj).1 hj)
theorem sc_course : FnScope ["table", "setting", "now", "starts"] ["table", "setting", "now"] (defScope s_course) := ⟨rfl, rfl, rfl, by decide +kernel, rfl, by decide +kernel, by decide +kernel⟩
theorem ok_course {f : Addr} {fd : FuncData} (F : Fun K "course" "course" s_course f fd) (T : Txt K mg cl) (C_least_time : Cal P w K mg base 2 "least_time" ["table", "setting", "x"] (sp_least_time K)) : FnOk P w K mg base CX0 3 f fd ["table", "setting", "now"] (sp_course K) := by
  refine F.ok sc_course (fun vs H Q E h => ?_) (fun cdv A outer s H vs Q E hr h => ?_)
  · obtain ⟨p, rs, t, n, bs, r, ss, z, rfl, hT, R, hn, hrr, hl, q⟩ := h
    rfl
  · obtain ⟨p, rs, t, n, bs, r, ss, z, rfl, hT, R, hn, hrr, hl, q⟩ := h
    refine ⟨_, (pss_cons (ps_set (i := 3) sc_course.nd rfl (Or.inr rfl) (pe_compS ["now"] [2] rfl (pi_list (pv 1)) (fun _ _ _ => pts_nil) (fun _ _ _ => (pe_ifExp (pt_cmpR op_isN (pv 0) pe_non (nomark _)) (pv 1) (pv 0))) (hk := by kernel_rfl)))
      (pss_one (ps_ret (pe_callTy call_tuple_of rfl T.z_tuple boot_tuple (pa_cons (pe_compS ["table", "starts"] [0, 3] rfl (pi_range1 rfl T.z_range (pa_cons (pe_callB call_len_seq rfl T.z_len PySem.boot_len (pa_cons (pv 0) pa_nil)) pa_nil)) (fun _ _ _ => pts_nil) (fun _ _ _ => (pec C_least_time (hr.mono (by decide)) rfl (pa_cons (pv 1) (pa_cons (pv 2) (pa_cons (pv 0) pa_nil))))) (hk := by kernel_rfl)) pa_nil))))), ?_⟩
    have hS := R.square
    have hlr := hT.len hS
    refine ⟨_, rfl, r, rfl, ⟨_, SqL.of hrr⟩, comp_list (K := K) (a := r) (xs := ss.map ov) (fun i acc H1 => H1 = H ∧ i ≤ ss.length ∧ acc = (startsO (ss.take i) z).map ov) (by rw [List.length_map]; exact small (by omega)) ⟨rfl, Nat.zero_le _, rfl⟩ (fun i acc H1 ⟨_, h, e⟩ => by rw [e, List.length_map, startsO_len, List.length_take]; omega) (fun i acc H1 ⟨e, _⟩ => by rw [e]; exact SqL.of hrr) ?_ ?_⟩
    · rintro i acc H1 y hy ⟨rfl, hi, rfl⟩ R' kR
      obtain ⟨o, ho, rfl⟩ := ov_at hy
      have hlt := (List.getElem?_eq_some_iff.mp ho).1
      have k2 : R' (.int (o.getD z)) H1 := kR _ _ ⟨rfl, hlt, by unfold startsO; rw [List.take_add_one, ho, List.map_append, List.map_append]; rfl⟩
      refine ⟨_, rfl, rfl, _, rfl, ?_⟩
      cases o with
      | none => exact iteT ⟨_, rfl, k2⟩
      | some s => exact iteF ⟨_, rfl, k2⟩
    · rintro acc H1 ⟨rfl, _, rfl⟩ pS hpS
      rw [List.length_map, List.take_length]
      have s1 := same_new hpS (.lst ((startsO ss z).map ov))
      have e1 : (upd H1 pS (.lst ((startsO ss z).map ov))) pS = some (.lst ((startsO ss z).map ov)) := upd_same
      generalize upd H1 pS (.lst ((startsO ss z).map ov)) = H2 at s1 e1 ⊢
      refine ⟨_, rfl, p, _, rfl, .inl (SqL.of (s1 _ _ hT.ob)), ((n : Nat) : Int), by rw [hlr], by omega, by omega, comp_range (lo := 0) (n := ((n : Nat) : Int).toNat) (fun i acc H3 => Same H2 H3 ∧ ∃ ts : List Int, acc = ts.map V.int ∧ ts.length = i ∧ ∀ x : Int, inN x i → IsLow n t (startsO ss z) x (some (ts.getD x.toNat 0))) (small (by omega)) ⟨same_refl _, [], rfl, rfl, fun x hx => absurd hx.1 (by have := hx.2; omega)⟩ (fun i acc H3 ⟨_, ts, e, h, _⟩ => by rw [e, List.length_map]; exact h) ?_ ?_⟩
      · rintro i acc H3 hi ⟨s3, ts, rfl, lt, g⟩ R' kR
        have hx : inN (0 + (i : Int)) n := ⟨by omega, by omega⟩
        refine ⟨_, rfl, _, rfl, _, rfl, p, rs, t, n, pS, startsO ss z, _, rfl, (hT.same s1).same s3, hS, hn, s3 _ _ e1, by rw [startsO_len]; exact hl, hx, fun lo H4 s4 L => ?_⟩
        obtain ⟨l, rfl⟩ := low_some R hl hx L
        refine kR _ _ ⟨s3.trans s4, ts ++ [l], by rw [List.map_append]; rfl, by simp [lt], fun x hx' => ?_⟩
        have h1 := hx'.1
        have h2 := hx'.2
        by_cases c : x.toNat < i
        · rw [List.getD_eq_getElem?_getD, List.getElem?_append_left (by omega), ← List.getD_eq_getElem?_getD]
          exact g x ⟨h1, by omega⟩
        · have ex : x = 0 + (i : Int) := by omega
          subst ex
          rw [List.getD_eq_getElem?_getD, List.getElem?_append_right (by omega), show (0 + (i : Int)).toNat - ts.length = 0 by omega]
          exact L
      · rintro acc H3 ⟨s3, ts, rfl, lt, g⟩ pL hpL
        rw [Int.toNat_natCast] at lt g
        refine ⟨pL, _, rfl, .inl ⟨SqL.of upd_same, fun u hu => ?_⟩⟩
        have s03 := (s1.trans s3).trans (same_new hpL (.lst (ts.map V.int)))
        exact q u ts _ (s03.trans (same_new hu _)) (none_of s03 hu) upd_same lt g
theorem sc_turn : FnScope ["table", "setting", "now", "x", "low", "high"] ["table", "setting", "now", "x"] (defScope s_turn) := ⟨rfl, rfl, rfl, by decide +kernel, rfl, by decide +kernel, by decide +kernel⟩
theorem ok_turn {f : Addr} {fd : FuncData} (F : Fun K "turn" "turn" s_turn f fd) (T : Txt K mg cl) (C_limit_turns : Cal P w K mg base 3 "limit_turns" ["table", "setting"] (sp_limit K)) (C_course_turns : Cal P w K mg base 3 "course_turns" ["table", "setting", "now"] (sp_course K)) (C_must_follow : Cal P w K mg base 2 "must_follow" ["table", "setting", "x"] (sp_must_follow K)) : FnOk P w K mg base CX0 4 f fd ["table", "setting", "now", "x"] (sp_turn K) := by
  refine F.ok sc_turn (fun vs H Q E h => ?_) (fun cdv A outer s H vs Q E hr h => ?_)
  · obtain ⟨p, rs, t, n, bs, r, ss, z, x, rfl, hT, R, hn, hrr, hl, hx, q⟩ := h
    rfl
  · obtain ⟨p, rs, t, n, bs, r, ss, z, x, rfl, hT, R, hn, hrr, hl, hx, q⟩ := h
    refine ⟨_, (pss_cons (ps_if (PW.pt (pw_or (pt_cmpR op_notN (pe_ix ix_list (pv 1) (pv 3) (fun _ _ => rfl)) pe_non (nomark _)) (pw_or1 (pt_val (pec C_must_follow (hr.mono (by decide)) rfl (pa_cons (pv 0) (pa_cons (pv 1) (pa_cons (pv 3) pa_nil))))))))
      (pss_one (ps_ret pe_non))
      pss_nil)
      (pss_cons (ps_set (i := 4) sc_turn.nd rfl (Or.inl rfl) (pe_ix ix_tup (pec C_course_turns (hr.mono (by decide)) rfl (pa_cons (pv 0) (pa_cons (pv 1) (pa_cons (pv 2) pa_nil)))) (pv 3) (fun _ _ => rfl)))
      (pss_cons (ps_set (i := 5) sc_turn.nd rfl (Or.inl rfl) (pec C_limit_turns (hr.mono (by decide)) rfl (pa_cons (pv 0) (pa_cons (pv 1) pa_nil))))
      (pss_cons (ps_if (PW.pt (pw_and (pt_cmpR op_notN (pv 5) pe_non (nomark _)) (pw_and1 (pt_cmpR op_lt (pv 5) (pv 4) (nomark _)))))
      (pss_one (ps_ret pe_non))
      pss_nil)
      (pss_one (ps_ret (pe_tup (pa_cons (pv 4) (pa_cons (pv 5) pa_nil))))))))), ?_⟩
    have hr1 := at_stt (ss := ss) hx.1 (by rw [hl]; exact hx.2)
    refine ⟨_, rfl, _, rfl, r, _, _, _, rfl, rfl, SqL.of hrr, hr1, rfl, _, rfl, ?_⟩
    cases es : stt ss x with
    | some s => exact iteT (iteT (q .non none H (same_refl H) (.inl ⟨s, es⟩) (.inl ⟨rfl, rfl⟩)))
    | none =>
      refine iteF ⟨_, rfl, _, rfl, _, rfl, p, rs, t, n, r, ss, x, rfl, hT, R.square, hn, hrr, hl, hx, fun b H1 s1 hb => ?_⟩
      cases b with
      | true =>
        obtain ⟨y, e, h1, h2, h3, h4⟩ := hb.mp rfl
        exact ⟨_, rfl, iteT (q .non none H1 s1 (.inr (.inl ⟨y, e, h1, h2, h3, h4⟩)) (.inl ⟨rfl, rfl⟩))⟩
      | false =>
        have hf : ∀ y e, inN y n → stt ss y = none → ent t x y = some e → 0 ≤ e := fun y e h1 h2 h3 => by
          by_cases c : e < 0
          · exact absurd (hb.mpr ⟨y, e, h1, h2, h3, c⟩) (by decide)
          · omega
        refine ⟨_, rfl, iteF ?_⟩
        refine ⟨_, rfl, _, rfl, _, rfl, p, rs, t, n, bs, r, ss, z, rfl, hT.same s1, R, hn, s1 _ _ hrr, hl, fun u ts H2 s2 u0 e2 l2 g2 => ?_⟩
        have s02 := s1.trans s2
        refine ⟨_, rfl, u, _, _, _, rfl, rfl, SqT.of e2, at_int hx.1 (by rw [l2]; exact hx.2), ?_⟩
        refine ⟨_, rfl, _, rfl, p, rs, t, n, r, ss, rfl, hT.same s02, R.square, hn, s02 _ _ hrr, hl, fun hi H3 s3 M => ?_⟩
        have A := g2 x hx
        generalize ts.getD x.toNat 0 = c at A ⊢
        obtain ⟨lw, L⟩ := low_ex (n := n) (t := t) (ss := ss) (x := x)
        have ec := low_turn R hl hx es hf A L
        have s03 := s02.trans s3
        have fin : (∀ h, hi = some h → c ≤ h) → ∀ u', H3 u' = none → Q (.ref u') (upd H3 u' (.tup [.int c, ov hi])) := fun hc u' hu' => q (.ref u') (some (c, hi)) _ (s03.trans (same_new hu' _)) ⟨es, hf, lw, L, M, ec, hc⟩ (.inr ⟨u', c, hi, rfl, upd_same, rfl⟩)
        refine ⟨_, rfl, rfl, _, rfl, ?_⟩
        cases hi with
        | none => exact iteF (iteF ⟨_, rfl, _, rfl, (by show 2 ≤ sizeLine; decide), fun u' hu' => fin (fun h e => (nomatch e)) u' hu'⟩)
        | some h =>
          refine iteT ⟨_, rfl, _, rfl, _, _, rfl, rfl, _, rfl, ?_⟩
          refine ite2 (fun d => ?_) (fun d => ?_)
          · have d' : h < c := of_decide_eq_true d
            exact q .non none H3 s03 (.inr (.inr ⟨lw, h, L, M, by omega⟩)) (.inl ⟨rfl, rfl⟩)
          · have d' : ¬ h < c := of_decide_eq_false (Bool.eq_false_iff.mpr d)
            exact ⟨_, rfl, _, rfl, (by show 2 ≤ sizeLine; decide), fun u' hu' => fin (fun h' e => by cases e; omega) u' hu'⟩
theorem sc_wide : FnScope ["count"] ["count"] (defScope s_wide) := ⟨rfl, rfl, rfl, by decide +kernel, rfl, by decide +kernel, by decide +kernel⟩
theorem ok_wide {f : Addr} {fd : FuncData} (F : Fun K "wide" "wide" s_wide f fd) (T : Txt K mg cl) (C_wide_row : Cal P w K mg base 1 "wide_row" ["count", "a"] (sp_wide_row K)) : FnOk P w K mg base CX0 2 f fd ["count"] (sp_wide K) := by
  refine F.ok sc_wide (fun vs H Q E h => ?_) (fun cdv A outer s H vs Q E hr h => ?_)
  · obtain ⟨n, rfl, hn, q⟩ := h
    rfl
  · obtain ⟨n, rfl, hn, q⟩ := h
    refine ⟨_, (pss_one (ps_ret (pe_compS ["count"] [0] rfl (pi_range1 rfl T.z_range (pa_cons (pv 0) pa_nil)) (fun _ _ _ => pts_nil) (fun _ _ _ => (pec C_wide_row (hr.mono (by decide)) rfl (pa_cons (pv 1) (pa_cons (pv 0) pa_nil)))) (hk := by kernel_rfl)))), ?_⟩
    refine ⟨_, rfl, (n : Int), rfl, by omega, by omega, comp_rows (n := ((n : Nat) : Int).toNat) (fun i => (List.range n).map fun (j : Nat) => if (i : Int) = (j : Int) then some (0 : Int) else none) (small (by omega)) ?_ ?_⟩
    · intro i H1 hi s1 R kR
      refine ⟨_, rfl, _, rfl, n, _, rfl, hn, fun r hr => ?_⟩
      refine kR r _ hr (same_new hr _) ?_
      rw [upd_same, Int.zero_add]
    · intro p rs H' N
      rw [Int.toNat_natCast] at N
      exact q p rs H' N
theorem sc_held_row : FnScope ["table", "a", "bound", "ahead", "behind"] ["table", "a", "bound"] (defScope s_held_row) := ⟨rfl, rfl, rfl, by decide +kernel, rfl, by decide +kernel, by decide +kernel⟩
theorem ok_held_row {f : Addr} {fd : FuncData} (F : Fun K "held_row" "held_row" s_held_row f fd) (T : Txt K mg cl) (C_total : Cal P w K mg base 1 "total" ["one", "other"] (sp_total K)) (C_lesser : Cal P w K mg base 1 "lesser" ["one", "other"] (sp_lesser K)) : FnOk P w K mg base CX0 2 f fd ["table", "a", "bound"] (sp_held_row K) := by
  refine F.ok sc_held_row (fun vs H Q E h => ?_) (fun cdv A outer s H vs Q E hr h => ?_)
  · obtain ⟨u, p, a, m, rs, t, n, rfl, hB, hT, hS, hn, ha, h1, h2, q⟩ := h
    rfl
  · obtain ⟨u, p, a, m, rs, t, n, rfl, hB, hT, hS, hn, ha, h1, h2, q⟩ := h
    refine ⟨_, (pss_cons (ps_set (i := 3) sc_held_row.nd rfl (Or.inr rfl) (pec C_total (hr.mono (by decide)) rfl (pa_cons (pe_ix ix_list (pe_ix ix_list (pv 0) (pv 1) (fun _ _ => rfl)) (pe_ix ix_tup (pv 2) pe_int (fun _ _ => rfl)) (fun _ _ => rfl)) (pa_cons (pe_ix ix_tup (pv 2) pe_int (fun _ _ => rfl)) pa_nil))))
      (pss_cons (ps_set (i := 4) sc_held_row.nd rfl (Or.inr rfl) (pe_ix ix_list (pv 0) (pe_ix ix_tup (pv 2) pe_int (fun _ _ => rfl)) (fun _ _ => rfl)))
      (pss_one (ps_ret (pe_compS ["ahead", "table", "a", "behind"] [3, 0, 1, 4] rfl (pi_range1 rfl T.z_range (pa_cons (pe_callB call_len_seq rfl T.z_len PySem.boot_len (pa_cons (pv 0) pa_nil)) pa_nil)) (fun _ _ _ => pts_nil) (fun _ _ _ => (pec C_lesser (hr.mono (by decide)) rfl (pa_cons (pe_ix (ix_listK (K := K) rfl) (pe_ix (ix_listK (K := K) rfl) (pv 2) (pv 3) (fun _ _ => rfl)) (pv 0) (fun _ _ => rfl)) (pa_cons (pec C_total (hr.mono (by decide)) rfl (pa_cons (pv 1) (pa_cons (pe_ix (ix_listK (K := K) rfl) (pv 4) (pv 0) (fun _ _ => rfl)) pa_nil))) pa_nil)))) (hk := by kernel_rfl)))))), ?_⟩
    obtain ⟨r, row, g1, g2, g3, g4⟩ := hT.rowAt hS ha
    obtain ⟨r2, row2, k1, k2, k3, k4⟩ := hT.rowAt hS h2
    have hl := hT.len hS
    refine ⟨_, rfl, _, rfl, p, _, _, _, rfl, rfl, SqL.of hT.ob, g1, _, rfl, u, _, 0, _, rfl, rfl, hB, rfl, r, _, _, _, rfl, rfl, SqL.of g2, g4 _ h1, _, rfl, u, _, 2, _, rfl, rfl, hB, rfl, _, some m.2.2, rfl, ?_⟩
    refine ⟨_, rfl, _, rfl, u, _, 1, _, rfl, rfl, hB, rfl, p, _, _, _, rfl, rfl, SqL.of hT.ob, k1, ?_⟩
    refine ⟨_, rfl, p, _, rfl, .inl (SqL.of hT.ob), (n : Int), by rw [hl], by omega, by omega, comp_vals (n := ((n : Nat) : Int).toNat) (fun j => ov (heldF t m a (j : Int))) (small (by omega)) ?_ ?_⟩
    · intro i hi R kR
      have hi' : inN (0 + (i : Int)) n := ⟨by omega, by omega⟩
      have e0 : (0 + (i : Int)) = (i : Int) := Int.zero_add _
      refine ⟨_, rfl, _, rfl, p, _, _, _, rfl, rfl, SqL.of hT.ob, g1, _, rfl, r, _, _, _, rfl, rfl, SqL.of g2, g4 _ hi', _, rfl, _, rfl, _, rfl, r2, _, _, _, rfl, rfl, SqL.of k2, k4 _ hi', _, _, rfl, _, _, rfl, ?_⟩
      rw [e0]
      exact kR
    · intro p' hp
      have := q p' hp
      rw [List.map_map] at this
      rw [Int.toNat_natCast]
      exact this
theorem sc_Clock_limit : FnScope ["self"] ["self"] (defScope s_Clock_limit) := ⟨rfl, rfl, rfl, by decide +kernel, rfl, by decide +kernel, by decide +kernel⟩
theorem ok_Clock_limit {f : Addr} {fd : FuncData} (F : Fun K "limit" "Clock.limit" s_Clock_limit f fd) (T : Txt K mg cl) (C_limit_turns : Cal P w K mg base 3 "limit_turns" ["table", "setting"] (sp_limit K)) : FnOk P w K mg base CX0 4 f fd ["self"] (sp_Clock_limit K cl) := by
  refine F.ok sc_Clock_limit (fun vs H Q E h => ?_) (fun cdv A outer s H vs Q E hr h => ?_)
  · obtain ⟨x, pr, pt, rr, n, t, ss, z, rfl, W, hS, hn, q⟩ := h
    rfl
  · obtain ⟨x, pr, pt, rr, n, t, ss, z, rfl, W, hS, hn, q⟩ := h
    refine ⟨_, (pss_one (ps_ret (pec C_limit_turns (hr.mono (by decide)) rfl (pa_cons (pe_fld (pv 0) rfl) (pa_cons (pe_fld (pv 0) rfl) pa_nil))))), ?_⟩
    obtain ⟨dx, hx⟩ := W.ob
    exact ⟨_, rfl, x, cl.Clock, dx, _, _, rfl, hx, T.cl_Clock, T.n_Clock_rows, fldc_rows _ _ _, _, rfl, x, cl.Clock, dx, _, _, rfl, hx, T.cl_Clock, T.n_Clock_times, fldc_times _ _ _, pr, rr, t, n, pt, ss, rfl, W.tb, hS, hn, W.tm, W.len, q⟩
theorem sc_Clock_turn : FnScope ["self", "x"] ["self", "x"] (defScope s_Clock_turn) := ⟨rfl, rfl, rfl, by decide +kernel, rfl, by decide +kernel, by decide +kernel⟩
theorem ok_Clock_turn {f : Addr} {fd : FuncData} (F : Fun K "turn" "Clock.turn" s_Clock_turn f fd) (T : Txt K mg cl) (C_turn_turns : Cal P w K mg base 4 "turn_turns" ["table", "setting", "now", "x"] (sp_turn K)) : FnOk P w K mg base CX0 5 f fd ["self", "x"] (sp_Clock_turn K cl) := by
  refine F.ok sc_Clock_turn (fun vs H Q E h => ?_) (fun cdv A outer s H vs Q E hr h => ?_)
  · obtain ⟨x, pr, pt, rr, n, t, bs, ss, z, y, rfl, W, R, hn, hy, q⟩ := h
    rfl
  · obtain ⟨x, pr, pt, rr, n, t, bs, ss, z, y, rfl, W, R, hn, hy, q⟩ := h
    refine ⟨_, (pss_one (ps_ret (pec C_turn_turns (hr.mono (by decide)) rfl (pa_cons (pe_fld (pv 0) rfl) (pa_cons (pe_fld (pv 0) rfl) (pa_cons (pe_fld (pv 0) rfl) (pa_cons (pv 1) pa_nil))))))), ?_⟩
    obtain ⟨dx, hx⟩ := W.ob
    exact ⟨_, rfl, x, cl.Clock, dx, _, _, rfl, hx, T.cl_Clock, T.n_Clock_rows, fldc_rows _ _ _, _, rfl, x, cl.Clock, dx, _, _, rfl, hx, T.cl_Clock, T.n_Clock_times, fldc_times _ _ _, _, rfl, x, cl.Clock, dx, _, _, rfl, hx, T.cl_Clock, T.n_Clock_present, fldc_present _ _ _, _, rfl, pr, rr, t, n, bs, pt, ss, z, y, rfl, W.tb, R, hn, W.tm, W.len, hy, q⟩
theorem sc_Clock_wait : FnScope ["self", "time"] ["self", "time"] (defScope s_Clock_wait) := ⟨rfl, rfl, rfl, by decide +kernel, rfl, by decide +kernel, by decide +kernel⟩
theorem ok_Clock_wait {f : Addr} {fd : FuncData} (F : Fun K "wait" "Clock.wait" s_Clock_wait f fd) (T : Txt K mg cl) (C_lies_between : Cal P w K mg base 1 "lies_between" ["time", "low", "high"] (sp_lies_between K)) (M_Clock_limit : MCal P w K mg base cl.Clock 4 "limit" ["self"] (sp_Clock_limit K cl)) : FnOk P w K mg base (CXx P w) 5 f fd ["self", "time"] (sp_Clock_wait K cl) := by
  refine F.okX sc_Clock_wait (fun vs H Q E h => ?_) (fun cdv A outer s H vs Q E hr h => ?_)
  · obtain ⟨x, pr, pt, rr, n, t, ss, z, w, rfl, W, hS, hn, q⟩ := h
    rfl
  · obtain ⟨x, pr, pt, rr, n, t, ss, z, w, rfl, W, hS, hn, q⟩ := h
    refine ⟨_, (pss_cons (ps_if (pt_not (pt_val (pec C_lies_between (hr.mono (by decide)) rfl (pa_cons (pv 1) (pa_cons (pe_fld (pv 0) rfl) (pa_cons (pe_meth0 (pv 0) T.cl_Clock M_Clock_limit.mt M_Clock_limit.ok (hr.mono (by decide)) M_Clock_limit.b .nil pass0) pa_nil))))))
      (pss_one (ps_raise made_def rfl rfl T.g_NoTime T.x_NoTime (pa_cons pe_str pa_nil)))
      pss_nil)
      (pss_one (ps_fld (pv 0) (pv 1) rfl))), ?_⟩
    obtain ⟨dx, hx⟩ := W.ob
    refine ⟨_, rfl, _, rfl, x, cl.Clock, dx, _, _, rfl, hx, T.cl_Clock, T.n_Clock_present, fldc_present _ _ _, _, rfl, x, dx, _, rfl, hx, fldc_no _ _ _ (by decide +kernel) (by decide +kernel) (by decide +kernel), x, pr, pt, rr, n, t, ss, z, rfl, W, hS, hn, fun hi H1 s1 M => ?_⟩
    obtain ⟨q1, q2⟩ := q hi M
    refine ⟨w, some z, hi, rfl, _, rfl, ?_⟩
    have W1 := W.same s1
    have hx1 := s1 _ _ hx
    cases e : kept w (some z) hi with
    | true =>
      refine iteF ?_
      refine ⟨_, rfl, _, rfl, x, cl.Clock, dx, _, rfl, hx1, T.cl_Clock, T.n_Clock_present, (by show 3 < 1000; decide), ?_⟩
      rw [fldc_put]
      have b1 : But x H1 (upd H1 x (.ins cl.Clock dx (fldc pr pt w))) := fun b o e h => by rw [upd_ne h]; exact e
      obtain ⟨k1, k2⟩ := W1.tb.neIns hx1
      exact q1 (kept_iff.mp e) _ ⟨⟨dx, upd_same⟩, b1.tab W1.tb k1 k2, b1 _ _ W1.tm (ne_of W1.tm hx1 (fun z => by cases z)), W.len, W.np, W.nr⟩ fun b o g h _ => b1 b o (s1 _ _ g) h
    | false =>
      refine iteT ⟨(by show 1 ≤ sizeLine; decide), q2 (fun h => ?_) H1 s1⟩
      rw [kept_iff.mpr h] at e; cases e
theorem sc_Clock_mark : FnScope ["self", "x", "time", "ends"] ["self", "x", "time"] (defScope s_Clock_mark) := ⟨rfl, rfl, rfl, by decide +kernel, rfl, by decide +kernel, by decide +kernel⟩
theorem ok_Clock_mark {f : Addr} {fd : FuncData} (F : Fun K "mark" "Clock.mark" s_Clock_mark f fd) (T : Txt K mg cl) (C_lies_between : Cal P w K mg base 1 "lies_between" ["time", "low", "high"] (sp_lies_between K)) (M_Clock_turn : MCal P w K mg base cl.Clock 5 "turn" ["self", "x"] (sp_Clock_turn K cl)) : FnOk P w K mg base (CXx P w) 6 f fd ["self", "x", "time"] (sp_Clock_mark K cl) := by
  refine F.okX sc_Clock_mark (fun vs H Q E h => ?_) (fun cdv A outer s H vs Q E hr h => ?_)
  · obtain ⟨x, pr, pt, rr, n, t, bs, ss, z, y, w, rfl, W, R, hn, hy, q⟩ := h
    rfl
  · obtain ⟨x, pr, pt, rr, n, t, bs, ss, z, y, w, rfl, W, R, hn, hy, q⟩ := h
    refine ⟨_, (pss_cons (ps_set (i := 3) sc_Clock_mark.nd rfl (Or.inl rfl) (pe_meth (pv 0) T.cl_Clock M_Clock_turn.mt M_Clock_turn.ok (hr.mono (by decide)) M_Clock_turn.b .nil pass0 (pa_cons (pv 1) pa_nil)))
      (pss_cons (ps_if (PW.pt (pw_or (pt_cmpR op_isN (pv 3) pe_non (nomark _)) (pw_or1 (pt_not (pt_val (pec C_lies_between (hr.mono (by decide)) rfl (pa_cons (pv 2) (pa_cons (pe_ix ix_tup (pv 3) pe_int (fun _ _ => rfl)) (pa_cons (pe_ix ix_tup (pv 3) pe_int (fun _ _ => rfl)) pa_nil)))))))))
      (pss_one (ps_raise made_def rfl rfl T.g_NoTime T.x_NoTime (pa_cons (pe_join (pj_str (pj_int (pv 1) pj_nil))) pa_nil)))
      pss_nil)
      (pss_cons (ps_asg (pv 2) (pg_sub (pe_fld (pv 0) rfl) (pv 1) set_list))
      (pss_one (ps_fld (pv 0) (pv 2) rfl))))), ?_⟩
    obtain ⟨dx, hx⟩ := W.ob
    refine ⟨_, rfl, x, dx, _, rfl, hx, fldc_no _ _ _ (by decide +kernel) (by decide +kernel) (by decide +kernel), _, rfl, x, pr, pt, rr, n, t, bs, ss, z, y, rfl, W, R, by omega, hy, fun v o H1 s1 B A => ?_⟩
    obtain ⟨q1, q2⟩ := q o B
    have W1 := W.same s1
    have hx1 := s1 _ _ hx
    obtain ⟨d1, d2⟩ := digit_len y hy.1 (by have := hy.2; omega)
    rcases A with ⟨rfl, rfl⟩ | ⟨u, l, hi, rfl, hu, rfl⟩
    · refine ⟨_, rfl, rfl, _, rfl, iteT (iteT ?_)⟩
      refine ⟨_, rfl, _, rfl, d1, d2, fun tx => ⟨(by show 1 ≤ sizeLine; decide), q2 (fun h => ?_) H1 s1⟩⟩
      obtain ⟨_, _, e, _⟩ := h
      cases e
    · refine ⟨_, rfl, rfl, _, rfl, iteF ?_⟩
      refine ⟨_, rfl, _, rfl, u, _, 0, _, rfl, rfl, SqT.of hu, rfl, _, rfl, u, _, 1, _, rfl, rfl, SqT.of hu, rfl, w, some l, hi, rfl, _, rfl, ?_⟩
      cases e : kept w (some l) hi with
      | true =>
        refine iteF ?_
        refine ⟨_, rfl, _, rfl, x, cl.Clock, dx, _, _, rfl, hx1, T.cl_Clock, T.n_Clock_times, fldc_times _ _ _, _, rfl, pt, _, _, _, rfl, rfl, W1.tm, ixN_of hy.1 (by rw [List.length_map, W.len]; exact hy.2), ?_⟩
        have es : (ss.map ov).set y.toNat (.int w) = (ss.set y.toNat (some w)).map ov := by rw [List.map_set]; rfl
        rw [es]
        have b2 : But pt H1 (upd H1 pt (.lst ((ss.set y.toNat (some w)).map ov))) := fun b o e h => by rw [upd_ne h]; exact e
        have nx : x ≠ pt := Ne.symm (ne_of W1.tm hx1 (fun z => by cases z))
        have x2 := b2 _ _ hx1 nx
        have e2 : (upd H1 pt (.lst ((ss.set y.toNat (some w)).map ov))) pt = some (.lst ((ss.set y.toNat (some w)).map ov)) := upd_same
        have T2 := b2.tab W1.tb W.np W.nr
        generalize upd H1 pt (.lst ((ss.set y.toNat (some w)).map ov)) = H2 at b2 x2 e2 T2 ⊢
        refine ⟨_, rfl, _, rfl, x, cl.Clock, dx, _, rfl, x2, T.cl_Clock, T.n_Clock_present, (by show 3 < 1000; decide), ?_⟩
        rw [fldc_put]
        have b3 : But x H2 (upd H2 x (.ins cl.Clock dx (fldc pr pt w))) := fun b o e h => by rw [upd_ne h]; exact e
        obtain ⟨k1, k2⟩ := T2.neIns x2
        exact q1 ⟨l, hi, rfl, kept_iff.mp e⟩ _ ⟨⟨dx, upd_same⟩, b3.tab T2 k1 k2, b3 _ _ e2 (Ne.symm nx), by rw [List.length_set]; exact W.len, W.np, W.nr⟩ fun b o g h h' => b3 b o (b2 b o (s1 _ _ g) h') h
      | false =>
        refine iteT ?_
        refine ⟨_, rfl, _, rfl, d1, d2, fun tx => ⟨(by show 1 ≤ sizeLine; decide), q2 (fun h => ?_) H1 s1⟩⟩
        obtain ⟨l', hi', e', h'⟩ := h
        cases e'
        rw [kept_iff.mpr h'] at e; cases e
theorem sc_held : FnScope ["table", "bound"] ["table", "bound"] (defScope s_held) := ⟨rfl, rfl, rfl, by decide +kernel, rfl, by decide +kernel, by decide +kernel⟩
theorem ok_held {f : Addr} {fd : FuncData} (F : Fun K "held" "held" s_held f fd) (T : Txt K mg cl) (C_shuts : Cal P w K mg base 1 "shuts" ["bound", "table"] (sp_shuts K)) (C_held_row : Cal P w K mg base 2 "held_row" ["table", "a", "bound"] (sp_held_row K)) : FnOk P w K mg base CX0 3 f fd ["table", "bound"] (sp_held K) := by
  refine F.ok sc_held (fun vs H Q E h => ?_) (fun cdv A outer s H vs Q E hr h => ?_)
  · obtain ⟨u, v, m, rfl, hB, q⟩ := h
    rfl
  · obtain ⟨u, v, m, rfl, hB, q⟩ := h
    refine ⟨_, (pss_cons (ps_if (PW.pt (pw_or (pt_cmpR op_isN (pv 0) pe_non (nomark _)) (pw_or1 (pt_val (pec C_shuts (hr.mono (by decide)) rfl (pa_cons (pv 1) (pa_cons (pv 0) pa_nil)))))))
      (pss_one (ps_ret pe_non))
      pss_nil)
      (pss_one (ps_ret (pe_compS ["table", "bound"] [0, 1] rfl (pi_range1 rfl T.z_range (pa_cons (pe_callB call_len_seq rfl T.z_len PySem.boot_len (pa_cons (pv 0) pa_nil)) pa_nil)) (fun _ _ _ => pts_nil) (fun _ _ _ => (pec C_held_row (hr.mono (by decide)) rfl (pa_cons (pv 1) (pa_cons (pv 0) (pa_cons (pv 2) pa_nil))))) (hk := by kernel_rfl))))), ?_⟩
    rcases q with ⟨rfl, q⟩ | ⟨p, rs, t, n, rfl, hT, hS, hn, h1, h2, q1, q2⟩
    · exact ⟨_, rfl, rfl, _, rfl, iteT (iteT q)⟩
    · have hl := hT.len hS
      refine ⟨_, rfl, rfl, _, rfl, iteF ⟨_, rfl, _, rfl, u, p, m, rs, t, n, rfl, hB, hT, hS, h1, h2, _, rfl, ?_⟩⟩
      cases hs : shutB t m with
      | true => exact iteT (q1 hs)
      | false =>
        refine iteF ⟨_, rfl, p, _, rfl, .inl (SqL.of hT.ob), (n : Int), by rw [hl], by omega, by omega, comp_rows (n := ((n : Nat) : Int).toNat) (fun i => (List.range n).map fun (j : Nat) => heldF t m (i : Int) (j : Int)) (small (by omega)) ?_ ?_⟩
        · intro i H1 hi s1 R kR
          refine ⟨_, rfl, _, rfl, _, rfl, u, p, _, m, rs, t, n, rfl, s1.seqT hB, hT.same s1, hS, hn, ⟨by omega, by omega⟩, h1, h2, fun r hr => ?_⟩
          refine kR r _ hr (same_new hr _) ?_
          rw [upd_same, Int.zero_add]
        · intro p' rs' H' N
          rw [Int.toNat_natCast] at N
          exact q2 hs p' rs' H' N
theorem sc_law_done : FnScope ["_law_clock", "_law_x", "_law_time", "_law_first"] ["_law_clock", "_law_x", "_law_time", "_law_first"] (defScope s_law_done) := ⟨rfl, rfl, rfl, by decide +kernel, rfl, by decide +kernel, by decide +kernel⟩
theorem ok_law_done {f : Addr} {fd : FuncData} (F : Fun K "_law_done" "_law_done" s_law_done f fd) (T : Txt K mg cl) (M_Clock_now : MCal P w K mg base cl.Clock 1 "now" ["self"] (sp_Clock_now K cl)) (M_Clock_wait : MCalX P w K mg base cl.Clock 5 "wait" ["self", "time"] (sp_Clock_wait K cl)) (M_Clock_mark : MCalX P w K mg base cl.Clock 6 "mark" ["self", "x", "time"] (sp_Clock_mark K cl)) : FnOk P w K mg base CX0 7 f fd ["_law_clock", "_law_x", "_law_time", "_law_first"] (sp_law_done K cl) := by
  refine F.ok sc_law_done (fun vs H Q E h => ?_) (fun cdv A outer s H vs Q E hr h => ?_)
  · obtain ⟨x, pr, pt, rr, n, t, bs, ss, z, y, f, ts, rfl, W, R, n8, hy, li, ho, hf, hno, hm, q⟩ := h
    rfl
  · obtain ⟨x, pr, pt, rr, n, t, bs, ss, z, y, f, ts, rfl, W, R, n8, hy, li, ho, hf, hno, hm, q⟩ := h
    refine ⟨_, (pss_cons (ps_try rfl rfl (fun _ _ _ acc => (pss_cons (ps_if (pt_val (pv 3))
      (pss_one (ps_expr (pemZ (pv 0) T.cl_Clock M_Clock_wait (hr.mono (by decide)) acc (pa_cons (pv 2) pa_nil))))
      pss_nil)
      (pss_one (ps_expr (pemZ (pv 0) T.cl_Clock M_Clock_mark (hr.mono (by decide)) acc (pa_cons (pv 1) (pa_cons (pv 2) pa_nil)))))))
      (ph_bare rfl T.g_NoTime T.h_NoTime (fun _ => (pss_one (ps_ret pe_bl))) ph_nil))
      (pss_one (ps_ret (pe_cmpR op_eq (pe_meth0 (pv 0) T.cl_Clock M_Clock_now.mt M_Clock_now.ok (hr.mono (by decide)) M_Clock_now.b .nil pass0) (pv 2) (nomark _))))), ?_⟩
    have zt := hf y hy hno
    obtain ⟨dx, hx⟩ := W.ob
    cases f with
    | false =>
      refine ⟨_, rfl, _, rfl, iteF ?_⟩
      refine ⟨_, rfl, x, dx, _, rfl, hx, fldc_no _ _ _ (by decide +kernel) (by decide +kernel) (by decide +kernel), _, rfl, _, rfl, x, pr, pt, rr, n, t, bs, ss, z, y, _, rfl, W, R, n8, hy, fun o B => ⟨fun _ H2 W2 b2 => ?_, fun no => absurd (turn_next R li ho hf hy hno hm B) no⟩⟩
      obtain ⟨dx2, hx2⟩ := W2.ob
      exact ⟨_, rfl, x, dx2, _, rfl, hx2, fldc_no _ _ _ (by decide +kernel) (by decide +kernel) (by decide +kernel), x, pr, pt, rr, n, t, _, _, rfl, W2, _, rfl, rfl, dec_true rfl (q H2 W2 b2)⟩
    | true =>
      refine ⟨_, rfl, _, rfl, iteT ?_⟩
      refine ⟨_, rfl, x, dx, _, rfl, hx, fldc_no _ _ _ (by decide +kernel) (by decide +kernel) (by decide +kernel), _, rfl, x, pr, pt, rr, n, t, ss, z, _, rfl, W, R.square, by omega, fun hi M => ⟨fun _ H1 W1 b1 => ?_, fun no => absurd ⟨fun l e => by cases e; exact zt, lim_next li ho hm M⟩ no⟩⟩
      obtain ⟨dx1, hx1⟩ := W1.ob
      have hf1 : From n ss (ts.getD y.toNat 0) ts := fun y' hy' hno' => hm y' hy' hno'
      refine ⟨_, rfl, x, dx1, _, rfl, hx1, fldc_no _ _ _ (by decide +kernel) (by decide +kernel) (by decide +kernel), _, rfl, _, rfl, x, pr, pt, rr, n, t, bs, ss, _, y, _, rfl, W1, R, n8, hy, fun o B => ⟨fun _ H2 W2 b2 => ?_, fun no => absurd (turn_next R li ho hf1 hy hno hm B) no⟩⟩
      obtain ⟨dx2, hx2⟩ := W2.ob
      exact ⟨_, rfl, x, dx2, _, rfl, hx2, fldc_no _ _ _ (by decide +kernel) (by decide +kernel) (by decide +kernel), x, pr, pt, rr, n, t, _, _, rfl, W2, _, rfl, rfl, dec_true rfl (q H2 W2 (b1.trans b2))⟩
theorem sc_table_of : FnScope ["count", "bounds", "table", "bound"] ["count", "bounds"] (defScope s_table_of) := ⟨rfl, rfl, rfl, by decide +kernel, rfl, by decide +kernel, by decide +kernel⟩
theorem ok_table_of {f : Addr} {fd : FuncData} (F : Fun K "table_of" "table_of" s_table_of f fd) (T : Txt K mg cl) (C_wide : Cal P w K mg base 2 "wide" ["count"] (sp_wide K)) (C_held : Cal P w K mg base 3 "held" ["table", "bound"] (sp_held K)) : FnOk P w K mg base CX0 4 f fd ["count", "bounds"] (sp_table_of K) := by
  refine F.ok sc_table_of (fun vs H Q E h => ?_) (fun cdv A outer s H vs Q E hr h => ?_)
  · obtain ⟨n, r, qs, bs, rfl, hL, hA, n1, n8, hw, hb, qt⟩ := h
    rfl
  · obtain ⟨n, r, qs, bs, rfl, hL, hA, n1, n8, hw, hb, qt⟩ := h
    refine ⟨_, (pss_cons (ps_set (i := 2) sc_table_of.nd rfl (Or.inl rfl) (pec C_wide (hr.mono (by decide)) rfl (pa_cons (pv 0) pa_nil)))
      (pss_cons (ps_for PassesOwn.never rfl (pi_list (pv 1)) (pg_name (i := 3) sc_table_of.nd rfl (Or.inl rfl))
      (pss_one (ps_set (i := 2) sc_table_of.nd rfl (Or.inl rfl) (pec C_held (hr.mono (by decide)) rfl (pa_cons (pv 2) (pa_cons (pv 3) pa_nil))))))
      (pss_one (ps_ret (pv 2))))), ?_⟩
    have hlen := hA.len
    refine ⟨_, rfl, n, rfl, by omega, fun p0 rs0 H0 N0 => ?_⟩
    refine ⟨_, rfl, r, rfl, ⟨_, N0.sm.seq hL⟩, for_list (K := K) (a := r) (xs := qs) (fun i σ H2 => Same H H2 ∧ (∃ v u3, σ = [some (.int n), some (.ref r), some v, u3] ∧ IsT H2 v n (bs.take i)))
      ⟨N0.sm, _, _, rfl, .inr ⟨p0, rs0, _, rfl, N0.tb, wide_right n⟩⟩ (fun i σ H2 _ ⟨s, _⟩ => s.seq hL) ?_ ?_⟩
    · rintro i x σ H2 hi ⟨s2, v, u3, rfl, hv⟩
      obtain ⟨pb, m, hm, rfl, hp⟩ := (hA.same s2).get hi
      have htake : bs.take (i + 1) = bs.take i ++ [m] := by rw [List.take_add_one, hm]; rfl
      obtain ⟨m1, m2⟩ := hw m (List.mem_of_getElem? hm)
      refine ⟨_, rfl, _, rfl, pb, v, m, rfl, SqT.of hp, ?_⟩
      rcases hv with ⟨rfl, hn⟩ | ⟨p, rs, t, rfl, T, R⟩
      · refine .inl ⟨rfl, s2, _, _, rfl, .inl ⟨rfl, ?_⟩⟩
        rw [htake]
        exact hn.mono fun x hx => List.mem_append_left _ hx
      · refine .inr ⟨p, rs, t, n, rfl, T, R.square, by omega, m1, m2, fun hs => ?_, fun hs p' rs' H' N' => ?_⟩
        · refine ⟨s2, _, _, rfl, .inl ⟨rfl, ?_⟩⟩
          rw [htake]
          exact shut_neg R m1 m2 hs
        · refine ⟨s2.trans N'.sm, _, _, rfl, .inr ⟨p', rs', _, rfl, N'.tb, ?_⟩⟩
          rw [htake]
          refine held_right R (fun x hx => ?_) hs
          rcases List.mem_append.mp hx with hx | hx
          · exact hw x (List.mem_of_mem_take hx)
          · rw [List.mem_singleton.mp hx]; exact ⟨m1, m2⟩
    · rintro σ H2 ⟨s2, v, u3, rfl, hv⟩
      rw [hlen, List.take_length] at hv
      exact ⟨_, rfl, qt v H2 s2 hv⟩
theorem sc_law : FnScope ["_law_script", "_law_count", "_law_bag_here", "_law_times", "_law_many", "_law_bounds_here", "_law_start", "_law_clock", "_law_order", "_law_one", "_law_x"] ["_law_script"] (defScope s_law) := ⟨rfl, rfl, rfl, by decide +kernel, rfl, by decide +kernel, by decide +kernel⟩
theorem ok_law {f : Addr} {fd : FuncData} (F : Fun K "law" "law" s_law f fd) (T : Txt K mg cl) (C_table_of : Cal P w K mg base 4 "table_of" ["count", "bounds"] (sp_table_of K)) (C_law_cell : Cal P w K mg base 1 "_law_cell" ["_law_script", "_law_k"] (sp_law_cell K)) (C_law_bag : Cal P w K mg base 1 "_law_bag" ["_law_cell_here"] (sp_law_bag K)) (C_law_take : Cal P w K mg base 1 "_law_take" ["_law_bag_here", "_law_many"] (sp_law_take K)) (C_law_big : Cal P w K mg base 2 "_law_big" ["_law_bag_here"] (sp_law_big K)) (C_law_bounds : Cal P w K mg base 2 "_law_bounds" ["_law_bag_here", "_law_many", "_law_times"] (sp_law_bounds K)) (C_law_done : Cal P w K mg base 7 "_law_done" ["_law_clock", "_law_x", "_law_time", "_law_first"] (sp_law_done K cl)) (MK_Clock : MkCal P w K mg base cl.Clock 1 "Clock" ["self", "table", "start"] (sp_Clock___init__ K cl)) (M_Clock_setting : MCal P w K mg base cl.Clock 1 "setting" ["self"] (sp_Clock_setting K cl)) : FnOk P w K mg base CX0 8 f fd ["_law_script"] (sp_law K) := by
  refine F.ok sc_law (fun vs H Q E h => ?_) (fun cdv A outer s H vs Q E hr h => ?_)
  · obtain ⟨a, ns, rfl, hS, h63, q⟩ := h
    rfl
  · obtain ⟨a, ns, rfl, hS, h63, q⟩ := h
    refine ⟨_, (pss_cons (ps_set (i := 1) sc_law.nd rfl (Or.inr rfl) (pe_op op_add pe_int (pe_op op_mod (pec C_law_cell (hr.mono (by decide)) rfl (pa_cons (pv 0) (pa_cons pe_int pa_nil))) pe_int)))
      (pss_cons (ps_set (i := 2) sc_law.nd rfl (Or.inr rfl) (pec C_law_bag (hr.mono (by decide)) rfl (pa_cons (pec C_law_cell (hr.mono (by decide)) rfl (pa_cons (pv 0) (pa_cons pe_int pa_nil))) pa_nil)))
      (pss_cons (ps_set (i := 3) sc_law.nd rfl (Or.inr rfl) (pe_callTy call_tuple_of rfl T.z_tuple boot_tuple (pa_cons (pe_compS ["_law_bag_here"] [2] rfl (pi_range1 rfl T.z_range (pa_cons (pv 1) pa_nil)) (fun _ _ _ => pts_nil) (fun _ _ _ => (pec C_law_big (hr.mono (by decide)) rfl (pa_cons (pv 1) pa_nil))) (hk := by kernel_rfl)) pa_nil)))
      (pss_cons (ps_if (pt_cmpR op_eq (pec C_law_take (hr.mono (by decide)) rfl (pa_cons (pv 2) (pa_cons pe_int pa_nil))) pe_int (nomark _))
      (pss_one (ps_set (i := 3) sc_law.nd rfl (Or.inr rfl) (pe_callTy call_tuple_of rfl T.z_tuple boot_tuple (pa_cons (pe_compS ["_law_times", "_law_bag_here", "_law_count"] [3, 2, 1] rfl (pi_range1 rfl T.z_range (pa_cons (pv 1) pa_nil)) (fun _ _ _ => pts_nil) (fun _ _ _ => (pe_ix (ix_tupK (K := K) rfl) (pv 1) (pec C_law_take (hr.mono (by decide)) rfl (pa_cons (pv 2) (pa_cons (pv 3) pa_nil))) (fun _ _ => rfl))) (hk := by kernel_rfl)) pa_nil))))
      pss_nil)
      (pss_cons (ps_set (i := 4) sc_law.nd rfl (Or.inl rfl) pe_int)
      (pss_cons (ps_if (pt_cmpR op_gt (pv 1) pe_int (nomark _))
      (pss_one (ps_set (i := 4) sc_law.nd rfl (Or.inl rfl) pe_int))
      pss_nil)
      (pss_cons (ps_set (i := 5) sc_law.nd rfl (Or.inl rfl) (pec C_law_bounds (hr.mono (by decide)) rfl (pa_cons (pec C_law_bag (hr.mono (by decide)) rfl (pa_cons (pec C_law_cell (hr.mono (by decide)) rfl (pa_cons (pv 0) (pa_cons pe_int pa_nil))) pa_nil)) (pa_cons (pv 4) (pa_cons (pv 3) pa_nil)))))
      (pss_cons (ps_set (i := 6) sc_law.nd rfl (Or.inl rfl) (pe_callB (call_minT rfl) rfl T.z_min boot_min (pa_cons (pv 3) pa_nil)))
      (pss_cons (ps_if (pt_cmpR op_gt (pec C_law_take (hr.mono (by decide)) rfl (pa_cons (pv 2) (pa_cons pe_int pa_nil))) pe_int (nomark _))
      (pss_one (ps_set (i := 6) sc_law.nd rfl (Or.inl rfl) (pe_op op_sub (pv 6) (pec C_law_take (hr.mono (by decide)) rfl (pa_cons (pv 2) (pa_cons (pe_op op_pow pe_int pe_int) pa_nil))))))
      pss_nil)
      (pss_cons (ps_set (i := 7) sc_law.nd rfl (Or.inl rfl) (pe_make MK_Clock.mkd MK_Clock.ok (hr.mono (by decide)) rfl MK_Clock.mg MK_Clock.b .nil pass0 (pa_cons (pec C_table_of (hr.mono (by decide)) rfl (pa_cons (pv 1) (pa_cons (pe_callTy call_list_of rfl T.z_list boot_list (pa_cons (pv 5) pa_nil)) pa_nil))) (pa_cons (pv 6) pa_nil))))
      (pss_cons (ps_setComp (j := 8) ["_law_times"] [3] sc_law.nd rfl rfl rfl (pi_range1 rfl T.z_range (pa_cons (pv 1) pa_nil)) (fun _ _ _ => pts_nil) (fun _ _ _ => (pe_tup (pa_cons (pe_ix (ix_tupK (K := K) rfl) (pv 1) (pv 0) (fun _ _ => rfl)) (pa_cons (pv 0) pa_nil)))) (hk := by kernel_rfl))
      (pss_cons (ps_if (pt_cmpR op_eq (pec C_law_take (hr.mono (by decide)) rfl (pa_cons (pv 2) (pa_cons pe_int pa_nil))) pe_int (nomark _))
      (pss_one (ps_setComp (j := 8) ["_law_times"] [3] sc_law.nd rfl rfl rfl (pi_range1 rfl T.z_range (pa_cons (pv 1) pa_nil)) (fun _ _ _ => pts_nil) (fun _ _ _ => (pe_tup (pa_cons (pe_ix (ix_tupK (K := K) rfl) (pv 1) (pv 0) (fun _ _ => rfl)) (pa_cons (pe_un un_neg (pv 0)) pa_nil)))) (hk := by kernel_rfl)))
      pss_nil)
      (pss_cons (ps_for PassesOwn.never rfl (pi_list (pe_callB (call_sortedP (K := K) rfl) rfl T.z_sorted boot_sorted (pa_cons (pv 8) pa_nil))) (pg_name (i := 9) sc_law.nd rfl (Or.inl rfl))
      (pss_cons (ps_set (i := 10) sc_law.nd rfl (Or.inl rfl) (pe_callB call_absI rfl T.z_abs boot_abs (pa_cons (pe_ix ix_tup (pv 9) pe_int (fun _ _ => rfl)) pa_nil)))
      (pss_one (ps_if (pt_not (pt_val (pec C_law_done (hr.mono (by decide)) rfl (pa_cons (pv 7) (pa_cons (pv 10) (pa_cons (pe_ix ix_tup (pv 3) (pv 10) (fun _ _ => rfl)) (pa_cons (pe_cmpR op_eq (pec C_law_take (hr.mono (by decide)) rfl (pa_cons (pv 2) (pa_cons pe_int pa_nil))) pe_int (nomark _)) pa_nil)))))))
      (pss_one (ps_ret pe_bl))
      pss_nil))))
      (pss_one (ps_ret (pe_cmpR (op_eqL (hr.units)) (pe_meth0 (pv 7) T.cl_Clock M_Clock_setting.mt M_Clock_setting.ok (hr.mono (by decide)) M_Clock_setting.b .nil pass0) (pe_callTy call_list_of rfl T.z_list boot_list (pa_cons (pv 3) pa_nil)) (nomark _))))))))))))))))), ?_⟩
    refine ⟨_, rfl, a, ns, 0, rfl, hS, h63, by decide, by decide, fun c0 => ⟨_, _, rfl, rfl, (by show (0 : Int) < 8; decide), _, _, rfl, rfl, ?_⟩⟩
    dsimp only
    obtain ⟨n, en, n1, n8⟩ : ∃ n : Nat, 1 + c0 % 8 = (n : Int) ∧ 1 ≤ n ∧ n ≤ 8 := ⟨(1 + c0 % 8).toNat, by omega, by omega, by omega⟩
    rw [en]
    refine ⟨_, rfl, a, ns, 1, rfl, hS, h63, by decide, by decide, fun c1 => ⟨c1, rfl, fun b H1 ub vb s1 hb0 e1 vb0 vb1 => ?_⟩⟩
    have sq : ∀ {Ha Hb : Hp}, Same H1 Ha → But b Ha Hb → SqL K Hb a (ns.map V.int) := fun sa bt => seq_but hb0 (s1.trans sa) hS bt
    refine ⟨_, rfl, ((n : Nat) : Int), rfl, by omega, by omega, comp_range (lo := 0) (n := ((n : Nat) : Int).toNat) (fun i acc Hx => But b H1 Hx ∧ BagAt Hx b (1 + 2 * (i : Int)) ∧ ∃ zs : List Int, zs.length = i ∧ acc = zs.map V.int) (small (by omega)) ⟨but_same (same_refl _), ⟨ub, vb, e1, vb0, by omega⟩, [], rfl, rfl⟩ (fun i acc Hx ⟨_, _, zs, g1, g2⟩ => by rw [g2, List.length_map, g1]) ?_ ?_⟩
    · rintro i acc Hx hi ⟨bx, Bx, zs, g1, g2⟩ R kR
      refine ⟨_, rfl, b, _, rfl, Bx, by omega, fun z Hy by' By => kR _ _ ⟨bx.trans by', ?_, zs ++ [z], by simp [g1], by simp [g2]⟩⟩
      have : 1 + 2 * (i : Int) + 2 = 1 + 2 * ((i + 1 : Nat) : Int) := by omega
      rw [← this]; exact By
    rintro acc H2 ⟨b2, B2, ts0, l0, rfl⟩ pl hpl
    have l0' : ts0.length = n := by omega
    refine ⟨pl, _, rfl, .inl ⟨SqL.of upd_same, fun t0 ht0 => ?_⟩⟩
    have s3 : Same H2 (upd (upd H2 pl (.lst (ts0.map V.int))) t0 (.tup (ts0.map V.int))) := (same_new hpl _).trans (same_new ht0 _)
    have e3 : (upd (upd H2 pl (.lst (ts0.map V.int))) t0 (.tup (ts0.map V.int))) t0 = some (.tup (ts0.map V.int)) := upd_same
    generalize upd (upd H2 pl (.lst (ts0.map V.int))) t0 (.tup (ts0.map V.int)) = H3 at s3 e3 ⊢
    have b13 : But b H1 H3 := b2.trans (but_same s3)
    obtain ⟨u3, v3, hb3, v30, v31⟩ := B2.same s3
    refine ⟨_, rfl, b, u3, v3, 2, rfl, hb3, v30, by omega, by decide, by decide, fun d u4 v4 H4 b4 e4 v40 v41 _ _ => ⟨rfl, _, rfl, ?_⟩⟩
    have b14 := b13.trans b4
    have t4 : H4 t0 = some (.tup (ts0.map V.int)) := b4 _ _ e3 (ne_of e3 hb3 (fun z => by cases z))
    apply restJ (C := fun H5 σ => ∃ (t : Addr) (ts : List Int), But b H1 H5 ∧ BagAt H5 b 40 ∧ H5 t = some (.tup (ts.map V.int)) ∧ ts.length = n ∧ σ = [some (.ref a), some (.int n), some (.ref b), some (.ref t), none, none, none, none, none, none, none])
    · intro rest
      refine ite2 (fun _ => ?h1) (fun _ => ?h2)
      case h2 =>
        generalize hH : H4 = Hx
        generalize hσ : (List.set _ _ _ : L2.St) = σ'
        exact rest Hx σ' (by rw [← hH]; exact ⟨t0, ts0, b14, ⟨u4, v4, e4, v40, by omega⟩, t4, l0', by rw [← hσ]; rfl⟩)
      case h1 =>
        refine ⟨_, rfl, ((n : Nat) : Int), rfl, by omega, by omega, comp_range (lo := 0) (n := ((n : Nat) : Int).toNat) (fun i acc Hx => But b H4 Hx ∧ BagAt Hx b (20 + (i : Int)) ∧ ∃ zs : List Int, zs.length = i ∧ acc = zs.map V.int) (small (by omega)) ⟨but_same (same_refl _), ⟨u4, v4, e4, v40, by omega⟩, [], rfl, rfl⟩ (fun i acc Hx ⟨_, _, zs, g1, g2⟩ => by rw [g2, List.length_map, g1]) ?_ ?_⟩
        · rintro i acc Hx hi ⟨bx, ⟨ux, vx, ex, vx0, vx1⟩, zs, g1, g2⟩ R kR
          refine ⟨_, rfl, _, rfl, _, rfl, b, ux, vx, _, rfl, ex, vx0, by omega, by omega, by omega, fun z uy vy Hy by' ey vy0 vy1 z0 z1 => ?_⟩
          have ty := by' _ _ (bx _ _ t4 (ne_of t4 e4 (fun z => by cases z))) (ne_of (bx _ _ t4 (ne_of t4 e4 (fun z => by cases z))) ex (fun z => by cases z))
          exact ⟨t0, _, _, _, rfl, rfl, SqT.of ty, at_int z0 (by omega), kR _ _ ⟨bx.trans by', ⟨uy, vy, ey, vy0, by omega⟩, zs ++ [ts0.getD z.toNat 0], by simp [g1], by simp [g2]⟩⟩
        rintro acc H5 ⟨b5, B5, ts, l5, rfl⟩ pl' hpl'
        refine ⟨pl', _, rfl, .inl ⟨SqL.of upd_same, fun t1 ht1 => ?_⟩⟩
        have s6 := (same_new hpl' (.lst (ts.map V.int))).trans (same_new ht1 (.tup (ts.map V.int)))
        have e6 : (upd (upd H5 pl' (.lst (ts.map V.int))) t1 (.tup (ts.map V.int))) t1 = some (.tup (ts.map V.int)) := upd_same
        obtain ⟨u6, v6, hb6, v60, v61⟩ := B5.same s6
        exact rest _ _ ⟨t1, ts, (b14.trans b5).trans (but_same s6), ⟨u6, v6, hb6, v60, by omega⟩, e6, by omega, rfl⟩
    rintro H5 _ ⟨t, ts, b15, B5, t5, lt, rfl⟩
    apply restJ (C := fun H' σ => H' = H5 ∧ ∃ (m : Int), 0 ≤ m ∧ m ≤ 20 ∧ σ = [some (.ref a), some (.int n), some (.ref b), some (.ref t), some (.int m), none, none, none, none, none, none])
    · intro rest
      refine ⟨_, rfl, _, _, rfl, rfl, _, rfl, ?_⟩
      refine ite2 (fun _ => ?h1) (fun _ => ?h2)
      case h2 =>
        generalize hH : H5 = Hx
        generalize hσ : (List.set _ _ _ : L2.St) = σ'
        exact rest Hx σ' ⟨hH.symm, 20, by decide, by decide, by rw [← hσ]; rfl⟩
      case h1 => exact rest _ _ ⟨rfl, 12, by decide, by decide, rfl⟩
    rintro _ _ ⟨rfl, m, m0, m20, rfl⟩
    have S5 := sq (same_refl _) b15
    refine ⟨_, rfl, a, ns, 2, rfl, S5, h63, by decide, by decide, fun c2 => ⟨c2, rfl, fun bb H6 uc vc s6 hbb0 e6 vc0 vc1 => ?_⟩⟩
    have t6 := s6 _ _ t5
    refine ⟨_, rfl, _, rfl, bb, t, 1, m, ts, rfl, ⟨uc, vc, e6, vc0, vc1⟩, by decide, m0, m20, t6, by omega, by omega, fun rb H7 qs bs b7 hrb0 r7 A7 lb w7 k7 => ?_⟩
    rw [lt] at w7
    have B6 := B5.same s6
    obtain ⟨ub6, vb6, hb6, vb60, vb61⟩ := id B6
    have nbb : b ≠ bb := fun z => by
      obtain ⟨_, _, e, _⟩ := B5
      rw [z, hbb0] at e; cases e
    have nt : t ≠ bb := ne_of t6 e6 (fun z => by cases z)
    have t7 := b7 _ _ t6 nt
    obtain ⟨u7, v7, hb7, v70, v71⟩ := B6.but b7 nbb
    have nrb : rb ≠ b := Ne.symm (ne_of_none hb6 hrb0)
    obtain ⟨_, lsp⟩ := leastAt_spec (ns := ts) (by omega)
    refine ⟨_, rfl, t, ts, rfl, SqT.of t7, by omega, ?_⟩
    apply restJ (C := fun H8 σ => ∃ st : Int, But b H7 H8 ∧ BagAt H8 b 50 ∧ (∀ k, k < n → st ≤ ts.getD k 0) ∧ σ = [some (.ref a), some (.int n), some (.ref b), some (.ref t), some (.int m), some (.ref rb), some (.int st), none, none, none, none])
    · intro rest
      refine ⟨_, rfl, b, u7, v7, 3, rfl, hb7, v70, by omega, by decide, by decide, fun d u8 v8 H8 b8 e8 v80 v81 _ _ => ⟨_, _, rfl, rfl, _, rfl, ?_⟩⟩
      have lw : ∀ k, k < n → ts.getD (leastAt ts) 0 ≤ ts.getD k 0 := fun k hk => lsp _ (getD_mem (by omega))
      refine ite2 (fun _ => ?h1) (fun _ => ?h2)
      case h2 =>
        generalize hσ : (List.set _ _ _ : L2.St) = σ'
        exact rest H8 σ' ⟨_, b8, ⟨u8, v8, e8, v80, by omega⟩, lw, by rw [← hσ]; rfl⟩
      case h1 =>
        refine ⟨_, rfl, _, rfl, _, _, rfl, rfl, ⟨by decide, by decide, by decide⟩, b, u8, v8, _, rfl, e8, v80, by omega, (by show (0 : Int) < 10 ^ 20; decide), (by show (10 ^ 20 : Int) < 10 ^ 100; decide), fun z u9 v9 H9 b9 e9 v90 v91 z0 z1 => ⟨_, _, rfl, rfl, ?_⟩⟩
        exact rest _ _ ⟨_, b8.trans b9, ⟨u9, v9, e9, v90, by omega⟩, fun k hk => by have := lw k hk; omega, rfl⟩
    rintro H8 _ ⟨st, b8, B8, hst, rfl⟩
    have r8 := b8 _ _ r7 nrb
    have A8 := b8.areB hb7 A7
    have t8 := b8 _ _ t7 (ne_of t7 hb7 (fun z => by cases z))
    refine ⟨_, rfl, _, rfl, rb, _, rfl, .inl (SqL.of r8), fun rl hrl => ?_⟩
    have s9 := same_new hrl (.lst qs)
    have h9 : (upd H8 rl (.lst qs)) rl = some (.lst qs) := upd_same
    generalize upd H8 rl (.lst qs) = H9 at s9 h9 ⊢
    refine ⟨n, rl, qs, bs, rfl, SqL.of h9, A8.same s9, n1, n8, w7, by omega, fun v H10 s10 iv => ?_⟩
    rcases iv with ⟨_, hneg⟩ | ⟨p, rs, tb, rfl, T10, R⟩
    · exact absurd hneg (noneg_kept k7)
    have li : Lies n tb ts := R.lies k7
    have s810 := s9.trans s10
    refine ⟨_, rfl, fun x d nx nd ne => ?_⟩
    have mm := made_same (C := cl.Clock) nx nd ne
    refine ⟨x, d, p, rs, tb, n, st, rfl, upd_same, T10.same mm, R.square, by omega, fun pr rr pt H11 W11 bx q0 p0 r0 => ⟨rfl, ?_⟩⟩
    have s11 : Same H10 H11 := fun c o e => bx c o (mm c o e) (ne_of_none e nx)
    have s811 := s810.trans s11
    have B11 := B8.same s811
    have t11 := s811 _ _ t8
    have hq0 : H8 pr = none := none_of s810 (none_of mm q0)
    have hp0 : H8 pt = none := none_of s810 (none_of mm p0)
    have hr0 : ∀ r ∈ rr, H8 r = none := fun r h => none_of s810 (none_of mm (r0 r h))
    obtain ⟨u8, v8, hb8, v80, v81⟩ := id B8
    have nbx : b ≠ x := ne_of_none (s810 _ _ hb8) nx
    have npr : pr ≠ b := Ne.symm (ne_of_none hb8 hq0)
    have npt : pt ≠ b := Ne.symm (ne_of_none hb8 hp0)
    have nrr : ∀ r ∈ rr, r ≠ b := fun r h => Ne.symm (ne_of_none hb8 (hr0 r h))
    have ord : ∀ (e : Int) (Hs : Hp), Same H11 Hs ∨ True → ∀ i : Nat, ((List.range (i + 1)).map fun j => (ts.getD j 0, e * (j : Int))) = ((List.range i).map fun j => (ts.getD j 0, e * (j : Int))) ++ [(ts.getD i 0, e * (i : Int))] := fun e _ _ i => by rw [List.range_succ, List.map_append]; rfl
    refine ⟨_, rfl, ((n : Nat) : Int), rfl, by omega, by omega, comp_range (lo := 0) (n := ((n : Nat) : Int).toNat) (fun i acc Hx => Same H11 Hx ∧ acc.length = i ∧ ArePr Hx acc (ordP ts 1 i)) (small (by omega)) ⟨same_refl _, rfl, .nil⟩ (fun i acc Hx h => h.2.1) ?_ ?_⟩
    · rintro i acc Hx hi ⟨sx, lx, Ax⟩ R' kR
      have hi' : i < n := by simpa using hi
      refine ⟨_, rfl, _, rfl, t, _, _, _, rfl, rfl, SqT.of (sx _ _ t11), at_int (i := 0 + (i : Int)) (by omega) (by omega), _, rfl, (by show 2 ≤ sizeLine; decide), fun p hp => kR _ _ ⟨sx.trans (same_new hp _), by rw [List.length_append, lx]; rfl, ?_⟩⟩
      unfold ordP
      rw [ord 1 Hx (.inr trivial) i]
      refine pairs_snoc (pairs_same (same_new hp _) Ax) ?_
      rw [upd_same]
      show some (HO.tup [V.int (ts.getD (0 + (i : Int)).toNat 0), V.int (0 + (i : Int))]) = some (HO.tup [V.int (ts.getD i 0), V.int (1 * (i : Int))])
      rw [show (0 + (i : Int)).toNat = i by omega, show (0 + (i : Int)) = 1 * (i : Int) by omega]
    rintro acc H12 ⟨s12, l12, A12⟩ ro hro
    have s13 := same_new hro (.lst acc)
    have e13 : (upd H12 ro (.lst acc)) ro = some (.lst acc) := upd_same
    generalize upd H12 ro (.lst acc) = H13 at s13 e13 ⊢
    have s1113 := s12.trans s13
    have A13 := pairs_same s13 A12
    rw [Int.toNat_natCast] at A13 l12
    obtain ⟨u13, v13, hb13, v130, v131⟩ := B11.same s1113
    have nrob : ro ≠ b := Ne.symm (ne_of_none (s12 _ _ (s811 _ _ hb8)) hro)
    apply restJ (C := fun H14 σ => ∃ (e : Int) (ro : Addr) (ys : List V) (hr14 : Hp → Prop), (e = 1 ∨ e = -1) ∧ But b H11 H14 ∧ BagAt H14 b 60 ∧ H14 ro = some (.lst ys) ∧ ys.length = n ∧ ArePr H14 ys (ordP ts e n) ∧ σ = [some (.ref a), some (.int n), some (.ref b), some (.ref t), some (.int m), some (.ref rb), some (.int st), some (.ref x), some (.ref ro), none, none])
    · intro rest
      refine ⟨_, rfl, b, u13, v13, 2, rfl, hb13, v130, by omega, by decide, by decide, fun d u14 v14 H14 b14 e14 v140 v141 _ _ => ⟨rfl, _, rfl, ?_⟩⟩
      have b1114 : But b H11 H14 := (but_same s1113).trans b14
      refine ite2 (fun _ => ?h1) (fun _ => ?h2)
      case h2 =>
        generalize hσ : (List.set _ _ _ : L2.St) = σ'
        exact rest H14 σ' ⟨1, ro, acc, fun _ => True, .inl rfl, b1114, ⟨u14, v14, e14, v140, by omega⟩, b14 _ _ e13 nrob, l12, Paired.mapP A13 fun _ _ ⟨p, e, h⟩ => ⟨p, e, b14 _ _ h (ne_of h hb13 (fun z => by cases z))⟩, by rw [← hσ]; rfl⟩
      case h1 =>
        have t14 := b1114 _ _ t11 (ne_of t11 (s811 _ _ hb8) (fun z => by cases z))
        refine ⟨_, rfl, ((n : Nat) : Int), rfl, by omega, by omega, comp_range (lo := 0) (n := ((n : Nat) : Int).toNat) (fun i acc Hx => Same H14 Hx ∧ acc.length = i ∧ ArePr Hx acc (ordP ts (-1) i)) (small (by omega)) ⟨same_refl _, rfl, .nil⟩ (fun i acc Hx h => h.2.1) ?_ ?_⟩
        · rintro i acc Hx hi ⟨sx, lx, Ax⟩ R' kR
          have hi' : i < n := by simpa using hi
          refine ⟨_, rfl, _, rfl, t, _, _, _, rfl, rfl, SqT.of (sx _ _ t14), at_int (i := 0 + (i : Int)) (by omega) (by omega), _, rfl, _, rfl, (by show 2 ≤ sizeLine; decide), fun p hp => kR _ _ ⟨sx.trans (same_new hp _), by rw [List.length_append, lx]; rfl, ?_⟩⟩
          unfold ordP
          rw [ord (-1) Hx (.inr trivial) i]
          refine pairs_snoc (pairs_same (same_new hp _) Ax) ?_
          rw [upd_same]
          show some (HO.tup [V.int (ts.getD (0 + (i : Int)).toNat 0), V.int (-(0 + (i : Int)))]) = some (HO.tup [V.int (ts.getD i 0), V.int (-1 * (i : Int))])
          rw [show (0 + (i : Int)).toNat = i by omega, show (-(0 + (i : Int))) = -1 * (i : Int) by omega]
        rintro acc2 H15 ⟨s15, l15, A15⟩ ro2 hro2
        rw [Int.toNat_natCast] at A15 l15
        have s16 := s15.trans (same_new hro2 (.lst acc2))
        exact rest _ _ ⟨-1, ro2, acc2, fun _ => True, .inr rfl, b1114.trans (but_same s16), ⟨u14, v14, s16 _ _ e14, v140, by omega⟩, upd_same, l15, pairs_same (same_new hro2 _) A15, rfl⟩
    rintro H14 _ ⟨e, ro, ys, _, he, b14, B14, ro14, ly, A14, rfl⟩
    have W14 : ClockAt cl.Clock H14 x pr pt rr n tb (List.replicate n none) st := W11.other b14 (s811 _ _ hb8) npr npt nrr
    have t14 := b14 _ _ t11 (ne_of t11 (s811 _ _ hb8) (fun z => by cases z))
    refine ⟨_, rfl, ro, ys, ordP ts e n, rfl, SqL.of ro14, A14, by omega, by omega, fun l w hl hw1 hw2 => ?_⟩
    rw [ly] at hw1
    have s15 := same_new hl (.lst (w.map fun i => ys.getD i .non))
    have l15 : (upd H14 l (.lst (w.map fun i => ys.getD i .non))) l = some (.lst (w.map fun i => ys.getD i .non)) := upd_same
    generalize upd H14 l (.lst (w.map fun i => ys.getD i .non)) = H15 at s15 l15 ⊢
    have W15 := W14.same s15
    have hwn : w.Nodup := hw1.nodup_iff.mpr List.nodup_range
    have hwl : w.length = n := by rw [hw1.length_eq, List.length_range]
    have hwm : ∀ k, k ∈ w ↔ k < n := fun k => (hw1.mem_iff).trans List.mem_range
    have B15 := B14.same s15
    obtain ⟨u15, v15, hb15, v150, v151⟩ := id B15
    have nlx : l ≠ x := by
      obtain ⟨dx, hx⟩ := W14.ob
      exact Ne.symm (ne_of_none hx hl)
    have nlt : l ≠ pt := Ne.symm (ne_of_none W14.tm hl)
    have nlb : l ≠ b := by
      obtain ⟨_, _, g, _⟩ := B14
      exact Ne.symm (ne_of_none g hl)
    have A15 := pairs_same s15 A14
    have t15 := s15 _ _ t14
    have hmap : (w.map fun i => ys.getD i .non).length = n := by rw [List.length_map]; exact hwl
    refine ⟨l, rfl, ⟨_, SqL.of l15⟩, for_list (K := K) (a := l) (xs := w.map fun i => ys.getD i .non) (fun i σ Hx => (∀ c o, H15 c = some o → c ≠ x → c ≠ pt → c ≠ b → Hx c = some o) ∧ BagAt Hx b (60 + (i : Int)) ∧ (∃ (ss : List (Option Int)) (z : Int), ClockAt cl.Clock Hx x pr pt rr n tb ss z ∧ SetBy n ts (w.take i) ss ∧ ∀ k, k < n → ¬ k ∈ w.take i → z ≤ ts.getD k 0) ∧ ∃ u9 u10, σ = [some (.ref a), some (.int n), some (.ref b), some (.ref t), some (.int m), some (.ref rb), some (.int st), some (.ref x), some (.ref ro), u9, u10])
      ⟨fun c o e _ _ _ => e, ⟨u15, v15, hb15, v150, by omega⟩, ⟨_, st, W15, SetBy.start n ts, fun k hk _ => hst k hk⟩, _, _, rfl⟩ (fun i σ Hx _ ⟨k, _⟩ => SqL.of (k _ _ l15 nlx nlt nlb)) ?_ ?_⟩
    · rintro i y σ Hx hi ⟨kx, Bx, ⟨ss, z, Wx, Sx, zx⟩, u9, u10, rfl⟩
      have hil : i < w.length := by
        have := (List.getElem?_eq_some_iff.mp hi).1
        rw [List.length_map] at this; exact this
      rw [List.getElem?_map] at hi
      obtain ⟨k, hk, ey⟩ := Option.map_eq_some_iff.mp hi
      have hkn : k < n := (hwm k).mp (List.mem_of_getElem? hk)
      have hyk : ys[k]? = some (ys.getD k .non) := by rw [List.getD_eq_getElem?_getD, List.getElem?_eq_getElem (by omega)]; rfl
      obtain ⟨pm, hpm, p, ep, hp⟩ := paired_get A15 hyk
      have epm : pm = (ts.getD k 0, e * (k : Int)) := by
        have := ordP_at (ts := ts) (e := e) hkn
        rw [List.getD_eq_getElem?_getD, hpm] at this
        exact this
      subst epm
      have ey' : y = .ref p := ey.symm.trans ep
      subst ey'
      have htk : w.take (i + 1) = w.take i ++ [k] := by rw [List.take_add_one, hk]; rfl
      have knew : ¬ k ∈ w.take i := fun hm => by
        obtain ⟨j, hj⟩ := List.mem_iff_getElem?.mp hm
        rw [List.getElem?_take] at hj
        split at hj
        · next c =>
          obtain ⟨h1, e1⟩ := List.getElem?_eq_some_iff.mp hj
          obtain ⟨h2, e2⟩ := List.getElem?_eq_some_iff.mp hk
          exact absurd (e1.trans e2.symm) (List.pairwise_iff_getElem.mp hwn j i h1 h2 c)
        · cases hj
      have after : ∀ j, j < n → ¬ j ∈ w.take i → ts.getD k 0 ≤ ts.getD j 0 := fun j hj hm => by
        obtain ⟨f, hf⟩ := List.mem_iff_getElem?.mp ((hwm j).mpr hj)
        obtain ⟨h1, e1⟩ := List.getElem?_eq_some_iff.mp hf
        obtain ⟨h2, e2⟩ := List.getElem?_eq_some_iff.mp hk
        rcases Nat.lt_trichotomy i f with c | c | c
        · have := List.pairwise_iff_getElem.mp hw2 i f h2 h1 c
          rw [e1, e2] at this
          exact ordP_le hkn hj this
        · subst c
          rw [e1] at e2
          rw [e2]; exact Int.le_refl _
        · exact absurd (List.mem_iff_getElem?.mpr ⟨f, by rw [List.getElem?_take, if_pos c]; exact hf⟩) hm
      have hp' := kx _ _ hp (by obtain ⟨dx, hx⟩ := W15.ob; exact ne_of hp hx (fun z => by cases z)) (ne_of hp W15.tm (fun z => by cases z)) (ne_of hp hb15 (fun z => by cases z))
      have tx := kx _ _ t15 (by obtain ⟨dx, hx⟩ := W15.ob; exact ne_of t15 hx (fun z => by cases z)) (ne_of t15 W15.tm (fun z => by cases z)) (ne_of t15 hb15 (fun z => by cases z))
      refine ⟨_, rfl, p, _, 1, _, rfl, rfl, SqT.of hp', rfl, _, rfl, ?_⟩
      dsimp only
      rw [abs_sgn (by omega) he]
      obtain ⟨ux, vx, hbx, vx0, vx1⟩ := id Bx
      refine ⟨_, rfl, _, rfl, _, rfl, _, rfl, t, _, _, _, rfl, rfl, SqT.of tx, at_int (i := (k : Int)) (by omega) (by omega), _, rfl, b, ux, vx, 2, rfl, hbx, vx0, by omega, by decide, by decide, fun d uy vy Hy by' ey vy0 vy1 _ _ => ⟨rfl, ?_⟩⟩
      have Wy := Wx.other by' hbx npr npt nrr
      have hkin : inN (k : Int) n := ⟨by omega, by omega⟩
      have op : ∀ y', inN y' n → stt ss y' = none → ¬ y'.toNat ∈ w.take i := fun y' h1 h2 => Sx.opens h1 h2
      refine ⟨x, pr, pt, rr, n, tb, bs, ss, z, (k : Int), _, ts, rfl, Wy, R, n8, hkin, li, Sx.holds, fun y' h1 h2 => zx _ (by have := h1.1; have := h1.2; omega) (op y' h1 h2), Sx.op k hkn knew, fun y' h1 h2 => ?_, fun Hz Wz bz => ?_⟩
      · rw [Int.toNat_natCast]
        exact after _ (by have := h1.1; have := h1.2; omega) (op y' h1 h2)
      rw [Int.toNat_natCast] at Wz
      refine ⟨_, rfl, iteF ⟨fun c o ec n1 n2 n3 => bz _ _ (by' _ _ (kx _ _ ec n1 n2 n3) n3) n1 n2, ⟨uy, vy, bz _ _ ey nbx (Ne.symm npt), vy0, by omega⟩, ⟨_, _, Wz, ?_, fun j hj hm => ?_⟩, _, _, rfl⟩⟩
      · rw [htk]; exact Sx.set Wx.len hkn
      · rw [htk] at hm
        exact after j hj fun h => hm (List.mem_append_left _ h)
    · rintro σ Hx ⟨kx, Bx, ⟨ss, z, Wx, Sx, zx⟩, u9, u10, rfl⟩
      obtain ⟨dx, hx⟩ := Wx.ob
      rw [hmap, ← hwl, List.take_length] at Sx
      have tx := kx _ _ t15 (by obtain ⟨dx, hx⟩ := W15.ob; exact ne_of t15 hx (fun z => by cases z)) (ne_of t15 W15.tm (fun z => by cases z)) (ne_of t15 hb15 (fun z => by cases z))
      rw [hwl] at Sx
      have all := Sx.whole Wx.len lt fun k hk => (hwm k).mpr hk
      refine ⟨_, rfl, x, dx, _, rfl, hx, fldc_no _ _ _ (by decide +kernel) (by decide +kernel) (by decide +kernel), x, pr, pt, rr, n, tb, ss, z, rfl, Wx, fun rs' Hy sy hry ey => ?_⟩
      refine ⟨_, rfl, t, _, rfl, .inr (SqT.of (sy _ _ tx)), fun l2 hl2 => ?_⟩
      rw [all] at ey
      exact ⟨⟨0, rs', l2, _, _, _, by decide, rfl, rfl, SqL.of (same_new hl2 _ _ _ ey), SqL.of upd_same, told_ints _, told_ints _⟩, q _⟩
end
theorem all_mk {l : PySem.W.OpenLaw} {w : World} {K : PySem.W.Frag} {h : Heap} {mg : Str → Option Value} {fa : Addr} (X : K.In h) (G : h.Ns mainGlobals mg) (hfa : mg "law" = some (.ref fa))
    {f1 : Addr} {od1 an1 : Option Addr} {sl1 : Array (Option Value)} {oc1 kV1 dc1 pm1 cd1 ct1 : Value}
    {f2 : Addr} {od2 an2 : Option Addr} {sl2 : Array (Option Value)} {oc2 kV2 dc2 pm2 cd2 ct2 : Value}
    {f3 : Addr} {od3 an3 : Option Addr} {sl3 : Array (Option Value)} {oc3 kV3 dc3 pm3 cd3 ct3 : Value}
    {f4 : Addr} {od4 an4 : Option Addr} {sl4 : Array (Option Value)} {oc4 kV4 dc4 pm4 cd4 ct4 : Value}
    {f5 : Addr} {od5 an5 : Option Addr} {sl5 : Array (Option Value)} {oc5 kV5 dc5 pm5 cd5 ct5 : Value}
    {f6 : Addr} {od6 an6 : Option Addr} {sl6 : Array (Option Value)} {oc6 kV6 dc6 pm6 cd6 ct6 : Value}
    {f7 : Addr} {od7 an7 : Option Addr} {sl7 : Array (Option Value)} {oc7 kV7 dc7 pm7 cd7 ct7 : Value}
    {f8 : Addr} {od8 an8 : Option Addr} {sl8 : Array (Option Value)} {oc8 kV8 dc8 pm8 cd8 ct8 : Value}
    {f9 : Addr} {od9 an9 : Option Addr} {sl9 : Array (Option Value)} {oc9 kV9 dc9 pm9 cd9 ct9 : Value}
    {f10 : Addr} {od10 an10 : Option Addr} {sl10 : Array (Option Value)} {oc10 kV10 dc10 pm10 cd10 ct10 : Value}
    {f11 : Addr} {od11 an11 : Option Addr} {sl11 : Array (Option Value)} {oc11 kV11 dc11 pm11 cd11 ct11 : Value}
    {f12 : Addr} {od12 an12 : Option Addr} {sl12 : Array (Option Value)} {oc12 kV12 dc12 pm12 cd12 ct12 : Value}
    {f13 : Addr} {od13 an13 : Option Addr} {sl13 : Array (Option Value)} {oc13 kV13 dc13 pm13 cd13 ct13 : Value}
    {f14 : Addr} {od14 an14 : Option Addr} {sl14 : Array (Option Value)} {oc14 kV14 dc14 pm14 cd14 ct14 : Value}
    {f15 : Addr} {od15 an15 : Option Addr} {sl15 : Array (Option Value)} {oc15 kV15 dc15 pm15 cd15 ct15 : Value}
    {f16 : Addr} {od16 an16 : Option Addr} {sl16 : Array (Option Value)} {oc16 kV16 dc16 pm16 cd16 ct16 : Value}
    {f17 : Addr} {od17 an17 : Option Addr} {sl17 : Array (Option Value)} {oc17 kV17 dc17 pm17 cd17 ct17 : Value}
    {f18 : Addr} {od18 an18 : Option Addr} {sl18 : Array (Option Value)} {oc18 kV18 dc18 pm18 cd18 ct18 : Value}
    {f19 : Addr} {od19 an19 : Option Addr} {sl19 : Array (Option Value)} {oc19 kV19 dc19 pm19 cd19 ct19 : Value}
    {f20 : Addr} {od20 an20 : Option Addr} {sl20 : Array (Option Value)} {oc20 kV20 dc20 pm20 cd20 ct20 : Value}
    {f21 : Addr} {od21 an21 : Option Addr} {sl21 : Array (Option Value)} {oc21 kV21 dc21 pm21 cd21 ct21 : Value}
    {f22 : Addr} {od22 an22 : Option Addr} {sl22 : Array (Option Value)} {oc22 kV22 dc22 pm22 cd22 ct22 : Value}
    {f23 : Addr} {od23 an23 : Option Addr} {sl23 : Array (Option Value)} {oc23 kV23 dc23 pm23 cd23 ct23 : Value}
    {f24 : Addr} {od24 an24 : Option Addr} {sl24 : Array (Option Value)} {oc24 kV24 dc24 pm24 cd24 ct24 : Value}
    {f25 : Addr} {od25 an25 : Option Addr} {sl25 : Array (Option Value)} {oc25 kV25 dc25 pm25 cd25 ct25 : Value}
    {f26 : Addr} {od26 an26 : Option Addr} {sl26 : Array (Option Value)} {oc26 kV26 dc26 pm26 cd26 ct26 : Value}
    {f27 : Addr} {od27 an27 : Option Addr} {sl27 : Array (Option Value)} {oc27 kV27 dc27 pm27 cd27 ct27 : Value}
    {f28 : Addr} {od28 an28 : Option Addr} {sl28 : Array (Option Value)} {oc28 kV28 dc28 pm28 cd28 ct28 : Value}
    {f29 : Addr} {od29 an29 : Option Addr} {sl29 : Array (Option Value)} {oc29 kV29 dc29 pm29 cd29 ct29 : Value}
    {f30 : Addr} {od30 an30 : Option Addr} {sl30 : Array (Option Value)} {oc30 kV30 dc30 pm30 cd30 ct30 : Value}
    {f31 : Addr} {od31 an31 : Option Addr} {sl31 : Array (Option Value)} {oc31 kV31 dc31 pm31 cd31 ct31 : Value}
    {ca1 : Addr} (g1 : PySem.W.nsIn K mainGlobals "WaitError" = some (some (.ref ca1)))
    {ca2 : Addr} (g2 : PySem.W.nsIn K mainGlobals "NoTime" = some (some (.ref ca2)))
    {ca3 : Addr} (g3 : PySem.W.nsIn K mainGlobals "Clock" = some (some (.ref ca3)))
    (a1 : PySem.W.nsIn K mainGlobals "lies_between" = some (some (.ref f1))) (l1 : K.lookup f1 = some ⟨oc1, od1, .func (PySem.W.fnOf "lies_between" "lies_between" (defArgs s_lies_between) (defBody s_lies_between) (defScope s_lies_between) .none kV1 dc1 pm1 an1 cd1 ct1), sl1⟩) (c1 : PySem.W.codeIn K cd1 "lies_between" = true) (k1 : PySem.W.keepIn K (.ref f1) = true)
    (a2 : PySem.W.nsIn K mainGlobals "least_time" = some (some (.ref f2))) (l2 : K.lookup f2 = some ⟨oc2, od2, .func (PySem.W.fnOf "least_time" "least_time" (defArgs s_least_time) (defBody s_least_time) (defScope s_least_time) .none kV2 dc2 pm2 an2 cd2 ct2), sl2⟩) (c2 : PySem.W.codeIn K cd2 "least_time" = true) (k2 : PySem.W.keepIn K (.ref f2) = true)
    (a3 : PySem.W.nsIn K mainGlobals "greatest_time" = some (some (.ref f3))) (l3 : K.lookup f3 = some ⟨oc3, od3, .func (PySem.W.fnOf "greatest_time" "greatest_time" (defArgs s_greatest_time) (defBody s_greatest_time) (defScope s_greatest_time) .none kV3 dc3 pm3 an3 cd3 ct3), sl3⟩) (c3 : PySem.W.codeIn K cd3 "greatest_time" = true) (k3 : PySem.W.keepIn K (.ref f3) = true)
    (a4 : PySem.W.nsIn K mainGlobals "points_set" = some (some (.ref f4))) (l4 : K.lookup f4 = some ⟨oc4, od4, .func (PySem.W.fnOf "points_set" "points_set" (defArgs s_points_set) (defBody s_points_set) (defScope s_points_set) .none kV4 dc4 pm4 an4 cd4 ct4), sl4⟩) (c4 : PySem.W.codeIn K cd4 "points_set" = true) (k4 : PySem.W.keepIn K (.ref f4) = true)
    (a5 : PySem.W.nsIn K mainGlobals "points_open" = some (some (.ref f5))) (l5 : K.lookup f5 = some ⟨oc5, od5, .func (PySem.W.fnOf "points_open" "points_open" (defArgs s_points_open) (defBody s_points_open) (defScope s_points_open) .none kV5 dc5 pm5 an5 cd5 ct5), sl5⟩) (c5 : PySem.W.codeIn K cd5 "points_open" = true) (k5 : PySem.W.keepIn K (.ref f5) = true)
    (a6 : PySem.W.nsIn K mainGlobals "limit" = some (some (.ref f6))) (l6 : K.lookup f6 = some ⟨oc6, od6, .func (PySem.W.fnOf "limit" "limit" (defArgs s_limit) (defBody s_limit) (defScope s_limit) .none kV6 dc6 pm6 an6 cd6 ct6), sl6⟩) (c6 : PySem.W.codeIn K cd6 "limit" = true) (k6 : PySem.W.keepIn K (.ref f6) = true)
    (a7 : PySem.W.nsIn K mainGlobals "course" = some (some (.ref f7))) (l7 : K.lookup f7 = some ⟨oc7, od7, .func (PySem.W.fnOf "course" "course" (defArgs s_course) (defBody s_course) (defScope s_course) .none kV7 dc7 pm7 an7 cd7 ct7), sl7⟩) (c7 : PySem.W.codeIn K cd7 "course" = true) (k7 : PySem.W.keepIn K (.ref f7) = true)
    (a8 : PySem.W.nsIn K mainGlobals "turn" = some (some (.ref f8))) (l8 : K.lookup f8 = some ⟨oc8, od8, .func (PySem.W.fnOf "turn" "turn" (defArgs s_turn) (defBody s_turn) (defScope s_turn) .none kV8 dc8 pm8 an8 cd8 ct8), sl8⟩) (c8 : PySem.W.codeIn K cd8 "turn" = true) (k8 : PySem.W.keepIn K (.ref f8) = true)
    (a9 : PySem.W.nsIn K mainGlobals "must_follow" = some (some (.ref f9))) (l9 : K.lookup f9 = some ⟨oc9, od9, .func (PySem.W.fnOf "must_follow" "must_follow" (defArgs s_must_follow) (defBody s_must_follow) (defScope s_must_follow) .none kV9 dc9 pm9 an9 cd9 ct9), sl9⟩) (c9 : PySem.W.codeIn K cd9 "must_follow" = true) (k9 : PySem.W.keepIn K (.ref f9) = true)
    (a10 : PySem.W.nsIn K mainGlobals "wide" = some (some (.ref f10))) (l10 : K.lookup f10 = some ⟨oc10, od10, .func (PySem.W.fnOf "wide" "wide" (defArgs s_wide) (defBody s_wide) (defScope s_wide) .none kV10 dc10 pm10 an10 cd10 ct10), sl10⟩) (c10 : PySem.W.codeIn K cd10 "wide" = true) (k10 : PySem.W.keepIn K (.ref f10) = true)
    (a11 : PySem.W.nsIn K mainGlobals "wide_row" = some (some (.ref f11))) (l11 : K.lookup f11 = some ⟨oc11, od11, .func (PySem.W.fnOf "wide_row" "wide_row" (defArgs s_wide_row) (defBody s_wide_row) (defScope s_wide_row) .none kV11 dc11 pm11 an11 cd11 ct11), sl11⟩) (c11 : PySem.W.codeIn K cd11 "wide_row" = true) (k11 : PySem.W.keepIn K (.ref f11) = true)
    (a12 : PySem.W.nsIn K mainGlobals "table_of" = some (some (.ref f12))) (l12 : K.lookup f12 = some ⟨oc12, od12, .func (PySem.W.fnOf "table_of" "table_of" (defArgs s_table_of) (defBody s_table_of) (defScope s_table_of) .none kV12 dc12 pm12 an12 cd12 ct12), sl12⟩) (c12 : PySem.W.codeIn K cd12 "table_of" = true) (k12 : PySem.W.keepIn K (.ref f12) = true)
    (a13 : PySem.W.nsIn K mainGlobals "held" = some (some (.ref f13))) (l13 : K.lookup f13 = some ⟨oc13, od13, .func (PySem.W.fnOf "held" "held" (defArgs s_held) (defBody s_held) (defScope s_held) .none kV13 dc13 pm13 an13 cd13 ct13), sl13⟩) (c13 : PySem.W.codeIn K cd13 "held" = true) (k13 : PySem.W.keepIn K (.ref f13) = true)
    (a14 : PySem.W.nsIn K mainGlobals "shuts" = some (some (.ref f14))) (l14 : K.lookup f14 = some ⟨oc14, od14, .func (PySem.W.fnOf "shuts" "shuts" (defArgs s_shuts) (defBody s_shuts) (defScope s_shuts) .none kV14 dc14 pm14 an14 cd14 ct14), sl14⟩) (c14 : PySem.W.codeIn K cd14 "shuts" = true) (k14 : PySem.W.keepIn K (.ref f14) = true)
    (a15 : PySem.W.nsIn K mainGlobals "held_row" = some (some (.ref f15))) (l15 : K.lookup f15 = some ⟨oc15, od15, .func (PySem.W.fnOf "held_row" "held_row" (defArgs s_held_row) (defBody s_held_row) (defScope s_held_row) .none kV15 dc15 pm15 an15 cd15 ct15), sl15⟩) (c15 : PySem.W.codeIn K cd15 "held_row" = true) (k15 : PySem.W.keepIn K (.ref f15) = true)
    (a16 : PySem.W.nsIn K mainGlobals "total" = some (some (.ref f16))) (l16 : K.lookup f16 = some ⟨oc16, od16, .func (PySem.W.fnOf "total" "total" (defArgs s_total) (defBody s_total) (defScope s_total) .none kV16 dc16 pm16 an16 cd16 ct16), sl16⟩) (c16 : PySem.W.codeIn K cd16 "total" = true) (k16 : PySem.W.keepIn K (.ref f16) = true)
    (a17 : PySem.W.nsIn K mainGlobals "lesser" = some (some (.ref f17))) (l17 : K.lookup f17 = some ⟨oc17, od17, .func (PySem.W.fnOf "lesser" "lesser" (defArgs s_lesser) (defBody s_lesser) (defScope s_lesser) .none kV17 dc17 pm17 an17 cd17 ct17), sl17⟩) (c17 : PySem.W.codeIn K cd17 "lesser" = true) (k17 : PySem.W.keepIn K (.ref f17) = true)
    (a18 : PySem.W.nsIn K mainGlobals "_law_cell" = some (some (.ref f18))) (l18 : K.lookup f18 = some ⟨oc18, od18, .func (PySem.W.fnOf "_law_cell" "_law_cell" (defArgs s_law_cell) (defBody s_law_cell) (defScope s_law_cell) .none kV18 dc18 pm18 an18 cd18 ct18), sl18⟩) (c18 : PySem.W.codeIn K cd18 "_law_cell" = true) (k18 : PySem.W.keepIn K (.ref f18) = true)
    (a19 : PySem.W.nsIn K mainGlobals "_law_bag" = some (some (.ref f19))) (l19 : K.lookup f19 = some ⟨oc19, od19, .func (PySem.W.fnOf "_law_bag" "_law_bag" (defArgs s_law_bag) (defBody s_law_bag) (defScope s_law_bag) .none kV19 dc19 pm19 an19 cd19 ct19), sl19⟩) (c19 : PySem.W.codeIn K cd19 "_law_bag" = true) (k19 : PySem.W.keepIn K (.ref f19) = true)
    (a20 : PySem.W.nsIn K mainGlobals "_law_take" = some (some (.ref f20))) (l20 : K.lookup f20 = some ⟨oc20, od20, .func (PySem.W.fnOf "_law_take" "_law_take" (defArgs s_law_take) (defBody s_law_take) (defScope s_law_take) .none kV20 dc20 pm20 an20 cd20 ct20), sl20⟩) (c20 : PySem.W.codeIn K cd20 "_law_take" = true) (k20 : PySem.W.keepIn K (.ref f20) = true)
    (a21 : PySem.W.nsIn K mainGlobals "_law_big" = some (some (.ref f21))) (l21 : K.lookup f21 = some ⟨oc21, od21, .func (PySem.W.fnOf "_law_big" "_law_big" (defArgs s_law_big) (defBody s_law_big) (defScope s_law_big) .none kV21 dc21 pm21 an21 cd21 ct21), sl21⟩) (c21 : PySem.W.codeIn K cd21 "_law_big" = true) (k21 : PySem.W.keepIn K (.ref f21) = true)
    (a22 : PySem.W.nsIn K mainGlobals "_law_bounds" = some (some (.ref f22))) (l22 : K.lookup f22 = some ⟨oc22, od22, .func (PySem.W.fnOf "_law_bounds" "_law_bounds" (defArgs s_law_bounds) (defBody s_law_bounds) (defScope s_law_bounds) .none kV22 dc22 pm22 an22 cd22 ct22), sl22⟩) (c22 : PySem.W.codeIn K cd22 "_law_bounds" = true) (k22 : PySem.W.keepIn K (.ref f22) = true)
    (a23 : PySem.W.nsIn K mainGlobals "_law_done" = some (some (.ref f23))) (l23 : K.lookup f23 = some ⟨oc23, od23, .func (PySem.W.fnOf "_law_done" "_law_done" (defArgs s_law_done) (defBody s_law_done) (defScope s_law_done) .none kV23 dc23 pm23 an23 cd23 ct23), sl23⟩) (c23 : PySem.W.codeIn K cd23 "_law_done" = true) (k23 : PySem.W.keepIn K (.ref f23) = true)
    (a24 : PySem.W.nsIn K mainGlobals "law" = some (some (.ref f24))) (l24 : K.lookup f24 = some ⟨oc24, od24, .func (PySem.W.fnOf "law" "law" (defArgs s_law) (defBody s_law) (defScope s_law) .none kV24 dc24 pm24 an24 cd24 ct24), sl24⟩) (c24 : PySem.W.codeIn K cd24 "law" = true) (k24 : PySem.W.keepIn K (.ref f24) = true)
    (a25 : PySem.W.findIn K (.ref ca3) "__init__" = some (some (.ref f25))) (i25 : PySem.W.isFn K (.ref f25) = true) (l25 : K.lookup f25 = some ⟨oc25, od25, .func (PySem.W.fnOf "__init__" "Clock.__init__" (defArgs s_Clock___init__) (defBody s_Clock___init__) (defScope s_Clock___init__) .none kV25 dc25 pm25 an25 cd25 ct25), sl25⟩) (c25 : PySem.W.codeIn K cd25 "Clock.__init__" = true) (k25 : PySem.W.keepIn K (.ref f25) = true)
    (a26 : PySem.W.findIn K (.ref ca3) "now" = some (some (.ref f26))) (i26 : PySem.W.isFn K (.ref f26) = true) (l26 : K.lookup f26 = some ⟨oc26, od26, .func (PySem.W.fnOf "now" "Clock.now" (defArgs s_Clock_now) (defBody s_Clock_now) (defScope s_Clock_now) .none kV26 dc26 pm26 an26 cd26 ct26), sl26⟩) (c26 : PySem.W.codeIn K cd26 "Clock.now" = true) (k26 : PySem.W.keepIn K (.ref f26) = true)
    (a27 : PySem.W.findIn K (.ref ca3) "setting" = some (some (.ref f27))) (i27 : PySem.W.isFn K (.ref f27) = true) (l27 : K.lookup f27 = some ⟨oc27, od27, .func (PySem.W.fnOf "setting" "Clock.setting" (defArgs s_Clock_setting) (defBody s_Clock_setting) (defScope s_Clock_setting) .none kV27 dc27 pm27 an27 cd27 ct27), sl27⟩) (c27 : PySem.W.codeIn K cd27 "Clock.setting" = true) (k27 : PySem.W.keepIn K (.ref f27) = true)
    (a28 : PySem.W.findIn K (.ref ca3) "limit" = some (some (.ref f28))) (i28 : PySem.W.isFn K (.ref f28) = true) (l28 : K.lookup f28 = some ⟨oc28, od28, .func (PySem.W.fnOf "limit" "Clock.limit" (defArgs s_Clock_limit) (defBody s_Clock_limit) (defScope s_Clock_limit) .none kV28 dc28 pm28 an28 cd28 ct28), sl28⟩) (c28 : PySem.W.codeIn K cd28 "Clock.limit" = true) (k28 : PySem.W.keepIn K (.ref f28) = true)
    (a29 : PySem.W.findIn K (.ref ca3) "turn" = some (some (.ref f29))) (i29 : PySem.W.isFn K (.ref f29) = true) (l29 : K.lookup f29 = some ⟨oc29, od29, .func (PySem.W.fnOf "turn" "Clock.turn" (defArgs s_Clock_turn) (defBody s_Clock_turn) (defScope s_Clock_turn) .none kV29 dc29 pm29 an29 cd29 ct29), sl29⟩) (c29 : PySem.W.codeIn K cd29 "Clock.turn" = true) (k29 : PySem.W.keepIn K (.ref f29) = true)
    (a30 : PySem.W.findIn K (.ref ca3) "wait" = some (some (.ref f30))) (i30 : PySem.W.isFn K (.ref f30) = true) (l30 : K.lookup f30 = some ⟨oc30, od30, .func (PySem.W.fnOf "wait" "Clock.wait" (defArgs s_Clock_wait) (defBody s_Clock_wait) (defScope s_Clock_wait) .none kV30 dc30 pm30 an30 cd30 ct30), sl30⟩) (c30 : PySem.W.codeIn K cd30 "Clock.wait" = true) (k30 : PySem.W.keepIn K (.ref f30) = true)
    (a31 : PySem.W.findIn K (.ref ca3) "mark" = some (some (.ref f31))) (i31 : PySem.W.isFn K (.ref f31) = true) (l31 : K.lookup f31 = some ⟨oc31, od31, .func (PySem.W.fnOf "mark" "Clock.mark" (defArgs s_Clock_mark) (defBody s_Clock_mark) (defScope s_Clock_mark) .none kV31 dc31 pm31 an31 cd31 ct31), sl31⟩) (c31 : PySem.W.codeIn K cd31 "Clock.mark" = true) (k31 : PySem.W.keepIn K (.ref f31) = true)
    (al_course_turns : PySem.W.nsIn K mainGlobals "course_turns" = some (some (.ref f7)))
    (al_limit_turns : PySem.W.nsIn K mainGlobals "limit_turns" = some (some (.ref f6)))
    (al_turn_turns : PySem.W.nsIn K mainGlobals "turn_turns" = some (some (.ref f8)))
    (x_NoTime : PySem.W.excIn K ca2 VB "ValueError.__new__" = true)
    (k0_NoTime : PySem.W.findIn K (.ref ca2) "__getattribute__" = some (some (.builtin "BaseException.__getattribute__")))
    (k1_NoTime : PySem.W.findIn K (.ref ca2) "__getattr__" = some none)
    (k2_NoTime : PySem.W.findIn K (.ref ca2) "__class__" = some (some (.builtin "object.__class__")))
    (k3_NoTime : PySem.W.mroIn K ca2 (.type "BaseException") = some true)
    (k4_NoTime : PySem.W.mroIn K ca2 (.type "object") = some true)
    (k5_NoTime : PySem.W.hasDictIn K ca2 = true)
    (h0_NoTime : PySem.W.typeIn K (.ref ca2) = some (.type "type"))
    (h1_NoTime : PySem.W.hasDictIn K ca2 = true)
    (h2_NoTime : PySem.W.mroIn K ca2 (.type "BaseException") = some true)
    (pg_Clock : PySem.W.plainGet K ca3 Str.empty = true)
    (hd_Clock : PySem.W.hasDictIn K ca3 = true)
    (po_Clock : PySem.W.plainOver K ca3 = true)
    (sa_Clock : PySem.W.findIn K (.ref ca3) "__setattr__" = some (some (.builtin "object.__setattr__")))
    (mk_Clock : PySem.W.makesIn K ca3 = true)
    (kc_Clock : PySem.W.keepIn K (.ref ca3) = true)
    (n_Clock_rows : PySem.W.findIn K (.ref ca3) "rows" = some none)
    (n_Clock_times : PySem.W.findIn K (.ref ca3) "times" = some none)
    (n_Clock_present : PySem.W.findIn K (.ref ca3) "present" = some none)
    (z1 : PySem.W.nsIn K mainGlobals "abs" = some none)
    (z2 : PySem.W.nsIn K mainGlobals "any" = some none)
    (z3 : PySem.W.nsIn K mainGlobals "len" = some none)
    (z4 : PySem.W.nsIn K mainGlobals "list" = some none)
    (z5 : PySem.W.nsIn K mainGlobals "max" = some none)
    (z6 : PySem.W.nsIn K mainGlobals "min" = some none)
    (z7 : PySem.W.nsIn K mainGlobals "range" = some none)
    (z8 : PySem.W.nsIn K mainGlobals "sorted" = some none)
    (z9 : PySem.W.nsIn K mainGlobals "tuple" = some none)
    : ∃ fd : FuncData, (∀ (s : Shared) (v : Value), BindsTo s fd ⟨[v], []⟩ [("_law_script", v)]) ∧ ∀ base : Heap, K.In base → base.Ns mainGlobals mg → FnOk l.prog w K mg base CX0 8 fa fd ["_law_script"] (sp_law K) := by
  have e := hfa.symm.trans (PySem.W.mg_of X G a24)
  cases e
  let cl : Cl := ⟨ca1, ca2, ca3⟩
  have T : Txt K mg cl := ⟨PySem.W.mg_none_of X G z1, PySem.W.mg_none_of X G z2, PySem.W.mg_none_of X G z3, PySem.W.mg_none_of X G z4, PySem.W.mg_none_of X G z5, PySem.W.mg_none_of X G z6, PySem.W.mg_none_of X G z7, PySem.W.mg_none_of X G z8, PySem.W.mg_none_of X G z9, PySem.W.mg_of X G g1, PySem.W.mg_of X G g2, PySem.W.mg_of X G g3, x_NoTime, ⟨k0_NoTime, k1_NoTime, k2_NoTime, k3_NoTime, k4_NoTime, cls_of_dict k5_NoTime⟩, ⟨h0_NoTime, cls_of_dict h1_NoTime, h2_NoTime⟩, ⟨pg_Clock, hd_Clock, po_Clock, sa_Clock⟩, n_Clock_rows, n_Clock_times, n_Clock_present⟩
  have F1 := fun_mk (st := s_lies_between) l1 c1 k1
  have b1 := F1.binds (ps := ["time", "low", "high"]) fun _ _ _ _ _ _ us hl => by obtain ⟨_, _, _, rfl⟩ := lenE3 hl; rfl
  have F2 := fun_mk (st := s_least_time) l2 c2 k2
  have b2 := F2.binds (ps := ["table", "setting", "x"]) fun _ _ _ _ _ _ us hl => by obtain ⟨_, _, _, rfl⟩ := lenE3 hl; rfl
  have F3 := fun_mk (st := s_greatest_time) l3 c3 k3
  have b3 := F3.binds (ps := ["table", "setting", "x"]) fun _ _ _ _ _ _ us hl => by obtain ⟨_, _, _, rfl⟩ := lenE3 hl; rfl
  have F4 := fun_mk (st := s_points_set) l4 c4 k4
  have b4 := F4.binds (ps := ["setting"]) fun _ _ _ _ _ _ us hl => by obtain ⟨_, rfl⟩ := lenE1 hl; rfl
  have F5 := fun_mk (st := s_points_open) l5 c5 k5
  have b5 := F5.binds (ps := ["setting"]) fun _ _ _ _ _ _ us hl => by obtain ⟨_, rfl⟩ := lenE1 hl; rfl
  have F6 := fun_mk (st := s_limit) l6 c6 k6
  have b6 := F6.binds (ps := ["table", "setting"]) fun _ _ _ _ _ _ us hl => by obtain ⟨_, _, rfl⟩ := lenE2 hl; rfl
  have F7 := fun_mk (st := s_course) l7 c7 k7
  have b7 := F7.binds (ps := ["table", "setting", "now"]) fun _ _ _ _ _ _ us hl => by obtain ⟨_, _, _, rfl⟩ := lenE3 hl; rfl
  have F8 := fun_mk (st := s_turn) l8 c8 k8
  have b8 := F8.binds (ps := ["table", "setting", "now", "x"]) fun _ _ _ _ _ _ us hl => by obtain ⟨_, _, _, _, rfl⟩ := lenE4 hl; rfl
  have F9 := fun_mk (st := s_must_follow) l9 c9 k9
  have b9 := F9.binds (ps := ["table", "setting", "x"]) fun _ _ _ _ _ _ us hl => by obtain ⟨_, _, _, rfl⟩ := lenE3 hl; rfl
  have F10 := fun_mk (st := s_wide) l10 c10 k10
  have b10 := F10.binds (ps := ["count"]) fun _ _ _ _ _ _ us hl => by obtain ⟨_, rfl⟩ := lenE1 hl; rfl
  have F11 := fun_mk (st := s_wide_row) l11 c11 k11
  have b11 := F11.binds (ps := ["count", "a"]) fun _ _ _ _ _ _ us hl => by obtain ⟨_, _, rfl⟩ := lenE2 hl; rfl
  have F12 := fun_mk (st := s_table_of) l12 c12 k12
  have b12 := F12.binds (ps := ["count", "bounds"]) fun _ _ _ _ _ _ us hl => by obtain ⟨_, _, rfl⟩ := lenE2 hl; rfl
  have F13 := fun_mk (st := s_held) l13 c13 k13
  have b13 := F13.binds (ps := ["table", "bound"]) fun _ _ _ _ _ _ us hl => by obtain ⟨_, _, rfl⟩ := lenE2 hl; rfl
  have F14 := fun_mk (st := s_shuts) l14 c14 k14
  have b14 := F14.binds (ps := ["bound", "table"]) fun _ _ _ _ _ _ us hl => by obtain ⟨_, _, rfl⟩ := lenE2 hl; rfl
  have F15 := fun_mk (st := s_held_row) l15 c15 k15
  have b15 := F15.binds (ps := ["table", "a", "bound"]) fun _ _ _ _ _ _ us hl => by obtain ⟨_, _, _, rfl⟩ := lenE3 hl; rfl
  have F16 := fun_mk (st := s_total) l16 c16 k16
  have b16 := F16.binds (ps := ["one", "other"]) fun _ _ _ _ _ _ us hl => by obtain ⟨_, _, rfl⟩ := lenE2 hl; rfl
  have F17 := fun_mk (st := s_lesser) l17 c17 k17
  have b17 := F17.binds (ps := ["one", "other"]) fun _ _ _ _ _ _ us hl => by obtain ⟨_, _, rfl⟩ := lenE2 hl; rfl
  have F18 := fun_mk (st := s_law_cell) l18 c18 k18
  have b18 := F18.binds (ps := ["_law_script", "_law_k"]) fun _ _ _ _ _ _ us hl => by obtain ⟨_, _, rfl⟩ := lenE2 hl; rfl
  have F19 := fun_mk (st := s_law_bag) l19 c19 k19
  have b19 := F19.binds (ps := ["_law_cell_here"]) fun _ _ _ _ _ _ us hl => by obtain ⟨_, rfl⟩ := lenE1 hl; rfl
  have F20 := fun_mk (st := s_law_take) l20 c20 k20
  have b20 := F20.binds (ps := ["_law_bag_here", "_law_many"]) fun _ _ _ _ _ _ us hl => by obtain ⟨_, _, rfl⟩ := lenE2 hl; rfl
  have F21 := fun_mk (st := s_law_big) l21 c21 k21
  have b21 := F21.binds (ps := ["_law_bag_here"]) fun _ _ _ _ _ _ us hl => by obtain ⟨_, rfl⟩ := lenE1 hl; rfl
  have F22 := fun_mk (st := s_law_bounds) l22 c22 k22
  have b22 := F22.binds (ps := ["_law_bag_here", "_law_many", "_law_times"]) fun _ _ _ _ _ _ us hl => by obtain ⟨_, _, _, rfl⟩ := lenE3 hl; rfl
  have F23 := fun_mk (st := s_law_done) l23 c23 k23
  have b23 := F23.binds (ps := ["_law_clock", "_law_x", "_law_time", "_law_first"]) fun _ _ _ _ _ _ us hl => by obtain ⟨_, _, _, _, rfl⟩ := lenE4 hl; rfl
  have F24 := fun_mk (st := s_law) l24 c24 k24
  have F25 := fun_mk (st := s_Clock___init__) l25 c25 k25
  have b25 := F25.binds (ps := ["self", "table", "start"]) fun _ _ _ _ _ _ us hl => by obtain ⟨_, _, _, rfl⟩ := lenE3 hl; rfl
  have F26 := fun_mk (st := s_Clock_now) l26 c26 k26
  have b26 := F26.binds (ps := ["self"]) fun _ _ _ _ _ _ us hl => by obtain ⟨_, rfl⟩ := lenE1 hl; rfl
  have F27 := fun_mk (st := s_Clock_setting) l27 c27 k27
  have b27 := F27.binds (ps := ["self"]) fun _ _ _ _ _ _ us hl => by obtain ⟨_, rfl⟩ := lenE1 hl; rfl
  have F28 := fun_mk (st := s_Clock_limit) l28 c28 k28
  have b28 := F28.binds (ps := ["self"]) fun _ _ _ _ _ _ us hl => by obtain ⟨_, rfl⟩ := lenE1 hl; rfl
  have F29 := fun_mk (st := s_Clock_turn) l29 c29 k29
  have b29 := F29.binds (ps := ["self", "x"]) fun _ _ _ _ _ _ us hl => by obtain ⟨_, _, rfl⟩ := lenE2 hl; rfl
  have F30 := fun_mk (st := s_Clock_wait) l30 c30 k30
  have b30 := F30.binds (ps := ["self", "time"]) fun _ _ _ _ _ _ us hl => by obtain ⟨_, _, rfl⟩ := lenE2 hl; rfl
  have F31 := fun_mk (st := s_Clock_mark) l31 c31 k31
  have b31 := F31.binds (ps := ["self", "x", "time"]) fun _ _ _ _ _ _ us hl => by obtain ⟨_, _, _, rfl⟩ := lenE3 hl; rfl
  refine ⟨PySem.W.fnOf "law" "law" (defArgs s_law) (defBody s_law) (defScope s_law) .none kV24 dc24 pm24 an24 cd24 ct24, fun s v => .of_eq rfl, fun base _ _ => ?_⟩
  have C_lies_between : Cal l.prog w K mg base 1 "lies_between" ["time", "low", "high"] (sp_lies_between K) := ⟨f1, _, ok_lies_between F1 T , b1, k1, PySem.W.mg_of X G a1⟩
  have C_points_set : Cal l.prog w K mg base 1 "points_set" ["setting"] (sp_points_set K) := ⟨f4, _, ok_points_set F4 T , b4, k4, PySem.W.mg_of X G a4⟩
  have C_points_open : Cal l.prog w K mg base 1 "points_open" ["setting"] (sp_points_open K) := ⟨f5, _, ok_points_open F5 T , b5, k5, PySem.W.mg_of X G a5⟩
  have C_must_follow : Cal l.prog w K mg base 2 "must_follow" ["table", "setting", "x"] (sp_must_follow K) := ⟨f9, _, ok_must_follow F9 T C_points_open, b9, k9, PySem.W.mg_of X G a9⟩
  have C_wide_row : Cal l.prog w K mg base 1 "wide_row" ["count", "a"] (sp_wide_row K) := ⟨f11, _, ok_wide_row F11 T , b11, k11, PySem.W.mg_of X G a11⟩
  have C_shuts : Cal l.prog w K mg base 1 "shuts" ["bound", "table"] (sp_shuts K) := ⟨f14, _, ok_shuts F14 T , b14, k14, PySem.W.mg_of X G a14⟩
  have C_total : Cal l.prog w K mg base 1 "total" ["one", "other"] (sp_total K) := ⟨f16, _, ok_total F16 T , b16, k16, PySem.W.mg_of X G a16⟩
  have C_lesser : Cal l.prog w K mg base 1 "lesser" ["one", "other"] (sp_lesser K) := ⟨f17, _, ok_lesser F17 T , b17, k17, PySem.W.mg_of X G a17⟩
  have C_law_cell : Cal l.prog w K mg base 1 "_law_cell" ["_law_script", "_law_k"] (sp_law_cell K) := ⟨f18, _, ok_law_cell F18 T , b18, k18, PySem.W.mg_of X G a18⟩
  have C_law_bag : Cal l.prog w K mg base 1 "_law_bag" ["_law_cell_here"] (sp_law_bag K) := ⟨f19, _, ok_law_bag F19 T , b19, k19, PySem.W.mg_of X G a19⟩
  have C_law_take : Cal l.prog w K mg base 1 "_law_take" ["_law_bag_here", "_law_many"] (sp_law_take K) := ⟨f20, _, ok_law_take F20 T , b20, k20, PySem.W.mg_of X G a20⟩
  have C_law_big : Cal l.prog w K mg base 2 "_law_big" ["_law_bag_here"] (sp_law_big K) := ⟨f21, _, ok_law_big F21 T C_law_take, b21, k21, PySem.W.mg_of X G a21⟩
  have C_law_bounds : Cal l.prog w K mg base 2 "_law_bounds" ["_law_bag_here", "_law_many", "_law_times"] (sp_law_bounds K) := ⟨f22, _, ok_law_bounds F22 T C_law_take, b22, k22, PySem.W.mg_of X G a22⟩
  have MK_Clock : MkCal l.prog w K mg base cl.Clock 1 "Clock" ["self", "table", "start"] (sp_Clock___init__ K cl) := ⟨f25, _, ok_Clock___init__ F25 T , b25, ⟨mk_Clock, a25, i25, kc_Clock⟩, T.g_Clock⟩
  have M_Clock_now : MCal l.prog w K mg base cl.Clock 1 "now" ["self"] (sp_Clock_now K cl) := ⟨f26, _, ok_Clock_now F26 T , b26, ⟨a26, i26, k26⟩⟩
  have M_Clock_setting : MCal l.prog w K mg base cl.Clock 1 "setting" ["self"] (sp_Clock_setting K cl) := ⟨f27, _, ok_Clock_setting F27 T , b27, ⟨a27, i27, k27⟩⟩
  have C_least_time : Cal l.prog w K mg base 2 "least_time" ["table", "setting", "x"] (sp_least_time K) := ⟨f2, _, ok_least_time F2 T C_points_set, b2, k2, PySem.W.mg_of X G a2⟩
  have C_greatest_time : Cal l.prog w K mg base 2 "greatest_time" ["table", "setting", "x"] (sp_greatest_time K) := ⟨f3, _, ok_greatest_time F3 T C_points_set, b3, k3, PySem.W.mg_of X G a3⟩
  have C_limit : Cal l.prog w K mg base 3 "limit" ["table", "setting"] (sp_limit K) := ⟨f6, _, ok_limit F6 T C_greatest_time C_points_open, b6, k6, PySem.W.mg_of X G a6⟩
  have C_limit_turns : Cal l.prog w K mg base 3 "limit_turns" ["table", "setting"] (sp_limit K) := ⟨f6, _, ok_limit F6 T C_greatest_time C_points_open, b6, k6, PySem.W.mg_of X G al_limit_turns⟩
  have C_course : Cal l.prog w K mg base 3 "course" ["table", "setting", "now"] (sp_course K) := ⟨f7, _, ok_course F7 T C_least_time, b7, k7, PySem.W.mg_of X G a7⟩
  have C_course_turns : Cal l.prog w K mg base 3 "course_turns" ["table", "setting", "now"] (sp_course K) := ⟨f7, _, ok_course F7 T C_least_time, b7, k7, PySem.W.mg_of X G al_course_turns⟩
  have C_turn : Cal l.prog w K mg base 4 "turn" ["table", "setting", "now", "x"] (sp_turn K) := ⟨f8, _, ok_turn F8 T C_limit_turns C_course_turns C_must_follow, b8, k8, PySem.W.mg_of X G a8⟩
  have C_turn_turns : Cal l.prog w K mg base 4 "turn_turns" ["table", "setting", "now", "x"] (sp_turn K) := ⟨f8, _, ok_turn F8 T C_limit_turns C_course_turns C_must_follow, b8, k8, PySem.W.mg_of X G al_turn_turns⟩
  have C_wide : Cal l.prog w K mg base 2 "wide" ["count"] (sp_wide K) := ⟨f10, _, ok_wide F10 T C_wide_row, b10, k10, PySem.W.mg_of X G a10⟩
  have C_held_row : Cal l.prog w K mg base 2 "held_row" ["table", "a", "bound"] (sp_held_row K) := ⟨f15, _, ok_held_row F15 T C_total C_lesser, b15, k15, PySem.W.mg_of X G a15⟩
  have M_Clock_limit : MCal l.prog w K mg base cl.Clock 4 "limit" ["self"] (sp_Clock_limit K cl) := ⟨f28, _, ok_Clock_limit F28 T C_limit_turns, b28, ⟨a28, i28, k28⟩⟩
  have M_Clock_turn : MCal l.prog w K mg base cl.Clock 5 "turn" ["self", "x"] (sp_Clock_turn K cl) := ⟨f29, _, ok_Clock_turn F29 T C_turn_turns, b29, ⟨a29, i29, k29⟩⟩
  have M_Clock_wait : MCalX l.prog w K mg base cl.Clock 5 "wait" ["self", "time"] (sp_Clock_wait K cl) := ⟨f30, _, ok_Clock_wait F30 T C_lies_between M_Clock_limit, b30, ⟨a30, i30, k30⟩⟩
  have M_Clock_mark : MCalX l.prog w K mg base cl.Clock 6 "mark" ["self", "x", "time"] (sp_Clock_mark K cl) := ⟨f31, _, ok_Clock_mark F31 T C_lies_between M_Clock_turn, b31, ⟨a31, i31, k31⟩⟩
  have C_held : Cal l.prog w K mg base 3 "held" ["table", "bound"] (sp_held K) := ⟨f13, _, ok_held F13 T C_shuts C_held_row, b13, k13, PySem.W.mg_of X G a13⟩
  have C_law_done : Cal l.prog w K mg base 7 "_law_done" ["_law_clock", "_law_x", "_law_time", "_law_first"] (sp_law_done K cl) := ⟨f23, _, ok_law_done F23 T M_Clock_now M_Clock_wait M_Clock_mark, b23, k23, PySem.W.mg_of X G a23⟩
  have C_table_of : Cal l.prog w K mg base 4 "table_of" ["count", "bounds"] (sp_table_of K) := ⟨f12, _, ok_table_of F12 T C_wide C_held, b12, k12, PySem.W.mg_of X G a12⟩
  exact ok_law F24 T C_table_of C_law_cell C_law_bag C_law_take C_law_big C_law_bounds C_law_done MK_Clock M_Clock_setting
theorem walk {l : PySem.W.OpenLaw} {q : Program} {loose : List Str} {XP : (Str → Option Value) → Heap → Prop} {YP : World → Heap → Prop} {d : DefRec} {K : Params → PySem.W.Frag} (hn : l.most = some 63) (hdf : d.params.defaults = [])
    (hY : ∀ (w : World) (h : Heap), YP w h → (K w.params).In h)
    (F : ∀ (w : World) (mg : Str → Option Value) (fa : Addr) (h : Heap), (K w.params).In h → h.Ns mainGlobals mg → mg d.name = some (.ref fa) →
      ∃ fd : FuncData, (∀ (s : Shared) (u : Value), BindsTo s fd ⟨[u], []⟩ [("_law_script", u)]) ∧ ∀ base : Heap, (K w.params).In base → base.Ns mainGlobals mg → FnOk l.prog w (K w.params) mg base CX0 8 fa fd ["_law_script"] (sp_law (K w.params))) :
    PySem.W.WalkO q loose XP YP l.row.toRowW d [] (fun f vs => PySem.call f vs) :=
  L2.walk_of (n := 63) (k := 8) (x := "_law_script") (CX := fun _ => CX0) (sp := fun w => sp_law (K w.params)) hn (by decide) hdf ⟨rfl, by decide, by decide⟩ hY F (fun _ _ a ns hl _ hS => ⟨a, ns, rfl, hS, hl, fun _ => rfl⟩) fun _ _ _ _ _ z => z
end Toy
open PySem PySem.W PyProof.Rows
set_option maxRecDepth 100000 in
set_option maxHeartbeats 0 in
theorem PySem.Challenge.cw_waithouse_k26_whole_schedules_in_order_holds : PySem.Challenge.rw_waithouse_k26_whole_schedules_in_order.Holds := by
  w_on; o_law; k_head; (case hw => w_witness2)
  k_fill
  refine Toy.walk (l := PySem.Challenge.rw_waithouse_k26_whole_schedules_in_order) rfl rfl (fun w h Y => PySem.W.kIn_of Y) ?F
  case F =>
    intro w mg fa h KX G hmg
    refine' Toy.all_mk KX G hmg ?g1 ?g2 ?g3 ?a1 ?l1 ?c1 ?k1 ?a2 ?l2 ?c2 ?k2 ?a3 ?l3 ?c3 ?k3 ?a4 ?l4 ?c4 ?k4 ?a5 ?l5 ?c5 ?k5 ?a6 ?l6 ?c6 ?k6 ?a7 ?l7 ?c7 ?k7 ?a8 ?l8 ?c8 ?k8 ?a9 ?l9 ?c9 ?k9 ?a10 ?l10 ?c10 ?k10 ?a11 ?l11 ?c11 ?k11 ?a12 ?l12 ?c12 ?k12 ?a13 ?l13 ?c13 ?k13 ?a14 ?l14 ?c14 ?k14 ?a15 ?l15 ?c15 ?k15 ?a16 ?l16 ?c16 ?k16 ?a17 ?l17 ?c17 ?k17 ?a18 ?l18 ?c18 ?k18 ?a19 ?l19 ?c19 ?k19 ?a20 ?l20 ?c20 ?k20 ?a21 ?l21 ?c21 ?k21 ?a22 ?l22 ?c22 ?k22 ?a23 ?l23 ?c23 ?k23 ?a24 ?l24 ?c24 ?k24 ?a25 ?i25 ?l25 ?c25 ?k25 ?a26 ?i26 ?l26 ?c26 ?k26 ?a27 ?i27 ?l27 ?c27 ?k27 ?a28 ?i28 ?l28 ?c28 ?k28 ?a29 ?i29 ?l29 ?c29 ?k29 ?a30 ?i30 ?l30 ?c30 ?k30 ?a31 ?i31 ?l31 ?c31 ?k31 ?al_course_turns ?al_limit_turns ?al_turn_turns ?x_NoTime ?k0_NoTime ?k1_NoTime ?k2_NoTime ?k3_NoTime ?k4_NoTime ?k5_NoTime ?h0_NoTime ?h1_NoTime ?h2_NoTime ?pg_Clock ?hd_Clock ?po_Clock ?sa_Clock ?mk_Clock ?kc_Clock ?n_Clock_rows ?n_Clock_times ?n_Clock_present ?z1 ?z2 ?z3 ?z4 ?z5 ?z6 ?z7 ?z8 ?z9
    (case g1 => k_is)
    (case g2 => k_is)
    (case g3 => k_is)
    (case a1 => k_is)
    (case l1 => k_is)
    (case c1 => k_is)
    (case k1 => k_is)
    (case a2 => k_is)
    (case l2 => k_is)
    (case c2 => k_is)
    (case k2 => k_is)
    (case a3 => k_is)
    (case l3 => k_is)
    (case c3 => k_is)
    (case k3 => k_is)
    (case a4 => k_is)
    (case l4 => k_is)
    (case c4 => k_is)
    (case k4 => k_is)
    (case a5 => k_is)
    (case l5 => k_is)
    (case c5 => k_is)
    (case k5 => k_is)
    (case a6 => k_is)
    (case l6 => k_is)
    (case c6 => k_is)
    (case k6 => k_is)
    (case a7 => k_is)
    (case l7 => k_is)
    (case c7 => k_is)
    (case k7 => k_is)
    (case a8 => k_is)
    (case l8 => k_is)
    (case c8 => k_is)
    (case k8 => k_is)
    (case a9 => k_is)
    (case l9 => k_is)
    (case c9 => k_is)
    (case k9 => k_is)
    (case a10 => k_is)
    (case l10 => k_is)
    (case c10 => k_is)
    (case k10 => k_is)
    (case a11 => k_is)
    (case l11 => k_is)
    (case c11 => k_is)
    (case k11 => k_is)
    (case a12 => k_is)
    (case l12 => k_is)
    (case c12 => k_is)
    (case k12 => k_is)
    (case a13 => k_is)
    (case l13 => k_is)
    (case c13 => k_is)
    (case k13 => k_is)
    (case a14 => k_is)
    (case l14 => k_is)
    (case c14 => k_is)
    (case k14 => k_is)
    (case a15 => k_is)
    (case l15 => k_is)
    (case c15 => k_is)
    (case k15 => k_is)
    (case a16 => k_is)
    (case l16 => k_is)
    (case c16 => k_is)
    (case k16 => k_is)
    (case a17 => k_is)
    (case l17 => k_is)
    (case c17 => k_is)
    (case k17 => k_is)
    (case a18 => k_is)
    (case l18 => k_is)
    (case c18 => k_is)
    (case k18 => k_is)
    (case a19 => k_is)
    (case l19 => k_is)
    (case c19 => k_is)
    (case k19 => k_is)
    (case a20 => k_is)
    (case l20 => k_is)
    (case c20 => k_is)
    (case k20 => k_is)
    (case a21 => k_is)
    (case l21 => k_is)
    (case c21 => k_is)
    (case k21 => k_is)
    (case a22 => k_is)
    (case l22 => k_is)
    (case c22 => k_is)
    (case k22 => k_is)
    (case a23 => k_is)
    (case l23 => k_is)
    (case c23 => k_is)
    (case k23 => k_is)
    (case a24 => k_is)
    (case l24 => k_is)
    (case c24 => k_is)
    (case k24 => k_is)
    (case a25 => k_is)
    (case i25 => k_is)
    (case l25 => k_is)
    (case c25 => k_is)
    (case k25 => k_is)
    (case a26 => k_is)
    (case i26 => k_is)
    (case l26 => k_is)
    (case c26 => k_is)
    (case k26 => k_is)
    (case a27 => k_is)
    (case i27 => k_is)
    (case l27 => k_is)
    (case c27 => k_is)
    (case k27 => k_is)
    (case a28 => k_is)
    (case i28 => k_is)
    (case l28 => k_is)
    (case c28 => k_is)
    (case k28 => k_is)
    (case a29 => k_is)
    (case i29 => k_is)
    (case l29 => k_is)
    (case c29 => k_is)
    (case k29 => k_is)
    (case a30 => k_is)
    (case i30 => k_is)
    (case l30 => k_is)
    (case c30 => k_is)
    (case k30 => k_is)
    (case a31 => k_is)
    (case i31 => k_is)
    (case l31 => k_is)
    (case c31 => k_is)
    (case k31 => k_is)
    (case al_course_turns => k_is)
    (case al_limit_turns => k_is)
    (case al_turn_turns => k_is)
    (case x_NoTime => k_exc)
    (case k0_NoTime => k_is)
    (case k1_NoTime => k_is)
    (case k2_NoTime => k_is)
    (case k3_NoTime => k_is)
    (case k4_NoTime => k_is)
    (case k5_NoTime => k_is)
    (case h0_NoTime => k_is)
    (case h1_NoTime => k_is)
    (case h2_NoTime => k_is)
    (case pg_Clock => k_is)
    (case hd_Clock => k_is)
    (case po_Clock => k_is)
    (case sa_Clock => k_is)
    (case mk_Clock => k_is)
    (case kc_Clock => k_is)
    (case n_Clock_rows => k_is)
    (case n_Clock_times => k_is)
    (case n_Clock_present => k_is)
    (case z1 => k_is)
    (case z2 => k_is)
    (case z3 => k_is)
    (case z4 => k_is)
    (case z5 => k_is)
    (case z6 => k_is)
    (case z7 => k_is)
    (case z8 => k_is)
    (case z9 => k_is)

