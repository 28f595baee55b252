import PyProof.Rows.All
import Wide.All
import OpenK.AllK
import Wide.FinOn
import Lean
import PyProof.EqAt
import PyProof.EqKinds
import PyProof.TupleCall
import PyProof.NeKinds
import PyProof.ConsumeWalk
import PyProof.FitsBits
import PyProof.Rows.Range3
import PyProof.Rows.TupAdd
import PyProof.ListRange
import PyProof.Rows.CallKwBuiltin
import KE.KSortAsk
import PyProof.DictWalks
import KE.KDictList
import KE.KRevIter
import PySem.Challenge.RW_waithouse_k30_chain_of_names
set_option Elab.async false
set_option linter.all false
set_option maxRecDepth 100000
/-! THE HAND LAYER, for ints, bools, texts, own classes, LISTS and tuples (index, slices, in, append, pop ..), calls, loops. Paste it whole ahead of your own text; what your proof does not reach may be deleted. -/
namespace L2
open PySem PySem.Spec PyProof.Rows

/-- a key: an int or a str -/
abbrev Key := Sum Int Str
def keyIs : Key → Value → Bool
  | .inl k, v => Value.isInt k v
  | .inr x, v => Value.isStrOf x v
def keyH (w : World) : Key → Int
  | .inl k => hashInt k
  | .inr x => hashStr w x
theorem keyIs_shape : ∀ {k : Key} {v : Value}, keyIs k v = true → (∃ i t, k = Sum.inl i ∧ v = Value.int i t) ∨ (∃ x t, k = Sum.inr x ∧ v = Value.str x t)
  | .inl i, v, h => by
    obtain ⟨t, e⟩ := Value.isInt_shape (k := i) (v := v) h
    exact .inl ⟨i, t, rfl, e⟩
  | .inr x, v, h => by
    obtain ⟨t, e⟩ := Value.isStrOf_shape (x := x) (v := v) h
    exact .inr ⟨x, t, rfl, e⟩
theorem keyIs_int (i : Int) (t : Tok) : keyIs (.inl i) (.int i t) = true := by simp [keyIs, Value.isInt]
theorem keyIs_str (x : Str) (t : Tok) : keyIs (.inr x) (.str x t) = true := by simp [keyIs, Value.isStrOf]
theorem key_ll (a b : Int) : decide ((Sum.inl a : Key) = Sum.inl b) = (a == b) := by
  by_cases e : a = b
  · subst e; simp
  · have h : ¬ (Sum.inl a : Key) = Sum.inl b := fun q => e (Sum.inl.inj q)
    rw [decide_eq_false h]
    exact (beq_eq_false_iff_ne.mpr e).symm
theorem key_rr (a b : Str) : decide ((Sum.inr a : Key) = Sum.inr b) = decide (a = b) := by
  by_cases e : a = b
  · subst e; simp
  · have h : ¬ (Sum.inr a : Key) = Sum.inr b := fun q => e (Sum.inr.inj q)
    rw [decide_eq_false h, decide_eq_false e]
theorem key_lr (a : Int) (b : Str) : decide ((Sum.inl a : Key) = Sum.inr b) = false := decide_eq_false (fun q => nomatch q)
theorem key_rl (a : Str) (b : Int) : decide ((Sum.inr a : Key) = Sum.inl b) = false := decide_eq_false (fun q => nomatch q)

def mixKind (prog : Program) (w : World) : PySem.KeyKind prog w Key where
  is := keyIs
  hash := keyH w
  inj := fun v a b ha hb => by
    rcases keyIs_shape ha with ⟨i, t, rfl, rfl⟩ | ⟨x, t, rfl, rfl⟩
    · rcases keyIs_shape hb with ⟨j, u, rfl, e⟩ | ⟨y, u, rfl, e⟩
      · injection e with e1 _; rw [e1]
      · exact nomatch e
    · rcases keyIs_shape hb with ⟨j, u, rfl, e⟩ | ⟨y, u, rfl, e⟩
      · exact nomatch e
      · injection e with e1 _; rw [e1]
  byValue := fun k v h => by
    rcases keyIs_shape h with ⟨i, t, rfl, rfl⟩ | ⟨x, t, rfl, rfl⟩ <;> rfl
  pyHash := fun hv h => by
    rcases keyIs_shape hv with ⟨i, t, rfl, rfl⟩ | ⟨x, t, rfl, rfl⟩
    · exact wpAny_pyHash_int h
    · exact wpAny_pyHash_str h
  eqBool := fun hu hv h => by
    rcases keyIs_shape hu with ⟨i, t, rfl, rfl⟩ | ⟨x, t, rfl, rfl⟩
    · rcases keyIs_shape hv with ⟨j, u, rfl, rfl⟩ | ⟨y, u, rfl, rfl⟩
      · rw [key_ll] at h; exact wpAny_eqBool_int h
      · rw [key_lr] at h; exact SeqAt.EqAt.int_str i t y u _ _ _ _ h
    · rcases keyIs_shape hv with ⟨j, u, rfl, rfl⟩ | ⟨y, u, rfl, rfl⟩
      · rw [key_rl] at h; exact SeqAt.EqAt.str_int x t j u _ _ _ _ h
      · rw [key_rr] at h; exact wpAny_eqBool_str h
  «strs» := fun k x t v h => by
    rcases keyIs_shape h with ⟨i, u, rfl, e⟩ | ⟨y, u, rfl, e⟩
    · exact nomatch e
    · injection e with e1 _
      subst e1
      cases v <;> rfl

theorem mixKind_is (prog : Program) (w : World) (k : Key) (v : Value) : (mixKind prog w).is k v = keyIs k v := rfl
theorem mixKind_int (prog : Program) (w : World) (i : Int) (t : Tok) : (mixKind prog w).is (.inl i) (.int i t) = true := keyIs_int i t
theorem mixKind_str (prog : Program) (w : World) (x : Str) (t : Tok) : (mixKind prog w).is (.inr x) (.str x t) = true := keyIs_str x t
end L2

namespace L2
open PySem PySem.Spec PyProof.Rows

/-- a value, without the heap -/
inductive V where
  | non | bl (b : Bool) | int (i : Int) | str (x : Str) | byt (b : Array UInt8) | flt (b : UInt64) | ref (a : Addr) | ty (n : String)
  deriving DecidableEq

def RelV : V → Value → Prop
  | .non, u => u = Value.none
  | .bl b, u => u = Value.bool b
  | .int i, u => ∃ t, u = Value.int i t
  | .str x, u => ∃ t, u = Value.str x t
  | .byt b, u => ∃ t, u = Value.bytes b t
  | .flt b, u => ∃ t, u = Value.float b t
  | .ref a, u => u = Value.ref a
  | .ty n, u => u = Value.type n

abbrev Vals : List V → List Value → Prop := Paired RelV
theorem Vals.length {xs : List V} {us : List Value} (r : Vals xs us) : xs.length = us.length := Paired.length r
theorem Vals.get : ∀ {xs : List V} {us : List Value} {i : Nat} {x : V}, Vals xs us → xs[i]? = some x → ∃ u, us[i]? = some u ∧ RelV x u
  | _, _, _, _, .nil, e => by simp at e
  | _, _, 0, _, .cons r _, e => by simp at e; subst e; exact ⟨_, rfl, r⟩
  | _, _, i + 1, x, .cons _ t, e => by
    obtain ⟨u, h1, h2⟩ := Vals.get (i := i) (x := x) t (by simpa using e)
    exact ⟨u, by simpa using h1, h2⟩
theorem Vals.append : ∀ {xs ys : List V} {us ws : List Value}, Vals xs us → Vals ys ws → Vals (xs ++ ys) (us ++ ws)
  | _, _, _, _, .nil, s => s
  | _, _, _, _, .cons r t, s => .cons r (Vals.append t s)
theorem Vals.take : ∀ {xs : List V} {us : List Value} (n : Nat), Vals xs us → Vals (xs.take n) (us.take n)
  | _, _, 0, _ => .nil
  | _, _, _ + 1, .nil => .nil
  | _, _, n + 1, .cons r t => .cons r (Vals.take n t)
theorem Vals.drop : ∀ {xs : List V} {us : List Value} (n : Nat), Vals xs us → Vals (xs.drop n) (us.drop n)
  | _, _, 0, r => r
  | _, _, _ + 1, .nil => .nil
  | _, _, n + 1, .cons _ t => Vals.drop n t
def RelO : Option V → Option Value → Prop
  | some v, some u => RelV v u
  | none, none => True
  | _, _ => False
def KV {κ : Type} : List (κ × V) → List (κ × Value) → Prop := Paired fun (p : κ × V) (q : κ × Value) => p.1 = q.1 ∧ RelV p.2 q.2

/-- a key of a dict (00_mix): an int or a text -/
def kV : Key → V
  | .inl i => .int i
  | .inr x => .str x

/-- what stands at a tracked address -/
inductive HO where
  /-- a list -/
  | lst (xs : List V)
  /-- a tuple (never changes) -/
  | tup (xs : List V)
  /-- a dict whose keys are ints and texts; one whose keys are tuples of ints and texts (the empty one is both) -/
  | dK (kvs : List (Key × V)) | dT (kvs : List (List Key × V))
  /-- a set of ints: its members, its size -/
  | set (S : Int → Bool) (n : Nat)
  /-- an instance of the class at C, its dict at dx, its attributes -/
  | ins (C dx : Addr) (fs : List (Str × V))
  /-- the dict of the instance at x -/
  | own (x : Addr)
  /-- the dict of an exception -/
  | xd (fs : List (Str × V))
  /-- a bound method, f of x -/
  | met (f x : Addr)
  /-- a range object lo, lo + 1, .. below hi -/
  | rng (lo hi : Int)
  /-- a thing that is known to the object (the script; a dict while a loop walks it): read, never written while it is so -/
  | frz (o : Obj) (u : HO)
  /-- a code object's table -/
  | tbl (ps : Array Value)
  /-- any other thing, by what is true of its one object (a def of one's own: SetO a S n := HO.ext fun h => ..) -/
  | ext (φ : Heap → Prop)

abbrev Hp := Addr → Option HO
def upd (H : Hp) (a : Addr) (o : HO) : Hp := fun b => if b = a then some o else H b
theorem upd_same {H : Hp} {a : Addr} {o : HO} : upd H a o a = some o := by unfold upd; rw [if_pos rfl]
theorem upd_ne {H : Hp} {a b : Addr} {o : HO} (h : b ≠ a) : upd H a o b = H b := by unfold upd; rw [if_neg h]
/-- two objects of different content stand apart -/
theorem ne_of {H : Hp} {a b : Addr} {o u : HO} (h : H a = some o) (h' : H b = some u) (d : o ≠ u) : a ≠ b := by
  intro e; subst e; rw [h] at h'; exact d (Option.some.inj h')
theorem ne_of_none {H : Hp} {a b : Addr} {o : HO} (h : H a = some o) (h' : H b = none) : a ≠ b := by
  intro e; subst e; rw [h] at h'; cases h'

section
variable (P : Program) (w : World)
def ObjOk (H : Hp) (h : Heap) (a : Addr) : HO → Prop
  | .lst xs => xs.length ≤ sizeLine ∧ ∃ (its : List Value) (n : Nat), Vals xs its ∧ h.get? a = some { cls := .type "list", data := .seq its.toArray n }
  | .tup xs => xs.length ≤ sizeLine ∧ ∃ its : List Value, Vals xs its ∧ IsTup h a its.toArray
  | .dK kvs => kvs.length ≤ sizeLine ∧ (a == sysModules) = false ∧ ∃ vs, KV kvs vs ∧ h.DictOf (mixKind P w) a vs
  | .dT kvs => kvs.length ≤ sizeLine ∧ (a == sysModules) = false ∧ ∃ xs : List (List Key × Addr × Value),
      Paired (fun (p : List Key × V) (q : List Key × Addr × Value) => p.1 = q.1 ∧ H q.2.1 = some (.tup (p.1.map kV)) ∧ RelV p.2 q.2.2) kvs xs ∧
      ∃ o es ep, h.get? a = some o ∧ o.ExactDict ∧ o.data = .dict es ep ∧ es.toList = xs.map (entryOfKey (tupleKind (mixKind P w))) ∧ (xs.map (·.1)).Nodup
  | .set S n => h.SetOf (intKind P w) a S n
  | .ins C dx fs => H dx = some (.own a) ∧ fs.length ≤ 1000 ∧ dx ≠ a ∧ h.get? a = some (PySem.W.instObj C dx) ∧
      ∃ mA, h.Ns1 dx mA ∧ (∀ f, RelO (fs.lookup f) (mA f)) ∧ PySem.Within mA (fs.map (·.1))
  | .own _ => ∃ o, h.get? a = some o
  | .xd fs => ∃ mA, h.Ns1 a mA ∧ ∀ f, RelO (fs.lookup f) (mA f)
  | .rng lo hi => ∃ t u v, h.get? a = some { cls := .type "range", data := .fields #[.int lo t, .int hi u, .int 1 v] }
  | .frz o u => h.get? a = some o ∧ ObjOk H h a u
  | .tbl ps => h.get? a = some { cls := .none, data := .fields ps }
  | .met f x => h.get? a = some (PySem.W.methodObj (.ref f) (.ref x))
  | .ext φ => φ h ∧ (∃ o, h.get? a = some o) ∧ ∀ h1 h2 : Heap, φ h1 → (∀ o, h1.get? a = some o → h2.get? a = some o) → φ h2
/-- the abstract heap is held -/
def HOk (H : Hp) (h : Heap) : Prop := ∀ a o, H a = some o → ObjOk P w H h a o
end

section
variable {P : Program} {w : World} {H H' : Hp} {h h' : Heap} {a : Addr} {o : HO}
theorem ObjOk.lt (x : ObjOk P w H h a o) : a < h.objs.size := by
  cases o with
  | lst xs => obtain ⟨_, _, _, _, e⟩ := x; exact Heap.lt_size e
  | tup xs => obtain ⟨_, _, _, p⟩ := x; exact p.lt
  | dK kvs => obtain ⟨_, _, _, _, o, _, _, e, _⟩ := x; exact Heap.lt_size e
  | dT kvs => obtain ⟨_, _, _, _, o, _, _, e, _⟩ := x; exact Heap.lt_size e
  | set S n => obtain ⟨o, _, _, _, e, _⟩ := x; exact Heap.lt_size e
  | ins C dx fs => obtain ⟨_, _, _, e, _⟩ := x; exact Heap.lt_size e
  | own y => obtain ⟨_, e⟩ := x; exact Heap.lt_size e
  | xd fs => obtain ⟨_, ⟨_, _, _, e, _⟩, _⟩ := x; exact Heap.lt_size e
  | rng lo hi => obtain ⟨_, _, _, e⟩ := x; exact Heap.lt_size e
  | frz ob u => obtain ⟨e, _⟩ := x; exact Heap.lt_size e
  | tbl ps => exact Heap.lt_size (show h.get? a = some _ from x)
  | met f y => exact Heap.lt_size (show h.get? a = some _ from x)
  | ext φ => obtain ⟨_, ⟨_, e⟩, _⟩ := x; exact Heap.lt_size e
theorem Paired.mapP {α β : Type} {F G : α → β → Prop} : ∀ {l₁ : List α} {l₂ : List β}, Paired F l₁ l₂ → (∀ a b, F a b → G a b) → Paired G l₁ l₂
  | _, _, .nil, _ => .nil
  | _, _, .cons r t, f => .cons (f _ _ r) (Paired.mapP t f)
/-- what an object's description leans on: its own object, its own dict, the tuples -/
theorem ObjOk.stay (x : ObjOk P w H h a o) (k : ∀ b u, (b = a ∨ H b = some (.own a)) → h.get? b = some u → h'.get? b = some u)
    (ho : ∀ b, H b = some (.own a) → H' b = some (.own a)) (ht : ∀ b xs, H b = some (.tup xs) → H' b = some (.tup xs)) : ObjOk P w H' h' a o := by
  induction o with
  | lst xs => obtain ⟨z, its, n, r, e⟩ := x; exact ⟨z, its, n, r, k _ _ (.inl rfl) e⟩
  | tup xs => obtain ⟨z, its, r, ob, e, c⟩ := x; exact ⟨z, its, r, ob, k _ _ (.inl rfl) e, c⟩
  | dK kvs => obtain ⟨z, y, vs, r, ob, es, ep, e, c⟩ := x; exact ⟨z, y, vs, r, ob, es, ep, k _ _ (.inl rfl) e, c⟩
  | dT kvs =>
    obtain ⟨z, y, xs, r, ob, es, ep, e, c⟩ := x
    exact ⟨z, y, xs, Paired.mapP r fun p q z => ⟨z.1, ht _ _ z.2.1, z.2.2⟩, ob, es, ep, k _ _ (.inl rfl) e, c⟩
  | set S n => obtain ⟨ob, es, ep, t, e, c⟩ := x; exact ⟨ob, es, ep, t, k _ _ (.inl rfl) e, c⟩
  | ins C dx fs =>
    obtain ⟨d, z, ne, e, mA, ⟨od, es, ep, e2, c⟩, r⟩ := x
    exact ⟨ho _ d, z, ne, k _ _ (.inl rfl) e, mA, ⟨od, es, ep, k _ _ (.inr d) e2, c⟩, r⟩
  | own y => obtain ⟨ob, e⟩ := x; exact ⟨ob, k _ _ (.inl rfl) e⟩
  | xd fs => obtain ⟨mA, ⟨od, es, ep, e, c⟩, r⟩ := x; exact ⟨mA, ⟨od, es, ep, k _ _ (.inl rfl) e, c⟩, r⟩
  | rng lo hi => obtain ⟨t, u, v, e⟩ := x; exact ⟨t, u, v, k _ _ (.inl rfl) e⟩
  | frz ob u ih => obtain ⟨e, q⟩ := x; exact ⟨k _ _ (.inl rfl) e, ih q⟩
  | tbl ps =>
    have e : h.get? a = some { cls := .none, data := .fields ps } := x
    show h'.get? a = some { cls := .none, data := .fields ps }
    exact k a _ (.inl rfl) e
  | met f y =>
    have e : h.get? a = some (PySem.W.methodObj (.ref f) (.ref y)) := x
    show h'.get? a = some (PySem.W.methodObj (.ref f) (.ref y))
    exact k a _ (.inl rfl) e
  | ext φ => obtain ⟨p, ⟨o, e⟩, st⟩ := x; exact ⟨st _ _ p fun o q => k _ _ (.inl rfl) q, ⟨o, k _ _ (.inl rfl) e⟩, st⟩
theorem HOk.lt (x : HOk P w H h) (e : H a = some o) : a < h.objs.size := (x a o e).lt
theorem HOk.fresh (x : HOk P w H h) (e : h.objs.size ≤ a) : H a = none := by
  cases q : H a with
  | none => rfl
  | some u => exact absurd (Nat.lt_of_lt_of_le (x.lt q) e) (Nat.lt_irrefl _)
/-- every object of the heap is kept -/
theorem HOk.kept (x : HOk P w H h) (k : ∀ b u, h.get? b = some u → h'.get? b = some u) : HOk P w H h' := fun a o e =>
  (x a o e).stay (fun b u _ q => k b u q) (fun _ q => q) fun _ _ q => q
/-- a new object is laid and tracked -/
theorem HOk.laid (x : HOk P w H h) (k : ∀ b u, h.get? b = some u → h'.get? b = some u) (hp : h.objs.size ≤ a) (new : ObjOk P w (upd H a o) h' a o) : HOk P w (upd H a o) h' := fun b u e => by
  have hn := x.fresh hp
  by_cases hb : b = a
  · subst hb; rw [upd_same] at e; cases e; exact new
  · rw [upd_ne hb] at e
    exact (x b u e).stay (fun c v _ q => k c v q) (fun c q => by rw [upd_ne (ne_of_none q hn)]; exact q) fun c xs q => by rw [upd_ne (ne_of_none q hn)]; exact q
end

/-- what may be read as u: it is u, or a known u -/
def Rd (H : Hp) (a : Addr) (u : HO) : Prop := H a = some u ∨ ∃ o, H a = some (.frz o u)
theorem Rd.ok {P : Program} {w : World} {H : Hp} {h : Heap} {a : Addr} {u : HO} (r : Rd H a u) (x : HOk P w H h) : ObjOk P w H h a u := by
  rcases r with r | ⟨o, r⟩
  · exact x a u r
  · obtain ⟨_, q⟩ := x a _ r
    exact q
/-- what may be written -/
def Mut : Option HO → Prop
  | some (.lst _) => True
  | some (.dK _) => True
  | some (.dT _) => True
  | some (.set _ _) => True
  | some (.ins _ _ _) => True
  | some (.ext _) => True
  | _ => False
section
variable {P : Program} {w : World} {H : Hp} {h h' : Heap} {x e : Addr} {o' : HO}
/-- the object at e is changed: x itself, or the dict of the instance x -/
theorem HOk.write (ok : HOk P w H h) (mu : Mut (H x)) (he : e = x ∨ H e = some (.own x)) (k : ∀ b u, b ≠ e → h.get? b = some u → h'.get? b = some u) (heo : ∃ u, h'.get? e = some u)
    (new : ObjOk P w (upd H x o') h' x o') : HOk P w (upd H x o') h' := fun b u q => by
  have nown : ∀ c y, H c = some (.own y) → c ≠ x := fun c y r z => by subst z; rw [r] at mu; exact mu
  have ntup : ∀ c xs, H c = some (.tup xs) → c ≠ x := fun c xs r z => by subst z; rw [r] at mu; exact mu
  by_cases hb : b = x
  · subst hb; rw [upd_same] at q; cases q; exact new
  · rw [upd_ne hb] at q
    by_cases hbe : b = e
    · have q' : H b = some (.own x) := by
        rcases he with z | z
        · exact absurd (hbe.trans z) hb
        · rw [hbe]; exact z
      rw [q] at q'; cases q'
      obtain ⟨v, hv⟩ := heo
      exact ⟨v, by rw [hbe]; exact hv⟩
    · refine (ok b u q).stay (fun c v hc r => k c v ?_ r) (fun c r => by rw [upd_ne (nown c b r)]; exact r) fun c xs r => by rw [upd_ne (ntup c xs r)]; exact r
      rcases hc with rfl | hc
      · exact hbe
      · rintro rfl
        rcases he with z | z
        · exact nown c b hc z
        · rw [hc] at z; cases z; exact hb rfl
end

/-! ### kept unless tracked; of the frames at fs (the callers') the slots may change (an exception that passes writes there); of the records at ex (iterators) nothing is said -/
structure Un (fs ex : List Addr) (H H' : Hp) (h h' : Heap) : Prop where
  keep : ∀ b o, h.get? b = some o → H b = none → b ∉ fs → b ∉ ex → h'.get? b = some o
  slot : ∀ b o, h.get? b = some o → H b = none → b ∈ fs → b ∉ ex → ∃ sl, h'.get? b = some { o with slots := sl }
  free : ∀ b o, h.get? b = some o → H b = none → b ∉ ex → H' b = none
  there : ∀ b o, h.get? b = some o → b ∉ ex → ∃ o', h'.get? b = some o'
  tups : ∀ b xs, H b = some (.tup xs) → H' b = some (.tup xs)
  frzs : ∀ b o u, H b = some (.frz o u) → H' b = some (.frz o u)
  tbls : ∀ b ps, H b = some (.tbl ps) → ∃ more, H' b = some (.tbl (ps ++ more))
section
variable {fs fs' ex ex' : List Addr} {H H1 H2 : Hp} {h h1 h2 h' : Heap} {a x e : Addr} {o : HO}
theorem Un.any (u : Un fs ex H H1 h h1) {b : Addr} {ob : Obj} (q : h.get? b = some ob) (n : H b = none) (hx : b ∉ ex) : ∃ sl, h1.get? b = some { ob with slots := sl } := by
  by_cases hb : b ∈ fs
  · exact u.slot b ob q n hb hx
  · exact ⟨ob.slots, u.keep b ob q n hb hx⟩
theorem Un.kept (k : ∀ b u, h.get? b = some u → h'.get? b = some u) : Un fs ex H H h h' :=
  ⟨fun b ob q _ _ _ => k b ob q, fun b ob q _ _ _ => ⟨ob.slots, k b ob q⟩, fun _ _ _ n _ => n, fun b ob q _ => ⟨ob, k b ob q⟩, fun _ _ q => q, fun _ _ _ q => q, fun _ ps q => ⟨#[], by rw [q]; simp⟩⟩
theorem Un.refl : Un fs ex H H h h := Un.kept fun _ _ q => q
theorem Un.laid (k : ∀ b u, h.get? b = some u → h'.get? b = some u) (hp : h.objs.size ≤ a) (hn : H a = none) : Un fs ex H (upd H a o) h h' where
  keep := fun b u q _ _ _ => k b u q
  slot := fun b u q _ _ _ => ⟨u.slots, k b u q⟩
  free := fun b u q n _ => by rw [upd_ne (Nat.ne_of_lt (Nat.lt_of_lt_of_le (Heap.lt_size q) hp))]; exact n
  there := fun b u q _ => ⟨u, k b u q⟩
  tups := fun b xs q => by rw [upd_ne (ne_of_none q hn)]; exact q
  frzs := fun b u xs q => by rw [upd_ne (ne_of_none q hn)]; exact q
  tbls := fun b ps q => ⟨#[], by rw [upd_ne (ne_of_none q hn), q]; simp⟩
theorem Un.write (mu : Mut (H x)) (he : e = x ∨ H e = some (.own x)) (k : ∀ b u, b ≠ e → h.get? b = some u → h'.get? b = some u) (heo : ∃ u, h'.get? e = some u) : Un fs ex H (upd H x o) h h' := by
  have hx : ∀ b, H b = none → b ≠ x := fun b n z => by subst z; rw [n] at mu; exact mu
  have hb : ∀ b, H b = none → b ≠ e := fun b n z => by
    subst z
    rcases he with r | r
    · exact hx b n r
    · rw [n] at r; cases r
  have hm : ∀ b u, H b = some u → ¬ Mut (some u) → b ≠ x := fun b u q nm z => by subst z; rw [q] at mu; exact nm mu
  refine ⟨fun b u q n _ _ => k b u (hb b n) q, fun b u q n _ _ => ⟨u.slots, k b u (hb b n) q⟩, fun b u q n _ => by rw [upd_ne (hx b n)]; exact n, fun b u q _ => ?_,
    fun b xs q => by rw [upd_ne (hm b _ q fun z => z)]; exact q, fun b u xs q => by rw [upd_ne (hm b _ q fun z => z)]; exact q, fun b ps q => ⟨#[], by rw [upd_ne (hm b _ q fun z => z), q]; simp⟩⟩
  by_cases hbe : b = e
  · subst hbe; exact heo
  · exact ⟨u, k b u hbe q⟩
end

/-! ### the heap without what is tracked -/
def trk (h : Heap) (H : Hp) : List Addr := (List.range h.objs.size).filter fun a => (H a).isSome
def hidT (h : Heap) (H : Hp) : Heap := PySem.W.hideAll h (trk h H)
theorem hidT_size (h : Heap) (H : Hp) : (hidT h H).objs.size = h.objs.size := PySem.W.hideAll_size _ _
theorem hidT_get {h : Heap} {H : Hp} {b : Addr} {o : Obj} (e : h.get? b = some o) (n : H b = none) : (hidT h H).get? b = some o :=
  PySem.W.hideAll_get _ e fun hm => by
    have q : (H b).isSome = true := (List.mem_filter.mp hm).2
    rw [n] at q; simp at q
theorem of_hidT {h : Heap} {H : Hp} {b : Addr} {o : Obj} (e : (hidT h H).get? b = some o) : h.get? b = some o ∧ H b = none := by
  have e' : h.get? b = some o := PySem.W.of_hideAll (trk h H) e
  refine ⟨e', ?_⟩
  cases q : H b with
  | none => rfl
  | some x =>
    have hm : b ∈ trk h H := List.mem_filter.mpr ⟨List.mem_range.mpr (Heap.lt_size e'), by simp [q]⟩
    have z : (hidT h H).get? b = none := PySem.W.hideAll_none (trk h H) hm
    rw [z] at e; cases e

/-! ### OpenK's ledger, filled with every new object but one -/
end L2

namespace L2
open PySem PySem.Spec PyProof.Rows

/-- the module's facts, over the base: the heap at the law's entry without what is tracked there -/
structure Mod (K : PySem.W.Frag) (mg : Str → Option Value) (base : Heap) : Prop where
  kin : K.In base
  glob : base.Ns mainGlobals mg
  blt : ∃ mb, base.Ns builtinsNs mb ∧ ∀ x : Str, x ≠ "__name__" → mb x = bootBuiltins x
  nolimit : base.NoLimit

/-- the context: a def's body (or a comprehension's block) running. base: fixed through the whole law; s₀, H₀: the entry; outer: the frames whose slots others may change (a def's callers); stack: all frames that run;
   ex: iterators that were made ahead of the entry and are walked here (a comprehension's); fn: the names whose cells were made at the entry (a def: all; a comprehension's block: its own); calm: not within an except suite; pn: pins that every state bears; xe: what is wanted of an exception that leaves the code -/
structure Cx where
  prog : Program
  w : World
  K : PySem.W.Frag
  mg : Str → Option Value
  base : Heap
  A : Around
  N : List Str
  s₀ : Shared
  H₀ : Hp
  env : Env
  outer : List Env
  stack : List Env
  ex : List Addr
  fn : Str → Bool
  calm : Bool
  pn : List (Addr × Obj)
  xe : Value → Shared → Prop
/-- the callers' frames -/
def frs (l : List Env) : List Addr := l.filterMap (·.frame)
abbrev Cx.fs (X : Cx) : List Addr := frs X.outer

def Vis (sc : Scope) (x : Str) : Prop := sc.names.lookup x = some .local ∨ sc.names.lookup x = some .cell ∨ sc.names.lookup x = some .free
def Loc (sc : Scope) (x : Str) : Prop := sc.names.lookup x = some .local ∨ sc.names.lookup x = some .cell
def Look (env : Env) (h : Heap) (m : Str → Option Value) (x : Str) (u : Value) : Prop :=
  (env.kindOf x = some .local ∧ m x = some u) ∨ ((env.kindOf x = some .cell ∨ env.kindOf x = some .free) ∧ ∃ c, env.cells.lookup x = some c ∧ h.IsCell c (some u))

structure Cx.Ok (X : Cx) : Prop where
  mod : Mod X.K X.mg X.base
  kind : X.env.scope.kind = .function
  glob : X.env.globals = mainGlobals
  blt : X.env.builtins = builtinsNs
  above : X.s₀.heap.objs.size ≤ X.env.locals
  inj : ∀ x y c, X.env.cells.lookup x = some c → X.env.cells.lookup y = some c → x = y
  has : ∀ x, (X.env.kindOf x = some .cell ∨ X.env.kindOf x = some .free) → ∃ c, X.env.cells.lookup x = some c
  cab : ∀ x c, X.fn x = true → X.env.cells.lookup x = some c → X.s₀.heap.objs.size ≤ c
  hd : X.calm = true → X.A.handled = none
  frames : X.A.frames = some X.stack
  stk : X.stack = X.outer ∨ (X.stack = X.env :: X.outer ∧ X.env.frame = some X.env.locals)
  exf : ∀ b ∈ X.ex, b ≠ X.env.locals ∧ ∀ x c, X.env.cells.lookup x = some c → c ≠ b
  bs : ∀ b o, X.base.get? b = some o → X.s₀.heap.get? b = some o ∧ X.H₀ b = none
  bsz : X.base.objs.size ≤ X.s₀.heap.objs.size
  noex : ∀ b o, X.base.get? b = some o → b ∉ X.ex
  exfs : ∀ b ∈ X.ex, b ∉ X.fs
  funs : X.s₀.heap.FunFrames X.base X.outer
  frf : ∀ b ∈ X.fs, X.H₀ b = none

structure Inv (X : Cx) (pins : List (Addr × Obj)) (σ : List (Option V)) (H : Hp) (s : Shared) : Prop where
  ok : X.Ok
  os : s.os = X.s₀.os
  bare : AllBare s.gens
  base : Un X.fs X.ex X.H₀ H X.s₀.heap s.heap
  loc : ∃ m, s.heap.Ns X.env.locals m ∧ ∀ (i : Nat) (x : Str) (v : V), X.N[i]? = some x → σ[i]? = some (some v) → Vis X.env.scope x → ∃ u, RelV v u ∧ Look X.env s.heap m x u
  cell : ∀ x c, X.env.cells.lookup x = some c → ∃ v, s.heap.IsCell c v
  free : H X.env.locals = none
  freeC : ∀ x c, X.env.cells.lookup x = some c → H c = none
  pin : ∀ p ∈ X.pn ++ pins, s.heap.get? p.1 = some p.2 ∧ H p.1 = none ∧ p.1 ≠ X.env.locals ∧ p.1 ∉ X.fs ∧ ∀ v, p.2.data ≠ .cell v
  hok : HOk X.prog X.w H s.heap
  len : σ.length = X.N.length

section
variable {X : Cx} {pins : List (Addr × Obj)} {σ : List (Option V)} {H H' : Hp} {s : Shared} {h' : Heap}

theorem Cx.Ok.nofr (ok : X.Ok) {b : Addr} {o : Obj} (e : X.base.get? b = some o) : b ∉ X.fs := fun hb => by
  have := (ok.funs.mem hb).1
  rw [e] at this; cases this
theorem Inv.bs (I : Inv X pins σ H s) : ∀ b o, X.base.get? b = some o → s.heap.get? b = some o ∧ H b = none := fun b o e =>
  ⟨I.base.keep b o (I.ok.bs b o e).1 (I.ok.bs b o e).2 (I.ok.nofr e) (I.ok.noex b o e), I.base.free b o (I.ok.bs b o e).1 (I.ok.bs b o e).2 (I.ok.noex b o e)⟩
theorem Inv.bk (I : Inv X pins σ H s) : ∀ b o, X.base.get? b = some o → s.heap.get? b = some o := fun b o e => (I.bs b o e).1
theorem Inv.mod (I : Inv X pins σ H s) : Mod X.K X.mg X.base := I.ok.mod
theorem Inv.kIn (I : Inv X pins σ H s) : X.K.In s.heap := I.ok.mod.kin.keeps I.bk
theorem Inv.lt (I : Inv X pins σ H s) : X.env.locals < s.heap.objs.size := let ⟨_, hn, _⟩ := I.loc; hn.lt
theorem Inv.sz (I : Inv X pins σ H s) : X.s₀.heap.objs.size ≤ s.heap.objs.size := Nat.le_trans I.ok.above (Nat.le_of_lt I.lt)
theorem Inv.nofs (I : Inv X pins σ H s) {a : Addr} (h : s.heap.objs.size ≤ a) : a ∉ X.fs := fun hb => by
  obtain ⟨_, o, ho, _⟩ := I.ok.funs.mem hb
  exact absurd (Nat.lt_of_lt_of_le (Heap.lt_size ho) (Nat.le_trans I.sz h)) (Nat.lt_irrefl _)
theorem Inv.cne (I : Inv X pins σ H s) : ∀ x c, X.env.cells.lookup x = some c → c ≠ X.env.locals := fun x c e z => by
  obtain ⟨v, o, ho, hd⟩ := I.cell x c e
  obtain ⟨m, ⟨o', es, ep, ho', hd', _⟩, _⟩ := I.loc
  rw [z, ho'] at ho; cases ho; rw [hd'] at hd; cases hd
theorem Inv.funs (I : Inv X pins σ H s) : s.heap.FunFrames X.base X.outer := by
  have all : ∀ (l : List Env), (∀ b ∈ frs l, b ∈ X.fs) → X.s₀.heap.FunFrames X.base l → s.heap.FunFrames X.base l := by
    intro l
    induction l with
    | nil => intro _ _; trivial
    | cons env r ih =>
      intro hs hl
      obtain ⟨hk, ⟨L, o, hf, hn, ho, hd⟩, hr⟩ := hl
      have hL : L ∈ X.fs := hs L (by unfold frs; rw [List.filterMap_cons, hf]; exact List.mem_cons_self)
      obtain ⟨sl, e⟩ := I.base.slot L o ho (I.ok.frf L hL) hL fun z => I.ok.exfs L z hL
      exact ⟨hk, ⟨L, _, hf, hn, e, hd⟩, ih (fun b hb => hs b (by unfold frs; rw [List.filterMap_cons, hf]; exact List.mem_cons_of_mem _ hb)) hr⟩
  exact all X.outer (fun _ hb => hb) I.ok.funs

/-- the frames that run, for a call -/
theorem Inv.stack (I : Inv X pins σ H s) : s.heap.FunFrames X.base X.stack := by
  rcases I.ok.stk with e | ⟨e, hf⟩
  · rw [e]; exact I.funs
  · rw [e]
    obtain ⟨m, hn, _⟩ := I.loc
    refine .cons (by rw [I.ok.kind]; decide) hf hn ?_ I.funs
    exact Heap.get?_none_of_le (Nat.le_trans I.ok.bsz I.ok.above)
theorem Inv.stkSub (I : Inv X pins σ H s) : ∀ b ∈ frs X.stack, b ∈ X.env.locals :: X.fs := fun b hb => by
  rcases I.ok.stk with e | ⟨e, hf⟩
  · rw [e] at hb; exact List.mem_cons_of_mem _ hb
  · rw [e] at hb
    unfold frs at hb
    rw [List.filterMap_cons, hf] at hb
    exact hb
theorem Inv.stkFree (I : Inv X pins σ H s) : ∀ b ∈ frs X.stack, H b = none := fun b hb => by
  rcases List.mem_cons.mp (I.stkSub b hb) with e | hb
  · rw [e]; exact I.free
  · obtain ⟨_, o, ho, _⟩ := I.ok.funs.mem hb
    exact I.base.free b o ho (I.ok.frf b hb) fun z => I.ok.exfs b z hb

/-- THE STEP: the untracked objects but the frame and the records at ch are kept (the callers' frames up to slots), the frame's map is kept, the new abstract heap is held -/
theorem Inv.step {g' : Array GenState} {t' : Nat} {d' : Drawn} {ch : List Addr} (I : Inv X pins σ H s)
    (hch : ∀ b ∈ ch, (b ∈ X.ex ∨ X.s₀.heap.objs.size ≤ b) ∧ b ≠ X.env.locals ∧ (∀ x c, X.env.cells.lookup x = some c → c ≠ b) ∧ ∀ p ∈ X.pn ++ pins, p.1 ≠ b)
    (keep : ∀ b o, b ≠ X.env.locals → b ∉ X.fs → b ∉ ch → s.heap.get? b = some o → H b = none → h'.get? b = some o)
    (slot : ∀ b o, b ≠ X.env.locals → b ∈ X.fs → b ∉ ch → s.heap.get? b = some o → H b = none → ∃ sl, h'.get? b = some { o with slots := sl }) (free : ∀ b o, b ∉ ch → s.heap.get? b = some o → H b = none → H' b = none)
    (there : ∀ b o, b ∉ ch → s.heap.get? b = some o → ∃ o', h'.get? b = some o')
    (tups : ∀ b xs, H b = some (.tup xs) → H' b = some (.tup xs)) (frzs : ∀ b o u, H b = some (.frz o u) → H' b = some (.frz o u)) (tbls : ∀ b ps, H b = some (.tbl ps) → ∃ more, H' b = some (.tbl (ps ++ more)))
    (ns : ∀ m, s.heap.Ns X.env.locals m → h'.Ns X.env.locals m) (hok : HOk X.prog X.w H' h') (hg : AllBare g') :
    Inv X pins σ H' { s with heap := h', gens := g', drawn := d', toks := t' } := by
  have neL : ∀ b o, X.s₀.heap.get? b = some o → b ≠ X.env.locals := fun b o e => Nat.ne_of_lt (Nat.lt_of_lt_of_le (Heap.lt_size e) I.ok.above)
  have neC : ∀ b o, X.s₀.heap.get? b = some o → b ∉ X.ex → b ∉ ch := fun b o e hx hb => by
    rcases (hch b hb).1 with z | z
    · exact hx z
    · exact absurd (Nat.lt_of_lt_of_le (Heap.lt_size e) z) (Nat.lt_irrefl _)
  have cellK : ∀ x c, X.env.cells.lookup x = some c → ∀ v, s.heap.IsCell c v → h'.IsCell c v := fun x c e v ⟨o, ho, hd⟩ => by
    have nch : c ∉ ch := fun z => (hch c z).2.2.1 x c e rfl
    by_cases hc : c ∈ X.fs
    · obtain ⟨sl, q⟩ := slot c o (I.cne x c e) hc nch ho (I.freeC x c e)
      exact ⟨_, q, hd⟩
    · exact ⟨o, keep c o (I.cne x c e) hc nch ho (I.freeC x c e), hd⟩
  refine ⟨I.ok, I.os, hg, ⟨fun b o e n hb hx => ?_, fun b o e n hb hx => ?_, fun b o e n hx => ?_, fun b o e hx => ?_, fun b xs e => tups b xs (I.base.tups b xs e), fun b o xs e => frzs b o xs (I.base.frzs b o xs e), fun b ps e => ?_⟩, ?_, fun x c e => ?_, ?_, fun x c e => ?_, fun p hp => ?_, hok, I.len⟩
  · exact keep b o (neL b o e) hb (neC b o e hx) (I.base.keep b o e n hb hx) (I.base.free b o e n hx)
  · obtain ⟨sl, e1⟩ := I.base.slot b o e n hb hx
    obtain ⟨sl', e2⟩ := slot b _ (neL b o e) hb (neC b o e hx) e1 (I.base.free b o e n hx)
    exact ⟨sl', e2⟩
  · obtain ⟨o', e1⟩ := I.base.there b o e hx
    exact free b o' (neC b o e hx) e1 (I.base.free b o e n hx)
  · obtain ⟨o', e1⟩ := I.base.there b o e hx
    exact there b o' (neC b o e hx) e1
  · obtain ⟨m1, e1⟩ := I.base.tbls b ps e
    obtain ⟨m2, e2⟩ := tbls b _ e1
    exact ⟨m1 ++ m2, by rw [e2, Array.append_assoc]⟩
  · obtain ⟨m, hn, hl⟩ := I.loc
    refine ⟨m, ns m hn, fun i x v e1 e2 e3 => ?_⟩
    obtain ⟨u, r, l⟩ := hl i x v e1 e2 e3
    refine ⟨u, r, ?_⟩
    rcases l with l | ⟨k, c, e, z⟩
    · exact .inl l
    · exact .inr ⟨k, c, e, cellK x c e _ z⟩
  · obtain ⟨v, z⟩ := I.cell x c e
    exact ⟨v, cellK x c e v z⟩
  · obtain ⟨m, ⟨o, _, _, ho, _⟩, _⟩ := I.loc
    exact free _ o (fun z => (hch _ z).2.1 rfl) ho I.free
  · obtain ⟨v, o, ho, hd⟩ := I.cell x c e
    exact free c o (fun z => (hch c z).2.2.1 x c e rfl) ho (I.freeC x c e)
  · obtain ⟨e, n, ne, nf, d⟩ := I.pin p hp
    have nch : p.1 ∉ ch := fun z => (hch p.1 z).2.2.2 p hp rfl
    exact ⟨keep p.1 p.2 ne nf nch e n, free p.1 p.2 nch e n, ne, nf, d⟩
/-- .. where the frame's own object is kept too -/
theorem Inv.un {t' : Nat} (I : Inv X pins σ H s) (u : Un X.fs [] H H' s.heap h') (hok : HOk X.prog X.w H' h') : Inv X pins σ H' { s with heap := h', toks := t' } := by
  obtain ⟨m, ⟨o, es, ep, ho, r⟩, _⟩ := id I.loc
  obtain ⟨sl, hL⟩ := u.any ho I.free (by simp)
  exact I.step (g' := s.gens) (d' := s.drawn) (ch := []) (fun _ z => nomatch z) (fun b o _ hb _ e n => u.keep b o e n hb (by simp)) (fun b o _ hb _ e n => u.slot b o e n hb (by simp)) (fun b o _ e n => u.free b o e n (by simp)) (fun b o _ e => u.there b o e (by simp)) u.tups u.frzs u.tbls (fun m' hm => by
    obtain ⟨o', es', ep', ho', r'⟩ := hm
    rw [ho] at ho'; cases ho'
    exact ⟨_, es', ep', hL, r'⟩) hok I.bare
/-- behind a call (or a comprehension's block): the slots of this frame may have changed too, the records at ch may have turned -/
theorem Inv.call {g' : Array GenState} {t' : Nat} {d' : Drawn} {ch : List Addr} (I : Inv X pins σ H s) (u : Un (frs X.stack) ch H H' s.heap h') (hok : HOk X.prog X.w H' h') (hg : AllBare g')
    (hch : ∀ b ∈ ch, (b ∈ X.ex ∨ X.s₀.heap.objs.size ≤ b) ∧ b ≠ X.env.locals ∧ (∀ x c, X.env.cells.lookup x = some c → c ≠ b) ∧ ∀ p ∈ X.pn ++ pins, p.1 ≠ b) :
    Inv X pins σ H' { s with heap := h', gens := g', drawn := d', toks := t' } := by
  obtain ⟨m, ⟨o, es, ep, ho, r⟩, _⟩ := id I.loc
  obtain ⟨sl, hL⟩ := u.any ho I.free fun z => (hch _ z).2.1 rfl
  exact I.step (ch := ch) hch (fun b o hL hb hc e n => u.keep b o e n (fun z => (List.mem_cons.mp (I.stkSub b z)).elim hL hb) hc) (fun b o _ _ hc e n => u.any e n hc) (fun b o hc e n => u.free b o e n hc) (fun b o hc e => u.there b o e hc) u.tups u.frzs u.tbls (fun m' hm => by
    obtain ⟨o', es', ep', ho', r'⟩ := hm
    rw [ho] at ho'; cases ho'
    exact ⟨_, es', ep', hL, r'⟩) hok hg
/-- an untracked record of ours (an iterator) has turned -/
theorem Inv.turned {t' : Nat} {it : Addr} (I : Inv X pins σ H s) (k : ∀ b o, b ≠ it → s.heap.get? b = some o → h'.get? b = some o) (hn : H it = none) (hL : it ≠ X.env.locals)
    (h1 : it ∈ X.ex ∨ X.s₀.heap.objs.size ≤ it) (h2 : ∀ x c, X.env.cells.lookup x = some c → c ≠ it) (h3 : ∀ p ∈ X.pn ++ pins, p.1 ≠ it) : Inv X pins σ H { s with heap := h', toks := t' } := by
  have nit : ∀ b u, H b = some u → b ≠ it := fun b u e z => by rw [z, hn] at e; cases e
  refine I.step (g' := s.gens) (d' := s.drawn) (ch := [it]) (fun b hb => ?_) (fun b o _ _ hc e _ => k b o (fun z => hc (by simp [z])) e) (fun b o _ _ hc e _ => ⟨o.slots, k b o (fun z => hc (by simp [z])) e⟩) (fun _ _ _ _ n => n)
    (fun b o hc e => ⟨o, k b o (fun z => hc (by simp [z])) e⟩) (fun _ _ e => e) (fun _ _ _ e => e) (fun b ps e => ⟨#[], by rw [e]; simp⟩) (fun m hm => ?_) (fun b u e => ?_) I.bare
  · have e : b = it := by simpa using hb
    subst e
    exact ⟨h1, hL, h2, h3⟩
  · obtain ⟨o, es, ep, ho, r⟩ := hm
    exact ⟨o, es, ep, k _ o (Ne.symm hL) ho, r⟩
  · refine (I.hok b u e).stay (fun c v hc q => k c v ?_ q) (fun _ q => q) fun _ _ q => q
    rcases hc with z | z
    · rw [z]; exact nit b u e
    · exact nit c _ z
theorem Inv.tok (I : Inv X pins σ H s) (t : Nat) : Inv X pins σ H { s with toks := t } := I.un (h' := s.heap) (t' := t) Un.refl I.hok
/-- all objects kept -/
theorem Inv.kept {t' : Nat} (I : Inv X pins σ H s) (k : ∀ b u, s.heap.get? b = some u → h'.get? b = some u) : Inv X pins σ H { s with heap := h', toks := t' } := I.un (Un.kept k) (I.hok.kept k)
/-- a new object laid and tracked -/
theorem Inv.laid {a : Addr} {o : HO} {t' : Nat} (I : Inv X pins σ H s) (k : ∀ b u, s.heap.get? b = some u → h'.get? b = some u) (hp : s.heap.objs.size ≤ a) (new : ObjOk X.prog X.w (upd H a o) h' a o) :
    Inv X pins σ (upd H a o) { s with heap := h', toks := t' } := I.un (Un.laid k hp (I.hok.fresh hp)) (I.hok.laid k hp new)
/-- an object written -/
theorem Inv.write {x e : Addr} {o : HO} {t' : Nat} (I : Inv X pins σ H s) (mu : Mut (H x)) (he : e = x ∨ H e = some (.own x)) (k : ∀ b u, b ≠ e → s.heap.get? b = some u → h'.get? b = some u) (heo : ∃ u, h'.get? e = some u)
    (new : ObjOk X.prog X.w (upd H x o) h' x o) : Inv X pins σ (upd H x o) { s with heap := h', toks := t' } := I.un (Un.write mu he k heo) (I.hok.write mu he k heo new)
/-- forgetting slots, pins -/
theorem Inv.weak {σ' : List (Option V)} (I : Inv X pins σ H s) (hl : σ'.length = σ.length) (w : ∀ (i : Nat) v, σ'[i]? = some (some v) → σ[i]? = some (some v)) : Inv X pins σ' H s :=
  ⟨I.ok, I.os, I.bare, I.base, let ⟨m, hn, hl'⟩ := I.loc; ⟨m, hn, fun i x v e1 e2 e3 => hl' i x v e1 (w i v e2) e3⟩, I.cell, I.free, I.freeC, I.pin, I.hok, hl.trans I.len⟩
theorem Inv.pins_of {pins' : List (Addr × Obj)} (I : Inv X pins σ H s) (h : ∀ p ∈ pins', s.heap.get? p.1 = some p.2 ∧ H p.1 = none ∧ p.1 ≠ X.env.locals ∧ p.1 ∉ X.fs ∧ ∀ v, p.2.data ≠ .cell v) : Inv X pins' σ H s :=
  ⟨I.ok, I.os, I.bare, I.base, I.loc, I.cell, I.free, I.freeC, fun p hp => (List.mem_append.mp hp).elim (fun z => I.pin p (List.mem_append_left _ z)) (h p), I.hok, I.len⟩

theorem nodup_ix {N : List Str} (hN : N.Nodup) {i j : Nat} {x : Str} (a : N[i]? = some x) (b : N[j]? = some x) : i = j := by
  obtain ⟨h1, e1⟩ := List.getElem?_eq_some_iff.mp a
  obtain ⟨h2, e2⟩ := List.getElem?_eq_some_iff.mp b
  exact (List.getElem_inj hN).mp (e1.trans e2.symm)

/-- a name is stored; what changed -/
theorem store_ok2 {M : Model} {A : Around} {E : Value → Shared → Prop} {i : Nat} {x : Str} {v : V} {u : Value} {Q : Unit → Shared → Prop} (I : Inv X pins σ H s) (hN : X.N.Nodup) (hi : X.N[i]? = some x) (hx : Loc X.env.scope x) (r : RelV v u)
    (h : ∀ s', Inv X pins (σ.set i (some v)) H s' → (∃ a, Heap.SameBut a s.heap s'.heap ∧ (a = X.env.locals ∨ X.env.cells.lookup x = some a)) → Q () s') (hf : X.fn x = true ∨ X.env.scope.names.lookup x = some .local := by first | exact .inl rfl | exact .inr rfl | assumption) : wpAny M A (storeName X.env x u) Q E s := by
  obtain ⟨m, hn, hl⟩ := id I.loc
  have hcls : (X.env.scope.kind == .class || (X.env.scope.kind == .module && X.env.locals != X.env.globals)) = false := by rw [I.ok.kind]; rfl
  have hiσ : i < σ.length := by rw [I.len]; exact (List.getElem?_eq_some_iff.mp hi).1
  have cne := I.cne
  have tracked : ∀ {a : Addr} {h' : Heap}, (∃ o, s.heap.get? a = some o ∧ H a = none) → Heap.SameBut a s.heap h' → HOk X.prog X.w H h' := fun {a h'} ha hs b ob e => by
    obtain ⟨_, _, hfree⟩ := ha
    refine (I.hok b ob e).stay (fun c w' hc q => (hs.2 c ?_).trans q) (fun _ q => q) fun _ _ q => q
    rintro rfl
    rcases hc with rfl | hc
    · rw [hfree] at e; cases e
    · rw [hfree] at hc; cases hc
  rcases hx with hk | hk
  · refine wpAny_storeName_local hk hn (fun h' hn' hs => ?_) hcls
    obtain ⟨oL, _, _, hoL, _⟩ := id hn
    refine h _ ⟨I.ok, I.os, I.bare, ⟨fun b o e n hb hx => ?_, fun b o e n hb hx => ?_, I.base.free, fun b o e hx => ?_, I.base.tups, I.base.frzs, I.base.tbls⟩, ⟨_, hn', fun j y v' e1 e2 e3 => ?_⟩, fun y c e => ?_, I.free, I.freeC, fun p hp => ?_, tracked ⟨oL, hoL, I.free⟩ hs, by simpa using I.len⟩ ⟨_, hs, .inl rfl⟩
    · exact (hs.2 b (Nat.ne_of_lt (Nat.lt_of_lt_of_le (Heap.lt_size e) I.ok.above))).trans (I.base.keep b o e n hb hx)
    · obtain ⟨sl, e1⟩ := I.base.slot b o e n hb hx
      exact ⟨sl, (hs.2 b (Nat.ne_of_lt (Nat.lt_of_lt_of_le (Heap.lt_size e) I.ok.above))).trans e1⟩
    · obtain ⟨o', e1⟩ := I.base.there b o e hx
      exact ⟨o', (hs.2 b (Nat.ne_of_lt (Nat.lt_of_lt_of_le (Heap.lt_size e) I.ok.above))).trans e1⟩
    · by_cases hj : j = i
      · subst hj
        rw [hi] at e1; cases e1
        rw [List.getElem?_set_self hiσ] at e2
        cases e2
        exact ⟨u, r, .inl ⟨hk, by simp⟩⟩
      · rw [List.getElem?_set_ne (Ne.symm hj)] at e2
        obtain ⟨u', r', q⟩ := hl j y v' e1 e2 e3
        refine ⟨u', r', ?_⟩
        rcases q with ⟨k, e⟩ | ⟨k, c, e, z⟩
        · refine .inl ⟨k, ?_⟩
          have : y ≠ x := fun e => hj (nodup_ix hN e1 (e ▸ hi))
          simp [this, e]
        · exact .inr ⟨k, c, e, z.sameBut hs (cne y c e)⟩
    · obtain ⟨w', z⟩ := I.cell y c e
      exact ⟨w', z.sameBut hs (cne y c e)⟩
    · obtain ⟨e, n, ne, nf, d⟩ := I.pin p hp
      exact ⟨(hs.2 p.1 ne).trans e, n, ne, nf, d⟩
  · have hfn : X.fn x = true := by
      rcases hf with z | z
      · exact z
      · rw [z] at hk; cases hk
    obtain ⟨c, hc⟩ := I.ok.has x (.inl hk)
    obtain ⟨w', z⟩ := I.cell x c hc
    refine wpAny_storeName_cell I.ok.kind hk hc z (fun h' hc' hs => ?_)
    obtain ⟨oc, hoc, hocd⟩ := id z
    refine h { s with heap := h' } ⟨I.ok, I.os, I.bare, ⟨fun b o e n hb hx => ?_, fun b o e n hb hx => ?_, I.base.free, fun b o e hx => ?_, I.base.tups, I.base.frzs, I.base.tbls⟩, ⟨m, hn.sameBut hs (Ne.symm (cne x c hc)), fun j y v' e1 e2 e3 => ?_⟩, fun y c' e => ?_, I.free, I.freeC, fun p hp => ?_, tracked ⟨oc, hoc, I.freeC x c hc⟩ hs, by simpa using I.len⟩ ⟨c, hs, .inr hc⟩
    · exact (hs.2 b (Nat.ne_of_lt (Nat.lt_of_lt_of_le (Heap.lt_size e) (I.ok.cab x c hfn hc)))).trans (I.base.keep b o e n hb hx)
    · obtain ⟨sl, e1⟩ := I.base.slot b o e n hb hx
      exact ⟨sl, (hs.2 b (Nat.ne_of_lt (Nat.lt_of_lt_of_le (Heap.lt_size e) (I.ok.cab x c hfn hc)))).trans e1⟩
    · obtain ⟨o', e1⟩ := I.base.there b o e hx
      exact ⟨o', (hs.2 b (Nat.ne_of_lt (Nat.lt_of_lt_of_le (Heap.lt_size e) (I.ok.cab x c hfn hc)))).trans e1⟩
    · by_cases hj : j = i
      · subst hj
        rw [hi] at e1; cases e1
        rw [List.getElem?_set_self hiσ] at e2
        cases e2
        exact ⟨u, r, .inr ⟨.inl hk, c, hc, hc'⟩⟩
      · rw [List.getElem?_set_ne (Ne.symm hj)] at e2
        obtain ⟨u', r', q⟩ := hl j y v' e1 e2 e3
        refine ⟨u', r', ?_⟩
        rcases q with q | ⟨k, c', e, z'⟩
        · exact .inl q
        · refine .inr ⟨k, c', e, z'.sameBut hs ?_⟩
          rintro rfl
          exact hj (nodup_ix hN e1 (I.ok.inj _ _ _ e hc ▸ hi))
    · by_cases hcc : c' = c
      · subst hcc; exact ⟨_, hc'⟩
      · obtain ⟨w2, z2⟩ := I.cell y c' e
        exact ⟨w2, z2.sameBut hs hcc⟩
    · obtain ⟨e, n, ne, nf, d⟩ := I.pin p hp
      refine ⟨(hs.2 p.1 ?_).trans e, n, ne, nf, d⟩
      intro q
      rw [q, hoc] at e
      have q' : oc = p.2 := Option.some.inj e
      exact d w' (by rw [← q']; exact hocd)
theorem store_ok {M : Model} {A : Around} {E : Value → Shared → Prop} {i : Nat} {x : Str} {v : V} {u : Value} {Q : Unit → Shared → Prop} (I : Inv X pins σ H s) (hN : X.N.Nodup) (hi : X.N[i]? = some x) (hx : Loc X.env.scope x) (r : RelV v u)
    (h : ∀ s', Inv X pins (σ.set i (some v)) H s' → Q () s') (hf : X.fn x = true ∨ X.env.scope.names.lookup x = some .local := by first | exact .inl rfl | exact .inr rfl | assumption) : wpAny M A (storeName X.env x u) Q E s :=
  store_ok2 I hN hi hx r (fun s' I' _ => h s' I') hf
/-- behind a call or a block, the state as it is -/
theorem Inv.call' {s' : Shared} {ch : List Addr} (I : Inv X pins σ H s) (ho : s'.os = s.os) (u : Un (frs X.stack) ch H H' s.heap s'.heap) (hok : HOk X.prog X.w H' s'.heap) (hg : AllBare s'.gens)
    (hch : ∀ b ∈ ch, (b ∈ X.ex ∨ X.s₀.heap.objs.size ≤ b) ∧ b ≠ X.env.locals ∧ (∀ x c, X.env.cells.lookup x = some c → c ≠ b) ∧ ∀ p ∈ X.pn ++ pins, p.1 ≠ b) : Inv X pins σ H' s' := by
  obtain ⟨h', g', d', t', o'⟩ := s'
  have e : o' = s.os := ho
  subst e
  exact I.call (g' := g') (t' := t') (d' := d') u hok hg hch
end

/-! ### the judgements -/
/-- an exception: its class, its own dict's address (where it has one), the abstract heap behind it -/
abbrev XK := Value → Option Addr → Hp → Prop
abbrev St := List (Option V)
abbrev VK := V → Hp → Prop
/-- an expression's reading; a test's; an argument list's -/
abbrev TE := St → Hp → VK → Prop
abbrev TT := St → Hp → (Bool → Hp → Prop) → Prop
abbrev TA := St → Hp → (List V → Hp → Prop) → Prop
/-- what is wanted behind a statement -/
structure Ends where
  nx : St → Hp → Prop
  rt : VK
  bk : St → Hp → Prop := fun _ _ => False
  ct : St → Hp → Prop := fun _ _ => False
abbrev TS := Ends → St → Hp → Prop

def EP (X : Cx) (pins : List (Addr × Obj)) (σ : St) (Q : VK) (u : Value) (s' : Shared) : Prop := ∃ v H', Inv X pins σ H' s' ∧ RelV v u ∧ Q v H'
def TP (X : Cx) (pins : List (Addr × Obj)) (σ : St) (Q : Bool → Hp → Prop) (b : Bool) (s' : Shared) : Prop := ∃ H', Inv X pins σ H' s' ∧ Q b H'
def AP (X : Cx) (pins : List (Addr × Obj)) (σ : St) (Q : List V → Hp → Prop) (us : List Value) (s' : Shared) : Prop := ∃ vs H', Inv X pins σ H' s' ∧ Vals vs us ∧ Q vs H'
def SP (X : Cx) (pins : List (Addr × Obj)) (D : Ends) (f : Flow) (s' : Shared) : Prop :=
  match f with
  | .next => ∃ σ' H', Inv X pins σ' H' s' ∧ D.nx σ' H'
  | .brk => ∃ σ' H', Inv X pins σ' H' s' ∧ D.bk σ' H'
  | .cont => ∃ σ' H', Inv X pins σ' H' s' ∧ D.ct σ' H'
  | .ret u => ∃ v σ' H', Inv X pins σ' H' s' ∧ RelV v u ∧ D.rt v H'

def PE (X : Cx) (e : Expr) (t : TE) : Prop :=
  ∀ (pins : List (Addr × Obj)) (s : Shared) (σ : St) (H : Hp) (Q : VK), Inv X pins σ H s → t σ H Q → wpAny (model X.prog X.w) X.A (eval e X.env) (EP X pins σ Q) X.xe s
def PT (X : Cx) (e : Expr) (t : TT) : Prop :=
  ∀ (pins : List (Addr × Obj)) (s : Shared) (σ : St) (H : Hp) (Q : Bool → Hp → Prop), Inv X pins σ H s → t σ H Q → wpAny (model X.prog X.w) X.A (isTrue e X.env (eval e X.env)) (TP X pins σ Q) X.xe s
/-- a test whatever its 'whole' is (and, or) -/
def PW (X : Cx) (e : Expr) (t : TT) : Prop :=
  ∀ (whole : Sem Value) (pins : List (Addr × Obj)) (s : Shared) (σ : St) (H : Hp) (Q : Bool → Hp → Prop), Inv X pins σ H s → t σ H Q → wpAny (model X.prog X.w) X.A (isTrue e X.env whole) (TP X pins σ Q) X.xe s
theorem PW.pt {X : Cx} {e : Expr} {t : TT} (h : PW X e t) : PT X e t := h _
/-- an argument list (no star), from the left -/
def PA (X : Cx) (es : List Expr) (t : TA) : Prop :=
  ∀ (pos : Pos) (pins : List (Addr × Obj)) (s : Shared) (σ : St) (H : Hp) (Q : List V → Hp → Prop), Inv X pins σ H s → t σ H Q → wpAny (model X.prog X.w) X.A (spliced (backTo pos (starEach es X.env))) (AP X pins σ Q) X.xe s
def PS (X : Cx) (st : Stmt) (t : TS) : Prop :=
  ∀ (pins : List (Addr × Obj)) (s : Shared) (σ : St) (H : Hp) (D : Ends), Inv X pins σ H s → t D σ H → wpAny (model X.prog X.w) X.A (exec st X.env) (SP X pins D) X.xe s
def PSs (X : Cx) (st : List Stmt) (t : TS) : Prop :=
  ∀ (pins : List (Addr × Obj)) (s : Shared) (σ : St) (H : Hp) (D : Ends), Inv X pins σ H s → t D σ H → wpAny (model X.prog X.w) X.A (execs st X.env) (SP X pins D) X.xe s
/-- weaken the end -/
theorem thn {α : Type} {t : Sem α} {Q Q' : α → Shared → Prop} {M : Model} {A : Around} {E : Value → Shared → Prop} {s : Shared} (h : wpAny M A t Q E s) (hQ : ∀ a s, Q a s → Q' a s) : wpAny M A t Q' E s := wpAny_mono h hQ fun _ _ x => x
end L2

namespace L2
open PySem PySem.Spec PyProof.Rows
section
variable {X : Cx}

/-! ### names and constants -/
def tVar (i : Nat) : TE := fun σ H Q => ∃ v, σ[i]? = some (some v) ∧ Q v H
def tC (v : V) : TE := fun _ H Q => Q v H
theorem pe_var {i : Nat} {x : Str} {pos : Pos} (hN : X.N[i]? = some x) (hv : Vis X.env.scope x) (hd : (x == ("__debug__" : Str)) = false := by decide) (hcd : (x == ("__classdict__" : Str)) = false := by decide) : PE X (.Name x pos) (tVar i) := by
  intro pins s σ H Q I h
  obtain ⟨v, e, h⟩ := h
  obtain ⟨m, hn, hl⟩ := I.loc
  obtain ⟨u, r, l⟩ := hl i x v hN e hv
  have fin : EP X pins σ Q u s := ⟨v, H, I, r, h⟩
  rcases l with ⟨hk, hm⟩ | ⟨hk, c, hc, hcell⟩
  · exact wpAny_Name (wpAny_loadName_local I.ok.kind hk hn hm fin) hd
  · rcases hk with hk | hk
    · exact wpAny_Name (wpAny_loadName_cell I.ok.kind hk hc hcell fin) hd
    · exact wpAny_Name (wpAny_loadName_free I.ok.kind hk hc hcell fin hcd) hd
theorem pe_int {i j pos} : PE X (.Constant (.int i) j pos) (tC (.int i)) := fun _ _ _ H _ I h => wpAny_Constant_int ⟨.int i, H, I.tok _, ⟨_, rfl⟩, h⟩
theorem pe_bl {b j pos} : PE X (.Constant (.bool b) j pos) (tC (.bl b)) := fun _ _ _ H _ I h => Constant_bool ⟨.bl b, H, I, rfl, h⟩
theorem pe_non {j pos} : PE X (.Constant .none j pos) (tC .non) := fun _ _ _ H _ I h => Constant_none ⟨.non, H, I, rfl, h⟩
theorem pe_str {x j pos} : PE X (.Constant (.str x) j pos) (tC (.str x)) := fun _ _ _ H _ I h => Calls.Constant_str ⟨.str x, H, I.tok _, ⟨_, rfl⟩, h⟩

/-- a global name of the def -/
def Gl (X : Cx) (x : Str) : Prop := X.env.kindOf x = some .globalImplicit
theorem ld_glob {E : Value → Shared → Prop} {pins : List (Addr × Obj)} {s : Shared} {σ : St} {H : Hp} {x : Str} {u : Value} {pos : Pos} {Q : Value → Shared → Prop} (I : Inv X pins σ H s) (hg : Gl X x) (hm : X.mg x = some u) (h : Q u s)
    (hd : (x == ("__debug__" : Str)) = false := by decide) : wpAny (model X.prog X.w) X.A (eval (.Name x pos) X.env) Q E s :=
  Calls.Name_function_global I.ok.kind hg (Calls.loadGlobal_global (by rw [I.ok.glob]; exact I.mod.glob.keeps I.bk) hm h) hd
theorem ld_blt {E : Value → Shared → Prop} {pins : List (Addr × Obj)} {s : Shared} {σ : St} {H : Hp} {x : Str} {u : Value} {pos : Pos} {Q : Value → Shared → Prop} (I : Inv X pins σ H s) (hg : Gl X x) (hm : X.mg x = none) (hv : bootBuiltins x = some u) (h : Q u s)
    (hn : x ≠ "__name__" := by decide) (hd : (x == ("__debug__" : Str)) = false := by decide) : wpAny (model X.prog X.w) X.A (eval (.Name x pos) X.env) Q E s := by
  obtain ⟨mb, h1, h2⟩ := I.mod.blt
  exact Calls.Name_function_global I.ok.kind hg (Calls.loadGlobal_builtin (by rw [I.ok.glob]; exact I.mod.glob.keeps I.bk) hm (by rw [I.ok.blt]; exact h1.keeps I.bk) ((h2 x hn).trans hv) h) hd
theorem pe_bltn {x : Str} {v : V} {u : Value} {pos : Pos} (hg : Gl X x) (hm : X.mg x = none) (hv : bootBuiltins x = some u) (r : RelV v u) (hn : x ≠ "__name__" := by decide) (hd : (x == ("__debug__" : Str)) = false := by decide) : PE X (.Name x pos) (tC v) :=
  fun _ _ _ H _ I h => ld_blt I hg hm hv ⟨v, H, I, r, h⟩ hn hd

/-! ### arithmetic -/
variable {a b : Expr} {ta tb : TE} {pos : Pos}
/-! ### comparisons -/
def PC (X : Cx) (op : CmpOp) (a b : Expr) (t : TE) : Prop :=
  ∀ (pins : List (Addr × Obj)) (s : Shared) (σ : St) (H : Hp) (Q : VK), Inv X pins σ H s → t σ H Q →
    wpAny (model X.prog X.w) X.A (eval a X.env) (fun v s₁ => wpAny (model X.prog X.w) X.A (eval b X.env) (fun u s₂ => wpAny (model X.prog X.w) X.A (compareOp op v u) (EP X pins σ Q) X.xe s₂) X.xe s₁) X.xe s
/-- a comparison as a value, as a test -/
def tB (t : TE) : TT := fun σ H Q => t σ H fun x H1 => ∃ c, x = .bl c ∧ Q c H1
theorem pt_cmp {op : CmpOp} {t : TE} (h : PC X op a b t) (h1 : behindInMarks op b = false := by first | exact nobehind _ (by decide) (by decide) | rfl) : PT X (.Compare a [op] [b] pos) (tB t) := by
  intro pins s σ H Q I hw
  refine wpAny_isTrue_Compare1 (thn (h pins s σ H _ I hw) fun v s1 h1 => thn h1 fun u s2 h2 => thn h2 fun c s3 ⟨x, H1, I1, r1, q1⟩ => ?_) h1
  obtain ⟨d, rfl, q⟩ := q1
  cases r1
  exact wpAny_truthy_bool ⟨H1, I1, q⟩
/-- an expression whose value is a bool, as a test -/
theorem pt_val {e : Expr} {t : TE} (h : PE X e t) (he : ∀ whole, isTrue e X.env whole = (do let v ← whole; standAt e.pos; holding [v] (truthy v)) := by intro _; rfl) : PT X e (tB t) := by
  intro pins s σ H Q I hw
  refine isTrue_plain (thn (h pins s σ H _ I hw) fun v s1 ⟨x, H1, I1, r1, q1⟩ => ?_) (he _)
  obtain ⟨d, rfl, q⟩ := q1
  cases r1
  exact wpAny_truthy_bool ⟨H1, I1, q⟩

/-! ### and, or, not -/
variable {tA tB' : TT} {rest : List Expr}
def tAnd (t u : TT) : TT := fun σ H Q => t σ H fun c H1 => if c = true then u σ H1 Q else Q false H1
def tOr (t u : TT) : TT := fun σ H Q => t σ H fun c H1 => if c = true then Q true H1 else u σ H1 Q
def tNot (t : TT) : TT := fun σ H Q => t σ H fun c H1 => Q (!c) H1
theorem pw_and1 (ha : PT X a tA) : PW X (.BoolOp .And [a] pos) tA := by
  intro wh pins s σ H Q I h
  refine isTrue_and (thn (ha pins s σ H Q I h) fun c s1 e => ?_)
  cases c with
  | true => exact isTrue_and_nil e
  | false => exact e
theorem pw_or1 (ha : PT X a tA) : PW X (.BoolOp .Or [a] pos) tA := by
  intro wh pins s σ H Q I h
  refine isTrue_or (thn (ha pins s σ H Q I h) fun c s1 e => ?_)
  cases c with
  | false => exact isTrue_or_nil e
  | true => exact e
theorem pw_and (ha : PT X a tA) (hb : PW X (.BoolOp .And (b :: rest) pos) tB') : PW X (.BoolOp .And (a :: b :: rest) pos) (tAnd tA tB') := by
  intro wh pins s σ H Q I h
  refine isTrue_and (thn (ha pins s σ H _ I h) fun c s1 ⟨H1, I1, q1⟩ => ?_)
  cases c with
  | true => exact hb wh pins s1 σ H1 Q I1 q1
  | false => exact ⟨H1, I1, q1⟩
theorem pw_or (ha : PT X a tA) (hb : PW X (.BoolOp .Or (b :: rest) pos) tB') : PW X (.BoolOp .Or (a :: b :: rest) pos) (tOr tA tB') := by
  intro wh pins s σ H Q I h
  refine isTrue_or (thn (ha pins s σ H _ I h) fun c s1 ⟨H1, I1, q1⟩ => ?_)
  cases c with
  | true => exact ⟨H1, I1, q1⟩
  | false => exact hb wh pins s1 σ H1 Q I1 q1
theorem pt_not (ha : PT X a tA) : PT X (.UnaryOp .Not a pos) (tNot tA) := by
  intro pins s σ H Q I h
  exact isTrue_not (ha pins s σ H (fun c H1 => Q (!c) H1) I h)
/-- .. as values (bools) -/
def tAndV (ta tb : TE) : TE := fun σ H Q => ta σ H fun x H1 => ∃ c, x = .bl c ∧ if c = true then tb σ H1 Q else Q (.bl false) H1
def tOrV (ta tb : TE) : TE := fun σ H Q => ta σ H fun x H1 => ∃ c, x = .bl c ∧ if c = true then Q (.bl true) H1 else tb σ H1 Q
theorem pe_one {op} {t : TE} (h : PE X a t) : PE X (.BoolOp op [a] pos) t := fun pins s σ H Q I hw => BoolOp_one (h pins s σ H Q I hw)
theorem pe_and (ha : PE X a ta) (hb : PE X (.BoolOp .And (b :: rest) pos) tb) : PE X (.BoolOp .And (a :: b :: rest) pos) (tAndV ta tb) := by
  intro pins s σ H Q I h
  refine BoolOp_and (thn (ha pins s σ H _ I h) fun v s1 ⟨x, H1, I1, r1, q1⟩ => ?_)
  obtain ⟨c, rfl, q1⟩ := q1
  cases r1
  refine wpAny_truthy_bool ?_
  cases c with
  | true => exact hb pins s1 σ H1 Q I1 q1
  | false => exact ⟨.bl false, H1, I1, rfl, q1⟩
theorem pe_or (ha : PE X a ta) (hb : PE X (.BoolOp .Or (b :: rest) pos) tb) : PE X (.BoolOp .Or (a :: b :: rest) pos) (tOrV ta tb) := by
  intro pins s σ H Q I h
  refine BoolOp_or (thn (ha pins s σ H _ I h) fun v s1 ⟨x, H1, I1, r1, q1⟩ => ?_)
  obtain ⟨c, rfl, q1⟩ := q1
  cases r1
  refine wpAny_truthy_bool ?_
  cases c with
  | false => exact hb pins s1 σ H1 Q I1 q1
  | true => exact ⟨.bl true, H1, I1, rfl, q1⟩
/-- a if t else b -/
def tIf (t : TT) (ta tb : TE) : TE := fun σ H Q => t σ H fun c H1 => if c = true then ta σ H1 Q else tb σ H1 Q
theorem pe_ifExp {c : Expr} (hc : PT X c tA) (ha : PE X a ta) (hb : PE X b tb) : PE X (.IfExp c a b pos) (tIf tA ta tb) := by
  intro pins s σ H Q I h
  refine wpAny_IfExp (thn (hc pins s σ H _ I h) fun d s1 ⟨H1, I1, q1⟩ => ?_)
  cases d with
  | true => exact ha pins s1 σ H1 Q I1 q1
  | false => exact hb pins s1 σ H1 Q I1 q1
end
end L2

namespace L2
open PySem PySem.Spec PyProof.Rows

/-! ### a list, a tuple that is read: tracked, frozen, or an object of the module -/
def SqL (K : PySem.W.Frag) (H : Hp) (a : Addr) (xs : List V) : Prop :=
  Rd H a (.lst xs) ∨
    ∃ (o : Obj) (its : Array Value) (n : Nat), K.lookup a = some o ∧ o.cls = .type "list" ∧ o.dict = none ∧ o.data = .seq its n ∧ its.size ≤ sizeLine ∧ Vals xs its.toList
def SqT (K : PySem.W.Frag) (H : Hp) (a : Addr) (xs : List V) : Prop :=
  Rd H a (.tup xs) ∨
    ∃ (o : Obj) (its : Array Value) (n : Nat), K.lookup a = some o ∧ o.cls = .type "tuple" ∧ o.data = .seq its n ∧ its.size ≤ sizeLine ∧ Vals xs its.toList
def absV : Value → Option V
  | .none => some .non
  | .bool b => some (.bl b)
  | .int i _ => some (.int i)
  | .str x _ => some (.str x)
  | .bytes b _ => some (.byt b)
  | .float b _ => some (.flt b)
  | .ref a => some (.ref a)
  | .type n => some (.ty n)
  | _ => none
theorem RelV.abs {x : V} {u : Value} (r : RelV x u) : absV u = some x := by
  cases x with
  | non => cases r; rfl
  | bl _ => cases r; rfl
  | int _ => obtain ⟨t, rfl⟩ := r; rfl
  | str _ => obtain ⟨t, rfl⟩ := r; rfl
  | byt _ => obtain ⟨t, rfl⟩ := r; rfl
  | flt _ => obtain ⟨t, rfl⟩ := r; rfl
  | ref _ => cases r; rfl
  | ty _ => cases r; rfl
theorem RelV.inj {x y : V} {u : Value} (r : RelV x u) (q : RelV y u) : x = y := Option.some.inj (r.abs.symm.trans q.abs)
theorem Vals.inj : ∀ {xs ys : List V} {us : List Value}, Vals xs us → Vals ys us → xs = ys
  | _, _, _, .nil, .nil => rfl
  | _, _, _, .cons r t, .cons r' t' => by rw [r.inj r', Vals.inj t t']
section
variable {X : Cx} {pins : List (Addr × Obj)} {σ : St} {H : Hp} {s : Shared} {a : Addr} {xs ys : List V}
theorem SqL.of {K : PySem.W.Frag} (h : H a = some (.lst xs)) : SqL K H a xs := .inl (.inl h)
theorem SqT.of {K : PySem.W.Frag} (h : H a = some (.tup xs)) : SqT K H a xs := .inl (.inl h)
theorem Inv.list (I : Inv X pins σ H s) (h : SqL X.K H a xs) : ∃ its : List Value, Vals xs its ∧ PlainL s.heap a its.toArray ∧ xs.length ≤ sizeLine := by
  rcases h with h | ⟨o, its, n, hk, hc, hd, hs, hz, r⟩
  · obtain ⟨z, its, n, r, e⟩ := h.ok I.hok
    exact ⟨its, r, ⟨_, n, e, rfl, rfl, rfl⟩, z⟩
  · refine ⟨its.toList, r, ⟨o, n, I.kIn a o hk, hc, hd, by simpa using hs⟩, ?_⟩
    have e := r.length
    simp only [Array.length_toList] at e
    omega
theorem Inv.tuple (I : Inv X pins σ H s) (h : SqT X.K H a xs) : ∃ its : List Value, Vals xs its ∧ IsTup s.heap a its.toArray ∧ xs.length ≤ sizeLine := by
  rcases h with h | ⟨o, its, n, hk, hc, hs, hz, r⟩
  · obtain ⟨z, its, r, p⟩ := h.ok I.hok
    exact ⟨its, r, p, z⟩
  · refine ⟨its.toList, r, ⟨o, I.kIn a o hk, hc, n, by simpa using hs⟩, ?_⟩
    have e := r.length
    simp only [Array.length_toList] at e
    omega
theorem Inv.list_inj (I : Inv X pins σ H s) (h : SqL X.K H a xs) (h' : SqL X.K H a ys) : xs = ys := by
  obtain ⟨its, r, ⟨o, n, e, _, _, d⟩, _⟩ := I.list h
  obtain ⟨its', r', ⟨o', n', e', _, _, d'⟩, _⟩ := I.list h'
  rw [e] at e'; cases e'
  rw [d] at d'
  injection d' with d1 _
  have : its = its' := by simpa using congrArg Array.toList d1
  subst this
  exact r.inj r'
end

/-! ### another wish about exceptions -/
abbrev Cx.wish (X : Cx) (E : Value → Shared → Prop) : Cx := { X with xe := E }
/-- no exception leaves -/
abbrev Cx.nox (X : Cx) : Cx := X.wish fun _ _ => False
theorem Cx.Ok.wish {X : Cx} (ok : X.Ok) (E : Value → Shared → Prop) : (X.wish E).Ok :=
  ⟨ok.mod, ok.kind, ok.glob, ok.blt, ok.above, ok.inj, ok.has, ok.cab, ok.hd, ok.frames, ok.stk, ok.exf, ok.bs, ok.bsz, ok.noex, ok.exfs, ok.funs, ok.frf⟩
theorem Cx.Ok.unwish {X : Cx} {E : Value → Shared → Prop} (ok : (X.wish E).Ok) : X.Ok :=
  ⟨ok.mod, ok.kind, ok.glob, ok.blt, ok.above, ok.inj, ok.has, ok.cab, ok.hd, ok.frames, ok.stk, ok.exf, ok.bs, ok.bsz, ok.noex, ok.exfs, ok.funs, ok.frf⟩
section
variable {X : Cx} {pins : List (Addr × Obj)} {σ : St} {H : Hp} {s : Shared} {E : Value → Shared → Prop}
theorem Inv.wish (I : Inv X pins σ H s) (E : Value → Shared → Prop) : Inv (X.wish E) pins σ H s := ⟨I.ok.wish E, I.os, I.bare, I.base, I.loc, I.cell, I.free, I.freeC, I.pin, I.hok, I.len⟩
theorem Inv.unwish (I : Inv (X.wish E) pins σ H s) : Inv X pins σ H s := ⟨I.ok.unwish, I.os, I.bare, I.base, I.loc, I.cell, I.free, I.freeC, I.pin, I.hok, I.len⟩
theorem SP.unwish {D : Ends} {f : Flow} {s' : Shared} (h : SP (X.wish E) pins D f s') : SP X pins D f s' := by
  cases f with
  | next => obtain ⟨σ', H', I, q⟩ := h; exact ⟨σ', H', I.unwish, q⟩
  | brk => obtain ⟨σ', H', I, q⟩ := h; exact ⟨σ', H', I.unwish, q⟩
  | cont => obtain ⟨σ', H', I, q⟩ := h; exact ⟨σ', H', I.unwish, q⟩
  | ret u => obtain ⟨v, σ', H', I, r, q⟩ := h; exact ⟨v, σ', H', I.unwish, r, q⟩
theorem PSs.nox {st : List Stmt} {t : TS} (h : PSs X.nox st t) : PSs X st t := fun pins s σ H D I hw =>
  wpAny_mono (h pins s σ H D (I.wish _) hw) (fun _ _ q => q.unwish) fun _ _ z => False.elim z
end

/-! ### blocks and small statements -/
section
variable {X : Cx} {st : Stmt} {rest : List Stmt} {t u : TS} {e : Expr} {te : TE} {pos : Pos}
def tNext : TS := fun D σ H => D.nx σ H
def tSeq (t u : TS) : TS := fun D σ H => t { D with nx := u D } σ H
theorem pss_nil : PSs X [] tNext := fun _ _ σ H _ I h => wpAny_execs_nil ⟨σ, H, I, h⟩
theorem pss_cons (h1 : PS X st t) (h2 : PSs X rest u) : PSs X (st :: rest) (tSeq t u) := by
  intro pins s σ H D I h
  refine wpAny_execs_cons (thn (h1 pins s σ H { D with nx := u D } I h) fun f s1 q => ?_)
  cases f with
  | next =>
    obtain ⟨σ', H', I', q⟩ := q
    exact h2 pins s1 σ' H' D I' q
  | ret v => exact q
  | brk => exact q
  | cont => exact q
theorem pss_one (h1 : PS X st t) : PSs X [st] t := by
  intro pins s σ H D I h
  refine wpAny_execs_cons (thn (h1 pins s σ H D I h) fun f s1 q => ?_)
  cases f with
  | next => exact wpAny_execs_nil q
  | ret v => exact q
  | brk => exact q
  | cont => exact q
/-- in a def's body nothing is shown -/
theorem Inv.quiet {pins : List (Addr × Obj)} {σ : St} {H : Hp} {s : Shared} (I : Inv X pins σ H s) : interactive X.env = false := by simp [interactive, I.ok.kind]
/-- an expression whose value is dropped -/
def tDrop (te : TE) : TS := fun D σ H => te σ H fun _ H1 => D.nx σ H1
theorem ps_expr (he : PE X e te) (hs : swapsWith e none pos.line X.env = pure false := by rfl) : PS X (.Expr e pos) (tDrop te) := by
  intro pins s σ H D I h
  exact wpAny_Expr_any (thn (he pins s σ H _ I h) fun v s1 ⟨x, H1, I1, r1, q1⟩ => ⟨σ, H1, I1, q1⟩) I.quiet hs
def tRet (te : TE) : TS := fun D σ H => te σ H D.rt
theorem ps_ret (he : PE X e te) : PS X (.Return (some e) pos) (tRet te) := by
  intro pins s σ H D I h
  exact wpAny_Return_some (thn (he pins s σ H _ I h) fun v s1 ⟨x, H1, I1, r1, q1⟩ => ⟨x, σ, H1, I1, r1, q1⟩)
def tIfS (c : TT) (t u : TS) : TS := fun D σ H => c σ H fun b H1 => if b = true then t D σ H1 else u D σ H1
theorem ps_if {c : Expr} {a b : List Stmt} {tc : TT} (hc : PT X c tc) (ha : PSs X a t) (hb : PSs X b u) : PS X (.If c a b pos) (tIfS tc t u) := by
  intro pins s σ H D I h
  refine wpAny_If (thn (hc pins s σ H _ I h) fun d s1 ⟨H1, I1, q1⟩ => ?_)
  cases d with
  | true => exact ha pins s1 σ H1 D I1 q1
  | false => exact hb pins s1 σ H1 D I1 q1
/-- code that the proof never comes to -/
def tNever : TS := fun _ _ _ => False
theorem ps_never : PS X st tNever := fun _ _ _ _ _ _ h => h.elim
end

/-! ### targets -/
abbrev TG := V → St → Hp → (St → Hp → Prop) → Prop
abbrev TGs := List V → St → Hp → (St → Hp → Prop) → Prop
def PG (X : Cx) (target : Expr) (t : TG) : Prop :=
  ∀ (pins : List (Addr × Obj)) (s : Shared) (σ : St) (H : Hp) (v : V) (u : Value) (Q : St → Hp → Prop), Inv X pins σ H s → RelV v u → t v σ H Q →
    wpAny (model X.prog X.w) X.A (assign target X.env u) (fun _ s' => ∃ σ' H', Inv X pins σ' H' s' ∧ Q σ' H') X.xe s
/-- several targets, one after another -/
def PGs (X : Cx) (ts : List Expr) (t : TGs) : Prop :=
  ∀ (pins : List (Addr × Obj)) (s : Shared) (σ : St) (H : Hp) (vs : List V) (us : List Value) (Q : St → Hp → Prop), Inv X pins σ H s → Vals vs us → t vs σ H Q →
    wpAny (model X.prog X.w) X.A (assignInOrder ((assignEach ts X.env).map (·.2)) us) (fun _ s' => ∃ σ' H', Inv X pins σ' H' s' ∧ Q σ' H') X.xe s
section
variable {X : Cx} {pos : Pos}
def gName (i : Nat) : TG := fun v σ H Q => Q (σ.set i (some v)) H
theorem pg_name {i : Nat} {x : Str} (hN : X.N.Nodup) (hi : X.N[i]? = some x) (hx : Loc X.env.scope x) (hf : X.fn x = true ∨ X.env.scope.names.lookup x = some .local := by first | exact .inl rfl | exact .inr rfl | assumption) : PG X (.Name x pos) (gName i) := by
  intro pins s σ H v u Q I r h
  exact wpAny_assign_Name (store_ok I hN hi hx r (fun s' I' => ⟨_, H, I', h⟩) hf)
def gNil : TGs := fun vs σ H Q => vs = [] ∧ Q σ H
def gCons (t : TG) (u : TGs) : TGs := fun vs σ H Q => ∃ v r, vs = v :: r ∧ t v σ H fun σ' H' => u r σ' H' Q
theorem pgs_nil : PGs X [] gNil := by
  intro pins s σ H vs us Q I r h
  obtain ⟨e, h⟩ := h
  subst e
  cases r
  exact assignInOrder_nil ⟨σ, H, I, h⟩
theorem pgs_cons {e : Expr} {es : List Expr} {t : TG} {u : TGs} (h1 : PG X e t) (h2 : PGs X es u)
    (hs : (assignEach (e :: es) X.env).map (·.2) = assign e X.env :: (assignEach es X.env).map (·.2) := by rfl) : PGs X (e :: es) (gCons t u) := by
  intro pins s σ H vs us Q I r h
  obtain ⟨v, vr, e1, h⟩ := h
  subst e1
  cases r with
  | cons r rr =>
    rw [hs]
    refine assignInOrder_cons (thn (h1 pins s σ H _ _ _ I r h) fun _ s1 ⟨σ1, H1, I1, q1⟩ => ?_)
    exact h2 pins s1 σ1 H1 _ _ Q I1 rr q1
/-- (a, b, ..) = a tuple of that length -/
def gTup (K : PySem.W.Frag) (n : Nat) (t : TGs) : TG := fun v σ H Q => ∃ a xs, v = .ref a ∧ SqT K H a xs ∧ xs.length = n ∧ t xs σ H Q
theorem pg_tup {es : List Expr} {k : Nat} {t : TGs} {n : Nat} (hc : X.calm = true) (h : PGs X es t)
    (hn : (assignEach es X.env).length = n := by rfl) (hst : (assignEach es X.env).findIdx? (·.1) = none := by rfl) : PG X (.Tuple es k pos) (gTup X.K n t) := by
  intro pins s σ H v u Q I r hw
  obtain ⟨a, xs, e1, hq, hl, hw⟩ := hw
  subst e1
  cases r
  obtain ⟨its, rv, ht, hz⟩ := I.tuple hq
  refine assign_Tuple_tuple (I.ok.hd hc) ht (by simp [hn, ← hl, rv.length]) hst fun h' hx => ?_
  have I1 : Inv X pins σ H { s with heap := h' } := I.kept (t' := s.toks) fun b o e => hx b o (Nat.ne_of_lt (Heap.lt_size e)) e
  exact h pins _ σ H xs _ Q I1 (by simpa using rv) hw
/-- target = value -/
def tAsg (te : TE) (g : TG) : TS := fun D σ H => te σ H fun x H1 => g x σ H1 D.nx
theorem ps_asg {tg e : Expr} {te : TE} {g : TG} (he : PE X e te) (hg : PG X tg g) (hs : swapsWithSole [tg] e pos.line X.env = pure false := by rfl) (hw : swappedStores [tg] e X.env = pure none := by rfl)
    (h1 : (assignEach [tg] X.env).map (·.2) = [assign tg X.env] := by rfl) : PS X (.Assign [tg] e pos) (tAsg te g) := by
  intro pins s σ H D I h
  refine wpAny_Assign_stores (thn (he pins s σ H _ I h) fun v s1 ⟨x, H1, I1, r1, q1⟩ => ?_) hs hw
  rw [h1]
  exact thn (hg pins s1 σ H1 x v _ I1 r1 q1) fun _ s2 q => q
/-- name = value -/
theorem ps_set {i : Nat} {x : Str} {e : Expr} {te : TE} {pos' : Pos} (hN : X.N.Nodup) (hi : X.N[i]? = some x) (hx : Loc X.env.scope x) (he : PE X e te) (hs : swapsWith e (some (.Name x pos')) pos.line X.env = pure false := by rfl) (hf : X.fn x = true ∨ X.env.scope.names.lookup x = some .local := by first | exact .inl rfl | exact .inr rfl | assumption) :
    PS X (.Assign [.Name x pos'] e pos) (tAsg te (gName i)) := by
  intro pins s σ H D I h
  refine wpAny_Assign_Name (thn (he pins s σ H _ I h) fun v s1 ⟨y, H1, I1, r1, q1⟩ => ?_) hs
  exact store_ok I1 hN hi hx r1 (fun s2 I2 => ⟨_, H1, I2, q1⟩) hf
end

/-! ### while -/
section
variable {X : Cx} {pos : Pos}
end

/-! ### what a loop or a comprehension walks -/
/-- at turn i: it yields x (the heap may grow), or it stops -/
structure It where
  go : Nat → Hp → Prop
  yld : Nat → Hp → V → Hp → Prop
  stop : Nat → Hp → Prop
/-- the iterator's own objects may turn: they are not the frame's, not pinned, younger than the entry (or a comprehension's own) -/
def FpOk (X : Cx) (pins : List (Addr × Obj)) (H : Hp) (b : Addr) : Prop :=
  H b = none ∧ b ≠ X.env.locals ∧ b ∉ X.fs ∧ (b ∈ X.ex ∨ X.s₀.heap.objs.size ≤ b) ∧ (∀ x c, X.env.cells.lookup x = some c → c ≠ b) ∧ ∀ p ∈ X.pn ++ pins, p.1 ≠ b
theorem Inv.fpOk {X : Cx} {pins : List (Addr × Obj)} {σ : St} {H H' : Hp} {s : Shared} {b : Addr} (I : Inv X pins σ H s) (hb : s.heap.objs.size ≤ b) (hn : H' b = none) : FpOk X pins H' b := by
  refine ⟨hn, Nat.ne_of_gt (Nat.lt_of_lt_of_le I.lt hb), I.nofs hb, .inr (Nat.le_trans I.sz hb), fun x c e z => ?_, fun p hp z => ?_⟩
  · obtain ⟨v, q⟩ := I.cell x c e
    exact absurd (Nat.lt_of_lt_of_le q.lt (by rw [z]; exact hb)) (Nat.lt_irrefl _)
  · exact absurd (Nat.lt_of_lt_of_le (Heap.lt_size (I.pin p hp).1) (by rw [z]; exact hb)) (Nat.lt_irrefl _)
structure Turn (P : Program) (w : World) (K : PySem.W.Frag) (tg : Expr) (J : It) (fp : List Addr) (it : Addr) (tn : Nat → Heap → Prop) : Prop where
  mem : it ∈ fp
  obj : ∀ i h, tn i h → ∀ b ∈ fp, ∃ o, h.get? b = some o ∧ ∀ v, o.data ≠ .cell v
  keep : ∀ i h h', tn i h → (∀ b ∈ fp, ∀ o, h.get? b = some o → h'.get? b = some o) → tn i h'
  item : ∀ (X : Cx), X.prog = P → X.w = w → X.K = K → X.calm = true → ∀ (i : Nat) (pins : List (Addr × Obj)) (s : Shared) (σ : St) (H : Hp) (E : Value → Shared → Prop), Inv X pins σ H s → (∀ b ∈ fp, FpOk X pins H b) → tn i s.heap → J.go i H →
    wpAny (model P w) X.A (pyNext (.ref it)) (fun r s1 => ∃ u, r = some u ∧
      wpAny (model P w) X.A (letOwnedTupleGo tg (.ref it) u) (fun _ s2 => ∃ x H', Inv X pins σ H' s2 ∧ RelV x u ∧ J.yld i H x H' ∧ tn (i + 1) s2.heap ∧ ∀ b ∈ fp, H' b = none) E s1) E s
  done : ∀ (X : Cx), X.prog = P → X.w = w → X.K = K → X.calm = true → ∀ (i : Nat) (pins : List (Addr × Obj)) (s : Shared) (σ : St) (H : Hp) (E : Value → Shared → Prop), Inv X pins σ H s → (∀ b ∈ fp, FpOk X pins H b) → tn i s.heap → J.stop i H →
    wpAny (model P w) X.A (pyNext (.ref it)) (fun r s1 => r = none ∧ Inv X pins σ H s1) E s
  self : ∀ (A : Around) (i : Nat) (s : Shared) (Q : Value → Shared → Prop) (E : Value → Shared → Prop), tn i s.heap → Q (.ref it) s → wpAny (model P w) A (pyIter (.ref it)) Q E s
abbrev TI := St → Hp → (It → Hp → Prop) → Prop
/-- an iterator has come -/
def PIE (X : Cx) (pins : List (Addr × Obj)) (σ : St) (tg : Expr) (R : It → Hp → Prop) (itv : Value) (s2 : Shared) : Prop :=
  ∃ (it : Addr) (fp : List Addr) (tn : Nat → Heap → Prop) (J : It) (H' : Hp), itv = .ref it ∧ Inv X pins σ H' s2 ∧ Turn X.prog X.w X.K tg J fp it tn ∧ tn 0 s2.heap ∧ (∀ b ∈ fp, FpOk X pins H' b) ∧ R J H'
def PI (X : Cx) (tg iter : Expr) (wi : TI) : Prop :=
  ∀ (pins : List (Addr × Obj)) (s : Shared) (σ : St) (H : Hp) (R : It → Hp → Prop), Inv X pins σ H s → wi σ H R →
    wpAny (model X.prog X.w) X.A (eval iter X.env) (fun v s1 => wpAny (model X.prog X.w) X.A (pyIter v) (PIE X pins σ tg R) X.xe s1) X.xe s

/-- the step ahead of the store is nothing for an iterator that keeps no tuple -/
theorem go_of {M : Model} {A : Around} {E : Value → Shared → Prop} {s : Shared} {tg : Expr} {it : Addr} {u : Value} {o : Obj} {n : String} {vs : Array Value} {Q : Unit → Shared → Prop} (ho : s.heap.get? it = some o) (hc : o.cls = .type n) (hd : o.data = .fields vs)
    (hn : ["enumerate", "zip", "dict_itemiterator", "dict_reverseitemiterator", "odict_iterator", "itertools.zip_longest", "itertools.pairwise"].contains n = false) (hQ : Q () s) : wpAny M A (letOwnedTupleGo tg (.ref it) u) Q E s := by
  unfold letOwnedTupleGo
  cases tg <;> first
    | exact wpAny_pure hQ
    | (cases u <;> first
        | exact wpAny_pure hQ
        | (refine wpAny_bind (wpAny_load ho ?_)
           rw [hc, hd]
           show wpAny M A (if (["enumerate", "zip", "dict_itemiterator", "dict_reverseitemiterator", "odict_iterator", "itertools.zip_longest", "itertools.pairwise"].contains n && vs[0]? == some (rawInt _)) = true then _ else _) Q E s
           rw [if_neg (by intro h; rw [hn, Bool.false_and] at h; cases h)]
           exact wpAny_pure hQ))

/-- the list at a, as it stands at each turn (a loop may append to it) -/
def Itl (K : PySem.W.Frag) (a : Addr) : It :=
  ⟨fun i H => ∃ xs x, SqL K H a xs ∧ xs[i]? = some x, fun i H x H' => H' = H ∧ ∀ xs, SqL K H a xs → xs[i]? = some x, fun i H => ∃ xs, SqL K H a xs ∧ xs.length ≤ i⟩
/-- lo, lo + 1, .. (n of them) -/
def Itr (lo : Int) (n : Nat) : It := ⟨fun i _ => i < n, fun i H x H' => H' = H ∧ x = .int (lo + i), fun i _ => n ≤ i⟩
theorem turn_list {P : Program} {w : World} {K : PySem.W.Frag} {tg : Expr} (a it : Addr) : Turn P w K tg (Itl K a) [it] it (fun i h => h.IsListIter it a i) where
  mem := by simp
  obj := fun i h st b hb => by
    have e : b = it := by simpa using hb
    subst e
    obtain ⟨o, e, c, d⟩ := st
    exact ⟨o, e, fun v z => by rw [d] at z; cases z⟩
  keep := fun i h h' st k => st.at fun o e => k it (by simp) o e
  item := by
    intro X hP hw hK hc i pins s σ H E I hf st hg
    subst hP hw hK
    obtain ⟨xs, x, hq, hx⟩ := hg
    obtain ⟨its, rv, p, hz⟩ := I.list hq
    obtain ⟨u, hu, ru⟩ := rv.get hx
    obtain ⟨f0, f1, f2, f3, f4, f5⟩ := hf it (by simp)
    refine wpAny_pyNext_list_item st p.isList (x := u) (by simpa using hu) fun h' st' sb => ?_
    have I1 : Inv X pins σ H { s with heap := h' } := I.turned (t' := s.toks) (fun b o hb e => (sb.2 b hb).trans e) f0 f1 f3 f4 f5
    obtain ⟨o, e, c, d⟩ := id st'
    exact ⟨u, rfl, go_of (s := { s with heap := h' }) e c d (by decide) ⟨x, H, I1, ru, ⟨rfl, fun ys hy => by rw [I.list_inj hy hq]; exact hx⟩, st', fun b hb => (hf b hb).1⟩⟩
  done := by
    intro X hP hw hK hc i pins s σ H E I hf st hg
    subst hP hw hK
    obtain ⟨xs, hq, hx⟩ := hg
    obtain ⟨its, rv, p, hz⟩ := I.list hq
    obtain ⟨f0, f1, f2, f3, f4, f5⟩ := hf it (by simp)
    have hl := rv.length
    exact wpAny_pyNext_list_end (I.ok.hd hc) st p.isList (by simp; omega) fun h' eb => ⟨rfl, I.turned (t' := s.toks) (fun b o hb e => eb b o hb e) f0 f1 f3 f4 f5⟩
  self := fun _ _ _ _ _ st h => wpAny_pyIter_listiter st h
theorem turn_range {P : Program} {w : World} {K : PySem.W.Frag} {tg : Expr} (it : Addr) (lo : Int) (n : Nat) : Turn P w K tg (Itr lo n) [it] it (fun i h => IsRangeIter h it (lo + (i : Nat) * 1) ((n : Int) - (i : Nat)) 1) where
  mem := by simp
  obj := fun i h st b hb => by
    have e : b = it := by simpa using hb
    subst e
    exact ⟨_, st, fun v z => by
      have z' : Data.fields _ = Data.cell v := z
      cases z'⟩
  keep := fun i h h' st k => k it (by simp) _ st
  item := by
    intro X hP hw hK hc i pins s σ H E I hf st hg
    subst hP hw hK
    obtain ⟨f0, f1, f2, f3, f4, f5⟩ := hf it (by simp)
    have W := Walks.range (prog := X.prog) (w := X.w) (I.ok.hd hc) it lo 1 n
    refine W.item i s _ _ hg st fun v h' tk hv st' kk => ?_
    obtain ⟨t, rfl⟩ := hv
    have I1 : Inv X pins σ H { s with heap := h', toks := tk } := I.turned (fun b o hb e => kk b o (by simpa using hb) e) f0 f1 f3 f4 f5
    refine ⟨_, rfl, go_of (s := { s with heap := h', toks := tk }) (n := "range_iterator") st' rfl rfl (by decide) ⟨.int (lo + i), H, I1, ⟨t, ?_⟩, ⟨rfl, rfl⟩, st', fun b hb => (hf b hb).1⟩⟩
    rw [Int.mul_one]
  done := by
    intro X hP hw hK hc i pins s σ H E I hf st hg
    subst hP hw hK
    obtain ⟨f0, f1, f2, f3, f4, f5⟩ := hf it (by simp)
    exact wpAny_pyNext_range_end (I.ok.hd hc) st (by have : n ≤ i := hg; omega) fun h' eb => ⟨rfl, I.turned (t' := s.toks) (fun b o hb e => eb b o hb e) f0 f1 f3 f4 f5⟩
  self := fun _ _ _ _ _ st h => wpAny_pyIter_rangeiter st h
end L2

namespace L2
open PySem PySem.Spec PyProof.Rows
section
variable {X : Cx} {tg : Expr}
def iList (K : PySem.W.Frag) (tl : TE) : TI := fun σ H R => tl σ H fun x H1 => ∃ a, x = .ref a ∧ (∃ xs, SqL K H1 a xs) ∧ R (Itl K a) H1
theorem pi_list {l : Expr} {tl : TE} (hl : PE X l tl) : PI X tg l (iList X.K tl) := by
  intro pins s σ H R I h
  refine thn (hl pins s σ H _ I h) fun v s1 ⟨x, H1, I1, r1, q1⟩ => ?_
  obtain ⟨a, e, ⟨xs, hq⟩, q⟩ := q1
  subst e
  cases r1
  obtain ⟨its, rv, p, hz⟩ := I1.list hq
  refine wpAny_pyIter_list p.isList ?_
  refine ⟨s1.heap.objs.size, [s1.heap.objs.size], _, _, H1, rfl, I1.kept (t' := s1.toks) fun b o e => Heap.get?_push_of_some _ e, turn_list a _, ⟨_, Heap.get?_push_size _ rfl, rfl, rfl⟩, fun b hb => ?_, q⟩
  have e : b = s1.heap.objs.size := by simpa using hb
  subst e
  exact I1.fpOk (Nat.le_refl _) (I1.hok.fresh (Nat.le_refl _))
/-- a range object just made, walked -/
theorem range_it {pins : List (Addr × Obj)} {σ : St} {H : Hp} {s : Shared} {R : It → Hp → Prop} {E : Value → Shared → Prop} {lo hi : Int} {t u v : Tok} {tk : Nat} (I : Inv X pins σ H s) (h1 : -(2 ^ 62) ≤ lo) (h2 : lo < 2 ^ 62) (h3 : -(2 ^ 62) ≤ hi) (h4 : hi < 2 ^ 62)
    (q : R (Itr lo (hi - lo).toNat) H) : wpAny (model X.prog X.w) X.A (pyIter (.ref s.heap.objs.size)) (PIE X pins σ tg R) E { s with heap := s.heap.push { cls := .type "range", data := .fields #[.int lo t, .int hi u, .int 1 v] }, toks := tk } := by
  refine wpAny_pyIter_range (IsRange.new ..) (small_one h1 h2 h3 h4) ?_
  have I1 : Inv X pins σ H { s with heap := s.heap.push { cls := .type "range", data := .fields #[.int lo t, .int hi u, .int 1 v] }, toks := tk } := I.kept fun b o e => Heap.get?_push_of_some _ e
  refine ⟨(s.heap.push { cls := .type "range", data := .fields #[.int lo t, .int hi u, .int 1 v] }).objs.size, [(s.heap.push { cls := .type "range", data := .fields #[.int lo t, .int hi u, .int 1 v] }).objs.size], _, _, H, rfl,
    I1.kept (t' := tk) fun b o e => Heap.get?_push_of_some _ e, turn_range _ lo (hi - lo).toNat, ?_, fun b hb => ?_, q⟩
  · have e1 : lo + ((0 : Nat) : Int) * 1 = lo := by simp
    have e2 : (((hi - lo).toNat : Nat) : Int) - ((0 : Nat) : Int) = Builtin.Range.rangeSize lo hi 1 := by rw [rangeSize_one]; split <;> omega
    show IsRangeIter _ _ (lo + ((0 : Nat) : Int) * 1) ((((hi - lo).toNat : Nat) : Int) - ((0 : Nat) : Int)) 1
    rw [e1, e2]
    exact Heap.get?_push_size _ rfl
  · have e : b = (s.heap.push { cls := .type "range", data := .fields #[.int lo t, .int hi u, .int 1 v] }).objs.size := by simpa using hb
    subst e
    exact I1.fpOk (Nat.le_refl _) (I1.hok.fresh (Nat.le_refl _))
def iRng1 (ta : TA) : TI := fun σ H R => ta σ H fun vs H1 => ∃ j : Int, vs = [.int j] ∧ -(2 ^ 62) ≤ j ∧ j < 2 ^ 62 ∧ R (Itr 0 j.toNat) H1
theorem pi_range1 {a : Expr} {ta : TA} {p pos : Pos} (hg : Gl X "range") (hm : X.mg "range" = none) (ha : PA X [a] ta) (hs : starEach [a] X.env = [(false, eval a X.env)] := by rfl) : PI X tg (.Call (.Name "range" p) [a] [] pos) (iRng1 ta) := by
  intro pins s σ H R I h
  refine Call_ (ld_blt I hg hm boot_range (PyProof.Rows.callWith_type1 (thn (ha pos pins s σ H _ I h) fun us s1 ⟨vs, H1, I1, r1, q1⟩ => ?_) hs rfl))
  obtain ⟨j, e, q1, q2, q⟩ := q1
  subst e
  cases r1 with
  | cons r rr =>
    cases rr
    obtain ⟨t, rfl⟩ := r
    exact call_range_1 (range_it I1 (by omega) (by omega) q1 q2 (by simpa using q))
/-! ### for -/
/-- W: the invariant by the turn and a measure; N: what the body is to reach -/
def tFor (wi : TI) (g : TG) (tb : TS) : TS := fun D σ H => wi σ H fun J H1 => ∃ W : Nat → Nat → St → Hp → Prop, (∃ m, W 0 m σ H1) ∧ ∀ i m σ H, W i m σ H →
  (J.stop i H ∧ D.nx σ H) ∨ (J.go i H ∧ ∃ N : St → Hp → Prop, (∀ σ' H', N σ' H' → ∃ m', m' < m ∧ W (i + 1) m' σ' H') ∧ ∀ x H', J.yld i H x H' → g x σ H' fun σ2 H2 => tb { D with nx := N, ct := N, bk := D.nx } σ2 H2)
/-- the records at fp as they stand -/
def pinsAt (fp : List Addr) (h : Heap) : List (Addr × Obj) := fp.filterMap fun b => (h.get? b).map fun o => (b, o)
theorem mem_pinsAt {fp : List Addr} {h : Heap} {b : Addr} {o : Obj} (hb : b ∈ fp) (e : h.get? b = some o) : (b, o) ∈ pinsAt fp h := List.mem_filterMap.mpr ⟨b, hb, by rw [e]; rfl⟩
theorem of_pinsAt {fp : List Addr} {h : Heap} {p : Addr × Obj} (hp : p ∈ pinsAt fp h) : p.1 ∈ fp ∧ h.get? p.1 = some p.2 := by
  obtain ⟨b, hb, e⟩ := List.mem_filterMap.mp hp
  cases q : h.get? b with
  | none => rw [q] at e; cases e
  | some o =>
    rw [q] at e
    have e' : (b, o) = p := Option.some.inj e
    subst e'
    exact ⟨hb, q⟩
theorem Inv.pinned {pins : List (Addr × Obj)} {σ : St} {H : Hp} {s : Shared} {fp : List Addr} (I : Inv X pins σ H s) (hf : ∀ b ∈ fp, FpOk X pins H b) (ho : ∀ b ∈ fp, ∃ o, s.heap.get? b = some o ∧ ∀ v, o.data ≠ .cell v) : Inv X (pins ++ pinsAt fp s.heap) σ H s :=
  I.pins_of fun p hp => (List.mem_append.mp hp).elim (fun z => I.pin p (List.mem_append_right _ z)) fun z => by
    obtain ⟨hb, e⟩ := of_pinsAt z
    obtain ⟨f0, f1, f2, _⟩ := hf p.1 hb
    obtain ⟨o, e', d⟩ := ho p.1 hb
    rw [e] at e'; cases e'
    exact ⟨e, f0, f1, f2, d⟩
theorem Inv.unpinned {pins pl : List (Addr × Obj)} {σ : St} {H : Hp} {s : Shared} (I : Inv X (pins ++ pl) σ H s) : Inv X pins σ H s := I.pins_of fun p hp => I.pin p (List.mem_append_right _ (List.mem_append_left _ hp))
theorem ps_for {iter : Expr} {body : List Stmt} {wi : TI} {g : TG} {tb : TS} {pos : Pos} (hp : PassesOwn (model X.prog X.w) X.A X.env X.xe) (hc : X.calm = true) (hi : PI X tg iter wi) (hg : PG X tg g) (hb : PSs X body tb)
    (hs : ∀ x, foldedSetIterable iter X.env x = pure x := by intro _; rfl) : PS X (.For tg iter body [] pos) (tFor wi g tb) := by
  intro pins s σ H D I h
  refine wpAny_For (thn (hi pins s σ H _ I h) fun v s1 h1 => thn h1 fun itv s2 h2 => ?_) hs
  obtain ⟨it, fp, tn, J, H2, e, I2, T, st2, f2, W, ⟨m0, w0⟩, turn⟩ := h2
  subst e
  -- what stays true of the iterator's objects through the loop
  have stat : ∀ {H' : Hp}, (∀ b ∈ fp, H' b = none) → ∀ b ∈ fp, FpOk X pins H' b := fun hn b hb => ⟨hn b hb, (f2 b hb).2⟩
  refine codeAny_forLoop_any (fun n s' => ∃ i σ' H', Inv X pins σ' H' s' ∧ tn i s'.heap ∧ (∀ b ∈ fp, H' b = none) ∧ W i n σ' H') ?_ m0 ⟨0, σ, H2, I2, st2, fun b hb => (f2 b hb).1, w0⟩
  rintro n s3 ⟨i, σ3, H3, I3, st3, fr3, w3⟩
  rcases turn i n σ3 H3 w3 with ⟨stop, qn⟩ | ⟨go, N, hN, step⟩
  · refine wpAny_passesOwn hp (thn (T.done X rfl rfl rfl hc i pins s3 σ3 H3 X.xe I3 (stat fr3) st3 stop) fun r s4 ⟨hr, I4⟩ => ?_)
    subst hr
    exact wpAny_execs_nil ⟨σ3, H3, I4, qn⟩
  · refine wpAny_passesOwn hp (thn (T.item X rfl rfl rfl hc i pins s3 σ3 H3 X.xe I3 (stat fr3) st3 go) fun r s4 ⟨u, hr, h4⟩ => ?_)
    subst hr
    refine wpAny_passesOwn hp (thn h4 fun _ s5 ⟨x, H5, I5, r5, y5, st5, fr5⟩ => ?_)
    have I5' := I5.pinned (stat fr5) (T.obj _ _ st5)
    refine wpAny_passesOwn hp (thn (hg _ s5 σ3 H5 x u _ I5' r5 (step x H5 y5)) fun _ s6 ⟨σ6, H6, I6, q6⟩ => ?_)
    refine wpAny_passesOwn hp (thn (hb _ s6 σ6 H6 _ I6 q6) fun f s7 q7 => ?_)
    have again : ∀ {σ7 : St} {H7 : Hp}, Inv X (pins ++ pinsAt fp s5.heap) σ7 H7 s7 → N σ7 H7 → ∃ m, m < n ∧ ∃ i σ' H', Inv X pins σ' H' s7 ∧ tn i s7.heap ∧ (∀ b ∈ fp, H' b = none) ∧ W i m σ' H' := fun {σ7 H7} I7 n7 => by
      obtain ⟨m', hm, w7⟩ := hN σ7 H7 n7
      refine ⟨m', hm, i + 1, σ7, H7, I7.unpinned, T.keep _ _ _ st5 fun b hb o e => (I7.pin (b, o) (List.mem_append_right _ (List.mem_append_right _ (mem_pinsAt hb e)))).1, fun b hb => ?_, w7⟩
      obtain ⟨o, e, d⟩ := T.obj _ _ st5 b hb
      exact (I7.pin (b, o) (List.mem_append_right _ (List.mem_append_right _ (mem_pinsAt hb e)))).2.1
    cases f with
    | next => obtain ⟨σ7, H7, I7, n7⟩ := q7; exact again I7 n7
    | cont => obtain ⟨σ7, H7, I7, n7⟩ := q7; exact again I7 n7
    | brk => obtain ⟨σ7, H7, I7, q7⟩ := q7; exact ⟨σ7, H7, I7.unpinned, q7⟩
    | ret v => obtain ⟨x7, σ7, H7, I7, r7, q7⟩ := q7; exact ⟨x7, σ7, H7, I7.unpinned, r7, q7⟩
end

/-! ### the forms one uses -/
/-- over a list that the body leaves as it is -/
theorem for_list {K : PySem.W.Frag} {a : Addr} {xs : List V} {g : TG} {tb : TS} {D : Ends} {σ : St} {H : Hp} (Pv : Nat → St → Hp → Prop) (h0 : Pv 0 σ H) (hl : ∀ i σ H, i ≤ xs.length → Pv i σ H → SqL K H a xs)
    (hs : ∀ i x σ H, xs[i]? = some x → Pv i σ H → g x σ H fun σ2 H2 => tb { D with nx := Pv (i + 1), ct := Pv (i + 1), bk := D.nx } σ2 H2) (hd : ∀ σ H, Pv xs.length σ H → D.nx σ H) :
    ∃ W : Nat → Nat → St → Hp → Prop, (∃ m, W 0 m σ H) ∧ ∀ i m σ H, W i m σ H →
      ((Itl K a).stop i H ∧ D.nx σ H) ∨ ((Itl K a).go i H ∧ ∃ N : St → Hp → Prop, (∀ σ' H', N σ' H' → ∃ m', m' < m ∧ W (i + 1) m' σ' H') ∧ ∀ x H', (Itl K a).yld i H x H' → g x σ H' fun σ2 H2 => tb { D with nx := N, ct := N, bk := D.nx } σ2 H2) := by
  refine ⟨fun i m σ H => m = xs.length - i ∧ i ≤ xs.length ∧ Pv i σ H, ⟨xs.length, by simp, Nat.zero_le _, h0⟩, ?_⟩
  rintro i m σ H ⟨rfl, hi, p⟩
  have q := hl i σ H hi p
  by_cases hlt : i < xs.length
  · refine .inr ⟨⟨xs, xs[i], q, by simp [hlt]⟩, Pv (i + 1), fun σ' H' p' => ⟨xs.length - (i + 1), by omega, rfl, hlt, p'⟩, fun x H' y => ?_⟩
    obtain ⟨e, y⟩ := y
    subst e
    exact hs i x σ _ (y xs q) p
  · have e : i = xs.length := by omega
    subst e
    exact .inl ⟨⟨xs, q, Nat.le_refl _⟩, hd σ H p⟩
theorem for_range {lo : Int} {n : Nat} {g : TG} {tb : TS} {D : Ends} {σ : St} {H : Hp} (Pv : Nat → St → Hp → Prop) (h0 : Pv 0 σ H)
    (hs : ∀ i σ H, i < n → Pv i σ H → g (.int (lo + i)) σ H fun σ2 H2 => tb { D with nx := Pv (i + 1), ct := Pv (i + 1), bk := D.nx } σ2 H2) (hd : ∀ σ H, Pv n σ H → D.nx σ H) :
    ∃ W : Nat → Nat → St → Hp → Prop, (∃ m, W 0 m σ H) ∧ ∀ i m σ H, W i m σ H →
      ((Itr lo n).stop i H ∧ D.nx σ H) ∨ ((Itr lo n).go i H ∧ ∃ N : St → Hp → Prop, (∀ σ' H', N σ' H' → ∃ m', m' < m ∧ W (i + 1) m' σ' H') ∧ ∀ x H', (Itr lo n).yld i H x H' → g x σ H' fun σ2 H2 => tb { D with nx := N, ct := N, bk := D.nx } σ2 H2) := by
  refine ⟨fun i m σ H => m = n - i ∧ i ≤ n ∧ Pv i σ H, ⟨n, by simp, Nat.zero_le _, h0⟩, ?_⟩
  rintro i m σ H ⟨rfl, hi, p⟩
  by_cases hlt : i < n
  · refine .inr ⟨hlt, Pv (i + 1), fun σ' H' p' => ⟨n - (i + 1), by omega, rfl, hlt, p'⟩, fun x H' y => ?_⟩
    obtain ⟨e, y⟩ := y
    subst e y
    exact hs i σ _ hlt p
  · have e : i = n := by omega
    subst e
    exact .inl ⟨Nat.le_refl _, hd σ H p⟩
end L2

namespace L2
open PySem PySem.Spec PyProof.Rows

abbrev R2 := V → V → Hp → VK → Prop
/-- a two-place operation on values: f is binaryOp op, inplaceOp op or compareOp op -/
def OpR (X : Cx) (f : Value → Value → Sem Value) (r : R2) : Prop :=
  ∀ (pins : List (Addr × Obj)) (s : Shared) (σ : St) (H : Hp) (x y : V) (v u : Value) (Q : VK), Inv X pins σ H s → RelV x v → RelV y u → r x y H Q →
    wpAny (model X.prog X.w) X.A (f v u) (EP X pins σ Q) X.xe s
/-- a one-place operation -/
def UnR (X : Cx) (f : Value → Sem Value) (r : V → Hp → VK → Prop) : Prop :=
  ∀ (pins : List (Addr × Obj)) (s : Shared) (σ : St) (H : Hp) (x : V) (v : Value) (Q : VK), Inv X pins σ H s → RelV x v → r x H Q →
    wpAny (model X.prog X.w) X.A (f v) (EP X pins σ Q) X.xe s
/-- a call of a value that is known (a builtin, a type) with values -/
def CallR (X : Cx) (f : Value) (r : List V → Hp → VK → Prop) : Prop :=
  ∀ (pins : List (Addr × Obj)) (s : Shared) (σ : St) (H : Hp) (xs : List V) (us : List Value) (Q : VK), Inv X pins σ H s → Vals xs us → r xs H Q →
    wpAny (model X.prog X.w) X.A (call f us) (EP X pins σ Q) X.xe s
def tOp (r : R2) (ta tb : TE) : TE := fun σ H Q => ta σ H fun x H1 => tb σ H1 fun y H2 => r x y H2 Q
def tUn (r : V → Hp → VK → Prop) (ta : TE) : TE := fun σ H Q => ta σ H fun x H1 => r x H1 Q
/-- ints in, under C, and a value out -/
def rI (C : Int → Int → Prop) (g : Int → Int → V) : R2 := fun x y H Q => ∃ i j, x = .int i ∧ y = .int j ∧ C i j ∧ Q (g i j) H
def rI0 (g : Int → Int → V) : R2 := fun x y H Q => ∃ i j, x = .int i ∧ y = .int j ∧ Q (g i j) H
def rU (g : Int → V) : V → Hp → VK → Prop := fun x H Q => ∃ i, x = .int i ∧ Q (g i) H

section
variable {X : Cx} {a b c : Expr} {ta tb tc : TE} {pos : Pos}

theorem binT (ha : PE X a ta) (hb : PE X b tb) {pins : List (Addr × Obj)} {s : Shared} {σ : St} {H : Hp} {R : V → V → Hp → Prop} (I : Inv X pins σ H s)
    (h : ta σ H fun x H1 => tb σ H1 fun y H2 => R x y H2) {Q : Value → Shared → Prop} {f : Value → Value → Sem Value}
    (hf : ∀ v u s2 x y H2, Inv X pins σ H2 s2 → RelV x v → RelV y u → R x y H2 → wpAny (model X.prog X.w) X.A (f v u) Q X.xe s2) :
    wpAny (model X.prog X.w) X.A (eval a X.env) (fun v s₁ => wpAny (model X.prog X.w) X.A (eval b X.env) (fun u s₂ => wpAny (model X.prog X.w) X.A (f v u) Q X.xe s₂) X.xe s₁) X.xe s := by
  refine thn (ha pins s σ H _ I h) fun v s1 ⟨x, H1, I1, r1, q1⟩ => ?_
  refine thn (hb pins s1 σ H1 _ I1 q1) fun u s2 ⟨y, H2, I2, r2, q2⟩ => ?_
  exact hf v u s2 x y H2 I2 r1 r2 q2

theorem pe_op {op : Operator} {r : R2} (ho : OpR X (binaryOp op) r) (ha : PE X a ta) (hb : PE X b tb) : PE X (.BinOp a op b pos) (tOp r ta tb) := by
  intro pins s σ H Q I h
  exact wpAny_BinOp (binT ha hb I h fun v u s2 x y H2 I2 rx ry q => ho pins s2 σ H2 x y v u Q I2 rx ry q)
theorem pe_un {op : UnaryOp} {r : V → Hp → VK → Prop} (ho : UnR X (unaryOp op) r) (ha : PE X a ta) : PE X (.UnaryOp op a pos) (tUn r ta) := by
  intro pins s σ H Q I h
  exact UnaryOp_ (thn (ha pins s σ H _ I h) fun v s1 ⟨x, H1, I1, r1, q1⟩ => ho pins s1 σ H1 x v Q I1 r1 q1)
/-! ### ints -/
theorem opI {f : Value → Value → Sem Value} {C : Int → Int → Prop} {g : Int → Int → Int}
    (rule : ∀ (i j : Int) (t u : Tok) (s : Shared) (Q : Value → Shared → Prop) (E : Value → Shared → Prop), C i j → Q (.int (g i j) s.toks) { s with toks := s.toks + 1 } → wpAny (model X.prog X.w) X.A (f (.int i t) (.int j u)) Q E s) :
    OpR X f (rI C fun i j => .int (g i j)) := by
  intro pins s σ H x y v u Q I rx ry h
  obtain ⟨i, j, rfl, rfl, hc, q⟩ := h
  obtain ⟨t, rfl⟩ := rx
  obtain ⟨t', rfl⟩ := ry
  exact rule i j t t' s _ _ hc ⟨.int (g i j), H, I.tok _, ⟨_, rfl⟩, q⟩
theorem opI0 {f : Value → Value → Sem Value} {g : Int → Int → Int}
    (rule : ∀ (i j : Int) (t u : Tok) (s : Shared) (Q : Value → Shared → Prop) (E : Value → Shared → Prop), Q (.int (g i j) s.toks) { s with toks := s.toks + 1 } → wpAny (model X.prog X.w) X.A (f (.int i t) (.int j u)) Q E s) :
    OpR X f (rI0 fun i j => .int (g i j)) := by
  intro pins s σ H x y v u Q I rx ry h
  obtain ⟨i, j, rfl, rfl, q⟩ := h
  obtain ⟨t, rfl⟩ := rx
  obtain ⟨t', rfl⟩ := ry
  exact rule i j t t' s _ _ ⟨.int (g i j), H, I.tok _, ⟨_, rfl⟩, q⟩
theorem opB0 {f : Value → Value → Sem Value} {g : Int → Int → Bool}
    (rule : ∀ (i j : Int) (t u : Tok) (s : Shared) (Q : Value → Shared → Prop) (E : Value → Shared → Prop), Q (.bool (g i j)) s → wpAny (model X.prog X.w) X.A (f (.int i t) (.int j u)) Q E s) :
    OpR X f (rI0 fun i j => .bl (g i j)) := by
  intro pins s σ H x y v u Q I rx ry h
  obtain ⟨i, j, rfl, rfl, q⟩ := h
  obtain ⟨t, rfl⟩ := rx
  obtain ⟨t', rfl⟩ := ry
  exact rule i j t t' s _ _ ⟨.bl (g i j), H, I, rfl, q⟩

def CDiv (i j : Int) : Prop := 0 < j ∧ j < 1073741824
def CPow (i j : Int) : Prop := 0 ≤ j ∧ j ≤ 1000000 ∧ i.natAbs < 2 ^ 64
def CMul (i j : Int) : Prop := (-(2 ^ 64) < i ∧ i < 2 ^ 64) ∨ (-(2 ^ 64) < j ∧ j < 2 ^ 64)
theorem CMul.ok {i j : Int} (h : CMul i j) : IntMulOk i j := by
  rcases h with ⟨h1, h2⟩ | ⟨h1, h2⟩
  · exact .of_left (intBits_le_64 h1 h2)
  · exact .of_right (intBits_le_64 h1 h2)
theorem op_add : OpR X (binaryOp .Add) (rI0 fun i j => .int (i + j)) := opI0 fun _ _ _ _ _ _ _ q => add_int q
theorem op_sub : OpR X (binaryOp .Sub) (rI0 fun i j => .int (i - j)) := opI0 fun _ _ _ _ _ _ _ q => sub_int q
theorem op_mul : OpR X (binaryOp .Mult) (rI CMul fun i j => .int (i * j)) := opI fun _ _ _ _ _ _ _ hc q => mul_int q hc.ok
/-- // by a positive divisor -/
theorem op_fdiv : OpR X (binaryOp .FloorDiv) (rI CDiv fun i j => .int (i / j)) := opI fun i j _ _ _ _ _ hc q => by
  have h1 : (0 : Int) < j := hc.1
  have h2 : j < 1073741824 := hc.2
  exact floordiv_int (by omega) (by rw [Int.fdiv_eq_ediv_of_nonneg i (by omega)]; exact q) (.inl (PyProof.noPylong_small (by omega)))
/-- % by a positive divisor of any size -/
theorem op_mod : OpR X (binaryOp .Mod) (rI (fun _ j => 0 < j) fun i j => .int (i % j)) := opI fun i j _ _ _ _ _ hc q => by
  have h1 : (0 : Int) < j := hc
  exact mod_int' (by omega) (by rw [Int.fmod_eq_emod_of_nonneg i (by omega)]; exact q)
theorem op_pow : OpR X (binaryOp .Pow) (rI CPow fun i j => .int (i ^ j.toNat)) := opI fun _ _ _ _ _ _ _ hc q => pow_int_small hc.1 hc.2.1 hc.2.2 q
theorem unI {f : Value → Sem Value} {g : Int → Int}
    (rule : ∀ (i : Int) (t : Tok) (s : Shared) (Q : Value → Shared → Prop) (E : Value → Shared → Prop), Q (.int (g i) s.toks) { s with toks := s.toks + 1 } → wpAny (model X.prog X.w) X.A (f (.int i t)) Q E s) :
    UnR X f (rU fun i => .int (g i)) := by
  intro pins s σ H x v Q I rx h
  obtain ⟨i, rfl, q⟩ := h
  obtain ⟨t, rfl⟩ := rx
  exact rule i t s _ _ ⟨.int (g i), H, I.tok _, ⟨_, rfl⟩, q⟩
theorem un_neg : UnR X (unaryOp .USub) (rU fun i => .int (-i)) := unI fun _ _ _ _ _ q => neg_int q
/-! ### bools among ints: n += (a < b) -/
end

/-! ### comparisons -/
/-- the scalars that == tells apart as data does -/
def scal : V → V → Bool
  | .non, .non => true | .non, .int _ => true | .int _, .non => true | .non, .bl _ => true | .bl _, .non => true | .non, .str _ => true | .str _, .non => true
  | .int _, .int _ => true | .bl _, .bl _ => true | .str _, .str _ => true | .byt _, .byt _ => true
  | .int _, .str _ => true | .str _, .int _ => true | .bl _, .str _ => true | .str _, .bl _ => true
  | _, _ => false
def rEq : R2 := fun x y H Q => scal x y = true ∧ Q (.bl (decide (x = y))) H
def rNe : R2 := fun x y H Q => scal x y = true ∧ Q (.bl (!decide (x = y))) H

theorem dec_int {i j : Int} : decide (V.int i = V.int j) = (i == j) := by
  rw [Bool.eq_iff_iff]
  simp
theorem dec_bl {i j : Bool} : decide (V.bl i = V.bl j) = (i == j) := by
  rw [Bool.eq_iff_iff]
  simp
theorem dec_str {i j : Str} : decide (V.str i = V.str j) = (i == j) := by
  rw [Bool.eq_iff_iff]
  simp
theorem dec_byt {i j : Array UInt8} : decide (V.byt i = V.byt j) = (i.toList == j.toList) := by
  rw [Bool.eq_iff_iff]
  cases i
  cases j
  simp

section
variable {X : Cx} {a b c : Expr} {ta tb tc : TE} {pos : Pos}
theorem fin_bl {pins : List (Addr × Obj)} {σ : St} {H : Hp} {s : Shared} {Q : VK} {k k' : Bool} (I : Inv X pins σ H s) (q : Q (.bl k) H) (e : k = k') : EP X pins σ Q (.bool k') s := by
  subst e
  exact ⟨.bl k, H, I, rfl, q⟩
theorem op_eq : OpR X (compareOp .Eq) rEq := by
  intro pins s σ H x y v u Q I rx ry h
  obtain ⟨hs, q⟩ := h
  cases x with
  | non =>
    cases rx
    cases y with
    | non => cases ry; exact PySem.EqNone.eq_none_none (fin_bl I q (by simp))
    | bl j => cases ry; exact PySem.EqNone.eq_none_bool (fin_bl I q (by simp))
    | int j => obtain ⟨t', rfl⟩ := ry; exact PySem.EqNone.eq_none_int (fin_bl I q (by simp))
    | str j => obtain ⟨t', rfl⟩ := ry; exact PySem.EqNone.eq_none_str (fin_bl I q (by simp))
    | _ => exact absurd (show false = true from hs) Bool.false_ne_true
  | bl i =>
    cases rx
    cases y with
    | non => cases ry; exact PySem.EqNone.eq_bool_none (fin_bl I q (by simp))
    | bl j => cases ry; exact eq_bool (fin_bl I q dec_bl)
    | str j => obtain ⟨t', rfl⟩ := ry; exact PySem.EqMixed.eq_bool_str (fin_bl I q (by simp))
    | _ => exact absurd (show false = true from hs) Bool.false_ne_true
  | int i =>
    obtain ⟨t, rfl⟩ := rx
    cases y with
    | non => cases ry; exact PySem.EqNone.eq_int_none (fin_bl I q (by simp))
    | int j => obtain ⟨t', rfl⟩ := ry; exact eq_int (fin_bl I q dec_int)
    | str j => obtain ⟨t', rfl⟩ := ry; exact PySem.EqMixed.eq_int_str (fin_bl I q (by simp))
    | _ => exact absurd (show false = true from hs) Bool.false_ne_true
  | str i =>
    obtain ⟨t, rfl⟩ := rx
    cases y with
    | non => cases ry; exact PySem.EqNone.eq_str_none (fin_bl I q (by simp))
    | bl j => cases ry; exact PySem.EqMixed.eq_str_bool (fin_bl I q (by simp))
    | int j => obtain ⟨t', rfl⟩ := ry; exact PySem.EqMixed.eq_str_int (fin_bl I q (by simp))
    | str j => obtain ⟨t', rfl⟩ := ry; exact eq_str (fin_bl I q dec_str)
    | _ => exact absurd (show false = true from hs) Bool.false_ne_true
  | byt i =>
    obtain ⟨t, rfl⟩ := rx
    cases y with
    | byt j => obtain ⟨t', rfl⟩ := ry; exact PySem.W.eq_bytes (fin_bl I q dec_byt)
    | _ => exact absurd (show false = true from hs) Bool.false_ne_true
  | _ => cases y <;> exact absurd (show false = true from hs) Bool.false_ne_true
theorem op_ne : OpR X (compareOp .NotEq) rNe := by
  intro pins s σ H x y v u Q I rx ry h
  obtain ⟨hs, q⟩ := h
  cases x with
  | non =>
    cases rx
    cases y with
    | non => cases ry; exact PySem.EqNone.ne_none_none (fin_bl I q (by simp))
    | bl j => cases ry; exact PySem.EqNone.ne_none_bool (fin_bl I q (by simp))
    | int j => obtain ⟨t', rfl⟩ := ry; exact PySem.EqNone.ne_none_int (fin_bl I q (by simp))
    | str j => obtain ⟨t', rfl⟩ := ry; exact PySem.EqNone.ne_none_str (fin_bl I q (by simp))
    | _ => exact absurd (show false = true from hs) Bool.false_ne_true
  | bl i =>
    cases rx
    cases y with
    | non => cases ry; exact PySem.EqNone.ne_bool_none (fin_bl I q (by simp))
    | bl j => cases ry; exact ne_bool (fin_bl I q (congrArg not dec_bl))
    | str j => obtain ⟨t', rfl⟩ := ry; exact PySem.EqMixed.ne_bool_str (fin_bl I q (by simp))
    | _ => exact absurd (show false = true from hs) Bool.false_ne_true
  | int i =>
    obtain ⟨t, rfl⟩ := rx
    cases y with
    | non => cases ry; exact PySem.EqNone.ne_int_none (fin_bl I q (by simp))
    | int j => obtain ⟨t', rfl⟩ := ry; exact ne_int (fin_bl I q (congrArg not dec_int))
    | str j => obtain ⟨t', rfl⟩ := ry; exact PySem.EqMixed.ne_int_str (fin_bl I q (by simp))
    | _ => exact absurd (show false = true from hs) Bool.false_ne_true
  | str i =>
    obtain ⟨t, rfl⟩ := rx
    cases y with
    | non => cases ry; exact PySem.EqNone.ne_str_none (fin_bl I q (by simp))
    | bl j => cases ry; exact PySem.EqMixed.ne_str_bool (fin_bl I q (by simp))
    | int j => obtain ⟨t', rfl⟩ := ry; exact PySem.EqMixed.ne_str_int (fin_bl I q (by simp))
    | str j => obtain ⟨t', rfl⟩ := ry; exact ne_str (fin_bl I q (congrArg not dec_str))
    | _ => exact absurd (show false = true from hs) Bool.false_ne_true
  | byt i =>
    obtain ⟨t, rfl⟩ := rx
    cases y with
    | byt j => obtain ⟨t', rfl⟩ := ry; exact PySem.W.ne_bytes (fin_bl I q (congrArg not dec_byt))
    | _ => exact absurd (show false = true from hs) Bool.false_ne_true
  | _ => cases y <;> exact absurd (show false = true from hs) Bool.false_ne_true

theorem op_lt : OpR X (compareOp .Lt) (rI0 fun i j => .bl (decide (i < j))) := opB0 fun _ _ _ _ _ _ _ q => lt_int q
theorem op_gt : OpR X (compareOp .Gt) (rI0 fun i j => .bl (decide (j < i))) := opB0 fun _ _ _ _ _ _ _ q => gt_int q
theorem op_ge : OpR X (compareOp .GtE) (rI0 fun i j => .bl (decide (j ≤ i))) := opB0 fun _ _ _ _ _ _ _ q => ge_int q
/-- is None, is not None: the right side a value none -/
theorem op_isN : OpR X (compareOp .Is) (fun x y H Q => y = .non ∧ Q (.bl (decide (x = .non))) H) := by
  intro pins s σ H x y v u Q I rx ry h
  obtain ⟨rfl, q⟩ := h
  cases ry
  refine is_none_gen (fin_bl I q ?_)
  cases x <;> first
    | (cases rx; rfl)
    | (obtain ⟨t, rfl⟩ := rx; rfl)
theorem op_notN : OpR X (compareOp .IsNot) (fun x y H Q => y = .non ∧ Q (.bl (!decide (x = .non))) H) := by
  intro pins s σ H x y v u Q I rx ry h
  obtain ⟨rfl, q⟩ := h
  cases ry
  refine isnot_none_gen (fin_bl I q ?_)
  cases x <;> first
    | (cases rx; rfl)
    | (obtain ⟨t, rfl⟩ := rx; rfl)

theorem nomark (b : Expr) {op : CmpOp} (h : op ≠ .In := by decide) (h2 : op ≠ .NotIn := by decide) : behindInMarks op b = false := by
  have e1 : (op == CmpOp.In) = false := by cases op <;> first | rfl | exact absurd rfl h
  have e2 : (op == CmpOp.NotIn) = false := by cases op <;> first | rfl | exact absurd rfl h2
  cases b <;> simp [behindInMarks, e1, e2]
/-- a comparison as a value; hm: nomark b, or (for in, not in) by with_unfolding_all rfl -/
theorem pe_cmpR {op : CmpOp} {r : R2} (ho : OpR X (compareOp op) r) (ha : PE X a ta) (hb : PE X b tb) (hm : behindInMarks op b = false) : PE X (.Compare a [op] [b] pos) (tOp r ta tb) := by
  intro pins s σ H Q I h
  exact wpAny_Compare1 (binT ha hb I h fun v u s2 x y H2 I2 rx ry q => ho pins s2 σ H2 x y v u Q I2 rx ry q) hm
/-- a reading of a value as a test -/
def tTest (t : TE) : TT := fun σ H Q => t σ H fun x H' => ∃ k, x = .bl k ∧ Q k H'
theorem pt_cmpR {op : CmpOp} {r : R2} (ho : OpR X (compareOp op) r) (ha : PE X a ta) (hb : PE X b tb) (hm : behindInMarks op b = false) : PT X (.Compare a [op] [b] pos) (tTest (tOp r ta tb)) := by
  intro pins s σ H Q I h
  refine wpAny_isTrue_Compare1 (thn (ha pins s σ H _ I h) fun v s1 ⟨x, H1, I1, r1, q1⟩ => thn (hb pins s1 σ H1 _ I1 q1) fun u s2 ⟨y, H2, I2, r2, q2⟩ =>
    thn (ho pins s2 σ H2 x y v u _ I2 r1 r2 q2) fun c s3 ⟨z, H3, I3, r3, k, e, q3⟩ => ?_) hm
  subst e
  cases r3
  exact wpAny_truthy_bool ⟨H3, I3, q3⟩
/-- a op1 b op2 c -/
def tChain (r r' : R2) (ta tb tc : TE) : TE := fun σ H Q => ta σ H fun x H1 => tb σ H1 fun y H2 => r x y H2 fun z H3 => ∃ k, z = .bl k ∧
  (if k = true then tc σ H3 fun w' H4 => r' y w' H4 Q else Q (.bl false) H3)
theorem pt_chain {op op' : CmpOp} {r r' : R2} (ho : OpR X (compareOp op) r) (ho' : OpR X (compareOp op') r') (ha : PE X a ta) (hb : PE X b tb) (hc : PE X c tc)
    (hm : lastMarks [op, op'] [b, c] = false := by with_unfolding_all rfl) : PT X (.Compare a [op, op'] [b, c] pos) (tTest (tChain r r' ta tb tc)) := by
  intro pins s σ H Q I h
  refine isTrue_chain (thn (ha pins s σ H _ I h) fun v s1 ⟨x, H1, I1, r1, q1⟩ => test_link (thn (hb pins s1 σ H1 _ I1 q1) fun u s2 ⟨y, H2, I2, r2, q2⟩ =>
    thn (ho pins s2 σ H2 x y v u _ I2 r1 r2 q2) fun d s3 ⟨z, H3, I3, r3, k, e, q3⟩ => ?_)) hm
  subst e
  cases r3
  refine wpAny_truthy_bool ?_
  cases k with
  | false =>
    obtain ⟨k', e', q'⟩ := q3
    cases e'
    exact ite_ff ⟨H3, I3, q'⟩
  | true =>
    refine ite_tt (test_last (thn (hc pins s3 σ H3 _ I3 q3) fun w' s4 ⟨z', H4, I4, r4, q4⟩ => thn (ho' pins s4 σ H4 y z' u w' _ I4 r2 r4 q4) fun d' s5 ⟨z2, H5, I5, r5, k2, e2, q5⟩ => ?_))
    subst e2
    cases r5
    exact wpAny_truthy_bool ⟨H5, I5, q5⟩

/-! ### truth -/
theorem line63 : (sizeLine : Nat) < 2 ^ 63 := by rw [sizeLine_eq]; decide
/-! ### strs and bytes -/
theorem op_add_str : OpR X (binaryOp .Add) (fun x y H Q => ∃ i j, x = .str i ∧ y = .str j ∧ i.length + j.length ≤ sizeLine ∧ Q (.str (i ++ j)) H) := by
  intro pins s σ H x y v u Q I rx ry h
  obtain ⟨i, j, rfl, rfl, hz, q⟩ := h
  obtain ⟨t, rfl⟩ := rx
  obtain ⟨t', rfl⟩ := ry
  exact add_str (fun t' tk => ⟨.str (i ++ j), H, I.tok _, ⟨_, rfl⟩, q⟩) hz
/-! ### scalar builtins, by CallR -/
theorem vals1 {x : V} {us : List Value} (r : Vals [x] us) : ∃ u, us = [u] ∧ RelV x u := by
  cases r with
  | cons r1 r2 => cases r2; exact ⟨_, rfl, r1⟩
theorem vals2 {x y : V} {us : List Value} (r : Vals [x, y] us) : ∃ u w', us = [u, w'] ∧ RelV x u ∧ RelV y w' := by
  cases r with
  | cons r1 r2 =>
    cases r2 with
    | cons r3 r4 => cases r4; exact ⟨_, _, rfl, r1, r3⟩
theorem call_min2 (hc : X.calm = true) : CallR X (.builtin "min") (fun xs H Q => ∃ i j, xs = [.int i, .int j] ∧ Q (.int (if j < i then j else i)) H) := by
  intro pins s σ H xs us Q I r h
  obtain ⟨i, j, rfl, q⟩ := h
  obtain ⟨u, w', rfl, ⟨t, rfl⟩, ⟨t', rfl⟩⟩ := vals2 r
  refine min_two_ints (I.ok.hd hc) fun h' tk k => ⟨_, H, I.kept k, ?_, q⟩
  by_cases hj : j < i
  · rw [if_pos hj, if_pos hj]; exact ⟨_, rfl⟩
  · rw [if_neg hj, if_neg hj]; exact ⟨_, rfl⟩
theorem call_str_int : CallR X (.type "str") (fun xs H Q => ∃ i, xs = [.int i] ∧ i.natAbs.log2 < 1920 ∧ Q (.str (toString i)) H) := by
  intro pins s σ H xs us Q I r h
  obtain ⟨i, rfl, hz, q⟩ := h
  obtain ⟨u, rfl, t, rfl⟩ := vals1 r
  exact PySem.P.str_of_int hz ⟨.str _, H, I.tok _, ⟨_, rfl⟩, q⟩
end
end L2

namespace L2
open PySem PySem.Spec PyProof.Rows

/-! ### an instance, its attributes a map -/
structure ObjM (h : Heap) (x dx C : Addr) (mA : Str → Option Value) : Prop where
  obj : h.get? x = some (PySem.W.instObj C dx)
  ns : h.Ns1 dx mA
  ne : dx ≠ x

theorem lookIn_ns {h : Heap} {dx : Addr} {mA : Str → Option Value} (n : h.Ns1 dx mA) : ∃ od, h.get? dx = some od ∧ ∀ name, PySem.W.lookIn name od = some (mA name) := by
  obtain ⟨o, es, ep, ho, hd, hk, _, hm⟩ := n
  refine ⟨o, ho, fun name => ?_⟩
  have e := hm name
  unfold nsFind findBy at e
  rw [← Array.find?_toList] at e
  unfold PySem.W.lookIn
  rw [hd]
  dsimp only
  split
  · rename_i y q
    rw [q] at e
    exact congrArg some e
  · rename_i q
    rw [q] at e
    have a : es.toList.any (·.refKey) = false := by
      rw [List.any_eq_false]
      intro y hy
      obtain ⟨z, t, hkey⟩ := hk y (Array.mem_toList_iff.mp hy)
      simp [DictEntry.refKey, hkey]
    have a' : ¬ es.toList.any (·.refKey) = true := by rw [a]; exact Bool.false_ne_true
    rw [if_neg a']
    exact congrArg some e

theorem ObjM.look {h : Heap} {x dx C : Addr} {mA : Str → Option Value} (I : ObjM h x dx C mA) : ∃ od, PySem.W.InstAt h x (PySem.W.instObj C dx) C (some od) ∧ ∀ name, PySem.W.lookIn name od = some (mA name) :=
  let ⟨od, ho, hl⟩ := lookIn_ns I.ns
  ⟨od, ⟨I.obj, rfl, rfl, ho⟩, hl⟩

section
variable {prog : Program} {w : World} {A : Around} {E : Value → Shared → Prop} {s : Shared} {K : PySem.W.Frag} {x dx C f : Addr} {mA : Str → Option Value} {name : Str} {v : Value}

theorem get_map {expr : Bool} {Q : Value → Shared → Prop} (X : K.In s.heap) (I : ObjM s.heap x dx C mA) (hg : PySem.W.plainGet K C name = true) (hh : PySem.W.hasDictIn K C = true)
    (ha : PySem.W.findIn K (.ref C) name = some none) (hv : mA name = some v) (hv' : PySem.W.handedIn v = true) (h : Q v { s with toks := s.toks + 1 }) :
    wpAny (model prog w) A (getAttr (.ref x) name expr) Q E s := by
  obtain ⟨od, J, hl⟩ := I.look
  exact PySem.W.get_value X J (PySem.W.plainGet_of hg).1 (PySem.W.findObj_own hh ha rfl (by rw [hl, hv])) hv' h

theorem get_meth {pl : Sem Bool} {Q : Value × List Value → Shared → Prop} (X : K.In s.heap) (I : ObjM s.heap x dx C mA) (hg : PySem.W.plainGet K C name = true)
    (hf : PySem.W.findIn K (.ref C) name = some (some (.ref f))) (ht : PySem.W.isFn K (.ref f) = true) (hv : mA name = none) (h : Q (.ref f, [.ref x]) s) :
    wpAny (model prog w) A (getMethod (.ref x) name pl) Q E s := by
  obtain ⟨od, J, hl⟩ := I.look
  exact PySem.W.method_fn X J (PySem.W.plainGet_of hg).1 (PySem.W.plainGet_of hg).2 hf (beq_iff_eq.mp ht) (by show (PySem.W.lookIn name od).map (·.isSome) = some false; rw [hl, hv]; rfl) h

theorem set_map {ns : List Str} {Q : Unit → Shared → Prop} (X : K.In s.heap) (I : ObjM s.heap x dx C mA)
    (hs : PySem.W.findIn K (.ref C) "__setattr__" = some (some (.builtin "object.__setattr__"))) (hp : PySem.W.plainOver K C = true) (ht : PySem.W.takerIn K C name = some none) (hh : PySem.W.hasDictIn K C = true)
    (hw : PySem.Within mA ns) (hsz : ns.length ≤ sizeLine)
    (h : ∀ h', ObjM h' x dx C (fun y => if y = name then some v else mA y) → Heap.SameBut dx s.heap h' → Q () { s with heap := h', toks := s.toks + 2 }) :
    wpAny (model prog w) A (setAttr (.ref x) name v) Q E s := by
  obtain ⟨od, J, hl⟩ := I.look
  refine PySem.W.set_plain X J hs (PySem.W.osa_open (s := { s with toks := s.toks + 1 }) (r := none) X J hp ht fun b => ?_)
  obtain ⟨cd, hc, hd'⟩ := PySem.W.any_some hh
  have hx : s.heap.get? x = some ⟨.ref C, some dx, .plain, #[]⟩ := I.obj
  refine wpAny_bind (wpAny_pure (wpAny_bind (wpAny_bind (wpAny_loadPart hx (wpAny_bind (PySem.W.Looks.here (s := { s with toks := s.toks + 1 }) (PySem.W.looks_clsIn X hc) ?_))))))
  rw [hd']
  refine wpAny_pure (a := some dx) (wpAny_bind (wpAny_pure (wpAny_bind ?_)))
  refine wpAny_nsSet1 (s := { s with toks := s.toks + 1 }) I.ns fun h' hn2 hs2 => ?_
  obtain ⟨oD, esD, epD, hoD, hdD, hcD⟩ := hn2.count (PySem.Within.cons name v hw)
  refine wpAny_bind (wpAny_lookBehind hoD (by rw [hdD]; exact pastItsLine_dict (Nat.le_trans hcD (by rw [List.length_cons]; omega))) ?_)
  exact wpAny_pure (h _ ⟨(hs2.2 _ (Ne.symm I.ne)).trans I.obj, hn2, I.ne⟩ hs2)

/-- C(..): the dict at the heap's end, the instance behind it; then its __init__ -/
theorem make_map {R : Result → Shared → Prop} {vs : List Value} {kw : List (Str × Value)} (X : K.In s.heap) (hm : PySem.W.makesIn K C = true)
    (hi : PySem.W.findIn K (.ref C) "__init__" = some (some (.ref f))) (hf : PySem.W.typeIn K (.ref f) = some (.type "function"))
    (h : codeAny (model prog w) (A.under (.builtin "type.__call__" ⟨.ref C :: vs, kw⟩)) (.call (.ref f) ⟨.ref (s.heap.objs.size + 1) :: vs, kw⟩) (PySem.W.InitBack (s.heap.objs.size + 1) R)
      { s with heap := (s.heap.push PySem.W.emptyDict).push (PySem.W.instObj C s.heap.objs.size) }) :
    codeAny (model prog w) A (.call (.ref C) ⟨vs, kw⟩) R s := by
  obtain ⟨hh, g, d, t, os⟩ := s
  exact PySem.W.make_core (PySem.W.makes_of X hm) (PySem.W.looks_findIn X hi) (fun self => PySem.W.bind_fn X self hf) (.inl rfl) h
end

/-! ### the attributes as a list of pairs -/
def putF (f : Str) (v : V) : List (Str × V) → List (Str × V)
  | [] => [(f, v)]
  | (g, x) :: r => if g = f then (g, v) :: r else (g, x) :: putF f v r
theorem lookup_putF (f g : Str) (v : V) : ∀ fs : List (Str × V), (putF f v fs).lookup g = if g = f then some v else fs.lookup g
  | [] => by
    show List.lookup g [(f, v)] = _
    by_cases h : g = f
    · have hb : (g == f) = true := beq_iff_eq.mpr h
      simp only [List.lookup, hb, if_pos h]
    · have hb : (g == f) = false := beq_eq_false_iff_ne.mpr h
      simp only [List.lookup, hb, if_neg h]
  | (k, x) :: r => by
    have ih := lookup_putF f g v r
    rw [show putF f v ((k, x) :: r) = (if k = f then (k, v) :: r else (k, x) :: putF f v r) from rfl]
    by_cases hk : k = f
    · rw [if_pos hk]
      by_cases h : g = k
      · have hb : (g == k) = true := beq_iff_eq.mpr h
        simp only [List.lookup, hb, if_pos (h.trans hk)]
      · have hb : (g == k) = false := beq_eq_false_iff_ne.mpr h
        simp only [List.lookup, hb, if_neg (fun e : g = f => h (e.trans hk.symm))]
    · rw [if_neg hk]
      by_cases h : g = k
      · have hb : (g == k) = true := beq_iff_eq.mpr h
        simp only [List.lookup, hb, if_neg (fun e : g = f => hk (h.symm.trans e))]
      · have hb : (g == k) = false := beq_eq_false_iff_ne.mpr h
        simp only [List.lookup, hb]
        exact ih
theorem keys_putF (f : Str) (v : V) : ∀ fs : List (Str × V), f ∈ (putF f v fs).map (·.1) ∧ ∀ g, g ∈ fs.map (·.1) → g ∈ (putF f v fs).map (·.1)
  | [] => ⟨by simp [putF], fun g h => by simp at h⟩
  | (k, x) :: r => by
    obtain ⟨i1, i2⟩ := keys_putF f v r
    rw [show putF f v ((k, x) :: r) = (if k = f then (k, v) :: r else (k, x) :: putF f v r) from rfl]
    by_cases hk : k = f
    · rw [if_pos hk]
      subst hk
      exact ⟨by simp, fun g h => by simpa using h⟩
    · rw [if_neg hk]
      refine ⟨?_, fun g h => ?_⟩
      · rw [List.map_cons]
        exact List.mem_cons_of_mem _ i1
      · rw [List.map_cons] at h ⊢
        rcases List.mem_cons.mp h with e | e
        · exact List.mem_cons.mpr (.inl e)
        · exact List.mem_cons_of_mem _ (i2 g e)
theorem length_putF (f : Str) (v : V) : ∀ fs : List (Str × V), (putF f v fs).length ≤ fs.length + 1
  | [] => by simp [putF]
  | (k, x) :: r => by
    have ih := length_putF f v r
    rw [show putF f v ((k, x) :: r) = (if k = f then (k, v) :: r else (k, x) :: putF f v r) from rfl]
    by_cases hk : k = f
    · rw [if_pos hk, List.length_cons, List.length_cons]; omega
    · rw [if_neg hk, List.length_cons, List.length_cons]; omega

theorem RelO.some_of {v : V} {o : Option Value} (r : RelO (some v) o) : ∃ u, o = some u ∧ RelV v u := by
  cases o with
  | none => exact (show False from r).elim
  | some u => exact ⟨u, rfl, r⟩
theorem RelO.none_of {o : Option Value} (r : RelO none o) : o = none := by
  cases o with
  | none => rfl
  | some u => exact (show False from r).elim
theorem handed_of {v : V} {u : Value} (r : RelV v u) : PySem.W.handedIn u = true := by
  cases v with
  | non => cases (show u = Value.none from r); rfl
  | bl b => cases (show u = Value.bool b from r); rfl
  | int i => obtain ⟨t, e⟩ := (show ∃ t, u = Value.int i t from r); cases e; rfl
  | str x => obtain ⟨t, e⟩ := (show ∃ t, u = Value.str x t from r); cases e; rfl
  | byt b => obtain ⟨t, e⟩ := (show ∃ t, u = Value.bytes b t from r); cases e; rfl
  | flt b => obtain ⟨t, e⟩ := (show ∃ t, u = Value.float b t from r); cases e; rfl
  | ref a => cases (show u = Value.ref a from r); rfl
  | ty n => cases (show u = Value.type n from r); rfl

section
variable {P : Program} {w : World} {H H' : Hp} {h h' : Heap} {a C dx : Addr} {fs fs' : List (Str × V)}
theorem ins_get (hok : HOk P w H h) (e : H a = some (.ins C dx fs)) : ∃ mA, ObjM h a dx C mA ∧ (∀ f, RelO (fs.lookup f) (mA f)) ∧ PySem.Within mA (fs.map (·.1)) ∧ fs.length ≤ 1000 ∧ H dx = some (.own a) := by
  obtain ⟨d, z, ne, ob, mA, n, r, q⟩ := (show ObjOk P w H h a (.ins C dx fs) from hok a _ e)
  exact ⟨mA, ⟨ob, n, ne⟩, r, q, z, d⟩
end

/-! ### what of the text a class must have -/
structure Cls (K : PySem.W.Frag) (C : Addr) : Prop where
  pg : PySem.W.plainGet K C Str.empty = true
  hd : PySem.W.hasDictIn K C = true
  po : PySem.W.plainOver K C = true
  sa : PySem.W.findIn K (.ref C) "__setattr__" = some (some (.builtin "object.__setattr__"))
theorem Cls.get {K : PySem.W.Frag} {C : Addr} (c : Cls K C) (f : Str) : PySem.W.plainGet K C f = true := c.pg
/-- no class of it has the name -/
def NoAttr (K : PySem.W.Frag) (C : Addr) (f : Str) : Prop := PySem.W.findIn K (.ref C) f = some none
theorem NoAttr.taker {K : PySem.W.Frag} {C : Addr} {f : Str} (n : NoAttr K C f) : PySem.W.takerIn K C f = some none := by
  unfold PySem.W.takerIn
  rw [show PySem.W.findIn K (.ref C) f = some none from n]
  rfl
/-- a method: a plain def of the class or of one above it -/
structure Meth (K : PySem.W.Frag) (C : Addr) (m : Str) (f : Addr) : Prop where
  at_ : PySem.W.findIn K (.ref C) m = some (some (.ref f))
  fn : PySem.W.isFn K (.ref f) = true
  kp : PySem.W.keepIn K (.ref f) = true

section
variable {X : Cx} {pins : List (Addr × Obj)} {σ : St} {H : Hp} {s : Shared} {a C dx : Addr} {fs : List (Str × V)} {f : Str} {v : V} {A : Around} {E : Value → Shared → Prop}

theorem getattr_ok {b : Bool} {Q : Value → Shared → Prop} (I : Inv X pins σ H s) (e : H a = some (.ins C dx fs)) (c : Cls X.K C) (n : NoAttr X.K C f) (l : fs.lookup f = some v)
    (h : ∀ u s', Inv X pins σ H s' → RelV v u → Q u s') : wpAny (model X.prog X.w) A (getAttr (.ref a) f b) Q E s := by
  obtain ⟨mA, O, r, _, _, _⟩ := ins_get I.hok e
  obtain ⟨u, hu, ru⟩ := RelO.some_of (v := v) (o := mA f) (by rw [← l]; exact r f)
  exact get_map I.kIn O (c.get f) c.hd n hu (handed_of ru) (h u _ (I.tok _) ru)

theorem getmeth_ok {m : Str} {g : Addr} {pl : Sem Bool} {Q : Value × List Value → Shared → Prop} (I : Inv X pins σ H s) (e : H a = some (.ins C dx fs)) (c : Cls X.K C) (k : Meth X.K C m g) (l : fs.lookup m = none)
    (h : Q (.ref g, [.ref a]) s) : wpAny (model X.prog X.w) A (getMethod (.ref a) m pl) Q E s := by
  obtain ⟨mA, O, r, _, _, _⟩ := ins_get I.hok e
  have hn : mA m = none := RelO.none_of (by rw [← l]; exact r m)
  exact get_meth I.kIn O (c.get m) k.at_ k.fn hn h

theorem setattr_ok {y : V} {u : Value} {Q : Unit → Shared → Prop} (I : Inv X pins σ H s) (e : H a = some (.ins C dx fs)) (c : Cls X.K C) (n : NoAttr X.K C f) (hl : fs.length < 1000) (ry : RelV y u)
    (h : ∀ s', Inv X pins σ (upd H a (.ins C dx (putF f y fs))) s' → Q () s') : wpAny (model X.prog X.w) A (setAttr (.ref a) f u) Q E s := by
  obtain ⟨mA, O, r, wi, _, ho⟩ := ins_get I.hok e
  have hz : (fs.map (·.1)).length ≤ sizeLine := by rw [List.length_map, sizeLine_eq]; omega
  refine set_map I.kIn O c.sa c.po n.taker c.hd wi hz fun h' O' sb => h _ ?_
  have hd : ∃ o, h'.get? dx = some o := let ⟨o, _, _, e', _⟩ := O'.ns; ⟨o, e'⟩
  refine I.write (x := a) (e := dx) (by rw [e]; exact True.intro) (.inr ho) (fun b q hb z => (sb.2 b hb).trans z) hd ?_
  refine ⟨by rw [upd_ne O.ne]; exact ho, ?_, O.ne, O'.obj, _, O'.ns, fun g => ?_, fun g hg => ?_⟩
  · have := length_putF f y fs; omega
  · show RelO ((putF f y fs).lookup g) (if g = f then some u else mA g)
    rw [lookup_putF]
    by_cases q : g = f
    · rw [if_pos q, if_pos q]; exact ry
    · rw [if_neg q, if_neg q]; exact r g
  · by_cases q : g = f
    · rw [q]; exact (keys_putF f y fs).1
    · refine (keys_putF f y fs).2 g (wi g fun z => hg ?_)
      show (if g = f then some u else mA g) = none
      rw [if_neg q]; exact z

/-- a new instance, tracked, without attributes -/
theorem Inv.made (I : Inv X pins σ H s) : Inv X pins σ (upd (upd H s.heap.objs.size (.own (s.heap.objs.size + 1))) (s.heap.objs.size + 1) (.ins C s.heap.objs.size []))
    { s with heap := (s.heap.push PySem.W.emptyDict).push (PySem.W.instObj C s.heap.objs.size) } := by
  have e1 : (s.heap.push PySem.W.emptyDict).get? s.heap.objs.size = some PySem.W.emptyDict := Heap.get?_push_size s.heap rfl
  have e2 : ((s.heap.push PySem.W.emptyDict).push (PySem.W.instObj C s.heap.objs.size)).get? (s.heap.objs.size + 1) = some (PySem.W.instObj C s.heap.objs.size) := by
    have := Heap.get?_push_size (s.heap.push PySem.W.emptyDict) (o := PySem.W.instObj C s.heap.objs.size) rfl
    rwa [Heap.size_push] at this
  have e3 : (s.heap.push PySem.W.emptyDict).Ns s.heap.objs.size (fun _ => none) := ⟨PySem.W.emptyDict, #[], _, e1, rfl, (fun e he => absurd he (by simp)), fun _ => rfl⟩
  have I1 := I.laid (a := s.heap.objs.size) (o := .own (s.heap.objs.size + 1)) (h' := s.heap.push PySem.W.emptyDict) (t' := s.toks) (fun b u q => Heap.get?_push_of_some _ q) (Nat.le_refl _) ⟨_, e1⟩
  refine I1.laid (a := s.heap.objs.size + 1) (o := .ins C s.heap.objs.size []) (t' := s.toks) (fun b u q => Heap.get?_push_of_some _ q) (Nat.le_of_eq (Heap.size_push _ _)) ?_
  have ne : s.heap.objs.size ≠ s.heap.objs.size + 1 := Nat.ne_of_lt (Nat.lt_succ_self _)
  refine ⟨by rw [upd_ne ne, upd_same], Nat.zero_le _, ne, e2, fun _ => none, (Heap.Ns1.of_empty e3).at fun o q => Heap.get?_push_of_some _ q, fun _ => True.intro, fun y hy => absurd rfl hy⟩

/-- e.f where nothing but the object is asked: through attributeBase (super) and the last hold -/
theorem attr_of {prog : Program} {w : World} {env : Env} {e : Expr} {f : Str} {pos : Pos} {s : Shared} {Q : Value → Shared → Prop} (hb : attributeBase e f env (eval e env) = eval e env)
    (h : wpAny (model prog w) A (eval e env) (fun o s₁ => wpAny (model prog w) A (getAttr o f true) Q E s₁) E s) : wpAny (model prog w) A (eval (.Attribute e f pos) env) Q E s :=
  Attribute_any_ h (by rw [arm_eval_Attribute, hb])
end

/-! ### readings and rules -/
/-- e.f, an attribute of the instance -/
def tFld (K : PySem.W.Frag) (ta : TE) (f : Str) : TE := fun σ H Q => ta σ H fun x H1 => ∃ a C dx fs v, x = .ref a ∧ H1 a = some (.ins C dx fs) ∧ Cls K C ∧ NoAttr K C f ∧ fs.lookup f = some v ∧ Q v H1
/-- e.f = value -/
def sFld (K : PySem.W.Frag) (ta tv : TE) (f : Str) : TS := fun D σ H => tv σ H fun y H1 => ta σ H1 fun x H2 => ∃ a C dx fs, x = .ref a ∧ H2 a = some (.ins C dx fs) ∧ Cls K C ∧ NoAttr K C f ∧ fs.length < 1000 ∧
  D.nx σ (upd H2 a (.ins C dx (putF f y fs)))
section
variable {X : Cx} {o e value : Expr} {f : Str} {pos pos' tpos : Pos} {ta tv : TE}
theorem pe_fld (he : PE X e ta) (hb : attributeBase e f X.env (eval e X.env) = eval e X.env) : PE X (.Attribute e f pos) (tFld X.K ta f) := by
  intro pins s σ H Q I h
  refine attr_of hb (thn (he pins s σ H _ I h) fun u s1 ⟨x, H1, I1, rx, a, C, dx, fs, v, ex, ea, c, n, l, q⟩ => ?_)
  subst ex
  obtain rfl : u = Value.ref a := rx
  exact getattr_ok I1 ea c n l fun u' s2 I2 ru => ⟨v, H1, I2, ru, q⟩
theorem ps_fld (ha : PE X o ta) (hv : PE X value tv) (hs : swapsWith value (some (.Attribute o f pos')) pos.line X.env = pure false) : PS X (.Assign [.Attribute o f pos'] value pos) (sFld X.K ta tv f) := by
  intro pins s σ H D I h
  refine plainObj_wpAny_Assign_Attribute (thn (hv pins s σ H _ I h) fun u s1 ⟨y, H1, I1, ry, q⟩ => thn (ha pins s1 σ H1 _ I1 q) fun ov s2 ⟨x, H2, I2, rx, a, C, dx, fs, ex, ea, c, n, l, q2⟩ => ?_) hs
  subst ex
  obtain rfl : ov = Value.ref a := rx
  exact setattr_ok I2 ea c n l ry fun s3 I3 => ⟨σ, _, I3, q2⟩
end

/-! ### isinstance -/
section
variable {X : Cx} {pins : List (Addr × Obj)} {σ : St} {H : Hp} {s : Shared} {A : Around} {E : Value → Shared → Prop} {Q : Value → Shared → Prop} {c : Value} {b : Bool}
/-- the type of a value, as the fragment's deciders take it; for an instance its class -/
inductive TyOf (K : PySem.W.Frag) (H : Hp) : V → Value → Prop where
  | non : TyOf K H .non (.type "NoneType")
  | bl (x : Bool) : TyOf K H (.bl x) (.type "bool")
  | int (i : Int) : TyOf K H (.int i) (.type "int")
  | str (x : Str) : TyOf K H (.str x) (.type "str")
  | flt (x : UInt64) : TyOf K H (.flt x) (.type "float")
  | lst {a : Addr} {xs : List V} (e : H a = some (.lst xs)) : TyOf K H (.ref a) (.type "list")
  | frz {a : Addr} {o : Obj} {xs : List V} (e : H a = some (.frz o (.lst xs))) : TyOf K H (.ref a) (.type "list")
  | tup {a : Addr} {xs : List V} (e : H a = some (.tup xs)) : TyOf K H (.ref a) (.type "tuple")
  | dK {a : Addr} {kvs : List (Key × V)} (e : H a = some (.dK kvs)) : TyOf K H (.ref a) (.type "dict")
  | dT {a : Addr} {kvs : List (List Key × V)} (e : H a = some (.dT kvs)) : TyOf K H (.ref a) (.type "dict")
  | ins {a C dx : Addr} {fs : List (Str × V)} (e : H a = some (.ins C dx fs)) (cl : Cls K C) (ha : PySem.W.findIn K (.ref C) "__class__" = some (some (.builtin "object.__class__")))
      (hn : PySem.W.specialIn K (.builtin "object.__class__") "__get__" = some (some (.builtin "getset_descriptor.__get__"))) (htk : PySem.W.takesIn K (.builtin "object.__class__") = some true)
      (hm : PySem.W.mroIn K C (.type "object") = some true) : TyOf K H (.ref a) (.ref C)
/-- isinstance(x, c) for one class c, a built-in or an own one: kitOne's answer -/
theorem isinst_ok {x : V} {u t : Value} (I : Inv X pins σ H s) (rx : RelV x u) (ty : TyOf X.K H x t) (e : PySem.W.kitOne X.K t c = some b) (h : ∀ tk, Q (.bool b) { s with toks := tk }) :
    wpAny (model X.prog X.w) A (call (.builtin "isinstance") [u, c]) Q E s := by
  cases ty with
  | non => cases (show u = Value.none from rx); exact PySem.W.kia_one PySem.W.kitx_none I.kIn True.intro e (fun z => nomatch z) h
  | bl y => cases (show u = Value.bool y from rx); exact PySem.W.kia_one PySem.W.kitx_bool I.kIn True.intro e (fun z => nomatch z) h
  | int i => obtain ⟨t, q⟩ := (show ∃ t, u = Value.int i t from rx); cases q; exact PySem.W.kia_one PySem.W.kitx_int I.kIn True.intro e (fun z => nomatch z) h
  | str y => obtain ⟨t, q⟩ := (show ∃ t, u = Value.str y t from rx); cases q; exact PySem.W.kia_one PySem.W.kitx_str I.kIn True.intro e (fun z => nomatch z) h
  | flt y => obtain ⟨t, q⟩ := (show ∃ t, u = Value.float y t from rx); cases q; exact PySem.W.kia_one PySem.W.kitx_float I.kIn True.intro e (fun z => nomatch z) h
  | @lst a xs ea =>
    cases (show u = Value.ref a from rx)
    obtain ⟨_, _, n, _, h1⟩ := (show ObjOk X.prog X.w H s.heap a (.lst xs) from I.hok a _ ea)
    exact PySem.W.kia_one PySem.W.kitx_list I.kIn ⟨_, h1, rfl⟩ e (fun z => nomatch z) h
  | @frz a ob xs ea =>
    cases (show u = Value.ref a from rx)
    obtain ⟨_, _, _, n, _, h1⟩ := (show ObjOk X.prog X.w H s.heap a (.frz ob (.lst xs)) from I.hok a _ ea)
    exact PySem.W.kia_one PySem.W.kitx_list I.kIn ⟨_, h1, rfl⟩ e (fun z => nomatch z) h
  | @tup a xs ea =>
    cases (show u = Value.ref a from rx)
    obtain ⟨_, _, _, p⟩ := (show ObjOk X.prog X.w H s.heap a (.tup xs) from I.hok a _ ea)
    obtain ⟨o, h1, h2, _⟩ := p
    exact PySem.W.kia_one PySem.W.kitx_tuple I.kIn ⟨o, h1, h2⟩ e (fun z => nomatch z) h
  | @dK a kvs ea =>
    cases (show u = Value.ref a from rx)
    obtain ⟨_, _, vs, _, p⟩ := (show ObjOk X.prog X.w H s.heap a (.dK kvs) from I.hok a _ ea)
    obtain ⟨o, es, ep, h1, h2, _⟩ := p
    exact PySem.W.kia_one PySem.W.kitx_dict I.kIn ⟨o, h1, h2.1⟩ e (fun z => nomatch z) h
  | @dT a kvs ea =>
    cases (show u = Value.ref a from rx)
    obtain ⟨_, _, xs, _, o, es, ep, h1, h2, _⟩ := (show ObjOk X.prog X.w H s.heap a (.dT kvs) from I.hok a _ ea)
    exact PySem.W.kia_one PySem.W.kitx_dict I.kIn ⟨o, h1, h2.1⟩ e (fun z => nomatch z) h
  | @ins a C dx fs ea cl ha hn htk hm =>
    cases (show u = Value.ref a from rx)
    obtain ⟨mA, O, _⟩ := ins_get I.hok ea
    obtain ⟨od, J, _⟩ := O.look
    exact PySem.W.kia_one (PySem.W.kitx_own (cl.get _) cl.hd ha hn htk hm) I.kIn J e (fun z => nomatch z) h
end
end L2

namespace L2
open PySem PySem.Spec PyProof.Rows

/-! ### room -/
structure Room (k : Nat) (A : Around) : Prop where
  hd : A.handled = none
  dp : A.depth + 3 * k + 5 < recursionLimit
  un : A.units + 16 * k + 200 < cLine
theorem Room.mono {j k : Nat} {A : Around} (r : Room k A) (h : j ≤ k) : Room j A := ⟨r.hd, by have := r.dp; omega, by have := r.un; omega⟩
theorem Room.deeper {k : Nat} {A : Around} (r : Room (k + 1) A) (env : Env) : Room k (A.deeper env) :=
  ⟨r.hd, by have := r.dp; show A.depth + 1 + 3 * k + 5 < _; omega, by have := r.un; show A.units + 3 + 16 * k + 200 < _; omega⟩
theorem make_depth {A : Around} {C : Addr} {us : List Value} {kw : List (Str × Value)} : (A.under (.builtin "type.__call__" ⟨.ref C :: us, kw⟩)).depth = A.depth + 1 := by
  first | rfl | simp [Around.under, Code.weight, Code.isCreation, Code.isGuard, Code.isCaller, Code.frames, Code.isFrame, guardIds]
theorem make_units {A : Around} {C : Addr} {us : List Value} {kw : List (Str × Value)} : (A.under (.builtin "type.__call__" ⟨.ref C :: us, kw⟩)).units = A.units + 1 := by
  first | rfl | simp [Around.under, Code.cUnits, Code.frames, Code.isFrame]
theorem Room.make {k : Nat} {A : Around} (r : Room (k + 1) A) (C : Addr) (us : List Value) (kw : List (Str × Value)) : Room k (A.under (.builtin "type.__call__" ⟨.ref C :: us, kw⟩)) :=
  ⟨r.hd, by have := r.dp; rw [make_depth]; omega, by have := r.un; rw [make_units]; omega⟩
theorem Room.depth {k : Nat} {A : Around} (r : Room k A) : A.depth < recursionLimit := by have := r.dp; omega
theorem Room.units {k : Nat} {A : Around} (r : Room k A) : A.units + 64 < cLine := by have := r.un; omega
/-! ### argument lists and displays -/
def tNil : TA := fun _ H Q => Q [] H
def tCons (ta : TE) (tr : TA) : TA := fun σ H Q => ta σ H fun x H1 => tr σ H1 fun xs H2 => Q (x :: xs) H2
section
variable {X : Cx} {e : Expr} {es : List Expr} {te : TE} {t : TA} {pos : Pos}
theorem pa_nil : PA X [] tNil := fun _ _ _ _ H Q I h => Calls.spliced_nil ⟨[], H, I, .nil, h⟩
theorem pa_cons (ha : PE X e te) (hr : PA X es t) (hs : starEach (e :: es) X.env = (false, eval e X.env) :: starEach es X.env := by rfl) : PA X (e :: es) (tCons te t) := by
  intro pos pins s σ H Q I h
  rw [hs]
  show wpAny _ _ (spliced ((false, eval e X.env) :: backTo pos (starEach es X.env))) _ _ s
  refine Calls.spliced_cons (thn (ha pins s σ H _ I h) fun u s1 ⟨x, H1, I1, r1, q1⟩ => ?_)
  exact thn (hr pos pins s1 σ H1 _ I1 q1) fun us s2 ⟨xs, H2, I2, r2, q2⟩ => ⟨x :: xs, H2, I2, .cons r1 r2, q2⟩

/-- a tuple, a list of written items -/
def tTup (t : TA) : TE := fun σ H Q => t σ H fun xs H1 => xs.length ≤ sizeLine ∧ ∀ p, H1 p = none → Q (.ref p) (upd H1 p (.tup xs))
def tLst (t : TA) : TE := fun σ H Q => t σ H fun xs H1 => xs.length ≤ sizeLine ∧ ∀ p, H1 p = none → Q (.ref p) (upd H1 p (.lst xs))
theorem pe_tup {x1} (h : PA X es t) : PE X (.Tuple es x1 pos) (tTup t) := by
  intro pins s σ H Q I hq
  refine wpAny_Tuple_spliced (thn (h pos pins s σ H _ I hq) fun us s1 ⟨xs, H1, I1, r, z, q⟩ => ⟨by rw [← r.length]; exact z, ?_⟩)
  have hf : H1 s1.heap.objs.size = none := I1.hok.fresh (Nat.le_refl _)
  refine ⟨.ref s1.heap.objs.size, upd H1 s1.heap.objs.size (.tup xs), I1.laid (t' := s1.toks) (fun b u e => Heap.get?_push_of_some _ e) (Nat.le_refl _) ?_, rfl, q _ hf⟩
  exact ⟨z, us, r, ⟨_, Heap.get?_push_size _ rfl, rfl, _, rfl⟩⟩
theorem pe_lst (h : PA X es t) : PE X (.List es pos) (tLst t) := by
  intro pins s σ H Q I hq
  refine wpAny_List_spliced (thn (h pos pins s σ H _ I hq) fun us s1 ⟨xs, H1, I1, r, z, q⟩ => ⟨by rw [← r.length]; exact z, ?_⟩)
  have hf : H1 s1.heap.objs.size = none := I1.hok.fresh (Nat.le_refl _)
  refine ⟨.ref s1.heap.objs.size, upd H1 s1.heap.objs.size (.lst xs), I1.laid (t' := s1.toks) (fun b u e => Heap.get?_push_of_some _ e) (Nat.le_refl _) ?_, rfl, q _ hf⟩
  exact ⟨z, us, 0, r, Heap.get?_push_size _ rfl⟩
end

/-! ### what a def promises -/
/-- a def's promise: the bound arguments in the parameters' order, the heap, the wanted end, the wanted exception -/
abbrev Sp := List V → Hp → VK → XK → Prop
/-- how an exception lies behind a call (file 08 gives it): the callers' frames, abstract heap and state ahead of the call, the wish, the exception, the state -/
abbrev CXT := List Env → Hp → Shared → XK → Value → Shared → Prop

/-- the state at a call -/
structure Env0 (P : Program) (w : World) (K : PySem.W.Frag) (mg : Str → Option Value) (base : Heap) (A : Around) (outer : List Env) (s : Shared) (H : Hp) : Prop where
  frames : A.frames = some outer
  mod : Mod K mg base
  bs : ∀ b o, base.get? b = some o → s.heap.get? b = some o ∧ H b = none
  bsz : base.objs.size ≤ s.heap.objs.size
  funs : s.heap.FunFrames base outer
  frf : ∀ b ∈ frs outer, H b = none
  hok : HOk P w H s.heap
  bare : AllBare s.gens
/-- a call's end -/
def CE (outer : List Env) (P : Program) (w : World) (H : Hp) (s : Shared) (Q : VK) (u : Value) (s' : Shared) : Prop :=
  ∃ v H', s'.os = s.os ∧ AllBare s'.gens ∧ Un (frs outer) [] H H' s.heap s'.heap ∧ HOk P w H' s'.heap ∧ RelV v u ∧ Q v H'
def CR (CX : CXT) (outer : List Env) (P : Program) (w : World) (H : Hp) (s : Shared) (Q : VK) (E : XK) (r : Result) (s' : Shared) : Prop :=
  match r with
  | .ok (.ret u) => CE outer P w H s Q u s'
  | .ok _ => False
  | .error e => CX outer H s E e s'
structure FnOk (P : Program) (w : World) (K : PySem.W.Frag) (mg : Str → Option Value) (base : Heap) (CX : CXT) (k : Nat) (f : Addr) (fd : FuncData) (ps : List Str) (sp : Sp) : Prop where
  len : ∀ vs H Q E, sp vs H Q E → vs.length = ps.length
  run : ∀ (A : Around) (outer : List Env) (s : Shared) (H : Hp) (args : Args) (us : List Value) (vs : List V) (Q : VK) (E : XK), Room k A → Env0 P w K mg base A outer s H → BindsTo s fd args (ps.zip us) → Vals vs us → sp vs H Q E →
    codeAny (model P w) A (.call (.ref f) args) (CR CX outer P w H s Q E) s
theorem Env0.make {P : Program} {w : World} {K : PySem.W.Frag} {mg : Str → Option Value} {base : Heap} {A : Around} {outer : List Env} {s : Shared} {H : Hp} (e : Env0 P w K mg base A outer s H) (C : Addr) (us : List Value) (kw : List (Str × Value)) :
    Env0 P w K mg base (A.under (.builtin "type.__call__" ⟨.ref C :: us, kw⟩)) outer s H := ⟨by first | exact e.frames | (simpa [Around.under, Code.envs, Code.isFrame, pushEnvs] using e.frames), e.mod, e.bs, e.bsz, e.funs, e.frf, e.hok, e.bare⟩
section
variable {X : Cx} {pins : List (Addr × Obj)} {σ : St} {H : Hp} {s s' : Shared}
/-- from a body: what a callee wants -/
theorem Inv.env0 (I : Inv X pins σ H s) : Env0 X.prog X.w X.K X.mg X.base X.A X.stack s H :=
  ⟨I.ok.frames, I.ok.mod, I.bs, Nat.le_trans I.ok.bsz I.sz, I.stack, I.stkFree, I.hok, I.bare⟩
/-- behind a call -/
theorem Inv.after {Q : VK} {u : Value} (I : Inv X pins σ H s) (h : CE X.stack X.prog X.w H s Q u s') : EP X pins σ Q u s' := by
  obtain ⟨v, H', os, bare, un, hok, r, q⟩ := h
  obtain ⟨hh, g, d, t, os'⟩ := s'
  obtain rfl : os' = s.os := os
  exact ⟨v, H', I.call (h' := hh) (g' := g) (d' := d) (t' := t) (ch := []) un hok bare (fun b z => absurd z (by simp)), r, q⟩
end

/-! ### calls -/
/-- f(..): the written arguments, then the defaults dvs; E: what is wanted of an exception -/
def tCall (sp : Sp) (dvs : List V) (E : XK) (t : TA) : TE := fun σ H Q => t σ H fun vs H1 => sp (vs ++ dvs) H1 Q E
/-- o.m(..) of an instance of the class at C -/
def tMeth (C : Addr) (m : Str) (sp : Sp) (dvs : List V) (E : XK) (ta : TE) (t : TA) : TE := fun σ H Q => ta σ H fun x H1 => ∃ a dx fs, x = .ref a ∧ H1 a = some (.ins C dx fs) ∧ fs.lookup m = none ∧
  t σ H1 fun vs H2 => sp (x :: (vs ++ dvs)) H2 Q E
/-- C(..): a new instance and its dict, then __init__ -/
def tMake (C : Addr) (sp : Sp) (dvs : List V) (E : XK) (t : TA) : TE := fun σ H Q => t σ H fun vs H1 => ∀ x dx, H1 x = none → H1 dx = none → dx ≠ x →
  sp (.ref x :: (vs ++ dvs)) (upd (upd H1 dx (.own x)) x (.ins C dx [])) (fun v H2 => v = .non ∧ Q (.ref x) H2) E

/-- how the parameters are bound: us the positional arguments, kw the keywords' values by name, ds the defaults that fill up -/
def Binds (K : PySem.W.Frag) (fd : FuncData) (ps : List Str) (ds : List Value) : Prop :=
  ∀ (s : Shared) (us : List Value), K.In s.heap → (us ++ ds).length = ps.length → BindsTo s fd ⟨us, []⟩ (ps.zip (us ++ ds))
/-- every parameter is given -/
theorem Binds.all {K : PySem.W.Frag} {fd : FuncData} {ps : List Str} (h : ∀ us : List Value, us.length = ps.length → bindArgs fd ⟨us, []⟩ = pure (ps.zip us)) : Binds K fd ps [] := fun s us _ hl => by
  rw [List.append_nil] at hl ⊢
  exact .of_eq (h us hl)

/-- an exception of a callee reaches what this body wants of exceptions -/
def Passes (CX : CXT) (X : Cx) (E : XK) : Prop := ∀ (pins : List (Addr × Obj)) (σ : St) (H : Hp) (s : Shared) (e : Value) (s' : Shared), Inv X pins σ H s → CX X.stack H s E e s' → X.xe e s'

section
variable {X : Cx} {CX : CXT} {k : Nat} {f C : Addr} {fd : FuncData} {ps : List Str} {sp : Sp} {dvs : List V} {ds : List Value} {E : XK} {x m : Str} {p pos apos : Pos} {e o : Expr} {es : List Expr} {ta : TE} {t : TA}

/-- the callee runs -/
theorem run_fn {pins : List (Addr × Obj)} {σ : St} {H : Hp} {s : Shared} {Q : VK} {us : List Value} {vs : List V} (F : FnOk X.prog X.w X.K X.mg X.base CX k f fd ps sp) (hr : Room k X.A) (hb : Binds X.K fd ps ds) (hd : Vals dvs ds) (hx : Passes CX X E)
    (I : Inv X pins σ H s) (r : Vals vs us) (h : sp (vs ++ dvs) H Q E) : wpAny (model X.prog X.w) X.A (call (.ref f) us) (EP X pins σ Q) X.xe s := by
  have r2 : Vals (vs ++ dvs) (us ++ ds) := r.append hd
  have hl : (us ++ ds).length = ps.length := by rw [← r2.length]; exact F.len _ _ _ _ h
  refine wpAny_call (codeAny_mono (F.run X.A X.stack s H ⟨us, []⟩ (us ++ ds) (vs ++ dvs) Q E hr I.env0 (hb s us I.kIn hl) r2 h) fun r s' hq => ?_)
  cases r with
  | error e => exact hx pins σ H s e s' I hq
  | ok fl =>
    cases fl with
    | ret u => exact I.after hq
    | next => exact False.elim hq
    | brk => exact False.elim hq
    | cont => exact False.elim hq

theorem pe_call (F : FnOk X.prog X.w X.K X.mg X.base CX k f fd ps sp) (hr : Room k X.A) (hg : Gl X x) (hm : X.mg x = some (.ref f)) (hk : PySem.W.keepIn X.K (.ref f) = true) (hb : Binds X.K fd ps ds) (hd : Vals dvs ds) (hx : Passes CX X E)
    (ha : PA X (e :: es) t) (hdb : (x == ("__debug__" : Str)) = false := by decide) (he : starEach (e :: es) X.env = (false, eval e X.env) :: starEach es X.env := by rfl) (hpl : (backTo pos (starEach es X.env)).any (·.1) = false := by rfl) :
    PE X (.Call (.Name x p) (e :: es) [] pos) (tCall sp dvs E t) := by
  intro pins s σ H Q I h
  refine wpAny_Call_Name_kw (ld_glob I hg hm ?_ hdb)
  refine PySem.W.callWith_K (h₀ := X.base) I.ok.mod.kin hk (thn (ha pos pins s σ H _ I h) fun us s1 ⟨vs, H1, I1, r, q⟩ => ⟨I1.kIn, ?_⟩) he hpl
  exact run_fn F hr hb hd hx I1 r q
/-- o.m(e, ..) -/
theorem pe_meth {pl : Sem Bool} (he : PE X o ta) (c : Cls X.K C) (hm : Meth X.K C m f) (F : FnOk X.prog X.w X.K X.mg X.base CX k f fd ps sp) (hr : Room k X.A) (hb : Binds X.K fd ps ds) (hd : Vals dvs ds) (hx : Passes CX X E) (ha : PA X (e :: es) t)
    (hst : starEach (e :: es) X.env = (false, eval e X.env) :: starEach es X.env := by rfl) (hpl : (backTo pos (starEach es X.env)).any (·.1) = false := by rfl)
    (ht : eval (.Call (.Attribute o m apos) (e :: es) [] pos) X.env = (do
      let ov ← eval o X.env
      standAt apos.atName
      let (f, first) ← holding [ov] (getMethod ov m pl)
      callWith pos f first (backTo pos (starEach (e :: es) X.env)) (backToKw pos (keywordEach [] X.env))) := by rfl) :
    PE X (.Call (.Attribute o m apos) (e :: es) [] pos) (tMeth C m sp dvs E ta t) := by
  intro pins s σ H Q I h
  refine PySem.W.methodCall_KW (pl := pl) (thn (he pins s σ H _ I h) fun u s1 ⟨x, H1, I1, rx, a, dx, fs, ex, ea, l, q⟩ => ?_) ht
  subst ex
  obtain rfl : u = Value.ref a := rx
  refine getmeth_ok I1 ea c hm l ?_
  refine PySem.W.callWith_K (first := [.ref a]) (h₀ := X.base) I.ok.mod.kin hm.kp (thn (ha pos pins s1 σ H1 _ I1 q) fun us s2 ⟨vs, H2, I2, r, q2⟩ => ⟨I2.kIn, ?_⟩) hst hpl
  exact run_fn (us := .ref a :: us) (vs := .ref a :: vs) F hr hb hd hx I2 (.cons rfl r) q2
/-- o.m() -/
theorem pe_meth0 {pl : Sem Bool} (he : PE X o ta) (c : Cls X.K C) (hm : Meth X.K C m f) (F : FnOk X.prog X.w X.K X.mg X.base CX k f fd ps sp) (hr : Room k X.A) (hb : Binds X.K fd ps ds) (hd : Vals dvs ds) (hx : Passes CX X E)
    (ht : eval (.Call (.Attribute o m apos) [] [] pos) X.env = (do
      let ov ← eval o X.env
      standAt apos.atName
      let (f, first) ← holding [ov] (getMethod ov m pl)
      callWith pos f first (backTo pos (starEach [] X.env)) (backToKw pos (keywordEach [] X.env))) := by rfl) :
    PE X (.Call (.Attribute o m apos) [] [] pos) (tMeth C m sp dvs E ta tNil) := by
  intro pins s σ H Q I h
  refine PySem.W.methodCall_KW (pl := pl) (thn (he pins s σ H _ I h) fun u s1 ⟨x, H1, I1, rx, a, dx, fs, ex, ea, l, q⟩ => ?_) ht
  subst ex
  obtain rfl : u = Value.ref a := rx
  refine getmeth_ok I1 ea c hm l ?_
  exact PySem.W.callWith_K0 (first := [.ref a]) I1.kIn hm.kp (run_fn (us := [.ref a]) (vs := [.ref a]) F hr hb hd hx I1 (.cons rfl .nil) q)

/-- what a class must have to be made -/
structure Mk (K : PySem.W.Frag) (C f : Addr) : Prop where
  makes : PySem.W.makesIn K C = true
  init : PySem.W.findIn K (.ref C) "__init__" = some (some (.ref f))
  fn : PySem.W.isFn K (.ref f) = true
  kp : PySem.W.keepIn K (.ref C) = true

theorem run_make {pins : List (Addr × Obj)} {σ : St} {H : Hp} {s : Shared} {Q : VK} {us : List Value} {vs : List V} (M : Mk X.K C f) (F : FnOk X.prog X.w X.K X.mg X.base CX k f fd ps sp) (hr : Room (k + 1) X.A) (hb : Binds X.K fd ps ds) (hd : Vals dvs ds)
    (hx : Passes CX X E) (I : Inv X pins σ H s) (r : Vals vs us)
    (h : ∀ x dx, H x = none → H dx = none → dx ≠ x → sp (.ref x :: (vs ++ dvs)) (upd (upd H dx (.own x)) x (.ins C dx [])) (fun v H2 => v = .non ∧ Q (.ref x) H2) E) :
    wpAny (model X.prog X.w) X.A (call (.ref C) us) (EP X pins σ Q) X.xe s := by
  have hq := h (s.heap.objs.size + 1) s.heap.objs.size (I.hok.fresh (Nat.le_succ _)) (I.hok.fresh (Nat.le_refl _)) (Nat.ne_of_lt (Nat.lt_succ_self _))
  have I2 := Inv.made (C := C) I
  have r2 : Vals (V.ref (s.heap.objs.size + 1) :: (vs ++ dvs)) (Value.ref (s.heap.objs.size + 1) :: (us ++ ds)) := .cons rfl (r.append hd)
  have hl : (Value.ref (s.heap.objs.size + 1) :: us ++ ds).length = ps.length := by
    have e := r2.length
    rw [F.len _ _ _ _ hq] at e
    exact e.symm
  refine wpAny_call (make_map (f := f) I.kIn M.makes M.init (beq_iff_eq.mp M.fn) (codeAny_mono (F.run _ X.stack _ _ ⟨Value.ref (s.heap.objs.size + 1) :: us, []⟩ (Value.ref (s.heap.objs.size + 1) :: (us ++ ds)) _ _ E (hr.make C us [])
    (I2.env0.make C us []) (hb _ (Value.ref (s.heap.objs.size + 1) :: us) I2.kIn hl) r2 hq) fun r s' hq' => ?_))
  cases r with
  | error e => exact hx pins σ _ _ e s' I2 hq'
  | ok fl =>
    cases fl with
    | ret u =>
      obtain ⟨v, H', I3, rv, ev, q3⟩ := I2.after hq'
      subst ev
      exact ⟨rv, ⟨V.ref (s.heap.objs.size + 1), H', I3, rfl, q3⟩⟩
    | next => exact False.elim hq'
    | brk => exact False.elim hq'
    | cont => exact False.elim hq'
theorem pe_make (M : Mk X.K C f) (F : FnOk X.prog X.w X.K X.mg X.base CX k f fd ps sp) (hr : Room (k + 1) X.A) (hg : Gl X x) (hm : X.mg x = some (.ref C)) (hb : Binds X.K fd ps ds) (hd : Vals dvs ds) (hx : Passes CX X E)
    (ha : PA X (e :: es) t) (hdb : (x == ("__debug__" : Str)) = false := by decide) (he : starEach (e :: es) X.env = (false, eval e X.env) :: starEach es X.env := by rfl) (hpl : (backTo pos (starEach es X.env)).any (·.1) = false := by rfl) :
    PE X (.Call (.Name x p) (e :: es) [] pos) (tMake C sp dvs E t) := by
  intro pins s σ H Q I h
  refine wpAny_Call_Name_kw (ld_glob I hg hm ?_ hdb)
  refine PySem.W.callWith_K (h₀ := X.base) I.ok.mod.kin M.kp (thn (ha pos pins s σ H _ I h) fun us s1 ⟨vs, H1, I1, r, q⟩ => ⟨I1.kIn, ?_⟩) he hpl
  exact run_make M F hr hb hd hx I1 r q
end

/-! ### keywords -/
section
variable {X : Cx} {CX : CXT} {k : Nat} {f C : Addr} {fd : FuncData} {ps ks : List Str} {sp : Sp} {E : XK} {x m : Str} {p pos apos kpos : Pos} {e o : Expr} {es : List Expr} {kws : List Keyword} {te ta : TE} {t tk : TA} {nm : Option Str}
variable {g : List Value → List Value → List Value} {gV : List V → List V → List V}
end

/-! ### a def's body keeps its promise -/
/-- names: the parameters first -/
structure FnScope (N P : List Str) (sc : Scope) : Prop where
  kind : sc.kind = .function
  co : sc.isCoroutine = false
  gen : sc.isGenerator = false
  nd : N.Nodup
  pre : N.take P.length = P
  par : ∀ x ∈ P, sc.names.lookup x = some .local ∨ sc.names.lookup x = some .cell
  nofree : ∀ y ∈ sc.names, y.2 ≠ .free

theorem bindL_out {kindOf : Str → Option NameKind} {x : Str} : ∀ {binds : List (Str × Value)} {m : Str → Option Value}, (∀ v, (x, v) ∉ binds) → bindL kindOf binds m x = m x
  | [], _, _ => rfl
  | (n, v) :: r, m, h => by
    unfold bindL
    rw [bindL_out fun w hw => h w (List.mem_cons_of_mem _ hw)]
    split
    · have : x ≠ n := by rintro rfl; exact h v List.mem_cons_self
      simp [this]
    · rfl
theorem bindC_out {kindOf : Str → Option NameKind} {x : Str} : ∀ {binds : List (Str × Value)} {m : Str → Option Value}, (∀ v, (x, v) ∉ binds) → bindC kindOf binds m x = m x
  | [], _, _ => rfl
  | (n, v) :: r, m, h => by
    unfold bindC
    rw [bindC_out fun w hw => h w (List.mem_cons_of_mem _ hw)]
    split
    · rfl
    · have : x ≠ n := by rintro rfl; exact h v List.mem_cons_self
      simp [this]
theorem bindL_get {kindOf : Str → Option NameKind} {x : Str} {v : Value} : ∀ {P : List Str} {vs : List Value} {i : Nat} {m : Str → Option Value}, P.Nodup → P[i]? = some x → vs[i]? = some v → kindOf x = some .local →
    bindL kindOf (P.zip vs) m x = some v
  | [], _, _, _, _, h, _, _ => by simp at h
  | _ :: _, [], _, _, _, _, h, _ => by simp at h
  | p :: P, w :: vs, 0, m, nd, h1, h2, hk => by
    simp at h1 h2; subst h1; subst h2
    show bindL kindOf ((p, w) :: P.zip vs) m p = _
    unfold bindL
    rw [bindL_out fun v hv => (List.nodup_cons.mp nd).1 (List.of_mem_zip hv).1, if_pos hk]
    simp
  | p :: P, w :: vs, i + 1, m, nd, h1, h2, hk => by
    show bindL kindOf ((p, w) :: P.zip vs) m x = _
    unfold bindL
    exact bindL_get (i := i) (List.nodup_cons.mp nd).2 (by simpa using h1) (by simpa using h2) hk
theorem bindC_get {kindOf : Str → Option NameKind} {x : Str} {v : Value} : ∀ {P : List Str} {vs : List Value} {i : Nat} {m : Str → Option Value}, P.Nodup → P[i]? = some x → vs[i]? = some v → kindOf x ≠ some .local →
    bindC kindOf (P.zip vs) m x = some v
  | [], _, _, _, _, h, _, _ => by simp at h
  | _ :: _, [], _, _, _, _, h, _ => by simp at h
  | p :: P, w :: vs, 0, m, nd, h1, h2, hk => by
    simp at h1 h2; subst h1; subst h2
    show bindC kindOf ((p, w) :: P.zip vs) m p = _
    unfold bindC
    rw [bindC_out fun v hv => (List.nodup_cons.mp nd).1 (List.of_mem_zip hv).1, if_neg hk]
    simp
  | p :: P, w :: vs, i + 1, m, nd, h1, h2, hk => by
    show bindC kindOf ((p, w) :: P.zip vs) m x = _
    unfold bindC
    exact bindC_get (i := i) (List.nodup_cons.mp nd).2 (by simpa using h1) (by simpa using h2) hk

/-- the names' values at the entry -/
def start (N : List Str) (vs : List V) : St := vs.map some ++ List.replicate (N.length - vs.length) none

/-- the context of a def's body, at its entry; an exception leaves the frame, then lies as CX says -/
def cxOf (CX : CXT) (P : Program) (w : World) (K : PySem.W.Frag) (mg : Str → Option Value) (base : Heap) (N : List Str) (qual : Str) (scope : Scope) (f : Addr) (cd : Value) (A : Around) (outer : List Env) (s : Shared) (H : Hp) (E : XK) : Cx where
  prog := P
  w := w
  K := K
  mg := mg
  base := base
  A := A.deeper (envOfC qual scope s.heap.objs.size f cd)
  N := N
  s₀ := s
  H₀ := H
  env := envOfC qual scope s.heap.objs.size f cd
  outer := outer
  stack := envOfC qual scope s.heap.objs.size f cd :: outer
  ex := []
  calm := true
  fn := fun _ => true
  pn := []
  xe := fun e s' => wpAny (model P w) (A.deeper (envOfC qual scope s.heap.objs.size f cd)) (leaving (envOfC qual scope s.heap.objs.size f cd) e) (fun _ s'' => CX outer H s E e s'') (fun e' s'' => CX outer H s E e' s'') s'

theorem cell_has {sc : Scope} {n : Nat} {x : Str} (h : sc.names.lookup x = some .cell) : ∃ c, (cellsFrom n sc.names []).lookup x = some c := by
  have q := PySem.W.cellsFrom_some sc.names n [] (.inl h)
  exact Option.isSome_iff_exists.mp q

theorem inv_start {CX : CXT} {P : Program} {w : World} {K : PySem.W.Frag} {mg : Str → Option Value} {base : Heap} {N ps : List Str} {qual : Str} {scope : Scope} {f : Addr} {cd : Value} {A : Around} {outer : List Env} {s s1 : Shared} {H : Hp} {E : XK} {us : List Value} {vs : List V}
    (S : FnScope N ps scope) (hd : A.handled = none) (e0 : Env0 P w K mg base A outer s H) (hl : vs.length = ps.length) (r : Vals vs us)
    (x : InCallC s s.heap.objs.size (bindL (envOfC qual scope s.heap.objs.size f cd).kindOf (ps.zip us) fun _ => none) (cellsFrom (s.heap.objs.size + 1) scope.names []) (bindC (envOfC qual scope s.heap.objs.size f cd).kindOf (ps.zip us) fun _ => none) s1) :
    Inv (cxOf CX P w K mg base N qual scope f cd A outer s H E) [] (start N vs) H s1 := by
  have hpl : ps.length ≤ N.length := by have := congrArg List.length S.pre; rw [List.length_take] at this; omega
  obtain ⟨h1, tk, rfl, hk⟩ := x.done
  have noA : ∀ b : Addr, b ∉ (cxOf CX P w K mg base N qual scope f cd A outer s H E).ex := fun b z => absurd (show b ∈ ([] : List Addr) from z) (by simp)
  refine ⟨⟨e0.mod, S.kind, rfl, rfl, Nat.le_refl _, fun y z c h1 h2 => ?_, fun y hy => ?_, fun y c _ h => ?_, fun _ => hd, Around.frames_deeper e0.frames, .inr ⟨rfl, rfl⟩, fun b z => absurd z (noA b), e0.bs, e0.bsz, fun b _ _ => noA b, fun b z => absurd z (noA b), e0.funs, e0.frf⟩,
    rfl, e0.bare, Un.kept hk, ⟨_, x.toInCall.ns, fun i y v h1 h2 h3 => ?_⟩, fun y c h => ⟨_, x.cell y c h⟩, e0.hok.fresh (Nat.le_refl _), fun y c h => ?_, fun p hp => absurd (show p ∈ ([] : List (Addr × Obj)) from hp) (by simp), e0.hok.kept hk, ?_⟩
  · exact name_of_addr x.apart (PySem.mem_of_lookup h1) (PySem.mem_of_lookup h2)
  · have hy : scope.names.lookup y = some .cell ∨ scope.names.lookup y = some .free := hy
    rcases hy with hy | hy
    · exact cell_has hy
    · exact absurd rfl (S.nofree _ (PySem.mem_of_lookup hy))
  · exact Nat.le_of_lt (x.above y c (PySem.mem_of_lookup h))
  · have hi : i < vs.length := by
      unfold start at h2
      by_cases hi : i < vs.length
      · exact hi
      · rw [List.getElem?_append_right (by simpa using hi)] at h2
        rw [List.getElem?_replicate] at h2
        split at h2 <;> cases h2
    have ha : vs[i]? = some v := by
      unfold start at h2
      rw [List.getElem?_append_left (by simpa using hi), List.getElem?_map] at h2
      cases e : vs[i]? with
      | none => rw [e] at h2; cases h2
      | some a => rw [e] at h2; cases h2; rfl
    obtain ⟨u, hu, rv⟩ := r.get ha
    have hp : ps[i]? = some y := by
      rw [← S.pre, List.getElem?_take_of_lt (by omega)]; exact h1
    have ndP : ps.Nodup := by rw [← S.pre]; exact S.nd.sublist (List.take_sublist _ _)
    refine ⟨u, rv, ?_⟩
    rcases S.par y (List.mem_of_getElem? hp) with k | k
    · exact .inl ⟨k, bindL_get ndP hp hu k⟩
    · obtain ⟨c, e⟩ := cell_has (n := s.heap.objs.size + 1) k
      refine .inr ⟨.inl k, c, e, ?_⟩
      have q := x.cell y c e
      rw [bindC_get ndP hp hu (by show scope.names.lookup y ≠ _; rw [k]; decide)] at q
      exact q
  · exact e0.hok.fresh (Nat.le_of_lt (x.above y c (PySem.mem_of_lookup h)))
  · unfold start
    show _ = N.length
    rw [List.length_append, List.length_map, List.length_replicate]
    omega

/-- THE RULE: a def (or a method) of the text, by its body. The body's reading t is chosen for each entry; it is run at the parameters' values -/
theorem fn_of {CX : CXT} {P : Program} {w : World} {K : PySem.W.Frag} {mg : Str → Option Value} {base : Heap} {k : Nat} {f : Addr} {name qual : Str} {params : Arguments} {body : List Stmt} {scope : Scope} {dV kV doc pm cdv ct oc : Value} {an od : Option Addr}
    {osl : Array (Option Value)} {N ps : List Str} {sp : Sp} (lk : K.lookup f = some ⟨oc, od, .func (PySem.W.fnOf name qual params body scope dV kV doc pm an cdv ct), osl⟩) (hcd : PySem.W.codeIn K cdv qual = true) (S : FnScope N ps scope)
    (len : ∀ vs H Q E, sp vs H Q E → vs.length = ps.length)
    (hbody : ∀ (A : Around) (outer : List Env) (s : Shared) (H : Hp) (vs : List V) (Q : VK) (E : XK), Room k (A.deeper (envOfC qual scope s.heap.objs.size f cdv)) → sp vs H Q E →
      ∃ t, PSs (cxOf CX P w K mg base N qual scope f cdv A outer s H E) body t ∧ t { nx := fun _ H' => Q .non H', rt := Q } (start N vs) H) :
    FnOk P w K mg base CX (k + 1) f (PySem.W.fnOf name qual params body scope dV kV doc pm an cdv ct) ps sp := by
  refine ⟨len, fun A outer s H args us vs Q E hr e0 hb r hsp => ?_⟩
  have hl := len _ _ _ _ hsp
  have KX : K.In s.heap := e0.mod.kin.keeps fun b o e => (e0.bs b o e).1
  have lim : s.heap.NoLimit := e0.mod.nolimit.keeps fun b o e => (e0.bs b o e).1
  have hkind : ∀ y ∈ ps.zip us, scope.names.lookup y.1 = some .local ∨ (scope.names.lookup y.1 = some .cell ∧ ((cellsFrom (s.heap.objs.size + 1) scope.names []).lookup y.1).isSome = true) := fun ⟨n, v⟩ hy => by
    rcases S.par n (List.of_mem_zip hy).1 with q | q
    · exact .inl q
    · exact .inr ⟨q, PySem.W.cellsFrom_some _ _ _ (.inl q)⟩
  refine codeAny_call_function hr.depth (KX _ _ lk) rfl S.co S.gen rfl (PySem.W.codeRec_of KX hcd) (hb _ _ _ _ ?_)
  refine wpAny_newFunctionEnv_cells S.kind hkind fun env he s1 x => ?_
  subst he
  refine ⟨lim.keeps x.toInCall.keep, codeAny_func ?_⟩
  obtain ⟨t, ht, hq⟩ := hbody A outer s H vs Q E (hr.deeper _) hsp
  have I : Inv (cxOf CX P w K mg base N qual scope f cdv A outer s H E) [] (start N vs) H s1 := inv_start S hr.hd e0 hl r x
  refine wpAny_mono (ht [] s1 (start N vs) H _ I hq) (fun fl s' hs => ?_) fun e s' hs => hs
  have fin : ∀ {σ' : St} {H' : Hp} {v : V} {u : Value}, Inv (cxOf CX P w K mg base N qual scope f cdv A outer s H E) [] σ' H' s' → RelV v u → Q v H' → CE outer P w H s Q u s' :=
    fun {σ' H' v u} J rv q => ⟨v, H', J.os, J.bare, J.base, J.hok, rv, q⟩
  cases fl with
  | ret u =>
    obtain ⟨v, σ', H', J, rv, q⟩ := hs
    exact fin J rv q
  | next =>
    obtain ⟨σ', H', J, q⟩ := hs
    exact fin (v := V.non) (u := Value.none) J rfl q
  | brk =>
    obtain ⟨_, _, _, q⟩ := hs
    exact False.elim q
  | cont =>
    obtain ⟨_, _, _, q⟩ := hs
    exact False.elim q
end L2

namespace L2
open PySem PySem.Spec PyProof.Rows
section
variable {X : Cx} {x : Str} {p pos : Pos} {e : Expr} {es : List Expr} {t : TA} {id T : String} {r : List V → Hp → VK → Prop}

def tCB (r : List V → Hp → VK → Prop) (t : TA) : TE := fun σ H Q => t σ H fun vs H1 => r vs H1 Q
/-- f(e, ..), f a built-in function -/
theorem pe_callB (hc : CallR X (.builtin id) r) (hg : Gl X x) (hm : X.mg x = none) (hv : bootBuiltins x = some (.builtin id)) (ha : PA X (e :: es) t) (hn : x ≠ "__name__" := by decide) (hdb : (x == ("__debug__" : Str)) = false := by decide)
    (he : starEach (e :: es) X.env = (false, eval e X.env) :: starEach es X.env := by rfl) (hpl : (backTo pos (starEach es X.env)).any (·.1) = false := by rfl) : PE X (.Call (.Name x p) (e :: es) [] pos) (tCB r t) := by
  intro pins s σ H Q I h
  refine wpAny_Call_Name_kw (ld_blt I hg hm hv ?_ hn hdb)
  exact PyProof.Rows.callWith_builtin1 (thn (ha pos pins s σ H _ I h) fun us s1 ⟨vs, H1, I1, r1, q1⟩ => hc pins s1 σ H1 vs us Q I1 r1 q1) he hpl
/-- T(e, ..), T a built-in type -/
theorem pe_callTy (hc : CallR X (.type T) r) (hg : Gl X x) (hm : X.mg x = none) (hv : bootBuiltins x = some (.type T)) (ha : PA X (e :: es) t) (hn : x ≠ "__name__" := by decide) (hdb : (x == ("__debug__" : Str)) = false := by decide)
    (he : starEach (e :: es) X.env = (false, eval e X.env) :: starEach es X.env := by rfl) (hpl : (backTo pos (starEach es X.env)).any (·.1) = false := by rfl) : PE X (.Call (.Name x p) (e :: es) [] pos) (tCB r t) := by
  intro pins s σ H Q I h
  refine wpAny_Call_Name_kw (ld_blt I hg hm hv ?_ hn hdb)
  exact PyProof.Rows.callWith_type1 (thn (ha pos pins s σ H _ I h) fun us s1 ⟨vs, H1, I1, r1, q1⟩ => hc pins s1 σ H1 vs us Q I1 r1 q1) he hpl
end
end L2

namespace HT
open PySem PyProof.Rows

section
open PySem.SeqAt
open PySem.AutoSeq1 (wpAny_loadPart')
open PySem.MeetsSeq PySem.MeetsSeq2 PySem.MeetsSeq3

end

section
variable {prog : Program} {w : World} {A : Around} {E : Value → Shared → Prop} {s : Shared}

/-! ### t[a:b], not the whole -/
/-- a slice's bound as a place among n (d where it is left out) -/
def sIx (n d : Nat) : Option Int → Nat
  | none => d
  | some v => if v < 0 then (v + (n : Int)).toNat else min v.toNat n
end
end HT

namespace L2
open PySem PySem.Spec PyProof.Rows

/-! ### the parts of a slice -/
abbrev TO := St → Hp → (Option Int → Hp → Prop) → Prop
/-- a slice's part (left out, or an int) -/
def PO (X : Cx) (e : Option Expr) (t : TO) : Prop :=
  ∀ (pins : List (Addr × Obj)) (s : Shared) (σ : St) (H : Hp) (Q : Option Int → Hp → Prop), Inv X pins σ H s → t σ H Q →
    wpAny (model X.prog X.w) X.A (evalPart e X.env) (fun u s' => ∃ o H', Inv X pins σ H' s' ∧ IsPart u o ∧ Q o H') X.xe s
def tPart (t : TE) : TO := fun σ H Q => t σ H fun x H1 => ∃ i, x = .int i ∧ Q (some i) H1

section
variable {X : Cx} {e : Expr} {te : TE} {lo hi : Option Expr} {tl th : TO} {pos p2 : Pos}

theorem po_some (h : PE X e te) : PO X (some e) (tPart te) := by
  intro pins s σ H Q I hw
  rw [evalPart_some]
  refine thn (h pins s σ H _ I hw) fun u s1 ⟨x, H1, I1, r1, q1⟩ => ?_
  obtain ⟨i, rfl, q⟩ := q1
  obtain ⟨t, rfl⟩ := r1
  exact ⟨some i, H1, I1, .int i t, q⟩

/-- what a slice of a value is, by values: the slice object stands at sl -/
def SlR (X : Cx) (r : V → Option Int → Option Int → Hp → VK → Prop) : Prop :=
  ∀ (pins : List (Addr × Obj)) (s : Shared) (σ : St) (H : Hp) (x : V) (v vl vu : Value) (lo hi : Option Int) (sl : Addr) (Q : VK), Inv X pins σ H s → RelV x v → s.heap.IsSliceOf sl vl vu .none → IsPart vl lo → IsPart vu hi → r x lo hi H Q →
    ∃ T id, typeLookup (.type T) "__getitem__" = pure (some (.builtin id)) ∧ s.TypeIs v T ∧ wpAny (model X.prog X.w) X.A (getItem v (.ref sl)) (EP X pins σ Q) X.xe s
def tSl (r : V → Option Int → Option Int → Hp → VK → Prop) (te : TE) (tl th : TO) : TE := fun σ H Q => te σ H fun x H1 => tl σ H1 fun l H2 => th σ H2 fun u H3 => r x l u H3 Q
/-- a[lo:hi], any a -/
theorem pe_slice {r : V → Option Int → Option Int → Hp → VK → Prop} (hr : SlR X r) (he : PE X e te) (hl : PO X lo tl) (hu : PO X hi th) : PE X (.Subscript e (.Slice lo hi none p2) pos) (tSl r te tl th) := by
  intro pins s σ H Q I h
  refine Subscript_ (thn (he pins s σ H _ I h) fun v s1 ⟨x, H1, I1, r1, q1⟩ => ?_)
  refine wpAny_Slice (thn (hl pins s1 σ H1 _ I1 q1) fun vl s2 ⟨l, H2, I2, pl, q2⟩ => thn (hu pins s2 σ H2 _ I2 q2) fun vu s3 ⟨u, H3, I3, pu, q3⟩ => ?_)
  rw [evalPart_none]
  refine wpAny_pure ?_
  have I4 : Inv X pins σ H3 { s3 with heap := s3.heap.push { cls := .type "slice", data := .fields #[vl, vu, .none] } } := I3.kept (t' := s3.toks) fun b ob q => Heap.get?_push_of_some _ q
  obtain ⟨T, id, hT, ht, hg⟩ := hr pins { s3 with heap := s3.heap.push { cls := .type "slice", data := .fields #[vl, vu, .none] } } σ H3 x v vl vu l u s3.heap.objs.size Q I4 r1 (Heap.IsSliceOf.new ..) pl pu q3
  show wpAny (model X.prog X.w) X.A (subscriptTail e (.Slice lo hi none p2) v (.ref s3.heap.objs.size)) (EP X pins σ Q) X.xe { s3 with heap := s3.heap.push { cls := .type "slice", data := .fields #[vl, vu, .none] } }
  exact tail_any (ops := [.ref s3.heap.objs.size, v]) ht hT hg (by with_unfolding_all rfl)

/-- the items of xs[lo:hi] -/
def cutV (xs : List V) (lo hi : Option Int) : List V := (xs.drop (HT.sIx xs.length 0 lo)).take (HT.sIx xs.length xs.length hi - HT.sIx xs.length 0 lo)
theorem cutV_length (xs : List V) (lo hi : Option Int) : (cutV xs lo hi).length ≤ xs.length := by
  unfold cutV
  rw [List.length_take, List.length_drop]
  omega
/-! ### t < u, t + u -/
end
end L2

namespace L2
open PySem PySem.Spec PyProof.Rows

/-! ### places -/
/-- the place that an index of any sign means -/
def ixN (n : Nat) (i : Int) : Option Nat := if 0 ≤ i then (if i < n then some i.toNat else none) else if -(n : Int) ≤ i then some (i + n).toNat else none
def atI {α : Type} (xs : List α) (i : Int) : Option α := (ixN xs.length i).bind fun j => xs[j]?
theorem ixN_seq {n : Nat} {i : Int} {j : Nat} (h : ixN n i = some j) : seqIndex? i n = some j ∧ j < n ∧ -(n : Int) ≤ i ∧ i < n := by
  unfold ixN at h
  by_cases h0 : 0 ≤ i
  · rw [if_pos h0] at h
    by_cases h1 : i < n
    · rw [if_pos h1] at h
      have e : i.toNat = j := Option.some.inj h
      exact ⟨by rw [seqIndex_of h0 h1, e], by omega, by omega, h1⟩
    · rw [if_neg h1] at h; cases h
  · rw [if_neg h0] at h
    by_cases h1 : -(n : Int) ≤ i
    · rw [if_pos h1] at h
      have e : (i + n).toNat = j := Option.some.inj h
      exact ⟨by rw [seqIndex_neg (by omega) h1, e], by omega, h1, by omega⟩
    · rw [if_neg h1] at h; cases h
theorem atI_get {α : Type} {xs : List α} {i : Int} {v : α} (h : atI xs i = some v) : ∃ j, seqIndex? i xs.length = some j ∧ xs[j]? = some v ∧ j < xs.length ∧ -(xs.length : Int) ≤ i ∧ i < xs.length := by
  unfold atI at h
  cases e : ixN xs.length i with
  | none => rw [e] at h; cases h
  | some j =>
    rw [e] at h
    obtain ⟨h1, h2, h3, h4⟩ := ixN_seq e
    exact ⟨j, h1, h, h2, h3, h4⟩
theorem atI_nat {α : Type} {xs : List α} {j : Nat} {v : α} (h : xs[j]? = some v) : atI xs (j : Int) = some v := by
  have hj : j < xs.length := (List.getElem?_eq_some_iff.mp h).1
  have e : ixN xs.length (j : Int) = some j := by
    unfold ixN
    rw [if_pos (by omega), if_pos (by omega)]; simp
  unfold atI; rw [e]; exact h
/-! ### what may be subscripted -/
/-- what stands as an index of a plain subscript -/
def PlainIx (b : Expr) : Prop := ∀ o i, subscripted b false o i = operate [o, i] (getItem o i)
/-- a subscript by values -/
def IxR (X : Cx) (r : R2) : Prop :=
  ∀ (value slice : Expr) (pins : List (Addr × Obj)) (s : Shared) (σ : St) (H : Hp) (x y : V) (v u : Value) (Q : VK), Inv X pins σ H s → RelV x v → RelV y u → r x y H Q →
    subscripted slice false v u = operate [v, u] (getItem v u) → wpAny (model X.prog X.w) X.A (subscriptTail value slice v u) (EP X pins σ Q) X.xe s
/-- a call of a builtin's method by values: the receiver, the arguments -/
def MtR (X : Cx) (id : String) (r : V → List V → Hp → VK → Prop) : Prop :=
  ∀ (pins : List (Addr × Obj)) (s : Shared) (σ : St) (H : Hp) (x : V) (xs : List V) (v : Value) (us : List Value) (Q : VK), Inv X pins σ H s → RelV x v → Vals xs us → r x xs H Q →
    wpAny (model X.prog X.w) X.A (call (.builtin id) (v :: us)) (EP X pins σ Q) X.xe s
section
variable {X : Cx} {a b : Expr} {ta tb : TE} {pos : Pos}
/-- a[b] -/
theorem pe_ix {r : R2} (hr : IxR X r) (ha : PE X a ta) (hb : PE X b tb) (hs : PlainIx b) : PE X (.Subscript a b pos) (tOp r ta tb) := by
  intro pins s σ H Q I h
  exact Subscript_ (binT ha hb I h fun v u s2 x y H2 I2 rx ry q => hr a b pins s2 σ H2 x y v u Q I2 rx ry q (hs _ _))

def rIxL (K : PySem.W.Frag) : R2 := fun x y H Q => ∃ p xs i v, x = .ref p ∧ y = .int i ∧ SqL K H p xs ∧ atI xs i = some v ∧ Q v H
def rIxT (K : PySem.W.Frag) : R2 := fun x y H Q => ∃ p xs i v, x = .ref p ∧ y = .int i ∧ SqT K H p xs ∧ atI xs i = some v ∧ Q v H
theorem ix_list : IxR X (rIxL X.K) := by
  intro value slice pins s σ H x y v u Q I rx ry h hs
  obtain ⟨p, xs, i, z, rfl, rfl, hq, he, q⟩ := h
  cases rx
  obtain ⟨t, rfl⟩ := ry
  obtain ⟨its, r, pl, hz⟩ := I.list hq
  obtain ⟨j, h1, h2, h3, h4, h5⟩ := atI_get he
  obtain ⟨w, ew, rw'⟩ := r.get h2
  have hl := r.length
  have hn := line63
  have fin : EP X pins σ Q w s := ⟨z, H, I, rw', q⟩
  by_cases h0 : 0 ≤ i
  · have hj : i.toNat = j := by
      rw [seqIndex_of h0 h5] at h1
      exact Option.some.inj h1
    exact item_listR pl.isList h0 (by omega) (by rw [hj]; simpa using ew) fin hs
  · have hj : (i + (its.toArray.size : Int)).toNat = j := by
      rw [seqIndex_neg (by omega) h4] at h1
      rw [List.size_toArray, ← hl]
      exact Option.some.inj h1
    exact subscriptTail_builtinR (x := w) pl.isList.typeIs slot_list_getitem.lookup
      (wpAny_getItem_list_neg (Q := fun r s' => r = w ∧ EP X pins σ Q r s') pl.isList (by omega) (by rw [List.size_toArray] <;> omega) (by omega) (by rw [hj]; simpa using ew) ⟨rfl, fin⟩) hs
theorem ix_tup : IxR X (rIxT X.K) := by
  intro value slice pins s σ H x y v u Q I rx ry h hs
  obtain ⟨p, xs, i, z, rfl, rfl, hq, he, q⟩ := h
  cases rx
  obtain ⟨t, rfl⟩ := ry
  obtain ⟨its, r, pl, hz⟩ := I.tuple hq
  obtain ⟨j, h1, h2, h3, h4, h5⟩ := atI_get he
  obtain ⟨w, ew, rw'⟩ := r.get h2
  have hl := r.length
  have hn := line63
  have fin : EP X pins σ Q w s := ⟨z, H, I, rw', q⟩
  exact subscriptTail_builtinR (x := w) pl.typeIs slot_tuple_getitem.lookup
    (getItem_tuple (j := j) (Q := fun r s' => r = w ∧ EP X pins σ Q r s') pl (by omega) (by omega) (by rw [List.size_toArray, ← hl]; exact h1) (by simpa using ew) ⟨rfl, fin⟩) hs
/-! ### xs[i] = v, any sign -/
/-! ### slices -/
theorem slice_bounds (lo hi : Option Int) (n : Nat) : (sliceBounds lo hi none n).1 = ((HT.sIx n 0 lo : Nat) : Int) ∧ (sliceBounds lo hi none n).2.1 = ((HT.sIx n n hi : Nat) : Int) ∧ (sliceBounds lo hi none n).2.2 = 1 := by
  refine ⟨?_, ?_, rfl⟩
  · cases lo with
    | none => simp [sliceBounds, HT.sIx]
    | some i =>
      simp only [sliceBounds, HT.sIx, Option.getD_none, show (1 : Int) > 0 by decide, if_true]
      by_cases h : i < 0
      · simp only [h, if_true] <;> omega
      · simp only [h, if_false] <;> omega
  · cases hi with
    | none => simp [sliceBounds, HT.sIx]
    | some i =>
      simp only [sliceBounds, HT.sIx, Option.getD_none, show (1 : Int) > 0 by decide, if_true]
      by_cases h : i < 0
      · simp only [h, if_true] <;> omega
      · simp only [h, if_false] <;> omega
theorem slicePick_cut (its : List Value) (lo hi : Option Int) : slicePick its.toArray lo hi none = ((its.drop (HT.sIx its.length 0 lo)).take (HT.sIx its.length its.length hi - HT.sIx its.length 0 lo)).toArray := by
  obtain ⟨h1, h2, h3⟩ := slice_bounds lo hi its.toArray.size
  unfold slicePick
  rw [h1, h2, h3]
  simp only [sliceRange_one, pick_run, List.size_toArray] <;> rfl
/-- xs[lo:hi] of a list: a new list -/
def rSlL (K : PySem.W.Frag) : V → Option Int → Option Int → Hp → VK → Prop := fun x lo hi H Q => ∃ a xs, x = .ref a ∧ SqL K H a xs ∧ ∀ p, H p = none → Q (.ref p) (upd H p (.lst (cutV xs lo hi)))
theorem sl_list : SlR X (rSlL X.K) := by
  intro pins s σ H x v vl vu lo hi sl Q I rx hs pl pu h
  obtain ⟨a, xs, rfl, hx, q⟩ := h
  cases rx
  obtain ⟨its, r, ht, hz⟩ := I.list hx
  have hlen := r.length
  refine ⟨"list", _, slot_list_getitem.lookup, ht.isList.typeIs, ?_⟩
  refine wpAny_getItem_list_slice ht.isList hs pl pu .none (by simp) ?_ (by rw [List.size_toArray] <;> omega)
  rw [slicePick_cut, ← hlen]
  refine ⟨.ref s.heap.objs.size, _, I.laid (t' := s.toks) (o := .lst (cutV xs lo hi)) (fun b ob q => Heap.get?_push_of_some _ q) (Nat.le_refl _) ?_, rfl, q _ (I.hok.fresh (Nat.le_refl _))⟩
  exact ⟨Nat.le_trans (cutV_length xs lo hi) hz, _, 0, (r.drop (HT.sIx xs.length 0 lo)).take (HT.sIx xs.length xs.length hi - HT.sIx xs.length 0 lo), Heap.get?_push_size _ rfl⟩

/-! ### in, not in: flat items -/
/-! ### len, list(x), tuple(x) of any list or tuple that is read -/
theorem call_len_seq : CallR X (.builtin "len") (fun xs H Q => ∃ p ys, xs = [.ref p] ∧ (SqL X.K H p ys ∨ SqT X.K H p ys) ∧ Q (.int ys.length) H) := by
  intro pins s σ H xs us Q I r h
  obtain ⟨p, ys, rfl, hq, q⟩ := h
  obtain ⟨u, rfl, rx⟩ := vals1 r
  cases rx
  have hn := line63
  rcases hq with hq | hq
  · obtain ⟨its, r', pl, hz⟩ := I.list hq
    have hlen := r'.length
    exact Calls.call_len_list pl.isList (by simp only [List.size_toArray] <;> omega) ⟨.int ys.length, H, I.tok _, ⟨s.toks + 1, by rw [List.size_toArray, hlen]⟩, q⟩
  · obtain ⟨its, r', pl, hz⟩ := I.tuple hq
    have hlen := r'.length
    exact len_tuple pl (by simp only [List.size_toArray] <;> omega) ⟨.int ys.length, H, I.tok _, ⟨s.toks + 1, by rw [List.size_toArray, hlen]⟩, q⟩
theorem call_tuple_of : CallR X (.type "tuple") (fun xs H Q => ∃ p ys, xs = [.ref p] ∧ ((SqL X.K H p ys ∧ ∀ l, H l = none → Q (.ref l) (upd H l (.tup ys))) ∨ (SqT X.K H p ys ∧ Q (.ref p) H))) := by
  intro pins s σ H xs us Q I r h
  obtain ⟨p, ys, rfl, h⟩ := h
  obtain ⟨u, rfl, rx⟩ := vals1 r
  cases rx
  rcases h with ⟨hq, q⟩ | ⟨hq, q⟩
  · obtain ⟨its, r', pl, hz⟩ := I.list hq
    have hlen := r'.length
    refine call_tuple_list pl.isList (fun h' kp => ?_) (by simp only [List.size_toArray] <;> omega)
    have I1 : Inv X pins σ H { s with heap := h' } := I.kept (t' := s.toks) kp
    have I2 : Inv X pins σ (upd H h'.objs.size (.tup ys)) { s with heap := h'.push { cls := .type "tuple", data := .seq its.toArray } } :=
      I1.laid (t' := s.toks) (fun b o e => Heap.get?_push_of_some _ e) (Nat.le_refl _) (show ObjOk X.prog X.w _ _ _ (.tup ys) from ⟨hz, its, r', IsTup.new _ _⟩)
    exact ⟨.ref h'.objs.size, _, I2, rfl, q _ (I1.hok.fresh (Nat.le_refl _))⟩
  · obtain ⟨its, r', pl, hz⟩ := I.tuple hq
    exact call_tuple_same pl ⟨.ref p, H, I, rfl, q⟩

/-! ### the call of a builtin's method: o.m(..) -/
/-- the value is of that builtin type -/
def tyV (K : PySem.W.Frag) (T : String) (x : V) (H : Hp) : Prop := match x with
  | .str _ => T = "str"
  | .int _ => T = "int"
  | .ref p => (T = "list" ∧ ∃ xs, SqL K H p xs) ∨ (T = "tuple" ∧ ∃ o, K.lookup p = some o ∧ o.cls = .type "tuple" ∧ o.dict = none) ∨
      (T = "dict" ∧ ((∃ kvs, H p = some (.dK kvs)) ∨ ∃ kvs, H p = some (.dT kvs))) ∨ (T = "set" ∧ ∃ S n, H p = some (.set S n))
  | _ => False
theorem tyV_is {pins : List (Addr × Obj)} {σ : St} {H : Hp} {s : Shared} {T : String} {x : V} {v : Value} (I : Inv X pins σ H s) (r : RelV x v) (ty : tyV X.K T x H) :
    s.TypeIs v T ∧ ∀ a, v = .ref a → ∃ ob, s.heap.get? a = some ob ∧ ob.dict = none := by
  cases x with
  | str z =>
    obtain ⟨t, rfl⟩ := r
    cases (show T = "str" from ty)
    exact ⟨typeIs_str s z t, fun _ e => nomatch e⟩
  | int i =>
    obtain ⟨t, rfl⟩ := r
    cases (show T = "int" from ty)
    exact ⟨typeIs_int s i t, fun _ e => nomatch e⟩
  | ref p =>
    cases r
    rcases ty with ⟨rfl, xs, hq⟩ | ⟨rfl, o, hk, hc, hd⟩ | ⟨rfl, hk⟩ | ⟨rfl, S, n, hk⟩
    · obtain ⟨its, _, pl, _⟩ := I.list hq
      refine ⟨pl.isList.typeIs, fun a e => ?_⟩
      cases e
      obtain ⟨o, n, e, c, hd, _⟩ := pl
      exact ⟨o, e, hd⟩
    · refine ⟨⟨o, I.kIn p o hk, hc⟩, fun a e => ?_⟩
      cases e
      exact ⟨o, I.kIn _ o hk, hd⟩
    · have z : ∃ o, s.heap.get? p = some o ∧ o.ExactDict := by
        rcases hk with ⟨kvs, hk⟩ | ⟨kvs, hk⟩
        · obtain ⟨_, _, _, _, o, _, _, e, ex, _⟩ := I.hok p _ hk
          exact ⟨o, e, ex⟩
        · obtain ⟨_, _, _, _, o, _, _, e, ex, _⟩ := I.hok p _ hk
          exact ⟨o, e, ex⟩
      obtain ⟨o, e, ex⟩ := z
      refine ⟨⟨o, e, ex.1⟩, fun a e2 => ?_⟩
      cases e2
      exact ⟨o, e, ex.2.1⟩
    · obtain ⟨o, _, _, _, e, ex, _⟩ := I.hok p _ hk
      refine ⟨⟨o, e, ex.1⟩, fun a e2 => ?_⟩
      cases e2
      exact ⟨o, e, ex.2.1⟩
  | _ => exact False.elim ty
def tBM (K : PySem.W.Frag) (T : String) (r : V → List V → Hp → VK → Prop) (to : TE) (t : TA) : TE := fun σ H Q => to σ H fun x H1 => tyV K T x H1 ∧ t σ H1 fun xs H2 => r x xs H2 Q
variable {o e : Expr} {es : List Expr} {to : TE} {t : TA} {name : Str} {apos cpos : Pos} {T id : String} {r : V → List V → Hp → VK → Prop}
theorem pe_bm (pa : PlainAttrs T) (slot : Slot T name id) (hty : typeOf (.builtin id) = pure (.type "method_descriptor")) (hm : MtR X id r) (ho : PE X o to) (ha : PA X (e :: es) t)
    (hbase : attributeBase o name X.env (eval o X.env) = eval o X.env := by rfl)
    (hfew : ((backTo cpos (starEach (e :: es) X.env)).all (fun x => !x.1) && (backToKw cpos (keywordEach [] X.env)).all (fun x => x.1.isSome)
      && decide ((e :: es).length + ([] : List Keyword).length + (if ([] : List Keyword).isEmpty then 0 else 1) < 30)) = true := by rfl)
    (hline : (apos.endLine == cpos.line) = true := by rfl) (hs : starEach (e :: es) X.env = (false, eval e X.env) :: starEach es X.env := by rfl) (hplain : (backTo cpos (starEach es X.env)).any (·.1) = false := by rfl) :
    PE X (.Call (.Attribute o name apos) (e :: es) [] cpos) (tBM X.K T r to t) := by
  intro pins s σ H Q I h
  refine wpAny_Call_method_late hbase hfew hline rfl (thn (ho pins s σ H _ I h) fun v s1 ⟨x, H1, I1, r1, ty, q1⟩ => ?_)
  obtain ⟨h1, h2⟩ := tyV_is I1 r1 ty
  refine ⟨T, id, pa, slot, hty, h1, h2, ?_⟩
  have hA := ha cpos pins s1 σ H1 _ I1 q1
  rw [hs] at hA ⊢
  refine Calls.callWith_builtin (by show (false || (backTo cpos (starEach es X.env)).any (·.1)) = false; rw [hplain] <;> rfl) (Calls.evalArgs_plain ?_)
  exact thn hA fun us s2 ⟨vs, H2, I2, r2, q2⟩ => hm pins s2 σ H2 x vs v us Q I2 r1 r2 q2
/- xs.append(e), list.index on a module's tuple .. are MtR facts of 06m -/
end
end L2

namespace L2
open PySem PySem.Spec PyProof.Rows

def MtM (X : Cx) (id : String) (r : V → List V → Hp → VK → Prop) : Prop :=
  ∀ (pins : List (Addr × Obj)) (s : Shared) (σ : St) (H : Hp) (x : V) (xs : List V) (v : Value) (us : List Value) (Q : VK), Inv X pins σ H s → RelV x v → Vals xs us → r x xs H Q →
    wpAny (model X.prog X.w) X.A (call (.builtin id) (v :: us)) (EP X pins σ Q) X.xe s

/-! ### lists of values -/
theorem Vals.one : ∀ {x : V} {us : List Value}, Vals [x] us → ∃ u, us = [u] ∧ RelV x u
  | _, _, .cons r .nil => ⟨_, rfl, r⟩
theorem Vals.two : ∀ {x y : V} {us : List Value}, Vals [x, y] us → ∃ u v, us = [u, v] ∧ RelV x u ∧ RelV y v
  | _, _, _, .cons r (.cons q .nil) => ⟨_, _, rfl, r, q⟩
section
variable {X : Cx} {pins : List (Addr × Obj)} {σ : St} {H : Hp} {s : Shared} {l b : Addr} {xs ys zs : List V}

/-! ### the two steps: a tracked list is rewritten, a new list is laid -/
theorem Inv.lset {its its' : List Value} {n : Nat} {f : Array Value → Array Value} {t' : Nat} (I : Inv X pins σ H s) (hH : H l = some (.lst xs))
    (e : s.heap.get? l = some { cls := .type "list", data := .seq its.toArray n }) (hf : f its.toArray = its'.toArray) (hv : Vals ys its') (hz : ys.length ≤ sizeLine) :
    Inv X pins σ (upd H l (.lst ys)) { s with heap := s.heap.update l (Obj.mapSeq f), toks := t' } := by
  have q := PySem.IsL.update e f
  rw [hf] at q
  refine I.write (x := l) (e := l) (by rw [hH]; exact trivial) (.inl rfl) (fun b' u hb hu => (Heap.get?_update_other s.heap (Obj.mapSeq f) (Ne.symm hb)).trans hu) ⟨_, q⟩ ?_
  exact ⟨hz, its', _, hv, q⟩
theorem Inv.lnew {its : List Value} {t' : Nat} (I : Inv X pins σ H s) (hv : Vals ys its) (hz : ys.length ≤ sizeLine) :
    Inv X pins σ (upd H s.heap.objs.size (.lst ys)) { s with heap := s.heap.push { cls := .type "list", data := .seq its.toArray }, toks := t' } :=
  I.laid (fun _ _ q => Heap.get?_push_of_some _ q) (Nat.le_refl _) ⟨hz, its, 0, hv, Heap.get?_push_size _ rfl⟩
theorem Inv.fresh (I : Inv X pins σ H s) : H s.heap.objs.size = none := I.hok.fresh (Nat.le_refl _)
theorem Inv.lstM (I : Inv X pins σ H s) (hH : H l = some (.lst xs)) : xs.length ≤ sizeLine ∧ ∃ (its : List Value) (n : Nat), Vals xs its ∧ xs.length = its.length ∧ s.heap.get? l = some { cls := .type "list", data := .seq its.toArray n } := by
  obtain ⟨z, its, n, r, e⟩ := I.hok l _ hH
  exact ⟨z, its, n, r, r.length, e⟩

theorem notLongL {n : Nat} (h : n ≤ sizeLine) : Builtin.List.listTooLong n = false := by
  unfold Builtin.List.listTooLong
  exact decide_eq_false (by omega)
end

section
variable {X : Cx}

/-! ### methods -/
def rAppend : V → List V → Hp → VK → Prop := fun x vs H Q => ∃ l xs y, x = .ref l ∧ vs = [y] ∧ H l = some (.lst xs) ∧ xs.length < sizeLine ∧ Q .non (upd H l (.lst (xs ++ [y])))
theorem mt_append : MtM X "list.append" rAppend := by
  intro pins s σ H x vs v us Q I rx rv h
  obtain ⟨l, xs, y, rfl, rfl, hH, hz, q⟩ := h
  cases rx
  obtain ⟨u, rfl, ru⟩ := rv.one
  obtain ⟨z, its, n, r, hl, e⟩ := I.lstM hH
  refine call_meets F.slot_list_append ⟨_, e, rfl⟩ F.entry_list_append (F.args_list_append_2 _ _) (PySem.list_append l its.toArray n u (by rw [List.size_toArray]; omega)) ⟨e, ?_⟩
  refine ⟨.non, _, I.lset (its' := its ++ [u]) hH e (by simp) (r.append (.cons ru .nil)) ?_, rfl, q⟩
  rw [List.length_append, List.length_singleton]
  omega

def rExtend : V → List V → Hp → VK → Prop := fun x vs H Q => ∃ l b xs zs, x = .ref l ∧ vs = [.ref b] ∧ H l = some (.lst xs) ∧ H b = some (.lst zs) ∧ xs.length + zs.length ≤ sizeLine ∧ Q .non (upd H l (.lst (xs ++ zs)))
theorem mt_extend : MtM X "list.extend" rExtend := by
  intro pins s σ H x vs v us Q I rx rv h
  obtain ⟨l, b, xs, zs, rfl, rfl, hH, hB, hz, q⟩ := h
  cases rx
  obtain ⟨u, rfl, ru⟩ := rv.one
  cases ru
  obtain ⟨z, its, n, r, hl, e⟩ := I.lstM hH
  obtain ⟨z2, its2, n2, r2, hl2, e2⟩ := I.lstM hB
  have hsz : its.toArray.size + its2.toArray.size ≤ sizeLine := by rw [List.size_toArray, List.size_toArray]; omega
  have hlong : ¬ (!its.toArray.isEmpty && Builtin.List.listTooLong (its.toArray.size + its2.toArray.size)) = true := by
    rw [notLongL hsz, Bool.and_false]
    exact Bool.false_ne_true
  refine call_meets F.slot_list_extend ⟨_, e, rfl⟩ F.entry_list_extend (F.args_list_extend_2 _ _)
    (AutoSeq1.list_extend_list_list_0 l its.toArray n b its2.toArray n2 hlong (by rw [List.size_toArray]; omega) (by omega)) ⟨e, e2, ?_⟩
  refine ⟨.non, _, I.lset (its' := its ++ its2) hH e (by simp) (r.append r2) ?_, rfl, q⟩
  rw [List.length_append]
  omega

/-! ### list + list, list += list, list * int -/
def rCat : R2 := fun x y H Q => ∃ l b xs zs, x = .ref l ∧ y = .ref b ∧ H l = some (.lst xs) ∧ H b = some (.lst zs) ∧ xs.length + zs.length ≤ sizeLine ∧ ∀ p, H p = none → Q (.ref p) (upd H p (.lst (xs ++ zs)))
theorem op_cat : OpR X (binaryOp .Add) rCat := by
  intro pins s σ H x y v u Q I rx ry h
  obtain ⟨l, b, xs, zs, rfl, rfl, hH, hB, hz, q⟩ := h
  cases rx
  cases ry
  obtain ⟨z, its, n, r, hl, e⟩ := I.lstM hH
  obtain ⟨z2, its2, n2, r2, hl2, e2⟩ := I.lstM hB
  refine PySem.P.add_list e e2 ?_ (by rw [List.size_toArray, List.size_toArray]; omega)
  have ea : its.toArray ++ its2.toArray = (its ++ its2).toArray := by simp
  rw [ea]
  exact ⟨.ref _, _, I.lnew (t' := s.toks) (r.append r2) (by rw [List.length_append]; omega), rfl, q _ I.fresh⟩
/-! ### del xs[i] -/
end

/-! ### xs[a:b] = ys -/
section
variable {prog : Program} {w : World} {A : Around} {E : Value → Shared → Prop} {s : Shared}
end

section
variable {X : Cx}
end
end L2

namespace Att
open PySem PySem.W PySem.Calls PyProof.Rows

/-! ### the script -/
theorem ints_of_wellAll {P : Params} {h : Heap} : ∀ (ns : List Int) (vs : List Value), WellAll P h vs (ns.map WData.int) → IntsAre vs ns := by
  intro ns
  induction ns with
  | nil =>
    intro vs w
    rw [List.map_nil] at w
    cases w
    exact .nil
  | cons n ns ih =>
    intro vs w
    rw [List.map_cons] at w
    cases w with
    | cons a b =>
      cases a
      exact .cons _ _ (ih _ b)

theorem script_of {l : OpenLaw} {n : Nat} (hn : l.most = some n) {P : Params} {h : Heap} {args : List WData} {vals : List Value}
    (hpre : l.row.toRowW.claim.pre args = true) (hwl : WellAll P h vals args) :
    ∃ a vs ns, vals = [Value.ref a] ∧ args = [WData.list (ns.map WData.int)] ∧ h.get? a = some { cls := .type "list", data := .seq vs.toArray } ∧ IntsAre vs ns ∧ ns.length ≤ n := by
  have hsh : WShape.hasAll [] args [.list .int] = true := (pre_splitW hpre).1
  have hc : l.pre.holds [] { args := args } = true := (pre_splitW hpre).2
  obtain ⟨d, r, rfl, h1, h2⟩ := hasAllW_cons hsh
  obtain rfl := hasAllW_nil h2
  obtain ⟨xs, rfl, h3⟩ := hasW_list h1
  obtain ⟨ns, rfl⟩ := items_int h3
  have hlen : ns.length ≤ n := by
    unfold OpenLaw.pre at hc
    have h4 : (WTm.not (.lt (.lit (.int (n : Int))) (.len (.arg 0)))).holds [] { args := [.list (ns.map .int)] } = true := by
      have h4 := (holds_andW hc).1
      rw [hn] at h4
      exact h4
    have h5 := condW_of h4 (w_not (w_lt w_lit (w_len_list (w_arg rfl))))
    rw [List.length_map] at h5
    refine Nat.le_of_not_lt fun q => ?_
    have q' : (n : Int) < ((ns.length : Nat) : Int) := by omega
    first
      | (rw [decide_eq_true q'] at h5; exact absurd h5 (by decide))
      | (simp at h5; omega)
  cases hwl with
  | cons w1 w2 =>
    cases w2
    cases w1 with
    | list ho hall => exact ⟨_, _, ns, rfl, rfl, ho, ints_of_wellAll ns _ hall, hlen⟩

theorem post_true (l : OpenLaw) (args : List WData) : l.row.toRowW.claim.post args (.bool true) args = true :=
  postW_of (r := l.row.toRowW) (X := (true == true))
    (show WShape.has [] (.bool true) .bool = true by first | rfl | decide | simp [WShape.has, WShape.arms, WShape.armsAll])
    (show (WTm.eq .res (.lit (.bool true))).value [] { args := args, res := some (.bool true), after := args } = some (.bool (true == true)) from w_eq_bool (w_res rfl) w_lit) rfl

/-! ### the attachment: holds_open's last premise (the goal 'hc' behind k_head) from a wpAny of the law's body -/
/-- the same from a codeAny of the CALL (for a layer whose function contracts speak of calls) -/
theorem attach_call {l : OpenLaw} {n : Nat} {q : Program} {loose : List Str} {XP : (Str → Option Value) → Heap → Prop} {YP : World → Heap → Prop} {d : DefRec}
    (hn : l.most = some n) (hdf : d.params.defaults = [])
    (call : ∀ (w : World) (s₀ s₁ : Shared) (mg mb : Str → Option Value) (fa : Addr) (o : Obj) (pm cd doc : Value) (a : Addr) (vs : List Value) (ns : List Int),
      Ground q loose [] XP w s₀ mg mb s₁.heap → YP w s₁.heap →
      s₁.heap.get? fa = some o → o.data = .func (docDef d.name d.params d.body d.scope pm cd doc) → s₁.heap.CodeRec cd d.name → mg d.name = some (.ref fa) →
      s₁.heap.get? a = some { cls := .type "list", data := .seq vs.toArray } → IntsAre vs ns → ns.length ≤ n → s₁.gens = #[] →
      codeAny (model l.prog w) callerA (.call (.ref fa) ⟨[.ref a], []⟩) (fun r s' => r = .ok (.ret (.bool true)) ∧ OldK s₁.heap s'.heap ∧ s'.os = s₁.os ∧ AllBare s'.gens) s₁) :
    WalkO q loose XP YP l.row.toRowW d [] (fun f vs => PySem.call f vs) := by
  intro w s₀ s₁ mg mb G Y fa o pm cd doc dV kV ho hd hcd hD hmg hg args vals as hpre hlay hrd hwl hlo
  obtain rfl : dV = .none := Dflts.none hD hdf
  obtain rfl : kV = .none := Dflts.noKw hD
  obtain ⟨a, vs, ns, rfl, rfl, hobj, hints, hlen⟩ := script_of hn hpre hwl
  refine enter_call (codeAny_mono (call w s₀ s₁ mg mb fa o pm cd doc a vs ns G Y ho (fd_plain hd) hcd hmg hobj hints hlen hg) fun r s' hq => ?_)
  obtain ⟨rfl, h2, h3, h4⟩ := hq
  exact ⟨.inl ⟨.bool true, .bool true, [], rfl, fun _ => rfl, .bool true, post_true l _, fun _ => ⟨List.Pairwise.nil, fun _ hm => (nomatch hm)⟩⟩, h2, h3, h4⟩

/-! ### rules over ANY heap (no ledger) from facts about the written part K: the library's own take a ledger (News) for what they write -/
section
variable {prog : Program} {w : World} {A : Around} {E : Value → Shared → Prop} {s : Shared} {K : Frag}

/-! the whole heap as the ledger: makes every rule that writes through a ledger a rule over any heap -/
end
end Att

namespace L2
open PySem PySem.Spec PyProof.Rows

theorem vals_ints : ∀ {vs : List Value} {ns : List Int}, IntsAre vs ns → Vals (ns.map V.int) vs
  | _, _, .nil => .nil
  | _, _, .cons n t h => .cons ⟨t, rfl⟩ (vals_ints h)

/-- nothing is tracked but the script, known to the object (or it is an object of the module) -/
def Only (H : Hp) : Prop := ∀ b, H b = none ∨ ∃ o xs, H b = some (.frz o (.lst xs))

/-- THE HEAD: the law's promise, at the heap behind the top. F, the promise of the law's def, may use that base is part of the heap (so K.In base, base.Ns mainGlobals mg stand in Mod) -/
theorem law_call {P : Program} {w : World} {K : PySem.W.Frag} {mg mb : Str → Option Value} {CX : CXT} {k : Nat} {fa a : Addr} {fd : FuncData} {x : Str} {sp : Sp} {s₁ : Shared} {vs : List Value} {ns : List Int}
    (KX : K.In s₁.heap) (hns : s₁.heap.Ns mainGlobals mg) (hb : s₁.heap.Ns builtinsNs mb) (hbb : ∀ x : Str, x ≠ "__name__" → mb x = bootBuiltins x) (hlim : s₁.heap.NoLimit) (hg : s₁.gens = #[])
    (ha : s₁.heap.get? a = some { cls := .type "list", data := .seq vs.toArray }) (hi : IntsAre vs ns) (hl : ns.length ≤ sizeLine) (hr : Room k callerA)
    (F : ∀ base : Heap, K.In base → base.Ns mainGlobals mg → FnOk P w K mg base CX k fa fd [x] sp) (hbind : ∀ (s : Shared) (u : Value), BindsTo s fd ⟨[u], []⟩ [(x, u)])
    (hsp : ∀ H : Hp, Only H → SqL K H a (ns.map V.int) → sp [.ref a] H (fun v _ => v = .bl true) fun _ _ _ => False)
    (hCX : ∀ H e s', CX [] H s₁ (fun _ _ _ => False) e s' → False) :
    codeAny (model P w) callerA (.call (.ref fa) ⟨[.ref a], []⟩) (fun r s' => r = .ok (.ret (.bool true)) ∧ OldK s₁.heap s'.heap ∧ s'.os = s₁.os ∧ AllBare s'.gens) s₁ := by
  have rv := vals_ints hi
  have lenV := hi.length
  -- from an abstract heap in which nothing but the script may be tracked
  have core : ∀ H : Hp, Only H → SqL K H a (ns.map V.int) → HOk P w H s₁.heap → (∀ b, H b ≠ none → b = a) → (H a ≠ none → K.lookup a = none) →
      codeAny (model P w) callerA (.call (.ref fa) ⟨[.ref a], []⟩) (fun r s' => r = .ok (.ret (.bool true)) ∧ OldK s₁.heap s'.heap ∧ s'.os = s₁.os ∧ AllBare s'.gens) s₁ := by
    intro H hO hS hok hA hK
    have base_of : ∀ {b : Addr} {o : Obj}, s₁.heap.get? b = some o → H b = none → (hidT s₁.heap H).get? b = some o := fun e n => hidT_get e n
    have noA : ∀ {b : Addr} {o : Obj} {es : Array DictEntry} {ep : Nat}, s₁.heap.get? b = some o → o.data = .dict es ep → H b = none := fun {b o es ep} e d => by
      cases q : H b with
      | none => rfl
      | some u =>
        have e' : b = a := hA b (by rw [q]; simp)
        subst e'
        rw [ha] at e; cases e
        have d' : Data.seq vs.toArray _ = Data.dict es ep := d
        cases d'
    have nsK : ∀ {b : Addr} {m : Str → Option Value}, s₁.heap.Ns b m → (hidT s₁.heap H).Ns b m := fun {b m} ⟨o, es, ep, e, d, r⟩ => ⟨o, es, ep, base_of e (noA e d), d, r⟩
    have hKb : K.In (hidT s₁.heap H) := fun b o e => base_of (KX b o e) (by
      cases q : H b with
      | none => rfl
      | some u =>
        have e' : b = a := hA b (by rw [q]; simp)
        subst e'
        rw [hK (by rw [q]; simp)] at e; cases e)
    have hM : Mod K mg (hidT s₁.heap H) := ⟨hKb, nsK hns, ⟨mb, nsK hb, hbb⟩, let ⟨mc, h1, h2⟩ := hlim; ⟨mc, nsK h1, h2⟩⟩
    have e0 : Env0 P w K mg (hidT s₁.heap H) callerA [] s₁ H := ⟨rfl, hM, fun b o e => of_hidT e, Nat.le_of_eq (hidT_size _ _), trivial, fun b hb => absurd (show b ∈ ([] : List Addr) from hb) (by simp), hok, .of_eq hg⟩
    refine codeAny_mono ((F _ hKb (nsK hns)).run callerA [] s₁ H ⟨[.ref a], []⟩ [.ref a] [.ref a] _ _ hr e0 (hbind s₁ (.ref a)) (.cons rfl .nil) (hsp H hO hS)) fun r s' h => ?_
    cases r with
    | error e => exact (hCX H e s' h).elim
    | ok fl =>
      cases fl with
      | next => exact False.elim h
      | brk => exact False.elim h
      | cont => exact False.elim h
      | ret u =>
        obtain ⟨v, H', os, bare, un, hok', r', q⟩ := h
        have q' : v = .bl true := q
        subst q'
        obtain rfl : u = Value.bool true := r'
        refine ⟨rfl, OldK.of_keep fun b o e => ?_, os, bare⟩
        cases q : H b with
        | none => exact un.keep b o e q (by intro z; exact absurd (show b ∈ ([] : List Addr) from z) (by simp)) (by simp)
        | some u =>
          rcases hO b with z | ⟨ob, xs, z⟩
          · rw [q] at z; cases z
          · have z2 := un.frzs b ob _ z
            obtain ⟨e1, _⟩ := hok b _ z
            obtain ⟨e2, _⟩ := hok' b _ z2
            rw [e] at e1; cases e1
            exact e2
  cases hk : K.lookup a with
  | some o =>
    -- the script is one of the module's own objects
    have e := KX a o hk
    rw [ha] at e
    cases e
    refine core (fun _ => none) (fun _ => .inl rfl) (.inr ⟨_, vs.toArray, _, hk, rfl, rfl, rfl, by rw [List.size_toArray, lenV]; exact hl, by simpa using rv⟩) (fun b u z => by have z' : (none : Option HO) = some u := z; cases z') (fun b z => absurd rfl z) fun z => absurd rfl z
  | none =>
    refine core (fun b => if b = a then some (.frz { cls := .type "list", data := .seq vs.toArray } (.lst (ns.map V.int))) else none) (fun b => ?_) (.inl (.inr ⟨{ cls := .type "list", data := .seq vs.toArray }, if_pos rfl⟩)) (fun b u z => ?_) (fun b z => ?_) fun _ => hk
    · by_cases hb : b = a
      · exact .inr ⟨_, _, if_pos hb⟩
      · exact .inl (if_neg hb)
    · by_cases hb : b = a
      · have z' := (if_pos hb).symm.trans z
        cases z'
        subst hb
        exact ⟨ha, by rw [List.length_map]; exact hl, vs, _, rv, ha⟩
      · have z' := (if_neg hb).symm.trans z
        cases z'
    · by_cases hb : b = a
      · exact hb
      · exact absurd (if_neg hb) z
end L2

namespace L2
open PySem PySem.Spec PyProof.Rows

/-- the goal that k_head leaves (case hc), from the law's promise. F gives the function object fd (K's own) once, then the promise over every base -/
theorem walk_of {l : PySem.W.OpenLaw} {n k : Nat} {q : Program} {loose : List Str} {XP : (Str → Option Value) → Heap → Prop} {YP : World → Heap → Prop} {d : DefRec} {K : Params → PySem.W.Frag} {CX : World → CXT} {sp : World → Sp} {x : Str}
    (hn : l.most = some n) (hn2 : n ≤ sizeLine) (hdf : d.params.defaults = []) (hr : Room k callerA)
    (hY : ∀ (w : World) (h : Heap), YP w h → (K w.params).In h)
    (F : ∀ (w : World) (mg : Str → Option Value) (fa : Addr) (h : Heap), (K w.params).In h → h.Ns mainGlobals mg → mg d.name = some (.ref fa) →
      ∃ fd : FuncData, (∀ (s : Shared) (u : Value), BindsTo s fd ⟨[u], []⟩ [(x, u)]) ∧
        ∀ base : Heap, (K w.params).In base → base.Ns mainGlobals mg → FnOk l.prog w (K w.params) mg base (CX w) k fa fd [x] (sp w))
    (hsp : ∀ (w : World) (H : Hp) (a : Addr) (ns : List Int), ns.length ≤ n → Only H → SqL (K w.params) H a (ns.map V.int) → sp w [.ref a] H (fun v _ => v = .bl true) fun _ _ _ => False)
    (hCX : ∀ (w : World) (H : Hp) (s : Shared) (e : Value) (s' : Shared), CX w [] H s (fun _ _ _ => False) e s' → False) :
    PySem.W.WalkO q loose XP YP l.row.toRowW d [] (fun f vs => PySem.call f vs) := by
  refine Att.attach_call hn hdf fun w s₀ s₁ mg mb fa o pm cd doc a vs ns G Y ho hd hcd hmg hobj hints hlen hg => ?_
  have KX := hY w _ Y
  obtain ⟨fd, hb, hF⟩ := F w mg fa _ KX G.T.g hmg
  exact law_call KX G.T.g G.T.b G.T.builtins G.T.nolimit hg hobj hints (Nat.le_trans hlen hn2) hr hF hb (fun H hO hS => hsp w H a ns hlen hO hS) fun H e s' => hCX w H s₁ e s'
end L2

/-! SHORT WORDS over the layer: a def of the text, its body, what a loop and a test want. -/
namespace L2
open PySem PySem.Spec PyProof.Rows

/-! ### the text by places -/
/-- the j-th statement of a class's body -/
def inClass (s : Stmt) (j : Nat) : Stmt := match s with
  | .ClassDef _ _ _ body _ _ _ _ _ _ _ => body.getD j (.Pass ⟨0, 0, 0, 0⟩)
  | _ => .Pass ⟨0, 0, 0, 0⟩
def defArgs (s : Stmt) : Arguments := match s with
  | .FunctionDef _ a _ _ _ _ _ _ _ _ => a
  | _ => { posonlyargs := [], args := [], vararg := none, kwonlyargs := [], kw_defaults := [], kwarg := none, defaults := [] }
def defBody (s : Stmt) : List Stmt := match s with
  | .FunctionDef _ _ b _ _ _ _ _ _ _ => b
  | _ => []
def defScope (s : Stmt) : Scope := match s with
  | .FunctionDef _ _ _ _ _ _ sc _ _ _ => sc
  | _ => { kind := .function, names := [], isGenerator := false, isCoroutine := false }

/-! ### no exception leaves a def -/
abbrev CX0 : CXT := fun _ _ _ _ _ _ => False
abbrev E0 : XK := fun _ _ _ => False
theorem pass0 {X : Cx} : Passes CX0 X E0 := fun _ _ _ _ _ _ _ h => h.elim

/-! ### a def (or method) of the text as it stands behind the top -/
structure Fun (K : PySem.W.Frag) (x qual : Str) (st : Stmt) (f : Addr) (fd : FuncData) : Prop where
  ex : ∃ (oc : Value) (od : Option Addr) (kV doc pm : Value) (an : Option Addr) (cdv ct : Value) (osl : Array (Option Value)),
    fd = PySem.W.fnOf x qual (defArgs st) (defBody st) (defScope st) .none kV doc pm an cdv ct ∧ K.lookup f = some ⟨oc, od, .func fd, osl⟩ ∧ PySem.W.codeIn K cdv qual = true
  kp : PySem.W.keepIn K (.ref f) = true
section
variable {P : Program} {w : World} {K : PySem.W.Frag} {mg : Str → Option Value} {base : Heap}
/-- THE RULE for a def: its body as a term of rules, and the reading of that term -/
theorem Fun.ok {x qual : Str} {st : Stmt} {f : Addr} {fd : FuncData} {N ps : List Str} {k : Nat} {sp : Sp} (F : Fun K x qual st f fd) (S : FnScope N ps (defScope st)) (len : ∀ vs H Q E, sp vs H Q E → vs.length = ps.length)
    (hbody : ∀ (cdv : Value) (A : Around) (outer : List Env) (s : Shared) (H : Hp) (vs : List V) (Q : VK) (E : XK), Room k (A.deeper (envOfC qual (defScope st) s.heap.objs.size f cdv)) → sp vs H Q E →
      ∃ t, PSs (cxOf CX0 P w K mg base N qual (defScope st) f cdv A outer s H E).nox (defBody st) t ∧ t { nx := fun _ H' => Q .non H', rt := Q } (start N vs) H) : FnOk P w K mg base CX0 (k + 1) f fd ps sp := by
  obtain ⟨oc, od, kV, doc, pm, an, cdv, ct, osl, rfl, lk, hcd⟩ := F.ex
  refine fn_of lk hcd S len fun A outer s H vs Q E hr hsp => ?_
  obtain ⟨t, h, q⟩ := hbody cdv A outer s H vs Q E hr hsp
  exact ⟨t, h.nox, q⟩
/-- how its arguments bind (no defaults): h is «fun _ _ _ _ _ _ us hl => match us, hl with | [_, _], _ => rfl», one _ a parameter -/
theorem Fun.binds {x qual : Str} {st : Stmt} {f : Addr} {fd : FuncData} {ps : List Str} (F : Fun K x qual st f fd)
    (h : ∀ (kV doc pm : Value) (an : Option Addr) (cdv ct : Value) (us : List Value), us.length = ps.length → bindArgs (PySem.W.fnOf x qual (defArgs st) (defBody st) (defScope st) .none kV doc pm an cdv ct) ⟨us, []⟩ = pure (ps.zip us)) : Binds K fd ps [] := by
  obtain ⟨oc, od, kV, doc, pm, an, cdv, ct, osl, rfl, lk, hcd⟩ := F.ex
  exact .all (h kV doc pm an cdv ct)
theorem fun_mk {x qual : Str} {st : Stmt} {f : Addr} {oc : Value} {od an : Option Addr} {osl : Array (Option Value)} {kV doc pm cdv ct : Value} (l : K.lookup f = some ⟨oc, od, .func (PySem.W.fnOf x qual (defArgs st) (defBody st) (defScope st) .none kV doc pm an cdv ct), osl⟩)
    (c : PySem.W.codeIn K cdv qual = true) (k : PySem.W.keepIn K (.ref f) = true) : Fun K x qual st f (PySem.W.fnOf x qual (defArgs st) (defBody st) (defScope st) .none kV doc pm an cdv ct) := ⟨⟨oc, od, kV, doc, pm, an, cdv, ct, osl, rfl, l, c⟩, k⟩
end
theorem small1000 {n : Nat} (h : n ≤ 1000) : n < sizeLine := Nat.lt_of_le_of_lt h (by decide)

/-! ### expressions in short: the name that stands in the i-th slot -/
section
variable {X : Cx}
theorem pv (i : Nat) {x : Str} {pos : Pos} (hN : X.N[i]? = some x := by rfl) (hv : Vis X.env.scope x := by first | exact Or.inl rfl | exact Or.inr (Or.inl rfl) | exact Or.inr (Or.inr rfl)) (hd : (x == ("__debug__" : Str)) = false := by decide)
    (hcd : (x == ("__classdict__" : Str)) = false := by decide) : PE X (.Name x pos) (tVar i) := pe_var hN hv hd hcd
end

/-! ### tests -/
theorem iteF {A B : Prop} (h : B) : if false = true then A else B := by
  rw [if_neg Bool.false_ne_true]
  exact h
theorem iteT {A B : Prop} (h : A) : if true = true then A else B := by
  rw [if_pos rfl]
  exact h
theorem ite2 {c A B : Prop} [Decidable c] (h1 : c → A) (h2 : ¬ c → B) : if c then A else B := by
  by_cases h : c
  · rw [if_pos h]
    exact h1 h
  · rw [if_neg h]
    exact h2 h
theorem iteNS {c A B : Prop} [Decidable c] (hc : c) (h : B) : if (!decide c) = true then A else B := by
  rw [decide_eq_true hc]
  exact iteF h

/-! ### heaps -/
/-- all that was tracked is as it was -/
def Same (H H' : Hp) : Prop := ∀ b o, H b = some o → H' b = some o
theorem Same.trans {H H1 H2 : Hp} (a : Same H H1) (b : Same H1 H2) : Same H H2 := fun c o h => b c o (a c o h)
theorem Same.seq {K : PySem.W.Frag} {H H' : Hp} {a : Addr} {xs : List V} (e : Same H H') (h : SqL K H a xs) : SqL K H' a xs := by
  rcases h with (h | ⟨o, h⟩) | h
  · exact .inl (.inl (e _ _ h))
  · exact .inl (.inr ⟨o, e _ _ h⟩)
  · exact .inr h

end L2
set_option Elab.async false
set_option linter.all false
set_option maxRecDepth 100000
set_option maxHeartbeats 4000000
namespace L2
open PySem PySem.Spec PyProof.Rows

/-! ### a list comprehension with one `for x in ..` -/
section
variable {X : Cx} {pins : List (Addr × Obj)} {σ : St} {H : Hp} {s : Shared} {D : Addr} {o : HO}
/-- an untracked object of ours comes to be tracked -/
theorem Inv.track (I : Inv X pins σ H s) (hf : FpOk X pins H D) (h0 : X.s₀.heap.objs.size ≤ D) (new : ObjOk X.prog X.w (upd H D o) s.heap D o) : Inv X pins σ (upd H D o) s := by
  obtain ⟨f0, f1, f2, f3, f4, f5⟩ := hf
  have ne : ∀ b u, H b = some u → b ≠ D := fun b u e => ne_of_none e f0
  refine ⟨I.ok, I.os, I.bare, ⟨I.base.keep, I.base.slot, fun b u e n hx => ?_, I.base.there, fun b xs e => ?_, fun b u xs e => ?_, fun b ps e => ?_⟩, I.loc, I.cell, ?_, fun y c e => ?_, fun p hp => ?_, fun b u e => ?_, I.len⟩
  · rw [upd_ne (Nat.ne_of_lt (Nat.lt_of_lt_of_le (Heap.lt_size e) h0))]
    exact I.base.free b u e n hx
  · have q := I.base.tups b xs e
    rw [upd_ne (ne b _ q)]; exact q
  · have q := I.base.frzs b u xs e
    rw [upd_ne (ne b _ q)]; exact q
  · obtain ⟨m, q⟩ := I.base.tbls b ps e
    exact ⟨m, by rw [upd_ne (ne b _ q)]; exact q⟩
  · rw [upd_ne (Ne.symm f1)]; exact I.free
  · rw [upd_ne (f4 y c e)]; exact I.freeC y c e
  · obtain ⟨a, b, c, d, e⟩ := I.pin p hp
    exact ⟨a, by rw [upd_ne (f5 p hp)]; exact b, c, d, e⟩
  · by_cases hb : b = D
    · subst hb
      rw [upd_same] at e
      cases e
      exact new
    · rw [upd_ne hb] at e
      exact (I.hok b u e).stay (fun _ _ _ q => q) (fun c q => by rw [upd_ne (ne c _ q)]; exact q) fun c xs q => by rw [upd_ne (ne c _ q)]; exact q
end

/-- the closure's cells, gathered -/
def gather (cells : List (Str × Addr)) : List (Str × NameKind) → List (Str × Addr) → List (Str × Addr)
  | [], cs => cs
  | (n, k) :: r, cs => gather cells r (if (k == NameKind.free) = true then (n, (cells.lookup n).getD 0) :: cs else cs)
theorem closure_eq {scope : Scope} {env : Env} (h : ∀ y ∈ scope.names, y.2 = NameKind.free → ∃ c, env.cells.lookup y.1 = some c) : closureFor scope env = pure (gather env.cells scope.names []) := by
  have all : ∀ (l : List (Str × NameKind)) (cs : List (Str × Addr)), (∀ y ∈ l, y.2 = NameKind.free → ∃ c, env.cells.lookup y.1 = some c) →
      (forIn l cs (fun (x : Str × NameKind) (r : List (Str × Addr)) => if (x.2 == NameKind.free) = true then (do let a ← cellOf env x.1; pure (ForInStep.yield ((x.1, a) :: r)) : Sem (ForInStep (List (Str × Addr)))) else pure (ForInStep.yield r))) = (pure (gather env.cells l cs) : Sem (List (Str × Addr))) := by
    intro l
    induction l with
    | nil => intro cs _; rfl
    | cons y r ih =>
      intro cs hy
      obtain ⟨n, k⟩ := y
      rw [List.forIn_cons]
      by_cases hk : k = NameKind.free
      · subst hk
        obtain ⟨c, hc⟩ := hy (n, .free) List.mem_cons_self rfl
        have e1 : cellOf env n = pure c := by unfold cellOf; rw [hc]
        simp only [beq_self_eq_true, if_true, e1, pure_bind]
        rw [ih _ fun z hz => hy z (List.mem_cons_of_mem _ hz)]
        simp only [gather, beq_self_eq_true, if_true]
        rw [show List.lookup n env.cells = some c from hc]
        rfl
      · have e1 : (k == NameKind.free) = false := by simpa using hk
        simp only [e1, Bool.false_eq_true, if_false, pure_bind]
        rw [ih _ fun z hz => hy z (List.mem_cons_of_mem _ hz)]
        simp only [gather, e1, Bool.false_eq_true, if_false]
  have e := all scope.names [] h
  unfold closureFor
  simp only []
  exact (bind_pure _).trans e
theorem gather_sub {cells : List (Str × Addr)} : ∀ (l : List (Str × NameKind)) (cs : List (Str × Addr)), (∀ y ∈ l, y.2 = NameKind.free → ∃ c, cells.lookup y.1 = some c) →
    (∀ y c, (y, c) ∈ cs → cells.lookup y = some c) → ∀ y c, (y, c) ∈ gather cells l cs → cells.lookup y = some c
  | [], _, _, h, y, c, hm => h y c hm
  | (n, k) :: r, cs, hl, h, y, c, hm => by
    refine gather_sub r _ (fun z hz => hl z (List.mem_cons_of_mem _ hz)) (fun y' c' hm' => ?_) y c hm
    by_cases hk : (k == NameKind.free) = true
    · rw [if_pos hk] at hm'
      rcases List.mem_cons.mp hm' with e | e
      · have e1 : y' = n := congrArg Prod.fst e
        have e2 : c' = (cells.lookup n).getD 0 := congrArg Prod.snd e
        obtain ⟨d, hd⟩ := hl (n, k) List.mem_cons_self (by simpa using hk)
        have hd' : cells.lookup n = some d := hd
        rw [e1, e2, hd']; rfl
      · exact h y' c' e
    · rw [if_neg hk] at hm'
      exact h y' c' hm'
theorem gather_mono {cells : List (Str × Addr)} : ∀ (l : List (Str × NameKind)) (cs : List (Str × Addr)) (p : Str × Addr), p ∈ cs → p ∈ gather cells l cs
  | [], _, _, h => h
  | (n, k) :: r, cs, p, h => gather_mono r _ p (by split; exact List.mem_cons_of_mem _ h; exact h)
theorem gather_has {cells : List (Str × Addr)} : ∀ (l : List (Str × NameKind)) (cs : List (Str × Addr)) (y : Str × NameKind), y ∈ l → y.2 = NameKind.free → ∃ c, (y.1, c) ∈ gather cells l cs
  | [], _, _, h, _ => nomatch h
  | (n, k) :: r, cs, y, h, hf => by
    rcases List.mem_cons.mp h with e | e
    · subst e
      have hk : (k == NameKind.free) = true := by simpa using hf
      exact ⟨(cells.lookup n).getD 0, gather_mono r _ _ (by rw [if_pos hk]; exact List.mem_cons_self)⟩
    · exact gather_has r _ y e hf
theorem lookup_mem {α : Type} : ∀ {l : List (Str × α)} {y : Str} {c : α}, (y, c) ∈ l → ∃ d, l.lookup y = some d ∧ (y, d) ∈ l
  | [], _, _, h => nomatch h
  | (n, a) :: r, y, c, h => by
    by_cases e : y = n
    · subst e
      exact ⟨a, by simp [List.lookup_cons], List.mem_cons_self⟩
    · have e1 : (y == n) = false := by simpa using e
      rcases List.mem_cons.mp h with q | q
      · exact absurd (congrArg Prod.fst q) e
      · obtain ⟨d, h1, h2⟩ := lookup_mem q
        exact ⟨d, by rw [List.lookup_cons, e1]; exact h1, List.mem_cons_of_mem _ h2⟩
theorem lookup_of_mem_lookup {α : Type} {l : List (Str × α)} {y : Str} {c : α} (h : l.lookup y = some c) : (y, c) ∈ l := PySem.mem_of_lookup h

/-- what a comprehension's scope must be; osc, ON: of the def around it; x: its target; F: the names that it takes from around, fr: their slots there -/
def compChk (osc : Scope) (ON : List Str) (scope : Scope) (x : Str) (F : List Str) (fr : List Nat) : Bool :=
  decide (scope.kind = .function) && (scope.names.all fun y => decide (y.2 ≠ .cell)) && (scope.names.all fun y => decide (y.2 = .local → scope.names.lookup y.1 = some .local)) &&
  decide (scope.names.lookup x = some .local) && (scope.names.all fun y => decide (y.2 = .free → osc.names.lookup y.1 = some .cell ∨ osc.names.lookup y.1 = some .free)) &&
  decide ((x :: F).Nodup) && (F.all fun y => decide (scope.names.lookup y = some .free)) && decide (F.map some = fr.map fun i => ON[i]?)
structure CompOk (osc : Scope) (ON : List Str) (scope : Scope) (x : Str) (F : List Str) (fr : List Nat) : Prop where
  kind : scope.kind = .function
  nocell : ∀ y ∈ scope.names, y.2 ≠ .cell
  loc : ∀ y ∈ scope.names, y.2 = .local → scope.names.lookup y.1 = some .local
  tx : scope.names.lookup x = some .local
  free : ∀ y ∈ scope.names, y.2 = .free → osc.names.lookup y.1 = some .cell ∨ osc.names.lookup y.1 = some .free
  nd : (x :: F).Nodup
  fre : ∀ y ∈ F, scope.names.lookup y = some .free
  slots : F.map some = fr.map fun i => ON[i]?
theorem CompOk.of {osc : Scope} {ON : List Str} {scope : Scope} {x : Str} {F : List Str} {fr : List Nat} (h : compChk osc ON scope x F fr = true) : CompOk osc ON scope x F fr := by
  unfold compChk at h
  simp only [Bool.and_eq_true, decide_eq_true_eq, List.all_eq_true] at h
  obtain ⟨⟨⟨⟨⟨⟨⟨h1, h2⟩, h3⟩, h4⟩, h5⟩, h6⟩, h7⟩, h8⟩ := h
  exact ⟨h1, h2, h3, h4, h5, h6, h7, h8⟩

/-- the context of the comprehension's block -/
def compCx (X : Cx) (N : List Str) (scope : Scope) (s3 : Shared) (H3 : Hp) (ex : List Addr) : Cx :=
  { X with N := N, s₀ := s3, H₀ := H3, env := compEnvC scope (gather X.env.cells scope.names []) s3.heap.objs.size X.env, outer := X.stack, ex := ex, fn := fun _ => false, pn := [], xe := fun _ _ => False }

/-- the tests of a comprehension -/
def PTs (X : Cx) (ifs : List Expr) (t : TT) : Prop :=
  ∀ (pins : List (Addr × Obj)) (s : Shared) (σ : St) (H : Hp) (Q : Bool → Hp → Prop), Inv X pins σ H s → t σ H Q →
    wpAny (model X.prog X.w) X.A (forIn ifs true fun c r => if r = true then do let ok ← isTrue c X.env (eval c X.env); pure (ForInStep.yield ok) else pure (ForInStep.yield r)) (TP X pins σ Q) X.xe s
def tYes : TT := fun _ H Q => Q true H
theorem pts_nil {X : Cx} : PTs X [] tYes := fun _ _ _ H _ I h => wpAny_tests_nil ⟨H, I, h⟩
/-- the names' values in the block, ahead of the target's store -/
def compSt (σ : St) (fr : List Nat) : St := none :: fr.map fun i => (σ[i]?).join

/-- the turns: what the iterator yields, the tests, the element; acc: the elements so far -/
def CompGo (fr : List Nat) (tt : TT) (te : TE) (σ : St) (Q : VK) (J : It) (H1 : Hp) : Prop := ∃ W : Nat → Nat → List V → Hp → Prop, (∃ m, W 0 m [] H1) ∧ ∀ i m acc H, W i m acc H →
  (J.stop i H ∧ acc.length ≤ sizeLine ∧ ∀ p, H p = none → Q (.ref p) (upd H p (.lst acc))) ∨
  (J.go i H ∧ acc.length < sizeLine ∧ ∀ x H', J.yld i H x H' → tt ((compSt σ fr).set 0 (some x)) H' fun b H2 =>
    if b = true then te ((compSt σ fr).set 0 (some x)) H2 fun y H3 => ∃ m', m' < m ∧ W (i + 1) m' (acc ++ [y]) H3 else ∃ m', m' < m ∧ W (i + 1) m' acc H2)
def tComp (wi : TI) (fr : List Nat) (tt : TT) (te : TE) : TE := fun σ H Q => wi σ H (CompGo fr tt te σ Q)

section
variable {X : Cx}
theorem relabel_names (scope : Scope) (env : Env) (x : Str) (k : NameKind) (h : (relabel scope env).names.lookup x = some k) : ∃ k', scope.names.lookup x = some k' ∧ (k = k' ∨ (k' = .free ∧ k = .cell)) := by
  have all : ∀ (l : List (Str × NameKind)), (l.map fun (n, k) => if (k == NameKind.free && env.scope.kind == .function && env.kindOf n == some .cell) then (n, NameKind.cell) else (n, k)).lookup x = some k →
      ∃ k', l.lookup x = some k' ∧ (k = k' ∨ (k' = .free ∧ k = .cell)) := by
    intro l
    induction l with
    | nil => intro h; simp at h
    | cons y r ih =>
      obtain ⟨n, j⟩ := y
      intro h
      by_cases e : x = n
      · subst e
        refine ⟨j, by simp [List.lookup_cons], ?_⟩
        simp only [List.map_cons] at h
        by_cases hc : (j == NameKind.free && env.scope.kind == .function && env.kindOf x == some .cell) = true
        · rw [if_pos hc] at h
          simp [List.lookup_cons] at h
          simp only [Bool.and_eq_true] at hc
          exact .inr ⟨by simpa using hc.1.1, h.symm⟩
        · rw [if_neg hc] at h
          simp [List.lookup_cons] at h
          exact .inl h.symm
      · have e1 : (x == n) = false := by simpa using e
        simp only [List.map_cons] at h
        have h' : (r.map fun (n, k) => if (k == NameKind.free && env.scope.kind == .function && env.kindOf n == some .cell) then (n, NameKind.cell) else (n, k)).lookup x = some k := by
          by_cases hc : (j == NameKind.free && env.scope.kind == .function && env.kindOf n == some .cell) = true
          · rw [if_pos hc, List.lookup_cons, e1] at h; exact h
          · rw [if_neg hc, List.lookup_cons, e1] at h; exact h
        obtain ⟨k', q1, q2⟩ := ih h'
        exact ⟨k', by rw [List.lookup_cons, e1]; exact q1, q2⟩
  exact all scope.names h

theorem Inv.closes {pins : List (Addr × Obj)} {σ : St} {H : Hp} {s : Shared} {scope : Scope} {x : Str} {F : List Str} {fr : List Nat} (I : Inv X pins σ H s) (C : CompOk X.env.scope X.N scope x F fr) :
    ∀ y ∈ scope.names, y.2 = NameKind.free → ∃ c, X.env.cells.lookup y.1 = some c := fun y hy hf => I.ok.has y.1 (C.free y hy hf)
theorem Inv.gsub {pins : List (Addr × Obj)} {σ : St} {H : Hp} {s : Shared} {scope : Scope} {x : Str} {F : List Str} {fr : List Nat} (I : Inv X pins σ H s) (C : CompOk X.env.scope X.N scope x F fr) {y : Str} {c : Addr}
    (h : (gather X.env.cells scope.names []).lookup y = some c) : X.env.cells.lookup y = some c :=
  gather_sub scope.names [] (I.closes C) (fun _ _ z => nomatch z) y c (lookup_of_mem_lookup h)
end
end L2
set_option Elab.async false
set_option linter.all false
set_option maxRecDepth 100000
set_option maxHeartbeats 4000000
namespace L2
open PySem PySem.Spec PyProof.Rows
section
variable {X : Cx}
/-- the block's entry -/
theorem inv_comp {pins : List (Addr × Obj)} {σ : St} {H : Hp} {s : Shared} {scope : Scope} {x : Str} {F : List Str} {fr : List Nat} {ex : List Addr} {h' : Heap} {tk : Nat} (I : Inv X pins σ H s) (C : CompOk X.env.scope X.N scope x F fr)
    (hx : ∀ b ∈ ex, FpOk X pins H b ∧ b < s.heap.objs.size) (hn : h'.Ns s.heap.objs.size fun _ => none) (k : ∀ b o, s.heap.get? b = some o → h'.get? b = some o) :
    Inv (compCx X (x :: F) scope s H ex) [] (compSt σ fr) H { s with heap := h', toks := tk } := by
  have hCn : H s.heap.objs.size = none := I.hok.fresh (Nat.le_refl _)
  have hcl : ∀ {y : Str} {c : Addr}, (gather X.env.cells scope.names []).lookup y = some c → X.env.cells.lookup y = some c := fun h => I.gsub C h
  have clt : ∀ {y : Str} {c : Addr}, X.env.cells.lookup y = some c → c < s.heap.objs.size := fun {y c} h => by
    obtain ⟨v, q⟩ := I.cell y c h
    exact q.lt
  have stk : ∀ b, b ∈ frs X.stack → b = X.env.locals ∨ b ∈ X.fs := fun b hb => List.mem_cons.mp (I.stkSub b hb)
  refine ⟨⟨I.ok.mod, C.kind, I.ok.glob, I.ok.blt, Nat.le_refl _, fun y z c h1 h2 => I.ok.inj y z c (hcl h1) (hcl h2), fun y hy => ?_, fun y c hf => (nomatch hf), I.ok.hd, I.ok.frames, .inl rfl, fun b hb => ⟨Nat.ne_of_lt (hx b hb).2, fun y c h => (hx b hb).1.2.2.2.2.1 y c (hcl h)⟩,
    I.bs, Nat.le_trans I.ok.bsz I.sz, fun b o e hb => ?_, fun b hb => ?_, I.stack, I.stkFree⟩, rfl, I.bare, Un.kept k, ⟨_, hn, fun i y v h1 h2 h3 => ?_⟩, fun y c h => ?_, hCn, fun y c h => I.freeC y c (hcl h), fun p hp => absurd (show p ∈ ([] : List (Addr × Obj)) from hp) (by simp), I.hok.kept k, ?_⟩
  · have hy' : ∃ c, (y, c) ∈ gather X.env.cells scope.names [] := by
      have go : ∀ kk, (relabel scope X.env).names.lookup y = some kk → kk ≠ .local → kk ≠ .globalExplicit → kk ≠ .globalImplicit → ∃ c, (y, c) ∈ gather X.env.cells scope.names [] := fun kk h n1 n2 n3 => by
        obtain ⟨k', q1, q2⟩ := relabel_names scope X.env y kk h
        have hm := lookup_of_mem_lookup q1
        have hfree : k' = .free := by
          rcases q2 with e | ⟨e, _⟩
          · subst e
            cases kk with
            | «local» => exact absurd rfl n1
            | cell => exact absurd rfl (C.nocell _ hm)
            | free => rfl
            | globalExplicit => exact absurd rfl n2
            | globalImplicit => exact absurd rfl n3
          · exact e
        exact gather_has scope.names [] (y, k') hm hfree
      rcases hy with hy | hy
      · exact go _ hy (by decide) (by decide) (by decide)
      · exact go _ hy (by decide) (by decide) (by decide)
    obtain ⟨c, hc⟩ := hy'
    obtain ⟨d, hd, _⟩ := lookup_mem hc
    exact ⟨d, hd⟩
  · exact absurd e (by
      have h1 := (hx b hb).1
      have h2 := I.bs b o e
      rcases h1.2.2.2.1 with z | z
      · exact fun _ => I.ok.noex b o e z
      · exact fun _ => absurd (Nat.lt_of_lt_of_le (Heap.lt_size (I.ok.bs b o e).1) z) (Nat.lt_irrefl _))
  · intro hb2
    obtain ⟨h0, h1, h2, _⟩ := (hx b hb).1
    rcases stk b hb2 with z | z
    · exact h1 z
    · exact h2 z
  · -- a name's value at the entry
    cases i with
    | zero => simp [compSt] at h2
    | succ j =>
      have h1' : F[j]? = some y := (List.getElem?_cons_succ (a := x) (l := F) (i := j)).symm.trans h1
      have h2' : (fr.map fun i => (σ[i]?).join)[j]? = some (some v) := by simpa [compSt] using h2
      have hs := congrArg (fun l => l[j]?) C.slots
      simp only [List.getElem?_map, h1', Option.map_some] at hs
      rw [List.getElem?_map] at h2'
      cases hj : fr[j]? with
      | none => rw [hj] at hs; simp at hs
      | some t =>
        rw [hj] at hs h2'
        simp only [Option.map_some, Option.some.injEq] at hs h2'
        have h3' : σ[t]? = some (some v) := by
          cases e : σ[t]? with
          | none => rw [e] at h2'; simp at h2'
          | some w' => rw [e] at h2'; simp at h2'; rw [h2']
        -- what kind the name has
        have hfr := C.fre y (List.mem_of_getElem? h1')
        have hm := lookup_of_mem_lookup hfr
        have hvis : Vis X.env.scope y ∧ (∃ c, (gather X.env.cells scope.names []).lookup y = some c) ∧ (X.env.kindOf y = some .cell ∨ X.env.kindOf y = some .free) := by
          obtain ⟨c, hc⟩ := gather_has (cells := X.env.cells) scope.names [] (y, .free) hm rfl
          obtain ⟨d, hd, _⟩ := lookup_mem hc
          rcases C.free (y, .free) hm rfl with z | z
          · exact ⟨.inr (.inl z), ⟨d, hd⟩, .inl z⟩
          · exact ⟨.inr (.inr z), ⟨d, hd⟩, .inr z⟩
        obtain ⟨hv, ⟨c, hc⟩, hkd⟩ := hvis
        obtain ⟨m, hm, hl⟩ := I.loc
        obtain ⟨u, r, l⟩ := hl t y v hs.symm h3' hv
        refine ⟨u, r, .inr ⟨?_, c, hc, ?_⟩⟩
        · rcases h3 with z | z | z
          · exfalso
            obtain ⟨k', q1, q2⟩ := relabel_names scope X.env y .local z
            rw [hfr] at q1
            cases q1
            rcases q2 with q | ⟨_, q⟩ <;> cases q
          · exact .inl z
          · exact .inr z
        · rcases l with ⟨hk, _⟩ | ⟨_, c', hc', hcell⟩
          · rcases hkd with z | z <;> rw [z] at hk <;> cases hk
          · have e := hcl hc
            rw [e] at hc'; cases hc'
            obtain ⟨oc, ho, hd⟩ := hcell
            exact ⟨oc, k _ _ ho, hd⟩
  · obtain ⟨v, oc, ho, hd⟩ := I.cell y c (hcl h)
    exact ⟨v, oc, k _ _ ho, hd⟩
  · have := congrArg List.length C.slots
    simp at this
    show (compSt σ fr).length = (x :: F).length
    simp [compSt, this]
end
end L2
set_option Elab.async false
set_option linter.all false
set_option maxRecDepth 100000
set_option maxHeartbeats 4000000
namespace L2
open PySem PySem.Spec PyProof.Rows
theorem after_pure {α : Type} {M : Model} {A : Around} {P : Unit → Shared → Prop} {E' : Value → Shared → Prop} {t : Sem α} {Q : α → Shared → Prop} {E : Value → Shared → Prop} {s : Shared}
    (h : wpAny M A (pure () : Sem Unit) P E' s) (k : P () s → wpAny M A t Q E s) : wpAny M A t Q E s := fun Γ p hΓ => k (h Γ p hΓ) Γ p hΓ
section
variable {X : Cx}
end
end L2
set_option Elab.async false
set_option linter.all false
set_option maxRecDepth 100000
set_option maxHeartbeats 4000000
namespace L2
open PySem PySem.Spec PyProof.Rows
section
variable {X : Cx}
/-! ### isinstance(x, c), c one built-in type -/
def rIsi (K : PySem.W.Frag) : List V → Hp → VK → Prop := fun xs H Q => ∃ x t c b, xs = [x, .ty c] ∧ TyOf K H x t ∧ PySem.W.kitOne K t (.type c) = some b ∧ Q (.bl b) H
theorem call_isi : CallR X (.builtin "isinstance") (rIsi X.K) := by
  intro pins s σ H xs us Q I r h
  obtain ⟨x, t, c, b, rfl, ty, e, q⟩ := h
  obtain ⟨u, v, rfl, r1, r2⟩ := r.two
  cases r2
  exact isinst_ok I r1 ty e fun tk => ⟨.bl b, H, I.tok tk, rfl, q⟩
theorem kit_same {K : PySem.W.Frag} {c : String} : PySem.W.kitOne K (.type c) (.type c) = some true := if_pos (beq_self_eq_true _)
/-! ### x is True, x is False -/
end

/-! ### two things told alike are equal -/
inductive Dt where
  | non | bl (b : Bool) | int (i : Int) | str (x : Str)
  | tup (xs : List Dt) | lst (xs : List Dt)
def Told (K : PySem.W.Frag) (H : Hp) : Nat → V → Dt → Prop
  | 0, v, d => match v, d with
    | .non, .non => True
    | .bl a, .bl b => a = b
    | .int a, .int b => a = b
    | .str a, .str b => a = b
    | _, _ => False
  | n + 1, v, d => match v, d with
    | .non, .non => True
    | .bl a, .bl b => a = b
    | .int a, .int b => a = b
    | .str a, .str b => a = b
    | .ref a, .tup ds => ∃ xs, SqT K H a xs ∧ Paired (Told K H n) xs ds
    | .ref a, .lst ds => ∃ xs, SqL K H a xs ∧ Paired (Told K H n) xs ds
    | _, _ => False
section
variable {X : Cx} {pins : List (Addr × Obj)} {σ : St} {H : Hp} {s : Shared}
theorem told_get {K : PySem.W.Frag} {n : Nat} : ∀ {xs ys : List V} {ds : List Dt}, Paired (Told K H n) xs ds → Paired (Told K H n) ys ds → xs.length = ys.length ∧ ∀ (j : Nat) (x y : V), xs[j]? = some x → ys[j]? = some y → ∃ d, Told K H n x d ∧ Told K H n y d
  | _, _, _, .nil, .nil => ⟨rfl, fun j x y h _ => by simp at h⟩
  | _, _, _, .cons r t, .cons q u => by
    obtain ⟨h1, h2⟩ := told_get t u
    refine ⟨by simp [h1], fun j x y e1 e2 => ?_⟩
    cases j with
    | zero => simp at e1 e2; subst e1; subst e2; exact ⟨_, r, q⟩
    | succ j => exact h2 j x y (by simpa using e1) (by simpa using e2)
theorem units_in1 {A : Around} : A.in1.units = A.units + 1 := rfl
open PySem.SeqAt in
theorem told_eq (I : Inv X pins σ H s) : ∀ (n : Nat) (A : Around) (x y : V) (u v : Value) (d : Dt), A.units + n < cLine → RelV x u → RelV y v → Told X.K H n x d → Told X.K H n y d → EqAt A s u v true := by
  intro n
  induction n with
  | zero =>
    intro A x y u v d hu rx ry hx hy
    cases d with
    | non => cases x <;> first | exact hx.elim | (cases y <;> first | exact hy.elim | (cases rx; cases ry; exact EqAt.same _))
    | bl b => cases x <;> first | exact hx.elim | (cases y <;> first | exact hy.elim | (cases rx; cases ry; cases hx; cases hy; exact EqAt.same _))
    | int b =>
      cases x with
      | int i =>
        cases y with
        | int j =>
          obtain ⟨t, rfl⟩ := rx
          obtain ⟨t', rfl⟩ := ry
          have e1 : i = b := hx
          have e2 : j = b := hy
          have q := EqAt.int_int (A := A) (s := s) i t j t'
          rw [e1, e2, beq_self_eq_true] at q
          rw [e1, e2]
          exact q
        | _ => exact hy.elim
      | _ => exact hx.elim
    | str b =>
      cases x with
      | str i =>
        cases y with
        | str j =>
          obtain ⟨t, rfl⟩ := rx
          obtain ⟨t', rfl⟩ := ry
          have e1 : i = b := hx
          have e2 : j = b := hy
          have q := EqAt.str_str (A := A) (s := s) i t j t'
          rw [e1, e2, beq_self_eq_true] at q
          rw [e1, e2]
          exact q
        | _ => exact hy.elim
      | _ => exact hx.elim
    | tup ds => cases x <;> exact hx.elim
    | lst ds => cases x <;> exact hx.elim
  | succ n ih =>
    intro A x y u v d hu rx ry hx hy
    cases d with
    | non => cases x <;> first | exact hx.elim | (cases y <;> first | exact hy.elim | (cases rx; cases ry; exact EqAt.same _))
    | bl b => cases x <;> first | exact hx.elim | (cases y <;> first | exact hy.elim | (cases rx; cases ry; cases hx; cases hy; exact EqAt.same _))
    | int b =>
      cases x with
      | int i =>
        cases y with
        | int j =>
          obtain ⟨t, rfl⟩ := rx
          obtain ⟨t', rfl⟩ := ry
          have e1 : i = b := hx
          have e2 : j = b := hy
          have q := EqAt.int_int (A := A) (s := s) i t j t'
          rw [e1, e2, beq_self_eq_true] at q
          rw [e1, e2]
          exact q
        | _ => exact hy.elim
      | _ => exact hx.elim
    | str b =>
      cases x with
      | str i =>
        cases y with
        | str j =>
          obtain ⟨t, rfl⟩ := rx
          obtain ⟨t', rfl⟩ := ry
          have e1 : i = b := hx
          have e2 : j = b := hy
          have q := EqAt.str_str (A := A) (s := s) i t j t'
          rw [e1, e2, beq_self_eq_true] at q
          rw [e1, e2]
          exact q
        | _ => exact hy.elim
      | _ => exact hx.elim
    | tup ds =>
      cases x with
      | ref a =>
        cases y with
        | ref b =>
          cases rx
          cases ry
          by_cases hab : a = b
          · subst hab; exact EqAt.same _
          obtain ⟨xs, h1, h2⟩ := hx
          obtain ⟨ys, g1, g2⟩ := hy
          obtain ⟨its, rv, p, _⟩ := I.tuple h1
          obtain ⟨its', rv', p', _⟩ := I.tuple g1
          obtain ⟨l1, l2⟩ := told_get h2 g2
          have L1 := rv.length
          have L2 := rv'.length
          have q := RcAt.tuples (A := A) (s := s) (e := fun _ => true) (show s.heap.IsTuple a its.toArray from p) (show s.heap.IsTuple b its'.toArray from p') (by omega) fun j h1 h2 => by
            have j1 : j < xs.length := by simpa [L1] using h1
            have j2 : j < ys.length := by simpa [L2] using h2
            obtain ⟨d, t1, t2⟩ := l2 j _ _ (List.getElem?_eq_getElem j1) (List.getElem?_eq_getElem j2)
            obtain ⟨u1, e1, r1⟩ := rv.get (List.getElem?_eq_getElem j1)
            obtain ⟨u2, e2, r2⟩ := rv'.get (List.getElem?_eq_getElem j2)
            have f1 : its.toArray[j] = u1 := by
              have := (List.getElem?_eq_some_iff.mp e1).2
              simpa using this
            have f2 : its'.toArray[j] = u2 := by
              have := (List.getElem?_eq_some_iff.mp e2).2
              simpa using this
            rw [f1, f2]
            exact ih A.in1 _ _ u1 u2 d (by rw [units_in1]; omega) r1 r2 t1 t2
          have e : ((List.range (min its.toArray.size its'.toArray.size)).all (fun _ => true) && its.toArray.size == its'.toArray.size) = true := by
            simp
            omega
          rw [e] at q
          exact EqAt.of_refs hab q
        | _ => exact hy.elim
      | _ => exact hx.elim
    | lst ds =>
      cases x with
      | ref a =>
        cases y with
        | ref b =>
          cases rx
          cases ry
          by_cases hab : a = b
          · subst hab; exact EqAt.same _
          obtain ⟨xs, h1, h2⟩ := hx
          obtain ⟨ys, g1, g2⟩ := hy
          obtain ⟨its, rv, p, _⟩ := I.list h1
          obtain ⟨its', rv', p', _⟩ := I.list g1
          obtain ⟨l1, l2⟩ := told_get h2 g2
          have L1 := rv.length
          have L2 := rv'.length
          have q := RcAt.lists (A := A) (s := s) (e := fun _ => true) p.isList p'.isList (by simp; omega) (by omega) fun j h1 h2 => by
            have j1 : j < xs.length := by simpa [L1] using h1
            have j2 : j < ys.length := by simpa [L2] using h2
            obtain ⟨d, t1, t2⟩ := l2 j _ _ (List.getElem?_eq_getElem j1) (List.getElem?_eq_getElem j2)
            obtain ⟨u1, e1, r1⟩ := rv.get (List.getElem?_eq_getElem j1)
            obtain ⟨u2, e2, r2⟩ := rv'.get (List.getElem?_eq_getElem j2)
            have f1 : its.toArray[j] = u1 := by
              have := (List.getElem?_eq_some_iff.mp e1).2
              simpa using this
            have f2 : its'.toArray[j] = u2 := by
              have := (List.getElem?_eq_some_iff.mp e2).2
              simpa using this
            rw [f1, f2]
            exact ih A.in1 _ _ u1 u2 d (by rw [units_in1]; omega) r1 r2 t1 t2
          have e : (List.range its.toArray.size).all (fun _ => true) = true := by simp
          rw [e] at q
          exact EqAt.of_refs hab q
        | _ => exact hy.elim
      | _ => exact hx.elim
end
end L2
set_option Elab.async false
set_option linter.all false
set_option maxRecDepth 100000
set_option maxHeartbeats 4000000
namespace L2
open PySem PySem.Spec PyProof.Rows
section
variable {X : Cx} {pins : List (Addr × Obj)} {σ : St} {H : Hp} {s : Shared}
/-- the items of two things told alike -/
theorem told_items (I : Inv X pins σ H s) {n : Nat} {A : Around} {xs ys : List V} {its its' : List Value} {ds : List Dt} (hu : A.units + 1 + n < cLine) (h2 : Paired (Told X.K H n) xs ds) (g2 : Paired (Told X.K H n) ys ds) (rv : Vals xs its) (rv' : Vals ys its') :
    its.toArray.size = its'.toArray.size ∧ ∀ j (h1 : j < its.toArray.size) (h2 : j < its'.toArray.size), PySem.SeqAt.EqAt A.in1 s its.toArray[j] its'.toArray[j] true := by
  obtain ⟨l1, l2⟩ := told_get h2 g2
  have L1 := rv.length
  have L2 := rv'.length
  refine ⟨by simp; omega, fun j h1 h2 => ?_⟩
  have j1 : j < xs.length := by simpa [L1] using h1
  have j2 : j < ys.length := by simpa [L2] using h2
  obtain ⟨d, t1, t2⟩ := l2 j _ _ (List.getElem?_eq_getElem j1) (List.getElem?_eq_getElem j2)
  obtain ⟨u1, e1, r1⟩ := rv.get (List.getElem?_eq_getElem j1)
  obtain ⟨u2, e2, r2⟩ := rv'.get (List.getElem?_eq_getElem j2)
  have f1 : its.toArray[j] = u1 := by
    have := (List.getElem?_eq_some_iff.mp e1).2
    simpa using this
  have f2 : its'.toArray[j] = u2 := by
    have := (List.getElem?_eq_some_iff.mp e2).2
    simpa using this
  rw [f1, f2]
  exact told_eq I n A.in1 _ _ u1 u2 d (by rw [units_in1]; omega) r1 r2 t1 t2
def lstsTold (K : PySem.W.Frag) (x y : V) (H : Hp) : Prop := ∃ n a b xs ys ds, n ≤ 8 ∧ x = .ref a ∧ y = .ref b ∧ SqL K H a xs ∧ SqL K H b ys ∧ Paired (Told K H n) xs ds ∧ Paired (Told K H n) ys ds
open PySem.SeqAt in
theorem op_eqL (hu : X.A.units + 64 < cLine) : OpR X (compareOp .Eq) (fun x y H Q => lstsTold X.K x y H ∧ Q (.bl true) H) := by
  intro pins s σ H x y v u Q I rx ry h
  obtain ⟨⟨n, a, b, xs, ys, ds, hn, rfl, rfl, h1, h2, h3, h4⟩, q⟩ := h
  cases rx
  cases ry
  obtain ⟨its, rv, p, _⟩ := I.list h1
  obtain ⟨its', rv', p', _⟩ := I.list h2
  obtain ⟨k1, k2⟩ := told_items I (A := X.A) (n := n) (by omega) h3 h4 rv rv'
  refine eq_listAt (e := fun _ => true) p.isList p'.isList k1 (by omega) k2 ?_
  have e : (List.range its.toArray.size).all (fun _ => true) = true := by simp
  rw [e]
  exact ⟨.bl true, H, I, rfl, q⟩
end
/-! ### comprehensions, the forms one uses -/
/-- over a range, each element told from the turn's number alone; what is held of the heap stays -/
theorem comp_range {lo : Int} {n : Nat} {fr : List Nat} {te : TE} {σ : St} {H : Hp} {Q : VK} (Pv : Nat → List V → Hp → Prop) (hn : n ≤ sizeLine) (h0 : Pv 0 [] H) (hlen : ∀ i acc H, Pv i acc H → acc.length = i)
    (hs : ∀ i acc H, i < n → Pv i acc H → ∀ R : VK, (∀ y H1, Pv (i + 1) (acc ++ [y]) H1 → R y H1) → te ((compSt σ fr).set 0 (some (.int (lo + i)))) H R)
    (hd : ∀ acc H, Pv n acc H → ∀ p, H p = none → Q (.ref p) (upd H p (.lst acc))) :
    CompGo fr tYes te σ Q (Itr lo n) H := by
  refine ⟨fun i m acc H => m = n - i ∧ i ≤ n ∧ Pv i acc H, ⟨n, by simp, Nat.zero_le _, h0⟩, ?_⟩
  rintro i m acc H ⟨rfl, hi, p⟩
  have hl := hlen i acc H p
  by_cases hlt : i < n
  · refine .inr ⟨hlt, by omega, fun x H' y => ?_⟩
    obtain ⟨e, y⟩ := y
    subst e y
    unfold tYes
    refine iteT ?_
    exact hs i acc _ hlt p _ fun y H1 q => ⟨n - (i + 1), by omega, rfl, hlt, q⟩
  · have e : i = n := by omega
    subst e
    exact .inl ⟨Nat.le_refl _, by omega, hd acc H p⟩
end L2
set_option Elab.async false
set_option linter.all false
set_option maxRecDepth 100000
set_option maxHeartbeats 4000000
namespace L2
open PySem PySem.Spec PyProof.Rows
/-- a def of the text that may be called, with its promise -/
structure Cal (P : Program) (w : World) (K : PySem.W.Frag) (mg : Str → Option Value) (base : Heap) (k : Nat) (x : Str) (ps : List Str) (sp : Sp) where
  f : Addr
  fd : FuncData
  ok : FnOk P w K mg base CX0 k f fd ps sp
  b : Binds K fd ps []
  kp : PySem.W.keepIn K (.ref f) = true
  mg : mg x = some (.ref f)
theorem pec {X : Cx} {k : Nat} {x : Str} {ps : List Str} {sp : Sp} {p pos : Pos} {e : Expr} {es : List Expr} {t : TA} (C : Cal X.prog X.w X.K X.mg X.base k x ps sp) (hr : Room k X.A) (hg : Gl X x) (ha : PA X (e :: es) t)
    (hdb : (x == ("__debug__" : Str)) = false := by decide) (he : starEach (e :: es) X.env = (false, eval e X.env) :: starEach es X.env := by rfl) (hpl : (backTo pos (starEach es X.env)).any (·.1) = false := by rfl) :
    PE X (.Call (.Name x p) (e :: es) [] pos) (tCall sp [] E0 t) := pe_call C.ok hr hg C.mg C.kp C.b .nil pass0 ha hdb he hpl
theorem Same.seqT {K : PySem.W.Frag} {H H' : Hp} {a : Addr} {xs : List V} (e : Same H H') (h : SqT K H a xs) : SqT K H' a xs := by
  rcases h with (h | ⟨o, h⟩) | h
  · exact .inl (.inl (e _ _ h))
  · exact .inl (.inr ⟨o, e _ _ h⟩)
  · exact .inr h
theorem same_new {H : Hp} {p : Addr} (h : H p = none) (o : HO) : Same H (upd H p o) := fun b u q => by rw [upd_ne (ne_of_none q h)]; exact q
theorem at_int {ns : List Int} {i : Int} (h0 : 0 ≤ i) (h1 : i < ns.length) : atI (ns.map V.int) i = some (.int (ns.getD i.toNat 0)) := by
  have hk : i.toNat < ns.length := by omega
  have ek : i = ((i.toNat : Nat) : Int) := by omega
  have q : atI (ns.map V.int) ((i.toNat : Nat) : Int) = some (.int (ns.getD i.toNat 0)) := atI_nat (by
    rw [List.getElem?_map, List.getElem?_eq_getElem hk, List.getD_eq_getElem?_getD, List.getElem?_eq_getElem hk]; rfl)
  rw [← ek] at q
  exact q
theorem small {n : Nat} (h : n ≤ 1000) : n ≤ sizeLine := Nat.le_of_lt (small1000 h)
/-- an end: a number or None -/
def ov : Option Int → V
  | none => .non
  | some i => .int i
end L2
set_option Elab.async false
set_option linter.all false
set_option maxRecDepth 100000
set_option maxHeartbeats 4000000
namespace L2
open PySem PySem.Spec PyProof.Rows
section
variable {prog : Program} {w : World} {A : Around} {E : Value → Shared → Prop} {s : Shared}
/-! ### zip of two tuples, its items kept by a name -/
end
end L2
set_option Elab.async false
set_option linter.all false
set_option maxRecDepth 100000
set_option maxHeartbeats 4000000
namespace L2
open PySem PySem.Spec PyProof.Rows
section
variable {prog : Program} {w : World} {A : Around} {E : Value → Shared → Prop} {s : Shared}
/-! ### the making of a zip -/
end
end L2
set_option Elab.async false
set_option linter.all false
set_option maxRecDepth 100000
set_option maxHeartbeats 4000000
namespace L2
open PySem PySem.Spec PyProof.Rows
end L2
set_option Elab.async false
set_option linter.all false
set_option maxRecDepth 100000
set_option maxHeartbeats 4000000
namespace L2
open PySem PySem.Spec PyProof.Rows
section
variable {X : Cx}
end
/-! ### comprehensions over a tuple, over a zip of two tuples -/
end L2
set_option Elab.async false
set_option linter.all false
set_option maxRecDepth 100000
set_option maxHeartbeats 4000000
namespace L2
open PySem PySem.Spec PyProof.Rows
/-! ### the same rules where the fragment is named (within a comprehension's block) -/
section
variable {X : Cx} {K : PySem.W.Frag}
theorem ix_listK (h : X.K = K) : IxR X (rIxL K) := h ▸ ix_list
end
end L2
set_option Elab.async false
set_option linter.all false
set_option maxRecDepth 100000
set_option maxHeartbeats 4000000
namespace L2
open PySem PySem.Spec PyProof.Rows
section
variable {X : Cx}
theorem comp_core {use : Option (Value → Sem Unit)} {S : Value → Shared → Prop} {elt iter : Expr} {x : Str} {px : Pos} {ifs : List Expr} {scope : Scope} {pos : Pos} {wi : TI} {tt : TT} {te : TE} (F : List Str) (fr : List Nat) (hc : X.calm = true) (hi : PI X (.Name x px) iter wi)
    (ht : ∀ s3 H3 ex, PTs (compCx X (x :: F) scope s3 H3 ex) ifs tt) (he : ∀ s3 H3 ex, PE (compCx X (x :: F) scope s3 H3 ex) elt te)
    {pins : List (Addr × Obj)} {s : Shared} {σ : St} {H : Hp} {Q : VK} {p2 : Pos} (I : Inv X pins σ H s) (h : tComp wi fr tt te σ H Q) (hk : compChk X.env.scope X.N scope x F fr = true) (hs : ∀ x, foldedSetIterable iter X.env x = pure x)
    (fin : ∀ (s5 : Shared) (H5 : Hp) (D C : Addr) (m : Str → Option Value), Inv X pins σ H5 s5 → s5.heap.Ns C m → FpOk X pins H5 C → Q (.ref D) H5 → compPost (model X.prog X.w) X.A X.xe use S (.ref D) C (.ok .next) s5) :
    wpAny (model X.prog X.w) X.A (comprehension (.ListComp elt [⟨.Name x px, iter, ifs, 0⟩] scope pos) scope X.env p2 (newList []) false (eval iter X.env) use) S X.xe s := by
  have C := CompOk.of hk
  refine wpAny_comprehension_free (use := use) rfl hs (closure_eq (I.closes C)) C.kind C.loc ?_
  refine thn (hi pins s σ H _ I h) fun v s1 h1 => thn h1 fun itv s2 h2 => ?_
  obtain ⟨it, fp, tn, J, H2, e, I2, T, st2, f2, W, ⟨m0, w0⟩, turn⟩ := h2
  subst e
  refine wpAny_newObj_type (wpAny_newFunctionEnv C.nocell (by intro y hy; simp at hy) (fun h₁ hns₁ hsb₁ => ?_) C.kind)
  dsimp only at hns₁ hsb₁ ⊢
  generalize hs3 : ({ s2 with heap := s2.heap.push { cls := .type "list", dict := none, data := .seq ([] : List Value).toArray } } : Shared) = s3
  have e3 : s3.heap = s2.heap.push { cls := .type "list", dict := none, data := .seq ([] : List Value).toArray } := by rw [← hs3]
  rw [← e3] at hns₁ hsb₁ ⊢
  have sz3 : s3.heap.objs.size = s2.heap.objs.size + 1 := by rw [e3, Heap.size_push]
  generalize hD : s2.heap.objs.size = D at sz3 ⊢
  have I3 : Inv X pins σ H2 s3 := by
    rw [← hs3]
    exact I2.kept (t' := s2.toks) fun b o e => Heap.get?_push_of_some _ e
  have hDX : ∀ {H' : Hp}, H' D = none → FpOk X pins H' D := fun {H'} hn => I2.fpOk (H' := H') (by rw [hD]; exact Nat.le_refl _) hn
  have hCX : ∀ {H' : Hp}, H' s3.heap.objs.size = none → FpOk X pins H' s3.heap.objs.size := fun {H'} hn => I3.fpOk (H' := H') (Nat.le_refl _) hn
  have hD2 : H2 D = none := by rw [← hD]; exact I2.hok.fresh (Nat.le_refl _)
  have ltf : ∀ b ∈ fp, b < D := fun b hb => by
    obtain ⟨o, ho, _⟩ := T.obj 0 _ st2 b hb
    rw [← hD]
    exact Heap.lt_size ho
  have ltD : D < s3.heap.objs.size := by rw [sz3]; exact Nat.lt_succ_self _
  have getD3 : s3.heap.get? D = some { cls := .type "list", dict := none, data := .seq ([] : List Value).toArray } := by
    rw [e3, ← hD]
    exact Heap.get?_push_size _ rfl
  have old : ∀ b o, s3.heap.get? b = some o → h₁.get? b = some o := fun b o e => hsb₁.extBut b o (Nat.ne_of_lt (Heap.lt_size e)) (Heap.get?_push_of_some _ e)
  have J0 : Inv (compCx X (x :: F) scope s3 H2 (D :: fp)) [] (compSt σ fr) H2 { s3 with heap := h₁, toks := s3.toks + ([] : List (Str × Value)).length } := by
    refine inv_comp I3 C (fun b hb => ?_) (by simpa using hns₁) old
    rcases List.mem_cons.mp hb with e | hb
    · subst e; exact ⟨hDX hD2, ltD⟩
    · exact ⟨f2 b hb, Nat.lt_trans (ltf b hb) ltD⟩
  have nfs : ∀ b, b ≠ X.env.locals → b ∉ X.fs → b ∉ frs X.stack := fun b h1 h2 hb => by
    rcases List.mem_cons.mp (I3.stkSub b hb) with z | z
    · exact h1 z
    · exact h2 z
  have gs : ∀ {y : Str} {c : Addr}, (gather X.env.cells scope.names []).lookup y = some c → X.env.cells.lookup y = some c := fun h => I.gsub C h
  -- what is true of the block's iterator
  have fpY : ∀ {H' : Hp} {oD : Obj}, (∀ b ∈ fp, H' b = none) → ∀ b ∈ fp, FpOk (compCx X (x :: F) scope s3 H2 (D :: fp)) [(D, oD)] H' b := fun {H' oD} hn b hb => by
    obtain ⟨g0, g1, g2, g3, g4, g5⟩ := f2 b hb
    refine ⟨hn b hb, Nat.ne_of_lt (Nat.lt_trans (ltf b hb) ltD), nfs b g1 g2, .inl (List.mem_cons_of_mem _ hb), fun y c e => g4 y c (gs e), fun p hp => ?_⟩
    have e : p = (D, oD) := by
      have : p ∈ ([] : List (Addr × Obj)) ++ [(D, oD)] := hp
      simpa using this
    rw [e]
    exact Nat.ne_of_gt (ltf b hb)
  have pinD : ∀ {H' : Hp} {s' : Shared} {oD : Obj} {σ' : St}, Inv (compCx X (x :: F) scope s3 H2 (D :: fp)) [] σ' H' s' → H' D = none → s'.heap.get? D = some oD → (∀ v, oD.data ≠ .cell v) → Inv (compCx X (x :: F) scope s3 H2 (D :: fp)) [(D, oD)] σ' H' s' := fun {H' s' oD σ'} I' hn e hd => by
    refine I'.pins_of fun p hp => ?_
    have ep : p = (D, oD) := by simpa using hp
    subst ep
    obtain ⟨g0, g1, g2, _⟩ := hDX hD2
    exact ⟨e, hn, Nat.ne_of_lt ltD, nfs D g1 g2, hd⟩
  have unpin : ∀ {H' : Hp} {s' : Shared} {pl : List (Addr × Obj)} {σ' : St}, Inv (compCx X (x :: F) scope s3 H2 (D :: fp)) pl σ' H' s' → Inv (compCx X (x :: F) scope s3 H2 (D :: fp)) [] σ' H' s' := fun I' => I'.pins_of fun p hp => nomatch hp
  have post : ∀ (s' : Shared), s' = { s3 with heap := h₁, toks := s3.toks + ([] : List (Str × Value)).length } →
      codeAny (model X.prog X.w) X.A (.compLoop (.ListComp elt [⟨.Name x px, iter, ifs, 0⟩] scope pos) 0 (.ref it) (.ref D) (compEnvC scope (gather X.env.cells scope.names []) s3.heap.objs.size X.env))
        (compPost (model X.prog X.w) X.A X.xe use S (.ref D) s3.heap.objs.size) s' := by
    rintro s' rfl
    refine codeAny_compLoop_tests (fun n s' => ∃ i acc its H' oD, Inv (compCx X (x :: F) scope s3 H2 (D :: fp)) [] (compSt σ fr) H' s' ∧ tn i s'.heap ∧ (∀ b ∈ fp, H' b = none) ∧ H' D = none ∧
      s'.heap.get? D = some oD ∧ (∃ n, oD = { cls := .type "list", data := .seq (its : List Value).toArray n }) ∧ Vals acc its ∧ W i n acc H') ?_ m0 ⟨0, [], [], H2, _, J0, ?_, fun b hb => (f2 b hb).1, hD2, old _ _ getD3, ⟨0, rfl⟩, .nil, w0⟩
    · rintro n s4 ⟨i, acc, its, H4, oD, I4, st4, fr4, n4, g4, ⟨nn, rfl⟩, v4, w4⟩
      have hdat : ∀ v, ({ cls := .type "list", data := .seq its.toArray nn } : Obj).data ≠ .cell v := fun v z => by cases z
      have I4' := pinD I4 n4 g4 hdat
      rcases turn i n acc H4 w4 with ⟨stop, hz, q⟩ | ⟨go, hz, step⟩
      · refine wpAny_mono (T.done (compCx X (x :: F) scope s3 H2 (D :: fp)) rfl rfl rfl hc i [(D, _)] s4 (compSt σ fr) H4 (fun _ _ => False) I4' (fpY fr4) st4 stop) (fun r s5 ⟨hr, I5⟩ => ?_) fun _ _ z => False.elim z
        subst hr
        obtain ⟨m, hm, _⟩ := I5.loc
        obtain ⟨g5, n5, _⟩ := I5.pin (D, _) (List.mem_append_right _ List.mem_cons_self)
        have hC5 : H4 s3.heap.objs.size = none := I5.free
        have IX : Inv X pins σ H4 s5 := I3.call' (ch := D :: fp) I5.os I5.base I5.hok I5.bare fun b hb => by
          rcases List.mem_cons.mp hb with e | hb
          · subst e
            obtain ⟨g0, g1, g2, g3, g4, g5⟩ := hDX hD2
            exact ⟨g3, g1, g4, g5⟩
          · obtain ⟨g0, g1, g2, g3, g4, g5⟩ := f2 b hb
            exact ⟨g3, g1, g4, g5⟩
        have hC6 : (upd H4 D (.lst acc)) s3.heap.objs.size = none := by rw [upd_ne (Nat.ne_of_gt ltD)]; exact hC5
        exact fin s5 _ D _ m (IX.track (o := .lst acc) (hDX n5) (by rw [← hD]; exact I2.sz) ⟨hz, its, nn, v4, g5⟩) hm (hCX hC6) (q D n5)
      · refine wpAny_mono (T.item (compCx X (x :: F) scope s3 H2 (D :: fp)) rfl rfl rfl hc i [(D, _)] s4 (compSt σ fr) H4 (fun _ _ => False) I4' (fpY fr4) st4 go) (fun r s5 ⟨u, hr, h5⟩ => ?_) fun _ _ z => False.elim z
        subst hr
        refine after_pure (show wpAny _ _ (pure () : Sem Unit) _ _ s5 from h5) fun ⟨y, H6, I6, r6, y6, st6, fr6⟩ => ?_
        have hl : (compCx X (x :: F) scope s3 H2 (D :: fp)).env.scope.names.lookup x = some .local := lookup_relabel_local C.tx
        -- the target's store, the iterator and the list held fast
        have I6' := I6.pinned (fp := fp) (fun b hb => ⟨fr6 b hb, (fpY (oD := { cls := .type "list", data := .seq its.toArray nn }) fr4 b hb).2⟩) (T.obj _ _ st6)
        have PGx : PG (compCx X (x :: F) scope s3 H2 (D :: fp)) (.Name x px) (gName 0) := pg_name C.nd rfl (.inl hl) (.inr hl)
        refine wpAny_mono (PGx _ s5 (compSt σ fr) H6 y u (fun σ7 H7 => σ7 = (compSt σ fr).set 0 (some y) ∧ H7 = H6) I6' r6 ⟨rfl, rfl⟩) (fun _ s7 ⟨σ7, H7, I7, q7⟩ => ?_) fun _ _ z => False.elim z
        obtain ⟨rfl, rfl⟩ := q7
        refine wpAny_mono (ht s3 H2 (D :: fp) _ s7 _ H7 _ I7 (step y H7 y6)) (fun b s8 ⟨H8, I8, q8⟩ => ?_) fun _ _ z => False.elim z
        -- what is held fast
        have held : ∀ {σ9 : St} {H9 : Hp} {s9 : Shared}, Inv (compCx X (x :: F) scope s3 H2 (D :: fp)) ([(D, { cls := .type "list", data := .seq its.toArray nn })] ++ pinsAt fp s5.heap) σ9 H9 s9 →
            tn (i + 1) s9.heap ∧ (∀ b ∈ fp, H9 b = none) ∧ H9 D = none ∧ s9.heap.get? D = some { cls := .type "list", data := .seq its.toArray nn } := fun {σ9 H9 s9} I9 => by
          refine ⟨T.keep _ _ _ st6 fun b hb o e => (I9.pin (b, o) (List.mem_append_right _ (List.mem_append_right _ (mem_pinsAt hb e)))).1, fun b hb => ?_, ?_, ?_⟩
          · obtain ⟨o, e, _⟩ := T.obj _ _ st6 b hb
            exact (I9.pin (b, o) (List.mem_append_right _ (List.mem_append_right _ (mem_pinsAt hb e)))).2.1
          · exact (I9.pin (D, _) (List.mem_append_right _ (List.mem_append_left _ List.mem_cons_self))).2.1
          · exact (I9.pin (D, _) (List.mem_append_right _ (List.mem_append_left _ List.mem_cons_self))).1
        have forget : ∀ {H9 : Hp} {s9 : Shared} {pl : List (Addr × Obj)}, Inv (compCx X (x :: F) scope s3 H2 (D :: fp)) pl ((compSt σ fr).set 0 (some y)) H9 s9 → Inv (compCx X (x :: F) scope s3 H2 (D :: fp)) [] (compSt σ fr) H9 s9 := fun {H9 s9 pl} I9 => by
          refine (unpin I9).weak (by simp) fun j v e => ?_
          cases j with
          | zero => simp [compSt] at e
          | succ j => simpa [compSt] using e
        cases b with
        | false =>
          obtain ⟨m', hm', w8⟩ := q8
          obtain ⟨a1, a2, a3, a4⟩ := held I8
          exact ⟨m', hm', i + 1, acc, its, H8, _, forget I8, a1, a2, a3, a4, ⟨nn, rfl⟩, v4, w8⟩
        | true =>
          refine wpAny_mono (he s3 H2 (D :: fp) _ s8 _ H8 _ I8 q8) (fun yv s9 ⟨z9, H9, I9, r9, m', hm', w9⟩ => ?_) fun _ _ z => False.elim z
          obtain ⟨a1, a2, a3, a4⟩ := held I9
          have hlen := v4.length
          refine wpAny_list_append_plain (items := its.toArray) ⟨nn, a4⟩ (fun h' hp' hsb' => ?_) (by rw [List.size_toArray]; omega)
          obtain ⟨n2, hp2⟩ := hp'
          have e2 : its.toArray.push yv = (its ++ [yv]).toArray := by simp
          rw [e2] at hp2
          have I10 := forget I9
          obtain ⟨d0, d1, d2, d3, d4, d5⟩ := hDX hD2
          have I11 : Inv (compCx X (x :: F) scope s3 H2 (D :: fp)) [] (compSt σ fr) H9 { s9 with heap := h' } :=
            I10.turned (t' := s9.toks) (it := D) (fun b o hb e => (hsb'.2 b hb).trans e) a3 (Nat.ne_of_lt ltD) (.inl List.mem_cons_self) (fun y c e => d4 y c (gs e)) fun p hp => absurd (show p ∈ ([] : List (Addr × Obj)) from hp) (by simp)
          refine ⟨m', hm', i + 1, acc ++ [z9], its ++ [yv], H9, _, I11, T.keep _ _ _ a1 fun b hb o e => (hsb'.2 b (Nat.ne_of_lt (ltf b hb))).trans e, a2, a3, hp2, ⟨n2, rfl⟩, v4.append (.cons r9 .nil), w9⟩
    · exact T.keep _ _ _ st2 fun b hb o e => old b o (by rw [e3]; exact Heap.get?_push_of_some _ e)
  refine codeAny_compStart_list (post _ (by rw [← hs3])) (T.self X.A 0 _ _ _ ?_ (post _ (by rw [← hs3])))
  exact T.keep _ _ _ st2 fun b hb o e => old b o (by rw [e3]; exact Heap.get?_push_of_some _ e)

/-- x = [.. for ..] at a plain local: the store stands within the block -/
theorem ps_setComp {y : Str} {j : Nat} {elt iter : Expr} {x : Str} {px py : Pos} {ifs : List Expr} {scope : Scope} {pos spos : Pos} {wi : TI} {tt : TT} {te : TE} (F : List Str) (fr : List Nat) (hN : X.N.Nodup) (hj : X.N[j]? = some y) (hy : X.env.scope.names.lookup y = some .local) (hc : X.calm = true) (hi : PI X (.Name x px) iter wi)
    (ht : ∀ s3 H3 ex, PTs (compCx X (x :: F) scope s3 H3 ex) ifs tt) (he : ∀ s3 H3 ex, PE (compCx X (x :: F) scope s3 H3 ex) elt te)
    (hsw : swapsWith (.ListComp elt [⟨.Name x px, iter, ifs, 0⟩] scope pos) (some (.Name y py)) spos.line X.env = pure true := by rfl)
    (hk : compChk X.env.scope X.N scope x F fr = true := by rfl) (hs : ∀ x, foldedSetIterable iter X.env x = pure x := by intro _; rfl) :
    PS X (.Assign [.Name y py] (.ListComp elt [⟨.Name x px, iter, ifs, 0⟩] scope pos) spos) (tAsg (tComp wi fr tt te) (gName j)) := by
  intro pins s σ H D0 I h
  rw [exec_Assign_Name_used _ _ _ _ hsw]
  refine wpAny_bind (wpAny_standAt (wpAny_bind ?_))
  show wpAny _ X.A (do let _ ← comprehension (.ListComp elt [⟨.Name x px, iter, ifs, 0⟩] scope pos) scope X.env _ (newList []) false (eval iter X.env) (some (assign (.Name y py) X.env))) _ _ s
  refine wpAny_bind (wpAny_mono (comp_core (use := some (assign (.Name y py) X.env)) (S := fun _ s' => SP X pins D0 .next s') F fr hc hi ht he I h hk hs fun s5 H5 D C m IT hm hC q => ?_) (fun _ s' hq => wpAny_pure (wpAny_pure hq)) fun _ _ e => e)
  obtain ⟨c0, c1, c2, c3, c4, c5⟩ := hC
  show wpAny _ X.A (assign (.Name y py) X.env (.ref D)) _ _ _
  refine wpAny_assign_Name (store_ok2 IT hN hj (.inl hy) (v := .ref D) rfl (fun s6 I6 hsb => ?_) (.inr hy))
  obtain ⟨b, hsb, hb⟩ := hsb
  have hCb : C ≠ b := by
    rcases hb with e | e
    · rw [e]; exact c1
    · exact fun z => c4 y b e z.symm
  refine ⟨m, hm.sameBut hsb hCb, fun h' hs' => ?_⟩
  exact ⟨_, H5, I6.turned (t' := s6.toks) (it := C) (fun b o hb e => (hs'.2 b hb).trans e) c0 c1 c3 c4 c5, q⟩
end
end L2
set_option Elab.async false
set_option linter.all false
set_option maxRecDepth 100000
set_option maxHeartbeats 4000000
namespace L2
open PySem PySem.Spec PyProof.Rows

/-! ### an exception in flight -/
section
variable {P : Program} {w : World} {l : List Env} {H H' : Hp} {s s' : Shared} {x : Addr} {cls a0 : Value} {B : Heap}
end
section
variable {X : Cx} {pins : List (Addr × Obj)} {σ : St} {H H' : Hp} {s s' : Shared} {x : Addr} {cls a0 : Value} {B : Heap}
end

/-! ### a def's body: an exception made here, one that passes -/
section
variable {P : Program} {w : World} {K : PySem.W.Frag} {mg : Str → Option Value} {base : Heap} {N : List Str} {qual : Str} {scope : Scope} {f : Addr} {cd : Value} {A : Around} {outer : List Env} {s : Shared} {H : Hp} {E E' : XK}
end
end L2
set_option Elab.async false
set_option linter.all false
set_option maxRecDepth 100000
set_option maxHeartbeats 4000000
namespace L2
open PySem PySem.Spec PyProof.Rows

/-! ### own error classes under ValueError -/
section
variable {X : Cx} {x : Str} {C : Addr} {np cpos pos : Pos} {e : Expr} {es : List Expr} {t : TA} {E : XK}
end

/-! ### texts with places in them: what stands in them is not followed -/
section
variable {X : Cx}
end

/-! ### defs that may raise -/
section
variable {P : Program} {w : World} {K : PySem.W.Frag} {mg : Str → Option Value} {base : Heap}
end
section
variable {X : Cx} {k : Nat} {x : Str} {ps : List Str} {sp : Sp} {p pos : Pos} {e : Expr} {es : List Expr} {t : TA} {E : XK}
end
end L2
set_option Elab.async false
set_option linter.all false
set_option maxRecDepth 100000
set_option maxHeartbeats 4000000
namespace L2
open PySem PySem.Spec PyProof.Rows

/-! ### isinstance of an exception of one's own -/
section
variable {prog : Program} {w : World} {A : Around} {E : Value → Shared → Prop} {K : PySem.W.Frag} {x D : Addr} {o : Obj}
end
section
variable {X : Cx}
end
end L2
set_option Elab.async false
set_option linter.all false
set_option maxRecDepth 100000
set_option maxHeartbeats 4000000
namespace L2
open PySem PySem.Spec PyProof.Rows

/-! ### try .. except -/
section
variable {M : Model} {A : Around} {E : Value → Shared → Prop} {K : PySem.W.Frag} {x C D : Addr} {s : Shared} {Q : Bool → Shared → Prop} {b : Bool} {o : Obj}
end
section
variable {X : Cx} {pins : List (Addr × Obj)} {σ : St} {H : Hp} {s : Shared}
end
end L2
set_option Elab.async false
set_option linter.all false
set_option maxRecDepth 100000
set_option maxHeartbeats 4000000
namespace L2
open PySem PySem.Spec PyProof.Rows
section
variable {X : Cx} {c n : Str} {C : Addr} {i : Nat} {np pos : Pos} {b₀ : Stmt} {suite : List Stmt} {rest : List ExceptHandler} {th : TS} {tr : THd}
end
end L2
set_option Elab.async false
set_option linter.all false
set_option maxRecDepth 100000
set_option maxHeartbeats 4000000
namespace L2
open PySem PySem.Spec PyProof.Rows
section
variable {X : Cx} {K : PySem.W.Frag}
end
/-! ### sum of a list of ints -/
section
variable {X : Cx}
end
/-! ### a comprehension over a list -/
theorem comp_list {K : PySem.W.Frag} {a : Addr} {xs : List V} {fr : List Nat} {te : TE} {σ : St} {H : Hp} {Q : VK} (Pv : Nat → List V → Hp → Prop) (hn : xs.length ≤ sizeLine) (h0 : Pv 0 [] H) (hlen : ∀ i acc H, Pv i acc H → acc.length = i) (hl : ∀ i acc H, Pv i acc H → SqL K H a xs)
    (hs : ∀ i acc H x, xs[i]? = some x → Pv i acc H → ∀ R : VK, (∀ y H1, Pv (i + 1) (acc ++ [y]) H1 → R y H1) → te ((compSt σ fr).set 0 (some x)) H R)
    (hd : ∀ acc H, Pv xs.length acc H → ∀ p, H p = none → Q (.ref p) (upd H p (.lst acc))) : CompGo fr tYes te σ Q (Itl K a) H := by
  refine ⟨fun i m acc H => m = xs.length - i ∧ i ≤ xs.length ∧ Pv i acc H, ⟨xs.length, by simp, Nat.zero_le _, h0⟩, ?_⟩
  rintro i m acc H ⟨rfl, hi, p⟩
  have ha := hlen i acc H p
  have q := hl i acc H p
  by_cases hlt : i < xs.length
  · refine .inr ⟨⟨xs, xs[i], q, by simp [hlt]⟩, by omega, fun x H' y => ?_⟩
    obtain ⟨e, y⟩ := y
    subst e
    unfold tYes
    refine iteT ?_
    exact hs i acc _ x (y xs q) p _ fun y H1 q => ⟨xs.length - (i + 1), by omega, rfl, hlt, q⟩
  · have e : i = xs.length := by omega
    subst e
    exact .inl ⟨⟨xs, q, Nat.le_refl _⟩, by omega, hd acc H p⟩
end L2
set_option Elab.async false
set_option linter.all false
set_option maxRecDepth 100000
set_option maxHeartbeats 4000000
namespace L2
open PySem PySem.Spec PyProof.Rows
section
variable {X : Cx} {K : PySem.W.Frag}
end
/-! ### a comprehension over a list, with a test -/
end L2
set_option Elab.async false
set_option linter.all false
set_option maxRecDepth 100000
set_option maxHeartbeats 4000000
namespace L2
open PySem PySem.Spec PyProof.Rows
section
variable {X : Cx}
/-- an item that is no starred one -/
def plainE : Expr → Bool
  | .Starred _ _ => false
  | _ => true
theorem star_plain {e : Expr} {es : List Expr} {env : Env} (h : plainE e = true) : starEach (e :: es) env = (false, eval e env) :: starEach es env := by
  cases e with
  | Starred _ _ => cases h
  | _ => rfl
theorem pa_consP {e : Expr} {es : List Expr} {te : TE} {t : TA} (ha : PE X e te) (hr : PA X es t) (h : plainE e = true := by rfl) : PA X (e :: es) (tCons te t) := pa_cons ha hr (star_plain h)
end
end L2
set_option Elab.async false
set_option linter.all false
set_option maxRecDepth 100000
set_option maxHeartbeats 4000000
namespace L2
open PySem PySem.Spec PyProof.Rows
section
variable {X : Cx} {K : PySem.W.Frag}
end
end L2
set_option Elab.async false
set_option linter.all false
set_option maxRecDepth 100000
set_option maxHeartbeats 4000000
namespace L2
open PySem PySem.Spec PyProof.Rows
theorem hu1 {A : Around} {k : Nat} (hr : Room k A) : A.units + 1 < cLine := by
  have := hr.units
  omega
theorem vals_of_get : ∀ {xs : List V} {us : List Value}, xs.length = us.length → (∀ (i : Nat) x u, xs[i]? = some x → us[i]? = some u → RelV x u) → Vals xs us
  | [], [], _, _ => .nil
  | [], _ :: _, h, _ => by cases h
  | _ :: _, [], h, _ => by cases h
  | x :: xs, u :: us, h, g => .cons (g 0 x u rfl rfl) (vals_of_get (by simpa using h) fun i y v h1 h2 => g (i + 1) y v (by simpa using h1) (by simpa using h2))
section
variable {X : Cx}
end
end L2
set_option Elab.async false
set_option linter.all false
set_option maxRecDepth 100000
set_option maxHeartbeats 4000000
namespace L2
open PySem PySem.Spec PyProof.Rows
/-! ### min and max of a list with a default -/
section
variable {prog : Program} {w : World} {A : Around} {E : Value → Shared → Prop} {s : Shared}
end
section
variable {X : Cx} {id : String} {x : Str} {p pos : Pos} {e : Expr} {es : List Expr} {kws : List Keyword} {t tk : TA} {r : List V → List V → Hp → VK → Prop} {ks : List Str}
end

section
variable {prog : Program} {w : World} {A : Around} {R : Result → Shared → Prop} {J Z : Addr} {fp wr : List Addr} {n : Nat} {P : Nat → Value → Prop} {St : Nat → Heap → Prop}
end
section
variable {prog : Program} {w : World} {A : Around} {E : Value → Shared → Prop} {s : Shared}
end
section
variable {X : Cx}
end

section
variable {prog : Program} {w : World} {A : Around} {R : Result → Shared → Prop} {J Z : Addr} {fp wr : List Addr} {n : Nat} {P : Nat → Value → Prop} {St : Nat → Heap → Prop}
end
section
variable {prog : Program} {w : World} {A : Around} {E : Value → Shared → Prop} {s : Shared}
end
section
variable {X : Cx}
end

section
variable {X : Cx}
end
end L2
set_option Elab.async false
set_option linter.all false
set_option maxRecDepth 100000
set_option maxHeartbeats 4000000
namespace L2
open PySem PySem.Spec PyProof.Rows
/-! ### methods of own classes, with their promises -/
structure MCal (P : Program) (w : World) (K : PySem.W.Frag) (mg : Str → Option Value) (base : Heap) (C : Addr) (k : Nat) (m : Str) (ps : List Str) (sp : Sp) where
  f : Addr
  fd : FuncData
  ok : FnOk P w K mg base CX0 k f fd ps sp
  b : Binds K fd ps []
  mt : Meth K C m f
/-- a class that is made -/
structure MkCal (P : Program) (w : World) (K : PySem.W.Frag) (mg : Str → Option Value) (base : Heap) (C : Addr) (k : Nat) (x : Str) (ps : List Str) (sp : Sp) where
  f : Addr
  fd : FuncData
  ok : FnOk P w K mg base CX0 k f fd ps sp
  b : Binds K fd ps []
  mkd : Mk K C f
  mg : mg x = some (.ref C)
section
variable {X : Cx} {k : Nat} {m : Str} {C : Addr} {ps : List Str} {sp : Sp} {apos pos : Pos} {o e : Expr} {es : List Expr} {ta : TE} {t : TA}
end
end L2
set_option Elab.async false
set_option linter.all false
set_option maxRecDepth 100000
set_option maxHeartbeats 4000000
namespace L2
open PySem PySem.Spec PyProof.Rows
section
variable {X : Cx}
end
end L2
set_option Elab.async false
set_option linter.all false
set_option maxRecDepth 100000
set_option maxHeartbeats 4000000
namespace L2
open PySem PySem.Spec PyProof.Rows
/-! ### == of lists of tuples (or of lists) of ints, whatever the answer -/
section
variable {X : Cx} {pins : List (Addr × Obj)} {σ : St} {H : Hp} {s : Shared}
end
end L2
set_option Elab.async false
set_option linter.all false
set_option maxRecDepth 100000
set_option maxHeartbeats 4000000
namespace L2
open PySem PySem.Spec PyProof.Rows
/-! ### lists by their length (smaller than a match of each def's own) -/
theorem lenE1 : ∀ {us : List Value}, us.length = 1 → ∃ a, us = [a]
  | [a], _ => ⟨a, rfl⟩
theorem lenE2 : ∀ {us : List Value}, us.length = 2 → ∃ a b, us = [a, b]
  | [a, b], _ => ⟨a, b, rfl⟩
theorem lenE3 : ∀ {us : List Value}, us.length = 3 → ∃ a b c, us = [a, b, c]
  | [a, b, c], _ => ⟨a, b, c, rfl⟩
theorem lenE4 : ∀ {us : List Value}, us.length = 4 → ∃ a b c d, us = [a, b, c, d]
  | [a, b, c, d], _ => ⟨a, b, c, d, rfl⟩
theorem lenE5 : ∀ {us : List Value}, us.length = 5 → ∃ a b c d e, us = [a, b, c, d, e]
  | [a, b, c, d, e], _ => ⟨a, b, c, d, e, rfl⟩
theorem lenE6 : ∀ {us : List Value}, us.length = 6 → ∃ a b c d e f, us = [a, b, c, d, e, f]
  | [a, b, c, d, e, f], _ => ⟨a, b, c, d, e, f, rfl⟩
/-! ### any of a list of bools -/
section
variable {X : Cx} {K : PySem.W.Frag}
/-- pe_comp by way of comp_core (which ps_setComp wants too): the smaller text -/
theorem pe_compS {elt iter : Expr} {x : Str} {px : Pos} {ifs : List Expr} {scope : Scope} {pos : Pos} {wi : TI} {tt : TT} {te : TE} (F : List Str) (fr : List Nat) (hc : X.calm = true) (hi : PI X (.Name x px) iter wi)
    (ht : ∀ s3 H3 ex, PTs (compCx X (x :: F) scope s3 H3 ex) ifs tt) (he : ∀ s3 H3 ex, PE (compCx X (x :: F) scope s3 H3 ex) elt te)
    (hk : compChk X.env.scope X.N scope x F fr = true := by rfl) (hs : ∀ x, foldedSetIterable iter X.env x = pure x := by intro _; rfl) :
    PE X (.ListComp elt [⟨.Name x px, iter, ifs, 0⟩] scope pos) (tComp wi fr tt te) := by
  intro pins s σ H Q I h
  rw [eval_ListComp]
  refine comp_core (use := none) F fr hc hi ht he I h hk hs fun s5 H5 D C m IT hm hC q => ?_
  obtain ⟨c0, c1, c2, c3, c4, c5⟩ := hC
  refine ⟨m, hm, fun h' hs' => ?_⟩
  exact ⟨.ref D, H5, IT.turned (t' := s5.toks) (it := C) (fun b o hb e => (hs'.2 b hb).trans e) c0 c1 c3 c4 c5, rfl, q⟩
end
end L2
set_option Elab.async false
set_option linter.all false
set_option maxRecDepth 100000
set_option maxHeartbeats 4000000
namespace L2
open PySem PySem.Spec PyProof.Rows
/-! ### a def (or method) with defaults, of which all parameters are given -/
structure FunD (K : PySem.W.Frag) (x qual : Str) (st : Stmt) (f : Addr) (fd : FuncData) : Prop where
  ex : ∃ (oc : Value) (od : Option Addr) (dV kV doc pm : Value) (an : Option Addr) (cdv ct : Value) (osl : Array (Option Value)),
    fd = PySem.W.fnOf x qual (defArgs st) (defBody st) (defScope st) dV kV doc pm an cdv ct ∧ K.lookup f = some ⟨oc, od, .func fd, osl⟩ ∧ PySem.W.codeIn K cdv qual = true
  kp : PySem.W.keepIn K (.ref f) = true
section
variable {P : Program} {w : World} {K : PySem.W.Frag} {mg : Str → Option Value} {base : Heap}
theorem FunD.ok {x qual : Str} {st : Stmt} {f : Addr} {fd : FuncData} {N ps : List Str} {k : Nat} {sp : Sp} (F : FunD K x qual st f fd) (S : FnScope N ps (defScope st)) (len : ∀ vs H Q E, sp vs H Q E → vs.length = ps.length)
    (hbody : ∀ (cdv : Value) (A : Around) (outer : List Env) (s : Shared) (H : Hp) (vs : List V) (Q : VK) (E : XK), Room k (A.deeper (envOfC qual (defScope st) s.heap.objs.size f cdv)) → sp vs H Q E →
      ∃ t, PSs (cxOf CX0 P w K mg base N qual (defScope st) f cdv A outer s H E).nox (defBody st) t ∧ t { nx := fun _ H' => Q .non H', rt := Q } (start N vs) H) : FnOk P w K mg base CX0 (k + 1) f fd ps sp := by
  obtain ⟨oc, od, dV, kV, doc, pm, an, cdv, ct, osl, rfl, lk, hcd⟩ := F.ex
  refine fn_of lk hcd S len fun A outer s H vs Q E hr hsp => ?_
  obtain ⟨t, h, q⟩ := hbody cdv A outer s H vs Q E hr hsp
  exact ⟨t, h.nox, q⟩
theorem fun_mkD {x qual : Str} {st : Stmt} {f : Addr} {oc : Value} {od an : Option Addr} {osl : Array (Option Value)} {dV kV doc pm cdv ct : Value} (l : K.lookup f = some ⟨oc, od, .func (PySem.W.fnOf x qual (defArgs st) (defBody st) (defScope st) dV kV doc pm an cdv ct), osl⟩)
    (c : PySem.W.codeIn K cdv qual = true) (k : PySem.W.keepIn K (.ref f) = true) : FunD K x qual st f (PySem.W.fnOf x qual (defArgs st) (defBody st) (defScope st) dV kV doc pm an cdv ct) := ⟨⟨oc, od, dV, kV, doc, pm, an, cdv, ct, osl, rfl, l, c⟩, k⟩
end
end L2
set_option Elab.async false
set_option linter.all false
set_option maxRecDepth 100000
set_option maxHeartbeats 4000000
namespace L2
open PySem PySem.W PyProof.Rows
/-! ### the library's tree of questions that sorts, asked of an order: what comes out is in order -/
section
variable {lt : Nat → Nat → Bool}
end
end L2
namespace L2
open PySem PySem.Spec PyProof.Rows

/-! ### lists of pairs as tables -/
section
variable {κ : Type} [DecidableEq κ]
def valV (kvs : List (κ × V)) (k : κ) : Option V := (kvs.find? fun kv => decide (kv.1 = k)).map (·.2)
/-- in its place, or at the end -/
def putK (kvs : List (κ × V)) (k : κ) (v : V) : List (κ × V) :=
  if (kvs.any fun kv => decide (kv.1 = k)) = true then kvs.map (fun kv => if kv.1 = k then (kv.1, v) else kv) else kvs ++ [(k, v)]
def dropK (kvs : List (κ × V)) (k : κ) : List (κ × V) := kvs.filter fun kv => decide (kv.1 ≠ k)

theorem valV_pos {p : κ × V} {r : List (κ × V)} {k : κ} (e : p.1 = k) : valV (p :: r) k = some p.2 := by simp [valV, List.find?_cons, e]
theorem valV_neg {p : κ × V} {r : List (κ × V)} {k : κ} (e : ¬ p.1 = k) : valV (p :: r) k = valV r k := by simp [valV, List.find?_cons, e]
theorem valV_any (k : κ) : ∀ kvs : List (κ × V), (kvs.any fun kv => decide (kv.1 = k)) = (valV kvs k).isSome
  | [] => rfl
  | p :: r => by
    rw [List.any_cons]
    by_cases e : p.1 = k
    · simp only [valV_pos e, decide_eq_true e, Bool.true_or, Option.isSome_some]
    · rw [valV_neg e, decide_eq_false e, Bool.false_or]; exact valV_any k r
theorem length_putK (kvs : List (κ × V)) (k : κ) (v : V) : (putK kvs k v).length ≤ kvs.length + 1 := by
  unfold putK
  split
  · rw [List.length_map]; omega
  · rw [List.length_append, List.length_cons, List.length_nil]; omega
theorem putK_new {kvs : List (κ × V)} {k : κ} (v : V) (h : valV kvs k = none) : putK kvs k v = kvs ++ [(k, v)] := by
  unfold putK
  rw [valV_any, h]
  exact if_neg (by decide)

theorem RelO.isSome_eq {o : Option V} {u : Option Value} (r : RelO o u) : o.isSome = u.isSome := by
  cases o with
  | none => cases u with
    | none => rfl
    | some _ => exact (show False from r).elim
  | some _ => cases u with
    | none => exact (show False from r).elim
    | some _ => rfl
/-- raw tables of the same keys -/
theorem KV.val {kvs : List (κ × V)} {vs : List (κ × Value)} (r : KV kvs vs) (k : κ) : RelO (valV kvs k) (valueAt vs k) := by
  unfold KV at r
  induction r with
  | nil => exact True.intro
  | @cons p q ps qs h t ih =>
    obtain ⟨h1, h2⟩ := h
    by_cases e : p.1 = k
    · have e' : q.1 = k := h1.symm.trans e
      have b : valueAt (q :: qs) k = some q.2 := by simp [valueAt, List.find?_cons, e']
      rw [valV_pos e, b]; exact h2
    · have e' : ¬ q.1 = k := fun z => e (h1.trans z)
      have b : valueAt (q :: qs) k = valueAt qs k := by simp [valueAt, List.find?_cons, e']
      rw [valV_neg e, b]; exact ih
theorem KV.any {kvs : List (κ × V)} {vs : List (κ × Value)} (r : KV kvs vs) (k : κ) : (kvs.any fun kv => decide (kv.1 = k)) = vs.any fun kv => decide (kv.1 = k) := by
  unfold KV at r
  induction r with
  | nil => rfl
  | cons h t ih => rw [List.any_cons, List.any_cons, ih, h.1]
theorem KV.repl {kvs : List (κ × V)} {vs : List (κ × Value)} (r : KV kvs vs) (k : κ) {y : V} {u : Value} (ry : RelV y u) :
    KV (kvs.map fun kv => if kv.1 = k then (kv.1, y) else kv) (vs.map fun kv => if kv.1 = k then (kv.1, u) else kv) := by
  unfold KV at r ⊢
  induction r with
  | nil => exact .nil
  | @cons p q ps qs h t ih =>
    rw [List.map_cons, List.map_cons]
    refine .cons ?_ ih
    obtain ⟨h1, h2⟩ := h
    by_cases e : p.1 = k
    · rw [if_pos e, if_pos (h1.symm.trans e)]; exact ⟨h1, ry⟩
    · rw [if_neg e, if_neg (fun z => e (h1.trans z))]; exact ⟨h1, h2⟩
theorem KV.put {kvs : List (κ × V)} {vs : List (κ × Value)} (r : KV kvs vs) (k : κ) {y : V} {u : Value} (ry : RelV y u) : KV (putK kvs k y) (stored vs k u) := by
  unfold putK stored
  rw [r.any k]
  by_cases e : (vs.any fun kv => decide (kv.1 = k)) = true
  · rw [if_pos e, if_pos e]; exact r.repl k ry
  · rw [if_neg e, if_neg e]; exact Paired.snoc r ⟨rfl, ry⟩
theorem KV.drop {kvs : List (κ × V)} {vs : List (κ × Value)} (r : KV kvs vs) (k : κ) : KV (dropK kvs k) (without vs k) := by
  unfold KV at r ⊢
  unfold dropK without
  induction r with
  | nil => exact .nil
  | @cons p q ps qs h t ih =>
    obtain ⟨h1, h2⟩ := h
    rw [List.filter_cons, List.filter_cons]
    by_cases e : p.1 = k
    · have a : ¬ decide (p.1 ≠ k) = true := by simp [e]
      have b : ¬ decide (q.1 ≠ k) = true := by simp [h1.symm.trans e]
      rw [if_neg a, if_neg b]; exact ih
    · have e' : ¬ q.1 = k := fun z => e (h1.trans z)
      have a : decide (p.1 ≠ k) = true := by simp [e]
      have b : decide (q.1 ≠ k) = true := by simp [e']
      rw [if_pos a, if_pos b]; exact .cons ⟨h1, h2⟩ ih
theorem KV.length {kvs : List (κ × V)} {vs : List (κ × Value)} (r : KV kvs vs) : kvs.length = vs.length := Paired.length r
theorem dropK_le (kvs : List (κ × V)) (k : κ) : (dropK kvs k).length ≤ kvs.length := List.length_filter_le _ _
end


/-! ### a tracked dict, its keys ints and texts or tuples of these -/
theorem kV_is {P : Program} {w : World} {k : Key} {u : Value} (r : RelV (kV k) u) : (mixKind P w).is k u = true := by
  cases k with
  | inl i => obtain ⟨t, e⟩ := (show ∃ t, u = Value.int i t from r); subst e; exact mixKind_int P w i t
  | inr x => obtain ⟨t, e⟩ := (show ∃ t, u = Value.str x t from r); subst e; exact mixKind_str P w x t
theorem items_are {P : Program} {w : World} : ∀ {ks : List Key} {us : List Value}, Vals (ks.map kV) us → ItemsAre (mixKind P w) ks us
  | [], _, r => by rw [List.map_nil] at r; cases r; exact .nil
  | k :: ks, _, r => by
    rw [List.map_cons] at r
    cases r with
    | cons h t => exact .cons (kV_is h) (items_are t)

/-- raw entries of a dict with tuple keys -/
abbrev KT (H : Hp) : List (List Key × V) → List (List Key × Addr × Value) → Prop := Paired fun p q => p.1 = q.1 ∧ H q.2.1 = some (.tup (p.1.map kV)) ∧ RelV p.2 q.2.2
theorem KT.val {H : Hp} {kvs : List (List Key × V)} {xs : List (List Key × Addr × Value)} (r : KT H kvs xs) (k : List Key) : RelO (valV kvs k) ((atKey xs k).map (·.2)) := by
  induction r with
  | nil => exact True.intro
  | @cons p q ps qs h t ih =>
    obtain ⟨h1, _, h2⟩ := h
    by_cases e : p.1 = k
    · have e' : q.1 = k := h1.symm.trans e
      have b : atKey (q :: qs) k = some q.2 := by simp [atKey, List.find?_cons, e']
      rw [valV_pos e, b]; exact h2
    · have e' : ¬ q.1 = k := fun z => e (h1.trans z)
      have b : atKey (q :: qs) k = atKey qs k := by simp [atKey, List.find?_cons, e']
      rw [valV_neg e, b]; exact ih
theorem KT.repl {H : Hp} {kvs : List (List Key × V)} {xs : List (List Key × Addr × Value)} (r : KT H kvs xs) (k : List Key) {y : V} {u : Value} (ry : RelV y u) :
    KT H (kvs.map fun kv => if kv.1 = k then (kv.1, y) else kv) (xs.map (putAt k u)) := by
  induction r with
  | nil => exact .nil
  | @cons p q ps qs h t ih =>
    rw [List.map_cons, List.map_cons]
    refine .cons ?_ ih
    obtain ⟨h1, h2, h3⟩ := h
    unfold putAt
    by_cases e : p.1 = k
    · rw [if_pos e, if_pos (h1.symm.trans e)]; exact ⟨h1, h2, ry⟩
    · rw [if_neg e, if_neg (fun z => e (h1.trans z))]; exact ⟨h1, h2, h3⟩
theorem KT.put {H : Hp} {kvs : List (List Key × V)} {xs : List (List Key × Addr × Value)} (r : KT H kvs xs) (k : List Key) {b : Addr} {y : V} {u : Value} (hb : H b = some (.tup (k.map kV))) (ry : RelV y u) :
    KT H (putK kvs k y) (storedH xs k b u) := by
  have e : (kvs.any fun kv => decide (kv.1 = k)) = (atKey xs k).isSome := by
    rw [valV_any, (r.val k).isSome_eq, Option.isSome_map]
  unfold putK storedH
  rw [e]
  by_cases q : (atKey xs k).isSome = true
  · rw [if_pos q, if_pos q]; exact r.repl k ry
  · rw [if_neg q, if_neg q]; exact Paired.snoc r ⟨rfl, hb, ry⟩
theorem KT.keeps {H H' : Hp} {kvs : List (List Key × V)} {xs : List (List Key × Addr × Value)} (r : KT H kvs xs) (ht : ∀ b ys, H b = some (.tup ys) → H' b = some (.tup ys)) : KT H' kvs xs :=
  Paired.mapP r fun _ _ z => ⟨z.1, ht _ _ z.2.1, z.2.2⟩

section
variable {P : Program} {w : World} {H : Hp} {h : Heap} {a : Addr}
theorem rd_of {u : HO} (ok : HOk P w H h) (e : Rd H a u) : ObjOk P w H h a u := e.ok ok
theorem dk_rd {kvs : List (Key × V)} (ok : HOk P w H h) (e : Rd H a (.dK kvs)) : kvs.length ≤ sizeLine ∧ (a == sysModules) = false ∧ ∃ vs, KV kvs vs ∧ h.DictOf (mixKind P w) a vs :=
  show ObjOk P w H h a (.dK kvs) from rd_of ok e
theorem dk_of {kvs : List (Key × V)} (ok : HOk P w H h) (e : H a = some (.dK kvs)) : kvs.length ≤ sizeLine ∧ (a == sysModules) = false ∧ ∃ vs, KV kvs vs ∧ h.DictOf (mixKind P w) a vs := dk_rd ok (.inl e)
/-- a tracked tuple of ints and texts is a key -/
theorem key_of {ks : List Key} (ok : HOk P w H h) (e : H a = some (.tup (ks.map kV))) : (tupleKind (mixKind P w)).is h ks a := by
  obtain ⟨_, its, r, o, h1, h2, n, h3⟩ := (show ObjOk P w H h a (.tup (ks.map kV)) from ok a _ e)
  exact ⟨o, its.toArray, n, h1, h2, h3, by simpa using items_are r⟩
theorem dt_rd {kvs : List (List Key × V)} (ok : HOk P w H h) (e : Rd H a (.dT kvs)) : kvs.length ≤ sizeLine ∧ (a == sysModules) = false ∧
    ∃ xs, KT H kvs xs ∧ h.DictOfH (tupleKind (mixKind P w)) a xs := by
  obtain ⟨z, y, xs, r, o, es, ep, h1, h2, h3, h4, h5⟩ := (show ObjOk P w H h a (.dT kvs) from rd_of ok e)
  refine ⟨z, y, xs, r, o, es, ep, h1, h2, h3, h4, fun x hx => ?_, h5⟩
  have all : ∀ {l : List (List Key × V)} {m : List (List Key × Addr × Value)}, KT H l m → ∀ x ∈ m, (tupleKind (mixKind P w)).is h x.1 x.2.1 := by
    intro l m q
    induction q with
    | nil => intro x hx; exact nomatch hx
    | @cons p q ps qs hq t ih =>
      intro x hx
      rcases List.mem_cons.mp hx with e | hx
      · subst e
        exact key_of ok (by rw [← hq.1]; exact hq.2.1)
      · exact ih x hx
  exact all r x hx
theorem dt_of {kvs : List (List Key × V)} (ok : HOk P w H h) (e : H a = some (.dT kvs)) : kvs.length ≤ sizeLine ∧ (a == sysModules) = false ∧
    ∃ xs, KT H kvs xs ∧ h.DictOfH (tupleKind (mixKind P w)) a xs := dt_rd ok (.inl e)
end

/-- what the dict at a holds at the key y -/
def DGet (H : Hp) (a : Addr) (y : V) (r : Option V) : Prop :=
  (∃ kvs k, Rd H a (.dK kvs) ∧ y = kV k ∧ r = valV kvs k) ∨ ∃ kvs k b, Rd H a (.dT kvs) ∧ y = .ref b ∧ H b = some (.tup (k.map kV)) ∧ r = valV kvs k
/-- the heap behind a[y] = v -/
def DPut (H : Hp) (a : Addr) (y v : V) (H' : Hp) : Prop :=
  (∃ kvs k, H a = some (.dK kvs) ∧ y = kV k ∧ kvs.length < sizeLine ∧ H' = upd H a (.dK (putK kvs k v))) ∨
  ∃ kvs k b, H a = some (.dT kvs) ∧ y = .ref b ∧ H b = some (.tup (k.map kV)) ∧ kvs.length < sizeLine ∧ H' = upd H a (.dT (putK kvs k v))
theorem DGet.k {H : Hp} {a : Addr} {kvs : List (Key × V)} {k : Key} (e : H a = some (.dK kvs)) : DGet H a (kV k) (valV kvs k) := .inl ⟨kvs, k, .inl e, rfl, rfl⟩
theorem DGet.t {H : Hp} {a b : Addr} {kvs : List (List Key × V)} {k : List Key} (e : H a = some (.dT kvs)) (eb : H b = some (.tup (k.map kV))) : DGet H a (.ref b) (valV kvs k) := .inr ⟨kvs, k, b, .inl e, rfl, eb, rfl⟩
theorem DPut.k {H : Hp} {a : Addr} {kvs : List (Key × V)} {k : Key} {v : V} (e : H a = some (.dK kvs)) (hl : kvs.length < sizeLine) : DPut H a (kV k) v (upd H a (.dK (putK kvs k v))) := .inl ⟨kvs, k, e, rfl, hl, rfl⟩
theorem DPut.t {H : Hp} {a b : Addr} {kvs : List (List Key × V)} {k : List Key} {v : V} (e : H a = some (.dT kvs)) (eb : H b = some (.tup (k.map kV))) (hl : kvs.length < sizeLine) :
    DPut H a (.ref b) v (upd H a (.dT (putK kvs k v))) := .inr ⟨kvs, k, b, e, rfl, eb, hl, rfl⟩


section
variable {X : Cx} {pins : List (Addr × Obj)} {σ : St} {H : Hp} {s : Shared} {a : Addr} {y v : V} {u r : Value} {o : Option V} {A : Around} {E : Value → Shared → Prop}

theorem Inv.big (I : Inv X pins σ H s) : sysModules < s.heap.objs.size := by
  have h : mainGlobals < s.heap.objs.size := (I.mod.glob.keeps I.bk).lt
  exact Nat.lt_trans (by decide) h

/-- d[y], there -/
theorem d_getItem {Q : Value → Shared → Prop} (hu : A.units + 1 < cLine) (I : Inv X pins σ H s) (g : DGet H a y (some v)) (ry : RelV y u) (h : ∀ w' s', Inv X pins σ H s' → RelV v w' → Q w' s') :
    wpAny (model X.prog X.w) A (getItem (.ref a) u) Q E s := by
  rcases g with ⟨kvs, k, e, ey, l⟩ | ⟨kvs, k, b, e, ey, eb, l⟩
  · subst ey
    obtain ⟨z, hd, vs, rel, dd⟩ := dk_rd I.hok e
    obtain ⟨w', hw, rw'⟩ := RelO.some_of (v := v) (o := valueAt vs k) (by rw [l]; exact rel.val k)
    exact wpAny_getItem_of (kV_is ry) dd.mapOf hw (h w' _ (I.tok _) rw')
  · subst ey
    cases (show u = Value.ref b from ry)
    obtain ⟨z, hd, xs, rel, dd⟩ := dt_rd I.hok e
    obtain ⟨w', hw, rw'⟩ := RelO.some_of (v := v) (o := (atKey xs k).map (·.2)) (by rw [l]; exact rel.val k)
    obtain ⟨p, hp, hp2⟩ := Option.map_eq_some_iff.mp hw
    refine wpAny_getItem_heap (tupleKind_room_in1 hu) (key_of I.hok eb) dd hp ?_
    rw [hp2]
    exact h w' _ (I.tok _) rw'
/-- y in d -/
theorem d_in {Q : Value → Shared → Prop} (hu : A.units + 1 < cLine) (I : Inv X pins σ H s) (g : DGet H a y o) (ry : RelV y u) (h : ∀ s', Inv X pins σ H s' → Q (.bool o.isSome) s') :
    wpAny (model X.prog X.w) A (compareOp .In u (.ref a)) Q E s := by
  rcases g with ⟨kvs, k, e, ey, l⟩ | ⟨kvs, k, b, e, ey, eb, l⟩
  · subst ey
    obtain ⟨z, hd, vs, rel, dd⟩ := dk_rd I.hok e
    refine wpAny_in_of (kV_is ry) hd dd.mapOf ?_
    rw [← (rel.val k).isSome_eq, ← l]
    exact h _ (I.tok _)
  · subst ey
    cases (show u = Value.ref b from ry)
    obtain ⟨z, hd, xs, rel, dd⟩ := dt_rd I.hok e
    refine wpAny_in_heap (tupleKind_room_in1 hu) (key_of I.hok eb) hd dd ?_
    have q := (rel.val k).isSome_eq
    rw [Option.isSome_map] at q
    rw [← q, ← l]
    exact h _ (I.tok _)
theorem d_notIn {Q : Value → Shared → Prop} (hu : A.units + 1 < cLine) (I : Inv X pins σ H s) (g : DGet H a y o) (ry : RelV y u) (h : ∀ s', Inv X pins σ H s' → Q (.bool (!o.isSome)) s') :
    wpAny (model X.prog X.w) A (compareOp .NotIn u (.ref a)) Q E s := by
  rcases g with ⟨kvs, k, e, ey, l⟩ | ⟨kvs, k, b, e, ey, eb, l⟩
  · subst ey
    obtain ⟨z, hd, vs, rel, dd⟩ := dk_rd I.hok e
    refine wpAny_notIn_of (kV_is ry) hd dd.mapOf ?_
    rw [← (rel.val k).isSome_eq, ← l]
    exact h _ (I.tok _)
  · subst ey
    cases (show u = Value.ref b from ry)
    obtain ⟨z, hd, xs, rel, dd⟩ := dt_rd I.hok e
    refine wpAny_notIn_heap (tupleKind_room_in1 hu) (key_of I.hok eb) hd dd ?_
    have q := (rel.val k).isSome_eq
    rw [Option.isSome_map] at q
    rw [← q, ← l]
    exact h _ (I.tok _)
/-- a dict's object is replaced -/
theorem d_write {h' : Heap} {t' : Nat} {ob : HO} (I : Inv X pins σ H s) (mu : Mut (H a)) (hs : Heap.SameBut a s.heap h') (he : ∃ q, h'.get? a = some q) (new : ObjOk X.prog X.w (upd H a ob) h' a ob) :
    Inv X pins σ (upd H a ob) { s with heap := h', toks := t' } :=
  I.write (x := a) (e := a) mu (.inl rfl) (fun b q hb z => (hs.2 b hb).trans z) he new
theorem dk_new {P : Program} {w : World} {H' : Hp} {h' : Heap} {kvs : List (Key × V)} {vs : List (Key × Value)} (z : kvs.length ≤ sizeLine) (hd : (a == sysModules) = false) (rel : KV kvs vs) (dd : h'.DictOf (mixKind P w) a vs) :
    ObjOk P w H' h' a (.dK kvs) := ⟨z, hd, vs, rel, dd⟩
/-- d[y] = v -/
theorem d_setItem {H' : Hp} {Q : Unit → Shared → Prop} (hu : A.units + 1 < cLine) (I : Inv X pins σ H s) (g : DPut H a y v H') (ry : RelV y u) (rv : RelV v r) (h : ∀ s', Inv X pins σ H' s' → Q () s') :
    wpAny (model X.prog X.w) A (setItem (.ref a) u r) Q E s := by
  rcases g with ⟨kvs, k, e, ey, l, eH⟩ | ⟨kvs, k, b, e, ey, eb, l, eH⟩
  · subst ey eH
    obtain ⟨z, hd, vs, rel, dd⟩ := dk_of I.hok e
    have hz : vs.length ≤ sizeLine := by rw [← rel.length]; exact z
    have hl : (putK kvs k v).length ≤ sizeLine := by have := length_putK kvs k v; omega
    refine wpAny_setItem_pairs (hsz := hz) (kV_is ry) dd fun h' dd' hs => h _ ?_
    have he : ∃ q, h'.get? a = some q := let ⟨q, _, _, hq, _⟩ := dd'; ⟨q, hq⟩
    exact d_write I (by rw [e]; exact True.intro) hs he (dk_new hl hd (rel.put k rv) dd')
  · subst ey eH
    cases (show u = Value.ref b from ry)
    obtain ⟨z, hd, xs, rel, dd⟩ := dt_of I.hok e
    have hz : xs.length ≤ sizeLine := by rw [← Paired.length rel]; exact z
    have hl : (putK kvs k v).length ≤ sizeLine := by have := length_putK kvs k v; omega
    refine wpAny_setItem_heap (hsz := hz) (tupleKind_room_in1 hu) (key_of I.hok eb) dd fun h' dd' hs => h _ ?_
    obtain ⟨q, es, ep, hq, h2, h3, h4, _, h5⟩ := dd'
    refine d_write I (by rw [e]; exact True.intro) hs ⟨q, hq⟩ ⟨hl, hd, _, (rel.put k eb rv).keeps fun c ys ec => ?_, q, es, ep, hq, h2, h3, h4, h5⟩
    rw [upd_ne (ne_of ec e (fun z => nomatch z))]
    exact ec
end

section
variable {X : Cx} {pins : List (Addr × Obj)} {σ : St} {H : Hp} {s : Shared} {a : Addr} {kvs : List (Key × V)} {k : Key} {u : Value} {A : Around} {E : Value → Shared → Prop}
/-- d.pop(k[, x]), there -/
theorem d_pop {v : V} {more : List Value} {Q : Value → Shared → Prop} (I : Inv X pins σ H s) (e : H a = some (.dK kvs)) (ry : RelV (kV k) u) (l : valV kvs k = some v) (hm : more = [] ∨ ∃ x, more = [x])
    (h : ∀ w' s', Inv X pins σ (upd H a (.dK (dropK kvs k))) s' → RelV v w' → Q w' s') : wpAny (model X.prog X.w) A (call (.builtin "dict.pop") (.ref a :: u :: more)) Q E s := by
  obtain ⟨z, hd, vs, rel, dd⟩ := dk_of I.hok e
  obtain ⟨w', hw, rw'⟩ := RelO.some_of (v := v) (o := valueAt vs k) (by rw [← l]; exact rel.val k)
  have hp : (keyPart u).isSome = true := by
    cases k with
    | inl i => obtain ⟨t, q⟩ := (show ∃ t, u = Value.int i t from ry); subst q; rfl
    | inr x => obtain ⟨t, q⟩ := (show ∃ t, u = Value.str x t from ry); subst q; rfl
  have ha : argsOk "dict.pop" ⟨.ref a :: u :: more, []⟩ := by
    rcases hm with q | ⟨x, q⟩
    · subst q; exact PySem.F.args_dict_pop_2 _ _
    · subst q; exact PySem.F.args_dict_pop_3 _ _ _
  refine call_meetsIn PySem.F.slot_dict_pop dd.typeIs PySem.F.entry_dict_pop ha (meets_dict_pop_there (mixKind X.prog X.w) a (kV_is ry) more hm hp)
    ⟨vs, w', dd, by rw [← rel.length]; exact z, hw, fun h' dd' hs => h w' _ ?_ rw'⟩
  have he : ∃ q, h'.get? a = some q := let ⟨q, _, _, hq, _⟩ := dd'; ⟨q, hq⟩
  exact d_write I (by rw [e]; exact True.intro) hs he (dk_new (Nat.le_trans (dropK_le kvs k) z) hd (rel.drop k) dd')
/-- len(d) -/
theorem d_len {Q : Value → Shared → Prop} (I : Inv X pins σ H s) (e : Rd H a (.dK kvs)) (h : ∀ t s', Inv X pins σ H s' → Q (.int kvs.length t) s') : wpAny (model X.prog X.w) A (call (.builtin "len") [.ref a]) Q E s := by
  obtain ⟨z, hd, vs, rel, dd⟩ := dk_rd I.hok e
  refine call_len_dict hd dd (by rw [← rel.length]; rw [sizeLine_eq] at z; omega) ?_
  rw [← rel.length]
  exact h _ _ (I.tok _)
end


/-! ### readings and rules -/
/-- the element of a subscription, not a slice -/
def NoSl (i : Expr) : Prop := ∀ ov iv, subscripted i false ov iv = operate [ov, iv] (getItem ov iv)
theorem subD_of {prog : Program} {w : World} {A : Around} {E : Value → Shared → Prop} {s : Shared} {env : Env} {value slice : Expr} {pos : Pos} {T id : String} {Q : Value → Shared → Prop}
    (hl : typeLookup (.type T) "__getitem__" = pure (some (.builtin id))) (hs : NoSl slice)
    (h : wpAny (model prog w) A (eval value env) (fun o s₁ => wpAny (model prog w) A (eval slice env) (fun i s₂ => s₂.TypeIs o T ∧ wpAny (model prog w) A (getItem o i) Q E s₂) E s₁) E s) :
    wpAny (model prog w) A (eval (.Subscript value slice pos) env) Q E s := by
  refine Subscript_ (wpAny_mono h (fun o s₁ h₁ => wpAny_mono h₁ (fun i s₂ h₂ => ?_) fun _ _ x => x) fun _ _ x => x)
  obtain ⟨hT, h₂⟩ := h₂
  unfold subscriptTail
  refine wpAny_bind ?_
  rw [getitemInPython_of_ne hT.not_modules]
  refine wpAny_bind (wpAny_specialOf hT hl ?_)
  have fin : wpAny (model prog w) A (subscripted slice false o i) (fun r s₃ => wpAny (model prog w) A (letTemporaryGo value o r >>= fun _ => pure r) Q E s₃) E s₂ := by
    rw [hs o i]
    exact wpAny_operating (wpAny_mono h₂ (fun r s₃ h₃ => wpAny_bind (wpAny_letTemporaryGo (wpAny_pure h₃))) fun _ _ x => x)
  first
    | exact wpAny_pure (wpAny_bind fin)
    | exact wpAny_bind (wpAny_pure (wpAny_bind fin))
    | exact wpAny_bind fin

theorem dict_typeIs {X : Cx} {pins : List (Addr × Obj)} {σ : St} {H : Hp} {s : Shared} {a : Addr} {y : V} {o : Option V} (I : Inv X pins σ H s) (g : DGet H a y o) : s.TypeIs (.ref a) "dict" := by
  rcases g with ⟨kvs, k, e, _, _⟩ | ⟨kvs, k, b, e, _, _, _⟩
  · obtain ⟨_, _, vs, _, dd⟩ := dk_rd I.hok e
    exact dd.typeIs
  · obtain ⟨_, _, xs, _, dd⟩ := dt_rd I.hok e
    exact dd.typeIs
/-- d[y] -/
def tDGet (td ty : TE) : TE := fun σ H Q => td σ H fun x H1 => ty σ H1 fun y H2 => ∃ a v, x = .ref a ∧ DGet H2 a y (some v) ∧ Q v H2
/-- y in d, y not in d -/
def tDIn (ty td : TE) : TE := fun σ H Q => ty σ H fun y H1 => td σ H1 fun x H2 => ∃ a o, x = .ref a ∧ DGet H2 a y o ∧ Q (.bl o.isSome) H2
def tDNotIn (ty td : TE) : TE := fun σ H Q => ty σ H fun y H1 => td σ H1 fun x H2 => ∃ a o, x = .ref a ∧ DGet H2 a y o ∧ Q (.bl (!o.isSome)) H2
/-- d[y] = v -/
def sDPut (td ty tv : TE) : TS := fun D σ H => tv σ H fun v H1 => td σ H1 fun x H2 => ty σ H2 fun y H3 => ∃ a H4, x = .ref a ∧ DPut H3 a y v H4 ∧ D.nx σ H4
section
variable {X : Cx} {o i e value : Expr} {pos pos' tpos : Pos} {td ty tv : TE}
theorem pe_dget (hu : X.A.units + 1 < cLine) (ho : PE X o td) (hi : PE X i ty) (hs : NoSl i) : PE X (.Subscript o i pos) (tDGet td ty) := by
  intro pins s σ H Q I h
  refine subD_of PySem.F.slot_dict_getitem.lookup hs (thn (ho pins s σ H _ I h) fun u s1 ⟨x, H1, I1, rx, q1⟩ => thn (hi pins s1 σ H1 _ I1 q1) fun iv s2 ⟨y, H2, I2, ry, a, v, ex, g, q2⟩ => ?_)
  subst ex
  obtain rfl : u = Value.ref a := rx
  exact ⟨dict_typeIs I2 g, d_getItem hu I2 g ry fun w' s3 I3 rw' => ⟨v, H2, I3, rw', q2⟩⟩
theorem pc_din (hu : X.A.units + 1 < cLine) (hi : PE X i ty) (ho : PE X o td) : PC X .In i o (tDIn ty td) := by
  intro pins s σ H Q I h
  refine thn (hi pins s σ H _ I h) fun iv s1 ⟨y, H1, I1, ry, q1⟩ => thn (ho pins s1 σ H1 _ I1 q1) fun u s2 ⟨x, H2, I2, rx, a, ov, ex, g, q2⟩ => ?_
  subst ex
  obtain rfl : u = Value.ref a := rx
  exact d_in hu I2 g ry fun s3 I3 => ⟨.bl ov.isSome, H2, I3, rfl, q2⟩
theorem pc_dnotin (hu : X.A.units + 1 < cLine) (hi : PE X i ty) (ho : PE X o td) : PC X .NotIn i o (tDNotIn ty td) := by
  intro pins s σ H Q I h
  refine thn (hi pins s σ H _ I h) fun iv s1 ⟨y, H1, I1, ry, q1⟩ => thn (ho pins s1 σ H1 _ I1 q1) fun u s2 ⟨x, H2, I2, rx, a, ov, ex, g, q2⟩ => ?_
  subst ex
  obtain rfl : u = Value.ref a := rx
  exact d_notIn hu I2 g ry fun s3 I3 => ⟨.bl (!ov.isSome), H2, I3, rfl, q2⟩
theorem ps_dput (hu : X.A.units + 1 < cLine) (ho : PE X o td) (hi : PE X i ty) (hv : PE X value tv) (hs : swapsWith value (some (.Subscript o i pos')) pos.line X.env = pure false) :
    PS X (.Assign [.Subscript o i pos'] value pos) (sDPut td ty tv) := by
  intro pins s σ H D I h
  refine wpAny_Assign_Subscript (thn (hv pins s σ H _ I h) fun r s1 ⟨v, H1, I1, rv, q1⟩ => thn (ho pins s1 σ H1 _ I1 q1) fun u s2 ⟨x, H2, I2, rx, q2⟩ => thn (hi pins s2 σ H2 _ I2 q2) fun iv s3 ⟨y, H3, I3, ry, a, H4, ex, g, q3⟩ => ?_) hs
  subst ex
  obtain rfl : u = Value.ref a := rx
  exact d_setItem hu I3 g ry rv fun s4 I4 => ⟨σ, H4, I4, q3⟩
end


/-! ### displays -/
theorem dk_empty {P : Program} {w : World} {H : Hp} (h : Heap) (hb : sysModules < h.objs.size) : ObjOk P w H (h.push { cls := .type "dict", data := .dict #[] }) h.objs.size (.dK []) :=
  ⟨Nat.zero_le _, beq_eq_false_iff_ne.mpr (Ne.symm (Nat.ne_of_lt hb)), [], .nil, Heap.DictOf.new h⟩
theorem dt_empty {P : Program} {w : World} {H : Hp} (h : Heap) (hb : sysModules < h.objs.size) : ObjOk P w H (h.push { cls := .type "dict", data := .dict #[] }) h.objs.size (.dT []) :=
  ⟨Nat.zero_le _, beq_eq_false_iff_ne.mpr (Ne.symm (Nat.ne_of_lt hb)), [], .nil, _, #[], 0, Heap.get?_push_size _ rfl, ⟨rfl, rfl, rfl⟩, rfl, rfl, List.nodup_nil⟩
/-- {}, to be a dict of the kind that is wanted -/
def tDNewK : TE := fun _ H Q => ∀ p, H p = none → Q (.ref p) (upd H p (.dK []))
def tDNewT : TE := fun _ H Q => ∀ p, H p = none → Q (.ref p) (upd H p (.dT []))
section
variable {X : Cx} {pos : Pos}
theorem pe_dnewK : PE X (.Dict [] [] pos) tDNewK := fun pins s σ H Q I h =>
  wpAny_Dict_empty ⟨.ref s.heap.objs.size, _, I.laid (a := s.heap.objs.size) (o := .dK []) (t' := s.toks) (fun _ _ q => Heap.get?_push_of_some _ q) (Nat.le_refl _) (dk_empty s.heap I.big), rfl, h _ (I.hok.fresh (Nat.le_refl _))⟩
theorem pe_dnewT : PE X (.Dict [] [] pos) tDNewT := fun pins s σ H Q I h =>
  wpAny_Dict_empty ⟨.ref s.heap.objs.size, _, I.laid (a := s.heap.objs.size) (o := .dT []) (t' := s.toks) (fun _ _ q => Heap.get?_push_of_some _ q) (Nat.le_refl _) (dt_empty s.heap I.big), rfl, h _ (I.hok.fresh (Nat.le_refl _))⟩
end

/-! ### methods -/
/-- a method call o.m(e) of a built-in, with one argument: what must be seen of the text -/
structure M1 (X : Cx) (o : Expr) (m : Str) (apos : Pos) (e : Expr) (cpos : Pos) : Prop where
  base : attributeBase o m X.env (eval o X.env) = eval o X.env
  few : ((backTo cpos (starEach [e] X.env)).all (fun x => !x.1) && (backToKw cpos (keywordEach [] X.env)).all (fun x => x.1.isSome)
    && decide (([e] : List Expr).length + ([] : List Keyword).length + (if ([] : List Keyword).isEmpty then 0 else 1) < 30)) = true
  line : (apos.endLine == cpos.line) = true
  trees : backTo cpos (starEach [e] X.env) = [(false, eval e X.env)]
/-- a is a dict, whatever its keys -/
def IsD (H : Hp) (a : Addr) : Prop := (∃ kvs, Rd H a (.dK kvs)) ∨ ∃ kvs, Rd H a (.dT kvs)
theorem isD_at {X : Cx} {pins : List (Addr × Obj)} {σ : St} {H : Hp} {s : Shared} {a : Addr} (I : Inv X pins σ H s) (d : IsD H a) :
    s.TypeIs (.ref a) "dict" ∧ (∀ b, Value.ref a = .ref b → ∃ ob, s.heap.get? b = some ob ∧ ob.dict = none) ∧ (a == sysModules) = false := by
  rcases d with ⟨kvs, e⟩ | ⟨kvs, e⟩
  · obtain ⟨_, hd, vs, _, dd⟩ := dk_rd I.hok e
    refine ⟨dd.typeIs, fun b q => ?_, hd⟩
    cases q
    obtain ⟨ob, _, _, h1, h2, _⟩ := dd
    exact ⟨ob, h1, h2.2.1⟩
  · obtain ⟨_, hd, xs, _, dd⟩ := dt_rd I.hok e
    refine ⟨dd.typeIs, fun b q => ?_, hd⟩
    cases q
    obtain ⟨ob, _, _, h1, h2, _⟩ := dd
    exact ⟨ob, h1, h2.2.1⟩

section
variable {X : Cx} {pins : List (Addr × Obj)} {σ : St} {H : Hp} {s : Shared} {a : Addr} {y d : V} {u r : Value} {o : Option V} {A : Around} {E : Value → Shared → Prop}
end

/-- d.pop(k): there; d.pop(k, x): there or not -/
def tDPop1 (td ty : TE) : TE := fun σ H Q => td σ H fun x H1 => ∃ a, x = .ref a ∧ IsD H1 a ∧ ty σ H1 fun y H2 => ∃ kvs k v, H2 a = some (.dK kvs) ∧ y = kV k ∧ valV kvs k = some v ∧ Q v (upd H2 a (.dK (dropK kvs k)))
section
variable {X : Cx} {o e f : Expr} {apos cpos : Pos} {td ty tx : TE}
theorem pe_dpop1 (ho : PE X o td) (he : PE X e ty) (m : M1 X o "pop" apos e cpos) : PE X (.Call (.Attribute o "pop" apos) [e] [] cpos) (tDPop1 td ty) := by
  intro pins s σ H Q I h
  refine wpAny_Call_method m.base m.few m.line PySem.F.plainAttrs_dict PySem.F.slot_dict_pop PySem.F.type_dict_pop (thn (ho pins s σ H _ I h) fun u s1 ⟨x, H1, I1, rx, a, ex, d, q1⟩ => ?_)
  subst ex
  obtain rfl : u = Value.ref a := rx
  obtain ⟨t1, t2, _⟩ := isD_at I1 d
  refine ⟨t1, t2, ?_⟩
  rw [m.trees]
  refine Calls.callWith_builtin rfl (Calls.evalArgs_plain (Calls.spliced_cons (thn (he pins s1 σ H1 _ I1 q1) fun iv s2 ⟨y, H2, I2, ry, kvs, k, v, ea, ey, l, q2⟩ => Calls.spliced_nil ?_)))
  subst ey
  exact d_pop I2 ea ry l (.inl rfl) fun w' s3 I3 rw' => ⟨v, _, I3, rw', q2⟩
end

/-! ### dict(d): a copy -/
section
variable {X : Cx} {pins : List (Addr × Obj)} {σ : St} {H : Hp} {s : Shared} {a : Addr} {kvs : List (Key × V)} {A : Around} {E : Value → Shared → Prop}
end


section
variable {X : Cx} {pins : List (Addr × Obj)} {σ : St} {H : Hp} {s : Shared} {a : Addr} {y : V} {u : Value} {A : Around} {E : Value → Shared → Prop}
end
end L2

namespace L2
open PySem PySem.Spec PyProof.Rows
/-! ### a dict's pairs: keys that differ -/
section
variable {κ : Type} [DecidableEq κ]
theorem valV_in {kvs : List (κ × V)} {k : κ} {v : V} (h : valV kvs k = some v) : k ∈ kvs.map (·.1) := by
  have q : (kvs.any fun kv => decide (kv.1 = k)) = true := by
    rw [valV_any, h]
    all_goals rfl
  obtain ⟨p, hp, e⟩ := List.any_eq_true.mp q
  exact List.mem_map.mpr ⟨p, hp, of_decide_eq_true e⟩
theorem nd_snoc : ∀ {l : List κ} {k : κ}, l.Nodup → ¬ k ∈ l → (l ++ [k]).Nodup
  | [], k, _, _ => by simp
  | a :: r, k, h, hk => by
    obtain ⟨h1, h2⟩ := List.nodup_cons.mp h
    show (a :: (r ++ [k])).Nodup
    refine List.nodup_cons.mpr ⟨fun m => ?_, nd_snoc h2 fun m => hk (List.mem_cons.mpr (Or.inr m))⟩
    rcases List.mem_append.mp m with q | q
    · exact h1 q
    · exact hk (List.mem_cons.mpr (Or.inl (List.mem_singleton.mp q).symm))
theorem dropK_pos {p : κ × V} {r : List (κ × V)} {k : κ} (e : p.1 = k) : dropK (p :: r) k = dropK r k := by
  unfold dropK
  rw [List.filter_cons, if_neg (by simp [e])]
theorem dropK_neg {p : κ × V} {r : List (κ × V)} {k : κ} (e : ¬ p.1 = k) : dropK (p :: r) k = p :: dropK r k := by
  unfold dropK
  rw [List.filter_cons, if_pos (by simp [e])]
end
end L2
set_option Elab.async false
set_option linter.all false
set_option maxRecDepth 100000
set_option maxHeartbeats 4000000
/-! A dict that a loop walks: it is frozen ahead of the first turn and thawed behind the last -/
namespace L2
open PySem PySem.Spec PyProof.Rows

theorem is_kV {P : Program} {w : World} {k : Key} {u : Value} (h : (mixKind P w).is k u = true) : RelV (kV k) u := by
  rw [mixKind_is] at h
  cases k with
  | inl i =>
    cases u <;> simp [keyIs, Value.isInt] at h
    all_goals first | (subst h; exact ⟨_, rfl⟩) | skip
  | inr x =>
    cases u <;> simp [keyIs, Value.isStrOf] at h
    all_goals first | (subst h; exact ⟨_, rfl⟩) | skip
theorem KV.get : ∀ {kvs : List (Key × V)} {vs : List (Key × Value)} {i : Nat} {k : Key} {v : V}, KV kvs vs → kvs[i]? = some (k, v) → ∃ u, vs[i]? = some (k, u) ∧ RelV v u
  | _, _, _, _, _, .nil, e => by simp at e
  | _, (b1, b2) :: _, 0, _, _, .cons r _, e => by
    simp at e; subst e
    exact ⟨b2, by rw [show b1 = _ from r.1.symm]; rfl, r.2⟩
  | _, _, i + 1, _, _, .cons _ t, e => by
    simp at e
    obtain ⟨u, q, r⟩ := KV.get t e
    exact ⟨u, by simpa using q, r⟩

section
variable {X : Cx} {pins : List (Addr × Obj)} {σ : St} {H : Hp} {s : Shared} {a : Addr} {kvs : List (Key × V)} {ob : Obj}
/-- nothing at a was known by its object when the def was entered -/
def NoFrz (X : Cx) (a : Addr) : Prop := ∀ o u, X.H₀ a ≠ some (.frz o u)
theorem Inv.freeze (I : Inv X pins σ H s) (e : H a = some (.dK kvs)) : ∃ o, s.heap.get? a = some o ∧ Inv X pins σ (upd H a (.frz o (.dK kvs))) s ∧ NoFrz X a := by
  have oa := I.hok a _ e
  obtain ⟨z, hd, vs, rel, o, es, ep, e1, c⟩ := id oa
  refine ⟨o, e1, ?_, fun o' u' q => ?_⟩
  · have := I.write (x := a) (e := a) (h' := s.heap) (t' := s.toks) (o := .frz o (.dK kvs)) (by rw [e]; trivial) (.inl rfl) (fun b q hb z => z) ⟨o, e1⟩ ⟨e1, z, hd, vs, rel, o, es, ep, e1, c⟩
    exact this
  · have := I.base.frzs a _ _ q
    rw [e] at this; cases this
theorem Inv.thaw (I : Inv X pins σ H s) (e : H a = some (.frz ob (.dK kvs))) (hn : NoFrz X a) : Inv X pins σ (upd H a (.dK kvs)) s := by
  have ne : ∀ {b : Addr}, H b = none → b ≠ a := fun q z => by subst z; rw [e] at q; cases q
  have net : ∀ {b : Addr} {xs : List V}, H b = some (.tup xs) → b ≠ a := fun q z => by subst z; rw [e] at q; cases q
  have neo : ∀ {b y : Addr}, H b = some (.own y) → b ≠ a := fun q z => by subst z; rw [e] at q; cases q
  have neb : ∀ {b : Addr} {ps : Array Value}, H b = some (.tbl ps) → b ≠ a := fun q z => by subst z; rw [e] at q; cases q
  exact {
    ok := I.ok
    os := I.os
    bare := I.bare
    base := {
      keep := I.base.keep
      slot := I.base.slot
      free := fun b o h1 h2 h3 => by
        have q := I.base.free b o h1 h2 h3
        rw [upd_ne (ne q)]; exact q
      there := I.base.there
      tups := fun b xs q => by
        have q' := I.base.tups b xs q
        rw [upd_ne (net q')]; exact q'
      frzs := fun b o u q => by
        have q' := I.base.frzs b o u q
        have hb : b ≠ a := fun z => by subst z; exact hn _ _ q
        rw [upd_ne hb]; exact q'
      tbls := fun b ps q => by
        obtain ⟨more, q'⟩ := I.base.tbls b ps q
        exact ⟨more, by rw [upd_ne (neb q')]; exact q'⟩ }
    loc := I.loc
    cell := I.cell
    free := by rw [upd_ne (ne I.free)]; exact I.free
    freeC := fun x c q => by rw [upd_ne (ne (I.freeC x c q))]; exact I.freeC x c q
    pin := fun p hp => by
      obtain ⟨q1, q2, q3⟩ := I.pin p hp
      exact ⟨q1, by rw [upd_ne (ne q2)]; exact q2, q3⟩
    hok := fun b u q => by
      by_cases hb : b = a
      · subst hb
        rw [upd_same] at q; cases q
        exact (I.hok b _ e).2
      · rw [upd_ne hb] at q
        exact (I.hok b u q).stay (fun _ _ _ q => q) (fun c q => by rw [upd_ne (neo q)]; exact q) fun c xs q => by rw [upd_ne (net q)]; exact q
    len := I.len }

/-- the dict of the object ob at a, walked by its keys (val false) or its values -/
def Itd (val : Bool) (a : Addr) (ob : Obj) (kvs : List (Key × V)) : It :=
  ⟨fun i H => H a = some (.frz ob (.dK kvs)) ∧ i < kvs.length, fun i H x H' => H' = H ∧ ∃ k v, kvs[i]? = some (k, v) ∧ x = if val then v else kV k, fun i H => H a = some (.frz ob (.dK kvs)) ∧ kvs.length ≤ i⟩
theorem Inv.dictAt (I : Inv X pins σ H s) (e : H a = some (.frz ob (.dK kvs))) {es : Array DictEntry} {ep : Nat} (he : ob.data = .dict es ep) : ∃ vs, KV kvs vs ∧ s.heap.DictAt (mixKind X.prog X.w) a vs ep := by
  obtain ⟨e1, z, hd, vs, rel, o, es', ep', e2, c1, c2, c3⟩ := I.hok a _ e
  rw [e1] at e2; cases e2
  rw [he] at c2; cases c2
  exact ⟨vs, rel, ob, es, e1, c1, he, c3⟩
theorem turn_keys {P : Program} {w : World} {K : PySem.W.Frag} {tg : Expr} (a it : Addr) (ob : Obj) (kvs : List (Key × V)) {es : Array DictEntry} {ep : Nat} (he : ob.data = .dict es ep) :
    Turn P w K tg (Itd false a ob kvs) [it] it (fun i h => h.IsKeyIter it a i kvs.length ep) where
  mem := by simp
  obj := fun i h st b hb => by
    have e : b = it := by simpa using hb
    subst e
    obtain ⟨o, e, c, d⟩ := st
    exact ⟨o, e, fun v z => by rw [d] at z; cases z⟩
  keep := fun i h h' st k => st.at fun o e => k it (by simp) o e
  item := by
    intro X hP hw hK hc i pins s σ H E I hf st hg
    subst hP hw hK
    obtain ⟨hq, hi⟩ := hg
    obtain ⟨vs, rel, D⟩ := I.dictAt hq he
    obtain ⟨⟨k, v⟩, hx⟩ : ∃ p, kvs[i]? = some p := ⟨kvs[i], by simp [hi]⟩
    obtain ⟨u, hu, ru⟩ := rel.get hx
    obtain ⟨f0, f1, f2, f3, f4, f5⟩ := hf it (by simp)
    rw [rel.length] at st
    refine wpAny_pyNext_dict_item st D hu fun key h' hk st' sb => ?_
    have I1 : Inv X pins σ H { s with heap := h' } := I.turned (t' := s.toks) (fun b o hb e => (sb.2 b hb).trans e) f0 f1 f3 f4 f5
    rw [← rel.length] at st'
    obtain ⟨o, e, c, d⟩ := id st'
    exact ⟨key, rfl, go_of (s := { s with heap := h' }) e c d (by decide) ⟨kV k, H, I1, is_kV hk, ⟨rfl, k, v, hx, rfl⟩, st', fun b hb => (hf b hb).1⟩⟩
  done := by
    intro X hP hw hK hc i pins s σ H E I hf st hg
    subst hP hw hK
    obtain ⟨hq, hi⟩ := hg
    obtain ⟨vs, rel, D⟩ := I.dictAt hq he
    obtain ⟨f0, f1, f2, f3, f4, f5⟩ := hf it (by simp)
    rw [rel.length] at st
    exact wpAny_pyNext_dict_end (I.ok.hd hc) st D (by have := rel.length; simp; omega) fun h' eb => ⟨rfl, I.turned (t' := s.toks) (fun b o hb e => eb b o hb e) f0 f1 f3 f4 f5⟩
  self := fun _ _ _ _ _ st h => wpAny_pyIter_keyiter st h
theorem turn_values {P : Program} {w : World} {K : PySem.W.Frag} {tg : Expr} (a it : Addr) (ob : Obj) (kvs : List (Key × V)) {es : Array DictEntry} {ep : Nat} (he : ob.data = .dict es ep) :
    Turn P w K tg (Itd true a ob kvs) [it] it (fun i h => h.IsValIter it a i kvs.length ep) where
  mem := by simp
  obj := fun i h st b hb => by
    have e : b = it := by simpa using hb
    subst e
    obtain ⟨o, e, c, d⟩ := st
    exact ⟨o, e, fun v z => by rw [d] at z; cases z⟩
  keep := fun i h h' st k => st.at fun o e => k it (by simp) o e
  item := by
    intro X hP hw hK hc i pins s σ H E I hf st hg
    subst hP hw hK
    obtain ⟨hq, hi⟩ := hg
    obtain ⟨vs, rel, D⟩ := I.dictAt hq he
    obtain ⟨⟨k, v⟩, hx⟩ : ∃ p, kvs[i]? = some p := ⟨kvs[i], by simp [hi]⟩
    obtain ⟨u, hu, ru⟩ := rel.get hx
    obtain ⟨f0, f1, f2, f3, f4, f5⟩ := hf it (by simp)
    rw [rel.length] at st
    refine wpAny_pyNext_values_item st D hu fun h' st' sb => ?_
    have I1 : Inv X pins σ H { s with heap := h' } := I.turned (t' := s.toks) (fun b o hb e => (sb.2 b hb).trans e) f0 f1 f3 f4 f5
    rw [← rel.length] at st'
    obtain ⟨o, e, c, d⟩ := id st'
    exact ⟨u, rfl, go_of (s := { s with heap := h' }) e c d (by decide) ⟨v, H, I1, ru, ⟨rfl, k, v, hx, rfl⟩, st', fun b hb => (hf b hb).1⟩⟩
  done := by
    intro X hP hw hK hc i pins s σ H E I hf st hg
    subst hP hw hK
    obtain ⟨hq, hi⟩ := hg
    obtain ⟨vs, rel, D⟩ := I.dictAt hq he
    obtain ⟨f0, f1, f2, f3, f4, f5⟩ := hf it (by simp)
    rw [rel.length] at st
    exact wpAny_pyNext_values_end (I.ok.hd hc) st D (by have := rel.length; simp; omega) fun h' eb => ⟨rfl, I.turned (t' := s.toks) (fun b o hb e => eb b o hb e) f0 f1 f3 f4 f5⟩
  self := fun _ _ _ _ _ st h => wpAny_pyIter_valiter st h
end
/-- NF a: whatever holds of a dict that was not known by its object ahead of the loop -/
def iDict (NF : Addr → Prop) (val : Bool) (td : TE) : TI := fun σ H R => td σ H fun x H1 => ∃ a kvs, x = .ref a ∧ H1 a = some (.dK kvs) ∧ ∀ ob, NF a → R (Itd val a ob kvs) (upd H1 a (.frz ob (.dK kvs)))
/-- for k in d; for v in d.values(): the dict stands still meanwhile (in the body it is frozen), behind the loop it is as it was -/
def tForD (val : Bool) (td : TE) (g : TG) (tb : TS) : TS := fun D σ H => ∀ NF : Addr → Prop, tFor (iDict NF val td) g tb { D with nx := fun σ H => ∃ a ob kvs, NF a ∧ H a = some (.frz ob (.dK kvs)) ∧ D.nx σ (upd H a (.dK kvs)) } σ H
theorem pi_keys {X : Cx} {tg l : Expr} {td : TE} (hl : PE X l td) : PI X tg l (iDict (NoFrz X) false td) := by
  intro pins s σ H R I h
  refine thn (hl pins s σ H _ I h) fun v s1 ⟨x, H1, I1, r1, q1⟩ => ?_
  obtain ⟨a, kvs, e, ha, q⟩ := q1
  subst e
  cases r1
  obtain ⟨ob, eo, I2, nf⟩ := I1.freeze ha
  obtain ⟨z, hd, vs, rel, o, es, ep, e2, c1, c2, c3⟩ := I1.hok a _ ha
  rw [eo] at e2; cases e2
  have len := rel.length
  refine wpAny_pyIter_dict (knd := mixKind X.prog X.w) (kvs := vs) hd ⟨ob, es, eo, c1, c2, c3⟩ ?_
  refine ⟨s1.heap.objs.size, [s1.heap.objs.size], _, _, _, rfl, I2.kept (t' := s1.toks) fun b o e => Heap.get?_push_of_some _ e, turn_keys a _ ob kvs c2, ⟨_, Heap.get?_push_size _ rfl, rfl, by rw [len]; rfl⟩, fun b hb => ?_, q ob nf⟩
  have e : b = s1.heap.objs.size := by simpa using hb
  subst e
  exact I2.fpOk (Nat.le_refl _) (I2.hok.fresh (Nat.le_refl _))
theorem pi_values {X : Cx} {tg l : Expr} {td : TE} {apos cpos : Pos} (hl : PE X l td) (hb : attributeBase l "values" X.env (eval l X.env) = eval l X.env := by rfl) (hline : (apos.endLine == cpos.line) = true := by rfl) :
    PI X tg (.Call (.Attribute l "values" apos) [] [] cpos) (iDict (NoFrz X) true td) := by
  intro pins s σ H R I h
  refine wpAny_Call_method hb rfl hline PySem.F.plainAttrs_dict PySem.F.slot_dict_values PySem.F.type_dict_values (thn (hl pins s σ H _ I h) fun v s1 ⟨x, H1, I1, r1, q1⟩ => ?_)
  obtain ⟨a, kvs, e, ha, q⟩ := q1
  subst e
  cases r1
  obtain ⟨t1, t2, t3⟩ := isD_at I1 (.inl ⟨kvs, .inl ha⟩)
  refine ⟨t1, t2, ?_⟩
  obtain ⟨ob, eo, I2, nf⟩ := I1.freeze ha
  obtain ⟨z, hd, vs, rel, o, es, ep, e2, c1, c2, c3⟩ := I1.hok a _ ha
  rw [eo] at e2; cases e2
  have len := rel.length
  have hD : s1.heap.DictOf (mixKind X.prog X.w) a vs := ⟨ob, es, ep, eo, c1, c2, c3⟩
  refine Calls.callWith_builtin rfl (PySem.evalArgs_none ?_)
  refine call_meetsIn PySem.F.slot_dict_values hD.typeIs PySem.F.entry_dict_values (PySem.F.args_dict_values_1 _) (meets_dict_values (mixKind X.prog X.w) a hd) ⟨⟨vs, hD⟩, ?_⟩
  have I3 : Inv X pins σ (upd H1 a (.frz ob (.dK kvs))) { s1 with heap := s1.heap.push { cls := .type "dict_values", data := .fields #[.ref a] } } := I2.kept (t' := s1.toks) fun b o e => Heap.get?_push_of_some _ e
  refine wpAny_pyIter_values (knd := mixKind X.prog X.w) (kvs := vs) ⟨_, Heap.get?_push_size _ rfl, rfl, rfl⟩ ⟨ob, es, Heap.get?_push_of_some _ eo, c1, c2, c3⟩ ?_
  refine ⟨(s1.heap.push { cls := .type "dict_values", data := .fields #[.ref a] }).objs.size, [(s1.heap.push { cls := .type "dict_values", data := .fields #[.ref a] }).objs.size], _, _, _, rfl, I3.kept (t' := s1.toks) fun b o e => Heap.get?_push_of_some _ e, turn_values a _ ob kvs c2, ⟨_, Heap.get?_push_size _ rfl, rfl, by rw [len]; rfl⟩, fun b hb => ?_, q ob nf⟩
  have e : b = (s1.heap.push { cls := .type "dict_values", data := .fields #[.ref a] }).objs.size := by simpa using hb
  subst e
  exact I3.fpOk (Nat.le_refl _) (I3.hok.fresh (Nat.le_refl _))
theorem ps_forD {X : Cx} {tg iter : Expr} {val : Bool} {td : TE} {body : List Stmt} {g : TG} {tb : TS} {pos : Pos} (hp : PassesOwn (model X.prog X.w) X.A X.env X.xe) (hc : X.calm = true) (hi : PI X tg iter (iDict (NoFrz X) val td)) (hg : PG X tg g) (hb : PSs X body tb)
    (hs : ∀ x, foldedSetIterable iter X.env x = pure x := by intro _; rfl) : PS X (.For tg iter body [] pos) (tForD val td g tb) := by
  intro pins s σ H D I h
  refine thn (ps_for (pos := pos) hp hc hi hg hb hs pins s σ H _ I (h (NoFrz X))) fun f s7 q7 => ?_
  cases f with
  | next => obtain ⟨σ7, H7, I7, a, ob, kvs, nf, e, n7⟩ := q7; exact ⟨σ7, _, I7.thaw e nf, n7⟩
  | cont => exact q7
  | brk => exact q7
  | ret v => exact q7
/-- over a dict that the body leaves as it is -/
theorem for_dict {NF : Addr → Prop} {val : Bool} {a : Addr} {ob : Obj} {kvs : List (Key × V)} {g : TG} {tb : TS} {D : Ends} {σ : St} {H : Hp} (Pv : Nat → St → Hp → Prop) (h0 : Pv 0 σ (upd H a (.frz ob (.dK kvs)))) (hl : ∀ i σ H, i ≤ kvs.length → Pv i σ H → H a = some (.frz ob (.dK kvs)))
    (hs : ∀ i k v σ H, kvs[i]? = some (k, v) → Pv i σ H → g (if val then v else kV k) σ H fun σ2 H2 => tb { D with nx := Pv (i + 1), ct := Pv (i + 1), bk := D.nx } σ2 H2) (hd : ∀ σ H, Pv kvs.length σ H → D.nx σ H) :
    ∃ W : Nat → Nat → St → Hp → Prop, (∃ m, W 0 m σ (upd H a (.frz ob (.dK kvs)))) ∧ ∀ i m σ H, W i m σ H →
      ((Itd val a ob kvs).stop i H ∧ D.nx σ H) ∨ ((Itd val a ob kvs).go i H ∧ ∃ N : St → Hp → Prop, (∀ σ' H', N σ' H' → ∃ m', m' < m ∧ W (i + 1) m' σ' H') ∧ ∀ x H', (Itd val a ob kvs).yld i H x H' → g x σ H' fun σ2 H2 => tb { D with nx := N, ct := N, bk := D.nx } σ2 H2) := by
  refine ⟨fun i m σ H => m = kvs.length - i ∧ i ≤ kvs.length ∧ Pv i σ H, ⟨kvs.length, by simp, Nat.zero_le _, h0⟩, ?_⟩
  rintro i m σ H ⟨rfl, hi, p⟩
  have q := hl i σ H hi p
  by_cases hlt : i < kvs.length
  · refine .inr ⟨⟨q, hlt⟩, Pv (i + 1), fun σ' H' p' => ⟨kvs.length - (i + 1), by omega, rfl, hlt, p'⟩, fun x H' y => ?_⟩
    obtain ⟨e, k, v, hx, ex⟩ := y
    subst e ex
    exact hs i k v σ _ hx p
  · have e : i = kvs.length := by omega
    subst e
    exact .inl ⟨⟨q, Nat.le_refl _⟩, hd σ H p⟩
end L2
set_option Elab.async false
set_option linter.all false
set_option maxRecDepth 100000
set_option maxHeartbeats 4000000
/-! list(d), list(d.values()) for a dict of any keys, reversed(list) in a loop -/
namespace L2
open PySem PySem.Spec PyProof.Rows PySem.W
section
variable {prog : Program} {w : World} {A : Around} {E : Value → Shared → Prop} {s : Shared}
end
end L2
set_option Elab.async false
set_option linter.all false
set_option maxRecDepth 100000
set_option maxHeartbeats 4000000
namespace L2
open PySem PySem.Spec PyProof.Rows PySem.W
section
variable {X : Cx} {pins : List (Addr × Obj)} {σ : St} {H : Hp} {s : Shared} {a : Addr}
end
section
variable {X : Cx}
/-- list(d): its keys -/
theorem call_listD (hc : X.calm = true) : CallR X (.type "list") (fun xs H Q => ∃ a kvs, xs = [.ref a] ∧ Rd H a (.dK kvs) ∧ ∀ l, H l = none → Q (.ref l) (upd H l (.lst (kvs.map fun p => kV p.1)))) := by
  intro pins s σ H xs us Q I r h
  obtain ⟨a, kvs, rfl, e, q⟩ := h
  obtain ⟨u, rfl, rx⟩ := vals1 r
  cases rx
  obtain ⟨z, hd, vs, rel, dd⟩ := dk_rd I.hok e
  obtain ⟨ep, hat⟩ := dd.dictAt
  have len := rel.length
  refine kdl_call (kdl_dict (knd := mixKind X.prog X.w) (kvs := vs) (ep := ep) hd) (I.ok.hd hc) hat (by rw [← len]; exact z) fun h' tk acc c hk hS hacc => ?_
  have rv : Vals (kvs.map fun p => kV p.1) acc.toList := by
    refine vals_of_get (by rw [List.length_map, show acc.toList.length = acc.size from rfl, hacc.1, len]) fun i x u h1 h2 => ?_
    obtain ⟨k, v, hx, hk⟩ := hacc.2 i u (by simpa using h2)
    rw [List.getElem?_map] at h1
    cases hp : kvs[i]? with
    | none => rw [hp] at h1; cases h1
    | some p =>
      rw [hp] at h1
      obtain ⟨u', hu, _⟩ := rel.get (k := p.1) (v := p.2) hp
      rw [hu] at hx; cases hx
      cases h1
      exact is_kV hk
  exact ⟨.ref _, _, I.laid (t' := tk) hk (Nat.le_refl _) (show ObjOk X.prog X.w _ h' _ (.lst _) from ⟨by rw [List.length_map]; exact z, acc.toList, c, rv, by simpa using hS⟩), rfl, q _ (I.hok.fresh (Nat.le_refl _))⟩
end

/-- len(d) -/
theorem call_lenD {X : Cx} : CallR X (.builtin "len") (fun xs H Q => ∃ a kvs, xs = [.ref a] ∧ Rd H a (.dK kvs) ∧ Q (.int kvs.length) H) := by
  intro pins s σ H xs us Q I r h
  obtain ⟨a, kvs, rfl, e, q⟩ := h
  obtain ⟨u, rfl, rx⟩ := vals1 r
  cases rx
  exact d_len I e fun t s' I' => ⟨.int kvs.length, H, I', ⟨t, rfl⟩, q⟩
/-! ### reversed(list) in a loop -/
end L2
set_option Elab.async false
set_option linter.all false
set_option maxRecDepth 100000
set_option maxHeartbeats 4000000
namespace L2
open PySem PySem.Spec PyProof.Rows PySem.W
/-- a def with defaults, of which all parameters are given: its defaults are read all the same -/
theorem FunD.bindsT {K : PySem.W.Frag} {x qual : Str} {st : Stmt} {f : Addr} {fd : FuncData} {ps : List Str} {T : Addr} {o : Obj} {items : Array Value} {n : Nat} (_F : FunD K x qual st f fd) (lk : K.lookup T = some o) (hd : fd.defaults = .ref T) (hs : o.data = .seq items n)
    (h : ∀ us : List Value, us.length = ps.length → ∃ k, bindArgs fd ⟨us, []⟩ = seqItems? fd.defaults >>= k ∧ k (some items) = pure (ps.zip us)) : Binds K fd ps [] := fun s us hk hl => by
  rw [List.append_nil] at hl ⊢
  obtain ⟨k, h1, h2⟩ := h us hl
  exact .of_defaults hd (hk _ _ lk) hs h1 h2
end L2
set_option Elab.async false
set_option linter.all false
set_option maxRecDepth 100000
set_option maxHeartbeats 4000000
namespace L2
open PySem PySem.Spec PyProof.Rows PySem.W
/-- a def with defaults, of which the last one is not given -/
theorem FunD.bindsS {K : PySem.W.Frag} {x qual : Str} {st : Stmt} {f : Addr} {fd : FuncData} {ps : List Str} {ds : List Value} {T : Addr} {o : Obj} {items : Array Value} {n : Nat} (_F : FunD K x qual st f fd) (lk : K.lookup T = some o) (hd : fd.defaults = .ref T) (hs : o.data = .seq items n)
    (h : ∀ us : List Value, (us ++ ds).length = ps.length → ∃ k, bindArgs fd ⟨us, []⟩ = seqItems? fd.defaults >>= k ∧ k (some items) = pure (ps.zip (us ++ ds))) : Binds K fd ps ds := fun s us hk hl => by
  obtain ⟨k, h1, h2⟩ := h us hl
  exact .of_defaults hd (hk _ _ lk) hs h1 h2
theorem lenS1 {us : List Value} {n : Nat} (h : (us ++ [Value.none]).length = n + 1) : us.length = n := by
  rw [List.length_append] at h
  exact Nat.succ.inj h
/-- a method, of which some defaults are taken -/
structure MCalS (P : Program) (w : World) (K : PySem.W.Frag) (mg : Str → Option Value) (base : Heap) (C : Addr) (k : Nat) (m : Str) (ps : List Str) (ds : List Value) (sp : Sp) where
  f : Addr
  fd : FuncData
  ok : FnOk P w K mg base CX0 k f fd ps sp
  b : Binds K fd ps ds
  mt : Meth K C m f
theorem valsN1 : Vals [V.non] [Value.none] := by
  first
    | exact .cons rfl .nil
    | exact .cons ⟨⟩ .nil
    | exact ⟨rfl, trivial⟩
    | decide
end L2
namespace Toy
open PySem PySem.Spec PyProof.Rows L2
def top (i : Nat) : Stmt := PySem.Challenge.pw_waithouse_k30_chain_of_names.main.body.getD i (.Pass ⟨0, 0, 0, 0⟩)
abbrev s_bounds_of : Stmt := top 5
abbrev s_wide : Stmt := top 7
abbrev s_wide_row : Stmt := top 8
abbrev s_table_of : Stmt := top 9
abbrev s_held : Stmt := top 10
abbrev s_shuts : Stmt := top 11
abbrev s_held_row : Stmt := top 12
abbrev s_total : Stmt := top 13
abbrev s_lesser : Stmt := top 14
abbrev s_chain : Stmt := top 18
abbrev s_search : Stmt := top 20
abbrev s_first_ways : Stmt := top 21
abbrev s_narrowed : Stmt := top 22
abbrev s_led : Stmt := top 23
abbrev s_by_way : Stmt := top 24
abbrev s_all_bounds : Stmt := top 27
abbrev s_all_bound_names : Stmt := top 28
abbrev s_ends_of : Stmt := top 29
abbrev s_names_at : Stmt := top 30
abbrev s_law_cell : Stmt := top 32
abbrev s_law_spread : Stmt := top 34
abbrev s_law_big : Stmt := top 35
abbrev s_law_times : Stmt := top 36
abbrev s_law_cells : Stmt := top 37
abbrev s_law_gap_round : Stmt := top 38
abbrev s_law_ends : Stmt := top 39
abbrev s_law_good : Stmt := top 40
abbrev s_law_all_good : Stmt := top 41
abbrev s_law_pairs : Stmt := top 42
abbrev s_law_broken_good : Stmt := top 43
abbrev s_law : Stmt := top 44
abbrev s_House___init__ : Stmt := inClass (top 26) 0
abbrev s_House_add : Stmt := inClass (top 26) 1
abbrev s_House_drop : Stmt := inClass (top 26) 2
abbrev s_House_need : Stmt := inClass (top 26) 3
abbrev s_House_table : Stmt := inClass (top 26) 6
abbrev s_House_chain : Stmt := inClass (top 26) 8
structure Cl where
  WaitError : Addr
  NoName : Addr
  House : Addr
structure Txt (K : PySem.W.Frag) (mg : Str → Option Value) (cl : Cl) : Prop where
  z_isinstance : mg "isinstance" = none
  z_len : mg "len" = none
  z_list : mg "list" = none
  z_min : mg "min" = none
  z_range : mg "range" = none
  z_str : mg "str" = none
  z_tuple : mg "tuple" = none
  g_WaitError : mg "WaitError" = some (.ref cl.WaitError)
  g_NoName : mg "NoName" = some (.ref cl.NoName)
  g_House : mg "House" = some (.ref cl.House)
  cl_House : Cls K cl.House
  n_House_count : NoAttr K cl.House "count"
  n_House_gaps : NoAttr K cl.House "gaps"
/-- the time from a to b -/
def tm (ns : List Int) (a b : Int) : Int := ns.getD b.toNat 0 - ns.getD a.toNat 0
def inR (a : Int) (ns : List Int) : Prop := 0 ≤ a ∧ a < ns.length
theorem ints_snoc {acc : List V} {zs : List Int} (h : acc = zs.map V.int) (y : Int) : acc ++ [V.int y] = (zs ++ [y]).map V.int := by
  rw [h, List.map_append]; rfl
theorem cut_map {α : Type} (f : α → V) (zs : List α) (lo hi : Option Int) : ∃ ys : List α, cutV (zs.map f) lo hi = ys.map f ∧ ys.length ≤ zs.length := by
  refine ⟨(zs.drop (HT.sIx zs.length 0 lo)).take (HT.sIx zs.length zs.length hi - HT.sIx zs.length 0 lo), ?_, ?_⟩
  · unfold cutV
    rw [List.length_map, List.map_take, List.map_drop]
  · rw [List.length_take, List.length_drop]; omega
def sp_law_cell (K : PySem.W.Frag) : Sp := fun vs H Q _ => ∃ (a : Addr) (ns : List Int) (k : Int), vs = [.ref a, .int k] ∧ SqL K H a (ns.map V.int) ∧ ns.length ≤ 63 ∧ 0 ≤ k ∧ k ≤ 100 ∧ ∀ i : Int, Q (.int i) H
def sp_law_big (K : PySem.W.Frag) : Sp := fun vs H Q _ => ∃ c : Int, vs = [.int c] ∧ ∀ i : Int, Q (.int i) H
def sp_law_times (K : PySem.W.Frag) : Sp := fun vs H Q _ => ∃ (a : Addr) (ns : List Int) (k n : Int), vs = [.ref a, .int k, .int n] ∧ SqL K H a (ns.map V.int) ∧ ns.length ≤ 63 ∧ 0 ≤ k ∧ k ≤ 50 ∧ 0 ≤ n ∧ n ≤ 8 ∧
  ∀ (r : Addr) (H' : Hp) (ms : List Int), Same H H' → (ms.length : Int) = n → H' r = some (.tup (ms.map V.int)) → Q (.ref r) H'
def sp_law (K : PySem.W.Frag) : Sp := fun vs H Q _ => ∃ (a : Addr) (ns : List Int), vs = [.ref a] ∧ SqL K H a (ns.map V.int) ∧ ns.length ≤ 63 ∧ ∀ H', Q (.bl true) H'
/-! bounds: triples of numbers, each a tuple of its own -/
abbrev Bd := Int × Int × Int
def bv (m : Bd) : List V := [.int m.1, .int m.2.1, .int m.2.2]
def AreB (H : Hp) : List V → List Bd → Prop := Paired fun v m => ∃ p, v = .ref p ∧ H p = some (.tup (bv m))
theorem AreB.same {H H' : Hp} {vs : List V} {ms : List Bd} (s : Same H H') (h : AreB H vs ms) : AreB H' vs ms := Paired.mapP h fun _ _ ⟨p, e, q⟩ => ⟨p, e, s _ _ q⟩
theorem AreB.len {H : Hp} {vs : List V} {ms : List Bd} (h : AreB H vs ms) : vs.length = ms.length := Paired.length h
theorem AreB.get {H : Hp} : ∀ {vs : List V} {ms : List Bd} {i : Nat} {v : V}, AreB H vs ms → vs[i]? = some v → ∃ p m, ms[i]? = some m ∧ v = .ref p ∧ H p = some (.tup (bv m))
  | _, _, _, _, .nil, e => by simp at e
  | _, _, 0, _, .cons ⟨p, e1, q⟩ _, e => by
    simp at e
    exact ⟨p, _, rfl, e.symm.trans e1, q⟩
  | _, _, i + 1, v, .cons _ t, e => by
    obtain ⟨p, m, h1, h2⟩ := AreB.get (i := i) (v := v) t (by simpa using e)
    exact ⟨p, m, by simpa using h1, h2⟩
theorem AreB.snoc {H : Hp} {vs : List V} {ms : List Bd} {p : Addr} {m : Bd} (h : AreB H vs ms) (e : H p = some (.tup (bv m))) : AreB H (vs ++ [.ref p]) (ms ++ [m]) := Paired.snoc h ⟨p, rfl, e⟩
/-- a new tuple is appended to a list that is not among what stood before -/
theorem app_same {H H1 : Hp} {r p : Addr} {o u : HO} (hr : H r = none) (s : Same H H1) (hp : H1 p = none) : Same H (upd (upd H1 p o) r u) := fun b x e => by
  rw [upd_ne (ne_of_none e hr), upd_ne (ne_of_none (s b x e) hp)]; exact s b x e
theorem app_at {H1 : Hp} {r p : Addr} {o u w : HO} (h1 : H1 r = some w) (hp : H1 p = none) : (upd (upd H1 p o) r u) p = some o := by
  rw [upd_ne (Ne.symm (ne_of_none h1 hp)), upd_same]
theorem AreB.app {H1 : Hp} {vs xs : List V} {ms : List Bd} {r p : Addr} {m : Bd} {u : HO} (h : AreB H1 vs ms) (h1 : H1 r = some (.lst xs)) (hp : H1 p = none) : AreB (upd (upd H1 p (.tup (bv m))) r u) (vs ++ [.ref p]) (ms ++ [m]) := by
  refine AreB.snoc (Paired.mapP h fun v m ⟨t, e, q⟩ => ⟨t, e, ?_⟩) (app_at h1 hp)
  rw [upd_ne (ne_of q h1 (fun z => by cases z)), upd_ne (ne_of_none q hp)]; exact q
theorem atI_of {α : Type} {xs : List α} {i : Int} {n : Nat} {v : α} (h0 : 0 ≤ i) (hn : i.toNat = n) (h : xs[n]? = some v) : atI xs i = some v := by
  have e : i = ((n : Nat) : Int) := by omega
  rw [e]
  exact atI_nat h
def sp_law_spread (K : PySem.W.Frag) : Sp := fun vs H Q _ => ∃ c k : Int, vs = [.int c, .int k] ∧ 0 ≤ k ∧ k ≤ 100 ∧ ∀ i : Int, Q (.int i) H
/-- the bounds of a gap -/
def hiB (a b : Int) : Option Int → List Bd
  | none => []
  | some h => [(a, b, h)]
def loB (a b : Int) : Option Int → List Bd
  | none => []
  | some l => [(b, a, -l)]
def bnds (a b : Int) (low high : Option Int) : List Bd := hiB a b high ++ loB a b low
def bKept (ms : List Int) (m : Bd) : Bool := decide (tm ms m.1 m.2.1 ≤ m.2.2)
def sp_bounds_of (K : PySem.W.Frag) : Sp := fun vs H Q _ => ∃ (u : Addr) (a b : Int) (low high : Option Int), vs = [.ref u] ∧ SqT K H u [.int a, .int b, ov low, ov high] ∧
  ∀ (r : Addr) (H' : Hp) (qs : List V), H r = none → Same H H' → H' r = some (.lst qs) → AreB H' qs (bnds a b low high) → Q (.ref r) H'
/-! tables, chains, rings: the mathematics of bounds -/
abbrev Tab := List (List (Option Int))
def ent (t : Tab) (a b : Int) : Option Int := (t.getD a.toNat []).getD b.toNat none
def inN (a : Int) (n : Nat) : Prop := 0 ≤ a ∧ a < n
inductive Path (bs : List Bd) : Int → Int → Int → Prop where
  | nil (a : Int) : Path bs a a 0
  | cons {a x b c d : Int} (h : (a, x, c) ∈ bs) (r : Path bs x b d) : Path bs a b (c + d)
theorem Path.one {bs : List Bd} {a b c : Int} (h : (a, b, c) ∈ bs) : Path bs a b c := by
  have q := Path.cons h (.nil b)
  rw [Int.add_zero] at q
  exact q
theorem Path.trans {bs : List Bd} {a b c d e : Int} (p : Path bs a b c) : Path bs b d e → Path bs a d (c + e) := by
  induction p with
  | nil a => intro q; rw [Int.zero_add]; exact q
  | cons h r ih =>
    intro q
    rw [Int.add_assoc]
    exact .cons h (ih q)
theorem Path.mono {bs cs : List Bd} {a b c : Int} (p : Path bs a b c) (h : ∀ m ∈ bs, m ∈ cs) : Path cs a b c := by
  induction p with
  | nil a => exact .nil a
  | cons k r ih => exact .cons (h _ k) ih
theorem Path.keep {bs : List Bd} {ns : List Int} (hk : ∀ m ∈ bs, bKept ns m = true) {a b c : Int} (p : Path bs a b c) : tm ns a b ≤ c := by
  induction p with
  | nil a => unfold tm; omega
  | cons h r ih =>
    have q : tm ns _ _ ≤ _ := of_decide_eq_true (hk _ h)
    unfold tm at q ih ⊢
    simp only at q
    omega
def Within (n : Nat) (bs : List Bd) : Prop := ∀ m ∈ bs, inN m.1 n ∧ inN m.2.1 n
def NegR (bs : List Bd) : Prop := ∃ a c, c < 0 ∧ Path bs a a c
theorem Path.begins {bs : List Bd} {n : Nat} (hw : Within n bs) {a b c : Int} (p : Path bs a b c) : (a = b ∧ c = 0) ∨ inN a n := by
  cases p with
  | nil => exact .inl ⟨rfl, rfl⟩
  | cons h r => exact .inr (hw _ h).1
/-- t is the table of the bounds -/
structure Right (n : Nat) (bs : List Bd) (t : Tab) : Prop where
  len : t.length = n
  row : ∀ r ∈ t, r.length = n
  low : ∀ a b c, inN a n → inN b n → Path bs a b c → ∃ e, ent t a b = some e ∧ e ≤ c
  hit : ∀ a b e, inN a n → inN b n → ent t a b = some e → Path bs a b e
theorem Right.self {n : Nat} {bs : List Bd} {t : Tab} (R : Right n bs t) {a : Int} (ha : inN a n) : ent t a a = some 0 := by
  obtain ⟨e, h1, h2⟩ := R.low a a 0 ha ha (.nil a)
  have p := R.hit a a e ha ha h1
  obtain ⟨e', h3, h4⟩ := R.low a a (e + e) ha ha (p.trans p)
  rw [h1] at h3
  cases h3
  have : e = 0 := by omega
  rw [h1, this]
theorem Right.tri {n : Nat} {bs : List Bd} {t : Tab} (R : Right n bs t) {a p b x y : Int} (ha : inN a n) (hp : inN p n) (hb : inN b n) (h1 : ent t a p = some x) (h2 : ent t p b = some y) : ∃ e, ent t a b = some e ∧ e ≤ x + y :=
  R.low a b (x + y) ha hb ((R.hit a p x ha hp h1).trans (R.hit p b y hp hb h2))
theorem Right.noneg {n : Nat} {bs : List Bd} {t : Tab} (R : Right n bs t) (hw : Within n bs) : ¬ NegR bs := by
  rintro ⟨a, c, hc, p⟩
  rcases p.begins hw with ⟨_, e⟩ | ha
  · omega
  · obtain ⟨e, h1, h2⟩ := R.low a a c ha ha p
    rw [R.self ha] at h1
    cases h1
    omega
theorem noneg_kept {bs : List Bd} {ns : List Int} (hk : ∀ m ∈ bs, bKept ns m = true) : ¬ NegR bs := by
  rintro ⟨a, c, hc, p⟩
  have := p.keep hk
  unfold tm at this
  omega
theorem ent_nat (t : Tab) (i j : Nat) : ent t (i : Int) (j : Int) = (t.getD i []).getD j none := by
  unfold ent; rw [Int.toNat_natCast, Int.toNat_natCast]
theorem tab_ext {n : Nat} {t u : Tab} (ht : t.length = n) (hu : u.length = n) (rt : ∀ r ∈ t, r.length = n) (ru : ∀ r ∈ u, r.length = n) (h : ∀ a b, inN a n → inN b n → ent t a b = ent u a b) : t = u := by
  refine List.ext_getElem (ht.trans hu.symm) fun i h1 h2 => ?_
  have l1 := rt _ (List.getElem_mem h1)
  have l2 := ru _ (List.getElem_mem h2)
  refine List.ext_getElem (l1.trans l2.symm) fun j k1 k2 => ?_
  have q := h (i : Int) (j : Int) ⟨by omega, by omega⟩ ⟨by omega, by omega⟩
  rw [ent_nat, ent_nat] at q
  simp only [List.getD_eq_getElem?_getD, List.getElem?_eq_getElem h1, List.getElem?_eq_getElem h2, Option.getD_some, List.getElem?_eq_getElem k1, List.getElem?_eq_getElem k2] at q
  exact q
theorem Right.same {n : Nat} {bs cs : List Bd} {t u : Tab} (R : Right n bs t) (S : Right n cs u) (hp : ∀ a b c, Path bs a b c → ∃ d, d ≤ c ∧ Path cs a b d) (hq : ∀ a b c, Path cs a b c → ∃ d, d ≤ c ∧ Path bs a b d) : t = u := by
  refine tab_ext R.len S.len R.row S.row fun a b ha hb => ?_
  have one : ∀ {n : Nat} {bs cs : List Bd} {t u : Tab}, Right n bs t → Right n cs u → (∀ a b c, Path bs a b c → ∃ d, d ≤ c ∧ Path cs a b d) → ∀ {a b : Int}, inN a n → inN b n → ∀ e, ent t a b = some e → ∃ f, ent u a b = some f ∧ f ≤ e := fun {n bs cs t u} R S hp {a b} ha hb e h => by
    obtain ⟨d, h1, h2⟩ := hp a b e (R.hit a b e ha hb h)
    obtain ⟨f, h3, h4⟩ := S.low a b d ha hb h2
    exact ⟨f, h3, by omega⟩
  cases e1 : ent t a b with
  | none =>
    cases e2 : ent u a b with
    | none => rfl
    | some f =>
      obtain ⟨g, q, _⟩ := one S R hq ha hb f e2
      rw [e1] at q; cases q
  | some e =>
    obtain ⟨f, q1, q2⟩ := one R S hp ha hb e e1
    obtain ⟨g, q3, q4⟩ := one S R hq ha hb f q1
    rw [e1] at q3
    cases q3
    rw [q1]
    congr 1
    omega
theorem Right.uniq {n : Nat} {bs : List Bd} {t u : Tab} (R : Right n bs t) (S : Right n bs u) : t = u := R.same S (fun _ _ c p => ⟨c, Int.le_refl _, p⟩) fun _ _ c p => ⟨c, Int.le_refl _, p⟩
/-! tables in the heap -/
def RowsAt (H : Hp) : List Addr → Tab → Prop := Paired fun r row => H r = some (.lst (row.map ov))
structure TabAt (H : Hp) (p : Addr) (rs : List Addr) (t : Tab) : Prop where
  ob : H p = some (.lst (rs.map V.ref))
  rows : RowsAt H rs t
def Square (n : Nat) (t : Tab) : Prop := t.length = n ∧ ∀ r ∈ t, r.length = n
theorem Right.square {n : Nat} {bs : List Bd} {t : Tab} (R : Right n bs t) : Square n t := ⟨R.len, R.row⟩
theorem TabAt.same {H H' : Hp} {p : Addr} {rs : List Addr} {t : Tab} (s : Same H H') (h : TabAt H p rs t) : TabAt H' p rs t := ⟨s _ _ h.ob, Paired.mapP h.rows fun _ _ q => s _ _ q⟩
theorem paired_get {α β : Type} {F : α → β → Prop} : ∀ {l₁ : List α} {l₂ : List β} {i : Nat} {x : α}, Paired F l₁ l₂ → l₁[i]? = some x → ∃ y, l₂[i]? = some y ∧ F x y
  | _, _, _, _, .nil, e => by simp at e
  | _, _, 0, _, .cons r _, e => by simp at e; subst e; exact ⟨_, rfl, r⟩
  | _, _, i + 1, x, .cons _ t, e => by
    obtain ⟨y, h1, h2⟩ := paired_get (i := i) (x := x) t (by simpa using e)
    exact ⟨y, by simpa using h1, h2⟩
theorem TabAt.at {H : Hp} {p : Addr} {rs : List Addr} {t : Tab} {n : Nat} (T : TabAt H p rs t) (S : Square n t) {a b : Int} (ha : inN a n) (hb : inN b n) :
    ∃ (r : Addr) (row : List (Option Int)), atI (rs.map V.ref) a = some (.ref r) ∧ H r = some (.lst (row.map ov)) ∧ atI (row.map ov) b = some (ov (ent t a b)) := by
  have hl := Paired.length T.rows
  have h1 : a.toNat < rs.length := by have := ha.1; have := ha.2; have := S.1; omega
  obtain ⟨row, e1, e2⟩ := paired_get T.rows (List.getElem?_eq_getElem h1)
  have hr := S.2 row (List.mem_of_getElem? e1)
  have h2 : b.toNat < row.length := by have := hb.1; have := hb.2; omega
  refine ⟨rs[a.toNat], row, atI_of ha.1 rfl ?_, e2, atI_of hb.1 rfl ?_⟩
  · rw [List.getElem?_map, List.getElem?_eq_getElem h1]; rfl
  · have q : ent t a b = row[b.toNat] := by
      unfold ent
      simp only [List.getD_eq_getElem?_getD]
      rw [e1, Option.getD_some, List.getElem?_eq_getElem h2, Option.getD_some]
    rw [q, List.getElem?_map, List.getElem?_eq_getElem h2]
    rfl
/-! the program's tables: mathematics -/
def tot : Option Int → Option Int → Option Int
  | some x, some y => some (x + y)
  | _, _ => none
def les : Option Int → Option Int → Option Int
  | none, y => y
  | some x, none => some x
  | some x, some y => some (if y < x then y else x)
def mkT (n : Nat) (f : Int → Int → Option Int) : Tab := (List.range n).map fun (i : Nat) => (List.range n).map fun (j : Nat) => f (i : Int) (j : Int)
theorem mkT_square (n : Nat) (f : Int → Int → Option Int) : Square n (mkT n f) := by
  refine ⟨by unfold mkT; simp, fun r hr => ?_⟩
  unfold mkT at hr
  obtain ⟨i, _, e⟩ := List.mem_map.mp hr
  rw [← e]; simp
theorem mkT_ent {n : Nat} (f : Int → Int → Option Int) {a b : Int} (ha : inN a n) (hb : inN b n) : ent (mkT n f) a b = f a b := by
  obtain ⟨i, rfl⟩ : ∃ i : Nat, a = (i : Int) := ⟨a.toNat, by have := ha.1; omega⟩
  obtain ⟨j, rfl⟩ : ∃ j : Nat, b = (j : Int) := ⟨b.toNat, by have := hb.1; omega⟩
  have hi : i < n := by have := ha.2; omega
  have hj : j < n := by have := hb.2; omega
  rw [ent_nat]
  unfold mkT
  simp [List.getD_eq_getElem?_getD, hi, hj]
def wideT (n : Nat) : Tab := mkT n fun a b => if a = b then some 0 else none
def heldF (t : Tab) (m : Bd) (a b : Int) : Option Int := les (ent t a b) (tot (tot (ent t a m.1) (some m.2.2)) (ent t m.2.1 b))
def heldT (n : Nat) (t : Tab) (m : Bd) : Tab := mkT n (heldF t m)
def shutB (t : Tab) (m : Bd) : Bool := match ent t m.2.1 m.1 with
  | none => false
  | some e => decide (e + m.2.2 < 0)
theorem Path.none {a b c : Int} (p : Path [] a b c) : a = b ∧ c = 0 := by
  cases p with
  | nil => exact ⟨rfl, rfl⟩
  | cons h _ => exact (nomatch h)
theorem wide_right (n : Nat) : Right n [] (wideT n) where
  len := (mkT_square n _).1
  row := (mkT_square n _).2
  low a b c ha hb p := by
    obtain ⟨rfl, rfl⟩ := p.none
    exact ⟨0, by unfold wideT; rw [mkT_ent _ ha hb, if_pos rfl], Int.le_refl _⟩
  hit a b e ha hb h := by
    unfold wideT at h
    rw [mkT_ent _ ha hb] at h
    by_cases q : a = b
    · rw [if_pos q] at h
      cases h
      rw [q]; exact .nil b
    · rw [if_neg q] at h; cases h
theorem held_old {t : Tab} {m : Bd} {a b e : Int} (h : ent t a b = some e) : ∃ f, heldF t m a b = some f ∧ f ≤ e := by
  unfold heldF
  rw [h]
  cases tot (tot (ent t a m.1) (some m.2.2)) (ent t m.2.1 b) with
  | none => exact ⟨e, rfl, Int.le_refl _⟩
  | some y =>
    refine ⟨_, rfl, ?_⟩
    split <;> omega
theorem held_new {t : Tab} {m : Bd} {a b e1 e2 : Int} (h1 : ent t a m.1 = some e1) (h2 : ent t m.2.1 b = some e2) : ∃ f, heldF t m a b = some f ∧ f ≤ e1 + m.2.2 + e2 := by
  unfold heldF
  rw [h1, h2]
  cases ent t a b with
  | none => exact ⟨_, rfl, Int.le_refl _⟩
  | some x =>
    refine ⟨_, rfl, ?_⟩
    split <;> omega
theorem held_from {t : Tab} {m : Bd} {a b e : Int} (h : heldF t m a b = some e) : ent t a b = some e ∨ ∃ e1 e2, ent t a m.1 = some e1 ∧ ent t m.2.1 b = some e2 ∧ e = e1 + m.2.2 + e2 := by
  unfold heldF at h
  cases h1 : ent t a m.1 with
  | none =>
    rw [h1] at h
    have e0 : tot (tot none (some m.2.2)) (ent t m.2.1 b) = none := by cases ent t m.2.1 b <;> rfl
    rw [e0] at h
    cases h3 : ent t a b with
    | none => rw [h3] at h; cases h
    | some x => rw [h3] at h; exact .inl h
  | some e1 =>
    rw [h1] at h
    cases h2 : ent t m.2.1 b with
    | none =>
      rw [h2] at h
      have e0 : tot (tot (some e1) (some m.2.2)) none = none := rfl
      rw [e0] at h
      cases h3 : ent t a b with
      | none => rw [h3] at h; cases h
      | some x => rw [h3] at h; exact .inl h
    | some e2 =>
      rw [h2] at h
      have e0 : tot (tot (some e1) (some m.2.2)) (some e2) = some (e1 + m.2.2 + e2) := rfl
      rw [e0] at h
      cases h3 : ent t a b with
      | none => rw [h3] at h; exact .inr ⟨e1, e2, rfl, rfl, (Option.some.inj h).symm⟩
      | some x =>
        rw [h3] at h
        have h' := Option.some.inj h
        by_cases c : e1 + m.2.2 + e2 < x
        · rw [if_pos c] at h'
          exact .inr ⟨e1, e2, rfl, rfl, h'.symm⟩
        · rw [if_neg c] at h'
          exact .inl (by rw [h'])
theorem shut_neg {n : Nat} {bs : List Bd} {t : Tab} {m : Bd} (R : Right n bs t) (h1 : inN m.1 n) (h2 : inN m.2.1 n) (h : shutB t m = true) : NegR (bs ++ [m]) := by
  unfold shutB at h
  cases e : ent t m.2.1 m.1 with
  | none => rw [e] at h; cases h
  | some z =>
    rw [e] at h
    have h' : z + m.2.2 < 0 := of_decide_eq_true h
    have p := (R.hit _ _ z h2 h1 e).mono (cs := bs ++ [m]) fun x hx => List.mem_append_left _ hx
    exact ⟨m.1, m.2.2 + z, by omega, .cons (List.mem_append_right _ (List.mem_singleton.mpr rfl)) p⟩
theorem held_low {n : Nat} {bs : List Bd} {t : Tab} {m : Bd} (R : Right n bs t) (hw : Within n (bs ++ [m])) (h : shutB t m = false) {a b d : Int} (p : Path (bs ++ [m]) a b d) : inN a n → inN b n → ∃ e, heldF t m a b = some e ∧ e ≤ d := by
  have hm := hw m (List.mem_append_right _ (List.mem_singleton.mpr rfl))
  induction p with
  | nil a => exact fun ha _ => held_old (R.self ha)
  | @cons a z b k d' hin r ih =>
    intro ha hb
    have hz : inN z n := (hw _ hin).2
    obtain ⟨e, g1, g2⟩ := ih hz hb
    rcases List.mem_append.mp hin with hin | hin
    · obtain ⟨k', q1, q2⟩ := R.low a z k ha hz (.one hin)
      rcases held_from g1 with g | ⟨e1, e2, f1, f2, f3⟩
      · obtain ⟨x, y1, y2⟩ := R.tri ha hz hb q1 g
        obtain ⟨f, w1, w2⟩ := held_old (m := m) y1
        exact ⟨f, w1, by omega⟩
      · obtain ⟨x, y1, y2⟩ := R.tri ha hz hm.1 q1 f1
        obtain ⟨f, w1, w2⟩ := held_new y1 f2
        exact ⟨f, w1, by omega⟩
    · have em := List.mem_singleton.mp hin
      have ea : a = m.1 := by rw [← em]
      have ez : z = m.2.1 := by rw [← em]
      have ek : k = m.2.2 := by rw [← em]
      subst ea ez ek
      rcases held_from g1 with g | ⟨e1, e2, f1, f2, f3⟩
      · obtain ⟨f, w1, w2⟩ := held_new (R.self ha) g
        exact ⟨f, w1, by omega⟩
      · obtain ⟨f, w1, w2⟩ := held_new (R.self ha) f2
        unfold shutB at h
        rw [f1] at h
        have h' : ¬ e1 + m.2.2 < 0 := of_decide_eq_false h
        exact ⟨f, w1, by omega⟩
theorem held_right {n : Nat} {bs : List Bd} {t : Tab} {m : Bd} (R : Right n bs t) (hw : Within n (bs ++ [m])) (h : shutB t m = false) : Right n (bs ++ [m]) (heldT n t m) where
  len := (mkT_square n _).1
  row := (mkT_square n _).2
  low a b c ha hb p := by
    unfold heldT
    rw [mkT_ent _ ha hb]
    exact held_low R hw h p ha hb
  hit a b e ha hb q := by
    have hm := hw m (List.mem_append_right _ (List.mem_singleton.mpr rfl))
    unfold heldT at q
    rw [mkT_ent _ ha hb] at q
    have mo : ∀ x ∈ bs, x ∈ bs ++ [m] := fun x hx => List.mem_append_left _ hx
    rcases held_from q with g | ⟨e1, e2, f1, f2, f3⟩
    · exact (R.hit a b e ha hb g).mono mo
    · have p1 := (R.hit a m.1 e1 ha hm.1 f1).mono mo
      have p2 := (R.hit m.2.1 b e2 hm.2 hb f2).mono mo
      have p0 : Path (bs ++ [m]) m.1 m.2.1 m.2.2 := .one (List.mem_append_right _ (List.mem_singleton.mpr rfl))
      rw [f3]
      exact (p1.trans p0).trans p2
theorem NegR.mono {bs cs : List Bd} (h : NegR bs) (hs : ∀ m ∈ bs, m ∈ cs) : NegR cs := by
  obtain ⟨a, c, hc, p⟩ := h
  exact ⟨a, c, hc, p.mono hs⟩
/-! tables in the heap, made new -/
theorem TabAt.rowAt {H : Hp} {p : Addr} {rs : List Addr} {t : Tab} {n : Nat} (T : TabAt H p rs t) (S : Square n t) {a : Int} (ha : inN a n) :
    ∃ (r : Addr) (row : List (Option Int)), atI (rs.map V.ref) a = some (.ref r) ∧ H r = some (.lst (row.map ov)) ∧ row.length = n ∧ ∀ b, inN b n → atI (row.map ov) b = some (ov (ent t a b)) := by
  have hl := Paired.length T.rows
  have h1 : a.toNat < rs.length := by have := ha.1; have := ha.2; have := S.1; omega
  obtain ⟨row, e1, e2⟩ := paired_get T.rows (List.getElem?_eq_getElem h1)
  have hr := S.2 row (List.mem_of_getElem? e1)
  refine ⟨rs[a.toNat], row, atI_of ha.1 rfl ?_, e2, hr, fun b hb => atI_of hb.1 rfl ?_⟩
  · rw [List.getElem?_map, List.getElem?_eq_getElem h1]; rfl
  · have h2 : b.toNat < row.length := by have := hb.1; have := hb.2; omega
    have q : ent t a b = row[b.toNat] := by
      unfold ent
      simp only [List.getD_eq_getElem?_getD]
      rw [e1, Option.getD_some, List.getElem?_eq_getElem h2, Option.getD_some]
    rw [q, List.getElem?_map, List.getElem?_eq_getElem h2]
    rfl
theorem TabAt.len {H : Hp} {p : Addr} {rs : List Addr} {t : Tab} {n : Nat} (T : TabAt H p rs t) (S : Square n t) : (rs.map V.ref).length = n := by
  rw [List.length_map, Paired.length T.rows]; exact S.1
structure NewT (H H' : Hp) (p : Addr) (rs : List Addr) (t : Tab) : Prop where
  p0 : H p = none
  r0 : ∀ r ∈ rs, H r = none
  nd : (p :: rs).Nodup
  sm : Same H H'
  tb : TabAt H' p rs t
theorem none_of {H H' : Hp} (s : Same H H') {p : Addr} (h : H' p = none) : H p = none := by
  cases e : H p with
  | none => rfl
  | some o => rw [s _ _ e] at h; cases h
/-- a comprehension over a range that makes a new row in each turn -/
theorem comp_rows {n : Nat} {fr : List Nat} {te : TE} {σ : L2.St} {H : Hp} {Q : VK} (f : Nat → List (Option Int)) (hn : n ≤ sizeLine)
    (hs : ∀ i H1, i < n → Same H H1 → ∀ R : VK, (∀ r H2, H1 r = none → Same H1 H2 → H2 r = some (.lst ((f i).map ov)) → R (.ref r) H2) → te ((compSt σ fr).set 0 (some (.int (0 + (i : Int))))) H1 R)
    (hd : ∀ p rs H', NewT H H' p rs ((List.range n).map f) → Q (.ref p) H') : CompGo fr tYes te σ Q (Itr 0 n) H := by
  refine comp_range (lo := 0) (n := n) (fun i acc H1 => Same H H1 ∧ ∃ rs : List Addr, acc = rs.map V.ref ∧ (∀ r ∈ rs, H r = none) ∧ rs.Nodup ∧ RowsAt H1 rs ((List.range i).map f)) hn ⟨fun _ _ e => e, [], rfl, fun _ h => (nomatch h), .nil, .nil⟩
    (fun i acc H1 ⟨_, rs, e, _, _, w⟩ => by rw [e, List.length_map, Paired.length w]; simp) ?_ ?_
  · rintro i acc H1 hi ⟨s1, rs, rfl, r0, nd, w⟩ R kR
    refine hs i H1 hi s1 _ fun r H2 n0 s2 e2 => kR _ _ ⟨s1.trans s2, rs ++ [r], by simp, fun x hx => ?_, ?_, ?_⟩
    · rcases List.mem_append.mp hx with hx | hx
      · exact r0 x hx
      · rw [List.mem_singleton.mp hx]; exact none_of s1 n0
    · rw [List.nodup_append]
      refine ⟨nd, by simp, fun x hx y hy => ?_⟩
      rw [List.mem_singleton.mp hy]
      rintro rfl
      obtain ⟨k, hk⟩ := List.mem_iff_getElem?.mp hx
      obtain ⟨_, _, q⟩ := paired_get w hk
      rw [q] at n0; cases n0
    · rw [List.range_succ, List.map_append]
      exact Paired.snoc (Paired.mapP w fun _ _ q => s2 _ _ q) e2
  · rintro acc H1 ⟨s1, rs, rfl, r0, nd, w⟩ p hp
    have hne : ∀ x ∈ rs, x ≠ p := fun x hx e => by
      obtain ⟨k, hk⟩ := List.mem_iff_getElem?.mp hx
      obtain ⟨_, _, q⟩ := paired_get w hk
      rw [e, hp] at q; cases q
    refine hd p rs _ ⟨none_of s1 hp, r0, List.nodup_cons.mpr ⟨fun h => hne p h rfl, nd⟩, s1.trans (same_new hp _), upd_same, ?_⟩
    exact Paired.mapP w fun _ _ q => same_new hp _ _ _ q
/-- a comprehension over a range whose turns leave the heap -/
theorem comp_vals {n : Nat} {fr : List Nat} {te : TE} {σ : L2.St} {H : Hp} {Q : VK} (f : Nat → V) (hn : n ≤ sizeLine)
    (hs : ∀ i, i < n → ∀ R : VK, R (f i) H → te ((compSt σ fr).set 0 (some (.int (0 + (i : Int))))) H R)
    (hd : ∀ p, H p = none → Q (.ref p) (upd H p (.lst ((List.range n).map f)))) : CompGo fr tYes te σ Q (Itr 0 n) H := by
  refine comp_range (lo := 0) (n := n) (fun i acc H1 => H1 = H ∧ acc = (List.range i).map f) hn ⟨rfl, rfl⟩ (fun i acc H1 ⟨_, e⟩ => by rw [e]; simp) ?_ ?_
  · rintro i acc H1 hi ⟨rfl, rfl⟩ R kR
    exact hs i hi _ (kR _ _ ⟨rfl, by rw [List.range_succ, List.map_append]; rfl⟩)
  · rintro acc H1 ⟨rfl, rfl⟩ p hp
    exact hd p hp
def sp_total (_ : PySem.W.Frag) : Sp := fun vs H Q _ => ∃ x y : Option Int, vs = [ov x, ov y] ∧ Q (ov (tot x y)) H
def sp_lesser (_ : PySem.W.Frag) : Sp := fun vs H Q _ => ∃ x y : Option Int, vs = [ov x, ov y] ∧ Q (ov (les x y)) H
def sp_wide_row (_ : PySem.W.Frag) : Sp := fun vs H Q _ => ∃ (n : Nat) (a : Int), vs = [.int n, .int a] ∧ n ≤ 100 ∧ ∀ r, H r = none → Q (.ref r) (upd H r (.lst (((List.range n).map fun (j : Nat) => if a = (j : Int) then some (0 : Int) else none).map ov)))
def sp_wide (_ : PySem.W.Frag) : Sp := fun vs H Q _ => ∃ n : Nat, vs = [.int n] ∧ n ≤ 100 ∧ ∀ p rs H', NewT H H' p rs (wideT n) → Q (.ref p) H'
def sp_shuts (K : PySem.W.Frag) : Sp := fun vs H Q _ => ∃ (u p : Addr) (m : Bd) (rs : List Addr) (t : Tab) (n : Nat), vs = [.ref u, .ref p] ∧ SqT K H u (bv m) ∧ TabAt H p rs t ∧ Square n t ∧ inN m.1 n ∧ inN m.2.1 n ∧ Q (.bl (shutB t m)) H
def sp_held_row (K : PySem.W.Frag) : Sp := fun vs H Q _ => ∃ (u p : Addr) (a : Int) (m : Bd) (rs : List Addr) (t : Tab) (n : Nat), vs = [.ref p, .int a, .ref u] ∧ SqT K H u (bv m) ∧ TabAt H p rs t ∧ Square n t ∧ n ≤ 100 ∧ inN a n ∧ inN m.1 n ∧ inN m.2.1 n ∧ ∀ r, H r = none → Q (.ref r) (upd H r (.lst (((List.range n).map fun (j : Nat) => heldF t m a (j : Int)).map ov)))
def sp_held (K : PySem.W.Frag) : Sp := fun vs H Q _ => ∃ (u : Addr) (v : V) (m : Bd), vs = [v, .ref u] ∧ SqT K H u (bv m) ∧
  ((v = .non ∧ Q .non H) ∨ ∃ (p : Addr) (rs : List Addr) (t : Tab) (n : Nat), v = .ref p ∧ TabAt H p rs t ∧ Square n t ∧ n ≤ 100 ∧ inN m.1 n ∧ inN m.2.1 n ∧ (shutB t m = true → Q .non H) ∧ (shutB t m = false → ∀ p' rs' H', NewT H H' p' rs' (heldT n t m) → Q (.ref p') H'))
def sp_law_cells (K : PySem.W.Frag) : Sp := fun vs H Q _ => ∃ (a : Addr) (ns : List Int) (k m : Int), vs = [.ref a, .int k, .int m] ∧ SqL K H a (ns.map V.int) ∧ ns.length ≤ 63 ∧ 0 ≤ k ∧ k ≤ 50 ∧ 0 ≤ m ∧
  ∀ (r : Addr) (H' : Hp) (zs : List Int), Same H H' → H' r = some (.lst (zs.map V.int)) → 4 ≤ zs.length → zs.length ≤ 63 → Q (.ref r) H'
theorem same_upd {H H' : Hp} (s : Same H H') {p : Addr} (h : H p = none) (o : HO) : Same H (upd H' p o) := fun b x e => by
  rw [upd_ne (ne_of_none e h)]; exact s b x e
theorem same_refl (H : Hp) : Same H H := fun _ _ e => e
/-! a table's entry is written -/
/-- ways that go on alike, but for the heap and the names' values -/
theorem restJ {G : Prop} (C : Hp → L2.St → Prop) {P : Hp → L2.St → Prop} (h : (∀ H σ, C H σ → P H σ) → G) (r : ∀ H σ, C H σ → P H σ) : G := h r
/-- a table or none, told by table_of: all its lists are new -/
def IsTN (H H' : Hp) (v : V) (n : Nat) (bs : List Bd) : Prop := (v = .non ∧ NegR bs) ∨ ∃ p rs t, v = .ref p ∧ NewT H H' p rs t ∧ Right n bs t
theorem NewT.since {H H1 H2 : Hp} {p : Addr} {rs : List Addr} {t : Tab} (s : Same H H1) (N : NewT H1 H2 p rs t) : NewT H H2 p rs t := ⟨none_of s N.p0, fun r hr => none_of s (N.r0 r hr), N.nd, s.trans N.sm, N.tb⟩
theorem IsTN.since {H H1 H2 : Hp} {v : V} {n : Nat} {bs : List Bd} (s : Same H H1) (h : IsTN H1 H2 v n bs) : IsTN H H2 v n bs := h.imp id fun ⟨p, rs, t, e, N, R⟩ => ⟨p, rs, t, e, N.since s, R⟩
def sp_table_of (K : PySem.W.Frag) : Sp := fun vs H Q _ => ∃ (n : Nat) (r : Addr) (qs : List V) (bs : List Bd), vs = [.int n, .ref r] ∧ SqL K H r qs ∧ AreB H qs bs ∧ 1 ≤ n ∧ n ≤ 8 ∧ Within n bs ∧ bs.length ≤ 150 ∧ ∀ v H', Same H H' → IsTN H H' v n bs → Q v H'
/-- all but what stands at x is as it was -/
def But (x : Addr) (H H' : Hp) : Prop := ∀ b o, H b = some o → b ≠ x → H' b = some o
theorem at_ovW {os : List (Option Int)} {x : Int} (h0 : 0 ≤ x) (h1 : x < os.length) : atI (os.map ov) x = some (ov (os.getD x.toNat none)) := by
  have h : x.toNat < os.length := by omega
  refine atI_of h0 rfl ?_
  rw [List.getElem?_map, List.getElem?_eq_getElem h, List.getD_eq_getElem?_getD, List.getElem?_eq_getElem h]
  rfl
/-! ways: places of bounds -/
abbrev Wy := List (List (Option (List Int)))
def went (w : Wy) (a b : Int) : Option (List Int) := (w.getD a.toNat []).getD b.toNat none
def SqW (n : Nat) (w : Wy) : Prop := w.length = n ∧ ∀ r ∈ w, r.length = n
inductive Walk (bs : List Bd) : List Int → Int → Int → Int → Prop where
  | nil (a : Int) : Walk bs [] a a 0
  | cons {k : Int} {ps : List Int} {m : Bd} {b d : Int} (h0 : 0 ≤ k) (hm : bs[k.toNat]? = some m) (r : Walk bs ps m.2.1 b d) : Walk bs (k :: ps) m.1 b (m.2.2 + d)
def beg (bs : List Bd) (k : Int) : Int := ((bs[k.toNat]?).getD (0, 0, 0)).1
def begs (bs : List Bd) (ps : List Int) : List Int := ps.map (beg bs)
theorem Walk.trans {bs : List Bd} {ps qs : List Int} {a b c d e : Int} (p : Walk bs ps a b c) : Walk bs qs b d e → Walk bs (ps ++ qs) a d (c + e) := by
  induction p with
  | nil a => intro q; rw [Int.zero_add]; exact q
  | cons h0 hm r ih => intro q; rw [Int.add_assoc]; exact .cons h0 hm (ih q)
theorem Walk.one {bs : List Bd} {k : Int} {m : Bd} (h0 : 0 ≤ k) (hm : bs[k.toNat]? = some m) : Walk bs [k] m.1 m.2.1 m.2.2 := by
  have q := Walk.cons h0 hm (.nil m.2.1)
  rw [Int.add_zero] at q
  exact q
theorem Walk.path {bs : List Bd} {ps : List Int} {a b c : Int} (p : Walk bs ps a b c) : Path bs a b c := by
  induction p with
  | nil a => exact .nil a
  | cons h0 hm r ih => exact .cons (List.mem_of_getElem? hm) ih
theorem Walk.mono {bs cs : List Bd} (h : ∀ (k : Nat) m, bs[k]? = some m → cs[k]? = some m) {ps : List Int} {a b c : Int} (p : Walk bs ps a b c) : Walk cs ps a b c ∧ begs cs ps = begs bs ps := by
  induction p with
  | nil a => exact ⟨.nil a, rfl⟩
  | cons h0 hm r ih =>
    refine ⟨.cons h0 (h _ _ hm) ih.1, ?_⟩
    show beg cs _ :: begs cs _ = beg bs _ :: begs bs _
    rw [ih.2]
    unfold beg
    rw [hm, h _ _ hm]
theorem Walk.split {bs : List Bd} {ps : List Int} {a b c z : Int} (p : Walk bs ps a b c) : z ∈ begs bs ps ++ [b] → ∃ c1 c2, Path bs a z c1 ∧ Path bs z b c2 ∧ c = c1 + c2 := by
  induction p with
  | nil a =>
    intro h
    have : z = a := List.mem_singleton.mp h
    subst this
    exact ⟨0, 0, .nil _, .nil _, rfl⟩
  | @cons k ps m b d h0 hm r ih =>
    intro h
    have h' : z = beg bs k ∨ z ∈ begs bs ps ++ [b] := List.mem_cons.mp h
    rcases h' with h' | h'
    · have e : beg bs k = m.1 := by unfold beg; rw [hm]; rfl
      rw [h', e]
      exact ⟨0, m.2.2 + d, .nil _, .cons (List.mem_of_getElem? hm) r.path, by omega⟩
    · obtain ⟨c1, c2, h1, h2, h3⟩ := ih h'
      exact ⟨m.2.2 + c1, c2, .cons (List.mem_of_getElem? hm) h1, h2, by omega⟩
theorem Walk.inN {bs : List Bd} {n : Nat} (hw : Within n bs) {ps : List Int} {a b c : Int} (p : Walk bs ps a b c) : ∀ z ∈ begs bs ps, Toy.inN z n := by
  induction p with
  | nil a => intro z h; exact (nomatch h)
  | @cons k ps m b d h0 hm r ih =>
    intro z h
    rcases List.mem_cons.mp h with h | h
    · have e : beg bs k = m.1 := by unfold beg; rw [hm]; rfl
      rw [h, e]
      exact (hw m (List.mem_of_getElem? hm)).1
    · exact ih z h
theorem Walk.places {bs : List Bd} {ps : List Int} {a b c : Int} (p : Walk bs ps a b c) : ∀ k ∈ ps, 0 ≤ k ∧ k < bs.length := by
  induction p with
  | nil a => intro z h; exact (nomatch h)
  | @cons k ps m b d h0 hm r ih =>
    intro z h
    rcases List.mem_cons.mp h with h | h
    · rw [h]
      have := (List.getElem?_eq_some_iff.mp hm).1
      exact ⟨h0, by omega⟩
    · exact ih z h
theorem pigeon1 (n : Nat) : ∀ l : List Nat, l.Nodup → (∀ x ∈ l, x < n + 1) → l.length ≤ (l.filter fun x => decide (x < n)).length + 1
  | [], _, _ => by simp
  | a :: l, nd, h => by
    have nd' := List.nodup_cons.mp nd
    by_cases c : a < n
    · rw [List.filter_cons_of_pos (by simpa using c)]
      have := pigeon1 n l nd'.2 fun x hx => h x (List.mem_cons_of_mem _ hx)
      simp only [List.length_cons]
      omega
    · have ha : a = n := by have := h a (List.mem_cons_self ..); omega
      have e : (a :: l).filter (fun x => decide (x < n)) = l := by
        rw [List.filter_cons_of_neg (by simpa using c), List.filter_eq_self]
        intro x hx
        have h1 := h x (List.mem_cons_of_mem _ hx)
        have h2 : x ≠ n := fun e => nd'.1 (by rw [ha, ← e]; exact hx)
        simp; omega
      rw [e]; simp
theorem pigeonN : ∀ (n : Nat) (l : List Nat), l.Nodup → (∀ x ∈ l, x < n) → l.length ≤ n
  | 0, l, _, h => by
    cases l with
    | nil => simp
    | cons a l => exact absurd (h a (List.mem_cons_self ..)) (by omega)
  | n + 1, l, nd, h => by
    have h1 := pigeon1 n l nd h
    have h2 := pigeonN n (l.filter fun x => decide (x < n)) (nd.filter _) fun x hx => by have := (List.mem_filter.mp hx).2; simpa using this
    omega
theorem nodup_toNat : ∀ (l : List Int), l.Nodup → (∀ z ∈ l, 0 ≤ z) → (l.map Int.toNat).Nodup
  | [], _, _ => .nil
  | a :: l, nd, h => by
    have nd' := List.nodup_cons.mp nd
    rw [List.map_cons, List.nodup_cons]
    refine ⟨fun hm => ?_, nodup_toNat l nd'.2 fun z hz => h z (List.mem_cons_of_mem _ hz)⟩
    obtain ⟨z, hz, e⟩ := List.mem_map.mp hm
    have h1 := h a (List.mem_cons_self ..)
    have h2 := h z (List.mem_cons_of_mem _ hz)
    have : z = a := by omega
    exact nd'.1 (this ▸ hz)
theorem pigeon {n : Nat} {l : List Int} (nd : l.Nodup) (h : ∀ z ∈ l, inN z n) : l.length ≤ n := by
  have := pigeonN n (l.map Int.toNat) (nodup_toNat l nd fun z hz => (h z hz).1) fun x hx => by
    obtain ⟨z, hz, e⟩ := List.mem_map.mp hx
    have := (h z hz).1; have := (h z hz).2
    omega
  rwa [List.length_map] at this
def WayOk (n : Nat) (bs : List Bd) (t : Tab) (w : Wy) : Prop := ∀ a b, inN a n → inN b n → (ent t a b = none ∧ went w a b = none) ∨ ∃ e ps, ent t a b = some e ∧ went w a b = some ps ∧ Walk bs ps a b e ∧ (begs bs ps ++ [b]).Nodup
theorem way_len {n : Nat} {bs : List Bd} (hw : Within n bs) {ps : List Int} {a b c : Int} (hb : inN b n) (p : Walk bs ps a b c) (nd : (begs bs ps ++ [b]).Nodup) : ps.length < n := by
  have h := pigeon nd fun z hz => by
    rcases List.mem_append.mp hz with hz | hz
    · exact p.inN hw z hz
    · rw [List.mem_singleton.mp hz]; exact hb
  rw [List.length_append] at h
  unfold begs at h
  rw [List.length_map] at h
  have : ([b] : List Int).length = 1 := rfl
  omega
def newW (w : Wy) (m : Bd) (k a b : Int) : Option (List Int) := match went w a m.1, went w m.2.1 b with
  | some p, some q => some (p ++ [k] ++ q)
  | _, _ => none
def mkW (n : Nat) (f : Int → Int → Option (List Int)) : Wy := (List.range n).map fun (i : Nat) => (List.range n).map fun (j : Nat) => f (i : Int) (j : Int)
theorem mkW_sq (n : Nat) (f : Int → Int → Option (List Int)) : SqW n (mkW n f) := by
  refine ⟨by unfold mkW; simp, fun r hr => ?_⟩
  unfold mkW at hr
  obtain ⟨i, _, e⟩ := List.mem_map.mp hr
  rw [← e]; simp
theorem mkW_ent {n : Nat} (f : Int → Int → Option (List Int)) {a b : Int} (ha : inN a n) (hb : inN b n) : went (mkW n f) a b = f a b := by
  obtain ⟨i, rfl⟩ : ∃ i : Nat, a = (i : Int) := ⟨a.toNat, by have := ha.1; omega⟩
  obtain ⟨j, rfl⟩ : ∃ j : Nat, b = (j : Int) := ⟨b.toNat, by have := hb.1; omega⟩
  have hi : i < n := by have := ha.2; omega
  have hj : j < n := by have := hb.2; omega
  unfold went mkW
  rw [Int.toNat_natCast, Int.toNat_natCast]
  simp [List.getD_eq_getElem?_getD, hi, hj]
/-- the ways with one bound more -/
def stepW (n : Nat) (t : Tab) (w : Wy) (m : Bd) (k : Int) : Wy := mkW n fun a b => if !decide (ent t a b = heldF t m a b) then newW w m k a b else went w a b
theorem ext_bs {bs : List Bd} {m : Bd} : ∀ (k : Nat) x, bs[k]? = some x → (bs ++ [m])[k]? = some x := fun k x h => by
  rw [List.getElem?_append_left (List.getElem?_eq_some_iff.mp h).1]; exact h
theorem last_bs {bs : List Bd} {m : Bd} : (bs ++ [m])[((bs.length : Nat) : Int).toNat]? = some m := by
  rw [Int.toNat_natCast, List.getElem?_append_right (Nat.le_refl _), Nat.sub_self]; rfl
theorem step_new {n : Nat} {bs : List Bd} {t : Tab} {w : Wy} {m : Bd} (R : Right n bs t) (hw : Within n (bs ++ [m])) (hs : shutB t m = false) (W : WayOk n bs t w) {a b : Int} (ha : inN a n) (hb : inN b n) (hne : ent t a b ≠ heldF t m a b) :
    ∃ e e1 e2 ps qs, heldF t m a b = some e ∧ e = e1 + m.2.2 + e2 ∧ went w a m.1 = some ps ∧ went w m.2.1 b = some qs ∧ Walk bs ps a m.1 e1 ∧ Walk bs qs m.2.1 b e2 ∧ (begs bs ps ++ [m.1]).Nodup ∧ (begs bs qs ++ [b]).Nodup ∧ ∀ z ∈ begs bs ps ++ [m.1], ∀ y ∈ begs bs qs ++ [b], z ≠ y := by
  have hm := hw m (List.mem_append_right _ (List.mem_singleton.mpr rfl))
  cases ho : heldF t m a b with
  | none =>
    cases e0 : ent t a b with
    | none => rw [ho, e0] at hne; exact absurd rfl hne
    | some e =>
      obtain ⟨f, h1, _⟩ := held_old (m := m) e0
      rw [ho] at h1; cases h1
  | some e =>
    rcases held_from ho with h | ⟨e1, e2, f1, f2, f3⟩
    · rw [ho, h] at hne; exact absurd rfl hne
    · rcases W a m.1 ha hm.1 with ⟨h, _⟩ | ⟨e1', ps, g1, g2, g3, g4⟩
      · rw [f1] at h; cases h
      rcases W m.2.1 b hm.2 hb with ⟨h, _⟩ | ⟨e2', qs, k1, k2, k3, k4⟩
      · rw [f2] at h; cases h
      rw [f1] at g1; cases g1
      rw [f2] at k1; cases k1
      refine ⟨e, e1, e2, ps, qs, rfl, f3, g2, k2, g3, k3, g4, k4, ?_⟩
      rintro z hz y hy rfl
      obtain ⟨p1, p2, u1, u2, u3⟩ := g3.split hz
      obtain ⟨q1, q2, v1, v2, v3⟩ := k3.split hy
      obtain ⟨f, w1, w2⟩ := R.low _ _ _ hm.2 hm.1 (v1.trans u2)
      obtain ⟨g, x1, x2⟩ := R.low _ _ _ ha hb (u1.trans v2)
      unfold shutB at hs
      rw [w1] at hs
      have hs' : ¬ f + m.2.2 < 0 := of_decide_eq_false hs
      have hho := ho
      unfold heldF at hho
      rw [x1, f1, f2] at hho
      have hh : (if e1 + m.2.2 + e2 < g then e1 + m.2.2 + e2 else g) = e := Option.some.inj hho
      rw [if_neg (by omega)] at hh
      rw [ho, x1, hh] at hne
      exact hne rfl
theorem step_ok {n : Nat} {bs : List Bd} {t : Tab} {w : Wy} {m : Bd} (R : Right n bs t) (hw : Within n (bs ++ [m])) (hs : shutB t m = false) (W : WayOk n bs t w) : WayOk n (bs ++ [m]) (heldT n t m) (stepW n t w m bs.length) := fun a b ha hb => by
  have hm := hw m (List.mem_append_right _ (List.mem_singleton.mpr rfl))
  unfold heldT stepW
  rw [mkT_ent _ ha hb, mkW_ent _ ha hb]
  by_cases c : ent t a b = heldF t m a b
  · rw [decide_eq_true c]
    rw [← c]
    rcases W a b ha hb with ⟨h1, h2⟩ | ⟨e, ps, h1, h2, h3, h4⟩
    · exact .inl ⟨h1, h2⟩
    · have q := h3.mono (cs := bs ++ [m]) ext_bs
      exact .inr ⟨e, ps, h1, h2, q.1, by rw [q.2]; exact h4⟩
  · rw [decide_eq_false c]
    obtain ⟨e, e1, e2, ps, qs, h1, h2, h3, h4, h5, h6, h7, h8, h9⟩ := step_new R hw hs W ha hb c
    have q1 := h5.mono (cs := bs ++ [m]) ext_bs
    have q2 := h6.mono (cs := bs ++ [m]) ext_bs
    have q0 : Walk (bs ++ [m]) [((bs.length : Nat) : Int)] m.1 m.2.1 m.2.2 := Walk.one (by omega) last_bs
    refine .inr ⟨e, ps ++ [((bs.length : Nat) : Int)] ++ qs, h1, ?_, ?_, ?_⟩
    · show newW w m _ a b = _
      unfold newW
      rw [h3, h4]
    · rw [h2]; exact (q1.1.trans q0).trans q2.1
    · have eb : begs (bs ++ [m]) (ps ++ [((bs.length : Nat) : Int)] ++ qs) ++ [b] = (begs bs ps ++ [m.1]) ++ (begs bs qs ++ [b]) := by
        have e0 : beg (bs ++ [m]) ((bs.length : Nat) : Int) = m.1 := by unfold beg; rw [last_bs]; rfl
        rw [← q1.2, ← q2.2]
        unfold begs
        simp [e0]
      rw [eb, List.nodup_append]
      exact ⟨h7, h8, h9⟩
/-- a ring below 0 -/
def RingOk (n : Nat) (bs : List Bd) (ps : List Int) : Prop := ∃ x c, c < 0 ∧ inN x n ∧ Walk bs ps x x c ∧ (begs bs ps).Nodup
theorem shut_ring {n : Nat} {bs : List Bd} {t : Tab} {w : Wy} {m : Bd} (hw : Within n (bs ++ [m])) (hs : shutB t m = true) (W : WayOk n bs t w) : ∃ ps, went w m.2.1 m.1 = some ps ∧ RingOk n (bs ++ [m]) (((bs.length : Nat) : Int) :: ps) ∧ ps.length < n := by
  have hm := hw m (List.mem_append_right _ (List.mem_singleton.mpr rfl))
  unfold shutB at hs
  rcases W m.2.1 m.1 hm.2 hm.1 with ⟨h, _⟩ | ⟨e, ps, h1, h2, h3, h4⟩
  · rw [h] at hs; cases hs
  · rw [h1] at hs
    have hs' : e + m.2.2 < 0 := of_decide_eq_true hs
    have q := h3.mono (cs := bs ++ [m]) ext_bs
    have e0 : beg (bs ++ [m]) ((bs.length : Nat) : Int) = m.1 := by unfold beg; rw [last_bs]; rfl
    refine ⟨ps, h2, ⟨m.1, m.2.2 + e, by omega, hm.1, .cons (by omega) last_bs q.1, ?_⟩, way_len (fun x hx => hw x (List.mem_append_left _ hx)) hm.1 h3 h4⟩
    show (beg (bs ++ [m]) _ :: begs (bs ++ [m]) ps).Nodup
    rw [e0, q.2]
    rw [List.nodup_append] at h4
    exact List.nodup_cons.mpr ⟨fun h => h4.2.2 m.1 h m.1 (List.mem_singleton.mpr rfl) rfl, h4.1⟩
theorem first_ok (n : Nat) : WayOk n [] (wideT n) (mkW n fun a b => if a = b then some [] else none) := fun a b ha hb => by
  unfold wideT
  rw [mkT_ent _ ha hb, mkW_ent _ ha hb]
  by_cases c : a = b
  · subst c
    rw [if_pos rfl, if_pos rfl]
    exact .inr ⟨0, [], rfl, rfl, .nil a, by simp [begs]⟩
  · rw [if_neg c, if_neg c]; exact .inl ⟨rfl, rfl⟩
/-! ways in the heap; H0: all of their lists are newer than it -/
def WayV (H0 H : Hp) (v : V) : Option (List Int) → Prop
  | none => v = .non
  | some ps => ∃ l, v = .ref l ∧ H l = some (.lst (ps.map V.int)) ∧ H0 l = none
def RowW (H0 H : Hp) (r : Addr) (row : List (Option (List Int))) : Prop := ∃ vs, H r = some (.lst vs) ∧ Paired (WayV H0 H) vs row
def WaysAt (H0 H : Hp) (p : Addr) (w : Wy) : Prop := ∃ rs : List Addr, H p = some (.lst (rs.map V.ref)) ∧ Paired (RowW H0 H) rs w
theorem WayV.same {H0 H H' : Hp} (s : Same H H') {v : V} {o : Option (List Int)} (h : WayV H0 H v o) : WayV H0 H' v o := by
  cases o with
  | none => exact h
  | some ps => obtain ⟨l, h1, h2, h3⟩ := h; exact ⟨l, h1, s _ _ h2, h3⟩
theorem WayV.base {H0 H1 H : Hp} (s : Same H0 H1) {v : V} {o : Option (List Int)} (h : WayV H1 H v o) : WayV H0 H v o := by
  cases o with
  | none => exact h
  | some ps => obtain ⟨l, h1, h2, h3⟩ := h; exact ⟨l, h1, h2, none_of s h3⟩
theorem RowW.same {H0 H H' : Hp} (s : Same H H') {r : Addr} {row : List (Option (List Int))} (h : RowW H0 H r row) : RowW H0 H' r row := by
  obtain ⟨vs, h1, h2⟩ := h
  exact ⟨vs, s _ _ h1, Paired.mapP h2 fun _ _ q => q.same s⟩
theorem WaysAt.same {H0 H H' : Hp} (s : Same H H') {p : Addr} {w : Wy} (h : WaysAt H0 H p w) : WaysAt H0 H' p w := by
  obtain ⟨rs, h1, h2⟩ := h
  exact ⟨rs, s _ _ h1, Paired.mapP h2 fun _ _ q => q.same s⟩
theorem paired_at {α β : Type} {F : α → β → Prop} : ∀ {l₁ : List α} {l₂ : List β} {i : Nat} {y : β}, Paired F l₁ l₂ → l₂[i]? = some y → ∃ x, l₁[i]? = some x ∧ F x y
  | _, _, _, _, .nil, e => by simp at e
  | _, _, 0, _, .cons r _, e => by simp at e; subst e; exact ⟨_, rfl, r⟩
  | _, _, i + 1, y, .cons _ t, e => by
    obtain ⟨x, h1, h2⟩ := paired_at (i := i) (y := y) t (by simpa using e)
    exact ⟨x, by simpa using h1, h2⟩
theorem WaysAt.at {H0 H : Hp} {p : Addr} {w : Wy} {n : Nat} (T : WaysAt H0 H p w) (S : SqW n w) {a b : Int} (ha : inN a n) (hb : inN b n) :
    ∃ (rs : List Addr) (r : Addr) (vs : List V) (v : V), H p = some (.lst (rs.map V.ref)) ∧ atI (rs.map V.ref) a = some (.ref r) ∧ H r = some (.lst vs) ∧ atI vs b = some v ∧ WayV H0 H v (went w a b) := by
  obtain ⟨rs, h1, h2⟩ := T
  have l1 : a.toNat < w.length := by have := ha.1; have := ha.2; have := S.1; omega
  obtain ⟨r, g1, vs, g2, g3⟩ := paired_at h2 (List.getElem?_eq_getElem l1)
  have l2 : b.toNat < (w[a.toNat]).length := by have := S.2 _ (List.getElem_mem l1); have := hb.1; have := hb.2; omega
  obtain ⟨v, k1, k2⟩ := paired_at g3 (List.getElem?_eq_getElem l2)
  refine ⟨rs, r, vs, v, h1, atI_of ha.1 rfl (by rw [List.getElem?_map, g1]; rfl), g2, atI_of hb.1 rfl k1, ?_⟩
  have e : went w a b = w[a.toNat][b.toNat] := by
    unfold went
    simp only [List.getD_eq_getElem?_getD]
    rw [List.getElem?_eq_getElem l1, Option.getD_some, List.getElem?_eq_getElem l2, Option.getD_some]
  rw [e]; exact k2
theorem WaysAt.len {H0 H : Hp} {p : Addr} {w : Wy} {n : Nat} (T : WaysAt H0 H p w) (S : SqW n w) : ∃ rs : List Addr, H p = some (.lst (rs.map V.ref)) ∧ (rs.map V.ref).length = n := by
  obtain ⟨rs, h1, h2⟩ := T
  exact ⟨rs, h1, by rw [List.length_map, Paired.length h2]; exact S.1⟩
/-- a comprehension over a range that makes a row of ways in each turn -/
theorem comp_wrows {n : Nat} {fr : List Nat} {te : TE} {σ : L2.St} {H0 H : Hp} {Q : VK} (f : Nat → List (Option (List Int))) (hn : n ≤ sizeLine)
    (hs : ∀ i H1, i < n → Same H H1 → ∀ R : VK, (∀ r H2, Same H1 H2 → RowW H0 H2 r (f i) → R (.ref r) H2) → te ((compSt σ fr).set 0 (some (.int (0 + (i : Int))))) H1 R)
    (hd : ∀ p H', Same H H' → WaysAt H0 H' p ((List.range n).map f) → Q (.ref p) H') : CompGo fr tYes te σ Q (Itr 0 n) H := by
  refine comp_range (lo := 0) (n := n) (fun i acc H1 => Same H H1 ∧ ∃ rs : List Addr, acc = rs.map V.ref ∧ Paired (RowW H0 H1) rs ((List.range i).map f)) hn ⟨fun _ _ e => e, [], rfl, .nil⟩
    (fun i acc H1 ⟨_, rs, e, w⟩ => by rw [e, List.length_map, Paired.length w]; simp) ?_ ?_
  · rintro i acc H1 hi ⟨s1, rs, rfl, w⟩ R kR
    refine hs i H1 hi s1 _ fun r H2 s2 e2 => kR _ _ ⟨s1.trans s2, rs ++ [r], by simp, ?_⟩
    rw [List.range_succ, List.map_append]
    exact Paired.snoc (Paired.mapP w fun _ _ q => q.same s2) e2
  · rintro acc H1 ⟨s1, rs, rfl, w⟩ p hp
    exact hd p _ (s1.trans (same_new hp _)) ⟨rs, upd_same, Paired.mapP w fun _ _ q => q.same (same_new hp _)⟩
def sp_first_ways (_ : PySem.W.Frag) : Sp := fun vs H Q _ => ∃ (r : Addr) (row : List (Option Int)), vs = [.ref r] ∧ H r = some (.lst (row.map ov)) ∧ row.length ≤ 100 ∧ ∀ r' H', Same H H' → RowW H H' r' (row.map fun o => o.map fun _ => []) → Q (.ref r') H'
def sp_narrowed (_ : PySem.W.Frag) : Sp := fun vs H Q _ => ∃ (r1 r2 : Addr) (row1 row2 : List (Option Int)) (n : Nat), vs = [.ref r1, .ref r2] ∧ H r1 = some (.lst (row1.map ov)) ∧ H r2 = some (.lst (row2.map ov)) ∧ row1.length = n ∧ row2.length = n ∧ n ≤ 100 ∧ ∀ r, H r = none → Q (.ref r) (upd H r (.lst ((List.range n).map fun j => V.bl (!decide (row1.getD j none = row2.getD j none)))))
def sp_by_way (_ : PySem.W.Frag) : Sp := fun vs H Q _ => ∃ (H0 : Hp) (p u : Addr) (w : Wy) (n : Nat) (m : Bd) (a b k : Int) (ps qs : List Int), vs = [.ref p, .int a, .int b, .ref u, .int k] ∧ WaysAt H0 H p w ∧ SqW n w ∧ H u = some (.tup (bv m)) ∧ inN a n ∧ inN b n ∧ inN m.1 n ∧ inN m.2.1 n ∧ went w a m.1 = some ps ∧ went w m.2.1 b = some qs ∧ ps.length ≤ 100 ∧ qs.length ≤ 100 ∧ ∀ l H', Same H H' → H l = none → H' l = some (.lst ((ps ++ [k] ++ qs).map V.int)) → Q (.ref l) H'
def sp_led (_ : PySem.W.Frag) : Sp := fun vs H Q _ => ∃ (H0 : Hp) (p u rc : Addr) (w : Wy) (n : Nat) (m : Bd) (a k : Int) (ch : Nat → Bool), vs = [.ref p, .int a, .ref u, .int k, .ref rc] ∧ Same H0 H ∧ WaysAt H0 H p w ∧ SqW n w ∧ n ≤ 100 ∧ H u = some (.tup (bv m)) ∧ inN a n ∧ inN m.1 n ∧ inN m.2.1 n ∧ H rc = some (.lst ((List.range n).map fun j => V.bl (ch j))) ∧ (∀ j : Nat, j < n → ch j = true → ∃ ps qs, went w a m.1 = some ps ∧ went w m.2.1 (j : Int) = some qs ∧ ps.length ≤ 100 ∧ qs.length ≤ 100) ∧
  ∀ r H', Same H H' → RowW H0 H' r ((List.range n).map fun (j : Nat) => if ch j then newW w m k a (j : Int) else went w a (j : Int)) → Q (.ref r) H'
def sp_search (K : PySem.W.Frag) : Sp := fun vs H Q _ => ∃ (n : Nat) (r : Addr) (qs : List V) (bs : List Bd), vs = [.int n, .ref r] ∧ SqL K H r qs ∧ AreB H qs bs ∧ 1 ≤ n ∧ n ≤ 8 ∧ Within n bs ∧ bs.length ≤ 150 ∧
  (∀ u l ps H', Same H H' → H' u = some (.tup [.non, .ref l]) → H' l = some (.lst (ps.map V.int)) → H l = none → RingOk n bs ps → ps.length ≤ n → NegR bs → Q (.ref u) H') ∧
  ∀ u p w t H', Same H H' → H' u = some (.tup [.ref p, .non]) → WaysAt H H' p w → SqW n w → Right n bs t → WayOk n bs t w → Q (.ref u) H'
theorem ov_inj {x y : Option Int} : (ov x = ov y) ↔ x = y := by
  cases x <;> cases y
  · exact ⟨fun _ => rfl, fun _ => rfl⟩
  · exact ⟨fun h => (nomatch h), fun h => (nomatch h)⟩
  · exact ⟨fun h => (nomatch h), fun h => (nomatch h)⟩
  · exact ⟨fun h => by have := V.int.inj h; rw [this], fun h => by rw [h]⟩
theorem scal_ov (x y : Option Int) : scal (ov x) (ov y) = true := by cases x <;> cases y <;> rfl
theorem way_self {bs : List Bd} {ps : List Int} {a b e : Int} (p : Walk bs ps a b e) (nd : (begs bs ps ++ [b]).Nodup) (h : a = b) : ps = [] := by
  cases p with
  | nil => rfl
  | @cons k ps m _ d h0 hm r =>
    have e0 : beg bs k = m.1 := by unfold beg; rw [hm]; rfl
    have nd' : (beg bs k :: (begs bs ps ++ [b])).Nodup := nd
    rw [e0, h] at nd'
    exact absurd (List.mem_append_right _ (List.mem_singleton.mpr rfl)) (List.nodup_cons.mp nd').1
/-- a chain told by its places, or None -/
def IsC (H H' : Hp) (v : V) (n : Nat) (bs : List Bd) (a b : Int) : Prop := (v = .non ∧ NegR bs) ∨ ∃ t, Right n bs t ∧ ((v = .non ∧ ent t a b = none) ∨ ∃ l ps e, v = .ref l ∧ H' l = some (.lst (ps.map V.int)) ∧ H l = none ∧ ent t a b = some e ∧ Walk bs ps a b e ∧ (begs bs ps ++ [b]).Nodup)
def sp_chain (K : PySem.W.Frag) : Sp := fun vs H Q _ => ∃ (n : Nat) (r : Addr) (qs : List V) (bs : List Bd) (a b : Int), vs = [.int n, .ref r, .int a, .int b] ∧ SqL K H r qs ∧ AreB H qs bs ∧ 1 ≤ n ∧ n ≤ 8 ∧ Within n bs ∧ bs.length ≤ 150 ∧ inN a n ∧ inN b n ∧ ∀ v H', Same H H' → IsC H H' v n bs a b → Q v H'
/-! houses: gaps by their names, in the heap -/
abbrev Gp := Int × Int × Option Int × Option Int
def gv (g : Gp) : List V := [.int g.1, .int g.2.1, ov g.2.2.1, ov g.2.2.2]
def gbs (g : Gp) : List Bd := bnds g.1 g.2.1 g.2.2.1 g.2.2.2
def GapsIn (H : Hp) : List (Key × V) → List (Str × Gp) → Prop := Paired fun kv g => kv.1 = Sum.inr g.1 ∧ ∃ p, kv.2 = .ref p ∧ H p = some (.tup (gv g.2))
/-- the bounds of gaps, gap by gap -/
def allB (gs : List (Str × Gp)) : List Bd := gs.flatMap fun g => gbs g.2
def gnames (gs : List (Str × Gp)) : List Str := gs.map (·.1)
theorem GapsIn.keep {H H' : Hp} {kvs : List (Key × V)} {gs : List (Str × Gp)} (h : GapsIn H kvs gs) (k : ∀ p xs, H p = some (.tup xs) → H' p = some (.tup xs)) : GapsIn H' kvs gs := Paired.mapP h fun _ _ ⟨e, p, e2, q⟩ => ⟨e, p, e2, k _ _ q⟩
theorem GapsIn.same {H H' : Hp} {kvs : List (Key × V)} {gs : List (Str × Gp)} (s : Same H H') (h : GapsIn H kvs gs) : GapsIn H' kvs gs := h.keep fun _ _ q => s _ _ q
theorem GapsIn.len {H : Hp} {kvs : List (Key × V)} {gs : List (Str × Gp)} (h : GapsIn H kvs gs) : kvs.length = gs.length := Paired.length h
theorem GapsIn.val_none {H : Hp} {nm : Str} : ∀ {kvs : List (Key × V)} {gs : List (Str × Gp)}, GapsIn H kvs gs → ¬ nm ∈ gnames gs → valV kvs (Sum.inr nm : Key) = none
  | _, _, .nil, _ => rfl
  | _, _, .cons ⟨e, _⟩ t, h => by
    rw [valV_neg (fun z => h (by rw [e] at z; cases z; exact List.mem_cons_self ..))]
    exact GapsIn.val_none t fun z => h (List.mem_cons_of_mem _ z)
theorem GapsIn.val_some {H : Hp} {nm : Str} : ∀ {kvs : List (Key × V)} {gs : List (Str × Gp)}, GapsIn H kvs gs → nm ∈ gnames gs → ∃ p g, (nm, g) ∈ gs ∧ valV kvs (Sum.inr nm : Key) = some (.ref p) ∧ H p = some (.tup (gv g))
  | _, _, .nil, h => by cases h
  | _, g :: gs, .cons ⟨e, p, e2, q⟩ t, h => by
    by_cases c : g.1 = nm
    · refine ⟨p, g.2, ?_, ?_, q⟩
      · rw [← c]; exact List.mem_cons_self ..
      · rw [valV_pos (by rw [e, c]), e2]
    · have h' : nm ∈ gnames gs := by
        rcases List.mem_cons.mp h with z | z
        · exact absurd z.symm c
        · exact z
      obtain ⟨p', g', m, v, q'⟩ := GapsIn.val_some t h'
      exact ⟨p', g', List.mem_cons_of_mem _ m, by rw [valV_neg (fun z => c (by rw [e] at z; cases z; rfl))]; exact v, q'⟩
/-- the gaps without the one by the name -/
def gdrop (nm : Str) (gs : List (Str × Gp)) : List (Str × Gp) := gs.filter fun g => decide (g.1 ≠ nm)
theorem GapsIn.drop {H : Hp} {nm : Str} : ∀ {kvs : List (Key × V)} {gs : List (Str × Gp)}, GapsIn H kvs gs → GapsIn H (dropK kvs (Sum.inr nm : Key)) (gdrop nm gs)
  | _, _, .nil => .nil
  | _, g :: gs, .cons ⟨e, r⟩ t => by
    have ih := GapsIn.drop (nm := nm) t
    by_cases c : g.1 = nm
    · rw [dropK_pos (by rw [e, c])]
      unfold gdrop
      rw [List.filter_cons_of_neg (by simpa using c)]
      exact ih
    · rw [dropK_neg (fun z => c (by rw [e] at z; cases z; rfl))]
      unfold gdrop
      rw [List.filter_cons_of_pos (by simpa using c)]
      exact .cons ⟨e, r⟩ ih
theorem gdrop_len (nm : Str) (gs : List (Str × Gp)) : (gdrop nm gs).length ≤ gs.length := List.length_filter_le _ _
theorem gdrop_mem {nm : Str} {gs : List (Str × Gp)} {g : Str × Gp} (h : g ∈ gdrop nm gs) : g ∈ gs := (List.mem_filter.mp h).1
theorem GapsIn.snoc {H : Hp} {kvs : List (Key × V)} {gs : List (Str × Gp)} {nm : Str} {g : Gp} {p : Addr} (h : GapsIn H kvs gs) (hp : H p = some (.tup (gv g))) : GapsIn H (kvs ++ [(Sum.inr nm, .ref p)]) (gs ++ [(nm, g)]) := Paired.snoc h ⟨rfl, p, rfl, hp⟩
theorem f_cg : ¬ (("count" : Str) = "gaps") := by decide +kernel
def fldh (n : Nat) (d : Addr) : List (Str × V) := putF "gaps" (.ref d) (putF "count" (.int n) [])
theorem fldh_gaps (n : Nat) (d : Addr) : (fldh n d).lookup ("gaps" : Str) = some (.ref d) := by
  unfold fldh
  rw [lookup_putF, if_pos rfl]
theorem fldh_count (n : Nat) (d : Addr) : (fldh n d).lookup ("count" : Str) = some (.int n) := by
  unfold fldh
  rw [lookup_putF, if_neg f_cg, lookup_putF, if_pos rfl]
theorem fldh_no (n : Nat) (d : Addr) {m : Str} (h0 : ¬ m = "gaps") (h1 : ¬ m = "count") : (fldh n d).lookup m = none := by
  unfold fldh
  rw [lookup_putF, if_neg h0, lookup_putF, if_neg h1]
  all_goals rfl
structure HouseAt (C : Addr) (H : Hp) (x d : Addr) (n : Nat) (gs : List (Str × Gp)) : Prop where
  ob : ∃ dx, H x = some (.ins C dx (fldh n d))
  dc : ∃ kvs, H d = some (.dK kvs) ∧ GapsIn H kvs gs
theorem HouseAt.same {C : Addr} {H H' : Hp} {x d : Addr} {n : Nat} {gs : List (Str × Gp)} (s : Same H H') (W : HouseAt C H x d n gs) : HouseAt C H' x d n gs := by
  obtain ⟨dx, h⟩ := W.ob
  obtain ⟨kvs, h1, h2⟩ := W.dc
  exact ⟨⟨dx, s _ _ h⟩, kvs, s _ _ h1, h2.same s⟩
def sp_House___init__ (_ : PySem.W.Frag) (cl : Cl) : Sp := fun vs H Q _ => ∃ (x dx : Addr) (n : Nat), vs = [.ref x, .int n] ∧ H x = some (.ins cl.House dx []) ∧ ∀ d H', HouseAt cl.House H' x d n [] → But x H H' → H d = none → Q .non H'
def sp_House_need (_ : PySem.W.Frag) (cl : Cl) : Sp := fun vs H Q _ => ∃ (x d : Addr) (n : Nat) (gs : List (Str × Gp)) (nm : Str), vs = [.ref x, .str nm] ∧ HouseAt cl.House H x d n gs ∧ nm ∈ gnames gs ∧ Q .non H
def sp_House_add (_ : PySem.W.Frag) (cl : Cl) : Sp := fun vs H Q _ => ∃ (x d : Addr) (n : Nat) (gs : List (Str × Gp)) (nm : Str) (g : Gp), vs = [.ref x, .str nm, .int g.1, .int g.2.1, ov g.2.2.1, ov g.2.2.2] ∧ HouseAt cl.House H x d n gs ∧ ¬ nm ∈ gnames gs ∧ gs.length ≤ 100 ∧
  ∀ H', HouseAt cl.House H' x d n (gs ++ [(nm, g)]) → But d H H' → Q .non H'
def sp_House_drop (_ : PySem.W.Frag) (cl : Cl) : Sp := fun vs H Q _ => ∃ (x d : Addr) (n : Nat) (gs : List (Str × Gp)) (nm : Str), vs = [.ref x, .str nm] ∧ HouseAt cl.House H x d n gs ∧ nm ∈ gnames gs ∧ ∀ H', HouseAt cl.House H' x d n (gdrop nm gs) → But d H H' → Q .non H'
def sp_House_table (_ : PySem.W.Frag) (cl : Cl) : Sp := fun vs H Q _ => ∃ (x d : Addr) (n : Nat) (gs : List (Str × Gp)), vs = [.ref x] ∧ HouseAt cl.House H x d n gs ∧ 1 ≤ n ∧ n ≤ 8 ∧ Within n (allB gs) ∧ gs.length ≤ 64 ∧ ∀ v H', Same H H' → IsTN H H' v n (allB gs) → Q v H'
def sp_all_bounds (_ : PySem.W.Frag) : Sp := fun vs H Q _ => ∃ (d : Addr) (kvs : List (Key × V)) (gs : List (Str × Gp)), vs = [.ref d] ∧ H d = some (.dK kvs) ∧ GapsIn H kvs gs ∧ gs.length ≤ 64 ∧
  ∀ (r : Addr) (H' : Hp) (qs : List V), H r = none → Same H H' → H' r = some (.lst qs) → AreB H' qs (allB gs) → Q (.ref r) H'
theorem gbs_len (g : Gp) : (gbs g).length ≤ 2 := by
  obtain ⟨a, b, lo, hi⟩ := g
  unfold gbs bnds
  cases lo <;> cases hi <;> simp [hiB, loB]
theorem allB_len : ∀ gs : List (Str × Gp), (allB gs).length ≤ 2 * gs.length
  | [] => Nat.le_refl _
  | g :: gs => by
    have := allB_len gs
    have h2 := gbs_len g.2
    unfold allB at *
    rw [List.flatMap_cons, List.length_append, List.length_cons]
    omega
theorem valV_get {κ : Type} [DecidableEq κ] : ∀ {kvs : List (κ × V)} {i : Nat} {k : κ} {v : V}, (kvs.map (·.1)).Nodup → kvs[i]? = some (k, v) → valV kvs k = some v
  | [], _, _, _, _, e => by simp at e
  | p :: r, 0, k, v, _, e => by
    simp at e; subst e
    exact valV_pos rfl
  | p :: r, i + 1, k, v, h, e => by
    simp at e
    obtain ⟨h1, h2⟩ := List.nodup_cons.mp h
    have np : ¬ p.1 = k := fun z => h1 (by
      show p.1 ∈ _
      rw [z]
      exact List.mem_map_of_mem (f := fun x : κ × V => x.1) (List.mem_of_getElem? e))
    rw [valV_neg np]
    exact valV_get h2 e
theorem GapsIn.keys {H : Hp} : ∀ {kvs : List (Key × V)} {gs : List (Str × Gp)}, GapsIn H kvs gs → kvs.map (·.1) = (gnames gs).map Sum.inr
  | _, _, .nil => rfl
  | _, _, .cons ⟨e, _⟩ t => by
    unfold gnames
    rw [List.map_cons, e, GapsIn.keys t]; rfl
theorem GapsIn.nodup {H : Hp} {kvs : List (Key × V)} {gs : List (Str × Gp)} (h : GapsIn H kvs gs) (hn : (gnames gs).Nodup) : (kvs.map (·.1)).Nodup := by
  rw [h.keys]
  exact List.Pairwise.map _ (fun a b c e => c (Sum.inr.inj e)) hn
theorem AreB.append {H : Hp} : ∀ {qs : List V} {bs : List Bd} {qs2 : List V} {cs : List Bd}, AreB H qs bs → AreB H qs2 cs → AreB H (qs ++ qs2) (bs ++ cs)
  | _, _, _, _, .nil, g => g
  | _, _, _, _, .cons h t, g => .cons h (AreB.append t g)
theorem AreB.tups {H H' : Hp} {qs : List V} {bs : List Bd} (a : AreB H qs bs) (k : ∀ p xs, H p = some (.tup xs) → H' p = some (.tup xs)) : AreB H' qs bs := Paired.mapP a fun _ _ ⟨p, e, q⟩ => ⟨p, e, k _ _ q⟩
theorem allB_take {gs : List (Str × Gp)} {i : Nat} {g : Str × Gp} (h : gs[i]? = some g) : allB (gs.take (i + 1)) = allB (gs.take i) ++ gbs g.2 := by
  unfold allB
  rw [List.take_add_one, h, Option.toList_some, List.flatMap_append, List.flatMap_cons, List.flatMap_nil, List.append_nil]
/-! the names of bounds: a gap's name and the end -/
def hiE (hi : Option Int) : List Str := match hi with | none => [] | some _ => ["high"]
def loE (lo : Option Int) : List Str := match lo with | none => [] | some _ => ["low"]
def endsL (g : Gp) : List Str := hiE g.2.2.2 ++ loE g.2.2.1
abbrev Nm := Str × Str
def nv (m : Nm) : List V := [.str m.1, .str m.2]
/-- names, each a tuple of its own -/
def AreN (H : Hp) : List V → List Nm → Prop := Paired fun v m => ∃ p, v = .ref p ∧ H p = some (.tup (nv m))
def allN (gs : List (Str × Gp)) : List Nm := gs.flatMap fun g => (endsL g.2).map fun e => (g.1, e)
theorem AreN.tups {H H' : Hp} {vs : List V} {ms : List Nm} (h : AreN H vs ms) (k : ∀ p xs, H p = some (.tup xs) → H' p = some (.tup xs)) : AreN H' vs ms := Paired.mapP h fun _ _ ⟨p, e, q⟩ => ⟨p, e, k _ _ q⟩
theorem AreN.same {H H' : Hp} {vs : List V} {ms : List Nm} (s : Same H H') (h : AreN H vs ms) : AreN H' vs ms := h.tups fun _ _ q => s _ _ q
theorem AreN.len {H : Hp} {vs : List V} {ms : List Nm} (h : AreN H vs ms) : vs.length = ms.length := Paired.length h
theorem AreN.snoc {H : Hp} {vs : List V} {ms : List Nm} {p : Addr} {m : Nm} (h : AreN H vs ms) (e : H p = some (.tup (nv m))) : AreN H (vs ++ [.ref p]) (ms ++ [m]) := Paired.snoc h ⟨p, rfl, e⟩
theorem AreN.append {H : Hp} : ∀ {qs : List V} {bs : List Nm} {qs2 : List V} {cs : List Nm}, AreN H qs bs → AreN H qs2 cs → AreN H (qs ++ qs2) (bs ++ cs)
  | _, _, _, _, .nil, g => g
  | _, _, _, _, .cons h t, g => .cons h (AreN.append t g)
theorem allN_take {gs : List (Str × Gp)} {i : Nat} {g : Str × Gp} (h : gs[i]? = some g) : allN (gs.take (i + 1)) = allN (gs.take i) ++ (endsL g.2).map fun e => (g.1, e) := by
  unfold allN
  rw [List.take_add_one, h, Option.toList_some, List.flatMap_append, List.flatMap_cons, List.flatMap_nil, List.append_nil]
theorem endsL_len (g : Gp) : (endsL g).length = (gbs g).length := by
  obtain ⟨a, b, lo, hi⟩ := g
  unfold endsL gbs bnds
  cases lo <;> cases hi <;> rfl
theorem allN_len : ∀ gs : List (Str × Gp), (allN gs).length = (allB gs).length
  | [] => rfl
  | g :: gs => by
    have ih := allN_len gs
    have h := endsL_len g.2
    unfold allN allB at *
    rw [List.flatMap_cons, List.flatMap_cons, List.length_append, List.length_append, ih, List.length_map, h]
def keyN (m : Nm) : List Key := [Sum.inr m.1, Sum.inr m.2]
theorem keyN_inj {a b : Nm} (h : keyN a = keyN b) : a = b := by
  unfold keyN at h
  have h1 := (List.cons.inj h).1
  have h2 := (List.cons.inj (List.cons.inj h).2).1
  exact Prod.ext (Sum.inr.inj h1) (Sum.inr.inj h2)
theorem allN_keys {gs : List (Str × Gp)} : ∀ key ∈ (allN gs).map keyN, ∃ g z, g ∈ gs ∧ key = [(Sum.inr g.1 : Key), Sum.inr z] := fun key h => by
  obtain ⟨m, hm, rfl⟩ := List.mem_map.mp h
  obtain ⟨g, hg, h2⟩ := List.mem_flatMap.mp hm
  obtain ⟨z, _, rfl⟩ := List.mem_map.mp h2
  exact ⟨g, z, hg, rfl⟩
def sp_ends_of (K : PySem.W.Frag) : Sp := fun vs H Q _ => ∃ (u : Addr) (g : Gp), vs = [.ref u] ∧ SqT K H u (gv g) ∧ ∀ r H', H r = none → Same H H' → H' r = some (.lst ((endsL g).map V.str)) → Q (.ref r) H'
def sp_all_bound_names (_ : PySem.W.Frag) : Sp := fun vs H Q _ => ∃ (d : Addr) (kvs : List (Key × V)) (gs : List (Str × Gp)), vs = [.ref d] ∧ H d = some (.dK kvs) ∧ GapsIn H kvs gs ∧ (gnames gs).Nodup ∧ gs.length ≤ 64 ∧
  ∀ (r : Addr) (H' : Hp) (qs : List V), H r = none → Same H H' → H' r = some (.lst qs) → AreN H' qs (allN gs) → Q (.ref r) H'
/-- the name of the bound at a place -/
def nmAt (gs : List (Str × Gp)) (k : Int) : Nm := ((allN gs)[k.toNat]?).getD ("", "")
theorem nmAt_get {gs : List (Str × Gp)} {k : Int} (h0 : 0 ≤ k) (h1 : k < (allB gs).length) : (allN gs)[k.toNat]? = some (nmAt gs k) := by
  unfold nmAt
  rw [List.getElem?_eq_getElem (by rw [allN_len]; omega)]; rfl
theorem hl_ne' : ("high" : Str) ≠ "low" := by decide +kernel
theorem endsL_nd (g : Gp) : (endsL g).Nodup := by
  obtain ⟨a, b, lo, hi⟩ := g
  unfold endsL hiE loE
  cases lo <;> cases hi
  · exact .nil
  · exact .cons (fun _ h => (nomatch h)) .nil
  · exact .cons (fun _ h => (nomatch h)) .nil
  · exact .cons (fun z h => by rw [List.mem_singleton.mp h]; exact hl_ne') (.cons (fun _ h => (nomatch h)) .nil)
theorem allN_nd : ∀ {gs : List (Str × Gp)}, (gnames gs).Nodup → (allN gs).Nodup
  | [], _ => .nil
  | g :: gs, h => by
    obtain ⟨h1, h2⟩ := List.nodup_cons.mp (show (g.1 :: gnames gs).Nodup from h)
    show ((endsL g.2).map (fun e => (g.1, e)) ++ allN gs).Nodup
    rw [List.nodup_append]
    refine ⟨List.Pairwise.map _ (fun a b c e => c (Prod.mk.inj e).2) (endsL_nd g.2), allN_nd h2, fun a ha b hb e => ?_⟩
    subst e
    obtain ⟨z, _, rfl⟩ := List.mem_map.mp ha
    obtain ⟨g', hg', h3⟩ := List.mem_flatMap.mp hb
    obtain ⟨z', _, e'⟩ := List.mem_map.mp h3
    have e1 : g'.1 = g.1 := (Prod.mk.inj e').1
    exact h1 (e1 ▸ List.mem_map_of_mem (f := fun x : Str × Gp => x.1) hg')
/-- the end by its name in the law's own dict -/
theorem ends_at {H : Hp} {us : List (List Key × V)} {gs : List (Str × Gp)} (KE : us.map (·.1) = (allN gs).map keyN) (A : AreB H (us.map (·.2)) (allB gs)) (nd : (gnames gs).Nodup) {k : Int} {m : Bd} (h0 : 0 ≤ k) (hm : (allB gs)[k.toNat]? = some m) : ∃ p, valV us (keyN (nmAt gs k)) = some (.ref p) ∧ H p = some (.tup (bv m)) := by
  have hk := (List.getElem?_eq_some_iff.mp hm).1
  have hn := nmAt_get (gs := gs) h0 (by omega)
  obtain ⟨v, hv, p, e, hp⟩ := paired_at A hm
  subst e
  rw [List.getElem?_map] at hv
  obtain ⟨u, hu, e⟩ := Option.map_eq_some_iff.mp hv
  have hk1 : (us.map (·.1))[k.toNat]? = some (keyN (nmAt gs k)) := by rw [KE, List.getElem?_map, hn]; rfl
  rw [List.getElem?_map, hu] at hk1
  have e1 : u.1 = keyN (nmAt gs k) := Option.some.inj hk1
  obtain ⟨u1, u2⟩ := u
  have e2 : u2 = .ref p := e
  have e1 : u1 = keyN (nmAt gs k) := e1
  subst e1 e2
  exact ⟨p, valV_get (by rw [KE]; exact List.Pairwise.map _ (fun a b c e => c (keyN_inj e)) (allN_nd nd)) hu, hp⟩
def sp_names_at (_ : PySem.W.Frag) : Sp := fun vs H Q _ => ∃ (d : Addr) (kvs : List (Key × V)) (gs : List (Str × Gp)) (v : V), vs = [.ref d, v] ∧ H d = some (.dK kvs) ∧ GapsIn H kvs gs ∧ (gnames gs).Nodup ∧ gs.length ≤ 64 ∧
  ((v = .non ∧ Q .non H) ∨ ∃ (l : Addr) (ps : List Int), v = .ref l ∧ H l = some (.lst (ps.map V.int)) ∧ (∀ k ∈ ps, 0 ≤ k ∧ k < (allB gs).length) ∧ ps.length ≤ 100 ∧ ∀ r H' qs, H r = none → Same H H' → H' r = some (.lst qs) → AreN H' qs (ps.map (nmAt gs)) → Q (.ref r) H')
/-- a chain told by names, or None -/
def IsCN (H H' : Hp) (v : V) (n : Nat) (gs : List (Str × Gp)) (a b : Int) : Prop := (v = .non ∧ NegR (allB gs)) ∨ ∃ t, Right n (allB gs) t ∧ ((v = .non ∧ ent t a b = none) ∨ ∃ l qs ps e, v = .ref l ∧ H' l = some (.lst qs) ∧ H l = none ∧ AreN H' qs (ps.map (nmAt gs)) ∧ ent t a b = some e ∧ Walk (allB gs) ps a b e ∧ (begs (allB gs) ps ++ [b]).Nodup)
def sp_House_chain (_ : PySem.W.Frag) (cl : Cl) : Sp := fun vs H Q _ => ∃ (x d : Addr) (n : Nat) (gs : List (Str × Gp)) (a b : Int), vs = [.ref x, .int a, .int b] ∧ HouseAt cl.House H x d n gs ∧ (gnames gs).Nodup ∧ 1 ≤ n ∧ n ≤ 8 ∧ Within n (allB gs) ∧ gs.length ≤ 64 ∧ inN a n ∧ inN b n ∧ ∀ v H', Same H H' → IsCN H H' v n gs a b → Q v H'
/-! the laws' own gaps and houses -/
theorem names_ne : ∀ {gs : List (Str × Gp)} {i : Nat} {g g' : Str × Gp}, (gnames gs).Nodup → gs[i]? = some g → g' ∈ gs.take i → g'.1 ≠ g.1
  | [], _, _, _, _, e, _ => by simp at e
  | _ :: _, 0, _, _, _, _, h => by simp at h
  | x :: r, i + 1, g, g', hn, e, h => by
    obtain ⟨h1, h2⟩ := List.nodup_cons.mp (show (x.1 :: gnames r).Nodup from hn)
    have e' : r[i]? = some g := by simpa using e
    rw [List.take_succ_cons] at h
    rcases List.mem_cons.mp h with h | h
    · subst h
      intro z
      exact h1 (z ▸ List.mem_map_of_mem (f := fun x : Str × Gp => x.1) (List.mem_of_getElem? e'))
    · exact names_ne h2 e' h
/-- one end of a gap is put in by its name -/
theorem ends_put {H : Hp} {gs : List (Str × Gp)} {i : Nat} {us : List (List Key × V)} {nm z : Str} (h : ∀ key ∈ us.map (·.1), (∃ g z, g ∈ gs.take i ∧ key = [Sum.inr g.1, Sum.inr z]) ∨ ∃ y, y ≠ z ∧ key = [Sum.inr nm, Sum.inr y])
    (n : ∀ g' ∈ gs.take i, g'.1 ≠ nm) : valV us [(Sum.inr nm : Key), Sum.inr z] = none := by
  cases e : valV us [(Sum.inr nm : Key), Sum.inr z] with
  | none => rfl
  | some v =>
    rcases h _ (valV_in e) with ⟨g, y, hm, hk⟩ | ⟨y, hy, hk⟩
    · have := (List.cons.inj hk).1
      exact absurd (Sum.inr.inj this).symm (n g hm)
    · have := (List.cons.inj (List.cons.inj hk).2).1
      exact absurd (Sum.inr.inj this).symm hy
theorem ends_step {H0 H2 : Hp} {e p1 p2 : Addr} {us : List (List Key × V)} {bs : List Bd} {x y z : Int} {o2 : HO} {key : List Key} (s2 : Same H0 H2) (he : H0 e = none) (e2 : H2 e = some (.dT us)) (A2 : AreB H2 (us.map (·.2)) bs) (hp1 : H2 p1 = none)
    (hp2 : (upd H2 p1 (.tup [.int x, .int y, .int z])) p2 = none) : Same H0 (upd (upd (upd H2 p1 (.tup [.int x, .int y, .int z])) p2 o2) e (.dT (us ++ [(key, .ref p1)]))) ∧
      AreB (upd (upd (upd H2 p1 (.tup [.int x, .int y, .int z])) p2 o2) e (.dT (us ++ [(key, .ref p1)]))) ((us ++ [(key, V.ref p1)]).map fun (u : List Key × V) => u.2) (bs ++ [(x, y, z)]) := by
  have t1 := same_new hp1 (.tup [.int x, .int y, .int z])
  have e1 : (upd H2 p1 (.tup [.int x, .int y, .int z])) p1 = some (.tup (bv (x, y, z))) := upd_same
  generalize upd H2 p1 (.tup [.int x, .int y, .int z]) = H3 at t1 e1 hp2 ⊢
  have t2 := same_new hp2 o2
  generalize upd H3 p2 o2 = H4 at t2 ⊢
  have t := t1.trans t2
  have e4 := t _ _ e2
  refine ⟨fun b o h => ?_, ?_⟩
  · rw [upd_ne (ne_of_none h he)]; exact t _ _ (s2 _ _ h)
  · rw [List.map_append]
    refine AreB.tups (AreB.snoc (A2.same t) (t2 _ _ e1)) fun c xs h => ?_
    rw [upd_ne (ne_of h e4 (fun z => by cases z))]; exact h
theorem opt_or {α : Type} : ∀ o : Option α, o = none ∨ ∃ x, o = some x
  | none => .inl rfl
  | some x => .inr ⟨x, rfl⟩
theorem hl_ne : ("high" : Str) ≠ "low" := by decide +kernel
theorem gap_kept {ns : List Int} {a b : Int} {lo hi : Option Int} (h1 : ∀ z, lo = some z → z ≤ tm ns a b) (h2 : ∀ z, hi = some z → tm ns a b ≤ z) : ∀ m ∈ gbs (a, b, lo, hi), bKept ns m = true := by
  intro m hm
  unfold gbs bnds at hm
  have e : tm ns b a = - tm ns a b := by unfold tm; omega
  have k1 : ∀ z, lo = some z → bKept ns (b, a, -z) = true := fun z hz => decide_eq_true (by show tm ns b a ≤ -z; have := h1 z hz; omega)
  have k2 : ∀ z, hi = some z → bKept ns (a, b, z) = true := fun z hz => decide_eq_true (by show tm ns a b ≤ z; exact h2 z hz)
  cases lo <;> cases hi <;> simp [hiB, loB] at hm
  · subst hm; exact k2 _ rfl
  · subst hm; exact k1 _ rfl
  · rcases hm with e | e <;> subst e
    · exact k2 _ rfl
    · exact k1 _ rfl
def sp_law_gap_round (K : PySem.W.Frag) : Sp := fun vs H Q _ => ∃ (c l : Int) (t : Addr) (ns : List Int), vs = [.int c, .ref t, .int l] ∧ SqT K H t (ns.map V.int) ∧ 0 < ns.length ∧ ns.length ≤ 8 ∧ ∀ p (g : Gp), H p = none → inN g.1 ns.length → inN g.2.1 ns.length → ¬ (g.2.2.1 = none ∧ g.2.2.2 = none) → (0 ≤ l → ∀ m ∈ gbs g, bKept ns m = true) → Q (.ref p) (upd H p (.tup (gv g)))
def sp_law_ends (_ : PySem.W.Frag) : Sp := fun vs H Q _ => ∃ (d : Addr) (kvs : List (Key × V)) (gs : List (Str × Gp)), vs = [.ref d] ∧ H d = some (.dK kvs) ∧ GapsIn H kvs gs ∧ (gnames gs).Nodup ∧ gs.length ≤ 64 ∧
  ∀ (e : Addr) (H' : Hp) (us : List (List Key × V)), H e = none → Same H H' → H' e = some (.dT us) → AreB H' (us.map (·.2)) (allB gs) → us.map (·.1) = (allN gs).map keyN → Q (.ref e) H'
/-! a house and the law's own dict of the same gaps -/
theorem gbs_in {n : Nat} {g : Gp} (ha : inN g.1 n) (hb : inN g.2.1 n) : ∀ m ∈ gbs g, inN m.1 n ∧ inN m.2.1 n := by
  obtain ⟨a, b, lo, hi⟩ := g
  intro m hm
  unfold gbs bnds at hm
  cases lo <;> cases hi <;> simp [hiB, loB] at hm
  · subst hm; exact ⟨ha, hb⟩
  · subst hm; exact ⟨hb, ha⟩
  · rcases hm with e | e <;> subst e
    · exact ⟨ha, hb⟩
    · exact ⟨hb, ha⟩
theorem allB_mem {gs : List (Str × Gp)} {m : Bd} : m ∈ allB gs ↔ ∃ g ∈ gs, m ∈ gbs g.2 := List.mem_flatMap
theorem HouseAt.but {C : Addr} {H H' : Hp} {x d e : Addr} {n : Nat} {gs : List (Str × Gp)} {kvs : List (Key × V)} (W : HouseAt C H x d n gs) (b : But e H H') (he : H e = some (.dK kvs)) (ne : d ≠ e) : HouseAt C H' x d n gs := by
  obtain ⟨dx, h⟩ := W.ob
  obtain ⟨kv, h1, h2⟩ := W.dc
  exact ⟨⟨dx, b _ _ h (ne_of h he (fun z => by cases z))⟩, kv, b _ _ h1 ne, h2.keep fun p xs q => b _ _ q (ne_of q he (fun z => by cases z))⟩
structure HG (cl : Cl) (H : Hp) (n : Nat) (x dh dg : Addr) (gs : List (Str × Gp)) : Prop where
  W : HouseAt cl.House H x dh n gs
  D : ∃ kvs, H dg = some (.dK kvs) ∧ GapsIn H kvs gs
  ne : dg ≠ dh
  nd : (gnames gs).Nodup
  wi : ∀ g ∈ gs, inN g.2.1 n ∧ inN g.2.2.1 n
theorem HG.within {cl : Cl} {H : Hp} {n : Nat} {x dh dg : Addr} {gs : List (Str × Gp)} (L : HG cl H n x dh dg gs) : Within n (allB gs) := fun m hm => by
  obtain ⟨g, hg, h⟩ := allB_mem.mp hm
  exact gbs_in (L.wi g hg).1 (L.wi g hg).2 m h
theorem HG.same {cl : Cl} {H H' : Hp} {n : Nat} {x dh dg : Addr} {gs : List (Str × Gp)} (s : Same H H') (L : HG cl H n x dh dg gs) : HG cl H' n x dh dg gs := by
  obtain ⟨kvs, h1, h2⟩ := L.D
  exact ⟨L.W.same s, ⟨kvs, s _ _ h1, h2.same s⟩, L.ne, L.nd, L.wi⟩
/-- all but two addresses as it was -/
def But2h (a b : Addr) (H H' : Hp) : Prop := ∀ c o, H c = some o → c ≠ a → c ≠ b → H' c = some o
theorem HG.tup {cl : Cl} {H H2 : Hp} {n : Nat} {x dh dg : Addr} {gs : List (Str × Gp)} (L : HG cl H n x dh dg gs) (b : But2h dg dh H H2) : ∀ p xs, H p = some (.tup xs) → H2 p = some (.tup xs) := fun p xs h => by
  obtain ⟨kvs, hd, _⟩ := L.D
  obtain ⟨kvh, he, _⟩ := L.W.dc
  exact b _ _ h (ne_of h hd (fun z => by cases z)) (ne_of h he (fun z => by cases z))
theorem HG.lst {cl : Cl} {H H2 : Hp} {n : Nat} {x dh dg : Addr} {gs : List (Str × Gp)} (L : HG cl H n x dh dg gs) (b : But2h dg dh H H2) : ∀ p xs, H p = some (.lst xs) → H2 p = some (.lst xs) := fun p xs h => by
  obtain ⟨kvs, hd, _⟩ := L.D
  obtain ⟨kvh, he, _⟩ := L.W.dc
  exact b _ _ h (ne_of h hd (fun z => by cases z)) (ne_of h he (fun z => by cases z))
/-- the gap by the name is taken out of both -/
theorem HG.drop {cl : Cl} {H H2 : Hp} {n : Nat} {x dh dg : Addr} {gs : List (Str × Gp)} {kvs : List (Key × V)} {nm : Str} (L : HG cl H n x dh dg gs) (G : GapsIn H kvs gs)
    (hd2 : H2 dg = some (.dK (dropK kvs (Sum.inr nm)))) (b : But2h dg dh H H2) (W : HouseAt cl.House H2 x dh n (gdrop nm gs)) : HG cl H2 n x dh dg (gdrop nm gs) :=
  ⟨W, ⟨_, hd2, G.drop.keep (L.tup b)⟩, L.ne, (List.filter_sublist.map _).nodup L.nd, fun g hg => L.wi g (gdrop_mem hg)⟩
/-- a gap by a new name is put into both -/
theorem HG.add {cl : Cl} {H H2 : Hp} {n : Nat} {x dh dg p : Addr} {gs : List (Str × Gp)} {kvs : List (Key × V)} {nm : Str} {g : Gp} (L : HG cl H n x dh dg gs) (G : GapsIn H kvs gs) (hn : ¬ nm ∈ gnames gs) (hp : H p = some (.tup (gv g)))
    (ha : inN g.1 n) (hb : inN g.2.1 n) (hd2 : H2 dg = some (.dK (kvs ++ [(Sum.inr nm, .ref p)]))) (b : But2h dg dh H H2) (W : HouseAt cl.House H2 x dh n (gs ++ [(nm, g)])) : HG cl H2 n x dh dg (gs ++ [(nm, g)]) := by
  refine ⟨W, ⟨_, hd2, (G.snoc hp).keep (L.tup b)⟩, L.ne, ?_, fun g' hg => ?_⟩
  · unfold gnames
    rw [List.map_append]
    exact nd_snoc L.nd hn
  · rcases List.mem_append.mp hg with h | h
    · exact L.wi g' h
    · rw [List.mem_singleton.mp h]; exact ⟨ha, hb⟩
theorem iteS' {c A B : Prop} [Decidable c] (hc : c) (h : A) : if decide c = true then A else B := by
  rw [decide_eq_true hc]
  exact iteT h
theorem HG.seq {cl : Cl} {K : PySem.W.Frag} {H H2 : Hp} {n : Nat} {x dh dg a : Addr} {gs : List (Str × Gp)} {xs : List V} (L : HG cl H n x dh dg gs) (b : But2h dg dh H H2) (h : SqL K H a xs) : SqL K H2 a xs := by
  obtain ⟨kvs, hd, _⟩ := L.D
  obtain ⟨kvh, he, _⟩ := L.W.dc
  rcases h with (h | ⟨o, h⟩) | h
  · exact .inl (.inl (b _ _ h (ne_of h hd (fun z => by cases z)) (ne_of h he (fun z => by cases z))))
  · exact .inl (.inr ⟨o, b _ _ h (ne_of h hd (fun z => by cases z)) (ne_of h he (fun z => by cases z))⟩)
  · exact .inr h
def PairsAt (H : Hp) (n : Nat) (qp : List V) : Prop := ∀ v ∈ qp, ∃ pp x y, v = .ref pp ∧ H pp = some (.tup [.int x, .int y]) ∧ inN x n ∧ inN y n
theorem PairsAt.same {H H' : Hp} {n : Nat} {qp : List V} (s : Same H H') (h : PairsAt H n qp) : PairsAt H' n qp := fun v hv => by
  obtain ⟨pp, x, y, e, hp, h1, h2⟩ := h v hv
  exact ⟨pp, x, y, e, s _ _ hp, h1, h2⟩
def nameOf (i : Nat) : Str := (Str.ofString (toString (0 + ((i : Nat) : Int)))) ++ ("x" : Str)
theorem names_nd : ((List.range 63).map nameOf).Nodup := by decide +kernel
theorem names_ag : ∀ i, i < 63 → nameOf i ≠ ("against" : Str) := by decide +kernel
theorem name_ok : ∀ i, i < 63 → (0 + ((i : Nat) : Int)).natAbs.log2 < 1920 ∧ (Str.ofString (toString (0 + ((i : Nat) : Int)))).length + ("x" : Str).length ≤ sizeLine := by decide +kernel
theorem name_inj {i j : Nat} (hi : i < 63) (hj : j < 63) (h : nameOf i = nameOf j) : i = j := by
  have nd := names_nd
  have h1 : ((List.range 63).map nameOf)[i]? = some (nameOf i) := by rw [List.getElem?_map, List.getElem?_range hi]; rfl
  have h2 : ((List.range 63).map nameOf)[j]? = some (nameOf i) := by rw [List.getElem?_map, List.getElem?_range hj, h]; rfl
  generalize (List.range 63).map nameOf = xs at nd h1 h2
  obtain ⟨li, e1⟩ := List.getElem?_eq_some_iff.mp h1
  obtain ⟨lj, e2⟩ := List.getElem?_eq_some_iff.mp h2
  have eq := e1.trans e2.symm
  rcases Nat.lt_trichotomy i j with c | c | c
  · exact absurd eq (List.pairwise_iff_getElem.mp nd i j li lj c)
  · exact c
  · exact absurd eq.symm (List.pairwise_iff_getElem.mp nd j i lj li c)
theorem allB_app (gs : List (Str × Gp)) (g : Str × Gp) : allB (gs ++ [g]) = allB gs ++ gbs g.2 := by
  unfold allB
  rw [List.flatMap_append, List.flatMap_cons, List.flatMap_nil, List.append_nil]
theorem gdrop_last {gs : List (Str × Gp)} {nm : Str} {g : Gp} (h : ¬ nm ∈ gnames gs) : gdrop nm (gs ++ [(nm, g)]) = gs := by
  unfold gdrop
  have h1 : gs.filter (fun g => decide (g.1 ≠ nm)) = gs := List.filter_eq_self.mpr fun x hx => decide_eq_true fun (e : x.1 = nm) => h (by rw [← e]; exact List.mem_map_of_mem (f := fun x : Str × Gp => x.1) hx)
  rw [List.filter_append, h1, List.filter_cons_of_neg (by simp)]
  exact List.append_nil _
/-- the gaps of the law: new names, kept by the schedule, an end at least -/
structure GOk (i : Nat) (ts : List Int) (gs : List (Str × Gp)) : Prop where
  len : gs.length ≤ i
  nm : ∀ g ∈ gs, ∃ j, j < i ∧ g.1 = nameOf j
  kept : ∀ g ∈ gs, ∀ m ∈ gbs g.2, bKept ts m = true
  no : ∀ g ∈ gs, ¬ (g.2.2.2.1 = none ∧ g.2.2.2.2 = none)
theorem GOk.noneg {i : Nat} {ts : List Int} {gs : List (Str × Gp)} (h : GOk i ts gs) : ¬ NegR (allB gs) := noneg_kept (ns := ts) fun m hm => by
  obtain ⟨g, hg, hm⟩ := allB_mem.mp hm
  exact h.kept g hg m hm
theorem GOk.drop {i : Nat} {ts : List Int} {gs : List (Str × Gp)} (nm : Str) (h : GOk i ts gs) : GOk (i + 1) ts (gdrop nm gs) := by
  have h1 := h.len
  have h2 := gdrop_len nm gs
  refine ⟨by omega, fun g hg => ?_, fun g hg => h.kept g (gdrop_mem hg), fun g hg => h.no g (gdrop_mem hg)⟩
  obtain ⟨j, hj, e⟩ := h.nm g (gdrop_mem hg)
  exact ⟨j, by omega, e⟩
theorem GOk.add {i : Nat} {ts : List Int} {gs : List (Str × Gp)} {g : Gp} (h : GOk i ts gs) (h1 : ∀ m ∈ gbs g, bKept ts m = true) (h2 : ¬ (g.2.2.1 = none ∧ g.2.2.2 = none)) : GOk (i + 1) ts (gs ++ [(nameOf i, g)]) := by
  have hl := h.len
  refine ⟨by rw [List.length_append]; show _ + 1 ≤ _; omega, fun g' hg => ?_, fun g' hg => ?_, fun g' hg => ?_⟩
  · rcases List.mem_append.mp hg with hg | hg
    · obtain ⟨j, hj, e⟩ := h.nm g' hg
      exact ⟨j, by omega, e⟩
    · rw [List.mem_singleton.mp hg]; exact ⟨i, by omega, rfl⟩
  · rcases List.mem_append.mp hg with hg | hg
    · exact h.kept g' hg
    · rw [List.mem_singleton.mp hg]; exact h1
  · rcases List.mem_append.mp hg with hg | hg
    · exact h.no g' hg
    · rw [List.mem_singleton.mp hg]; exact h2
theorem GOk.new {i : Nat} {ts : List Int} {gs : List (Str × Gp)} (h : GOk i ts gs) (hi : i < 63) : ¬ nameOf i ∈ gnames gs := fun m => by
  obtain ⟨g', hg', e⟩ := List.mem_map.mp m
  obtain ⟨j, hj, e'⟩ := h.nm g' hg'
  have := name_inj (by omega) hi (e'.symm.trans e)
  omega
theorem GOk.ag {i : Nat} {ts : List Int} {gs : List (Str × Gp)} (h : GOk i ts gs) (hi : i ≤ 63) : ¬ ("against" : Str) ∈ gnames gs := fun m => by
  obtain ⟨g', hg', e⟩ := List.mem_map.mp m
  obtain ⟨j, hj, e'⟩ := h.nm g' hg'
  exact names_ag j (by omega) (e'.symm.trans e)
def sp_law_good (_ : PySem.W.Frag) : Sp := fun vs H Q _ => ∃ (v : V) (e pp : Addr) (us : List (List Key × V)) (gs : List (Str × Gp)) (n : Nat) (a b : Int) (o : Option Int), vs = [v, .ref e, .ref pp, ov o, .int n] ∧ H e = some (.dT us) ∧ AreB H (us.map (·.2)) (allB gs) ∧ us.map (·.1) = (allN gs).map keyN ∧ (gnames gs).Nodup ∧ H pp = some (.tup [.int a, .int b]) ∧
  ((o = none ∧ v = .non) ∨ ∃ en ps l qs, o = some en ∧ v = .ref l ∧ H l = some (.lst qs) ∧ AreN H qs (ps.map (nmAt gs)) ∧ Walk (allB gs) ps a b en ∧ ps.length < n ∧ (a = b → ps = [])) ∧ ∀ H', Same H H' → Q (.bl true) H'
def sp_law_pairs (K : PySem.W.Frag) : Sp := fun vs H Q _ => ∃ (a : Addr) (ns : List Int) (n k : Nat), vs = [.ref a, .int n, .int k] ∧ SqL K H a (ns.map V.int) ∧ ns.length ≤ 63 ∧ 1 ≤ n ∧ k ≤ 63 ∧ ∀ r H' qs, Same H H' → H' r = some (.lst qs) → PairsAt H' n qs → Q (.ref r) H'
def sp_law_all_good (_ : PySem.W.Frag) (cl : Cl) : Sp := fun vs H Q _ => ∃ (x dh dg rp : Addr) (n : Nat) (gs : List (Str × Gp)) (qp : List V), vs = [.ref x, .ref dg, .ref rp, .int n] ∧ HG cl H n x dh dg gs ∧ H rp = some (.lst qp) ∧ PairsAt H n qp ∧ 1 ≤ n ∧ n ≤ 8 ∧ gs.length ≤ 63 ∧ ¬ NegR (allB gs) ∧ ∀ H', Same H H' → Q (.bl true) H'
def sp_law_broken_good (_ : PySem.W.Frag) (cl : Cl) : Sp := fun vs H Q _ => ∃ (x dh dg rp : Addr) (n : Nat) (gs : List (Str × Gp)) (qp : List V), vs = [.ref x, .ref dg, .ref rp] ∧ HG cl H n x dh dg gs ∧ H rp = some (.lst qp) ∧ PairsAt H n qp ∧ 1 ≤ n ∧ n ≤ 8 ∧ gs.length ≤ 63 ∧ 0 < gs.length ∧ ¬ ("against" : Str) ∈ gnames gs ∧ (∀ g ∈ gs, ¬ (g.2.2.2.1 = none ∧ g.2.2.2.2 = none)) ∧
  ∀ H', HG cl H' n x dh dg gs → H' rp = some (.lst qp) → PairsAt H' n qp → Q (.bl true) H'
section
variable {P : Program} {w : World} {K : PySem.W.Frag} {mg : Str → Option Value} {base : Heap} {cl : Cl}
seal L2.PSs L2.PS L2.PE L2.PA L2.PT L2.PI L2.PG L2.PGs L2.PTs L2.PW L2.PC L2.PO
theorem sc_bounds_of : FnScope ["gap", "a", "b", "low", "high", "found"] ["gap"] (defScope s_bounds_of) := ⟨rfl, rfl, rfl, by decide +kernel, rfl, by decide +kernel, by decide +kernel⟩
theorem ok_bounds_of {f : Addr} {fd : FuncData} (F : Fun K "bounds_of" "bounds_of" s_bounds_of f fd) (T : Txt K mg cl)  : FnOk P w K mg base CX0 1 f fd ["gap"] (sp_bounds_of K) := by
  refine F.ok sc_bounds_of (fun vs H Q E h => ?_) (fun cdv A outer s H vs Q E hr h => ?_)
  · obtain ⟨u, a, b, low, high, rfl, hB, q⟩ := h
    rfl
  · obtain ⟨u, a, b, low, high, rfl, hB, q⟩ := h
    refine ⟨_, (pss_cons (ps_set (i := 1) sc_bounds_of.nd rfl (Or.inl rfl) (pe_ix ix_tup (pv 0) pe_int (fun _ _ => rfl)))
      (pss_cons (ps_set (i := 2) sc_bounds_of.nd rfl (Or.inl rfl) (pe_ix ix_tup (pv 0) pe_int (fun _ _ => rfl)))
      (pss_cons (ps_set (i := 3) sc_bounds_of.nd rfl (Or.inl rfl) (pe_ix ix_tup (pv 0) pe_int (fun _ _ => rfl)))
      (pss_cons (ps_set (i := 4) sc_bounds_of.nd rfl (Or.inl rfl) (pe_ix ix_tup (pv 0) pe_int (fun _ _ => rfl)))
      (pss_cons (ps_set (i := 5) sc_bounds_of.nd rfl (Or.inl rfl) (pe_lst pa_nil))
      (pss_cons (ps_if (pt_cmpR op_notN (pv 4) pe_non (nomark _))
      (pss_one (ps_expr (pe_bm PySem.F.plainAttrs_list PySem.F.slot_list_append PySem.F.type_list_append mt_append (pv 5) (pa_cons (pe_tup (pa_cons (pv 1) (pa_cons (pv 2) (pa_cons (pv 4) pa_nil)))) pa_nil))))
      pss_nil)
      (pss_cons (ps_if (pt_cmpR op_notN (pv 3) pe_non (nomark _))
      (pss_one (ps_expr (pe_bm PySem.F.plainAttrs_list PySem.F.slot_list_append PySem.F.type_list_append mt_append (pv 5) (pa_cons (pe_tup (pa_cons (pv 2) (pa_cons (pv 1) (pa_cons (pe_un un_neg (pv 3)) pa_nil)))) pa_nil))))
      pss_nil)
      (pss_one (ps_ret (pv 5)))))))))), ?_⟩
    refine ⟨_, rfl, u, _, 0, _, rfl, rfl, hB, rfl, _, rfl, u, _, 1, _, rfl, rfl, hB, rfl, _, rfl, u, _, 2, _, rfl, rfl, hB, rfl, _, rfl, u, _, 3, _, rfl, rfl, hB, rfl, (by show 0 ≤ sizeLine; decide), fun r hr0 => ?_⟩
    have s0 := same_new hr0 (.lst [])
    have e0 : (upd H r (.lst [])) r = some (.lst []) := upd_same
    generalize upd H r (.lst []) = H1 at s0 e0
    have a0 : AreB H1 [] [] := .nil
    cases high with
    | none =>
      refine ⟨_, rfl, rfl, _, rfl, iteF ?_⟩
      cases low with
      | none => exact ⟨_, rfl, rfl, _, rfl, iteF ⟨_, rfl, q r _ [] hr0 s0 e0 a0⟩⟩
      | some l =>
        refine ⟨_, rfl, rfl, _, rfl, iteT ⟨_, rfl, .inl ⟨rfl, _, SqL.of e0⟩, _, rfl, _, rfl, _, rfl, _, rfl, (by show 3 ≤ sizeLine; decide), fun p hp => ⟨r, [], _, rfl, rfl, same_new hp _ _ _ e0, (by show 0 < sizeLine; decide), _, rfl, ?_⟩⟩⟩
        exact q r _ _ hr0 (app_same hr0 s0 hp) upd_same (a0.app (m := (b, a, -l)) e0 hp)
    | some h =>
      refine ⟨_, rfl, rfl, _, rfl, iteT ⟨_, rfl, .inl ⟨rfl, _, SqL.of e0⟩, _, rfl, _, rfl, _, rfl, (by show 3 ≤ sizeLine; decide), fun p hp => ⟨r, [], _, rfl, rfl, same_new hp _ _ _ e0, (by show 0 < sizeLine; decide), ?_⟩⟩⟩
      have s1 := app_same (o := .tup (bv (a, b, h))) (u := .lst ([] ++ [.ref p])) hr0 s0 hp
      have e1 : (upd (upd H1 p (.tup (bv (a, b, h)))) r (.lst ([] ++ [.ref p]))) r = some (.lst [.ref p]) := upd_same
      have a1 : AreB (upd (upd H1 p (.tup (bv (a, b, h)))) r (.lst ([] ++ [.ref p]))) [.ref p] [(a, b, h)] := a0.app (m := (a, b, h)) e0 hp
      cases low with
      | none => exact ⟨_, rfl, rfl, _, rfl, iteF ⟨_, rfl, q r _ _ hr0 s1 e1 a1⟩⟩
      | some l =>
        refine ⟨_, rfl, rfl, _, rfl, iteT ⟨_, rfl, .inl ⟨rfl, _, SqL.of e1⟩, _, rfl, _, rfl, _, rfl, _, rfl, (by show 3 ≤ sizeLine; decide), fun p2 hp2 => ⟨r, _, _, rfl, rfl, same_new hp2 _ _ _ e1, (by show 1 < sizeLine; decide), _, rfl, ?_⟩⟩⟩
        exact q r _ _ hr0 (app_same hr0 s1 hp2) upd_same (a1.app (m := (b, a, -l)) e1 hp2)
theorem sc_wide_row : FnScope ["count", "a"] ["count", "a"] (defScope s_wide_row) := ⟨rfl, rfl, rfl, by decide +kernel, rfl, by decide +kernel, by decide +kernel⟩
theorem ok_wide_row {f : Addr} {fd : FuncData} (F : Fun K "wide_row" "wide_row" s_wide_row f fd) (T : Txt K mg cl)  : FnOk P w K mg base CX0 1 f fd ["count", "a"] (sp_wide_row K) := by
  refine F.ok sc_wide_row (fun vs H Q E h => ?_) (fun cdv A outer s H vs Q E hr h => ?_)
  · obtain ⟨n, a, rfl, hn, q⟩ := h
    rfl
  · obtain ⟨n, a, rfl, hn, q⟩ := h
    refine ⟨_, (pss_one (ps_ret (pe_compS ["a"] [1] rfl (pi_range1 rfl T.z_range (pa_cons (pv 0) pa_nil)) (fun _ _ _ => pts_nil) (fun _ _ _ => (pe_ifExp (pt_cmpR op_eq (pv 1) (pv 0) (nomark _)) pe_int pe_non)) (hk := by kernel_rfl)))), ?_⟩
    refine ⟨_, rfl, (n : Int), rfl, by omega, by omega, comp_vals (n := ((n : Nat) : Int).toNat) (fun j => ov (if a = (j : Int) then some (0 : Int) else none)) (small (by omega)) ?_ ?_⟩
    · intro i hi R kR
      refine ⟨_, rfl, _, rfl, rfl, _, rfl, ?_⟩
      refine ite2 (fun c => ?_) (fun c => ?_)
      · have c' := of_decide_eq_true c
        have e : a = (i : Int) := by have := V.int.inj c'; omega
        rw [if_pos e] at kR
        exact kR
      · have c' := of_decide_eq_false (Bool.eq_false_iff.mpr c)
        have e : ¬ a = (i : Int) := fun e => c' (by rw [e, Int.zero_add])
        rw [if_neg e] at kR
        exact kR
    · intro p hp
      have := q p hp
      rw [List.map_map] at this
      rw [Int.toNat_natCast]
      exact this
theorem sc_shuts : FnScope ["bound", "table", "back"] ["bound", "table"] (defScope s_shuts) := ⟨rfl, rfl, rfl, by decide +kernel, rfl, by decide +kernel, by decide +kernel⟩
theorem ok_shuts {f : Addr} {fd : FuncData} (F : Fun K "shuts" "shuts" s_shuts f fd) (T : Txt K mg cl)  : FnOk P w K mg base CX0 1 f fd ["bound", "table"] (sp_shuts K) := by
  refine F.ok sc_shuts (fun vs H Q E h => ?_) (fun cdv A outer s H vs Q E hr h => ?_)
  · obtain ⟨u, p, m, rs, t, n, rfl, hB, hT, hS, h1, h2, q⟩ := h
    rfl
  · obtain ⟨u, p, m, rs, t, n, rfl, hB, hT, hS, h1, h2, q⟩ := h
    refine ⟨_, (pss_cons (ps_set (i := 2) sc_shuts.nd rfl (Or.inl rfl) (pe_ix ix_list (pe_ix ix_list (pv 1) (pe_ix ix_tup (pv 0) pe_int (fun _ _ => rfl)) (fun _ _ => rfl)) (pe_ix ix_tup (pv 0) pe_int (fun _ _ => rfl)) (fun _ _ => rfl)))
      (pss_one (ps_ret (pe_and (pe_cmpR op_notN (pv 2) pe_non (nomark _)) (pe_one (pe_cmpR op_lt (pe_op op_add (pv 2) (pe_ix ix_tup (pv 0) pe_int (fun _ _ => rfl))) pe_int (nomark _))))))), ?_⟩
    obtain ⟨r, row, g1, g2, g3⟩ := hT.at hS h2 h1
    refine ⟨_, rfl, _, rfl, u, _, 1, _, rfl, rfl, hB, rfl, p, _, _, _, rfl, rfl, SqL.of hT.ob, g1, _, rfl, u, _, 0, _, rfl, rfl, hB, rfl, r, _, _, _, rfl, rfl, SqL.of g2, g3, ?_⟩
    refine ⟨_, rfl, rfl, _, rfl, ?_⟩
    unfold shutB at q
    cases e : ent t m.2.1 m.1 with
    | none => rw [e] at q; exact iteF q
    | some z =>
      rw [e] at q
      exact iteT ⟨_, rfl, _, rfl, u, _, 2, _, rfl, rfl, hB, rfl, _, _, rfl, rfl, _, _, rfl, rfl, q⟩
theorem sc_total : FnScope ["one", "other"] ["one", "other"] (defScope s_total) := ⟨rfl, rfl, rfl, by decide +kernel, rfl, by decide +kernel, by decide +kernel⟩
theorem ok_total {f : Addr} {fd : FuncData} (F : Fun K "total" "total" s_total f fd) (T : Txt K mg cl)  : FnOk P w K mg base CX0 1 f fd ["one", "other"] (sp_total K) := by
  refine F.ok sc_total (fun vs H Q E h => ?_) (fun cdv A outer s H vs Q E hr h => ?_)
  · obtain ⟨x, y, rfl, q⟩ := h
    rfl
  · obtain ⟨x, y, rfl, q⟩ := h
    refine ⟨_, (pss_cons (ps_if (PW.pt (pw_or (pt_cmpR op_isN (pv 0) pe_non (nomark _)) (pw_or1 (pt_cmpR op_isN (pv 1) pe_non (nomark _)))))
      (pss_one (ps_ret pe_non))
      pss_nil)
      (pss_one (ps_ret (pe_op op_add (pv 0) (pv 1))))), ?_⟩
    refine ⟨_, rfl, rfl, _, rfl, ?_⟩
    cases x with
    | none => exact iteT (iteT q)
    | some x =>
      refine iteF ⟨_, rfl, rfl, _, rfl, ?_⟩
      cases y with
      | none => exact iteT q
      | some y => exact iteF ⟨_, rfl, _, rfl, _, _, rfl, rfl, q⟩
theorem sc_lesser : FnScope ["one", "other"] ["one", "other"] (defScope s_lesser) := ⟨rfl, rfl, rfl, by decide +kernel, rfl, by decide +kernel, by decide +kernel⟩
theorem ok_lesser {f : Addr} {fd : FuncData} (F : Fun K "lesser" "lesser" s_lesser f fd) (T : Txt K mg cl)  : FnOk P w K mg base CX0 1 f fd ["one", "other"] (sp_lesser K) := by
  refine F.ok sc_lesser (fun vs H Q E h => ?_) (fun cdv A outer s H vs Q E hr h => ?_)
  · obtain ⟨x, y, rfl, q⟩ := h
    rfl
  · obtain ⟨x, y, rfl, q⟩ := h
    refine ⟨_, (pss_cons (ps_if (pt_cmpR op_isN (pv 0) pe_non (nomark _))
      (pss_one (ps_ret (pv 1)))
      pss_nil)
      (pss_cons (ps_if (pt_cmpR op_isN (pv 1) pe_non (nomark _))
      (pss_one (ps_ret (pv 0)))
      pss_nil)
      (pss_one (ps_ret (pe_callB (call_min2 rfl) rfl T.z_min boot_min (pa_cons (pv 0) (pa_cons (pv 1) pa_nil))))))), ?_⟩
    refine ⟨_, rfl, rfl, _, rfl, ?_⟩
    cases x with
    | none => exact iteT ⟨_, rfl, q⟩
    | some x =>
      refine iteF ⟨_, rfl, rfl, _, rfl, ?_⟩
      cases y with
      | none => exact iteT ⟨_, rfl, q⟩
      | some y => exact iteF ⟨_, rfl, _, rfl, x, y, rfl, q⟩
theorem sc_first_ways : FnScope ["row"] ["row"] (defScope s_first_ways) := ⟨rfl, rfl, rfl, by decide +kernel, rfl, by decide +kernel, by decide +kernel⟩
theorem ok_first_ways {f : Addr} {fd : FuncData} (F : Fun K "first_ways" "first_ways" s_first_ways f fd) (T : Txt K mg cl)  : FnOk P w K mg base CX0 1 f fd ["row"] (sp_first_ways K) := by
  refine F.ok sc_first_ways (fun vs H Q E h => ?_) (fun cdv A outer s H vs Q E hr h => ?_)
  · obtain ⟨r, row, rfl, hr', hn, q⟩ := h
    rfl
  · obtain ⟨r, row, rfl, hr', hn, q⟩ := h
    refine ⟨_, (pss_one (ps_ret (pe_compS [] [] rfl (pi_list (pv 0)) (fun _ _ _ => pts_nil) (fun _ _ _ => (pe_ifExp (pt_cmpR op_isN (pv 0) pe_non (nomark _)) pe_non (pe_lst pa_nil))) (hk := by kernel_rfl)))), ?_⟩
    refine ⟨_, rfl, r, rfl, ⟨_, SqL.of hr'⟩, comp_list (K := K) (a := r) (xs := row.map ov) (fun i acc H1 => i ≤ row.length ∧ Same H H1 ∧ Paired (WayV H H1) acc ((row.take i).map fun o => o.map fun _ => [])) (by rw [List.length_map]; exact small (by omega)) ⟨Nat.zero_le _, same_refl _, .nil⟩
      (fun i acc H1 ⟨hi, _, w⟩ => by rw [Paired.length w, List.length_map, List.length_take]; omega) (fun i acc H1 ⟨_, s, _⟩ => SqL.of (s _ _ hr')) ?_ ?_⟩
    · rintro i acc H1 x hx ⟨hi, s1, w⟩ R kR
      rw [List.getElem?_map] at hx
      cases e : row[i]? with
      | none => rw [e] at hx; cases hx
      | some o =>
        rw [e] at hx
        have ex : x = ov o := (Option.some.inj hx).symm
        subst ex
        have hlt := (List.getElem?_eq_some_iff.mp e).1
        have tk : (row.take (i + 1)).map (fun o => o.map fun _ => ([] : List Int)) = (row.take i).map (fun o => o.map fun _ => []) ++ [o.map fun _ => []] := by rw [List.take_add_one, e, List.map_append]; rfl
        refine ⟨_, rfl, rfl, _, rfl, ?_⟩
        cases o with
        | none => exact iteT (kR _ _ ⟨hlt, s1, by rw [tk]; exact Paired.snoc w rfl⟩)
        | some z =>
          refine iteF ⟨(by show 0 ≤ sizeLine; decide), fun l hl => kR _ _ ⟨hlt, s1.trans (same_new hl _), ?_⟩⟩
          rw [tk]
          exact Paired.snoc (Paired.mapP w fun _ _ q => q.same (same_new hl _)) ⟨l, rfl, upd_same, none_of s1 hl⟩
    · rintro acc H1 ⟨hi, s1, w⟩ p hp
      rw [List.length_map, List.take_length] at w
      exact q p _ (s1.trans (same_new hp _)) ⟨acc, upd_same, Paired.mapP w fun _ _ q => q.same (same_new hp _)⟩
theorem sc_narrowed : FnScope ["row", "other"] ["row", "other"] (defScope s_narrowed) := ⟨rfl, rfl, rfl, by decide +kernel, rfl, by decide +kernel, by decide +kernel⟩
theorem ok_narrowed {f : Addr} {fd : FuncData} (F : Fun K "narrowed" "narrowed" s_narrowed f fd) (T : Txt K mg cl)  : FnOk P w K mg base CX0 1 f fd ["row", "other"] (sp_narrowed K) := by
  refine F.ok sc_narrowed (fun vs H Q E h => ?_) (fun cdv A outer s H vs Q E hr h => ?_)
  · obtain ⟨r1, r2, row1, row2, n, rfl, h1, h2, l1, l2, hn, q⟩ := h
    rfl
  · obtain ⟨r1, r2, row1, row2, n, rfl, h1, h2, l1, l2, hn, q⟩ := h
    refine ⟨_, (pss_one (ps_ret (pe_compS ["row", "other"] [0, 1] rfl (pi_range1 rfl T.z_range (pa_cons (pe_callB call_len_seq rfl T.z_len PySem.boot_len (pa_cons (pv 0) pa_nil)) pa_nil)) (fun _ _ _ => pts_nil) (fun _ _ _ => (pe_cmpR op_ne (pe_ix (ix_listK (K := K) rfl) (pv 1) (pv 0) (fun _ _ => rfl)) (pe_ix (ix_listK (K := K) rfl) (pv 2) (pv 0) (fun _ _ => rfl)) (nomark _))) (hk := by kernel_rfl)))), ?_⟩
    refine ⟨_, rfl, r1, _, rfl, .inl (SqL.of h1), ((n : Nat) : Int), by rw [List.length_map, l1], by omega, by omega, comp_vals (n := ((n : Nat) : Int).toNat) (fun j => V.bl (!decide (row1.getD j none = row2.getD j none))) (small (by omega)) ?_ (fun p hp => by have := q p hp; rw [Int.toNat_natCast]; exact this)⟩
    intro i hi R kR
    have a1 := at_ovW (os := row1) (x := 0 + (i : Int)) (by omega) (by omega)
    have a2 := at_ovW (os := row2) (x := 0 + (i : Int)) (by omega) (by omega)
    refine ⟨_, rfl, _, rfl, r1, _, _, _, rfl, rfl, SqL.of h1, a1, _, rfl, _, rfl, r2, _, _, _, rfl, rfl, SqL.of h2, a2, scal_ov _ _, ?_⟩
    have e : (0 + (i : Int)).toNat = i := by omega
    rw [e, decide_eq_decide.mpr ov_inj]
    exact kR
theorem sc_by_way : FnScope ["ways", "a", "b", "bound", "place"] ["ways", "a", "b", "bound", "place"] (defScope s_by_way) := ⟨rfl, rfl, rfl, by decide +kernel, rfl, by decide +kernel, by decide +kernel⟩
theorem ok_by_way {f : Addr} {fd : FuncData} (F : Fun K "by_way" "by_way" s_by_way f fd) (T : Txt K mg cl)  : FnOk P w K mg base CX0 1 f fd ["ways", "a", "b", "bound", "place"] (sp_by_way K) := by
  refine F.ok sc_by_way (fun vs H Q E h => ?_) (fun cdv A outer s H vs Q E hr h => ?_)
  · obtain ⟨H0, p, u, w, n, m, a, b, k, ps, qs, rfl, hW, hS, hu, ha, hb, m1, m2, e1, e2, l1, l2, q⟩ := h
    rfl
  · obtain ⟨H0, p, u, w, n, m, a, b, k, ps, qs, rfl, hW, hS, hu, ha, hb, m1, m2, e1, e2, l1, l2, q⟩ := h
    refine ⟨_, (pss_one (ps_ret (pe_op op_cat (pe_op op_cat (pe_ix ix_list (pe_ix ix_list (pv 0) (pv 1) (fun _ _ => rfl)) (pe_ix ix_tup (pv 3) pe_int (fun _ _ => rfl)) (fun _ _ => rfl)) (pe_lst (pa_cons (pv 4) pa_nil))) (pe_ix ix_list (pe_ix ix_list (pv 0) (pe_ix ix_tup (pv 3) pe_int (fun _ _ => rfl)) (fun _ _ => rfl)) (pv 2) (fun _ _ => rfl))))), ?_⟩
    obtain ⟨rs, r, vs, v, g1, g2, g3, g4, g5⟩ := hW.at hS ha m1
    rw [e1] at g5
    obtain ⟨la, rfl, g6, _⟩ := g5
    refine ⟨_, rfl, _, rfl, p, _, _, _, rfl, rfl, SqL.of g1, g2, _, rfl, u, _, 0, _, rfl, rfl, SqT.of hu, rfl, r, _, _, _, rfl, rfl, SqL.of g3, g4, _, rfl, (by show 1 ≤ sizeLine; decide), fun l hl => ?_⟩
    have s1 := same_new hl (.lst [.int k])
    have f1 : (upd H l (.lst [.int k])) l = some (.lst [.int k]) := upd_same
    generalize upd H l (.lst [.int k]) = H1 at s1 f1 ⊢
    refine ⟨la, l, _, _, rfl, rfl, s1 _ _ g6, f1, small (by rw [List.length_map]; show _ + 1 ≤ 1000; omega), fun l' hl' => ?_⟩
    have s2 := same_new hl' (.lst (ps.map V.int ++ [.int k]))
    have f2 : (upd H1 l' (.lst (ps.map V.int ++ [.int k]))) l' = some (.lst (ps.map V.int ++ [.int k])) := upd_same
    generalize upd H1 l' (.lst (ps.map V.int ++ [.int k])) = H2 at s2 f2 ⊢
    have s12 := s1.trans s2
    obtain ⟨rs', r', vs', v', k1, k2, k3, k4, k5⟩ := (hW.same s12).at hS m2 hb
    rw [e2] at k5
    obtain ⟨lb, rfl, k6, _⟩ := k5
    refine ⟨_, rfl, _, rfl, u, _, 1, _, rfl, rfl, SqT.of (s12 _ _ hu), rfl, p, _, _, _, rfl, rfl, SqL.of k1, k2, _, rfl, r', _, _, _, rfl, rfl, SqL.of k3, k4, l', lb, _, _, rfl, rfl, f2, k6, small (by simp; omega), fun l'' hl'' => ?_⟩
    exact q l'' _ (s12.trans (same_new hl'' _)) (none_of s12 hl'') (by rw [upd_same]; simp)
theorem sc_all_bounds : FnScope ["gaps", "found", "gap"] ["gaps"] (defScope s_all_bounds) := ⟨rfl, rfl, rfl, by decide +kernel, rfl, by decide +kernel, by decide +kernel⟩
theorem ok_all_bounds {f : Addr} {fd : FuncData} (F : Fun K "all_bounds" "all_bounds" s_all_bounds f fd) (T : Txt K mg cl) (C_bounds_of : Cal P w K mg base 1 "bounds_of" ["gap"] (sp_bounds_of K)) : FnOk P w K mg base CX0 2 f fd ["gaps"] (sp_all_bounds K) := by
  refine F.ok sc_all_bounds (fun vs H Q E h => ?_) (fun cdv A outer s H vs Q E hr h => ?_)
  · obtain ⟨d, kvs, gs, rfl, hd, G, hl, q⟩ := h
    rfl
  · obtain ⟨d, kvs, gs, rfl, hd, G, hl, q⟩ := h
    refine ⟨_, (pss_cons (ps_set (i := 1) sc_all_bounds.nd rfl (Or.inl rfl) (pe_lst pa_nil))
      (pss_cons (ps_forD PassesOwn.never rfl (pi_values (pv 0)) (pg_name (i := 2) sc_all_bounds.nd rfl (Or.inl rfl))
      (pss_one (ps_expr (pe_bm PySem.F.plainAttrs_list PySem.F.slot_list_extend PySem.F.type_list_extend mt_extend (pv 1) (pa_cons (pec C_bounds_of (hr.mono (by decide)) rfl (pa_cons (pv 2) pa_nil)) pa_nil)))))
      (pss_one (ps_ret (pv 1))))), ?_⟩
    have len := G.len
    refine ⟨(by show 0 ≤ sizeLine; decide), fun r hr0 => ?_⟩
    have s1 := same_new hr0 (.lst [])
    have e1 : (upd H r (.lst [])) r = some (.lst []) := upd_same
    generalize upd H r (.lst []) = H1 at s1 e1 ⊢
    have nr : r ≠ d := Ne.symm (ne_of_none hd hr0)
    have hd1 := s1 _ _ hd
    intro NF
    refine ⟨_, rfl, d, kvs, rfl, hd1, fun ob nf => for_dict (NF := NF) (a := d) (ob := ob) (kvs := kvs) (fun i σ H2 => Same (upd H d (.frz ob (.dK kvs))) H2 ∧ (∃ u3, σ = [some (.ref d), some (.ref r), u3]) ∧ ∃ qs, H2 r = some (.lst qs) ∧ AreB H2 qs (allB (gs.take i))) ?_ ?_ ?_ ?_⟩
    · refine ⟨fun b o e => ?_, ⟨_, rfl⟩, [], by rw [upd_ne nr]; exact e1, .nil⟩
      by_cases c : b = d
      · subst c; rw [upd_same] at e ⊢; exact e
      · rw [upd_ne c] at e ⊢; exact s1 _ _ e
    · rintro i σ H2 _ ⟨s2, _⟩
      exact s2 _ _ upd_same
    · rintro i k v σ H2 hi ⟨s2, ⟨u3, rfl⟩, qs, e2, A2⟩
      obtain ⟨g, hg, _, p, hv, hp⟩ := paired_get G hi
      have hv : v = .ref p := hv
      subst hv
      have hp2 : H2 p = some (.tup (gv g.2)) := s2 _ _ (by rw [upd_ne (ne_of hp hd (fun z => by cases z))]; exact hp)
      have hlt : i < gs.length := (List.getElem?_eq_some_iff.mp hg).1
      have l1 := A2.len
      have l2 := allB_len (gs.take i)
      have l3 := gbs_len g.2
      rw [List.length_take] at l2
      refine ⟨_, rfl, .inl ⟨rfl, _, SqL.of e2⟩, _, rfl, p, g.2.1, g.2.2.1, g.2.2.2.1, g.2.2.2.2, rfl, SqT.of hp2, fun r3 H3 qs3 hr3 s3 e3 A3 => ?_⟩
      have l4 := A3.len
      have e3' := s3 _ _ e2
      have l5 : (bnds g.2.1 g.2.2.1 g.2.2.2.1 g.2.2.2.2).length ≤ 2 := l3
      refine ⟨r, r3, qs, qs3, rfl, rfl, e3', e3, small (by omega), ?_⟩
      refine ⟨fun b o e => ?_, ⟨_, rfl⟩, _, upd_same, ?_⟩
      · have nb : b ≠ r := fun z => by
          subst z
          rw [upd_ne nr, hr0] at e; cases e
        rw [upd_ne nb]; exact s3 _ _ (s2 _ _ e)
      · rw [allB_take hg]
        exact AreB.tups (AreB.append (A2.same s3) A3) fun c xs e => by rw [upd_ne (ne_of e e3' (fun z => by cases z))]; exact e
    · rintro σ H2 ⟨s2, ⟨u3, rfl⟩, qs, e2, A2⟩
      rw [len, List.take_length] at A2
      have hf := s2 d _ upd_same
      refine ⟨d, ob, kvs, nf, hf, _, rfl, q r _ qs hr0 (fun b o e => ?_) (by rw [upd_ne nr]; exact e2) (A2.tups fun c xs e => by rw [upd_ne (ne_of e hf (fun z => by cases z))]; exact e)⟩
      by_cases c : b = d
      · subst c; rw [upd_same, ← hd]; exact e
      · rw [upd_ne c]; exact s2 _ _ (by rw [upd_ne c]; exact e)
theorem sc_ends_of : FnScope ["gap", "ends"] ["gap"] (defScope s_ends_of) := ⟨rfl, rfl, rfl, by decide +kernel, rfl, by decide +kernel, by decide +kernel⟩
theorem ok_ends_of {f : Addr} {fd : FuncData} (F : Fun K "ends_of" "ends_of" s_ends_of f fd) (T : Txt K mg cl)  : FnOk P w K mg base CX0 1 f fd ["gap"] (sp_ends_of K) := by
  refine F.ok sc_ends_of (fun vs H Q E h => ?_) (fun cdv A outer s H vs Q E hr h => ?_)
  · obtain ⟨u, ⟨a, b, lo, hi⟩, rfl, hB, q⟩ := h
    rfl
  · obtain ⟨u, ⟨a, b, lo, hi⟩, rfl, hB, q⟩ := h
    refine ⟨_, (pss_cons (ps_set (i := 1) sc_ends_of.nd rfl (Or.inl rfl) (pe_lst pa_nil))
      (pss_cons (ps_if (pt_cmpR op_notN (pe_ix ix_tup (pv 0) pe_int (fun _ _ => rfl)) pe_non (nomark _))
      (pss_one (ps_expr (pe_bm PySem.F.plainAttrs_list PySem.F.slot_list_append PySem.F.type_list_append mt_append (pv 1) (pa_cons pe_str pa_nil))))
      pss_nil)
      (pss_cons (ps_if (pt_cmpR op_notN (pe_ix ix_tup (pv 0) pe_int (fun _ _ => rfl)) pe_non (nomark _))
      (pss_one (ps_expr (pe_bm PySem.F.plainAttrs_list PySem.F.slot_list_append PySem.F.type_list_append mt_append (pv 1) (pa_cons pe_str pa_nil))))
      pss_nil)
      (pss_one (ps_ret (pv 1)))))), ?_⟩
    refine ⟨(by show 0 ≤ sizeLine; decide), fun r hr0 => ?_⟩
    have s0 := same_new hr0 (.lst [])
    have e0 : (upd H r (.lst [])) r = some (.lst []) := upd_same
    generalize upd H r (.lst []) = H1 at s0 e0 ⊢
    have hB1 := s0.seqT hB
    have put : ∀ (H2 : Hp) (xs : List V), Same H H2 → Same H (upd H2 r (.lst xs)) := fun H2 xs s b o h => by rw [upd_ne (ne_of_none h hr0)]; exact s _ _ h
    cases hi with
    | none =>
      refine ⟨_, rfl, u, _, 3, _, rfl, rfl, hB1, rfl, rfl, _, rfl, iteF ?_⟩
      cases lo with
      | none => exact ⟨_, rfl, u, _, 2, _, rfl, rfl, hB1, rfl, rfl, _, rfl, iteF ⟨_, rfl, q r H1 hr0 s0 e0⟩⟩
      | some l => exact ⟨_, rfl, u, _, 2, _, rfl, rfl, hB1, rfl, rfl, _, rfl, iteT ⟨_, rfl, .inl ⟨rfl, _, SqL.of e0⟩, r, _, _, rfl, rfl, e0, (by show 0 < sizeLine; decide), _, rfl, q r _ hr0 (put _ _ s0) upd_same⟩⟩
    | some h =>
      refine ⟨_, rfl, u, _, 3, _, rfl, rfl, hB1, rfl, rfl, _, rfl, iteT ⟨_, rfl, .inl ⟨rfl, _, SqL.of e0⟩, r, _, _, rfl, rfl, e0, (by show 0 < sizeLine; decide), ?_⟩⟩
      have s2 := put H1 [.str "high"] s0
      have e2 : (upd H1 r (.lst ([] ++ [.str "high"]))) r = some (.lst [.str "high"]) := upd_same
      have hB2 := s2.seqT hB
      cases lo with
      | none => exact ⟨_, rfl, u, _, 2, _, rfl, rfl, hB2, rfl, rfl, _, rfl, iteF ⟨_, rfl, q r _ hr0 s2 e2⟩⟩
      | some l => exact ⟨_, rfl, u, _, 2, _, rfl, rfl, hB2, rfl, rfl, _, rfl, iteT ⟨_, rfl, .inl ⟨rfl, _, SqL.of e2⟩, r, _, _, rfl, rfl, e2, (by show 1 < sizeLine; decide), _, rfl, q r _ hr0 (put _ _ s2) upd_same⟩⟩
theorem sc_law_cell : FnScope ["_law_script", "_law_k", "_law_seed", "_law_some"] ["_law_script", "_law_k"] (defScope s_law_cell) := ⟨rfl, rfl, rfl, by decide +kernel, rfl, by decide +kernel, by decide +kernel⟩
theorem ok_law_cell {f : Addr} {fd : FuncData} (F : Fun K "_law_cell" "_law_cell" s_law_cell f fd) (T : Txt K mg cl)  : FnOk P w K mg base CX0 1 f fd ["_law_script", "_law_k"] (sp_law_cell K) := by
  refine F.ok sc_law_cell (fun vs H Q E h => ?_) (fun cdv A outer s H vs Q E hr h => ?_)
  · obtain ⟨a, ns, k, rfl, hS, h63, h0, h1, q⟩ := h
    rfl
  · obtain ⟨a, ns, k, rfl, hS, h63, h0, h1, q⟩ := h
    refine ⟨_, (pss_cons (ps_if (pt_cmpR op_lt (pv 1) (pe_callB call_len_seq rfl T.z_len PySem.boot_len (pa_cons (pv 0) pa_nil)) (nomark _))
      (pss_one (ps_ret (pe_ix ix_list (pv 0) (pv 1) (fun _ _ => rfl))))
      pss_nil)
      (pss_cons (ps_set (i := 2) sc_law_cell.nd rfl (Or.inl rfl) (pe_op op_mul (pv 1) pe_int))
      (pss_cons (ps_if (pt_cmpR op_gt (pe_callB call_len_seq rfl T.z_len PySem.boot_len (pa_cons (pv 0) pa_nil)) pe_int (nomark _))
      (pss_one (ps_set (i := 2) sc_law_cell.nd rfl (Or.inl rfl) (pe_op op_add (pv 2) (pe_op op_mod (pe_ix ix_list (pv 0) (pe_op op_mod (pv 1) (pe_callB call_len_seq rfl T.z_len PySem.boot_len (pa_cons (pv 0) pa_nil))) (fun _ _ => rfl)) pe_int))))
      pss_nil)
      (pss_cons (ps_set (i := 3) sc_law_cell.nd rfl (Or.inl rfl) (pe_op op_mod (pe_op op_mul (pv 2) pe_int) pe_int))
      (pss_one (ps_ret (pe_op op_mod (pe_op op_fdiv (pe_op op_mul (pv 3) (pe_op op_add (pe_op op_add (pv 3) (pe_op op_mul pe_int (pv 1))) pe_int)) pe_int) pe_int))))))), ?_⟩
    have hl : (ns.map V.int).length = ns.length := List.length_map _
    refine ⟨_, rfl, _, rfl, a, _, rfl, .inl hS, _, _, rfl, rfl, _, rfl, ?_⟩
    refine ite2 (fun c => ?_) (fun c => ?_)
    · have c' : k < (((ns.map V.int).length : Nat) : Int) := of_decide_eq_true c
      rw [hl] at c'
      exact ⟨_, rfl, _, rfl, a, _, k, _, rfl, rfl, hS, at_int h0 c', q _⟩
    · refine ⟨_, rfl, _, _, rfl, rfl, .inl ⟨by omega, by omega⟩, _, rfl, a, _, rfl, .inl hS, _, _, rfl, rfl, _, rfl, ?_⟩
      have fin : ∀ z : Int, tSeq (tAsg (tOp (rI (fun _ j => 0 < j) fun i j => .int (i % j)) (tOp (rI CMul fun i j => .int (i * j)) (tVar 2) (tC (.int 48271))) (tC (.int 65537))) (gName 3))
          (tRet (tOp (rI (fun _ j => 0 < j) fun i j => .int (i % j)) (tOp (rI CDiv fun i j => .int (i / j)) (tOp (rI CMul fun i j => .int (i * j)) (tVar 3) (tOp (rI0 fun i j => .int (i + j)) (tOp (rI0 fun i j => .int (i + j)) (tVar 3) (tOp (rI CMul fun i j => .int (i * j)) (tC (.int 2)) (tVar 1))) (tC (.int 1)))) (tC (.int 7))) (tC (.int 65521)))) { nx := fun _ H' => Q .non H', rt := Q } [some (.ref a), some (.int k), some (.int z), none] H := fun z => by
        refine ⟨_, rfl, _, _, rfl, rfl, .inr ⟨by decide, by decide⟩, _, _, rfl, rfl, (by show (0 : Int) < 65537; decide), ?_⟩
        have m1 := Int.emod_nonneg (z * 48271) (show (65537 : Int) ≠ 0 by decide)
        have m2 := Int.emod_lt_of_pos (z * 48271) (show (0 : Int) < 65537 by decide)
        exact ⟨_, rfl, _, rfl, _, rfl, _, _, rfl, rfl, .inl ⟨by decide, by decide⟩, _, _, rfl, rfl, _, _, rfl, rfl, _, _, rfl, rfl, .inl ⟨by omega, by omega⟩, _, _, rfl, rfl, ⟨by decide, by decide⟩, _, _, rfl, rfl, (by show (0 : Int) < 65521; decide), q _⟩
      refine ite2 (fun c2 => ?_) (fun c2 => fin _)
      have c3 : (0 : Int) < (((ns.map V.int).length : Nat) : Int) := of_decide_eq_true c2
      have m1 := Int.emod_nonneg k (show (((ns.map V.int).length : Nat) : Int) ≠ 0 by omega)
      have m2 := Int.emod_lt_of_pos k c3
      refine ⟨_, rfl, _, rfl, _, rfl, _, rfl, a, _, rfl, .inl hS, _, _, rfl, rfl, c3, a, _, _, _, rfl, rfl, hS, at_int m1 (by rw [hl] at m2 ⊢; exact m2), _, _, rfl, rfl, (by show (0 : Int) < 65537; decide), _, _, rfl, rfl, fin _⟩
theorem sc_law_spread : FnScope ["_law_cell_here", "_law_k"] ["_law_cell_here", "_law_k"] (defScope s_law_spread) := ⟨rfl, rfl, rfl, by decide +kernel, rfl, by decide +kernel, by decide +kernel⟩
theorem ok_law_spread {f : Addr} {fd : FuncData} (F : Fun K "_law_spread" "_law_spread" s_law_spread f fd) (T : Txt K mg cl)  : FnOk P w K mg base CX0 1 f fd ["_law_cell_here", "_law_k"] (sp_law_spread K) := by
  refine F.ok sc_law_spread (fun vs H Q E h => ?_) (fun cdv A outer s H vs Q E hr h => ?_)
  · obtain ⟨c, k, rfl, h0, h1, q⟩ := h
    rfl
  · obtain ⟨c, k, rfl, h0, h1, q⟩ := h
    refine ⟨_, (pss_cons (ps_if (pt_chain op_lt op_lt (pe_un un_neg pe_int) (pv 0) pe_int)
      (pss_one (ps_ret (pe_op op_mod (pe_op op_mul (pe_op op_add (pe_op op_mul (pe_op op_add (pv 0) pe_int) (pe_op op_add (pe_op op_add (pv 0) pe_int) (pe_op op_mul pe_int (pv 1)))) (pe_op op_mul pe_int (pv 1))) pe_int) pe_int)))
      pss_nil)
      (pss_one (ps_ret (pv 0)))), ?_⟩
    refine ⟨_, rfl, _, rfl, _, _, rfl, rfl, _, rfl, ?_⟩
    refine ite2 (fun g1 => ?_) (fun g1 => ?_)
    · have g1' : -1000 < c := of_decide_eq_true g1
      refine ⟨_, _, rfl, rfl, _, rfl, ?_⟩
      refine ite2 (fun g2 => ?_) (fun g2 => ?_)
      · have g2' : c < 1000 := of_decide_eq_true g2
        exact ⟨_, rfl, _, _, rfl, rfl, _, rfl, _, _, rfl, rfl, _, rfl, _, _, rfl, rfl, .inl ⟨by decide, by decide⟩, _, _, rfl, rfl, _, _, rfl, rfl, .inl ⟨by omega, by omega⟩, _, rfl, _, _, rfl, rfl, .inl ⟨by decide, by decide⟩, _, _, rfl, rfl, _, _, rfl, rfl, .inr ⟨by decide, by decide⟩, _, _, rfl, rfl, (by show (0 : Int) < 1000003; decide), q _⟩
      · exact ⟨_, rfl, q _⟩
    · exact ⟨_, rfl, iteF ⟨_, rfl, q _⟩⟩
theorem sc_law_big : FnScope ["_law_cell_here"] ["_law_cell_here"] (defScope s_law_big) := ⟨rfl, rfl, rfl, by decide +kernel, rfl, by decide +kernel, by decide +kernel⟩
theorem ok_law_big {f : Addr} {fd : FuncData} (F : Fun K "_law_big" "_law_big" s_law_big f fd) (T : Txt K mg cl)  : FnOk P w K mg base CX0 1 f fd ["_law_cell_here"] (sp_law_big K) := by
  refine F.ok sc_law_big (fun vs H Q E h => ?_) (fun cdv A outer s H vs Q E hr h => ?_)
  · obtain ⟨c, rfl, q⟩ := h
    rfl
  · obtain ⟨c, rfl, q⟩ := h
    refine ⟨_, (pss_cons (ps_if (pt_cmpR op_eq (pe_op op_mod (pv 0) pe_int) pe_int (nomark _))
      (pss_one (ps_ret (pe_op op_mul (pe_op op_mod (pe_op op_fdiv (pv 0) pe_int) (pe_op op_pow pe_int pe_int)) (pe_op op_sub pe_int (pe_op op_mul (pe_op op_mod (pe_op op_fdiv (pv 0) pe_int) pe_int) pe_int)))))
      pss_nil)
      (pss_one (ps_ret (pe_op op_sub (pe_op op_mod (pe_op op_fdiv (pv 0) pe_int) pe_int) pe_int)))), ?_⟩
    refine ⟨_, rfl, _, _, rfl, rfl, (by show (0 : Int) < 4; decide), rfl, _, rfl, ?_⟩
    refine ite2 (fun _ => ?_) (fun _ => ?_)
    · refine ⟨_, rfl, _, _, rfl, rfl, ⟨by decide, by decide⟩, _, _, rfl, rfl, ⟨by decide, by decide, by decide⟩, _, _, rfl, rfl, (by show (0 : Int) < 10 ^ 60; decide), _, rfl, _, _, rfl, rfl, ⟨by decide, by decide⟩, _, _, rfl, rfl, (by show (0 : Int) < 2; decide), _, _, rfl, rfl, .inr ⟨by decide, by decide⟩, _, _, rfl, rfl, _, _, rfl, rfl, .inr ⟨?_, ?_⟩, q _⟩
      all_goals
        have m1 := Int.emod_nonneg (c / 4) (show (2 : Int) ≠ 0 by decide)
        have m2 := Int.emod_lt_of_pos (c / 4) (show (0 : Int) < 2 by decide)
        omega
    · exact ⟨_, rfl, _, _, rfl, rfl, ⟨by decide, by decide⟩, _, _, rfl, rfl, (by show (0 : Int) < 21; decide), _, _, rfl, rfl, q _⟩
theorem sc_law_times : FnScope ["_law_script", "_law_at", "_law_count"] ["_law_script", "_law_at", "_law_count"] (defScope s_law_times) := ⟨rfl, rfl, rfl, by decide +kernel, rfl, by decide +kernel, by decide +kernel⟩
theorem ok_law_times {f : Addr} {fd : FuncData} (F : Fun K "_law_times" "_law_times" s_law_times f fd) (T : Txt K mg cl) (C_law_cell : Cal P w K mg base 1 "_law_cell" ["_law_script", "_law_k"] (sp_law_cell K)) (C_law_big : Cal P w K mg base 1 "_law_big" ["_law_cell_here"] (sp_law_big K)) : FnOk P w K mg base CX0 2 f fd ["_law_script", "_law_at", "_law_count"] (sp_law_times K) := by
  refine F.ok sc_law_times (fun vs H Q E h => ?_) (fun cdv A outer s H vs Q E hr h => ?_)
  · obtain ⟨a, ns, k, n, rfl, hS, h63, h0, h1, hn0, hn8, q⟩ := h
    rfl
  · obtain ⟨a, ns, k, n, rfl, hS, h63, h0, h1, hn0, hn8, q⟩ := h
    refine ⟨_, (pss_one (ps_ret (pe_callTy call_tuple_of rfl T.z_tuple boot_tuple (pa_cons (pe_compS ["_law_script", "_law_at"] [0, 1] rfl (pi_range1 rfl T.z_range (pa_cons (pv 2) pa_nil)) (fun _ _ _ => pts_nil) (fun _ _ _ => (pec C_law_big (hr.mono (by decide)) rfl (pa_cons (pec C_law_cell (hr.mono (by decide)) rfl (pa_cons (pv 1) (pa_cons (pe_op op_add (pv 2) (pv 0)) pa_nil))) pa_nil))) (hk := by kernel_rfl)) pa_nil)))), ?_⟩
    refine ⟨_, rfl, n, rfl, by omega, by omega, comp_range (lo := 0) (n := n.toNat) (fun i acc H1 => H1 = H ∧ ∃ ms : List Int, ms.length = i ∧ acc = ms.map V.int) (small (by omega)) ⟨rfl, [], rfl, rfl⟩ (fun i acc H1 ⟨_, ms, e1, e2⟩ => by rw [e2, List.length_map, e1]) ?_ ?_⟩
    · rintro i acc H1 hi ⟨rfl, ms, e1, e2⟩ R kR
      refine ⟨_, rfl, _, rfl, _, rfl, _, _, rfl, rfl, a, ns, _, rfl, hS, h63, by omega, by omega, fun z => ⟨_, rfl, fun y => kR _ _ ⟨rfl, ms ++ [y], by simp [e1], by simp [e2]⟩⟩⟩
    · rintro acc H1 ⟨rfl, ms, e1, e2⟩ p hp
      refine ⟨p, _, rfl, .inl ⟨SqL.of upd_same, fun l hl => ?_⟩⟩
      refine q l _ ms (fun b o hb => ?_) (by omega) (by rw [upd_same, e2])
      have g1 := same_new (H := H1) hp (.lst acc) b o hb
      exact same_new hl (.tup acc) b o g1
theorem sc_law_cells : FnScope ["_law_script", "_law_at", "_law_most", "_law_cells_here"] ["_law_script", "_law_at", "_law_most"] (defScope s_law_cells) := ⟨rfl, rfl, rfl, by decide +kernel, rfl, by decide +kernel, by decide +kernel⟩
theorem ok_law_cells {f : Addr} {fd : FuncData} (F : Fun K "_law_cells" "_law_cells" s_law_cells f fd) (T : Txt K mg cl) (C_law_cell : Cal P w K mg base 1 "_law_cell" ["_law_script", "_law_k"] (sp_law_cell K)) : FnOk P w K mg base CX0 2 f fd ["_law_script", "_law_at", "_law_most"] (sp_law_cells K) := by
  refine F.ok sc_law_cells (fun vs H Q E h => ?_) (fun cdv A outer s H vs Q E hr h => ?_)
  · obtain ⟨a, ns, k, m, rfl, hS, h63, h0, h1, hm, q⟩ := h
    rfl
  · obtain ⟨a, ns, k, m, rfl, hS, h63, h0, h1, hm, q⟩ := h
    refine ⟨_, (pss_cons (ps_set (i := 3) sc_law_cells.nd rfl (Or.inl rfl) (pe_slice sl_list (pv 0) (po_some (pv 1)) (po_some (pe_op op_add (pv 1) (pv 2)))))
      (pss_cons (ps_if (pt_cmpR op_lt (pe_callB call_len_seq rfl T.z_len PySem.boot_len (pa_cons (pv 3) pa_nil)) pe_int (nomark _))
      (pss_one (ps_setComp (j := 3) ["_law_script", "_law_at"] [0, 1] sc_law_cells.nd rfl rfl rfl (pi_range1 rfl T.z_range (pa_cons (pe_op op_add pe_int (pe_op op_mod (pec C_law_cell (hr.mono (by decide)) rfl (pa_cons (pv 0) (pa_cons pe_int pa_nil))) pe_int)) pa_nil)) (fun _ _ _ => pts_nil) (fun _ _ _ => (pec C_law_cell (hr.mono (by decide)) rfl (pa_cons (pv 1) (pa_cons (pe_op op_add (pv 2) (pv 0)) pa_nil)))) (hk := by kernel_rfl)))
      pss_nil)
      (pss_one (ps_ret (pv 3))))), ?_⟩
    obtain ⟨ys, ey, hy⟩ := cut_map V.int ns (some k) (some (k + m))
    refine ⟨_, rfl, _, rfl, _, rfl, _, rfl, _, rfl, _, _, rfl, rfl, _, rfl, a, _, rfl, hS, fun p hp => ?_⟩
    have s1 := same_new hp (.lst (cutV (ns.map V.int) (some k) (some (k + m))))
    have e1 : (upd H p (.lst (cutV (ns.map V.int) (some k) (some (k + m))))) p = some (.lst (ys.map V.int)) := by rw [upd_same, ey]
    generalize upd H p (.lst (cutV (ns.map V.int) (some k) (some (k + m)))) = H1 at s1 e1 ⊢
    have hl : (ys.map V.int).length = ys.length := List.length_map _
    refine ⟨_, rfl, p, _, rfl, .inl (SqL.of e1), _, _, rfl, rfl, _, rfl, ?_⟩
    refine ite2 (fun c => ?_) (fun c => ?_)
    · refine ⟨_, rfl, a, ns, 1, rfl, s1.seq hS, h63, by decide, by decide, fun c1 => ⟨_, _, rfl, rfl, (by show (0 : Int) < 7; decide), _, _, rfl, rfl, 4 + c1 % 7, rfl, by omega, by omega,
        comp_range (lo := 0) (n := (4 + c1 % 7).toNat) (fun i acc H2 => H2 = H1 ∧ ∃ zs : List Int, zs.length = i ∧ acc = zs.map V.int) (small (by omega)) ⟨rfl, [], rfl, rfl⟩ (fun i acc H2 ⟨_, zs, g1, g2⟩ => by rw [g2, List.length_map, g1]) ?_ ?_⟩⟩
      · rintro i acc H2 hi ⟨rfl, zs, g1, g2⟩ R kR
        exact ⟨_, rfl, _, rfl, _, rfl, _, _, rfl, rfl, a, ns, _, rfl, s1.seq hS, h63, by omega, by omega, fun c => kR _ _ ⟨rfl, _, by rw [List.length_append, g1]; rfl, ints_snoc g2 _⟩⟩
      · rintro acc H2 ⟨rfl, zs, g1, g2⟩ p2 hp2
        exact ⟨_, rfl, q p2 _ zs (s1.trans (same_new hp2 _)) (by rw [upd_same, g2]) (by omega) (by omega)⟩
    · have c' : ¬ (((ys.map V.int).length : Nat) : Int) < 4 := of_decide_eq_false (Bool.eq_false_iff.mpr c)
      exact ⟨_, rfl, q p H1 ys s1 e1 (by omega) (by omega)⟩
theorem sc_law_gap_round : FnScope ["_law_cell_here", "_law_times_here", "_law_loose", "_law_count", "_law_a", "_law_b", "_law_some", "_law_low", "_law_high"] ["_law_cell_here", "_law_times_here", "_law_loose"] (defScope s_law_gap_round) := ⟨rfl, rfl, rfl, by decide +kernel, rfl, by decide +kernel, by decide +kernel⟩
theorem ok_law_gap_round {f : Addr} {fd : FuncData} (F : Fun K "_law_gap_round" "_law_gap_round" s_law_gap_round f fd) (T : Txt K mg cl)  : FnOk P w K mg base CX0 1 f fd ["_law_cell_here", "_law_times_here", "_law_loose"] (sp_law_gap_round K) := by
  refine F.ok sc_law_gap_round (fun vs H Q E h => ?_) (fun cdv A outer s H vs Q E hr h => ?_)
  · obtain ⟨c, l, t, ns, rfl, hT, hpos, hn8, q⟩ := h
    rfl
  · obtain ⟨c, l, t, ns, rfl, hT, hpos, hn8, q⟩ := h
    refine ⟨_, (pss_cons (ps_set (i := 3) sc_law_gap_round.nd rfl (Or.inl rfl) (pe_callB call_len_seq rfl T.z_len PySem.boot_len (pa_cons (pv 1) pa_nil)))
      (pss_cons (ps_set (i := 4) sc_law_gap_round.nd rfl (Or.inl rfl) (pe_op op_mod (pv 0) (pv 3)))
      (pss_cons (ps_set (i := 5) sc_law_gap_round.nd rfl (Or.inl rfl) (pe_op op_mod (pe_op op_fdiv (pv 0) pe_int) (pv 3)))
      (pss_cons (ps_set (i := 6) sc_law_gap_round.nd rfl (Or.inl rfl) (pe_op op_sub (pe_ix ix_tup (pv 1) (pv 5) (fun _ _ => rfl)) (pe_ix ix_tup (pv 1) (pv 4) (fun _ _ => rfl))))
      (pss_cons (ps_set (i := 7) sc_law_gap_round.nd rfl (Or.inl rfl) (pe_op op_sub (pe_op op_sub (pv 6) (pe_op op_mod (pe_op op_fdiv (pv 0) pe_int) pe_int)) (pv 2)))
      (pss_cons (ps_set (i := 8) sc_law_gap_round.nd rfl (Or.inl rfl) (pe_op op_add (pe_op op_add (pv 6) (pe_op op_mod (pe_op op_fdiv (pv 0) pe_int) pe_int)) (pv 2)))
      (pss_cons (ps_if (pt_cmpR op_eq (pe_op op_mod (pe_op op_fdiv (pv 0) pe_int) pe_int) pe_int (nomark _))
      (pss_one (ps_set (i := 7) sc_law_gap_round.nd rfl (Or.inl rfl) pe_non))
      pss_nil)
      (pss_cons (ps_if (pt_cmpR op_eq (pe_op op_mod (pe_op op_fdiv (pv 0) pe_int) pe_int) pe_int (nomark _))
      (pss_one (ps_set (i := 8) sc_law_gap_round.nd rfl (Or.inl rfl) pe_non))
      pss_nil)
      (pss_cons (ps_if (pt_cmpR op_eq (pe_op op_mod (pe_op op_fdiv (pv 0) pe_int) pe_int) pe_int (nomark _))
      (pss_one (ps_set (i := 8) sc_law_gap_round.nd rfl (Or.inl rfl) (pe_op op_add (pv 6) (pe_op op_mod (pe_op op_fdiv (pv 0) pe_int) (pe_op op_pow pe_int pe_int)))))
      pss_nil)
      (pss_one (ps_ret (pe_tup (pa_cons (pv 4) (pa_cons (pv 5) (pa_cons (pv 7) (pa_cons (pv 8) pa_nil)))))))))))))))), ?_⟩
    have hln : (ns.map V.int).length = ns.length := List.length_map _
    have L1 : (0 : Int) < (((ns.map V.int).length : Nat) : Int) := by omega
    refine ⟨_, rfl, t, _, rfl, .inr hT, ?_⟩
    refine ⟨_, rfl, _, rfl, _, _, rfl, rfl, L1, ?_⟩
    refine ⟨_, rfl, _, _, rfl, rfl, ⟨by decide, by decide⟩, _, rfl, _, _, rfl, rfl, L1, ?_⟩
    have ha : inR (c % (((ns.map V.int).length : Nat) : Int)) ns := ⟨Int.emod_nonneg _ (by omega), by have := Int.emod_lt_of_pos c L1; rw [hln] at this ⊢; exact this⟩
    have hb : inR (c / 8 % (((ns.map V.int).length : Nat) : Int)) ns := ⟨Int.emod_nonneg _ (by omega), by have := Int.emod_lt_of_pos (c / 8) L1; rw [hln] at this ⊢; exact this⟩
    refine ⟨_, rfl, _, rfl, t, _, _, _, rfl, rfl, hT, at_int hb.1 hb.2, _, rfl, _, rfl, t, _, _, _, rfl, rfl, hT, at_int ha.1 ha.2, _, _, rfl, rfl, ?_⟩
    have fin : ∀ (lo hi : Option Int) (p : Addr), H p = none → ¬ (lo = none ∧ hi = none) → (0 ≤ l → ∀ z, lo = some z → z ≤ tm ns (c % (((ns.map V.int).length : Nat) : Int)) (c / 8 % (((ns.map V.int).length : Nat) : Int))) → (0 ≤ l → ∀ z, hi = some z → tm ns (c % (((ns.map V.int).length : Nat) : Int)) (c / 8 % (((ns.map V.int).length : Nat) : Int)) ≤ z) →
        Q (.ref p) (upd H p (.tup [.int (c % (((ns.map V.int).length : Nat) : Int)), .int (c / 8 % (((ns.map V.int).length : Nat) : Int)), ov lo, ov hi])) := fun lo hi p hp no h1 h2 => q p (_, _, lo, hi) hp ha hb no fun l0 => gap_kept (h1 l0) (h2 l0)
    refine ⟨_, rfl, _, rfl, _, _, rfl, rfl, ⟨by decide, by decide⟩, _, _, rfl, rfl, (by show (0 : Int) < 4; decide), _, _, rfl, rfl, _, rfl, _, _, rfl, rfl, ?_⟩
    refine ⟨_, rfl, _, rfl, _, _, rfl, rfl, ⟨by decide, by decide⟩, _, _, rfl, rfl, (by show (0 : Int) < 4; decide), _, _, rfl, rfl, _, rfl, _, _, rfl, rfl, ?_⟩
    refine ⟨_, rfl, _, _, rfl, rfl, ⟨by decide, by decide⟩, _, _, rfl, rfl, (by show (0 : Int) < 4; decide), rfl, _, rfl, ?_⟩
    refine ite2 (fun c1 => ?_) (fun c1 => ?_)
    all_goals
      refine ⟨_, rfl, _, _, rfl, rfl, ⟨by decide, by decide⟩, _, _, rfl, rfl, (by show (0 : Int) < 4; decide), rfl, _, rfl, ?_⟩
      refine ite2 (fun c2 => ?_) (fun c2 => ?_)
    all_goals
      refine ⟨_, rfl, _, _, rfl, rfl, ⟨by decide, by decide⟩, _, _, rfl, rfl, (by show (0 : Int) < 5; decide), rfl, _, rfl, ?_⟩
      refine ite2 (fun _ => ⟨_, rfl, _, rfl, _, _, rfl, rfl, ⟨by decide, by decide⟩, _, _, rfl, rfl, ⟨by decide, by decide, by decide⟩, _, _, rfl, rfl, (by show (0 : Int) < 10 ^ (30 : Int).toNat; decide), _, _, rfl, rfl, ?_⟩) (fun _ => ?_)
    all_goals
      refine ⟨_, rfl, _, rfl, _, rfl, _, rfl, (by show 4 ≤ sizeLine; decide), fun p hp => ?_⟩
      first
        | exact fin none (some _) p hp (fun h => nomatch h.2) (fun _ _ hz => nomatch hz) (fun l0 z hz => by cases hz; first | (unfold tm; omega) | exact Int.le_add_of_nonneg_right (Int.emod_nonneg _ (by decide)))
        | exact fin (some _) none p hp (fun h => nomatch h.1) (fun l0 z hz => by cases hz; unfold tm; omega) (fun _ _ hz => nomatch hz)
        | exact fin (some _) (some _) p hp (fun h => nomatch h.1) (fun l0 z hz => by cases hz; unfold tm; omega) (fun l0 z hz => by cases hz; first | (unfold tm; omega) | exact Int.le_add_of_nonneg_right (Int.emod_nonneg _ (by decide)))
        | exact absurd ((V.int.inj (of_decide_eq_true c1)).symm.trans (V.int.inj (of_decide_eq_true c2))) (by decide)
theorem sc_law_ends : FnScope ["_law_gaps", "_law_ends_here", "_law_name", "_law_a", "_law_b", "_law_low", "_law_high"] ["_law_gaps"] (defScope s_law_ends) := ⟨rfl, rfl, rfl, by decide +kernel, rfl, by decide +kernel, by decide +kernel⟩
theorem ok_law_ends {f : Addr} {fd : FuncData} (F : Fun K "_law_ends" "_law_ends" s_law_ends f fd) (T : Txt K mg cl)  : FnOk P w K mg base CX0 1 f fd ["_law_gaps"] (sp_law_ends K) := by
  refine F.ok sc_law_ends (fun vs H Q E h => ?_) (fun cdv A outer s H vs Q E hr h => ?_)
  · obtain ⟨d, kvs, gs, rfl, hd, G, hnd, hl, q⟩ := h
    rfl
  · obtain ⟨d, kvs, gs, rfl, hd, G, hnd, hl, q⟩ := h
    refine ⟨_, (pss_cons (ps_set (i := 1) sc_law_ends.nd rfl (Or.inl rfl) pe_dnewT)
      (pss_cons (ps_forD PassesOwn.never rfl (pi_keys (pv 0)) (pg_name (i := 2) sc_law_ends.nd rfl (Or.inl rfl))
      (pss_cons (ps_asg (pe_dget (hu1 hr) (pv 0) (pv 2) (fun _ _ => rfl)) (pg_tup rfl (pgs_cons (pg_name (i := 3) sc_law_ends.nd rfl (Or.inl rfl)) (pgs_cons (pg_name (i := 4) sc_law_ends.nd rfl (Or.inl rfl)) (pgs_cons (pg_name (i := 5) sc_law_ends.nd rfl (Or.inl rfl)) (pgs_cons (pg_name (i := 6) sc_law_ends.nd rfl (Or.inl rfl)) pgs_nil))))))
      (pss_cons (ps_if (pt_cmpR op_notN (pv 6) pe_non (nomark _))
      (pss_one (ps_dput (hu1 hr) (pv 1) (pe_tup (pa_cons (pv 2) (pa_cons pe_str pa_nil))) (pe_tup (pa_cons (pv 3) (pa_cons (pv 4) (pa_cons (pv 6) pa_nil)))) rfl))
      pss_nil)
      (pss_one (ps_if (pt_cmpR op_notN (pv 5) pe_non (nomark _))
      (pss_one (ps_dput (hu1 hr) (pv 1) (pe_tup (pa_cons (pv 2) (pa_cons pe_str pa_nil))) (pe_tup (pa_cons (pv 4) (pa_cons (pv 3) (pa_cons (pe_un un_neg (pv 5)) pa_nil)))) rfl))
      pss_nil)))))
      (pss_one (ps_ret (pv 1))))), ?_⟩
    have len := G.len
    intro e he0
    have s1 := same_new he0 (.dT [])
    have e1 : (upd H e (.dT [])) e = some (.dT []) := upd_same
    generalize upd H e (.dT []) = H1 at s1 e1 ⊢
    have ne : e ≠ d := Ne.symm (ne_of_none hd he0)
    have hd1 := s1 _ _ hd
    intro NF
    refine ⟨_, rfl, d, kvs, rfl, hd1, fun ob nf => for_dict (NF := NF) (a := d) (ob := ob) (kvs := kvs) (fun i σ H2 => Same (upd H d (.frz ob (.dK kvs))) H2 ∧ (∃ u2 u3 u4 u5 u6, σ = [some (.ref d), some (.ref e), u2, u3, u4, u5, u6]) ∧
      ∃ us, H2 e = some (.dT us) ∧ AreB H2 (us.map (·.2)) (allB (gs.take i)) ∧ us.length ≤ 2 * i ∧ us.map (·.1) = (allN (gs.take i)).map keyN) ?_ ?_ ?_ ?_⟩
    · refine ⟨fun b o h => ?_, ⟨_, _, _, _, _, rfl⟩, [], by rw [upd_ne ne]; exact e1, .nil, Nat.le_refl _, rfl⟩
      by_cases c : b = d
      · subst c; rw [upd_same] at h ⊢; exact h
      · rw [upd_ne c] at h ⊢; exact s1 _ _ h
    · rintro i σ H2 _ ⟨s2, _⟩
      exact s2 _ _ upd_same
    · rintro i k v σ H2 hi ⟨s2, ⟨u2, u3, u4, u5, u6, rfl⟩, us, e2, A2, l2, KE⟩
      have K2 : ∀ key ∈ us.map (·.1), ∃ g z, g ∈ gs.take i ∧ key = [(Sum.inr g.1 : Key), Sum.inr z] := by rw [KE]; exact allN_keys
      obtain ⟨⟨nm, ga, gb, lo, hi'⟩, hg, hk, p, hv, hp⟩ := paired_get G hi
      have hv : v = .ref p := hv
      have hk : k = Sum.inr nm := hk
      subst hv hk
      have hp2 : H2 p = some (.tup [.int ga, .int gb, ov lo, ov hi']) := s2 _ _ (by rw [upd_ne (ne_of hp hd (fun z => by cases z))]; exact hp)
      have hf2 := s2 d _ upd_same
      have hvl := valV_get (G.nodup hnd) hi
      have hlt : i < gs.length := (List.getElem?_eq_some_iff.mp hg).1
      have nog : ∀ g' ∈ gs.take i, g'.1 ≠ nm := fun g' hm => names_ne hnd hg hm
      refine ⟨_, rfl, _, rfl, d, _, rfl, .inl ⟨kvs, Sum.inr nm, .inr ⟨ob, hf2⟩, rfl, hvl.symm⟩, ?_⟩
      refine ⟨p, _, rfl, SqT.of hp2, rfl, _, _, rfl, _, _, rfl, _, _, rfl, _, _, rfl, rfl, ?_⟩
      have hE0 : (upd H d (.frz ob (.dK kvs))) e = none := by rw [upd_ne ne]; exact he0
      have tk := allB_take hg
      have tn : (allN (gs.take (i + 1))).map keyN = ((allN (gs.take i)).map keyN ++ (hiE hi').map fun z => [(Sum.inr nm : Key), Sum.inr z]) ++ (loE lo).map fun z => [(Sum.inr nm : Key), Sum.inr z] := by
        rw [allN_take hg, List.map_append, List.append_assoc]
        show _ ++ List.map keyN (List.map _ (hiE hi' ++ loE lo)) = _
        rw [List.map_map, List.map_append]; rfl
      have mvs : (us.map (·.2)).length = us.length := List.length_map _
      apply restJ (C := fun H3 σ => Same (upd H d (.frz ob (.dK kvs))) H3 ∧ σ = [some (.ref d), some (.ref e), some (.str nm), some (.int ga), some (.int gb), some (ov lo), some (ov hi')] ∧
        ∃ ws, H3 e = some (.dT ws) ∧ AreB H3 (ws.map (·.2)) (allB (gs.take i) ++ hiB ga gb hi') ∧ ws.length ≤ 2 * i + 1 ∧ ws.map (·.1) = (allN (gs.take i)).map keyN ++ (hiE hi').map fun z => [(Sum.inr nm : Key), Sum.inr z])
      · intro rest
        rcases opt_or hi' with hh | ⟨h, hh⟩
        · rw [hh]
          refine ⟨_, rfl, rfl, _, rfl, iteF ?_⟩
          generalize hσ : (List.set _ _ _ : L2.St) = σ'
          generalize hH : H2 = Hx
          exact rest Hx σ' (by
            rw [← hH]
            exact ⟨s2, by rw [← hσ, hh]; rfl, us, e2, by rw [hh, show hiB ga gb none = [] from rfl, List.append_nil]; exact A2, by omega, by rw [hh, KE]; show _ = _ ++ []; rw [List.append_nil]⟩)
        · rw [hh]
          refine ⟨_, rfl, rfl, _, rfl, iteT ?_⟩
          refine ⟨_, rfl, _, rfl, _, rfl, (by show 3 ≤ sizeLine; decide), fun p1 hp1 => ⟨_, rfl, _, rfl, (by show 2 ≤ sizeLine; decide), fun p2 hp2 => ?_⟩⟩
          have nv : valV us [(Sum.inr nm : Key), Sum.inr "high"] = none := ends_put (H := H2) (fun k hk => .inl (K2 k hk)) nog
          obtain ⟨t1, t2⟩ := ends_step (o2 := .tup [.str nm, .str "high"]) (key := [Sum.inr nm, Sum.inr "high"]) s2 hE0 e2 A2 hp1 hp2
          have e4 := same_new hp2 (.tup [.str nm, .str "high"]) _ _ (same_new hp1 (.tup [.int ga, .int gb, .int h]) _ _ e2)
          refine ⟨e, _, rfl, DPut.t (k := [Sum.inr nm, Sum.inr "high"]) e4 upd_same (small1000 (by omega)), ?_⟩
          rw [putK_new _ nv]
          exact rest _ _ ⟨t1, by rw [hh]; rfl, _, upd_same, by rw [hh]; exact t2, by rw [List.length_append]; show _ + 1 ≤ _; omega, by rw [hh, List.map_append, KE]; rfl⟩
      rintro H3 _ ⟨s3, rfl, ws, e3, A3, l3, KW⟩
      have tk' : allB (gs.take (i + 1)) = (allB (gs.take i) ++ hiB ga gb hi') ++ loB ga gb lo := by rw [tk, List.append_assoc]; rfl
      cases lo with
      | none =>
        refine ⟨_, rfl, rfl, _, rfl, iteF ⟨s3, ⟨_, _, _, _, _, rfl⟩, ws, e3, by rw [tk', show loB ga gb none = [] from rfl, List.append_nil]; exact A3, by omega, by rw [tn, KW]; show _ = _ ++ []; rw [List.append_nil]⟩⟩
      | some l =>
        refine ⟨_, rfl, rfl, _, rfl, iteT ?_⟩
        refine ⟨_, rfl, _, rfl, _, rfl, _, rfl, (by show 3 ≤ sizeLine; decide), fun p1 hp1 => ⟨_, rfl, _, rfl, (by show 2 ≤ sizeLine; decide), fun p2 hp2 => ?_⟩⟩
        have K3 : ∀ key ∈ ws.map (·.1), (∃ g z, g ∈ gs.take i ∧ key = [(Sum.inr g.1 : Key), Sum.inr z]) ∨ ∃ y : Str, y ≠ "low" ∧ key = [Sum.inr nm, Sum.inr y] := fun k hk => by
          rw [KW] at hk
          rcases List.mem_append.mp hk with hk | hk
          · exact .inl (allN_keys k hk)
          · obtain ⟨y, hy, rfl⟩ := List.mem_map.mp hk
            refine .inr ⟨y, ?_, rfl⟩
            cases hi' with
            | none => cases hy
            | some h => rw [List.mem_singleton.mp hy]; exact hl_ne
        have nv : valV ws [(Sum.inr nm : Key), Sum.inr "low"] = none := ends_put (H := H3) K3 nog
        obtain ⟨t1, t2⟩ := ends_step (o2 := .tup [.str nm, .str "low"]) (key := [Sum.inr nm, Sum.inr "low"]) s3 hE0 e3 A3 hp1 hp2
        have e4 := same_new hp2 (.tup [.str nm, .str "low"]) _ _ (same_new hp1 (.tup [.int gb, .int ga, .int (-l)]) _ _ e3)
        refine ⟨e, _, rfl, DPut.t (k := [Sum.inr nm, Sum.inr "low"]) e4 upd_same (small1000 (by omega)), ?_⟩
        rw [putK_new _ nv]
        refine ⟨t1, ⟨_, _, _, _, _, rfl⟩, _, upd_same, by rw [tk']; exact t2, by rw [List.length_append]; show _ + 1 ≤ _; omega, by rw [tn, List.map_append, KW]; rfl⟩
    · rintro σ H2 ⟨s2, ⟨u2, u3, u4, u5, u6, rfl⟩, us, e2, A2, _, KE⟩
      rw [len, List.take_length] at A2 KE
      have hf := s2 d _ upd_same
      refine ⟨d, ob, kvs, nf, hf, _, rfl, q e _ us he0 (fun b o h => ?_) (by rw [upd_ne ne]; exact e2) (A2.tups fun c xs h => by rw [upd_ne (ne_of h hf (fun z => by cases z))]; exact h) KE⟩
      by_cases c : b = d
      · subst c; rw [upd_same, ← hd]; exact h
      · rw [upd_ne c]; exact s2 _ _ (by rw [upd_ne c]; exact h)
theorem sc_law_good : FnScope ["_law_found", "_law_ends_here", "_law_pair", "_law_entry", "_law_count", "_law_point", "_law_some", "_law_mark", "_law_bound"] ["_law_found", "_law_ends_here", "_law_pair", "_law_entry", "_law_count"] (defScope s_law_good) := ⟨rfl, rfl, rfl, by decide +kernel, rfl, by decide +kernel, by decide +kernel⟩
theorem ok_law_good {f : Addr} {fd : FuncData} (F : Fun K "_law_good" "_law_good" s_law_good f fd) (T : Txt K mg cl)  : FnOk P w K mg base CX0 1 f fd ["_law_found", "_law_ends_here", "_law_pair", "_law_entry", "_law_count"] (sp_law_good K) := by
  refine F.ok sc_law_good (fun vs H Q E h => ?_) (fun cdv A outer s H vs Q E hr h => ?_)
  · obtain ⟨v, e, pp, us, gs, n, a, b, o, rfl, he, hA, hK, hnd, hp, hc, q⟩ := h
    rfl
  · obtain ⟨v, e, pp, us, gs, n, a, b, o, rfl, he, hA, hK, hnd, hp, hc, q⟩ := h
    refine ⟨_, (pss_cons (ps_if (pt_cmpR op_isN (pv 3) pe_non (nomark _))
      (pss_one (ps_ret (pe_cmpR op_isN (pv 0) pe_non (nomark _))))
      pss_nil)
      (pss_cons (ps_if (PW.pt (pw_or (pt_not (pt_val (pe_callB call_isi rfl T.z_isinstance boot_isinstance (pa_cons (pv 0) (pa_cons (pe_bltn (v := .ty "list") rfl T.z_list boot_list rfl) pa_nil))))) (pw_or1 (pt_cmpR op_ge (pe_callB call_len_seq rfl T.z_len PySem.boot_len (pa_cons (pv 0) pa_nil)) (pv 4) (nomark _)))))
      (pss_one (ps_ret pe_bl))
      pss_nil)
      (pss_cons (ps_set (i := 5) sc_law_good.nd rfl (Or.inl rfl) (pe_ix ix_tup (pv 2) pe_int (fun _ _ => rfl)))
      (pss_cons (ps_set (i := 6) sc_law_good.nd rfl (Or.inl rfl) pe_int)
      (pss_cons (ps_for PassesOwn.never rfl (pi_list (pv 0)) (pg_name (i := 7) sc_law_good.nd rfl (Or.inl rfl))
      (pss_cons (ps_if (PW.pt (pw_or (pt_not (pt_val (pe_callB call_isi rfl T.z_isinstance boot_isinstance (pa_cons (pv 7) (pa_cons (pe_bltn (v := .ty "tuple") rfl T.z_tuple boot_tuple rfl) pa_nil))))) (pw_or (pt_cmpR op_ne (pe_callB call_len_seq rfl T.z_len PySem.boot_len (pa_cons (pv 7) pa_nil)) pe_int (nomark _)) (pw_or1 (pt_cmp (pc_dnotin (hu1 hr) (pv 7) (pv 1)))))))
      (pss_one (ps_ret pe_bl))
      pss_nil)
      (pss_cons (ps_set (i := 8) sc_law_good.nd rfl (Or.inl rfl) (pe_dget (hu1 hr) (pv 1) (pv 7) (fun _ _ => rfl)))
      (pss_cons (ps_if (pt_cmpR op_ne (pe_ix ix_tup (pv 8) pe_int (fun _ _ => rfl)) (pv 5) (nomark _))
      (pss_one (ps_ret pe_bl))
      pss_nil)
      (pss_cons (ps_set (i := 5) sc_law_good.nd rfl (Or.inl rfl) (pe_ix ix_tup (pv 8) pe_int (fun _ _ => rfl)))
      (pss_one (ps_set (i := 6) sc_law_good.nd rfl (Or.inl rfl) (pe_op op_add (pv 6) (pe_ix ix_tup (pv 8) pe_int (fun _ _ => rfl))))))))))
      (pss_one (ps_ret (pe_and (pe_cmpR op_eq (pv 5) (pe_ix ix_tup (pv 2) pe_int (fun _ _ => rfl)) (nomark _)) (pe_and (pe_cmpR op_eq (pv 6) (pv 3) (nomark _)) (pe_one (pe_or (pe_cmpR op_ne (pe_ix ix_tup (pv 2) pe_int (fun _ _ => rfl)) (pe_ix ix_tup (pv 2) pe_int (fun _ _ => rfl)) (nomark _)) (pe_one (pe_cmpR (op_eqL (hr.units)) (pv 0) (pe_lst pa_nil) (nomark _)))))))))))))), ?_⟩
    refine ⟨_, rfl, rfl, _, rfl, ?_⟩
    rcases hc with ⟨rfl, rfl⟩ | ⟨en, ps, l, qs, rfl, rfl, hl, hN, wk, ln, hab⟩
    · exact iteT ⟨_, rfl, rfl, q H (same_refl _)⟩
    refine iteF ?_
    have lq := hN.len
    have lpm : (ps.map (nmAt gs)).length = ps.length := List.length_map _
    refine ⟨_, rfl, _, _, _, _, rfl, .lst hl, kit_same, _, rfl, iteF ?_⟩
    refine ⟨_, rfl, l, _, rfl, .inl (SqL.of hl), _, rfl, _, _, rfl, rfl, _, rfl, ?_⟩
    refine ite2 (fun c => absurd (of_decide_eq_true c) (by omega)) (fun _ => ?_)
    refine ⟨_, rfl, pp, _, 0, _, rfl, rfl, SqT.of hp, rfl, ?_⟩
    refine ⟨_, rfl, l, rfl, ⟨_, SqL.of hl⟩, for_list (K := K) (a := l) (xs := qs) (fun i σ H2 => H2 = H ∧ ∃ (x s : Int) (u7 u8 : Option V), Walk (allB gs) (ps.drop i) x b (en - s) ∧ σ = [some (.ref l), some (.ref e), some (.ref pp), some (.int en), some (.int n), some (.int x), some (.int s), u7, u8]) ⟨rfl, a, 0, _, _, by rw [Int.sub_zero]; exact wk, rfl⟩ (fun i σ H2 _ ⟨e, _⟩ => by rw [e]; exact SqL.of hl) ?_ ?_⟩
    · rintro i y σ H2 hi ⟨rfl, x, s', u7, u8, w', rfl⟩
      have hlt : i < ps.length := by
        have := (List.getElem?_eq_some_iff.mp hi).1
        omega
      obtain ⟨m0, hm0, pm, rfl, hpm⟩ := paired_get hN hi
      have hget : ps[i]? = some (ps.getD i 0) := by rw [List.getD_eq_getElem?_getD, List.getElem?_eq_getElem hlt]; rfl
      rw [List.getElem?_map, hget] at hm0
      have hm0 : nmAt gs (ps.getD i 0) = m0 := Option.some.inj hm0
      have hdr : ps.drop i = ps.getD i 0 :: ps.drop (i + 1) := by
        rw [List.drop_eq_getElem_cons hlt, List.getD_eq_getElem?_getD, List.getElem?_eq_getElem hlt]; rfl
      rw [hdr] at w'
      generalize ps.getD i 0 = k at w' hm0
      subst hm0
      generalize hE : en - s' = E' at w'
      cases w' with
      | @cons _ _ m _ d h0 hm r' =>
        obtain ⟨pb, hval, hpb⟩ := ends_at hK hA hnd h0 hm
        refine ⟨_, rfl, _, _, _, _, rfl, .tup hpm, kit_same, _, rfl, iteF ?_⟩
        refine ⟨_, rfl, pm, _, rfl, .inr (SqT.of hpm), rfl, _, rfl, iteNS rfl ?_⟩
        refine ⟨_, rfl, _, rfl, e, _, rfl, DGet.t (k := keyN (nmAt gs k)) he hpm, _, rfl, ?_⟩
        rw [hval]
        refine iteF ?_
        refine ⟨_, rfl, _, rfl, e, _, rfl, .inr ⟨us, keyN (nmAt gs k), pm, .inl he, rfl, hpm, hval.symm⟩, ?_⟩
        refine ⟨_, rfl, pb, _, 0, _, rfl, rfl, SqT.of hpb, rfl, _, rfl, rfl, _, rfl, iteNS rfl ?_⟩
        refine ⟨_, rfl, pb, _, 1, _, rfl, rfl, SqT.of hpb, rfl, _, rfl, _, rfl, pb, _, 2, _, rfl, rfl, SqT.of hpb, rfl, _, _, rfl, rfl, ?_⟩
        refine ⟨rfl, m.2.1, s' + m.2.2, _, _, ?_, rfl⟩
        have : en - (s' + m.2.2) = d := by omega
        rw [this]
        exact r'
    · rintro σ H2 ⟨rfl, x, s', u7, u8, w', rfl⟩
      rw [show qs.length = ps.length by omega, List.drop_length] at w'
      generalize hE : en - s' = E' at w'
      cases w' with
      | nil =>
        have es : s' = en := by omega
        subst es
        refine ⟨_, rfl, _, rfl, pp, _, 1, _, rfl, rfl, SqT.of hp, rfl, rfl, _, rfl, iteS' rfl ⟨_, rfl, _, rfl, rfl, _, rfl, iteS' rfl ?_⟩⟩
        refine ⟨_, rfl, pp, _, 0, _, rfl, rfl, SqT.of hp, rfl, _, rfl, pp, _, 1, _, rfl, rfl, SqT.of hp, rfl, rfl, _, rfl, ?_⟩
        by_cases c : a = b
        · refine iteNS (congrArg V.int c) ⟨_, rfl, (by show 0 ≤ sizeLine; decide), fun l' hl' => ?_⟩
          have ep := hab c
          subst ep
          have eq : qs = [] := List.eq_nil_of_length_eq_zero (by rw [lq]; rfl)
          subst eq
          exact ⟨⟨0, l, l', [], [], [], by decide, rfl, rfl, SqL.of (same_new hl' _ _ _ hl), SqL.of upd_same, .nil, .nil⟩, q _ (same_new hl' _)⟩
        · have hne : ¬ (V.int a = V.int b) := fun h => c (V.int.inj h)
          rw [show (!decide (V.int a = V.int b)) = true by rw [decide_eq_false hne]; rfl]
          exact iteT (q _ (same_refl _))
theorem sc_law_pairs : FnScope ["_law_script", "_law_count", "_law_k", "_law_cell_here", "_law_pairs_here", "_law_j"] ["_law_script", "_law_count", "_law_k"] (defScope s_law_pairs) := ⟨rfl, rfl, rfl, by decide +kernel, rfl, by decide +kernel, by decide +kernel⟩
theorem ok_law_pairs {f : Addr} {fd : FuncData} (F : Fun K "_law_pairs" "_law_pairs" s_law_pairs f fd) (T : Txt K mg cl) (C_law_cell : Cal P w K mg base 1 "_law_cell" ["_law_script", "_law_k"] (sp_law_cell K)) (C_law_spread : Cal P w K mg base 1 "_law_spread" ["_law_cell_here", "_law_k"] (sp_law_spread K)) : FnOk P w K mg base CX0 2 f fd ["_law_script", "_law_count", "_law_k"] (sp_law_pairs K) := by
  refine F.ok sc_law_pairs (fun vs H Q E h => ?_) (fun cdv A outer s H vs Q E hr h => ?_)
  · obtain ⟨a, ns, n, k, rfl, hS, h63, n1, hk, q⟩ := h
    rfl
  · obtain ⟨a, ns, n, k, rfl, hS, h63, n1, hk, q⟩ := h
    refine ⟨_, (pss_cons (ps_set (i := 3) sc_law_pairs.nd rfl (Or.inl rfl) (pe_op op_add (pec C_law_spread (hr.mono (by decide)) rfl (pa_cons (pec C_law_cell (hr.mono (by decide)) rfl (pa_cons (pv 0) (pa_cons (pv 2) pa_nil))) (pa_cons (pv 2) pa_nil))) (pe_op op_mul pe_int (pv 2))))
      (pss_cons (ps_set (i := 4) sc_law_pairs.nd rfl (Or.inl rfl) (pe_lst (pa_cons (pe_tup (pa_cons (pe_op op_mod (pv 3) (pv 1)) (pa_cons (pe_op op_mod (pv 3) (pv 1)) pa_nil))) pa_nil)))
      (pss_cons (ps_for PassesOwn.never rfl (pi_range1 rfl T.z_range (pa_cons pe_int pa_nil)) (pg_name (i := 5) sc_law_pairs.nd rfl (Or.inl rfl))
      (pss_one (ps_expr (pe_bm PySem.F.plainAttrs_list PySem.F.slot_list_append PySem.F.type_list_append mt_append (pv 4) (pa_cons (pe_tup (pa_cons (pe_op op_mod (pe_op op_fdiv (pv 3) (pe_op op_add pe_int (pv 5))) (pv 1)) (pa_cons (pe_op op_mod (pe_op op_fdiv (pv 3) (pe_op op_add pe_int (pe_op op_mul pe_int (pv 5)))) (pv 1)) pa_nil))) pa_nil)))))
      (pss_one (ps_ret (pv 4)))))), ?_⟩
    have L1 : (0 : Int) < ((n : Nat) : Int) := by omega
    have md : ∀ z : Int, inN (z % ((n : Nat) : Int)) n := fun z => ⟨Int.emod_nonneg _ (by omega), Int.emod_lt_of_pos _ L1⟩
    refine ⟨_, rfl, _, rfl, a, ns, k, rfl, hS, h63, by omega, by omega, fun c0 => ⟨_, rfl, c0, k, rfl, by omega, by omega, fun c1 => ?_⟩⟩
    refine ⟨_, rfl, _, _, rfl, rfl, .inl ⟨by decide, by decide⟩, _, _, rfl, rfl, ?_⟩
    dsimp only
    generalize c1 + 97 * ((k : Nat) : Int) = c
    refine ⟨_, rfl, _, rfl, _, _, rfl, rfl, L1, _, rfl, _, rfl, _, _, rfl, rfl, L1, (by show 2 ≤ sizeLine; decide), fun p1 hp1 => ⟨(by show 1 ≤ sizeLine; decide), fun r hr => ?_⟩⟩
    have s1 := same_new hp1 (.tup [.int (c % ((n : Nat) : Int)), .int (c % ((n : Nat) : Int))])
    have hr0 := none_of s1 hr
    have s2 := s1.trans (same_new hr (.lst [.ref p1]))
    have e2 := same_new hr (.lst [.ref p1]) _ _ (upd_same : (upd H p1 (.tup [.int (c % ((n : Nat) : Int)), .int (c % ((n : Nat) : Int))])) p1 = _)
    refine ⟨3, rfl, by decide, by decide, for_range (lo := 0) (n := 3) (fun i σ H2 => Same H H2 ∧ (∃ qs, H2 r = some (.lst qs) ∧ qs.length = i + 1 ∧ PairsAt H2 n qs) ∧ ∃ u5, σ = [some (.ref a), some (.int n), some (.int k), some (.int c), some (.ref r), u5])
      ⟨s2, ⟨[.ref p1], upd_same, rfl, fun v hv => ⟨p1, _, _, List.mem_singleton.mp hv, e2, md _, md _⟩⟩, _, rfl⟩ ?_ (fun σ H2 ⟨s2, ⟨qs, b1, _, b2⟩, u5, e⟩ => by rw [e]; exact ⟨_, rfl, q r H2 qs s2 b1 b2⟩)⟩
    rintro i σ H2 hi ⟨s2', ⟨qs, b1, bl, b2⟩, u5, rfl⟩
    refine ⟨_, rfl, .inl ⟨rfl, _, SqL.of b1⟩, _, rfl, _, rfl, _, _, rfl, rfl, _, _, rfl, rfl, ⟨by omega, by omega⟩, _, rfl, _, _, rfl, rfl, L1, _, rfl, _, rfl, _, _, rfl, rfl, .inl ⟨by decide, by decide⟩, _, _, rfl, rfl, _, _, rfl, rfl, ⟨by omega, by omega⟩, _, rfl, _, _, rfl, rfl, L1, (by show 2 ≤ sizeLine; decide), fun pb hpb => ⟨r, qs, _, rfl, rfl, same_new hpb _ _ _ b1, small1000 (by omega), ?_⟩⟩
    refine ⟨app_same hr0 s2' hpb, ⟨_, upd_same, by rw [List.length_append, bl]; rfl, fun v hv => ?_⟩, _, rfl⟩
    rcases List.mem_append.mp hv with hv | hv
    · obtain ⟨pp, x, y, h1, h2, h3, h4⟩ := b2 v hv
      refine ⟨pp, x, y, h1, ?_, h3, h4⟩
      rw [upd_ne (ne_of h2 b1 (fun z => by cases z)), upd_ne (ne_of_none h2 hpb)]
      exact h2
    · exact ⟨pb, _, _, List.mem_singleton.mp hv, app_at b1 hpb, md _, md _⟩
theorem sc_House___init__ : FnScope ["self", "count"] ["self", "count"] (defScope s_House___init__) := ⟨rfl, rfl, rfl, by decide +kernel, rfl, by decide +kernel, by decide +kernel⟩
theorem ok_House___init__ {f : Addr} {fd : FuncData} (F : Fun K "__init__" "House.__init__" s_House___init__ f fd) (T : Txt K mg cl)  : FnOk P w K mg base CX0 1 f fd ["self", "count"] (sp_House___init__ K cl) := by
  refine F.ok sc_House___init__ (fun vs H Q E h => ?_) (fun cdv A outer s H vs Q E hr h => ?_)
  · obtain ⟨x, dx, n, rfl, hx, q⟩ := h
    rfl
  · obtain ⟨x, dx, n, rfl, hx, q⟩ := h
    refine ⟨_, (pss_cons (ps_fld (pv 0) (pv 1) rfl)
      (pss_one (ps_fld (pv 0) pe_dnewK rfl))), ?_⟩
    refine ⟨_, rfl, _, rfl, x, cl.House, dx, [], rfl, hx, T.cl_House, T.n_House_count, (by show 0 < 1000; decide), fun d hd => ?_⟩
    have b1 : But x H (upd H x (.ins cl.House dx (putF "count" (.int n) []))) := fun b o e h => by rw [upd_ne h]; exact e
    have x1 : (upd H x (.ins cl.House dx (putF "count" (.int n) []))) x = some (.ins cl.House dx (putF "count" (.int n) [])) := upd_same
    generalize upd H x (.ins cl.House dx (putF "count" (.int n) [])) = H1 at b1 x1 hd ⊢
    have s2 := same_new hd (.dK [])
    have e2 : (upd H1 d (.dK [])) d = some (.dK []) := upd_same
    generalize upd H1 d (.dK []) = H2 at s2 e2 ⊢
    have x2 := s2 _ _ x1
    refine ⟨_, rfl, x, cl.House, dx, _, rfl, x2, T.cl_House, T.n_House_gaps, (by show 1 < 1000; decide), ?_⟩
    have nd : d ≠ x := Ne.symm (ne_of_none x1 hd)
    refine q d _ ⟨⟨dx, upd_same⟩, [], by rw [upd_ne nd]; exact e2, .nil⟩ (fun b o e h => by rw [upd_ne h]; exact s2 _ _ (b1 _ _ e h)) ?_
    cases e : H d with
    | none => rfl
    | some o =>
      have := b1 _ _ e nd
      rw [hd] at this; cases this
theorem sc_House_add : FnScope ["self", "name", "a", "b", "low", "high"] ["self", "name", "a", "b", "low", "high"] (defScope s_House_add) := ⟨rfl, rfl, rfl, by decide +kernel, rfl, by decide +kernel, by decide +kernel⟩
theorem ok_House_add {f : Addr} {fd : FuncData} (F : FunD K "add" "House.add" s_House_add f fd) (T : Txt K mg cl)  : FnOk P w K mg base CX0 1 f fd ["self", "name", "a", "b", "low", "high"] (sp_House_add K cl) := by
  refine F.ok sc_House_add (fun vs H Q E h => ?_) (fun cdv A outer s H vs Q E hr h => ?_)
  · obtain ⟨x, d, n, gs, nm, g, rfl, W, hn, hl, q⟩ := h
    rfl
  · obtain ⟨x, d, n, gs, nm, g, rfl, W, hn, hl, q⟩ := h
    refine ⟨_, (pss_cons (ps_if (pt_cmp (pc_din (hu1 hr) (pv 1) (pe_fld (pv 0) rfl)))
      (pss_one ps_never)
      pss_nil)
      (pss_one (ps_dput (hu1 hr) (pe_fld (pv 0) rfl) (pv 1) (pe_tup (pa_cons (pv 2) (pa_cons (pv 3) (pa_cons (pv 4) (pa_cons (pv 5) pa_nil))))) rfl))), ?_⟩
    obtain ⟨dx, hx⟩ := W.ob
    obtain ⟨kvs, hd, G⟩ := W.dc
    have hv := G.val_none hn
    have len := G.len
    refine ⟨_, rfl, _, rfl, x, cl.House, dx, _, _, rfl, hx, T.cl_House, T.n_House_gaps, fldh_gaps _ _, d, _, rfl, DGet.k (k := Sum.inr nm) hd, ?_⟩
    rw [hv]
    refine ⟨_, rfl, iteF ?_⟩
    refine ⟨_, rfl, _, rfl, _, rfl, _, rfl, (by show 4 ≤ sizeLine; decide), fun p hp => ?_⟩
    have s1 := same_new hp (.tup [.int g.1, .int g.2.1, ov g.2.2.1, ov g.2.2.2])
    have e1 : (upd H p (.tup [.int g.1, .int g.2.1, ov g.2.2.1, ov g.2.2.2])) p = some (.tup (gv g)) := upd_same
    generalize upd H p (.tup [.int g.1, .int g.2.1, ov g.2.2.1, ov g.2.2.2]) = H1 at s1 e1 ⊢
    have hx1 := s1 _ _ hx
    have hd1 := s1 _ _ hd
    refine ⟨_, rfl, x, cl.House, dx, _, _, rfl, hx1, T.cl_House, T.n_House_gaps, fldh_gaps _ _, _, rfl, d, _, rfl, DPut.k (k := Sum.inr nm) hd1 (small1000 (by omega)), ?_⟩
    rw [putK_new _ hv]
    have b2 : But d H1 (upd H1 d (.dK (kvs ++ [(Sum.inr nm, .ref p)]))) := fun b o e h => by rw [upd_ne h]; exact e
    refine q _ ⟨⟨dx, b2 _ _ hx1 (ne_of hx1 hd1 (fun z => by cases z))⟩, _, upd_same, ?_⟩ (fun b o e h => b2 _ _ (s1 _ _ e) h)
    exact ((G.same s1).snoc e1).keep fun c xs e => b2 _ _ e (ne_of e hd1 (fun z => by cases z))
theorem sc_House_need : FnScope ["self", "name"] ["self", "name"] (defScope s_House_need) := ⟨rfl, rfl, rfl, by decide +kernel, rfl, by decide +kernel, by decide +kernel⟩
theorem ok_House_need {f : Addr} {fd : FuncData} (F : Fun K "need" "House.need" s_House_need f fd) (T : Txt K mg cl)  : FnOk P w K mg base CX0 1 f fd ["self", "name"] (sp_House_need K cl) := by
  refine F.ok sc_House_need (fun vs H Q E h => ?_) (fun cdv A outer s H vs Q E hr h => ?_)
  · obtain ⟨x, d, n, gs, nm, rfl, W, hn, q⟩ := h
    rfl
  · obtain ⟨x, d, n, gs, nm, rfl, W, hn, q⟩ := h
    refine ⟨_, (pss_one (ps_if (pt_cmp (pc_dnotin (hu1 hr) (pv 1) (pe_fld (pv 0) rfl)))
      (pss_one ps_never)
      pss_nil)), ?_⟩
    obtain ⟨dx, hx⟩ := W.ob
    obtain ⟨kvs, hd, G⟩ := W.dc
    obtain ⟨p, g, _, hv, _⟩ := G.val_some hn
    refine ⟨_, rfl, _, rfl, x, cl.House, dx, _, _, rfl, hx, T.cl_House, T.n_House_gaps, fldh_gaps _ _, d, _, rfl, DGet.k (k := Sum.inr nm) hd, ?_⟩
    rw [hv]
    exact ⟨_, rfl, iteF q⟩
theorem sc_wide : FnScope ["count"] ["count"] (defScope s_wide) := ⟨rfl, rfl, rfl, by decide +kernel, rfl, by decide +kernel, by decide +kernel⟩
theorem ok_wide {f : Addr} {fd : FuncData} (F : Fun K "wide" "wide" s_wide f fd) (T : Txt K mg cl) (C_wide_row : Cal P w K mg base 1 "wide_row" ["count", "a"] (sp_wide_row K)) : FnOk P w K mg base CX0 2 f fd ["count"] (sp_wide K) := by
  refine F.ok sc_wide (fun vs H Q E h => ?_) (fun cdv A outer s H vs Q E hr h => ?_)
  · obtain ⟨n, rfl, hn, q⟩ := h
    rfl
  · obtain ⟨n, rfl, hn, q⟩ := h
    refine ⟨_, (pss_one (ps_ret (pe_compS ["count"] [0] rfl (pi_range1 rfl T.z_range (pa_cons (pv 0) pa_nil)) (fun _ _ _ => pts_nil) (fun _ _ _ => (pec C_wide_row (hr.mono (by decide)) rfl (pa_cons (pv 1) (pa_cons (pv 0) pa_nil)))) (hk := by kernel_rfl)))), ?_⟩
    refine ⟨_, rfl, (n : Int), rfl, by omega, by omega, comp_rows (n := ((n : Nat) : Int).toNat) (fun i => (List.range n).map fun (j : Nat) => if (i : Int) = (j : Int) then some (0 : Int) else none) (small (by omega)) ?_ ?_⟩
    · intro i H1 hi s1 R kR
      refine ⟨_, rfl, _, rfl, n, _, rfl, hn, fun r hr => ?_⟩
      refine kR r _ hr (same_new hr _) ?_
      rw [upd_same, Int.zero_add]
    · intro p rs H' N
      rw [Int.toNat_natCast] at N
      exact q p rs H' N
theorem sc_held_row : FnScope ["table", "a", "bound", "ahead", "behind"] ["table", "a", "bound"] (defScope s_held_row) := ⟨rfl, rfl, rfl, by decide +kernel, rfl, by decide +kernel, by decide +kernel⟩
theorem ok_held_row {f : Addr} {fd : FuncData} (F : Fun K "held_row" "held_row" s_held_row f fd) (T : Txt K mg cl) (C_total : Cal P w K mg base 1 "total" ["one", "other"] (sp_total K)) (C_lesser : Cal P w K mg base 1 "lesser" ["one", "other"] (sp_lesser K)) : FnOk P w K mg base CX0 2 f fd ["table", "a", "bound"] (sp_held_row K) := by
  refine F.ok sc_held_row (fun vs H Q E h => ?_) (fun cdv A outer s H vs Q E hr h => ?_)
  · obtain ⟨u, p, a, m, rs, t, n, rfl, hB, hT, hS, hn, ha, h1, h2, q⟩ := h
    rfl
  · obtain ⟨u, p, a, m, rs, t, n, rfl, hB, hT, hS, hn, ha, h1, h2, q⟩ := h
    refine ⟨_, (pss_cons (ps_set (i := 3) sc_held_row.nd rfl (Or.inr rfl) (pec C_total (hr.mono (by decide)) rfl (pa_cons (pe_ix ix_list (pe_ix ix_list (pv 0) (pv 1) (fun _ _ => rfl)) (pe_ix ix_tup (pv 2) pe_int (fun _ _ => rfl)) (fun _ _ => rfl)) (pa_cons (pe_ix ix_tup (pv 2) pe_int (fun _ _ => rfl)) pa_nil))))
      (pss_cons (ps_set (i := 4) sc_held_row.nd rfl (Or.inr rfl) (pe_ix ix_list (pv 0) (pe_ix ix_tup (pv 2) pe_int (fun _ _ => rfl)) (fun _ _ => rfl)))
      (pss_one (ps_ret (pe_compS ["ahead", "table", "a", "behind"] [3, 0, 1, 4] rfl (pi_range1 rfl T.z_range (pa_cons (pe_callB call_len_seq rfl T.z_len PySem.boot_len (pa_cons (pv 0) pa_nil)) pa_nil)) (fun _ _ _ => pts_nil) (fun _ _ _ => (pec C_lesser (hr.mono (by decide)) rfl (pa_cons (pe_ix (ix_listK (K := K) rfl) (pe_ix (ix_listK (K := K) rfl) (pv 2) (pv 3) (fun _ _ => rfl)) (pv 0) (fun _ _ => rfl)) (pa_cons (pec C_total (hr.mono (by decide)) rfl (pa_cons (pv 1) (pa_cons (pe_ix (ix_listK (K := K) rfl) (pv 4) (pv 0) (fun _ _ => rfl)) pa_nil))) pa_nil)))) (hk := by kernel_rfl)))))), ?_⟩
    obtain ⟨r, row, g1, g2, g3, g4⟩ := hT.rowAt hS ha
    obtain ⟨r2, row2, k1, k2, k3, k4⟩ := hT.rowAt hS h2
    have hl := hT.len hS
    refine ⟨_, rfl, _, rfl, p, _, _, _, rfl, rfl, SqL.of hT.ob, g1, _, rfl, u, _, 0, _, rfl, rfl, hB, rfl, r, _, _, _, rfl, rfl, SqL.of g2, g4 _ h1, _, rfl, u, _, 2, _, rfl, rfl, hB, rfl, _, some m.2.2, rfl, ?_⟩
    refine ⟨_, rfl, _, rfl, u, _, 1, _, rfl, rfl, hB, rfl, p, _, _, _, rfl, rfl, SqL.of hT.ob, k1, ?_⟩
    refine ⟨_, rfl, p, _, rfl, .inl (SqL.of hT.ob), (n : Int), by rw [hl], by omega, by omega, comp_vals (n := ((n : Nat) : Int).toNat) (fun j => ov (heldF t m a (j : Int))) (small (by omega)) ?_ ?_⟩
    · intro i hi R kR
      have hi' : inN (0 + (i : Int)) n := ⟨by omega, by omega⟩
      have e0 : (0 + (i : Int)) = (i : Int) := Int.zero_add _
      refine ⟨_, rfl, _, rfl, p, _, _, _, rfl, rfl, SqL.of hT.ob, g1, _, rfl, r, _, _, _, rfl, rfl, SqL.of g2, g4 _ hi', _, rfl, _, rfl, _, rfl, r2, _, _, _, rfl, rfl, SqL.of k2, k4 _ hi', _, _, rfl, _, _, rfl, ?_⟩
      rw [e0]
      exact kR
    · intro p' hp
      have := q p' hp
      rw [List.map_map] at this
      rw [Int.toNat_natCast]
      exact this
theorem sc_led : FnScope ["ways", "a", "bound", "place", "changes"] ["ways", "a", "bound", "place", "changes"] (defScope s_led) := ⟨rfl, rfl, rfl, by decide +kernel, rfl, by decide +kernel, by decide +kernel⟩
theorem ok_led {f : Addr} {fd : FuncData} (F : Fun K "led" "led" s_led f fd) (T : Txt K mg cl) (C_by_way : Cal P w K mg base 1 "by_way" ["ways", "a", "b", "bound", "place"] (sp_by_way K)) : FnOk P w K mg base CX0 2 f fd ["ways", "a", "bound", "place", "changes"] (sp_led K) := by
  refine F.ok sc_led (fun vs H Q E h => ?_) (fun cdv A outer s H vs Q E hr h => ?_)
  · obtain ⟨H0, p, u, rc, w, n, m, a, k, ch, rfl, s0, hW, hS, hn, hu, ha, m1, m2, hc, hch, q⟩ := h
    rfl
  · obtain ⟨H0, p, u, rc, w, n, m, a, k, ch, rfl, s0, hW, hS, hn, hu, ha, m1, m2, hc, hch, q⟩ := h
    refine ⟨_, (pss_one (ps_ret (pe_compS ["changes", "ways", "a", "bound", "place"] [4, 0, 1, 2, 3] rfl (pi_range1 rfl T.z_range (pa_cons (pe_callB call_len_seq rfl T.z_len PySem.boot_len (pa_cons (pv 0) pa_nil)) pa_nil)) (fun _ _ _ => pts_nil) (fun _ _ _ => (pe_ifExp (pt_val (pe_ix (ix_listK (K := K) rfl) (pv 1) (pv 0) (fun _ _ => rfl))) (pec C_by_way (hr.mono (by decide)) rfl (pa_consP (pv 2) (pa_consP (pv 3) (pa_consP (pv 0) (pa_consP (pv 4) (pa_consP (pv 5) pa_nil)))))) (pe_ix (ix_listK (K := K) rfl) (pe_ix (ix_listK (K := K) rfl) (pv 2) (pv 3) (fun _ _ => rfl)) (pv 0) (fun _ _ => rfl)))) (hk := by kernel_rfl)))), ?_⟩
    obtain ⟨rs, g1, g2⟩ := hW.len hS
    refine ⟨_, rfl, p, _, rfl, .inl (SqL.of g1), ((n : Nat) : Int), by rw [g2], by omega, by omega, comp_range (lo := 0) (n := ((n : Nat) : Int).toNat) (fun i acc H1 => Same H H1 ∧ Paired (WayV H0 H1) acc ((List.range i).map fun (j : Nat) => if ch j then newW w m k a (j : Int) else went w a (j : Int))) (small (by omega)) ⟨same_refl _, .nil⟩ (fun i acc H1 ⟨_, w⟩ => by rw [Paired.length w]; simp) ?_ ?_⟩
    · rintro i acc H1 hi ⟨s1, wv⟩ R kR
      have hi' : inN (0 + (i : Int)) n := ⟨by omega, by omega⟩
      have ei : (0 + (i : Int)) = (i : Int) := Int.zero_add _
      have atc : atI ((List.range n).map fun j => V.bl (ch j)) (0 + (i : Int)) = some (V.bl (ch i)) := atI_of hi'.1 (n := i) (by omega) (by rw [List.getElem?_map, List.getElem?_range (by omega)]; rfl)
      have add : ∀ {H2 : Hp} {v : V}, Same H1 H2 → WayV H0 H2 v (if ch i then newW w m k a (i : Int) else went w a (i : Int)) → R v H2 := fun s2 hv => kR _ _ ⟨s1.trans s2, by rw [List.range_succ, List.map_append]; exact Paired.snoc (Paired.mapP wv fun _ _ q => q.same s2) hv⟩
      refine ⟨_, rfl, _, rfl, rc, _, _, _, rfl, rfl, SqL.of (s1 _ _ hc), atc, _, rfl, ?_⟩
      cases e : ch i with
      | true =>
        obtain ⟨ps, qs, w1, w2, l1, l2⟩ := hch i (by omega) e
        rw [← ei] at w2
        refine iteT ⟨_, rfl, _, rfl, _, rfl, _, rfl, _, rfl, H0, p, u, w, n, m, a, _, k, ps, qs, rfl, hW.same s1, hS, s1 _ _ hu, ha, hi', m1, m2, w1, w2, l1, l2, fun l H2 s2 n0 e2 => add s2 ?_⟩
        rw [if_pos e]
        unfold newW
        rw [ei] at w2
        rw [w1, w2]
        exact ⟨l, rfl, e2, none_of (s0.trans s1) n0⟩
      | false =>
        obtain ⟨rs', r', vs', v', k1, k2, k3, k4, k5⟩ := (hW.same s1).at hS ha hi'
        refine iteF ⟨_, rfl, _, rfl, p, _, _, _, rfl, rfl, SqL.of k1, k2, _, rfl, r', _, _, _, rfl, rfl, SqL.of k3, k4, add (same_refl _) ?_⟩
        rw [e, ← ei]
        exact k5
    · rintro acc H1 ⟨s1, wv⟩ p' hp'
      rw [Int.toNat_natCast] at wv
      exact q p' _ (s1.trans (same_new hp' _)) ⟨acc, upd_same, Paired.mapP wv fun _ _ q => q.same (same_new hp' _)⟩
theorem sc_all_bound_names : FnScope ["gaps", "found", "name"] ["gaps"] (defScope s_all_bound_names) := ⟨rfl, rfl, rfl, by decide +kernel, rfl, by decide +kernel, by decide +kernel⟩
theorem ok_all_bound_names {f : Addr} {fd : FuncData} (F : Fun K "all_bound_names" "all_bound_names" s_all_bound_names f fd) (T : Txt K mg cl) (C_ends_of : Cal P w K mg base 1 "ends_of" ["gap"] (sp_ends_of K)) : FnOk P w K mg base CX0 2 f fd ["gaps"] (sp_all_bound_names K) := by
  refine F.ok sc_all_bound_names (fun vs H Q E h => ?_) (fun cdv A outer s H vs Q E hr h => ?_)
  · obtain ⟨d, kvs, gs, rfl, hd, G, hnd, hl, q⟩ := h
    rfl
  · obtain ⟨d, kvs, gs, rfl, hd, G, hnd, hl, q⟩ := h
    refine ⟨_, (pss_cons (ps_set (i := 1) sc_all_bound_names.nd rfl (Or.inl rfl) (pe_lst pa_nil))
      (pss_cons (ps_forD PassesOwn.never rfl (pi_keys (pv 0)) (pg_name (i := 2) sc_all_bound_names.nd rfl (Or.inr rfl))
      (pss_one (ps_expr (pe_bm PySem.F.plainAttrs_list PySem.F.slot_list_extend PySem.F.type_list_extend mt_extend (pv 1) (pa_cons (pe_compS ["name"] [2] rfl (pi_list (pec C_ends_of (hr.mono (by decide)) rfl (pa_cons (pe_dget (hu1 hr) (pv 0) (pv 2) (fun _ _ => rfl)) pa_nil))) (fun _ _ _ => pts_nil) (fun _ _ _ => (pe_tup (pa_cons (pv 1) (pa_cons (pv 0) pa_nil)))) (hk := by kernel_rfl)) pa_nil)))))
      (pss_one (ps_ret (pv 1))))), ?_⟩
    have len := G.len
    refine ⟨(by show 0 ≤ sizeLine; decide), fun r hr0 => ?_⟩
    have s1 := same_new hr0 (.lst [])
    have e1 : (upd H r (.lst [])) r = some (.lst []) := upd_same
    generalize upd H r (.lst []) = H1 at s1 e1 ⊢
    have nr : r ≠ d := Ne.symm (ne_of_none hd hr0)
    have hd1 := s1 _ _ hd
    intro NF
    refine ⟨_, rfl, d, kvs, rfl, hd1, fun ob nf => for_dict (NF := NF) (a := d) (ob := ob) (kvs := kvs) (fun i σ H2 => Same (upd H d (.frz ob (.dK kvs))) H2 ∧ (∃ u3, σ = [some (.ref d), some (.ref r), u3]) ∧ ∃ qs, H2 r = some (.lst qs) ∧ AreN H2 qs (allN (gs.take i))) ?_ ?_ ?_ ?_⟩
    · refine ⟨fun b o e => ?_, ⟨_, rfl⟩, [], by rw [upd_ne nr]; exact e1, .nil⟩
      by_cases c : b = d
      · subst c; rw [upd_same] at e ⊢; exact e
      · rw [upd_ne c] at e ⊢; exact s1 _ _ e
    · rintro i σ H2 _ ⟨s2, _⟩
      exact s2 _ _ upd_same
    · rintro i k v σ H2 hi ⟨s2, ⟨u3, rfl⟩, qs, e2, A2⟩
      obtain ⟨⟨nm, g⟩, hg, hk, p, hv, hp⟩ := paired_get G hi
      have hv : v = .ref p := hv
      have hk : k = Sum.inr nm := hk
      subst hv hk
      have hp2 : H2 p = some (.tup (gv g)) := s2 _ _ (by rw [upd_ne (ne_of hp hd (fun z => by cases z))]; exact hp)
      have hf2 := s2 d _ upd_same
      have hvl := valV_get (G.nodup hnd) hi
      have hlt : i < gs.length := (List.getElem?_eq_some_iff.mp hg).1
      have l1 := A2.len
      have l2 := allN_len (gs.take i)
      have l2' := allB_len (gs.take i)
      rw [List.length_take] at l2'
      have l3 := endsL_len g
      have l4 := gbs_len g
      refine ⟨_, rfl, .inl ⟨rfl, _, SqL.of e2⟩, _, rfl, _, rfl, d, _, rfl, .inl ⟨kvs, Sum.inr nm, .inr ⟨ob, hf2⟩, rfl, hvl.symm⟩, p, g, rfl, SqT.of hp2, fun r3 H3 hr3 s3 e3 => ?_⟩
      refine ⟨r3, rfl, ⟨_, SqL.of e3⟩, comp_list (K := K) (a := r3) (xs := (endsL g).map V.str) (fun j acc H4 => Same H3 H4 ∧ acc.length = j ∧ AreN H4 acc (((endsL g).take j).map fun e => (nm, e))) (small (by rw [List.length_map]; omega)) ⟨same_refl _, rfl, .nil⟩ (fun j acc H4 h => h.2.1) (fun j acc H4 h => SqL.of (h.1 _ _ e3)) ?_ ?_⟩
      · rintro j acc H4 y hy ⟨s4, l5, A4⟩ R kR
        rw [List.getElem?_map] at hy
        obtain ⟨z, hz, rfl⟩ := Option.map_eq_some_iff.mp hy
        refine ⟨_, rfl, _, rfl, (by show 2 ≤ sizeLine; decide), fun p4 hp4 => kR _ _ ⟨s4.trans (same_new hp4 _), by rw [List.length_append, l5]; rfl, ?_⟩⟩
        rw [List.take_add_one, hz, Option.toList_some, List.map_append]
        exact (A4.same (same_new hp4 _)).snoc (m := (nm, z)) upd_same
      · rintro acc H4 ⟨s4, l5, A4⟩ r4 hr4
        rw [List.length_map] at l5 A4
        rw [List.take_length] at A4
        have s5 := same_new hr4 (.lst acc)
        have e5 : (upd H4 r4 (.lst acc)) r4 = some (.lst acc) := upd_same
        generalize upd H4 r4 (.lst acc) = H5 at s5 e5 ⊢
        have s25 := (s3.trans s4).trans s5
        have e2' := s25 _ _ e2
        refine ⟨r, r4, qs, acc, rfl, rfl, e2', e5, small (by omega), ?_⟩
        refine ⟨fun b o e => ?_, ⟨_, rfl⟩, _, upd_same, ?_⟩
        · have nb : b ≠ r := fun z => by
            subst z
            rw [upd_ne nr, hr0] at e; cases e
          rw [upd_ne nb]; exact s25 _ _ (s2 _ _ e)
        · rw [allN_take hg]
          exact AreN.tups (AreN.append (A2.same s25) (A4.same s5)) fun c xs e => by rw [upd_ne (ne_of e e2' (fun z => by cases z))]; exact e
    · rintro σ H2 ⟨s2, ⟨u3, rfl⟩, qs, e2, A2⟩
      rw [len, List.take_length] at A2
      have hf := s2 d _ upd_same
      refine ⟨d, ob, kvs, nf, hf, _, rfl, q r _ qs hr0 (fun b o e => ?_) (by rw [upd_ne nr]; exact e2) (A2.tups fun c xs e => by rw [upd_ne (ne_of e hf (fun z => by cases z))]; exact e)⟩
      by_cases c : b = d
      · subst c; rw [upd_same, ← hd]; exact e
      · rw [upd_ne c]; exact s2 _ _ (by rw [upd_ne c]; exact e)
theorem sc_names_at : FnScope ["gaps", "places", "found"] ["gaps", "places"] (defScope s_names_at) := ⟨rfl, rfl, rfl, by decide +kernel, rfl, by decide +kernel, by decide +kernel⟩
theorem ok_names_at {f : Addr} {fd : FuncData} (F : Fun K "names_at" "names_at" s_names_at f fd) (T : Txt K mg cl) (C_all_bound_names : Cal P w K mg base 2 "all_bound_names" ["gaps"] (sp_all_bound_names K)) : FnOk P w K mg base CX0 3 f fd ["gaps", "places"] (sp_names_at K) := by
  refine F.ok sc_names_at (fun vs H Q E h => ?_) (fun cdv A outer s H vs Q E hr h => ?_)
  · obtain ⟨d, kvs, gs, v, rfl, hd, G, hnd, hl, c⟩ := h
    rfl
  · obtain ⟨d, kvs, gs, v, rfl, hd, G, hnd, hl, c⟩ := h
    refine ⟨_, (pss_cons (ps_if (pt_cmpR op_isN (pv 1) pe_non (nomark _))
      (pss_one (ps_ret pe_non))
      pss_nil)
      (pss_cons (ps_set (i := 2) sc_names_at.nd rfl (Or.inr rfl) (pec C_all_bound_names (hr.mono (by decide)) rfl (pa_cons (pv 0) pa_nil)))
      (pss_one (ps_ret (pe_compS ["found"] [2] rfl (pi_list (pv 1)) (fun _ _ _ => pts_nil) (fun _ _ _ => (pe_ix (ix_listK (K := K) rfl) (pv 1) (pv 0) (fun _ _ => rfl))) (hk := by kernel_rfl)))))), ?_⟩
    rcases c with ⟨rfl, q⟩ | ⟨l, ps, rfl, hl', hps, hpl, q⟩
    · exact ⟨_, rfl, rfl, _, rfl, iteT q⟩
    · refine ⟨_, rfl, rfl, _, rfl, iteF ?_⟩
      refine ⟨_, rfl, d, kvs, gs, rfl, hd, G, hnd, hl, fun f H1 qs hf0 s1 e1 A1 => ?_⟩
      refine ⟨_, rfl, l, rfl, ⟨_, SqL.of (s1 _ _ hl')⟩, comp_list (K := K) (a := l) (xs := ps.map V.int) (fun j acc H4 => H4 = H1 ∧ acc.length = j ∧ AreN H4 acc ((ps.take j).map (nmAt gs))) (small (by rw [List.length_map]; omega)) ⟨rfl, rfl, .nil⟩ (fun j acc H4 h => h.2.1) (fun j acc H4 h => by rw [h.1]; exact SqL.of (s1 _ _ hl')) ?_ ?_⟩
      · rintro j acc H4 y hy ⟨rfl, l5, A4⟩ R kR
        rw [List.getElem?_map] at hy
        obtain ⟨k, hk, rfl⟩ := Option.map_eq_some_iff.mp hy
        obtain ⟨k0, k1⟩ := hps k (List.mem_of_getElem? hk)
        obtain ⟨v, hv, p, rfl, hp⟩ := paired_at A1 (nmAt_get k0 k1)
        refine ⟨_, rfl, _, rfl, f, _, _, _, rfl, rfl, SqL.of e1, atI_of k0 rfl hv, kR _ _ ⟨rfl, by rw [List.length_append, l5]; rfl, ?_⟩⟩
        rw [List.take_add_one, hk, Option.toList_some, List.map_append]
        exact A4.snoc hp
      · rintro acc H4 ⟨rfl, l5, A4⟩ r4 hr4
        rw [List.length_map] at A4
        rw [List.take_length] at A4
        have s5 := same_new hr4 (.lst acc)
        exact q r4 _ acc (none_of s1 hr4) (s1.trans s5) upd_same (A4.same s5)
theorem sc_House_drop : FnScope ["self", "name"] ["self", "name"] (defScope s_House_drop) := ⟨rfl, rfl, rfl, by decide +kernel, rfl, by decide +kernel, by decide +kernel⟩
theorem ok_House_drop {f : Addr} {fd : FuncData} (F : Fun K "drop" "House.drop" s_House_drop f fd) (T : Txt K mg cl) (M_House_need : MCal P w K mg base cl.House 1 "need" ["self", "name"] (sp_House_need K cl)) : FnOk P w K mg base CX0 2 f fd ["self", "name"] (sp_House_drop K cl) := by
  refine F.ok sc_House_drop (fun vs H Q E h => ?_) (fun cdv A outer s H vs Q E hr h => ?_)
  · obtain ⟨x, d, n, gs, nm, rfl, W, hn, q⟩ := h
    rfl
  · obtain ⟨x, d, n, gs, nm, rfl, W, hn, q⟩ := h
    refine ⟨_, (pss_cons (ps_expr (pe_meth (pv 0) T.cl_House M_House_need.mt M_House_need.ok (hr.mono (by decide)) M_House_need.b .nil pass0 (pa_cons (pv 1) pa_nil)))
      (pss_one (ps_expr (pe_dpop1 (pe_fld (pv 0) rfl) (pv 1) ⟨rfl, rfl, rfl, rfl⟩)))), ?_⟩
    obtain ⟨dx, hx⟩ := W.ob
    obtain ⟨kvs, hd, G⟩ := W.dc
    obtain ⟨p, g, _, hv, _⟩ := G.val_some hn
    refine ⟨_, rfl, x, dx, _, rfl, hx, fldh_no _ _ (by decide +kernel) (by decide +kernel), _, rfl, x, d, n, gs, nm, rfl, W, hn, ?_⟩
    refine ⟨_, rfl, x, cl.House, dx, _, _, rfl, hx, T.cl_House, T.n_House_gaps, fldh_gaps _ _, d, rfl, .inl ⟨_, .inl hd⟩, _, rfl, kvs, Sum.inr nm, _, hd, rfl, hv, ?_⟩
    have b2 : But d H (upd H d (.dK (dropK kvs (Sum.inr nm)))) := fun b o e h => by rw [upd_ne h]; exact e
    refine q _ ⟨⟨dx, b2 _ _ hx (ne_of hx hd (fun z => by cases z))⟩, _, upd_same, ?_⟩ b2
    exact G.drop.keep fun c xs e => b2 _ _ e (ne_of e hd (fun z => by cases z))
theorem sc_held : FnScope ["table", "bound"] ["table", "bound"] (defScope s_held) := ⟨rfl, rfl, rfl, by decide +kernel, rfl, by decide +kernel, by decide +kernel⟩
theorem ok_held {f : Addr} {fd : FuncData} (F : Fun K "held" "held" s_held f fd) (T : Txt K mg cl) (C_shuts : Cal P w K mg base 1 "shuts" ["bound", "table"] (sp_shuts K)) (C_held_row : Cal P w K mg base 2 "held_row" ["table", "a", "bound"] (sp_held_row K)) : FnOk P w K mg base CX0 3 f fd ["table", "bound"] (sp_held K) := by
  refine F.ok sc_held (fun vs H Q E h => ?_) (fun cdv A outer s H vs Q E hr h => ?_)
  · obtain ⟨u, v, m, rfl, hB, q⟩ := h
    rfl
  · obtain ⟨u, v, m, rfl, hB, q⟩ := h
    refine ⟨_, (pss_cons (ps_if (PW.pt (pw_or (pt_cmpR op_isN (pv 0) pe_non (nomark _)) (pw_or1 (pt_val (pec C_shuts (hr.mono (by decide)) rfl (pa_cons (pv 1) (pa_cons (pv 0) pa_nil)))))))
      (pss_one (ps_ret pe_non))
      pss_nil)
      (pss_one (ps_ret (pe_compS ["table", "bound"] [0, 1] rfl (pi_range1 rfl T.z_range (pa_cons (pe_callB call_len_seq rfl T.z_len PySem.boot_len (pa_cons (pv 0) pa_nil)) pa_nil)) (fun _ _ _ => pts_nil) (fun _ _ _ => (pec C_held_row (hr.mono (by decide)) rfl (pa_cons (pv 1) (pa_cons (pv 0) (pa_cons (pv 2) pa_nil))))) (hk := by kernel_rfl))))), ?_⟩
    rcases q with ⟨rfl, q⟩ | ⟨p, rs, t, n, rfl, hT, hS, hn, h1, h2, q1, q2⟩
    · exact ⟨_, rfl, rfl, _, rfl, iteT (iteT q)⟩
    · have hl := hT.len hS
      refine ⟨_, rfl, rfl, _, rfl, iteF ⟨_, rfl, _, rfl, u, p, m, rs, t, n, rfl, hB, hT, hS, h1, h2, _, rfl, ?_⟩⟩
      cases hs : shutB t m with
      | true => exact iteT (q1 hs)
      | false =>
        refine iteF ⟨_, rfl, p, _, rfl, .inl (SqL.of hT.ob), (n : Int), by rw [hl], by omega, by omega, comp_rows (n := ((n : Nat) : Int).toNat) (fun i => (List.range n).map fun (j : Nat) => heldF t m (i : Int) (j : Int)) (small (by omega)) ?_ ?_⟩
        · intro i H1 hi s1 R kR
          refine ⟨_, rfl, _, rfl, _, rfl, u, p, _, m, rs, t, n, rfl, s1.seqT hB, hT.same s1, hS, hn, ⟨by omega, by omega⟩, h1, h2, fun r hr => ?_⟩
          refine kR r _ hr (same_new hr _) ?_
          rw [upd_same, Int.zero_add]
        · intro p' rs' H' N
          rw [Int.toNat_natCast] at N
          exact q2 hs p' rs' H' N
theorem sc_search : FnScope ["count", "bounds", "table", "ways", "place", "bound", "narrower"] ["count", "bounds"] (defScope s_search) := ⟨rfl, rfl, rfl, by decide +kernel, rfl, by decide +kernel, by decide +kernel⟩
theorem ok_search {f : Addr} {fd : FuncData} (F : Fun K "search" "search" s_search f fd) (T : Txt K mg cl) (C_wide : Cal P w K mg base 2 "wide" ["count"] (sp_wide K)) (C_held : Cal P w K mg base 3 "held" ["table", "bound"] (sp_held K)) (C_first_ways : Cal P w K mg base 1 "first_ways" ["row"] (sp_first_ways K)) (C_narrowed : Cal P w K mg base 1 "narrowed" ["row", "other"] (sp_narrowed K)) (C_led : Cal P w K mg base 2 "led" ["ways", "a", "bound", "place", "changes"] (sp_led K)) : FnOk P w K mg base CX0 4 f fd ["count", "bounds"] (sp_search K) := by
  refine F.ok sc_search (fun vs H Q E h => ?_) (fun cdv A outer s H vs Q E hr h => ?_)
  · obtain ⟨n, r, qs, bs, rfl, hL, hA, n1, n8, hw, hb, qr, qt⟩ := h
    rfl
  · obtain ⟨n, r, qs, bs, rfl, hL, hA, n1, n8, hw, hb, qr, qt⟩ := h
    refine ⟨_, (pss_cons (ps_set (i := 2) sc_search.nd rfl (Or.inr rfl) (pec C_wide (hr.mono (by decide)) rfl (pa_cons (pv 0) pa_nil)))
      (pss_cons (ps_set (i := 3) sc_search.nd rfl (Or.inr rfl) (pe_compS [] [] rfl (pi_list (pv 2)) (fun _ _ _ => pts_nil) (fun _ _ _ => (pec C_first_ways (hr.mono (by decide)) rfl (pa_cons (pv 0) pa_nil))) (hk := by kernel_rfl)))
      (pss_cons (ps_for PassesOwn.never rfl (pi_range1 rfl T.z_range (pa_cons (pe_callB call_len_seq rfl T.z_len PySem.boot_len (pa_cons (pv 1) pa_nil)) pa_nil)) (pg_name (i := 4) sc_search.nd rfl (Or.inr rfl))
      (pss_cons (ps_set (i := 5) sc_search.nd rfl (Or.inr rfl) (pe_ix ix_list (pv 1) (pv 4) (fun _ _ => rfl)))
      (pss_cons (ps_set (i := 6) sc_search.nd rfl (Or.inr rfl) (pec C_held (hr.mono (by decide)) rfl (pa_cons (pv 2) (pa_cons (pv 5) pa_nil))))
      (pss_cons (ps_if (pt_cmpR op_isN (pv 6) pe_non (nomark _))
      (pss_one (ps_ret (pe_tup (pa_cons pe_non (pa_cons (pe_op op_cat (pe_lst (pa_cons (pv 4) pa_nil)) (pe_ix ix_list (pe_ix ix_list (pv 3) (pe_ix ix_tup (pv 5) pe_int (fun _ _ => rfl)) (fun _ _ => rfl)) (pe_ix ix_tup (pv 5) pe_int (fun _ _ => rfl)) (fun _ _ => rfl))) pa_nil)))))
      pss_nil)
      (pss_cons (ps_set (i := 3) sc_search.nd rfl (Or.inr rfl) (pe_compS ["ways", "bound", "place", "table", "narrower"] [3, 5, 4, 2, 6] rfl (pi_range1 rfl T.z_range (pa_cons (pv 0) pa_nil)) (fun _ _ _ => pts_nil) (fun _ _ _ => (pec C_led (hr.mono (by decide)) rfl (pa_consP (pv 1) (pa_consP (pv 0) (pa_consP (pv 2) (pa_consP (pv 3) (pa_consP (pec C_narrowed (hr.mono (by decide)) rfl (pa_cons (pe_ix (ix_listK (K := K) rfl) (pv 4) (pv 0) (fun _ _ => rfl)) (pa_cons (pe_ix (ix_listK (K := K) rfl) (pv 5) (pv 0) (fun _ _ => rfl)) pa_nil))) pa_nil))))))) (hk := by kernel_rfl)))
      (pss_one (ps_set (i := 2) sc_search.nd rfl (Or.inr rfl) (pv 6))))))))
      (pss_one (ps_ret (pe_tup (pa_cons (pv 3) (pa_cons pe_non pa_nil)))))))), ?_⟩
    have hlen := hA.len
    refine ⟨_, rfl, n, rfl, by omega, fun p0 rs0 H0 N0 => ?_⟩
    have Sw := (wide_right n).square
    have lw := N0.tb.len Sw
    refine ⟨_, rfl, p0, rfl, ⟨_, SqL.of N0.tb.ob⟩, comp_list (K := K) (a := p0) (xs := rs0.map V.ref) (fun i acc H1 => i ≤ n ∧ Same H0 H1 ∧ ∃ rs' : List Addr, acc = rs'.map V.ref ∧ Paired (RowW H H1) rs' (((wideT n).take i).map fun row => row.map fun o => o.map fun _ => [])) (by rw [lw]; exact small (by omega)) ⟨Nat.zero_le _, same_refl _, [], rfl, .nil⟩
      (fun i acc H1 ⟨hi, _, rs', e, w⟩ => by rw [e, List.length_map, Paired.length w, List.length_map, List.length_take, Sw.1]; omega) (fun i acc H1 ⟨_, s, _⟩ => SqL.of (s _ _ N0.tb.ob)) ?_ ?_⟩
    · rintro i acc H1 x hx ⟨hi, s1, rs', rfl, w⟩ R kR
      have hx0 := hx
      rw [List.getElem?_map] at hx
      cases e : rs0[i]? with
      | none => rw [e] at hx; cases hx
      | some rr =>
        rw [e] at hx
        have ex : x = .ref rr := (Option.some.inj hx).symm
        subst ex
        obtain ⟨row, g1, g2⟩ := paired_get N0.tb.rows e
        have hr := Sw.2 row (List.mem_of_getElem? g1)
        have hlt : i < n := by have := (List.getElem?_eq_some_iff.mp hx0).1; omega
        refine ⟨_, rfl, rr, row, rfl, s1 _ _ g2, by omega, fun r' H' s' e' => kR _ _ ⟨hlt, s1.trans s', rs' ++ [r'], by simp, ?_⟩⟩
        rw [List.take_add_one, g1, List.map_append]
        obtain ⟨vs, k1, k2⟩ := e'
        exact Paired.snoc (Paired.mapP w fun _ _ q => q.same s') ⟨vs, k1, Paired.mapP k2 fun _ _ q => q.base (N0.sm.trans s1)⟩
    rintro acc H1 ⟨hi, s1, rs', rfl, w1⟩ pw0 hpw0
    rw [lw, List.take_of_length_le (by rw [Sw.1]; exact Nat.le_refl _)] at w1
    have s2 := same_new hpw0 (.lst (rs'.map V.ref))
    have W0 : WaysAt H (upd H1 pw0 (.lst (rs'.map V.ref))) pw0 (mkW n fun a b => if a = b then some [] else none) := by
      refine ⟨rs', upd_same, ?_⟩
      have e : ((wideT n).map fun row => row.map fun o => o.map fun _ => ([] : List Int)) = mkW n fun a b => if a = b then some [] else none := by
        unfold wideT mkT mkW
        rw [List.map_map]
        refine List.map_congr_left fun i _ => ?_
        show List.map _ (List.map _ _) = _
        rw [List.map_map]
        refine List.map_congr_left fun j _ => ?_
        show Option.map _ (if (i : Int) = (j : Int) then some 0 else none) = (if (i : Int) = (j : Int) then some [] else none)
        by_cases c : (i : Int) = (j : Int)
        · rw [if_pos c, if_pos c]; rfl
        · rw [if_neg c, if_neg c]; rfl
      rw [e] at w1
      exact Paired.mapP w1 fun _ _ q => q.same s2
    have s02 := N0.sm.trans (s1.trans s2)
    have T0 := N0.tb.same (s1.trans s2)
    generalize upd H1 pw0 (.lst (rs'.map V.ref)) = H2 at W0 s02 T0 ⊢
    refine ⟨_, rfl, r, _, rfl, .inl (s02.seq hL), ((qs.length : Nat) : Int), rfl, by omega, by omega, for_range (lo := 0) (n := ((qs.length : Nat) : Int).toNat) (fun i σ H3 => Same H H3 ∧ ∃ p rs t pw w, TabAt H3 p rs t ∧ Right n (bs.take i) t ∧ WaysAt H H3 pw w ∧ SqW n w ∧ WayOk n (bs.take i) t w ∧ ∃ u4 u5 u6, σ = [some (.int n), some (.ref r), some (.ref p), some (.ref pw), u4, u5, u6])
      ⟨s02, p0, rs0, _, pw0, _, T0, wide_right n, W0, mkW_sq n _, first_ok n, _, _, _, rfl⟩ ?_ ?_⟩
    · rintro i σ H3 hi ⟨s3, p, rs, t, pw, w, T3, R, W3, Sq, Ok, u4, u5, u6, rfl⟩
      have hi' : i < qs.length := by omega
      obtain ⟨pb, m, hm, ev, hp⟩ := (hA.same s3).get (List.getElem?_eq_getElem hi')
      have hat : atI qs (0 + (i : Int)) = some (.ref pb) := atI_of (n := i) (by omega) (by omega) (by rw [List.getElem?_eq_getElem hi', ev])
      have htake : bs.take (i + 1) = bs.take i ++ [m] := by rw [List.take_add_one, hm]; rfl
      have hmem := List.mem_of_getElem? hm
      obtain ⟨m1, m2⟩ := hw m hmem
      have hw' : Within n (bs.take i ++ [m]) := fun x hx => by
        rcases List.mem_append.mp hx with hx | hx
        · exact hw x (List.mem_of_mem_take hx)
        · rw [List.mem_singleton.mp hx]; exact ⟨m1, m2⟩
      have hwt : Within n (bs.take i) := fun x hx => hw x (List.mem_of_mem_take hx)
      have lt : (bs.take i).length = i := by rw [List.length_take]; omega
      have back : ∀ (k : Nat) x, (bs.take i ++ [m])[k]? = some x → bs[k]? = some x := fun k x h => by
        rw [← htake] at h
        have h1 := (List.getElem?_eq_some_iff.mp h).1
        rw [List.length_take] at h1
        rw [List.getElem?_take_of_lt (by omega)] at h
        exact h
      refine ⟨_, rfl, _, rfl, r, _, _, _, rfl, rfl, s3.seq hL, hat, ?_⟩
      refine ⟨_, rfl, _, rfl, pb, .ref p, m, rfl, SqT.of hp, .inr ⟨p, rs, t, n, rfl, T3, R.square, by omega, m1, m2, fun hs => ?_, fun hs p' rs2 H4 N4 => ?_⟩⟩
      · refine ⟨_, rfl, rfl, _, rfl, iteT ?_⟩
        obtain ⟨ps, g0, ⟨x, c, c0, hx, wk, nd⟩, ll⟩ := shut_ring hw' hs Ok
        rw [lt] at wk nd
        refine ⟨_, rfl, (by show 1 ≤ sizeLine; decide), fun l1 hl1 => ?_⟩
        have q1 := same_new hl1 (.lst [.int (0 + (i : Int))])
        have f1 : (upd H3 l1 (.lst [.int (0 + (i : Int))])) l1 = some (.lst [.int (0 + (i : Int))]) := upd_same
        generalize upd H3 l1 (.lst [.int (0 + (i : Int))]) = H4 at q1 f1 ⊢
        obtain ⟨rw1, rr, vs, v, k1, k2, k3, k4, k5⟩ := (W3.same q1).at Sq m2 m1
        rw [g0] at k5
        obtain ⟨l2, rfl, k6, _⟩ := k5
        refine ⟨_, rfl, _, rfl, pb, _, 1, _, rfl, rfl, SqT.of (q1 _ _ hp), rfl, pw, _, _, _, rfl, rfl, SqL.of k1, k2, _, rfl, pb, _, 0, _, rfl, rfl, SqT.of (q1 _ _ hp), rfl, rr, _, _, _, rfl, rfl, SqL.of k3, k4, l1, l2, _, _, rfl, rfl, f1, k6, small (by rw [List.length_map]; show 1 + _ ≤ 1000; omega), fun l3 hl3 => ?_⟩
        refine ⟨(by show 2 ≤ sizeLine; decide), fun u hu => ?_⟩
        have q3 := same_new hl3 (.lst ([.int (0 + (i : Int))] ++ ps.map V.int))
        have mo := wk.mono (cs := bs) back
        have neg : NegR bs := ⟨x, c, c0, mo.1.path⟩
        refine qr u l3 ((i : Int) :: ps) _ (((s3.trans q1).trans q3).trans (same_new hu _)) upd_same ?_ (none_of (s3.trans q1) hl3) ⟨x, c, c0, hx, mo.1, by rw [mo.2]; exact nd⟩ (by rw [List.length_cons]; omega) neg
        refine same_new hu _ _ _ ?_
        rw [upd_same, Int.zero_add]; rfl
      · refine ⟨_, rfl, rfl, _, rfl, iteF ?_⟩
        have T4 := T3.same N4.sm
        have W4 := W3.same N4.sm
        have s4 := s3.trans N4.sm
        have R' := held_right R hw' hs
        refine ⟨_, rfl, ((n : Nat) : Int), rfl, by omega, by omega, comp_wrows (H0 := H) (n := ((n : Nat) : Int).toNat) (fun (a : Nat) => (List.range n).map fun (j : Nat) => if !decide (ent t (a : Int) (j : Int) = heldF t m (a : Int) (j : Int)) then newW w m (i : Int) (a : Int) (j : Int) else went w (a : Int) (j : Int)) (small (by omega)) ?_ ?_⟩
        · intro a H5 ha s5 R5 kR
          have ha' : inN (0 + (a : Int)) n := ⟨by omega, by omega⟩
          have ea : (0 + (a : Int)) = (a : Int) := Int.zero_add _
          obtain ⟨r1, row1, x1, x2, x3, x4⟩ := (T4.same s5).rowAt R.square ha'
          obtain ⟨r2, row2, y1, y2, y3, y4⟩ := (N4.tb.same s5).rowAt R'.square ha'
          have rows : ∀ j : Nat, j < n → row1.getD j none = ent t (a : Int) (j : Int) ∧ row2.getD j none = heldF t m (a : Int) (j : Int) := fun j hj => by
            have hj' : inN (j : Int) n := ⟨by omega, by omega⟩
            have h1 := x4 _ hj'
            have h2 := y4 _ hj'
            rw [at_ovW hj'.1 (by rw [x3]; exact hj'.2), Int.toNat_natCast] at h1
            rw [at_ovW hj'.1 (by rw [y3]; exact hj'.2), Int.toNat_natCast] at h2
            have e2 : ent (heldT n t m) (0 + (a : Int)) (j : Int) = heldF t m (a : Int) (j : Int) := by unfold heldT; rw [mkT_ent _ ha' hj', ea]
            rw [ea] at h1
            rw [e2] at h2
            exact ⟨ov_inj.mp (Option.some.inj h1), ov_inj.mp (Option.some.inj h2)⟩
          refine ⟨_, rfl, _, rfl, _, rfl, _, rfl, _, rfl, _, rfl, p, _, _, _, rfl, rfl, SqL.of (T4.same s5).ob, x1, _, rfl, _, rfl, p', _, _, _, rfl, rfl, SqL.of (N4.tb.same s5).ob, y1, r1, r2, row1, row2, n, rfl, x2, y2, x3, y3, by omega, fun rc hrc => ?_⟩
          have sr := same_new hrc (.lst ((List.range n).map fun j => V.bl (!decide (row1.getD j none = row2.getD j none))))
          have er : (upd H5 rc (.lst ((List.range n).map fun j => V.bl (!decide (row1.getD j none = row2.getD j none))))) rc = some (.lst ((List.range n).map fun (j : Nat) => V.bl (!decide (ent t (a : Int) (j : Int) = heldF t m (a : Int) (j : Int))))) := by
            rw [upd_same]
            congr 2
            refine List.map_congr_left fun j hj => ?_
            obtain ⟨z1, z2⟩ := rows j (List.mem_range.mp hj)
            rw [z1, z2]
          generalize (upd H5 rc (.lst ((List.range n).map fun j => V.bl (!decide (row1.getD j none = row2.getD j none))))) = H6 at sr er ⊢
          have s56 := s5.trans sr
          refine ⟨H, pw, pb, rc, w, n, m, _, _, fun j => !decide (ent t (a : Int) (j : Int) = heldF t m (a : Int) (j : Int)), rfl, s4.trans s56, W4.same s56, Sq, by omega, s56 _ _ (N4.sm _ _ hp), ha', m1, m2, er, fun j hj hc => ?_, fun r' H7 s7 e7 => ?_⟩
          · have hj' : inN (j : Int) n := ⟨by omega, by omega⟩
            have hne : ent t (a : Int) (j : Int) ≠ heldF t m (a : Int) (j : Int) := fun h => by
              dsimp only at hc
              rw [decide_eq_true h] at hc; cases hc
            rw [ea] at ha'
            obtain ⟨e, e1, e2, ps, qs', g1, g2, g3, g4, g5, g6, g7, g8, _⟩ := step_new R hw' hs Ok ha' hj' hne
            have v1 := way_len hwt m1 g5 g7
            have v2 := way_len hwt hj' g6 g8
            exact ⟨ps, qs', by rw [ea]; exact g3, g4, by omega, by omega⟩
          · refine kR r' H7 (sr.trans s7) ?_
            rw [ea, Int.zero_add] at e7
            exact e7
        · intro pw' H5 s5 W5
          rw [Int.toNat_natCast] at W5
          have W5' : WaysAt H H5 pw' (stepW n t w m (((bs.take i).length : Nat) : Int)) := by rw [lt]; exact W5
          refine ⟨_, rfl, s4.trans s5, p', rs2, heldT n t m, pw', _, N4.tb.same s5, ?_, W5', mkW_sq n _, ?_, _, _, _, rfl⟩
          · rw [htake]; exact R'
          · rw [htake]; exact step_ok R hw' hs Ok
    · rintro σ H3 ⟨s3, p, rs, t, pw, w, T3, R, W3, Sq, Ok, u4, u5, u6, rfl⟩
      rw [Int.toNat_natCast, hlen, List.take_length] at R Ok
      refine ⟨_, rfl, (by show 2 ≤ sizeLine; decide), fun u hu => ?_⟩
      exact qt u pw w t _ (s3.trans (same_new hu _)) upd_same (W3.same (same_new hu _)) Sq R Ok
theorem sc_table_of : FnScope ["count", "bounds", "table", "bound"] ["count", "bounds"] (defScope s_table_of) := ⟨rfl, rfl, rfl, by decide +kernel, rfl, by decide +kernel, by decide +kernel⟩
theorem ok_table_of {f : Addr} {fd : FuncData} (F : Fun K "table_of" "table_of" s_table_of f fd) (T : Txt K mg cl) (C_wide : Cal P w K mg base 2 "wide" ["count"] (sp_wide K)) (C_held : Cal P w K mg base 3 "held" ["table", "bound"] (sp_held K)) : FnOk P w K mg base CX0 4 f fd ["count", "bounds"] (sp_table_of K) := by
  refine F.ok sc_table_of (fun vs H Q E h => ?_) (fun cdv A outer s H vs Q E hr h => ?_)
  · obtain ⟨n, r, qs, bs, rfl, hL, hA, n1, n8, hw, hb, qt⟩ := h
    rfl
  · obtain ⟨n, r, qs, bs, rfl, hL, hA, n1, n8, hw, hb, qt⟩ := h
    refine ⟨_, (pss_cons (ps_set (i := 2) sc_table_of.nd rfl (Or.inl rfl) (pec C_wide (hr.mono (by decide)) rfl (pa_cons (pv 0) pa_nil)))
      (pss_cons (ps_for PassesOwn.never rfl (pi_list (pv 1)) (pg_name (i := 3) sc_table_of.nd rfl (Or.inl rfl))
      (pss_one (ps_set (i := 2) sc_table_of.nd rfl (Or.inl rfl) (pec C_held (hr.mono (by decide)) rfl (pa_cons (pv 2) (pa_cons (pv 3) pa_nil))))))
      (pss_one (ps_ret (pv 2))))), ?_⟩
    have hlen := hA.len
    refine ⟨_, rfl, n, rfl, by omega, fun p0 rs0 H0 N0 => ?_⟩
    refine ⟨_, rfl, r, rfl, ⟨_, N0.sm.seq hL⟩, for_list (K := K) (a := r) (xs := qs) (fun i σ H2 => Same H H2 ∧ (∃ v u3, σ = [some (.int n), some (.ref r), some v, u3] ∧ IsTN H H2 v n (bs.take i)))
      ⟨N0.sm, _, _, rfl, .inr ⟨p0, rs0, _, rfl, N0, wide_right n⟩⟩ (fun i σ H2 _ ⟨s, _⟩ => s.seq hL) ?_ ?_⟩
    · rintro i x σ H2 hi ⟨s2, v, u3, rfl, hv⟩
      obtain ⟨pb, m, hm, rfl, hp⟩ := (hA.same s2).get hi
      have htake : bs.take (i + 1) = bs.take i ++ [m] := by rw [List.take_add_one, hm]; rfl
      obtain ⟨m1, m2⟩ := hw m (List.mem_of_getElem? hm)
      refine ⟨_, rfl, _, rfl, pb, v, m, rfl, SqT.of hp, ?_⟩
      rcases hv with ⟨rfl, hn⟩ | ⟨p, rs, t, rfl, N, R⟩
      · refine .inl ⟨rfl, s2, _, _, rfl, .inl ⟨rfl, ?_⟩⟩
        rw [htake]
        exact hn.mono fun x hx => List.mem_append_left _ hx
      · refine .inr ⟨p, rs, t, n, rfl, N.tb, R.square, by omega, m1, m2, fun hs => ?_, fun hs p' rs' H' N' => ?_⟩
        · refine ⟨s2, _, _, rfl, .inl ⟨rfl, ?_⟩⟩
          rw [htake]
          exact shut_neg R m1 m2 hs
        · refine ⟨s2.trans N'.sm, _, _, rfl, .inr ⟨p', rs', _, rfl, N'.since s2, ?_⟩⟩
          rw [htake]
          refine held_right R (fun x hx => ?_) hs
          rcases List.mem_append.mp hx with hx | hx
          · exact hw x (List.mem_of_mem_take hx)
          · rw [List.mem_singleton.mp hx]; exact ⟨m1, m2⟩
    · rintro σ H2 ⟨s2, v, u3, rfl, hv⟩
      rw [hlen, List.take_length] at hv
      exact ⟨_, rfl, qt v H2 s2 hv⟩
theorem sc_chain : FnScope ["count", "bounds", "a", "b", "ways"] ["count", "bounds", "a", "b"] (defScope s_chain) := ⟨rfl, rfl, rfl, by decide +kernel, rfl, by decide +kernel, by decide +kernel⟩
theorem ok_chain {f : Addr} {fd : FuncData} (F : Fun K "chain" "chain" s_chain f fd) (T : Txt K mg cl) (C_search : Cal P w K mg base 4 "search" ["count", "bounds"] (sp_search K)) : FnOk P w K mg base CX0 5 f fd ["count", "bounds", "a", "b"] (sp_chain K) := by
  refine F.ok sc_chain (fun vs H Q E h => ?_) (fun cdv A outer s H vs Q E hr h => ?_)
  · obtain ⟨n, r, qs, bs, a, b, rfl, hL, hA, n1, n8, hw, hb', ha, hb, q⟩ := h
    rfl
  · obtain ⟨n, r, qs, bs, a, b, rfl, hL, hA, n1, n8, hw, hb', ha, hb, q⟩ := h
    refine ⟨_, (pss_cons (ps_set (i := 4) sc_chain.nd rfl (Or.inl rfl) (pe_ix ix_tup (pec C_search (hr.mono (by decide)) rfl (pa_cons (pv 0) (pa_cons (pv 1) pa_nil))) pe_int (fun _ _ => rfl)))
      (pss_cons (ps_if (pt_cmpR op_isN (pv 4) pe_non (nomark _))
      (pss_one (ps_ret pe_non))
      pss_nil)
      (pss_one (ps_ret (pe_ix ix_list (pe_ix ix_list (pv 4) (pv 2) (fun _ _ => rfl)) (pv 3) (fun _ _ => rfl)))))), ?_⟩
    refine ⟨_, rfl, _, rfl, n, r, qs, bs, rfl, hL, hA, n1, n8, hw, hb', fun u l ps H' s1 e1 _ _ _ _ neg => ?_, fun u p w t H' s1 e1 hW hS R W => ?_⟩
    · refine ⟨u, _, 0, _, rfl, rfl, SqT.of e1, rfl, ?_⟩
      exact ⟨_, rfl, rfl, _, rfl, iteT (q _ H' s1 (.inl ⟨rfl, neg⟩))⟩
    · refine ⟨u, _, 0, _, rfl, rfl, SqT.of e1, rfl, ?_⟩
      obtain ⟨rs, r', vs, v, g1, g2, g3, g4, g5⟩ := hW.at hS ha hb
      refine ⟨_, rfl, rfl, _, rfl, iteF ⟨_, rfl, _, rfl, p, _, _, _, rfl, rfl, SqL.of g1, g2, _, rfl, r', _, _, _, rfl, rfl, SqL.of g3, g4, q v H' s1 (.inr ⟨t, R, ?_⟩)⟩⟩
      rcases W a b ha hb with ⟨hn, ho⟩ | ⟨e, ps, he, ho, wk, nd⟩
      · rw [ho] at g5
        exact .inl ⟨g5, hn⟩
      · rw [ho] at g5
        obtain ⟨l, rfl, hl, l0⟩ := g5
        exact .inr ⟨l, ps, e, rfl, hl, l0, he, wk, nd⟩
theorem sc_House_table : FnScope ["self"] ["self"] (defScope s_House_table) := ⟨rfl, rfl, rfl, by decide +kernel, rfl, by decide +kernel, by decide +kernel⟩
theorem ok_House_table {f : Addr} {fd : FuncData} (F : Fun K "table" "House.table" s_House_table f fd) (T : Txt K mg cl) (C_table_of : Cal P w K mg base 4 "table_of" ["count", "bounds"] (sp_table_of K)) (C_all_bounds : Cal P w K mg base 2 "all_bounds" ["gaps"] (sp_all_bounds K)) : FnOk P w K mg base CX0 5 f fd ["self"] (sp_House_table K cl) := by
  refine F.ok sc_House_table (fun vs H Q E h => ?_) (fun cdv A outer s H vs Q E hr h => ?_)
  · obtain ⟨x, d, n, gs, rfl, W, n1, n8, hw, hl, q⟩ := h
    rfl
  · obtain ⟨x, d, n, gs, rfl, W, n1, n8, hw, hl, q⟩ := h
    refine ⟨_, (pss_one (ps_ret (pec C_table_of (hr.mono (by decide)) rfl (pa_cons (pe_fld (pv 0) rfl) (pa_cons (pec C_all_bounds (hr.mono (by decide)) rfl (pa_cons (pe_fld (pv 0) rfl) pa_nil)) pa_nil))))), ?_⟩
    obtain ⟨dx, hx⟩ := W.ob
    obtain ⟨kvs, hd, G⟩ := W.dc
    refine ⟨_, rfl, x, cl.House, dx, _, _, rfl, hx, T.cl_House, T.n_House_count, fldh_count _ _, _, rfl, x, cl.House, dx, _, _, rfl, hx, T.cl_House, T.n_House_gaps, fldh_gaps _ _, d, kvs, gs, rfl, hd, G, hl, fun r H1 qs hr0 s1 e1 A1 => ?_⟩
    have := allB_len gs
    exact ⟨n, r, qs, allB gs, rfl, SqL.of e1, A1, n1, n8, hw, by omega, fun v H2 s2 I2 => q v H2 (s1.trans s2) (I2.since s1)⟩
theorem sc_House_chain : FnScope ["self", "a", "b"] ["self", "a", "b"] (defScope s_House_chain) := ⟨rfl, rfl, rfl, by decide +kernel, rfl, by decide +kernel, by decide +kernel⟩
theorem ok_House_chain {f : Addr} {fd : FuncData} (F : Fun K "chain" "House.chain" s_House_chain f fd) (T : Txt K mg cl) (C_chain_rings : Cal P w K mg base 5 "chain_rings" ["count", "bounds", "a", "b"] (sp_chain K)) (C_all_bounds : Cal P w K mg base 2 "all_bounds" ["gaps"] (sp_all_bounds K)) (C_names_at : Cal P w K mg base 3 "names_at" ["gaps", "places"] (sp_names_at K)) : FnOk P w K mg base CX0 6 f fd ["self", "a", "b"] (sp_House_chain K cl) := by
  refine F.ok sc_House_chain (fun vs H Q E h => ?_) (fun cdv A outer s H vs Q E hr h => ?_)
  · obtain ⟨x, d, n, gs, a, b, rfl, W, hnd, n1, n8, hw, hl, ha, hb, q⟩ := h
    rfl
  · obtain ⟨x, d, n, gs, a, b, rfl, W, hnd, n1, n8, hw, hl, ha, hb, q⟩ := h
    refine ⟨_, (pss_one (ps_ret (pec C_names_at (hr.mono (by decide)) rfl (pa_cons (pe_fld (pv 0) rfl) (pa_cons (pec C_chain_rings (hr.mono (by decide)) rfl (pa_cons (pe_fld (pv 0) rfl) (pa_cons (pec C_all_bounds (hr.mono (by decide)) rfl (pa_cons (pe_fld (pv 0) rfl) pa_nil)) (pa_cons (pv 1) (pa_cons (pv 2) pa_nil))))) pa_nil))))), ?_⟩
    obtain ⟨dx, hx⟩ := W.ob
    obtain ⟨kvs, hd, G⟩ := W.dc
    refine ⟨_, rfl, x, cl.House, dx, _, _, rfl, hx, T.cl_House, T.n_House_gaps, fldh_gaps _ _, ?_⟩
    refine ⟨_, rfl, x, cl.House, dx, _, _, rfl, hx, T.cl_House, T.n_House_count, fldh_count _ _, _, rfl, x, cl.House, dx, _, _, rfl, hx, T.cl_House, T.n_House_gaps, fldh_gaps _ _, d, kvs, gs, rfl, hd, G, hl, fun r H1 qs hr0 s1 e1 A1 => ?_⟩
    have := allB_len gs
    refine ⟨_, rfl, _, rfl, n, r, qs, allB gs, a, b, rfl, SqL.of e1, A1, n1, n8, hw, by omega, ha, hb, fun v H2 s2 I2 => ?_⟩
    have s12 := s1.trans s2
    refine ⟨d, kvs, gs, v, rfl, s12 _ _ hd, G.same s12, hnd, hl, ?_⟩
    rcases I2 with ⟨rfl, neg⟩ | ⟨t, R, ⟨rfl, hn⟩ | ⟨l, ps, e, rfl, el, l0, he, wk, nd⟩⟩
    · exact .inl ⟨rfl, q _ H2 s12 (.inl ⟨rfl, neg⟩)⟩
    · exact .inl ⟨rfl, q _ H2 s12 (.inr ⟨t, R, .inl ⟨rfl, hn⟩⟩)⟩
    · have ll := way_len hw hb wk nd
      exact .inr ⟨l, ps, rfl, el, wk.places, by omega, fun r3 H3 qs3 hr3 s3 e3 A3 => q _ H3 (s12.trans s3) (.inr ⟨t, R, .inr ⟨r3, qs3, ps, e, rfl, e3, none_of s12 hr3, A3, he, wk, nd⟩⟩)⟩
theorem sc_law_all_good : FnScope ["_law_house", "_law_gaps", "_law_pairs_here", "_law_count", "_law_table", "_law_ends_here", "_law_pair", "_law_found", "_law_entry"] ["_law_house", "_law_gaps", "_law_pairs_here", "_law_count"] (defScope s_law_all_good) := ⟨rfl, rfl, rfl, by decide +kernel, rfl, by decide +kernel, by decide +kernel⟩
theorem ok_law_all_good {f : Addr} {fd : FuncData} (F : Fun K "_law_all_good" "_law_all_good" s_law_all_good f fd) (T : Txt K mg cl) (C_law_ends : Cal P w K mg base 1 "_law_ends" ["_law_gaps"] (sp_law_ends K)) (C_law_good : Cal P w K mg base 1 "_law_good" ["_law_found", "_law_ends_here", "_law_pair", "_law_entry", "_law_count"] (sp_law_good K)) (M_House_table : MCal P w K mg base cl.House 5 "table" ["self"] (sp_House_table K cl)) (M_House_chain : MCal P w K mg base cl.House 6 "chain" ["self", "a", "b"] (sp_House_chain K cl)) : FnOk P w K mg base CX0 7 f fd ["_law_house", "_law_gaps", "_law_pairs_here", "_law_count"] (sp_law_all_good K cl) := by
  refine F.ok sc_law_all_good (fun vs H Q E h => ?_) (fun cdv A outer s H vs Q E hr h => ?_)
  · obtain ⟨x, dh, dg, rp, n, gs, qp, rfl, L, hrp, hP, n1, n8, hl, hneg, q⟩ := h
    rfl
  · obtain ⟨x, dh, dg, rp, n, gs, qp, rfl, L, hrp, hP, n1, n8, hl, hneg, q⟩ := h
    refine ⟨_, (pss_cons (ps_set (i := 4) sc_law_all_good.nd rfl (Or.inl rfl) (pe_meth0 (pv 0) T.cl_House M_House_table.mt M_House_table.ok (hr.mono (by decide)) M_House_table.b .nil pass0))
      (pss_cons (ps_if (pt_cmpR op_isN (pv 4) pe_non (nomark _))
      (pss_one (ps_ret pe_bl))
      pss_nil)
      (pss_cons (ps_set (i := 5) sc_law_all_good.nd rfl (Or.inl rfl) (pec C_law_ends (hr.mono (by decide)) rfl (pa_cons (pv 1) pa_nil)))
      (pss_cons (ps_for PassesOwn.never rfl (pi_list (pv 2)) (pg_name (i := 6) sc_law_all_good.nd rfl (Or.inl rfl))
      (pss_cons (ps_set (i := 7) sc_law_all_good.nd rfl (Or.inl rfl) (pe_meth (pv 0) T.cl_House M_House_chain.mt M_House_chain.ok (hr.mono (by decide)) M_House_chain.b .nil pass0 (pa_cons (pe_ix ix_tup (pv 6) pe_int (fun _ _ => rfl)) (pa_cons (pe_ix ix_tup (pv 6) pe_int (fun _ _ => rfl)) pa_nil))))
      (pss_cons (ps_set (i := 8) sc_law_all_good.nd rfl (Or.inl rfl) (pe_ix ix_list (pe_ix ix_list (pv 4) (pe_ix ix_tup (pv 6) pe_int (fun _ _ => rfl)) (fun _ _ => rfl)) (pe_ix ix_tup (pv 6) pe_int (fun _ _ => rfl)) (fun _ _ => rfl)))
      (pss_cons (ps_if (pt_not (pt_val (pec C_law_good (hr.mono (by decide)) rfl (pa_consP (pv 7) (pa_consP (pv 5) (pa_consP (pv 6) (pa_consP (pv 8) (pa_consP (pv 3) pa_nil))))))))
      (pss_one (ps_ret pe_bl))
      pss_nil)
      (pss_one (ps_if (pt_cmpR op_notN (pv 7) pe_non (nomark _))
      (pss_one (ps_expr (pe_bm PySem.F.plainAttrs_list PySem.F.slot_list_append PySem.F.type_list_append mt_append (pv 7) (pa_cons (pe_tup (pa_cons pe_str (pa_cons pe_str pa_nil))) pa_nil))))
      pss_nil))))))
      (pss_one (ps_ret pe_bl)))))), ?_⟩
    obtain ⟨dx, hx⟩ := L.W.ob
    refine ⟨_, rfl, x, dx, _, rfl, hx, fldh_no _ _ (by decide +kernel) (by decide +kernel), x, dh, n, gs, rfl, L.W, n1, n8, L.within, by omega, fun v1 H1 s1 I1 => ?_⟩
    rcases I1 with ⟨rfl, neg⟩ | ⟨p, rs, t, rfl, N, R⟩
    · exact absurd neg hneg
    refine ⟨_, rfl, rfl, _, rfl, iteF ?_⟩
    have L1 := L.same s1
    obtain ⟨kvs, hd, G⟩ := L1.D
    refine ⟨_, rfl, dg, kvs, gs, rfl, hd, G, L.nd, by omega, fun e H2 us he0 s2 e2 A2 K2 => ?_⟩
    have s12 := s1.trans s2
    have T2 := N.tb.same s2
    have r2 := s12 _ _ hrp
    have P2 := hP.same s12
    have L2 := L1.same s2
    have x2 := s12 _ _ hx
    refine ⟨_, rfl, rp, rfl, ⟨_, SqL.of r2⟩, for_list (K := K) (a := rp) (xs := qp) (fun _ σ H3 => Same H2 H3 ∧ ∃ u6 u7 u8, σ = [some (.ref x), some (.ref dg), some (.ref rp), some (.int n), some (.ref p), some (.ref e), u6, u7, u8]) ⟨same_refl _, _, _, _, rfl⟩ (fun i σ H3 _ ⟨s, _⟩ => SqL.of (s _ _ r2)) ?_ (fun σ H3 ⟨s3, u6, u7, u8, e⟩ => q H3 (s12.trans s3))⟩
    rintro i vx σ H3 hi ⟨s3, u6, u7, u8, rfl⟩
    obtain ⟨pp, a, b, rfl, hpp, ha, hb⟩ := P2 vx (List.mem_of_getElem? hi)
    have p3 := s3 _ _ hpp
    refine ⟨_, rfl, x, dx, _, rfl, s3 _ _ x2, fldh_no _ _ (by decide +kernel) (by decide +kernel), _, rfl, pp, _, 0, _, rfl, rfl, SqT.of p3, rfl, _, rfl, pp, _, 1, _, rfl, rfl, SqT.of p3, rfl, x, dh, n, gs, a, b, rfl, L2.W.same s3, L.nd, n1, n8, L.within, by omega, ha, hb, fun v4 H4 s4 I4 => ?_⟩
    have s34 := s3.trans s4
    have T4 := T2.same s34
    have p4 := s34 _ _ hpp
    have e4 := s34 _ _ e2
    have A4 := A2.same s34
    obtain ⟨rr, row, g1, g2, g3⟩ := T4.at R.square ha hb
    refine ⟨_, rfl, _, rfl, pp, _, 0, _, rfl, rfl, SqT.of p4, rfl, p, _, _, _, rfl, rfl, SqL.of T4.ob, g1, _, rfl, pp, _, 1, _, rfl, rfl, SqT.of p4, rfl, rr, _, _, _, rfl, rfl, SqL.of g2, g3, ?_⟩
    rcases I4 with ⟨rfl, neg⟩ | ⟨t', R', ⟨rfl, hn⟩ | ⟨l, qs, ps, en, rfl, hl4, l0, AN, hen, wk, nd⟩⟩
    · exact absurd neg hneg
    · have et := R'.uniq R
      subst et
      refine ⟨_, rfl, _, rfl, _, rfl, _, rfl, _, rfl, .non, e, pp, us, gs, n, a, b, ent t' a b, rfl, e4, A4, K2, L.nd, p4, .inl ⟨hn, rfl⟩, fun H5 s5 => ⟨_, rfl, iteF ?_⟩⟩
      exact ⟨_, rfl, rfl, _, rfl, iteF ⟨s34.trans s5, _, _, _, rfl⟩⟩
    · have et := R'.uniq R
      subst et
      have ll := way_len L.within hb wk nd
      have lq := AN.len
      have lpm : (ps.map (nmAt gs)).length = ps.length := List.length_map _
      refine ⟨_, rfl, _, rfl, _, rfl, _, rfl, _, rfl, .ref l, e, pp, us, gs, n, a, b, ent t' a b, rfl, e4, A4, K2, L.nd, p4, .inr ⟨en, ps, l, qs, hen, rfl, hl4, AN, wk, ll, way_self wk nd⟩, fun H5 s5 => ⟨_, rfl, iteF ?_⟩⟩
      have l5 := s5 _ _ hl4
      refine ⟨_, rfl, rfl, _, rfl, iteT ⟨_, rfl, .inl ⟨rfl, _, SqL.of l5⟩, (by show 2 ≤ sizeLine; decide), fun pt hpt => ⟨l, _, _, rfl, rfl, same_new hpt _ _ _ l5, small1000 (by omega), ?_⟩⟩⟩
      exact ⟨same_upd ((s34.trans s5).trans (same_new hpt _)) (none_of s3 l0) _, _, _, _, rfl⟩
theorem sc_law_broken_good : FnScope ["_law_house", "_law_gaps", "_law_pairs_here", "_law_name", "_law_a", "_law_b", "_law_low", "_law_high", "_law_pair"] ["_law_house", "_law_gaps", "_law_pairs_here"] (defScope s_law_broken_good) := ⟨rfl, rfl, rfl, by decide +kernel, rfl, by decide +kernel, by decide +kernel⟩
theorem ok_law_broken_good {f : Addr} {fd : FuncData} (F : Fun K "_law_broken_good" "_law_broken_good" s_law_broken_good f fd) (T : Txt K mg cl) (M_House_add : MCal P w K mg base cl.House 1 "add" ["self", "name", "a", "b", "low", "high"] (sp_House_add K cl)) (M_House_drop : MCal P w K mg base cl.House 2 "drop" ["self", "name"] (sp_House_drop K cl)) (M_House_chain : MCal P w K mg base cl.House 6 "chain" ["self", "a", "b"] (sp_House_chain K cl)) (MS_House_add : MCalS P w K mg base cl.House 1 "add" ["self", "name", "a", "b", "low", "high"] [.none] (sp_House_add K cl)) : FnOk P w K mg base CX0 7 f fd ["_law_house", "_law_gaps", "_law_pairs_here"] (sp_law_broken_good K cl) := by
  refine F.ok sc_law_broken_good (fun vs H Q E h => ?_) (fun cdv A outer s H vs Q E hr h => ?_)
  · obtain ⟨x, dh, dg, rp, n, gs, qp, rfl, L, hrp, hP, n1, n8, hl, hpos, hag, hno, q⟩ := h
    rfl
  · obtain ⟨x, dh, dg, rp, n, gs, qp, rfl, L, hrp, hP, n1, n8, hl, hpos, hag, hno, q⟩ := h
    refine ⟨_, (pss_cons (ps_set (i := 3) sc_law_broken_good.nd rfl (Or.inl rfl) (pe_ix ix_list (pe_callTy (call_listD rfl) rfl T.z_list boot_list (pa_cons (pv 1) pa_nil)) pe_int (fun _ _ => rfl)))
      (pss_cons (ps_asg (pe_dget (hu1 hr) (pv 1) (pv 3) (fun _ _ => rfl)) (pg_tup rfl (pgs_cons (pg_name (i := 4) sc_law_broken_good.nd rfl (Or.inl rfl)) (pgs_cons (pg_name (i := 5) sc_law_broken_good.nd rfl (Or.inl rfl)) (pgs_cons (pg_name (i := 6) sc_law_broken_good.nd rfl (Or.inl rfl)) (pgs_cons (pg_name (i := 7) sc_law_broken_good.nd rfl (Or.inl rfl)) pgs_nil))))))
      (pss_cons (ps_if (pt_cmpR op_notN (pv 6) pe_non (nomark _))
      (pss_one (ps_expr (pe_meth (pv 0) T.cl_House M_House_add.mt M_House_add.ok (hr.mono (by decide)) M_House_add.b .nil pass0 (pa_consP pe_str (pa_consP (pv 4) (pa_consP (pv 5) (pa_consP pe_non (pa_consP (pe_op op_sub (pv 6) pe_int) pa_nil))))))))
      (pss_one (ps_expr (pe_meth (pv 0) T.cl_House MS_House_add.mt MS_House_add.ok (hr.mono (by decide)) MS_House_add.b valsN1 pass0 (pa_cons pe_str (pa_cons (pv 4) (pa_cons (pv 5) (pa_cons (pe_op op_add (pv 7) pe_int) pa_nil))))))))
      (pss_cons (ps_for PassesOwn.never rfl (pi_list (pv 2)) (pg_name (i := 8) sc_law_broken_good.nd rfl (Or.inl rfl))
      (pss_one (ps_if (pt_cmpR op_notN (pe_meth (pv 0) T.cl_House M_House_chain.mt M_House_chain.ok (hr.mono (by decide)) M_House_chain.b .nil pass0 (pa_cons (pe_ix ix_tup (pv 8) pe_int (fun _ _ => rfl)) (pa_cons (pe_ix ix_tup (pv 8) pe_int (fun _ _ => rfl)) pa_nil))) pe_non (nomark _))
      (pss_one (ps_ret pe_bl))
      pss_nil)))
      (pss_cons (ps_expr (pe_meth (pv 0) T.cl_House M_House_drop.mt M_House_drop.ok (hr.mono (by decide)) M_House_drop.b .nil pass0 (pa_cons pe_str pa_nil)))
      (pss_one (ps_ret pe_bl))))))), ?_⟩
    obtain ⟨kvs, hd, G⟩ := L.D
    have glen := G.len
    obtain ⟨⟨k, v⟩, hkv⟩ : ∃ p, kvs[0]? = some p := ⟨_, List.getElem?_eq_getElem (by omega)⟩
    obtain ⟨⟨nm, ga, gb, lo, hi⟩, hg, hk, p, hv, hp⟩ := paired_get G hkv
    have hv : v = .ref p := hv
    have hk : k = Sum.inr nm := hk
    subst hv hk
    have hvl := valV_get (G.nodup L.nd) hkv
    have hmem := List.mem_of_getElem? hg
    have hno' : ¬ (lo = none ∧ hi = none) := hno _ hmem
    obtain ⟨wa, wb⟩ : inN ga n ∧ inN gb n := L.wi _ hmem
    refine ⟨_, rfl, dg, kvs, rfl, .inl hd, fun l hl0 => ?_⟩
    have s1 := same_new hl0 (.lst (kvs.map fun p => kV p.1))
    have e1 : (upd H l (.lst (kvs.map fun p => kV p.1))) l = some (.lst (kvs.map fun p => kV p.1)) := upd_same
    generalize upd H l (.lst (kvs.map fun p => kV p.1)) = H1 at s1 e1 ⊢
    have L1 := L.same s1
    have p1 : H1 p = some (.tup [.int ga, .int gb, ov lo, ov hi]) := s1 _ _ hp
    refine ⟨l, _, 0, _, rfl, rfl, SqL.of e1, atI_of (v := V.str nm) (n := 0) (by decide) rfl (by rw [List.getElem?_map, hkv]; rfl), ?_⟩
    refine ⟨_, rfl, _, rfl, dg, _, rfl, .inl ⟨kvs, Sum.inr nm, .inl (s1 _ _ hd), rfl, hvl.symm⟩, ?_⟩
    refine ⟨p, _, rfl, SqT.of p1, rfl, _, _, rfl, _, _, rfl, _, _, rfl, _, _, rfl, rfl, ?_⟩
    obtain ⟨dx, hx⟩ := L1.W.ob
    have bd : ∀ m ∈ gbs (ga, gb, lo, hi), m ∈ allB gs := fun m hm => allB_mem.mpr ⟨_, hmem, hm⟩
    apply restJ (C := fun H2 σ => ∃ g' : Gp, HouseAt cl.House H2 x dh n (gs ++ [(("against" : Str), g')]) ∧ But dh H1 H2 ∧ g'.1 = ga ∧ g'.2.1 = gb ∧ NegR (allB (gs ++ [(("against" : Str), g')])) ∧ ∃ u8, σ = [some (.ref x), some (.ref dg), some (.ref rp), some (.str nm), some (.int ga), some (.int gb), some (ov lo), some (ov hi), u8])
    · intro rest
      rcases opt_or lo with hlo | ⟨z, hlo⟩
      · rcases opt_or hi with hhi | ⟨z, hhi⟩
        · exact absurd ⟨hlo, hhi⟩ hno'
        · rw [hlo, hhi]
          refine ⟨_, rfl, rfl, _, rfl, iteF ?_⟩
          refine ⟨_, rfl, x, dx, _, rfl, hx, fldh_no _ _ (by decide +kernel) (by decide +kernel), _, rfl, _, rfl, _, rfl, _, _, rfl, rfl, x, dh, n, gs, "against", (ga, gb, some (z + 1), none), rfl, L1.W, hag, by omega, fun H2 W2 b2 => ?_⟩
          generalize hσ : (List.set _ _ _ : L2.St) = σ'
          refine rest H2 σ' ⟨_, W2, b2, rfl, rfl, ?_, _, by rw [← hσ, hlo, hhi]; rfl⟩
          refine ⟨ga, z + -(z + 1), by omega, .cons (x := gb) ?_ (.one ?_)⟩
          · rw [allB_app]; exact List.mem_append_left _ (bd _ (by rw [hlo, hhi]; simp [gbs, bnds, hiB, loB]))
          · rw [allB_app]; exact List.mem_append_right _ (List.mem_cons_self ..)
      · rw [hlo]
        refine ⟨_, rfl, rfl, _, rfl, iteT ?_⟩
        refine ⟨_, rfl, x, dx, _, rfl, hx, fldh_no _ _ (by decide +kernel) (by decide +kernel), _, rfl, _, rfl, _, rfl, _, _, rfl, rfl, x, dh, n, gs, "against", (ga, gb, none, some (z - 1)), rfl, L1.W, hag, by omega, fun H2 W2 b2 => ?_⟩
        refine rest H2 _ ⟨_, W2, b2, rfl, rfl, ?_, _, by rw [hlo]; rfl⟩
        refine ⟨ga, (z - 1) + -z, by omega, .cons (x := gb) ?_ (.one ?_)⟩
        · rw [allB_app]; exact List.mem_append_right _ (List.mem_cons_self ..)
        · rw [allB_app]; exact List.mem_append_left _ (bd _ (by rw [hlo]; rcases opt_or hi with hhi | ⟨y, hhi⟩ <;> rw [hhi] <;> simp [gbs, bnds, hiB, loB]))
    rintro H2 _ ⟨g', W2, b2, ea, eb, neg, u8, rfl⟩
    obtain ⟨kvh, he1, _⟩ := L1.W.dc
    have r2 := b2 _ _ (s1 _ _ hrp) (ne_of (s1 _ _ hrp) he1 (fun z => by cases z))
    have P2 : PairsAt H2 n qp := fun v hv => by
      obtain ⟨pp, x, y, e, hp, h1, h2⟩ := hP v hv
      have hp1 := s1 _ _ hp
      exact ⟨pp, x, y, e, b2 _ _ hp1 (ne_of hp1 he1 (fun z => by cases z)), h1, h2⟩
    have w2 : Within n (allB (gs ++ [(("against" : Str), g')])) := fun m hm => by
      rw [allB_app] at hm
      rcases List.mem_append.mp hm with hm | hm
      · exact L.within m hm
      · exact gbs_in (by rw [ea]; exact wa) (by rw [eb]; exact wb) m hm
    have nd2 : (gnames (gs ++ [(("against" : Str), g')])).Nodup := by
      unfold gnames
      rw [List.map_append]
      exact nd_snoc L.nd hag
    have ln2 : (gs ++ [(("against" : Str), g')]).length ≤ 64 := by rw [List.length_append]; show _ + 1 ≤ _; omega
    refine ⟨_, rfl, rp, rfl, ⟨_, SqL.of r2⟩, for_list (K := K) (a := rp) (xs := qp) (fun _ σ H3 => Same H2 H3 ∧ ∃ u8, σ = [some (.ref x), some (.ref dg), some (.ref rp), some (.str nm), some (.int ga), some (.int gb), some (ov lo), some (ov hi), u8]) ⟨same_refl _, _, rfl⟩ (fun i σ H3 _ ⟨s, _⟩ => SqL.of (s _ _ r2)) ?_ ?_⟩
    · rintro i vx σ H3 hi' ⟨s3, u8, rfl⟩
      obtain ⟨pp, a, b, rfl, hpp, ha, hb⟩ := P2 vx (List.mem_of_getElem? hi')
      have p3 := s3 _ _ hpp
      have W3 := W2.same s3
      obtain ⟨dx3, hx3⟩ := W3.ob
      refine ⟨_, rfl, x, dx3, _, rfl, hx3, fldh_no _ _ (by decide +kernel) (by decide +kernel), _, rfl, pp, _, 0, _, rfl, rfl, SqT.of p3, rfl, _, rfl, pp, _, 1, _, rfl, rfl, SqT.of p3, rfl, x, dh, n, _, a, b, rfl, W3, nd2, n1, n8, w2, ln2, ha, hb, fun v4 H4 s4 I4 => ?_⟩
      rcases I4 with ⟨rfl, _⟩ | ⟨t', R', _⟩
      · exact ⟨rfl, _, rfl, iteF ⟨s3.trans s4, _, rfl⟩⟩
      · exact absurd neg (R'.noneg w2)
    · rintro σ H3 ⟨s3, u8, rfl⟩
      have W3 := W2.same s3
      obtain ⟨dx3, hx3⟩ := W3.ob
      refine ⟨_, rfl, x, dx3, _, rfl, hx3, fldh_no _ _ (by decide +kernel) (by decide +kernel), x, dh, n, _, "against", rfl, W3, List.mem_map_of_mem (f := fun x : Str × Gp => x.1) (List.mem_append_right _ (List.mem_cons_self ..)), fun H4 W4 b4 => ?_⟩
      rw [gdrop_last hag] at W4
      have b14 : But dh H1 H4 := fun b o h nb => b4 _ _ (s3 _ _ (b2 _ _ h nb)) nb
      obtain ⟨kvs1, hd1, G1⟩ := L1.D
      have tp : ∀ p xs, H1 p = some (.tup xs) → H4 p = some (.tup xs) := fun p xs h => b14 _ _ h (ne_of h he1 (fun z => by cases z))
      refine q H4 ⟨W4, ⟨kvs1, b14 _ _ hd1 L.ne, G1.keep tp⟩, L.ne, L.nd, L.wi⟩ (b14 _ _ (s1 _ _ hrp) (ne_of (s1 _ _ hrp) he1 (fun z => by cases z))) fun v hv => ?_
      obtain ⟨pp, x, y, e, hp, h1, h2⟩ := hP v hv
      exact ⟨pp, x, y, e, tp _ _ (s1 _ _ hp), h1, h2⟩
theorem sc_law : FnScope ["_law_script", "_law_count", "_law_times_here", "_law_house", "_law_gaps", "_law_cells_here", "_law_k", "_law_cell_here", "_law_name", "_law_gap", "_law_pairs_here"] ["_law_script"] (defScope s_law) := ⟨rfl, rfl, rfl, by decide +kernel, rfl, by decide +kernel, by decide +kernel⟩
theorem ok_law {f : Addr} {fd : FuncData} (F : Fun K "law" "law" s_law f fd) (T : Txt K mg cl) (C_law_cell : Cal P w K mg base 1 "_law_cell" ["_law_script", "_law_k"] (sp_law_cell K)) (C_law_spread : Cal P w K mg base 1 "_law_spread" ["_law_cell_here", "_law_k"] (sp_law_spread K)) (C_law_times : Cal P w K mg base 2 "_law_times" ["_law_script", "_law_at", "_law_count"] (sp_law_times K)) (C_law_cells : Cal P w K mg base 2 "_law_cells" ["_law_script", "_law_at", "_law_most"] (sp_law_cells K)) (C_law_gap_round : Cal P w K mg base 1 "_law_gap_round" ["_law_cell_here", "_law_times_here", "_law_loose"] (sp_law_gap_round K)) (C_law_all_good : Cal P w K mg base 7 "_law_all_good" ["_law_house", "_law_gaps", "_law_pairs_here", "_law_count"] (sp_law_all_good K cl)) (C_law_pairs : Cal P w K mg base 2 "_law_pairs" ["_law_script", "_law_count", "_law_k"] (sp_law_pairs K)) (C_law_broken_good : Cal P w K mg base 7 "_law_broken_good" ["_law_house", "_law_gaps", "_law_pairs_here"] (sp_law_broken_good K cl)) (MK_House : MkCal P w K mg base cl.House 1 "House" ["self", "count"] (sp_House___init__ K cl)) (M_House_add : MCal P w K mg base cl.House 1 "add" ["self", "name", "a", "b", "low", "high"] (sp_House_add K cl)) (M_House_drop : MCal P w K mg base cl.House 2 "drop" ["self", "name"] (sp_House_drop K cl)) : FnOk P w K mg base CX0 8 f fd ["_law_script"] (sp_law K) := by
  refine F.ok sc_law (fun vs H Q E h => ?_) (fun cdv A outer s H vs Q E hr h => ?_)
  · obtain ⟨a, ns, rfl, hS, h63, q⟩ := h
    rfl
  · obtain ⟨a, ns, rfl, hS, h63, q⟩ := h
    refine ⟨_, (pss_cons (ps_set (i := 1) sc_law.nd rfl (Or.inl rfl) (pe_op op_add pe_int (pe_op op_mod (pec C_law_cell (hr.mono (by decide)) rfl (pa_cons (pv 0) (pa_cons pe_int pa_nil))) pe_int)))
      (pss_cons (ps_set (i := 2) sc_law.nd rfl (Or.inl rfl) (pec C_law_times (hr.mono (by decide)) rfl (pa_cons (pv 0) (pa_cons pe_int (pa_cons (pv 1) pa_nil)))))
      (pss_cons (ps_set (i := 3) sc_law.nd rfl (Or.inl rfl) (pe_make MK_House.mkd MK_House.ok (hr.mono (by decide)) rfl MK_House.mg MK_House.b .nil pass0 (pa_cons (pv 1) pa_nil)))
      (pss_cons (ps_set (i := 4) sc_law.nd rfl (Or.inl rfl) pe_dnewK)
      (pss_cons (ps_set (i := 5) sc_law.nd rfl (Or.inl rfl) (pec C_law_cells (hr.mono (by decide)) rfl (pa_cons (pv 0) (pa_cons pe_int (pa_cons pe_int pa_nil)))))
      (pss_cons (ps_for PassesOwn.never rfl (pi_range1 rfl T.z_range (pa_cons (pe_callB call_len_seq rfl T.z_len PySem.boot_len (pa_cons (pv 5) pa_nil)) pa_nil)) (pg_name (i := 6) sc_law.nd rfl (Or.inl rfl))
      (pss_cons (ps_set (i := 7) sc_law.nd rfl (Or.inl rfl) (pec C_law_spread (hr.mono (by decide)) rfl (pa_cons (pe_ix ix_list (pv 5) (pv 6) (fun _ _ => rfl)) (pa_cons (pv 6) pa_nil))))
      (pss_cons (ps_if (PW.pt (pw_and (pt_cmpR op_eq (pe_op op_mod (pv 7) pe_int) pe_int (nomark _)) (pw_and1 (pt_cmpR op_gt (pe_callB call_lenD rfl T.z_len PySem.boot_len (pa_cons (pv 4) pa_nil)) pe_int (nomark _)))))
      (pss_cons (ps_set (i := 8) sc_law.nd rfl (Or.inl rfl) (pe_ix ix_list (pe_callTy (call_listD rfl) rfl T.z_list boot_list (pa_cons (pv 4) pa_nil)) (pe_op op_mod (pe_op op_fdiv (pv 7) pe_int) (pe_callB call_lenD rfl T.z_len PySem.boot_len (pa_cons (pv 4) pa_nil))) (fun _ _ => rfl)))
      (pss_cons (ps_expr (pe_dpop1 (pv 4) (pv 8) ⟨rfl, rfl, rfl, rfl⟩))
      (pss_one (ps_expr (pe_meth (pv 3) T.cl_House M_House_drop.mt M_House_drop.ok (hr.mono (by decide)) M_House_drop.b .nil pass0 (pa_cons (pv 8) pa_nil))))))
      (pss_cons (ps_set (i := 9) sc_law.nd rfl (Or.inl rfl) (pec C_law_gap_round (hr.mono (by decide)) rfl (pa_cons (pe_op op_fdiv (pv 7) pe_int) (pa_cons (pv 2) (pa_cons pe_int pa_nil)))))
      (pss_cons (ps_set (i := 8) sc_law.nd rfl (Or.inl rfl) (pe_op op_add_str (pe_callTy call_str_int rfl T.z_str boot_str (pa_cons (pv 6) pa_nil)) pe_str))
      (pss_cons (ps_dput (hu1 hr) (pv 4) (pv 8) (pv 9) rfl)
      (pss_one (ps_expr (pe_meth (pv 3) T.cl_House M_House_add.mt M_House_add.ok (hr.mono (by decide)) M_House_add.b .nil pass0 (pa_consP (pv 8) (pa_consP (pe_ix ix_tup (pv 9) pe_int (fun _ _ => rfl)) (pa_consP (pe_ix ix_tup (pv 9) pe_int (fun _ _ => rfl)) (pa_consP (pe_ix ix_tup (pv 9) pe_int (fun _ _ => rfl)) (pa_consP (pe_ix ix_tup (pv 9) pe_int (fun _ _ => rfl)) pa_nil))))))))))))
      (pss_one (ps_if (PW.pt (pw_and (pt_cmpR op_eq (pe_op op_mod (pv 6) pe_int) pe_int (nomark _)) (pw_and1 (pt_not (pt_val (pec C_law_all_good (hr.mono (by decide)) rfl (pa_cons (pv 3) (pa_cons (pv 4) (pa_cons (pec C_law_pairs (hr.mono (by decide)) rfl (pa_cons (pv 0) (pa_cons (pv 1) (pa_cons (pv 6) pa_nil)))) (pa_cons (pv 1) pa_nil))))))))))
      (pss_one (ps_ret pe_bl))
      pss_nil)))))
      (pss_cons (ps_set (i := 10) sc_law.nd rfl (Or.inl rfl) (pec C_law_pairs (hr.mono (by decide)) rfl (pa_cons (pv 0) (pa_cons (pv 1) (pa_cons pe_int pa_nil)))))
      (pss_cons (ps_if (PW.pt (pw_and (pt_cmpR op_gt (pe_callB call_lenD rfl T.z_len PySem.boot_len (pa_cons (pv 4) pa_nil)) pe_int (nomark _)) (pw_and1 (pt_not (pt_val (pec C_law_broken_good (hr.mono (by decide)) rfl (pa_cons (pv 3) (pa_cons (pv 4) (pa_cons (pv 10) pa_nil)))))))))
      (pss_one (ps_ret pe_bl))
      pss_nil)
      (pss_one (ps_ret (pec C_law_all_good (hr.mono (by decide)) rfl (pa_cons (pv 3) (pa_cons (pv 4) (pa_cons (pv 10) (pa_cons (pv 1) pa_nil))))))))))))))), ?_⟩
    refine ⟨_, rfl, a, ns, 0, rfl, hS, h63, by decide, by decide, fun c0 => ⟨_, _, rfl, rfl, (by show (0 : Int) < 7; decide), _, _, rfl, rfl, ?_⟩⟩
    dsimp only
    obtain ⟨n, en, n1, n8⟩ : ∃ n : Nat, 1 + c0 % 7 = (n : Int) ∧ 1 ≤ n ∧ n ≤ 8 := ⟨(1 + c0 % 7).toNat, by omega, by omega, by omega⟩
    rw [en]
    refine ⟨_, rfl, _, rfl, a, ns, 2, n, rfl, hS, h63, by decide, by decide, by omega, by omega, fun t H1 ts s1 l1 e1 => ?_⟩
    have ln : ts.length = n := by omega
    refine ⟨_, rfl, fun x dx nx ndx ne => ⟨x, dx, n, rfl, upd_same, fun dh H2 W2 b2 hdn => ⟨rfl, ?_⟩⟩⟩
    have s2 : Same H1 H2 := fun b o h => b2 _ _ (by rw [upd_ne (ne_of_none h nx), upd_ne (ne_of_none h ndx)]; exact h) (ne_of_none h nx)
    intro dg hdg
    have s3 := same_new hdg (.dK [])
    have e3 : (upd H2 dg (.dK [])) dg = some (.dK []) := upd_same
    obtain ⟨kvh, he2, _⟩ := W2.dc
    have ndd : dg ≠ dh := Ne.symm (ne_of_none he2 hdg)
    generalize upd H2 dg (.dK []) = H3 at s3 e3 ⊢
    have s13 := s2.trans s3
    refine ⟨_, rfl, a, ns, 9, 14, rfl, (s1.trans s13).seq hS, h63, by decide, by decide, by decide, fun rc H4 zs s4 e4 l4 l63 => ?_⟩
    have hlz : (zs.map V.int).length = zs.length := List.length_map _
    have L4 : HG cl H4 n x dh dg [] := ⟨(W2.same s3).same s4, ⟨[], s4 _ _ e3, .nil⟩, ndd, .nil, fun g h => (nomatch h)⟩
    have S4 := (s1.trans (s13.trans s4)).seq hS
    refine ⟨_, rfl, rc, _, rfl, .inl (SqL.of e4), _, rfl, by omega, by omega, for_range (lo := 0) (n := (((zs.map V.int).length : Nat) : Int).toNat) (fun i σ H5 => ∃ gs, HG cl H5 n x dh dg gs ∧ GOk i ts gs ∧ H5 t = some (.tup (ts.map V.int)) ∧ H5 rc = some (.lst (zs.map V.int)) ∧ SqL K H5 a (ns.map V.int) ∧ ∃ u6 u7 u8 u9 u10, σ = [some (.ref a), some (.int n), some (.ref t), some (.ref x), some (.ref dg), some (.ref rc), u6, u7, u8, u9, u10])
      ⟨[], L4, ⟨Nat.le_refl _, fun g h => (nomatch h), fun g h => (nomatch h), fun g h => (nomatch h)⟩, s4 _ _ (s13 _ _ e1), e4, S4, _, _, _, _, _, rfl⟩ ?_ ?_⟩
    · rintro i σ H5 hi ⟨gs, L, gok, te, re, S5, u6, u7, u8, u9, u10, rfl⟩
      have hi' : i < zs.length := by rw [hlz] at hi; simpa using hi
      have i63 : i < 63 := by omega
      have hlen := gok.len
      obtain ⟨kvs, hd, G⟩ := L.D
      have glen := G.len
      refine ⟨_, rfl, _, rfl, rc, _, _, _, rfl, rfl, SqL.of re, at_int (i := 0 + (i : Int)) (by omega) (by omega), _, rfl, _, _, rfl, by omega, by omega, fun c => ?_⟩
      apply restJ (C := fun H6 σ => ∃ gs', HG cl H6 n x dh dg gs' ∧ GOk (i + 1) ts gs' ∧ H6 t = some (.tup (ts.map V.int)) ∧ H6 rc = some (.lst (zs.map V.int)) ∧ SqL K H6 a (ns.map V.int) ∧ ∃ u8 u9, σ = [some (.ref a), some (.int n), some (.ref t), some (.ref x), some (.ref dg), some (.ref rc), some (.int (0 + (i : Int))), some (.int c), u8, u9, u10])
      · intro rest
        apply restJ (C := fun H6 σ => H6 = H5 ∧ σ = [some (.ref a), some (.int n), some (.ref t), some (.ref x), some (.ref dg), some (.ref rc), some (.int (0 + (i : Int))), some (.int c), u8, u9, u10])
        · intro els
          refine ⟨_, rfl, _, _, rfl, rfl, (by show (0 : Int) < 5; decide), rfl, _, rfl, ?_⟩
          refine ite2 (fun c1 => ?_) (fun c1 => ?_)
          · refine ⟨_, rfl, dg, kvs, rfl, .inl hd, _, _, rfl, rfl, _, rfl, ?_⟩
            refine ite2 (fun c2 => ?_) (fun c2 => ?_)
            · have c2' : 0 < ((kvs.length : Nat) : Int) := of_decide_eq_true c2
              have j0 := Int.emod_nonneg (c / 5) (b := ((kvs.length : Nat) : Int)) (by omega)
              have j1 := Int.emod_lt_of_pos (c / 5) c2'
              obtain ⟨⟨k, v⟩, hkv⟩ : ∃ p, kvs[(c / 5 % ((kvs.length : Nat) : Int)).toNat]? = some p := ⟨_, List.getElem?_eq_getElem (by omega)⟩
              obtain ⟨⟨nm, g⟩, hg, hk, p, hv, hp⟩ := paired_get G hkv
              have hv : v = .ref p := hv
              have hk : k = Sum.inr nm := hk
              subst hv hk
              have hvl := valV_get (G.nodup L.nd) hkv
              have hmem : nm ∈ gnames gs := List.mem_map_of_mem (f := fun x : Str × Gp => x.1) (List.mem_of_getElem? hg)
              refine ⟨_, rfl, dg, kvs, rfl, .inl hd, fun l hl => ?_⟩
              have s6 := same_new hl (.lst (kvs.map fun p => kV p.1))
              have e6 : (upd H5 l (.lst (kvs.map fun p => kV p.1))) l = some (.lst (kvs.map fun p => kV p.1)) := upd_same
              generalize upd H5 l (.lst (kvs.map fun p => kV p.1)) = H6 at s6 e6 ⊢
              have hd6 := s6 _ _ hd
              have L6 := L.same s6
              refine ⟨_, rfl, _, _, rfl, rfl, ⟨by decide, by decide⟩, _, rfl, dg, kvs, rfl, .inl hd6, _, _, rfl, rfl, c2', l, _, _, _, rfl, rfl, SqL.of e6, atI_of (v := V.str nm) j0 rfl (by rw [List.getElem?_map, hkv]; rfl), ?_⟩
              refine ⟨_, rfl, dg, rfl, .inl ⟨_, .inl hd6⟩, _, rfl, kvs, Sum.inr nm, _, hd6, rfl, hvl, ?_⟩
              generalize e7 : upd H6 dg (.dK (dropK kvs (Sum.inr nm))) = H7
              have b7 : But dg H6 H7 := fun b o h nb => by rw [← e7, upd_ne nb]; exact h
              have W7 := L6.W.but b7 hd6 (Ne.symm L.ne)
              obtain ⟨dx7, hx7⟩ := W7.ob
              refine ⟨_, rfl, x, dx7, _, rfl, hx7, fldh_no _ _ (by decide +kernel) (by decide +kernel), _, rfl, x, dh, n, gs, nm, rfl, W7, hmem, fun H8 W8 b8 => ?_⟩
              have b68 : But2h dg dh H6 H8 := fun b o h na nb => b8 _ _ (b7 _ _ h na) nb
              generalize hσ : (List.set _ _ _ : L2.St) = σ'
              exact rest H8 σ' ⟨_, L6.drop (G.same s6) (b8 _ _ (by rw [← e7]; exact upd_same) L.ne) b68 W8, gok.drop nm, L6.tup b68 _ _ (s6 _ _ te), L6.lst b68 _ _ (s6 _ _ re), L6.seq b68 (s6.seq S5), _, _, by rw [← hσ]; rfl⟩
            · generalize hσ : (List.set _ _ _ : L2.St) = σ'
              generalize hH : H5 = Hx
              exact els Hx σ' ⟨hH.symm, by rw [← hσ]; rfl⟩
          · refine iteF ?_
            exact els _ _ ⟨rfl, rfl⟩
        · rintro H6 _ ⟨rfl, rfl⟩
          refine ⟨_, rfl, _, _, rfl, rfl, ⟨by decide, by decide⟩, _, rfl, _, _, t, ts, rfl, SqT.of te, by omega, by omega, fun p g hp ha hb hno hkp => ?_⟩
          rw [ln] at ha hb
          have s7 := same_new hp (.tup (gv g))
          have e7 : (upd H6 p (.tup (gv g))) p = some (.tup [.int g.1, .int g.2.1, ov g.2.2.1, ov g.2.2.2]) := upd_same
          generalize upd H6 p (.tup (gv g)) = H7 at s7 e7 ⊢
          have hd7 := s7 _ _ hd
          have L7 := L.same s7
          have hnew := gok.new i63
          refine ⟨_, rfl, _, rfl, (name_ok i i63).1, _, _, rfl, rfl, (name_ok i i63).2, ?_⟩
          refine ⟨_, rfl, _, rfl, _, rfl, dg, _, rfl, DPut.k (k := Sum.inr (nameOf i)) hd7 (small1000 (by omega)), ?_⟩
          rw [putK_new _ (G.val_none hnew)]
          generalize e8 : upd H7 dg (.dK (kvs ++ [(Sum.inr (nameOf i), .ref p)])) = H8
          have b8 : But dg H7 H8 := fun b o h nb => by rw [← e8, upd_ne nb]; exact h
          have W8 := L7.W.but b8 hd7 (Ne.symm L.ne)
          have p8 := b8 _ _ e7 (ne_of e7 hd7 (fun z => by cases z))
          obtain ⟨dx8, hx8⟩ := W8.ob
          refine ⟨_, rfl, x, dx8, _, rfl, hx8, fldh_no _ _ (by decide +kernel) (by decide +kernel), _, rfl, _, rfl, p, _, 0, _, rfl, rfl, SqT.of p8, rfl, _, rfl, p, _, 1, _, rfl, rfl, SqT.of p8, rfl, _, rfl, p, _, 2, _, rfl, rfl, SqT.of p8, rfl, _, rfl, p, _, 3, _, rfl, rfl, SqT.of p8, rfl,
            x, dh, n, gs, nameOf i, g, rfl, W8, hnew, by omega, fun H9 W9 b9 => ?_⟩
          have b79 : But2h dg dh H7 H9 := fun b o h na nb => b9 _ _ (b8 _ _ h na) nb
          exact rest H9 _ ⟨_, L7.add (G.same s7) hnew e7 ha hb (b9 _ _ (by rw [← e8]; exact upd_same) L.ne) b79 W9, gok.add (hkp (by decide)) hno, L7.tup b79 _ _ (s7 _ _ te), L7.lst b79 _ _ (s7 _ _ re), L7.seq b79 (s7.seq S5), _, _, rfl⟩
      rintro H6 _ ⟨gs', L6, gok6, te6, re6, S6, v8, v9, rfl⟩
      have hl6 := gok6.len
      refine ⟨_, rfl, _, _, rfl, rfl, (by show (0 : Int) < 3; decide), rfl, _, rfl, ?_⟩
      refine ite2 (fun _ => ?_) (fun _ => ?_)
      · refine ⟨_, rfl, _, rfl, _, rfl, _, rfl, _, rfl, a, ns, n, i, by rw [Int.zero_add]; rfl, S6, h63, n1, by omega, fun rp H7 qp s7 e7 P7 => ?_⟩
        refine ⟨_, rfl, x, dh, dg, rp, n, gs', qp, rfl, L6.same s7, e7, P7, n1, n8, by omega, gok6.noneg, fun H8 s8 => ⟨_, rfl, iteF ?_⟩⟩
        have s78 := s7.trans s8
        exact ⟨gs', L6.same s78, gok6, s78 _ _ te6, s78 _ _ re6, s78.seq S6, _, _, _, _, _, rfl⟩
      · exact iteF ⟨gs', L6, gok6, te6, re6, S6, _, _, _, _, _, rfl⟩
    · rintro σ H5 ⟨gs, L, gok, te, re, S5, u6, u7, u8, u9, u10, rfl⟩
      have hlen := gok.len
      have hzl : (((zs.map V.int).length : Nat) : Int).toNat ≤ 63 := by rw [hlz]; omega
      obtain ⟨kvs, hd, G⟩ := L.D
      have glen := G.len
      refine ⟨_, rfl, _, rfl, a, ns, n, 1, rfl, S5, h63, n1, by decide, fun rp H6 qp s6 e6 P6 => ?_⟩
      have L6 := L.same s6
      refine ⟨_, rfl, dg, kvs, rfl, .inl (s6 _ _ hd), _, _, rfl, rfl, _, rfl, ?_⟩
      refine ite2 (fun c => ?_) (fun _ => ?_)
      · have c' : 0 < ((kvs.length : Nat) : Int) := of_decide_eq_true c
        refine ⟨_, rfl, _, rfl, _, rfl, x, dh, dg, rp, n, gs, qp, rfl, L6, e6, P6, n1, n8, by omega, by omega, gok.ag hzl, gok.no, fun H7 L7 e7 P7 => ⟨_, rfl, iteF ?_⟩⟩
        exact ⟨_, rfl, _, rfl, _, rfl, _, rfl, x, dh, dg, rp, n, gs, qp, rfl, L7, e7, P7, n1, n8, by omega, gok.noneg, fun H8 _ => q H8⟩
      · exact iteF ⟨_, rfl, _, rfl, _, rfl, _, rfl, x, dh, dg, rp, n, gs, qp, rfl, L6, e6, P6, n1, n8, by omega, gok.noneg, fun H8 _ => q H8⟩
end
theorem all_mk {l : PySem.W.OpenLaw} {w : World} {K : PySem.W.Frag} {h : Heap} {mg : Str → Option Value} {fa : Addr} (X : K.In h) (G : h.Ns mainGlobals mg) (hfa : mg "law" = some (.ref fa))
    {f1 : Addr} {od1 an1 : Option Addr} {sl1 : Array (Option Value)} {oc1 kV1 dc1 pm1 cd1 ct1 : Value}
    {f2 : Addr} {od2 an2 : Option Addr} {sl2 : Array (Option Value)} {oc2 kV2 dc2 pm2 cd2 ct2 : Value}
    {f3 : Addr} {od3 an3 : Option Addr} {sl3 : Array (Option Value)} {oc3 kV3 dc3 pm3 cd3 ct3 : Value}
    {f4 : Addr} {od4 an4 : Option Addr} {sl4 : Array (Option Value)} {oc4 kV4 dc4 pm4 cd4 ct4 : Value}
    {f5 : Addr} {od5 an5 : Option Addr} {sl5 : Array (Option Value)} {oc5 kV5 dc5 pm5 cd5 ct5 : Value}
    {f6 : Addr} {od6 an6 : Option Addr} {sl6 : Array (Option Value)} {oc6 kV6 dc6 pm6 cd6 ct6 : Value}
    {f7 : Addr} {od7 an7 : Option Addr} {sl7 : Array (Option Value)} {oc7 kV7 dc7 pm7 cd7 ct7 : Value}
    {f8 : Addr} {od8 an8 : Option Addr} {sl8 : Array (Option Value)} {oc8 kV8 dc8 pm8 cd8 ct8 : Value}
    {f9 : Addr} {od9 an9 : Option Addr} {sl9 : Array (Option Value)} {oc9 kV9 dc9 pm9 cd9 ct9 : Value}
    {f10 : Addr} {od10 an10 : Option Addr} {sl10 : Array (Option Value)} {oc10 kV10 dc10 pm10 cd10 ct10 : Value}
    {f11 : Addr} {od11 an11 : Option Addr} {sl11 : Array (Option Value)} {oc11 kV11 dc11 pm11 cd11 ct11 : Value}
    {f12 : Addr} {od12 an12 : Option Addr} {sl12 : Array (Option Value)} {oc12 kV12 dc12 pm12 cd12 ct12 : Value}
    {f13 : Addr} {od13 an13 : Option Addr} {sl13 : Array (Option Value)} {oc13 kV13 dc13 pm13 cd13 ct13 : Value}
    {f14 : Addr} {od14 an14 : Option Addr} {sl14 : Array (Option Value)} {oc14 kV14 dc14 pm14 cd14 ct14 : Value}
    {f15 : Addr} {od15 an15 : Option Addr} {sl15 : Array (Option Value)} {oc15 kV15 dc15 pm15 cd15 ct15 : Value}
    {f16 : Addr} {od16 an16 : Option Addr} {sl16 : Array (Option Value)} {oc16 kV16 dc16 pm16 cd16 ct16 : Value}
    {f17 : Addr} {od17 an17 : Option Addr} {sl17 : Array (Option Value)} {oc17 kV17 dc17 pm17 cd17 ct17 : Value}
    {f18 : Addr} {od18 an18 : Option Addr} {sl18 : Array (Option Value)} {oc18 kV18 dc18 pm18 cd18 ct18 : Value}
    {f19 : Addr} {od19 an19 : Option Addr} {sl19 : Array (Option Value)} {oc19 kV19 dc19 pm19 cd19 ct19 : Value}
    {f20 : Addr} {od20 an20 : Option Addr} {sl20 : Array (Option Value)} {oc20 kV20 dc20 pm20 cd20 ct20 : Value}
    {f21 : Addr} {od21 an21 : Option Addr} {sl21 : Array (Option Value)} {oc21 kV21 dc21 pm21 cd21 ct21 : Value}
    {f22 : Addr} {od22 an22 : Option Addr} {sl22 : Array (Option Value)} {oc22 kV22 dc22 pm22 cd22 ct22 : Value}
    {f23 : Addr} {od23 an23 : Option Addr} {sl23 : Array (Option Value)} {oc23 kV23 dc23 pm23 cd23 ct23 : Value}
    {f24 : Addr} {od24 an24 : Option Addr} {sl24 : Array (Option Value)} {oc24 kV24 dc24 pm24 cd24 ct24 : Value}
    {f25 : Addr} {od25 an25 : Option Addr} {sl25 : Array (Option Value)} {oc25 kV25 dc25 pm25 cd25 ct25 : Value}
    {f26 : Addr} {od26 an26 : Option Addr} {sl26 : Array (Option Value)} {oc26 kV26 dc26 pm26 cd26 ct26 : Value}
    {f27 : Addr} {od27 an27 : Option Addr} {sl27 : Array (Option Value)} {oc27 kV27 dc27 pm27 cd27 ct27 : Value}
    {f28 : Addr} {od28 an28 : Option Addr} {sl28 : Array (Option Value)} {oc28 kV28 dc28 pm28 cd28 ct28 : Value}
    {f29 : Addr} {od29 an29 : Option Addr} {sl29 : Array (Option Value)} {oc29 kV29 dc29 pm29 cd29 ct29 : Value}
    {f30 : Addr} {od30 an30 : Option Addr} {sl30 : Array (Option Value)} {oc30 kV30 dc30 pm30 cd30 ct30 : Value}
    {f31 : Addr} {od31 an31 : Option Addr} {sl31 : Array (Option Value)} {oc31 kV31 dc31 pm31 cd31 ct31 : Value}
    {f32 : Addr} {od32 an32 : Option Addr} {sl32 : Array (Option Value)} {oc32 kV32 dc32 pm32 cd32 ct32 : Value}
    {f33 : Addr} {od33 an33 : Option Addr} {sl33 : Array (Option Value)} {oc33 kV33 dc33 pm33 cd33 ct33 : Value} {T33 : Addr} {ot33 : Value} {odt33 : Option Addr} {nt33 : Nat} {slt33 : Array (Option Value)}
    {f34 : Addr} {od34 an34 : Option Addr} {sl34 : Array (Option Value)} {oc34 kV34 dc34 pm34 cd34 ct34 : Value}
    {f35 : Addr} {od35 an35 : Option Addr} {sl35 : Array (Option Value)} {oc35 kV35 dc35 pm35 cd35 ct35 : Value}
    {f36 : Addr} {od36 an36 : Option Addr} {sl36 : Array (Option Value)} {oc36 kV36 dc36 pm36 cd36 ct36 : Value}
    {f37 : Addr} {od37 an37 : Option Addr} {sl37 : Array (Option Value)} {oc37 kV37 dc37 pm37 cd37 ct37 : Value}
    {ca1 : Addr} (g1 : PySem.W.nsIn K mainGlobals "WaitError" = some (some (.ref ca1)))
    {ca2 : Addr} (g2 : PySem.W.nsIn K mainGlobals "NoName" = some (some (.ref ca2)))
    {ca3 : Addr} (g3 : PySem.W.nsIn K mainGlobals "House" = some (some (.ref ca3)))
    (a1 : PySem.W.nsIn K mainGlobals "bounds_of" = some (some (.ref f1))) (l1 : K.lookup f1 = some ⟨oc1, od1, .func (PySem.W.fnOf "bounds_of" "bounds_of" (defArgs s_bounds_of) (defBody s_bounds_of) (defScope s_bounds_of) .none kV1 dc1 pm1 an1 cd1 ct1), sl1⟩) (c1 : PySem.W.codeIn K cd1 "bounds_of" = true) (k1 : PySem.W.keepIn K (.ref f1) = true)
    (a2 : PySem.W.nsIn K mainGlobals "wide" = some (some (.ref f2))) (l2 : K.lookup f2 = some ⟨oc2, od2, .func (PySem.W.fnOf "wide" "wide" (defArgs s_wide) (defBody s_wide) (defScope s_wide) .none kV2 dc2 pm2 an2 cd2 ct2), sl2⟩) (c2 : PySem.W.codeIn K cd2 "wide" = true) (k2 : PySem.W.keepIn K (.ref f2) = true)
    (a3 : PySem.W.nsIn K mainGlobals "wide_row" = some (some (.ref f3))) (l3 : K.lookup f3 = some ⟨oc3, od3, .func (PySem.W.fnOf "wide_row" "wide_row" (defArgs s_wide_row) (defBody s_wide_row) (defScope s_wide_row) .none kV3 dc3 pm3 an3 cd3 ct3), sl3⟩) (c3 : PySem.W.codeIn K cd3 "wide_row" = true) (k3 : PySem.W.keepIn K (.ref f3) = true)
    (a4 : PySem.W.nsIn K mainGlobals "table_of" = some (some (.ref f4))) (l4 : K.lookup f4 = some ⟨oc4, od4, .func (PySem.W.fnOf "table_of" "table_of" (defArgs s_table_of) (defBody s_table_of) (defScope s_table_of) .none kV4 dc4 pm4 an4 cd4 ct4), sl4⟩) (c4 : PySem.W.codeIn K cd4 "table_of" = true) (k4 : PySem.W.keepIn K (.ref f4) = true)
    (a5 : PySem.W.nsIn K mainGlobals "held" = some (some (.ref f5))) (l5 : K.lookup f5 = some ⟨oc5, od5, .func (PySem.W.fnOf "held" "held" (defArgs s_held) (defBody s_held) (defScope s_held) .none kV5 dc5 pm5 an5 cd5 ct5), sl5⟩) (c5 : PySem.W.codeIn K cd5 "held" = true) (k5 : PySem.W.keepIn K (.ref f5) = true)
    (a6 : PySem.W.nsIn K mainGlobals "shuts" = some (some (.ref f6))) (l6 : K.lookup f6 = some ⟨oc6, od6, .func (PySem.W.fnOf "shuts" "shuts" (defArgs s_shuts) (defBody s_shuts) (defScope s_shuts) .none kV6 dc6 pm6 an6 cd6 ct6), sl6⟩) (c6 : PySem.W.codeIn K cd6 "shuts" = true) (k6 : PySem.W.keepIn K (.ref f6) = true)
    (a7 : PySem.W.nsIn K mainGlobals "held_row" = some (some (.ref f7))) (l7 : K.lookup f7 = some ⟨oc7, od7, .func (PySem.W.fnOf "held_row" "held_row" (defArgs s_held_row) (defBody s_held_row) (defScope s_held_row) .none kV7 dc7 pm7 an7 cd7 ct7), sl7⟩) (c7 : PySem.W.codeIn K cd7 "held_row" = true) (k7 : PySem.W.keepIn K (.ref f7) = true)
    (a8 : PySem.W.nsIn K mainGlobals "total" = some (some (.ref f8))) (l8 : K.lookup f8 = some ⟨oc8, od8, .func (PySem.W.fnOf "total" "total" (defArgs s_total) (defBody s_total) (defScope s_total) .none kV8 dc8 pm8 an8 cd8 ct8), sl8⟩) (c8 : PySem.W.codeIn K cd8 "total" = true) (k8 : PySem.W.keepIn K (.ref f8) = true)
    (a9 : PySem.W.nsIn K mainGlobals "lesser" = some (some (.ref f9))) (l9 : K.lookup f9 = some ⟨oc9, od9, .func (PySem.W.fnOf "lesser" "lesser" (defArgs s_lesser) (defBody s_lesser) (defScope s_lesser) .none kV9 dc9 pm9 an9 cd9 ct9), sl9⟩) (c9 : PySem.W.codeIn K cd9 "lesser" = true) (k9 : PySem.W.keepIn K (.ref f9) = true)
    (a10 : PySem.W.nsIn K mainGlobals "chain" = some (some (.ref f10))) (l10 : K.lookup f10 = some ⟨oc10, od10, .func (PySem.W.fnOf "chain" "chain" (defArgs s_chain) (defBody s_chain) (defScope s_chain) .none kV10 dc10 pm10 an10 cd10 ct10), sl10⟩) (c10 : PySem.W.codeIn K cd10 "chain" = true) (k10 : PySem.W.keepIn K (.ref f10) = true)
    (a11 : PySem.W.nsIn K mainGlobals "search" = some (some (.ref f11))) (l11 : K.lookup f11 = some ⟨oc11, od11, .func (PySem.W.fnOf "search" "search" (defArgs s_search) (defBody s_search) (defScope s_search) .none kV11 dc11 pm11 an11 cd11 ct11), sl11⟩) (c11 : PySem.W.codeIn K cd11 "search" = true) (k11 : PySem.W.keepIn K (.ref f11) = true)
    (a12 : PySem.W.nsIn K mainGlobals "first_ways" = some (some (.ref f12))) (l12 : K.lookup f12 = some ⟨oc12, od12, .func (PySem.W.fnOf "first_ways" "first_ways" (defArgs s_first_ways) (defBody s_first_ways) (defScope s_first_ways) .none kV12 dc12 pm12 an12 cd12 ct12), sl12⟩) (c12 : PySem.W.codeIn K cd12 "first_ways" = true) (k12 : PySem.W.keepIn K (.ref f12) = true)
    (a13 : PySem.W.nsIn K mainGlobals "narrowed" = some (some (.ref f13))) (l13 : K.lookup f13 = some ⟨oc13, od13, .func (PySem.W.fnOf "narrowed" "narrowed" (defArgs s_narrowed) (defBody s_narrowed) (defScope s_narrowed) .none kV13 dc13 pm13 an13 cd13 ct13), sl13⟩) (c13 : PySem.W.codeIn K cd13 "narrowed" = true) (k13 : PySem.W.keepIn K (.ref f13) = true)
    (a14 : PySem.W.nsIn K mainGlobals "led" = some (some (.ref f14))) (l14 : K.lookup f14 = some ⟨oc14, od14, .func (PySem.W.fnOf "led" "led" (defArgs s_led) (defBody s_led) (defScope s_led) .none kV14 dc14 pm14 an14 cd14 ct14), sl14⟩) (c14 : PySem.W.codeIn K cd14 "led" = true) (k14 : PySem.W.keepIn K (.ref f14) = true)
    (a15 : PySem.W.nsIn K mainGlobals "by_way" = some (some (.ref f15))) (l15 : K.lookup f15 = some ⟨oc15, od15, .func (PySem.W.fnOf "by_way" "by_way" (defArgs s_by_way) (defBody s_by_way) (defScope s_by_way) .none kV15 dc15 pm15 an15 cd15 ct15), sl15⟩) (c15 : PySem.W.codeIn K cd15 "by_way" = true) (k15 : PySem.W.keepIn K (.ref f15) = true)
    (a16 : PySem.W.nsIn K mainGlobals "all_bounds" = some (some (.ref f16))) (l16 : K.lookup f16 = some ⟨oc16, od16, .func (PySem.W.fnOf "all_bounds" "all_bounds" (defArgs s_all_bounds) (defBody s_all_bounds) (defScope s_all_bounds) .none kV16 dc16 pm16 an16 cd16 ct16), sl16⟩) (c16 : PySem.W.codeIn K cd16 "all_bounds" = true) (k16 : PySem.W.keepIn K (.ref f16) = true)
    (a17 : PySem.W.nsIn K mainGlobals "all_bound_names" = some (some (.ref f17))) (l17 : K.lookup f17 = some ⟨oc17, od17, .func (PySem.W.fnOf "all_bound_names" "all_bound_names" (defArgs s_all_bound_names) (defBody s_all_bound_names) (defScope s_all_bound_names) .none kV17 dc17 pm17 an17 cd17 ct17), sl17⟩) (c17 : PySem.W.codeIn K cd17 "all_bound_names" = true) (k17 : PySem.W.keepIn K (.ref f17) = true)
    (a18 : PySem.W.nsIn K mainGlobals "ends_of" = some (some (.ref f18))) (l18 : K.lookup f18 = some ⟨oc18, od18, .func (PySem.W.fnOf "ends_of" "ends_of" (defArgs s_ends_of) (defBody s_ends_of) (defScope s_ends_of) .none kV18 dc18 pm18 an18 cd18 ct18), sl18⟩) (c18 : PySem.W.codeIn K cd18 "ends_of" = true) (k18 : PySem.W.keepIn K (.ref f18) = true)
    (a19 : PySem.W.nsIn K mainGlobals "names_at" = some (some (.ref f19))) (l19 : K.lookup f19 = some ⟨oc19, od19, .func (PySem.W.fnOf "names_at" "names_at" (defArgs s_names_at) (defBody s_names_at) (defScope s_names_at) .none kV19 dc19 pm19 an19 cd19 ct19), sl19⟩) (c19 : PySem.W.codeIn K cd19 "names_at" = true) (k19 : PySem.W.keepIn K (.ref f19) = true)
    (a20 : PySem.W.nsIn K mainGlobals "_law_cell" = some (some (.ref f20))) (l20 : K.lookup f20 = some ⟨oc20, od20, .func (PySem.W.fnOf "_law_cell" "_law_cell" (defArgs s_law_cell) (defBody s_law_cell) (defScope s_law_cell) .none kV20 dc20 pm20 an20 cd20 ct20), sl20⟩) (c20 : PySem.W.codeIn K cd20 "_law_cell" = true) (k20 : PySem.W.keepIn K (.ref f20) = true)
    (a21 : PySem.W.nsIn K mainGlobals "_law_spread" = some (some (.ref f21))) (l21 : K.lookup f21 = some ⟨oc21, od21, .func (PySem.W.fnOf "_law_spread" "_law_spread" (defArgs s_law_spread) (defBody s_law_spread) (defScope s_law_spread) .none kV21 dc21 pm21 an21 cd21 ct21), sl21⟩) (c21 : PySem.W.codeIn K cd21 "_law_spread" = true) (k21 : PySem.W.keepIn K (.ref f21) = true)
    (a22 : PySem.W.nsIn K mainGlobals "_law_big" = some (some (.ref f22))) (l22 : K.lookup f22 = some ⟨oc22, od22, .func (PySem.W.fnOf "_law_big" "_law_big" (defArgs s_law_big) (defBody s_law_big) (defScope s_law_big) .none kV22 dc22 pm22 an22 cd22 ct22), sl22⟩) (c22 : PySem.W.codeIn K cd22 "_law_big" = true) (k22 : PySem.W.keepIn K (.ref f22) = true)
    (a23 : PySem.W.nsIn K mainGlobals "_law_times" = some (some (.ref f23))) (l23 : K.lookup f23 = some ⟨oc23, od23, .func (PySem.W.fnOf "_law_times" "_law_times" (defArgs s_law_times) (defBody s_law_times) (defScope s_law_times) .none kV23 dc23 pm23 an23 cd23 ct23), sl23⟩) (c23 : PySem.W.codeIn K cd23 "_law_times" = true) (k23 : PySem.W.keepIn K (.ref f23) = true)
    (a24 : PySem.W.nsIn K mainGlobals "_law_cells" = some (some (.ref f24))) (l24 : K.lookup f24 = some ⟨oc24, od24, .func (PySem.W.fnOf "_law_cells" "_law_cells" (defArgs s_law_cells) (defBody s_law_cells) (defScope s_law_cells) .none kV24 dc24 pm24 an24 cd24 ct24), sl24⟩) (c24 : PySem.W.codeIn K cd24 "_law_cells" = true) (k24 : PySem.W.keepIn K (.ref f24) = true)
    (a25 : PySem.W.nsIn K mainGlobals "_law_gap_round" = some (some (.ref f25))) (l25 : K.lookup f25 = some ⟨oc25, od25, .func (PySem.W.fnOf "_law_gap_round" "_law_gap_round" (defArgs s_law_gap_round) (defBody s_law_gap_round) (defScope s_law_gap_round) .none kV25 dc25 pm25 an25 cd25 ct25), sl25⟩) (c25 : PySem.W.codeIn K cd25 "_law_gap_round" = true) (k25 : PySem.W.keepIn K (.ref f25) = true)
    (a26 : PySem.W.nsIn K mainGlobals "_law_ends" = some (some (.ref f26))) (l26 : K.lookup f26 = some ⟨oc26, od26, .func (PySem.W.fnOf "_law_ends" "_law_ends" (defArgs s_law_ends) (defBody s_law_ends) (defScope s_law_ends) .none kV26 dc26 pm26 an26 cd26 ct26), sl26⟩) (c26 : PySem.W.codeIn K cd26 "_law_ends" = true) (k26 : PySem.W.keepIn K (.ref f26) = true)
    (a27 : PySem.W.nsIn K mainGlobals "_law_good" = some (some (.ref f27))) (l27 : K.lookup f27 = some ⟨oc27, od27, .func (PySem.W.fnOf "_law_good" "_law_good" (defArgs s_law_good) (defBody s_law_good) (defScope s_law_good) .none kV27 dc27 pm27 an27 cd27 ct27), sl27⟩) (c27 : PySem.W.codeIn K cd27 "_law_good" = true) (k27 : PySem.W.keepIn K (.ref f27) = true)
    (a28 : PySem.W.nsIn K mainGlobals "_law_all_good" = some (some (.ref f28))) (l28 : K.lookup f28 = some ⟨oc28, od28, .func (PySem.W.fnOf "_law_all_good" "_law_all_good" (defArgs s_law_all_good) (defBody s_law_all_good) (defScope s_law_all_good) .none kV28 dc28 pm28 an28 cd28 ct28), sl28⟩) (c28 : PySem.W.codeIn K cd28 "_law_all_good" = true) (k28 : PySem.W.keepIn K (.ref f28) = true)
    (a29 : PySem.W.nsIn K mainGlobals "_law_pairs" = some (some (.ref f29))) (l29 : K.lookup f29 = some ⟨oc29, od29, .func (PySem.W.fnOf "_law_pairs" "_law_pairs" (defArgs s_law_pairs) (defBody s_law_pairs) (defScope s_law_pairs) .none kV29 dc29 pm29 an29 cd29 ct29), sl29⟩) (c29 : PySem.W.codeIn K cd29 "_law_pairs" = true) (k29 : PySem.W.keepIn K (.ref f29) = true)
    (a30 : PySem.W.nsIn K mainGlobals "_law_broken_good" = some (some (.ref f30))) (l30 : K.lookup f30 = some ⟨oc30, od30, .func (PySem.W.fnOf "_law_broken_good" "_law_broken_good" (defArgs s_law_broken_good) (defBody s_law_broken_good) (defScope s_law_broken_good) .none kV30 dc30 pm30 an30 cd30 ct30), sl30⟩) (c30 : PySem.W.codeIn K cd30 "_law_broken_good" = true) (k30 : PySem.W.keepIn K (.ref f30) = true)
    (a31 : PySem.W.nsIn K mainGlobals "law" = some (some (.ref f31))) (l31 : K.lookup f31 = some ⟨oc31, od31, .func (PySem.W.fnOf "law" "law" (defArgs s_law) (defBody s_law) (defScope s_law) .none kV31 dc31 pm31 an31 cd31 ct31), sl31⟩) (c31 : PySem.W.codeIn K cd31 "law" = true) (k31 : PySem.W.keepIn K (.ref f31) = true)
    (a32 : PySem.W.findIn K (.ref ca3) "__init__" = some (some (.ref f32))) (i32 : PySem.W.isFn K (.ref f32) = true) (l32 : K.lookup f32 = some ⟨oc32, od32, .func (PySem.W.fnOf "__init__" "House.__init__" (defArgs s_House___init__) (defBody s_House___init__) (defScope s_House___init__) .none kV32 dc32 pm32 an32 cd32 ct32), sl32⟩) (c32 : PySem.W.codeIn K cd32 "House.__init__" = true) (k32 : PySem.W.keepIn K (.ref f32) = true)
    (a33 : PySem.W.findIn K (.ref ca3) "add" = some (some (.ref f33))) (i33 : PySem.W.isFn K (.ref f33) = true) (l33 : K.lookup f33 = some ⟨oc33, od33, .func (PySem.W.fnOf "add" "House.add" (defArgs s_House_add) (defBody s_House_add) (defScope s_House_add) (.ref T33) kV33 dc33 pm33 an33 cd33 ct33), sl33⟩) (c33 : PySem.W.codeIn K cd33 "House.add" = true) (k33 : PySem.W.keepIn K (.ref f33) = true) (t33 : K.lookup T33 = some ⟨ot33, odt33, .seq #[.none, .none] nt33, slt33⟩)
    (a34 : PySem.W.findIn K (.ref ca3) "drop" = some (some (.ref f34))) (i34 : PySem.W.isFn K (.ref f34) = true) (l34 : K.lookup f34 = some ⟨oc34, od34, .func (PySem.W.fnOf "drop" "House.drop" (defArgs s_House_drop) (defBody s_House_drop) (defScope s_House_drop) .none kV34 dc34 pm34 an34 cd34 ct34), sl34⟩) (c34 : PySem.W.codeIn K cd34 "House.drop" = true) (k34 : PySem.W.keepIn K (.ref f34) = true)
    (a35 : PySem.W.findIn K (.ref ca3) "need" = some (some (.ref f35))) (i35 : PySem.W.isFn K (.ref f35) = true) (l35 : K.lookup f35 = some ⟨oc35, od35, .func (PySem.W.fnOf "need" "House.need" (defArgs s_House_need) (defBody s_House_need) (defScope s_House_need) .none kV35 dc35 pm35 an35 cd35 ct35), sl35⟩) (c35 : PySem.W.codeIn K cd35 "House.need" = true) (k35 : PySem.W.keepIn K (.ref f35) = true)
    (a36 : PySem.W.findIn K (.ref ca3) "table" = some (some (.ref f36))) (i36 : PySem.W.isFn K (.ref f36) = true) (l36 : K.lookup f36 = some ⟨oc36, od36, .func (PySem.W.fnOf "table" "House.table" (defArgs s_House_table) (defBody s_House_table) (defScope s_House_table) .none kV36 dc36 pm36 an36 cd36 ct36), sl36⟩) (c36 : PySem.W.codeIn K cd36 "House.table" = true) (k36 : PySem.W.keepIn K (.ref f36) = true)
    (a37 : PySem.W.findIn K (.ref ca3) "chain" = some (some (.ref f37))) (i37 : PySem.W.isFn K (.ref f37) = true) (l37 : K.lookup f37 = some ⟨oc37, od37, .func (PySem.W.fnOf "chain" "House.chain" (defArgs s_House_chain) (defBody s_House_chain) (defScope s_House_chain) .none kV37 dc37 pm37 an37 cd37 ct37), sl37⟩) (c37 : PySem.W.codeIn K cd37 "House.chain" = true) (k37 : PySem.W.keepIn K (.ref f37) = true)
    (al_chain_rings : PySem.W.nsIn K mainGlobals "chain_rings" = some (some (.ref f10)))
    (pg_House : PySem.W.plainGet K ca3 Str.empty = true)
    (hd_House : PySem.W.hasDictIn K ca3 = true)
    (po_House : PySem.W.plainOver K ca3 = true)
    (sa_House : PySem.W.findIn K (.ref ca3) "__setattr__" = some (some (.builtin "object.__setattr__")))
    (mk_House : PySem.W.makesIn K ca3 = true)
    (kc_House : PySem.W.keepIn K (.ref ca3) = true)
    (n_House_count : PySem.W.findIn K (.ref ca3) "count" = some none)
    (n_House_gaps : PySem.W.findIn K (.ref ca3) "gaps" = some none)
    (z1 : PySem.W.nsIn K mainGlobals "isinstance" = some none)
    (z2 : PySem.W.nsIn K mainGlobals "len" = some none)
    (z3 : PySem.W.nsIn K mainGlobals "list" = some none)
    (z4 : PySem.W.nsIn K mainGlobals "min" = some none)
    (z5 : PySem.W.nsIn K mainGlobals "range" = some none)
    (z6 : PySem.W.nsIn K mainGlobals "str" = some none)
    (z7 : PySem.W.nsIn K mainGlobals "tuple" = some none)
    : ∃ fd : FuncData, (∀ (s : Shared) (v : Value), BindsTo s fd ⟨[v], []⟩ [("_law_script", v)]) ∧ ∀ base : Heap, K.In base → base.Ns mainGlobals mg → FnOk l.prog w K mg base CX0 8 fa fd ["_law_script"] (sp_law K) := by
  have e := hfa.symm.trans (PySem.W.mg_of X G a31)
  cases e
  let cl : Cl := ⟨ca1, ca2, ca3⟩
  have T : Txt K mg cl := ⟨PySem.W.mg_none_of X G z1, PySem.W.mg_none_of X G z2, PySem.W.mg_none_of X G z3, PySem.W.mg_none_of X G z4, PySem.W.mg_none_of X G z5, PySem.W.mg_none_of X G z6, PySem.W.mg_none_of X G z7, PySem.W.mg_of X G g1, PySem.W.mg_of X G g2, PySem.W.mg_of X G g3, ⟨pg_House, hd_House, po_House, sa_House⟩, n_House_count, n_House_gaps⟩
  have F1 := fun_mk (st := s_bounds_of) l1 c1 k1
  have b1 := F1.binds (ps := ["gap"]) fun _ _ _ _ _ _ us hl => by obtain ⟨_, rfl⟩ := lenE1 hl; rfl
  have F2 := fun_mk (st := s_wide) l2 c2 k2
  have b2 := F2.binds (ps := ["count"]) fun _ _ _ _ _ _ us hl => by obtain ⟨_, rfl⟩ := lenE1 hl; rfl
  have F3 := fun_mk (st := s_wide_row) l3 c3 k3
  have b3 := F3.binds (ps := ["count", "a"]) fun _ _ _ _ _ _ us hl => by obtain ⟨_, _, rfl⟩ := lenE2 hl; rfl
  have F4 := fun_mk (st := s_table_of) l4 c4 k4
  have b4 := F4.binds (ps := ["count", "bounds"]) fun _ _ _ _ _ _ us hl => by obtain ⟨_, _, rfl⟩ := lenE2 hl; rfl
  have F5 := fun_mk (st := s_held) l5 c5 k5
  have b5 := F5.binds (ps := ["table", "bound"]) fun _ _ _ _ _ _ us hl => by obtain ⟨_, _, rfl⟩ := lenE2 hl; rfl
  have F6 := fun_mk (st := s_shuts) l6 c6 k6
  have b6 := F6.binds (ps := ["bound", "table"]) fun _ _ _ _ _ _ us hl => by obtain ⟨_, _, rfl⟩ := lenE2 hl; rfl
  have F7 := fun_mk (st := s_held_row) l7 c7 k7
  have b7 := F7.binds (ps := ["table", "a", "bound"]) fun _ _ _ _ _ _ us hl => by obtain ⟨_, _, _, rfl⟩ := lenE3 hl; rfl
  have F8 := fun_mk (st := s_total) l8 c8 k8
  have b8 := F8.binds (ps := ["one", "other"]) fun _ _ _ _ _ _ us hl => by obtain ⟨_, _, rfl⟩ := lenE2 hl; rfl
  have F9 := fun_mk (st := s_lesser) l9 c9 k9
  have b9 := F9.binds (ps := ["one", "other"]) fun _ _ _ _ _ _ us hl => by obtain ⟨_, _, rfl⟩ := lenE2 hl; rfl
  have F10 := fun_mk (st := s_chain) l10 c10 k10
  have b10 := F10.binds (ps := ["count", "bounds", "a", "b"]) fun _ _ _ _ _ _ us hl => by obtain ⟨_, _, _, _, rfl⟩ := lenE4 hl; rfl
  have F11 := fun_mk (st := s_search) l11 c11 k11
  have b11 := F11.binds (ps := ["count", "bounds"]) fun _ _ _ _ _ _ us hl => by obtain ⟨_, _, rfl⟩ := lenE2 hl; rfl
  have F12 := fun_mk (st := s_first_ways) l12 c12 k12
  have b12 := F12.binds (ps := ["row"]) fun _ _ _ _ _ _ us hl => by obtain ⟨_, rfl⟩ := lenE1 hl; rfl
  have F13 := fun_mk (st := s_narrowed) l13 c13 k13
  have b13 := F13.binds (ps := ["row", "other"]) fun _ _ _ _ _ _ us hl => by obtain ⟨_, _, rfl⟩ := lenE2 hl; rfl
  have F14 := fun_mk (st := s_led) l14 c14 k14
  have b14 := F14.binds (ps := ["ways", "a", "bound", "place", "changes"]) fun _ _ _ _ _ _ us hl => by obtain ⟨_, _, _, _, _, rfl⟩ := lenE5 hl; rfl
  have F15 := fun_mk (st := s_by_way) l15 c15 k15
  have b15 := F15.binds (ps := ["ways", "a", "b", "bound", "place"]) fun _ _ _ _ _ _ us hl => by obtain ⟨_, _, _, _, _, rfl⟩ := lenE5 hl; rfl
  have F16 := fun_mk (st := s_all_bounds) l16 c16 k16
  have b16 := F16.binds (ps := ["gaps"]) fun _ _ _ _ _ _ us hl => by obtain ⟨_, rfl⟩ := lenE1 hl; rfl
  have F17 := fun_mk (st := s_all_bound_names) l17 c17 k17
  have b17 := F17.binds (ps := ["gaps"]) fun _ _ _ _ _ _ us hl => by obtain ⟨_, rfl⟩ := lenE1 hl; rfl
  have F18 := fun_mk (st := s_ends_of) l18 c18 k18
  have b18 := F18.binds (ps := ["gap"]) fun _ _ _ _ _ _ us hl => by obtain ⟨_, rfl⟩ := lenE1 hl; rfl
  have F19 := fun_mk (st := s_names_at) l19 c19 k19
  have b19 := F19.binds (ps := ["gaps", "places"]) fun _ _ _ _ _ _ us hl => by obtain ⟨_, _, rfl⟩ := lenE2 hl; rfl
  have F20 := fun_mk (st := s_law_cell) l20 c20 k20
  have b20 := F20.binds (ps := ["_law_script", "_law_k"]) fun _ _ _ _ _ _ us hl => by obtain ⟨_, _, rfl⟩ := lenE2 hl; rfl
  have F21 := fun_mk (st := s_law_spread) l21 c21 k21
  have b21 := F21.binds (ps := ["_law_cell_here", "_law_k"]) fun _ _ _ _ _ _ us hl => by obtain ⟨_, _, rfl⟩ := lenE2 hl; rfl
  have F22 := fun_mk (st := s_law_big) l22 c22 k22
  have b22 := F22.binds (ps := ["_law_cell_here"]) fun _ _ _ _ _ _ us hl => by obtain ⟨_, rfl⟩ := lenE1 hl; rfl
  have F23 := fun_mk (st := s_law_times) l23 c23 k23
  have b23 := F23.binds (ps := ["_law_script", "_law_at", "_law_count"]) fun _ _ _ _ _ _ us hl => by obtain ⟨_, _, _, rfl⟩ := lenE3 hl; rfl
  have F24 := fun_mk (st := s_law_cells) l24 c24 k24
  have b24 := F24.binds (ps := ["_law_script", "_law_at", "_law_most"]) fun _ _ _ _ _ _ us hl => by obtain ⟨_, _, _, rfl⟩ := lenE3 hl; rfl
  have F25 := fun_mk (st := s_law_gap_round) l25 c25 k25
  have b25 := F25.binds (ps := ["_law_cell_here", "_law_times_here", "_law_loose"]) fun _ _ _ _ _ _ us hl => by obtain ⟨_, _, _, rfl⟩ := lenE3 hl; rfl
  have F26 := fun_mk (st := s_law_ends) l26 c26 k26
  have b26 := F26.binds (ps := ["_law_gaps"]) fun _ _ _ _ _ _ us hl => by obtain ⟨_, rfl⟩ := lenE1 hl; rfl
  have F27 := fun_mk (st := s_law_good) l27 c27 k27
  have b27 := F27.binds (ps := ["_law_found", "_law_ends_here", "_law_pair", "_law_entry", "_law_count"]) fun _ _ _ _ _ _ us hl => by obtain ⟨_, _, _, _, _, rfl⟩ := lenE5 hl; rfl
  have F28 := fun_mk (st := s_law_all_good) l28 c28 k28
  have b28 := F28.binds (ps := ["_law_house", "_law_gaps", "_law_pairs_here", "_law_count"]) fun _ _ _ _ _ _ us hl => by obtain ⟨_, _, _, _, rfl⟩ := lenE4 hl; rfl
  have F29 := fun_mk (st := s_law_pairs) l29 c29 k29
  have b29 := F29.binds (ps := ["_law_script", "_law_count", "_law_k"]) fun _ _ _ _ _ _ us hl => by obtain ⟨_, _, _, rfl⟩ := lenE3 hl; rfl
  have F30 := fun_mk (st := s_law_broken_good) l30 c30 k30
  have b30 := F30.binds (ps := ["_law_house", "_law_gaps", "_law_pairs_here"]) fun _ _ _ _ _ _ us hl => by obtain ⟨_, _, _, rfl⟩ := lenE3 hl; rfl
  have F31 := fun_mk (st := s_law) l31 c31 k31
  have F32 := fun_mk (st := s_House___init__) l32 c32 k32
  have b32 := F32.binds (ps := ["self", "count"]) fun _ _ _ _ _ _ us hl => by obtain ⟨_, _, rfl⟩ := lenE2 hl; rfl
  have F33 := fun_mkD (st := s_House_add) l33 c33 k33
  have b33 := F33.bindsT (ps := ["self", "name", "a", "b", "low", "high"]) t33 rfl rfl fun us hl => by obtain ⟨_, _, _, _, _, _, rfl⟩ := lenE6 hl; exact ⟨_, rfl, rfl⟩
  have F34 := fun_mk (st := s_House_drop) l34 c34 k34
  have b34 := F34.binds (ps := ["self", "name"]) fun _ _ _ _ _ _ us hl => by obtain ⟨_, _, rfl⟩ := lenE2 hl; rfl
  have F35 := fun_mk (st := s_House_need) l35 c35 k35
  have b35 := F35.binds (ps := ["self", "name"]) fun _ _ _ _ _ _ us hl => by obtain ⟨_, _, rfl⟩ := lenE2 hl; rfl
  have F36 := fun_mk (st := s_House_table) l36 c36 k36
  have b36 := F36.binds (ps := ["self"]) fun _ _ _ _ _ _ us hl => by obtain ⟨_, rfl⟩ := lenE1 hl; rfl
  have F37 := fun_mk (st := s_House_chain) l37 c37 k37
  have b37 := F37.binds (ps := ["self", "a", "b"]) fun _ _ _ _ _ _ us hl => by obtain ⟨_, _, _, rfl⟩ := lenE3 hl; rfl
  refine ⟨PySem.W.fnOf "law" "law" (defArgs s_law) (defBody s_law) (defScope s_law) .none kV31 dc31 pm31 an31 cd31 ct31, fun s v => .of_eq rfl, fun base _ _ => ?_⟩
  have C_bounds_of : Cal l.prog w K mg base 1 "bounds_of" ["gap"] (sp_bounds_of K) := ⟨f1, _, ok_bounds_of F1 T , b1, k1, PySem.W.mg_of X G a1⟩
  have C_wide_row : Cal l.prog w K mg base 1 "wide_row" ["count", "a"] (sp_wide_row K) := ⟨f3, _, ok_wide_row F3 T , b3, k3, PySem.W.mg_of X G a3⟩
  have C_shuts : Cal l.prog w K mg base 1 "shuts" ["bound", "table"] (sp_shuts K) := ⟨f6, _, ok_shuts F6 T , b6, k6, PySem.W.mg_of X G a6⟩
  have C_total : Cal l.prog w K mg base 1 "total" ["one", "other"] (sp_total K) := ⟨f8, _, ok_total F8 T , b8, k8, PySem.W.mg_of X G a8⟩
  have C_lesser : Cal l.prog w K mg base 1 "lesser" ["one", "other"] (sp_lesser K) := ⟨f9, _, ok_lesser F9 T , b9, k9, PySem.W.mg_of X G a9⟩
  have C_first_ways : Cal l.prog w K mg base 1 "first_ways" ["row"] (sp_first_ways K) := ⟨f12, _, ok_first_ways F12 T , b12, k12, PySem.W.mg_of X G a12⟩
  have C_narrowed : Cal l.prog w K mg base 1 "narrowed" ["row", "other"] (sp_narrowed K) := ⟨f13, _, ok_narrowed F13 T , b13, k13, PySem.W.mg_of X G a13⟩
  have C_by_way : Cal l.prog w K mg base 1 "by_way" ["ways", "a", "b", "bound", "place"] (sp_by_way K) := ⟨f15, _, ok_by_way F15 T , b15, k15, PySem.W.mg_of X G a15⟩
  have C_all_bounds : Cal l.prog w K mg base 2 "all_bounds" ["gaps"] (sp_all_bounds K) := ⟨f16, _, ok_all_bounds F16 T C_bounds_of, b16, k16, PySem.W.mg_of X G a16⟩
  have C_ends_of : Cal l.prog w K mg base 1 "ends_of" ["gap"] (sp_ends_of K) := ⟨f18, _, ok_ends_of F18 T , b18, k18, PySem.W.mg_of X G a18⟩
  have C_law_cell : Cal l.prog w K mg base 1 "_law_cell" ["_law_script", "_law_k"] (sp_law_cell K) := ⟨f20, _, ok_law_cell F20 T , b20, k20, PySem.W.mg_of X G a20⟩
  have C_law_spread : Cal l.prog w K mg base 1 "_law_spread" ["_law_cell_here", "_law_k"] (sp_law_spread K) := ⟨f21, _, ok_law_spread F21 T , b21, k21, PySem.W.mg_of X G a21⟩
  have C_law_big : Cal l.prog w K mg base 1 "_law_big" ["_law_cell_here"] (sp_law_big K) := ⟨f22, _, ok_law_big F22 T , b22, k22, PySem.W.mg_of X G a22⟩
  have C_law_times : Cal l.prog w K mg base 2 "_law_times" ["_law_script", "_law_at", "_law_count"] (sp_law_times K) := ⟨f23, _, ok_law_times F23 T C_law_cell C_law_big, b23, k23, PySem.W.mg_of X G a23⟩
  have C_law_cells : Cal l.prog w K mg base 2 "_law_cells" ["_law_script", "_law_at", "_law_most"] (sp_law_cells K) := ⟨f24, _, ok_law_cells F24 T C_law_cell, b24, k24, PySem.W.mg_of X G a24⟩
  have C_law_gap_round : Cal l.prog w K mg base 1 "_law_gap_round" ["_law_cell_here", "_law_times_here", "_law_loose"] (sp_law_gap_round K) := ⟨f25, _, ok_law_gap_round F25 T , b25, k25, PySem.W.mg_of X G a25⟩
  have C_law_ends : Cal l.prog w K mg base 1 "_law_ends" ["_law_gaps"] (sp_law_ends K) := ⟨f26, _, ok_law_ends F26 T , b26, k26, PySem.W.mg_of X G a26⟩
  have C_law_good : Cal l.prog w K mg base 1 "_law_good" ["_law_found", "_law_ends_here", "_law_pair", "_law_entry", "_law_count"] (sp_law_good K) := ⟨f27, _, ok_law_good F27 T , b27, k27, PySem.W.mg_of X G a27⟩
  have C_law_pairs : Cal l.prog w K mg base 2 "_law_pairs" ["_law_script", "_law_count", "_law_k"] (sp_law_pairs K) := ⟨f29, _, ok_law_pairs F29 T C_law_cell C_law_spread, b29, k29, PySem.W.mg_of X G a29⟩
  have MK_House : MkCal l.prog w K mg base cl.House 1 "House" ["self", "count"] (sp_House___init__ K cl) := ⟨f32, _, ok_House___init__ F32 T , b32, ⟨mk_House, a32, i32, kc_House⟩, T.g_House⟩
  have M_House_add : MCal l.prog w K mg base cl.House 1 "add" ["self", "name", "a", "b", "low", "high"] (sp_House_add K cl) := ⟨f33, _, ok_House_add F33 T , b33, ⟨a33, i33, k33⟩⟩
  have MS_House_add : MCalS l.prog w K mg base cl.House 1 "add" ["self", "name", "a", "b", "low", "high"] [.none] (sp_House_add K cl) := ⟨f33, _, ok_House_add F33 T , F33.bindsS t33 rfl rfl (fun us hl => by obtain ⟨_, _, _, _, _, rfl⟩ := lenE5 (lenS1 hl); exact ⟨_, rfl, rfl⟩), ⟨a33, i33, k33⟩⟩
  have M_House_need : MCal l.prog w K mg base cl.House 1 "need" ["self", "name"] (sp_House_need K cl) := ⟨f35, _, ok_House_need F35 T , b35, ⟨a35, i35, k35⟩⟩
  have C_wide : Cal l.prog w K mg base 2 "wide" ["count"] (sp_wide K) := ⟨f2, _, ok_wide F2 T C_wide_row, b2, k2, PySem.W.mg_of X G a2⟩
  have C_held_row : Cal l.prog w K mg base 2 "held_row" ["table", "a", "bound"] (sp_held_row K) := ⟨f7, _, ok_held_row F7 T C_total C_lesser, b7, k7, PySem.W.mg_of X G a7⟩
  have C_led : Cal l.prog w K mg base 2 "led" ["ways", "a", "bound", "place", "changes"] (sp_led K) := ⟨f14, _, ok_led F14 T C_by_way, b14, k14, PySem.W.mg_of X G a14⟩
  have C_all_bound_names : Cal l.prog w K mg base 2 "all_bound_names" ["gaps"] (sp_all_bound_names K) := ⟨f17, _, ok_all_bound_names F17 T C_ends_of, b17, k17, PySem.W.mg_of X G a17⟩
  have C_names_at : Cal l.prog w K mg base 3 "names_at" ["gaps", "places"] (sp_names_at K) := ⟨f19, _, ok_names_at F19 T C_all_bound_names, b19, k19, PySem.W.mg_of X G a19⟩
  have M_House_drop : MCal l.prog w K mg base cl.House 2 "drop" ["self", "name"] (sp_House_drop K cl) := ⟨f34, _, ok_House_drop F34 T M_House_need, b34, ⟨a34, i34, k34⟩⟩
  have C_held : Cal l.prog w K mg base 3 "held" ["table", "bound"] (sp_held K) := ⟨f5, _, ok_held F5 T C_shuts C_held_row, b5, k5, PySem.W.mg_of X G a5⟩
  have C_search : Cal l.prog w K mg base 4 "search" ["count", "bounds"] (sp_search K) := ⟨f11, _, ok_search F11 T C_wide C_held C_first_ways C_narrowed C_led, b11, k11, PySem.W.mg_of X G a11⟩
  have C_table_of : Cal l.prog w K mg base 4 "table_of" ["count", "bounds"] (sp_table_of K) := ⟨f4, _, ok_table_of F4 T C_wide C_held, b4, k4, PySem.W.mg_of X G a4⟩
  have C_chain : Cal l.prog w K mg base 5 "chain" ["count", "bounds", "a", "b"] (sp_chain K) := ⟨f10, _, ok_chain F10 T C_search, b10, k10, PySem.W.mg_of X G a10⟩
  have C_chain_rings : Cal l.prog w K mg base 5 "chain_rings" ["count", "bounds", "a", "b"] (sp_chain K) := ⟨f10, _, ok_chain F10 T C_search, b10, k10, PySem.W.mg_of X G al_chain_rings⟩
  have M_House_table : MCal l.prog w K mg base cl.House 5 "table" ["self"] (sp_House_table K cl) := ⟨f36, _, ok_House_table F36 T C_table_of C_all_bounds, b36, ⟨a36, i36, k36⟩⟩
  have M_House_chain : MCal l.prog w K mg base cl.House 6 "chain" ["self", "a", "b"] (sp_House_chain K cl) := ⟨f37, _, ok_House_chain F37 T C_chain_rings C_all_bounds C_names_at, b37, ⟨a37, i37, k37⟩⟩
  have C_law_all_good : Cal l.prog w K mg base 7 "_law_all_good" ["_law_house", "_law_gaps", "_law_pairs_here", "_law_count"] (sp_law_all_good K cl) := ⟨f28, _, ok_law_all_good F28 T C_law_ends C_law_good M_House_table M_House_chain, b28, k28, PySem.W.mg_of X G a28⟩
  have C_law_broken_good : Cal l.prog w K mg base 7 "_law_broken_good" ["_law_house", "_law_gaps", "_law_pairs_here"] (sp_law_broken_good K cl) := ⟨f30, _, ok_law_broken_good F30 T M_House_add M_House_drop M_House_chain MS_House_add, b30, k30, PySem.W.mg_of X G a30⟩
  exact ok_law F31 T C_law_cell C_law_spread C_law_times C_law_cells C_law_gap_round C_law_all_good C_law_pairs C_law_broken_good MK_House M_House_add M_House_drop
theorem walk {l : PySem.W.OpenLaw} {q : Program} {loose : List Str} {XP : (Str → Option Value) → Heap → Prop} {YP : World → Heap → Prop} {d : DefRec} {K : Params → PySem.W.Frag} (hn : l.most = some 63) (hdf : d.params.defaults = [])
    (hY : ∀ (w : World) (h : Heap), YP w h → (K w.params).In h)
    (F : ∀ (w : World) (mg : Str → Option Value) (fa : Addr) (h : Heap), (K w.params).In h → h.Ns mainGlobals mg → mg d.name = some (.ref fa) →
      ∃ fd : FuncData, (∀ (s : Shared) (u : Value), BindsTo s fd ⟨[u], []⟩ [("_law_script", u)]) ∧ ∀ base : Heap, (K w.params).In base → base.Ns mainGlobals mg → FnOk l.prog w (K w.params) mg base CX0 8 fa fd ["_law_script"] (sp_law (K w.params))) :
    PySem.W.WalkO q loose XP YP l.row.toRowW d [] (fun f vs => PySem.call f vs) :=
  L2.walk_of (n := 63) (k := 8) (x := "_law_script") (CX := fun _ => CX0) (sp := fun w => sp_law (K w.params)) hn (by decide) hdf ⟨rfl, by decide, by decide⟩ hY F (fun _ _ a ns hl _ hS => ⟨a, ns, rfl, hS, hl, fun _ => rfl⟩) fun _ _ _ _ _ z => z
end Toy
open PySem PySem.W PyProof.Rows
set_option maxRecDepth 100000 in
set_option maxHeartbeats 0 in
theorem PySem.Challenge.cw_waithouse_k30_chain_of_names_holds : PySem.Challenge.rw_waithouse_k30_chain_of_names.Holds := by
  w_on; o_law; k_head; (case hw => w_witness2)
  k_fill
  refine Toy.walk (l := PySem.Challenge.rw_waithouse_k30_chain_of_names) rfl rfl (fun w h Y => PySem.W.kIn_of Y) ?F
  case F =>
    intro w mg fa h KX G hmg
    refine' Toy.all_mk KX G hmg ?g1 ?g2 ?g3 ?a1 ?l1 ?c1 ?k1 ?a2 ?l2 ?c2 ?k2 ?a3 ?l3 ?c3 ?k3 ?a4 ?l4 ?c4 ?k4 ?a5 ?l5 ?c5 ?k5 ?a6 ?l6 ?c6 ?k6 ?a7 ?l7 ?c7 ?k7 ?a8 ?l8 ?c8 ?k8 ?a9 ?l9 ?c9 ?k9 ?a10 ?l10 ?c10 ?k10 ?a11 ?l11 ?c11 ?k11 ?a12 ?l12 ?c12 ?k12 ?a13 ?l13 ?c13 ?k13 ?a14 ?l14 ?c14 ?k14 ?a15 ?l15 ?c15 ?k15 ?a16 ?l16 ?c16 ?k16 ?a17 ?l17 ?c17 ?k17 ?a18 ?l18 ?c18 ?k18 ?a19 ?l19 ?c19 ?k19 ?a20 ?l20 ?c20 ?k20 ?a21 ?l21 ?c21 ?k21 ?a22 ?l22 ?c22 ?k22 ?a23 ?l23 ?c23 ?k23 ?a24 ?l24 ?c24 ?k24 ?a25 ?l25 ?c25 ?k25 ?a26 ?l26 ?c26 ?k26 ?a27 ?l27 ?c27 ?k27 ?a28 ?l28 ?c28 ?k28 ?a29 ?l29 ?c29 ?k29 ?a30 ?l30 ?c30 ?k30 ?a31 ?l31 ?c31 ?k31 ?a32 ?i32 ?l32 ?c32 ?k32 ?a33 ?i33 ?l33 ?c33 ?k33 ?t33 ?a34 ?i34 ?l34 ?c34 ?k34 ?a35 ?i35 ?l35 ?c35 ?k35 ?a36 ?i36 ?l36 ?c36 ?k36 ?a37 ?i37 ?l37 ?c37 ?k37 ?al_chain_rings ?pg_House ?hd_House ?po_House ?sa_House ?mk_House ?kc_House ?n_House_count ?n_House_gaps ?z1 ?z2 ?z3 ?z4 ?z5 ?z6 ?z7
    (case g1 => k_is)
    (case g2 => k_is)
    (case g3 => k_is)
    (case a1 => k_is)
    (case l1 => k_is)
    (case c1 => k_is)
    (case k1 => k_is)
    (case a2 => k_is)
    (case l2 => k_is)
    (case c2 => k_is)
    (case k2 => k_is)
    (case a3 => k_is)
    (case l3 => k_is)
    (case c3 => k_is)
    (case k3 => k_is)
    (case a4 => k_is)
    (case l4 => k_is)
    (case c4 => k_is)
    (case k4 => k_is)
    (case a5 => k_is)
    (case l5 => k_is)
    (case c5 => k_is)
    (case k5 => k_is)
    (case a6 => k_is)
    (case l6 => k_is)
    (case c6 => k_is)
    (case k6 => k_is)
    (case a7 => k_is)
    (case l7 => k_is)
    (case c7 => k_is)
    (case k7 => k_is)
    (case a8 => k_is)
    (case l8 => k_is)
    (case c8 => k_is)
    (case k8 => k_is)
    (case a9 => k_is)
    (case l9 => k_is)
    (case c9 => k_is)
    (case k9 => k_is)
    (case a10 => k_is)
    (case l10 => k_is)
    (case c10 => k_is)
    (case k10 => k_is)
    (case a11 => k_is)
    (case l11 => k_is)
    (case c11 => k_is)
    (case k11 => k_is)
    (case a12 => k_is)
    (case l12 => k_is)
    (case c12 => k_is)
    (case k12 => k_is)
    (case a13 => k_is)
    (case l13 => k_is)
    (case c13 => k_is)
    (case k13 => k_is)
    (case a14 => k_is)
    (case l14 => k_is)
    (case c14 => k_is)
    (case k14 => k_is)
    (case a15 => k_is)
    (case l15 => k_is)
    (case c15 => k_is)
    (case k15 => k_is)
    (case a16 => k_is)
    (case l16 => k_is)
    (case c16 => k_is)
    (case k16 => k_is)
    (case a17 => k_is)
    (case l17 => k_is)
    (case c17 => k_is)
    (case k17 => k_is)
    (case a18 => k_is)
    (case l18 => k_is)
    (case c18 => k_is)
    (case k18 => k_is)
    (case a19 => k_is)
    (case l19 => k_is)
    (case c19 => k_is)
    (case k19 => k_is)
    (case a20 => k_is)
    (case l20 => k_is)
    (case c20 => k_is)
    (case k20 => k_is)
    (case a21 => k_is)
    (case l21 => k_is)
    (case c21 => k_is)
    (case k21 => k_is)
    (case a22 => k_is)
    (case l22 => k_is)
    (case c22 => k_is)
    (case k22 => k_is)
    (case a23 => k_is)
    (case l23 => k_is)
    (case c23 => k_is)
    (case k23 => k_is)
    (case a24 => k_is)
    (case l24 => k_is)
    (case c24 => k_is)
    (case k24 => k_is)
    (case a25 => k_is)
    (case l25 => k_is)
    (case c25 => k_is)
    (case k25 => k_is)
    (case a26 => k_is)
    (case l26 => k_is)
    (case c26 => k_is)
    (case k26 => k_is)
    (case a27 => k_is)
    (case l27 => k_is)
    (case c27 => k_is)
    (case k27 => k_is)
    (case a28 => k_is)
    (case l28 => k_is)
    (case c28 => k_is)
    (case k28 => k_is)
    (case a29 => k_is)
    (case l29 => k_is)
    (case c29 => k_is)
    (case k29 => k_is)
    (case a30 => k_is)
    (case l30 => k_is)
    (case c30 => k_is)
    (case k30 => k_is)
    (case a31 => k_is)
    (case l31 => k_is)
    (case c31 => k_is)
    (case k31 => k_is)
    (case a32 => k_is)
    (case i32 => k_is)
    (case l32 => k_is)
    (case c32 => k_is)
    (case k32 => k_is)
    (case a33 => k_is)
    (case i33 => k_is)
    (case l33 => k_is)
    (case c33 => k_is)
    (case k33 => k_is)
    (case t33 => k_is)
    (case a34 => k_is)
    (case i34 => k_is)
    (case l34 => k_is)
    (case c34 => k_is)
    (case k34 => k_is)
    (case a35 => k_is)
    (case i35 => k_is)
    (case l35 => k_is)
    (case c35 => k_is)
    (case k35 => k_is)
    (case a36 => k_is)
    (case i36 => k_is)
    (case l36 => k_is)
    (case c36 => k_is)
    (case k36 => k_is)
    (case a37 => k_is)
    (case i37 => k_is)
    (case l37 => k_is)
    (case c37 => k_is)
    (case k37 => k_is)
    (case al_chain_rings => k_is)
    (case pg_House => k_is)
    (case hd_House => k_is)
    (case po_House => k_is)
    (case sa_House => k_is)
    (case mk_House => k_is)
    (case kc_House => k_is)
    (case n_House_count => k_is)
    (case n_House_gaps => k_is)
    (case z1 => k_is)
    (case z2 => k_is)
    (case z3 => k_is)
    (case z4 => k_is)
    (case z5 => k_is)
    (case z6 => k_is)
    (case z7 => k_is)

