import PyProof.Rows.All
import Wide.All
import OpenK.AllK
import Wide.FinOn
import Lean
import PyProof.EqAt
import PyProof.EqKinds
import PyProof.TupleCall
import PyProof.NeData
import PyProof.SumAny
import PyProof.ReprRoads
import PyProof.CallStr
import PyProof.ReprLen
import PyProof.Rows.StrDigitsNeg
import PyProof.Rows.StrJoinMade
import PyProof.Rows.ZipGen
import PyProof.ListRange
import PyProof.TupleOfSeq
import PyProof.SetScanFacts
import PyProof.SetKind
import PyProof.Rows.SetFrom
import PyProof.SetRoads
import PyProof.Rows.SortShell
import PyProof.ListMulRoad
import PyProof.ListMulAny
import PyProof.FactsAll.tuple
import PyProof.RulesAssignMore
import PyProof.ZipIter
import PyProof.TupleIter
import PyProof.EnumFor
import PyProof.EnumMake
import PyProof.FitsBits
import KE.KDictList
import PyProof.Rows.SortShellK
import PyProof.TupleKey
import KE.KItemsList
import KE.KSortTup
import PySem.Challenge.RW_farcords_k07_sorts_of_weighings
set_option Elab.async false
set_option linter.all false
set_option maxRecDepth 100000
/-! THE HAND LAYER, for ints, bools, texts, own classes, LISTS and tuples (index, slices, in, append, pop ..), calls, loops. Paste it whole ahead of your own text; what your proof does not reach may be deleted. -/
namespace L2
open PySem PySem.Spec PyProof.Rows

/-- a key: an int or a str -/
abbrev Key := Sum Int Str
def keyIs : Key → Value → Bool
  | .inl k, v => Value.isInt k v
  | .inr x, v => Value.isStrOf x v
def keyH (w : World) : Key → Int
  | .inl k => hashInt k
  | .inr x => hashStr w x
theorem keyIs_shape : ∀ {k : Key} {v : Value}, keyIs k v = true → (∃ i t, k = Sum.inl i ∧ v = Value.int i t) ∨ (∃ x t, k = Sum.inr x ∧ v = Value.str x t)
  | .inl i, v, h => by
    obtain ⟨t, e⟩ := Value.isInt_shape (k := i) (v := v) h
    exact .inl ⟨i, t, rfl, e⟩
  | .inr x, v, h => by
    obtain ⟨t, e⟩ := Value.isStrOf_shape (x := x) (v := v) h
    exact .inr ⟨x, t, rfl, e⟩
theorem keyIs_int (i : Int) (t : Tok) : keyIs (.inl i) (.int i t) = true := by simp [keyIs, Value.isInt]
theorem keyIs_str (x : Str) (t : Tok) : keyIs (.inr x) (.str x t) = true := by simp [keyIs, Value.isStrOf]
theorem key_ll (a b : Int) : decide ((Sum.inl a : Key) = Sum.inl b) = (a == b) := by
  by_cases e : a = b
  · subst e; simp
  · have h : ¬ (Sum.inl a : Key) = Sum.inl b := fun q => e (Sum.inl.inj q)
    rw [decide_eq_false h]
    exact (beq_eq_false_iff_ne.mpr e).symm
theorem key_rr (a b : Str) : decide ((Sum.inr a : Key) = Sum.inr b) = decide (a = b) := by
  by_cases e : a = b
  · subst e; simp
  · have h : ¬ (Sum.inr a : Key) = Sum.inr b := fun q => e (Sum.inr.inj q)
    rw [decide_eq_false h, decide_eq_false e]
theorem key_lr (a : Int) (b : Str) : decide ((Sum.inl a : Key) = Sum.inr b) = false := decide_eq_false (fun q => nomatch q)
theorem key_rl (a : Str) (b : Int) : decide ((Sum.inr a : Key) = Sum.inl b) = false := decide_eq_false (fun q => nomatch q)

def mixKind (prog : Program) (w : World) : PySem.KeyKind prog w Key where
  is := keyIs
  hash := keyH w
  inj := fun v a b ha hb => by
    rcases keyIs_shape ha with ⟨i, t, rfl, rfl⟩ | ⟨x, t, rfl, rfl⟩
    · rcases keyIs_shape hb with ⟨j, u, rfl, e⟩ | ⟨y, u, rfl, e⟩
      · injection e with e1 _; rw [e1]
      · exact nomatch e
    · rcases keyIs_shape hb with ⟨j, u, rfl, e⟩ | ⟨y, u, rfl, e⟩
      · exact nomatch e
      · injection e with e1 _; rw [e1]
  byValue := fun k v h => by
    rcases keyIs_shape h with ⟨i, t, rfl, rfl⟩ | ⟨x, t, rfl, rfl⟩ <;> rfl
  pyHash := fun hv h => by
    rcases keyIs_shape hv with ⟨i, t, rfl, rfl⟩ | ⟨x, t, rfl, rfl⟩
    · exact wpAny_pyHash_int h
    · exact wpAny_pyHash_str h
  eqBool := fun hu hv h => by
    rcases keyIs_shape hu with ⟨i, t, rfl, rfl⟩ | ⟨x, t, rfl, rfl⟩
    · rcases keyIs_shape hv with ⟨j, u, rfl, rfl⟩ | ⟨y, u, rfl, rfl⟩
      · rw [key_ll] at h; exact wpAny_eqBool_int h
      · rw [key_lr] at h; exact SeqAt.EqAt.int_str i t y u _ _ _ _ h
    · rcases keyIs_shape hv with ⟨j, u, rfl, rfl⟩ | ⟨y, u, rfl, rfl⟩
      · rw [key_rl] at h; exact SeqAt.EqAt.str_int x t j u _ _ _ _ h
      · rw [key_rr] at h; exact wpAny_eqBool_str h
  «strs» := fun k x t v h => by
    rcases keyIs_shape h with ⟨i, u, rfl, e⟩ | ⟨y, u, rfl, e⟩
    · exact nomatch e
    · injection e with e1 _
      subst e1
      cases v <;> rfl

theorem mixKind_int (prog : Program) (w : World) (i : Int) (t : Tok) : (mixKind prog w).is (.inl i) (.int i t) = true := keyIs_int i t
theorem mixKind_str (prog : Program) (w : World) (x : Str) (t : Tok) : (mixKind prog w).is (.inr x) (.str x t) = true := keyIs_str x t
end L2

namespace L2
open PySem PySem.Spec PyProof.Rows

/-- a value, without the heap -/
inductive V where
  | non | bl (b : Bool) | int (i : Int) | str (x : Str) | byt (b : Array UInt8) | flt (b : UInt64) | ref (a : Addr) | ty (n : String)
  deriving DecidableEq

def RelV : V → Value → Prop
  | .non, u => u = Value.none
  | .bl b, u => u = Value.bool b
  | .int i, u => ∃ t, u = Value.int i t
  | .str x, u => ∃ t, u = Value.str x t
  | .byt b, u => ∃ t, u = Value.bytes b t
  | .flt b, u => ∃ t, u = Value.float b t
  | .ref a, u => u = Value.ref a
  | .ty n, u => u = Value.type n

abbrev Vals : List V → List Value → Prop := Paired RelV
theorem Vals.length {xs : List V} {us : List Value} (r : Vals xs us) : xs.length = us.length := Paired.length r
theorem Vals.get : ∀ {xs : List V} {us : List Value} {i : Nat} {x : V}, Vals xs us → xs[i]? = some x → ∃ u, us[i]? = some u ∧ RelV x u
  | _, _, _, _, .nil, e => by simp at e
  | _, _, 0, _, .cons r _, e => by simp at e; subst e; exact ⟨_, rfl, r⟩
  | _, _, i + 1, x, .cons _ t, e => by
    obtain ⟨u, h1, h2⟩ := Vals.get (i := i) (x := x) t (by simpa using e)
    exact ⟨u, by simpa using h1, h2⟩
theorem Vals.set {x : V} {u : Value} (r : RelV x u) : ∀ {xs : List V} {us : List Value} (i : Nat), Vals xs us → Vals (xs.set i x) (us.set i u)
  | _, _, _, .nil => .nil
  | _, _, 0, .cons _ t => .cons r t
  | _, _, i + 1, .cons q t => .cons q (Vals.set r i t)
theorem Vals.append : ∀ {xs ys : List V} {us ws : List Value}, Vals xs us → Vals ys ws → Vals (xs ++ ys) (us ++ ws)
  | _, _, _, _, .nil, s => s
  | _, _, _, _, .cons r t, s => .cons r (Vals.append t s)
theorem Vals.take : ∀ {xs : List V} {us : List Value} (n : Nat), Vals xs us → Vals (xs.take n) (us.take n)
  | _, _, 0, _ => .nil
  | _, _, _ + 1, .nil => .nil
  | _, _, n + 1, .cons r t => .cons r (Vals.take n t)
theorem Vals.drop : ∀ {xs : List V} {us : List Value} (n : Nat), Vals xs us → Vals (xs.drop n) (us.drop n)
  | _, _, 0, r => r
  | _, _, _ + 1, .nil => .nil
  | _, _, n + 1, .cons _ t => Vals.drop n t
def RelO : Option V → Option Value → Prop
  | some v, some u => RelV v u
  | none, none => True
  | _, _ => False
def KV {κ : Type} : List (κ × V) → List (κ × Value) → Prop := Paired fun (p : κ × V) (q : κ × Value) => p.1 = q.1 ∧ RelV p.2 q.2

/-- a key of a dict (00_mix): an int or a text -/
def kV : Key → V
  | .inl i => .int i
  | .inr x => .str x

/-- what stands at a tracked address -/
inductive HO where
  /-- a list -/
  | lst (xs : List V)
  /-- a tuple (never changes) -/
  | tup (xs : List V)
  /-- a dict whose keys are ints and texts; one whose keys are tuples of ints and texts (the empty one is both) -/
  | dK (kvs : List (Key × V)) | dT (kvs : List (List Key × V))
  /-- a set of ints: its members, its size -/
  | set (S : Int → Bool) (n : Nat)
  /-- an instance of the class at C, its dict at dx, its attributes -/
  | ins (C dx : Addr) (fs : List (Str × V))
  /-- the dict of the instance at x -/
  | own (x : Addr)
  /-- the dict of an exception -/
  | xd (fs : List (Str × V))
  /-- a bound method, f of x -/
  | met (f x : Addr)
  /-- a range object lo, lo + 1, .. below hi -/
  | rng (lo hi : Int)
  /-- a thing that is known to the object (the script; a dict while a loop walks it): read, never written while it is so -/
  | frz (o : Obj) (u : HO)
  /-- a code object's table -/
  | tbl (ps : Array Value)
  /-- any other thing, by what is true of its one object (a def of one's own: SetO a S n := HO.ext fun h => ..) -/
  | ext (φ : Heap → Prop)

abbrev Hp := Addr → Option HO
def upd (H : Hp) (a : Addr) (o : HO) : Hp := fun b => if b = a then some o else H b
theorem upd_same {H : Hp} {a : Addr} {o : HO} : upd H a o a = some o := by unfold upd; rw [if_pos rfl]
theorem upd_ne {H : Hp} {a b : Addr} {o : HO} (h : b ≠ a) : upd H a o b = H b := by unfold upd; rw [if_neg h]
/-- two objects of different content stand apart -/
theorem ne_of {H : Hp} {a b : Addr} {o u : HO} (h : H a = some o) (h' : H b = some u) (d : o ≠ u) : a ≠ b := by
  intro e; subst e; rw [h] at h'; exact d (Option.some.inj h')
theorem ne_of_none {H : Hp} {a b : Addr} {o : HO} (h : H a = some o) (h' : H b = none) : a ≠ b := by
  intro e; subst e; rw [h] at h'; cases h'

section
variable (P : Program) (w : World)
def ObjOk (H : Hp) (h : Heap) (a : Addr) : HO → Prop
  | .lst xs => xs.length ≤ sizeLine ∧ ∃ (its : List Value) (n : Nat), Vals xs its ∧ h.get? a = some { cls := .type "list", data := .seq its.toArray n }
  | .tup xs => xs.length ≤ sizeLine ∧ ∃ its : List Value, Vals xs its ∧ IsTup h a its.toArray
  | .dK kvs => kvs.length ≤ sizeLine ∧ (a == sysModules) = false ∧ ∃ vs, KV kvs vs ∧ h.DictOf (mixKind P w) a vs
  | .dT kvs => kvs.length ≤ sizeLine ∧ (a == sysModules) = false ∧ ∃ xs : List (List Key × Addr × Value),
      Paired (fun (p : List Key × V) (q : List Key × Addr × Value) => p.1 = q.1 ∧ H q.2.1 = some (.tup (p.1.map kV)) ∧ RelV p.2 q.2.2) kvs xs ∧
      ∃ o es ep, h.get? a = some o ∧ o.ExactDict ∧ o.data = .dict es ep ∧ es.toList = xs.map (entryOfKey (tupleKind (mixKind P w))) ∧ (xs.map (·.1)).Nodup
  | .set S n => h.SetOf (intKind P w) a S n
  | .ins C dx fs => H dx = some (.own a) ∧ fs.length ≤ 1000 ∧ dx ≠ a ∧ h.get? a = some (PySem.W.instObj C dx) ∧
      ∃ mA, h.Ns1 dx mA ∧ (∀ f, RelO (fs.lookup f) (mA f)) ∧ PySem.Within mA (fs.map (·.1))
  | .own _ => ∃ o, h.get? a = some o
  | .xd fs => ∃ mA, h.Ns1 a mA ∧ ∀ f, RelO (fs.lookup f) (mA f)
  | .rng lo hi => ∃ t u v, h.get? a = some { cls := .type "range", data := .fields #[.int lo t, .int hi u, .int 1 v] }
  | .frz o u => h.get? a = some o ∧ ObjOk H h a u
  | .tbl ps => h.get? a = some { cls := .none, data := .fields ps }
  | .met f x => h.get? a = some (PySem.W.methodObj (.ref f) (.ref x))
  | .ext φ => φ h ∧ (∃ o, h.get? a = some o) ∧ ∀ h1 h2 : Heap, φ h1 → (∀ o, h1.get? a = some o → h2.get? a = some o) → φ h2
/-- the abstract heap is held -/
def HOk (H : Hp) (h : Heap) : Prop := ∀ a o, H a = some o → ObjOk P w H h a o
end

section
variable {P : Program} {w : World} {H H' : Hp} {h h' : Heap} {a : Addr} {o : HO}
theorem ObjOk.lt (x : ObjOk P w H h a o) : a < h.objs.size := by
  cases o with
  | lst xs => obtain ⟨_, _, _, _, e⟩ := x; exact Heap.lt_size e
  | tup xs => obtain ⟨_, _, _, p⟩ := x; exact p.lt
  | dK kvs => obtain ⟨_, _, _, _, o, _, _, e, _⟩ := x; exact Heap.lt_size e
  | dT kvs => obtain ⟨_, _, _, _, o, _, _, e, _⟩ := x; exact Heap.lt_size e
  | set S n => obtain ⟨o, _, _, _, e, _⟩ := x; exact Heap.lt_size e
  | ins C dx fs => obtain ⟨_, _, _, e, _⟩ := x; exact Heap.lt_size e
  | own y => obtain ⟨_, e⟩ := x; exact Heap.lt_size e
  | xd fs => obtain ⟨_, ⟨_, _, _, e, _⟩, _⟩ := x; exact Heap.lt_size e
  | rng lo hi => obtain ⟨_, _, _, e⟩ := x; exact Heap.lt_size e
  | frz ob u => obtain ⟨e, _⟩ := x; exact Heap.lt_size e
  | tbl ps => exact Heap.lt_size (show h.get? a = some _ from x)
  | met f y => exact Heap.lt_size (show h.get? a = some _ from x)
  | ext φ => obtain ⟨_, ⟨_, e⟩, _⟩ := x; exact Heap.lt_size e
theorem Paired.mapP {α β : Type} {F G : α → β → Prop} : ∀ {l₁ : List α} {l₂ : List β}, Paired F l₁ l₂ → (∀ a b, F a b → G a b) → Paired G l₁ l₂
  | _, _, .nil, _ => .nil
  | _, _, .cons r t, f => .cons (f _ _ r) (Paired.mapP t f)
/-- what an object's description leans on: its own object, its own dict, the tuples -/
theorem ObjOk.stay (x : ObjOk P w H h a o) (k : ∀ b u, (b = a ∨ H b = some (.own a)) → h.get? b = some u → h'.get? b = some u)
    (ho : ∀ b, H b = some (.own a) → H' b = some (.own a)) (ht : ∀ b xs, H b = some (.tup xs) → H' b = some (.tup xs)) : ObjOk P w H' h' a o := by
  induction o with
  | lst xs => obtain ⟨z, its, n, r, e⟩ := x; exact ⟨z, its, n, r, k _ _ (.inl rfl) e⟩
  | tup xs => obtain ⟨z, its, r, ob, e, c⟩ := x; exact ⟨z, its, r, ob, k _ _ (.inl rfl) e, c⟩
  | dK kvs => obtain ⟨z, y, vs, r, ob, es, ep, e, c⟩ := x; exact ⟨z, y, vs, r, ob, es, ep, k _ _ (.inl rfl) e, c⟩
  | dT kvs =>
    obtain ⟨z, y, xs, r, ob, es, ep, e, c⟩ := x
    exact ⟨z, y, xs, Paired.mapP r fun p q z => ⟨z.1, ht _ _ z.2.1, z.2.2⟩, ob, es, ep, k _ _ (.inl rfl) e, c⟩
  | set S n => obtain ⟨ob, es, ep, t, e, c⟩ := x; exact ⟨ob, es, ep, t, k _ _ (.inl rfl) e, c⟩
  | ins C dx fs =>
    obtain ⟨d, z, ne, e, mA, ⟨od, es, ep, e2, c⟩, r⟩ := x
    exact ⟨ho _ d, z, ne, k _ _ (.inl rfl) e, mA, ⟨od, es, ep, k _ _ (.inr d) e2, c⟩, r⟩
  | own y => obtain ⟨ob, e⟩ := x; exact ⟨ob, k _ _ (.inl rfl) e⟩
  | xd fs => obtain ⟨mA, ⟨od, es, ep, e, c⟩, r⟩ := x; exact ⟨mA, ⟨od, es, ep, k _ _ (.inl rfl) e, c⟩, r⟩
  | rng lo hi => obtain ⟨t, u, v, e⟩ := x; exact ⟨t, u, v, k _ _ (.inl rfl) e⟩
  | frz ob u ih => obtain ⟨e, q⟩ := x; exact ⟨k _ _ (.inl rfl) e, ih q⟩
  | tbl ps =>
    have e : h.get? a = some { cls := .none, data := .fields ps } := x
    show h'.get? a = some { cls := .none, data := .fields ps }
    exact k a _ (.inl rfl) e
  | met f y =>
    have e : h.get? a = some (PySem.W.methodObj (.ref f) (.ref y)) := x
    show h'.get? a = some (PySem.W.methodObj (.ref f) (.ref y))
    exact k a _ (.inl rfl) e
  | ext φ => obtain ⟨p, ⟨o, e⟩, st⟩ := x; exact ⟨st _ _ p fun o q => k _ _ (.inl rfl) q, ⟨o, k _ _ (.inl rfl) e⟩, st⟩
theorem HOk.lt (x : HOk P w H h) (e : H a = some o) : a < h.objs.size := (x a o e).lt
theorem HOk.fresh (x : HOk P w H h) (e : h.objs.size ≤ a) : H a = none := by
  cases q : H a with
  | none => rfl
  | some u => exact absurd (Nat.lt_of_lt_of_le (x.lt q) e) (Nat.lt_irrefl _)
/-- every object of the heap is kept -/
theorem HOk.kept (x : HOk P w H h) (k : ∀ b u, h.get? b = some u → h'.get? b = some u) : HOk P w H h' := fun a o e =>
  (x a o e).stay (fun b u _ q => k b u q) (fun _ q => q) fun _ _ q => q
/-- a new object is laid and tracked -/
theorem HOk.laid (x : HOk P w H h) (k : ∀ b u, h.get? b = some u → h'.get? b = some u) (hp : h.objs.size ≤ a) (new : ObjOk P w (upd H a o) h' a o) : HOk P w (upd H a o) h' := fun b u e => by
  have hn := x.fresh hp
  by_cases hb : b = a
  · subst hb; rw [upd_same] at e; cases e; exact new
  · rw [upd_ne hb] at e
    exact (x b u e).stay (fun c v _ q => k c v q) (fun c q => by rw [upd_ne (ne_of_none q hn)]; exact q) fun c xs q => by rw [upd_ne (ne_of_none q hn)]; exact q
end

/-- what may be read as u: it is u, or a known u -/
def Rd (H : Hp) (a : Addr) (u : HO) : Prop := H a = some u ∨ ∃ o, H a = some (.frz o u)
theorem Rd.of {H : Hp} {a : Addr} {u : HO} (h : H a = some u) : Rd H a u := .inl h
theorem Rd.ok {P : Program} {w : World} {H : Hp} {h : Heap} {a : Addr} {u : HO} (r : Rd H a u) (x : HOk P w H h) : ObjOk P w H h a u := by
  rcases r with r | ⟨o, r⟩
  · exact x a u r
  · obtain ⟨_, q⟩ := x a _ r
    exact q
/-- what may be written -/
def Mut : Option HO → Prop
  | some (.lst _) => True
  | some (.dK _) => True
  | some (.dT _) => True
  | some (.set _ _) => True
  | some (.ins _ _ _) => True
  | some (.ext _) => True
  | _ => False
section
variable {P : Program} {w : World} {H : Hp} {h h' : Heap} {x e : Addr} {o' : HO}
/-- the object at e is changed: x itself, or the dict of the instance x -/
theorem HOk.write (ok : HOk P w H h) (mu : Mut (H x)) (he : e = x ∨ H e = some (.own x)) (k : ∀ b u, b ≠ e → h.get? b = some u → h'.get? b = some u) (heo : ∃ u, h'.get? e = some u)
    (new : ObjOk P w (upd H x o') h' x o') : HOk P w (upd H x o') h' := fun b u q => by
  have nown : ∀ c y, H c = some (.own y) → c ≠ x := fun c y r z => by subst z; rw [r] at mu; exact mu
  have ntup : ∀ c xs, H c = some (.tup xs) → c ≠ x := fun c xs r z => by subst z; rw [r] at mu; exact mu
  by_cases hb : b = x
  · subst hb; rw [upd_same] at q; cases q; exact new
  · rw [upd_ne hb] at q
    by_cases hbe : b = e
    · have q' : H b = some (.own x) := by
        rcases he with z | z
        · exact absurd (hbe.trans z) hb
        · rw [hbe]; exact z
      rw [q] at q'; cases q'
      obtain ⟨v, hv⟩ := heo
      exact ⟨v, by rw [hbe]; exact hv⟩
    · refine (ok b u q).stay (fun c v hc r => k c v ?_ r) (fun c r => by rw [upd_ne (nown c b r)]; exact r) fun c xs r => by rw [upd_ne (ntup c xs r)]; exact r
      rcases hc with rfl | hc
      · exact hbe
      · rintro rfl
        rcases he with z | z
        · exact nown c b hc z
        · rw [hc] at z; cases z; exact hb rfl
end

/-! ### kept unless tracked; of the frames at fs (the callers') the slots may change (an exception that passes writes there); of the records at ex (iterators) nothing is said -/
structure Un (fs ex : List Addr) (H H' : Hp) (h h' : Heap) : Prop where
  keep : ∀ b o, h.get? b = some o → H b = none → b ∉ fs → b ∉ ex → h'.get? b = some o
  slot : ∀ b o, h.get? b = some o → H b = none → b ∈ fs → b ∉ ex → ∃ sl, h'.get? b = some { o with slots := sl }
  free : ∀ b o, h.get? b = some o → H b = none → b ∉ ex → H' b = none
  there : ∀ b o, h.get? b = some o → b ∉ ex → ∃ o', h'.get? b = some o'
  tups : ∀ b xs, H b = some (.tup xs) → H' b = some (.tup xs)
  frzs : ∀ b o u, H b = some (.frz o u) → H' b = some (.frz o u)
  tbls : ∀ b ps, H b = some (.tbl ps) → ∃ more, H' b = some (.tbl (ps ++ more))
section
variable {fs fs' ex ex' : List Addr} {H H1 H2 : Hp} {h h1 h2 h' : Heap} {a x e : Addr} {o : HO}
theorem Un.any (u : Un fs ex H H1 h h1) {b : Addr} {ob : Obj} (q : h.get? b = some ob) (n : H b = none) (hx : b ∉ ex) : ∃ sl, h1.get? b = some { ob with slots := sl } := by
  by_cases hb : b ∈ fs
  · exact u.slot b ob q n hb hx
  · exact ⟨ob.slots, u.keep b ob q n hb hx⟩
theorem Un.trans (a : Un fs ex H H1 h h1) (b : Un fs ex H1 H2 h1 h2) : Un fs ex H H2 h h2 where
  keep := fun c ob q n hc hx => b.keep c ob (a.keep c ob q n hc hx) (a.free c ob q n hx) hc hx
  slot := fun c ob q n hc hx => by
    obtain ⟨sl, e1⟩ := a.slot c ob q n hc hx
    obtain ⟨sl', e2⟩ := b.slot c _ e1 (a.free c ob q n hx) hc hx
    exact ⟨sl', e2⟩
  free := fun c ob q n hx => by
    obtain ⟨o', e1⟩ := a.there c ob q hx
    exact b.free c o' e1 (a.free c ob q n hx) hx
  there := fun c ob q hx => by
    obtain ⟨o', e1⟩ := a.there c ob q hx
    exact b.there c o' e1 hx
  tups := fun c xs q => b.tups c xs (a.tups c xs q)
  frzs := fun c ob xs q => b.frzs c ob xs (a.frzs c ob xs q)
  tbls := fun c ps q => by
    obtain ⟨m1, e1⟩ := a.tbls c ps q
    obtain ⟨m2, e2⟩ := b.tbls c _ e1
    exact ⟨m1 ++ m2, by rw [e2, Array.append_assoc]⟩
theorem Un.kept (k : ∀ b u, h.get? b = some u → h'.get? b = some u) : Un fs ex H H h h' :=
  ⟨fun b ob q _ _ _ => k b ob q, fun b ob q _ _ _ => ⟨ob.slots, k b ob q⟩, fun _ _ _ n _ => n, fun b ob q _ => ⟨ob, k b ob q⟩, fun _ _ q => q, fun _ _ _ q => q, fun _ ps q => ⟨#[], by rw [q]; simp⟩⟩
theorem Un.refl : Un fs ex H H h h := Un.kept fun _ _ q => q
theorem Un.laid (k : ∀ b u, h.get? b = some u → h'.get? b = some u) (hp : h.objs.size ≤ a) (hn : H a = none) : Un fs ex H (upd H a o) h h' where
  keep := fun b u q _ _ _ => k b u q
  slot := fun b u q _ _ _ => ⟨u.slots, k b u q⟩
  free := fun b u q n _ => by rw [upd_ne (Nat.ne_of_lt (Nat.lt_of_lt_of_le (Heap.lt_size q) hp))]; exact n
  there := fun b u q _ => ⟨u, k b u q⟩
  tups := fun b xs q => by rw [upd_ne (ne_of_none q hn)]; exact q
  frzs := fun b u xs q => by rw [upd_ne (ne_of_none q hn)]; exact q
  tbls := fun b ps q => ⟨#[], by rw [upd_ne (ne_of_none q hn), q]; simp⟩
theorem Un.write (mu : Mut (H x)) (he : e = x ∨ H e = some (.own x)) (k : ∀ b u, b ≠ e → h.get? b = some u → h'.get? b = some u) (heo : ∃ u, h'.get? e = some u) : Un fs ex H (upd H x o) h h' := by
  have hx : ∀ b, H b = none → b ≠ x := fun b n z => by subst z; rw [n] at mu; exact mu
  have hb : ∀ b, H b = none → b ≠ e := fun b n z => by
    subst z
    rcases he with r | r
    · exact hx b n r
    · rw [n] at r; cases r
  have hm : ∀ b u, H b = some u → ¬ Mut (some u) → b ≠ x := fun b u q nm z => by subst z; rw [q] at mu; exact nm mu
  refine ⟨fun b u q n _ _ => k b u (hb b n) q, fun b u q n _ _ => ⟨u.slots, k b u (hb b n) q⟩, fun b u q n _ => by rw [upd_ne (hx b n)]; exact n, fun b u q _ => ?_,
    fun b xs q => by rw [upd_ne (hm b _ q fun z => z)]; exact q, fun b u xs q => by rw [upd_ne (hm b _ q fun z => z)]; exact q, fun b ps q => ⟨#[], by rw [upd_ne (hm b _ q fun z => z), q]; simp⟩⟩
  by_cases hbe : b = e
  · subst hbe; exact heo
  · exact ⟨u, k b u hbe q⟩
theorem Un.mono (u : Un fs ex H H1 h h1) (hs : ∀ b ∈ fs, b ∈ fs') (hx : ∀ b ∈ ex, b ∈ ex') : Un fs' ex' H H1 h h1 :=
  ⟨fun b ob q n hb he => u.keep b ob q n (fun z => hb (hs b z)) fun z => he (hx b z), fun _ _ q n _ he => u.any q n fun z => he (hx _ z), fun b ob q n he => u.free b ob q n fun z => he (hx b z), fun b ob q he => u.there b ob q fun z => he (hx b z), u.tups, u.frzs, u.tbls⟩
end

/-! ### the heap without what is tracked -/
def trk (h : Heap) (H : Hp) : List Addr := (List.range h.objs.size).filter fun a => (H a).isSome
def hidT (h : Heap) (H : Hp) : Heap := PySem.W.hideAll h (trk h H)
theorem hidT_size (h : Heap) (H : Hp) : (hidT h H).objs.size = h.objs.size := PySem.W.hideAll_size _ _
theorem hidT_get {h : Heap} {H : Hp} {b : Addr} {o : Obj} (e : h.get? b = some o) (n : H b = none) : (hidT h H).get? b = some o :=
  PySem.W.hideAll_get _ e fun hm => by
    have q : (H b).isSome = true := (List.mem_filter.mp hm).2
    rw [n] at q; simp at q
theorem of_hidT {h : Heap} {H : Hp} {b : Addr} {o : Obj} (e : (hidT h H).get? b = some o) : h.get? b = some o ∧ H b = none := by
  have e' : h.get? b = some o := PySem.W.of_hideAll (trk h H) e
  refine ⟨e', ?_⟩
  cases q : H b with
  | none => rfl
  | some x =>
    have hm : b ∈ trk h H := List.mem_filter.mpr ⟨List.mem_range.mpr (Heap.lt_size e'), by simp [q]⟩
    have z : (hidT h H).get? b = none := PySem.W.hideAll_none (trk h H) hm
    rw [z] at e; cases e

/-! ### OpenK's ledger, filled with every new object but one -/
def allNews (g h : Heap) (L : Addr) : List (Addr × Obj) := (List.range h.objs.size).filterMap fun a => if a = L ∨ (g.get? a).isSome = true then none else (h.get? a).map fun o => (a, o)
def rest (g h : Heap) (L d : Addr) : List (Addr × Obj) := (allNews g h L).filter fun p => decide (p.1 ≠ d)
end L2

namespace L2
open PySem PySem.Spec PyProof.Rows

/-- the module's facts, over the base: the heap at the law's entry without what is tracked there -/
structure Mod (K : PySem.W.Frag) (mg : Str → Option Value) (base : Heap) : Prop where
  kin : K.In base
  glob : base.Ns mainGlobals mg
  blt : ∃ mb, base.Ns builtinsNs mb ∧ ∀ x : Str, x ≠ "__name__" → mb x = bootBuiltins x
  nolimit : base.NoLimit

/-- the context: a def's body (or a comprehension's block) running. base: fixed through the whole law; s₀, H₀: the entry; outer: the frames whose slots others may change (a def's callers); stack: all frames that run;
   ex: iterators that were made ahead of the entry and are walked here (a comprehension's); fn: the names whose cells were made at the entry (a def: all; a comprehension's block: its own); calm: not within an except suite; pn: pins that every state bears; xe: what is wanted of an exception that leaves the code -/
structure Cx where
  prog : Program
  w : World
  K : PySem.W.Frag
  mg : Str → Option Value
  base : Heap
  A : Around
  N : List Str
  s₀ : Shared
  H₀ : Hp
  env : Env
  outer : List Env
  stack : List Env
  ex : List Addr
  fn : Str → Bool
  calm : Bool
  pn : List (Addr × Obj)
  xe : Value → Shared → Prop
/-- the callers' frames -/
def frs (l : List Env) : List Addr := l.filterMap (·.frame)
abbrev Cx.fs (X : Cx) : List Addr := frs X.outer

def Vis (sc : Scope) (x : Str) : Prop := sc.names.lookup x = some .local ∨ sc.names.lookup x = some .cell ∨ sc.names.lookup x = some .free
def Loc (sc : Scope) (x : Str) : Prop := sc.names.lookup x = some .local ∨ sc.names.lookup x = some .cell
def Look (env : Env) (h : Heap) (m : Str → Option Value) (x : Str) (u : Value) : Prop :=
  (env.kindOf x = some .local ∧ m x = some u) ∨ ((env.kindOf x = some .cell ∨ env.kindOf x = some .free) ∧ ∃ c, env.cells.lookup x = some c ∧ h.IsCell c (some u))

structure Cx.Ok (X : Cx) : Prop where
  mod : Mod X.K X.mg X.base
  kind : X.env.scope.kind = .function
  glob : X.env.globals = mainGlobals
  blt : X.env.builtins = builtinsNs
  above : X.s₀.heap.objs.size ≤ X.env.locals
  inj : ∀ x y c, X.env.cells.lookup x = some c → X.env.cells.lookup y = some c → x = y
  has : ∀ x, (X.env.kindOf x = some .cell ∨ X.env.kindOf x = some .free) → ∃ c, X.env.cells.lookup x = some c
  cab : ∀ x c, X.fn x = true → X.env.cells.lookup x = some c → X.s₀.heap.objs.size ≤ c
  hd : X.calm = true → X.A.handled = none
  frames : X.A.frames = some X.stack
  stk : X.stack = X.outer ∨ (X.stack = X.env :: X.outer ∧ X.env.frame = some X.env.locals)
  exf : ∀ b ∈ X.ex, b ≠ X.env.locals ∧ ∀ x c, X.env.cells.lookup x = some c → c ≠ b
  bs : ∀ b o, X.base.get? b = some o → X.s₀.heap.get? b = some o ∧ X.H₀ b = none
  bsz : X.base.objs.size ≤ X.s₀.heap.objs.size
  noex : ∀ b o, X.base.get? b = some o → b ∉ X.ex
  exfs : ∀ b ∈ X.ex, b ∉ X.fs
  funs : X.s₀.heap.FunFrames X.base X.outer
  frf : ∀ b ∈ X.fs, X.H₀ b = none

structure Inv (X : Cx) (pins : List (Addr × Obj)) (σ : List (Option V)) (H : Hp) (s : Shared) : Prop where
  ok : X.Ok
  os : s.os = X.s₀.os
  bare : AllBare s.gens
  base : Un X.fs X.ex X.H₀ H X.s₀.heap s.heap
  loc : ∃ m, s.heap.Ns X.env.locals m ∧ ∀ (i : Nat) (x : Str) (v : V), X.N[i]? = some x → σ[i]? = some (some v) → Vis X.env.scope x → ∃ u, RelV v u ∧ Look X.env s.heap m x u
  cell : ∀ x c, X.env.cells.lookup x = some c → ∃ v, s.heap.IsCell c v
  free : H X.env.locals = none
  freeC : ∀ x c, X.env.cells.lookup x = some c → H c = none
  pin : ∀ p ∈ X.pn ++ pins, s.heap.get? p.1 = some p.2 ∧ H p.1 = none ∧ p.1 ≠ X.env.locals ∧ p.1 ∉ X.fs ∧ ∀ v, p.2.data ≠ .cell v
  hok : HOk X.prog X.w H s.heap
  len : σ.length = X.N.length

section
variable {X : Cx} {pins : List (Addr × Obj)} {σ : List (Option V)} {H H' : Hp} {s : Shared} {h' : Heap}

theorem Cx.Ok.nofr (ok : X.Ok) {b : Addr} {o : Obj} (e : X.base.get? b = some o) : b ∉ X.fs := fun hb => by
  have := (ok.funs.mem hb).1
  rw [e] at this; cases this
theorem Inv.bs (I : Inv X pins σ H s) : ∀ b o, X.base.get? b = some o → s.heap.get? b = some o ∧ H b = none := fun b o e =>
  ⟨I.base.keep b o (I.ok.bs b o e).1 (I.ok.bs b o e).2 (I.ok.nofr e) (I.ok.noex b o e), I.base.free b o (I.ok.bs b o e).1 (I.ok.bs b o e).2 (I.ok.noex b o e)⟩
theorem Inv.bk (I : Inv X pins σ H s) : ∀ b o, X.base.get? b = some o → s.heap.get? b = some o := fun b o e => (I.bs b o e).1
theorem Inv.mod (I : Inv X pins σ H s) : Mod X.K X.mg X.base := I.ok.mod
theorem Inv.kIn (I : Inv X pins σ H s) : X.K.In s.heap := I.ok.mod.kin.keeps I.bk
theorem Inv.nolimit (I : Inv X pins σ H s) : s.heap.NoLimit := I.ok.mod.nolimit.keeps I.bk
theorem Inv.lt (I : Inv X pins σ H s) : X.env.locals < s.heap.objs.size := let ⟨_, hn, _⟩ := I.loc; hn.lt
theorem Inv.sz (I : Inv X pins σ H s) : X.s₀.heap.objs.size ≤ s.heap.objs.size := Nat.le_trans I.ok.above (Nat.le_of_lt I.lt)
theorem Inv.nofs (I : Inv X pins σ H s) {a : Addr} (h : s.heap.objs.size ≤ a) : a ∉ X.fs := fun hb => by
  obtain ⟨_, o, ho, _⟩ := I.ok.funs.mem hb
  exact absurd (Nat.lt_of_lt_of_le (Heap.lt_size ho) (Nat.le_trans I.sz h)) (Nat.lt_irrefl _)
theorem Inv.cne (I : Inv X pins σ H s) : ∀ x c, X.env.cells.lookup x = some c → c ≠ X.env.locals := fun x c e z => by
  obtain ⟨v, o, ho, hd⟩ := I.cell x c e
  obtain ⟨m, ⟨o', es, ep, ho', hd', _⟩, _⟩ := I.loc
  rw [z, ho'] at ho; cases ho; rw [hd'] at hd; cases hd
theorem Inv.funs (I : Inv X pins σ H s) : s.heap.FunFrames X.base X.outer := by
  have all : ∀ (l : List Env), (∀ b ∈ frs l, b ∈ X.fs) → X.s₀.heap.FunFrames X.base l → s.heap.FunFrames X.base l := by
    intro l
    induction l with
    | nil => intro _ _; trivial
    | cons env r ih =>
      intro hs hl
      obtain ⟨hk, ⟨L, o, hf, hn, ho, hd⟩, hr⟩ := hl
      have hL : L ∈ X.fs := hs L (by unfold frs; rw [List.filterMap_cons, hf]; exact List.mem_cons_self)
      obtain ⟨sl, e⟩ := I.base.slot L o ho (I.ok.frf L hL) hL fun z => I.ok.exfs L z hL
      exact ⟨hk, ⟨L, _, hf, hn, e, hd⟩, ih (fun b hb => hs b (by unfold frs; rw [List.filterMap_cons, hf]; exact List.mem_cons_of_mem _ hb)) hr⟩
  exact all X.outer (fun _ hb => hb) I.ok.funs

/-- the frames that run, for a call -/
theorem Inv.stack (I : Inv X pins σ H s) : s.heap.FunFrames X.base X.stack := by
  rcases I.ok.stk with e | ⟨e, hf⟩
  · rw [e]; exact I.funs
  · rw [e]
    obtain ⟨m, hn, _⟩ := I.loc
    refine .cons (by rw [I.ok.kind]; decide) hf hn ?_ I.funs
    exact Heap.get?_none_of_le (Nat.le_trans I.ok.bsz I.ok.above)
theorem Inv.stkSub (I : Inv X pins σ H s) : ∀ b ∈ frs X.stack, b ∈ X.env.locals :: X.fs := fun b hb => by
  rcases I.ok.stk with e | ⟨e, hf⟩
  · rw [e] at hb; exact List.mem_cons_of_mem _ hb
  · rw [e] at hb
    unfold frs at hb
    rw [List.filterMap_cons, hf] at hb
    exact hb
theorem Inv.stkFree (I : Inv X pins σ H s) : ∀ b ∈ frs X.stack, H b = none := fun b hb => by
  rcases List.mem_cons.mp (I.stkSub b hb) with e | hb
  · rw [e]; exact I.free
  · obtain ⟨_, o, ho, _⟩ := I.ok.funs.mem hb
    exact I.base.free b o ho (I.ok.frf b hb) fun z => I.ok.exfs b z hb

/-- THE STEP: the untracked objects but the frame and the records at ch are kept (the callers' frames up to slots), the frame's map is kept, the new abstract heap is held -/
theorem Inv.step {g' : Array GenState} {t' : Nat} {d' : Drawn} {ch : List Addr} (I : Inv X pins σ H s)
    (hch : ∀ b ∈ ch, (b ∈ X.ex ∨ X.s₀.heap.objs.size ≤ b) ∧ b ≠ X.env.locals ∧ (∀ x c, X.env.cells.lookup x = some c → c ≠ b) ∧ ∀ p ∈ X.pn ++ pins, p.1 ≠ b)
    (keep : ∀ b o, b ≠ X.env.locals → b ∉ X.fs → b ∉ ch → s.heap.get? b = some o → H b = none → h'.get? b = some o)
    (slot : ∀ b o, b ≠ X.env.locals → b ∈ X.fs → b ∉ ch → s.heap.get? b = some o → H b = none → ∃ sl, h'.get? b = some { o with slots := sl }) (free : ∀ b o, b ∉ ch → s.heap.get? b = some o → H b = none → H' b = none)
    (there : ∀ b o, b ∉ ch → s.heap.get? b = some o → ∃ o', h'.get? b = some o')
    (tups : ∀ b xs, H b = some (.tup xs) → H' b = some (.tup xs)) (frzs : ∀ b o u, H b = some (.frz o u) → H' b = some (.frz o u)) (tbls : ∀ b ps, H b = some (.tbl ps) → ∃ more, H' b = some (.tbl (ps ++ more)))
    (ns : ∀ m, s.heap.Ns X.env.locals m → h'.Ns X.env.locals m) (hok : HOk X.prog X.w H' h') (hg : AllBare g') :
    Inv X pins σ H' { s with heap := h', gens := g', drawn := d', toks := t' } := by
  have neL : ∀ b o, X.s₀.heap.get? b = some o → b ≠ X.env.locals := fun b o e => Nat.ne_of_lt (Nat.lt_of_lt_of_le (Heap.lt_size e) I.ok.above)
  have neC : ∀ b o, X.s₀.heap.get? b = some o → b ∉ X.ex → b ∉ ch := fun b o e hx hb => by
    rcases (hch b hb).1 with z | z
    · exact hx z
    · exact absurd (Nat.lt_of_lt_of_le (Heap.lt_size e) z) (Nat.lt_irrefl _)
  have cellK : ∀ x c, X.env.cells.lookup x = some c → ∀ v, s.heap.IsCell c v → h'.IsCell c v := fun x c e v ⟨o, ho, hd⟩ => by
    have nch : c ∉ ch := fun z => (hch c z).2.2.1 x c e rfl
    by_cases hc : c ∈ X.fs
    · obtain ⟨sl, q⟩ := slot c o (I.cne x c e) hc nch ho (I.freeC x c e)
      exact ⟨_, q, hd⟩
    · exact ⟨o, keep c o (I.cne x c e) hc nch ho (I.freeC x c e), hd⟩
  refine ⟨I.ok, I.os, hg, ⟨fun b o e n hb hx => ?_, fun b o e n hb hx => ?_, fun b o e n hx => ?_, fun b o e hx => ?_, fun b xs e => tups b xs (I.base.tups b xs e), fun b o xs e => frzs b o xs (I.base.frzs b o xs e), fun b ps e => ?_⟩, ?_, fun x c e => ?_, ?_, fun x c e => ?_, fun p hp => ?_, hok, I.len⟩
  · exact keep b o (neL b o e) hb (neC b o e hx) (I.base.keep b o e n hb hx) (I.base.free b o e n hx)
  · obtain ⟨sl, e1⟩ := I.base.slot b o e n hb hx
    obtain ⟨sl', e2⟩ := slot b _ (neL b o e) hb (neC b o e hx) e1 (I.base.free b o e n hx)
    exact ⟨sl', e2⟩
  · obtain ⟨o', e1⟩ := I.base.there b o e hx
    exact free b o' (neC b o e hx) e1 (I.base.free b o e n hx)
  · obtain ⟨o', e1⟩ := I.base.there b o e hx
    exact there b o' (neC b o e hx) e1
  · obtain ⟨m1, e1⟩ := I.base.tbls b ps e
    obtain ⟨m2, e2⟩ := tbls b _ e1
    exact ⟨m1 ++ m2, by rw [e2, Array.append_assoc]⟩
  · obtain ⟨m, hn, hl⟩ := I.loc
    refine ⟨m, ns m hn, fun i x v e1 e2 e3 => ?_⟩
    obtain ⟨u, r, l⟩ := hl i x v e1 e2 e3
    refine ⟨u, r, ?_⟩
    rcases l with l | ⟨k, c, e, z⟩
    · exact .inl l
    · exact .inr ⟨k, c, e, cellK x c e _ z⟩
  · obtain ⟨v, z⟩ := I.cell x c e
    exact ⟨v, cellK x c e v z⟩
  · obtain ⟨m, ⟨o, _, _, ho, _⟩, _⟩ := I.loc
    exact free _ o (fun z => (hch _ z).2.1 rfl) ho I.free
  · obtain ⟨v, o, ho, hd⟩ := I.cell x c e
    exact free c o (fun z => (hch c z).2.2.1 x c e rfl) ho (I.freeC x c e)
  · obtain ⟨e, n, ne, nf, d⟩ := I.pin p hp
    have nch : p.1 ∉ ch := fun z => (hch p.1 z).2.2.2 p hp rfl
    exact ⟨keep p.1 p.2 ne nf nch e n, free p.1 p.2 nch e n, ne, nf, d⟩
/-- .. where the frame's own object is kept too -/
theorem Inv.un {t' : Nat} (I : Inv X pins σ H s) (u : Un X.fs [] H H' s.heap h') (hok : HOk X.prog X.w H' h') : Inv X pins σ H' { s with heap := h', toks := t' } := by
  obtain ⟨m, ⟨o, es, ep, ho, r⟩, _⟩ := id I.loc
  obtain ⟨sl, hL⟩ := u.any ho I.free (by simp)
  exact I.step (g' := s.gens) (d' := s.drawn) (ch := []) (fun _ z => nomatch z) (fun b o _ hb _ e n => u.keep b o e n hb (by simp)) (fun b o _ hb _ e n => u.slot b o e n hb (by simp)) (fun b o _ e n => u.free b o e n (by simp)) (fun b o _ e => u.there b o e (by simp)) u.tups u.frzs u.tbls (fun m' hm => by
    obtain ⟨o', es', ep', ho', r'⟩ := hm
    rw [ho] at ho'; cases ho'
    exact ⟨_, es', ep', hL, r'⟩) hok I.bare
/-- behind a call (or a comprehension's block): the slots of this frame may have changed too, the records at ch may have turned -/
theorem Inv.call {g' : Array GenState} {t' : Nat} {d' : Drawn} {ch : List Addr} (I : Inv X pins σ H s) (u : Un (frs X.stack) ch H H' s.heap h') (hok : HOk X.prog X.w H' h') (hg : AllBare g')
    (hch : ∀ b ∈ ch, (b ∈ X.ex ∨ X.s₀.heap.objs.size ≤ b) ∧ b ≠ X.env.locals ∧ (∀ x c, X.env.cells.lookup x = some c → c ≠ b) ∧ ∀ p ∈ X.pn ++ pins, p.1 ≠ b) :
    Inv X pins σ H' { s with heap := h', gens := g', drawn := d', toks := t' } := by
  obtain ⟨m, ⟨o, es, ep, ho, r⟩, _⟩ := id I.loc
  obtain ⟨sl, hL⟩ := u.any ho I.free fun z => (hch _ z).2.1 rfl
  exact I.step (ch := ch) hch (fun b o hL hb hc e n => u.keep b o e n (fun z => (List.mem_cons.mp (I.stkSub b z)).elim hL hb) hc) (fun b o _ _ hc e n => u.any e n hc) (fun b o hc e n => u.free b o e n hc) (fun b o hc e => u.there b o e hc) u.tups u.frzs u.tbls (fun m' hm => by
    obtain ⟨o', es', ep', ho', r'⟩ := hm
    rw [ho] at ho'; cases ho'
    exact ⟨_, es', ep', hL, r'⟩) hok hg
/-- an untracked record of ours (an iterator) has turned -/
theorem Inv.turned {t' : Nat} {it : Addr} (I : Inv X pins σ H s) (k : ∀ b o, b ≠ it → s.heap.get? b = some o → h'.get? b = some o) (hn : H it = none) (hL : it ≠ X.env.locals)
    (h1 : it ∈ X.ex ∨ X.s₀.heap.objs.size ≤ it) (h2 : ∀ x c, X.env.cells.lookup x = some c → c ≠ it) (h3 : ∀ p ∈ X.pn ++ pins, p.1 ≠ it) : Inv X pins σ H { s with heap := h', toks := t' } := by
  have nit : ∀ b u, H b = some u → b ≠ it := fun b u e z => by rw [z, hn] at e; cases e
  refine I.step (g' := s.gens) (d' := s.drawn) (ch := [it]) (fun b hb => ?_) (fun b o _ _ hc e _ => k b o (fun z => hc (by simp [z])) e) (fun b o _ _ hc e _ => ⟨o.slots, k b o (fun z => hc (by simp [z])) e⟩) (fun _ _ _ _ n => n)
    (fun b o hc e => ⟨o, k b o (fun z => hc (by simp [z])) e⟩) (fun _ _ e => e) (fun _ _ _ e => e) (fun b ps e => ⟨#[], by rw [e]; simp⟩) (fun m hm => ?_) (fun b u e => ?_) I.bare
  · have e : b = it := by simpa using hb
    subst e
    exact ⟨h1, hL, h2, h3⟩
  · obtain ⟨o, es, ep, ho, r⟩ := hm
    exact ⟨o, es, ep, k _ o (Ne.symm hL) ho, r⟩
  · refine (I.hok b u e).stay (fun c v hc q => k c v ?_ q) (fun _ q => q) fun _ _ q => q
    rcases hc with z | z
    · rw [z]; exact nit b u e
    · exact nit c _ z
theorem Inv.tok (I : Inv X pins σ H s) (t : Nat) : Inv X pins σ H { s with toks := t } := I.un (h' := s.heap) (t' := t) Un.refl I.hok
/-- all objects kept -/
theorem Inv.kept {t' : Nat} (I : Inv X pins σ H s) (k : ∀ b u, s.heap.get? b = some u → h'.get? b = some u) : Inv X pins σ H { s with heap := h', toks := t' } := I.un (Un.kept k) (I.hok.kept k)
/-- a new object laid and tracked -/
theorem Inv.laid {a : Addr} {o : HO} {t' : Nat} (I : Inv X pins σ H s) (k : ∀ b u, s.heap.get? b = some u → h'.get? b = some u) (hp : s.heap.objs.size ≤ a) (new : ObjOk X.prog X.w (upd H a o) h' a o) :
    Inv X pins σ (upd H a o) { s with heap := h', toks := t' } := I.un (Un.laid k hp (I.hok.fresh hp)) (I.hok.laid k hp new)
/-- an object written -/
theorem Inv.write {x e : Addr} {o : HO} {t' : Nat} (I : Inv X pins σ H s) (mu : Mut (H x)) (he : e = x ∨ H e = some (.own x)) (k : ∀ b u, b ≠ e → s.heap.get? b = some u → h'.get? b = some u) (heo : ∃ u, h'.get? e = some u)
    (new : ObjOk X.prog X.w (upd H x o) h' x o) : Inv X pins σ (upd H x o) { s with heap := h', toks := t' } := I.un (Un.write mu he k heo) (I.hok.write mu he k heo new)
theorem Inv.pins_of {pins' : List (Addr × Obj)} (I : Inv X pins σ H s) (h : ∀ p ∈ pins', s.heap.get? p.1 = some p.2 ∧ H p.1 = none ∧ p.1 ≠ X.env.locals ∧ p.1 ∉ X.fs ∧ ∀ v, p.2.data ≠ .cell v) : Inv X pins' σ H s :=
  ⟨I.ok, I.os, I.bare, I.base, I.loc, I.cell, I.free, I.freeC, fun p hp => (List.mem_append.mp hp).elim (fun z => I.pin p (List.mem_append_left _ z)) (h p), I.hok, I.len⟩

theorem nodup_ix {N : List Str} (hN : N.Nodup) {i j : Nat} {x : Str} (a : N[i]? = some x) (b : N[j]? = some x) : i = j := by
  obtain ⟨h1, e1⟩ := List.getElem?_eq_some_iff.mp a
  obtain ⟨h2, e2⟩ := List.getElem?_eq_some_iff.mp b
  exact (List.getElem_inj hN).mp (e1.trans e2.symm)

/-- a name is stored; what changed -/
theorem store_ok2 {M : Model} {A : Around} {E : Value → Shared → Prop} {i : Nat} {x : Str} {v : V} {u : Value} {Q : Unit → Shared → Prop} (I : Inv X pins σ H s) (hN : X.N.Nodup) (hi : X.N[i]? = some x) (hx : Loc X.env.scope x) (r : RelV v u)
    (h : ∀ s', Inv X pins (σ.set i (some v)) H s' → (∃ a, Heap.SameBut a s.heap s'.heap ∧ (a = X.env.locals ∨ X.env.cells.lookup x = some a)) → Q () s') (hf : X.fn x = true ∨ X.env.scope.names.lookup x = some .local := by first | exact .inl rfl | exact .inr rfl | assumption) : wpAny M A (storeName X.env x u) Q E s := by
  obtain ⟨m, hn, hl⟩ := id I.loc
  have hcls : (X.env.scope.kind == .class || (X.env.scope.kind == .module && X.env.locals != X.env.globals)) = false := by rw [I.ok.kind]; rfl
  have hiσ : i < σ.length := by rw [I.len]; exact (List.getElem?_eq_some_iff.mp hi).1
  have cne := I.cne
  have tracked : ∀ {a : Addr} {h' : Heap}, (∃ o, s.heap.get? a = some o ∧ H a = none) → Heap.SameBut a s.heap h' → HOk X.prog X.w H h' := fun {a h'} ha hs b ob e => by
    obtain ⟨_, _, hfree⟩ := ha
    refine (I.hok b ob e).stay (fun c w' hc q => (hs.2 c ?_).trans q) (fun _ q => q) fun _ _ q => q
    rintro rfl
    rcases hc with rfl | hc
    · rw [hfree] at e; cases e
    · rw [hfree] at hc; cases hc
  rcases hx with hk | hk
  · refine wpAny_storeName_local hk hn (fun h' hn' hs => ?_) hcls
    obtain ⟨oL, _, _, hoL, _⟩ := id hn
    refine h _ ⟨I.ok, I.os, I.bare, ⟨fun b o e n hb hx => ?_, fun b o e n hb hx => ?_, I.base.free, fun b o e hx => ?_, I.base.tups, I.base.frzs, I.base.tbls⟩, ⟨_, hn', fun j y v' e1 e2 e3 => ?_⟩, fun y c e => ?_, I.free, I.freeC, fun p hp => ?_, tracked ⟨oL, hoL, I.free⟩ hs, by simpa using I.len⟩ ⟨_, hs, .inl rfl⟩
    · exact (hs.2 b (Nat.ne_of_lt (Nat.lt_of_lt_of_le (Heap.lt_size e) I.ok.above))).trans (I.base.keep b o e n hb hx)
    · obtain ⟨sl, e1⟩ := I.base.slot b o e n hb hx
      exact ⟨sl, (hs.2 b (Nat.ne_of_lt (Nat.lt_of_lt_of_le (Heap.lt_size e) I.ok.above))).trans e1⟩
    · obtain ⟨o', e1⟩ := I.base.there b o e hx
      exact ⟨o', (hs.2 b (Nat.ne_of_lt (Nat.lt_of_lt_of_le (Heap.lt_size e) I.ok.above))).trans e1⟩
    · by_cases hj : j = i
      · subst hj
        rw [hi] at e1; cases e1
        rw [List.getElem?_set_self hiσ] at e2
        cases e2
        exact ⟨u, r, .inl ⟨hk, by simp⟩⟩
      · rw [List.getElem?_set_ne (Ne.symm hj)] at e2
        obtain ⟨u', r', q⟩ := hl j y v' e1 e2 e3
        refine ⟨u', r', ?_⟩
        rcases q with ⟨k, e⟩ | ⟨k, c, e, z⟩
        · refine .inl ⟨k, ?_⟩
          have : y ≠ x := fun e => hj (nodup_ix hN e1 (e ▸ hi))
          simp [this, e]
        · exact .inr ⟨k, c, e, z.sameBut hs (cne y c e)⟩
    · obtain ⟨w', z⟩ := I.cell y c e
      exact ⟨w', z.sameBut hs (cne y c e)⟩
    · obtain ⟨e, n, ne, nf, d⟩ := I.pin p hp
      exact ⟨(hs.2 p.1 ne).trans e, n, ne, nf, d⟩
  · have hfn : X.fn x = true := by
      rcases hf with z | z
      · exact z
      · rw [z] at hk; cases hk
    obtain ⟨c, hc⟩ := I.ok.has x (.inl hk)
    obtain ⟨w', z⟩ := I.cell x c hc
    refine wpAny_storeName_cell I.ok.kind hk hc z (fun h' hc' hs => ?_)
    obtain ⟨oc, hoc, hocd⟩ := id z
    refine h { s with heap := h' } ⟨I.ok, I.os, I.bare, ⟨fun b o e n hb hx => ?_, fun b o e n hb hx => ?_, I.base.free, fun b o e hx => ?_, I.base.tups, I.base.frzs, I.base.tbls⟩, ⟨m, hn.sameBut hs (Ne.symm (cne x c hc)), fun j y v' e1 e2 e3 => ?_⟩, fun y c' e => ?_, I.free, I.freeC, fun p hp => ?_, tracked ⟨oc, hoc, I.freeC x c hc⟩ hs, by simpa using I.len⟩ ⟨c, hs, .inr hc⟩
    · exact (hs.2 b (Nat.ne_of_lt (Nat.lt_of_lt_of_le (Heap.lt_size e) (I.ok.cab x c hfn hc)))).trans (I.base.keep b o e n hb hx)
    · obtain ⟨sl, e1⟩ := I.base.slot b o e n hb hx
      exact ⟨sl, (hs.2 b (Nat.ne_of_lt (Nat.lt_of_lt_of_le (Heap.lt_size e) (I.ok.cab x c hfn hc)))).trans e1⟩
    · obtain ⟨o', e1⟩ := I.base.there b o e hx
      exact ⟨o', (hs.2 b (Nat.ne_of_lt (Nat.lt_of_lt_of_le (Heap.lt_size e) (I.ok.cab x c hfn hc)))).trans e1⟩
    · by_cases hj : j = i
      · subst hj
        rw [hi] at e1; cases e1
        rw [List.getElem?_set_self hiσ] at e2
        cases e2
        exact ⟨u, r, .inr ⟨.inl hk, c, hc, hc'⟩⟩
      · rw [List.getElem?_set_ne (Ne.symm hj)] at e2
        obtain ⟨u', r', q⟩ := hl j y v' e1 e2 e3
        refine ⟨u', r', ?_⟩
        rcases q with q | ⟨k, c', e, z'⟩
        · exact .inl q
        · refine .inr ⟨k, c', e, z'.sameBut hs ?_⟩
          rintro rfl
          exact hj (nodup_ix hN e1 (I.ok.inj _ _ _ e hc ▸ hi))
    · by_cases hcc : c' = c
      · subst hcc; exact ⟨_, hc'⟩
      · obtain ⟨w2, z2⟩ := I.cell y c' e
        exact ⟨w2, z2.sameBut hs hcc⟩
    · obtain ⟨e, n, ne, nf, d⟩ := I.pin p hp
      refine ⟨(hs.2 p.1 ?_).trans e, n, ne, nf, d⟩
      intro q
      rw [q, hoc] at e
      have q' : oc = p.2 := Option.some.inj e
      exact d w' (by rw [← q']; exact hocd)
theorem store_ok {M : Model} {A : Around} {E : Value → Shared → Prop} {i : Nat} {x : Str} {v : V} {u : Value} {Q : Unit → Shared → Prop} (I : Inv X pins σ H s) (hN : X.N.Nodup) (hi : X.N[i]? = some x) (hx : Loc X.env.scope x) (r : RelV v u)
    (h : ∀ s', Inv X pins (σ.set i (some v)) H s' → Q () s') (hf : X.fn x = true ∨ X.env.scope.names.lookup x = some .local := by first | exact .inl rfl | exact .inr rfl | assumption) : wpAny M A (storeName X.env x u) Q E s :=
  store_ok2 I hN hi hx r (fun s' I' _ => h s' I') hf
/-- behind a call or a block, the state as it is -/
theorem Inv.call' {s' : Shared} {ch : List Addr} (I : Inv X pins σ H s) (ho : s'.os = s.os) (u : Un (frs X.stack) ch H H' s.heap s'.heap) (hok : HOk X.prog X.w H' s'.heap) (hg : AllBare s'.gens)
    (hch : ∀ b ∈ ch, (b ∈ X.ex ∨ X.s₀.heap.objs.size ≤ b) ∧ b ≠ X.env.locals ∧ (∀ x c, X.env.cells.lookup x = some c → c ≠ b) ∧ ∀ p ∈ X.pn ++ pins, p.1 ≠ b) : Inv X pins σ H' s' := by
  obtain ⟨h', g', d', t', o'⟩ := s'
  have e : o' = s.os := ho
  subst e
  exact I.call (g' := g') (t' := t') (d' := d') u hok hg hch
end

/-! ### the judgements -/
/-- an exception: its class, its own dict's address (where it has one), the abstract heap behind it -/
abbrev XK := Value → Option Addr → Hp → Prop
abbrev St := List (Option V)
abbrev VK := V → Hp → Prop
/-- an expression's reading; a test's; an argument list's -/
abbrev TE := St → Hp → VK → Prop
abbrev TT := St → Hp → (Bool → Hp → Prop) → Prop
abbrev TA := St → Hp → (List V → Hp → Prop) → Prop
/-- what is wanted behind a statement -/
structure Ends where
  nx : St → Hp → Prop
  rt : VK
  bk : St → Hp → Prop := fun _ _ => False
  ct : St → Hp → Prop := fun _ _ => False
abbrev TS := Ends → St → Hp → Prop

def EP (X : Cx) (pins : List (Addr × Obj)) (σ : St) (Q : VK) (u : Value) (s' : Shared) : Prop := ∃ v H', Inv X pins σ H' s' ∧ RelV v u ∧ Q v H'
def TP (X : Cx) (pins : List (Addr × Obj)) (σ : St) (Q : Bool → Hp → Prop) (b : Bool) (s' : Shared) : Prop := ∃ H', Inv X pins σ H' s' ∧ Q b H'
def AP (X : Cx) (pins : List (Addr × Obj)) (σ : St) (Q : List V → Hp → Prop) (us : List Value) (s' : Shared) : Prop := ∃ vs H', Inv X pins σ H' s' ∧ Vals vs us ∧ Q vs H'
def SP (X : Cx) (pins : List (Addr × Obj)) (D : Ends) (f : Flow) (s' : Shared) : Prop :=
  match f with
  | .next => ∃ σ' H', Inv X pins σ' H' s' ∧ D.nx σ' H'
  | .brk => ∃ σ' H', Inv X pins σ' H' s' ∧ D.bk σ' H'
  | .cont => ∃ σ' H', Inv X pins σ' H' s' ∧ D.ct σ' H'
  | .ret u => ∃ v σ' H', Inv X pins σ' H' s' ∧ RelV v u ∧ D.rt v H'

def PE (X : Cx) (e : Expr) (t : TE) : Prop :=
  ∀ (pins : List (Addr × Obj)) (s : Shared) (σ : St) (H : Hp) (Q : VK), Inv X pins σ H s → t σ H Q → wpAny (model X.prog X.w) X.A (eval e X.env) (EP X pins σ Q) X.xe s
def PT (X : Cx) (e : Expr) (t : TT) : Prop :=
  ∀ (pins : List (Addr × Obj)) (s : Shared) (σ : St) (H : Hp) (Q : Bool → Hp → Prop), Inv X pins σ H s → t σ H Q → wpAny (model X.prog X.w) X.A (isTrue e X.env (eval e X.env)) (TP X pins σ Q) X.xe s
/-- a test whatever its 'whole' is (and, or) -/
def PW (X : Cx) (e : Expr) (t : TT) : Prop :=
  ∀ (whole : Sem Value) (pins : List (Addr × Obj)) (s : Shared) (σ : St) (H : Hp) (Q : Bool → Hp → Prop), Inv X pins σ H s → t σ H Q → wpAny (model X.prog X.w) X.A (isTrue e X.env whole) (TP X pins σ Q) X.xe s
theorem PW.pt {X : Cx} {e : Expr} {t : TT} (h : PW X e t) : PT X e t := h _
/-- an argument list (no star), from the left -/
def PA (X : Cx) (es : List Expr) (t : TA) : Prop :=
  ∀ (pos : Pos) (pins : List (Addr × Obj)) (s : Shared) (σ : St) (H : Hp) (Q : List V → Hp → Prop), Inv X pins σ H s → t σ H Q → wpAny (model X.prog X.w) X.A (spliced (backTo pos (starEach es X.env))) (AP X pins σ Q) X.xe s
def PS (X : Cx) (st : Stmt) (t : TS) : Prop :=
  ∀ (pins : List (Addr × Obj)) (s : Shared) (σ : St) (H : Hp) (D : Ends), Inv X pins σ H s → t D σ H → wpAny (model X.prog X.w) X.A (exec st X.env) (SP X pins D) X.xe s
def PSs (X : Cx) (st : List Stmt) (t : TS) : Prop :=
  ∀ (pins : List (Addr × Obj)) (s : Shared) (σ : St) (H : Hp) (D : Ends), Inv X pins σ H s → t D σ H → wpAny (model X.prog X.w) X.A (execs st X.env) (SP X pins D) X.xe s
/-- weaken the end -/
theorem thn {α : Type} {t : Sem α} {Q Q' : α → Shared → Prop} {M : Model} {A : Around} {E : Value → Shared → Prop} {s : Shared} (h : wpAny M A t Q E s) (hQ : ∀ a s, Q a s → Q' a s) : wpAny M A t Q' E s := wpAny_mono h hQ fun _ _ x => x
end L2

namespace L2
open PySem PySem.Spec PyProof.Rows
section
variable {X : Cx}

/-! ### names and constants -/
def tVar (i : Nat) : TE := fun σ H Q => ∃ v, σ[i]? = some (some v) ∧ Q v H
def tC (v : V) : TE := fun _ H Q => Q v H
theorem pe_var {i : Nat} {x : Str} {pos : Pos} (hN : X.N[i]? = some x) (hv : Vis X.env.scope x) (hd : (x == ("__debug__" : Str)) = false := by decide) (hcd : (x == ("__classdict__" : Str)) = false := by decide) : PE X (.Name x pos) (tVar i) := by
  intro pins s σ H Q I h
  obtain ⟨v, e, h⟩ := h
  obtain ⟨m, hn, hl⟩ := I.loc
  obtain ⟨u, r, l⟩ := hl i x v hN e hv
  have fin : EP X pins σ Q u s := ⟨v, H, I, r, h⟩
  rcases l with ⟨hk, hm⟩ | ⟨hk, c, hc, hcell⟩
  · exact wpAny_Name (wpAny_loadName_local I.ok.kind hk hn hm fin) hd
  · rcases hk with hk | hk
    · exact wpAny_Name (wpAny_loadName_cell I.ok.kind hk hc hcell fin) hd
    · exact wpAny_Name (wpAny_loadName_free I.ok.kind hk hc hcell fin hcd) hd
theorem pe_int {i j pos} : PE X (.Constant (.int i) j pos) (tC (.int i)) := fun _ _ _ H _ I h => wpAny_Constant_int ⟨.int i, H, I.tok _, ⟨_, rfl⟩, h⟩
theorem pe_bl {b j pos} : PE X (.Constant (.bool b) j pos) (tC (.bl b)) := fun _ _ _ H _ I h => Constant_bool ⟨.bl b, H, I, rfl, h⟩
/-- a global name of the def -/
def Gl (X : Cx) (x : Str) : Prop := X.env.kindOf x = some .globalImplicit
theorem ld_glob {E : Value → Shared → Prop} {pins : List (Addr × Obj)} {s : Shared} {σ : St} {H : Hp} {x : Str} {u : Value} {pos : Pos} {Q : Value → Shared → Prop} (I : Inv X pins σ H s) (hg : Gl X x) (hm : X.mg x = some u) (h : Q u s)
    (hd : (x == ("__debug__" : Str)) = false := by decide) : wpAny (model X.prog X.w) X.A (eval (.Name x pos) X.env) Q E s :=
  Calls.Name_function_global I.ok.kind hg (Calls.loadGlobal_global (by rw [I.ok.glob]; exact I.mod.glob.keeps I.bk) hm h) hd
theorem ld_blt {E : Value → Shared → Prop} {pins : List (Addr × Obj)} {s : Shared} {σ : St} {H : Hp} {x : Str} {u : Value} {pos : Pos} {Q : Value → Shared → Prop} (I : Inv X pins σ H s) (hg : Gl X x) (hm : X.mg x = none) (hv : bootBuiltins x = some u) (h : Q u s)
    (hn : x ≠ "__name__" := by decide) (hd : (x == ("__debug__" : Str)) = false := by decide) : wpAny (model X.prog X.w) X.A (eval (.Name x pos) X.env) Q E s := by
  obtain ⟨mb, h1, h2⟩ := I.mod.blt
  exact Calls.Name_function_global I.ok.kind hg (Calls.loadGlobal_builtin (by rw [I.ok.glob]; exact I.mod.glob.keeps I.bk) hm (by rw [I.ok.blt]; exact h1.keeps I.bk) ((h2 x hn).trans hv) h) hd
theorem pe_bltn {x : Str} {v : V} {u : Value} {pos : Pos} (hg : Gl X x) (hm : X.mg x = none) (hv : bootBuiltins x = some u) (r : RelV v u) (hn : x ≠ "__name__" := by decide) (hd : (x == ("__debug__" : Str)) = false := by decide) : PE X (.Name x pos) (tC v) :=
  fun _ _ _ H _ I h => ld_blt I hg hm hv ⟨v, H, I, r, h⟩ hn hd

variable {a b : Expr} {ta tb : TE} {pos : Pos}
/-- a comparison as a value, as a test -/
def tB (t : TE) : TT := fun σ H Q => t σ H fun x H1 => ∃ c, x = .bl c ∧ Q c H1
/-- an expression whose value is a bool, as a test -/
theorem pt_val {e : Expr} {t : TE} (h : PE X e t) (he : ∀ whole, isTrue e X.env whole = (do let v ← whole; standAt e.pos; holding [v] (truthy v)) := by intro _; rfl) : PT X e (tB t) := by
  intro pins s σ H Q I hw
  refine isTrue_plain (thn (h pins s σ H _ I hw) fun v s1 ⟨x, H1, I1, r1, q1⟩ => ?_) (he _)
  obtain ⟨d, rfl, q⟩ := q1
  cases r1
  exact wpAny_truthy_bool ⟨H1, I1, q⟩

/-! ### and, or, not -/
variable {tA tB' : TT} {rest : List Expr}
def tAnd (t u : TT) : TT := fun σ H Q => t σ H fun c H1 => if c = true then u σ H1 Q else Q false H1
def tOr (t u : TT) : TT := fun σ H Q => t σ H fun c H1 => if c = true then Q true H1 else u σ H1 Q
def tNot (t : TT) : TT := fun σ H Q => t σ H fun c H1 => Q (!c) H1
theorem pw_and1 (ha : PT X a tA) : PW X (.BoolOp .And [a] pos) tA := by
  intro wh pins s σ H Q I h
  refine isTrue_and (thn (ha pins s σ H Q I h) fun c s1 e => ?_)
  cases c with
  | true => exact isTrue_and_nil e
  | false => exact e
theorem pw_or1 (ha : PT X a tA) : PW X (.BoolOp .Or [a] pos) tA := by
  intro wh pins s σ H Q I h
  refine isTrue_or (thn (ha pins s σ H Q I h) fun c s1 e => ?_)
  cases c with
  | false => exact isTrue_or_nil e
  | true => exact e
theorem pw_and (ha : PT X a tA) (hb : PW X (.BoolOp .And (b :: rest) pos) tB') : PW X (.BoolOp .And (a :: b :: rest) pos) (tAnd tA tB') := by
  intro wh pins s σ H Q I h
  refine isTrue_and (thn (ha pins s σ H _ I h) fun c s1 ⟨H1, I1, q1⟩ => ?_)
  cases c with
  | true => exact hb wh pins s1 σ H1 Q I1 q1
  | false => exact ⟨H1, I1, q1⟩
theorem pw_or (ha : PT X a tA) (hb : PW X (.BoolOp .Or (b :: rest) pos) tB') : PW X (.BoolOp .Or (a :: b :: rest) pos) (tOr tA tB') := by
  intro wh pins s σ H Q I h
  refine isTrue_or (thn (ha pins s σ H _ I h) fun c s1 ⟨H1, I1, q1⟩ => ?_)
  cases c with
  | true => exact ⟨H1, I1, q1⟩
  | false => exact hb wh pins s1 σ H1 Q I1 q1
theorem pt_not (ha : PT X a tA) : PT X (.UnaryOp .Not a pos) (tNot tA) := by
  intro pins s σ H Q I h
  exact isTrue_not (ha pins s σ H (fun c H1 => Q (!c) H1) I h)
/-- .. as values (bools) -/
def tAndV (ta tb : TE) : TE := fun σ H Q => ta σ H fun x H1 => ∃ c, x = .bl c ∧ if c = true then tb σ H1 Q else Q (.bl false) H1
def tNotV (ta : TE) : TE := fun σ H Q => ta σ H fun x H1 => ∃ c, x = .bl c ∧ Q (.bl (!c)) H1
theorem pe_one {op} {t : TE} (h : PE X a t) : PE X (.BoolOp op [a] pos) t := fun pins s σ H Q I hw => BoolOp_one (h pins s σ H Q I hw)
theorem pe_and (ha : PE X a ta) (hb : PE X (.BoolOp .And (b :: rest) pos) tb) : PE X (.BoolOp .And (a :: b :: rest) pos) (tAndV ta tb) := by
  intro pins s σ H Q I h
  refine BoolOp_and (thn (ha pins s σ H _ I h) fun v s1 ⟨x, H1, I1, r1, q1⟩ => ?_)
  obtain ⟨c, rfl, q1⟩ := q1
  cases r1
  refine wpAny_truthy_bool ?_
  cases c with
  | true => exact hb pins s1 σ H1 Q I1 q1
  | false => exact ⟨.bl false, H1, I1, rfl, q1⟩
theorem pe_not (ha : PE X a ta) : PE X (.UnaryOp .Not a pos) (tNotV ta) := by
  intro pins s σ H Q I h
  refine UnaryOp_ (thn (ha pins s σ H _ I h) fun v s1 ⟨x, H1, I1, r1, q1⟩ => ?_)
  obtain ⟨c, rfl, q1⟩ := q1
  cases r1
  exact not_of (wpAny_truthy_bool ⟨.bl (!c), H1, I1, rfl, q1⟩)
end
end L2

namespace L2
open PySem PySem.Spec PyProof.Rows

/-! ### a list, a tuple that is read: tracked, frozen, or an object of the module -/
def SqL (K : PySem.W.Frag) (H : Hp) (a : Addr) (xs : List V) : Prop :=
  Rd H a (.lst xs) ∨
    ∃ (o : Obj) (its : Array Value) (n : Nat), K.lookup a = some o ∧ o.cls = .type "list" ∧ o.dict = none ∧ o.data = .seq its n ∧ its.size ≤ sizeLine ∧ Vals xs its.toList
def SqT (K : PySem.W.Frag) (H : Hp) (a : Addr) (xs : List V) : Prop :=
  Rd H a (.tup xs) ∨
    ∃ (o : Obj) (its : Array Value) (n : Nat), K.lookup a = some o ∧ o.cls = .type "tuple" ∧ o.data = .seq its n ∧ its.size ≤ sizeLine ∧ Vals xs its.toList
def absV : Value → Option V
  | .none => some .non
  | .bool b => some (.bl b)
  | .int i _ => some (.int i)
  | .str x _ => some (.str x)
  | .bytes b _ => some (.byt b)
  | .float b _ => some (.flt b)
  | .ref a => some (.ref a)
  | .type n => some (.ty n)
  | _ => none
theorem RelV.abs {x : V} {u : Value} (r : RelV x u) : absV u = some x := by
  cases x with
  | non => cases r; rfl
  | bl _ => cases r; rfl
  | int _ => obtain ⟨t, rfl⟩ := r; rfl
  | str _ => obtain ⟨t, rfl⟩ := r; rfl
  | byt _ => obtain ⟨t, rfl⟩ := r; rfl
  | flt _ => obtain ⟨t, rfl⟩ := r; rfl
  | ref _ => cases r; rfl
  | ty _ => cases r; rfl
theorem RelV.inj {x y : V} {u : Value} (r : RelV x u) (q : RelV y u) : x = y := Option.some.inj (r.abs.symm.trans q.abs)
theorem Vals.inj : ∀ {xs ys : List V} {us : List Value}, Vals xs us → Vals ys us → xs = ys
  | _, _, _, .nil, .nil => rfl
  | _, _, _, .cons r t, .cons r' t' => by rw [r.inj r', Vals.inj t t']
section
variable {X : Cx} {pins : List (Addr × Obj)} {σ : St} {H : Hp} {s : Shared} {a : Addr} {xs ys : List V}
theorem SqL.of {K : PySem.W.Frag} (h : H a = some (.lst xs)) : SqL K H a xs := .inl (.inl h)
theorem SqT.of {K : PySem.W.Frag} (h : H a = some (.tup xs)) : SqT K H a xs := .inl (.inl h)
theorem Inv.list (I : Inv X pins σ H s) (h : SqL X.K H a xs) : ∃ its : List Value, Vals xs its ∧ PlainL s.heap a its.toArray ∧ xs.length ≤ sizeLine := by
  rcases h with h | ⟨o, its, n, hk, hc, hd, hs, hz, r⟩
  · obtain ⟨z, its, n, r, e⟩ := h.ok I.hok
    exact ⟨its, r, ⟨_, n, e, rfl, rfl, rfl⟩, z⟩
  · refine ⟨its.toList, r, ⟨o, n, I.kIn a o hk, hc, hd, by simpa using hs⟩, ?_⟩
    have e := r.length
    simp only [Array.length_toList] at e
    omega
theorem Inv.tuple (I : Inv X pins σ H s) (h : SqT X.K H a xs) : ∃ its : List Value, Vals xs its ∧ IsTup s.heap a its.toArray ∧ xs.length ≤ sizeLine := by
  rcases h with h | ⟨o, its, n, hk, hc, hs, hz, r⟩
  · obtain ⟨z, its, r, p⟩ := h.ok I.hok
    exact ⟨its, r, p, z⟩
  · refine ⟨its.toList, r, ⟨o, I.kIn a o hk, hc, n, by simpa using hs⟩, ?_⟩
    have e := r.length
    simp only [Array.length_toList] at e
    omega
theorem Inv.list_inj (I : Inv X pins σ H s) (h : SqL X.K H a xs) (h' : SqL X.K H a ys) : xs = ys := by
  obtain ⟨its, r, ⟨o, n, e, _, _, d⟩, _⟩ := I.list h
  obtain ⟨its', r', ⟨o', n', e', _, _, d'⟩, _⟩ := I.list h'
  rw [e] at e'; cases e'
  rw [d] at d'
  injection d' with d1 _
  have : its = its' := by simpa using congrArg Array.toList d1
  subst this
  exact r.inj r'
theorem Inv.tuple_inj (I : Inv X pins σ H s) (h : SqT X.K H a xs) (h' : SqT X.K H a ys) : xs = ys := by
  obtain ⟨its, r, ⟨o, e, _, n, d⟩, _⟩ := I.tuple h
  obtain ⟨its', r', ⟨o', e', _, n', d'⟩, _⟩ := I.tuple h'
  rw [e] at e'; cases e'
  rw [d] at d'
  injection d' with d1 _
  have : its = its' := by simpa using congrArg Array.toList d1
  subst this
  exact r.inj r'
end

/-! ### another wish about exceptions -/
abbrev Cx.wish (X : Cx) (E : Value → Shared → Prop) : Cx := { X with xe := E }
/-- no exception leaves -/
abbrev Cx.nox (X : Cx) : Cx := X.wish fun _ _ => False
theorem Cx.Ok.wish {X : Cx} (ok : X.Ok) (E : Value → Shared → Prop) : (X.wish E).Ok :=
  ⟨ok.mod, ok.kind, ok.glob, ok.blt, ok.above, ok.inj, ok.has, ok.cab, ok.hd, ok.frames, ok.stk, ok.exf, ok.bs, ok.bsz, ok.noex, ok.exfs, ok.funs, ok.frf⟩
theorem Cx.Ok.unwish {X : Cx} {E : Value → Shared → Prop} (ok : (X.wish E).Ok) : X.Ok :=
  ⟨ok.mod, ok.kind, ok.glob, ok.blt, ok.above, ok.inj, ok.has, ok.cab, ok.hd, ok.frames, ok.stk, ok.exf, ok.bs, ok.bsz, ok.noex, ok.exfs, ok.funs, ok.frf⟩
section
variable {X : Cx} {pins : List (Addr × Obj)} {σ : St} {H : Hp} {s : Shared} {E : Value → Shared → Prop}
theorem Inv.wish (I : Inv X pins σ H s) (E : Value → Shared → Prop) : Inv (X.wish E) pins σ H s := ⟨I.ok.wish E, I.os, I.bare, I.base, I.loc, I.cell, I.free, I.freeC, I.pin, I.hok, I.len⟩
theorem Inv.unwish (I : Inv (X.wish E) pins σ H s) : Inv X pins σ H s := ⟨I.ok.unwish, I.os, I.bare, I.base, I.loc, I.cell, I.free, I.freeC, I.pin, I.hok, I.len⟩
theorem SP.unwish {D : Ends} {f : Flow} {s' : Shared} (h : SP (X.wish E) pins D f s') : SP X pins D f s' := by
  cases f with
  | next => obtain ⟨σ', H', I, q⟩ := h; exact ⟨σ', H', I.unwish, q⟩
  | brk => obtain ⟨σ', H', I, q⟩ := h; exact ⟨σ', H', I.unwish, q⟩
  | cont => obtain ⟨σ', H', I, q⟩ := h; exact ⟨σ', H', I.unwish, q⟩
  | ret u => obtain ⟨v, σ', H', I, r, q⟩ := h; exact ⟨v, σ', H', I.unwish, r, q⟩
theorem PE.nox {e : Expr} {t : TE} (h : PE X.nox e t) : PE X e t := fun pins s σ H Q I hw =>
  wpAny_mono (h pins s σ H Q (I.wish _) hw) (fun _ _ ⟨v, H', I', r, q⟩ => ⟨v, H', I'.unwish, r, q⟩) fun _ _ z => False.elim z
theorem PT.nox {e : Expr} {t : TT} (h : PT X.nox e t) : PT X e t := fun pins s σ H Q I hw =>
  wpAny_mono (h pins s σ H Q (I.wish _) hw) (fun _ _ ⟨H', I', q⟩ => ⟨H', I'.unwish, q⟩) fun _ _ z => False.elim z
theorem PSs.nox {st : List Stmt} {t : TS} (h : PSs X.nox st t) : PSs X st t := fun pins s σ H D I hw =>
  wpAny_mono (h pins s σ H D (I.wish _) hw) (fun _ _ q => q.unwish) fun _ _ z => False.elim z
end

/-! ### blocks and small statements -/
section
variable {X : Cx} {st : Stmt} {rest : List Stmt} {t u : TS} {e : Expr} {te : TE} {pos : Pos}
def tNext : TS := fun D σ H => D.nx σ H
def tSeq (t u : TS) : TS := fun D σ H => t { D with nx := u D } σ H
theorem pss_nil : PSs X [] tNext := fun _ _ σ H _ I h => wpAny_execs_nil ⟨σ, H, I, h⟩
theorem pss_cons (h1 : PS X st t) (h2 : PSs X rest u) : PSs X (st :: rest) (tSeq t u) := by
  intro pins s σ H D I h
  refine wpAny_execs_cons (thn (h1 pins s σ H { D with nx := u D } I h) fun f s1 q => ?_)
  cases f with
  | next =>
    obtain ⟨σ', H', I', q⟩ := q
    exact h2 pins s1 σ' H' D I' q
  | ret v => exact q
  | brk => exact q
  | cont => exact q
theorem pss_one (h1 : PS X st t) : PSs X [st] t := by
  intro pins s σ H D I h
  refine wpAny_execs_cons (thn (h1 pins s σ H D I h) fun f s1 q => ?_)
  cases f with
  | next => exact wpAny_execs_nil q
  | ret v => exact q
  | brk => exact q
  | cont => exact q
/-- in a def's body nothing is shown -/
theorem Inv.quiet {pins : List (Addr × Obj)} {σ : St} {H : Hp} {s : Shared} (I : Inv X pins σ H s) : interactive X.env = false := by simp [interactive, I.ok.kind]
/-- an expression whose value is dropped -/
def tDrop (te : TE) : TS := fun D σ H => te σ H fun _ H1 => D.nx σ H1
theorem ps_expr (he : PE X e te) (hs : swapsWith e none pos.line X.env = pure false := by rfl) : PS X (.Expr e pos) (tDrop te) := by
  intro pins s σ H D I h
  exact wpAny_Expr_any (thn (he pins s σ H _ I h) fun v s1 ⟨x, H1, I1, r1, q1⟩ => ⟨σ, H1, I1, q1⟩) I.quiet hs
def tRet (te : TE) : TS := fun D σ H => te σ H D.rt
theorem ps_ret (he : PE X e te) : PS X (.Return (some e) pos) (tRet te) := by
  intro pins s σ H D I h
  exact wpAny_Return_some (thn (he pins s σ H _ I h) fun v s1 ⟨x, H1, I1, r1, q1⟩ => ⟨x, σ, H1, I1, r1, q1⟩)
def tIfS (c : TT) (t u : TS) : TS := fun D σ H => c σ H fun b H1 => if b = true then t D σ H1 else u D σ H1
theorem ps_if {c : Expr} {a b : List Stmt} {tc : TT} (hc : PT X c tc) (ha : PSs X a t) (hb : PSs X b u) : PS X (.If c a b pos) (tIfS tc t u) := by
  intro pins s σ H D I h
  refine wpAny_If (thn (hc pins s σ H _ I h) fun d s1 ⟨H1, I1, q1⟩ => ?_)
  cases d with
  | true => exact ha pins s1 σ H1 D I1 q1
  | false => exact hb pins s1 σ H1 D I1 q1
end

/-! ### targets -/
abbrev TG := V → St → Hp → (St → Hp → Prop) → Prop
abbrev TGs := List V → St → Hp → (St → Hp → Prop) → Prop
def PG (X : Cx) (target : Expr) (t : TG) : Prop :=
  ∀ (pins : List (Addr × Obj)) (s : Shared) (σ : St) (H : Hp) (v : V) (u : Value) (Q : St → Hp → Prop), Inv X pins σ H s → RelV v u → t v σ H Q →
    wpAny (model X.prog X.w) X.A (assign target X.env u) (fun _ s' => ∃ σ' H', Inv X pins σ' H' s' ∧ Q σ' H') X.xe s
/-- several targets, one after another -/
def PGs (X : Cx) (ts : List Expr) (t : TGs) : Prop :=
  ∀ (pins : List (Addr × Obj)) (s : Shared) (σ : St) (H : Hp) (vs : List V) (us : List Value) (Q : St → Hp → Prop), Inv X pins σ H s → Vals vs us → t vs σ H Q →
    wpAny (model X.prog X.w) X.A (assignInOrder ((assignEach ts X.env).map (·.2)) us) (fun _ s' => ∃ σ' H', Inv X pins σ' H' s' ∧ Q σ' H') X.xe s
/-- o[i] = v, by values -/
abbrev TSet := V → V → V → Hp → (Hp → Prop) → Prop
def PSet (X : Cx) (t : TSet) : Prop :=
  ∀ (pins : List (Addr × Obj)) (s : Shared) (σ : St) (H : Hp) (o i v : V) (ov iv u : Value) (Q : Hp → Prop), Inv X pins σ H s → RelV o ov → RelV i iv → RelV v u → t o i v H Q →
    wpAny (model X.prog X.w) X.A (setItem ov iv u) (fun _ s' => ∃ H', Inv X pins σ H' s' ∧ Q H') X.xe s
section
variable {X : Cx} {pos : Pos}
def gName (i : Nat) : TG := fun v σ H Q => Q (σ.set i (some v)) H
theorem pg_name {i : Nat} {x : Str} (hN : X.N.Nodup) (hi : X.N[i]? = some x) (hx : Loc X.env.scope x) (hf : X.fn x = true ∨ X.env.scope.names.lookup x = some .local := by first | exact .inl rfl | exact .inr rfl | assumption) : PG X (.Name x pos) (gName i) := by
  intro pins s σ H v u Q I r h
  exact wpAny_assign_Name (store_ok I hN hi hx r (fun s' I' => ⟨_, H, I', h⟩) hf)
def gNil : TGs := fun vs σ H Q => vs = [] ∧ Q σ H
def gCons (t : TG) (u : TGs) : TGs := fun vs σ H Q => ∃ v r, vs = v :: r ∧ t v σ H fun σ' H' => u r σ' H' Q
theorem pgs_nil : PGs X [] gNil := by
  intro pins s σ H vs us Q I r h
  obtain ⟨e, h⟩ := h
  subst e
  cases r
  exact assignInOrder_nil ⟨σ, H, I, h⟩
theorem pgs_cons {e : Expr} {es : List Expr} {t : TG} {u : TGs} (h1 : PG X e t) (h2 : PGs X es u)
    (hs : (assignEach (e :: es) X.env).map (·.2) = assign e X.env :: (assignEach es X.env).map (·.2) := by rfl) : PGs X (e :: es) (gCons t u) := by
  intro pins s σ H vs us Q I r h
  obtain ⟨v, vr, e1, h⟩ := h
  subst e1
  cases r with
  | cons r rr =>
    rw [hs]
    refine assignInOrder_cons (thn (h1 pins s σ H _ _ _ I r h) fun _ s1 ⟨σ1, H1, I1, q1⟩ => ?_)
    exact h2 pins s1 σ1 H1 _ _ Q I1 rr q1
/-- (a, b, ..) = a tuple of that length -/
def gTup (K : PySem.W.Frag) (n : Nat) (t : TGs) : TG := fun v σ H Q => ∃ a xs, v = .ref a ∧ SqT K H a xs ∧ xs.length = n ∧ t xs σ H Q
theorem pg_tup {es : List Expr} {k : Nat} {t : TGs} {n : Nat} (hc : X.calm = true) (h : PGs X es t)
    (hn : (assignEach es X.env).length = n := by rfl) (hst : (assignEach es X.env).findIdx? (·.1) = none := by rfl) : PG X (.Tuple es k pos) (gTup X.K n t) := by
  intro pins s σ H v u Q I r hw
  obtain ⟨a, xs, e1, hq, hl, hw⟩ := hw
  subst e1
  cases r
  obtain ⟨its, rv, ht, hz⟩ := I.tuple hq
  refine assign_Tuple_tuple (I.ok.hd hc) ht (by simp [hn, ← hl, rv.length]) hst fun h' hx => ?_
  have I1 : Inv X pins σ H { s with heap := h' } := I.kept (t' := s.toks) fun b o e => hx b o (Nat.ne_of_lt (Heap.lt_size e)) e
  exact h pins _ σ H xs _ Q I1 (by simpa using rv) hw
/-- o[i] = .. -/
def gSub (to ti : TE) (t : TSet) : TG := fun v σ H Q => to σ H fun o H1 => ti σ H1 fun i H2 => t o i v H2 fun H3 => Q σ H3
theorem pg_sub {o i : Expr} {to ti : TE} {t : TSet} (ho : PE X o to) (hi : PE X i ti) (hs : PSet X t)
    (ha : ∀ v, assign (.Subscript o i pos) X.env v = (do
      let ov ← holding [v] (eval o X.env)
      let iv ← holding [v, ov] (eval i X.env)
      standAt pos
      holding [v, ov, iv] (setItem ov iv v)
      release [v, ov, iv] []) := by intro _; rfl) : PG X (.Subscript o i pos) (gSub to ti t) := by
  intro pins s σ H v u Q I r h
  rw [ha]
  refine wpAny_bind (wpAny_holding (thn (ho pins s σ H _ I h) fun ov s1 ⟨x, H1, I1, r1, q1⟩ => ?_))
  refine wpAny_bind (wpAny_holding (thn (hi pins s1 σ H1 _ I1 q1) fun iv s2 ⟨y, H2, I2, r2, q2⟩ => ?_))
  refine wpAny_bind (wpAny_standAt (wpAny_bind (wpAny_holding (thn (hs pins s2 σ H2 x y v ov iv u _ I2 r1 r2 r q2) fun _ s3 ⟨H3, I3, q3⟩ => ?_))))
  exact wpAny_release ⟨σ, H3, I3, q3⟩
/-- target = value -/
def tAsg (te : TE) (g : TG) : TS := fun D σ H => te σ H fun x H1 => g x σ H1 D.nx
theorem ps_asg {tg e : Expr} {te : TE} {g : TG} (he : PE X e te) (hg : PG X tg g) (hs : swapsWithSole [tg] e pos.line X.env = pure false := by rfl) (hw : swappedStores [tg] e X.env = pure none := by rfl)
    (h1 : (assignEach [tg] X.env).map (·.2) = [assign tg X.env] := by rfl) : PS X (.Assign [tg] e pos) (tAsg te g) := by
  intro pins s σ H D I h
  refine wpAny_Assign_stores (thn (he pins s σ H _ I h) fun v s1 ⟨x, H1, I1, r1, q1⟩ => ?_) hs hw
  rw [h1]
  exact thn (hg pins s1 σ H1 x v _ I1 r1 q1) fun _ s2 q => q
/-- name = value -/
theorem ps_set {i : Nat} {x : Str} {e : Expr} {te : TE} {pos' : Pos} (hN : X.N.Nodup) (hi : X.N[i]? = some x) (hx : Loc X.env.scope x) (he : PE X e te) (hs : swapsWith e (some (.Name x pos')) pos.line X.env = pure false := by rfl) (hf : X.fn x = true ∨ X.env.scope.names.lookup x = some .local := by first | exact .inl rfl | exact .inr rfl | assumption) :
    PS X (.Assign [.Name x pos'] e pos) (tAsg te (gName i)) := by
  intro pins s σ H D I h
  refine wpAny_Assign_Name (thn (he pins s σ H _ I h) fun v s1 ⟨y, H1, I1, r1, q1⟩ => ?_) hs
  exact store_ok I1 hN hi hx r1 (fun s2 I2 => ⟨_, H1, I2, q1⟩) hf
end

/-! ### while -/
section
variable {X : Cx} {pos : Pos}
end

/-! ### what a loop or a comprehension walks -/
/-- at turn i: it yields x (the heap may grow), or it stops -/
structure It where
  go : Nat → Hp → Prop
  yld : Nat → Hp → V → Hp → Prop
  stop : Nat → Hp → Prop
/-- the iterator's own objects may turn: they are not the frame's, not pinned, younger than the entry (or a comprehension's own) -/
def FpOk (X : Cx) (pins : List (Addr × Obj)) (H : Hp) (b : Addr) : Prop :=
  H b = none ∧ b ≠ X.env.locals ∧ b ∉ X.fs ∧ (b ∈ X.ex ∨ X.s₀.heap.objs.size ≤ b) ∧ (∀ x c, X.env.cells.lookup x = some c → c ≠ b) ∧ ∀ p ∈ X.pn ++ pins, p.1 ≠ b
theorem Inv.fpOk {X : Cx} {pins : List (Addr × Obj)} {σ : St} {H H' : Hp} {s : Shared} {b : Addr} (I : Inv X pins σ H s) (hb : s.heap.objs.size ≤ b) (hn : H' b = none) : FpOk X pins H' b := by
  refine ⟨hn, Nat.ne_of_gt (Nat.lt_of_lt_of_le I.lt hb), I.nofs hb, .inr (Nat.le_trans I.sz hb), fun x c e z => ?_, fun p hp z => ?_⟩
  · obtain ⟨v, q⟩ := I.cell x c e
    exact absurd (Nat.lt_of_lt_of_le q.lt (by rw [z]; exact hb)) (Nat.lt_irrefl _)
  · exact absurd (Nat.lt_of_lt_of_le (Heap.lt_size (I.pin p hp).1) (by rw [z]; exact hb)) (Nat.lt_irrefl _)
structure Turn (P : Program) (w : World) (K : PySem.W.Frag) (tg : Expr) (J : It) (fp : List Addr) (it : Addr) (tn : Nat → Heap → Prop) : Prop where
  mem : it ∈ fp
  obj : ∀ i h, tn i h → ∀ b ∈ fp, ∃ o, h.get? b = some o ∧ ∀ v, o.data ≠ .cell v
  keep : ∀ i h h', tn i h → (∀ b ∈ fp, ∀ o, h.get? b = some o → h'.get? b = some o) → tn i h'
  item : ∀ (X : Cx), X.prog = P → X.w = w → X.K = K → X.calm = true → ∀ (i : Nat) (pins : List (Addr × Obj)) (s : Shared) (σ : St) (H : Hp) (E : Value → Shared → Prop), Inv X pins σ H s → (∀ b ∈ fp, FpOk X pins H b) → tn i s.heap → J.go i H →
    wpAny (model P w) X.A (pyNext (.ref it)) (fun r s1 => ∃ u, r = some u ∧
      wpAny (model P w) X.A (letOwnedTupleGo tg (.ref it) u) (fun _ s2 => ∃ x H', Inv X pins σ H' s2 ∧ RelV x u ∧ J.yld i H x H' ∧ tn (i + 1) s2.heap ∧ ∀ b ∈ fp, H' b = none) E s1) E s
  done : ∀ (X : Cx), X.prog = P → X.w = w → X.K = K → X.calm = true → ∀ (i : Nat) (pins : List (Addr × Obj)) (s : Shared) (σ : St) (H : Hp) (E : Value → Shared → Prop), Inv X pins σ H s → (∀ b ∈ fp, FpOk X pins H b) → tn i s.heap → J.stop i H →
    wpAny (model P w) X.A (pyNext (.ref it)) (fun r s1 => r = none ∧ Inv X pins σ H s1) E s
  self : ∀ (A : Around) (i : Nat) (s : Shared) (Q : Value → Shared → Prop) (E : Value → Shared → Prop), tn i s.heap → Q (.ref it) s → wpAny (model P w) A (pyIter (.ref it)) Q E s
abbrev TI := St → Hp → (It → Hp → Prop) → Prop
/-- an iterator has come -/
def PIE (X : Cx) (pins : List (Addr × Obj)) (σ : St) (tg : Expr) (R : It → Hp → Prop) (itv : Value) (s2 : Shared) : Prop :=
  ∃ (it : Addr) (fp : List Addr) (tn : Nat → Heap → Prop) (J : It) (H' : Hp), itv = .ref it ∧ Inv X pins σ H' s2 ∧ Turn X.prog X.w X.K tg J fp it tn ∧ tn 0 s2.heap ∧ (∀ b ∈ fp, FpOk X pins H' b) ∧ R J H'
def PI (X : Cx) (tg iter : Expr) (wi : TI) : Prop :=
  ∀ (pins : List (Addr × Obj)) (s : Shared) (σ : St) (H : Hp) (R : It → Hp → Prop), Inv X pins σ H s → wi σ H R →
    wpAny (model X.prog X.w) X.A (eval iter X.env) (fun v s1 => wpAny (model X.prog X.w) X.A (pyIter v) (PIE X pins σ tg R) X.xe s1) X.xe s

/-- the step ahead of the store is nothing for an iterator that keeps no tuple -/
theorem go_of {M : Model} {A : Around} {E : Value → Shared → Prop} {s : Shared} {tg : Expr} {it : Addr} {u : Value} {o : Obj} {n : String} {vs : Array Value} {Q : Unit → Shared → Prop} (ho : s.heap.get? it = some o) (hc : o.cls = .type n) (hd : o.data = .fields vs)
    (hn : ["enumerate", "zip", "dict_itemiterator", "dict_reverseitemiterator", "odict_iterator", "itertools.zip_longest", "itertools.pairwise"].contains n = false) (hQ : Q () s) : wpAny M A (letOwnedTupleGo tg (.ref it) u) Q E s := by
  unfold letOwnedTupleGo
  cases tg <;> first
    | exact wpAny_pure hQ
    | (cases u <;> first
        | exact wpAny_pure hQ
        | (refine wpAny_bind (wpAny_load ho ?_)
           rw [hc, hd]
           show wpAny M A (if (["enumerate", "zip", "dict_itemiterator", "dict_reverseitemiterator", "odict_iterator", "itertools.zip_longest", "itertools.pairwise"].contains n && vs[0]? == some (rawInt _)) = true then _ else _) Q E s
           rw [if_neg (by intro h; rw [hn, Bool.false_and] at h; cases h)]
           exact wpAny_pure hQ))

/-- the list at a, as it stands at each turn (a loop may append to it) -/
def Itl (K : PySem.W.Frag) (a : Addr) : It :=
  ⟨fun i H => ∃ xs x, SqL K H a xs ∧ xs[i]? = some x, fun i H x H' => H' = H ∧ ∀ xs, SqL K H a xs → xs[i]? = some x, fun i H => ∃ xs, SqL K H a xs ∧ xs.length ≤ i⟩
def Itt (K : PySem.W.Frag) (a : Addr) : It :=
  ⟨fun i H => ∃ xs x, SqT K H a xs ∧ xs[i]? = some x, fun i H x H' => H' = H ∧ ∀ xs, SqT K H a xs → xs[i]? = some x, fun i H => ∃ xs, SqT K H a xs ∧ xs.length ≤ i⟩
/-- lo, lo + 1, .. (n of them) -/
def Itr (lo : Int) (n : Nat) : It := ⟨fun i _ => i < n, fun i H x H' => H' = H ∧ x = .int (lo + i), fun i _ => n ≤ i⟩
theorem turn_list {P : Program} {w : World} {K : PySem.W.Frag} {tg : Expr} (a it : Addr) : Turn P w K tg (Itl K a) [it] it (fun i h => h.IsListIter it a i) where
  mem := by simp
  obj := fun i h st b hb => by
    have e : b = it := by simpa using hb
    subst e
    obtain ⟨o, e, c, d⟩ := st
    exact ⟨o, e, fun v z => by rw [d] at z; cases z⟩
  keep := fun i h h' st k => st.at fun o e => k it (by simp) o e
  item := by
    intro X hP hw hK hc i pins s σ H E I hf st hg
    subst hP hw hK
    obtain ⟨xs, x, hq, hx⟩ := hg
    obtain ⟨its, rv, p, hz⟩ := I.list hq
    obtain ⟨u, hu, ru⟩ := rv.get hx
    obtain ⟨f0, f1, f2, f3, f4, f5⟩ := hf it (by simp)
    refine wpAny_pyNext_list_item st p.isList (x := u) (by simpa using hu) fun h' st' sb => ?_
    have I1 : Inv X pins σ H { s with heap := h' } := I.turned (t' := s.toks) (fun b o hb e => (sb.2 b hb).trans e) f0 f1 f3 f4 f5
    obtain ⟨o, e, c, d⟩ := id st'
    exact ⟨u, rfl, go_of (s := { s with heap := h' }) e c d (by decide) ⟨x, H, I1, ru, ⟨rfl, fun ys hy => by rw [I.list_inj hy hq]; exact hx⟩, st', fun b hb => (hf b hb).1⟩⟩
  done := by
    intro X hP hw hK hc i pins s σ H E I hf st hg
    subst hP hw hK
    obtain ⟨xs, hq, hx⟩ := hg
    obtain ⟨its, rv, p, hz⟩ := I.list hq
    obtain ⟨f0, f1, f2, f3, f4, f5⟩ := hf it (by simp)
    have hl := rv.length
    exact wpAny_pyNext_list_end (I.ok.hd hc) st p.isList (by simp; omega) fun h' eb => ⟨rfl, I.turned (t' := s.toks) (fun b o hb e => eb b o hb e) f0 f1 f3 f4 f5⟩
  self := fun _ _ _ _ _ st h => wpAny_pyIter_listiter st h
theorem turn_tuple {P : Program} {w : World} {K : PySem.W.Frag} {tg : Expr} (a it : Addr) : Turn P w K tg (Itt K a) [it] it (fun i h => h.IsTupleIter it a i) where
  mem := by simp
  obj := fun i h st b hb => by
    have e : b = it := by simpa using hb
    subst e
    obtain ⟨o, e, c, d⟩ := st
    exact ⟨o, e, fun v z => by rw [d] at z; cases z⟩
  keep := fun i h h' st k => st.at fun o e => k it (by simp) o e
  item := by
    intro X hP hw hK hc i pins s σ H E I hf st hg
    subst hP hw hK
    obtain ⟨xs, x, hq, hx⟩ := hg
    obtain ⟨its, rv, p, hz⟩ := I.tuple hq
    obtain ⟨u, hu, ru⟩ := rv.get hx
    obtain ⟨f0, f1, f2, f3, f4, f5⟩ := hf it (by simp)
    refine wpAny_pyNext_tuple_item st (show s.heap.IsTuple a its.toArray from p) (x := u) (by simpa using hu) fun h' st' sb => ?_
    have I1 : Inv X pins σ H { s with heap := h' } := I.turned (t' := s.toks) (fun b o hb e => (sb.2 b hb).trans e) f0 f1 f3 f4 f5
    obtain ⟨o, e, c, d⟩ := id st'
    exact ⟨u, rfl, go_of (s := { s with heap := h' }) e c d (by decide) ⟨x, H, I1, ru, ⟨rfl, fun ys hy => by rw [I.tuple_inj hy hq]; exact hx⟩, st', fun b hb => (hf b hb).1⟩⟩
  done := by
    intro X hP hw hK hc i pins s σ H E I hf st hg
    subst hP hw hK
    obtain ⟨xs, hq, hx⟩ := hg
    obtain ⟨its, rv, p, hz⟩ := I.tuple hq
    obtain ⟨f0, f1, f2, f3, f4, f5⟩ := hf it (by simp)
    have hl := rv.length
    exact wpAny_pyNext_tuple_end (I.ok.hd hc) st (show s.heap.IsTuple a its.toArray from p) (by simp; omega) fun h' eb => ⟨rfl, I.turned (t' := s.toks) (fun b o hb e => eb b o hb e) f0 f1 f3 f4 f5⟩
  self := fun _ _ _ _ _ st h => wpAny_pyIter_tupleiter st h
theorem turn_range {P : Program} {w : World} {K : PySem.W.Frag} {tg : Expr} (it : Addr) (lo : Int) (n : Nat) : Turn P w K tg (Itr lo n) [it] it (fun i h => IsRangeIter h it (lo + (i : Nat) * 1) ((n : Int) - (i : Nat)) 1) where
  mem := by simp
  obj := fun i h st b hb => by
    have e : b = it := by simpa using hb
    subst e
    exact ⟨_, st, fun v z => by
      have z' : Data.fields _ = Data.cell v := z
      cases z'⟩
  keep := fun i h h' st k => k it (by simp) _ st
  item := by
    intro X hP hw hK hc i pins s σ H E I hf st hg
    subst hP hw hK
    obtain ⟨f0, f1, f2, f3, f4, f5⟩ := hf it (by simp)
    have W := Walks.range (prog := X.prog) (w := X.w) (I.ok.hd hc) it lo 1 n
    refine W.item i s _ _ hg st fun v h' tk hv st' kk => ?_
    obtain ⟨t, rfl⟩ := hv
    have I1 : Inv X pins σ H { s with heap := h', toks := tk } := I.turned (fun b o hb e => kk b o (by simpa using hb) e) f0 f1 f3 f4 f5
    refine ⟨_, rfl, go_of (s := { s with heap := h', toks := tk }) (n := "range_iterator") st' rfl rfl (by decide) ⟨.int (lo + i), H, I1, ⟨t, ?_⟩, ⟨rfl, rfl⟩, st', fun b hb => (hf b hb).1⟩⟩
    rw [Int.mul_one]
  done := by
    intro X hP hw hK hc i pins s σ H E I hf st hg
    subst hP hw hK
    obtain ⟨f0, f1, f2, f3, f4, f5⟩ := hf it (by simp)
    exact wpAny_pyNext_range_end (I.ok.hd hc) st (by have : n ≤ i := hg; omega) fun h' eb => ⟨rfl, I.turned (t' := s.toks) (fun b o hb e => eb b o hb e) f0 f1 f3 f4 f5⟩
  self := fun _ _ _ _ _ st h => wpAny_pyIter_rangeiter st h
end L2

namespace L2
open PySem PySem.Spec PyProof.Rows
section
variable {X : Cx} {tg : Expr}
def iList (K : PySem.W.Frag) (tl : TE) : TI := fun σ H R => tl σ H fun x H1 => ∃ a, x = .ref a ∧ (∃ xs, SqL K H1 a xs) ∧ R (Itl K a) H1
def iTup (K : PySem.W.Frag) (tl : TE) : TI := fun σ H R => tl σ H fun x H1 => ∃ a, x = .ref a ∧ (∃ xs, SqT K H1 a xs) ∧ R (Itt K a) H1
theorem pi_list {l : Expr} {tl : TE} (hl : PE X l tl) : PI X tg l (iList X.K tl) := by
  intro pins s σ H R I h
  refine thn (hl pins s σ H _ I h) fun v s1 ⟨x, H1, I1, r1, q1⟩ => ?_
  obtain ⟨a, e, ⟨xs, hq⟩, q⟩ := q1
  subst e
  cases r1
  obtain ⟨its, rv, p, hz⟩ := I1.list hq
  refine wpAny_pyIter_list p.isList ?_
  refine ⟨s1.heap.objs.size, [s1.heap.objs.size], _, _, H1, rfl, I1.kept (t' := s1.toks) fun b o e => Heap.get?_push_of_some _ e, turn_list a _, ⟨_, Heap.get?_push_size _ rfl, rfl, rfl⟩, fun b hb => ?_, q⟩
  have e : b = s1.heap.objs.size := by simpa using hb
  subst e
  exact I1.fpOk (Nat.le_refl _) (I1.hok.fresh (Nat.le_refl _))
theorem pi_tup {l : Expr} {tl : TE} (hl : PE X l tl) : PI X tg l (iTup X.K tl) := by
  intro pins s σ H R I h
  refine thn (hl pins s σ H _ I h) fun v s1 ⟨x, H1, I1, r1, q1⟩ => ?_
  obtain ⟨a, e, ⟨xs, hq⟩, q⟩ := q1
  subst e
  cases r1
  obtain ⟨its, rv, p, hz⟩ := I1.tuple hq
  refine wpAny_pyIter_tuple (show s1.heap.IsTuple a its.toArray from p) ?_
  refine ⟨s1.heap.objs.size, [s1.heap.objs.size], _, _, H1, rfl, I1.kept (t' := s1.toks) fun b o e => Heap.get?_push_of_some _ e, turn_tuple a _, ⟨_, Heap.get?_push_size _ rfl, rfl, rfl⟩, fun b hb => ?_, q⟩
  have e : b = s1.heap.objs.size := by simpa using hb
  subst e
  exact I1.fpOk (Nat.le_refl _) (I1.hok.fresh (Nat.le_refl _))
/-- a range object just made, walked -/
theorem range_it {pins : List (Addr × Obj)} {σ : St} {H : Hp} {s : Shared} {R : It → Hp → Prop} {E : Value → Shared → Prop} {lo hi : Int} {t u v : Tok} {tk : Nat} (I : Inv X pins σ H s) (h1 : -(2 ^ 62) ≤ lo) (h2 : lo < 2 ^ 62) (h3 : -(2 ^ 62) ≤ hi) (h4 : hi < 2 ^ 62)
    (q : R (Itr lo (hi - lo).toNat) H) : wpAny (model X.prog X.w) X.A (pyIter (.ref s.heap.objs.size)) (PIE X pins σ tg R) E { s with heap := s.heap.push { cls := .type "range", data := .fields #[.int lo t, .int hi u, .int 1 v] }, toks := tk } := by
  refine wpAny_pyIter_range (IsRange.new ..) (small_one h1 h2 h3 h4) ?_
  have I1 : Inv X pins σ H { s with heap := s.heap.push { cls := .type "range", data := .fields #[.int lo t, .int hi u, .int 1 v] }, toks := tk } := I.kept fun b o e => Heap.get?_push_of_some _ e
  refine ⟨(s.heap.push { cls := .type "range", data := .fields #[.int lo t, .int hi u, .int 1 v] }).objs.size, [(s.heap.push { cls := .type "range", data := .fields #[.int lo t, .int hi u, .int 1 v] }).objs.size], _, _, H, rfl,
    I1.kept (t' := tk) fun b o e => Heap.get?_push_of_some _ e, turn_range _ lo (hi - lo).toNat, ?_, fun b hb => ?_, q⟩
  · have e1 : lo + ((0 : Nat) : Int) * 1 = lo := by simp
    have e2 : (((hi - lo).toNat : Nat) : Int) - ((0 : Nat) : Int) = Builtin.Range.rangeSize lo hi 1 := by rw [rangeSize_one]; split <;> omega
    show IsRangeIter _ _ (lo + ((0 : Nat) : Int) * 1) ((((hi - lo).toNat : Nat) : Int) - ((0 : Nat) : Int)) 1
    rw [e1, e2]
    exact Heap.get?_push_size _ rfl
  · have e : b = (s.heap.push { cls := .type "range", data := .fields #[.int lo t, .int hi u, .int 1 v] }).objs.size := by simpa using hb
    subst e
    exact I1.fpOk (Nat.le_refl _) (I1.hok.fresh (Nat.le_refl _))
def iRng1 (ta : TA) : TI := fun σ H R => ta σ H fun vs H1 => ∃ j : Int, vs = [.int j] ∧ -(2 ^ 62) ≤ j ∧ j < 2 ^ 62 ∧ R (Itr 0 j.toNat) H1
theorem pi_range1 {a : Expr} {ta : TA} {p pos : Pos} (hg : Gl X "range") (hm : X.mg "range" = none) (ha : PA X [a] ta) (hs : starEach [a] X.env = [(false, eval a X.env)] := by rfl) : PI X tg (.Call (.Name "range" p) [a] [] pos) (iRng1 ta) := by
  intro pins s σ H R I h
  refine Call_ (ld_blt I hg hm boot_range (PyProof.Rows.callWith_type1 (thn (ha pos pins s σ H _ I h) fun us s1 ⟨vs, H1, I1, r1, q1⟩ => ?_) hs rfl))
  obtain ⟨j, e, q1, q2, q⟩ := q1
  subst e
  cases r1 with
  | cons r rr =>
    cases rr
    obtain ⟨t, rfl⟩ := r
    exact call_range_1 (range_it I1 (by omega) (by omega) q1 q2 (by simpa using q))
/-! ### for -/
/-- W: the invariant by the turn and a measure; N: what the body is to reach -/
def tFor (wi : TI) (g : TG) (tb : TS) : TS := fun D σ H => wi σ H fun J H1 => ∃ W : Nat → Nat → St → Hp → Prop, (∃ m, W 0 m σ H1) ∧ ∀ i m σ H, W i m σ H →
  (J.stop i H ∧ D.nx σ H) ∨ (J.go i H ∧ ∃ N : St → Hp → Prop, (∀ σ' H', N σ' H' → ∃ m', m' < m ∧ W (i + 1) m' σ' H') ∧ ∀ x H', J.yld i H x H' → g x σ H' fun σ2 H2 => tb { D with nx := N, ct := N, bk := D.nx } σ2 H2)
/-- the records at fp as they stand -/
def pinsAt (fp : List Addr) (h : Heap) : List (Addr × Obj) := fp.filterMap fun b => (h.get? b).map fun o => (b, o)
theorem mem_pinsAt {fp : List Addr} {h : Heap} {b : Addr} {o : Obj} (hb : b ∈ fp) (e : h.get? b = some o) : (b, o) ∈ pinsAt fp h := List.mem_filterMap.mpr ⟨b, hb, by rw [e]; rfl⟩
theorem of_pinsAt {fp : List Addr} {h : Heap} {p : Addr × Obj} (hp : p ∈ pinsAt fp h) : p.1 ∈ fp ∧ h.get? p.1 = some p.2 := by
  obtain ⟨b, hb, e⟩ := List.mem_filterMap.mp hp
  cases q : h.get? b with
  | none => rw [q] at e; cases e
  | some o =>
    rw [q] at e
    have e' : (b, o) = p := Option.some.inj e
    subst e'
    exact ⟨hb, q⟩
theorem Inv.pinned {pins : List (Addr × Obj)} {σ : St} {H : Hp} {s : Shared} {fp : List Addr} (I : Inv X pins σ H s) (hf : ∀ b ∈ fp, FpOk X pins H b) (ho : ∀ b ∈ fp, ∃ o, s.heap.get? b = some o ∧ ∀ v, o.data ≠ .cell v) : Inv X (pins ++ pinsAt fp s.heap) σ H s :=
  I.pins_of fun p hp => (List.mem_append.mp hp).elim (fun z => I.pin p (List.mem_append_right _ z)) fun z => by
    obtain ⟨hb, e⟩ := of_pinsAt z
    obtain ⟨f0, f1, f2, _⟩ := hf p.1 hb
    obtain ⟨o, e', d⟩ := ho p.1 hb
    rw [e] at e'; cases e'
    exact ⟨e, f0, f1, f2, d⟩
theorem Inv.unpinned {pins pl : List (Addr × Obj)} {σ : St} {H : Hp} {s : Shared} (I : Inv X (pins ++ pl) σ H s) : Inv X pins σ H s := I.pins_of fun p hp => I.pin p (List.mem_append_right _ (List.mem_append_left _ hp))
theorem ps_for {iter : Expr} {body : List Stmt} {wi : TI} {g : TG} {tb : TS} {pos : Pos} (hp : PassesOwn (model X.prog X.w) X.A X.env X.xe) (hc : X.calm = true) (hi : PI X tg iter wi) (hg : PG X tg g) (hb : PSs X body tb)
    (hs : ∀ x, foldedSetIterable iter X.env x = pure x := by intro _; rfl) : PS X (.For tg iter body [] pos) (tFor wi g tb) := by
  intro pins s σ H D I h
  refine wpAny_For (thn (hi pins s σ H _ I h) fun v s1 h1 => thn h1 fun itv s2 h2 => ?_) hs
  obtain ⟨it, fp, tn, J, H2, e, I2, T, st2, f2, W, ⟨m0, w0⟩, turn⟩ := h2
  subst e
  -- what stays true of the iterator's objects through the loop
  have stat : ∀ {H' : Hp}, (∀ b ∈ fp, H' b = none) → ∀ b ∈ fp, FpOk X pins H' b := fun hn b hb => ⟨hn b hb, (f2 b hb).2⟩
  refine codeAny_forLoop_any (fun n s' => ∃ i σ' H', Inv X pins σ' H' s' ∧ tn i s'.heap ∧ (∀ b ∈ fp, H' b = none) ∧ W i n σ' H') ?_ m0 ⟨0, σ, H2, I2, st2, fun b hb => (f2 b hb).1, w0⟩
  rintro n s3 ⟨i, σ3, H3, I3, st3, fr3, w3⟩
  rcases turn i n σ3 H3 w3 with ⟨stop, qn⟩ | ⟨go, N, hN, step⟩
  · refine wpAny_passesOwn hp (thn (T.done X rfl rfl rfl hc i pins s3 σ3 H3 X.xe I3 (stat fr3) st3 stop) fun r s4 ⟨hr, I4⟩ => ?_)
    subst hr
    exact wpAny_execs_nil ⟨σ3, H3, I4, qn⟩
  · refine wpAny_passesOwn hp (thn (T.item X rfl rfl rfl hc i pins s3 σ3 H3 X.xe I3 (stat fr3) st3 go) fun r s4 ⟨u, hr, h4⟩ => ?_)
    subst hr
    refine wpAny_passesOwn hp (thn h4 fun _ s5 ⟨x, H5, I5, r5, y5, st5, fr5⟩ => ?_)
    have I5' := I5.pinned (stat fr5) (T.obj _ _ st5)
    refine wpAny_passesOwn hp (thn (hg _ s5 σ3 H5 x u _ I5' r5 (step x H5 y5)) fun _ s6 ⟨σ6, H6, I6, q6⟩ => ?_)
    refine wpAny_passesOwn hp (thn (hb _ s6 σ6 H6 _ I6 q6) fun f s7 q7 => ?_)
    have again : ∀ {σ7 : St} {H7 : Hp}, Inv X (pins ++ pinsAt fp s5.heap) σ7 H7 s7 → N σ7 H7 → ∃ m, m < n ∧ ∃ i σ' H', Inv X pins σ' H' s7 ∧ tn i s7.heap ∧ (∀ b ∈ fp, H' b = none) ∧ W i m σ' H' := fun {σ7 H7} I7 n7 => by
      obtain ⟨m', hm, w7⟩ := hN σ7 H7 n7
      refine ⟨m', hm, i + 1, σ7, H7, I7.unpinned, T.keep _ _ _ st5 fun b hb o e => (I7.pin (b, o) (List.mem_append_right _ (List.mem_append_right _ (mem_pinsAt hb e)))).1, fun b hb => ?_, w7⟩
      obtain ⟨o, e, d⟩ := T.obj _ _ st5 b hb
      exact (I7.pin (b, o) (List.mem_append_right _ (List.mem_append_right _ (mem_pinsAt hb e)))).2.1
    cases f with
    | next => obtain ⟨σ7, H7, I7, n7⟩ := q7; exact again I7 n7
    | cont => obtain ⟨σ7, H7, I7, n7⟩ := q7; exact again I7 n7
    | brk => obtain ⟨σ7, H7, I7, q7⟩ := q7; exact ⟨σ7, H7, I7.unpinned, q7⟩
    | ret v => obtain ⟨x7, σ7, H7, I7, r7, q7⟩ := q7; exact ⟨x7, σ7, H7, I7.unpinned, r7, q7⟩
end

/-! ### the forms one uses -/
/-- over a list that the body leaves as it is -/
theorem for_list {K : PySem.W.Frag} {a : Addr} {xs : List V} {g : TG} {tb : TS} {D : Ends} {σ : St} {H : Hp} (Pv : Nat → St → Hp → Prop) (h0 : Pv 0 σ H) (hl : ∀ i σ H, i ≤ xs.length → Pv i σ H → SqL K H a xs)
    (hs : ∀ i x σ H, xs[i]? = some x → Pv i σ H → g x σ H fun σ2 H2 => tb { D with nx := Pv (i + 1), ct := Pv (i + 1), bk := D.nx } σ2 H2) (hd : ∀ σ H, Pv xs.length σ H → D.nx σ H) :
    ∃ W : Nat → Nat → St → Hp → Prop, (∃ m, W 0 m σ H) ∧ ∀ i m σ H, W i m σ H →
      ((Itl K a).stop i H ∧ D.nx σ H) ∨ ((Itl K a).go i H ∧ ∃ N : St → Hp → Prop, (∀ σ' H', N σ' H' → ∃ m', m' < m ∧ W (i + 1) m' σ' H') ∧ ∀ x H', (Itl K a).yld i H x H' → g x σ H' fun σ2 H2 => tb { D with nx := N, ct := N, bk := D.nx } σ2 H2) := by
  refine ⟨fun i m σ H => m = xs.length - i ∧ i ≤ xs.length ∧ Pv i σ H, ⟨xs.length, by simp, Nat.zero_le _, h0⟩, ?_⟩
  rintro i m σ H ⟨rfl, hi, p⟩
  have q := hl i σ H hi p
  by_cases hlt : i < xs.length
  · refine .inr ⟨⟨xs, xs[i], q, by simp [hlt]⟩, Pv (i + 1), fun σ' H' p' => ⟨xs.length - (i + 1), by omega, rfl, hlt, p'⟩, fun x H' y => ?_⟩
    obtain ⟨e, y⟩ := y
    subst e
    exact hs i x σ _ (y xs q) p
  · have e : i = xs.length := by omega
    subst e
    exact .inl ⟨⟨xs, q, Nat.le_refl _⟩, hd σ H p⟩
theorem for_range {lo : Int} {n : Nat} {g : TG} {tb : TS} {D : Ends} {σ : St} {H : Hp} (Pv : Nat → St → Hp → Prop) (h0 : Pv 0 σ H)
    (hs : ∀ i σ H, i < n → Pv i σ H → g (.int (lo + i)) σ H fun σ2 H2 => tb { D with nx := Pv (i + 1), ct := Pv (i + 1), bk := D.nx } σ2 H2) (hd : ∀ σ H, Pv n σ H → D.nx σ H) :
    ∃ W : Nat → Nat → St → Hp → Prop, (∃ m, W 0 m σ H) ∧ ∀ i m σ H, W i m σ H →
      ((Itr lo n).stop i H ∧ D.nx σ H) ∨ ((Itr lo n).go i H ∧ ∃ N : St → Hp → Prop, (∀ σ' H', N σ' H' → ∃ m', m' < m ∧ W (i + 1) m' σ' H') ∧ ∀ x H', (Itr lo n).yld i H x H' → g x σ H' fun σ2 H2 => tb { D with nx := N, ct := N, bk := D.nx } σ2 H2) := by
  refine ⟨fun i m σ H => m = n - i ∧ i ≤ n ∧ Pv i σ H, ⟨n, by simp, Nat.zero_le _, h0⟩, ?_⟩
  rintro i m σ H ⟨rfl, hi, p⟩
  by_cases hlt : i < n
  · refine .inr ⟨hlt, Pv (i + 1), fun σ' H' p' => ⟨n - (i + 1), by omega, rfl, hlt, p'⟩, fun x H' y => ?_⟩
    obtain ⟨e, y⟩ := y
    subst e y
    exact hs i σ _ hlt p
  · have e : i = n := by omega
    subst e
    exact .inl ⟨Nat.le_refl _, hd σ H p⟩
end L2

namespace L2
open PySem PySem.Spec PyProof.Rows

abbrev R2 := V → V → Hp → VK → Prop
/-- a two-place operation on values: f is binaryOp op, inplaceOp op or compareOp op -/
def OpR (X : Cx) (f : Value → Value → Sem Value) (r : R2) : Prop :=
  ∀ (pins : List (Addr × Obj)) (s : Shared) (σ : St) (H : Hp) (x y : V) (v u : Value) (Q : VK), Inv X pins σ H s → RelV x v → RelV y u → r x y H Q →
    wpAny (model X.prog X.w) X.A (f v u) (EP X pins σ Q) X.xe s
/-- a one-place operation -/
def UnR (X : Cx) (f : Value → Sem Value) (r : V → Hp → VK → Prop) : Prop :=
  ∀ (pins : List (Addr × Obj)) (s : Shared) (σ : St) (H : Hp) (x : V) (v : Value) (Q : VK), Inv X pins σ H s → RelV x v → r x H Q →
    wpAny (model X.prog X.w) X.A (f v) (EP X pins σ Q) X.xe s
/-- a call of a value that is known (a builtin, a type) with values -/
def CallR (X : Cx) (f : Value) (r : List V → Hp → VK → Prop) : Prop :=
  ∀ (pins : List (Addr × Obj)) (s : Shared) (σ : St) (H : Hp) (xs : List V) (us : List Value) (Q : VK), Inv X pins σ H s → Vals xs us → r xs H Q →
    wpAny (model X.prog X.w) X.A (call f us) (EP X pins σ Q) X.xe s
def tOp (r : R2) (ta tb : TE) : TE := fun σ H Q => ta σ H fun x H1 => tb σ H1 fun y H2 => r x y H2 Q
def tUn (r : V → Hp → VK → Prop) (ta : TE) : TE := fun σ H Q => ta σ H fun x H1 => r x H1 Q
/-- ints in, under C, and a value out -/
def rI (C : Int → Int → Prop) (g : Int → Int → V) : R2 := fun x y H Q => ∃ i j, x = .int i ∧ y = .int j ∧ C i j ∧ Q (g i j) H
def rI0 (g : Int → Int → V) : R2 := fun x y H Q => ∃ i j, x = .int i ∧ y = .int j ∧ Q (g i j) H
def rU (g : Int → V) : V → Hp → VK → Prop := fun x H Q => ∃ i, x = .int i ∧ Q (g i) H

section
variable {X : Cx} {a b c : Expr} {ta tb tc : TE} {pos : Pos}

theorem binT (ha : PE X a ta) (hb : PE X b tb) {pins : List (Addr × Obj)} {s : Shared} {σ : St} {H : Hp} {R : V → V → Hp → Prop} (I : Inv X pins σ H s)
    (h : ta σ H fun x H1 => tb σ H1 fun y H2 => R x y H2) {Q : Value → Shared → Prop} {f : Value → Value → Sem Value}
    (hf : ∀ v u s2 x y H2, Inv X pins σ H2 s2 → RelV x v → RelV y u → R x y H2 → wpAny (model X.prog X.w) X.A (f v u) Q X.xe s2) :
    wpAny (model X.prog X.w) X.A (eval a X.env) (fun v s₁ => wpAny (model X.prog X.w) X.A (eval b X.env) (fun u s₂ => wpAny (model X.prog X.w) X.A (f v u) Q X.xe s₂) X.xe s₁) X.xe s := by
  refine thn (ha pins s σ H _ I h) fun v s1 ⟨x, H1, I1, r1, q1⟩ => ?_
  refine thn (hb pins s1 σ H1 _ I1 q1) fun u s2 ⟨y, H2, I2, r2, q2⟩ => ?_
  exact hf v u s2 x y H2 I2 r1 r2 q2

theorem pe_op {op : Operator} {r : R2} (ho : OpR X (binaryOp op) r) (ha : PE X a ta) (hb : PE X b tb) : PE X (.BinOp a op b pos) (tOp r ta tb) := by
  intro pins s σ H Q I h
  exact wpAny_BinOp (binT ha hb I h fun v u s2 x y H2 I2 rx ry q => ho pins s2 σ H2 x y v u Q I2 rx ry q)
theorem pe_un {op : UnaryOp} {r : V → Hp → VK → Prop} (ho : UnR X (unaryOp op) r) (ha : PE X a ta) : PE X (.UnaryOp op a pos) (tUn r ta) := by
  intro pins s σ H Q I h
  exact UnaryOp_ (thn (ha pins s σ H _ I h) fun v s1 ⟨x, H1, I1, r1, q1⟩ => ho pins s1 σ H1 x v Q I1 r1 q1)
/-! ### ints -/
theorem opI {f : Value → Value → Sem Value} {C : Int → Int → Prop} {g : Int → Int → Int}
    (rule : ∀ (i j : Int) (t u : Tok) (s : Shared) (Q : Value → Shared → Prop) (E : Value → Shared → Prop), C i j → Q (.int (g i j) s.toks) { s with toks := s.toks + 1 } → wpAny (model X.prog X.w) X.A (f (.int i t) (.int j u)) Q E s) :
    OpR X f (rI C fun i j => .int (g i j)) := by
  intro pins s σ H x y v u Q I rx ry h
  obtain ⟨i, j, rfl, rfl, hc, q⟩ := h
  obtain ⟨t, rfl⟩ := rx
  obtain ⟨t', rfl⟩ := ry
  exact rule i j t t' s _ _ hc ⟨.int (g i j), H, I.tok _, ⟨_, rfl⟩, q⟩
theorem opI0 {f : Value → Value → Sem Value} {g : Int → Int → Int}
    (rule : ∀ (i j : Int) (t u : Tok) (s : Shared) (Q : Value → Shared → Prop) (E : Value → Shared → Prop), Q (.int (g i j) s.toks) { s with toks := s.toks + 1 } → wpAny (model X.prog X.w) X.A (f (.int i t) (.int j u)) Q E s) :
    OpR X f (rI0 fun i j => .int (g i j)) := by
  intro pins s σ H x y v u Q I rx ry h
  obtain ⟨i, j, rfl, rfl, q⟩ := h
  obtain ⟨t, rfl⟩ := rx
  obtain ⟨t', rfl⟩ := ry
  exact rule i j t t' s _ _ ⟨.int (g i j), H, I.tok _, ⟨_, rfl⟩, q⟩
theorem opB0 {f : Value → Value → Sem Value} {g : Int → Int → Bool}
    (rule : ∀ (i j : Int) (t u : Tok) (s : Shared) (Q : Value → Shared → Prop) (E : Value → Shared → Prop), Q (.bool (g i j)) s → wpAny (model X.prog X.w) X.A (f (.int i t) (.int j u)) Q E s) :
    OpR X f (rI0 fun i j => .bl (g i j)) := by
  intro pins s σ H x y v u Q I rx ry h
  obtain ⟨i, j, rfl, rfl, q⟩ := h
  obtain ⟨t, rfl⟩ := rx
  obtain ⟨t', rfl⟩ := ry
  exact rule i j t t' s _ _ ⟨.bl (g i j), H, I, rfl, q⟩

def CPow (i j : Int) : Prop := 0 ≤ j ∧ j ≤ 1000000 ∧ i.natAbs < 2 ^ 64
def CMul (i j : Int) : Prop := (-(2 ^ 64) < i ∧ i < 2 ^ 64) ∨ (-(2 ^ 64) < j ∧ j < 2 ^ 64)
theorem CMul.ok {i j : Int} (h : CMul i j) : IntMulOk i j := by
  rcases h with ⟨h1, h2⟩ | ⟨h1, h2⟩
  · exact .of_left (intBits_le_64 h1 h2)
  · exact .of_right (intBits_le_64 h1 h2)
theorem op_add : OpR X (binaryOp .Add) (rI0 fun i j => .int (i + j)) := opI0 fun _ _ _ _ _ _ _ q => add_int q
theorem op_sub : OpR X (binaryOp .Sub) (rI0 fun i j => .int (i - j)) := opI0 fun _ _ _ _ _ _ _ q => sub_int q
theorem op_mul : OpR X (binaryOp .Mult) (rI CMul fun i j => .int (i * j)) := opI fun _ _ _ _ _ _ _ hc q => mul_int q hc.ok
/-- % by a positive divisor of any size -/
theorem op_mod : OpR X (binaryOp .Mod) (rI (fun _ j => 0 < j) fun i j => .int (i % j)) := opI fun i j _ _ _ _ _ hc q => by
  have h1 : (0 : Int) < j := hc
  exact mod_int' (by omega) (by rw [Int.fmod_eq_emod_of_nonneg i (by omega)]; exact q)
theorem op_pow : OpR X (binaryOp .Pow) (rI CPow fun i j => .int (i ^ j.toNat)) := opI fun _ _ _ _ _ _ _ hc q => pow_int_small hc.1 hc.2.1 hc.2.2 q
theorem unI {f : Value → Sem Value} {g : Int → Int}
    (rule : ∀ (i : Int) (t : Tok) (s : Shared) (Q : Value → Shared → Prop) (E : Value → Shared → Prop), Q (.int (g i) s.toks) { s with toks := s.toks + 1 } → wpAny (model X.prog X.w) X.A (f (.int i t)) Q E s) :
    UnR X f (rU fun i => .int (g i)) := by
  intro pins s σ H x v Q I rx h
  obtain ⟨i, rfl, q⟩ := h
  obtain ⟨t, rfl⟩ := rx
  exact rule i t s _ _ ⟨.int (g i), H, I.tok _, ⟨_, rfl⟩, q⟩
theorem un_neg : UnR X (unaryOp .USub) (rU fun i => .int (-i)) := unI fun _ _ _ _ _ q => neg_int q
end

/-! ### comparisons -/
/-- the scalars that == tells apart as data does -/
def scal : V → V → Bool
  | .non, .non => true | .non, .int _ => true | .int _, .non => true | .non, .bl _ => true | .bl _, .non => true | .non, .str _ => true | .str _, .non => true
  | .int _, .int _ => true | .bl _, .bl _ => true | .str _, .str _ => true | .byt _, .byt _ => true
  | .int _, .str _ => true | .str _, .int _ => true | .bl _, .str _ => true | .str _, .bl _ => true
  | _, _ => false
def rEq : R2 := fun x y H Q => scal x y = true ∧ Q (.bl (decide (x = y))) H
def rNe : R2 := fun x y H Q => scal x y = true ∧ Q (.bl (!decide (x = y))) H

theorem dec_int {i j : Int} : decide (V.int i = V.int j) = (i == j) := by
  rw [Bool.eq_iff_iff]
  simp
theorem dec_bl {i j : Bool} : decide (V.bl i = V.bl j) = (i == j) := by
  rw [Bool.eq_iff_iff]
  simp
theorem dec_str {i j : Str} : decide (V.str i = V.str j) = (i == j) := by
  rw [Bool.eq_iff_iff]
  simp
theorem dec_byt {i j : Array UInt8} : decide (V.byt i = V.byt j) = (i.toList == j.toList) := by
  rw [Bool.eq_iff_iff]
  cases i
  cases j
  simp

section
variable {X : Cx} {a b c : Expr} {ta tb tc : TE} {pos : Pos}
theorem fin_bl {pins : List (Addr × Obj)} {σ : St} {H : Hp} {s : Shared} {Q : VK} {k k' : Bool} (I : Inv X pins σ H s) (q : Q (.bl k) H) (e : k = k') : EP X pins σ Q (.bool k') s := by
  subst e
  exact ⟨.bl k, H, I, rfl, q⟩
theorem op_eq : OpR X (compareOp .Eq) rEq := by
  intro pins s σ H x y v u Q I rx ry h
  obtain ⟨hs, q⟩ := h
  cases x with
  | non =>
    cases rx
    cases y with
    | non => cases ry; exact PySem.EqNone.eq_none_none (fin_bl I q (by simp))
    | bl j => cases ry; exact PySem.EqNone.eq_none_bool (fin_bl I q (by simp))
    | int j => obtain ⟨t', rfl⟩ := ry; exact PySem.EqNone.eq_none_int (fin_bl I q (by simp))
    | str j => obtain ⟨t', rfl⟩ := ry; exact PySem.EqNone.eq_none_str (fin_bl I q (by simp))
    | _ => exact absurd (show false = true from hs) Bool.false_ne_true
  | bl i =>
    cases rx
    cases y with
    | non => cases ry; exact PySem.EqNone.eq_bool_none (fin_bl I q (by simp))
    | bl j => cases ry; exact eq_bool (fin_bl I q dec_bl)
    | str j => obtain ⟨t', rfl⟩ := ry; exact PySem.EqMixed.eq_bool_str (fin_bl I q (by simp))
    | _ => exact absurd (show false = true from hs) Bool.false_ne_true
  | int i =>
    obtain ⟨t, rfl⟩ := rx
    cases y with
    | non => cases ry; exact PySem.EqNone.eq_int_none (fin_bl I q (by simp))
    | int j => obtain ⟨t', rfl⟩ := ry; exact eq_int (fin_bl I q dec_int)
    | str j => obtain ⟨t', rfl⟩ := ry; exact PySem.EqMixed.eq_int_str (fin_bl I q (by simp))
    | _ => exact absurd (show false = true from hs) Bool.false_ne_true
  | str i =>
    obtain ⟨t, rfl⟩ := rx
    cases y with
    | non => cases ry; exact PySem.EqNone.eq_str_none (fin_bl I q (by simp))
    | bl j => cases ry; exact PySem.EqMixed.eq_str_bool (fin_bl I q (by simp))
    | int j => obtain ⟨t', rfl⟩ := ry; exact PySem.EqMixed.eq_str_int (fin_bl I q (by simp))
    | str j => obtain ⟨t', rfl⟩ := ry; exact eq_str (fin_bl I q dec_str)
    | _ => exact absurd (show false = true from hs) Bool.false_ne_true
  | byt i =>
    obtain ⟨t, rfl⟩ := rx
    cases y with
    | byt j => obtain ⟨t', rfl⟩ := ry; exact PySem.W.eq_bytes (fin_bl I q dec_byt)
    | _ => exact absurd (show false = true from hs) Bool.false_ne_true
  | _ => cases y <;> exact absurd (show false = true from hs) Bool.false_ne_true
theorem op_ne : OpR X (compareOp .NotEq) rNe := by
  intro pins s σ H x y v u Q I rx ry h
  obtain ⟨hs, q⟩ := h
  cases x with
  | non =>
    cases rx
    cases y with
    | non => cases ry; exact PySem.EqNone.ne_none_none (fin_bl I q (by simp))
    | bl j => cases ry; exact PySem.EqNone.ne_none_bool (fin_bl I q (by simp))
    | int j => obtain ⟨t', rfl⟩ := ry; exact PySem.EqNone.ne_none_int (fin_bl I q (by simp))
    | str j => obtain ⟨t', rfl⟩ := ry; exact PySem.EqNone.ne_none_str (fin_bl I q (by simp))
    | _ => exact absurd (show false = true from hs) Bool.false_ne_true
  | bl i =>
    cases rx
    cases y with
    | non => cases ry; exact PySem.EqNone.ne_bool_none (fin_bl I q (by simp))
    | bl j => cases ry; exact ne_bool (fin_bl I q (congrArg not dec_bl))
    | str j => obtain ⟨t', rfl⟩ := ry; exact PySem.EqMixed.ne_bool_str (fin_bl I q (by simp))
    | _ => exact absurd (show false = true from hs) Bool.false_ne_true
  | int i =>
    obtain ⟨t, rfl⟩ := rx
    cases y with
    | non => cases ry; exact PySem.EqNone.ne_int_none (fin_bl I q (by simp))
    | int j => obtain ⟨t', rfl⟩ := ry; exact ne_int (fin_bl I q (congrArg not dec_int))
    | str j => obtain ⟨t', rfl⟩ := ry; exact PySem.EqMixed.ne_int_str (fin_bl I q (by simp))
    | _ => exact absurd (show false = true from hs) Bool.false_ne_true
  | str i =>
    obtain ⟨t, rfl⟩ := rx
    cases y with
    | non => cases ry; exact PySem.EqNone.ne_str_none (fin_bl I q (by simp))
    | bl j => cases ry; exact PySem.EqMixed.ne_str_bool (fin_bl I q (by simp))
    | int j => obtain ⟨t', rfl⟩ := ry; exact PySem.EqMixed.ne_str_int (fin_bl I q (by simp))
    | str j => obtain ⟨t', rfl⟩ := ry; exact ne_str (fin_bl I q (congrArg not dec_str))
    | _ => exact absurd (show false = true from hs) Bool.false_ne_true
  | byt i =>
    obtain ⟨t, rfl⟩ := rx
    cases y with
    | byt j => obtain ⟨t', rfl⟩ := ry; exact PySem.W.ne_bytes (fin_bl I q (congrArg not dec_byt))
    | _ => exact absurd (show false = true from hs) Bool.false_ne_true
  | _ => cases y <;> exact absurd (show false = true from hs) Bool.false_ne_true

theorem op_lt : OpR X (compareOp .Lt) (rI0 fun i j => .bl (decide (i < j))) := opB0 fun _ _ _ _ _ _ _ q => lt_int q
theorem op_gt : OpR X (compareOp .Gt) (rI0 fun i j => .bl (decide (j < i))) := opB0 fun _ _ _ _ _ _ _ q => gt_int q
theorem op_ge : OpR X (compareOp .GtE) (rI0 fun i j => .bl (decide (j ≤ i))) := opB0 fun _ _ _ _ _ _ _ q => ge_int q
/-- two rules for one operation: by cases -/
theorem OpR.or {f : Value → Value → Sem Value} {r r' : R2} (h : OpR X f r) (h' : OpR X f r') : OpR X f (fun x y H Q => r x y H Q ∨ r' x y H Q) := by
  intro pins s σ H x y v u Q I rx ry q
  rcases q with q | q
  · exact h pins s σ H x y v u Q I rx ry q
  · exact h' pins s σ H x y v u Q I rx ry q

theorem nomark (b : Expr) {op : CmpOp} (h : op ≠ .In := by decide) (h2 : op ≠ .NotIn := by decide) : behindInMarks op b = false := by
  have e1 : (op == CmpOp.In) = false := by cases op <;> first | rfl | exact absurd rfl h
  have e2 : (op == CmpOp.NotIn) = false := by cases op <;> first | rfl | exact absurd rfl h2
  cases b <;> simp [behindInMarks, e1, e2]
/-- a comparison as a value; hm: nomark b, or (for in, not in) by with_unfolding_all rfl -/
theorem pe_cmpR {op : CmpOp} {r : R2} (ho : OpR X (compareOp op) r) (ha : PE X a ta) (hb : PE X b tb) (hm : behindInMarks op b = false) : PE X (.Compare a [op] [b] pos) (tOp r ta tb) := by
  intro pins s σ H Q I h
  exact wpAny_Compare1 (binT ha hb I h fun v u s2 x y H2 I2 rx ry q => ho pins s2 σ H2 x y v u Q I2 rx ry q) hm
/-- a reading of a value as a test -/
def tTest (t : TE) : TT := fun σ H Q => t σ H fun x H' => ∃ k, x = .bl k ∧ Q k H'
theorem pt_cmpR {op : CmpOp} {r : R2} (ho : OpR X (compareOp op) r) (ha : PE X a ta) (hb : PE X b tb) (hm : behindInMarks op b = false) : PT X (.Compare a [op] [b] pos) (tTest (tOp r ta tb)) := by
  intro pins s σ H Q I h
  refine wpAny_isTrue_Compare1 (thn (ha pins s σ H _ I h) fun v s1 ⟨x, H1, I1, r1, q1⟩ => thn (hb pins s1 σ H1 _ I1 q1) fun u s2 ⟨y, H2, I2, r2, q2⟩ =>
    thn (ho pins s2 σ H2 x y v u _ I2 r1 r2 q2) fun c s3 ⟨z, H3, I3, r3, k, e, q3⟩ => ?_) hm
  subst e
  cases r3
  exact wpAny_truthy_bool ⟨H3, I3, q3⟩
theorem line63 : (sizeLine : Nat) < 2 ^ 63 := by rw [sizeLine_eq]; decide
/-! ### scalar builtins, by CallR -/
theorem vals1 {x : V} {us : List Value} (r : Vals [x] us) : ∃ u, us = [u] ∧ RelV x u := by
  cases r with
  | cons r1 r2 => cases r2; exact ⟨_, rfl, r1⟩
theorem vals2 {x y : V} {us : List Value} (r : Vals [x, y] us) : ∃ u w', us = [u, w'] ∧ RelV x u ∧ RelV y w' := by
  cases r with
  | cons r1 r2 =>
    cases r2 with
    | cons r3 r4 => cases r4; exact ⟨_, _, rfl, r1, r3⟩
theorem call_min2 (hc : X.calm = true) : CallR X (.builtin "min") (fun xs H Q => ∃ i j, xs = [.int i, .int j] ∧ Q (.int (if j < i then j else i)) H) := by
  intro pins s σ H xs us Q I r h
  obtain ⟨i, j, rfl, q⟩ := h
  obtain ⟨u, w', rfl, ⟨t, rfl⟩, ⟨t', rfl⟩⟩ := vals2 r
  refine min_two_ints (I.ok.hd hc) fun h' tk k => ⟨_, H, I.kept k, ?_, q⟩
  by_cases hj : j < i
  · rw [if_pos hj, if_pos hj]; exact ⟨_, rfl⟩
  · rw [if_neg hj, if_neg hj]; exact ⟨_, rfl⟩
theorem call_int1 : CallR X (.type "int") (fun xs H Q => (∃ i, xs = [.int i] ∧ Q (.int i) H) ∨ ∃ k, xs = [.bl k] ∧ Q (.int (if k then 1 else 0)) H) := by
  intro pins s σ H xs us Q I r h
  rcases h with ⟨i, rfl, q⟩ | ⟨k, rfl, q⟩
  · obtain ⟨u, rfl, t, rfl⟩ := vals1 r
    exact call_int_int ⟨.int i, H, I, ⟨_, rfl⟩, q⟩
  · obtain ⟨u, rfl, r1⟩ := vals1 r
    cases r1
    exact call_int_bool ⟨.int (if k then 1 else 0), H, I.tok _, ⟨_, rfl⟩, q⟩
end
end L2

namespace L2
open PySem PySem.Spec PyProof.Rows

/-! ### an instance, its attributes a map -/
structure ObjM (h : Heap) (x dx C : Addr) (mA : Str → Option Value) : Prop where
  obj : h.get? x = some (PySem.W.instObj C dx)
  ns : h.Ns1 dx mA
  ne : dx ≠ x

theorem lookIn_ns {h : Heap} {dx : Addr} {mA : Str → Option Value} (n : h.Ns1 dx mA) : ∃ od, h.get? dx = some od ∧ ∀ name, PySem.W.lookIn name od = some (mA name) := by
  obtain ⟨o, es, ep, ho, hd, hk, _, hm⟩ := n
  refine ⟨o, ho, fun name => ?_⟩
  have e := hm name
  unfold nsFind findBy at e
  rw [← Array.find?_toList] at e
  unfold PySem.W.lookIn
  rw [hd]
  dsimp only
  split
  · rename_i y q
    rw [q] at e
    exact congrArg some e
  · rename_i q
    rw [q] at e
    have a : es.toList.any (·.refKey) = false := by
      rw [List.any_eq_false]
      intro y hy
      obtain ⟨z, t, hkey⟩ := hk y (Array.mem_toList_iff.mp hy)
      simp [DictEntry.refKey, hkey]
    have a' : ¬ es.toList.any (·.refKey) = true := by rw [a]; exact Bool.false_ne_true
    rw [if_neg a']
    exact congrArg some e

theorem ObjM.look {h : Heap} {x dx C : Addr} {mA : Str → Option Value} (I : ObjM h x dx C mA) : ∃ od, PySem.W.InstAt h x (PySem.W.instObj C dx) C (some od) ∧ ∀ name, PySem.W.lookIn name od = some (mA name) :=
  let ⟨od, ho, hl⟩ := lookIn_ns I.ns
  ⟨od, ⟨I.obj, rfl, rfl, ho⟩, hl⟩

section
variable {prog : Program} {w : World} {A : Around} {E : Value → Shared → Prop} {s : Shared} {K : PySem.W.Frag} {x dx C f : Addr} {mA : Str → Option Value} {name : Str} {v : Value}

end

section
variable {P : Program} {w : World} {H H' : Hp} {h h' : Heap} {a C dx : Addr} {fs fs' : List (Str × V)}
theorem ins_get (hok : HOk P w H h) (e : H a = some (.ins C dx fs)) : ∃ mA, ObjM h a dx C mA ∧ (∀ f, RelO (fs.lookup f) (mA f)) ∧ PySem.Within mA (fs.map (·.1)) ∧ fs.length ≤ 1000 ∧ H dx = some (.own a) := by
  obtain ⟨d, z, ne, ob, mA, n, r, q⟩ := (show ObjOk P w H h a (.ins C dx fs) from hok a _ e)
  exact ⟨mA, ⟨ob, n, ne⟩, r, q, z, d⟩
end

/-! ### what of the text a class must have -/
structure Cls (K : PySem.W.Frag) (C : Addr) : Prop where
  pg : PySem.W.plainGet K C Str.empty = true
  hd : PySem.W.hasDictIn K C = true
  po : PySem.W.plainOver K C = true
  sa : PySem.W.findIn K (.ref C) "__setattr__" = some (some (.builtin "object.__setattr__"))
theorem Cls.get {K : PySem.W.Frag} {C : Addr} (c : Cls K C) (f : Str) : PySem.W.plainGet K C f = true := c.pg
/-- a constant of the class -/
structure Con (K : PySem.W.Frag) (C : Addr) (f : Str) (v : V) (u : Value) : Prop where
  at_ : PySem.W.findIn K (.ref C) f = some (some u)
  rel : RelV v u
  get : PySem.W.specialIn K u "__get__" = some none
  cp : PySem.W.copiedNames.contains f = false
/-- a method: a plain def of the class or of one above it -/
structure Meth (K : PySem.W.Frag) (C : Addr) (m : Str) (f : Addr) : Prop where
  at_ : PySem.W.findIn K (.ref C) m = some (some (.ref f))
  fn : PySem.W.isFn K (.ref f) = true
  kp : PySem.W.keepIn K (.ref f) = true

section
variable {X : Cx} {pins : List (Addr × Obj)} {σ : St} {H : Hp} {s : Shared} {a C dx : Addr} {fs : List (Str × V)} {f : Str} {v : V} {A : Around} {E : Value → Shared → Prop}

/-- a new instance, tracked, without attributes -/
theorem Inv.made (I : Inv X pins σ H s) : Inv X pins σ (upd (upd H s.heap.objs.size (.own (s.heap.objs.size + 1))) (s.heap.objs.size + 1) (.ins C s.heap.objs.size []))
    { s with heap := (s.heap.push PySem.W.emptyDict).push (PySem.W.instObj C s.heap.objs.size) } := by
  have e1 : (s.heap.push PySem.W.emptyDict).get? s.heap.objs.size = some PySem.W.emptyDict := Heap.get?_push_size s.heap rfl
  have e2 : ((s.heap.push PySem.W.emptyDict).push (PySem.W.instObj C s.heap.objs.size)).get? (s.heap.objs.size + 1) = some (PySem.W.instObj C s.heap.objs.size) := by
    have := Heap.get?_push_size (s.heap.push PySem.W.emptyDict) (o := PySem.W.instObj C s.heap.objs.size) rfl
    rwa [Heap.size_push] at this
  have e3 : (s.heap.push PySem.W.emptyDict).Ns s.heap.objs.size (fun _ => none) := ⟨PySem.W.emptyDict, #[], _, e1, rfl, (fun e he => absurd he (by simp)), fun _ => rfl⟩
  have I1 := I.laid (a := s.heap.objs.size) (o := .own (s.heap.objs.size + 1)) (h' := s.heap.push PySem.W.emptyDict) (t' := s.toks) (fun b u q => Heap.get?_push_of_some _ q) (Nat.le_refl _) ⟨_, e1⟩
  refine I1.laid (a := s.heap.objs.size + 1) (o := .ins C s.heap.objs.size []) (t' := s.toks) (fun b u q => Heap.get?_push_of_some _ q) (Nat.le_of_eq (Heap.size_push _ _)) ?_
  have ne : s.heap.objs.size ≠ s.heap.objs.size + 1 := Nat.ne_of_lt (Nat.lt_succ_self _)
  refine ⟨by rw [upd_ne ne, upd_same], Nat.zero_le _, ne, e2, fun _ => none, (Heap.Ns1.of_empty e3).at fun o q => Heap.get?_push_of_some _ q, fun _ => True.intro, fun y hy => absurd rfl hy⟩

end

section
variable {X : Cx} {o e value : Expr} {f : Str} {pos pos' tpos : Pos} {ta tv : TE}
end

/-! ### isinstance -/
section
variable {X : Cx} {pins : List (Addr × Obj)} {σ : St} {H : Hp} {s : Shared} {A : Around} {E : Value → Shared → Prop} {Q : Value → Shared → Prop} {c : Value} {b : Bool}
/-- the type of a value, as the fragment's deciders take it; for an instance its class -/
inductive TyOf (K : PySem.W.Frag) (H : Hp) : V → Value → Prop where
  | non : TyOf K H .non (.type "NoneType")
  | bl (x : Bool) : TyOf K H (.bl x) (.type "bool")
  | int (i : Int) : TyOf K H (.int i) (.type "int")
  | str (x : Str) : TyOf K H (.str x) (.type "str")
  | flt (x : UInt64) : TyOf K H (.flt x) (.type "float")
  | lst {a : Addr} {xs : List V} (e : H a = some (.lst xs)) : TyOf K H (.ref a) (.type "list")
  | frz {a : Addr} {o : Obj} {xs : List V} (e : H a = some (.frz o (.lst xs))) : TyOf K H (.ref a) (.type "list")
  | tup {a : Addr} {xs : List V} (e : H a = some (.tup xs)) : TyOf K H (.ref a) (.type "tuple")
  | dK {a : Addr} {kvs : List (Key × V)} (e : H a = some (.dK kvs)) : TyOf K H (.ref a) (.type "dict")
  | dT {a : Addr} {kvs : List (List Key × V)} (e : H a = some (.dT kvs)) : TyOf K H (.ref a) (.type "dict")
  | ins {a C dx : Addr} {fs : List (Str × V)} (e : H a = some (.ins C dx fs)) (cl : Cls K C) (ha : PySem.W.findIn K (.ref C) "__class__" = some (some (.builtin "object.__class__")))
      (hn : PySem.W.specialIn K (.builtin "object.__class__") "__get__" = some (some (.builtin "getset_descriptor.__get__"))) (htk : PySem.W.takesIn K (.builtin "object.__class__") = some true)
      (hm : PySem.W.mroIn K C (.type "object") = some true) : TyOf K H (.ref a) (.ref C)
/-- isinstance(x, c) for one class c, a built-in or an own one: kitOne's answer -/
theorem isinst_ok {x : V} {u t : Value} (I : Inv X pins σ H s) (rx : RelV x u) (ty : TyOf X.K H x t) (e : PySem.W.kitOne X.K t c = some b) (h : ∀ tk, Q (.bool b) { s with toks := tk }) :
    wpAny (model X.prog X.w) A (call (.builtin "isinstance") [u, c]) Q E s := by
  cases ty with
  | non => cases (show u = Value.none from rx); exact PySem.W.kia_one PySem.W.kitx_none I.kIn True.intro e (fun z => nomatch z) h
  | bl y => cases (show u = Value.bool y from rx); exact PySem.W.kia_one PySem.W.kitx_bool I.kIn True.intro e (fun z => nomatch z) h
  | int i => obtain ⟨t, q⟩ := (show ∃ t, u = Value.int i t from rx); cases q; exact PySem.W.kia_one PySem.W.kitx_int I.kIn True.intro e (fun z => nomatch z) h
  | str y => obtain ⟨t, q⟩ := (show ∃ t, u = Value.str y t from rx); cases q; exact PySem.W.kia_one PySem.W.kitx_str I.kIn True.intro e (fun z => nomatch z) h
  | flt y => obtain ⟨t, q⟩ := (show ∃ t, u = Value.float y t from rx); cases q; exact PySem.W.kia_one PySem.W.kitx_float I.kIn True.intro e (fun z => nomatch z) h
  | @lst a xs ea =>
    cases (show u = Value.ref a from rx)
    obtain ⟨_, _, n, _, h1⟩ := (show ObjOk X.prog X.w H s.heap a (.lst xs) from I.hok a _ ea)
    exact PySem.W.kia_one PySem.W.kitx_list I.kIn ⟨_, h1, rfl⟩ e (fun z => nomatch z) h
  | @frz a ob xs ea =>
    cases (show u = Value.ref a from rx)
    obtain ⟨_, _, _, n, _, h1⟩ := (show ObjOk X.prog X.w H s.heap a (.frz ob (.lst xs)) from I.hok a _ ea)
    exact PySem.W.kia_one PySem.W.kitx_list I.kIn ⟨_, h1, rfl⟩ e (fun z => nomatch z) h
  | @tup a xs ea =>
    cases (show u = Value.ref a from rx)
    obtain ⟨_, _, _, p⟩ := (show ObjOk X.prog X.w H s.heap a (.tup xs) from I.hok a _ ea)
    obtain ⟨o, h1, h2, _⟩ := p
    exact PySem.W.kia_one PySem.W.kitx_tuple I.kIn ⟨o, h1, h2⟩ e (fun z => nomatch z) h
  | @dK a kvs ea =>
    cases (show u = Value.ref a from rx)
    obtain ⟨_, _, vs, _, p⟩ := (show ObjOk X.prog X.w H s.heap a (.dK kvs) from I.hok a _ ea)
    obtain ⟨o, es, ep, h1, h2, _⟩ := p
    exact PySem.W.kia_one PySem.W.kitx_dict I.kIn ⟨o, h1, h2.1⟩ e (fun z => nomatch z) h
  | @dT a kvs ea =>
    cases (show u = Value.ref a from rx)
    obtain ⟨_, _, xs, _, o, es, ep, h1, h2, _⟩ := (show ObjOk X.prog X.w H s.heap a (.dT kvs) from I.hok a _ ea)
    exact PySem.W.kia_one PySem.W.kitx_dict I.kIn ⟨o, h1, h2.1⟩ e (fun z => nomatch z) h
  | @ins a C dx fs ea cl ha hn htk hm =>
    cases (show u = Value.ref a from rx)
    obtain ⟨mA, O, _⟩ := ins_get I.hok ea
    obtain ⟨od, J, _⟩ := O.look
    exact PySem.W.kia_one (PySem.W.kitx_own (cl.get _) cl.hd ha hn htk hm) I.kIn J e (fun z => nomatch z) h
end
end L2

namespace L2
open PySem PySem.Spec PyProof.Rows

/-! ### room -/
structure Room (k : Nat) (A : Around) : Prop where
  hd : A.handled = none
  dp : A.depth + 3 * k + 5 < recursionLimit
  un : A.units + 16 * k + 200 < cLine
  gd : A.guards = some []
theorem Room.mono {j k : Nat} {A : Around} (r : Room k A) (h : j ≤ k) : Room j A := ⟨r.hd, by have := r.dp; omega, by have := r.un; omega, r.gd⟩
theorem Room.deeper {k : Nat} {A : Around} (r : Room (k + 1) A) (env : Env) : Room k (A.deeper env) :=
  ⟨r.hd, by have := r.dp; show A.depth + 1 + 3 * k + 5 < _; omega, by have := r.un; show A.units + 3 + 16 * k + 200 < _; omega, r.gd⟩
theorem Room.in1 {k : Nat} {A : Around} (r : Room (k + 1) A) : Room k A.in1 :=
  ⟨r.hd, by have := r.dp; show A.depth + 3 * k + 5 < _; omega, by have := r.un; show A.units + 1 + 16 * k + 200 < _; omega, r.gd⟩
theorem Room.depth {k : Nat} {A : Around} (r : Room k A) : A.depth < recursionLimit := by have := r.dp; omega
theorem Room.units {k : Nat} {A : Around} (r : Room k A) : A.units + 64 < cLine := by have := r.un; omega
/-! ### argument lists and displays -/
def tNil : TA := fun _ H Q => Q [] H
def tCons (ta : TE) (tr : TA) : TA := fun σ H Q => ta σ H fun x H1 => tr σ H1 fun xs H2 => Q (x :: xs) H2
section
variable {X : Cx} {e : Expr} {es : List Expr} {te : TE} {t : TA} {pos : Pos}
theorem pa_nil : PA X [] tNil := fun _ _ _ _ H Q I h => Calls.spliced_nil ⟨[], H, I, .nil, h⟩
theorem pa_cons (ha : PE X e te) (hr : PA X es t) (hs : starEach (e :: es) X.env = (false, eval e X.env) :: starEach es X.env := by rfl) : PA X (e :: es) (tCons te t) := by
  intro pos pins s σ H Q I h
  rw [hs]
  show wpAny _ _ (spliced ((false, eval e X.env) :: backTo pos (starEach es X.env))) _ _ s
  refine Calls.spliced_cons (thn (ha pins s σ H _ I h) fun u s1 ⟨x, H1, I1, r1, q1⟩ => ?_)
  exact thn (hr pos pins s1 σ H1 _ I1 q1) fun us s2 ⟨xs, H2, I2, r2, q2⟩ => ⟨x :: xs, H2, I2, .cons r1 r2, q2⟩

/-- a tuple, a list of written items -/
def tTup (t : TA) : TE := fun σ H Q => t σ H fun xs H1 => xs.length ≤ sizeLine ∧ ∀ p, H1 p = none → Q (.ref p) (upd H1 p (.tup xs))
def tLst (t : TA) : TE := fun σ H Q => t σ H fun xs H1 => xs.length ≤ sizeLine ∧ ∀ p, H1 p = none → Q (.ref p) (upd H1 p (.lst xs))
theorem pe_tup {x1} (h : PA X es t) : PE X (.Tuple es x1 pos) (tTup t) := by
  intro pins s σ H Q I hq
  refine wpAny_Tuple_spliced (thn (h pos pins s σ H _ I hq) fun us s1 ⟨xs, H1, I1, r, z, q⟩ => ⟨by rw [← r.length]; exact z, ?_⟩)
  have hf : H1 s1.heap.objs.size = none := I1.hok.fresh (Nat.le_refl _)
  refine ⟨.ref s1.heap.objs.size, upd H1 s1.heap.objs.size (.tup xs), I1.laid (t' := s1.toks) (fun b u e => Heap.get?_push_of_some _ e) (Nat.le_refl _) ?_, rfl, q _ hf⟩
  exact ⟨z, us, r, ⟨_, Heap.get?_push_size _ rfl, rfl, _, rfl⟩⟩
theorem pe_lst (h : PA X es t) : PE X (.List es pos) (tLst t) := by
  intro pins s σ H Q I hq
  refine wpAny_List_spliced (thn (h pos pins s σ H _ I hq) fun us s1 ⟨xs, H1, I1, r, z, q⟩ => ⟨by rw [← r.length]; exact z, ?_⟩)
  have hf : H1 s1.heap.objs.size = none := I1.hok.fresh (Nat.le_refl _)
  refine ⟨.ref s1.heap.objs.size, upd H1 s1.heap.objs.size (.lst xs), I1.laid (t' := s1.toks) (fun b u e => Heap.get?_push_of_some _ e) (Nat.le_refl _) ?_, rfl, q _ hf⟩
  exact ⟨z, us, 0, r, Heap.get?_push_size _ rfl⟩
end

/-! ### what a def promises -/
/-- a def's promise: the bound arguments in the parameters' order, the heap, the wanted end, the wanted exception -/
abbrev Sp := List V → Hp → VK → XK → Prop
/-- how an exception lies behind a call (file 08 gives it): the callers' frames, abstract heap and state ahead of the call, the wish, the exception, the state -/
abbrev CXT := List Env → Hp → Shared → XK → Value → Shared → Prop

/-- the state at a call -/
structure Env0 (P : Program) (w : World) (K : PySem.W.Frag) (mg : Str → Option Value) (base : Heap) (A : Around) (outer : List Env) (s : Shared) (H : Hp) : Prop where
  frames : A.frames = some outer
  mod : Mod K mg base
  bs : ∀ b o, base.get? b = some o → s.heap.get? b = some o ∧ H b = none
  bsz : base.objs.size ≤ s.heap.objs.size
  funs : s.heap.FunFrames base outer
  frf : ∀ b ∈ frs outer, H b = none
  hok : HOk P w H s.heap
  bare : AllBare s.gens
/-- a call's end -/
def CE (outer : List Env) (P : Program) (w : World) (H : Hp) (s : Shared) (Q : VK) (u : Value) (s' : Shared) : Prop :=
  ∃ v H', s'.os = s.os ∧ AllBare s'.gens ∧ Un (frs outer) [] H H' s.heap s'.heap ∧ HOk P w H' s'.heap ∧ RelV v u ∧ Q v H'
def CR (CX : CXT) (outer : List Env) (P : Program) (w : World) (H : Hp) (s : Shared) (Q : VK) (E : XK) (r : Result) (s' : Shared) : Prop :=
  match r with
  | .ok (.ret u) => CE outer P w H s Q u s'
  | .ok _ => False
  | .error e => CX outer H s E e s'
structure FnOk (P : Program) (w : World) (K : PySem.W.Frag) (mg : Str → Option Value) (base : Heap) (CX : CXT) (k : Nat) (f : Addr) (fd : FuncData) (ps : List Str) (sp : Sp) : Prop where
  len : ∀ vs H Q E, sp vs H Q E → vs.length = ps.length
  run : ∀ (A : Around) (outer : List Env) (s : Shared) (H : Hp) (args : Args) (us : List Value) (vs : List V) (Q : VK) (E : XK), Room k A → Env0 P w K mg base A outer s H → BindsTo s fd args (ps.zip us) → Vals vs us → sp vs H Q E →
    codeAny (model P w) A (.call (.ref f) args) (CR CX outer P w H s Q E) s
theorem FnOk.mono {P : Program} {w : World} {K : PySem.W.Frag} {mg : Str → Option Value} {base : Heap} {CX : CXT} {j k : Nat} {f : Addr} {fd : FuncData} {ps : List Str} {sp : Sp} (F : FnOk P w K mg base CX j f fd ps sp) (h : j ≤ k) :
    FnOk P w K mg base CX k f fd ps sp := ⟨F.len, fun A outer s H args us vs Q E hr => F.run A outer s H args us vs Q E (hr.mono h)⟩
/-- a weaker promise -/
theorem FnOk.imp {P : Program} {w : World} {K : PySem.W.Frag} {mg : Str → Option Value} {base : Heap} {CX : CXT} {k : Nat} {f : Addr} {fd : FuncData} {ps : List Str} {sp sp' : Sp} (F : FnOk P w K mg base CX k f fd ps sp)
    (h : ∀ vs H Q E, sp' vs H Q E → sp vs H Q E) : FnOk P w K mg base CX k f fd ps sp' :=
  ⟨fun vs H Q E q => F.len vs H Q E (h _ _ _ _ q), fun A outer s H args us vs Q E hr he hb hv hs => F.run A outer s H args us vs Q E hr he hb hv (h _ _ _ _ hs)⟩

theorem Env0.in1 {P : Program} {w : World} {K : PySem.W.Frag} {mg : Str → Option Value} {base : Heap} {A : Around} {outer : List Env} {s : Shared} {H : Hp} (e : Env0 P w K mg base A outer s H) :
    Env0 P w K mg base A.in1 outer s H := ⟨e.frames, e.mod, e.bs, e.bsz, e.funs, e.frf, e.hok, e.bare⟩

section
variable {X : Cx} {pins : List (Addr × Obj)} {σ : St} {H : Hp} {s s' : Shared}
/-- from a body: what a callee wants -/
theorem Inv.env0 (I : Inv X pins σ H s) : Env0 X.prog X.w X.K X.mg X.base X.A X.stack s H :=
  ⟨I.ok.frames, I.ok.mod, I.bs, Nat.le_trans I.ok.bsz I.sz, I.stack, I.stkFree, I.hok, I.bare⟩
/-- behind a call -/
theorem Inv.after {Q : VK} {u : Value} (I : Inv X pins σ H s) (h : CE X.stack X.prog X.w H s Q u s') : EP X pins σ Q u s' := by
  obtain ⟨v, H', os, bare, un, hok, r, q⟩ := h
  obtain ⟨hh, g, d, t, os'⟩ := s'
  obtain rfl : os' = s.os := os
  exact ⟨v, H', I.call (h' := hh) (g' := g) (d' := d) (t' := t) (ch := []) un hok bare (fun b z => absurd z (by simp)), r, q⟩
end

/-! ### calls -/
/-- f(..): the written arguments, then the defaults dvs; E: what is wanted of an exception -/
def tCall (sp : Sp) (dvs : List V) (E : XK) (t : TA) : TE := fun σ H Q => t σ H fun vs H1 => sp (vs ++ dvs) H1 Q E
/-- how the parameters are bound: us the positional arguments, kw the keywords' values by name, ds the defaults that fill up -/
def Binds (K : PySem.W.Frag) (fd : FuncData) (ps : List Str) (ds : List Value) : Prop :=
  ∀ (s : Shared) (us : List Value), K.In s.heap → (us ++ ds).length = ps.length → BindsTo s fd ⟨us, []⟩ (ps.zip (us ++ ds))
/-- every parameter is given -/
theorem Binds.all {K : PySem.W.Frag} {fd : FuncData} {ps : List Str} (h : ∀ us : List Value, us.length = ps.length → bindArgs fd ⟨us, []⟩ = pure (ps.zip us)) : Binds K fd ps [] := fun s us _ hl => by
  rw [List.append_nil] at hl ⊢
  exact .of_eq (h us hl)

/-- an exception of a callee reaches what this body wants of exceptions -/
def Passes (CX : CXT) (X : Cx) (E : XK) : Prop := ∀ (pins : List (Addr × Obj)) (σ : St) (H : Hp) (s : Shared) (e : Value) (s' : Shared), Inv X pins σ H s → CX X.stack H s E e s' → X.xe e s'

section
variable {X : Cx} {CX : CXT} {k : Nat} {f C : Addr} {fd : FuncData} {ps : List Str} {sp : Sp} {dvs : List V} {ds : List Value} {E : XK} {x m : Str} {p pos apos : Pos} {e o : Expr} {es : List Expr} {ta : TE} {t : TA}

/-- the callee runs -/
theorem run_fn {pins : List (Addr × Obj)} {σ : St} {H : Hp} {s : Shared} {Q : VK} {us : List Value} {vs : List V} (F : FnOk X.prog X.w X.K X.mg X.base CX k f fd ps sp) (hr : Room k X.A) (hb : Binds X.K fd ps ds) (hd : Vals dvs ds) (hx : Passes CX X E)
    (I : Inv X pins σ H s) (r : Vals vs us) (h : sp (vs ++ dvs) H Q E) : wpAny (model X.prog X.w) X.A (call (.ref f) us) (EP X pins σ Q) X.xe s := by
  have r2 : Vals (vs ++ dvs) (us ++ ds) := r.append hd
  have hl : (us ++ ds).length = ps.length := by rw [← r2.length]; exact F.len _ _ _ _ h
  refine wpAny_call (codeAny_mono (F.run X.A X.stack s H ⟨us, []⟩ (us ++ ds) (vs ++ dvs) Q E hr I.env0 (hb s us I.kIn hl) r2 h) fun r s' hq => ?_)
  cases r with
  | error e => exact hx pins σ H s e s' I hq
  | ok fl =>
    cases fl with
    | ret u => exact I.after hq
    | next => exact False.elim hq
    | brk => exact False.elim hq
    | cont => exact False.elim hq

theorem pe_call (F : FnOk X.prog X.w X.K X.mg X.base CX k f fd ps sp) (hr : Room k X.A) (hg : Gl X x) (hm : X.mg x = some (.ref f)) (hk : PySem.W.keepIn X.K (.ref f) = true) (hb : Binds X.K fd ps ds) (hd : Vals dvs ds) (hx : Passes CX X E)
    (ha : PA X (e :: es) t) (hdb : (x == ("__debug__" : Str)) = false := by decide) (he : starEach (e :: es) X.env = (false, eval e X.env) :: starEach es X.env := by rfl) (hpl : (backTo pos (starEach es X.env)).any (·.1) = false := by rfl) :
    PE X (.Call (.Name x p) (e :: es) [] pos) (tCall sp dvs E t) := by
  intro pins s σ H Q I h
  refine wpAny_Call_Name_kw (ld_glob I hg hm ?_ hdb)
  refine PySem.W.callWith_K (h₀ := X.base) I.ok.mod.kin hk (thn (ha pos pins s σ H _ I h) fun us s1 ⟨vs, H1, I1, r, q⟩ => ⟨I1.kIn, ?_⟩) he hpl
  exact run_fn F hr hb hd hx I1 r q
/-- what a class must have to be made -/
structure Mk (K : PySem.W.Frag) (C f : Addr) : Prop where
  makes : PySem.W.makesIn K C = true
  init : PySem.W.findIn K (.ref C) "__init__" = some (some (.ref f))
  fn : PySem.W.isFn K (.ref f) = true
  kp : PySem.W.keepIn K (.ref C) = true

end

section
variable {X : Cx} {CX : CXT} {k : Nat} {f C : Addr} {fd : FuncData} {ps ks : List Str} {sp : Sp} {E : XK} {x m : Str} {p pos apos kpos : Pos} {e o : Expr} {es : List Expr} {kws : List Keyword} {te ta : TE} {t tk : TA} {nm : Option Str}
/-- how a call with keywords binds: g puts the positional values us and the keywords' values ws (names ks) in the parameters' order, defaults among them -/
structure KBinds (K : PySem.W.Frag) (fd : FuncData) (ps ks : List Str) (g : List Value → List Value → List Value) (gV : List V → List V → List V) : Prop where
  to : ∀ (s : Shared) (us ws : List Value), K.In s.heap → (g us ws).length = ps.length → BindsTo s fd ⟨us, ks.zip ws⟩ (ps.zip (g us ws))
  rel : ∀ {vs : List V} {us : List Value} {zs : List V} {ws : List Value}, Vals vs us → Vals zs ws → Vals (gV vs zs) (g us ws)
variable {g : List Value → List Value → List Value} {gV : List V → List V → List V}
end

/-! ### a def's body keeps its promise -/
/-- names: the parameters first -/
structure FnScope (N P : List Str) (sc : Scope) : Prop where
  kind : sc.kind = .function
  co : sc.isCoroutine = false
  gen : sc.isGenerator = false
  nd : N.Nodup
  pre : N.take P.length = P
  par : ∀ x ∈ P, sc.names.lookup x = some .local ∨ sc.names.lookup x = some .cell
  nofree : ∀ y ∈ sc.names, y.2 ≠ .free

theorem bindL_out {kindOf : Str → Option NameKind} {x : Str} : ∀ {binds : List (Str × Value)} {m : Str → Option Value}, (∀ v, (x, v) ∉ binds) → bindL kindOf binds m x = m x
  | [], _, _ => rfl
  | (n, v) :: r, m, h => by
    unfold bindL
    rw [bindL_out fun w hw => h w (List.mem_cons_of_mem _ hw)]
    split
    · have : x ≠ n := by rintro rfl; exact h v List.mem_cons_self
      simp [this]
    · rfl
theorem bindC_out {kindOf : Str → Option NameKind} {x : Str} : ∀ {binds : List (Str × Value)} {m : Str → Option Value}, (∀ v, (x, v) ∉ binds) → bindC kindOf binds m x = m x
  | [], _, _ => rfl
  | (n, v) :: r, m, h => by
    unfold bindC
    rw [bindC_out fun w hw => h w (List.mem_cons_of_mem _ hw)]
    split
    · rfl
    · have : x ≠ n := by rintro rfl; exact h v List.mem_cons_self
      simp [this]
theorem bindL_get {kindOf : Str → Option NameKind} {x : Str} {v : Value} : ∀ {P : List Str} {vs : List Value} {i : Nat} {m : Str → Option Value}, P.Nodup → P[i]? = some x → vs[i]? = some v → kindOf x = some .local →
    bindL kindOf (P.zip vs) m x = some v
  | [], _, _, _, _, h, _, _ => by simp at h
  | _ :: _, [], _, _, _, _, h, _ => by simp at h
  | p :: P, w :: vs, 0, m, nd, h1, h2, hk => by
    simp at h1 h2; subst h1; subst h2
    show bindL kindOf ((p, w) :: P.zip vs) m p = _
    unfold bindL
    rw [bindL_out fun v hv => (List.nodup_cons.mp nd).1 (List.of_mem_zip hv).1, if_pos hk]
    simp
  | p :: P, w :: vs, i + 1, m, nd, h1, h2, hk => by
    show bindL kindOf ((p, w) :: P.zip vs) m x = _
    unfold bindL
    exact bindL_get (i := i) (List.nodup_cons.mp nd).2 (by simpa using h1) (by simpa using h2) hk
theorem bindC_get {kindOf : Str → Option NameKind} {x : Str} {v : Value} : ∀ {P : List Str} {vs : List Value} {i : Nat} {m : Str → Option Value}, P.Nodup → P[i]? = some x → vs[i]? = some v → kindOf x ≠ some .local →
    bindC kindOf (P.zip vs) m x = some v
  | [], _, _, _, _, h, _, _ => by simp at h
  | _ :: _, [], _, _, _, _, h, _ => by simp at h
  | p :: P, w :: vs, 0, m, nd, h1, h2, hk => by
    simp at h1 h2; subst h1; subst h2
    show bindC kindOf ((p, w) :: P.zip vs) m p = _
    unfold bindC
    rw [bindC_out fun v hv => (List.nodup_cons.mp nd).1 (List.of_mem_zip hv).1, if_neg hk]
    simp
  | p :: P, w :: vs, i + 1, m, nd, h1, h2, hk => by
    show bindC kindOf ((p, w) :: P.zip vs) m x = _
    unfold bindC
    exact bindC_get (i := i) (List.nodup_cons.mp nd).2 (by simpa using h1) (by simpa using h2) hk

/-- the names' values at the entry -/
def start (N : List Str) (vs : List V) : St := vs.map some ++ List.replicate (N.length - vs.length) none

/-- the context of a def's body, at its entry; an exception leaves the frame, then lies as CX says -/
def cxOf (CX : CXT) (P : Program) (w : World) (K : PySem.W.Frag) (mg : Str → Option Value) (base : Heap) (N : List Str) (qual : Str) (scope : Scope) (f : Addr) (cd : Value) (A : Around) (outer : List Env) (s : Shared) (H : Hp) (E : XK) : Cx where
  prog := P
  w := w
  K := K
  mg := mg
  base := base
  A := A.deeper (envOfC qual scope s.heap.objs.size f cd)
  N := N
  s₀ := s
  H₀ := H
  env := envOfC qual scope s.heap.objs.size f cd
  outer := outer
  stack := envOfC qual scope s.heap.objs.size f cd :: outer
  ex := []
  calm := true
  fn := fun _ => true
  pn := []
  xe := fun e s' => wpAny (model P w) (A.deeper (envOfC qual scope s.heap.objs.size f cd)) (leaving (envOfC qual scope s.heap.objs.size f cd) e) (fun _ s'' => CX outer H s E e s'') (fun e' s'' => CX outer H s E e' s'') s'

theorem cell_has {sc : Scope} {n : Nat} {x : Str} (h : sc.names.lookup x = some .cell) : ∃ c, (cellsFrom n sc.names []).lookup x = some c := by
  have q := PySem.W.cellsFrom_some sc.names n [] (.inl h)
  exact Option.isSome_iff_exists.mp q

theorem inv_start {CX : CXT} {P : Program} {w : World} {K : PySem.W.Frag} {mg : Str → Option Value} {base : Heap} {N ps : List Str} {qual : Str} {scope : Scope} {f : Addr} {cd : Value} {A : Around} {outer : List Env} {s s1 : Shared} {H : Hp} {E : XK} {us : List Value} {vs : List V}
    (S : FnScope N ps scope) (hd : A.handled = none) (e0 : Env0 P w K mg base A outer s H) (hl : vs.length = ps.length) (r : Vals vs us)
    (x : InCallC s s.heap.objs.size (bindL (envOfC qual scope s.heap.objs.size f cd).kindOf (ps.zip us) fun _ => none) (cellsFrom (s.heap.objs.size + 1) scope.names []) (bindC (envOfC qual scope s.heap.objs.size f cd).kindOf (ps.zip us) fun _ => none) s1) :
    Inv (cxOf CX P w K mg base N qual scope f cd A outer s H E) [] (start N vs) H s1 := by
  have hpl : ps.length ≤ N.length := by have := congrArg List.length S.pre; rw [List.length_take] at this; omega
  obtain ⟨h1, tk, rfl, hk⟩ := x.done
  have noA : ∀ b : Addr, b ∉ (cxOf CX P w K mg base N qual scope f cd A outer s H E).ex := fun b z => absurd (show b ∈ ([] : List Addr) from z) (by simp)
  refine ⟨⟨e0.mod, S.kind, rfl, rfl, Nat.le_refl _, fun y z c h1 h2 => ?_, fun y hy => ?_, fun y c _ h => ?_, fun _ => hd, Around.frames_deeper e0.frames, .inr ⟨rfl, rfl⟩, fun b z => absurd z (noA b), e0.bs, e0.bsz, fun b _ _ => noA b, fun b z => absurd z (noA b), e0.funs, e0.frf⟩,
    rfl, e0.bare, Un.kept hk, ⟨_, x.toInCall.ns, fun i y v h1 h2 h3 => ?_⟩, fun y c h => ⟨_, x.cell y c h⟩, e0.hok.fresh (Nat.le_refl _), fun y c h => ?_, fun p hp => absurd (show p ∈ ([] : List (Addr × Obj)) from hp) (by simp), e0.hok.kept hk, ?_⟩
  · exact name_of_addr x.apart (PySem.mem_of_lookup h1) (PySem.mem_of_lookup h2)
  · have hy : scope.names.lookup y = some .cell ∨ scope.names.lookup y = some .free := hy
    rcases hy with hy | hy
    · exact cell_has hy
    · exact absurd rfl (S.nofree _ (PySem.mem_of_lookup hy))
  · exact Nat.le_of_lt (x.above y c (PySem.mem_of_lookup h))
  · have hi : i < vs.length := by
      unfold start at h2
      by_cases hi : i < vs.length
      · exact hi
      · rw [List.getElem?_append_right (by simpa using hi)] at h2
        rw [List.getElem?_replicate] at h2
        split at h2 <;> cases h2
    have ha : vs[i]? = some v := by
      unfold start at h2
      rw [List.getElem?_append_left (by simpa using hi), List.getElem?_map] at h2
      cases e : vs[i]? with
      | none => rw [e] at h2; cases h2
      | some a => rw [e] at h2; cases h2; rfl
    obtain ⟨u, hu, rv⟩ := r.get ha
    have hp : ps[i]? = some y := by
      rw [← S.pre, List.getElem?_take_of_lt (by omega)]; exact h1
    have ndP : ps.Nodup := by rw [← S.pre]; exact S.nd.sublist (List.take_sublist _ _)
    refine ⟨u, rv, ?_⟩
    rcases S.par y (List.mem_of_getElem? hp) with k | k
    · exact .inl ⟨k, bindL_get ndP hp hu k⟩
    · obtain ⟨c, e⟩ := cell_has (n := s.heap.objs.size + 1) k
      refine .inr ⟨.inl k, c, e, ?_⟩
      have q := x.cell y c e
      rw [bindC_get ndP hp hu (by show scope.names.lookup y ≠ _; rw [k]; decide)] at q
      exact q
  · exact e0.hok.fresh (Nat.le_of_lt (x.above y c (PySem.mem_of_lookup h)))
  · unfold start
    show _ = N.length
    rw [List.length_append, List.length_map, List.length_replicate]
    omega

/-- THE RULE: a def (or a method) of the text, by its body. The body's reading t is chosen for each entry; it is run at the parameters' values -/
theorem fn_of {CX : CXT} {P : Program} {w : World} {K : PySem.W.Frag} {mg : Str → Option Value} {base : Heap} {k : Nat} {f : Addr} {name qual : Str} {params : Arguments} {body : List Stmt} {scope : Scope} {dV kV doc pm cdv ct oc : Value} {an od : Option Addr}
    {osl : Array (Option Value)} {N ps : List Str} {sp : Sp} (lk : K.lookup f = some ⟨oc, od, .func (PySem.W.fnOf name qual params body scope dV kV doc pm an cdv ct), osl⟩) (hcd : PySem.W.codeIn K cdv qual = true) (S : FnScope N ps scope)
    (len : ∀ vs H Q E, sp vs H Q E → vs.length = ps.length)
    (hbody : ∀ (A : Around) (outer : List Env) (s : Shared) (H : Hp) (vs : List V) (Q : VK) (E : XK), Room k (A.deeper (envOfC qual scope s.heap.objs.size f cdv)) → sp vs H Q E →
      ∃ t, PSs (cxOf CX P w K mg base N qual scope f cdv A outer s H E) body t ∧ t { nx := fun _ H' => Q .non H', rt := Q } (start N vs) H) :
    FnOk P w K mg base CX (k + 1) f (PySem.W.fnOf name qual params body scope dV kV doc pm an cdv ct) ps sp := by
  refine ⟨len, fun A outer s H args us vs Q E hr e0 hb r hsp => ?_⟩
  have hl := len _ _ _ _ hsp
  have KX : K.In s.heap := e0.mod.kin.keeps fun b o e => (e0.bs b o e).1
  have lim : s.heap.NoLimit := e0.mod.nolimit.keeps fun b o e => (e0.bs b o e).1
  have hkind : ∀ y ∈ ps.zip us, scope.names.lookup y.1 = some .local ∨ (scope.names.lookup y.1 = some .cell ∧ ((cellsFrom (s.heap.objs.size + 1) scope.names []).lookup y.1).isSome = true) := fun ⟨n, v⟩ hy => by
    rcases S.par n (List.of_mem_zip hy).1 with q | q
    · exact .inl q
    · exact .inr ⟨q, PySem.W.cellsFrom_some _ _ _ (.inl q)⟩
  refine codeAny_call_function hr.depth (KX _ _ lk) rfl S.co S.gen rfl (PySem.W.codeRec_of KX hcd) (hb _ _ _ _ ?_)
  refine wpAny_newFunctionEnv_cells S.kind hkind fun env he s1 x => ?_
  subst he
  refine ⟨lim.keeps x.toInCall.keep, codeAny_func ?_⟩
  obtain ⟨t, ht, hq⟩ := hbody A outer s H vs Q E (hr.deeper _) hsp
  have I : Inv (cxOf CX P w K mg base N qual scope f cdv A outer s H E) [] (start N vs) H s1 := inv_start S hr.hd e0 hl r x
  refine wpAny_mono (ht [] s1 (start N vs) H _ I hq) (fun fl s' hs => ?_) fun e s' hs => hs
  have fin : ∀ {σ' : St} {H' : Hp} {v : V} {u : Value}, Inv (cxOf CX P w K mg base N qual scope f cdv A outer s H E) [] σ' H' s' → RelV v u → Q v H' → CE outer P w H s Q u s' :=
    fun {σ' H' v u} J rv q => ⟨v, H', J.os, J.bare, J.base, J.hok, rv, q⟩
  cases fl with
  | ret u =>
    obtain ⟨v, σ', H', J, rv, q⟩ := hs
    exact fin J rv q
  | next =>
    obtain ⟨σ', H', J, q⟩ := hs
    exact fin (v := V.non) (u := Value.none) J rfl q
  | brk =>
    obtain ⟨_, _, _, q⟩ := hs
    exact False.elim q
  | cont =>
    obtain ⟨_, _, _, q⟩ := hs
    exact False.elim q
end L2

namespace L2
open PySem PySem.Spec PyProof.Rows
section
variable {X : Cx} {x : Str} {p pos : Pos} {e : Expr} {es : List Expr} {t : TA} {id T : String} {r : List V → Hp → VK → Prop}

def tCB (r : List V → Hp → VK → Prop) (t : TA) : TE := fun σ H Q => t σ H fun vs H1 => r vs H1 Q
/-- f(e, ..), f a built-in function -/
theorem pe_callB (hc : CallR X (.builtin id) r) (hg : Gl X x) (hm : X.mg x = none) (hv : bootBuiltins x = some (.builtin id)) (ha : PA X (e :: es) t) (hn : x ≠ "__name__" := by decide) (hdb : (x == ("__debug__" : Str)) = false := by decide)
    (he : starEach (e :: es) X.env = (false, eval e X.env) :: starEach es X.env := by rfl) (hpl : (backTo pos (starEach es X.env)).any (·.1) = false := by rfl) : PE X (.Call (.Name x p) (e :: es) [] pos) (tCB r t) := by
  intro pins s σ H Q I h
  refine wpAny_Call_Name_kw (ld_blt I hg hm hv ?_ hn hdb)
  exact PyProof.Rows.callWith_builtin1 (thn (ha pos pins s σ H _ I h) fun us s1 ⟨vs, H1, I1, r1, q1⟩ => hc pins s1 σ H1 vs us Q I1 r1 q1) he hpl
/-- T(e, ..), T a built-in type -/
theorem pe_callTy (hc : CallR X (.type T) r) (hg : Gl X x) (hm : X.mg x = none) (hv : bootBuiltins x = some (.type T)) (ha : PA X (e :: es) t) (hn : x ≠ "__name__" := by decide) (hdb : (x == ("__debug__" : Str)) = false := by decide)
    (he : starEach (e :: es) X.env = (false, eval e X.env) :: starEach es X.env := by rfl) (hpl : (backTo pos (starEach es X.env)).any (·.1) = false := by rfl) : PE X (.Call (.Name x p) (e :: es) [] pos) (tCB r t) := by
  intro pins s σ H Q I h
  refine wpAny_Call_Name_kw (ld_blt I hg hm hv ?_ hn hdb)
  exact PyProof.Rows.callWith_type1 (thn (ha pos pins s σ H _ I h) fun us s1 ⟨vs, H1, I1, r1, q1⟩ => hc pins s1 σ H1 vs us Q I1 r1 q1) he hpl
end
end L2

namespace HT
open PySem PyProof.Rows

/-- t < u of tuples of ints -/
def lexLt : List Int → List Int → Bool
  | [], [] => false
  | [], _ :: _ => true
  | _ :: _, [] => false
  | x :: xs, y :: ys => if x = y then lexLt xs ys else decide (x < y)
theorem lexLt_cons (x y : Int) (xs ys : List Int) : lexLt (x :: xs) (y :: ys) = if x = y then lexLt xs ys else decide (x < y) := rfl
theorem lexLt_nil_nil : lexLt [] [] = false := rfl
theorem lexLt_nil_cons (y : Int) (ys : List Int) : lexLt [] (y :: ys) = true := rfl
theorem lexLt_cons_nil (x : Int) (xs : List Int) : lexLt (x :: xs) [] = false := rfl

theorem eqAt_int (A : Around) (s : Shared) (a : Int) (t : Tok) (c : Int) (u : Tok) : ∃ e, SeqAt.EqAt A s (.int a t) (.int c u) e ∧ (e = true ↔ a = c) :=
  ⟨(a == c), SeqAt.EqAt.int_int a t c u, by simp⟩
theorem rcLt_int (A : Around) (s : Shared) (a : Int) (t : Tok) (c : Int) (u : Tok) (prog : Program) (w : World) (E : Value → Shared → Prop) (Q : Value → Shared → Prop) (h : Q (.bool (decide (a < c))) s) :
    wpAny (model prog w) A (richCompare .Lt (.int a t) (.int c u)) Q E s :=
  (PyProof.Rows.lt_int h : wpAny (model prog w) A (compareOp .Lt (.int a t) (.int c u)) Q E s)

section
open PySem.SeqAt
open PySem.AutoSeq1 (wpAny_loadPart')
open PySem.MeetsSeq PySem.MeetsSeq2 PySem.MeetsSeq3

theorem tuple_lt_ints (l b : Addr) (items items2 : Array Value) (n n2 : Nat) (dd dd2 : Option Addr) (sl sl2 : Array (Option Value)) (ns ms : List Int) (hi : IntsAre items.toList ns) (hj : IntsAre items2.toList ms) :
    Meets (Builtin.«tuple.__lt__» ⟨[.ref l, .ref b], []⟩)
      (fun _ R s => s.heap.get? l = some { cls := .type "tuple", dict := dd, data := .seq items n, slots := sl } ∧ s.heap.get? b = some { cls := .type "tuple", dict := dd2, data := .seq items2 n2, slots := sl2 } ∧
        R (.ok (.ret (.bool (lexLt ns ms)))) s) :=
  .of_wp fun prog w A R s h => by
    obtain ⟨hp, g, d, tk, os⟩ := s; obtain ⟨hl, hb, h⟩ := h
    have f2 := AutoSeq1.sub_tuple_tuple
    have z1 : items.size = ns.length := by rw [← hi.length]; simp
    have z2 : items2.size = ms.length := by rw [← hj.length]; simp
    wp_walk using wpAny_loadPart' hl, wpAny_loadPart' hb, wpAny_forIn_list _ (fun rest b s' => b.1 = none ∧ s' = ⟨hp, g, d, tk, os⟩ ∧ ∃ (vs ws : List Value) (ns' ms' : List Int), rest = vs.zip ws ∧
      IntsAre vs ns' ∧ IntsAre ws ms' ∧ ns'.length + items2.size = ms'.length + items.size ∧ R (.ok (.ret (.bool (lexLt ns' ms')))) ⟨hp, g, d, tk, os⟩) _
    case turn =>
      rintro ⟨y, x⟩ rest b s' ⟨hb', rfl, vs, ws, ns', ms', hz, hvi, hwi, hlen, hR⟩
      cases hvi with
      | nil => rw [List.zip_nil_left] at hz; cases hz
      | cons a t hvi' =>
        cases hwi with
        | nil => rw [List.zip_nil_right] at hz; cases hz
        | cons c u hwi' =>
          rw [List.zip_cons_cons] at hz
          injection hz with hyx hrest
          injection hyx with hy hx
          subst hy hx
          rw [lexLt_cons] at hR
          simp only [List.length_cons] at hlen
          obtain ⟨e, he, hiff⟩ := eqAt_int A.in1 ⟨hp, g, d, tk, os⟩ a t c u
          refine wpAny_bind (he prog w _ _ ?_)
          cases e with
          | true =>
            rw [if_pos (hiff.mp rfl)] at hR
            wp_walk
            exact ⟨rfl, rfl, _, _, _, _, hrest, hvi', hwi', by omega, hR⟩
          | false =>
            rw [if_neg (fun q => absurd (hiff.mpr q) Bool.false_ne_true)] at hR
            have hri := rcLt_int A.in1 ⟨hp, g, d, tk, os⟩ a t c u prog w
            wp_walk using hri
            exact ⟨_, rfl, by simpa using hR⟩
    case fin =>
      rintro ⟨b1, b2⟩ s' ⟨hb', rfl, vs, ws, ns', ms', hz, hvi, hwi, hlen, hR⟩
      simp only at hb'
      subst hb'
      have hv : lexLt ns' ms' = decide (items.size < items2.size) := by
        cases hvi with
        | nil =>
          cases hwi with
          | nil =>
            simp only [List.length_nil] at hlen
            rw [lexLt_nil_nil]
            exact (decide_eq_false (by omega)).symm
          | cons c u hw =>
            simp only [List.length_nil, List.length_cons] at hlen
            rw [lexLt_nil_cons]
            exact (decide_eq_true (by omega)).symm
        | cons a t hv =>
          cases hwi with
          | nil =>
            simp only [List.length_nil, List.length_cons] at hlen
            rw [lexLt_cons_nil]
            exact (decide_eq_false (by omega)).symm
          | cons c u hw =>
            rw [List.zip_cons_cons] at hz
            cases hz
      rw [hv] at hR
      wp_walk
      exact ⟨_, rfl, by simpa [Builtin.Tuple.tupleCompareSizes] using hR⟩
    case h =>
      exact ⟨rfl, rfl, items.toList, items2.toList, ns, ms, rfl, hi, hj, by omega, h⟩
end

section
variable {prog : Program} {w : World} {A : Around} {E : Value → Shared → Prop} {s : Shared}

theorem lt_tupInts {l b : Addr} {items items2 : Array Value} {ns ms : List Int} {Q : Value → Shared → Prop} (hl : IsTup s.heap l items) (hb : IsTup s.heap b items2) (hi : IntsAre items.toList ns) (hj : IntsAre items2.toList ms)
    (hu : A.units < cLine) (h : Q (.bool (lexLt ns ms)) s) : wpAny (model prog w) A (compareOp .Lt (.ref l) (.ref b)) Q E s := by
  obtain ⟨⟨cls, dd, data, sl⟩, ho, hc, n, hd⟩ := id hl
  obtain ⟨⟨cls2, dd2, data2, sl2⟩, ho2, hc2, n2, hd2⟩ := id hb
  simp only at hc hd hc2 hd2
  subst hc hd hc2 hd2
  exact richCompare_meets_room (op := .Lt) ⟨_, ho, rfl⟩ ⟨_, ho2, rfl⟩ PySem.F.slot_tuple_lt PySem.F.entry_tuple_lt (PySem.F.args_tuple_lt_2 _ _) (tuple_lt_ints l b items items2 n n2 dd dd2 sl sl2 ns ms hi hj)
    ⟨ho, ho2, show Value.bool (lexLt ns ms) ≠ Value.notImplemented ∧ Q (.bool (lexLt ns ms)) s from ⟨(fun x => nomatch x), h⟩⟩ hu

end
end HT

namespace L2
open PySem PySem.Spec PyProof.Rows

/-! ### the parts of a slice -/
abbrev TO := St → Hp → (Option Int → Hp → Prop) → Prop
/-- a slice's part (left out, or an int) -/
def PO (X : Cx) (e : Option Expr) (t : TO) : Prop :=
  ∀ (pins : List (Addr × Obj)) (s : Shared) (σ : St) (H : Hp) (Q : Option Int → Hp → Prop), Inv X pins σ H s → t σ H Q →
    wpAny (model X.prog X.w) X.A (evalPart e X.env) (fun u s' => ∃ o H', Inv X pins σ H' s' ∧ IsPart u o ∧ Q o H') X.xe s
def tPart (t : TE) : TO := fun σ H Q => t σ H fun x H1 => ∃ i, x = .int i ∧ Q (some i) H1

theorem intsAre_of {ns : List Int} : ∀ {us : List Value}, Vals (ns.map V.int) us → IntsAre us ns := by
  induction ns with
  | nil => intro us r; rw [List.map_nil] at r; cases r; exact .nil
  | cons n ns ih =>
    intro us r
    rw [List.map_cons] at r
    cases r with
    | cons r1 r2 =>
      obtain ⟨t, e⟩ := r1
      subst e
      exact .cons n t (ih r2)

section
variable {X : Cx} {e : Expr} {te : TE} {lo hi : Option Expr} {tl th : TO} {pos p2 : Pos}

theorem po_some (h : PE X e te) : PO X (some e) (tPart te) := by
  intro pins s σ H Q I hw
  rw [evalPart_some]
  refine thn (h pins s σ H _ I hw) fun u s1 ⟨x, H1, I1, r1, q1⟩ => ?_
  obtain ⟨i, rfl, q⟩ := q1
  obtain ⟨t, rfl⟩ := r1
  exact ⟨some i, H1, I1, .int i t, q⟩

/-- what a slice of a value is, by values: the slice object stands at sl -/
def SlR (X : Cx) (r : V → Option Int → Option Int → Hp → VK → Prop) : Prop :=
  ∀ (pins : List (Addr × Obj)) (s : Shared) (σ : St) (H : Hp) (x : V) (v vl vu : Value) (lo hi : Option Int) (sl : Addr) (Q : VK), Inv X pins σ H s → RelV x v → s.heap.IsSliceOf sl vl vu .none → IsPart vl lo → IsPart vu hi → r x lo hi H Q →
    ∃ T id, typeLookup (.type T) "__getitem__" = pure (some (.builtin id)) ∧ s.TypeIs v T ∧ wpAny (model X.prog X.w) X.A (getItem v (.ref sl)) (EP X pins σ Q) X.xe s
theorem SlR.or {r r' : V → Option Int → Option Int → Hp → VK → Prop} (h : SlR X r) (h' : SlR X r') : SlR X (fun x lo hi H Q => r x lo hi H Q ∨ r' x lo hi H Q) := by
  intro pins s σ H x v vl vu lo hi sl Q I rx hs pl pu q
  rcases q with q | q
  · exact h pins s σ H x v vl vu lo hi sl Q I rx hs pl pu q
  · exact h' pins s σ H x v vl vu lo hi sl Q I rx hs pl pu q
end
end L2

namespace L2
open PySem PySem.Spec PyProof.Rows

/-! ### places -/
/-- the place that an index of any sign means -/
def ixN (n : Nat) (i : Int) : Option Nat := if 0 ≤ i then (if i < n then some i.toNat else none) else if -(n : Int) ≤ i then some (i + n).toNat else none
def atI {α : Type} (xs : List α) (i : Int) : Option α := (ixN xs.length i).bind fun j => xs[j]?
theorem ixN_seq {n : Nat} {i : Int} {j : Nat} (h : ixN n i = some j) : seqIndex? i n = some j ∧ j < n ∧ -(n : Int) ≤ i ∧ i < n := by
  unfold ixN at h
  by_cases h0 : 0 ≤ i
  · rw [if_pos h0] at h
    by_cases h1 : i < n
    · rw [if_pos h1] at h
      have e : i.toNat = j := Option.some.inj h
      exact ⟨by rw [seqIndex_of h0 h1, e], by omega, by omega, h1⟩
    · rw [if_neg h1] at h; cases h
  · rw [if_neg h0] at h
    by_cases h1 : -(n : Int) ≤ i
    · rw [if_pos h1] at h
      have e : (i + n).toNat = j := Option.some.inj h
      exact ⟨by rw [seqIndex_neg (by omega) h1, e], by omega, h1, by omega⟩
    · rw [if_neg h1] at h; cases h
theorem atI_get {α : Type} {xs : List α} {i : Int} {v : α} (h : atI xs i = some v) : ∃ j, seqIndex? i xs.length = some j ∧ xs[j]? = some v ∧ j < xs.length ∧ -(xs.length : Int) ≤ i ∧ i < xs.length := by
  unfold atI at h
  cases e : ixN xs.length i with
  | none => rw [e] at h; cases h
  | some j =>
    rw [e] at h
    obtain ⟨h1, h2, h3, h4⟩ := ixN_seq e
    exact ⟨j, h1, h, h2, h3, h4⟩
theorem atI_nat {α : Type} {xs : List α} {j : Nat} {v : α} (h : xs[j]? = some v) : atI xs (j : Int) = some v := by
  have hj : j < xs.length := (List.getElem?_eq_some_iff.mp h).1
  have e : ixN xs.length (j : Int) = some j := by
    unfold ixN
    rw [if_pos (by omega), if_pos (by omega)]; simp
  unfold atI; rw [e]; exact h
theorem atI_last {α : Type} (xs : List α) (v : α) : atI (xs ++ [v]) (-1) = some v := by
  have hl : (xs ++ [v]).length = xs.length + 1 := by simp
  have e : ixN (xs ++ [v]).length (-1) = some xs.length := by
    unfold ixN
    rw [hl, if_neg (by decide), if_pos (by omega)]
    congr 1
    omega
  unfold atI
  rw [e]
  show (xs ++ [v])[xs.length]? = some v
  simp

/-! ### what may be subscripted -/
/-- what stands as an index of a plain subscript -/
def PlainIx (b : Expr) : Prop := ∀ o i, subscripted b false o i = operate [o, i] (getItem o i)
/-- a subscript by values -/
def IxR (X : Cx) (r : R2) : Prop :=
  ∀ (value slice : Expr) (pins : List (Addr × Obj)) (s : Shared) (σ : St) (H : Hp) (x y : V) (v u : Value) (Q : VK), Inv X pins σ H s → RelV x v → RelV y u → r x y H Q →
    subscripted slice false v u = operate [v, u] (getItem v u) → wpAny (model X.prog X.w) X.A (subscriptTail value slice v u) (EP X pins σ Q) X.xe s
/-- a call of a builtin's method by values: the receiver, the arguments -/
def MtR (X : Cx) (id : String) (r : V → List V → Hp → VK → Prop) : Prop :=
  ∀ (pins : List (Addr × Obj)) (s : Shared) (σ : St) (H : Hp) (x : V) (xs : List V) (v : Value) (us : List Value) (Q : VK), Inv X pins σ H s → RelV x v → Vals xs us → r x xs H Q →
    wpAny (model X.prog X.w) X.A (call (.builtin id) (v :: us)) (EP X pins σ Q) X.xe s
section
variable {X : Cx} {a b : Expr} {ta tb : TE} {pos : Pos}
theorem IxR.or {r r' : R2} (h : IxR X r) (h' : IxR X r') : IxR X (fun x y H Q => r x y H Q ∨ r' x y H Q) := by
  intro value slice pins s σ H x y v u Q I rx ry q hs
  rcases q with q | q
  · exact h value slice pins s σ H x y v u Q I rx ry q hs
  · exact h' value slice pins s σ H x y v u Q I rx ry q hs
theorem MtR.or {id : String} {r r' : V → List V → Hp → VK → Prop} (h : MtR X id r) (h' : MtR X id r') : MtR X id (fun x xs H Q => r x xs H Q ∨ r' x xs H Q) := by
  intro pins s σ H x xs v us Q I rx rs q
  rcases q with q | q
  · exact h pins s σ H x xs v us Q I rx rs q
  · exact h' pins s σ H x xs v us Q I rx rs q
/-- a[b] -/
theorem pe_ix {r : R2} (hr : IxR X r) (ha : PE X a ta) (hb : PE X b tb) (hs : PlainIx b) : PE X (.Subscript a b pos) (tOp r ta tb) := by
  intro pins s σ H Q I h
  exact Subscript_ (binT ha hb I h fun v u s2 x y H2 I2 rx ry q => hr a b pins s2 σ H2 x y v u Q I2 rx ry q (hs _ _))

def rIxL (K : PySem.W.Frag) : R2 := fun x y H Q => ∃ p xs i v, x = .ref p ∧ y = .int i ∧ SqL K H p xs ∧ atI xs i = some v ∧ Q v H
def rIxT (K : PySem.W.Frag) : R2 := fun x y H Q => ∃ p xs i v, x = .ref p ∧ y = .int i ∧ SqT K H p xs ∧ atI xs i = some v ∧ Q v H
theorem ix_list : IxR X (rIxL X.K) := by
  intro value slice pins s σ H x y v u Q I rx ry h hs
  obtain ⟨p, xs, i, z, rfl, rfl, hq, he, q⟩ := h
  cases rx
  obtain ⟨t, rfl⟩ := ry
  obtain ⟨its, r, pl, hz⟩ := I.list hq
  obtain ⟨j, h1, h2, h3, h4, h5⟩ := atI_get he
  obtain ⟨w, ew, rw'⟩ := r.get h2
  have hl := r.length
  have hn := line63
  have fin : EP X pins σ Q w s := ⟨z, H, I, rw', q⟩
  by_cases h0 : 0 ≤ i
  · have hj : i.toNat = j := by
      rw [seqIndex_of h0 h5] at h1
      exact Option.some.inj h1
    exact item_listR pl.isList h0 (by omega) (by rw [hj]; simpa using ew) fin hs
  · have hj : (i + (its.toArray.size : Int)).toNat = j := by
      rw [seqIndex_neg (by omega) h4] at h1
      rw [List.size_toArray, ← hl]
      exact Option.some.inj h1
    exact subscriptTail_builtinR (x := w) pl.isList.typeIs slot_list_getitem.lookup
      (wpAny_getItem_list_neg (Q := fun r s' => r = w ∧ EP X pins σ Q r s') pl.isList (by omega) (by rw [List.size_toArray] <;> omega) (by omega) (by rw [hj]; simpa using ew) ⟨rfl, fin⟩) hs
theorem ix_tup : IxR X (rIxT X.K) := by
  intro value slice pins s σ H x y v u Q I rx ry h hs
  obtain ⟨p, xs, i, z, rfl, rfl, hq, he, q⟩ := h
  cases rx
  obtain ⟨t, rfl⟩ := ry
  obtain ⟨its, r, pl, hz⟩ := I.tuple hq
  obtain ⟨j, h1, h2, h3, h4, h5⟩ := atI_get he
  obtain ⟨w, ew, rw'⟩ := r.get h2
  have hl := r.length
  have hn := line63
  have fin : EP X pins σ Q w s := ⟨z, H, I, rw', q⟩
  exact subscriptTail_builtinR (x := w) pl.typeIs slot_tuple_getitem.lookup
    (getItem_tuple (j := j) (Q := fun r s' => r = w ∧ EP X pins σ Q r s') pl (by omega) (by omega) (by rw [List.size_toArray, ← hl]; exact h1) (by simpa using ew) ⟨rfl, fin⟩) hs
/-! ### xs[i] = v, any sign -/
/-- the list's object behind a store -/
theorem mapSeq_set (its : List Value) (n j : Nat) (u : Value) : Obj.mapSeq (·.setIfInBounds j u) { cls := .type "list", data := .seq its.toArray n } = { cls := .type "list", data := .seq (its.set j u).toArray n } := by
  simp [Obj.mapSeq]
theorem Inv.lst {pins : List (Addr × Obj)} {σ : St} {H : Hp} {s : Shared} {p : Addr} {xs : List V} (I : Inv X pins σ H s) (h : H p = some (.lst xs)) :
    ∃ (its : List Value) (n : Nat), Vals xs its ∧ s.heap.get? p = some { cls := .type "list", data := .seq its.toArray n } ∧ xs.length ≤ sizeLine := by
  obtain ⟨z, its, n, r, e⟩ := I.hok p _ h
  exact ⟨its, n, r, e, z⟩
/-- the list at p is written by an update of its object -/
theorem Inv.lstUpd {pins : List (Addr × Obj)} {σ : St} {H : Hp} {s : Shared} {p : Addr} {xs ys : List V} {its its' : List Value} {n n' : Nat} {f : Obj → Obj} (I : Inv X pins σ H s) (h : H p = some (.lst xs))
    (ho : s.heap.get? p = some { cls := .type "list", data := .seq its.toArray n }) (hf : f { cls := .type "list", data := .seq its.toArray n } = { cls := .type "list", data := .seq its'.toArray n' }) (r : Vals ys its') (hz : ys.length ≤ sizeLine) (t : Nat) :
    Inv X pins σ (upd H p (.lst ys)) { s with heap := s.heap.update p f, toks := t } := by
  have e : (s.heap.update p f).get? p = some { cls := .type "list", data := .seq its'.toArray n' } := by
    rw [Heap.get?_update_self f ho (by rw [hf] <;> rfl), hf]
  refine I.write (x := p) (e := p) (by rw [h]; trivial) (.inl rfl) (fun b u hb q => (Heap.get?_update_other _ _ (Ne.symm hb)).trans q) ⟨_, e⟩ ?_
  exact ⟨hz, its', n', r, e⟩
def rSetL : V → V → V → Hp → (Hp → Prop) → Prop := fun o i v H Q => ∃ p xs k j, o = .ref p ∧ i = .int k ∧ H p = some (.lst xs) ∧ ixN xs.length k = some j ∧ Q (upd H p (.lst (xs.set j v)))
theorem set_list : PSet X rSetL := by
  intro pins s σ H o i v ov iv u Q I ro ri rv h
  obtain ⟨p, xs, k, j, rfl, rfl, hp, hj, q⟩ := h
  cases ro
  obtain ⟨t, rfl⟩ := ri
  obtain ⟨its, n, r, ho, hz⟩ := I.lst hp
  obtain ⟨h1, h2, h3, h4⟩ := ixN_seq hj
  have hl := r.length
  have hn := line63
  have I' : Inv X pins σ (upd H p (.lst (xs.set j v))) { s with heap := s.heap.update p (Obj.mapSeq (·.setIfInBounds j u)) } :=
    I.lstUpd hp ho (mapSeq_set its n j u) (r.set rv j) (by rw [List.length_set]; exact hz) s.toks
  by_cases h0 : 0 ≤ k
  · have hk : k.toNat = j := by
      rw [seqIndex_of h0 h4] at h1
      exact Option.some.inj h1
    exact PySem.W.ki_setAt ho h0 (by omega) (by rw [List.size_toArray, ← hl]; exact h4) (by rw [hk]; exact ⟨_, I', q⟩)
  · have hk : (k + (its.toArray.size : Int)).toNat = j := by
      rw [seqIndex_neg (by omega) h3] at h1
      rw [List.size_toArray, ← hl]
      exact Option.some.inj h1
    exact PySem.W.ki_setBack ho (by omega) (by rw [List.size_toArray, ← hl]; exact h3) (by omega) (by rw [hk]; exact ⟨_, I', q⟩)

/-! ### len, list(x), tuple(x) of any list or tuple that is read -/
theorem call_len_seq : CallR X (.builtin "len") (fun xs H Q => ∃ p ys, xs = [.ref p] ∧ (SqL X.K H p ys ∨ SqT X.K H p ys) ∧ Q (.int ys.length) H) := by
  intro pins s σ H xs us Q I r h
  obtain ⟨p, ys, rfl, hq, q⟩ := h
  obtain ⟨u, rfl, rx⟩ := vals1 r
  cases rx
  have hn := line63
  rcases hq with hq | hq
  · obtain ⟨its, r', pl, hz⟩ := I.list hq
    have hlen := r'.length
    exact Calls.call_len_list pl.isList (by simp only [List.size_toArray] <;> omega) ⟨.int ys.length, H, I.tok _, ⟨s.toks + 1, by rw [List.size_toArray, hlen]⟩, q⟩
  · obtain ⟨its, r', pl, hz⟩ := I.tuple hq
    have hlen := r'.length
    exact len_tuple pl (by simp only [List.size_toArray] <;> omega) ⟨.int ys.length, H, I.tok _, ⟨s.toks + 1, by rw [List.size_toArray, hlen]⟩, q⟩
theorem CallR.or {f : Value} {r r' : List V → Hp → VK → Prop} (h : CallR X f r) (h' : CallR X f r') : CallR X f (fun xs H Q => r xs H Q ∨ r' xs H Q) := by
  intro pins s σ H xs us Q I rs q
  rcases q with q | q
  · exact h pins s σ H xs us Q I rs q
  · exact h' pins s σ H xs us Q I rs q
theorem call_list_of : CallR X (.type "list") (fun xs H Q => ∃ p ys, xs = [.ref p] ∧ (SqL X.K H p ys ∨ SqT X.K H p ys) ∧ ∀ l, H l = none → Q (.ref l) (upd H l (.lst ys))) := by
  intro pins s σ H xs us Q I r h
  obtain ⟨p, ys, rfl, hq, q⟩ := h
  obtain ⟨u, rfl, rx⟩ := vals1 r
  cases rx
  have fin : ∀ (its : List Value), Vals ys its → ys.length ≤ sizeLine → ∀ (h' : Heap) (c' : Nat), (∀ b o', s.heap.get? b = some o' → h'.get? b = some o') →
      h'.get? s.heap.objs.size = some { cls := .type "list", dict := none, data := .seq its.toArray c', slots := #[] } → EP X pins σ Q (.ref s.heap.objs.size) { s with heap := h' } := fun its r' hz h' c' kp e =>
    ⟨.ref s.heap.objs.size, _, I.laid (t' := s.toks) kp (Nat.le_refl _) (show ObjOk X.prog X.w _ h' _ (.lst ys) from ⟨hz, its, c', r', e⟩), rfl, q _ (I.hok.fresh (Nat.le_refl _))⟩
  rcases hq with hq | hq
  · obtain ⟨its, r', pl, hz⟩ := I.list hq
    have hlen := r'.length
    obtain ⟨o, ho, hc, n, hd⟩ := pl.isList
    exact call_list_seq p (.inl rfl) ho hc hd (fun h' c' kp e => fin its r' hz h' c' kp e) (by simp only [List.size_toArray] <;> omega)
  · obtain ⟨its, r', pl, hz⟩ := I.tuple hq
    have hlen := r'.length
    obtain ⟨o, ho, hc, n, hd⟩ := pl
    exact call_list_seq p (.inr rfl) ho hc hd (fun h' c' kp e => fin its r' hz h' c' kp e) (by simp only [List.size_toArray] <;> omega)
theorem call_tuple_of : CallR X (.type "tuple") (fun xs H Q => ∃ p ys, xs = [.ref p] ∧ ((SqL X.K H p ys ∧ ∀ l, H l = none → Q (.ref l) (upd H l (.tup ys))) ∨ (SqT X.K H p ys ∧ Q (.ref p) H))) := by
  intro pins s σ H xs us Q I r h
  obtain ⟨p, ys, rfl, h⟩ := h
  obtain ⟨u, rfl, rx⟩ := vals1 r
  cases rx
  rcases h with ⟨hq, q⟩ | ⟨hq, q⟩
  · obtain ⟨its, r', pl, hz⟩ := I.list hq
    have hlen := r'.length
    refine call_tuple_list pl.isList (fun h' kp => ?_) (by simp only [List.size_toArray] <;> omega)
    have I1 : Inv X pins σ H { s with heap := h' } := I.kept (t' := s.toks) kp
    have I2 : Inv X pins σ (upd H h'.objs.size (.tup ys)) { s with heap := h'.push { cls := .type "tuple", data := .seq its.toArray } } :=
      I1.laid (t' := s.toks) (fun b o e => Heap.get?_push_of_some _ e) (Nat.le_refl _) (show ObjOk X.prog X.w _ _ _ (.tup ys) from ⟨hz, its, r', IsTup.new _ _⟩)
    exact ⟨.ref h'.objs.size, _, I2, rfl, q _ (I1.hok.fresh (Nat.le_refl _))⟩
  · obtain ⟨its, r', pl, hz⟩ := I.tuple hq
    exact call_tuple_same pl ⟨.ref p, H, I, rfl, q⟩

/-! ### the call of a builtin's method: o.m(..) -/
/-- the value is of that builtin type -/
def tyV (K : PySem.W.Frag) (T : String) (x : V) (H : Hp) : Prop := match x with
  | .str _ => T = "str"
  | .int _ => T = "int"
  | .ref p => (T = "list" ∧ ∃ xs, SqL K H p xs) ∨ (T = "tuple" ∧ ∃ o, K.lookup p = some o ∧ o.cls = .type "tuple" ∧ o.dict = none) ∨
      (T = "dict" ∧ ((∃ kvs, H p = some (.dK kvs)) ∨ ∃ kvs, H p = some (.dT kvs))) ∨ (T = "set" ∧ ∃ S n, H p = some (.set S n))
  | _ => False
theorem tyV_is {pins : List (Addr × Obj)} {σ : St} {H : Hp} {s : Shared} {T : String} {x : V} {v : Value} (I : Inv X pins σ H s) (r : RelV x v) (ty : tyV X.K T x H) :
    s.TypeIs v T ∧ ∀ a, v = .ref a → ∃ ob, s.heap.get? a = some ob ∧ ob.dict = none := by
  cases x with
  | str z =>
    obtain ⟨t, rfl⟩ := r
    cases (show T = "str" from ty)
    exact ⟨typeIs_str s z t, fun _ e => nomatch e⟩
  | int i =>
    obtain ⟨t, rfl⟩ := r
    cases (show T = "int" from ty)
    exact ⟨typeIs_int s i t, fun _ e => nomatch e⟩
  | ref p =>
    cases r
    rcases ty with ⟨rfl, xs, hq⟩ | ⟨rfl, o, hk, hc, hd⟩ | ⟨rfl, hk⟩ | ⟨rfl, S, n, hk⟩
    · obtain ⟨its, _, pl, _⟩ := I.list hq
      refine ⟨pl.isList.typeIs, fun a e => ?_⟩
      cases e
      obtain ⟨o, n, e, c, hd, _⟩ := pl
      exact ⟨o, e, hd⟩
    · refine ⟨⟨o, I.kIn p o hk, hc⟩, fun a e => ?_⟩
      cases e
      exact ⟨o, I.kIn _ o hk, hd⟩
    · have z : ∃ o, s.heap.get? p = some o ∧ o.ExactDict := by
        rcases hk with ⟨kvs, hk⟩ | ⟨kvs, hk⟩
        · obtain ⟨_, _, _, _, o, _, _, e, ex, _⟩ := I.hok p _ hk
          exact ⟨o, e, ex⟩
        · obtain ⟨_, _, _, _, o, _, _, e, ex, _⟩ := I.hok p _ hk
          exact ⟨o, e, ex⟩
      obtain ⟨o, e, ex⟩ := z
      refine ⟨⟨o, e, ex.1⟩, fun a e2 => ?_⟩
      cases e2
      exact ⟨o, e, ex.2.1⟩
    · obtain ⟨o, _, _, _, e, ex, _⟩ := I.hok p _ hk
      refine ⟨⟨o, e, ex.1⟩, fun a e2 => ?_⟩
      cases e2
      exact ⟨o, e, ex.2.1⟩
  | _ => exact False.elim ty
def tBM0 (K : PySem.W.Frag) (T : String) (r : V → List V → Hp → VK → Prop) (to : TE) : TE := fun σ H Q => to σ H fun x H1 => tyV K T x H1 ∧ r x [] H1 Q
def tBM (K : PySem.W.Frag) (T : String) (r : V → List V → Hp → VK → Prop) (to : TE) (t : TA) : TE := fun σ H Q => to σ H fun x H1 => tyV K T x H1 ∧ t σ H1 fun xs H2 => r x xs H2 Q
variable {o e : Expr} {es : List Expr} {to : TE} {t : TA} {name : Str} {apos cpos : Pos} {T id : String} {r : V → List V → Hp → VK → Prop}
theorem pe_bm0 (pa : PlainAttrs T) (slot : Slot T name id) (hty : typeOf (.builtin id) = pure (.type "method_descriptor")) (hm : MtR X id r) (ho : PE X o to)
    (hbase : attributeBase o name X.env (eval o X.env) = eval o X.env := by rfl) (hline : (apos.endLine == cpos.line) = true := by rfl) : PE X (.Call (.Attribute o name apos) [] [] cpos) (tBM0 X.K T r to) := by
  intro pins s σ H Q I h
  refine wpAny_Call_method0_late hbase hline (thn (ho pins s σ H _ I h) fun v s1 ⟨x, H1, I1, r1, ty, q1⟩ => ?_)
  obtain ⟨h1, h2⟩ := tyV_is I1 r1 ty
  exact ⟨T, id, pa, slot, hty, h1, h2, Calls.callWith_builtin rfl (PySem.evalArgs_none (hm pins s1 σ H1 x [] v [] Q I1 r1 .nil q1))⟩
theorem pe_bm (pa : PlainAttrs T) (slot : Slot T name id) (hty : typeOf (.builtin id) = pure (.type "method_descriptor")) (hm : MtR X id r) (ho : PE X o to) (ha : PA X (e :: es) t)
    (hbase : attributeBase o name X.env (eval o X.env) = eval o X.env := by rfl)
    (hfew : ((backTo cpos (starEach (e :: es) X.env)).all (fun x => !x.1) && (backToKw cpos (keywordEach [] X.env)).all (fun x => x.1.isSome)
      && decide ((e :: es).length + ([] : List Keyword).length + (if ([] : List Keyword).isEmpty then 0 else 1) < 30)) = true := by rfl)
    (hline : (apos.endLine == cpos.line) = true := by rfl) (hs : starEach (e :: es) X.env = (false, eval e X.env) :: starEach es X.env := by rfl) (hplain : (backTo cpos (starEach es X.env)).any (·.1) = false := by rfl) :
    PE X (.Call (.Attribute o name apos) (e :: es) [] cpos) (tBM X.K T r to t) := by
  intro pins s σ H Q I h
  refine wpAny_Call_method_late hbase hfew hline rfl (thn (ho pins s σ H _ I h) fun v s1 ⟨x, H1, I1, r1, ty, q1⟩ => ?_)
  obtain ⟨h1, h2⟩ := tyV_is I1 r1 ty
  refine ⟨T, id, pa, slot, hty, h1, h2, ?_⟩
  have hA := ha cpos pins s1 σ H1 _ I1 q1
  rw [hs] at hA ⊢
  refine Calls.callWith_builtin (by show (false || (backTo cpos (starEach es X.env)).any (·.1)) = false; rw [hplain] <;> rfl) (Calls.evalArgs_plain ?_)
  exact thn hA fun us s2 ⟨vs, H2, I2, r2, q2⟩ => hm pins s2 σ H2 x vs v us Q I2 r1 r2 q2
/- xs.append(e), list.index on a module's tuple .. are MtR facts of 06m -/
end
end L2

namespace L2
open PySem PySem.Spec PyProof.Rows

def MtM (X : Cx) (id : String) (r : V → List V → Hp → VK → Prop) : Prop :=
  ∀ (pins : List (Addr × Obj)) (s : Shared) (σ : St) (H : Hp) (x : V) (xs : List V) (v : Value) (us : List Value) (Q : VK), Inv X pins σ H s → RelV x v → Vals xs us → r x xs H Q →
    wpAny (model X.prog X.w) X.A (call (.builtin id) (v :: us)) (EP X pins σ Q) X.xe s

/-! ### lists of values -/
theorem Vals.one : ∀ {x : V} {us : List Value}, Vals [x] us → ∃ u, us = [u] ∧ RelV x u
  | _, _, .cons r .nil => ⟨_, rfl, r⟩
theorem Vals.two : ∀ {x y : V} {us : List Value}, Vals [x, y] us → ∃ u v, us = [u, v] ∧ RelV x u ∧ RelV y v
  | _, _, _, .cons r (.cons q .nil) => ⟨_, _, rfl, r, q⟩
theorem Vals.zero : ∀ {us : List Value}, Vals [] us → us = []
  | _, .nil => rfl
theorem Vals.dropLast {xs : List V} {us : List Value} (h : Vals xs us) : Vals xs.dropLast us.dropLast := by
  induction h with
  | nil => exact .nil
  | cons r t ih =>
    cases t with
    | nil => exact .nil
    | cons q t' => exact .cons r ih
theorem Vals.eraseIdx : ∀ {xs : List V} {us : List Value} (i : Nat), Vals xs us → Vals (xs.eraseIdx i) (us.eraseIdx i)
  | _, _, _, .nil => .nil
  | _, _, 0, .cons _ t => t
  | _, _, i + 1, .cons r t => .cons r (Vals.eraseIdx i t)
theorem Vals.reverse {xs : List V} {us : List Value} (h : Vals xs us) : Vals xs.reverse us.reverse := by
  induction h with
  | nil => exact .nil
  | cons r t ih => rw [List.reverse_cons, List.reverse_cons]; exact Vals.append ih (.cons r .nil)
theorem erase_last {α : Type} (l : List α) : l.eraseIdx (l.length - 1) = l.dropLast := by
  induction l with
  | nil => rfl
  | cons a r ih =>
    cases r with
    | nil => rfl
    | cons b r =>
      have e : (a :: b :: r).length - 1 = ((b :: r).length - 1) + 1 := by
        have h1 : (a :: b :: r).length = r.length + 2 := rfl
        have h2 : (b :: r).length = r.length + 1 := rfl
        omega
      rw [e, List.eraseIdx_cons_succ, ih]
      all_goals rfl
section
variable {X : Cx} {pins : List (Addr × Obj)} {σ : St} {H : Hp} {s : Shared} {l b : Addr} {xs ys zs : List V}

/-! ### the two steps: a tracked list is rewritten, a new list is laid -/
theorem Inv.lset {its its' : List Value} {n : Nat} {f : Array Value → Array Value} {t' : Nat} (I : Inv X pins σ H s) (hH : H l = some (.lst xs))
    (e : s.heap.get? l = some { cls := .type "list", data := .seq its.toArray n }) (hf : f its.toArray = its'.toArray) (hv : Vals ys its') (hz : ys.length ≤ sizeLine) :
    Inv X pins σ (upd H l (.lst ys)) { s with heap := s.heap.update l (Obj.mapSeq f), toks := t' } := by
  have q := PySem.IsL.update e f
  rw [hf] at q
  refine I.write (x := l) (e := l) (by rw [hH]; exact trivial) (.inl rfl) (fun b' u hb hu => (Heap.get?_update_other s.heap (Obj.mapSeq f) (Ne.symm hb)).trans hu) ⟨_, q⟩ ?_
  exact ⟨hz, its', _, hv, q⟩
theorem Inv.fresh (I : Inv X pins σ H s) : H s.heap.objs.size = none := I.hok.fresh (Nat.le_refl _)
theorem Inv.lstM (I : Inv X pins σ H s) (hH : H l = some (.lst xs)) : xs.length ≤ sizeLine ∧ ∃ (its : List Value) (n : Nat), Vals xs its ∧ xs.length = its.length ∧ s.heap.get? l = some { cls := .type "list", data := .seq its.toArray n } := by
  obtain ⟨z, its, n, r, e⟩ := I.hok l _ hH
  exact ⟨z, its, n, r, r.length, e⟩

end

section
variable {X : Cx}

/-! ### methods -/
def rAppend : V → List V → Hp → VK → Prop := fun x vs H Q => ∃ l xs y, x = .ref l ∧ vs = [y] ∧ H l = some (.lst xs) ∧ xs.length < sizeLine ∧ Q .non (upd H l (.lst (xs ++ [y])))
theorem mt_append : MtM X "list.append" rAppend := by
  intro pins s σ H x vs v us Q I rx rv h
  obtain ⟨l, xs, y, rfl, rfl, hH, hz, q⟩ := h
  cases rx
  obtain ⟨u, rfl, ru⟩ := rv.one
  obtain ⟨z, its, n, r, hl, e⟩ := I.lstM hH
  refine call_meets F.slot_list_append ⟨_, e, rfl⟩ F.entry_list_append (F.args_list_append_2 _ _) (PySem.list_append l its.toArray n u (by rw [List.size_toArray]; omega)) ⟨e, ?_⟩
  refine ⟨.non, _, I.lset (its' := its ++ [u]) hH e (by simp) (r.append (.cons ru .nil)) ?_, rfl, q⟩
  rw [List.length_append, List.length_singleton]
  omega

def rPop : V → List V → Hp → VK → Prop := fun x vs H Q => ∃ l xs y, x = .ref l ∧ vs = [] ∧ H l = some (.lst xs) ∧ xs[xs.length - 1]? = some y ∧ Q y (upd H l (.lst xs.dropLast))
theorem mt_pop : MtM X "list.pop" rPop := by
  intro pins s σ H x vs v us Q I rx rv h
  obtain ⟨l, xs, y, rfl, rfl, hH, hy, q⟩ := h
  cases rx
  have hus := rv.zero
  subst hus
  obtain ⟨z, its, n, r, hl, e⟩ := I.lstM hH
  obtain ⟨u, hu, ru⟩ := r.get hy
  have hy' : its.toArray[its.toArray.size - 1]? = some u := by
    show its.toArray[its.length - 1]? = some u
    rw [← Array.getElem?_toList, ← hl]
    exact hu
  refine call_meets F.slot_list_pop ⟨_, e, rfl⟩ F.entry_list_pop (F.args_list_pop_1 _) (MeetsSeq.list_pop_last l its.toArray n u hy' (by rw [List.size_toArray]; omega)) ⟨e, ?_⟩
  refine ⟨y, _, I.lset (its' := its.dropLast) hH e ?_ r.dropLast ?_, ru, q⟩
  · show its.toArray.eraseIdxIfInBounds (its.toArray.size - 1) = its.dropLast.toArray
    rw [List.size_toArray, List.eraseIdxIfInBounds_toArray, erase_last]
  · rw [List.length_dropLast]
    omega

end

/-! ### xs[a:b] = ys -/
section
variable {prog : Program} {w : World} {A : Around} {E : Value → Shared → Prop} {s : Shared}
set_option maxRecDepth 100000 in
end

section
variable {X : Cx}
end
end L2

namespace Att
open PySem PySem.W PySem.Calls PyProof.Rows

/-! ### the script -/
theorem ints_of_wellAll {P : Params} {h : Heap} : ∀ (ns : List Int) (vs : List Value), WellAll P h vs (ns.map WData.int) → IntsAre vs ns := by
  intro ns
  induction ns with
  | nil =>
    intro vs w
    rw [List.map_nil] at w
    cases w
    exact .nil
  | cons n ns ih =>
    intro vs w
    rw [List.map_cons] at w
    cases w with
    | cons a b =>
      cases a
      exact .cons _ _ (ih _ b)

theorem script_of {l : OpenLaw} {n : Nat} (hn : l.most = some n) {P : Params} {h : Heap} {args : List WData} {vals : List Value}
    (hpre : l.row.toRowW.claim.pre args = true) (hwl : WellAll P h vals args) :
    ∃ a vs ns, vals = [Value.ref a] ∧ args = [WData.list (ns.map WData.int)] ∧ h.get? a = some { cls := .type "list", data := .seq vs.toArray } ∧ IntsAre vs ns ∧ ns.length ≤ n := by
  have hsh : WShape.hasAll [] args [.list .int] = true := (pre_splitW hpre).1
  have hc : l.pre.holds [] { args := args } = true := (pre_splitW hpre).2
  obtain ⟨d, r, rfl, h1, h2⟩ := hasAllW_cons hsh
  obtain rfl := hasAllW_nil h2
  obtain ⟨xs, rfl, h3⟩ := hasW_list h1
  obtain ⟨ns, rfl⟩ := items_int h3
  have hlen : ns.length ≤ n := by
    unfold OpenLaw.pre at hc
    have h4 : (WTm.not (.lt (.lit (.int (n : Int))) (.len (.arg 0)))).holds [] { args := [.list (ns.map .int)] } = true := by
      have h4 := (holds_andW hc).1
      rw [hn] at h4
      exact h4
    have h5 := condW_of h4 (w_not (w_lt w_lit (w_len_list (w_arg rfl))))
    rw [List.length_map] at h5
    refine Nat.le_of_not_lt fun q => ?_
    have q' : (n : Int) < ((ns.length : Nat) : Int) := by omega
    first
      | (rw [decide_eq_true q'] at h5; exact absurd h5 (by decide))
      | (simp at h5; omega)
  cases hwl with
  | cons w1 w2 =>
    cases w2
    cases w1 with
    | list ho hall => exact ⟨_, _, ns, rfl, rfl, ho, ints_of_wellAll ns _ hall, hlen⟩

theorem post_true (l : OpenLaw) (args : List WData) : l.row.toRowW.claim.post args (.bool true) args = true :=
  postW_of (r := l.row.toRowW) (X := (true == true))
    (show WShape.has [] (.bool true) .bool = true by first | rfl | decide | simp [WShape.has, WShape.arms, WShape.armsAll])
    (show (WTm.eq .res (.lit (.bool true))).value [] { args := args, res := some (.bool true), after := args } = some (.bool (true == true)) from w_eq_bool (w_res rfl) w_lit) rfl

/-- the same from a codeAny of the CALL (for a layer whose function contracts speak of calls) -/
theorem attach_call {l : OpenLaw} {n : Nat} {q : Program} {loose : List Str} {XP : (Str → Option Value) → Heap → Prop} {YP : World → Heap → Prop} {d : DefRec}
    (hn : l.most = some n) (hdf : d.params.defaults = [])
    (call : ∀ (w : World) (s₀ s₁ : Shared) (mg mb : Str → Option Value) (fa : Addr) (o : Obj) (pm cd doc : Value) (a : Addr) (vs : List Value) (ns : List Int),
      Ground q loose [] XP w s₀ mg mb s₁.heap → YP w s₁.heap →
      s₁.heap.get? fa = some o → o.data = .func (docDef d.name d.params d.body d.scope pm cd doc) → s₁.heap.CodeRec cd d.name → mg d.name = some (.ref fa) →
      s₁.heap.get? a = some { cls := .type "list", data := .seq vs.toArray } → IntsAre vs ns → ns.length ≤ n → s₁.gens = #[] →
      codeAny (model l.prog w) callerA (.call (.ref fa) ⟨[.ref a], []⟩) (fun r s' => r = .ok (.ret (.bool true)) ∧ OldK s₁.heap s'.heap ∧ s'.os = s₁.os ∧ AllBare s'.gens) s₁) :
    WalkO q loose XP YP l.row.toRowW d [] (fun f vs => PySem.call f vs) := by
  intro w s₀ s₁ mg mb G Y fa o pm cd doc dV kV ho hd hcd hD hmg hg args vals as hpre hlay hrd hwl hlo
  obtain rfl : dV = .none := Dflts.none hD hdf
  obtain rfl : kV = .none := Dflts.noKw hD
  obtain ⟨a, vs, ns, rfl, rfl, hobj, hints, hlen⟩ := script_of hn hpre hwl
  refine enter_call (codeAny_mono (call w s₀ s₁ mg mb fa o pm cd doc a vs ns G Y ho (fd_plain hd) hcd hmg hobj hints hlen hg) fun r s' hq => ?_)
  obtain ⟨rfl, h2, h3, h4⟩ := hq
  exact ⟨.inl ⟨.bool true, .bool true, [], rfl, fun _ => rfl, .bool true, post_true l _, fun _ => ⟨List.Pairwise.nil, fun _ hm => (nomatch hm)⟩⟩, h2, h3, h4⟩

/-! ### rules over ANY heap (no ledger) from facts about the written part K: the library's own take a ledger (News) for what they write -/
section
variable {prog : Program} {w : World} {A : Around} {E : Value → Shared → Prop} {s : Shared} {K : Frag}

def ledger (h : Heap) (L d : Addr) : List (Addr × Obj) := (List.range h.objs.size).filterMap fun a => if a = L ∨ a = d then none else (h.get? a).map fun o => (a, o)
end
end Att

namespace L2
open PySem PySem.Spec PyProof.Rows

theorem vals_ints : ∀ {vs : List Value} {ns : List Int}, IntsAre vs ns → Vals (ns.map V.int) vs
  | _, _, .nil => .nil
  | _, _, .cons n t h => .cons ⟨t, rfl⟩ (vals_ints h)

/-- nothing is tracked but the script, known to the object (or it is an object of the module) -/
def Only (H : Hp) : Prop := ∀ b, H b = none ∨ ∃ o xs, H b = some (.frz o (.lst xs))

/-- THE HEAD: the law's promise, at the heap behind the top. F, the promise of the law's def, may use that base is part of the heap (so K.In base, base.Ns mainGlobals mg stand in Mod) -/
theorem law_call {P : Program} {w : World} {K : PySem.W.Frag} {mg mb : Str → Option Value} {CX : CXT} {k : Nat} {fa a : Addr} {fd : FuncData} {x : Str} {sp : Sp} {s₁ : Shared} {vs : List Value} {ns : List Int}
    (KX : K.In s₁.heap) (hns : s₁.heap.Ns mainGlobals mg) (hb : s₁.heap.Ns builtinsNs mb) (hbb : ∀ x : Str, x ≠ "__name__" → mb x = bootBuiltins x) (hlim : s₁.heap.NoLimit) (hg : s₁.gens = #[])
    (ha : s₁.heap.get? a = some { cls := .type "list", data := .seq vs.toArray }) (hi : IntsAre vs ns) (hl : ns.length ≤ sizeLine) (hr : Room k callerA)
    (F : ∀ base : Heap, K.In base → base.Ns mainGlobals mg → FnOk P w K mg base CX k fa fd [x] sp) (hbind : ∀ (s : Shared) (u : Value), BindsTo s fd ⟨[u], []⟩ [(x, u)])
    (hsp : ∀ H : Hp, Only H → SqL K H a (ns.map V.int) → sp [.ref a] H (fun v _ => v = .bl true) fun _ _ _ => False)
    (hCX : ∀ H e s', CX [] H s₁ (fun _ _ _ => False) e s' → False) :
    codeAny (model P w) callerA (.call (.ref fa) ⟨[.ref a], []⟩) (fun r s' => r = .ok (.ret (.bool true)) ∧ OldK s₁.heap s'.heap ∧ s'.os = s₁.os ∧ AllBare s'.gens) s₁ := by
  have rv := vals_ints hi
  have lenV := hi.length
  -- from an abstract heap in which nothing but the script may be tracked
  have core : ∀ H : Hp, Only H → SqL K H a (ns.map V.int) → HOk P w H s₁.heap → (∀ b, H b ≠ none → b = a) → (H a ≠ none → K.lookup a = none) →
      codeAny (model P w) callerA (.call (.ref fa) ⟨[.ref a], []⟩) (fun r s' => r = .ok (.ret (.bool true)) ∧ OldK s₁.heap s'.heap ∧ s'.os = s₁.os ∧ AllBare s'.gens) s₁ := by
    intro H hO hS hok hA hK
    have base_of : ∀ {b : Addr} {o : Obj}, s₁.heap.get? b = some o → H b = none → (hidT s₁.heap H).get? b = some o := fun e n => hidT_get e n
    have noA : ∀ {b : Addr} {o : Obj} {es : Array DictEntry} {ep : Nat}, s₁.heap.get? b = some o → o.data = .dict es ep → H b = none := fun {b o es ep} e d => by
      cases q : H b with
      | none => rfl
      | some u =>
        have e' : b = a := hA b (by rw [q]; simp)
        subst e'
        rw [ha] at e; cases e
        have d' : Data.seq vs.toArray _ = Data.dict es ep := d
        cases d'
    have nsK : ∀ {b : Addr} {m : Str → Option Value}, s₁.heap.Ns b m → (hidT s₁.heap H).Ns b m := fun {b m} ⟨o, es, ep, e, d, r⟩ => ⟨o, es, ep, base_of e (noA e d), d, r⟩
    have hKb : K.In (hidT s₁.heap H) := fun b o e => base_of (KX b o e) (by
      cases q : H b with
      | none => rfl
      | some u =>
        have e' : b = a := hA b (by rw [q]; simp)
        subst e'
        rw [hK (by rw [q]; simp)] at e; cases e)
    have hM : Mod K mg (hidT s₁.heap H) := ⟨hKb, nsK hns, ⟨mb, nsK hb, hbb⟩, let ⟨mc, h1, h2⟩ := hlim; ⟨mc, nsK h1, h2⟩⟩
    have e0 : Env0 P w K mg (hidT s₁.heap H) callerA [] s₁ H := ⟨rfl, hM, fun b o e => of_hidT e, Nat.le_of_eq (hidT_size _ _), trivial, fun b hb => absurd (show b ∈ ([] : List Addr) from hb) (by simp), hok, .of_eq hg⟩
    refine codeAny_mono ((F _ hKb (nsK hns)).run callerA [] s₁ H ⟨[.ref a], []⟩ [.ref a] [.ref a] _ _ hr e0 (hbind s₁ (.ref a)) (.cons rfl .nil) (hsp H hO hS)) fun r s' h => ?_
    cases r with
    | error e => exact (hCX H e s' h).elim
    | ok fl =>
      cases fl with
      | next => exact False.elim h
      | brk => exact False.elim h
      | cont => exact False.elim h
      | ret u =>
        obtain ⟨v, H', os, bare, un, hok', r', q⟩ := h
        have q' : v = .bl true := q
        subst q'
        obtain rfl : u = Value.bool true := r'
        refine ⟨rfl, OldK.of_keep fun b o e => ?_, os, bare⟩
        cases q : H b with
        | none => exact un.keep b o e q (by intro z; exact absurd (show b ∈ ([] : List Addr) from z) (by simp)) (by simp)
        | some u =>
          rcases hO b with z | ⟨ob, xs, z⟩
          · rw [q] at z; cases z
          · have z2 := un.frzs b ob _ z
            obtain ⟨e1, _⟩ := hok b _ z
            obtain ⟨e2, _⟩ := hok' b _ z2
            rw [e] at e1; cases e1
            exact e2
  cases hk : K.lookup a with
  | some o =>
    -- the script is one of the module's own objects
    have e := KX a o hk
    rw [ha] at e
    cases e
    refine core (fun _ => none) (fun _ => .inl rfl) (.inr ⟨_, vs.toArray, _, hk, rfl, rfl, rfl, by rw [List.size_toArray, lenV]; exact hl, by simpa using rv⟩) (fun b u z => by have z' : (none : Option HO) = some u := z; cases z') (fun b z => absurd rfl z) fun z => absurd rfl z
  | none =>
    refine core (fun b => if b = a then some (.frz { cls := .type "list", data := .seq vs.toArray } (.lst (ns.map V.int))) else none) (fun b => ?_) (.inl (.inr ⟨{ cls := .type "list", data := .seq vs.toArray }, if_pos rfl⟩)) (fun b u z => ?_) (fun b z => ?_) fun _ => hk
    · by_cases hb : b = a
      · exact .inr ⟨_, _, if_pos hb⟩
      · exact .inl (if_neg hb)
    · by_cases hb : b = a
      · have z' := (if_pos hb).symm.trans z
        cases z'
        subst hb
        exact ⟨ha, by rw [List.length_map]; exact hl, vs, _, rv, ha⟩
      · have z' := (if_neg hb).symm.trans z
        cases z'
    · by_cases hb : b = a
      · exact hb
      · exact absurd (if_neg hb) z
end L2

namespace L2
open PySem PySem.Spec PyProof.Rows

abbrev KOf {K : PySem.W.Frag} {h : Heap} (_ : K.In h) : PySem.W.Frag := K

/-- the goal that k_head leaves (case hc), from the law's promise. F gives the function object fd (K's own) once, then the promise over every base -/
theorem walk_of {l : PySem.W.OpenLaw} {n k : Nat} {q : Program} {loose : List Str} {XP : (Str → Option Value) → Heap → Prop} {YP : World → Heap → Prop} {d : DefRec} {K : Params → PySem.W.Frag} {CX : World → CXT} {sp : World → Sp} {x : Str}
    (hn : l.most = some n) (hn2 : n ≤ sizeLine) (hdf : d.params.defaults = []) (hr : Room k callerA)
    (hY : ∀ (w : World) (h : Heap), YP w h → (K w.params).In h)
    (F : ∀ (w : World) (mg : Str → Option Value) (fa : Addr) (h : Heap), (K w.params).In h → h.Ns mainGlobals mg → mg d.name = some (.ref fa) →
      ∃ fd : FuncData, (∀ (s : Shared) (u : Value), BindsTo s fd ⟨[u], []⟩ [(x, u)]) ∧
        ∀ base : Heap, (K w.params).In base → base.Ns mainGlobals mg → FnOk l.prog w (K w.params) mg base (CX w) k fa fd [x] (sp w))
    (hsp : ∀ (w : World) (H : Hp) (a : Addr) (ns : List Int), ns.length ≤ n → Only H → SqL (K w.params) H a (ns.map V.int) → sp w [.ref a] H (fun v _ => v = .bl true) fun _ _ _ => False)
    (hCX : ∀ (w : World) (H : Hp) (s : Shared) (e : Value) (s' : Shared), CX w [] H s (fun _ _ _ => False) e s' → False) :
    PySem.W.WalkO q loose XP YP l.row.toRowW d [] (fun f vs => PySem.call f vs) := by
  refine Att.attach_call hn hdf fun w s₀ s₁ mg mb fa o pm cd doc a vs ns G Y ho hd hcd hmg hobj hints hlen hg => ?_
  have KX := hY w _ Y
  obtain ⟨fd, hb, hF⟩ := F w mg fa _ KX G.T.g hmg
  exact law_call KX G.T.g G.T.b G.T.builtins G.T.nolimit hg hobj hints (Nat.le_trans hlen hn2) hr hF hb (fun H hO hS => hsp w H a ns hlen hO hS) fun H e s' => hCX w H s₁ e s'
end L2

/- THE LAST THEOREM (shape; LID, My.* are yours):
   My.Adr: a structure of the addresses that your layer names (classes, functions); My.Txt K t: a structure (Prop) of the equations over K;
   My.txt_mk : {K} {implicit addresses ..} (e1 : nsIn K mainGlobals "law" = some (some (.ref f))) (e2 : K.lookup f = some ⟨oc, od, .func (fnOf "law" "law" params body scope dV kV doc pm an cdv ct), sl⟩) (e3 : codeIn K cdv "law" = true) .. : ∃ t, My.Txt K t

set_option maxRecDepth 100000 in
set_option maxHeartbeats 0 in
theorem PySem.Challenge.cw_LID_holds : PySem.Challenge.rw_LID.Holds := by
  w_on; o_law; k_head; (case hw => w_witness2)
  k_fill
  refine L2.walk_of (l := PySem.Challenge.rw_LID) (n := 63) (k := 40) (x := "script") (CX := fun w => ..) (sp := fun _ => My.sp_law) rfl (by decide) rfl ⟨rfl, by decide, by decide⟩ (fun w h Y => PySem.W.kIn_of Y) ?F ?S ?C
  case F =>
    intro w mg fa h KX G hmg
    have T : ∃ t, My.Txt (L2.KOf KX) t := by
      dsimp only [L2.KOf]                          -- K must stand as «<heap const> w.params» for k_is
      refine' My.txt_mk ?e1 ?e2 ?e3 ..
      (case e1 => PySem.W.k_is)                    -- in the order: a name -> its address -> its object -> its parts
      (case e2 => PySem.W.k_is)
      ..
    obtain ⟨t, T⟩ := T
    have e0 := hmg.symm.trans (PySem.W.mg_of KX G T.law)
    cases e0                                       -- fa is the law's own address
    exact ⟨_, fun s u => .of_eq rfl, fun base kb nb => My.law_fn T kb nb⟩     -- if «.of_eq rfl» comes too early: refine' ⟨_, ?b, fun base kb nb => My.law_fn T kb nb⟩; exact fun s u => .of_eq rfl
  case S => exact fun w H a ns hl hO hS => ..
  case C => exact ..
(the tactic k_is has no namespace: write k_is) -/

/-! SHORT WORDS over the layer: a def of the text, its body, what a loop and a test want. -/
namespace L2
open PySem PySem.Spec PyProof.Rows

def defArgs (s : Stmt) : Arguments := match s with
  | .FunctionDef _ a _ _ _ _ _ _ _ _ => a
  | _ => { posonlyargs := [], args := [], vararg := none, kwonlyargs := [], kw_defaults := [], kwarg := none, defaults := [] }
def defBody (s : Stmt) : List Stmt := match s with
  | .FunctionDef _ _ b _ _ _ _ _ _ _ => b
  | _ => []
def defScope (s : Stmt) : Scope := match s with
  | .FunctionDef _ _ _ _ _ _ sc _ _ _ => sc
  | _ => { kind := .function, names := [], isGenerator := false, isCoroutine := false }

/-! ### no exception leaves a def -/
abbrev CX0 : CXT := fun _ _ _ _ _ _ => False
abbrev E0 : XK := fun _ _ _ => False
theorem pass0 {X : Cx} : Passes CX0 X E0 := fun _ _ _ _ _ _ _ h => h.elim

/-! ### a def (or method) of the text as it stands behind the top -/
structure Fun (K : PySem.W.Frag) (x qual : Str) (st : Stmt) (f : Addr) (fd : FuncData) : Prop where
  ex : ∃ (oc : Value) (od : Option Addr) (kV doc pm : Value) (an : Option Addr) (cdv ct : Value) (osl : Array (Option Value)),
    fd = PySem.W.fnOf x qual (defArgs st) (defBody st) (defScope st) .none kV doc pm an cdv ct ∧ K.lookup f = some ⟨oc, od, .func fd, osl⟩ ∧ PySem.W.codeIn K cdv qual = true
  kp : PySem.W.keepIn K (.ref f) = true
section
variable {P : Program} {w : World} {K : PySem.W.Frag} {mg : Str → Option Value} {base : Heap}
/-- THE RULE for a def: its body as a term of rules, and the reading of that term -/
theorem Fun.ok {x qual : Str} {st : Stmt} {f : Addr} {fd : FuncData} {N ps : List Str} {k : Nat} {sp : Sp} (F : Fun K x qual st f fd) (S : FnScope N ps (defScope st)) (len : ∀ vs H Q E, sp vs H Q E → vs.length = ps.length)
    (hbody : ∀ (cdv : Value) (A : Around) (outer : List Env) (s : Shared) (H : Hp) (vs : List V) (Q : VK) (E : XK), Room k (A.deeper (envOfC qual (defScope st) s.heap.objs.size f cdv)) → sp vs H Q E →
      ∃ t, PSs (cxOf CX0 P w K mg base N qual (defScope st) f cdv A outer s H E).nox (defBody st) t ∧ t { nx := fun _ H' => Q .non H', rt := Q } (start N vs) H) : FnOk P w K mg base CX0 (k + 1) f fd ps sp := by
  obtain ⟨oc, od, kV, doc, pm, an, cdv, ct, osl, rfl, lk, hcd⟩ := F.ex
  refine fn_of lk hcd S len fun A outer s H vs Q E hr hsp => ?_
  obtain ⟨t, h, q⟩ := hbody cdv A outer s H vs Q E hr hsp
  exact ⟨t, h.nox, q⟩
/-- how its arguments bind (no defaults): h is «fun _ _ _ _ _ _ us hl => match us, hl with | [_, _], _ => rfl», one _ a parameter -/
theorem Fun.binds {x qual : Str} {st : Stmt} {f : Addr} {fd : FuncData} {ps : List Str} (F : Fun K x qual st f fd)
    (h : ∀ (kV doc pm : Value) (an : Option Addr) (cdv ct : Value) (us : List Value), us.length = ps.length → bindArgs (PySem.W.fnOf x qual (defArgs st) (defBody st) (defScope st) .none kV doc pm an cdv ct) ⟨us, []⟩ = pure (ps.zip us)) : Binds K fd ps [] := by
  obtain ⟨oc, od, kV, doc, pm, an, cdv, ct, osl, rfl, lk, hcd⟩ := F.ex
  exact .all (h kV doc pm an cdv ct)
theorem fun_mk {x qual : Str} {st : Stmt} {f : Addr} {oc : Value} {od an : Option Addr} {osl : Array (Option Value)} {kV doc pm cdv ct : Value} (l : K.lookup f = some ⟨oc, od, .func (PySem.W.fnOf x qual (defArgs st) (defBody st) (defScope st) .none kV doc pm an cdv ct), osl⟩)
    (c : PySem.W.codeIn K cdv qual = true) (k : PySem.W.keepIn K (.ref f) = true) : Fun K x qual st f (PySem.W.fnOf x qual (defArgs st) (defBody st) (defScope st) .none kV doc pm an cdv ct) := ⟨⟨oc, od, kV, doc, pm, an, cdv, ct, osl, rfl, l, c⟩, k⟩
end
theorem hu_of {A : Around} {k : Nat} (hr : Room k A) : A.units + 1 < cLine := Nat.lt_of_le_of_lt (Nat.add_le_add_left (by decide : 1 ≤ 64) _) hr.units
theorem small1000 {n : Nat} (h : n ≤ 1000) : n < sizeLine := Nat.lt_of_le_of_lt h (by decide)

/-! ### expressions in short: the name that stands in the i-th slot -/
section
variable {X : Cx}
theorem pv (i : Nat) {x : Str} {pos : Pos} (hN : X.N[i]? = some x := by rfl) (hv : Vis X.env.scope x := by first | exact Or.inl rfl | exact Or.inr (Or.inl rfl) | exact Or.inr (Or.inr rfl)) (hd : (x == ("__debug__" : Str)) = false := by decide)
    (hcd : (x == ("__classdict__" : Str)) = false := by decide) : PE X (.Name x pos) (tVar i) := pe_var hN hv hd hcd
end

/-! ### tests -/
theorem iteF {A B : Prop} (h : B) : if false = true then A else B := by
  rw [if_neg Bool.false_ne_true]
  exact h
theorem iteT {A B : Prop} (h : A) : if true = true then A else B := by
  rw [if_pos rfl]
  exact h
theorem ite2 {c A B : Prop} [Decidable c] (h1 : c → A) (h2 : ¬ c → B) : if c then A else B := by
  by_cases h : c
  · rw [if_pos h]
    exact h1 h
  · rw [if_neg h]
    exact h2 h
/-! ### heaps -/
/-- all that was tracked is as it was -/
def Same (H H' : Hp) : Prop := ∀ b o, H b = some o → H' b = some o
theorem Same.refl (H : Hp) : Same H H := fun _ _ h => h
theorem Same.trans {H H1 H2 : Hp} (a : Same H H1) (b : Same H1 H2) : Same H H2 := fun c o h => b c o (a c o h)
theorem Same.free {H H' : Hp} (e : Same H H') {l : Addr} (h : H' l = Option.none) : H l = Option.none := by
  cases q : H l with
  | none => rfl
  | some o =>
    rw [e l o q] at h
    cases h
theorem Same.seq {K : PySem.W.Frag} {H H' : Hp} {a : Addr} {xs : List V} (e : Same H H') (h : SqL K H a xs) : SqL K H' a xs := by
  rcases h with (h | ⟨o, h⟩) | h
  · exact .inl (.inl (e _ _ h))
  · exact .inl (.inr ⟨o, e _ _ h⟩)
  · exact .inr h

end L2

set_option Elab.async false
set_option linter.all false
set_option maxRecDepth 100000
/-! THE HAND LAYER, for ints, bools, texts, own classes, DICTS (int and text keys), calls, loops. Paste it whole ahead of your own text; what your proof does not reach may be deleted. -/
namespace L2
open PySem PySem.Spec PyProof.Rows

end L2

namespace L2
open PySem PySem.Spec PyProof.Rows

section
variable (P : Program) (w : World)
end

section
variable {P : Program} {w : World} {H H' : Hp} {h h' : Heap} {a : Addr} {o : HO}
end

section
variable {P : Program} {w : World} {H : Hp} {h h' : Heap} {x e : Addr} {o' : HO}
end

/-! ### kept unless tracked; of the frames at fs (the callers') the slots may change (an exception that passes writes there); of the records at ex (iterators) nothing is said -/
section
variable {fs fs' ex ex' : List Addr} {H H1 H2 : Hp} {h h1 h2 h' : Heap} {a x e : Addr} {o : HO}
end

/-! ### the heap without what is tracked -/
/-! ### OpenK's ledger, filled with every new object but one -/
end L2

namespace L2
open PySem PySem.Spec PyProof.Rows

section
variable {X : Cx} {pins : List (Addr × Obj)} {σ : List (Option V)} {H H' : Hp} {s : Shared} {h' : Heap}

end

/-! ### the judgements -/
end L2

namespace L2
open PySem PySem.Spec PyProof.Rows
section
variable {X : Cx}

/-! ### names and constants -/
/-! ### arithmetic -/
variable {a b : Expr} {ta tb : TE} {pos : Pos}
/-! ### comparisons -/
/-! ### and, or, not -/
variable {tA tB' : TT} {rest : List Expr}
end
end L2

namespace L2
open PySem PySem.Spec PyProof.Rows

/-! ### a list, a tuple that is read: tracked, frozen, or an object of the module -/
section
variable {X : Cx} {pins : List (Addr × Obj)} {σ : St} {H : Hp} {s : Shared} {a : Addr} {xs ys : List V}
end

/-! ### another wish about exceptions -/
section
variable {X : Cx} {pins : List (Addr × Obj)} {σ : St} {H : Hp} {s : Shared} {E : Value → Shared → Prop}
end

/-! ### blocks and small statements -/
section
variable {X : Cx} {st : Stmt} {rest : List Stmt} {t u : TS} {e : Expr} {te : TE} {pos : Pos}
end

/-! ### targets -/
section
variable {X : Cx} {pos : Pos}
end

/-! ### while -/
section
variable {X : Cx} {pos : Pos}
end

/-! ### what a loop or a comprehension walks -/
end L2

namespace L2
open PySem PySem.Spec PyProof.Rows
section
variable {X : Cx} {tg : Expr}
/-! ### for -/
end

/-! ### the forms one uses -/
end L2

namespace L2
open PySem PySem.Spec PyProof.Rows

section
variable {X : Cx} {a b c : Expr} {ta tb tc : TE} {pos : Pos}

/-! ### ints -/
/-! ### bools among ints: n += (a < b) -/
end

/-! ### comparisons -/
section
variable {X : Cx} {a b c : Expr} {ta tb tc : TE} {pos : Pos}
/-! ### truth -/
/-! ### strs and bytes -/
/-! ### scalar builtins, by CallR -/
end
end L2

namespace L2
open PySem PySem.Spec PyProof.Rows

/-! ### an instance, its attributes a map -/
section
variable {prog : Program} {w : World} {A : Around} {E : Value → Shared → Prop} {s : Shared} {K : PySem.W.Frag} {x dx C f : Addr} {mA : Str → Option Value} {name : Str} {v : Value}

end

/-! ### the attributes as a list of pairs -/
section
variable {P : Program} {w : World} {H H' : Hp} {h h' : Heap} {a C dx : Addr} {fs fs' : List (Str × V)}
end

/-! ### what of the text a class must have -/
section
variable {X : Cx} {pins : List (Addr × Obj)} {σ : St} {H : Hp} {s : Shared} {a C dx : Addr} {fs : List (Str × V)} {f : Str} {v : V} {A : Around} {E : Value → Shared → Prop}

end

/-! ### readings and rules -/
section
variable {X : Cx} {o e value : Expr} {f : Str} {pos pos' tpos : Pos} {ta tv : TE}
end

/-! ### isinstance -/
section
variable {X : Cx} {pins : List (Addr × Obj)} {σ : St} {H : Hp} {s : Shared} {A : Around} {E : Value → Shared → Prop} {Q : Value → Shared → Prop} {c : Value} {b : Bool}
end
end L2

namespace L2
open PySem PySem.Spec PyProof.Rows

/-! ### room -/
/-! ### argument lists and displays -/
section
variable {X : Cx} {e : Expr} {es : List Expr} {te : TE} {t : TA} {pos : Pos}
end

/-! ### what a def promises -/
section
variable {X : Cx} {pins : List (Addr × Obj)} {σ : St} {H : Hp} {s s' : Shared}
end

/-! ### calls -/
section
variable {X : Cx} {CX : CXT} {k : Nat} {f C : Addr} {fd : FuncData} {ps : List Str} {sp : Sp} {dvs : List V} {ds : List Value} {E : XK} {x m : Str} {p pos apos : Pos} {e o : Expr} {es : List Expr} {ta : TE} {t : TA}

end

/-! ### keywords -/
section
variable {X : Cx} {CX : CXT} {k : Nat} {f C : Addr} {fd : FuncData} {ps ks : List Str} {sp : Sp} {E : XK} {x m : Str} {p pos apos kpos : Pos} {e o : Expr} {es : List Expr} {kws : List Keyword} {te ta : TE} {t tk : TA} {nm : Option Str}
variable {g : List Value → List Value → List Value} {gV : List V → List V → List V}
end

/-! ### a def's body keeps its promise -/
end L2

namespace L2
open PySem PySem.Spec PyProof.Rows
section
variable {X : Cx} {x : Str} {p pos : Pos} {e : Expr} {es : List Expr} {t : TA} {id T : String} {r : List V → Hp → VK → Prop}

end
end L2

namespace L2
open PySem PySem.Spec PyProof.Rows

/-! ### lists of pairs as tables -/
section
variable {κ : Type} [DecidableEq κ]
def valV (kvs : List (κ × V)) (k : κ) : Option V := (kvs.find? fun kv => decide (kv.1 = k)).map (·.2)
/-- in its place, or at the end -/
def putK (kvs : List (κ × V)) (k : κ) (v : V) : List (κ × V) :=
  if (kvs.any fun kv => decide (kv.1 = k)) = true then kvs.map (fun kv => if kv.1 = k then (kv.1, v) else kv) else kvs ++ [(k, v)]
def dropK (kvs : List (κ × V)) (k : κ) : List (κ × V) := kvs.filter fun kv => decide (kv.1 ≠ k)

theorem valV_pos {p : κ × V} {r : List (κ × V)} {k : κ} (e : p.1 = k) : valV (p :: r) k = some p.2 := by simp [valV, List.find?_cons, e]
theorem valV_neg {p : κ × V} {r : List (κ × V)} {k : κ} (e : ¬ p.1 = k) : valV (p :: r) k = valV r k := by simp [valV, List.find?_cons, e]
theorem valV_any (k : κ) : ∀ kvs : List (κ × V), (kvs.any fun kv => decide (kv.1 = k)) = (valV kvs k).isSome
  | [] => rfl
  | p :: r => by
    rw [List.any_cons]
    by_cases e : p.1 = k
    · simp only [valV_pos e, decide_eq_true e, Bool.true_or, Option.isSome_some]
    · rw [valV_neg e, decide_eq_false e, Bool.false_or]; exact valV_any k r
theorem length_putK (kvs : List (κ × V)) (k : κ) (v : V) : (putK kvs k v).length ≤ kvs.length + 1 := by
  unfold putK
  split
  · rw [List.length_map]; omega
  · rw [List.length_append, List.length_cons, List.length_nil]; omega
theorem RelO.isSome_eq {o : Option V} {u : Option Value} (r : RelO o u) : o.isSome = u.isSome := by
  cases o with
  | none => cases u with
    | none => rfl
    | some _ => exact (show False from r).elim
  | some _ => cases u with
    | none => exact (show False from r).elim
    | some _ => rfl
theorem RelO.getD {o : Option V} {u : Option Value} {d : V} {d' : Value} (r : RelO o u) (rd : RelV d d') : RelV (o.getD d) (u.getD d') := by
  cases o with
  | none => cases u with
    | none => exact rd
    | some _ => exact (show False from r).elim
  | some _ => cases u with
    | none => exact (show False from r).elim
    | some _ => exact r

/-- raw tables of the same keys -/
theorem KV.val {kvs : List (κ × V)} {vs : List (κ × Value)} (r : KV kvs vs) (k : κ) : RelO (valV kvs k) (valueAt vs k) := by
  unfold KV at r
  induction r with
  | nil => exact True.intro
  | @cons p q ps qs h t ih =>
    obtain ⟨h1, h2⟩ := h
    by_cases e : p.1 = k
    · have e' : q.1 = k := h1.symm.trans e
      have b : valueAt (q :: qs) k = some q.2 := by simp [valueAt, List.find?_cons, e']
      rw [valV_pos e, b]; exact h2
    · have e' : ¬ q.1 = k := fun z => e (h1.trans z)
      have b : valueAt (q :: qs) k = valueAt qs k := by simp [valueAt, List.find?_cons, e']
      rw [valV_neg e, b]; exact ih
theorem KV.any {kvs : List (κ × V)} {vs : List (κ × Value)} (r : KV kvs vs) (k : κ) : (kvs.any fun kv => decide (kv.1 = k)) = vs.any fun kv => decide (kv.1 = k) := by
  unfold KV at r
  induction r with
  | nil => rfl
  | cons h t ih => rw [List.any_cons, List.any_cons, ih, h.1]
theorem KV.repl {kvs : List (κ × V)} {vs : List (κ × Value)} (r : KV kvs vs) (k : κ) {y : V} {u : Value} (ry : RelV y u) :
    KV (kvs.map fun kv => if kv.1 = k then (kv.1, y) else kv) (vs.map fun kv => if kv.1 = k then (kv.1, u) else kv) := by
  unfold KV at r ⊢
  induction r with
  | nil => exact .nil
  | @cons p q ps qs h t ih =>
    rw [List.map_cons, List.map_cons]
    refine .cons ?_ ih
    obtain ⟨h1, h2⟩ := h
    by_cases e : p.1 = k
    · rw [if_pos e, if_pos (h1.symm.trans e)]; exact ⟨h1, ry⟩
    · rw [if_neg e, if_neg (fun z => e (h1.trans z))]; exact ⟨h1, h2⟩
theorem KV.put {kvs : List (κ × V)} {vs : List (κ × Value)} (r : KV kvs vs) (k : κ) {y : V} {u : Value} (ry : RelV y u) : KV (putK kvs k y) (stored vs k u) := by
  unfold putK stored
  rw [r.any k]
  by_cases e : (vs.any fun kv => decide (kv.1 = k)) = true
  · rw [if_pos e, if_pos e]; exact r.repl k ry
  · rw [if_neg e, if_neg e]; exact Paired.snoc r ⟨rfl, ry⟩
theorem KV.drop {kvs : List (κ × V)} {vs : List (κ × Value)} (r : KV kvs vs) (k : κ) : KV (dropK kvs k) (without vs k) := by
  unfold KV at r ⊢
  unfold dropK without
  induction r with
  | nil => exact .nil
  | @cons p q ps qs h t ih =>
    obtain ⟨h1, h2⟩ := h
    rw [List.filter_cons, List.filter_cons]
    by_cases e : p.1 = k
    · have a : ¬ decide (p.1 ≠ k) = true := by simp [e]
      have b : ¬ decide (q.1 ≠ k) = true := by simp [h1.symm.trans e]
      rw [if_neg a, if_neg b]; exact ih
    · have e' : ¬ q.1 = k := fun z => e (h1.trans z)
      have a : decide (p.1 ≠ k) = true := by simp [e]
      have b : decide (q.1 ≠ k) = true := by simp [e']
      rw [if_pos a, if_pos b]; exact .cons ⟨h1, h2⟩ ih
theorem KV.keys {kvs : List (κ × V)} {vs : List (κ × Value)} (r : KV kvs vs) : kvs.map (·.1) = vs.map (·.1) := by
  unfold KV at r
  induction r with
  | nil => rfl
  | cons h t ih => rw [List.map_cons, List.map_cons, ih, h.1]
theorem KV.length {kvs : List (κ × V)} {vs : List (κ × Value)} (r : KV kvs vs) : kvs.length = vs.length := Paired.length r
end


/-! ### a tracked dict, its keys ints and texts or tuples of these -/
theorem kV_is {P : Program} {w : World} {k : Key} {u : Value} (r : RelV (kV k) u) : (mixKind P w).is k u = true := by
  cases k with
  | inl i => obtain ⟨t, e⟩ := (show ∃ t, u = Value.int i t from r); subst e; exact mixKind_int P w i t
  | inr x => obtain ⟨t, e⟩ := (show ∃ t, u = Value.str x t from r); subst e; exact mixKind_str P w x t
theorem items_are {P : Program} {w : World} : ∀ {ks : List Key} {us : List Value}, Vals (ks.map kV) us → ItemsAre (mixKind P w) ks us
  | [], _, r => by rw [List.map_nil] at r; cases r; exact .nil
  | k :: ks, _, r => by
    rw [List.map_cons] at r
    cases r with
    | cons h t => exact .cons (kV_is h) (items_are t)

/-- raw entries of a dict with tuple keys -/
abbrev KT (H : Hp) : List (List Key × V) → List (List Key × Addr × Value) → Prop := Paired fun p q => p.1 = q.1 ∧ H q.2.1 = some (.tup (p.1.map kV)) ∧ RelV p.2 q.2.2
theorem KT.val {H : Hp} {kvs : List (List Key × V)} {xs : List (List Key × Addr × Value)} (r : KT H kvs xs) (k : List Key) : RelO (valV kvs k) ((atKey xs k).map (·.2)) := by
  induction r with
  | nil => exact True.intro
  | @cons p q ps qs h t ih =>
    obtain ⟨h1, _, h2⟩ := h
    by_cases e : p.1 = k
    · have e' : q.1 = k := h1.symm.trans e
      have b : atKey (q :: qs) k = some q.2 := by simp [atKey, List.find?_cons, e']
      rw [valV_pos e, b]; exact h2
    · have e' : ¬ q.1 = k := fun z => e (h1.trans z)
      have b : atKey (q :: qs) k = atKey qs k := by simp [atKey, List.find?_cons, e']
      rw [valV_neg e, b]; exact ih
theorem KT.repl {H : Hp} {kvs : List (List Key × V)} {xs : List (List Key × Addr × Value)} (r : KT H kvs xs) (k : List Key) {y : V} {u : Value} (ry : RelV y u) :
    KT H (kvs.map fun kv => if kv.1 = k then (kv.1, y) else kv) (xs.map (putAt k u)) := by
  induction r with
  | nil => exact .nil
  | @cons p q ps qs h t ih =>
    rw [List.map_cons, List.map_cons]
    refine .cons ?_ ih
    obtain ⟨h1, h2, h3⟩ := h
    unfold putAt
    by_cases e : p.1 = k
    · rw [if_pos e, if_pos (h1.symm.trans e)]; exact ⟨h1, h2, ry⟩
    · rw [if_neg e, if_neg (fun z => e (h1.trans z))]; exact ⟨h1, h2, h3⟩
theorem KT.put {H : Hp} {kvs : List (List Key × V)} {xs : List (List Key × Addr × Value)} (r : KT H kvs xs) (k : List Key) {b : Addr} {y : V} {u : Value} (hb : H b = some (.tup (k.map kV))) (ry : RelV y u) :
    KT H (putK kvs k y) (storedH xs k b u) := by
  have e : (kvs.any fun kv => decide (kv.1 = k)) = (atKey xs k).isSome := by
    rw [valV_any, (r.val k).isSome_eq, Option.isSome_map]
  unfold putK storedH
  rw [e]
  by_cases q : (atKey xs k).isSome = true
  · rw [if_pos q, if_pos q]; exact r.repl k ry
  · rw [if_neg q, if_neg q]; exact Paired.snoc r ⟨rfl, hb, ry⟩
theorem KT.keeps {H H' : Hp} {kvs : List (List Key × V)} {xs : List (List Key × Addr × Value)} (r : KT H kvs xs) (ht : ∀ b ys, H b = some (.tup ys) → H' b = some (.tup ys)) : KT H' kvs xs :=
  Paired.mapP r fun _ _ z => ⟨z.1, ht _ _ z.2.1, z.2.2⟩

section
variable {P : Program} {w : World} {H : Hp} {h : Heap} {a : Addr}
theorem rd_of {u : HO} (ok : HOk P w H h) (e : Rd H a u) : ObjOk P w H h a u := e.ok ok
theorem dk_rd {kvs : List (Key × V)} (ok : HOk P w H h) (e : Rd H a (.dK kvs)) : kvs.length ≤ sizeLine ∧ (a == sysModules) = false ∧ ∃ vs, KV kvs vs ∧ h.DictOf (mixKind P w) a vs :=
  show ObjOk P w H h a (.dK kvs) from rd_of ok e
theorem dk_of {kvs : List (Key × V)} (ok : HOk P w H h) (e : H a = some (.dK kvs)) : kvs.length ≤ sizeLine ∧ (a == sysModules) = false ∧ ∃ vs, KV kvs vs ∧ h.DictOf (mixKind P w) a vs := dk_rd ok (.inl e)
/-- a tracked tuple of ints and texts is a key -/
theorem key_of {ks : List Key} (ok : HOk P w H h) (e : H a = some (.tup (ks.map kV))) : (tupleKind (mixKind P w)).is h ks a := by
  obtain ⟨_, its, r, o, h1, h2, n, h3⟩ := (show ObjOk P w H h a (.tup (ks.map kV)) from ok a _ e)
  exact ⟨o, its.toArray, n, h1, h2, h3, by simpa using items_are r⟩
theorem dt_rd {kvs : List (List Key × V)} (ok : HOk P w H h) (e : Rd H a (.dT kvs)) : kvs.length ≤ sizeLine ∧ (a == sysModules) = false ∧
    ∃ xs, KT H kvs xs ∧ h.DictOfH (tupleKind (mixKind P w)) a xs := by
  obtain ⟨z, y, xs, r, o, es, ep, h1, h2, h3, h4, h5⟩ := (show ObjOk P w H h a (.dT kvs) from rd_of ok e)
  refine ⟨z, y, xs, r, o, es, ep, h1, h2, h3, h4, fun x hx => ?_, h5⟩
  have all : ∀ {l : List (List Key × V)} {m : List (List Key × Addr × Value)}, KT H l m → ∀ x ∈ m, (tupleKind (mixKind P w)).is h x.1 x.2.1 := by
    intro l m q
    induction q with
    | nil => intro x hx; exact nomatch hx
    | @cons p q ps qs hq t ih =>
      intro x hx
      rcases List.mem_cons.mp hx with e | hx
      · subst e
        exact key_of ok (by rw [← hq.1]; exact hq.2.1)
      · exact ih x hx
  exact all r x hx
theorem dt_of {kvs : List (List Key × V)} (ok : HOk P w H h) (e : H a = some (.dT kvs)) : kvs.length ≤ sizeLine ∧ (a == sysModules) = false ∧
    ∃ xs, KT H kvs xs ∧ h.DictOfH (tupleKind (mixKind P w)) a xs := dt_rd ok (.inl e)
end

/-- what the dict at a holds at the key y -/
def DGet (H : Hp) (a : Addr) (y : V) (r : Option V) : Prop :=
  (∃ kvs k, Rd H a (.dK kvs) ∧ y = kV k ∧ r = valV kvs k) ∨ ∃ kvs k b, Rd H a (.dT kvs) ∧ y = .ref b ∧ H b = some (.tup (k.map kV)) ∧ r = valV kvs k
/-- the heap behind a[y] = v -/
def DPut (H : Hp) (a : Addr) (y v : V) (H' : Hp) : Prop :=
  (∃ kvs k, H a = some (.dK kvs) ∧ y = kV k ∧ kvs.length < sizeLine ∧ H' = upd H a (.dK (putK kvs k v))) ∨
  ∃ kvs k b, H a = some (.dT kvs) ∧ y = .ref b ∧ H b = some (.tup (k.map kV)) ∧ kvs.length < sizeLine ∧ H' = upd H a (.dT (putK kvs k v))
theorem DGet.k {H : Hp} {a : Addr} {kvs : List (Key × V)} {k : Key} (e : H a = some (.dK kvs)) : DGet H a (kV k) (valV kvs k) := .inl ⟨kvs, k, .inl e, rfl, rfl⟩
theorem DGet.t {H : Hp} {a b : Addr} {kvs : List (List Key × V)} {k : List Key} (e : H a = some (.dT kvs)) (eb : H b = some (.tup (k.map kV))) : DGet H a (.ref b) (valV kvs k) := .inr ⟨kvs, k, b, .inl e, rfl, eb, rfl⟩
theorem DPut.k {H : Hp} {a : Addr} {kvs : List (Key × V)} {k : Key} {v : V} (e : H a = some (.dK kvs)) (hl : kvs.length < sizeLine) : DPut H a (kV k) v (upd H a (.dK (putK kvs k v))) := .inl ⟨kvs, k, e, rfl, hl, rfl⟩
theorem DPut.t {H : Hp} {a b : Addr} {kvs : List (List Key × V)} {k : List Key} {v : V} (e : H a = some (.dT kvs)) (eb : H b = some (.tup (k.map kV))) (hl : kvs.length < sizeLine) :
    DPut H a (.ref b) v (upd H a (.dT (putK kvs k v))) := .inr ⟨kvs, k, b, e, rfl, eb, hl, rfl⟩


section
variable {X : Cx} {pins : List (Addr × Obj)} {σ : St} {H : Hp} {s : Shared} {a : Addr} {y v : V} {u r : Value} {o : Option V} {A : Around} {E : Value → Shared → Prop}

theorem Inv.big (I : Inv X pins σ H s) : sysModules < s.heap.objs.size := by
  have h : mainGlobals < s.heap.objs.size := (I.mod.glob.keeps I.bk).lt
  exact Nat.lt_trans (by decide) h

/-- a dict's object is replaced -/
theorem d_write {h' : Heap} {t' : Nat} {ob : HO} (I : Inv X pins σ H s) (mu : Mut (H a)) (hs : Heap.SameBut a s.heap h') (he : ∃ q, h'.get? a = some q) (new : ObjOk X.prog X.w (upd H a ob) h' a ob) :
    Inv X pins σ (upd H a ob) { s with heap := h', toks := t' } :=
  I.write (x := a) (e := a) mu (.inl rfl) (fun b q hb z => (hs.2 b hb).trans z) he new
theorem dk_new {P : Program} {w : World} {H' : Hp} {h' : Heap} {kvs : List (Key × V)} {vs : List (Key × Value)} (z : kvs.length ≤ sizeLine) (hd : (a == sysModules) = false) (rel : KV kvs vs) (dd : h'.DictOf (mixKind P w) a vs) :
    ObjOk P w H' h' a (.dK kvs) := ⟨z, hd, vs, rel, dd⟩
/-- d[y] = v -/
theorem d_setItem {H' : Hp} {Q : Unit → Shared → Prop} (hu : A.units + 1 < cLine) (I : Inv X pins σ H s) (g : DPut H a y v H') (ry : RelV y u) (rv : RelV v r) (h : ∀ s', Inv X pins σ H' s' → Q () s') :
    wpAny (model X.prog X.w) A (setItem (.ref a) u r) Q E s := by
  rcases g with ⟨kvs, k, e, ey, l, eH⟩ | ⟨kvs, k, b, e, ey, eb, l, eH⟩
  · subst ey eH
    obtain ⟨z, hd, vs, rel, dd⟩ := dk_of I.hok e
    have hz : vs.length ≤ sizeLine := by rw [← rel.length]; exact z
    have hl : (putK kvs k v).length ≤ sizeLine := by have := length_putK kvs k v; omega
    refine wpAny_setItem_pairs (hsz := hz) (kV_is ry) dd fun h' dd' hs => h _ ?_
    have he : ∃ q, h'.get? a = some q := let ⟨q, _, _, hq, _⟩ := dd'; ⟨q, hq⟩
    exact d_write I (by rw [e]; exact True.intro) hs he (dk_new hl hd (rel.put k rv) dd')
  · subst ey eH
    cases (show u = Value.ref b from ry)
    obtain ⟨z, hd, xs, rel, dd⟩ := dt_of I.hok e
    have hz : xs.length ≤ sizeLine := by rw [← Paired.length rel]; exact z
    have hl : (putK kvs k v).length ≤ sizeLine := by have := length_putK kvs k v; omega
    refine wpAny_setItem_heap (hsz := hz) (tupleKind_room_in1 hu) (key_of I.hok eb) dd fun h' dd' hs => h _ ?_
    obtain ⟨q, es, ep, hq, h2, h3, h4, _, h5⟩ := dd'
    refine d_write I (by rw [e]; exact True.intro) hs ⟨q, hq⟩ ⟨hl, hd, _, (rel.put k eb rv).keeps fun c ys ec => ?_, q, es, ep, hq, h2, h3, h4, h5⟩
    rw [upd_ne (ne_of ec e (fun z => nomatch z))]
    exact ec
end

section
variable {X : Cx} {pins : List (Addr × Obj)} {σ : St} {H : Hp} {s : Shared} {a : Addr} {kvs : List (Key × V)} {k : Key} {u : Value} {A : Around} {E : Value → Shared → Prop}
end


/-- d[y] = v -/
def sDPut (td ty tv : TE) : TS := fun D σ H => tv σ H fun v H1 => td σ H1 fun x H2 => ty σ H2 fun y H3 => ∃ a H4, x = .ref a ∧ DPut H3 a y v H4 ∧ D.nx σ H4
section
variable {X : Cx} {o i e value : Expr} {pos pos' tpos : Pos} {td ty tv : TE}
theorem ps_dput (hu : X.A.units + 1 < cLine) (ho : PE X o td) (hi : PE X i ty) (hv : PE X value tv) (hs : swapsWith value (some (.Subscript o i pos')) pos.line X.env = pure false) :
    PS X (.Assign [.Subscript o i pos'] value pos) (sDPut td ty tv) := by
  intro pins s σ H D I h
  refine wpAny_Assign_Subscript (thn (hv pins s σ H _ I h) fun r s1 ⟨v, H1, I1, rv, q1⟩ => thn (ho pins s1 σ H1 _ I1 q1) fun u s2 ⟨x, H2, I2, rx, q2⟩ => thn (hi pins s2 σ H2 _ I2 q2) fun iv s3 ⟨y, H3, I3, ry, a, H4, ex, g, q3⟩ => ?_) hs
  subst ex
  obtain rfl : u = Value.ref a := rx
  exact d_setItem hu I3 g ry rv fun s4 I4 => ⟨σ, H4, I4, q3⟩
end


theorem dt_empty {P : Program} {w : World} {H : Hp} (h : Heap) (hb : sysModules < h.objs.size) : ObjOk P w H (h.push { cls := .type "dict", data := .dict #[] }) h.objs.size (.dT []) :=
  ⟨Nat.zero_le _, beq_eq_false_iff_ne.mpr (Ne.symm (Nat.ne_of_lt hb)), [], .nil, _, #[], 0, Heap.get?_push_size _ rfl, ⟨rfl, rfl, rfl⟩, rfl, rfl, List.nodup_nil⟩
def tDNewT : TE := fun _ H Q => ∀ p, H p = none → Q (.ref p) (upd H p (.dT []))
section
variable {X : Cx} {pos : Pos}
theorem pe_dnewT : PE X (.Dict [] [] pos) tDNewT := fun pins s σ H Q I h =>
  wpAny_Dict_empty ⟨.ref s.heap.objs.size, _, I.laid (a := s.heap.objs.size) (o := .dT []) (t' := s.toks) (fun _ _ q => Heap.get?_push_of_some _ q) (Nat.le_refl _) (dt_empty s.heap I.big), rfl, h _ (I.hok.fresh (Nat.le_refl _))⟩
end

/-! ### methods -/
/-- a method call o.m(e) of a built-in, with one argument: what must be seen of the text -/
structure M1 (X : Cx) (o : Expr) (m : Str) (apos : Pos) (e : Expr) (cpos : Pos) : Prop where
  base : attributeBase o m X.env (eval o X.env) = eval o X.env
  few : ((backTo cpos (starEach [e] X.env)).all (fun x => !x.1) && (backToKw cpos (keywordEach [] X.env)).all (fun x => x.1.isSome)
    && decide (([e] : List Expr).length + ([] : List Keyword).length + (if ([] : List Keyword).isEmpty then 0 else 1) < 30)) = true
  line : (apos.endLine == cpos.line) = true
  trees : backTo cpos (starEach [e] X.env) = [(false, eval e X.env)]
structure M2 (X : Cx) (o : Expr) (m : Str) (apos : Pos) (e f : Expr) (cpos : Pos) : Prop where
  base : attributeBase o m X.env (eval o X.env) = eval o X.env
  few : ((backTo cpos (starEach [e, f] X.env)).all (fun x => !x.1) && (backToKw cpos (keywordEach [] X.env)).all (fun x => x.1.isSome)
    && decide (([e, f] : List Expr).length + ([] : List Keyword).length + (if ([] : List Keyword).isEmpty then 0 else 1) < 30)) = true
  line : (apos.endLine == cpos.line) = true
  trees : backTo cpos (starEach [e, f] X.env) = [(false, eval e X.env), (false, eval f X.env)]

/-- a is a dict, whatever its keys -/
def IsD (H : Hp) (a : Addr) : Prop := (∃ kvs, Rd H a (.dK kvs)) ∨ ∃ kvs, Rd H a (.dT kvs)
theorem isD_at {X : Cx} {pins : List (Addr × Obj)} {σ : St} {H : Hp} {s : Shared} {a : Addr} (I : Inv X pins σ H s) (d : IsD H a) :
    s.TypeIs (.ref a) "dict" ∧ (∀ b, Value.ref a = .ref b → ∃ ob, s.heap.get? b = some ob ∧ ob.dict = none) ∧ (a == sysModules) = false := by
  rcases d with ⟨kvs, e⟩ | ⟨kvs, e⟩
  · obtain ⟨_, hd, vs, _, dd⟩ := dk_rd I.hok e
    refine ⟨dd.typeIs, fun b q => ?_, hd⟩
    cases q
    obtain ⟨ob, _, _, h1, h2, _⟩ := dd
    exact ⟨ob, h1, h2.2.1⟩
  · obtain ⟨_, hd, xs, _, dd⟩ := dt_rd I.hok e
    refine ⟨dd.typeIs, fun b q => ?_, hd⟩
    cases q
    obtain ⟨ob, _, _, h1, h2, _⟩ := dd
    exact ⟨ob, h1, h2.2.1⟩

section
variable {X : Cx} {pins : List (Addr × Obj)} {σ : St} {H : Hp} {s : Shared} {a : Addr} {y d : V} {u r : Value} {o : Option V} {A : Around} {E : Value → Shared → Prop}
/-- d.get(y, x) -/
theorem d_get2 {Q : Value → Shared → Prop} (hu : A.units + 1 < cLine) (I : Inv X pins σ H s) (g : DGet H a y o) (ry : RelV y u) (rd : RelV d r) (h : ∀ w' s', Inv X pins σ H s' → RelV (o.getD d) w' → Q w' s') :
    wpAny (model X.prog X.w) A (call (.builtin "dict.get") [.ref a, u, r]) Q E s := by
  rcases g with ⟨kvs, k, e, ey, l⟩ | ⟨kvs, k, b, e, ey, eb, l⟩
  · subst ey
    obtain ⟨z, hd, vs, rel, dd⟩ := dk_rd I.hok e
    refine call_meetsIn PySem.F.slot_dict_get dd.typeIs PySem.F.entry_dict_get (PySem.F.args_dict_get_3 _ _ _) (meets_dict_get_default (mixKind X.prog X.w) a (kV_is ry) hd r) ⟨_, dd.mapOf, h _ _ (I.tok _) ?_⟩
    rw [l]
    exact (rel.val k).getD rd
  · subst ey
    cases (show u = Value.ref b from ry)
    obtain ⟨z, hd, xs, rel, dd⟩ := dt_rd I.hok e
    refine call_meetsIn PySem.F.slot_dict_get dd.typeIs PySem.F.entry_dict_get (PySem.F.args_dict_get_3 _ _ _) (meetsH_dict_get_default (tupleKind (mixKind X.prog X.w)) a b hd r) ⟨tupleKind_room_in1 hu, k, xs, key_of I.hok eb, dd, h _ _ (I.tok _) ?_⟩
    rw [l]
    exact (rel.val k).getD rd
end

def tDGet2 (td ty tx : TE) : TE := fun σ H Q => td σ H fun x H1 => ∃ a, x = .ref a ∧ IsD H1 a ∧ ty σ H1 fun y H2 => tx σ H2 fun z H3 => ∃ o, DGet H3 a y o ∧ Q (o.getD z) H3
section
variable {X : Cx} {o e f : Expr} {apos cpos : Pos} {td ty tx : TE}
theorem pe_dget2 (hu : X.A.units + 1 < cLine) (ho : PE X o td) (he : PE X e ty) (hf : PE X f tx) (m : M2 X o "get" apos e f cpos) : PE X (.Call (.Attribute o "get" apos) [e, f] [] cpos) (tDGet2 td ty tx) := by
  intro pins s σ H Q I h
  refine wpAny_Call_method m.base m.few m.line PySem.F.plainAttrs_dict PySem.F.slot_dict_get PySem.F.type_dict_get (thn (ho pins s σ H _ I h) fun u s1 ⟨x, H1, I1, rx, a, ex, d, q1⟩ => ?_)
  subst ex
  obtain rfl : u = Value.ref a := rx
  obtain ⟨t1, t2, _⟩ := isD_at I1 d
  refine ⟨t1, t2, ?_⟩
  rw [m.trees]
  refine Calls.callWith_builtin rfl (Calls.evalArgs_plain (Calls.spliced_cons (thn (he pins s1 σ H1 _ I1 q1) fun iv s2 ⟨y, H2, I2, ry, q2⟩ =>
    Calls.spliced_cons (thn (hf pins s2 σ H2 _ I2 q2) fun fv s3 ⟨z, H3, I3, rz, ov, g, q3⟩ => Calls.spliced_nil ?_))))
  exact d_get2 hu I3 g ry rz fun w' s4 I4 rw' => ⟨_, H3, I4, rw', q3⟩
end

/-! ### dict(d): a copy -/
section
variable {X : Cx} {pins : List (Addr × Obj)} {σ : St} {H : Hp} {s : Shared} {a : Addr} {kvs : List (Key × V)} {A : Around} {E : Value → Shared → Prop}
end


section
variable {X : Cx} {pins : List (Addr × Obj)} {σ : St} {H : Hp} {s : Shared} {a : Addr} {y : V} {u : Value} {A : Around} {E : Value → Shared → Prop}
end
end L2

namespace Att
open PySem PySem.W PySem.Calls PyProof.Rows

/-! ### the script -/
/-! ### the attachment: holds_open's last premise (the goal 'hc' behind k_head) from a wpAny of the law's body -/
/-! ### rules over ANY heap (no ledger) from facts about the written part K: the library's own take a ledger (News) for what they write -/
section
variable {prog : Program} {w : World} {A : Around} {E : Value → Shared → Prop} {s : Shared} {K : Frag}

/-! the whole heap as the ledger: makes every rule that writes through a ledger a rule over any heap -/
end
end Att

namespace L2
open PySem PySem.Spec PyProof.Rows

end L2

namespace L2
open PySem PySem.Spec PyProof.Rows

/-! SHORT WORDS over the layer: a def of the text, its body, what a loop and a test want. -/

open PySem PySem.Spec PyProof.Rows

/-! ### the text by places -/
/-! ### no exception leaves a def -/
/-! ### a def (or method) of the text as it stands behind the top -/
section
variable {P : Program} {w : World} {K : PySem.W.Frag} {mg : Str → Option Value} {base : Heap}
end
/-! ### expressions in short: the name that stands in the i-th slot -/
section
variable {X : Cx}
end

/-! ### tests -/
/-! ### heaps -/
/-! ### a dict's pairs: keys that differ -/
section
variable {κ : Type} [DecidableEq κ]
end
end L2

set_option Elab.async false
set_option linter.all false
set_option maxRecDepth 100000
set_option maxHeartbeats 4000000
namespace L2
open PySem PySem.Spec PyProof.Rows
section
variable {X : Cx}
def CDivL (i j : Int) : Prop := 0 < j ∧ j.natAbs.log2 < 9000
theorem op_fdivL : OpR X (binaryOp .FloorDiv) (rI CDivL fun i j => .int (i / j)) := opI fun i j _ _ _ _ _ hc q => by
  have h1 : (0 : Int) < j := hc.1
  exact floordiv_int (by omega) (by rw [Int.fdiv_eq_ediv_of_nonneg i (by omega)]; exact q) (.inl (PyProof.noPylong_of_log2 hc.2))
theorem call_isinst {T : String} : CallR X (.builtin "isinstance") (fun xs H Q => ∃ x t b, xs = [x, .ty T] ∧ TyOf X.K H x t ∧ PySem.W.kitOne X.K t (.type T) = some b ∧ Q (.bl b) H) := by
  intro pins s σ H xs us Q I r h
  obtain ⟨x, t, b, rfl, ty, e, q⟩ := h
  obtain ⟨u, w', rfl, r1, r2⟩ := vals2 r
  cases (show w' = .type T from r2)
  exact isinst_ok I r1 ty e fun tk => ⟨.bl b, H, I.tok _, rfl, q⟩
theorem mt_bits : MtR X "int.bit_length" (fun x vs H Q => ∃ i, x = .int i ∧ vs = [] ∧ Q (.int (Builtin.Int.intBits i : Nat)) H) := by
  intro pins s σ H x xs v us Q I r rv h
  obtain ⟨i, rfl, rfl, q⟩ := h
  obtain ⟨t, rfl⟩ := r
  cases rv.zero
  exact call_gives F.slot_int_bit_length (typeIs_int _ _ _) F.entry_int_bit_length (F.args_int_bit_length_1 _) (AutoIntG2.int_bit_length_int_0 _ _) (show EP X pins σ Q _ _ from ⟨.int _, H, I.tok _, ⟨_, rfl⟩, q⟩)
theorem kit_ib {K : PySem.W.Frag} : PySem.W.kitOne K (.type "int") (.type "bool") = some false := by with_unfolding_all rfl
theorem kit_ii {K : PySem.W.Frag} : PySem.W.kitOne K (.type "int") (.type "int") = some true := by rfl
end
end L2

set_option Elab.async false
set_option linter.all false
set_option maxRecDepth 100000
set_option maxHeartbeats 4000000
namespace L2
open PySem PySem.Spec PyProof.Rows
section
variable {X : Cx}
/-- the cells that a comprehension's block takes over -/
theorem clos_go (env : Env) : ∀ (names : List (Str × NameKind)) (acc : List (Str × Addr)), (∀ y ∈ names, y.2 = .free → ∃ c, env.cells.lookup y.1 = some c) → (∀ y c, acc.lookup y = some c → env.cells.lookup y = some c) →
    ∃ cl, (forIn names acc fun (x : Str × NameKind) (r : List (Str × Addr)) => if (x.2 == NameKind.free) = true then (do let c ← cellOf env x.1; pure (ForInStep.yield ((x.1, c) :: r))) else pure (ForInStep.yield r) : Sem _) = pure cl ∧
      (∀ y c, cl.lookup y = some c → env.cells.lookup y = some c) ∧ (∀ y, (y, NameKind.free) ∈ names → (cl.lookup y).isSome = true) ∧ (∀ y, (acc.lookup y).isSome = true → (cl.lookup y).isSome = true)
  | [], acc, _, h => ⟨acc, by simp, h, fun y z => absurd z (by simp), fun _ z => z⟩
  | (n, k) :: r, acc, hf, h => by
    by_cases hk : k = .free
    · subst hk
      obtain ⟨c, hc⟩ := hf (n, .free) List.mem_cons_self rfl
      obtain ⟨cl, e, h1, h2, h3⟩ := clos_go env r ((n, c) :: acc) (fun y hy => hf y (List.mem_cons_of_mem _ hy)) (fun y d hd => by
        rw [List.lookup_cons] at hd
        cases z : y == n with
        | true =>
          rw [z] at hd
          have : y = n := by simpa using z
          subst this
          cases hd
          exact hc
        | false => rw [z] at hd; exact h y d hd)
      have hin : ∀ y, (((n, c) :: acc).lookup y).isSome = true ∨ True := fun _ => .inr trivial
      refine ⟨cl, ?_, h1, fun y hy => ?_, fun y hy => h3 y ?_⟩
      · rw [List.forIn_cons]
        have e0 : cellOf env n = pure c := by unfold cellOf; rw [hc]
        simp only [beq_self_eq_true, if_true, e0, pure_bind]
        exact e
      · rcases List.mem_cons.mp hy with z | z
        · cases z
          exact h3 _ (by rw [List.lookup_cons]; simp)
        · exact h2 y z
      · rw [List.lookup_cons]
        cases y == n with
        | true => rfl
        | false => exact hy
    · obtain ⟨cl, e, h1, h2, h3⟩ := clos_go env r acc (fun y hy => hf y (List.mem_cons_of_mem _ hy)) h
      refine ⟨cl, ?_, h1, fun y hy => ?_, h3⟩
      · rw [List.forIn_cons]
        have hb : (k == NameKind.free) = false := by simpa using hk
        simp only [hb, Bool.false_eq_true, if_false, pure_bind]
        exact e
      · rcases List.mem_cons.mp hy with z | z
        · cases z; exact absurd rfl hk
        · exact h2 y z
theorem clos_ok {scope : Scope} {env : Env} (hf : ∀ y ∈ scope.names, y.2 = .free → ∃ c, env.cells.lookup y.1 = some c) : ∃ cl, closureFor scope env = pure cl ∧ (∀ y c, cl.lookup y = some c → env.cells.lookup y = some c) ∧ (∀ y, (y, NameKind.free) ∈ scope.names → (cl.lookup y).isSome = true) := by
  obtain ⟨cl, e, h1, h2, _⟩ := clos_go env scope.names [] hf (fun y c h => by cases h)
  refine ⟨cl, ?_, h1, h2⟩
  unfold closureFor
  simp only [bind_pure]
  exact e
end
end L2
namespace L2
open PySem PySem.Spec PyProof.Rows
section
variable {X : Cx}
def tYes : TT := fun _ H Q => Q true H
/-- a comprehension's tests -/
def PIf (X : Cx) (ifs : List Expr) (t : TT) : Prop :=
  ∀ (pins : List (Addr × Obj)) (s : Shared) (σ : St) (H : Hp) (Q : Bool → Hp → Prop), Inv X pins σ H s → t σ H Q →
    wpAny (model X.prog X.w) X.A (forIn ifs true fun c r => if r = true then do let ok ← isTrue c X.env (eval c X.env); pure (ForInStep.yield ok) else pure (ForInStep.yield r)) (TP X pins σ Q) X.xe s
theorem pif_nil : PIf X [] tYes := fun pins s σ H Q I h => wpAny_tests_nil ⟨H, I, h⟩
theorem pif_one {c : Expr} {t : TT} (hc : PT X c t) : PIf X [c] t := fun pins s σ H Q I h => wpAny_tests_one (hc pins s σ H Q I h)
theorem relabel_kind {names : List (Str × NameKind)} {env : Env} {x : Str} {k : NameKind} (hc : ∀ y ∈ names, y.2 ≠ .cell) (h : (names.map fun (n, k) => if (k == NameKind.free && env.scope.kind == .function && env.kindOf n == some .cell) then (n, NameKind.cell) else (n, k)).lookup x = some k) :
    (k = .cell ∨ k = .free) → names.lookup x = some .free ∧ (k = .cell → env.kindOf x = some .cell) := by
  induction names with
  | nil => cases h
  | cons p r ih =>
    obtain ⟨n, k0⟩ := p
    intro hk
    have h : List.lookup x ((if (k0 == NameKind.free && env.scope.kind == .function && env.kindOf n == some .cell) = true then (n, NameKind.cell) else (n, k0)) :: _) = some k := h
    by_cases c : (k0 == NameKind.free && env.scope.kind == .function && env.kindOf n == some .cell) = true
    · rw [if_pos c] at h
      rw [List.lookup_cons] at h ⊢
      cases z : x == n with
      | true =>
        have e : x = n := by simpa using z
        subst e
        simp only [Bool.and_eq_true, beq_iff_eq] at c
        exact ⟨by rw [c.1.1], fun _ => c.2⟩
      | false => rw [z] at h; exact ih (fun y hy => hc y (List.mem_cons_of_mem _ hy)) h hk
    · rw [if_neg c] at h
      rw [List.lookup_cons] at h ⊢
      cases z : x == n with
      | true =>
        rw [z] at h
        have e : k0 = k := Option.some.inj h
        subst e
        rcases hk with rfl | rfl
        · exact absurd rfl (hc (n, .cell) List.mem_cons_self)
        · exact ⟨rfl, fun z => by cases z⟩
      | false => rw [z] at h; exact ih (fun y hy => hc y (List.mem_cons_of_mem _ hy)) h hk
end
end L2

set_option Elab.async false
set_option linter.all false
set_option maxRecDepth 100000
set_option maxHeartbeats 4000000
namespace L2
open PySem PySem.Spec PyProof.Rows
section
variable {X : Cx}
theorem relabel_local {names : List (Str × NameKind)} {env : Env} {x : Str} (h : (names.map fun (n, k) => if (k == NameKind.free && env.scope.kind == .function && env.kindOf n == some .cell) then (n, NameKind.cell) else (n, k)).lookup x = some .local) :
    names.lookup x = some .local := by
  induction names with
  | nil => cases h
  | cons p r ih =>
    obtain ⟨n, k0⟩ := p
    have h : List.lookup x ((if (k0 == NameKind.free && env.scope.kind == .function && env.kindOf n == some .cell) = true then (n, NameKind.cell) else (n, k0)) :: _) = some .local := h
    by_cases c : (k0 == NameKind.free && env.scope.kind == .function && env.kindOf n == some .cell) = true
    · rw [if_pos c] at h
      rw [List.lookup_cons] at h ⊢
      cases z : x == n with
      | true => rw [z] at h; cases h
      | false => rw [z] at h; exact ih h
    · rw [if_neg c] at h
      rw [List.lookup_cons] at h ⊢
      cases z : x == n with
      | true => rw [z] at h; exact h
      | false => rw [z] at h; exact ih h
end
end L2

set_option Elab.async false
set_option linter.all false
set_option maxRecDepth 100000
set_option maxHeartbeats 4000000
namespace L2
open PySem PySem.Spec PyProof.Rows
/-- what a value holds, at any depth -/
inductive DI (K : PySem.W.Frag) (H : Hp) : V → PyData → Prop where
  | non : DI K H .non .none
  | bl (b : Bool) : DI K H (.bl b) (.bool b)
  | int (i : Int) : DI K H (.int i) (.int i)
  | str (x : Str) : DI K H (.str x) (.str x)
  | tup {a : Addr} {xs : List V} {ds : List PyData} : SqT K H a xs → xs.length = ds.length → (∀ (i : Nat) (x : V) (d : PyData), xs[i]? = some x → ds[i]? = some d → DI K H x d) → DI K H (.ref a) (.tuple ds)
  | lst {a : Addr} {xs : List V} {ds : List PyData} : SqL K H a xs → xs.length = ds.length → (∀ (i : Nat) (x : V) (d : PyData), xs[i]? = some x → ds[i]? = some d → DI K H x d) → DI K H (.ref a) (.list ds)
section
variable {X : Cx} {pins : List (Addr × Obj)} {σ : St} {H : Hp} {s : Shared}
theorem readsAll_of : ∀ {us : List Value} {ds : List PyData} {xs : List V}, Vals xs us → xs.length = ds.length → (∀ (i : Nat) (x : V) (d : PyData) (u : Value), xs[i]? = some x → ds[i]? = some d → RelV x u → ∃ as, Reads s.heap u d as) → ∃ as, ReadsAll s.heap us ds as
  | _, ds, _, .nil, hl, _ => by
    cases ds with
    | nil => exact ⟨_, .nil⟩
    | cons d r => cases hl
  | _, ds, _, .cons (a := x) r t, hl, h => by
    cases ds with
    | nil => cases hl
    | cons d rest =>
      obtain ⟨as, ra⟩ := h 0 x d _ rfl rfl r
      obtain ⟨bs, rb⟩ := readsAll_of t (by simpa using hl) (fun i y e u h1 h2 h3 => h (i + 1) y e u (by simpa using h1) (by simpa using h2) h3)
      exact ⟨_, .cons ra rb⟩
theorem DI.reads (I : Inv X pins σ H s) {x : V} {d : PyData} (h : DI X.K H x d) : ∀ {u : Value}, RelV x u → ∃ as, Reads s.heap u d as := by
  induction h with
  | non => intro u r; cases r; exact ⟨_, .none⟩
  | bl b => intro u r; cases r; exact ⟨_, .bool b⟩
  | int i => intro u r; obtain ⟨t, rfl⟩ := r; exact ⟨_, .int i t⟩
  | str x => intro u r; obtain ⟨t, rfl⟩ := r; exact ⟨_, .str x t⟩
  | tup hq hl _ ih =>
    intro u r
    cases r
    obtain ⟨its, rv, ⟨o, e, c, n, hd⟩, _⟩ := I.tuple hq
    obtain ⟨as, ra⟩ := readsAll_of (s := s) rv hl (fun i y d u h1 h2 h3 => ih i y d h1 h2 h3)
    exact ⟨_, .tuple e c hd (by simpa using ra)⟩
  | lst hq hl _ ih =>
    intro u r
    cases r
    obtain ⟨its, rv, pl, _⟩ := I.list hq
    obtain ⟨o, e, c, n, hd⟩ := pl.isList
    obtain ⟨as, ra⟩ := readsAll_of (s := s) rv hl (fun i y d u h1 h2 h3 => ih i y d h1 h2 h3)
    exact ⟨_, .list e c hd (by simpa using ra)⟩
def rEqD (K : PySem.W.Frag) (g : Bool → Bool) : R2 := fun x y H Q => ∃ dx dy, DI K H x dx ∧ DI K H y dy ∧ dx.canLay0 = true ∧ dy.canLay0 = true ∧ dx.depth ≤ 60 ∧ Q (.bl (g (PyData.eqv dx dy))) H
theorem op_eqD {k : Nat} (hr : Room k X.A) : OpR X (compareOp .Eq) (rEqD X.K fun b => b) := by
  intro pins s σ H x y v u Q I rx ry h
  obtain ⟨dx, dy, hx, hy, cx, cy, hd, q⟩ := h
  obtain ⟨as, ra⟩ := hx.reads I rx
  obtain ⟨bs, rb⟩ := hy.reads I ry
  have hu := hr.units
  exact SeqAt.compareEq_reads ra rb cx cy (by omega) ⟨.bl _, H, I, rfl, q⟩
theorem op_neD {k : Nat} (hr : Room k X.A) : OpR X (compareOp .NotEq) (rEqD X.K fun b => !b) := by
  intro pins s σ H x y v u Q I rx ry h
  obtain ⟨dx, dy, hx, hy, cx, cy, hd, q⟩ := h
  obtain ⟨as, ra⟩ := hx.reads I rx
  obtain ⟨bs, rb⟩ := hy.reads I ry
  have hu := hr.units
  exact SeqAt.compareNe_reads ra rb cx cy (by omega) ⟨.bl _, H, I, rfl, q⟩
end
end L2

set_option Elab.async false
set_option linter.all false
set_option maxRecDepth 100000
set_option maxHeartbeats 4000000
namespace L2
open PySem PySem.Spec PyProof.Rows
section
variable {X : Cx}
theorem range_all_get (bs : List Bool) : (List.range bs.length).all (fun i => bs.getD i true) = bs.all id := by
  induction bs with
  | nil => rfl
  | cons b r ih =>
    rw [List.length_cons, List.range_succ_eq_map, List.all_cons, List.all_map, List.all_cons]
    have : (List.range r.length).all ((fun i => (b :: r).getD i true) ∘ Nat.succ) = (List.range r.length).all (fun i => r.getD i true) := by
      congr 1
    rw [this, ih]
    rfl
theorem call_all (hc : X.calm = true) : CallR X (.builtin "all") (fun xs H Q => ∃ (p : Addr) (bs : List Bool), xs = [.ref p] ∧ SqL X.K H p (bs.map V.bl) ∧ Q (.bl (bs.all id)) H) := by
  intro pins s σ H xs us Q I r h
  obtain ⟨p, bs, rfl, hq, q⟩ := h
  obtain ⟨u, rfl, rx⟩ := vals1 r
  cases rx
  obtain ⟨its, rv, pl, hz⟩ := I.list hq
  have hlt : p < s.heap.objs.size := by
    obtain ⟨o, e, _⟩ := pl.isList
    exact Heap.lt_size e
  have hlen : its.length = bs.length := by have := rv.length; rw [List.length_map] at this; exact this.symm
  refine call_all_walk (wpAny_pyIter_list pl.isList ?_)
  refine ⟨_, _, _, _, _, _, fun i => bs.getD i true, rfl, Walks.list (A := X.A.in1) (I.ok.hd hc) s.heap.objs.size p (Nat.ne_of_lt hlt) its.toArray, ?_, ?_, fun h' tk hk => ?_⟩
  · exact ⟨⟨_, Heap.get?_push_size _ rfl, rfl, rfl⟩, (let ⟨o, e, c⟩ := pl.isList; ⟨o, Heap.get?_push_of_some _ e, c⟩)⟩
  · intro i v s' Q' E' hP hQ
    have hv : its[i]? = some v := by simpa using hP
    have hil : i < bs.length := by rw [← hlen]; exact (List.getElem?_eq_some_iff.mp hv).1
    obtain ⟨u, e, ru⟩ := rv.get (x := V.bl (bs.getD i true)) (i := i) (by rw [List.getElem?_map, List.getElem?_eq_getElem hil, List.getD_eq_getElem?_getD, List.getElem?_eq_getElem hil]; rfl)
    rw [hv] at e
    cases e
    cases ru
    exact wpAny_truthy_bool hQ
  · have e : (List.range its.toArray.size).all (fun i => bs.getD i true) = bs.all id := by
      rw [List.size_toArray, hlen]; exact range_all_get bs
    rw [e]
    refine ⟨.bl _, H, ?_, rfl, q⟩
    exact I.kept fun b o eb => hk b o (by simp; exact Nat.ne_of_lt (Heap.lt_size eb)) (Heap.get?_push_of_some _ eb)
theorem kit_tt {K : PySem.W.Frag} : PySem.W.kitOne K (.type "tuple") (.type "tuple") = some true := by rfl
theorem kit_ll {K : PySem.W.Frag} : PySem.W.kitOne K (.type "list") (.type "list") = some true := by rfl
theorem call_isinstK {K : PySem.W.Frag} {T : String} (hK : X.K = K := by rfl) : CallR X (.builtin "isinstance") (fun xs H Q => ∃ x t b, xs = [x, .ty T] ∧ TyOf K H x t ∧ PySem.W.kitOne K t (.type T) = some b ∧ Q (.bl b) H) := by
  subst hK; exact call_isinst
theorem ix_listK {K : PySem.W.Frag} (hK : X.K = K := by rfl) : IxR X (rIxL K) := by subst hK; exact ix_list
theorem ix_tupK {K : PySem.W.Frag} (hK : X.K = K := by rfl) : IxR X (rIxT K) := by subst hK; exact ix_tup
theorem call_lenK {K : PySem.W.Frag} (hK : X.K = K := by rfl) : CallR X (.builtin "len") (fun xs H Q => ∃ p ys, xs = [.ref p] ∧ (SqL K H p ys ∨ SqT K H p ys) ∧ Q (.int ys.length) H) := by subst hK; exact call_len_seq
end
end L2

set_option Elab.async false
set_option linter.all false
set_option maxRecDepth 100000
set_option maxHeartbeats 4000000
namespace L2
open PySem PySem.Spec PyProof.Rows
section
variable {X : Cx}
end
end L2

set_option Elab.async false
set_option linter.all false
set_option maxRecDepth 100000
set_option maxHeartbeats 4000000
namespace L2
open PySem PySem.Spec PyProof.Rows
section
variable {X : Cx}
section
variable {prog : Program} {w : World} {A : Around} {R : Result → Shared → Prop} {s : Shared}
/-- one turn of a comprehension, the step ahead of the store told too -/
theorem loop_turns {elt tg iter : Expr} {ifs : List Expr} {scope : Scope} {pos : Pos} {it acc : Value} {env : Env} {EE : Value → Shared → Prop} (hE : EE = notedBy (model prog w) A env fun e s' => R (.error e) s') (I : Nat → Shared → Prop)
    (turn : ∀ n s, I n s → wpAny (model prog w) A (pyNext it) (fun r z1 => match r with
      | none => R (.ok .next) z1
      | some v => wpAny (model prog w) A (letOwnedTupleGo tg it v) (fun _ y1 => wpAny (model prog w) A (assign tg env v) (fun _ z2 =>
          wpAny (model prog w) A (forIn ifs true fun c r => if r = true then do let ok ← isTrue c env (eval c env); pure (ForInStep.yield ok) else pure (ForInStep.yield r)) (fun ok z3 =>
            if ok = true then wpAny (model prog w) A (eval elt env) (fun x z4 => wpAny (model prog w) A (call (.builtin "list.append") [acc, x]) (fun _ z5 => ∃ m, m < n ∧ I m z5) EE z4) EE z3 else ∃ m, m < n ∧ I m z3) EE z2) EE y1) EE z1) EE s)
    (n : Nat) (h : I n s) : codeAny (model prog w) A (.compLoop (.ListComp elt [⟨tg, iter, ifs, 0⟩] scope pos) 0 it acc env) R s := by
  subst hE
  refine codeAny_loop rfl I (fun n s hI => ?_) n h
  show wpAny _ A ((compTurn (.ListComp elt [⟨tg, iter, ifs, 0⟩] scope pos) 0 it acc env).onRaise (fun x => do noteFrame x env; theTreesLotGoes x)) _ _ s
  refine wpAny_noted ?_
  rw [compTurn_list]
  refine wpAny_bind (wpAny_standAt (wpAny_bind (wpAny_mono (turn n s hI) (fun r z1 q1 => ?_) fun _ _ z => z)))
  cases r with
  | none => exact wpAny_pure q1
  | some v =>
    refine wpAny_bind (wpAny_mono q1 (fun _ y1 q1 => ?_) fun _ _ z => z)
    refine wpAny_bind (wpAny_mono q1 (fun _ z2 q2 => wpAny_bind (wpAny_mono q2 (fun ok z3 q3 => ?_) fun _ _ z => z)) fun _ _ z => z)
    cases ok with
    | false => exact wpAny_pure ⟨rfl, q3⟩
    | true => exact wpAny_bind (wpAny_bind (wpAny_mono q3 (fun x z4 q4 => wpAny_bind (wpAny_mono q4 (fun _ z5 q5 => wpAny_pure (wpAny_pure ⟨rfl, q5⟩)) fun _ _ z => z)) fun _ _ z => z))
end
/-- the block of a comprehension: its own names ahead of the frame's -/
def cxC (X : Cx) (xs Nb : List Str) (scope : Scope) (cl : List (Str × Addr)) (C : Addr) (s₂ : Shared) (H₂ : Hp) (fp : List Addr) : Cx :=
  { X with N := xs ++ Nb, s₀ := s₂, H₀ := H₂, env := compEnvC scope cl C X.env, outer := X.stack, stack := X.stack, ex := fp, fn := fun _ => false, pn := [], xe := fun _ _ => False }
def InB (X : Cx) (xs Nb : List Str) (scope : Scope) (φ : Cx → Prop) : Prop := ∀ (cl : List (Str × Addr)) (C : Addr) (s₂ : Shared) (H₂ : Hp) (fp : List Addr), φ (cxC X xs Nb scope cl C s₂ H₂ fp)
def CGo (k : Nat) (J : It) (g : TG) (tt : TT) (te : TE) (Q : VK) (σ : St) (H1 : Hp) : Prop := ∃ W : Nat → Nat → List V → Hp → Prop, (∃ m, W 0 m [] H1) ∧ ∀ i m ys H, W i m ys H →
  (J.stop i H ∧ ∀ D, H D = none → Q (.ref D) (upd H D (.lst ys))) ∨ (J.go i H ∧ ys.length < sizeLine ∧ ∃ N : List V → Hp → Prop, (∀ zs H', N zs H' → ∃ m', m' < m ∧ W (i + 1) m' zs H') ∧ ∀ v H' (pre : St), pre.length = k → J.yld i H v H' → g v (pre ++ σ) H' fun σ' H2 => (∃ pre' : St, σ' = pre' ++ σ ∧ pre'.length = k) ∧ tt σ' H2 fun ok H3 => if ok = true then te σ' H3 fun y H4 => N (ys ++ [y]) H4 else N ys H3)
def tCompG (k : Nat) (wi : TI) (g : TG) (tt : TT) (te : TE) : TE := fun σ H Q => wi σ H fun J H1 => CGo k J g tt te Q σ H1
theorem comp_core {elt iter tg : Expr} {xs Nb : List Str} {ifs : List Expr} {scope : Scope} {pos : Pos} {wi : TI} {g : TG} {tt : TT} {te : TE}
    (hc : X.calm = true) (hi : PI X tg iter wi) (hlen : Nb.length = X.N.length) (hNb : ∀ p ∈ Nb.zip X.N, p.1 = p.2 ∨ scope.names.lookup p.1 = none) (hxN : ∀ y ∈ Nb, scope.names.lookup y ≠ some .local)
    (hg : InB X xs Nb scope fun Y => PG Y tg g) (ht : InB X xs Nb scope fun Y => PIf Y ifs tt) (he : InB X xs Nb scope fun Y => PE Y elt te)
    (hcell : ∀ y ∈ scope.names, y.2 ≠ .cell) (hkind : scope.kind = .function) (hnames : ∀ y ∈ scope.names, y.2 = .local → scope.names.lookup y.1 = some .local)
    (hfree : ∀ y ∈ scope.names, y.2 = .free → X.env.kindOf y.1 = some .cell)
    (hs : ∀ x, foldedSetIterable iter X.env x = pure x) {pos2 : Pos} {use : Option (Value → Sem Unit)} {QQ : Value → Shared → Prop} {pins : List (Addr × Obj)} {s : Shared} {σ : St} {H : Hp} {Q : VK} (I : Inv X pins σ H s) (h : tCompG xs.length wi g tt te σ H Q)
    (post : ∀ (s2 s4 : Shared) (H2 H4 : Hp) (C D : Addr) (m4 : Str → Option Value), Inv X pins σ H2 s2 → s2.heap.objs.size ≤ C → s4.heap.Ns C m4 → H4 C = none → (∀ h', Heap.SameBut C s4.heap h' → Inv X pins σ H4 { s4 with heap := h' }) → Q (.ref D) H4 → compPost (model X.prog X.w) X.A X.xe use QQ (.ref D) C (.ok .next) s4) :
    wpAny (model X.prog X.w) X.A (comprehension (.ListComp elt [⟨tg, iter, ifs, 0⟩] scope pos) scope X.env pos2 (newList []) false (eval iter X.env) use) QQ X.xe s := by
  obtain ⟨cl, hcl, cl1, cl2⟩ := clos_ok (scope := scope) (env := X.env) (fun y hy hf => I.ok.has y.1 (.inl (hfree y hy hf)))
  refine wpAny_comprehension_free rfl hs hcl hkind hnames (thn (hi pins s σ H _ I h) fun v s1 h1 => thn h1 fun itv s2 h2 => ?_)
  obtain ⟨it, fp, tn, J, H2, e, I2, T, st2, f2, W, ⟨m0, w0⟩, turn⟩ := h2
  subst e
  refine wpAny_newObj_type (wpAny_newFunctionEnv hcell (by intro y hy; simp at hy) (fun h₁ hns₁ hsb₁ => ?_) hkind)
  dsimp only at hns₁ hsb₁ ⊢
  generalize hHp : s2.heap.push { cls := .type "list", dict := none, data := .seq ([] : List Value).toArray } = Hp2 at hns₁ hsb₁ ⊢
  have hC : Hp2.objs.size = s2.heap.objs.size + 1 := by rw [← hHp, Heap.size_push]
  have hDC : s2.heap.objs.size ≠ Hp2.objs.size := by rw [hC]; exact Nat.ne_of_lt (Nat.lt_succ_self _)
  have below : ∀ b, b < s2.heap.objs.size → b ≠ Hp2.objs.size ∧ b ≠ s2.heap.objs.size := fun b hb => ⟨by rw [hC]; exact Nat.ne_of_lt (Nat.lt_succ_of_lt hb), Nat.ne_of_lt hb⟩
  have old : ∀ b o, s2.heap.get? b = some o → h₁.get? b = some o := fun b o e => hsb₁.extBut b o (below b (Heap.lt_size e)).1 (Heap.get?_push_of_some _ (hHp ▸ Heap.get?_push_of_some _ e))
  have hacc : h₁.PlainList s2.heap.objs.size #[] := ⟨_, hsb₁.extBut _ _ hDC (Heap.get?_push_of_some _ (hHp ▸ Heap.get?_push_size _ rfl))⟩
  -- the block
  generalize hY : cxC X xs Nb scope cl Hp2.objs.size s2 H2 fp = Y
  have Yprog : Y.prog = X.prog := by rw [← hY]; rfl
  have fpLt : ∀ b ∈ fp, b < s2.heap.objs.size := fun b hb => by
    obtain ⟨o, e, _⟩ := T.obj _ _ st2 b hb
    exact Heap.lt_size e
  have cellLt : ∀ y c, cl.lookup y = some c → c < s2.heap.objs.size := fun y c hc => by
    obtain ⟨v, q⟩ := I2.cell y c (cl1 y c hc)
    exact q.lt
  have frSub : ∀ b ∈ frs X.stack, b < s2.heap.objs.size := fun b hb => by
    rcases List.mem_cons.mp (I2.stkSub b hb) with z | z
    · rw [z]; exact I2.lt
    · by_cases hlt : b < s2.heap.objs.size
      · exact hlt
      · exact absurd z (I2.nofs (Nat.le_of_not_lt hlt))
  have ok : (cxC X xs Nb scope cl Hp2.objs.size s2 H2 fp).Ok := by
    refine ⟨I2.ok.mod, hkind, I2.ok.glob, I2.ok.blt, (by show s2.heap.objs.size ≤ Hp2.objs.size; omega), fun y z c h1 h2 => I2.ok.inj y z c (cl1 y c h1) (cl1 z c h2), fun y hy => ?_, fun y c hf _ => absurd hf (by intro z; cases z), I2.ok.hd, I2.ok.frames, .inl rfl, fun b hb => ⟨?_, fun y c h1 h2 => ?_⟩, I2.bs, Nat.le_trans I2.ok.bsz I2.sz, fun b o e hb => ?_, fun b hb hm => ?_, I2.stack, I2.stkFree⟩
    · have hy : (scope.names.map fun (n, k) => if (k == NameKind.free && X.env.scope.kind == .function && X.env.kindOf n == some .cell) then (n, NameKind.cell) else (n, k)).lookup y = some .cell ∨ (scope.names.map fun (n, k) => if (k == NameKind.free && X.env.scope.kind == .function && X.env.kindOf n == some .cell) then (n, NameKind.cell) else (n, k)).lookup y = some .free := hy
      have q : scope.names.lookup y = some .free := by
        rcases hy with z | z
        · exact (relabel_kind hcell z (.inl rfl)).1
        · exact (relabel_kind hcell z (.inr rfl)).1
      exact Option.isSome_iff_exists.mp (cl2 y (PySem.mem_of_lookup q))
    · exact (below b (fpLt b hb)).1
    · exact (f2 b hb).2.2.2.2.1 y c (cl1 y c h1) h2
    · rcases (f2 b hb).2.2.2.1 with z | z
      · exact I2.ok.noex b o e z
      · exact absurd (Nat.lt_of_lt_of_le (Heap.lt_size e) (Nat.le_trans I2.ok.bsz z)) (Nat.lt_irrefl _)
    · rcases List.mem_cons.mp (I2.stkSub b hm) with z | z
      · exact (f2 b hb).2.1 z
      · exact (f2 b hb).2.2.1 z
  have fpY : ∀ {H' : Hp} {pl : List (Addr × Obj)}, (∀ b ∈ fp, H' b = none) → (∀ p ∈ pl, p.1 = s2.heap.objs.size) → ∀ b ∈ fp, FpOk Y pl H' b := fun {H' pl} hn hp b hb => by
    rw [← hY]
    refine ⟨hn b hb, (below b (fpLt b hb)).1, fun hm => ?_, .inl hb, fun y c h1 h2 => (f2 b hb).2.2.2.2.1 y c (cl1 y c h1) h2, fun p hm z => ?_⟩
    · rcases List.mem_cons.mp (I2.stkSub b hm) with z | z
      · exact (f2 b hb).2.1 z
      · exact (f2 b hb).2.2.1 z
    · have hm : p ∈ pl := hm
      rw [hp p hm] at z
      exact (below b (fpLt b hb)).2 z.symm
  have HD : H2 s2.heap.objs.size = none := I2.hok.fresh (Nat.le_refl _)
  have HC : H2 Hp2.objs.size = none := I2.hok.fresh (by omega)
  obtain ⟨m2, hns2, hloc2⟩ := I2.loc
  have IY : ∀ tk, Inv (cxC X xs Nb scope cl Hp2.objs.size s2 H2 fp) [] (List.replicate xs.length none ++ σ) H2 { s2 with heap := h₁, toks := tk } := fun tk => by
    refine ⟨ok, rfl, I2.bare, Un.kept old, ⟨_, hns₁, fun i y v h1 h2 h3 => ?_⟩, fun y c h1 => ?_, HC, fun y c h1 => I2.freeC y c (cl1 y c h1), fun p hp => absurd (show p ∈ ([] : List (Addr × Obj)) from hp) (by simp), I2.hok.kept old, (by show (List.replicate xs.length (none : Option V) ++ σ).length = (xs ++ Nb).length; rw [List.length_append, List.length_append, List.length_replicate, hlen, I2.len])⟩
    · have h1 : (xs ++ Nb)[i]? = some y := h1
      by_cases hik : i < xs.length
      · rw [List.getElem?_append_left (by rw [List.length_replicate]; exact hik), List.getElem?_replicate, if_pos hik] at h2
        cases h2
      · rw [List.getElem?_append_right (by omega)] at h1
        rw [List.getElem?_append_right (by rw [List.length_replicate]; omega), List.length_replicate] at h2
        generalize i - xs.length = i at h1 h2
        have h3 : Vis (relabel scope X.env) y := h3
        have key : ∀ k, (k = NameKind.cell ∨ k = NameKind.free) → (relabel scope X.env).names.lookup y = some k → ∃ u, RelV v u ∧ Look (compEnvC scope cl Hp2.objs.size X.env) h₁ (fun x => ([] : List (Str × Value)).reverse.lookup x) y u := fun k hk hl => by
          obtain ⟨q1, _⟩ := relabel_kind hcell hl hk
          have q2 := hfree (y, .free) (PySem.mem_of_lookup q1) rfl
          have h1' : X.N[i]? = some y := by
            have hi' : i < X.N.length := by rw [← hlen]; exact (List.getElem?_eq_some_iff.mp h1).1
            have hz : (Nb.zip X.N)[i]? = some (y, X.N[i]) := by rw [List.getElem?_zip_eq_some]; exact ⟨h1, List.getElem?_eq_getElem hi'⟩
            rcases hNb _ (List.mem_of_getElem? hz) with z | z
            · have z : y = X.N[i] := z
              rw [z]; exact List.getElem?_eq_getElem hi'
            · have z : scope.names.lookup y = none := z
              rw [q1] at z; cases z
          obtain ⟨u, r, l⟩ := hloc2 i y v h1' h2 (.inr (.inl q2))
          refine ⟨u, r, .inr ⟨?_, ?_⟩⟩
          · rcases hk with rfl | rfl
            · exact .inl hl
            · exact .inr hl
          · rcases l with ⟨k1, _⟩ | ⟨_, c, e1, z⟩
            · rw [q2] at k1; cases k1
            · obtain ⟨c', e2⟩ := Option.isSome_iff_exists.mp (cl2 y (PySem.mem_of_lookup q1))
              have e3 := cl1 y c' e2
              rw [e1] at e3
              cases e3
              obtain ⟨o, ho, hd⟩ := z
              exact ⟨c, e2, o, old c o ho, hd⟩
        rcases h3 with h3 | h3 | h3
        · -- a local of the block is x alone: no value is known of it
          exfalso
          exact hxN y (List.mem_of_getElem? h1) (relabel_local h3)
        · exact key _ (.inl rfl) h3
        · exact key _ (.inr rfl) h3
    · obtain ⟨v, o, ho, hd⟩ := I2.cell y c (cl1 y c h1)
      exact ⟨v, o, old c o ho, hd⟩
  have noErr : ∀ {α : Type} {m : Sem α} {G : α → Shared → Prop} {E' : Value → Shared → Prop} {s' : Shared}, wpAny (model X.prog X.w) X.A m G (fun _ _ => False) s' → wpAny (model X.prog X.w) X.A m G E' s' := fun h => wpAny_mono h (fun _ _ q => q) fun _ _ q => q.elim
  have loop : ∀ (tk : Nat) (R : Result → Shared → Prop), R = compPost (model X.prog X.w) X.A X.xe use QQ (.ref s2.heap.objs.size) Hp2.objs.size →
      codeAny (model X.prog X.w) X.A (.compLoop (.ListComp elt [⟨tg, iter, ifs, 0⟩] scope pos) 0 (.ref it) (.ref s2.heap.objs.size) (compEnvC scope cl Hp2.objs.size X.env)) R { s2 with heap := h₁, toks := tk } := by
    rintro tk R rfl
    refine loop_turns rfl (fun n s' => ∃ i σv H' ys its, σv.length = xs.length ∧ Inv Y [] (σv ++ σ) H' s' ∧ tn i s'.heap ∧ (∀ b ∈ fp, H' b = none) ∧ Vals ys its ∧ ys.length ≤ sizeLine ∧ s'.heap.PlainList s2.heap.objs.size its.toArray ∧ H' s2.heap.objs.size = none ∧ W i n ys H') ?_ m0
      ⟨0, List.replicate xs.length none, H2, [], [], List.length_replicate, hY ▸ IY tk, T.keep _ _ _ st2 fun b _ o e => old b o e, fun b hb => (f2 b hb).1, .nil, Nat.zero_le _, hacc, HD, w0⟩
    rintro n s3 ⟨i, σv, H3, ys, its, lv, I3, st3, fr3, rv, hz, ⟨nn, pl3⟩, HD3, w3⟩
    have I3p : Inv Y [(s2.heap.objs.size, { cls := .type "list", data := .seq its.toArray nn })] (σv ++ σ) H3 s3 := I3.pins_of fun p hp => by
      rw [List.mem_singleton] at hp
      subst hp
      refine ⟨pl3, HD3, ?_, fun hm => ?_, fun v z => by cases z⟩
      · rw [← hY]; exact hDC
      · rw [← hY] at hm
        exact absurd (frSub _ hm) (Nat.lt_irrefl _)
    have pinD : ∀ p ∈ [((s2.heap.objs.size : Addr), ({ cls := .type "list", data := .seq its.toArray nn } : Obj))], p.1 = s2.heap.objs.size := fun p hp => by
      rw [List.mem_singleton] at hp
      rw [hp]
    subst hY
    rcases turn i n ys H3 w3 with ⟨stop, qn⟩ | ⟨go, hlt, NN, hNN, step⟩
    · refine noErr (thn (T.done (cxC X xs Nb scope cl Hp2.objs.size s2 H2 fp) rfl rfl rfl hc i _ s3 _ H3 (fun _ _ => False) I3p (fpY fr3 pinD) st3 stop) fun r s4 ⟨hr, I4⟩ => ?_)
      subst hr
      obtain ⟨m4, hns4, _⟩ := I4.loc
      refine post s2 s4 H2 (upd H3 s2.heap.objs.size (.lst ys)) Hp2.objs.size s2.heap.objs.size m4 I2 (by omega) hns4 (by rw [upd_ne (Ne.symm hDC)]; exact I4.free) (fun h' sb => ?_) (qn _ HD3)
      have pl4 := (I4.pin _ (List.mem_append_right _ List.mem_cons_self)).1
      have up : ∀ b o, b ≠ Hp2.objs.size → s4.heap.get? b = some o → h'.get? b = some o := fun b o hb e => sb.extBut b o hb e
      have base := I4.base
      have HC4 : H3 Hp2.objs.size = none := I4.free
      have neC : ∀ b o, s2.heap.get? b = some o → b ≠ Hp2.objs.size := fun b o e => (below b (Heap.lt_size e)).1
      have neD : ∀ b o, s2.heap.get? b = some o → b ≠ s2.heap.objs.size := fun b o e => (below b (Heap.lt_size e)).2
      have hokN : HOk X.prog X.w (upd H3 s2.heap.objs.size (.lst ys)) h' := fun b u e => by
        by_cases hb : b = s2.heap.objs.size
        · subst hb
          rw [upd_same] at e
          cases e
          exact ⟨hz, its, nn, rv, up _ _ hDC pl4⟩
        · rw [upd_ne hb] at e
          refine (I4.hok b u e).stay (fun c v hc q => up c v ?_ q) (fun c q => by rw [upd_ne (ne_of_none q HD3)]; exact q) fun c xs q => by rw [upd_ne (ne_of_none q HD3)]; exact q
          rcases hc with z | z
          · rw [z]; exact ne_of_none e HC4
          · exact ne_of_none z HC4
      refine I2.call' (s' := { s4 with heap := h' }) (ch := fp) I4.os ⟨fun b o e n hb hx' => up b o (neC b o e) (base.keep b o e n hb hx'), fun b o e n hb hx' => ?_, fun b o e n hx' => ?_, fun b o e hx' => ?_, fun b xs e => ?_, fun b o u e => ?_, fun b ps e => ?_⟩ hokN I4.bare (fun b hb => ?_)
      · obtain ⟨sl, q⟩ := base.slot b o e n hb hx'
        exact ⟨sl, up b _ (neC b o e) q⟩
      · rw [upd_ne (neD b o e)]
        exact base.free b o e n hx'
      · obtain ⟨o', q⟩ := base.there b o e hx'
        exact ⟨o', up b o' (neC b o e) q⟩
      · have q := base.tups b xs e
        rw [upd_ne (ne_of_none q HD3)]; exact q
      · have q := base.frzs b o u e
        rw [upd_ne (ne_of_none q HD3)]; exact q
      · obtain ⟨more, q⟩ := base.tbls b ps e
        exact ⟨more, by rw [upd_ne (ne_of_none q HD3)]; exact q⟩
      · obtain ⟨_, g1, _, g3, g4, g5⟩ := f2 b hb
        exact ⟨g3, g1, g4, g5⟩
    · refine noErr (thn (T.item (cxC X xs Nb scope cl Hp2.objs.size s2 H2 fp) rfl rfl rfl hc i _ s3 _ H3 (fun _ _ => False) I3p (fpY fr3 pinD) st3 go) fun r s4 ⟨u, hr, h4⟩ => ?_)
      subst hr
      refine noErr (thn h4 fun _ s5 ⟨v, H5, I5, r5, y5, st5, fr5⟩ => ?_)
      have I5' := I5.pinned (fpY fr5 pinD) (T.obj _ _ st5)
      have stp := step v H5 σv lv y5
      refine noErr (thn (hg cl Hp2.objs.size s2 H2 fp _ s5 _ H5 v u _ I5' r5 stp) fun _ s6 ⟨σ6, H6, I6, ⟨pre', e6, l6⟩, stp⟩ => ?_)
      subst e6
      have again : ∀ {s7 s8 : Shared} {H7 : Hp} {zs : List V} {ws : List Value} {m' : Nat}, Inv (cxC X xs Nb scope cl Hp2.objs.size s2 H2 fp) ([((s2.heap.objs.size : Addr), ({ cls := .type "list", data := .seq its.toArray nn } : Obj))] ++ pinsAt fp s5.heap) (pre' ++ σ) H7 s7 →
          (∃ h', s8 = { s7 with heap := h' } ∧ (∀ b o, b ≠ s2.heap.objs.size → s7.heap.get? b = some o → h'.get? b = some o) ∧ h'.PlainList s2.heap.objs.size ws.toArray) → Vals zs ws → zs.length ≤ sizeLine → m' < n → W (i + 1) m' zs H7 →
          ∃ m, m < n ∧ ∃ i σv H' ys its, σv.length = xs.length ∧ Inv (cxC X xs Nb scope cl Hp2.objs.size s2 H2 fp) [] (σv ++ σ) H' s8 ∧ tn i s8.heap ∧ (∀ b ∈ fp, H' b = none) ∧ Vals ys its ∧ ys.length ≤ sizeLine ∧ s8.heap.PlainList s2.heap.objs.size its.toArray ∧ H' s2.heap.objs.size = none ∧ W i m ys H' := by
        rintro s7 s8 H7 zs ws m' I7 ⟨h', rfl, up, plw⟩ rz hzz hm w7
        have HD7 : H7 s2.heap.objs.size = none := (I7.pin _ (List.mem_append_right _ (List.mem_append_left _ List.mem_cons_self))).2.1
        have fr7 : ∀ b ∈ fp, H7 b = none := fun b hb => by
          obtain ⟨o, e, d⟩ := T.obj _ _ st5 b hb
          exact (I7.pin (b, o) (List.mem_append_right _ (List.mem_append_right _ (mem_pinsAt hb e)))).2.1
        have I7' : Inv (cxC X xs Nb scope cl Hp2.objs.size s2 H2 fp) [] (pre' ++ σ) H7 s7 := I7.pins_of fun p hp => absurd hp (by simp)
        refine ⟨m', hm, i + 1, pre', H7, zs, ws, l6, ?_, ?_, fr7, rz, hzz, plw, HD7, w7⟩
        · have := I7'.turned (it := s2.heap.objs.size) (h' := h') (t' := s7.toks) up HD7 hDC (.inr (Nat.le_refl _)) (fun y c h1 h2 => absurd (cellLt y c h1) (by rw [h2]; exact Nat.lt_irrefl _)) (fun p hp => absurd (show p ∈ ([] : List (Addr × Obj)) from hp) (by simp))
          exact this
        · refine T.keep _ _ _ st5 fun b hb o e => up b o (below b (fpLt b hb)).2 ?_
          exact (I7.pin (b, o) (List.mem_append_right _ (List.mem_append_right _ (mem_pinsAt hb e)))).1
      refine noErr (thn (ht cl Hp2.objs.size s2 H2 fp _ s6 _ H6 _ I6 stp) fun okb s7 ⟨H7, I7, q7⟩ => ?_)
      have pl7 := (I7.pin _ (List.mem_append_right _ (List.mem_append_left _ List.mem_cons_self))).1
      cases okb with
      | false =>
        rw [if_neg Bool.false_ne_true] at q7 ⊢
        obtain ⟨m', hm, w7⟩ := hNN _ _ q7
        exact again I7 ⟨s7.heap, rfl, fun _ _ _ e => e, nn, pl7⟩ rv hz hm w7
      | true =>
        rw [if_pos rfl] at q7 ⊢
        refine noErr (thn (he cl Hp2.objs.size s2 H2 fp _ s7 _ H7 _ I7 q7) fun w' s8 ⟨y, H8, I8, r8, q8⟩ => ?_)
        obtain ⟨m', hm, w8⟩ := hNN _ _ q8
        have pl8 := (I8.pin _ (List.mem_append_right _ (List.mem_append_left _ List.mem_cons_self))).1
        refine wpAny_list_append_plain (hsz := by have := rv.length; simp only [List.size_toArray]; omega) ⟨nn, pl8⟩ fun h9 pl9 sb9 => ?_
        refine again I8 ⟨h9, rfl, fun b o hb e => sb9.extBut b o hb e, ?_⟩ (rv.append (.cons r8 .nil)) (by rw [List.length_append, List.length_singleton]; omega) hm w8
        have e9 : its.toArray.push w' = (its ++ [w']).toArray := by simp
        rw [← e9]
        exact pl9
  refine codeAny_compStart_list (loop _ _ rfl) (noErr (T.self _ 0 _ _ _ (T.keep _ _ _ st2 fun b _ o e => old b o e) (loop _ _ rfl)))
theorem pe_compG {elt iter tg : Expr} {xs Nb : List Str} {ifs : List Expr} {scope : Scope} {pos : Pos} {wi : TI} {g : TG} {tt : TT} {te : TE}
    (hc : X.calm = true) (hi : PI X tg iter wi) (hlen : Nb.length = X.N.length) (hNb : ∀ p ∈ Nb.zip X.N, p.1 = p.2 ∨ scope.names.lookup p.1 = none) (hxN : ∀ y ∈ Nb, scope.names.lookup y ≠ some .local)
    (hg : InB X xs Nb scope fun Y => PG Y tg g) (ht : InB X xs Nb scope fun Y => PIf Y ifs tt) (he : InB X xs Nb scope fun Y => PE Y elt te)
    (hcell : ∀ y ∈ scope.names, y.2 ≠ .cell) (hkind : scope.kind = .function) (hnames : ∀ y ∈ scope.names, y.2 = .local → scope.names.lookup y.1 = some .local)
    (hfree : ∀ y ∈ scope.names, y.2 = .free → X.env.kindOf y.1 = some .cell)
    (hs : ∀ x, foldedSetIterable iter X.env x = pure x := by intro _; rfl) :
    PE X (.ListComp elt [⟨tg, iter, ifs, 0⟩] scope pos) (tCompG xs.length wi g tt te) := by
  intro pins s σ H Q I h
  rw [eval_ListComp]
  exact comp_core (use := none) (QQ := EP X pins σ Q) hc hi hlen hNb hxN hg ht he hcell hkind hnames hfree hs I h fun s2 s4 H2 H4 C D m4 _ _ hn _ IX q => ⟨m4, hn, fun h' sb => ⟨.ref D, H4, IX h' sb, rfl, q⟩⟩
/-- name = [ .. for .. ]: the name is stored ahead of the block's end -/
theorem ps_compG {elt iter tg : Expr} {xs Nb : List Str} {ifs : List Expr} {scope : Scope} {pos spos py : Pos} {wi : TI} {g g2 : TG} {tt : TT} {te : TE} {y : Str}
    (hg2 : PG X (.Name y py) g2) (hsw : swapsWith (.ListComp elt [⟨tg, iter, ifs, 0⟩] scope pos) (some (.Name y py)) spos.line X.env = pure true)
    (hc : X.calm = true) (hi : PI X tg iter wi) (hlen : Nb.length = X.N.length) (hNb : ∀ p ∈ Nb.zip X.N, p.1 = p.2 ∨ scope.names.lookup p.1 = none) (hxN : ∀ y ∈ Nb, scope.names.lookup y ≠ some .local)
    (hg : InB X xs Nb scope fun Y => PG Y tg g) (ht : InB X xs Nb scope fun Y => PIf Y ifs tt) (he : InB X xs Nb scope fun Y => PE Y elt te)
    (hcell : ∀ y ∈ scope.names, y.2 ≠ .cell) (hkind : scope.kind = .function) (hnames : ∀ y ∈ scope.names, y.2 = .local → scope.names.lookup y.1 = some .local)
    (hfree : ∀ y ∈ scope.names, y.2 = .free → X.env.kindOf y.1 = some .cell)
    (hs : ∀ x, foldedSetIterable iter X.env x = pure x := by intro _; rfl) :
    PS X (.Assign [.Name y py] (.ListComp elt [⟨tg, iter, ifs, 0⟩] scope pos) spos) (tAsg (tCompG xs.length wi g tt te) g2) := by
  intro pins s σ H D I h
  rw [exec_Assign_Name_used _ _ _ _ hsw]
  refine wpAny_bind (wpAny_standAt (wpAny_bind ?_))
  show wpAny (model X.prog X.w) X.A (comprehension (.ListComp elt [⟨tg, iter, ifs, 0⟩] scope pos) scope X.env _ (newList []) false (eval iter X.env) (some (assign (.Name y py) X.env)) >>= fun _ => pure ()) _ _ s
  refine wpAny_bind (wpAny_mono (comp_core (use := some (assign (.Name y py) X.env)) (QQ := fun _ s' => SP X pins D .next s') hc hi hlen hNb hxN hg ht he hcell hkind hnames hfree hs I h ?_) (fun _ s' hq => wpAny_pure (wpAny_pure hq)) fun _ _ e => e)
  intro s2 s4 H2 H4 C R m4 I2 hC hn HC IX q
  have I4 : Inv X pins σ H4 s4 := IX s4.heap (Heap.SameBut.refl _ _)
  obtain ⟨o, es, ep, ho, hd, hn'⟩ := id hn
  have hLC : C ≠ X.env.locals := fun z => absurd (Nat.lt_of_lt_of_le I2.lt hC) (by rw [z]; exact Nat.lt_irrefl _)
  have hfsC : C ∉ X.fs := I2.nofs hC
  have I4p : Inv X ((C, o) :: pins) σ H4 s4 := I4.pins_of fun p hp => by
    rcases List.mem_cons.mp hp with rfl | z
    · exact ⟨ho, HC, hLC, hfsC, fun v z => by rw [hd] at z; cases z⟩
    · exact I4.pin p (List.mem_append_right _ z)
  show wpAny _ X.A (assign (.Name y py) X.env (.ref R)) _ _ s4
  refine thn (hg2 _ s4 σ H4 (.ref R) (.ref R) _ I4p rfl q) fun _ s5 ⟨σ5, H5, I5, q5⟩ => ?_
  have pC := I5.pin (C, o) (List.mem_append_right _ List.mem_cons_self)
  refine ⟨m4, ⟨o, es, ep, pC.1, hd, hn'⟩, fun h' sb => ⟨σ5, H5, ?_, q5⟩⟩
  have I6 : Inv X pins σ5 H5 s5 := I5.pins_of fun p hp => I5.pin p (List.mem_append_right _ (List.mem_cons_of_mem _ hp))
  exact I6.turned (it := C) (h' := h') (t' := s5.toks) (fun b o hb e => sb.extBut b o hb e) pC.2.1 hLC (.inr (Nat.le_trans I2.sz hC)) (fun y c e z => by
      obtain ⟨v, qq⟩ := I2.cell y c e
      exact absurd (Nat.lt_of_lt_of_le qq.lt hC) (by rw [z]; exact Nat.lt_irrefl _)) (fun p hp z => by
      exact absurd (Nat.lt_of_lt_of_le (Heap.lt_size (I2.pin p hp).1) hC) (by rw [z]; exact Nat.lt_irrefl _))
/-- over a list, a tuple, a range: by a word -/
theorem compL {K : PySem.W.Frag} {k : Nat} {a : Addr} {xs : List V} {g : TG} {tt : TT} {te : TE} {Q : VK} {σ : St} {H : Hp} (Pv : Nat → List V → Hp → Prop) (h0 : Pv 0 [] H) (hb : xs.length ≤ 1000) (hz : ∀ i ys H, Pv i ys H → ys.length ≤ i) (hl : ∀ i ys H, i ≤ xs.length → Pv i ys H → SqL K H a xs)
    (hs : ∀ i x ys H (pre : St), pre.length = k → xs[i]? = some x → Pv i ys H → g x (pre ++ σ) H fun σ' H2 => (∃ pre' : St, σ' = pre' ++ σ ∧ pre'.length = k) ∧ tt σ' H2 fun ok H3 => if ok = true then te σ' H3 fun y H4 => Pv (i + 1) (ys ++ [y]) H4 else Pv (i + 1) ys H3) (hd : ∀ ys H, Pv xs.length ys H → ∀ D, H D = none → Q (.ref D) (upd H D (.lst ys))) : CGo k (Itl K a) g tt te Q σ H := by
  refine ⟨fun i m ys H => m = xs.length - i ∧ i ≤ xs.length ∧ Pv i ys H, ⟨xs.length, by simp, Nat.zero_le _, h0⟩, ?_⟩
  rintro i m ys H ⟨rfl, hi, p⟩
  have q := hl i ys H hi p
  by_cases hlt : i < xs.length
  · refine .inr ⟨⟨xs, xs[i], q, by simp [hlt]⟩, Nat.lt_of_le_of_lt (hz i ys H p) (small1000 (by omega)), Pv (i + 1), fun zs H' p' => ⟨xs.length - (i + 1), by omega, rfl, hlt, p'⟩, fun x H' pre hp y => ?_⟩
    obtain ⟨e, y⟩ := y
    subst e
    exact hs i x ys _ pre hp (y xs q) p
  · have e : i = xs.length := by omega
    subst e
    exact .inl ⟨⟨xs, q, Nat.le_refl _⟩, hd ys H p⟩
theorem compT {K : PySem.W.Frag} {k : Nat} {a : Addr} {xs : List V} {g : TG} {tt : TT} {te : TE} {Q : VK} {σ : St} {H : Hp} (Pv : Nat → List V → Hp → Prop) (h0 : Pv 0 [] H) (hb : xs.length ≤ 1000) (hz : ∀ i ys H, Pv i ys H → ys.length ≤ i) (hl : ∀ i ys H, i ≤ xs.length → Pv i ys H → SqT K H a xs)
    (hs : ∀ i x ys H (pre : St), pre.length = k → xs[i]? = some x → Pv i ys H → g x (pre ++ σ) H fun σ' H2 => (∃ pre' : St, σ' = pre' ++ σ ∧ pre'.length = k) ∧ tt σ' H2 fun ok H3 => if ok = true then te σ' H3 fun y H4 => Pv (i + 1) (ys ++ [y]) H4 else Pv (i + 1) ys H3) (hd : ∀ ys H, Pv xs.length ys H → ∀ D, H D = none → Q (.ref D) (upd H D (.lst ys))) : CGo k (Itt K a) g tt te Q σ H := by
  refine ⟨fun i m ys H => m = xs.length - i ∧ i ≤ xs.length ∧ Pv i ys H, ⟨xs.length, by simp, Nat.zero_le _, h0⟩, ?_⟩
  rintro i m ys H ⟨rfl, hi, p⟩
  have q := hl i ys H hi p
  by_cases hlt : i < xs.length
  · refine .inr ⟨⟨xs, xs[i], q, by simp [hlt]⟩, Nat.lt_of_le_of_lt (hz i ys H p) (small1000 (by omega)), Pv (i + 1), fun zs H' p' => ⟨xs.length - (i + 1), by omega, rfl, hlt, p'⟩, fun x H' pre hp y => ?_⟩
    obtain ⟨e, y⟩ := y
    subst e
    exact hs i x ys _ pre hp (y xs q) p
  · have e : i = xs.length := by omega
    subst e
    exact .inl ⟨⟨xs, q, Nat.le_refl _⟩, hd ys H p⟩
theorem compR {k : Nat} {lo : Int} {n : Nat} {g : TG} {tt : TT} {te : TE} {Q : VK} {σ : St} {H : Hp} (Pv : Nat → List V → Hp → Prop) (h0 : Pv 0 [] H) (hb : n ≤ 1000) (hz : ∀ i ys H, Pv i ys H → ys.length ≤ i)
    (hs : ∀ (i : Nat) ys H (pre : St), pre.length = k → i < n → Pv i ys H → g (.int (lo + i)) (pre ++ σ) H fun σ' H2 => (∃ pre' : St, σ' = pre' ++ σ ∧ pre'.length = k) ∧ tt σ' H2 fun ok H3 => if ok = true then te σ' H3 fun y H4 => Pv (i + 1) (ys ++ [y]) H4 else Pv (i + 1) ys H3) (hd : ∀ ys H, Pv n ys H → ∀ D, H D = none → Q (.ref D) (upd H D (.lst ys))) : CGo k (Itr lo n) g tt te Q σ H := by
  refine ⟨fun i m ys H => m = n - i ∧ i ≤ n ∧ Pv i ys H, ⟨n, by simp, Nat.zero_le _, h0⟩, ?_⟩
  rintro i m ys H ⟨rfl, hi, p⟩
  by_cases hlt : i < n
  · refine .inr ⟨hlt, Nat.lt_of_le_of_lt (hz i ys H p) (small1000 (by omega)), Pv (i + 1), fun zs H' p' => ⟨n - (i + 1), by omega, rfl, hlt, p'⟩, fun x H' pre hp y => ?_⟩
    obtain ⟨e, y⟩ := y
    subst e y
    exact hs i ys _ pre hp hlt p
  · have e : i = n := by omega
    subst e
    exact .inl ⟨Nat.le_refl _, hd ys H p⟩
end
end L2

set_option Elab.async false
set_option linter.all false
set_option maxRecDepth 100000
set_option maxHeartbeats 4000000
namespace L2
open PySem PySem.Spec PyProof.Rows
section
variable {X : Cx}
theorem pg_tupK {K : PySem.W.Frag} {es : List Expr} {k : Nat} {t : TGs} {n : Nat} {pos : Pos} (hc : X.calm = true) (h : PGs X es t) (hK : X.K = K := by rfl)
    (hn : (assignEach es X.env).length = n := by rfl) (hst : (assignEach es X.env).findIdx? (·.1) = none := by rfl) : PG X (.Tuple es k pos) (gTup K n t) := by
  subst hK; exact pg_tup hc h hn hst
end
/-! data of weighings -/
def dT (ns : List Int) : PyData := .tuple (ns.map .int)
def dE (e : Int × List Int) : PyData := .tuple [.int e.1, dT e.2]
def dL (L : List (Int × List Int)) : PyData := .list (L.map dE)
theorem eqvAll_ints : ∀ ns ms : List Int, PyData.eqvAll (ns.map .int) (ms.map .int) = decide (ns = ms)
  | [], [] => rfl
  | [], _ :: _ => rfl
  | _ :: _, [] => rfl
  | n :: ns, m :: ms => by
    show (PyData.eqv (.int n) (.int m) && PyData.eqvAll (ns.map .int) (ms.map .int)) = _
    rw [eqvAll_ints ns ms]
    show ((n == m) && _) = _
    by_cases h : n = m
    · subst h; by_cases h2 : ns = ms <;> simp [h2]
    · simp [h]
theorem eqv_dT (ns ms : List Int) : PyData.eqv (dT ns) (dT ms) = decide (ns = ms) := eqvAll_ints ns ms
theorem eqv_dE (a b : Int × List Int) : PyData.eqv (dE a) (dE b) = decide (a = b) := by
  show ((a.1 == b.1) && (PyData.eqv (dT a.2) (dT b.2) && true)) = _
  rw [eqv_dT]
  obtain ⟨a1, a2⟩ := a
  obtain ⟨b1, b2⟩ := b
  by_cases h : a1 = b1
  · subst h; by_cases h2 : a2 = b2 <;> simp [h2]
  · simp [h]
theorem eqvAll_dE : ∀ L M : List (Int × List Int), PyData.eqvAll (L.map dE) (M.map dE) = decide (L = M)
  | [], [] => rfl
  | [], _ :: _ => rfl
  | _ :: _, [] => rfl
  | a :: L, b :: M => by
    show (PyData.eqv (dE a) (dE b) && PyData.eqvAll (L.map dE) (M.map dE)) = _
    rw [eqvAll_dE L M, eqv_dE]
    by_cases h : a = b
    · subst h; by_cases h2 : L = M <;> simp [h2]
    · simp [h]
theorem eqv_dL (L M : List (Int × List Int)) : PyData.eqv (dL L) (dL M) = decide (L = M) := eqvAll_dE L M
theorem lay_ints : ∀ ns : List Int, PyData.canLayAll0 (ns.map .int) = true
  | [] => rfl
  | _ :: ns => by show (true && _) = true; rw [lay_ints ns]; rfl
theorem lay_dT (ns : List Int) : (dT ns).canLay0 = true := lay_ints ns
theorem lay_dE (e : Int × List Int) : (dE e).canLay0 = true := by show (true && ((dT e.2).canLay0 && true)) = true; rw [lay_dT]; rfl
theorem lay_dEs : ∀ L : List (Int × List Int), PyData.canLayAll0 (L.map dE) = true
  | [] => rfl
  | e :: L => by show ((dE e).canLay0 && _) = true; rw [lay_dE, lay_dEs L]; rfl
theorem lay_dL (L : List (Int × List Int)) : (dL L).canLay0 = true := lay_dEs L
theorem dep_ints : ∀ ns : List Int, PyData.depthAll (ns.map .int) = 0
  | [] => rfl
  | _ :: ns => by show max 0 _ = 0; rw [dep_ints ns]; rfl
theorem dep_dT (ns : List Int) : (dT ns).depth = 1 := by show PyData.depthAll _ + 1 = 1; rw [dep_ints]
theorem dep_dE (e : Int × List Int) : (dE e).depth = 2 := by show max 0 (max (dT e.2).depth 0) + 1 = 2; rw [dep_dT]; rfl
theorem dep_dEs : ∀ L : List (Int × List Int), PyData.depthAll (L.map dE) ≤ 2
  | [] => Nat.zero_le _
  | e :: L => by show max (dE e).depth _ ≤ 2; rw [dep_dE]; have := dep_dEs L; omega
theorem dep_dL (L : List (Int × List Int)) : (dL L).depth ≤ 60 := by show PyData.depthAll _ + 1 ≤ 60; have := dep_dEs L; omega
/-- tuples stay -/
def Tups (H H' : Hp) : Prop := ∀ b ys, H b = some (.tup ys) → H' b = some (.tup ys)
theorem Tups.refl (H : Hp) : Tups H H := fun _ _ h => h
theorem Tups.trans {H H1 H2 : Hp} (a : Tups H H1) (b : Tups H1 H2) : Tups H H2 := fun c y h => b c y (a c y h)
theorem Tups.new {H H1 : Hp} {p : Addr} {o : HO} (a : Tups H H1) (h : H1 p = none) : Tups H (upd H1 p o) := fun c y e => by
  have := a c y e
  rw [upd_ne (ne_of_none this h)]; exact this
theorem Tups.lst {H H1 : Hp} {p : Addr} {xs ys : List V} (a : Tups H H1) (h : H1 p = some (.lst xs)) : Tups H (upd H1 p (.lst ys)) := fun c y e => by
  have := a c y e
  have hn : c ≠ p := fun z => by rw [z, h] at this; cases this
  rw [upd_ne hn]; exact this
theorem Same.tups {H H' : Hp} (s : Same H H') : Tups H H' := fun b ys e => s b _ e
/-- one tuple (many, weights) -/
def Sh (H : Hp) (x : V) (e : Int × List Int) : Prop := ∃ p w, x = .ref p ∧ H p = some (.tup [.int e.1, .ref w]) ∧ H w = some (.tup (e.2.map V.int))
def Wg (H : Hp) (xs : List V) (L : List (Int × List Int)) : Prop := xs.length = L.length ∧ ∀ (i : Nat) (x : V) (e : Int × List Int), xs[i]? = some x → L[i]? = some e → Sh H x e
theorem Sh.up {H H' : Hp} {x : V} {e : Int × List Int} (h : Sh H x e) (t : Tups H H') : Sh H' x e := by
  obtain ⟨p, w, rfl, h1, h2⟩ := h
  exact ⟨p, w, rfl, t _ _ h1, t _ _ h2⟩
theorem Wg.up {H H' : Hp} {xs : List V} {L : List (Int × List Int)} (h : Wg H xs L) (t : Tups H H') : Wg H' xs L := ⟨h.1, fun i x e h1 h2 => (h.2 i x e h1 h2).up t⟩
theorem Wg.nil (H : Hp) : Wg H [] [] := ⟨rfl, fun i x e h _ => by cases h⟩
theorem Wg.snoc {H : Hp} {xs : List V} {L : List (Int × List Int)} {x : V} {e : Int × List Int} (h : Wg H xs L) (s : Sh H x e) : Wg H (xs ++ [x]) (L ++ [e]) := by
  refine ⟨by simp [h.1], fun i y d h1 h2 => ?_⟩
  by_cases hi : i < xs.length
  · rw [List.getElem?_append_left hi] at h1
    rw [List.getElem?_append_left (by rw [← h.1]; exact hi)] at h2
    exact h.2 i y d h1 h2
  · have hl : i < (xs ++ [x]).length := (List.getElem?_eq_some_iff.mp h1).1
    rw [List.length_append, List.length_singleton] at hl
    have e0 : i = xs.length := by omega
    subst e0
    rw [List.getElem?_append_right (Nat.le_refl _), Nat.sub_self] at h1
    rw [List.getElem?_append_right (by rw [h.1]; exact Nat.le_refl _), h.1, Nat.sub_self] at h2
    cases h1
    cases h2
    exact s
theorem Wg.get {H : Hp} {xs : List V} {L : List (Int × List Int)} {i : Nat} {e : Int × List Int} (h : Wg H xs L) (he : L[i]? = some e) : ∃ x, xs[i]? = some x ∧ Sh H x e := by
  have hi : i < xs.length := by rw [h.1]; exact (List.getElem?_eq_some_iff.mp he).1
  exact ⟨xs[i], List.getElem?_eq_getElem hi, h.2 i _ e (List.getElem?_eq_getElem hi) he⟩
theorem Wg.at' {H : Hp} {xs : List V} {L : List (Int × List Int)} {i : Nat} {x : V} (h : Wg H xs L) (he : xs[i]? = some x) : ∃ e, L[i]? = some e ∧ Sh H x e := by
  have hi : i < L.length := by rw [← h.1]; exact (List.getElem?_eq_some_iff.mp he).1
  exact ⟨L[i], List.getElem?_eq_getElem hi, h.2 i _ _ he (List.getElem?_eq_getElem hi)⟩
theorem Wg.pop {H : Hp} {xs : List V} {L : List (Int × List Int)} (h : Wg H xs L) : Wg H xs.dropLast L.dropLast := by
  refine ⟨by rw [List.length_dropLast, List.length_dropLast, h.1], fun i x e h1 h2 => ?_⟩
  rw [List.getElem?_dropLast] at h1 h2
  split at h1
  · split at h2
    · exact h.2 i x e h1 h2
    · cases h2
  · cases h1
theorem di_ints {K : PySem.W.Frag} {H : Hp} {w : Addr} {ns : List Int} (h : H w = some (.tup (ns.map V.int))) : DI K H (.ref w) (dT ns) := by
  refine .tup (SqT.of h) (by simp) fun i x d h1 h2 => ?_
  rw [List.getElem?_map] at h1 h2
  cases z : ns[i]? with
  | none => rw [z] at h1; cases h1
  | some n =>
    rw [z] at h1 h2
    cases h1
    cases h2
    exact .int _
theorem Sh.di {K : PySem.W.Frag} {H : Hp} {x : V} {e : Int × List Int} (h : Sh H x e) : DI K H x (dE e) := by
  obtain ⟨p, w, rfl, h1, h2⟩ := h
  refine .tup (SqT.of h1) rfl fun i y d a b => ?_
  rcases i with _ | _ | i
  · cases a; cases b; exact .int _
  · cases a; cases b; exact di_ints h2
  · cases a
theorem Wg.di {K : PySem.W.Frag} {H : Hp} {a : Addr} {xs : List V} {L : List (Int × List Int)} (h : Wg H xs L) (ha : SqL K H a xs) : DI K H (.ref a) (dL L) := by
  refine .lst ha (by rw [List.length_map]; exact h.1) fun i x d h1 h2 => ?_
  rw [List.getElem?_map] at h2
  cases z : L[i]? with
  | none => rw [z] at h2; cases h2
  | some e =>
    rw [z] at h2
    cases h2
    exact (h.2 i x e h1 z).di
theorem di_nil {K : PySem.W.Frag} {H : Hp} {a : Addr} (ha : SqL K H a []) : DI K H (.ref a) (dL []) := .lst ha rfl fun i x d h1 _ => by cases h1
/-- pieces put together -/
def shStep (acc : List (Int × List Int)) (e : Int × List Int) : List (Int × List Int) :=
  if 0 < e.1 then match acc.getLast? with
    | some l => if l.2 = e.2 then acc.dropLast ++ [(e.1 + l.1, e.2)] else acc ++ [e]
    | none => acc ++ [e]
  else acc
def shape (L : List (Int × List Int)) : List (Int × List Int) := L.foldl shStep []
def tot (L : List (Int × List Int)) : Int := (L.map (·.1)).sum
theorem tot_nil : tot [] = 0 := rfl
theorem tot_cons (e : Int × List Int) (L : List (Int × List Int)) : tot (e :: L) = e.1 + tot L := by unfold tot; simp
theorem tot_append (L M : List (Int × List Int)) : tot (L ++ M) = tot L + tot M := by unfold tot; simp
theorem take_succ' {α : Type} {L : List α} {i : Nat} {e : α} (h : L[i]? = some e) : L.take (i + 1) = L.take i ++ [e] := by
  rw [List.take_add_one, h]; rfl
theorem shape_succ {L : List (Int × List Int)} {i : Nat} {e : Int × List Int} (h : L[i]? = some e) : shape (L.take (i + 1)) = shStep (shape (L.take i)) e := by
  unfold shape
  rw [take_succ' h, List.foldl_append]; rfl
theorem drop_get {α : Type} {L : List α} {l : α} (h : L.getLast? = some l) : L = L.dropLast ++ [l] := by
  have hne : L ≠ [] := by intro z; rw [z] at h; cases h
  rw [List.getLast?_eq_some_getLast hne] at h
  cases h
  exact (List.dropLast_concat_getLast hne).symm
/-- what a weighing put together here keeps to -/
structure Good (n : Nat) (B : Int) (L : List (Int × List Int)) : Prop where
  len : L.length ≤ n
  pos : ∀ e ∈ L, 0 < e.1
  sum : tot L ≤ B
theorem shStep_good {n : Nat} {B C : Int} {acc : List (Int × List Int)} {e : Int × List Int} (h : Good n B acc) (h0 : 0 ≤ C) (he : e.1 ≤ C) : Good (n + 1) (B + C) (shStep acc e) := by
  have snoc : 0 < e.1 → Good (n + 1) (B + C) (acc ++ [e]) := fun hp => ⟨by have := h.len; simp; omega, fun d hd => by
    rcases List.mem_append.mp hd with z | z
    · exact h.pos d z
    · rw [List.mem_singleton] at z; subst z; exact hp, by rw [tot_append, tot_cons, tot_nil]; have := h.sum; omega⟩
  unfold shStep
  split
  · rename_i hp
    split
    · rename_i l hl
      split
      · have e0 := drop_get hl
        have hlm : l ∈ acc := List.mem_of_getLast? hl
        refine ⟨?_, fun d hd => ?_, ?_⟩
        · rw [List.length_append, List.length_dropLast, List.length_singleton]; have := h.len; omega
        · rcases List.mem_append.mp hd with z | z
          · exact h.pos d (List.dropLast_subset _ z)
          · rw [List.mem_singleton] at z; subst z
            have := h.pos l hlm
            show 0 < e.1 + l.1
            omega
        · have hs := h.sum
          rw [e0] at hs
          rw [tot_append, tot_cons, tot_nil] at hs ⊢
          show tot acc.dropLast + (e.1 + l.1 + 0) ≤ _
          omega
      · exact snoc hp
    · exact snoc hp
  · exact ⟨Nat.le_succ_of_le h.len, h.pos, by have := h.sum; omega⟩
theorem shape_good {C : Int} (h0 : 0 ≤ C) : ∀ {L : List (Int × List Int)}, (∀ e ∈ L, e.1 ≤ C) → Good L.length (L.length * C) (shape L) := by
  intro L h
  have key : ∀ i, i ≤ L.length → Good i (i * C) (shape (L.take i)) := by
    intro i
    induction i with
    | zero => intro _; exact ⟨Nat.le_refl _, fun e he => by simp [shape] at he, by simp [shape, tot]⟩
    | succ i ih =>
      intro hi
      have g := ih (by omega)
      have hi' : i < L.length := by omega
      have e1 : L[i]? = some (L[i]) := List.getElem?_eq_getElem hi'
      rw [shape_succ e1]
      have := shStep_good g h0 (h _ (List.getElem_mem hi'))
      have e2 : ((i + 1 : Nat) : Int) * C = i * C + C := by rw [Int.natCast_add, Int.add_mul]; simp
      rw [e2]; exact this
  have := key L.length (Nat.le_refl _)
  rw [List.take_length] at this
  exact this
end L2

set_option Elab.async false
set_option linter.all false
set_option maxRecDepth 100000
set_option maxHeartbeats 4000000
namespace L2
open PySem PySem.Spec PyProof.Rows
section
variable {X : Cx}
theorem preSum_take (ns : List Int) : ∀ n, preSum (fun i => ns.getD i 0) n = (ns.take n).sum
  | 0 => rfl
  | n + 1 => by
    show preSum _ n + ns.getD n 0 = _
    rw [preSum_take ns n, List.take_add_one, List.getD_eq_getElem?_getD]
    cases ns[n]? with
    | none => simp
    | some z => simp
theorem call_sum (hc : X.calm = true) : CallR X (.builtin "sum") (fun xs H Q => ∃ (p : Addr) (ns : List Int), xs = [.ref p] ∧ SqL X.K H p (ns.map V.int) ∧ Q (.int ns.sum) H) := by
  intro pins s σ H xs us Q I r h
  obtain ⟨p, ns, rfl, hq, q⟩ := h
  obtain ⟨u, rfl, rx⟩ := vals1 r
  cases rx
  obtain ⟨its, rv, pl, hz⟩ := I.list hq
  have hlt : p < s.heap.objs.size := by
    obtain ⟨o, e, _⟩ := pl.isList
    exact Heap.lt_size e
  have hlen : its.length = ns.length := by have := rv.length; rw [List.length_map] at this; exact this.symm
  refine call_sum_walkAnyS (wpAny_pyIter_list pl.isList ?_)
  refine ⟨_, _, _, _, _, _, _, fun i => ns.getD i 0, rfl, (Walks.list (A := X.A.in1) (I.ok.hd hc) s.heap.objs.size p (Nat.ne_of_lt hlt) its.toArray).toS, ?_, ?_, ?_, fun s' t' hm => ?_⟩
  · exact ⟨⟨_, Heap.get?_push_size _ rfl, rfl, rfl⟩, (let ⟨o, e, c⟩ := pl.isList; ⟨o, Heap.get?_push_of_some _ e, c⟩)⟩
  · intro b hb
    simp at hb
    rcases hb with rfl | rfl
    · simp [Heap.size_push]
    · rw [Heap.size_push]; exact Nat.lt_succ_of_lt hlt
  · intro i v hP
    have hv : its[i]? = some v := by simpa using hP
    have hil : i < ns.length := by rw [← hlen]; exact (List.getElem?_eq_some_iff.mp hv).1
    obtain ⟨u, e, ru⟩ := rv.get (x := V.int (ns.getD i 0)) (i := i) (by rw [List.getElem?_map, List.getElem?_eq_getElem hil, List.getD_eq_getElem?_getD, List.getElem?_eq_getElem hil]; rfl)
    rw [hv] at e
    cases e
    exact ru
  · have e : preSum (fun i => ns.getD i 0) its.toArray.size = ns.sum := by
      rw [List.size_toArray, hlen, preSum_take, List.take_length]
    rw [e]
    obtain ⟨hk, hg, hd, ho, ht⟩ := hm
    refine ⟨.int _, H, ?_, ⟨t', rfl⟩, q⟩
    have es : s' = { s with heap := s'.heap, toks := s'.toks } := by
      cases s'; simp_all
    rw [es]
    exact I.kept fun b o eb => hk b o (by simp; exact Nat.ne_of_lt (Heap.lt_size eb)) (Heap.get?_push_of_some _ eb)
end
/-- pieces put together twice -/
def Norm : List (Int × List Int) → Prop
  | [] => True
  | [e] => 0 < e.1
  | e :: d :: r => 0 < e.1 ∧ e.2 ≠ d.2 ∧ Norm (d :: r)
theorem Norm.snoc : ∀ {L : List (Int × List Int)} {e : Int × List Int}, Norm L → 0 < e.1 → (∀ l, L.getLast? = some l → l.2 ≠ e.2) → Norm (L ++ [e])
  | [], e, _, h, _ => h
  | [d], e, hd, h, k => ⟨hd, k d rfl, h⟩
  | d :: d' :: r, e, hd, h, k => by
    refine ⟨hd.1, hd.2.1, ?_⟩
    exact Norm.snoc (L := d' :: r) hd.2.2 h fun l hl => k l (by rw [List.getLast?_cons_cons]; exact hl)
theorem Norm.init : ∀ {L : List (Int × List Int)} {e : Int × List Int}, Norm (L ++ [e]) → Norm L ∧ 0 < e.1 ∧ ∀ l, L.getLast? = some l → l.2 ≠ e.2
  | [], e, h => ⟨trivial, h, fun l z => by cases z⟩
  | [d], e, h => ⟨h.1, h.2.2, fun l z => by cases z; exact h.2.1⟩
  | d :: d' :: r, e, h => by
    obtain ⟨a, b, c⟩ := Norm.init (L := d' :: r) h.2.2
    exact ⟨⟨h.1, h.2.1, a⟩, b, fun l z => c l (by rw [List.getLast?_cons_cons] at z; exact z)⟩
theorem Norm.pos : ∀ {L : List (Int × List Int)}, Norm L → ∀ e ∈ L, 0 < e.1
  | [], _, e, h => by cases h
  | [d], hd, e, h => by rw [List.mem_singleton] at h; subst h; exact hd
  | d :: d' :: r, hd, e, h => by
    rcases List.mem_cons.mp h with z | z
    · subst z; exact hd.1
    · exact Norm.pos (L := d' :: r) hd.2.2 e z
end L2

set_option Elab.async false
set_option linter.all false
set_option maxRecDepth 100000
set_option maxHeartbeats 4000000
namespace L2
open PySem PySem.Spec PyProof.Rows
section
variable {X : Cx}
theorem Vals.rev {xs : List V} {us : List Value} (r : Vals xs us) : Vals xs.reverse us.reverse := by
  induction r with
  | nil => exact .nil
  | cons a b ih => rw [List.reverse_cons, List.reverse_cons]; exact ih.append (.cons a .nil)
section
variable {prog : Program} {w : World} {A : Around} {E : Value → Shared → Prop} {s : Shared}
end
/-- xs[::-1] -/
def tRev (K : PySem.W.Frag) (te : TE) (tk : TO) : TE := fun σ H Q => te σ H fun x H1 => tk σ H1 fun k H2 => k = some (-1) ∧ ∃ a xs, x = .ref a ∧ SqL K H2 a xs ∧ ∀ p, H2 p = none → Q (.ref p) (upd H2 p (.lst xs.reverse))
theorem pe_rev {e : Expr} {te : TE} {st : Option Expr} {tk : TO} {pos p2 : Pos} (he : PE X e te) (hk : PO X st tk) (hsub : ∀ a b : Addr, subscripted (.Slice none none st p2) false (.ref a) (.ref b) = operate [.ref a, .ref b] (getItem (.ref a) (.ref b)) := by intro _ _; with_unfolding_all rfl) : PE X (.Subscript e (.Slice none none st p2) pos) (tRev X.K te tk) := by
  intro pins s σ H Q I h
  refine Subscript_ (thn (he pins s σ H _ I h) fun v s1 ⟨x, H1, I1, r1, q1⟩ => ?_)
  refine wpAny_Slice ?_
  rw [evalPart_none]
  refine wpAny_pure (wpAny_pure (thn (hk pins s1 σ H1 _ I1 q1) fun vk s3 ⟨k, H3, I3, pk, q3⟩ => ?_))
  obtain ⟨rfl, a, xs, rfl, hx, q⟩ := q3
  cases r1
  have I4 : Inv X pins σ H3 { s3 with heap := s3.heap.push { cls := .type "slice", data := .fields #[.none, .none, vk] } } := I3.kept (t' := s3.toks) fun b ob z => Heap.get?_push_of_some _ z
  obtain ⟨its, r, ht, hz⟩ := I4.list hx
  have hlen := r.length
  show wpAny (model X.prog X.w) X.A (subscriptTail e (.Slice none none st p2) (.ref a) (.ref s3.heap.objs.size)) (EP X pins σ Q) X.xe { s3 with heap := s3.heap.push { cls := .type "slice", data := .fields #[.none, .none, vk] } }
  refine tail_any (ops := [.ref a, .ref s3.heap.objs.size]) ht.isList.typeIs slot_list_getitem.lookup ?_ (hsub _ _)
  refine wpAny_getItem_list_slice ht.isList (Heap.IsSliceOf.new ..) .none .none pk (by simp) ?_ (by rw [List.size_toArray] <;> omega)
  rw [PySem.W.krv_pick]
  refine ⟨.ref _, _, I4.laid (t' := s3.toks) (o := .lst xs.reverse) (fun b ob z => Heap.get?_push_of_some _ z) (Nat.le_refl _) ?_, rfl, q _ (I4.hok.fresh (Nat.le_refl _))⟩
  exact ⟨by rw [List.length_reverse]; exact hz, its.reverse, 0, Vals.rev r, Heap.get?_push_size _ rfl⟩
end
end L2

set_option Elab.async false
set_option linter.all false
set_option maxRecDepth 100000
set_option maxHeartbeats 4000000
namespace L2
abbrev WL := List (Int × List Int)
def mx (i j : Int) : Int := if j > i then j else i
def Pos (L : WL) : Prop := ∀ e ∈ L, 0 < e.1
theorem Pos.tail {x : Int × List Int} {r : WL} (h : Pos (x :: r)) : 0 < x.1 ∧ Pos r := ⟨h x List.mem_cons_self, fun e he => h e (List.mem_cons_of_mem _ he)⟩
theorem Pos.cons {x : Int × List Int} {r : WL} (h : 0 < x.1) (hr : Pos r) : Pos (x :: r) := fun e he => by
  rcases List.mem_cons.mp he with z | z
  · subst z; exact h
  · exact hr e z
theorem Norm.tl {x : Int × List Int} {r : WL} (h : Norm (x :: r)) : 0 < x.1 ∧ Norm r ∧ ∀ y r', r = y :: r' → x.2 ≠ y.2 := by
  cases r with
  | nil => exact ⟨h, trivial, fun y r' z => by cases z⟩
  | cons y r => exact ⟨h.1, h.2.2, fun z r' e => by cases e; exact h.2.1⟩
theorem Norm.mk {x : Int × List Int} {r : WL} (h0 : 0 < x.1) (h1 : Norm r) (h2 : ∀ y r', r = y :: r' → x.2 ≠ y.2) : Norm (x :: r) := by
  cases r with
  | nil => exact h0
  | cons y r => exact ⟨h0, h2 y r rfl, h1⟩
end L2

set_option Elab.async false
set_option linter.all false
set_option maxRecDepth 100000
set_option maxHeartbeats 4000000
namespace L2
open PySem PySem.Spec PyProof.Rows
section
variable {X : Cx}
end
/-- any thing that was made here -/
inductive Th (H : Hp) : V → PyData → Prop where
  | non : Th H .non .none
  | bl (b : Bool) : Th H (.bl b) (.bool b)
  | int (i : Int) : Th H (.int i) (.int i)
  | str (x : Str) : Th H (.str x) (.str x)
  | tup {a : Addr} {xs : List V} {ds : List PyData} : H a = some (.tup xs) → xs.length = ds.length → (∀ (i : Nat) (x : V) (d : PyData), xs[i]? = some x → ds[i]? = some d → Th H x d) → Th H (.ref a) (.tuple ds)
  | lst {a : Addr} {xs : List V} {ds : List PyData} : H a = some (.lst xs) → xs.length = ds.length → (∀ (i : Nat) (x : V) (d : PyData), xs[i]? = some x → ds[i]? = some d → Th H x d) → Th H (.ref a) (.list ds)
theorem Th.di {K : PySem.W.Frag} {H : Hp} {x : V} {d : PyData} (h : Th H x d) : DI K H x d := by
  induction h with
  | non => exact .non
  | bl b => exact .bl b
  | int i => exact .int i
  | str x => exact .str x
  | tup a b _ ih => exact .tup (SqT.of a) b ih
  | lst a b _ ih => exact .lst (SqL.of a) b ih
theorem Th.up {H H' : Hp} {x : V} {d : PyData} (h : Th H x d) (s : Same H H') : Th H' x d := by
  induction h with
  | non => exact .non
  | bl b => exact .bl b
  | int i => exact .int i
  | str x => exact .str x
  | tup a b _ ih => exact .tup (s _ _ a) b ih
  | lst a b _ ih => exact .lst (s _ _ a) b ih
def tyName : PyData → String
  | .none => "NoneType"
  | .bool _ => "bool"
  | .int _ => "int"
  | .str _ => "str"
  | .list _ => "list"
  | .tuple _ => "tuple"
  | .dict _ => "dict"
theorem Th.ty {K : PySem.W.Frag} {H : Hp} {x : V} {d : PyData} (h : Th H x d) : TyOf K H x (.type (tyName d)) := by
  cases h with
  | non => exact .non
  | bl b => exact .bl b
  | int i => exact .int i
  | str x => exact .str x
  | tup a _ _ => exact .tup a
  | lst a _ _ => exact .lst a
def isInt : PyData → Bool
  | .int _ | .bool _ => true
  | _ => false
/-- what may be shown -/
structure Fine (n : Nat) (d : PyData) : Prop where
  lay : d.canLay0 = true
  show' : d.showable = true
  dep : d.depth ≤ n
  wt : d.weight ≤ 400 * 12 ^ n
  short : d.intsShort 80 = true
theorem int_short {i : Int} (h1 : -(10 ^ 79) < i) (h2 : i < 10 ^ 79) : (Str.ofString (toString i)).length ≤ 80 := by
  by_cases h0 : 0 ≤ i
  · exact Nat.le_trans (toString_length_le (k := 79) h0 (by decide) h2) (by decide)
  · rw [len_text_neg (by omega)]
    have := toString_length_le (v := 0 - i) (k := 79) (by omega) (by decide) (by omega)
    omega
theorem Fine.int {i : Int} (h1 : -(10 ^ 79) < i) (h2 : i < 10 ^ 79) : Fine 0 (.int i) := by
  have hl : i ≠ 0 → i.natAbs.log2 < 300 := fun z => by
    refine (Nat.log2_lt (by omega)).mpr ?_
    have : (10 : Int) ^ 79 ≤ 2 ^ 300 := by decide +kernel
    omega
  refine ⟨rfl, ?_, Nat.le_refl _, ?_, decide_eq_true (int_short h1 h2)⟩
  · show decide (i.natAbs.log2 < 1920) = true
    by_cases z : i = 0
    · subst z; rfl
    · have := hl z
      exact decide_eq_true (by omega)
  · show (if i == 0 then 0 else i.natAbs.log2 + 1) ≤ _
    by_cases z : i = 0
    · subst z; decide
    · rw [if_neg (by simpa using z)]
      have := hl z
      show _ ≤ 400
      omega
theorem Fine.mono {n m : Nat} {d : PyData} (h : Fine n d) (hm : n ≤ m) : Fine m d := ⟨h.lay, h.show', Nat.le_trans h.dep hm, Nat.le_trans h.wt (Nat.mul_le_mul_left _ (Nat.pow_le_pow_right (by decide) hm)), h.short⟩
theorem Fine.all {n : Nat} : ∀ {ds : List PyData}, (∀ d ∈ ds, Fine n d) → PyData.canLayAll0 ds = true ∧ PyData.showableAll ds = true ∧ PyData.depthAll ds ≤ n ∧ PyData.weightAll ds ≤ ds.length * (400 * 12 ^ n + 1) ∧ PyData.intsShortAll 80 ds = true
  | [], _ => ⟨rfl, rfl, Nat.zero_le _, Nat.zero_le _, rfl⟩
  | d :: ds, h => by
    obtain ⟨a, b, c, e, f⟩ := Fine.all (ds := ds) fun x hx => h x (List.mem_cons_of_mem _ hx)
    have q := h d List.mem_cons_self
    refine ⟨?_, ?_, ?_, ?_, ?_⟩
    · show (d.canLay0 && _) = true; rw [q.lay, a]; rfl
    · show (d.showable && _) = true; rw [q.show', b]; rfl
    · show max d.depth _ ≤ n; have := q.dep; omega
    · show d.weight + 1 + PyData.weightAll ds ≤ (ds.length + 1) * (400 * 12 ^ n + 1)
      rw [Nat.succ_mul]
      have := q.wt
      omega
    · show (d.intsShort 80 && _) = true; rw [q.short, f]; rfl
theorem Fine.tup {n : Nat} {ds : List PyData} (h : ∀ d ∈ ds, Fine n d) (hl : ds.length ≤ 10) : Fine (n + 1) (.tuple ds) := by
  obtain ⟨a, b, c, e, f⟩ := Fine.all h
  refine ⟨a, b, by show PyData.depthAll ds + 1 ≤ n + 1; omega, ?_, f⟩
  show PyData.weightAll ds ≤ _
  have h1 : ds.length * (400 * 12 ^ n + 1) ≤ 10 * (400 * 12 ^ n + 1) := Nat.mul_le_mul_right _ hl
  have h2 : 400 * 12 ^ (n + 1) = 12 * (400 * 12 ^ n) := by rw [Nat.pow_succ]; omega
  have h3 : 1 ≤ 12 ^ n := Nat.one_le_pow _ _ (by decide)
  omega
theorem Fine.lst {n : Nat} {ds : List PyData} (h : ∀ d ∈ ds, Fine n d) (hl : ds.length ≤ 10) : Fine (n + 1) (.list ds) := by
  obtain ⟨a, b, c, e, f⟩ := Fine.all h
  refine ⟨a, b, by show PyData.depthAll ds + 1 ≤ n + 1; omega, ?_, f⟩
  show PyData.weightAll ds ≤ _
  have h1 : ds.length * (400 * 12 ^ n + 1) ≤ 10 * (400 * 12 ^ n + 1) := Nat.mul_le_mul_right _ hl
  have h2 : 400 * 12 ^ (n + 1) = 12 * (400 * 12 ^ n) := by rw [Nat.pow_succ]; omega
  have h3 : 1 ≤ 12 ^ n := Nat.one_le_pow _ _ (by decide)
  omega
theorem Fine.len {d : PyData} (h : Fine 2 d) : d.shown.length ≤ sizeLine := by
  have h1 := PyData.shown_le 80 (by decide) d (PyData.leavesShort_of_canLay0 80 d h.lay h.short)
  have h2 := h.wt
  have h3 : (400 * 12 ^ 2 : Nat) = 57600 := by decide
  have h4 : sizeLine = 16777216 := by decide
  rw [h3] at h2
  rw [h4]
  omega
theorem Th.parts {H : Hp} {a : Addr} {ds : List PyData} (h : Th H (.ref a) (.tuple ds)) : ∃ xs, H a = some (.tup xs) ∧ xs.length = ds.length ∧ ∀ (i : Nat) (x : V) (d : PyData), xs[i]? = some x → ds[i]? = some d → Th H x d := by
  cases h with
  | tup a b c => exact ⟨_, a, b, c⟩
section
variable {X : Cx} {es : List Expr} {te : TE} {t : TA}
end
/-- the items of a display, not to be unfolded -/
structure PAs (X : Cx) (es : List Expr) (t : TA) : Prop where
  out : PA X es t
section
variable {X : Cx} {es : List Expr} {te : TE} {t : TA}
end
section
variable {X : Cx}
end
end L2

set_option Elab.async false
set_option linter.all false
set_option maxRecDepth 100000
set_option maxHeartbeats 1000000
namespace L2
open PySem PySem.Spec PyProof.Rows
section
variable {X : Cx} {pins : List (Addr × Obj)} {σ : St} {H : Hp} {s : Shared} {h' : Heap}
end
section
variable {X : Cx}
end
end L2

set_option Elab.async false
set_option linter.all false
set_option maxRecDepth 100000
set_option maxHeartbeats 1000000
namespace L2
open PySem PySem.Spec PyProof.Rows
/-- things that may be shown: so deep, so heavy -/
structure FA (n W : Nat) (ds : List PyData) : Prop where
  lay : PyData.canLayAll0 ds = true
  show' : PyData.showableAll ds = true
  dep : PyData.depthAll ds ≤ n
  wt : PyData.weightAll ds ≤ W
  short : PyData.intsShortAll 80 ds = true
structure FD (n W : Nat) (d : PyData) : Prop where
  lay : d.canLay0 = true
  show' : d.showable = true
  dep : d.depth ≤ n
  wt : d.weight ≤ W
  short : d.intsShort 80 = true
theorem FA.nil {n W : Nat} : FA n W [] := ⟨rfl, rfl, Nat.zero_le _, Nat.zero_le _, rfl⟩
theorem FA.cons {n W w : Nat} {d : PyData} {ds : List PyData} (h : FD n w d) (k : FA n W ds) : FA n (w + 1 + W) (d :: ds) := by
  refine ⟨?_, ?_, ?_, ?_, ?_⟩
  · show (d.canLay0 && _) = true; rw [h.lay, k.lay]; rfl
  · show (d.showable && _) = true; rw [h.show', k.show']; rfl
  · show max d.depth _ ≤ n; have := h.dep; have := k.dep; omega
  · show d.weight + 1 + PyData.weightAll ds ≤ _; have := h.wt; have := k.wt; omega
  · show (d.intsShort 80 && _) = true; rw [h.short, k.short]; rfl
theorem FA.mono {n m W V : Nat} {ds : List PyData} (h : FA n W ds) (a : n ≤ m) (b : W ≤ V) : FA m V ds := ⟨h.lay, h.show', Nat.le_trans h.dep a, Nat.le_trans h.wt b, h.short⟩
theorem FD.mono {n m W V : Nat} {d : PyData} (h : FD n W d) (a : n ≤ m) (b : W ≤ V) : FD m V d := ⟨h.lay, h.show', Nat.le_trans h.dep a, Nat.le_trans h.wt b, h.short⟩
theorem FA.head {n W : Nat} {d : PyData} {ds : List PyData} (h : FA n W (d :: ds)) : FD n W d := by
  have h1 : (d.canLay0 && PyData.canLayAll0 ds) = true := h.lay
  have h2 : (d.showable && PyData.showableAll ds) = true := h.show'
  have h3 : max d.depth (PyData.depthAll ds) ≤ n := h.dep
  have h4 : d.weight + 1 + PyData.weightAll ds ≤ W := h.wt
  have h5 : (d.intsShort 80 && PyData.intsShortAll 80 ds) = true := h.short
  rw [Bool.and_eq_true] at h1 h2 h5
  exact ⟨h1.1, h2.1, by omega, by omega, h5.1⟩
theorem FA.tail {n W : Nat} {d : PyData} {ds : List PyData} (h : FA n W (d :: ds)) : FA n W ds := by
  have h1 : (d.canLay0 && PyData.canLayAll0 ds) = true := h.lay
  have h2 : (d.showable && PyData.showableAll ds) = true := h.show'
  have h3 : max d.depth (PyData.depthAll ds) ≤ n := h.dep
  have h4 : d.weight + 1 + PyData.weightAll ds ≤ W := h.wt
  have h5 : (d.intsShort 80 && PyData.intsShortAll 80 ds) = true := h.short
  rw [Bool.and_eq_true] at h1 h2 h5
  exact ⟨h1.2, h2.2, by omega, by omega, h5.2⟩
theorem FA.drop {n W : Nat} : ∀ (i : Nat) {ds : List PyData}, FA n W ds → FA n W (ds.drop i)
  | 0, _, h => h
  | _ + 1, [], h => h
  | i + 1, _ :: _, h => FA.drop i h.tail
theorem wt_take : ∀ (i : Nat) (ds : List PyData), PyData.weightAll (ds.take i) ≤ PyData.weightAll ds
  | 0, _ => Nat.zero_le _
  | _ + 1, [] => Nat.le_refl _
  | i + 1, d :: ds => by
    show d.weight + 1 + PyData.weightAll (ds.take i) ≤ d.weight + 1 + PyData.weightAll ds
    have := wt_take i ds
    omega
theorem FA.take {n W : Nat} : ∀ (i : Nat) {ds : List PyData}, FA n W ds → FA n W (ds.take i)
  | 0, _, _ => FA.nil
  | _ + 1, [], h => h
  | i + 1, d :: ds, h => by
    have k := FA.take i h.tail
    have q := h.head
    refine ⟨?_, ?_, ?_, Nat.le_trans (wt_take (i + 1) (d :: ds)) h.wt, ?_⟩
    · show (d.canLay0 && _) = true; rw [q.lay, k.lay]; rfl
    · show (d.showable && _) = true; rw [q.show', k.show']; rfl
    · show max d.depth _ ≤ n; have := q.dep; have := k.dep; omega
    · show (d.intsShort 80 && _) = true; rw [q.short, k.short]; rfl
theorem FA.append {n W V : Nat} : ∀ {ds es : List PyData}, FA n W ds → FA n V es → FA n (W + V) (ds ++ es)
  | [], es, _, k => k.mono (Nat.le_refl _) (by omega)
  | d :: ds, es, h, k => by
    have q := h.head
    have h4 : d.weight + 1 + PyData.weightAll ds ≤ W := h.wt
    have t : FA n (W - (d.weight + 1)) ds := ⟨h.tail.lay, h.tail.show', h.tail.dep, by omega, h.tail.short⟩
    have r := FA.append t k
    exact (FA.cons (w := d.weight) ⟨q.lay, q.show', q.dep, Nat.le_refl _, q.short⟩ r).mono (Nat.le_refl _) (by omega)
theorem FA.all {n w : Nat} : ∀ {ds : List PyData}, (∀ d ∈ ds, FD n w d) → FA n (ds.length * (w + 1)) ds
  | [], _ => FA.nil
  | d :: ds, h => by
    have := FA.cons (h d List.mem_cons_self) (FA.all fun x hx => h x (List.mem_cons_of_mem _ hx))
    refine this.mono (Nat.le_refl _) ?_
    rw [List.length_cons, Nat.succ_mul]
    omega
theorem FA.lst {n W : Nat} {ds : List PyData} (h : FA n W ds) : FD (n + 1) W (.list ds) := ⟨h.lay, h.show', by show PyData.depthAll ds + 1 ≤ n + 1; have := h.dep; omega, h.wt, h.short⟩
theorem FA.tup {n W : Nat} {ds : List PyData} (h : FA n W ds) : FD (n + 1) W (.tuple ds) := ⟨h.lay, h.show', by show PyData.depthAll ds + 1 ≤ n + 1; have := h.dep; omega, h.wt, h.short⟩
theorem FD.int {n : Nat} {i : Int} (h1 : -(10 ^ 79) < i) (h2 : i < 10 ^ 79) : FD n 400 (.int i) := by
  have := Fine.int h1 h2
  exact ⟨this.lay, this.show', Nat.le_trans this.dep (Nat.zero_le _), by have := this.wt; simpa using this, this.short⟩
theorem FD.bl {n : Nat} (b : Bool) : FD n 0 (.bool b) := ⟨rfl, rfl, Nat.zero_le _, Nat.le_refl _, rfl⟩
theorem FD.non {n : Nat} : FD n 0 .none := ⟨rfl, rfl, Nat.zero_le _, Nat.le_refl _, rfl⟩
theorem FD.len {n : Nat} {d : PyData} (h : FD n 200000 d) : d.shown.length ≤ sizeLine := by
  have h1 := PyData.shown_le 80 (by decide) d (PyData.leavesShort_of_canLay0 80 d h.lay h.short)
  have h2 := h.wt
  have h4 : sizeLine = 16777216 := by decide
  rw [h4]
  omega
/-- Th by a list -/
def ThL (H : Hp) (xs : List V) (ds : List PyData) : Prop := xs.length = ds.length ∧ ∀ (i : Nat) (x : V) (d : PyData), xs[i]? = some x → ds[i]? = some d → Th H x d
theorem ThL.nil {H : Hp} : ThL H [] [] := ⟨rfl, fun i x d h => by simp at h⟩
theorem ThL.cons {H : Hp} {x : V} {d : PyData} {xs : List V} {ds : List PyData} (h : Th H x d) (k : ThL H xs ds) : ThL H (x :: xs) (d :: ds) := by
  refine ⟨by rw [List.length_cons, List.length_cons, k.1], fun i y e h1 h2 => ?_⟩
  cases i with
  | zero => cases h1; cases h2; exact h
  | succ i => exact k.2 i y e h1 h2
theorem ThL.up {H H' : Hp} {xs : List V} {ds : List PyData} (k : ThL H xs ds) (s : Same H H') : ThL H' xs ds := ⟨k.1, fun i x d h1 h2 => (k.2 i x d h1 h2).up s⟩
theorem ThL.append {H : Hp} {xs ys : List V} {ds es : List PyData} (k : ThL H xs ds) (l : ThL H ys es) : ThL H (xs ++ ys) (ds ++ es) := by
  refine ⟨by rw [List.length_append, List.length_append, k.1, l.1], fun i x d h1 h2 => ?_⟩
  by_cases hi : i < xs.length
  · rw [List.getElem?_append_left hi] at h1
    rw [List.getElem?_append_left (k.1 ▸ hi)] at h2
    exact k.2 i x d h1 h2
  · rw [List.getElem?_append_right (by omega)] at h1
    rw [List.getElem?_append_right (by rw [← k.1]; omega), ← k.1] at h2
    exact l.2 _ x d h1 h2
theorem ThL.take {H : Hp} {xs : List V} {ds : List PyData} (k : ThL H xs ds) (n : Nat) : ThL H (xs.take n) (ds.take n) := by
  refine ⟨by rw [List.length_take, List.length_take, k.1], fun i x d h1 h2 => ?_⟩
  rw [List.getElem?_take] at h1 h2
  split at h1
  · rename_i hi
    rw [if_pos hi] at h2
    exact k.2 i x d h1 h2
  · cases h1
theorem ThL.drop {H : Hp} {xs : List V} {ds : List PyData} (k : ThL H xs ds) (n : Nat) : ThL H (xs.drop n) (ds.drop n) := by
  refine ⟨by rw [List.length_drop, List.length_drop, k.1], fun i x d h1 h2 => ?_⟩
  rw [List.getElem?_drop] at h1 h2
  exact k.2 _ x d h1 h2
theorem ThL.tup {H : Hp} {a : Addr} {xs : List V} {ds : List PyData} (k : ThL H xs ds) (h : H a = some (.tup xs)) : Th H (.ref a) (.tuple ds) := .tup h k.1 k.2
theorem ThL.lst {H : Hp} {a : Addr} {xs : List V} {ds : List PyData} (k : ThL H xs ds) (h : H a = some (.lst xs)) : Th H (.ref a) (.list ds) := .lst h k.1 k.2
theorem ThL.ints {H : Hp} (ns : List Int) : ThL H (ns.map V.int) (ns.map .int) := by
  refine ⟨by simp, fun i x d h1 h2 => ?_⟩
  rw [List.getElem?_map] at h1 h2
  cases z : ns[i]? with
  | none => rw [z] at h1; cases h1
  | some n => rw [z] at h1 h2; cases h1; cases h2; exact .int n
theorem FA.ints {ns : List Int} (h : ∀ n ∈ ns, -(10 ^ 79) < n ∧ n < 10 ^ 79) : FA 0 (ns.length * 401) (ns.map .int) := by
  have := FA.all (n := 0) (w := 400) (ds := ns.map .int) (fun d hd => by
    obtain ⟨n, hn, rfl⟩ := List.mem_map.mp hd
    exact FD.int (h n hn).1 (h n hn).2)
  rwa [List.length_map] at this
end L2

set_option Elab.async false
set_option linter.all false
set_option maxRecDepth 100000
set_option maxHeartbeats 1000000
namespace L2
open PySem PySem.Spec PyProof.Rows
section
variable {prog : Program} {w : World} {A : Around} {E : Value → Shared → Prop} {s : Shared}
end
section
variable {X : Cx}
end
end L2

set_option Elab.async false
set_option linter.all false
set_option maxRecDepth 100000
set_option maxHeartbeats 1000000
namespace L2
open PySem PySem.Spec PyProof.Rows
end L2

set_option Elab.async false
set_option linter.all false
set_option maxRecDepth 100000
set_option maxHeartbeats 1000000
namespace L2
open PySem PySem.Spec PyProof.Rows
/-- a table as it is where nothing was taken out -/
structure TB (t : SetTable) (led : Bool) : Prop where
  led : t.led = led
  dum : t.dummies = #[]
  up : t.place.toList.Pairwise (· < ·)
theorem below_go {xs : Array Nat} (h : xs.toList.Pairwise (· < ·)) (j : Nat) : ∀ (fuel lo hi : Nat), hi ≤ xs.size → lo ≤ hi → hi - lo ≤ fuel → (∀ i, i < lo → xs.getD i 0 < j) → (∀ i, hi ≤ i → i < xs.size → j ≤ xs.getD i 0) →
    SetTable.below.go xs j fuel lo hi ≤ xs.size ∧ (∀ i, i < SetTable.below.go xs j fuel lo hi → xs.getD i 0 < j) ∧ (∀ i, SetTable.below.go xs j fuel lo hi ≤ i → i < xs.size → j ≤ xs.getD i 0) := by
  have inc : ∀ a b, a ≤ b → b < xs.size → xs.getD a 0 ≤ xs.getD b 0 := fun a b hab hb => by
    rcases Nat.lt_or_eq_of_le hab with z | z
    · have := List.pairwise_iff_getElem.mp h a b (by simpa using Nat.lt_trans z hb) (by simpa using hb) z
      simp only [Array.getElem_toList] at this
      rw [Array.getD_eq_getD_getElem?, Array.getD_eq_getD_getElem?, Array.getElem?_eq_getElem (Nat.lt_trans z hb), Array.getElem?_eq_getElem hb]
      exact Nat.le_of_lt this
    · rw [z]; exact Nat.le_refl _
  intro fuel
  induction fuel with
  | zero =>
    intro lo hi h1 h2 h3 h4 h5
    have e : lo = hi := by omega
    subst e
    exact ⟨h1, h4, h5⟩
  | succ fuel ih =>
    intro lo hi h1 h2 h3 h4 h5
    unfold SetTable.below.go
    by_cases hlt : lo < hi
    · rw [if_pos hlt]
      have hm : (lo + hi) / 2 < hi := by omega
      have hm0 : lo ≤ (lo + hi) / 2 := by omega
      have hms : (lo + hi) / 2 < xs.size := by omega
      have eg : xs.getD ((lo + hi) / 2) j = xs.getD ((lo + hi) / 2) 0 := by
        rw [Array.getD_eq_getD_getElem?, Array.getD_eq_getD_getElem?, Array.getElem?_eq_getElem hms]; rfl
      dsimp only
      rw [eg]
      by_cases hc : xs.getD ((lo + hi) / 2) 0 < j
      · rw [if_pos hc]
        refine ih _ _ h1 (by omega) (by omega) (fun i hi' => ?_) h5
        exact Nat.lt_of_le_of_lt (inc i _ (by omega) hms) hc
      · rw [if_neg hc]
        refine ih _ _ (by omega) (by omega) (by omega) h4 (fun i hi' hs => ?_)
        exact Nat.le_trans (Nat.not_lt.mp hc) (inc _ i hi' hs)
    · rw [if_neg hlt]
      have e : lo = hi := by omega
      subst e
      exact ⟨h1, h4, h5⟩
theorem below_ok {xs : Array Nat} (h : xs.toList.Pairwise (· < ·)) (j : Nat) : SetTable.below xs j ≤ xs.size ∧ (∀ i, i < SetTable.below xs j → xs.getD i 0 < j) ∧ (∀ i, SetTable.below xs j ≤ i → i < xs.size → j ≤ xs.getD i 0) :=
  below_go h j xs.size 0 xs.size (Nat.le_refl _) (Nat.zero_le _) (Nat.le_refl _) (fun i hi => by omega) (fun i h1 h2 => by omega)
/-- the place behind the i-th one -/
theorem below_next {xs : Array Nat} (h : xs.toList.Pairwise (· < ·)) {i : Nat} (hi : i ≤ xs.size) {s : Nat} (hs : s = if i = 0 then 0 else xs.getD (i - 1) 0 + 1) : SetTable.below xs s = i := by
  obtain ⟨b1, b2, b3⟩ := below_ok h s
  have lt : ∀ a b, a < b → b < xs.size → xs.getD a 0 < xs.getD b 0 := fun a b hab hb => by
    have := List.pairwise_iff_getElem.mp h a b (by simpa using Nat.lt_trans hab hb) (by simpa using hb) hab
    simp only [Array.getElem_toList] at this
    rw [Array.getD_eq_getD_getElem?, Array.getD_eq_getD_getElem?, Array.getElem?_eq_getElem (Nat.lt_trans hab hb), Array.getElem?_eq_getElem hb]
    exact this
  rcases Nat.lt_trichotomy (SetTable.below xs s) i with z | z | z
  · exfalso
    have i0 : i ≠ 0 := by omega
    rw [if_neg i0] at hs
    have h1 := b3 (i - 1) (by omega) (by omega)
    omega
  · exact z
  · exfalso
    have h1 := b2 i z
    by_cases i0 : i = 0
    · rw [if_pos i0] at hs; omega
    · rw [if_neg i0] at hs
      have h2 := lt (i - 1) i (by omega) (by omega)
      omega
theorem put_tb {t : SetTable} {led : Bool} (h : TB t led) {j : Nat} (he : t.slot j = .empty) : TB (t.put j).1 led := by
  have hd : SetTable.has t.dummies j = false := by rw [h.dum]; rfl
  refine ⟨h.led, ?_, ?_⟩
  · show (if SetTable.has t.dummies j = true then _ else t.dummies) = #[]
    rw [hd]
    exact h.dum
  · show (SetTable.insertAt t.place (SetTable.below t.place j) j).toList.Pairwise (· < ·)
    rw [SetTable.toList_insertAt]
    obtain ⟨b1, b2, b3⟩ := below_ok h.up j
    have hne : t.place[SetTable.below t.place j]? ≠ some j := fun z => by
      unfold SetTable.slot at he
      dsimp only at he
      rw [z] at he
      simp at he
    rw [List.pairwise_append]
    refine ⟨h.up.sublist (List.take_sublist _ _), ?_, ?_⟩
    · rw [List.pairwise_cons]
      refine ⟨fun b hb => ?_, h.up.sublist (List.drop_sublist _ _)⟩
      obtain ⟨i, hi⟩ := List.mem_iff_getElem?.mp hb
      rw [List.getElem?_drop, Array.getElem?_toList] at hi
      obtain ⟨hlt, hg⟩ := Array.getElem?_eq_some_iff.mp hi
      have h1 := b3 _ (Nat.le_add_right _ i) hlt
      rw [Array.getD_eq_getD_getElem?, hi] at h1
      rcases Nat.lt_or_eq_of_le h1 with z | z
      · exact z
      · exfalso
        have z : j = b := z
        cases i with
        | zero => exact hne (by rw [← z] at hi; simpa using hi)
        | succ i =>
          have hlt0 : SetTable.below t.place j < t.place.size := by omega
          have h2 := b3 _ (Nat.le_refl _) hlt0
          have h3 := List.pairwise_iff_getElem.mp h.up (SetTable.below t.place j) (SetTable.below t.place j + (i + 1)) (by simpa using hlt0) (by simpa using hlt) (by omega)
          simp only [Array.getElem_toList] at h3
          rw [Array.getD_eq_getD_getElem?, Array.getElem?_eq_getElem hlt0] at h2
          have h2 : j ≤ t.place[SetTable.below t.place j] := h2
          omega
    · intro a ha b hb
      have haj : a < j := by
        obtain ⟨i, hi⟩ := List.mem_iff_getElem?.mp ha
        rw [List.getElem?_take] at hi
        split at hi
        · rename_i hir
          rw [Array.getElem?_toList] at hi
          have := b2 i hir
          rw [Array.getD_eq_getD_getElem?, hi] at this
          exact this
        · cases hi
      rcases List.mem_cons.mp hb with rfl | hb
      · exact haj
      · obtain ⟨i, hi⟩ := List.mem_iff_getElem?.mp hb
        rw [List.getElem?_drop, Array.getElem?_toList] at hi
        obtain ⟨hlt, hg⟩ := Array.getElem?_eq_some_iff.mp hi
        have h1 := b3 _ (Nat.le_add_right _ i) hlt
        rw [Array.getD_eq_getD_getElem?, hi] at h1
        exact Nat.lt_of_lt_of_le haj h1
theorem filter_fst {α β : Type} (f : α → Option β) : ∀ l : List α, ((l.filterMap fun j => (f j).map (j, ·)).map (·.1)) = l.filter fun j => (f j).isSome
  | [] => rfl
  | a :: l => by
    cases h : f a with
    | none => simp [h, filter_fst f l]
    | some b => simp [h, filter_fst f l]
end L2

set_option Elab.async false
set_option linter.all false
set_option maxRecDepth 100000
set_option maxHeartbeats 2000000
namespace L2
open PySem PySem.Spec PyProof.Rows
/-- a set of ints, told by its members, each once -/
def SetJ (prog : Program) (w : World) (h : Heap) (a : Addr) (ns : List Int) : Prop :=
  ∃ o es ep t, h.get? a = some o ∧ o.ExactSet ∧ o.data = .set es ep t ∧ ElemsOf (intKind prog w) es.toList ∧ (∃ ms, IntsAre (es.toList.map (·.2)) ms ∧ ms.Perm ns) ∧ es.size < scanBound ∧ t.fits es.size = true ∧ TB t (!w.params.followText "set-order")
theorem SetJ.size {prog : Program} {w : World} {o : Obj} {es : Array (Int × Value)} {ns : List Int} (h : ∃ ms, IntsAre (es.toList.map (·.2)) ms ∧ ms.Perm ns) : es.size = ns.length := by
  obtain ⟨ms, h1, h2⟩ := h
  have := h1.length
  rw [List.length_map, Array.length_toList] at this
  rw [this, h2.length_eq]
section
variable {prog : Program} {w : World} {A : Around} {E : Value → Shared → Prop} {s : Shared}
theorem stored_at {h : Heap} {a : Addr} {o : Obj} {es : Array (Int × Value)} {ep : Nat} {t : SetTable} (ho : h.get? a = some o) (hd : o.data = .set es ep t) (es' : Array (Int × Value)) (t' : SetTable) :
    (h.update a (Obj.putSet es' t')).get? a = some { o with data := .set es' (ep + 1) t' } := by
  have z := Heap.get?_update_self (Obj.putSet es' t') ho (by rw [putSet_of es' t' hd]; rfl)
  rw [putSet_of es' t' hd] at z
  exact z
end
end L2

set_option Elab.async false
set_option linter.all false
set_option maxRecDepth 100000
set_option maxHeartbeats 4000000
namespace L2
open PySem PySem.Spec PyProof.Rows
/-- each number once, as first met -/
def ddStep (acc : List Int) (k : Int) : List Int := if k ∈ acc then acc else acc ++ [k]
def dd (ns : List Int) : List Int := ns.foldl ddStep []
theorem SetJ.keep {prog : Program} {w : World} {h h' : Heap} {a : Addr} {ns : List Int} (x : SetJ prog w h a ns) (k : ∀ o, h.get? a = some o → h'.get? a = some o) : SetJ prog w h' a ns := by
  obtain ⟨o, es, ep, t, ho, r⟩ := x
  exact ⟨o, es, ep, t, k o ho, r⟩
section
variable {prog : Program} {w : World} {A : Around} {R : Result → Shared → Prop} {J : Addr} {fp wr : List Addr} {G : Array GenState → Array GenState → Prop} {n : Nat} {P : Nat → Value → Prop} {St : Nat → Shared → Prop}
end
section
variable {prog : Program} {w : World} {A : Around} {E : Value → Shared → Prop} {s : Shared}
/-- set.__new__ -/
theorem set_new_j (a : Value) {Q1 : Value → Shared → Prop} (h : Q1 (.ref s.heap.objs.size) { s with heap := s.heap.push { cls := .type "set", dict := none, data := .set #[] 0 (.fresh 0 0 (!w.params.followText "set-order")) } }) :
    codeAny (model prog w) A (.call (.builtin "set.__new__") ⟨[.type "set", a], []⟩) (wants Q1 E) s := by
  refine codeAny_of_tree ?_
  show wpAny _ A.in1 (do checkBuiltinCall "set.__new__" ⟨[.type "set", a], []⟩; again (.builtin "set.__new__" ⟨[.type "set", a], []⟩)) _ _ s
  refine wpAny_bind (wpAny_of_eq (PySem.F.newCall_set_1 a) (wpAny_pure ⟨plainId_quiet PySem.F.plain_set_new _, codeAny_builtin PySem.F.entry_set_new ?_⟩))
  rw [Around.under_plainId PySem.F.plain_set_new _]
  unfold Builtin.«set.__new__» Builtin.Frozenset.newClass
  have hsub := sub_set_self
  obtain ⟨hp, g, d, tk, os⟩ := s
  dsimp only
  wp_walk
  refine wpAny_askSetting (wpAny_pure ?_)
  dsimp only
  simp only [newObj]
  exact wpAny_bind (wpAny_alloc (wpAny_pure (wpAny_pure h)))
set_option maxHeartbeats 8000000 in
end
end L2

set_option Elab.async false
set_option linter.all false
set_option maxRecDepth 100000
set_option maxHeartbeats 4000000
namespace L2
open PySem PySem.Spec PyProof.Rows
theorem sti_owner : Manifest.owners.lookup (String.ofList ['r', 'o', 't', 'a', 'r', 'e', 't', 'i', '_', 't', 'e', 's'].reverse) = some Manifest.sig_set_iterator := by kernel_rfl
theorem sti_next : Slot "set_iterator" "__next__" "set_iterator.__next__" := .of (owner := "set_iterator") (n := "__next__") (by rw [typeLookup_type, builtinLookup_eq_fast]; kernel_rfl) (by decide +kernel) (by decide +kernel) (by decide +kernel) (by first | exact .inl (by decide +kernel) | exact .inr (by decide +kernel)) (by rw [isSubtype_type]; kernel_rfl)
theorem sti_entry : entryFor table "set_iterator.__next__" = some Builtin.«set_iterator.__next__» := entryFor_of_tree (by kernel_rfl)
theorem sti_args (a : Value) : argsOk "set_iterator.__next__" ⟨[a], []⟩ := by
  unfold argsOk
  rw [signature?_of (id := "set_iterator.__next__") (n := ['_', '_', 't', 'x', 'e', 'n', '_', '_']) (o := ['r', 'o', 't', 'a', 'r', 'e', 't', 'i', '_', 't', 'e', 's']) (by kernel_rfl) sti_owner]
  kernel_rfl
theorem sti_iter : Slot "set_iterator" "__iter__" "set_iterator.__iter__" := .of (owner := "set_iterator") (n := "__iter__") (by rw [typeLookup_type, builtinLookup_eq_fast]; kernel_rfl) (by decide +kernel) (by decide +kernel) (by decide +kernel) (by first | exact .inl (by decide +kernel) | exact .inr (by decide +kernel)) (by rw [isSubtype_type]; kernel_rfl)
theorem sti_iargs (a : Value) : argsOk "set_iterator.__iter__" ⟨[a], []⟩ := by
  unfold argsOk
  rw [signature?_of (id := "set_iterator.__iter__") (n := ['_', '_', 'r', 'e', 't', 'i', '_', '_']) (o := ['r', 'o', 't', 'a', 'r', 'e', 't', 'i', '_', 't', 'e', 's']) (by kernel_rfl) sti_owner]
  kernel_rfl
theorem sti_ientry : entryFor table "set_iterator.__iter__" = some Builtin.«dict_keyiterator.__iter__» :=
  entryFor_alias (id' := "dict_keyiterator.__iter__") (by kernel_rfl) (by first | rfl | decide +kernel | (unfold String.splitOn; simp +decide [String.splitOnAux])) (by decide +kernel) (by kernel_rfl)
theorem st_ientry : entryFor table "set.__iter__" = some Builtin.«frozenset.__iter__» := entryFor_alias (id' := "frozenset.__iter__") (by kernel_rfl) rfl (by decide +kernel) (by kernel_rfl)
theorem erase_perm {α : Type} : ∀ {l : List α} {i : Nat} (hi : i < l.length), (l[i] :: l.eraseIdx i).Perm l
  | [], i, hi => by simp at hi
  | a :: l, 0, hi => .refl _
  | a :: l, i + 1, hi => by
    have hi' : i < l.length := by simpa using hi
    have := erase_perm hi'
    show (l[i] :: a :: l.eraseIdx i).Perm (a :: l)
    exact (List.Perm.swap ..).trans (this.cons a)
section
variable {prog : Program} {w : World} {A : Around} {E : Value → Shared → Prop} {s : Shared}
theorem choose_any {src : Source} {n : Nat} {Q : Nat → Shared → Prop} (hn : n ≠ 0) (h : ∀ i d', i < n → Q i { s with drawn := d' }) : wpAny (model prog w) A (choose src n) Q E s := fun Γ p _ => by
  show Sem.wp _ _ (.choose src n .pure) _ _ _ _
  rw [Sem.wp]
  refine ⟨hn, ?_⟩
  rw [Sem.wp]
  exact h _ _ (Nat.mod_lt _ (by omega))
theorem drawOrder_perm {α : Type} : ∀ (n : Nat) (xs : List α) (s : Shared) {Q : List α → Shared → Prop}, xs.length = n → (∀ ys d', ys.Perm xs → Q ys { s with drawn := d' }) → wpAny (model prog w) A (drawOrder n xs) Q E s
  | 0, xs, s, Q, hl, h => by
    have : xs = [] := List.eq_nil_of_length_eq_zero hl
    subst this
    unfold drawOrder
    exact wpAny_pure (h [] s.drawn (.refl _))
  | n + 1, [], s, Q, hl, h => by simp at hl
  | n + 1, x :: xs, s, Q, hl, h => by
    unfold drawOrder
    refine wpAny_bind (choose_any (by simp) fun i d' hi => ?_)
    have e : (x :: xs)[i]? = some (x :: xs)[i] := List.getElem?_eq_getElem hi
    rw [e]
    dsimp only
    refine wpAny_bind (drawOrder_perm n _ _ (by rw [List.length_eraseIdx_of_lt hi]; omega) fun ys d2 hp => wpAny_pure (h _ d2 ?_))
    have hq : ((x :: xs)[i] :: (x :: xs).eraseIdx i).Perm (x :: xs) := (erase_perm hi)
    exact (hp.cons _).trans hq
end
theorem pick_go {α : Type} (next : Nat → Nat) : ∀ (fuel k : Nat) (left : List α) (out : Array α), left.length = fuel → (pickOrder.go next fuel k left out).toList.Perm (out.toList ++ left)
  | 0, k, left, out, h => by
    have : left = [] := List.eq_nil_of_length_eq_zero h
    subst this
    unfold pickOrder.go
    simp
  | fuel + 1, k, left, out, h => by
    unfold pickOrder.go
    have hi : next k % left.length < left.length := Nat.mod_lt _ (by omega)
    rw [List.getElem?_eq_getElem hi]
    dsimp only
    refine (pick_go next fuel (k + 1) _ _ (by rw [List.length_eraseIdx_of_lt hi]; omega)).trans ?_
    rw [Array.toList_push, List.append_assoc]
    exact (erase_perm hi).append_left _
theorem pick_perm {α : Type} (next : Nat → Nat) (xs : Array α) : (pickOrder next xs).toList.Perm xs.toList := by
  unfold pickOrder
  have := pick_go next xs.size 0 xs.toList #[] (by simp)
  simpa using this
end L2

set_option Elab.async false
set_option linter.all false
set_option maxRecDepth 100000
set_option maxHeartbeats 4000000
namespace L2
open PySem PySem.Spec PyProof.Rows
/-- the record that goes along a set -/
def setIt (S : Addr) (first : Value) (i n ep : Nat) : Obj := { cls := .type "set_iterator", data := .fields #[first, rawInt i, .ref S, rawInt n, rawInt ep] }
/-- how a set is gone along: the order, and what the record keeps first at each step -/
structure Order (w : World) (S : Addr) (es : Array (Int × Value)) (ep : Nat) (t : SetTable) (T : Addr) where
  ord : List Value
  first : Nat → Value
  tup : Option (Array Value)
  perm : ord.Perm (es.toList.map (·.2))
  how : (w.params.followText "set-order" = true ∧ tup = none ∧ (∀ i, first i = rawInt 0) ∧ ord = (pickOrder (w.params.setOrder S ep) es).toList.map (·.2)) ∨
    (w.params.followText "set-order" = false ∧ (!t.plain && decide (es.size > 1)) = false ∧ tup = none ∧ (∀ i, first i = rawInt ((if i = 0 then 0 else t.place.getD (i - 1) 0 + 1 : Nat) : Int)) ∧ ord = es.toList.map (·.2)) ∨
    (w.params.followText "set-order" = false ∧ ∃ ps : List Nat, tup = some (ps.map fun (i : Nat) => rawInt i).toArray ∧ ps.Perm (List.range es.size) ∧ (∀ i, first i = .ref T) ∧ ord = ps.filterMap fun i => (es[i]?).map (·.2))
def StI (S I T : Addr) (o : Obj) (n ep : Nat) (first : Nat → Value) (tup : Option (Array Value)) (i : Nat) (h : Heap) : Prop :=
  h.get? S = some o ∧ h.get? I = some (setIt S (first i) i n ep) ∧ ∀ ps, tup = some ps → h.get? T = some { cls := .type "tuple", data := .seq ps }
section
variable {prog : Program} {w : World} {A : Around} {E : Value → Shared → Prop} {s : Shared} {S I T : Addr} {o : Obj} {es : Array (Int × Value)} {ep : Nat} {t : SetTable}
theorem setNext_j {slot given : Nat} {Q : Option (Value × Nat) → Shared → Prop} (O : Order w S es ep t T) (hnt : O.tup = none) (ho : s.heap.get? S = some o) (hd : o.data = .set es ep t) (hf : t.fits es.size = true) (tb : TB t (!w.params.followText "set-order"))
    (hsl : O.first given = rawInt slot) (hg : given ≤ es.size)
    (h : ∀ x, O.ord[given]? = some x → ∀ nx : Nat, O.first (given + 1) = rawInt nx → Q (some (x, nx)) s) (h2 : O.ord[given]? = none → Q none s) : wpAny (model prog w) A (setNext S slot given ep) Q E s := by
  unfold setNext
  refine wpAny_bind (wpAny_setState_of ho hd hf ?_)
  dsimp only
  unfold setsByText
  refine wpAny_bind (wpAny_bind (wpAny_askSetting (wpAny_pure ?_)))
  show wpAny _ _ (if w.params.followText "set-order" = true then _ else _) _ _ _
  rcases O.how with ⟨bt, _, hfi, hor⟩ | ⟨bt, dr, _, hfi, hor⟩ | ⟨bt, ps, ht, _⟩
  · rw [if_pos bt, if_neg (by simp)]
    have e0 : slot = 0 := by
      have := hfi given
      rw [hsl] at this
      simp [rawInt] at this
      omega
    subst e0
    refine wpAny_bind ?_
    unfold setWalk
    refine wpAny_bind (wpAny_setState_of ho hd hf ?_)
    dsimp only
    unfold setsByText
    refine wpAny_bind (wpAny_bind (wpAny_askSetting (wpAny_pure ?_)))
    show wpAny _ _ (if w.params.followText "set-order" = true then _ else _) _ _ _
    rw [if_pos bt]
    refine wpAny_bind (wpAny_askSetting (wpAny_pure (wpAny_pure ?_)))
    show Q (Option.map (fun e => (e.snd, 0)) (pickOrder (w.params.setOrder S ep) es)[given]?) s
    have eo : O.ord[given]? = Option.map (·.2) (pickOrder (w.params.setOrder S ep) es)[given]? := by rw [hor, List.getElem?_map, Array.getElem?_toList]
    cases hp : (pickOrder (w.params.setOrder S ep) es)[given]? with
    | none => rw [hp] at eo; exact h2 eo
    | some x => rw [hp] at eo; exact h _ eo 0 (hfi _)
  · rw [if_neg (by rw [bt]; decide)]
    show wpAny _ _ (if (!t.plain && decide (es.size > 1)) = true then _ else _) _ _ _
    rw [if_neg (by rw [dr]; decide)]
    have hled : t.led = true := by rw [tb.led, bt]; rfl
    refine wpAny_bind ?_
    show wpAny _ _ (if (!t.led && !es.isEmpty) = true then _ else _) _ _ _
    rw [if_neg (by rw [hled]; simp)]
    refine wpAny_pure (wpAny_pure ?_)
    have psz : t.place.size = es.size := by
      unfold SetTable.fits at hf
      simp at hf
      exact hf.1
    have hs2 : slot = if given = 0 then 0 else t.place.getD (given - 1) 0 + 1 := by
      have z := hfi given
      rw [hsl] at z
      exact Int.ofNat.inj (Value.int.inj z).1
    have hbl : SetTable.below t.place slot = given := below_next tb.up (by omega) hs2
    rw [hbl]
    have eo : O.ord[given]? = Option.map (·.2) es[given]? := by rw [hor, List.getElem?_map, Array.getElem?_toList]
    by_cases hlt : given < es.size
    · rw [Array.getElem?_eq_getElem hlt] at eo ⊢
      rw [Array.getElem?_eq_getElem (by omega : given < t.place.size)]
      refine h _ eo _ ?_
      rw [hfi]
      simp only [Nat.add_one_sub_one, Nat.add_eq_zero_iff, Nat.one_ne_zero, and_false, if_false]
      rw [Array.getD_eq_getD_getElem?, Array.getElem?_eq_getElem (by omega : given < t.place.size)]
      rfl
    · rw [Array.getElem?_eq_none (by omega)] at eo ⊢
      exact h2 eo
  · rw [hnt] at ht; cases ht
theorem stop_j {α : Type} {R : α → Shared → Prop} {Ex : Value → Shared → Prop} (hh : A.handled = none) (h : ∀ e h', (∀ b ob, s.heap.get? b = some ob → h'.get? b = some ob) → (∃ ob, h'.get? e = some ob ∧ ob.cls = .type "StopIteration") → Ex (.ref e) { s with heap := h' }) :
    wpAny (model prog w) A (newExc (.type "StopIteration") [] >>= fun e => (raiseNew e : Sem α)) R Ex s := by
  refine wpAny_bind ?_
  simp only [newExc, newTuple]
  refine wpAny_bind (wpAny_newObj_type ?_ (by size_fits))
  refine wpAny_bind (m := firstArgMember _ _) (wpAny_of_eq (a := Value.none) (by first | rfl | (simp only [firstArgMember]; rfl)) ?_)
  refine wpAny_newObj_type ?_ (by size_fits)
  simp only [raiseNew]
  refine wpAny_bind (wpAny_handled ?_)
  rw [hh]
  exact wpAny_bind (wpAny_pure (wpAny_throw (h _ _ (fun b ob z => Heap.get?_push_of_some _ (Heap.get?_push_of_some _ z)) ⟨_, Heap.get?_push_size _ rfl, rfl⟩)))
/-- one step along a set -/
theorem next_j (O : Order w S es ep t T) (hIS : I ≠ S) (hIT : I ≠ T) (hh : A.handled = none) (hd : o.data = .set es ep t) (hf : t.fits es.size = true) (tb : TB t (!w.params.followText "set-order")) {i : Nat} (hi : i ≤ es.size)
    (st : StI S I T o es.size ep O.first O.tup i s.heap) {Q : Option Value → Shared → Prop}
    (h : ∀ x h', O.ord[i]? = some x → StI S I T o es.size ep O.first O.tup (i + 1) h' → (∀ b ob, b ≠ I → s.heap.get? b = some ob → h'.get? b = some ob) → Q (some x) { s with heap := h' })
    (h2 : ∀ h', O.ord[i]? = none → (∀ b ob, b ≠ I → s.heap.get? b = some ob → h'.get? b = some ob) → Q none { s with heap := h' }) : wpAny (model prog w) A (pyNext (.ref I)) Q E s := by
  obtain ⟨ho, hit, htp⟩ := st
  have hT : s.TypeIs (.ref I) "set_iterator" := ⟨_, hit, rfl⟩
  unfold pyNext
  refine wpAny_bind (wpAny_attempt (wpAny_callSpecial?_slot (name := Str.ofString "__next__") hT sti_next (wpAny_call_entry sti_next hT sti_entry ?_ (sti_args _))))
  unfold Builtin.«set_iterator.__next__»
  refine wpAny_bind (wpAny_of_eq (a := (Value.ref I, [])) rfl ?_)
  try dsimp only
  refine wpAny_bind (wpAny_fieldsOf hit rfl ?_)
  show wpAny _ _ (setEntries S >>= _) _ _ _
  refine wpAny_bind (wpAny_setEntries_of ho hd hf ?_)
  show wpAny _ _ (if (((es.size : Nat) : Int) != ((es.size : Nat) : Int)) = true then _ else _) _ _ _
  rw [if_neg (by simp)]
  cases hfst : O.tup with
  | none =>
    have hcase : ∃ slot : Nat, O.first i = rawInt slot := by
      rcases O.how with ⟨_, _, hfi, _⟩ | ⟨_, _, _, hfi, _⟩ | ⟨_, ps, ht, _⟩
      · exact ⟨0, hfi i⟩
      · exact ⟨_, hfi i⟩
      · rw [hfst] at ht; cases ht
    obtain ⟨slot, hsl⟩ := hcase
    rw [hsl] at hit ⊢
    show wpAny _ _ (setNext S slot i ep >>= _) _ _ _
    refine wpAny_bind (setNext_j O hfst ho hd hf tb hsl hi (fun x hx nx hnx => ?_) (fun hx => ?_))
    · show wpAny _ _ (setField (Value.ref I) 0 (rawInt nx) >>= fun _ => setField (Value.ref I) 1 (rawInt ((i : Int) + 1)) >>= fun _ => ret x) _ _ _
      refine wpAny_bind (wpAny_setField_rec hit (by simp) fun h1 e1 b1 => wpAny_bind (wpAny_setField_rec (s := { s with heap := h1 }) e1 (by simp) fun h3 e3 b3 => wpAny_pure ⟨_, rfl, wpAny_pure ?_⟩))
      have kp : ∀ b ob, b ≠ I → s.heap.get? b = some ob → h3.get? b = some ob := fun b ob hb z => b3.extBut b ob hb (b1.extBut b ob hb z)
      refine h x h3 hx ⟨kp S _ (Ne.symm hIS) ho, ?_, fun ps hp => by rw [hfst] at hp; cases hp⟩ kp
      rw [e3, hnx]
      simp [setIt]
    · show wpAny _ _ (setField (Value.ref I) 2 Value.none >>= fun _ => newExc (Value.type "StopIteration") [] >>= fun e => raiseNew e) _ _ _
      refine wpAny_bind (wpAny_setField_rec hit (by simp) fun h1 e1 b1 => stop_j (s := { s with heap := h1 }) hh fun e h3 kp ⟨ob, hob, hc⟩ => ?_)
      refine wpAny_bind (wpAny_isInstance (T := "StopIteration") (b := true) ⟨ob, hob, hc⟩ isSubtype_stop (wpAny_pure ?_))
      exact h2 h3 hx fun b ob hb z => kp b ob (b1.extBut b ob hb z)
  | some ps =>
    have hcase : O.first i = .ref T := by
      rcases O.how with ⟨_, ht, _⟩ | ⟨_, _, ht, _⟩ | ⟨_, qs, ht, _, hfi, _⟩
      · rw [hfst] at ht; cases ht
      · rw [hfst] at ht; cases ht
      · exact hfi i
    rw [hcase] at hit ⊢
    have hTo := htp ps hfst
    obtain ⟨qs, eps, hqp, hfi, hor⟩ : ∃ qs : List Nat, ps = (qs.map fun (i : Nat) => rawInt i).toArray ∧ qs.Perm (List.range es.size) ∧ (∀ i, O.first i = .ref T) ∧ O.ord = qs.filterMap fun i => (es[i]?).map (·.2) := by
      rcases O.how with ⟨_, ht, _⟩ | ⟨_, _, ht, _⟩ | ⟨_, qs, ht, h3, h4, h5⟩
      · rw [hfst] at ht; cases ht
      · rw [hfst] at ht; cases ht
      · rw [hfst] at ht; cases ht; exact ⟨qs, rfl, h3, h4, h5⟩
    have qin : ∀ q ∈ qs, q < es.size := fun q hq => List.mem_range.mp (hqp.mem_iff.mp hq)
    have ogt : ∀ n : Nat, O.ord[n]? = (qs[n]?).bind fun q => (es[q]?).map (·.2) := by
      rw [hor]
      clear hor eps hqp hTo hfst
      induction qs with
      | nil => intro n; simp
      | cons q qs ih =>
        intro n
        have hq := qin q List.mem_cons_self
        rw [List.filterMap_cons_some (b := es[q].2) (by rw [Array.getElem?_eq_getElem hq]; rfl)]
        cases n with
        | zero => simp [Array.getElem?_eq_getElem hq]
        | succ n => simpa using ih (fun z hz => qin z (List.mem_cons_of_mem _ hz)) n
    show wpAny _ _ (seqItems? (Value.ref T) >>= _) _ _ _
    refine wpAny_bind (wpAny_seqItems hTo rfl ?_)
    have epi : ps[((i : Nat) : Int).toNat]? = (qs[i]?).map fun (q : Nat) => rawInt q := by rw [eps]; simp
    show wpAny _ _ (match ps[((i : Nat) : Int).toNat]? with | some (Value.int place tok) => _ | some val => _ | none => _) _ _ _
    rw [epi]
    cases hqi : qs[i]? with
    | some q =>
      have hql := qin q (List.mem_of_getElem? hqi)
      show wpAny _ _ (setNextDrawn S q ep >>= fun x => setField (Value.ref I) 1 (rawInt ((i : Int) + 1)) >>= fun _ => ret x) _ _ _
      refine wpAny_bind ?_
      unfold setNextDrawn
      refine wpAny_bind (wpAny_setState_of ho hd hf ?_)
      dsimp only
      rw [if_neg (by simp)]
      refine wpAny_bind (wpAny_pure ?_)
      rw [Array.getElem?_eq_getElem hql]
      refine wpAny_pure ?_
      show wpAny _ _ (setField (Value.ref I) 1 (rawInt ((i : Int) + 1)) >>= fun _ => ret es[q].2) _ _ _
      refine wpAny_bind (wpAny_setField_rec hit (by simp) fun h3 e3 b3 => wpAny_pure ⟨_, rfl, wpAny_pure ?_⟩)
      refine h _ h3 (by rw [ogt, hqi]; simp [Array.getElem?_eq_getElem hql]) ⟨b3.extBut S _ (Ne.symm hIS) ho, ?_, fun qs' hp => b3.extBut T _ (Ne.symm hIT) (htp qs' hp)⟩ fun b ob hb z => b3.extBut b ob hb z
      rw [e3, hfi]
      simp [setIt]
    | none =>
      show wpAny _ _ (setField (Value.ref I) 0 (rawInt 0) >>= fun _ => setField (Value.ref I) 2 Value.none >>= fun _ => newExc (Value.type "StopIteration") [] >>= fun e => raiseNew e) _ _ _
      refine wpAny_bind (wpAny_setField_rec hit (by simp) fun h0 e0 b0 => wpAny_bind (wpAny_setField_rec (s := { s with heap := h0 }) e0 (by simp) fun h1 e1 b1 => stop_j (s := { s with heap := h1 }) hh fun e h3 kp ⟨ob, hob, hc⟩ => ?_))
      refine wpAny_bind (wpAny_isInstance (T := "StopIteration") (b := true) ⟨ob, hob, hc⟩ isSubtype_stop (wpAny_pure ?_))
      exact h2 h3 (by rw [ogt, hqi]; rfl) fun b ob hb z => kp b ob (b1.extBut b ob hb (b0.extBut b ob hb z))
theorem order_len (O : Order w S es ep t T) : O.ord.length = es.size := by rw [O.perm.length_eq]; simp
/-- a set gone along -/
theorem walks_j (O : Order w S es ep t T) (hIS : I ≠ S) (hIT : I ≠ T) (hh : A.handled = none) (hd : o.data = .set es ep t) (hf : t.fits es.size = true) (tb : TB t (!w.params.followText "set-order")) :
    Walks prog w A I [I, S, T] [I] es.size (fun i v => O.ord[i]? = some v) (fun i h => i ≤ es.size ∧ StI S I T o es.size ep O.first O.tup i h) where
  sub := fun b hb => by rw [List.mem_singleton.mp hb]; simp
  frame := fun i h h' x k => ⟨x.1, k S (by simp) _ x.2.1, k I (by simp) _ x.2.2.1, fun ps hp => k T (by simp) _ (x.2.2.2 ps hp)⟩
  item := fun i s Q E hi x hQ => next_j O hIS hIT hh hd hf tb x.1 x.2 (fun v h' hv st kp => hQ v h' s.toks hv ⟨hi, st⟩ fun b ob hb z => kp b ob (by simpa using hb) z) (fun h' hn _ => by
    rw [List.getElem?_eq_none_iff, order_len O] at hn
    omega)
  done := fun s Q E x hQ => next_j O hIS hIT hh hd hf tb x.1 x.2 (fun v h' hv _ _ => by
    have := (List.getElem?_eq_some_iff.mp hv).1
    rw [order_len O] at this
    omega) (fun h' _ kp => hQ h' s.toks fun b ob hb z => kp b ob (by simpa using hb) z)
  self := fun i s Q E x hQ => by
    have hT : s.TypeIs (.ref I) "set_iterator" := ⟨_, x.2.2.1, rfl⟩
    refine wpAny_pyIter_slot hT sti_iter (wpAny_call_entry sti_iter hT sti_ientry ?_ (sti_iargs _))
    show wpAny _ _ (ret (.ref I)) _ _ s
    exact wpAny_pure ⟨_, rfl, "set_iterator", _, hT, sti_next.lookup, hQ⟩
end
end L2

set_option Elab.async false
set_option linter.all false
set_option maxRecDepth 100000
set_option maxHeartbeats 4000000
namespace L2
open PySem PySem.Spec PyProof.Rows
section
variable {prog : Program} {w : World} {A : Around} {E : Value → Shared → Prop} {s : Shared} {S I T : Addr} {o : Obj} {es : Array (Int × Value)} {ep : Nat} {t : SetTable}
/-- iter(a set) -/
theorem iter_j {Q : Value → Shared → Prop} (ho : s.heap.get? S = some o) (hx : o.ExactSet) (hd : o.data = .set es ep t) (hf : t.fits es.size = true) (hb : es.size < scanBound)
    (h : ∀ (T I : Addr) (O : Order w S es ep t T) h' d', I ≠ S → I ≠ T → s.heap.objs.size ≤ I → (T = S ∨ s.heap.objs.size ≤ T) → StI S I T o es.size ep O.first O.tup 0 h' → (∀ b ob, s.heap.get? b = some ob → h'.get? b = some ob) → Q (.ref I) { s with heap := h', drawn := d' }) :
    wpAny (model prog w) A (pyIter (.ref S)) Q E s := by
  have hT : s.TypeIs (.ref S) "set" := ⟨o, ho, hx.1⟩
  have hSl : S < s.heap.objs.size := Heap.lt_size ho
  refine wpAny_pyIter_slot hT PySem.F.slot_set_iter (wpAny_call_entry PySem.F.slot_set_iter hT st_ientry ?_ (PySem.F.args_set_iter_1 _))
  unfold Builtin.«frozenset.__iter__» Builtin.Frozenset.slot0 slotArgs
  simp only [List.isEmpty_nil, Bool.not_true, Bool.false_eq_true, ↓reduceIte, bind_assoc, List.length_nil, bne_self_eq_false]
  unfold Builtin.Frozenset.addrOf Builtin.Frozenset.sizeOf
  refine wpAny_bind (wpAny_pure ?_)
  try dsimp only
  refine wpAny_bind (wpAny_pure ?_)
  refine wpAny_bind (wpAny_bind (wpAny_setEntries_of ho hd hf (wpAny_pure ?_)))
  unfold setDrawn
  refine wpAny_bind (wpAny_bind (wpAny_setState_of ho hd hf ?_))
  dsimp only
  unfold setsByText
  refine wpAny_bind (wpAny_bind (wpAny_askSetting (wpAny_pure (wpAny_pure ?_))))
  show wpAny _ _ (if (!w.params.followText "set-order" && (!t.plain && decide (es.size > 1))) = true then _ else _) _ _ _
  have easy : ∀ (O : Order w S es ep t S), O.tup = none → O.first 0 = rawInt 0 → wpAny (model prog w) A.in1 (do
      let first ← pure (rawInt 0)
      let e ← setEpoch S
      let z ← newFields "set_iterator" [first, rawInt 0, Value.ref S, rawInt es.size, rawInt e]
      ret z) (fun fin s' => ∃ v, fin = Fin.done (Flow.ret v) ∧ ∃ T' r, s'.TypeIs v T' ∧ typeLookup (Value.type T') (Str.ofString "__next__") = pure (some r) ∧ Q v s') E s := fun O ht hf0 => by
    refine wpAny_bind (wpAny_pure (wpAny_bind (wpAny_setEpoch_of ho hd hf ?_)))
    unfold newFields
    refine wpAny_bind (wpAny_newObj_type (wpAny_pure ⟨_, rfl, "set_iterator", _, ⟨_, Heap.get?_push_size _ rfl, rfl⟩, sti_next.lookup, ?_⟩))
    refine h S _ O _ s.drawn (Nat.ne_of_gt hSl) (Nat.ne_of_gt hSl) (Nat.le_refl _) (.inl rfl) ⟨Heap.get?_push_of_some _ ho, ?_, fun ps hp => by rw [ht] at hp; cases hp⟩ (fun b ob z => Heap.get?_push_of_some _ z)
    rw [hf0]
    exact Heap.get?_push_size _ rfl
  cases bt : w.params.followText "set-order" with
  | true =>
    rw [if_neg (by simp)]
    exact easy ⟨_, fun _ => rawInt 0, none, (pick_perm _ es).map _, .inl ⟨bt, rfl, fun _ => rfl, rfl⟩⟩ rfl rfl
  | false =>
    cases dr : (!t.plain && decide (es.size > 1)) with
    | false =>
      rw [if_neg (by simp)]
      exact easy ⟨_, fun i => rawInt ((if i = 0 then 0 else t.place.getD (i - 1) 0 + 1 : Nat) : Int), none, .refl _, .inr (.inl ⟨bt, dr, rfl, fun _ => rfl, rfl⟩)⟩ rfl rfl
    | true =>
      rw [if_pos (by simp)]
      refine wpAny_bind (drawOrder_perm es.size _ s (by simp) fun ps d' hp => ?_)
      refine wpAny_bind (wpAny_newTuple (wpAny_bind (wpAny_setEpoch_of (Heap.get?_push_of_some _ ho) hd hf ?_)) (hsz := by rw [List.length_map, hp.length_eq, List.length_range]; exact fits_of_scanBound hb))
      unfold newFields
      refine wpAny_bind (wpAny_newObj_type (wpAny_pure ⟨_, rfl, "set_iterator", _, ⟨_, Heap.get?_push_size _ rfl, rfl⟩, sti_next.lookup, ?_⟩))
      have hpm : (ps.filterMap fun i => (es[i]?).map (·.2)).Perm (es.toList.map (·.2)) := by
        have e1 := hp.filterMap fun i => (es[i]?).map (·.2)
        have e2 : (List.range es.size).filterMap (fun i => (es[i]?).map (·.2)) = es.toList.map (·.2) := by
          rw [← List.map_filterMap, filterMap_getElem?_range]
        rw [e2] at e1
        exact e1
      refine h s.heap.objs.size _ ⟨_, fun _ => .ref s.heap.objs.size, some (ps.map fun (i : Nat) => rawInt i).toArray, hpm, .inr (.inr ⟨bt, ps, rfl, hp, fun _ => rfl, rfl⟩)⟩ _ d' ?_ ?_ ?_ (.inr (Nat.le_refl _)) ⟨Heap.get?_push_of_some _ (Heap.get?_push_of_some _ ho), Heap.get?_push_size _ rfl, fun qs hq => ?_⟩ (fun b ob z => Heap.get?_push_of_some _ (Heap.get?_push_of_some _ z))
      · rw [Heap.size_push]; exact Nat.ne_of_gt (Nat.lt_succ_of_lt hSl)
      · rw [Heap.size_push]; exact Nat.ne_of_gt (Nat.lt_succ_self _)
      · rw [Heap.size_push]; exact Nat.le_succ _
      · cases hq; exact Heap.get?_push_of_some _ (Heap.get?_push_size _ rfl)
/-- the members of a set, collected -/
theorem collect_set {R : List Value → Shared → Prop} (hh : A.handled = none) (ho : s.heap.get? S = some o) (hx : o.ExactSet) (hd : o.data = .set es ep t) (hf : t.fits es.size = true) (hb : es.size < scanBound) (tb : TB t (!w.params.followText "set-order"))
    (hR : ∀ (vs : List Value) (h' : Heap) (tk : Nat) (d' : Drawn), vs.Perm (es.toList.map (·.2)) → (∀ b ob, s.heap.get? b = some ob → h'.get? b = some ob) → R vs { s with heap := h', toks := tk, drawn := d' }) : wpAny (model prog w) A (collect (.ref S)) R E s := by
  have hSl : S < s.heap.objs.size := Heap.lt_size ho
  unfold collect
  refine wpAny_bind (wpAny_runValue (codeAny_builtin PySem.F.entry_proto_collect ?_))
  rw [Around.under_plainId PySem.F.plain_proto_collect _]
  show wpAny _ A.in1 (newList [] >>= fun q => again (.builtin "list.__iadd__" ⟨[q, .ref S], []⟩)) _ _ s
  refine wpAny_bind (wpAny_newObj_type (wpAny_pure ⟨plainId_quiet PySem.F.plain_list_iadd _, codeAny_builtin PySem.F.entry_list_iadd ?_⟩))
  rw [Around.under_plainId PySem.F.plain_list_iadd _]
  have g2 : (s.heap.push { cls := .type "list", data := .seq ([] : List Value).toArray }).get? s.heap.objs.size = some { cls := .type "list", data := .seq ([] : List Value).toArray } := Heap.get?_push_size _ rfl
  have ho1 : (s.heap.push { cls := .type "list", data := .seq ([] : List Value).toArray }).get? S = some o := Heap.get?_push_of_some _ ho
  have g3 : Builtin.List.listSameRef (.ref s.heap.objs.size) (.ref S) = false := by simp [Builtin.List.listSameRef, Nat.ne_of_gt hSl]
  show wpAny _ A.in1 (Builtin.List.listExtendWith (.ref s.heap.objs.size) (.ref S) (.ref s.heap.objs.size)) _ _ _
  unfold Builtin.List.listExtendWith
  refine wpAny_bind (wpAny_typeOf (T := "set") ⟨o, ho1, hx.1⟩ ?_)
  rw [if_neg (by rw [g3]; decide)]
  refine wpAny_bind (iter_j ho1 hx hd hf hb fun T I O h1 d1 hIS hIT hIs hTs st kp => ?_)
  refine wpAny_bind (wpAny_holding ?_)
  unfold Builtin.List.listLengthHint
  refine wpAny_bind (wpAny_specialOf (T := "set") ⟨o, kp _ _ ho1, hx.1⟩ PySem.F.slot_set_len.lookup ?_)
  generalize hid : ("set.__len__" : String) = id0
  wp_delta
  rw [show splitId id0 = some ("set", "__len__") from by subst hid; decide +kernel]
  subst hid
  refine wpAny_bind (wpAny_isInstance (T := "set") (b := true) ⟨o, kp _ _ ho1, hx.1⟩ (by rw [isSubtype_type]; kernel_rfl) ?_)
  refine wpAny_ite_split (fun z => absurd z (by decide)) (fun _ => ?_)
  refine wpAny_ite_split (fun _ => ?_) (fun z => absurd (by decide +kernel) z)
  refine wpAny_bind (wpAny_typeOf (T := "set") ⟨o, kp _ _ ho1, hx.1⟩ (wpAny_pure ?_))
  refine wpAny_ite_split (fun _ => ?_) (fun z => absurd (by decide +kernel) z)
  refine wpAny_bind (wpAny_rule (wpAny_bind ?_))
  have hIs' : s.heap.objs.size < I := by rw [Heap.size_push] at hIs; exact hIs
  have hI0 : I ≠ s.heap.objs.size := Nat.ne_of_gt hIs'
  have hT0 : T ≠ s.heap.objs.size := by
    rcases hTs with z | z
    · rw [z]; exact Nat.ne_of_lt hSl
    · rw [Heap.size_push] at z; exact Nat.ne_of_gt z
  have hS0 : S ≠ s.heap.objs.size := Nat.ne_of_lt hSl
  have gl := kp _ _ g2
  show wpAny _ _ (updateSeq s.heap.objs.size (·.push .none) >>= fun _ => updateSeq s.heap.objs.size (·.pop)) _ _ _
  refine wpAny_bind (wpAny_updateSeq gl rfl ?_)
  have gl2 := Heap.get?_update_self (Obj.mapSeq (·.push Value.none)) gl rfl
  refine wpAny_updateSeq (hz := by seq_fits) gl2 rfl ?_
  have gl3 := Heap.get?_update_self (Obj.mapSeq (·.pop)) gl2 rfl
  have oth : ∀ b ob, b ≠ s.heap.objs.size → h1.get? b = some ob → ((h1.update s.heap.objs.size (Obj.mapSeq (·.push Value.none))).update s.heap.objs.size (Obj.mapSeq (·.pop))).get? b = some ob := fun b ob hb z =>
    (Heap.get?_update_other _ _ (Ne.symm hb)).trans ((Heap.get?_update_other _ _ (Ne.symm hb)).trans z)
  have Wk := (walks_j (prog := prog) (A := A.in1) O hIS hIT hh hd hf tb).toS
  refine wpAny_pure ⟨plainId_quiet PySem.F.plain_extend_loop _, codeAny_extend_loopS Wk (fits_of_scanBound hb) s.heap.objs.size (by simp [Ne.symm hI0, Ne.symm hT0, Ne.symm hS0]) _ es.size 0 _ #[] _ rfl (Nat.zero_le _)
    ⟨Nat.zero_le _, oth _ _ hS0 st.1, oth _ _ hI0 st.2.1, fun ps hp => oth _ _ hT0 (st.2.2 ps hp)⟩ gl3 (ItemsOf.nil _) fun s' acc' c' hm hS' hacc => ?_⟩
  show wpAny _ A (load s.heap.objs.size >>= _) _ _ s'
  refine wpAny_bind (wpAny_load hS' (wpAny_pure ?_))
  have ea : acc'.toList = O.ord := by
    apply List.ext_getElem?
    intro i
    by_cases hi : i < es.size
    · have hl : i < acc'.size := by rw [hacc.1]; exact hi
      rw [Array.getElem?_toList, Array.getElem?_eq_getElem hl]
      exact (hacc.2 i _ (Array.getElem?_eq_getElem hl)).symm
    · rw [List.getElem?_eq_none (by rw [Array.length_toList, hacc.1]; omega), List.getElem?_eq_none (by rw [order_len O]; omega)]
  rw [ea]
  have := hR O.ord s'.heap s'.toks s'.drawn O.perm fun b ob z => ?_
  · obtain ⟨h9, g9, d9, t9, o9⟩ := s'
    have eg : g9 = s.gens := hm.gens
    have eo : o9 = s.os := hm.os
    subst eg eo
    exact this
  · have hb0 : b < s.heap.objs.size := Heap.lt_size z
    refine hm.heap b ob ?_ (oth b ob (Nat.ne_of_lt hb0) (kp b ob (Heap.get?_push_of_some _ z)))
    simp only [List.mem_cons, List.not_mem_nil, or_false, not_or]
    exact ⟨Nat.ne_of_lt hb0, Nat.ne_of_lt (Nat.lt_trans hb0 hIs')⟩
end
theorem Inv.keptD {X : Cx} {pins : List (Addr × Obj)} {σ : St} {H : Hp} {s : Shared} {h' : Heap} {t' : Nat} {d' : Drawn} (I : Inv X pins σ H s) (k : ∀ b u, s.heap.get? b = some u → h'.get? b = some u) : Inv X pins σ H { s with heap := h', toks := t', drawn := d' } :=
  I.step (g' := s.gens) (d' := d') (ch := []) (fun _ z => nomatch z) (fun b o _ _ _ e _ => k b o e) (fun b o _ _ _ e _ => ⟨o.slots, k b o e⟩) (fun _ _ _ _ n => n) (fun b o _ e => ⟨o, k b o e⟩) (fun _ _ e => e) (fun _ _ _ e => e) (fun b ps e => ⟨#[], by rw [e]; simp⟩)
    (fun m hm => by obtain ⟨o, es, ep, ho, r⟩ := hm; exact ⟨o, es, ep, k _ o ho, r⟩) (I.hok.kept k) I.bare
theorem boot_set : bootBuiltins "set" = some (.type "set") := by decide +kernel
theorem boot_sortedX : bootBuiltins "sorted" = some (.builtin "sorted") := by decide +kernel
section
variable {X : Cx}
end
end L2

set_option Elab.async false
set_option linter.all false
set_option maxRecDepth 100000
set_option maxHeartbeats 4000000
namespace L2
open PySem PySem.Spec PyProof.Rows
section
variable {prog : Program} {w : World} {A : Around} {R : Result → Shared → Prop} {s : Shared}
end
section
variable {X : Cx}
end
end L2

set_option Elab.async false
set_option linter.all false
set_option maxRecDepth 100000
set_option maxHeartbeats 1000000
namespace L2
open PySem PySem.Spec PyProof.Rows
section
variable {X : Cx}
end
end L2

set_option Elab.async false
set_option linter.all false
set_option maxRecDepth 100000
set_option maxHeartbeats 1000000
namespace L2
open PySem PySem.Spec PyProof.Rows
section
variable {X : Cx}
end
section
variable {X : Cx}
end
end L2

set_option Elab.async false
set_option linter.all false
set_option maxRecDepth 100000
set_option maxHeartbeats 1000000
namespace Toy
open PySem L2 PyProof.Rows
abbrev Wl := List (Int × List Int)
def Adj : List (List Int) → Prop
  | a :: b :: r => a ≠ b ∧ Adj (b :: r)
  | _ => True
theorem adj_take : ∀ {A : List (List Int)} (n : Nat), Adj A → Adj (A.take n)
  | _, 0, _ => by rw [List.take_zero]; trivial
  | [], n + 1, _ => trivial
  | [a], n + 1, _ => by rw [List.take_succ_cons, List.take_nil]; trivial
  | a :: b :: r, 1, _ => trivial
  | a :: b :: r, n + 2, ⟨h1, h2⟩ => by
    have := adj_take (n + 1) h2
    rw [List.take_succ_cons] at this
    rw [List.take_succ_cons, List.take_succ_cons]
    exact ⟨h1, this⟩
structure Nrm (wd : Nat) (L : Wl) : Prop where
  pos : ∀ e ∈ L, 1 ≤ e.1
  wid : ∀ e ∈ L, e.2.length = wd
  adj : Adj (L.map (·.2))
theorem Nrm.take {wd : Nat} {L : Wl} (h : Nrm wd L) (n : Nat) : Nrm wd (L.take n) :=
  ⟨fun e he => h.pos e (List.mem_of_mem_take he), fun e he => h.wid e (List.mem_of_mem_take he), by rw [List.map_take]; exact adj_take n h.adj⟩
end Toy

set_option Elab.async false
set_option linter.all false
set_option maxRecDepth 100000
set_option maxHeartbeats 1000000
namespace L2
open PySem PySem.Spec PyProof.Rows
section
variable {prog : Program} {w : World} {A : Around} {E : Value → Shared → Prop} {s : Shared}
end
section
variable {prog : Program} {w : World} {A : Around} {E : Value → Shared → Prop} {s : Shared}
end
section
variable {X : Cx}
end
end L2

set_option Elab.async false
set_option linter.all false
set_option maxRecDepth 100000
set_option maxHeartbeats 1000000
namespace L2
open PySem PySem.Spec PyProof.Rows
section
variable {X : Cx}
end
end L2

set_option Elab.async false
set_option linter.all false
set_option maxRecDepth 100000
set_option maxHeartbeats 1000000
namespace L2
open PySem PySem.Spec PyProof.Rows
section
variable {prog : Program} {w : World} {A : Around} {E : Value → Shared → Prop} {s : Shared} {T : String} {r d : Addr} {n : Nat} {Pr : Nat → Value → Prop} {OK : Heap → Prop}
end
section
variable {X : Cx}
end
end L2

set_option Elab.async false
set_option linter.all false
set_option maxRecDepth 100000
set_option maxHeartbeats 1000000
namespace L2
open PySem PySem.Spec PyProof.Rows
/-- the rank of what stands at a place -/
def RK (rk : Value → Int) (xs : Array Keyed) (i : Nat) : Int := match xs[i]? with
  | some p => rk p.1
  | none => 0
theorem RK_of {rk : Value → Int} {xs ys : Array Keyed} {i j : Nat} (h : xs[i]? = ys[j]?) : RK rk xs i = RK rk ys j := by unfold RK; rw [h]
theorem RK_bub {rk : Value → Int} {xs : Array Keyed} {a d : Nat} (ha : a < xs.size) (hd : d ≤ a) (k : Nat) : RK rk (bubble xs a d) k = if k = a - d then RK rk xs a else if a - d < k ∧ k ≤ a then RK rk xs (k - 1) else RK rk xs k := by
  have z := getElem?_bubble ha d hd k
  split
  · rename_i h; rw [if_pos h] at z; exact RK_of z
  · rename_i h
    rw [if_neg h] at z
    split
    · rename_i g; rw [if_pos g] at z; exact RK_of z
    · rename_i g; rw [if_neg g] at z; exact RK_of z
theorem RK_mir {rk : Value → Int} {xs : Array Keyed} {a b : Nat} (hb : b ≤ xs.size) (k : Nat) : RK rk (mirror xs a b ((b - a) / 2)) k = if a ≤ k ∧ k < b then RK rk xs (a + b - 1 - k) else RK rk xs k := by
  have z := getElem?_mirror_all (i := a) hb k
  split
  · rename_i h; rw [if_pos h] at z; exact RK_of z
  · rename_i h; rw [if_neg h] at z; exact RK_of z
/-- what stays while it is sorted -/
structure SB (k0 : SortKind) (a0 : Array Keyed) (st : SortSt) : Prop where
  pm : (arrOf st).Perm a0
  kd : kindOf st = k0
  fl : failedOf st = none
  pn : pendingOf st = #[]
theorem SB.sz {k0 : SortKind} {a0 : Array Keyed} {st : SortSt} (b : SB k0 a0 st) : (arrOf st).size = a0.size := b.pm.size_eq
theorem SB.put {k0 : SortKind} {a0 xs : Array Keyed} {st : SortSt} (b : SB k0 a0 st) (p : xs.Perm (arrOf st)) : SB k0 a0 (setArr st xs) := ⟨p.trans b.pm, b.kd, b.fl, b.pn⟩
def LtOk (prog : Program) (w : World) (A : Around) (s : Shared) (k0 : SortKind) (a0 : Array Keyed) (rk : Value → Int) : Prop :=
  ∀ (E : Value → Shared → Prop) (x y : Keyed) (Q : Bool → Shared → Prop), x ∈ a0.toList → y ∈ a0.toList → Q (decide (rk x.1 < rk y.1)) s → wpAny (model prog w) A (keyLt' k0 x.1 y.1) Q E s
section
variable {prog : Program} {w : World} {A : Around} {E : Value → Shared → Prop} {s : Shared} {k0 : SortKind} {a0 : Array Keyed} {rk : Value → Int}
theorem SB.got {st : SortSt} (b : SB k0 a0 st) {i : Nat} (hi : i < a0.size) : ∃ x, (arrOf st)[i]? = some x ∧ x ∈ a0.toList ∧ RK rk (arrOf st) i = rk x.1 := by
  have hi' : i < (arrOf st).size := by rw [b.sz]; exact hi
  have z := Array.getElem?_eq_getElem hi'
  refine ⟨_, z, (Array.perm_iff_toList_perm.mp b.pm).subset (Array.getElem_mem_toList hi'), ?_⟩
  unfold RK
  rw [z]
theorem lt_at (hL : LtOk prog w A s k0 a0 rk) {st : SortSt} (b : SB k0 a0 st) {i j : Nat} (hi : i < a0.size) (hj : j < a0.size) {Q : Option Bool → SortSt → Prop}
    (h : Q (some (decide (RK rk (arrOf st) i < RK rk (arrOf st) j))) st) : wpS (model prog w) A E s (ltAt' i j) Q st := by
  obtain ⟨x, ex, mx, rx⟩ := b.got (rk := rk) hi
  obtain ⟨y, ey, my, ry⟩ := b.got (rk := rk) hj
  rw [rx, ry] at h
  rw [ltAt'_eq]
  refine wpS_bind (wpS_get ?_)
  dsimp only
  rw [elem'_eq, elem'_eq, ex, ey]
  refine wpS_bind (wpS_pure (wpS_bind (wpS_pure ?_)))
  rw [lt'_eq]
  refine wpS_bind (wpS_get (wpS_bind (wpS_lift (wpAny_attempt ?_))))
  rw [b.kd]
  exact hL _ x y _ mx my ⟨rfl, wpS_pure h⟩
theorem asc_ok (hL : LtOk prog w A s k0 a0 rk) {st : SortSt} (b : SB k0 a0 st) {f m : Nat} (hm : m ≤ a0.size) (f1 : 1 ≤ f) (fm : f ≤ m) {Q : AscSt → SortSt → Prop} (up : ∀ i j, i ≤ j → j < f → RK rk (arrOf st) i ≤ RK rk (arrOf st) j)
    (h : ∀ n, f ≤ n → n ≤ m → (∀ i j, i ≤ j → j < n → RK rk (arrOf st) i ≤ RK rk (arrOf st) j) → (n = m ∨ RK rk (arrOf st) n < RK rk (arrOf st) (n - 1)) → Q (none, n) st) : wpS (model prog w) A E s (ascLoop f m) Q st := by
  unfold ascLoop
  refine wpS_forRange (fun n c t => t = st ∧ c = (none, n) ∧ ∀ i j, i ≤ j → j < n → RK rk (arrOf st) i ≤ RK rk (arrOf st) j) ?_ ?_ ⟨rfl, rfl, up⟩
  · rintro n c t fn nm ⟨rfl, rfl, u⟩
    refine wpS_bind (lt_at hL b (by omega) (by omega) ?_)
    dsimp only
    by_cases z : RK rk (arrOf t) n < RK rk (arrOf t) (n - 1)
    · rw [decide_eq_true z, if_pos rfl]
      exact wpS_pure (h n fn (by omega) u (.inr z))
    · rw [decide_eq_false z, if_neg (by simp)]
      refine wpS_pure ⟨rfl, rfl, fun i j ij jn => ?_⟩
      rcases Nat.lt_or_eq_of_le (Nat.le_of_lt_succ jn) with q | rfl
      · exact u i j ij q
      · rcases Nat.lt_or_eq_of_le ij with q | rfl
        · have := u i (j - 1) (by omega) (by omega)
          omega
        · exact Int.le_refl _
  · rintro c t ⟨rfl, rfl, u⟩
    rw [Nat.max_eq_right fm] at u ⊢
    exact h m fm (Nat.le_refl _) u (.inl rfl)
/-- behind a falling run -/
theorem tail_ok (hL : LtOk prog w A s k0 a0 rk) {st : SortSt} (b : SB k0 a0 st) {n m : Nat} (hm : m ≤ a0.size) (n1 : 1 ≤ n) (nm : n ≤ m) {Q : Option Nat → SortSt → Prop} (dn : ∀ i j, i ≤ j → j < n → RK rk (arrOf st) j ≤ RK rk (arrOf st) i)
    (h : ∀ r t, SB k0 a0 t → 1 ≤ r → r ≤ m → (∀ i j, i ≤ j → j < r → RK rk (arrOf t) i ≤ RK rk (arrOf t) j) → Q (some r) t) : wpS (model prog w) A E s (tail3 n m) Q st := by
  unfold tail3
  refine wpS_bind (wpS_reverse ?_)
  have b2 := b.put (mirror_perm (arrOf st) 0 n ((n - 0) / 2))
  have hn : n ≤ (arrOf st).size := by rw [b.sz]; omega
  refine wpS_bind (asc_ok hL b2 hm n1 nm (fun i j ij jn => ?_) fun r nr rm u _ => wpS_pure (h r _ b2 (by omega) rm u))
  have z1 := RK_mir (rk := rk) (xs := arrOf st) (a := 0) hn i
  have z2 := RK_mir (rk := rk) (xs := arrOf st) (a := 0) hn j
  rw [if_pos ⟨Nat.zero_le _, by omega⟩] at z1
  rw [if_pos ⟨Nat.zero_le _, jn⟩] at z2
  have z3 := dn (0 + n - 1 - j) (0 + n - 1 - i) (by omega) (by omega)
  rw [← z1, ← z2] at z3
  exact z3
theorem mir_same {xs : Array Keyed} {a b : Nat} (hb : b ≤ xs.size) (e : ∀ i, a ≤ i → i < b → RK rk xs i = RK rk xs (b - 1)) (k : Nat) : RK rk (mirror xs a b ((b - a) / 2)) k = RK rk xs k := by
  rw [RK_mir hb]
  split
  · rename_i h
    rw [e k h.1 h.2]
    exact e _ (by omega) (by omega)
  · rfl
theorem desc_ok (hL : LtOk prog w A s k0 a0 rk) {st : SortSt} (b : SB k0 a0 st) {f m : Nat} (hm : m ≤ a0.size) (f1 : 1 ≤ f) (fm : f ≤ m) {Q : DescSt → SortSt → Prop} (dn : ∀ i j, i ≤ j → j < f → RK rk (arrOf st) j ≤ RK rk (arrOf st) i)
    (h : ∀ n q t, SB k0 a0 t → f ≤ n → n ≤ m → (∀ i j, i ≤ j → j < n → RK rk (arrOf t) j ≤ RK rk (arrOf t) i) → q + 1 ≤ n → (∀ i, n - (q + 1) ≤ i → i < n → RK rk (arrOf t) i = RK rk (arrOf t) (n - 1)) → Q (none, n, q) t) : wpS (model prog w) A E s (descLoop f m) Q st := by
  unfold descLoop
  refine wpS_forRange (fun n c t => ∃ q, c = (none, n, q) ∧ SB k0 a0 t ∧ (∀ i j, i ≤ j → j < n → RK rk (arrOf t) j ≤ RK rk (arrOf t) i) ∧ q + 1 ≤ n ∧ ∀ i, n - (q + 1) ≤ i → i < n → RK rk (arrOf t) i = RK rk (arrOf t) (n - 1)) ?_ ?_ ⟨0, rfl, b, dn, f1, fun i h1 h2 => by rw [show i = f - 1 by omega]⟩
  · rintro n c t fn nm ⟨q, rfl, bt, d, qn, e⟩
    dsimp only
    refine wpS_bind (lt_at hL bt (by omega) (by omega) ?_)
    dsimp only
    have ext : ∀ xs : Array Keyed, (∀ k, RK rk xs k = RK rk (arrOf t) k) → RK rk (arrOf t) n ≤ RK rk (arrOf t) (n - 1) → ∀ i j, i ≤ j → j < n + 1 → RK rk xs j ≤ RK rk xs i := fun xs hx le i j ij jn => by
      rw [hx, hx]
      rcases Nat.lt_or_eq_of_le (Nat.le_of_lt_succ jn) with z | rfl
      · exact d i j ij z
      · rcases Nat.lt_or_eq_of_le ij with z | rfl
        · have := d i (j - 1) (by omega) (by omega)
          omega
        · exact Int.le_refl _
    by_cases z : RK rk (arrOf t) n < RK rk (arrOf t) (n - 1)
    · rw [decide_eq_true z, if_pos rfl]
      by_cases q0 : q > 0
      · rw [if_pos q0]
        have hn : n ≤ (arrOf t).size := by rw [bt.sz]; omega
        exact wpS_bind (wpS_reverse (wpS_pure ⟨0, rfl, bt.put (mirror_perm _ _ _ _), ext _ (mir_same hn e) (Int.le_of_lt z), by omega, fun i h1 h2 => by rw [show i = n + 1 - 1 by omega]⟩))
      · rw [if_neg q0]
        exact wpS_pure ⟨0, rfl, bt, ext _ (fun _ => rfl) (Int.le_of_lt z), by omega, fun i h1 h2 => by rw [show i = n + 1 - 1 by omega]⟩
    · rw [decide_eq_false z, if_neg (by simp)]
      refine wpS_bind (lt_at hL bt (by omega) (by omega) ?_)
      dsimp only
      by_cases y : RK rk (arrOf t) (n - 1) < RK rk (arrOf t) n
      · rw [decide_eq_true y, if_pos rfl]
        exact wpS_pure (h n q t bt fn (by omega) d qn e)
      · rw [decide_eq_false y, if_neg (by simp)]
        have same : RK rk (arrOf t) n = RK rk (arrOf t) (n - 1) := by omega
        refine wpS_pure ⟨q + 1, rfl, bt, ext _ (fun _ => rfl) (by omega), by omega, fun i h1 h2 => ?_⟩
        rw [Nat.add_sub_cancel]
        rcases Nat.lt_or_eq_of_le (Nat.le_of_lt_succ h2) with x | rfl
        · rw [same]; exact e i (by omega) x
        · rfl
  · rintro c t ⟨q, rfl, bt, d, qn, e⟩
    rw [Nat.max_eq_right fm] at d qn e ⊢
    exact h m q t bt fm (Nat.le_refl _) d qn e
theorem part_ok (hL : LtOk prog w A s k0 a0 rk) {st : SortSt} (b : SB k0 a0 st) {n m : Nat} (hm : m ≤ a0.size) (nm : n + 1 ≤ m) {Q : Option Nat → SortSt → Prop} (dn : ∀ i j, i ≤ j → j < n + 1 → RK rk (arrOf st) j ≤ RK rk (arrOf st) i)
    (h : ∀ r t, SB k0 a0 t → 1 ≤ r → r ≤ m → (∀ i j, i ≤ j → j < r → RK rk (arrOf t) i ≤ RK rk (arrOf t) j) → Q (some r) t) : wpS (model prog w) A E s (descPart n m) Q st := by
  unfold descPart
  refine wpS_bind (wpS_lift (wpAny_rule ⟨rfl, wpS_bind (desc_ok hL b hm (by omega) nm dn fun r q t bt nr rm d qr e => ?_)⟩))
  dsimp only
  by_cases q0 : q > 0
  · rw [if_pos q0]
    have hr : r ≤ (arrOf t).size := by rw [bt.sz]; omega
    refine wpS_bind (wpS_reverse (tail_ok hL (bt.put (mirror_perm _ _ _ _)) hm (by omega) rm (fun i j ij jr => ?_) h))
    have z1 := mir_same hr e i
    have z2 := mir_same hr e j
    have z3 := d i j ij jr
    rw [← z1, ← z2] at z3
    exact z3
  · rw [if_neg q0]
    exact tail_ok hL bt hm (by omega) rm d h
theorem run_ok (hL : LtOk prog w A s k0 a0 rk) {st : SortSt} (b : SB k0 a0 st) {m : Nat} (hm : m ≤ a0.size) (m1 : 1 ≤ m) {Q : Option Nat → SortSt → Prop}
    (h : ∀ r t, SB k0 a0 t → 1 ≤ r → r ≤ m → (∀ i j, i ≤ j → j < r → RK rk (arrOf t) i ≤ RK rk (arrOf t) j) → Q (some r) t) : wpS (model prog w) A E s (countRun' 0 m) Q st := by
  rw [countRun0_eq]
  refine wpS_bind (asc_ok hL b hm (Nat.le_refl _) m1 (fun i j ij j1 => by rw [show i = j by omega]; exact Int.le_refl _) fun n n1 nm u z => ?_)
  dsimp only
  by_cases e : n = m
  · rw [if_pos (by simpa using e)]
    exact wpS_pure (h n st b n1 nm u)
  · rw [if_neg (by simpa using e)]
    have lt := z.resolve_left e
    by_cases n2 : n > 1
    · rw [if_pos n2]
      refine wpS_bind (lt_at hL b (by omega) (by omega) ?_)
      dsimp only
      by_cases y : RK rk (arrOf st) 0 < RK rk (arrOf st) (n - 1)
      · rw [decide_eq_true y, if_pos rfl]
        exact wpS_pure (h n st b n1 nm u)
      · rw [decide_eq_false y, if_neg (by simp)]
        have hn : n ≤ (arrOf st).size := by rw [b.sz]; omega
        have al : ∀ i, 0 ≤ i → i < n → RK rk (arrOf st) i = RK rk (arrOf st) (n - 1) := fun i _ hi => by
          have q1 := u 0 i (Nat.zero_le _) hi
          have q2 := u i (n - 1) (by omega) (by omega)
          omega
        refine wpS_bind (wpS_reverse (part_ok hL (b.put (mirror_perm _ _ _ _)) hm (by omega) (fun i j ij jn => ?_) h))
        have z1 := mir_same hn al i
        have z2 := mir_same hn al j
        have z3 : RK rk (arrOf st) j ≤ RK rk (arrOf st) i := by
          rcases Nat.lt_or_eq_of_le (Nat.le_of_lt_succ jn) with q | rfl
          · rw [al i (Nat.zero_le _) (by omega), al j (Nat.zero_le _) q]; exact Int.le_refl _
          · rcases Nat.lt_or_eq_of_le ij with q | rfl
            · rw [al i (Nat.zero_le _) q]; omega
            · exact Int.le_refl _
        rw [← z1, ← z2] at z3
        exact z3
    · rw [if_neg n2]
      have e1 : n = 1 := by omega
      subst e1
      refine part_ok hL b hm (by omega) (fun i j ij j2 => ?_) h
      rcases Nat.lt_or_eq_of_le ij with q | rfl
      · rw [show i = 0 by omega, show j = 1 by omega]; exact Int.le_of_lt lt
      · exact Int.le_refl _
/-- insertion by halves -/
theorem ins_ok (hL : LtOk prog w A s k0 a0 rk) {st : SortSt} (b : SB k0 a0 st) {m r : Nat} (hm : m ≤ a0.size) (rm : r ≤ m) {Q : Bool → SortSt → Prop} (up : ∀ i j, i ≤ j → j < r → RK rk (arrOf st) i ≤ RK rk (arrOf st) j)
    (h : ∀ t, SB k0 a0 t → (∀ i j, i ≤ j → j < m → RK rk (arrOf t) i ≤ RK rk (arrOf t) j) → Q true t) : wpS (model prog w) A E s (binarySort' 0 m r) Q st := by
  rw [binarySort'_eq]
  simp only [Nat.zero_add]
  refine wpS_bind (wpS_mono (wpS_forRange (fun n c t => c = (none, ()) ∧ SB k0 a0 t ∧ ∀ i j, i ≤ j → j < min n m → RK rk (arrOf t) i ≤ RK rk (arrOf t) j) (Q := fun c t => c = (none, ()) ∧ SB k0 a0 t ∧ ∀ i j, i ≤ j → j < m → RK rk (arrOf t) i ≤ RK rk (arrOf t) j) ?_ ?_ ⟨rfl, b, fun i j ij jl => ?_⟩) ?_)
  · rintro n c t n1 nm ⟨rfl, bt, u⟩
    rw [Nat.min_eq_left (Nat.le_of_lt nm)] at u
    refine wpS_bind (wpS_mono (wpS_forRange (fun x c t2 => t2 = t ∧ ∃ l g, c = (none, l, g) ∧ l ≤ g ∧ g ≤ n ∧ g - l ≤ n - x ∧ (∀ i, i < l → RK rk (arrOf t) i ≤ RK rk (arrOf t) n) ∧ ∀ i, g ≤ i → i < n → RK rk (arrOf t) n < RK rk (arrOf t) i)
      (Q := fun c t2 => t2 = t ∧ ∃ l g, c = (none, l, g) ∧ l ≤ n ∧ (∀ i, i < l → RK rk (arrOf t) i ≤ RK rk (arrOf t) n) ∧ ∀ i, l ≤ i → i < n → RK rk (arrOf t) n < RK rk (arrOf t) i) ?_ ?_ ⟨rfl, 0, n, rfl, Nat.zero_le _, Nat.le_refl _, Nat.le_refl _, fun i hi => absurd hi (Nat.not_lt_zero _), fun i h1 h2 => by omega⟩) ?_)
    · rintro x c t2 _ xn ⟨rfl, l, g, rfl, lg, gn, gl, lo, hi⟩
      dsimp only
      by_cases z : l ≥ g
      · rw [if_pos z]
        have e : l = g := by omega
        subst e
        exact wpS_pure ⟨rfl, l, l, rfl, gn, lo, hi⟩
      · rw [if_neg z]
        refine wpS_bind (lt_at hL bt (by omega) (by omega) ?_)
        dsimp only
        by_cases y : RK rk (arrOf t2) n < RK rk (arrOf t2) ((l + g) / 2)
        · rw [decide_eq_true y, if_pos rfl]
          refine wpS_pure ⟨rfl, l, (l + g) / 2, rfl, by omega, by omega, by omega, lo, fun i h1 h2 => ?_⟩
          have := u _ i h1 h2
          omega
        · rw [decide_eq_false y, if_neg (by simp)]
          refine wpS_pure ⟨rfl, (l + g) / 2 + 1, g, rfl, by omega, by omega, by omega, fun i h1 => ?_, hi⟩
          have := u i ((l + g) / 2) (by omega) (by omega)
          omega
    · rintro c t2 ⟨rfl, l, g, rfl, lg, gn, gl, lo, hi⟩
      have e : l = g := by omega
      subst e
      exact ⟨rfl, l, l, rfl, gn, lo, hi⟩
    · rintro c t2 ⟨rfl, l, g, rfl, ln, lo, hi⟩
      show wpS _ _ _ _ (moveDown' n l >>= fun _ => pure _) _ _
      rw [moveDown'_eq]
      refine wpS_bind (wpS_modify (wpS_pure ⟨rfl, bt.put (bubble_perm _ _ _), fun i j ij jn => ?_⟩))
      rw [Nat.min_eq_left (by omega)] at jn
      have hn : n < (arrOf t2).size := by rw [bt.sz]; omega
      have z1 := RK_bub (rk := rk) hn (Nat.sub_le n l) i
      have z2 := RK_bub (rk := rk) hn (Nat.sub_le n l) j
      rw [show n - (n - l) = l by omega] at z1 z2
      show RK rk (bubble (arrOf t2) n (n - l)) i ≤ RK rk (bubble (arrOf t2) n (n - l)) j
      rw [z1, z2]
      by_cases c1 : i = l
      · rw [if_pos c1]
        by_cases c2 : j = l
        · rw [if_pos c2]; exact Int.le_refl _
        · rw [if_neg c2, if_pos (by omega)]
          have := hi (j - 1) (by omega) (by omega)
          omega
      · rw [if_neg c1]
        by_cases c3 : l < i ∧ i ≤ n
        · rw [if_pos c3, if_neg (by omega), if_pos (by omega)]
          exact u _ _ (by omega) (by omega)
        · rw [if_neg c3]
          by_cases c2 : j = l
          · rw [if_pos c2]; exact lo i (by omega)
          · rw [if_neg c2]
            by_cases c4 : l < j ∧ j ≤ n
            · rw [if_pos c4]; exact u _ _ (by omega) (by omega)
            · rw [if_neg c4]; exact u _ _ ij (by omega)
  · rintro c t ⟨rfl, bt, u⟩
    refine ⟨rfl, bt, fun i j ij jm => u i j ij (by omega)⟩
  · by_cases z : j < r
    · exact up i j ij z
    · rw [show i = j by omega]; exact Int.le_refl _
  · rintro c t ⟨rfl, bt, u⟩
    exact wpS_pure (h t bt u)
theorem runs_ok (hL : LtOk prog w A s k0 a0 rk) {st : SortSt} (b : SB k0 a0 st) (h2 : 2 ≤ a0.size) (h64 : a0.size < 64) {Q : Unit → SortSt → Prop}
    (h : ∀ t, (arrOf t).Perm a0 → failedOf t = none → (∀ i j, i ≤ j → j < a0.size → RK rk (arrOf t) i ≤ RK rk (arrOf t) j) → Q () t) : wpS (model prog w) A E s sortRuns' Q st := by
  rw [sortRuns'_eq]
  refine wpS_bind (wpS_get ?_)
  have mr : minRun' a0.size a0.size 0 = a0.size := by
    cases z : a0.size with
    | zero => omega
    | succ n => rw [minRun'_succ, if_pos (by omega), Nat.add_zero]
  dsimp only
  rw [b.sz, mr]
  let Fin' : SortSt → Prop := fun t => (arrOf t).Perm a0 ∧ failedOf t = none ∧ pendingOf t = #[(0, a0.size, 0)] ∧ ∀ i j, i ≤ j → j < a0.size → RK rk (arrOf t) i ≤ RK rk (arrOf t) j
  have fin : ∀ t, SB k0 a0 t → (∀ i j, i ≤ j → j < a0.size → RK rk (arrOf t) i ≤ RK rk (arrOf t) j) → Fin' (setPending t ((pendingOf t).push (0, a0.size, 0))) := fun t bt u =>
    ⟨bt.pm, bt.fl, (by show (pendingOf t).push _ = _; rw [bt.pn]; rfl), u⟩
  refine wpS_bind (wpS_mono (wpS_forRange (fun n c t => (n = 0 ∧ c = (none, 0) ∧ SB k0 a0 t) ∨ (0 < n ∧ c = (none, a0.size) ∧ Fin' t)) (Q := fun c t => c = (none, a0.size) ∧ Fin' t) ?_ ?_ (.inl ⟨rfl, rfl, b⟩)) ?_)
  · rintro n c t _ _ (⟨rfl, rfl, bt⟩ | ⟨n0, rfl, ft⟩)
    · dsimp only
      rw [if_neg (by omega)]
      simp only [Nat.zero_add, Nat.min_self, Nat.sub_zero]
      refine wpS_bind (run_ok hL bt (Nat.le_refl _) (by omega) fun r t2 b2 r1 r2 u2 => ?_)
      dsimp only
      have last : ∀ t3, SB k0 a0 t3 → (∀ i j, i ≤ j → j < a0.size → RK rk (arrOf t3) i ≤ RK rk (arrOf t3) j) → (pendingOf t3).back? = none ∧ Fin' (setPending t3 ((pendingOf t3).push (0, a0.size, 0))) := fun t3 b3 u3 => ⟨by rw [b3.pn]; rfl, fin t3 b3 u3⟩
      by_cases z : r < a0.size
      · rw [if_pos z]
        refine wpS_bind (wpS_lift (wpAny_rule ⟨rfl, wpS_bind (ins_ok hL b2 (Nat.le_refl _) r2 u2 fun t3 b3 u3 => ?_)⟩))
        rw [if_neg (by simp)]
        refine wpS_bind (wpS_get ?_)
        rw [(last t3 b3 u3).1]
        dsimp only
        exact wpS_bind (wpS_modify (wpS_pure (.inr ⟨Nat.succ_pos _, rfl, (last t3 b3 u3).2⟩)))
      · rw [if_neg z]
        have e : r = a0.size := by omega
        subst e
        refine wpS_bind (wpS_get ?_)
        rw [(last t2 b2 u2).1]
        dsimp only
        exact wpS_bind (wpS_modify (wpS_pure (.inr ⟨Nat.succ_pos _, rfl, (last t2 b2 u2).2⟩)))
    · dsimp only
      rw [if_pos (Nat.le_refl _)]
      exact wpS_pure ⟨rfl, ft⟩
  · rintro c t (⟨z, _, _⟩ | ⟨_, e, ft⟩)
    · omega
    · exact ⟨e, ft⟩
  · rintro c t ⟨rfl, ft⟩
    dsimp only
    refine wpS_bind (wpS_mono (wpS_forRange (fun _ c t2 => t2 = t ∧ c = (none, ())) (Q := fun c t2 => t2 = t ∧ c = (none, ())) ?_ (fun _ _ z => z) ⟨rfl, rfl⟩) ?_)
    · rintro n c t2 _ _ ⟨rfl, rfl⟩
      refine wpS_bind (wpS_get ?_)
      rw [if_pos (by rw [ft.2.2.1]; exact Nat.le_refl 1)]
      exact wpS_pure ⟨rfl, rfl⟩
    · rintro c t2 ⟨rfl, rfl⟩
      exact wpS_pure (h _ ft.1 ft.2.1 ft.2.2.2)
end
end L2

set_option Elab.async false
set_option linter.all false
set_option maxRecDepth 100000
set_option maxHeartbeats 1000000
namespace L2
open PySem PySem.Spec PyProof.Rows
/-- tuples of ints, the lesser one -/
def lexB : List Int → List Int → Bool
  | [], [] => false
  | [], _ :: _ => true
  | _ :: _, [] => false
  | a :: x, b :: y => if a = b then lexB x y else decide (a < b)
theorem lexB_irr : ∀ x : List Int, lexB x x = false
  | [] => rfl
  | a :: x => by unfold lexB; rw [if_pos rfl]; exact lexB_irr x
theorem lexB_trans : ∀ {x y z : List Int}, lexB x y = true → lexB y z = true → lexB x z = true
  | [], [], _, h, _ => by cases h
  | [], _ :: _, [], _, h => by cases h
  | [], _ :: _, _ :: _, _, _ => rfl
  | _ :: _, [], _, h, _ => by cases h
  | _ :: _, _ :: _, [], _, h => by cases h
  | a :: x, b :: y, c :: z, h1, h2 => by
    unfold lexB at h1 h2 ⊢
    by_cases e1 : a = b
    · subst e1
      rw [if_pos rfl] at h1
      by_cases e2 : a = c
      · rw [if_pos e2] at h2 ⊢; exact lexB_trans h1 h2
      · rw [if_neg e2] at h2 ⊢; exact h2
    · rw [if_neg e1] at h1
      have l1 := of_decide_eq_true h1
      by_cases e2 : b = c
      · subst e2; rw [if_neg e1]; exact h1
      · rw [if_neg e2] at h2
        have l2 := of_decide_eq_true h2
        rw [if_neg (by omega)]
        exact decide_eq_true (by omega)
theorem lexB_tot : ∀ {x y : List Int}, lexB x y = false → lexB y x = false → x = y
  | [], [], _, _ => rfl
  | [], _ :: _, h, _ => by cases h
  | _ :: _, [], _, h => by cases h
  | a :: x, b :: y, h1, h2 => by
    unfold lexB at h1 h2
    by_cases e : a = b
    · subst e
      rw [if_pos rfl] at h1 h2
      rw [lexB_tot h1 h2]
    · rw [if_neg e] at h1
      rw [if_neg (Ne.symm e)] at h2
      have l1 := of_decide_eq_false h1
      have l2 := of_decide_eq_false h2
      omega
theorem filter_fewer {α : Type} {p q : α → Bool} : ∀ {l : List α}, (∀ z ∈ l, p z = true → q z = true) → (l.filter p).length ≤ (l.filter q).length
  | [], _ => Nat.le_refl _
  | a :: l, h => by
    have ih := filter_fewer (l := l) fun z hz => h z (List.mem_cons_of_mem _ hz)
    have ha := h a List.mem_cons_self
    cases hp : p a with
    | true => rw [List.filter_cons_of_pos hp, List.filter_cons_of_pos (ha hp)]; simp only [List.length_cons]; omega
    | false =>
      rw [List.filter_cons_of_neg (by simp [hp])]
      cases hq : q a with
      | true => rw [List.filter_cons_of_pos hq]; simp only [List.length_cons]; omega
      | false => rw [List.filter_cons_of_neg (by simp [hq])]; exact ih
theorem filter_less {α : Type} {p q : α → Bool} : ∀ {l : List α} {x : α}, (∀ z ∈ l, p z = true → q z = true) → x ∈ l → q x = true → p x = false → (l.filter p).length < (l.filter q).length
  | [], x, _, hx, _, _ => by cases hx
  | a :: l, x, h, hx, q1, p1 => by
    have hl : ∀ z ∈ l, p z = true → q z = true := fun z hz => h z (List.mem_cons_of_mem _ hz)
    rcases List.mem_cons.mp hx with rfl | hx
    · rw [List.filter_cons_of_neg (by simp [p1]), List.filter_cons_of_pos q1]
      have := filter_fewer hl
      simp only [List.length_cons]; omega
    · have ih := filter_less hl hx q1 p1
      have ha := h a List.mem_cons_self
      cases hp : p a with
      | true => rw [List.filter_cons_of_pos hp, List.filter_cons_of_pos (ha hp)]; simp only [List.length_cons]; omega
      | false =>
        rw [List.filter_cons_of_neg (by simp [hp])]
        cases hq : q a with
        | true => rw [List.filter_cons_of_pos hq]; simp only [List.length_cons]; omega
        | false => rw [List.filter_cons_of_neg (by simp [hq])]; exact ih
def rnk (ks : List (List Int)) (u : List Int) : Int := ((ks.filter fun z => lexB z u).length : Nat)
theorem rnk_lt {ks : List (List Int)} {x y : List Int} (hx : x ∈ ks) (h : lexB x y = true) : rnk ks x < rnk ks y := by
  have := filter_less (p := fun z => lexB z x) (q := fun z => lexB z y) (fun z _ hz => lexB_trans hz h) hx h (lexB_irr x)
  unfold rnk
  omega
theorem rnk_ok {ks : List (List Int)} {x y : List Int} (hx : x ∈ ks) (hy : y ∈ ks) : decide (rnk ks x < rnk ks y) = lexB x y := by
  cases h : lexB x y with
  | true => exact decide_eq_true (rnk_lt hx h)
  | false =>
    refine decide_eq_false fun z => ?_
    cases g : lexB y x with
    | true => have := rnk_lt hy g; omega
    | false => rw [lexB_tot h g] at z; omega
def vInt : Value → Int
  | .int n _ => n
  | _ => 0
theorem ints_map : ∀ {vs : List Value} {u : List Int}, IntsAre vs u → vs.map vInt = u
  | _, _, .nil => rfl
  | _, _, .cons n t h => by rw [List.map_cons, ints_map h]; rfl
def kfI (h : Heap) (v : Value) : List Int := match v with
  | .ref a => match h.get? a with
    | some o => match o.data with
      | .seq its _ => its.toList.map vInt
      | _ => []
    | none => []
  | _ => []
/-- a tuple of ints -/
def TupI (h : Heap) (v : Value) (u : List Int) : Prop := ∃ a o its n, v = .ref a ∧ h.get? a = some o ∧ o.cls = .type "tuple" ∧ o.data = .seq its n ∧ IntsAre its.toList u
theorem TupI.kf {h : Heap} {v : Value} {u : List Int} (t : TupI h v u) : kfI h v = u := by
  obtain ⟨a, o, its, n, rfl, e, c, d, i⟩ := t
  unfold kfI
  dsimp only
  rw [e]
  dsimp only
  rw [d]
  exact ints_map i
theorem TupI.keep {h h' : Heap} {v : Value} {u : List Int} (t : TupI h v u) (k : ∀ a o, v = .ref a → h.get? a = some o → h'.get? a = some o) : TupI h' v u := by
  obtain ⟨a, o, its, n, rfl, e, r⟩ := t
  exact ⟨a, o, its, n, rfl, k a o rfl e, r⟩
theorem TupI.keep' {h h' : Heap} {v : Value} {u : List Int} (t : TupI h v u) (k : ∀ (b : Addr) (o : Obj), o.cls = .type "tuple" → h.get? b = some o → h'.get? b = some o) : TupI h' v u := by
  obtain ⟨a, o, its, n, rfl, e, c, r⟩ := t
  exact ⟨a, o, its, n, rfl, k a o c e, c, r⟩
section
variable {prog : Program} {w : World} {A : Around} {E : Value → Shared → Prop} {s : Shared}
theorem keyLt'_tups (b : Bool) (x y : Value) : keyLt' (tuples' b) x y = (do
    let xs ← Builtin.List.listItems x
    let ys ← Builtin.List.listItems y
    for ((p, q), i) in (xs.toList.zip ys.toList).zipIdx do
      if !(← eqBool p q) then return ← oneLt' (b && i == 0) p q
    return decide (xs.size < ys.size)) := rfl
theorem one_int (b : Bool) {i j : Int} {t u : Tok} {Q : Bool → Shared → Prop} (h : Q (decide (i < j)) s) : wpAny (model prog w) A (oneLt' b (.int i t) (.int j u)) Q E s := by
  cases b with
  | true => exact oneLt_int h
  | false =>
    rw [oneLt'_eq, if_neg (by simp)]
    have q : wpAny (model prog w) A (richCompare .Lt (.int i t) (.int j u)) (fun v s' => wpAny (model prog w) A (truthOfDropped v) Q E s') E s := PyProof.Rows.lt_int (wpAny_truthy_bool h)
    exact wpAny_bind q
abbrev cmpStep (b : Bool) (z : (Value × Value) × Nat) (r : Option Bool × Unit) : Sem (ForInStep (Option Bool × Unit)) := do
  if !(← eqBool z.1.1 z.1.2) then
    let v ← oneLt' (b && z.2 == 0) z.1.1 z.1.2
    pure (ForInStep.done (some v, ()))
  else pure (ForInStep.yield (none, ()))
theorem cmp_loop (b : Bool) : ∀ {xs ys : List Value} {u v : List Int} (i : Nat) {Q : Option Bool × Unit → Shared → Prop}, IntsAre xs u → IntsAre ys v → (∀ r, (r = (some (lexB u v), ()) ∨ (r = (none, ()) ∧ lexB u v = decide (u.length < v.length))) → Q r s) →
    wpAny (model prog w) A (forIn ((xs.zip ys).zipIdx i) ((none, ()) : Option Bool × Unit) (cmpStep b)) Q E s
  | _, ys, _, v, i, Q, .nil, hy, h => by
    rw [List.zip_nil_left, List.zipIdx_nil, List.forIn_nil]
    refine wpAny_pure (h _ (.inr ⟨rfl, ?_⟩))
    cases hy <;> rfl
  | _, _, _, _, i, Q, .cons a t hx, .nil, h => by
    rw [List.zip_nil_right, List.zipIdx_nil, List.forIn_nil]
    refine wpAny_pure (h _ (.inr ⟨rfl, ?_⟩))
    rfl
  | _, _, _, _, i, Q, .cons (ns := u) a t hx, .cons (ns := v) c t' hy, h => by
    rw [List.zip_cons_cons, List.zipIdx_cons, List.forIn_cons]
    refine wpAny_bind (wpAny_bind ((intKind prog w).eqBool (a := a) (b := c) (intKind_is _ _ _ _) (intKind_is _ _ _ _) ?_))
    by_cases e : a = c
    · rw [decide_eq_true e]
      refine wpAny_pure ?_
      refine cmp_loop b (i + 1) hx hy fun r hr => h r ?_
      have l1 : lexB (a :: u) (c :: v) = lexB u v := by
        conv => lhs; unfold lexB
        rw [if_pos e]
      rw [l1]
      rcases hr with z | ⟨z, y⟩
      · exact .inl z
      · refine .inr ⟨z, ?_⟩
        rw [y]
        simp only [List.length_cons, Nat.add_lt_add_iff_right]
    · rw [decide_eq_false e]
      refine wpAny_bind (one_int _ ?_)
      refine wpAny_pure (wpAny_pure (h _ (.inl ?_)))
      have l1 : lexB (a :: u) (c :: v) = decide (a < c) := by
        conv => lhs; unfold lexB
        rw [if_neg e]
      rw [l1]
theorem lt_tups (b : Bool) {x y : Value} {u v : List Int} {Q : Bool → Shared → Prop} (hx : TupI s.heap x u) (hy : TupI s.heap y v) (h : Q (lexB u v) s) : wpAny (model prog w) A (keyLt' (tuples' b) x y) Q E s := by
  obtain ⟨a, o, its, n, rfl, e, c, d, i⟩ := hx
  obtain ⟨a', o', its', n', rfl, e', c', d', i'⟩ := hy
  rw [keyLt'_tups]
  refine wpAny_bind (listItems_at e d (wpAny_bind (listItems_at e' d' ?_)))
  refine wpAny_bind (cmp_loop b 0 i i' fun r hr => ?_)
  rcases hr with rfl | ⟨rfl, z⟩
  · exact wpAny_pure h
  · rw [z, ← i.length, ← i'.length, Array.length_toList, Array.length_toList] at h
    exact wpAny_pure h
end
end L2

set_option Elab.async false
set_option linter.all false
set_option maxRecDepth 100000
set_option maxHeartbeats 1000000
namespace L2
open PySem PySem.Spec PyProof.Rows
section
variable {prog : Program} {w : World} {A : Around} {E : Value → Shared → Prop} {s : Shared}
theorem wp_mapM {α β : Type} {f : α → Sem β} (R : α → β → Prop) : ∀ {l : List α} {Q : List β → Shared → Prop}, (∀ x ∈ l, ∀ Q' : β → Shared → Prop, (∀ y, R x y → Q' y s) → wpAny (model prog w) A (f x) Q' E s) → (∀ ys, Paired R l ys → Q ys s) → wpAny (model prog w) A (l.mapM f) Q E s
  | [], Q, _, h => by rw [List.mapM_nil]; exact wpAny_pure (h [] .nil)
  | x :: l, Q, hf, h => by
    rw [List.mapM_cons]
    refine wpAny_bind (hf x List.mem_cons_self _ fun y hy => wpAny_bind (wp_mapM R (fun z hz => hf z (List.mem_cons_of_mem _ hz)) fun ys hys => wpAny_pure (h _ (.cons hy hys))))
theorem first'_eq (v : Value) : firstOfTuple' v = (do
    if (← typeOf v) != .type "tuple" then return none
    return (← Builtin.List.listItems v)[0]?) := rfl
theorem first_tup {x : Value} {u : List Int} {Q : Option Value → Shared → Prop} (t : TupI s.heap x u) (hu : u ≠ []) (h : ∀ y, (∃ a tk, y = some (Value.int a tk)) → Q y s) : wpAny (model prog w) A (firstOfTuple' x) Q E s := by
  obtain ⟨a, o, its, n, rfl, e, c, d, i⟩ := t
  rw [first'_eq]
  refine wpAny_bind (wpAny_typeOf (T := "tuple") ⟨o, e, c⟩ ?_)
  rw [if_neg (by decide)]
  refine wpAny_bind (listItems_at e d (wpAny_pure (h _ ?_)))
  cases hi : its.toList with
  | nil => rw [hi] at i; cases i; exact absurd rfl hu
  | cons z zs =>
    rw [hi] at i
    cases i with
    | cons m t hr =>
      refine ⟨m, t, ?_⟩
      rw [← Array.getElem?_toList, hi]
      rfl
theorem kind_firsts : ∀ {vs : List Value} {ys : List (Option Value)}, Paired (fun _ y => ∃ a tk, y = some (Value.int a tk)) vs ys → ∃ zs : List Value, ys = zs.map some ∧ zs.length = vs.length ∧ ∀ z ∈ zs, ∃ a tk, z = Value.int a tk
  | _, _, .nil => ⟨[], rfl, rfl, fun z hz => by cases hz⟩
  | _, _, .cons ⟨a, tk, e⟩ t => by
    obtain ⟨zs, e1, e2, e3⟩ := kind_firsts t
    refine ⟨.int a tk :: zs, by rw [e, e1]; rfl, by simp [e2], fun z hz => ?_⟩
    rcases List.mem_cons.mp hz with rfl | hz
    · exact ⟨a, tk, rfl⟩
    · exact e3 z hz
theorem mapM_ints : ∀ {zs : List Value}, (∀ z ∈ zs, ∃ a tk, z = Value.int a tk) → zs.mapM typeOf = (pure (zs.map fun _ => Value.type "int") : Sem (List Value))
  | [], _ => by rw [List.mapM_nil]; rfl
  | z :: zs, h => by
    obtain ⟨a, tk, rfl⟩ := h z List.mem_cons_self
    rw [List.mapM_cons, mapM_ints fun y hy => h y (List.mem_cons_of_mem _ hy)]
    rfl
theorem kind_tups {vs : List Value} (hv : ∀ v ∈ vs, ∃ u, TupI s.heap v u ∧ u ≠ []) (h1 : vs ≠ []) {Q : SortKind → Shared → Prop} (h : Q (tuples' true) s) : wpAny (model prog w) A (keyKind' vs.toArray) Q E s := by
  rw [keyKind'_eq, List.mapM_toArray]
  refine wpAny_bind ?_
  have step : wpAny (model prog w) A (vs.mapM firstOfTuple') (fun ys s' => wpAny (model prog w) A (pure ys.toArray) (fun firsts s' => wpAny (model prog w) A (do
      if (firsts.all fun x => x.isSome) = true then
        rule "list.sort.keys-are-tuples"
        let __do_lift ← oneTypeOnly' (firsts.filterMap id)
        pure (tuples' (__do_lift.any fun x => x != Value.type "tuple"))
      else
        if (firsts[0]?.bind id).isSome = true then pure general'
        else do
          let __do_lift ← oneTypeOnly' vs.toArray
          pure (if __do_lift.isSome = true then oneType' else general')) Q E s') E s') E s := by
    refine wp_mapM (fun _ y => ∃ a tk, y = some (Value.int a tk)) (fun x hx Q' hq => ?_) fun ys hys => ?_
    · obtain ⟨u, t, hu⟩ := hv x hx
      exact first_tup t hu hq
    · obtain ⟨zs, e1, e2, e3⟩ := kind_firsts hys
      subst e1
      refine wpAny_pure ?_
      rw [if_pos (by simp)]
      refine wpAny_bind (wpAny_rule ?_)
      have ef : (zs.map some).toArray.filterMap id = zs.toArray := by
        rw [List.filterMap_toArray]
        congr 1
        induction zs with
        | nil => rfl
        | cons z zs ih => simp
      rw [ef, oneTypeOnly'_eq, List.mapM_toArray, mapM_ints e3]
      have z0 : ∃ z zs', zs = z :: zs' := by
        cases zs with
        | nil => rw [List.length_nil] at e2; exact absurd (List.eq_nil_of_length_eq_zero e2.symm) h1
        | cons z zs' => exact ⟨z, zs', rfl⟩
      obtain ⟨z, zs', rfl⟩ := z0
      simp only [map_pure, pure_bind]
      have g0 : (List.map (fun _ => Value.type "int") (z :: zs')).toArray[0]? = some (Value.type "int") := by simp
      have ga : ((List.map (fun _ => Value.type "int") (z :: zs')).toArray.all fun x => x == Value.type "int") = true := by
        rw [List.all_toArray, List.all_map, List.all_eq_true]
        intro _ _
        rfl
      rw [g0]
      dsimp only
      rw [ga, if_pos rfl]
      exact wpAny_bind (wpAny_pure (wpAny_pure h))
  exact wpAny_bind step
end
end L2

set_option Elab.async false
set_option linter.all false
set_option maxRecDepth 100000
set_option maxHeartbeats 1000000
namespace L2
open PySem PySem.Spec PyProof.Rows
section
variable {prog : Program} {w : World} {A : Around} {E : Value → Shared → Prop} {s : Shared}
theorem sort_gen {a : Addr} {vs : List Value} {n : Nat} {k0 : SortKind} {rk : Value → Int} {P : Fin → Shared → Prop} (hb : s.heap.get? a = some (seqObj "list" vs.toArray n)) (h64 : vs.length < 64)
    (hk : 2 ≤ vs.length → ∀ h' : Heap, (∀ b o, b ≠ a → s.heap.get? b = some o → h'.get? b = some o) → ∀ (E : Value → Shared → Prop) (Q : SortKind → Shared → Prop), Q k0 { s with heap := h' } → wpAny (model prog w) A (keyKind' vs.toArray) Q E { s with heap := h' })
    (hL : ∀ h' : Heap, (∀ b o, b ≠ a → s.heap.get? b = some o → h'.get? b = some o) → LtOk prog w A { s with heap := h' } k0 (pairsOf vs) rk)
    (h : ∀ xs : Array Keyed, xs.Perm (pairsOf vs) → (∀ i j, i ≤ j → j < (pairsOf vs).size → RK rk xs i ≤ RK rk xs j) → P (.done (.ret .none)) { s with heap := sortedHeap s.heap a vs (xs.map (·.2)) }) :
    wpAny (model prog w) A (Builtin.«list.sort» ⟨[.ref a], []⟩) P E s := by
  have la : a < s.heap.objs.size := Heap.lt_size hb
  have sv : vs.toArray.size = vs.length := List.size_toArray ..
  rw [list_sort_plain]
  refine wpAny_bind (listItems_at hb rfl (wpAny_bind (listUpdate_at hb rfl ?_)))
  have g1 := get?_update_seq hb (fun _ => (#[] : Array Value))
  have k1 : ∀ b o, b ≠ a → s.heap.get? b = some o → (s.heap.update a (Obj.mapSeq fun _ => #[])).get? b = some o := fun b o nb z => by
    rw [Heap.get?_update_ne _ _ _ _ nb]; exact z
  refine wpAny_bind (seqEpoch_at g1 rfl (wpAny_bind (wpAny_newTuple (wpAny_bind (wpAny_newList (wpAny_holding ?_))))))
  show wpAny (model prog w) A _ P E { s with heap := ((s.heap.update a (Obj.mapSeq fun _ => #[])).push (seqObj "tuple" vs.toArray 0)).push (seqObj "list" #[] 0) }
  have g6 := Heap.get?_push_of_some (seqObj "list" #[] 0) (Heap.get?_push_of_some (seqObj "tuple" vs.toArray 0) g1)
  have k6 : ∀ b o, b ≠ a → s.heap.get? b = some o → (((s.heap.update a (Obj.mapSeq fun _ => #[])).push (seqObj "tuple" vs.toArray 0)).push (seqObj "list" #[] 0)).get? b = some o := fun b o nb z => Heap.get?_push_of_some _ (Heap.get?_push_of_some _ (k1 b o nb z))
  have done : ∀ (xs : Array Keyed) (t : SortSt), arrOf t = xs → failedOf t = none → xs.Perm (pairsOf vs) → (∀ i j, i ≤ j → j < (pairsOf vs).size → RK rk xs i ≤ RK rk xs j) →
      wpAny (model prog w) A (do
        let touched := (← seqEpoch a) != (if (#[] : Array Value).size == vs.toArray.size then n else n + 1)
        Builtin.List.listUpdate (.ref a) fun _ => (arrOf t).map (·.2)
        if let some e := failedOf t then rule "list.sort.comparison-raised"; throw e
        if touched then rule "list.sort.modified"; raiseError "ValueError" "list modified during sort"
        ret .none) P E { s with heap := ((s.heap.update a (Obj.mapSeq fun _ => #[])).push (seqObj "tuple" vs.toArray 0)).push (seqObj "list" #[] 0) } := by
    rintro xs t rfl ft pm up
    refine wpAny_bind (seqEpoch_at g6 rfl (wpAny_bind (listUpdate_at g6 rfl ?_ (hsz2 := ?_))))
    · rw [ft]
      dsimp only
      rw [if_neg (by simp)]
      exact wpAny_pure (h _ pm up)
    · show ((arrOf t).map (·.2)).size ≤ sizeLine + 1
      rw [Array.size_map, pm.size_eq, pairsOf_size]
      exact Nat.le_trans (show vs.length ≤ 1000 by omega) (by decide)
  by_cases h2 : vs.toArray.size < 2
  · rw [if_pos h2, if_pos h2]
    refine wpAny_bind (wpAny_pure ?_)
    dsimp only
    rw [StateT.run_pure]
    refine wpAny_bind (wpAny_pure (done _ (SortSt.mk' general' (vs.toArray.zip vs.toArray) #[] 7 none) rfl rfl (Array.Perm.refl _) fun i j ij jl => ?_))
    rw [pairsOf_size] at jl
    rw [show i = j by omega]
    exact Int.le_refl _
  · rw [if_neg h2, if_neg h2]
    refine wpAny_bind (hk (by omega) _ k6 _ _ ?_)
    refine wpAny_bind (wpAny_mono (runs_ok (hL _ k6) (st := SortSt.mk' k0 (vs.toArray.zip vs.toArray) #[] 7 none) (a0 := pairsOf vs) ⟨Array.Perm.refl _, rfl, rfl, rfl⟩ (by rw [pairsOf_size]; omega) (by rw [pairsOf_size]; exact h64) (Q := fun _ t => (arrOf t).Perm (pairsOf vs) ∧ failedOf t = none ∧ ∀ i j, i ≤ j → j < (pairsOf vs).size → RK rk (arrOf t) i ≤ RK rk (arrOf t) j) fun t p1 p2 p3 => ⟨p1, p2, p3⟩) ?_ fun _ _ z => z)
    rintro ⟨⟨⟩, t⟩ s' ⟨rfl, p1, p2, p3⟩
    exact done _ t rfl p2 p1 p3
end
end L2

set_option Elab.async false
set_option linter.all false
set_option maxRecDepth 100000
set_option maxHeartbeats 1000000
namespace L2
open PySem PySem.Spec PyProof.Rows
abbrev Pb := SetTable.Probe
/-- one probe on -/
def adv (m : Nat) (p : Pb) : Pb := if p.more > 0 then { p with j := p.j + 1, more := p.more - 1 } else { p with j := (p.i * 5 + 1 + p.perturb / 32) % (m + 1), more := SetTable.runEnd m ((p.i * 5 + 1 + p.perturb / 32) % (m + 1)) - (p.i * 5 + 1 + p.perturb / 32) % (m + 1), i := (p.i * 5 + 1 + p.perturb / 32) % (m + 1), perturb := p.perturb / 32 }
def itP (m : Nat) (p : Pb) : Nat → Pb
  | 0 => p
  | k + 1 => adv m (itP m p k)
theorem itP_add (m : Nat) (p : Pb) (a b : Nat) : itP m p (a + b) = itP m (itP m p a) b := by
  induction b with
  | zero => rfl
  | succ b ih => show adv m (itP m p (a + b)) = adv m _; rw [ih]
theorem adv_dummy (m : Nat) (p : Pb) : (adv m p).dummy = p.dummy := by unfold adv; split <;> rfl
theorem itP_dummy (m : Nat) (p : Pb) : ∀ k, (itP m p k).dummy = p.dummy
  | 0 => rfl
  | k + 1 => by show (adv m _).dummy = _; rw [adv_dummy, itP_dummy m p k]
/-- to the begin of the next run -/
def lp (m : Nat) (p : Pb) : Pb := { p with j := (p.i * 5 + 1 + p.perturb / 32) % (m + 1), more := SetTable.runEnd m ((p.i * 5 + 1 + p.perturb / 32) % (m + 1)) - (p.i * 5 + 1 + p.perturb / 32) % (m + 1), i := (p.i * 5 + 1 + p.perturb / 32) % (m + 1), perturb := p.perturb / 32 }
theorem run_pos (m : Nat) : ∀ (k : Nat) (p : Pb), k ≤ p.more → itP m p k = { p with j := p.j + k, more := p.more - k }
  | 0, p, _ => rfl
  | k + 1, p, h => by
    show adv m (itP m p k) = _
    rw [run_pos m k p (by omega)]
    unfold adv
    rw [if_pos (show p.more - k > 0 by omega)]
    show ({ p with j := p.j + k + 1, more := p.more - k - 1 } : Pb) = _
    rw [Nat.add_assoc, Nat.sub_sub]
theorem itP_lp (m : Nat) (p : Pb) : itP m p (p.more + 1) = lp m p := by
  show adv m (itP m p p.more) = _
  rw [run_pos m p.more p (Nat.le_refl _)]
  unfold adv
  rw [if_neg (show ¬ p.more - p.more > 0 by omega)]
  rfl
def lpN (m : Nat) (p : Pb) : Nat → Pb
  | 0 => p
  | n + 1 => lp m (lpN m p n)
theorem lp_more (m : Nat) (p : Pb) : (lp m p).more ≤ 9 := by
  show SetTable.runEnd m _ - _ ≤ 9
  unfold SetTable.runEnd
  split <;> omega
theorem lpN_more {m : Nat} {p : Pb} (h : p.more ≤ 9) : ∀ n, (lpN m p n).more ≤ 9
  | 0 => h
  | n + 1 => lp_more m _
theorem lpN_at {m : Nat} {p : Pb} (h : p.more ≤ 9) : ∀ n, ∃ k, k ≤ 10 * n ∧ itP m p k = lpN m p n
  | 0 => ⟨0, Nat.le_refl _, rfl⟩
  | n + 1 => by
    obtain ⟨k, hk, e⟩ := lpN_at h n
    refine ⟨k + ((lpN m p n).more + 1), by have := lpN_more (m := m) h n; omega, ?_⟩
    rw [itP_add, e, itP_lp]
    rfl
theorem lpN_perturb {m : Nat} {p : Pb} : ∀ n, (lpN m p n).perturb = p.perturb / 32 ^ n
  | 0 => by rw [Nat.pow_zero, Nat.div_one]; rfl
  | n + 1 => by
    show (lpN m p n).perturb / 32 = _
    rw [lpN_perturb n, Nat.div_div_eq_div_mul, Nat.pow_succ]
def fLc (m i : Nat) : Nat := (i * 5 + 1) % (m + 1)
def fIt (m i : Nat) : Nat → Nat
  | 0 => i
  | n + 1 => fLc m (fIt m i n)
theorem fIt_add (m i : Nat) (a b : Nat) : fIt m i (a + b) = fIt m (fIt m i a) b := by
  induction b with
  | zero => rfl
  | succ b ih => show fLc m (fIt m i (a + b)) = fLc m _; rw [ih]
theorem lpN_late {m : Nat} {p : Pb} (h : p.perturb < 2 ^ 64) : ∀ n, (lpN m p (13 + n)).i = fIt m (lpN m p 13).i n ∧ (lpN m p (13 + n)).perturb = 0
  | 0 => ⟨rfl, by rw [lpN_perturb]; exact Nat.div_eq_of_lt (Nat.lt_trans h (by decide))⟩
  | n + 1 => by
    obtain ⟨e1, e2⟩ := lpN_late h n
    constructor
    · show ((lpN m p (13 + n)).i * 5 + 1 + (lpN m p (13 + n)).perturb / 32) % (m + 1) = fLc m (fIt m _ n)
      rw [e1, e2]; rfl
    · show (lpN m p (13 + n)).perturb / 32 = 0
      rw [e2]
/-- sizes of tables met here -/
def OkM (m : Nat) : Prop := m = 7 ∨ m = 31 ∨ m = 127
def orbGo (m : Nat) : Nat → Nat → List Nat
  | 0, _ => []
  | k + 1, i => i :: orbGo m k (fLc m i)
theorem orbGo_get (m : Nat) : ∀ (k i n : Nat) (x : Nat), (orbGo m k i)[n]? = some x → n < k ∧ x = fIt m i n
  | 0, i, n, x, h => by cases h
  | k + 1, i, 0, x, h => by cases h; exact ⟨Nat.succ_pos _, rfl⟩
  | k + 1, i, n + 1, x, h => by
    obtain ⟨a, b⟩ := orbGo_get m k (fLc m i) n x h
    refine ⟨by omega, ?_⟩
    rw [b, Nat.add_comm n 1, fIt_add]
    rfl
theorem full_7 : (List.range 8).all (fun e => (orbGo 7 8 0).contains e) = true ∧ fIt 7 0 8 = 0 := by decide
theorem full_31 : (List.range 32).all (fun e => (orbGo 31 32 0).contains e) = true ∧ fIt 31 0 32 = 0 := by decide +kernel
theorem full_127 : (List.range 128).all (fun e => (orbGo 127 128 0).contains e) = true ∧ fIt 127 0 128 = 0 := by decide +kernel
theorem full_of {m : Nat} (h : OkM m) : (∀ e, e ≤ m → ∃ n, n ≤ m ∧ fIt m 0 n = e) ∧ fIt m 0 (m + 1) = 0 := by
  have key : ∀ m, (List.range (m + 1)).all (fun e => (orbGo m (m + 1) 0).contains e) = true → ∀ e, e ≤ m → ∃ n, n ≤ m ∧ fIt m 0 n = e := fun m h e he => by
    have := List.all_eq_true.mp h e (List.mem_range.mpr (by omega))
    obtain ⟨n, hn⟩ := List.mem_iff_getElem?.mp (List.contains_iff_mem.mp this)
    obtain ⟨a, b⟩ := orbGo_get m _ _ _ _ hn
    exact ⟨n, by omega, b.symm⟩
  rcases h with rfl | rfl | rfl
  · exact ⟨key 7 full_7.1, full_7.2⟩
  · exact ⟨key 31 full_31.1, full_31.2⟩
  · exact ⟨key 127 full_127.1, full_127.2⟩
/-- from any slot to any slot -/
theorem full_any {m : Nat} (h : OkM m) {i e : Nat} (hi : i ≤ m) (he : e ≤ m) : ∃ n, n ≤ m ∧ fIt m i n = e := by
  obtain ⟨f1, f2⟩ := full_of h
  obtain ⟨a, ha, ea⟩ := f1 i hi
  obtain ⟨b, hb, eb⟩ := f1 e he
  by_cases z : a ≤ b
  · refine ⟨b - a, by omega, ?_⟩
    rw [← ea, ← fIt_add, show a + (b - a) = b by omega]; exact eb
  · refine ⟨b + (m + 1) - a, by omega, ?_⟩
    rw [← ea, ← fIt_add, show a + (b + (m + 1) - a) = (m + 1) + b by omega, fIt_add, f2]; exact eb
theorem lpN_i {m : Nat} {p : Pb} (hi : p.i ≤ m) : ∀ n, (lpN m p n).i ≤ m
  | 0 => hi
  | n + 1 => by
    exact Nat.le_of_lt_succ (Nat.mod_lt ((lpN m p n).i * 5 + 1 + (lpN m p n).perturb / 32) (Nat.succ_pos m))
/-- every slot is met, and soon -/
theorem meets {m : Nat} (h : OkM m) {p : Pb} (hp : p.perturb < 2 ^ 64) (hm : p.more ≤ 9) (hi : p.i ≤ m) {e : Nat} (he : e ≤ m) : ∃ n, n ≤ 13 + m ∧ 13 ≤ n ∧ (lpN m p n).j = e ∧ (lpN m p n).i = e := by
  obtain ⟨n, hn, en⟩ := full_any h (lpN_i (m := m) hi 13) he
  have z := (lpN_late (m := m) hp n).1
  rw [en] at z
  refine ⟨13 + n, by omega, by omega, ?_, z⟩
  rw [← z]
  rw [show 13 + n = (12 + n) + 1 by omega]
  rfl
theorem meets_it {m : Nat} (h : OkM m) {p : Pb} (hp : p.perturb < 2 ^ 64) (hm : p.more ≤ 9) (hi : p.i ≤ m) {e : Nat} (he : e ≤ m) : ∃ k, k < 10 * SetTable.turns m ∧ (itP m p k).j = e := by
  obtain ⟨n, hn, _, ej, _⟩ := meets h hp hm hi he
  obtain ⟨k, hk, ek⟩ := lpN_at (m := m) hm n
  refine ⟨k, by unfold SetTable.turns; omega, ?_⟩
  rw [ek]; exact ej
end L2

set_option Elab.async false
set_option linter.all false
set_option maxRecDepth 100000
set_option maxHeartbeats 1000000
namespace L2
open PySem PySem.Spec PyProof.Rows
/-- taken slots -/
def Occ (t : SetTable) (j : Nat) : Prop := ∃ i : Nat, t.place[i]? = some j
theorem below_at {xs : Array Nat} (h : xs.toList.Pairwise (· < ·)) {i j : Nat} (hi : xs[i]? = some j) : SetTable.below xs j = i := by
  obtain ⟨b1, b2, b3⟩ := below_ok h j
  obtain ⟨hl, hg⟩ := Array.getElem?_eq_some_iff.mp hi
  have gd : ∀ k, k < xs.size → xs.getD k 0 = xs[k]! := fun k hk => by simp [Array.getD, hk]
  have lt : ∀ a b, a < b → (hb : b < xs.size) → ∀ (ha : a < xs.size), xs[a] < xs[b] := fun a b hab hb ha => by
    have := List.pairwise_iff_getElem.mp h a b (by simpa using ha) (by simpa using hb) hab
    simpa using this
  rcases Nat.lt_trichotomy (SetTable.below xs j) i with z | z | z
  · have hb : SetTable.below xs j < xs.size := by omega
    have q := b3 _ (Nat.le_refl _) hb
    rw [Array.getD_eq_getD_getElem?, Array.getElem?_eq_getElem hb] at q
    have q : j ≤ xs[SetTable.below xs j] := q
    have := lt _ _ z hl hb
    omega
  · exact z
  · have q := b2 i z
    rw [Array.getD_eq_getD_getElem?, hi] at q
    have q : j < j := q
    omega
theorem slot_live {t : SetTable} {led : Bool} (h : TB t led) {i j : Nat} (hi : t.place[i]? = some j) : t.slot j = .live i := by
  unfold SetTable.slot
  dsimp only
  rw [below_at h.up hi, hi]
  simp
theorem slot_empty {t : SetTable} {led : Bool} (h : TB t led) {j : Nat} (hj : ¬ Occ t j) : t.slot j = .empty := by
  unfold SetTable.slot
  dsimp only
  have ne : ¬ (t.place[SetTable.below t.place j]? == some j) = true := fun z => hj ⟨_, by simpa using z⟩
  rw [if_neg ne]
  have e : SetTable.has t.dummies j = false := by rw [h.dum]; rfl
  rw [e]
  rfl
/-- the first free slot from a probe on -/
theorem first_free {t : SetTable} {p : Pb} {n : Nat} (h : ∃ k, k < n ∧ ¬ Occ t (itP t.mask p k).j) : ∃ k, k < n ∧ ¬ Occ t (itP t.mask p k).j ∧ ∀ k', k' < k → Occ t (itP t.mask p k').j := by
  obtain ⟨k, hk, hf⟩ := h
  induction k using Nat.strongRecOn with
  | _ k ih =>
    by_cases z : ∃ k', k' < k ∧ ¬ Occ t (itP t.mask p k').j
    · obtain ⟨k', hk', hf'⟩ := z
      exact ih k' hk' (by omega) hf'
    · exact ⟨k, hk, hf, fun k' hk' => Classical.byContradiction fun q => z ⟨k', hk', q⟩⟩
/-- a walk of probes: the first free slot, or one of the same hash ahead of it -/
theorem probe_walk {t : SetTable} {led : Bool} (tb : TB t led) {f : Nat → Int} {h : Int} {p : Pb} (hd : p.dummy = none) : ∀ (fuel k : Nat), ¬ Occ t (itP t.mask p k).j → (∀ k', k' < k → Occ t (itP t.mask p k').j) → ∀ c, c ≤ k → k < c + fuel →
    (∃ n i, c ≤ n ∧ n < k ∧ t.place[i]? = some (itP t.mask p n).j ∧ f i = h ∧ (∀ n' i', c ≤ n' → n' < n → t.place[i']? = some (itP t.mask p n').j → f i' ≠ h) ∧ SetTable.probe.go t f h fuel (itP t.mask p c) = some (.candidate (itP t.mask p n).j i (itP t.mask p (n + 1)))) ∨
    ((∀ n i, c ≤ n → n < k → t.place[i]? = some (itP t.mask p n).j → f i ≠ h) ∧ SetTable.probe.go t f h fuel (itP t.mask p c) = some (.empty (itP t.mask p k).j none))
  | 0, k, _, _, c, ck, kf => by omega
  | fuel + 1, k, hf, ho, c, ck, kf => by
    by_cases e : c = k
    · subst e
      refine .inr ⟨fun n i h1 h2 => by omega, ?_⟩
      unfold SetTable.probe.go
      rw [slot_empty tb hf]
      dsimp only
      rw [itP_dummy, hd]
    · obtain ⟨i, hi⟩ := ho c (by omega)
      have sl := slot_live tb hi
      by_cases z : f i = h
      · refine .inl ⟨c, i, Nat.le_refl _, by omega, hi, z, fun n' i' h1 h2 => by omega, ?_⟩
        unfold SetTable.probe.go
        rw [sl]
        dsimp only
        rw [if_pos (by simpa using z)]
        rfl
      · have step : SetTable.probe.go t f h (fuel + 1) (itP t.mask p c) = SetTable.probe.go t f h fuel (itP t.mask p (c + 1)) := by
          conv => lhs; unfold SetTable.probe.go
          rw [sl]
          dsimp only
          rw [if_neg (by simpa using z)]
          rfl
        rw [step]
        rcases probe_walk tb hd fuel k hf ho (c + 1) (by omega) (by omega) with ⟨n, i', h1, h2, h3, h4, h6, h5⟩ | ⟨h1, h2⟩
        · refine .inl ⟨n, i', by omega, h2, h3, h4, fun n' i2 a b d => ?_, h5⟩
          rcases Nat.lt_or_eq_of_le a with q | q
          · exact h6 n' i2 q b d
          · subst q
            have : i = i2 := by rw [← below_at tb.up hi, ← below_at tb.up d]
            rw [← this]; exact z
        · refine .inr ⟨fun n i' a b d => ?_, h2⟩
          rcases Nat.lt_or_eq_of_le a with q | q
          · exact h1 n i' q b d
          · subst q
            have : i = i' := by rw [← below_at tb.up hi, ← below_at tb.up d]
            rw [← this]; exact z
end L2

set_option Elab.async false
set_option linter.all false
set_option maxRecDepth 100000
set_option maxHeartbeats 1000000
namespace L2
open PySem PySem.Spec PyProof.Rows
abbrev Own := Array (Option Nat)
def startP (m : Nat) (h : Int) : Pb := { j := SetTable.bits h % (m + 1), more := SetTable.runEnd m (SetTable.bits h % (m + 1)) - SetTable.bits h % (m + 1), i := SetTable.bits h % (m + 1), perturb := SetTable.bits h, dummy := none }
theorem bits_lt (h : Int) : SetTable.bits h < 2 ^ 64 := by
  unfold SetTable.bits
  have a := Int.emod_nonneg h (by decide : (2 ^ 64 : Int) ≠ 0)
  have b := Int.emod_lt_of_pos h (by decide : (0 : Int) < 2 ^ 64)
  omega
theorem run_le (m i : Nat) : SetTable.runEnd m i - i ≤ 9 := by unfold SetTable.runEnd; split <;> omega
theorem free_ok {m : Nat} {ow : Own} : ∀ (fuel : Nat) (p : Pb), p.j = p.i → p.more = SetTable.runEnd m p.i - p.i → ∀ {j : Nat}, SetTable.layClean.free m ow fuel p.i p.perturb = some j →
    ∃ k, (itP m p k).j = j ∧ ow.getD j (some 0) = none ∧ ∀ k', k' < k → ow.getD (itP m p k').j (some 0) ≠ none
  | 0, p, _, _, j, h => by unfold SetTable.layClean.free at h; cases h
  | fuel + 1, p, hj, hm, j, h => by
    have le : p.i ≤ SetTable.runEnd m p.i := by unfold SetTable.runEnd; split <;> omega
    have len : SetTable.runEnd m p.i + 1 - p.i = p.more + 1 := by omega
    unfold SetTable.layClean.free at h
    rw [len] at h
    cases z : (List.range (p.more + 1)).find? (fun k => (ow.getD (p.i + k) (some 0)).isNone) with
    | some k =>
      rw [z] at h
      dsimp only at h
      cases h
      obtain ⟨q1, as, bs, q2, q3⟩ := List.find?_eq_some_iff_append.mp z
      have kr : k ∈ List.range (p.more + 1) := by rw [q2]; simp
      have kl := List.mem_range.mp kr
      refine ⟨k, by rw [run_pos m k p (by omega)]; show p.j + k = _; rw [hj], by simpa using q1, fun k' hk' => ?_⟩
      rw [run_pos m k' p (by omega)]
      show ow.getD (p.j + k') (some 0) ≠ none
      rw [hj]
      have mem : k' ∈ as := by
        have i1 : (List.range (p.more + 1))[k']? = some k' := by rw [List.getElem?_range (by omega)]
        have i2 : (List.range (p.more + 1))[k]? = some k := by rw [List.getElem?_range (by omega)]
        rw [q2] at i1 i2
        by_cases la : k' < as.length
        · rw [List.getElem?_append_left la] at i1
          exact List.mem_of_getElem? i1
        · exfalso
          have ea : as.length = k := by
            have i3 : (as ++ k :: bs)[as.length]? = some k := by rw [List.getElem?_append_right (Nat.le_refl _), Nat.sub_self]; rfl
            rw [← q2] at i3
            by_cases l2 : as.length < p.more + 1
            · rw [List.getElem?_range l2] at i3; cases i3; rfl
            · rw [List.getElem?_eq_none (by rw [List.length_range]; omega)] at i3; cases i3
          omega
      have q4 := q3 k' mem
      intro q5
      rw [q5] at q4
      cases q4
    | none =>
      rw [z] at h
      dsimp only at h
      have al := List.find?_eq_none.mp z
      have rc := free_ok fuel (lp m p) rfl rfl (j := j) h
      obtain ⟨k, e1, e2, e3⟩ := rc
      refine ⟨p.more + 1 + k, by rw [itP_add, itP_lp]; exact e1, e2, fun k' hk' => ?_⟩
      by_cases l : k' < p.more + 1
      · rw [run_pos m k' p (by omega)]
        show ow.getD (p.j + k') (some 0) ≠ none
        rw [hj]
        have := al k' (List.mem_range.mpr l)
        simpa using this
      · have e : k' = p.more + 1 + (k' - (p.more + 1)) := by omega
        rw [e, itP_add, itP_lp]
        exact e3 _ (by omega)
theorem free_some {m : Nat} {ow : Own} : ∀ (fuel : Nat) (p : Pb), p.j = p.i → p.more = SetTable.runEnd m p.i - p.i → (∃ n, n < fuel ∧ ow.getD (lpN m p n).j (some 0) = none) → ∃ j, SetTable.layClean.free m ow fuel p.i p.perturb = some j
  | 0, p, _, _, ⟨n, h, _⟩ => by omega
  | fuel + 1, p, hj, hm, ⟨n, hn, he⟩ => by
    unfold SetTable.layClean.free
    cases z : (List.range (SetTable.runEnd m p.i + 1 - p.i)).find? (fun k => (ow.getD (p.i + k) (some 0)).isNone) with
    | some k => exact ⟨p.i + k, rfl⟩
    | none =>
      dsimp only
      have le : p.i ≤ SetTable.runEnd m p.i := by unfold SetTable.runEnd; split <;> omega
      cases n with
      | zero =>
        exfalso
        have := List.find?_eq_none.mp z 0 (List.mem_range.mpr (by omega))
        have he : ow.getD p.j (some 0) = none := he
        rw [hj] at he
        rw [Nat.add_zero, he] at this
        exact this rfl
      | succ n =>
        refine free_some fuel (lp m p) rfl rfl ⟨n, by omega, ?_⟩
        have e : ∀ n, lpN m (lp m p) n = lpN m p (n + 1) := fun n => by
          induction n with
          | zero => rfl
          | succ n ih => show lp m (lpN m (lp m p) n) = lp m (lpN m p (n + 1)); rw [ih]
        rw [e]; exact he
/-- a table laid: each hash at a slot of its own, met first -/
structure LC (m : Nat) (ow : Own) (hs : List Int) : Prop where
  size : ow.size = m + 1
  at' : ∀ (k : Nat) (h : Int), hs[k]? = some h → ∃ j : Nat, ow[j]? = some (some k) ∧ ∃ n, (itP m (startP m h) n).j = j ∧ ∀ n', n' < n → ow.getD (itP m (startP m h) n').j (some 0) ≠ none
  few : ∀ (j k : Nat), ow[j]? = some (some k) → k < hs.length
  one : ∀ (j j' k : Nat), ow[j]? = some (some k) → ow[j']? = some (some k) → j = j'
theorem nodup_leN : ∀ {l m : List Nat}, l.Nodup → (∀ x ∈ l, x ∈ m) → l.length ≤ m.length
  | [], m, _, _ => Nat.zero_le _
  | a :: l, m, h, hm => by
    rw [List.nodup_cons] at h
    have ha := hm a List.mem_cons_self
    have q := nodup_leN (m := m.erase a) h.2 fun x hx => (List.mem_erase_of_ne (fun z : x = a => h.1 (by rw [← z]; exact hx))).mpr (hm x (List.mem_cons_of_mem _ hx))
    rw [List.length_erase_of_mem ha] at q
    have := List.length_pos_of_mem ha
    simp only [List.length_cons]
    omega
theorem LC.room {m : Nat} {ow : Own} {hs : List Int} (c : LC m ow hs) (hl : hs.length ≤ m) : ∃ e, e ≤ m ∧ ow.getD e (some 0) = none := by
  refine Classical.byContradiction fun z => ?_
  have al : ∀ e, e ≤ m → ∃ k, ow[e]? = some (some k) := fun e he => by
    have hlt : e < ow.size := by rw [c.size]; omega
    cases q : ow[e] with
    | none => exact absurd ⟨e, he, by rw [Array.getD_eq_getD_getElem?, Array.getElem?_eq_getElem hlt, q]; rfl⟩ z
    | some k => exact ⟨k, by rw [Array.getElem?_eq_getElem hlt, q]⟩
  let g : Nat → Nat := fun e => (ow.getD e none).getD 0
  have gk : ∀ e, e ≤ m → ow[e]? = some (some (g e)) := fun e he => by
    obtain ⟨k, hk⟩ := al e he
    have : g e = k := by show (ow.getD e none).getD 0 = k; rw [Array.getD_eq_getD_getElem?, hk]; rfl
    rw [this]; exact hk
  have nd : ((List.range (m + 1)).map g).Nodup := by
    rw [List.nodup_iff_pairwise_ne, List.pairwise_map]
    refine List.nodup_iff_pairwise_ne.mp List.nodup_range |>.imp_of_mem ?_
    intro a b ha hb ne e
    have ha := List.mem_range.mp ha
    have hb := List.mem_range.mp hb
    have h1 := gk a (by omega)
    have h2 := gk b (by omega)
    rw [e] at h1
    exact ne (c.one _ _ _ h1 h2)
  have := nodup_leN (m := List.range hs.length) nd fun x hx => by
    obtain ⟨e, he, rfl⟩ := List.mem_map.mp hx
    exact List.mem_range.mpr (c.few _ _ (gk e (by have := List.mem_range.mp he; omega)))
  rw [List.length_map, List.length_range, List.length_range] at this
  omega
theorem LC.step {m : Nat} (hm : OkM m) {ow : Own} {hs : List Int} (c : LC m ow hs) (hl : hs.length ≤ m) (h : Int) : ∃ j, SetTable.layClean.free m ow (SetTable.turns m) (SetTable.bits h % (m + 1)) (SetTable.bits h) = some j ∧ LC m (ow.setIfInBounds j (some hs.length)) (hs ++ [h]) := by
  obtain ⟨e, he, hf⟩ := c.room hl
  have ib : SetTable.bits h % (m + 1) ≤ m := Nat.le_of_lt_succ (Nat.mod_lt _ (Nat.succ_pos m))
  obtain ⟨n, n1, _, n2, _⟩ := meets hm (p := startP m h) (bits_lt h) (run_le m _) ib he
  obtain ⟨j, hj⟩ := free_some (m := m) (ow := ow) (SetTable.turns m) (startP m h) rfl rfl ⟨n, by unfold SetTable.turns; omega, by rw [n2]; exact hf⟩
  have hj' : SetTable.layClean.free m ow (SetTable.turns m) (SetTable.bits h % (m + 1)) (SetTable.bits h) = some j := hj
  refine ⟨j, hj', ?_⟩
  obtain ⟨k, k1, k2, k3⟩ := free_ok (SetTable.turns m) (startP m h) rfl rfl hj
  have jl : j < ow.size := by
    refine Classical.byContradiction fun z => ?_
    rw [Array.getD_eq_getD_getElem?, Array.getElem?_eq_none (by omega)] at k2
    cases k2
  have jn : ow[j]? = some none := by
    rw [Array.getD_eq_getD_getElem?, Array.getElem?_eq_getElem jl] at k2
    rw [Array.getElem?_eq_getElem jl]
    exact congrArg some k2
  have gs : ∀ x, (ow.setIfInBounds j (some hs.length))[x]? = if j = x then some (some hs.length) else ow[x]? := fun x => by
    rw [Array.getElem?_setIfInBounds]
    by_cases q : j = x
    · subst q; simp [jl]
    · simp [q]
  have occ : ∀ x, ow.getD x (some 0) ≠ none → (ow.setIfInBounds j (some hs.length)).getD x (some 0) ≠ none := fun x hx => by
    rw [Array.getD_eq_getD_getElem?, gs]
    split
    · intro q; cases q
    · rw [← Array.getD_eq_getD_getElem?]; exact hx
  refine ⟨by rw [Array.size_setIfInBounds]; exact c.size, fun x y hx => ?_, fun x y hx => ?_, fun x x' y hx hx' => ?_⟩
  · by_cases z : x < hs.length
    · rw [List.getElem?_append_left z] at hx
      obtain ⟨i, i1, nn, i2, i3⟩ := c.at' x y hx
      refine ⟨i, ?_, nn, i2, fun n' hn' => occ _ (i3 n' hn')⟩
      rw [gs, if_neg (fun q => by rw [← q, jn] at i1; cases i1)]
      exact i1
    · have e : x = hs.length := by
        have := (List.getElem?_eq_some_iff.mp hx).1
        rw [List.length_append] at this
        simp at this
        omega
      subst e
      rw [List.getElem?_append_right (Nat.le_refl _), Nat.sub_self] at hx
      cases hx
      refine ⟨j, by rw [gs, if_pos rfl], k, k1, fun n' hn' => occ _ (k3 n' hn')⟩
  · rw [gs] at hx
    rw [List.length_append]
    split at hx
    · cases hx; simp
    · have := c.few x y hx
      simp
      omega
  · rw [gs] at hx hx'
    split at hx
    · rename_i q
      cases hx
      split at hx'
      · rename_i q'; rw [← q, ← q']
      · exact absurd (c.few _ _ hx') (Nat.lt_irrefl _)
    · split at hx'
      · cases hx'; exact absurd (c.few _ _ hx) (Nat.lt_irrefl _)
      · exact c.one _ _ _ hx hx'
theorem layClean_ok {m : Nat} (hm : OkM m) {hs : Array Int} (hl : hs.size ≤ m + 1) : ∃ ow, SetTable.layClean m hs = some ow ∧ LC m ow hs.toList := by
  have key : ∀ (l done : List Int) (ow : Own), done.length + l.length ≤ m + 1 → LC m ow done → ∃ ow', l.foldl (fun (acc : Option (Own × Nat)) h => do
      let (owner, k) ← acc
      let j ← SetTable.layClean.free m owner (SetTable.turns m) (SetTable.bits h % (m + 1)) (SetTable.bits h)
      pure (owner.setIfInBounds j (some k), k + 1)) (some (ow, done.length)) = some (ow', (done ++ l).length) ∧ LC m ow' (done ++ l) := by
    intro l
    induction l with
    | nil => intro done ow _ c; exact ⟨ow, by rw [List.append_nil]; rfl, by rw [List.append_nil]; exact c⟩
    | cons h l ih =>
      intro done ow hle c
      simp only [List.length_cons] at hle
      obtain ⟨j, hj, c2⟩ := c.step hm (by omega) h
      obtain ⟨ow', e, c3⟩ := ih (done ++ [h]) (ow.setIfInBounds j (some done.length)) (by rw [List.length_append]; simp; omega) c2
      refine ⟨ow', ?_, by rw [List.append_assoc] at c3; exact c3⟩
      rw [List.foldl_cons]
      rw [List.append_assoc] at e
      rw [← List.singleton_append, ← e]
      congr 1
      show (do
        let j ← SetTable.layClean.free m ow (SetTable.turns m) (SetTable.bits h % (m + 1)) (SetTable.bits h)
        pure (ow.setIfInBounds j (some done.length), done.length + 1)) = _
      rw [hj, List.length_append]
      rfl
  have c0 : LC m (Array.replicate (m + 1) none) [] := by
    have no : ∀ (j k : Nat), (Array.replicate (m + 1) (none : Option Nat))[j]? ≠ some (some k) := fun j k z => by
      rw [Array.getElem?_replicate] at z
      split at z <;> cases z
    exact ⟨by simp, fun k h hk => (by cases hk), fun j k h => absurd h (no j k), fun j j' k h => absurd h (no j k)⟩
  obtain ⟨ow, e, c⟩ := key hs.toList [] _ (by simpa using hl) c0
  refine ⟨ow, ?_, by simpa using c⟩
  unfold SetTable.layClean
  rw [← Array.foldl_toList]
  have e' := e
  simp only [List.nil_append, List.length_nil] at e'
  rw [e']
  rfl
end L2

set_option Elab.async false
set_option linter.all false
set_option maxRecDepth 100000
set_option maxHeartbeats 1000000
namespace L2
open PySem PySem.Spec PyProof.Rows
theorem adv_j {m : Nat} {p : Pb} (h : p.j + p.more ≤ m) : (adv m p).j + (adv m p).more ≤ m := by
  unfold adv
  split
  · show p.j + 1 + (p.more - 1) ≤ m; omega
  · have q : (p.i * 5 + 1 + p.perturb / 32) % (m + 1) ≤ m := Nat.le_of_lt_succ (Nat.mod_lt _ (Nat.succ_pos m))
    show _ % (m + 1) + (SetTable.runEnd m _ - _) ≤ m
    unfold SetTable.runEnd
    split <;> omega
theorem itP_j {m : Nat} {p : Pb} (h : p.j + p.more ≤ m) : ∀ k, (itP m p k).j + (itP m p k).more ≤ m
  | 0 => h
  | k + 1 => adv_j (itP_j h k)
theorem start_j (m : Nat) (h : Int) : (startP m h).j + (startP m h).more ≤ m := by
  have q : SetTable.bits h % (m + 1) ≤ m := Nat.le_of_lt_succ (Nat.mod_lt _ (Nat.succ_pos m))
  show _ % (m + 1) + (SetTable.runEnd m _ - _) ≤ m
  unfold SetTable.runEnd
  split <;> omega
theorem start_le (m : Nat) (h : Int) (k : Nat) : (itP m (startP m h) k).j ≤ m := by have := itP_j (start_j m h) k; omega
/-- a table in which each hash is found -/
structure TabOk (t : SetTable) (led : Bool) (hs : List Int) : Prop where
  tb : TB t led
  m : (t.mask = 7 ∧ hs.length ≤ 4) ∨ (t.mask = 31 ∧ hs.length ≤ 18) ∨ (t.mask = 127 ∧ hs.length ≤ 76)
  sz : t.place.size = hs.length
  le : ∀ (i j : Nat), t.place[i]? = some j → j ≤ t.mask
  rch : ∀ (i : Nat) (h : Int), hs[i]? = some h → ∃ j : Nat, t.place[i]? = some j ∧ ∃ n, (itP t.mask (startP t.mask h) n).j = j ∧ ∀ n', n' < n → Occ t (itP t.mask (startP t.mask h) n').j
theorem TabOk.okm {t : SetTable} {led : Bool} {hs : List Int} (k : TabOk t led hs) : OkM t.mask := by
  rcases k.m with h | h | h
  · exact .inl h.1
  · exact .inr (.inl h.1)
  · exact .inr (.inr h.1)
theorem TabOk.few {t : SetTable} {led : Bool} {hs : List Int} (k : TabOk t led hs) : hs.length + 1 ≤ t.mask := by rcases k.m with h | h | h <;> omega
theorem TabOk.fits {t : SetTable} {led : Bool} {hs : List Int} (k : TabOk t led hs) : t.fits hs.length = true := by
  unfold SetTable.fits SetTable.fill
  rw [k.sz, k.tb.dum]
  have := k.few
  simp
  omega
theorem TabOk.room {t : SetTable} {led : Bool} {hs : List Int} (k : TabOk t led hs) : ∃ e, e ≤ t.mask ∧ ¬ Occ t e := by
  refine Classical.byContradiction fun z => ?_
  have al : ∀ e, e ≤ t.mask → e ∈ t.place.toList := fun e he => by
    refine Classical.byContradiction fun q => z ⟨e, he, fun ⟨i, hi⟩ => q ?_⟩
    rw [← Array.getElem?_toList] at hi
    exact List.mem_of_getElem? hi
  have := nodup_leN (l := List.range (t.mask + 1)) (m := t.place.toList) List.nodup_range fun x hx => al x (by have := List.mem_range.mp hx; omega)
  rw [List.length_range, Array.length_toList, k.sz] at this
  have := k.few
  omega
theorem live_mem {m : Nat} {ow : Own} (hsz : ow.size = m + 1) {j k : Nat} : (j, k) ∈ ((List.range (m + 1)).filterMap fun j => (ow.getD j none).map (j, ·)) ↔ ow[j]? = some (some k) := by
  rw [List.mem_filterMap]
  constructor
  · rintro ⟨x, hx, e⟩
    cases q : ow.getD x none with
    | none => rw [q] at e; cases e
    | some y =>
      rw [q] at e
      cases e
      have := List.mem_range.mp hx
      rw [Array.getD_eq_getD_getElem?, Array.getElem?_eq_getElem (by omega)] at q
      rw [Array.getElem?_eq_getElem (by omega)]
      exact congrArg some q
  · intro h
    have hl := (Array.getElem?_eq_some_iff.mp h).1
    refine ⟨j, List.mem_range.mpr (by omega), ?_⟩
    rw [Array.getD_eq_getD_getElem?, h]
    rfl
theorem relaid_ok {t : SetTable} {led : Bool} (tb : TB t led) {hs : Array Int} {want : Nat} (hm : OkM (SetTable.sizeAbove want - 1)) (hl : hs.size ≤ SetTable.sizeAbove want - 1)
    (hb : ((SetTable.sizeAbove want - 1) = 7 ∧ hs.size ≤ 4) ∨ ((SetTable.sizeAbove want - 1) = 31 ∧ hs.size ≤ 18) ∨ ((SetTable.sizeAbove want - 1) = 127 ∧ hs.size ≤ 76)) :
    ∃ t' order, t.relaid hs want = some (t', order) ∧ order.toList.Perm (List.range hs.size) ∧ ∀ hs' : List Int, hs'.length = hs.size → (∀ (i k : Nat), order[i]? = some k → hs'[i]? = hs[k]?) → TabOk t' led hs' := by
  generalize hmm : SetTable.sizeAbove want - 1 = m at *
  obtain ⟨ow, e, c⟩ := layClean_ok hm (hs := hs) (by omega)
  have cl : hs.toList.length = hs.size := Array.length_toList
  let live := (List.range (m + 1)).filterMap fun j => (ow.getD j none).map (j, ·)
  have hr : t.relaid hs want = some ({ mask := m, place := (live.map (·.1)).toArray, dummies := #[], finger := t.finger, led := t.led, moves := t.movedTo m, plain := t.plain }, (live.map (·.2)).toArray) := by
    unfold SetTable.relaid SetTable.laid
    rw [hmm, e]
    rfl
  have pw : (live.map (·.1)).Pairwise (· < ·) := by
    rw [filter_fst (fun j => ow.getD j none)]
    exact List.pairwise_lt_range.sublist List.filter_sublist
  have pw2 : live.Pairwise (fun a b => a.1 < b.1) := List.pairwise_map.mp pw
  have nd : (live.map (·.2)).Nodup := by
    rw [List.nodup_iff_pairwise_ne, List.pairwise_map]
    refine pw2.imp_of_mem ?_
    rintro ⟨a, a'⟩ ⟨b, b'⟩ ha hb lt z
    have z : a' = b' := z
    subst z
    have := c.one a b a' ((live_mem c.size).mp ha) ((live_mem c.size).mp hb)
    have lt : a < b := lt
    omega
  have mem : ∀ k, k ∈ live.map (·.2) ↔ k < hs.size := fun k => by
    rw [List.mem_map]
    constructor
    · rintro ⟨⟨j, k'⟩, hx, rfl⟩
      have := c.few j k' ((live_mem c.size).mp hx)
      omega
    · intro hk
      obtain ⟨j, hj, _⟩ := c.at' k hs.toList[k] (List.getElem?_eq_getElem (by omega))
      exact ⟨(j, k), (live_mem c.size).mpr hj, rfl⟩
  refine ⟨_, _, hr, ?_, fun hs' hl' hh => ?_⟩
  · show (live.map (·.2)).Perm _
    refine (List.perm_ext_iff_of_nodup nd List.nodup_range).mpr fun k => ?_
    rw [mem, List.mem_range]
  · have ll : live.length = hs.size := by
      have := ((List.perm_ext_iff_of_nodup nd (List.nodup_range (n := hs.size))).mpr fun k => by rw [mem, List.mem_range]).length_eq
      rw [List.length_map, List.length_range] at this
      exact this
    have pl : ∀ (i j : Nat), (live.map (·.1)).toArray[i]? = some j ↔ ∃ k, live[i]? = some (j, k) := fun i j => by
      rw [List.getElem?_toArray, List.getElem?_map]
      constructor
      · intro z
        cases q : live[i]? with
        | none => rw [q] at z; cases z
        | some x => rw [q] at z; cases z; exact ⟨x.2, rfl⟩
      · rintro ⟨k, q⟩; rw [q]; rfl
    have oc : ∀ x, x ≤ m → ow.getD x (some 0) ≠ none → Occ { mask := m, place := (live.map (·.1)).toArray, dummies := #[], finger := t.finger, led := t.led, moves := t.movedTo m, plain := t.plain } x := fun x hx hn => by
      have xl : x < ow.size := by rw [c.size]; omega
      cases q : ow[x] with
      | none => exact absurd (by rw [Array.getD_eq_getD_getElem?, Array.getElem?_eq_getElem xl, q]; rfl) hn
      | some k =>
        have : (x, k) ∈ live := (live_mem c.size).mpr (by rw [Array.getElem?_eq_getElem xl, q])
        obtain ⟨i, hi⟩ := List.mem_iff_getElem?.mp this
        exact ⟨i, (pl i x).mpr ⟨k, hi⟩⟩
    refine ⟨⟨tb.led, rfl, by rw [List.toList_toArray]; exact pw⟩, by rw [hl']; exact hb, by rw [List.size_toArray, List.length_map, ll, hl'], fun i j hij => ?_, fun i h hih => ?_⟩
    · obtain ⟨k, hk⟩ := (pl i j).mp hij
      have := (live_mem c.size).mp (List.mem_of_getElem? hk)
      have := (Array.getElem?_eq_some_iff.mp this).1
      show j ≤ m
      have := c.size
      omega
    · have il : i < live.length := by have := (List.getElem?_eq_some_iff.mp hih).1; omega
      have hk : live[i]? = some live[i] := List.getElem?_eq_getElem il
      have ho : (live.map (·.2)).toArray[i]? = some live[i].2 := by rw [List.getElem?_toArray, List.getElem?_map, hk]; rfl
      have e2 := hh i _ ho
      rw [hih] at e2
      obtain ⟨j, hj, n, n1, n2⟩ := c.at' live[i].2 h (by rw [Array.getElem?_toList]; exact e2.symm)
      have mj := (live_mem c.size).mp (List.mem_of_getElem? hk)
      have ej := c.one _ _ _ hj mj
      refine ⟨live[i].1, (pl i _).mpr ⟨_, hk⟩, n, (show (itP m (startP m h) n).j = _ from n1.trans ej), fun n' hn' => oc _ (start_le m h n') (n2 n' hn')⟩
end L2

set_option Elab.async false
set_option linter.all false
set_option maxRecDepth 100000
set_option maxHeartbeats 1000000
namespace L2
open PySem PySem.Spec PyProof.Rows
theorem items_ints {prog : Program} {w : World} : ∀ {vs : List Value} {u : List Int}, IntsAre vs u → ItemsAre (intKind prog w) u vs
  | _, _, .nil => .nil
  | _, _, .cons n t h => .cons (intKind_is _ _ _ _) (items_ints h)
theorem TupI.key {prog : Program} {w : World} {h : Heap} {a : Addr} {u : List Int} (t : TupI h (.ref a) u) : IsTupleKey (intKind prog w) h u a := by
  obtain ⟨b, o, its, n, e, e1, c, d, i⟩ := t
  cases e
  exact ⟨o, its, n, e1, c, d, items_ints i⟩
theorem ints_all : ∀ {vs : List Value} {u : List Int}, IntsAre vs u → ∀ v ∈ vs, ∃ n t, v = Value.int n t
  | _, _, .nil, v, hv => by cases hv
  | _, _, .cons n t h, v, hv => by
    rcases List.mem_cons.mp hv with rfl | hv
    · exact ⟨n, t, rfl⟩
    · exact ints_all h v hv
section
variable {prog : Program} {w : World} {A : Around} {E : Value → Shared → Prop} {s : Shared}
theorem byValue_tup {x : Value} {u : List Int} {Q : Bool → Shared → Prop} (t : TupI s.heap x u) (h : Q true s) : wpAny (model prog w) A (hashByValue 8 x) Q E s := by
  obtain ⟨a, o, its, n, rfl, e, c, d, i⟩ := t
  have hT : s.TypeIs (.ref a) "tuple" := ⟨o, e, c⟩
  unfold hashByValue
  refine wpAny_bind (wpAny_specialOf hT PySem.F.slot_tuple_hash.lookup ?_)
  show wpAny _ _ (seqItems? (.ref a) >>= _) _ _ s
  refine wpAny_bind (wpAny_seqItems e d ?_)
  refine wpAny_bind ?_
  show wpAny _ _ (forIn its _ _) _ _ s
  rw [← Array.forIn_toList]
  refine wpAny_forIn_list _ (fun l r t => r.1 = none ∧ t = s ∧ ∀ v ∈ l, ∃ n t, v = Value.int n t) _ ?_ ?_ _ _ ⟨rfl, rfl, ints_all i⟩
  · rintro v l r t ⟨hr, rfl, al⟩
    obtain ⟨m, k, rfl⟩ := al v List.mem_cons_self
    refine wpAny_bind (wpAny_pure ?_)
    rw [if_neg (by simp)]
    exact wpAny_pure ⟨rfl, rfl, fun y hy => al y (List.mem_cons_of_mem _ hy)⟩
  · rintro ⟨r1, r2⟩ t ⟨hr, rfl, _⟩
    cases (show r1 = none from hr)
    exact wpAny_pure h
theorem noClass_tup {x : Value} {u : List Int} {Q : Bool → Shared → Prop} (t : TupI s.heap x u) (h : Q false s) : wpAny (model prog w) A (ofAClassStatement 8 x) Q E s := by
  obtain ⟨a, o, its, n, rfl, e, c, d, i⟩ := t
  have hT : s.TypeIs (.ref a) "tuple" := ⟨o, e, c⟩
  unfold ofAClassStatement
  refine wpAny_bind (wpAny_typeOf hT ?_)
  dsimp only
  rw [if_pos (by decide)]
  refine wpAny_bind (wpAny_pure ?_)
  rw [if_neg (by simp)]
  refine wpAny_bind (wpAny_seqItems e d ?_)
  dsimp only
  refine wpAny_bind ?_
  rw [← Array.forIn_toList]
  refine wpAny_forIn_list _ (fun l r t => r.1 = none ∧ t = s ∧ ∀ v ∈ l, ∃ n t, v = Value.int n t) _ ?_ ?_ _ _ ⟨rfl, rfl, ints_all i⟩
  · rintro v l r t ⟨hr, rfl, al⟩
    obtain ⟨m, k, rfl⟩ := al v List.mem_cons_self
    refine wpAny_bind (wpAny_pure ?_)
    rw [if_neg (by simp)]
    exact wpAny_pure ⟨rfl, rfl, fun y hy => al y (List.mem_cons_of_mem _ hy)⟩
  · rintro ⟨r1, r2⟩ t ⟨hr, rfl, _⟩
    cases (show r1 = none from hr)
    exact wpAny_pure h
theorem notSeen {x : Value} {u : List Int} {ys : List Value} {Q : Bool → Shared → Prop} (hx : TupI s.heap x u) (ty : ∀ y ∈ ys, ∃ v, TupI s.heap y v) (h : Q false s) : wpAny (model prog w) A (searchCouldBeSeen x ys) Q E s := by
  unfold searchCouldBeSeen
  refine wpAny_bind ?_
  refine wpAny_forIn_list _ (fun l r t => r.1 = none ∧ t = s ∧ ∀ y ∈ l, ∃ v, TupI s.heap y v) _ ?_ ?_ _ _ ⟨rfl, rfl, ty⟩
  · rintro y l r t ⟨hr, rfl, al⟩
    obtain ⟨v, hy⟩ := al y List.mem_cons_self
    have al2 : ∀ z ∈ l, ∃ v, TupI t.heap z v := fun z hz => al z (List.mem_cons_of_mem _ hz)
    obtain ⟨a, _, _, _, rfl, _⟩ := id hx
    obtain ⟨b, _, _, _, rfl, _⟩ := id hy
    dsimp only
    split
    · exact wpAny_pure ⟨rfl, rfl, al2⟩
    · refine wpAny_bind (wpAny_eqIsQuiet_tuple (hx.key (prog := prog) (w := w)) ?_)
      rw [if_neg (by simp)]
      refine wpAny_bind (wpAny_eqIsQuiet_tuple (hy.key (prog := prog) (w := w)) ?_)
      rw [if_neg (by simp)]
      refine wpAny_bind (noClass_tup hx ?_)
      rw [if_neg (by simp)]
      refine wpAny_bind (noClass_tup hy ?_)
      rw [if_neg (by simp)]
      exact wpAny_pure ⟨rfl, rfl, al2⟩
  · rintro ⟨r1, r2⟩ t ⟨hr, rfl, _⟩
    cases (show r1 = none from hr)
    exact wpAny_pure h
end
end L2

set_option Elab.async false
set_option linter.all false
set_option maxRecDepth 100000
set_option maxHeartbeats 1000000
namespace L2
open PySem PySem.Spec PyProof.Rows
def hsh (prog : Program) (w : World) (u : List Int) : Int := tupleKeyHash (intKind prog w) u
/-- the elements of a set of tuples -/
def EA (prog : Program) (w : World) (V0 : Value → Prop) (hp : Heap) (es : List (Int × Value)) (ks : List (List Int)) : Prop := es.length = ks.length ∧ ∀ (i : Nat) (e : Int × Value) (k : List Int), es[i]? = some e → ks[i]? = some k → TupI hp e.2 k ∧ e.1 = hsh prog w k ∧ V0 e.2
section
variable {prog : Program} {w : World} {A : Around} {E : Value → Shared → Prop} {s : Shared}
theorem search_t {V0 : Value → Prop} {a : Addr} {o : Obj} {es : Array (Int × Value)} {ep : Nat} {t : SetTable} {led : Bool} {ks : List (List Int)} {u : List Int} {x : Value} {Q : SetFound → Shared → Prop} (ho : s.heap.get? a = some o) (hd : o.data = .set es ep t)
    (K : TabOk t led (es.toList.map (·.1))) (ea : EA prog w V0 s.heap es.toList ks) (hx : TupI s.heap x u) (hu : A.units < cLine) {N : Nat} (hf : ¬ Occ t (itP t.mask (startP t.mask (hsh prog w u)) N).j) (hoc : ∀ n, n < N → Occ t (itP t.mask (startP t.mask (hsh prog w u)) n).j) (hN : N < 10 * SetTable.turns t.mask)
    (h1 : u ∈ ks → Q (.there none) s) (h2 : u ∉ ks → Q (.free (itP t.mask (startP t.mask (hsh prog w u)) N).j false) s) :
    ∀ (fuel c : Nat) (stand : Option Pb), stand.getD (t.probeStart (hsh prog w u)) = itP t.mask (startP t.mask (hsh prog w u)) c → c ≤ N → N < c + fuel → (∀ (n i : Nat) (k : List Int), n < c → t.place[i]? = some (itP t.mask (startP t.mask (hsh prog w u)) n).j → ks[i]? = some k → k ≠ u) →
      wpAny (model prog w) A (setSearchFrom a x (hsh prog w u) true fuel stand) Q E s := by
  have fit : t.fits es.size = true := by
    have := K.fits
    rw [List.length_map, Array.length_toList] at this
    exact this
  have gave : ¬ t.gaveWay = true := by
    unfold SetTable.gaveWay
    rcases K.okm with h | h | h <;> rw [h] <;> decide
  have kl : ks.length = es.size := by rw [← ea.1, Array.length_toList]
  intro fuel
  induction fuel with
  | zero => intro c stand _ _ _; omega
  | succ fuel ih =>
    intro c stand hst cN Nf acc
    unfold setSearchFrom
    refine wpAny_bind (wpAny_setState_of ho hd fit ?_)
    dsimp only
    rw [if_neg gave]
    rcases probe_walk K.tb (f := fun i => (es[i]?.map (·.1)).getD 0) (h := hsh prog w u) (p := startP t.mask (hsh prog w u)) rfl (10 * SetTable.turns t.mask) N hf hoc c cN (by omega) with ⟨n, i, cn, nN, hpl, hfi, hbt, hgo⟩ | ⟨hno, hgo⟩
    · have hpr : t.probe (fun i => (es[i]?.map (·.1)).getD 0) (hsh prog w u) (stand.getD (t.probeStart (hsh prog w u))) = some (.candidate (itP t.mask (startP t.mask (hsh prog w u)) n).j i (itP t.mask (startP t.mask (hsh prog w u)) (n + 1))) := by rw [hst]; exact hgo
      erw [hpr]
      dsimp only
      have il : i < es.size := by
        have := (Array.getElem?_eq_some_iff.mp hpl).1
        rw [K.sz, List.length_map, Array.length_toList] at this
        exact this
      obtain ⟨h', y, hei⟩ : ∃ h' y, es[i]? = some (h', y) := ⟨es[i].1, es[i].2, Array.getElem?_eq_getElem il⟩
      obtain ⟨k, hk⟩ : ∃ k, ks[i]? = some k := ⟨ks[i], List.getElem?_eq_getElem (by omega)⟩
      obtain ⟨ty, hh, _⟩ := ea.2 i _ k (by rw [Array.getElem?_toList]; exact hei) hk
      have seen : ∀ {R : Bool → Shared → Prop}, R false s → wpAny (model prog w) A (searchCouldBeSeen x ((es.filter (·.1 == hsh prog w u)).toList.map (·.2))) R E s := fun {R} hR => by
        refine notSeen hx (fun y hy => ?_) hR
        obtain ⟨e, he, rfl⟩ := List.mem_map.mp hy
        rw [Array.toList_filter] at he
        obtain ⟨m, hm⟩ := List.mem_iff_getElem?.mp (List.mem_filter.mp he).1
        have ml := (List.getElem?_eq_some_iff.mp hm).1
        have ml2 : m < ks.length := by rw [← ea.1]; exact ml
        exact ⟨ks[m], (ea.2 m e _ hm (List.getElem?_eq_getElem ml2)).1⟩
      have sm : t.sameMemory t.moves t.mask = some true := by unfold SetTable.sameMemory; simp
      obtain ⟨b, _, _, _, eb, _⟩ := id ty
      have eb : y = .ref b := eb
      subst eb
      obtain ⟨c', _, _, _, ec, _⟩ := id hx
      subst ec
      by_cases hl : t.led = true
      · rw [if_neg (by simp [hl])]
        rw [hei]
        dsimp only
        refine wpAny_bind (wpAny_holding (wpAny_eqBool_tuple hu (ty.key (prog := prog) (w := w)) (hx.key (prog := prog) (w := w)) ?_))
        refine wpAny_bind (wpAny_setState_of ho hd fit ?_)
        dsimp only
        by_cases e : k = u
        · rw [decide_eq_true e, if_pos (by rfl)]
          exact wpAny_pure (h1 (e ▸ List.mem_of_getElem? hk))
        · rw [decide_eq_false e, if_neg (by simp), sm]
          dsimp only
          rw [if_pos rfl, slot_live K.tb hpl]
          dsimp only
          rw [hei]
          dsimp only
          refine wpAny_bind (wpAny_isSame_ref_self ?_)
          rw [if_pos rfl]
          refine wpAny_bind (wpAny_pure ?_)
          dsimp only
          rw [if_neg (by simp)]
          refine ih (n + 1) (some _) rfl (by omega) (by omega) fun n' i' k' h3 h4 h5 => ?_
          by_cases z : n' < c
          · exact acc n' i' k' z h4 h5
          · rcases Nat.lt_or_eq_of_le (Nat.le_of_lt_succ h3) with q | q
            · intro ek
              refine hbt n' i' (by omega) q h4 ?_
              have l5 := (List.getElem?_eq_some_iff.mp h5).1
              have l6 : es.toList[i']? = some es.toList[i'] := List.getElem?_eq_getElem (by rw [ea.1]; exact l5)
              have l7 := (ea.2 i' _ k' l6 h5).2.1
              show (es[i']?.map (·.1)).getD 0 = hsh prog w u
              rw [← Array.getElem?_toList, l6, ← ek, ← l7]
              rfl
            · subst q
              have : i = i' := by rw [← below_at K.tb.up hpl, ← below_at K.tb.up h4]
              rw [← this, hk] at h5
              cases h5
              exact e
      · rw [if_pos (by simp [hl])]
        refine wpAny_bind (seen ?_)
        rw [if_neg (by simp)]
        rw [hei]
        dsimp only
        refine wpAny_bind (wpAny_holding (wpAny_eqBool_tuple hu (ty.key (prog := prog) (w := w)) (hx.key (prog := prog) (w := w)) ?_))
        refine wpAny_bind (wpAny_setState_of ho hd fit ?_)
        dsimp only
        by_cases e : k = u
        · rw [decide_eq_true e, if_pos (by rfl)]
          exact wpAny_pure (h1 (e ▸ List.mem_of_getElem? hk))
        · rw [decide_eq_false e, if_neg (by simp), sm]
          dsimp only
          rw [if_pos rfl, slot_live K.tb hpl]
          dsimp only
          rw [hei]
          dsimp only
          refine wpAny_bind (wpAny_isSame_ref_self ?_)
          rw [if_pos rfl]
          refine wpAny_bind (wpAny_pure ?_)
          dsimp only
          rw [if_neg (by simp)]
          refine ih (n + 1) (some _) rfl (by omega) (by omega) fun n' i' k' h3 h4 h5 => ?_
          by_cases z : n' < c
          · exact acc n' i' k' z h4 h5
          · rcases Nat.lt_or_eq_of_le (Nat.le_of_lt_succ h3) with q | q
            · intro ek
              refine hbt n' i' (by omega) q h4 ?_
              have l5 := (List.getElem?_eq_some_iff.mp h5).1
              have l6 : es.toList[i']? = some es.toList[i'] := List.getElem?_eq_getElem (by rw [ea.1]; exact l5)
              have l7 := (ea.2 i' _ k' l6 h5).2.1
              show (es[i']?.map (·.1)).getD 0 = hsh prog w u
              rw [← Array.getElem?_toList, l6, ← ek, ← l7]
              rfl
            · subst q
              have : i = i' := by rw [← below_at K.tb.up hpl, ← below_at K.tb.up h4]
              rw [← this, hk] at h5
              cases h5
              exact e
    · have hpr : t.probe (fun i => (es[i]?.map (·.1)).getD 0) (hsh prog w u) (stand.getD (t.probeStart (hsh prog w u))) = some (.empty (itP t.mask (startP t.mask (hsh prog w u)) N).j none) := by rw [hst]; exact hgo
      erw [hpr]
      dsimp only
      refine wpAny_pure (h2 fun hin => ?_)
      obtain ⟨i, hi⟩ := List.mem_iff_getElem?.mp hin
      have il := (List.getElem?_eq_some_iff.mp hi).1
      have hei : es.toList[i]? = some es.toList[i] := List.getElem?_eq_getElem (by rw [ea.1]; exact il)
      obtain ⟨ty, hh, _⟩ := ea.2 i _ u hei hi
      obtain ⟨j, hj, n, n1, n2⟩ := K.rch i (hsh prog w u) (by rw [List.getElem?_map, hei, ← hh]; rfl)
      have nN : n < N := by
        rcases Nat.lt_trichotomy n N with z | z | z
        · exact z
        · subst z; exact absurd ⟨i, by rw [n1]; exact hj⟩ hf
        · exact absurd (n2 N z) hf
      by_cases z : n < c
      · exact acc n i u z (by rw [n1]; exact hj) hi rfl
      · refine hno n i (by omega) nN (by rw [n1]; exact hj) ?_
        show (es[i]?.map (·.1)).getD 0 = hsh prog w u
        rw [← Array.getElem?_toList, hei, ← hh]
        rfl
end
end L2

set_option Elab.async false
set_option linter.all false
set_option maxRecDepth 100000
set_option maxHeartbeats 1000000
namespace L2
open PySem PySem.Spec PyProof.Rows
/-- put in at a place -/
def insL {α : Type} (l : List α) (p : Nat) (x : α) : List α := l.take p ++ x :: l.drop p
theorem insL_len {α : Type} {l : List α} {p : Nat} {x : α} (hp : p ≤ l.length) : (insL l p x).length = l.length + 1 := by
  unfold insL; rw [List.length_append, List.length_take, List.length_cons, List.length_drop]; omega
theorem insL_get {α : Type} {l : List α} {p : Nat} {x : α} (hp : p ≤ l.length) (i : Nat) : (insL l p x)[i]? = if i < p then l[i]? else if i = p then some x else l[i - 1]? := by
  unfold insL
  have tl : (l.take p).length = p := by rw [List.length_take]; omega
  by_cases h : i < p
  · rw [if_pos h, List.getElem?_append_left (by omega), List.getElem?_take, if_pos h]
  · rw [if_neg h, List.getElem?_append_right (by omega), tl]
    by_cases e : i = p
    · rw [if_pos e, e, Nat.sub_self]; rfl
    · rw [if_neg e]
      obtain ⟨d, hd⟩ : ∃ d, i - p = d + 1 := ⟨i - p - 1, by omega⟩
      rw [hd, List.getElem?_cons_succ, List.getElem?_drop]
      congr 1
      omega
theorem insL_perm {α : Type} (l : List α) (p : Nat) (x : α) : (insL l p x).Perm (l ++ [x]) := by
  unfold insL
  refine (List.perm_middle).trans ?_
  rw [List.take_append_drop]
  exact (List.perm_append_singleton x l).symm
theorem insL_map {α β : Type} (f : α → β) (l : List α) (p : Nat) (x : α) : (insL l p x).map f = insL (l.map f) p (f x) := by
  unfold insL
  rw [List.map_append, List.map_cons, List.map_take, List.map_drop]
/-- a slot taken -/
theorem put_ok {t : SetTable} {led : Bool} {hs : List Int} (K : TabOk t led hs) {h : Int} {N : Nat} (hf : ¬ Occ t (itP t.mask (startP t.mask h) N).j) (hoc : ∀ n, n < N → Occ t (itP t.mask (startP t.mask h) n).j) :
    TB (t.put (itP t.mask (startP t.mask h) N).j).1 led ∧ SetTable.below t.place (itP t.mask (startP t.mask h) N).j ≤ hs.length ∧ (t.put (itP t.mask (startP t.mask h) N).j).1.place.size = hs.length + 1 ∧
    (((t.mask = 7 ∧ hs.length + 1 ≤ 4) ∨ (t.mask = 31 ∧ hs.length + 1 ≤ 18) ∨ (t.mask = 127 ∧ hs.length + 1 ≤ 76)) → TabOk (t.put (itP t.mask (startP t.mask h) N).j).1 led (insL hs (SetTable.below t.place (itP t.mask (startP t.mask h) N).j) h)) := by
  generalize hj : (itP t.mask (startP t.mask h) N).j = j at *
  obtain ⟨b1, _, _⟩ := below_ok K.tb.up j
  have jm : j ≤ t.mask := by rw [← hj]; exact start_le _ _ _
  have tb := put_tb K.tb (slot_empty K.tb hf)
  have pl : (t.put j).1.place.toList = insL t.place.toList (SetTable.below t.place j) j := SetTable.toList_insertAt _ _ _
  have ple : SetTable.below t.place j ≤ t.place.toList.length := by rw [Array.length_toList]; exact b1
  have hp : SetTable.below t.place j ≤ hs.length := by rw [← K.sz]; exact b1
  have sz : (t.put j).1.place.size = hs.length + 1 := by rw [← Array.length_toList, pl, insL_len ple, Array.length_toList, K.sz]
  refine ⟨tb, hp, sz, fun hm => ?_⟩
  have gp : ∀ i : Nat, (t.put j).1.place[i]? = if i < SetTable.below t.place j then t.place[i]? else if i = SetTable.below t.place j then some j else t.place[i - 1]? := fun i => by
    rw [← Array.getElem?_toList, pl, insL_get ple, Array.getElem?_toList, Array.getElem?_toList]
  have oc : ∀ x, Occ t x → Occ (t.put j).1 x := fun x ⟨i, hi⟩ => by
    by_cases z : i < SetTable.below t.place j
    · exact ⟨i, by rw [gp, if_pos z]; exact hi⟩
    · exact ⟨i + 1, by rw [gp, if_neg (by omega), if_neg (by omega), Nat.add_sub_cancel]; exact hi⟩
  refine ⟨tb, by rw [insL_len hp]; exact hm, by rw [sz, insL_len hp], fun i x hx => ?_, fun i y hy => ?_⟩
  · show x ≤ t.mask
    rw [gp] at hx
    split at hx
    · exact K.le _ _ hx
    · split at hx
      · cases hx; exact jm
      · exact K.le _ _ hx
  · show ∃ x : Nat, (t.put j).1.place[i]? = some x ∧ ∃ n, (itP t.mask (startP t.mask y) n).j = x ∧ ∀ n', n' < n → Occ (t.put j).1 (itP t.mask (startP t.mask y) n').j
    rw [insL_get hp] at hy
    rw [gp]
    split at hy
    · rename_i z
      rw [if_pos z]
      obtain ⟨x, e, n, n1, n2⟩ := K.rch i y hy
      exact ⟨x, e, n, n1, fun n' hn' => oc _ (n2 n' hn')⟩
    · rename_i z
      rw [if_neg z]
      split at hy
      · rename_i z2
        rw [if_pos z2]
        cases hy
        exact ⟨j, rfl, N, hj, fun n' hn' => oc _ (hoc n' hn')⟩
      · rename_i z2
        rw [if_neg z2]
        obtain ⟨x, e, n, n1, n2⟩ := K.rch (i - 1) y hy
        exact ⟨x, e, n, n1, fun n' hn' => oc _ (n2 n' hn')⟩
/-- things by their numbers -/
def pick {α : Type} (l : List α) (ord : List Nat) : List α := ord.filterMap fun i => l[i]?
theorem pick_get {α : Type} {l : List α} : ∀ {ord : List Nat}, (∀ k ∈ ord, k < l.length) → ∀ i : Nat, (pick l ord)[i]? = (ord[i]?).bind fun k => l[k]?
  | [], _, i => rfl
  | k :: ord, h, i => by
    have hk := h k List.mem_cons_self
    have e : pick l (k :: ord) = l[k] :: pick l ord := by unfold pick; rw [List.filterMap_cons_some (b := l[k]) (List.getElem?_eq_getElem hk)]
    rw [e]
    cases i with
    | zero => show some l[k] = l[k]?; rw [List.getElem?_eq_getElem hk]
    | succ i => exact pick_get (fun x hx => h x (List.mem_cons_of_mem _ hx)) i
theorem pickL_perm {α : Type} {l : List α} {ord : List Nat} (h : ord.Perm (List.range l.length)) : (pick l ord).Perm l := by
  have e : (List.range l.length).filterMap (fun i => l[i]?) = l := List.filterMap_getElem?_range_length l
  have := h.filterMap (fun i => l[i]?)
  rw [e] at this
  exact this
/-- a set of tuples of ints, told by its members, each once -/
def SetT (prog : Program) (w : World) (V0 : Value → Prop) (hp : Heap) (a : Addr) (us : List (List Int)) : Prop :=
  ∃ o es ep t ks, hp.get? a = some o ∧ o.ExactSet ∧ o.data = .set es ep t ∧ EA prog w V0 hp es.toList ks ∧ ks.Perm us ∧ TabOk t (!w.params.followText "set-order") (es.toList.map (·.1))
theorem EA.keep {prog : Program} {w : World} {V0 : Value → Prop} {h h' : Heap} {es : List (Int × Value)} {ks : List (List Int)} (x : EA prog w V0 h es ks) (k : ∀ (b : Addr) (o : Obj), o.cls = .type "tuple" → h.get? b = some o → h'.get? b = some o) : EA prog w V0 h' es ks :=
  ⟨x.1, fun i e u h1 h2 => ⟨(x.2 i e u h1 h2).1.keep' k, (x.2 i e u h1 h2).2⟩⟩
section
variable {prog : Program} {w : World} {A : Around} {E : Value → Shared → Prop} {s : Shared}
theorem sb_tup {a : Addr} {o : Obj} {h h' : Heap} (ho : h.get? a = some o) (hx : o.ExactSet) (sb : Heap.SameBut a h h') (b : Addr) (ob : Obj) (hc : ob.cls = .type "tuple") (hb : h.get? b = some ob) : h'.get? b = some ob := by
  refine sb.extBut b ob (fun z => ?_) hb
  rw [z, ho] at hb
  cases hb
  rw [hx.1] at hc
  exact absurd hc (by decide)
theorem setAdd_t {V0 : Value → Prop} {a : Addr} {us : List (List Int)} {x : Value} {u : List Int} {Q : Bool → Shared → Prop} (hS : SetT prog w V0 s.heap a us) (hx : TupI s.heap x u) (hV : V0 x) (hu : A.units < cLine) (few : us.length + 1 ≤ 63)
    (h : ∀ h' : Heap, Heap.SameBut a s.heap h' → SetT prog w V0 h' a (if u ∈ us then us else us ++ [u]) → Q (!decide (u ∈ us)) { s with heap := h' }) : wpAny (model prog w) A (setAddHashed a x (hsh prog w u)) Q E s := by
  obtain ⟨o, es, ep, t, ks, ho, hex, hd, ea, pm, K⟩ := hS
  have kl : es.size = us.length := by rw [← Array.length_toList, ea.1, pm.length_eq]
  have fit : t.fits es.size = true := by
    have := K.fits
    rw [List.length_map, Array.length_toList] at this
    exact this
  have hlen : (es.toList.map (·.1)).length = es.size := by rw [List.length_map, Array.length_toList]
  obtain ⟨e, em, ef⟩ := K.room
  obtain ⟨N0, N1, N2⟩ := meets_it K.okm (p := startP t.mask (hsh prog w u)) (bits_lt _) (run_le _ _) (by show SetTable.bits _ % (t.mask + 1) ≤ t.mask; exact Nat.le_of_lt_succ (Nat.mod_lt _ (Nat.succ_pos _))) em
  obtain ⟨N, hN, hf, hoc⟩ := first_free (t := t) (p := startP t.mask (hsh prog w u)) ⟨N0, N1, by rw [N2]; exact ef⟩
  have N6 : N < 100000 := by
    have : SetTable.turns t.mask ≤ 142 := by unfold SetTable.turns; rcases K.okm with z | z | z <;> omega
    omega
  obtain ⟨c, oc, itc, nc, rfl, hoc', hcc, hdc, hic⟩ := id hx
  have sc : ¬ byScan (.ref c) es = true := by unfold byScan Value.scannable; simp
  unfold setAddHashed
  refine wpAny_holding ?_
  unfold setAddHashedIn
  refine wpAny_bind (wpAny_setState_of ho hd fit ?_)
  dsimp only
  rw [if_neg sc]
  refine wpAny_bind ?_
  unfold setSearch
  refine search_t ho hd K ea hx hu hf hoc hN (fun hin => ?_) (fun hno => ?_) 100000 0 none rfl (Nat.zero_le _) (by omega) (fun n i k hn => absurd hn (Nat.not_lt_zero _))
  · dsimp only
    have hin' : u ∈ us := pm.mem_iff.mp hin
    have z := h s.heap (Heap.SameBut.refl ..) (by rw [if_pos hin']; exact ⟨o, es, ep, t, ks, ho, hex, hd, ea, pm, K⟩)
    rw [decide_eq_true hin'] at z
    exact wpAny_pure z
  · dsimp only
    have hno' : u ∉ us := fun q => hno (pm.mem_iff.mpr q)
    obtain ⟨tb1, ple, psz, pok⟩ := put_ok K hf hoc
    refine wpAny_bind (wpAny_setState_of ho hd fit ?_)
    dsimp only
    have hbl : (t.put (itP t.mask (startP t.mask (hsh prog w u)) N).j).2 = SetTable.below t.place (itP t.mask (startP t.mask (hsh prog w u)) N).j := rfl
    have hmk : (t.put (itP t.mask (startP t.mask (hsh prog w u)) N).j).1.mask = t.mask := rfl
    rw [hbl]
    generalize (t.put (itP t.mask (startP t.mask (hsh prog w u)) N).j).1 = t1 at *
    generalize SetTable.below t.place (itP t.mask (startP t.mask (hsh prog w u)) N).j = p at *
    rw [hlen] at ple psz pok
    have ple2 : p ≤ es.toList.length := by rw [Array.length_toList]; exact ple
    have plk : p ≤ ks.length := by rw [← ea.1]; exact ple2
    have es1l : (SetTable.insertAt es p (hsh prog w u, Value.ref c)).toList = insL es.toList p (hsh prog w u, Value.ref c) := SetTable.toList_insertAt _ _ _
    have es1s : (SetTable.insertAt es p (hsh prog w u, Value.ref c)).size = es.size + 1 := by rw [← Array.length_toList, es1l, insL_len ple2, Array.length_toList]
    have pm1 : (insL ks p u).Perm (us ++ [u]) := (insL_perm ks p u).trans (pm.append_right _)
    have last : ∀ (h' : Heap) (es2 : Array (Int × Value)) (t2 : SetTable) (ks2 : List (List Int)) (ep2 : Nat), Heap.SameBut a s.heap h' → h'.get? a = some { o with data := .set es2 ep2 t2 } → EA prog w V0 h' es2.toList ks2 → ks2.Perm (us ++ [u]) → TabOk t2 (!w.params.followText "set-order") (es2.toList.map (·.1)) → Q true { s with heap := h' } := fun h' es2 t2 ks2 ep2 sb g ea2 p2 K2 => by
      have z := h h' sb (by rw [if_neg hno']; exact ⟨_, es2, ep2, t2, ks2, g, hex, rfl, ea2, p2, K2⟩)
      rw [decide_eq_false hno'] at z
      exact z
    have fin : wpAny (model prog w) A (do
        storeSet a (SetTable.insertAt es p (hsh prog w u, Value.ref c)) t1
        if (!false && t1.tooFull) = true then do
            setRelay a (SetTable.grown (es.size + 1))
            pure true
          else pure true) Q E s := by
      have small : es.size + 1 ≤ sizeLine := Nat.le_trans (show es.size + 1 ≤ 1000 by omega) (by decide)
      refine wpAny_bind (wpAny_storeSet_of ho hd ?_ (by rw [es1s]; exact small))
      have o1 := stored_at ho hd (SetTable.insertAt es p (hsh prog w u, Value.ref c)) t1
      have b1 := Heap.SameBut.update s.heap a (Obj.putSet (SetTable.insertAt es p (hsh prog w u, Value.ref c)) t1)
      have kp1 := sb_tup ho hex b1
      generalize s.heap.update a (Obj.putSet (SetTable.insertAt es p (hsh prog w u, Value.ref c)) t1) = h1 at o1 b1 kp1 ⊢
      have ea1 : EA prog w V0 h1 (SetTable.insertAt es p (hsh prog w u, Value.ref c)).toList (insL ks p u) := by
        rw [es1l]
        refine ⟨by rw [insL_len ple2, insL_len plk, ea.1], fun i e k h3 h4 => ?_⟩
        rw [insL_get ple2] at h3
        rw [insL_get plk] at h4
        split at h3
        · rename_i z; rw [if_pos z] at h4
          exact ⟨(ea.2 i e k h3 h4).1.keep' kp1, (ea.2 i e k h3 h4).2⟩
        · rename_i z; rw [if_neg z] at h4
          split at h3
          · rename_i z2; rw [if_pos z2] at h4
            cases h3; cases h4
            exact ⟨hx.keep' kp1, rfl, hV⟩
          · rename_i z2; rw [if_neg z2] at h4
            exact ⟨(ea.2 _ e k h3 h4).1.keep' kp1, (ea.2 _ e k h3 h4).2⟩
      have hs1 : (SetTable.insertAt es p (hsh prog w u, Value.ref c)).toList.map (·.1) = insL (es.toList.map (·.1)) p (hsh prog w u) := by rw [es1l, insL_map]
      have tfl : t1.tooFull = decide ((es.size + 1) * 5 ≥ t.mask * 3) := by
        unfold SetTable.tooFull SetTable.fill
        rw [psz, tb1.dum, hmk]
        rfl
      have mb := K.m
      rw [hlen] at mb
      by_cases tf : (es.size + 1) * 5 ≥ t.mask * 3
      · rw [tfl, decide_eq_true tf, if_pos (by rfl)]
        have two : (t.mask = 7 ∧ es.size = 4) ∨ (t.mask = 31 ∧ es.size = 18) := by omega
        have okw : OkM (SetTable.sizeAbove (SetTable.grown (es.size + 1)) - 1) ∧ SetTable.sizeAbove (SetTable.grown (es.size + 1)) ≤ 128 ∧ es.size + 1 ≤ SetTable.sizeAbove (SetTable.grown (es.size + 1)) - 1 ∧ ((SetTable.sizeAbove (SetTable.grown (es.size + 1)) - 1 = 7 ∧ es.size + 1 ≤ 4) ∨ (SetTable.sizeAbove (SetTable.grown (es.size + 1)) - 1 = 31 ∧ es.size + 1 ≤ 18) ∨ (SetTable.sizeAbove (SetTable.grown (es.size + 1)) - 1 = 127 ∧ es.size + 1 ≤ 76)) := by
          rcases two with ⟨_, z⟩ | ⟨_, z⟩
          · rw [z]
            have e1 : SetTable.sizeAbove (SetTable.grown (4 + 1)) = 32 := by decide
            rw [e1]
            exact ⟨.inr (.inl rfl), by decide, by decide, .inr (.inl ⟨rfl, by decide⟩)⟩
          · rw [z]
            have e1 : SetTable.sizeAbove (SetTable.grown (18 + 1)) = 128 := by decide
            rw [e1]
            exact ⟨.inr (.inr rfl), by decide, by decide, .inr (.inr ⟨rfl, by decide⟩)⟩
        generalize SetTable.grown (es.size + 1) = W at okw ⊢
        have hs1s : ((SetTable.insertAt es p (hsh prog w u, Value.ref c)).map (·.1)).size = es.size + 1 := by rw [Array.size_map, es1s]
        obtain ⟨t2, ord, hr, op, K2⟩ := relaid_ok tb1 (hs := (SetTable.insertAt es p (hsh prog w u, Value.ref c)).map (·.1)) (want := W) okw.1 (by rw [hs1s]; exact okw.2.2.1) (by rw [hs1s]; exact okw.2.2.2)
        rw [hs1s] at op
        generalize hes : SetTable.insertAt es p (hsh prog w u, Value.ref c) = es1 at *
        have l1 : es1.toList.length = es.size + 1 := by rw [Array.length_toList, es1s]
        have kl1 : (insL ks p u).length = es.size + 1 := by rw [← ea1.1, l1]
        have inr : ∀ k ∈ ord.toList, k < es.size + 1 := fun k hk => List.mem_range.mp (op.mem_iff.mp hk)
        have e2l : (ord.filterMap (es1[·]?)).toList = pick es1.toList ord.toList := by
          rw [Array.toList_filterMap]
          unfold pick
          congr 1
          funext i
          rw [Array.getElem?_toList]
        have p2 : (pick es1.toList ord.toList).Perm es1.toList := pickL_perm (by rw [l1]; exact op)
        have e2s : (ord.filterMap (es1[·]?)).size = es1.size := by rw [← Array.length_toList, e2l, p2.length_eq, Array.length_toList]
        have fit1 : t1.fits es1.size = true := by
          unfold SetTable.fits SetTable.fill
          rw [psz, tb1.dum, hmk, es1s]
          simp
          omega
        refine wpAny_bind ?_
        unfold setRelay
        refine wpAny_bind (wpAny_setState_of (s := { s with heap := h1 }) o1 rfl fit1 ?_)
        dsimp only
        rw [if_neg (Nat.not_lt.mpr (Nat.le_trans okw.2.1 (by decide)))]
        rw [hr]
        refine wpAny_bind ?_
        change wpAny _ _ (if ((ord.filterMap (es1[·]?)).size != es1.size) = true then _ else pure (ord.filterMap (es1[·]?), t2)) _ _ _
        rw [if_neg (by rw [e2s]; simp)]
        refine wpAny_pure (wpAny_storeSet_of (s := { s with heap := h1 }) o1 rfl (wpAny_pure ?_) (by rw [e2s, es1s]; exact small))
        refine last _ _ t2 (pick (insL ks p u) ord.toList) _ (b1.trans (Heap.SameBut.update h1 a _)) (stored_at o1 rfl _ _) ?_ ((pickL_perm (by rw [kl1]; exact op)).trans pm1) ?_
        · rw [e2l]
          have g1 := pick_get (l := es1.toList) (ord := ord.toList) (fun k hk => by rw [l1]; exact inr k hk)
          have g2 := pick_get (l := insL ks p u) (ord := ord.toList) (fun k hk => by rw [kl1]; exact inr k hk)
          refine ⟨by rw [p2.length_eq, (pickL_perm (l := insL ks p u) (by rw [kl1]; exact op)).length_eq, ea1.1], fun i e k h3 h4 => ?_⟩
          rw [g1] at h3
          rw [g2] at h4
          cases zz : ord.toList[i]? with
          | none => rw [zz] at h3; cases h3
          | some m =>
            rw [zz] at h3 h4
            have q := ea1.2 m e k h3 h4
            exact ⟨q.1.keep' (sb_tup o1 hex (Heap.SameBut.update h1 a _)), q.2⟩
        · refine K2 _ (by rw [List.length_map, e2l, p2.length_eq, l1, hs1s]) fun i k hk => ?_
          have g1 := pick_get (l := es1.toList) (ord := ord.toList) (fun k hk => by rw [l1]; exact inr k hk) i
          have hk' : ord.toList[i]? = some k := by rw [Array.getElem?_toList]; exact hk
          rw [hk'] at g1
          rw [List.getElem?_map, e2l, g1, Array.getElem?_map]
          show Option.map _ es1.toList[k]? = _
          rw [Array.getElem?_toList]
      · rw [tfl, decide_eq_false tf, if_neg (by simp)]
        refine wpAny_pure (last h1 _ t1 (insL ks p u) _ b1 o1 ea1 pm1 ?_)
        rw [hs1]
        exact pok (by omega)
    split
    · refine wpAny_bind (byValue_tup hx ?_)
      simp only [if_true]
      exact fin
    · refine wpAny_bind (wpAny_pure ?_)
      simp only [if_true]
      exact fin
end
end L2

set_option Elab.async false
set_option linter.all false
set_option maxRecDepth 100000
set_option maxHeartbeats 4000000
namespace L2
open PySem PySem.Spec PyProof.Rows
/-- each tuple once, as first met -/
def ddT (us : List (List Int)) : List (List Int) := us.foldl (fun acc k => if k ∈ acc then acc else acc ++ [k]) []
theorem ddT_snoc (us : List (List Int)) (k : List Int) : ddT (us ++ [k]) = if k ∈ ddT us then ddT us else ddT us ++ [k] := by unfold ddT; rw [List.foldl_append]; rfl
theorem ddT_mem (us : List (List Int)) (k : List Int) : k ∈ ddT us ↔ k ∈ us := by
  have : ∀ (us acc : List (List Int)), k ∈ us.foldl (fun acc k => if k ∈ acc then acc else acc ++ [k]) acc ↔ k ∈ acc ∨ k ∈ us := by
    intro us
    induction us with
    | nil => intro acc; simp
    | cons j us ih =>
      intro acc
      rw [List.foldl_cons, ih]
      split
      · rename_i h
        constructor
        · rintro (z | z)
          · exact .inl z
          · exact .inr (List.mem_cons_of_mem _ z)
        · rintro (z | z)
          · exact .inl z
          · rcases List.mem_cons.mp z with rfl | z
            · exact .inl h
            · exact .inr z
      · simp [or_assoc]
  have := this us []
  unfold ddT
  simpa using this
theorem ddT_nodup (us : List (List Int)) : (ddT us).Nodup := by
  have : ∀ (us acc : List (List Int)), acc.Nodup → (us.foldl (fun acc k => if k ∈ acc then acc else acc ++ [k]) acc).Nodup := by
    intro us
    induction us with
    | nil => intro acc h; exact h
    | cons j us ih =>
      intro acc h
      refine ih _ ?_
      show (if j ∈ acc then acc else acc ++ [j]).Nodup
      split
      · exact h
      · rename_i hj
        rw [List.nodup_append]
        exact ⟨h, by simp, fun a ha b hb z => hj (by rw [← List.mem_singleton.mp hb, ← z]; exact ha)⟩
  exact this us [] List.nodup_nil
theorem ddT_len (us : List (List Int)) : (ddT us).length ≤ us.length := by
  have : ∀ (us acc : List (List Int)), (us.foldl (fun acc k => if k ∈ acc then acc else acc ++ [k]) acc).length ≤ acc.length + us.length := by
    intro us
    induction us with
    | nil => intro acc; exact Nat.le_refl _
    | cons k us ih =>
      intro acc
      have h := ih (if k ∈ acc then acc else acc ++ [k])
      have h2 : (if k ∈ acc then acc else acc ++ [k]).length ≤ acc.length + 1 := by split <;> simp
      rw [List.foldl_cons, List.length_cons]
      omega
  have := this us []
  unfold ddT
  simpa using this
theorem SetT.keep {prog : Program} {w : World} {V0 : Value → Prop} {h h' : Heap} {a : Addr} {us : List (List Int)} (x : SetT prog w V0 h a us) (k : ∀ b o, (b = a ∨ o.cls = .type "tuple") → h.get? b = some o → h'.get? b = some o) : SetT prog w V0 h' a us := by
  obtain ⟨o, es, ep, t, ks, ho, hx, hd, ea, r⟩ := x
  exact ⟨o, es, ep, t, ks, k a o (.inl rfl) ho, hx, hd, ea.keep fun b ob c e => k b ob (.inr c) e, r⟩
theorem SetT.other {prog : Program} {w : World} {V0 : Value → Prop} {h h' : Heap} {a : Addr} {us : List (List Int)} {v : Value} {u : List Int} (x : SetT prog w V0 h a us) (t : TupI h v u) (sb : Heap.SameBut a h h') : TupI h' v u := by
  obtain ⟨o, es, ep, tb, ks, ho, hx, _⟩ := x
  exact t.keep' (sb_tup ho hx sb)
section
variable {prog : Program} {w : World} {A : Around} {R : Result → Shared → Prop} {J : Addr} {fp wr : List Addr} {G : Array GenState → Array GenState → Prop} {n : Nat} {P : Nat → Value → Prop} {St : Nat → Shared → Prop}
/-- a set filled with tuples -/
theorem update_t {V0 : Value → Prop} (Wk : WalksS prog w A.in1 J fp wr G n P St) (S : Addr) (hS : S ∉ fp) (hu : A.in1.units < cLine) (us : List (List Int)) (hns : us.length = n) (hb : n + 1 ≤ 63) (hV : ∀ i v, P i v → V0 v) (hwt : ∀ (s : Shared) (i : Nat), St i s → ∀ b ∈ wr, ∀ o, s.heap.get? b = some o → o.cls ≠ .type "tuple") :
    ∀ (c i : Nat) (s : Shared), n - i = c → i ≤ n → St i s → SetT prog w V0 s.heap S (ddT (us.take i)) → (∀ i v, P i v → TupI s.heap v (us.getD i [])) → (∀ s', Moved (S :: wr) G s s' → SetT prog w V0 s'.heap S (ddT us) → R (.ok (.ret .none)) s') →
      codeAny (model prog w) A (.builtin "set.update.loop" ⟨[.ref S, .ref J], []⟩) R s := by
  have nw : S ∉ wr := fun h => hS (Wk.sub _ h)
  have sub : ∀ b ∈ wr, b ∈ S :: wr := fun b hb => List.mem_cons_of_mem _ hb
  intro c
  induction c with
  | zero =>
    intro i s hc hi st hj hv hR
    have e : i = n := by omega
    subst e
    refine codeAny_builtin PyProof.Rows.F.entry_set_update_loop ?_
    rw [Around.under_plainId PyProof.Rows.F.plain_set_update_loop _]
    show wpAny _ A.in1 (pyNext (.ref J) >>= _) _ _ s
    refine wpAny_bind (Wk.done s _ _ st fun s' hm => ?_)
    show wpAny _ A.in1 (ret Value.none) _ _ s'
    rw [← hns, List.take_length] at hj
    exact wpAny_pure (hR s' (hm.mono sub) (hj.keep fun b o hb ho => hm.heap b _ (fun z => by
      rcases hb with rfl | q
      · exact nw z
      · exact hwt s _ st b z o ho q) ho))
  | succ c ih =>
    intro i s hc hi st hj hv hR
    have lt : i < n := by omega
    refine codeAny_builtin PyProof.Rows.F.entry_set_update_loop ?_
    rw [Around.under_plainId PyProof.Rows.F.plain_set_update_loop _]
    show wpAny _ A.in1 (pyNext (.ref J) >>= _) _ _ s
    refine wpAny_bind (Wk.item i s _ _ lt st fun v s' hP st' hm => ?_)
    have kp : ∀ b o, (b = S ∨ o.cls = .type "tuple") → s.heap.get? b = some o → s'.heap.get? b = some o := fun b o hb ho => hm.heap b _ (fun z => by
      rcases hb with rfl | q
      · exact nw z
      · exact hwt s _ st b z o ho q) ho
    have hj' : SetT prog w V0 s'.heap S (ddT (us.take i)) := hj.keep kp
    have hv' : ∀ i v, P i v → TupI s'.heap v (us.getD i []) := fun i v q => (hv i v q).keep' fun b o c e => kp b o (.inr c) e
    have hlen : (ddT (us.take i)).length ≤ i := Nat.le_trans (ddT_len _) (by rw [List.length_take]; omega)
    have gi : us[i]? = some (us.getD i []) := by rw [List.getD_eq_getElem?_getD, List.getElem?_eq_getElem (by omega)]; rfl
    have tv := hv' i v hP
    obtain ⟨va, _, _, _, rfl, _⟩ := id tv
    show wpAny _ A.in1 (holding [Value.ref va] (setAdd S (.ref va)) >>= _) _ _ s'
    refine wpAny_bind (wpAny_holding ?_)
    unfold setAdd
    refine wpAny_holding (wpAny_bind (wpAny_pyHash_tuple (knd := intKind prog w) hu tv.key ?_))
    refine setAdd_t (s := { s' with toks := s'.toks + ((us.getD i []).length + 1) }) hj' tv (hV i _ hP) hu (by omega) fun h2 sb j2 => ?_
    have j3 : SetT prog w V0 h2 S (ddT (us.take (i + 1))) := by
      rw [take_succ' gi, ddT_snoc]
      exact j2
    refine wpAny_pure ⟨plainId_quiet PyProof.Rows.F.plain_set_update_loop _, ih (i + 1) _ (by omega) lt (Wk.frame _ s' _ _ st' (Nat.le_add_right _ _) fun b hb o e => ?_) j3 (fun i v q => hj'.other (hv' i v q) sb) fun s3 hm3 hj3 => ?_⟩
    · rw [sb.2 b (fun z : b = S => hS (by rw [← z]; exact hb))]; exact e
    · refine hR s3 (Moved.trans Wk.gtrans ((hm.mono sub).then_heap (Nat.le_add_right _ _) fun b o hb e => ?_) hm3) hj3
      rw [sb.2 b (fun z : b = S => hb (by rw [z]; exact List.mem_cons_self))]; exact e
end
theorem fresh_t {prog : Program} {w : World} {V0 : Value → Prop} {h : Heap} {a : Addr} (ho : h.get? a = some { cls := .type "set", dict := none, data := .set #[] 0 (.fresh 0 0 (!w.params.followText "set-order")) }) : SetT prog w V0 h a [] :=
  ⟨_, #[], 0, _, [], ho, ⟨rfl, rfl, rfl⟩, rfl, ⟨rfl, fun i e k h1 => (by cases h1)⟩, .refl _, ⟨⟨rfl, rfl, List.Pairwise.nil⟩, .inl ⟨rfl, Nat.zero_le _⟩, rfl, fun i j h1 => (by cases h1), fun i x h1 => (by cases h1)⟩⟩
section
variable {prog : Program} {w : World} {A : Around} {E : Value → Shared → Prop} {s : Shared}
set_option maxHeartbeats 8000000 in
/-- set(a list of tuples) -/
theorem set_of_listT {V0 : Value → Prop} {l : Addr} {its : Array Value} {us : List (List Int)} {Q : Value → Shared → Prop} (hh : A.handled = none) (hl : s.heap.IsList l its) (hu : A.units + 8 < cLine) (hln : us.length = its.size) (hi : ∀ (i : Nat) (v : Value), its[i]? = some v → TupI s.heap v (us.getD i [])) (hb : its.size + 1 ≤ 63) (hV : ∀ v ∈ its.toList, V0 v)
    (h : ∀ (h' : Heap) (tk : Nat), SetT prog w V0 h' s.heap.objs.size (ddT us) → (∀ b o, b < s.heap.objs.size → s.heap.get? b = some o → h'.get? b = some o) → Q (.ref s.heap.objs.size) { s with heap := h', toks := tk }) :
    wpAny (model prog w) A (call (.type "set") [.ref l]) Q E s := by
  obtain ⟨c, tl, hmro⟩ := PySem.F.called_set.mro
  have hmade := PySem.F.called_set.made
  have hsub := PySem.F.called_set.sub
  refine wpAny_call (codeAny_of_tree ?_)
  show wpAny _ _ (callAny (.type "set") _) _ _ _
  refine wpAny_pure ⟨Code.quiet_builtin _ (by decide +kernel), codeAny_builtin PySem.F.entry_type_call ?_⟩
  rw [Around.under_plain (weight_type_call_type "set" [.ref l] []) rfl]
  have x1 := PySem.F.called_set.notType
  have x2 := PySem.F.called_set.canCreate
  have x3 := PySem.F.typeCall_set_1 (.ref l)
  repeat (any_goals (first | assumption | wp_step))
  refine codeAny_mono (set_new_j (.ref l) (E := E) (Q1 := fun ob s1 => ob = .ref s.heap.objs.size ∧ s1 = { s with heap := s.heap.push { cls := .type "set", dict := none, data := .set #[] 0 (.fresh 0 0 (!w.params.followText "set-order")) } }) ⟨rfl, rfl⟩) fun r s1 hr => ?_
  cases r with
  | error e => exact hr
  | ok fl =>
    cases fl with
    | ret ob =>
      obtain ⟨rfl, rfl⟩ := hr
      generalize hled : (!w.params.followText "set-order") = led
      have hS : (s.heap.push { cls := .type "set", dict := none, data := .set #[] 0 (.fresh 0 0 led) }).get? s.heap.objs.size = some { cls := .type "set", dict := none, data := .set #[] 0 (.fresh 0 0 led) } := Heap.get?_push_size _ rfl
      have hT : Shared.TypeIs { s with heap := s.heap.push { cls := .type "set", dict := none, data := .set #[] 0 (.fresh 0 0 led) } } (.ref s.heap.objs.size) "set" := ⟨_, hS, rfl⟩
      have y1 := PySem.F.called_set.init.lookup
      have y2 := PySem.F.called_set.init.bind (.ref s.heap.objs.size)
      repeat (any_goals (first | assumption | wp_step))
      refine codeAny_mono (codeAny_call_builtin (R := wants (fun r s2 => r = .none ∧ ∃ h' tk, s2 = { s with heap := h', toks := tk } ∧ SetT prog w V0 h' s.heap.objs.size (ddT us) ∧ (∀ b o, b < s.heap.objs.size → s.heap.get? b = some o → h'.get? b = some o)) E)
        PySem.F.called_set.init.plain PySem.F.entry_set_init (check_set_init_1 hT ?_)) fun r2 s2 hr2 => ?_
      · obtain ⟨ol, hol, hcl, nl, hdl⟩ := hl
        obtain ⟨ocls, odict, odata, oslots⟩ := ol
        simp only at hcl hdl
        subst hcl; subst hdl
        have hol' : (s.heap.push { cls := .type "set", dict := none, data := .set #[] 0 (.fresh 0 0 led) }).get? l = some { cls := .type "list", dict := odict, data := .seq its nl, slots := oslots } := Heap.get?_push_of_some _ hol
        have v1 := PySem.F.sub_list_set
        have v2 := PySem.F.sub_list_frozenset
        have v3 : (Value.type "list" == Value.type "dict") = false := by decide
        have hl1 : (s.heap.push { cls := .type "set", dict := none, data := .set #[] 0 (.fresh 0 0 led) }).IsList l its := ⟨_, hol', rfl, nl, rfl⟩
        unfold Builtin.«set.__init__» noKeywords Builtin.Frozenset.updateFrom
        generalize hPI : pyIter = PI
        wp_walk
        subst hPI
        refine wpAny_pyIter_list (l := l) hl1 ?_
        refine wpAny_bind (m := runValue _) (wpAny_runValue ?_)
        have ll : l < s.heap.objs.size := Heap.lt_size hol
        have h3 : A.in1.in1.in1.handled = none := by simp [hh]
        have n1 : l ≠ (s.heap.push { cls := .type "set", dict := none, data := .set #[] 0 (.fresh 0 0 led) }).objs.size := by rw [Heap.size_push]; exact Nat.ne_of_lt (Nat.lt_succ_of_lt ll)
        have n2 : s.heap.objs.size ∉ [(s.heap.push { cls := .type "set", dict := none, data := .set #[] 0 (.fresh 0 0 led) }).objs.size, l] := by
          rw [Heap.size_push]
          simp only [List.mem_cons, List.mem_singleton, List.not_mem_nil, or_false, not_or]
          exact ⟨Nat.ne_of_lt (Nat.lt_succ_self _), Nat.ne_of_gt ll⟩
        have kpp : ∀ b o, s.heap.get? b = some o → ((s.heap.push { cls := .type "set", dict := none, data := .set #[] 0 (.fresh 0 0 led) }).push { cls := .type "list_iterator", data := .fields #[.ref l, .int 0 0] }).get? b = some o := fun b o e => Heap.get?_push_of_some _ (Heap.get?_push_of_some _ e)
        refine update_t ((Walks.list h3 _ l n1 its).toS) s.heap.objs.size n2 (by simp; omega) us hln hb (fun i v hv => hV v (by rw [← Array.getElem?_toList] at hv; exact List.mem_of_getElem? hv)) ?_ (its.size - 0) 0 _ (by omega) (Nat.zero_le _) ⟨⟨_, Heap.get?_push_size _ rfl, rfl, rfl⟩, (hl1.push _)⟩ ?_ (fun i v hv => (hi i v hv).keep' fun b o _ e => kpp b o e) ?_
        · rintro s' i ⟨⟨oi, ei, ci, _⟩, _⟩ b hb' o ho hc
          rw [List.mem_singleton.mp hb', ei] at ho
          cases ho
          rw [ci] at hc
          exact absurd hc (by decide)
        · exact fresh_t (by rw [hled]; exact Heap.get?_push_of_some _ hS)
        · intro s' hm hj
          obtain ⟨h', g', d', tk', os'⟩ := s'
          have eg : g' = s.gens := hm.gens
          have ed : d' = s.drawn := hm.drawn
          have eo : os' = s.os := hm.os
          subst eg; subst ed; subst eo
          show wpAny _ _ _ _ _ _
          refine wpAny_pure ?_
          show wpAny _ _ (ret Value.none) _ _ _
          refine wpAny_pure ⟨rfl, h', tk', rfl, hj, fun b o hb e => ?_⟩
          have b1 : b ≠ s.heap.objs.size := Nat.ne_of_lt hb
          have b2 : b ≠ (s.heap.push { cls := .type "set", dict := none, data := .set #[] 0 (.fresh 0 0 led) }).objs.size := by rw [Heap.size_push]; exact Nat.ne_of_lt (Nat.lt_succ_of_lt hb)
          exact hm.heap b o (by simp only [List.mem_cons, List.mem_singleton, List.not_mem_nil, or_false, not_or]; exact ⟨b1, b2⟩) (Heap.get?_push_of_some _ (Heap.get?_push_of_some _ e))
      · cases r2 with
        | error e => exact hr2
        | ok f2 =>
          cases f2 with
          | ret r =>
            obtain ⟨rfl, h', tk, rfl, hj, hk⟩ := hr2
            repeat (any_goals (first | assumption | wp_step))
            exact h _ _ hj hk
          | _ => exact hr2.elim
    | _ => exact hr.elim
end
end L2

set_option Elab.async false
set_option linter.all false
set_option maxRecDepth 100000
set_option maxHeartbeats 4000000
namespace L2
open PySem PySem.Spec PyProof.Rows
theorem tup_keep {h h' : Heap} {a : Addr} {o : Obj} (ho : h.get? a = some o) (hc : o.cls = .type "list") (k : ∀ b ob, b ≠ a → h.get? b = some ob → h'.get? b = some ob) (b : Addr) (ob : Obj) (c : ob.cls = .type "tuple") (e : h.get? b = some ob) : h'.get? b = some ob := by
  refine k b ob (fun z => ?_) e
  rw [z, ho] at e
  cases e
  rw [hc] at c
  exact absurd c (by decide)
section
variable {prog : Program} {w : World} {A : Around} {E : Value → Shared → Prop} {s : Shared}
theorem sort_tups {a : Addr} {vs : List Value} {n : Nat} {P : Fin → Shared → Prop} (hb : s.heap.get? a = some (seqObj "list" vs.toArray n)) (h64 : vs.length < 64) (hv : ∀ v ∈ vs, ∃ u, TupI s.heap v u ∧ u ≠ [])
    (h : ∀ out : Array Value, out.toList.Perm vs → (out.toList.map (kfI s.heap)).Pairwise (fun x y => lexB y x = false) → P (.done (.ret .none)) { s with heap := sortedHeap s.heap a vs out }) : wpAny (model prog w) A (Builtin.«list.sort» ⟨[.ref a], []⟩) P E s := by
  have kt : ∀ h' : Heap, (∀ b o, b ≠ a → s.heap.get? b = some o → h'.get? b = some o) → ∀ v ∈ vs, ∃ u, TupI h' v u ∧ u ≠ [] ∧ kfI s.heap v = u := fun h' k v q => by
    obtain ⟨u, t, nu⟩ := hv v q
    exact ⟨u, t.keep' (tup_keep hb rfl k), nu, t.kf⟩
  have mz : ∀ p, p ∈ (pairsOf vs).toList → p.1 = p.2 ∧ p.1 ∈ vs := fun p q => by rw [pairsOf_toList] at q; exact mem_zip_self q
  refine sort_gen (k0 := tuples' true) (rk := fun v => rnk (vs.map (kfI s.heap)) (kfI s.heap v)) hb h64 (fun h2 h' k E' Q' q => ?_) (fun h' k E' x y Q' hx hy q => ?_) fun xs pm up => ?_
  · refine kind_tups (s := { s with heap := h' }) (fun v hv' => ?_) (fun z => by rw [z] at h2; simp at h2) q
    obtain ⟨u, t, nu, _⟩ := kt h' k v hv'
    exact ⟨u, t, nu⟩
  · obtain ⟨u, t, nu, eu⟩ := kt h' k x.1 (mz x hx).2
    obtain ⟨u', t', nu', eu'⟩ := kt h' k y.1 (mz y hy).2
    refine lt_tups (s := { s with heap := h' }) true t t' ?_
    have m1 : kfI s.heap x.1 ∈ vs.map (kfI s.heap) := List.mem_map.mpr ⟨_, (mz x hx).2, rfl⟩
    have m2 : kfI s.heap y.1 ∈ vs.map (kfI s.heap) := List.mem_map.mpr ⟨_, (mz y hy).2, rfl⟩
    have e3 : lexB u u' = decide (rnk (vs.map (kfI s.heap)) (kfI s.heap x.1) < rnk (vs.map (kfI s.heap)) (kfI s.heap y.1)) := by rw [rnk_ok m1 m2, eu, eu']
    rw [e3]
    exact q
  · have pl : xs.toList.Perm (vs.zip vs) := by rw [← pairsOf_toList]; exact Array.perm_iff_toList_perm.mp pm
    have ps : (xs.map (·.2)).toList.Perm vs := by
      rw [Array.toList_map]
      have := pl.map (·.2)
      rw [List.map_snd_zip (Nat.le_refl _)] at this
      exact this
    refine h (xs.map (·.2)) ps ?_
    rw [List.pairwise_iff_getElem]
    intro i j hi hj ij
    have lx : (xs.map (·.2)).toList.length = xs.size := by rw [Array.length_toList, Array.size_map]
    rw [List.length_map, lx] at hi hj
    have hz : xs.size = (pairsOf vs).size := pm.size_eq
    have q := up i j (Nat.le_of_lt ij) (by omega)
    have mi : xs[i] ∈ (pairsOf vs).toList := (Array.perm_iff_toList_perm.mp pm).subset (Array.getElem_mem_toList hi)
    have mj : xs[j] ∈ (pairsOf vs).toList := (Array.perm_iff_toList_perm.mp pm).subset (Array.getElem_mem_toList hj)
    unfold RK at q
    rw [Array.getElem?_eq_getElem hi, Array.getElem?_eq_getElem hj] at q
    dsimp only at q
    have e := rnk_ok (ks := vs.map (kfI s.heap)) (x := kfI s.heap xs[j].1) (y := kfI s.heap xs[i].1) (List.mem_map.mpr ⟨_, (mz _ mj).2, rfl⟩) (List.mem_map.mpr ⟨_, (mz _ mi).2, rfl⟩)
    rw [decide_eq_false (by omega)] at e
    simp only [List.getElem_map, Array.getElem_toList, Array.getElem_map]
    rw [← (mz _ mi).1, ← (mz _ mj).1]
    exact e.symm
/-- sorted(a set of tuples) -/
theorem sorted_setT {V0 : Value → Prop} {S : Addr} {us : List (List Int)} {Q : Value → Shared → Prop} (hh : A.handled = none) (hj : SetT prog w V0 s.heap S us) (h64 : us.length < 64) (ne : ∀ u ∈ us, u ≠ [])
    (h : ∀ (out : Array Value) (ws : List (List Int)) (h1 h' : Heap) (tk : Nat) (d' : Drawn) (e : Nat), (∀ b ob, s.heap.get? b = some ob → h1.get? b = some ob) → (∀ b ob, h1.get? b = some ob → h'.get? b = some ob) → out.size = ws.length → (∀ (i : Nat) (v : Value) (u : List Int), out[i]? = some v → ws[i]? = some u → TupI s.heap v u ∧ V0 v) → ws.Perm us → ws.Pairwise (fun x y => lexB y x = false) → h'.get? h1.objs.size = some (seqObj "list" out e) → Q (.ref h1.objs.size) { s with heap := h', toks := tk, drawn := d' }) :
    wpAny (model prog w) A (call (.builtin "sorted") [.ref S]) Q E s := by
  obtain ⟨o, es, ep, t, ks, ho, hx, hd, ea, pm, K⟩ := hj
  have fit : t.fits es.size = true := by
    have := K.fits
    rw [List.length_map, Array.length_toList] at this
    exact this
  have hl : es.size = us.length := by rw [← Array.length_toList, ea.1, pm.length_eq]
  have hb : es.size < scanBound := by unfold scanBound; omega
  have kv : ∀ v ∈ es.toList.map (·.2), ∃ u, TupI s.heap v u ∧ u ∈ us ∧ V0 v := fun v q => by
    obtain ⟨e, he, rfl⟩ := List.mem_map.mp q
    obtain ⟨i, hi⟩ := List.mem_iff_getElem?.mp he
    have il := (List.getElem?_eq_some_iff.mp hi).1
    have ik : i < ks.length := by rw [← ea.1]; exact il
    have hk : ks[i]? = some ks[i] := List.getElem?_eq_getElem ik
    exact ⟨ks[i], (ea.2 i e _ hi hk).1, pm.mem_iff.mp (List.mem_of_getElem? hk), (ea.2 i e _ hi hk).2.2⟩
  have ek : (es.toList.map (·.2)).map (kfI s.heap) = ks := by
    apply List.ext_getElem?
    intro i
    rw [List.getElem?_map, List.getElem?_map]
    by_cases z : i < es.toList.length
    · have hi : es.toList[i]? = some es.toList[i] := List.getElem?_eq_getElem z
      have ik2 : i < ks.length := by rw [← ea.1]; exact z
      have hk : ks[i]? = some ks[i] := List.getElem?_eq_getElem ik2
      rw [hi, hk]
      show some (kfI s.heap _) = _
      rw [(ea.2 i _ _ hi hk).1.kf]
    · rw [List.getElem?_eq_none (by omega), List.getElem?_eq_none (by rw [← ea.1]; omega)]
      rfl
  refine Calls.call_function_entry kind_sorted plain_sorted entry_sorted (args_sorted1 _) ?_
  unfold Builtin.«sorted»
  refine wpAny_bind (m := checkCount "sorted" 1 1 _) (wpAny_pure (wpAny_bind (collect_set hh ho hx hd fit hb K.tb fun vs h1 tk d' hpv kp => ?_)))
  have lv : vs.length < 64 := by rw [hpv.length_eq, List.length_map, Array.length_toList]; omega
  refine wpAny_bind (wpAny_newList ?_)
  have hoL : (h1.push { cls := .type "list", data := .seq vs.toArray }).get? h1.objs.size = some (seqObj "list" vs.toArray 0) := Heap.get?_push_size _ rfl
  have tv : ∀ v ∈ vs, ∃ u, TupI s.heap v u ∧ u ∈ us ∧ V0 v := fun v q => kv v (hpv.mem_iff.mp q)
  have kf : ∀ v ∈ vs, kfI (h1.push { cls := .type "list", data := .seq vs.toArray }) v = kfI s.heap v := fun v q => by
    obtain ⟨u, t, _⟩ := tv v q
    rw [t.kf, (t.keep' fun b ob _ e => Heap.get?_push_of_some _ (kp b ob e)).kf]
  refine wpAny_bind (wpAny_holding (wpAny_call_entry slot_list_sort ⟨_, hoL, rfl⟩ entry_list_sort (sort_tups (s := { s with heap := h1.push { cls := .type "list", data := .seq vs.toArray }, toks := tk, drawn := d' }) hoL lv (fun v q => ?_) fun out po so => ⟨_, rfl, ?_⟩) (args_list_sort _)))
  · obtain ⟨u, t, mu, _⟩ := tv v q
    exact ⟨u, t.keep' fun b ob _ e => Heap.get?_push_of_some _ (kp b ob e), ne u mu⟩
  · obtain ⟨e, he⟩ := sortedHeap_at (out := out) hoL
    have ew : out.toList.map (kfI (h1.push { cls := .type "list", data := .seq vs.toArray })) = out.toList.map (kfI s.heap) := List.map_congr_left fun v q => kf v (po.mem_iff.mp q)
    refine wpAny_pure ⟨_, rfl, h out (out.toList.map (kfI s.heap)) h1 _ tk d' e kp (fun b ob z => ?_) (by rw [List.length_map, Array.length_toList]) (fun i v u h3 h4 => ?_) ?_ ?_ he⟩
    · have hlt : b < h1.objs.size := Heap.lt_size z
      rw [sortedHeap_old (Nat.ne_of_lt hlt) (by rw [Heap.size_push]; exact Nat.lt_succ_of_lt hlt)]
      exact Heap.get?_push_of_some _ z
    · rw [List.getElem?_map, Array.getElem?_toList, h3] at h4
      cases h4
      have mv : v ∈ vs := po.mem_iff.mp (by rw [← Array.getElem?_toList] at h3; exact List.mem_of_getElem? h3)
      obtain ⟨u, t, _, v0⟩ := tv v mv
      rw [t.kf]; exact ⟨t, v0⟩
    · have p1 := (po.trans hpv).map (kfI s.heap)
      rw [ek] at p1
      exact p1.trans pm
    · rw [← ew]; exact so
end
end L2

set_option Elab.async false
set_option linter.all false
set_option maxRecDepth 100000
set_option maxHeartbeats 1000000
namespace L2
open PySem PySem.Spec PyProof.Rows
/-- tuples of ints in a list -/
def TuL (H : Hp) (xs : List V) (us : List (List Int)) : Prop := xs.length = us.length ∧ ∀ (i : Nat) (x : V) (u : List Int), xs[i]? = some x → us[i]? = some u → ∃ a : Addr, x = .ref a ∧ H a = some (.tup (u.map V.int))
theorem TuL.nil (H : Hp) : TuL H [] [] := ⟨rfl, fun i x u h => by cases h⟩
theorem TuL.up {H H' : Hp} {xs : List V} {us : List (List Int)} (h : TuL H xs us) (t : Tups H H') : TuL H' xs us := ⟨h.1, fun i x u h1 h2 => by
  obtain ⟨a, b, c⟩ := h.2 i x u h1 h2
  exact ⟨a, b, t _ _ c⟩⟩
theorem TuL.snoc {H : Hp} {xs : List V} {us : List (List Int)} {a : Addr} {u : List Int} (h : TuL H xs us) (ha : H a = some (.tup (u.map V.int))) : TuL H (xs ++ [.ref a]) (us ++ [u]) := by
  refine ⟨by rw [List.length_append, List.length_append, h.1]; rfl, fun i y r h1 h2 => ?_⟩
  by_cases z : i < xs.length
  · rw [List.getElem?_append_left z] at h1
    rw [List.getElem?_append_left (h.1 ▸ z)] at h2
    exact h.2 i y r h1 h2
  · rw [List.getElem?_append_right (by omega)] at h1
    rw [List.getElem?_append_right (by have := h.1; omega), ← h.1] at h2
    cases w : i - xs.length with
    | zero => rw [w] at h1 h2; cases h1; cases h2; exact ⟨a, rfl, ha⟩
    | succ m => rw [w] at h1; cases h1
def dTs (us : List (List Int)) : PyData := .list (us.map dT)
theorem TuL.di {K : PySem.W.Frag} {H : Hp} {a : Addr} {xs : List V} {us : List (List Int)} (h : TuL H xs us) (ha : SqL K H a xs) : DI K H (.ref a) (dTs us) := by
  refine .lst ha (by rw [List.length_map]; exact h.1) fun i x d h1 h2 => ?_
  rw [List.getElem?_map] at h2
  cases z : us[i]? with
  | none => rw [z] at h2; cases h2
  | some u =>
    rw [z] at h2
    cases h2
    obtain ⟨b, rfl, hb⟩ := h.2 i x u h1 z
    refine .tup (SqT.of hb) (by rw [List.length_map, List.length_map]) fun j y e h3 h4 => ?_
    rw [List.getElem?_map] at h3 h4
    cases zz : u[j]? with
    | none => rw [zz] at h3; cases h3
    | some m => rw [zz] at h3 h4; cases h3; cases h4; exact .int m
theorem lay_dTs : ∀ us : List (List Int), (dTs us).canLay0 = true := by
  have : ∀ us : List (List Int), PyData.canLayAll0 (us.map dT) = true := by
    intro us
    induction us with
    | nil => rfl
    | cons u us ih => show ((dT u).canLay0 && PyData.canLayAll0 (us.map dT)) = true; rw [lay_dT, ih]; rfl
  exact this
theorem dep_dTs (us : List (List Int)) : (dTs us).depth ≤ 60 := by
  have : ∀ us : List (List Int), PyData.depthAll (us.map dT) ≤ 1 := by
    intro us
    induction us with
    | nil => exact Nat.zero_le _
    | cons u us ih => show max (dT u).depth _ ≤ 1; rw [dep_dT]; omega
  show PyData.depthAll _ + 1 ≤ 60
  have := this us
  omega
theorem eqv_dTs (us vs : List (List Int)) : PyData.eqv (dTs us) (dTs vs) = decide (us = vs) := by
  have : ∀ us vs : List (List Int), PyData.eqvAll (us.map dT) (vs.map dT) = decide (us = vs) := by
    intro us
    induction us with
    | nil => intro vs; cases vs <;> rfl
    | cons u us ih =>
      intro vs
      cases vs with
      | nil => rfl
      | cons v vs =>
        show (PyData.eqv (dT u) (dT v) && PyData.eqvAll (us.map dT) (vs.map dT)) = _
        rw [ih, eqv_dT]
        by_cases h : u = v
        · subst h; by_cases h2 : us = vs <;> simp [h2]
        · simp [h]
  exact this us vs
def vOf : Value → V
  | .ref a => .ref a
  | _ => .non
section
variable {X : Cx} {pins : List (Addr × Obj)} {σ : St} {H : Hp} {s : Shared}
theorem tup_of (I : Inv X pins σ H s) {a : Addr} {u : List Int} (h : H a = some (.tup (u.map V.int))) : TupI s.heap (.ref a) u := by
  obtain ⟨its, r, ⟨o, e, c, n, hd⟩, _⟩ := I.tuple (SqT.of (K := X.K) h)
  exact ⟨a, o, _, n, rfl, e, c, hd, by simpa using intsAre_of r⟩
/-- sorted(set(a list of tuples of ints)) -/
theorem pe_sortedSetT {k : Nat} {a : Expr} {ta : TE} {p p2 pos pos2 : PySem.Pos} (hr : Room k X.A) (hc : X.calm = true) (ha : PE X a ta) (hg : Gl X "sorted") (hm : X.mg "sorted" = none) (hg2 : Gl X "set") (hm2 : X.mg "set" = none) (hsa : starEach [a] X.env = [(false, eval a X.env)] := by rfl) :
    PE X (.Call (.Name "sorted" p) [.Call (.Name "set" p2) [a] [] pos2] [] pos) (fun σ H Q => ta σ H fun x H1 => ∃ (l : Addr) (xs : List V) (us : List (List Int)), x = .ref l ∧ SqL X.K H1 l xs ∧ TuL H1 xs us ∧ us.length ≤ 62 ∧ (∀ u ∈ us, u ≠ []) ∧
      ∀ (q : Addr) (ys : List V) (ws : List (List Int)), H1 q = none → TuL H1 ys ws → ws.Perm (ddT us) → ws.Pairwise (fun x y => lexB y x = false) → Q (.ref q) (upd H1 q (.lst ys))) := by
  intro pins s σ H Q I h
  refine wpAny_Call_Name_kw (ld_blt I hg hm boot_sortedX ?_)
  refine PyProof.Rows.callWith_builtin1 (rest := []) ?_ rfl rfl
  show wpAny _ _ (spliced ((false, eval (.Call (.Name "set" p2) [a] [] pos2) X.env) :: [])) _ _ s
  refine Calls.spliced_cons (wpAny_Call_Name_kw (ld_blt I hg2 hm2 boot_set ?_))
  refine PyProof.Rows.callWith_type1 (rest := []) ?_ hsa rfl
  rw [hsa]
  show wpAny _ _ (spliced ((false, eval a X.env) :: [])) _ _ s
  refine Calls.spliced_cons (thn (ha pins s σ H _ I h) fun u s1 ⟨y, H1, I1, r1, l, xs, us, ey, hq, tt, h62, ne, q⟩ => Calls.spliced_nil ?_)
  subst ey
  cases r1
  obtain ⟨its, r, pl, hz⟩ := I1.list hq
  have hln : its.length = us.length := by rw [← r.length, tt.1]
  have at' : ∀ (i : Nat) (v : Value), its[i]? = some v → ∃ (b : Addr) (u : List Int), v = .ref b ∧ us[i]? = some u ∧ H1 b = some (.tup (u.map V.int)) := fun i v hv => by
    have il := (List.getElem?_eq_some_iff.mp hv).1
    have ix : i < xs.length := by rw [r.length]; exact il
    obtain ⟨v', e1, e2⟩ := r.get (List.getElem?_eq_getElem ix)
    rw [hv] at e1
    cases e1
    have iu : i < us.length := by omega
    obtain ⟨b, e3, e4⟩ := tt.2 i _ us[i] (List.getElem?_eq_getElem ix) (List.getElem?_eq_getElem iu)
    rw [e3] at e2
    exact ⟨b, us[i], e2, List.getElem?_eq_getElem iu, e4⟩
  have hu : X.A.units + 8 < cLine := by have := hr.units; omega
  refine set_of_listT (V0 := fun v => v ∈ its) (us := us) (I1.ok.hd hc) pl.isList hu (by rw [List.size_toArray]; exact hln.symm) (fun i v hv => ?_) (by rw [List.size_toArray]; omega) (fun v hv => by simpa using hv) fun h2 tk hj hk => Calls.spliced_nil ?_
  · obtain ⟨b, u, rfl, eu, hb⟩ := at' i v (by simpa using hv)
    have : us.getD i [] = u := by rw [List.getD_eq_getElem?_getD, eu]; rfl
    rw [this]
    exact tup_of I1 hb
  have I2 : Inv X pins σ H1 { s1 with heap := h2, toks := tk } := I1.kept fun b ob z => hk b ob (Heap.lt_size z) z
  refine sorted_setT (s := { s1 with heap := h2, toks := tk }) (I1.ok.hd hc) hj (Nat.lt_of_le_of_lt (ddT_len us) (by omega)) (fun u hu' => ne u ((ddT_mem us u).mp hu')) fun out ws h3 h4 tk4 d4 e kp3 kp4 sz at2 hp hs he => ?_
  have I3 : Inv X pins σ H1 { s1 with heap := h3, toks := tk, drawn := d4 } := I2.keptD kp3
  have hml : out.size ≤ 62 := by rw [sz, hp.length_eq]; have := ddT_len us; omega
  have at3 : ∀ (i : Nat) (v : Value), out.toList[i]? = some v → ∃ (b : Addr) (u : List Int), v = .ref b ∧ ws[i]? = some u ∧ H1 b = some (.tup (u.map V.int)) := fun i v hv => by
    have il := (List.getElem?_eq_some_iff.mp hv).1
    rw [Array.length_toList, sz] at il
    obtain ⟨t1, m1⟩ := at2 i v ws[i] (by rw [← Array.getElem?_toList]; exact hv) (List.getElem?_eq_getElem il)
    obtain ⟨j, hj'⟩ := List.mem_iff_getElem?.mp m1
    obtain ⟨b, u, rfl, eu, hb⟩ := at' j v hj'
    have t2 := tup_of I2 hb
    have : ws[i] = u := by rw [← t1.kf, ← t2.kf]
    exact ⟨b, u, rfl, by rw [List.getElem?_eq_getElem il, this], hb⟩
  have vals : Vals (out.toList.map vOf) out.toList := by
    have key : ∀ l : List Value, (∀ v ∈ l, ∃ b : Addr, v = .ref b) → Vals (l.map vOf) l := by
      intro l
      induction l with
      | nil => intro _; exact .nil
      | cons v l ih =>
        intro hl
        obtain ⟨b, rfl⟩ := hl v List.mem_cons_self
        exact .cons rfl (ih fun z hz => hl z (List.mem_cons_of_mem _ hz))
    refine key _ fun v hv => ?_
    obtain ⟨i, hi⟩ := List.mem_iff_getElem?.mp hv
    obtain ⟨b, _, rfl, _⟩ := at3 i v hi
    exact ⟨b, rfl⟩
  have tt2 : TuL H1 (out.toList.map vOf) ws := by
    refine ⟨by rw [List.length_map, Array.length_toList, sz], fun i x u h5 h6 => ?_⟩
    rw [List.getElem?_map] at h5
    cases zz : out.toList[i]? with
    | none => rw [zz] at h5; cases h5
    | some v =>
      rw [zz] at h5
      obtain ⟨b, u', rfl, eu, hb⟩ := at3 i v zz
      cases h5
      rw [eu] at h6
      cases h6
      exact ⟨b, rfl, hb⟩
  refine ⟨.ref h3.objs.size, _, I3.laid (t' := tk4) (o := .lst (out.toList.map vOf)) kp4 (Nat.le_refl _) ⟨?_, out.toList, e, vals, ?_⟩, rfl, q _ _ ws (I3.hok.fresh (Nat.le_refl _)) tt2 hp hs⟩
  · rw [List.length_map, Array.length_toList]
    exact Nat.le_trans (show out.size ≤ 1000 by omega) (by decide)
  · rw [he]
end
end L2

set_option Elab.async false
set_option linter.all false
set_option maxRecDepth 100000
set_option maxHeartbeats 1000000
namespace L2
open PySem PySem.Spec PyProof.Rows
/-- the dict at d, by its rows -/
def RawD (h : Heap) (d : Addr) (es : Array DictEntry) (ep : Nat) : Prop := ∃ o, h.get? d = some o ∧ o.ExactDict ∧ o.data = .dict es ep
theorem RawD.keep {h h' : Heap} {d : Addr} {es : Array DictEntry} {ep : Nat} (r : RawD h d es ep) (k : ∀ o, h.get? d = some o → h'.get? d = some o) : RawD h' d es ep :=
  let ⟨o, e, x⟩ := r; ⟨o, k o e, x⟩
/-- a walk over its items, f0 and f1: what it handed out last -/
def ItF (h : Heap) (it d : Addr) (f0 f1 : Value) (i n ep : Nat) (ok ov : Value) : Prop :=
  h.get? it = some { cls := .type "dict_itemiterator", data := .fields #[f0, f1, .ref d, .int i 0, .int n 0, .int ep 0, ok, ov] }
section
variable {prog : Program} {w : World} {A : Around} {E : Value → Shared → Prop} {s : Shared} {it d : Addr} {f0 f1 ok ov : Value} {i ep : Nat} {es : Array DictEntry}
theorem itf_type (g : ItF s.heap it d f0 f1 i es.size ep ok ov) : s.TypeIs (.ref it) "dict_itemiterator" := ⟨_, g, rfl⟩
theorem owns_it : Builtin.Dict_items.ownsTuple "dict_itemiterator" = true := by decide
/-- one more item: up to the pair -/
theorem nx_pre {Q : Option Value → Shared → Prop} (g : ItF s.heap it d f0 f1 i es.size ep ok ov) (hd : RawD s.heap d es ep) (hi : i < es.size)
    (k : ∀ (A' : Around) (E' : Value → Shared → Prop) (h1 : Heap), ItF h1 it d f0 f1 (i + 1) es.size ep ok ov → Heap.SameBut it s.heap h1 → wpAny (model prog w) A' (Builtin.Dict_items.pairFromOwner (.ref it) 6 es[i].key es[i].val) (fun v s' => Q (some v) s') E' { s with heap := h1 }) :
    wpAny (model prog w) A (pyNext (.ref it)) Q E s := by
  obtain ⟨o, e1, e2, e3⟩ := hd
  have ty := itf_type g
  unfold pyNext
  refine wpAny_bind (wpAny_attempt (wpAny_callSpecial?_slot ty PySem.F.slot_dict_itemiterator_next (wpAny_call_entry PySem.F.slot_dict_itemiterator_next ty PySem.F.entry_dict_itemiterator_next ?_ (PySem.F.args_dict_itemiterator_next_1 _))))
  refine wpAny_bind (wpAny_pure (wpAny_bind (wpAny_bind (wpAny_bind (wpAny_typeNameOfWhole_itemiter ty (wpAny_pure (wpAny_bind (wpAny_fieldsOf g rfl ?_))))))))
  simp only [owns_it, if_true]
  show wpAny _ _ (if (Value.ref d == Value.none) = true then _ else _) _ _ _
  rw [if_neg (by intro z; cases z)]
  refine wpAny_bind (wpAny_pure (wpAny_bind (wpAny_dictEntries e1 e3 ?_)))
  rw [if_neg (by simp)]
  refine wpAny_bind (wpAny_pure (wpAny_bind (wpAny_dictEpoch e1 e3 ?_)))
  rw [if_neg (by simp)]
  refine wpAny_pure ?_
  have n0 : ¬ ((i : Int) < 0) := by omega
  simp only [n0, if_false, Int.toNat_natCast, Array.getElem?_eq_getElem hi]
  refine wpAny_bind (wpAny_bind (wpAny_typeNameOfWhole_itemiter ty (wpAny_pure (wpAny_bind (wpAny_isOneOf_itemiter ty ?_)))))
  show wpAny _ _ (setField (.ref it) 3 (rawInt ((i : Int) + 1)) >>= _) _ _ _
  refine wpAny_bind (wpAny_setField_rec g (by simp) fun h1 g1 sb => ?_)
  have g2 : ItF h1 it d f0 f1 (i + 1) es.size ep ok ov := g1
  have ty1 : Shared.TypeIs { s with heap := h1 } (.ref it) "dict_itemiterator" := ⟨_, g2, rfl⟩
  refine wpAny_bind (wpAny_holding (wpAny_bind (wpAny_isOneOf_itemiter ty1 (wpAny_bind (wpAny_isOneOf_itemiter ty1 ?_)))))
  show wpAny _ _ (Builtin.Dict_items.pairFromOwner (.ref it) 6 es[i].key es[i].val) _ _ _
  exact wpAny_mono (k _ _ h1 g2 sb) (fun v s' q => wpAny_pure ⟨v, rfl, wpAny_pure q⟩) fun _ _ z => z
/-- a new pair, the first one: the walk remembers it -/
theorem pair_first {key val : Value} {Q : Value → Shared → Prop} (g : ItF s.heap it d .none f1 i es.size ep ok ov)
    (k : ∀ h', ItF h' it d (rawInt s.heap.objs.size) (.bool false) i es.size ep key val → h'.get? s.heap.objs.size = some { cls := .type "tuple", data := .seq #[key, val] } → h'.objs.size = s.heap.objs.size + 1 → (∀ b o, b ≠ it → s.heap.get? b = some o → h'.get? b = some o) → Q (.ref s.heap.objs.size) { s with heap := h' }) :
    wpAny (model prog w) A (Builtin.Dict_items.pairFromOwner (.ref it) 6 key val) Q E s := by
  have hil : it < s.heap.objs.size := Heap.lt_size g
  unfold Builtin.Dict_items.pairFromOwner
  refine wpAny_bind (wpAny_newTuple ?_)
  have g1 : ItF (s.heap.push { cls := .type "tuple", data := .seq #[key, val] }) it d .none f1 i es.size ep ok ov := Heap.get?_push_of_some _ g
  have t1 : (s.heap.push { cls := .type "tuple", data := .seq #[key, val] }).get? s.heap.objs.size = some { cls := .type "tuple", data := .seq #[key, val] } := Heap.get?_push_size _ rfl
  have z1 : (s.heap.push { cls := .type "tuple", data := .seq #[key, val] }).objs.size = s.heap.objs.size + 1 := Heap.size_push ..
  have k1 : ∀ b o, b ≠ it → s.heap.get? b = some o → (s.heap.push { cls := .type "tuple", data := .seq #[key, val] }).get? b = some o := fun b o _ e => Heap.get?_push_of_some _ e
  show wpAny _ _ (Builtin.Dict_items.ownedTupleIsFree (.ref it) >>= _) _ _ { s with heap := s.heap.push { cls := .type "tuple", data := .seq #[key, val] } }
  generalize s.heap.push { cls := .type "tuple", data := .seq #[key, val] } = h1 at g1 t1 z1 k1
  unfold Builtin.Dict_items.ownedTupleIsFree
  refine wpAny_bind (wpAny_bind (wpAny_field g1 rfl (x := .none) rfl (wpAny_pure ?_)))
  simp only [if_true]
  refine wpAny_bind (wpAny_field g1 rfl (x := ok) rfl (wpAny_bind (wpAny_field g1 rfl (x := ov) rfl ?_)))
  refine wpAny_bind (wpAny_setField_rec g1 (by simp) fun h2 g2 b2 => ?_)
  refine wpAny_bind (wpAny_setField_rec g2 (by simp) fun h3 g3 b3 => ?_)
  refine wpAny_bind (wpAny_setField_rec g3 (by simp) fun h4 g4 b4 => ?_)
  refine wpAny_bind (wpAny_setField_rec g4 (by simp) fun h5 g5 b5 => ?_)
  have all : ∀ b o, b ≠ it → h1.get? b = some o → h5.get? b = some o := fun b o n e => Heap.SameBut.extBut b5 b o n (Heap.SameBut.extBut b4 b o n (Heap.SameBut.extBut b3 b o n (Heap.SameBut.extBut b2 b o n e)))
  have sz : h5.objs.size = s.heap.objs.size + 1 := by
    have q2 : h2.objs.size = h1.objs.size := b2.1
    have q3 : h3.objs.size = h2.objs.size := b3.1
    have q4 : h4.objs.size = h3.objs.size := b4.1
    have q5 : h5.objs.size = h4.objs.size := b5.1
    omega
  exact wpAny_bind (wpAny_letGo (wpAny_pure (k h5 g5 (all _ _ (Nat.ne_of_gt hil) t1) sz fun b o n e => all b o n (k1 b o n e))))
/-- a further pair, while the first one is held -/
theorem pair_more {key val : Value} {a : Addr} {oa : Obj} {f : Bool} {Q : Value → Shared → Prop} (g : ItF s.heap it d (rawInt a) (.bool f) i es.size ep ok ov) (ha : s.heap.get? a = some oa)
    (k : ∀ h', ItF h' it d (rawInt a) (.bool true) i es.size ep ok ov → h'.get? s.heap.objs.size = some { cls := .type "tuple", data := .seq #[key, val] } → h'.objs.size = s.heap.objs.size + 1 → (∀ b o, b ≠ it → s.heap.get? b = some o → h'.get? b = some o) → Q (.ref s.heap.objs.size) { s with heap := h' }) :
    wpAny (model prog w) A (Builtin.Dict_items.pairFromOwner (.ref it) 6 key val) Q E s := by
  have hil : it < s.heap.objs.size := Heap.lt_size g
  unfold Builtin.Dict_items.pairFromOwner
  refine wpAny_bind (wpAny_newTuple ?_)
  have g1 : ItF (s.heap.push { cls := .type "tuple", data := .seq #[key, val] }) it d (rawInt a) (.bool f) i es.size ep ok ov := Heap.get?_push_of_some _ g
  have t1 : (s.heap.push { cls := .type "tuple", data := .seq #[key, val] }).get? s.heap.objs.size = some { cls := .type "tuple", data := .seq #[key, val] } := Heap.get?_push_size _ rfl
  have a1 := Heap.get?_push_of_some { cls := .type "tuple", data := .seq #[key, val] } ha
  have z1 : (s.heap.push { cls := .type "tuple", data := .seq #[key, val] }).objs.size = s.heap.objs.size + 1 := Heap.size_push ..
  have k1 : ∀ b o, b ≠ it → s.heap.get? b = some o → (s.heap.push { cls := .type "tuple", data := .seq #[key, val] }).get? b = some o := fun b o _ e => Heap.get?_push_of_some _ e
  show wpAny _ _ (Builtin.Dict_items.ownedTupleIsFree (.ref it) >>= _) _ _ { s with heap := s.heap.push { cls := .type "tuple", data := .seq #[key, val] } }
  generalize s.heap.push { cls := .type "tuple", data := .seq #[key, val] } = h1 at g1 t1 z1 k1 a1
  unfold Builtin.Dict_items.ownedTupleIsFree
  refine wpAny_bind (wpAny_bind (wpAny_field g1 rfl (x := rawInt a) rfl ?_))
  show wpAny _ _ (loadIfAlive ((a : Int).toNat) >>= _) _ _ _
  rw [Int.toNat_natCast]
  refine wpAny_bind (PySem.W.kdx_alive a1 ?_)
  simp only [Option.isNone_some, Bool.false_eq_true, if_false]
  refine wpAny_bind (wpAny_field g1 rfl (x := .bool f) rfl ?_)
  cases f with
  | true =>
    rw [if_neg (by decide)]
    refine wpAny_pure ?_
    simp only [Bool.false_eq_true, if_false]
    exact wpAny_pure (k h1 g1 t1 z1 k1)
  | false =>
    rw [if_pos (by decide)]
    refine wpAny_bind (wpAny_setField_rec g1 (by simp) fun h2 g2 b2 => wpAny_pure ?_)
    simp only [Bool.false_eq_true, if_false]
    exact wpAny_pure (k h2 g2 (Heap.SameBut.extBut b2 _ _ (Nat.ne_of_gt hil) t1) (by have q2 : h2.objs.size = h1.objs.size := b2.1; omega) fun b o n e => Heap.SameBut.extBut b2 b o n (k1 b o n e))
/-- no item is left -/
theorem nx_end {Q : Option Value → Shared → Prop} (hh : A.handled = none) (g : ItF s.heap it d f0 f1 es.size es.size ep ok ov) (hd : RawD s.heap d es ep)
    (k : ∀ h', Heap.ExtBut it s.heap h' → Q none { s with heap := h' }) : wpAny (model prog w) A (pyNext (.ref it)) Q E s := by
  obtain ⟨o, e1, e2, e3⟩ := hd
  have ty : s.TypeIs (.ref it) "dict_itemiterator" := ⟨_, g, rfl⟩
  unfold pyNext
  refine wpAny_bind (wpAny_attempt (wpAny_callSpecial?_slot ty PySem.F.slot_dict_itemiterator_next (wpAny_call_entry PySem.F.slot_dict_itemiterator_next ty PySem.F.entry_dict_itemiterator_next ?_ (PySem.F.args_dict_itemiterator_next_1 _))))
  refine wpAny_bind (wpAny_pure (wpAny_bind (wpAny_bind (wpAny_bind (wpAny_typeNameOfWhole_itemiter ty (wpAny_pure (wpAny_bind (wpAny_fieldsOf g rfl ?_))))))))
  simp only [owns_it, if_true]
  show wpAny _ _ (if (Value.ref d == Value.none) = true then _ else _) _ _ _
  rw [if_neg (by intro z; cases z)]
  refine wpAny_bind (wpAny_pure (wpAny_bind (wpAny_dictEntries e1 e3 ?_)))
  rw [if_neg (by simp)]
  refine wpAny_bind (wpAny_pure (wpAny_bind (wpAny_dictEpoch e1 e3 ?_)))
  rw [if_neg (by simp)]
  refine wpAny_pure ?_
  have n0 : ¬ ((es.size : Int) < 0) := by omega
  simp only [n0, if_false, Int.toNat_natCast, Array.getElem?_eq_none (Nat.le_refl _)]
  refine wpAny_bind (wpAny_bind (wpAny_typeNameOfWhole_itemiter ty (wpAny_pure ?_)))
  show wpAny _ _ (setField (.ref it) 2 .none >>= _) _ _ s
  refine wpAny_bind (wpAny_setField g rfl (by simp) ?_)
  show wpAny _ _ (newExc (Value.type "StopIteration") [] >>= fun e => raiseNew e) _ _ _
  refine stop_j hh fun e h' kp ⟨ob, ge, gc⟩ => ?_
  refine wpAny_bind (wpAny_isInstance (T := "StopIteration") (b := true) ⟨ob, ge, gc⟩ isSubtype_stop ?_)
  exact wpAny_pure (k _ fun b o n e => kp b o (Heap.SameBut.extBut (Heap.SameBut.update ..) b o n e))
/-- the walk's state: at the begin, or with a pair held that is not the list's -/
def ItS (h : Heap) (it d S : Addr) (i n ep : Nat) : Prop := (i = 0 ∧ ∃ ok ov, ItF h it d .none (.bool false) 0 n ep ok ov) ∨ ∃ (a : Addr) (f : Bool) (ok ov : Value) (oa : Obj), ItF h it d (rawInt a) (.bool f) i n ep ok ov ∧ h.get? a = some oa ∧ a ≠ it ∧ a ≠ S
theorem ItS.keep {h h' : Heap} {S : Addr} {n : Nat} (x : ItS h it d S i n ep) (nS : it ≠ S) (k : ∀ b o, b ≠ S → h.get? b = some o → h'.get? b = some o) : ItS h' it d S i n ep := by
  rcases x with ⟨e, ok, ov, g⟩ | ⟨a, f, ok, ov, oa, g, ga, n1, n2⟩
  · exact .inl ⟨e, ok, ov, k _ _ nS g⟩
  · exact .inr ⟨a, f, ok, ov, oa, k _ _ nS g, k _ _ n2 ga, n1, n2⟩
theorem its_next {S : Addr} {Q : Option Value → Shared → Prop} (x : ItS s.heap it d S i es.size ep) (hS : S < s.heap.objs.size) (hd : RawD s.heap d es ep) (hi : i < es.size)
    (k : ∀ h', ItS h' it d S (i + 1) es.size ep → h'.get? s.heap.objs.size = some { cls := .type "tuple", data := .seq #[es[i].key, es[i].val] } → h'.objs.size = s.heap.objs.size + 1 → (∀ b o, b ≠ it → s.heap.get? b = some o → h'.get? b = some o) → Q (some (.ref s.heap.objs.size)) { s with heap := h' }) :
    wpAny (model prog w) A (pyNext (.ref it)) Q E s := by
  rcases x with ⟨rfl, ok, ov, g⟩ | ⟨a, f, ok, ov, oa, g, ga, n1, n2⟩
  · refine nx_pre g hd hi fun A' E' h1 g1 sb => ?_
    have z1 : h1.objs.size = s.heap.objs.size := sb.1
    have hil : it < s.heap.objs.size := Heap.lt_size g
    refine pair_first (s := { s with heap := h1 }) g1 fun h' g2 t2 z2 k2 => ?_
    dsimp only at g2 t2 z2 k2 ⊢
    rw [z1] at g2 t2 z2 ⊢
    exact k h' (.inr ⟨_, _, _, _, _, g2, t2, Nat.ne_of_gt hil, Nat.ne_of_gt hS⟩) t2 z2 fun b o n e => k2 b o n (Heap.SameBut.extBut sb b o n e)
  · refine nx_pre g hd hi fun A' E' h1 g1 sb => ?_
    have z1 : h1.objs.size = s.heap.objs.size := sb.1
    refine pair_more (s := { s with heap := h1 }) g1 (Heap.SameBut.extBut sb _ _ n1 ga) fun h' g2 t2 z2 k2 => ?_
    dsimp only at g2 t2 z2 k2 ⊢
    rw [z1] at t2 z2 ⊢
    have k3 : ∀ b o, b ≠ it → s.heap.get? b = some o → h'.get? b = some o := fun b o n e => k2 b o n (Heap.SameBut.extBut sb b o n e)
    exact k h' (.inr ⟨a, true, ok, ov, oa, g2, k3 _ _ n1 ga, n1, n2⟩) t2 z2 k3
theorem its_end {S : Addr} {Q : Option Value → Shared → Prop} (hh : A.handled = none) (x : ItS s.heap it d S es.size es.size ep) (hd : RawD s.heap d es ep)
    (k : ∀ h', Heap.ExtBut it s.heap h' → Q none { s with heap := h' }) : wpAny (model prog w) A (pyNext (.ref it)) Q E s := by
  rcases x with ⟨e, ok, ov, g⟩ | ⟨a, f, ok, ov, oa, g, _⟩
  · have g' : ∀ m, m = 0 → ItF s.heap it d .none (.bool false) m es.size ep ok ov := fun m z => by subst z; exact g
    exact nx_end hh (g' _ e) hd k
  · exact nx_end hh g hd k
/-- the pairs, told as they lie -/
def PairsAt (h : Heap) (es : Array DictEntry) (as : List Addr) : Prop := ∀ (j : Nat) (a : Addr), as[j]? = some a → ∃ e, es[j]? = some e ∧ h.get? a = some { cls := .type "tuple", data := .seq #[e.key, e.val] }
theorem pairs_keep {h h' : Heap} {as : List Addr} (p : PairsAt h es as) (k : ∀ a ∈ as, ∀ o, h.get? a = some o → h'.get? a = some o) : PairsAt h' es as := fun j a e => by
  obtain ⟨x, e1, e2⟩ := p j a e
  exact ⟨x, e1, k a (List.mem_of_getElem? e) _ e2⟩
theorem loop_its {R : Result → Shared → Prop} {S I : Addr} (hh : A.handled = none) (hSI : S ≠ I) (hSd : S ≠ d) (hId : I ≠ d) (hn : es.size ≤ sizeLine) (res : Value) {h0 : Heap}
    (hR : ∀ (h' : Heap) (c : Nat) (acc : Array Value) (as : List Addr), (∀ b o, b ≠ S → b ≠ I → h0.get? b = some o → h'.get? b = some o) → h'.get? S = some { cls := .type "list", data := .seq acc c } → as.length = es.size → PairsAt h' es as → (∀ a ∈ as, h0.objs.size ≤ a) → acc.toList = as.map Value.ref → R (.ok (.ret res)) { s with heap := h' }) :
    ∀ (k i : Nat) (h : Heap) (c : Nat) (acc : Array Value) (as : List Addr), es.size - i = k → i ≤ es.size → ItS h I d S i es.size ep → RawD h d es ep → (∀ b o, b ≠ S → b ≠ I → h0.get? b = some o → h.get? b = some o) → h0.objs.size ≤ h.objs.size → h.get? S = some { cls := .type "list", data := .seq acc c } → acc.toList = as.map Value.ref → as.length = i → PairsAt h es as → (∀ a ∈ as, h0.objs.size ≤ a ∧ a ≠ S ∧ a ≠ I) →
      codeAny (model prog w) A (.builtin "list.extend.loop" ⟨[.ref S, .ref I, res], []⟩) R { s with heap := h } := by
  intro k
  induction k with
  | zero =>
    intro i h c acc as hk hi st rd kp sz gS ha hl pa na
    have ei : i = es.size := by omega
    subst ei
    refine codeAny_builtin PySem.F.entry_extend_loop ?_
    rw [Around.under_plainId PySem.F.plain_extend_loop _]
    show wpAny _ A.in1 (pyNext (.ref I) >>= _) _ _ _
    refine wpAny_bind (its_end (s := { s with heap := h }) hh st rd fun h' x => wpAny_pure (hR h' c acc as (fun b o n1 n2 e => x b o n2 (kp b o n1 n2 e)) (x _ _ hSI gS) hl (pairs_keep pa fun a m o e => x a o (na a m).2.2 e) (fun a m => (na a m).1) ha))
  | succ k ih =>
    intro i h c acc as hk hi st rd kp sz gS ha hl pa na
    have il : i < es.size := by omega
    refine codeAny_builtin PySem.F.entry_extend_loop ?_
    rw [Around.under_plainId PySem.F.plain_extend_loop _]
    show wpAny _ A.in1 (pyNext (.ref I) >>= _) _ _ _
    refine wpAny_bind (its_next (s := { s with heap := h }) st (Heap.lt_size gS) rd il fun h' st' t' z' x => ?_)
    dsimp only at t' z' x ⊢
    have gS' := x _ _ hSI gS
    have asz : acc.size = i := by rw [← Array.length_toList, ha, List.length_map, hl]
    show wpAny _ A.in1 (updateSeq S (·.push (.ref h.objs.size)) >>= _) _ _ _
    have oth : ∀ b o, b ≠ S → h'.get? b = some o → (h'.update S (Obj.mapSeq (·.push (.ref h.objs.size)))).get? b = some o := fun b o n e => (Heap.get?_update_other _ _ (Ne.symm n)).trans e
    have Il : I < h.objs.size := by
      rcases st with ⟨_, _, _, g⟩ | ⟨_, _, _, _, _, g, _⟩ <;> exact Heap.lt_size g
    have sn : h.objs.size ≠ S := Nat.ne_of_gt (Heap.lt_size gS)
    refine wpAny_bind (wpAny_updateSeq gS' rfl (wpAny_pure ⟨plainId_quiet PySem.F.plain_extend_loop _, ih (i + 1) _ _ (acc.push (.ref h.objs.size)) (as ++ [h.objs.size]) (by omega) il (st'.keep (Ne.symm hSI) oth) (rd.keep fun o e => oth d o (Ne.symm hSd) (x d o (Ne.symm hId) e)) (fun b o n1 n2 e => oth b o n1 (x b o n2 (kp b o n1 n2 e))) ?_ (Heap.get?_update_self _ gS' rfl) ?_ ?_ ?_ ?_⟩) (by rw [asz]; omega) (by show (acc.push _).size ≤ sizeLine + 1; rw [Array.size_push, asz]; omega))
    · rw [Heap.size_update]
      show h0.objs.size ≤ h'.objs.size
      omega
    · rw [Array.toList_push, ha, List.map_append]; rfl
    · rw [List.length_append, hl]; rfl
    · intro j a e
      by_cases jl : j < as.length
      · rw [List.getElem?_append_left jl] at e
        obtain ⟨y, e1, e2⟩ := pa j a e
        have na' := na a (List.mem_of_getElem? e)
        exact ⟨y, e1, oth a _ na'.2.1 (x a _ na'.2.2 e2)⟩
      · rw [List.getElem?_append_right (by omega)] at e
        have j0 : j = i := by
          have := (List.getElem?_eq_some_iff.mp e).1
          simp only [List.length_cons, List.length_nil] at this
          omega
        subst j0
        rw [hl, Nat.sub_self] at e
        cases e
        exact ⟨es[j], Array.getElem?_eq_getElem il, oth _ _ sn t'⟩
    · intro a m
      rcases List.mem_append.mp m with m | m
      · exact na a m
      · rw [List.mem_singleton.mp m]
        exact ⟨sz, sn, Nat.ne_of_gt Il⟩
theorem iter_its {v : Addr} {Q : Value → Shared → Prop} (hv : s.heap.IsItemsView v d) (hd : RawD s.heap d es ep)
    (k : Q (.ref s.heap.objs.size) { s with heap := s.heap.push { cls := .type "dict_itemiterator", data := .fields #[.none, .bool false, .ref d, .int 0 0, .int es.size 0, .int ep 0, .none, .none] } }) : wpAny (model prog w) A (pyIter (.ref v)) Q E s := by
  obtain ⟨o, e1, e2, e3⟩ := hd
  have ty := hv.typeIs
  obtain ⟨ov, g1, g2, g3⟩ := hv
  refine wpAny_pyIter_slot ty PySem.F.slot_dict_items_iter (wpAny_call_entry PySem.F.slot_dict_items_iter ty PySem.F.entry_dict_items_iter ?_ (PySem.F.args_dict_items_iter_1 _))
  unfold Builtin.«dict_items.__iter__» Builtin.Dict_items.dictOf Builtin.Dict_items.newIterator
  refine wpAny_bind (wpAny_pure (wpAny_bind (wpAny_bind (wpAny_field g1 g3 (x := .ref d) rfl (wpAny_pure (wpAny_bind (wpAny_bind (wpAny_dictEntries e1 e3 (wpAny_bind (wpAny_dictEpoch e1 e3 ?_))))))))))
  simp only [owns_it, if_true]
  refine wpAny_newObj_type (wpAny_pure ⟨_, rfl, "dict_itemiterator", _, ⟨_, Heap.get?_push_size _ rfl, rfl⟩, PySem.F.slot_dict_itemiterator_next.lookup, ?_⟩) ?_
  · simpa [rawInt, Builtin.Dict_items.ownedTupleFields] using k
  · simp only [sizeOk, Builtin.Dict_items.ownedTupleFields, List.size_toArray, List.length_append, List.length_cons, List.length_nil]
    decide
/-- list(d.items()), as sorted takes it -/
theorem collect_its {v : Addr} {Q : List Value → Shared → Prop} (hh : A.handled = none) (hv : s.heap.IsItemsView v d) (hd : RawD s.heap d es ep) (hn : es.size ≤ sizeLine)
    (k : ∀ (h' : Heap) (as : List Addr), (∀ b o, s.heap.get? b = some o → h'.get? b = some o) → as.length = es.size → PairsAt h' es as → (∀ a ∈ as, s.heap.objs.size ≤ a) → Q (as.map Value.ref) { s with heap := h' }) : wpAny (model prog w) A (collect (.ref v)) Q E s := by
  have vl : v < s.heap.objs.size := let ⟨_, e, _⟩ := hv; Heap.lt_size e
  have dl : d < s.heap.objs.size := let ⟨_, e, _⟩ := hd; Heap.lt_size e
  have ext : ∀ (s : Shared) (R : Result → Shared → Prop) (S : Addr) (n0 : Nat), s.heap.IsItemsView v d → RawD s.heap d es ep → s.heap.get? S = some { cls := .type "list", data := .seq #[] n0 } → S ≠ v → S ≠ d →
      (∀ (h' : Heap) (c : Nat) (acc : Array Value) (as : List Addr), (∀ b o, b ≠ S → s.heap.get? b = some o → h'.get? b = some o) → h'.get? S = some { cls := .type "list", data := .seq acc c } → as.length = es.size → PairsAt h' es as → (∀ a ∈ as, s.heap.objs.size ≤ a) → acc.toList = as.map Value.ref → R (.ok (.ret (.ref S))) { s with heap := h' }) →
      wpAny (model prog w) A.in1 (Builtin.List.listExtendWith (.ref S) (.ref v) (.ref S)) (fun fin s' => match fin with | .done f => R (.ok f) s' | .again c' => c'.quiet = true ∧ codeAny (model prog w) A c' R s') (fun e s' => R (.error e) s') s := by
    intro s R S n0 hv hd gS nv nd hR
    have dl : d < s.heap.objs.size := let ⟨_, e, _⟩ := hd; Heap.lt_size e
    have Sl : S < s.heap.objs.size := Heap.lt_size gS
    unfold Builtin.List.listExtendWith
    refine wpAny_bind (wpAny_typeOf (T := "dict_items") hv.typeIs ?_)
    have e1 : Builtin.List.listSameRef (.ref S) (.ref v) = false := by simp [Builtin.List.listSameRef, nv]
    have e2 : (Value.type "dict_items" == Value.type "list") = false := by decide
    have e3 : (Value.type "dict_items" == Value.type "tuple") = false := by decide
    simp only [e1, e2, e3, Bool.or_false, Bool.false_eq_true, if_false]
    refine wpAny_bind (iter_its hv hd ?_)
    have g1 := Heap.get?_push_of_some { cls := .type "dict_itemiterator", data := .fields #[.none, .bool false, .ref d, .int 0 0, .int es.size 0, .int ep 0, .none, .none] } gS
    have it1 : ItF (s.heap.push { cls := .type "dict_itemiterator", data := .fields #[.none, .bool false, .ref d, .int 0 0, .int es.size 0, .int ep 0, .none, .none] }) s.heap.objs.size d .none (.bool false) 0 es.size ep .none .none := Heap.get?_push_size _ rfl
    have k1 : ∀ b o, s.heap.get? b = some o → (s.heap.push { cls := .type "dict_itemiterator", data := .fields #[.none, .bool false, .ref d, .int 0 0, .int es.size 0, .int ep 0, .none, .none] }).get? b = some o := fun b o e => Heap.get?_push_of_some _ e
    have z1 : s.heap.objs.size ≤ (s.heap.push { cls := .type "dict_itemiterator", data := .fields #[.none, .bool false, .ref d, .int 0 0, .int es.size 0, .int ep 0, .none, .none] }).objs.size := by rw [Heap.size_push]; omega
    have hv1 : (s.heap.push { cls := .type "dict_itemiterator", data := .fields #[.none, .bool false, .ref d, .int 0 0, .int es.size 0, .int ep 0, .none, .none] }).IsItemsView v d := let ⟨o, e, x⟩ := hv; ⟨o, k1 _ _ e, x⟩
    generalize s.heap.push { cls := .type "dict_itemiterator", data := .fields #[.none, .bool false, .ref d, .int 0 0, .int es.size 0, .int ep 0, .none, .none] } = h1 at g1 it1 k1 z1 hv1
    have go : ∀ (h2 : Heap) (c : Nat), (∀ b o, b ≠ S → h1.get? b = some o → h2.get? b = some o) → h1.objs.size ≤ h2.objs.size → h2.get? S = some { cls := .type "list", data := .seq #[] c } → codeAny (model prog w) A (.builtin "list.extend.loop" ⟨[.ref S, .ref s.heap.objs.size, .ref S], []⟩) R { s with heap := h2 } := fun h2 c k2 z2 g2 => by
      refine loop_its (h0 := s.heap) hh (Nat.ne_of_lt Sl) nd (Nat.ne_of_gt dl) hn (.ref S) (fun h' c acc as q1 q2 q3 q4 q5 q6 => ?_) es.size 0 h2 c #[] [] rfl (Nat.zero_le _) (.inl ⟨rfl, _, _, k2 _ _ (Nat.ne_of_gt Sl) it1⟩) (hd.keep fun o e => k2 _ _ (Ne.symm nd) (k1 _ _ e)) (fun b o n1 _ e => k2 b o n1 (k1 b o e)) (Nat.le_trans z1 z2) g2 rfl rfl (fun j a e => by cases e) (fun a m => by cases m)
      exact hR h' c acc as (fun b o n e => q1 b o n (Nat.ne_of_lt (Heap.lt_size e)) e) q2 q3 q4 q5 q6
    refine wpAny_bind (wpAny_holding (PySem.W.kdx_hint (hv1.typeIs (s := { s with heap := h1 })) ?_))
    refine wpAny_ite_split (fun _ => ?_) (fun _ => wpAny_pure ⟨plainId_quiet PySem.F.plain_extend_loop _, go h1 n0 (fun b o _ e => e) (Nat.le_refl _) g1⟩)
    refine wpAny_bind (wpAny_rule (wpAny_bind ?_))
    show wpAny _ _ (updateSeq S (·.push .none) >>= fun _ => updateSeq S (·.pop)) _ _ _
    refine wpAny_bind (wpAny_updateSeq g1 rfl ?_)
    have g2 := Heap.get?_update_self (Obj.mapSeq (·.push Value.none)) g1 rfl
    refine wpAny_updateSeq (hz := by seq_fits) g2 rfl ?_
    have g3 := Heap.get?_update_self (Obj.mapSeq (·.pop)) g2 rfl
    refine wpAny_pure ⟨plainId_quiet PySem.F.plain_extend_loop _, go _ _ (fun b o n e => ?_) ?_ g3⟩
    · exact (Heap.get?_update_other _ _ (Ne.symm n)).trans ((Heap.get?_update_other _ _ (Ne.symm n)).trans e)
    · rw [Heap.size_update, Heap.size_update]; exact Nat.le_refl _
  have key : ∀ R : Result → Shared → Prop, (∀ (h' : Heap) (c : Nat) (acc : Array Value) (as : List Addr), (∀ b o, s.heap.get? b = some o → h'.get? b = some o) → h'.get? s.heap.objs.size = some { cls := .type "list", data := .seq acc c } → as.length = es.size → PairsAt h' es as → (∀ a ∈ as, s.heap.objs.size ≤ a) → acc.toList = as.map Value.ref → R (.ok (.ret (.ref s.heap.objs.size))) { s with heap := h' }) →
      codeAny (model prog w) A (.builtin "proto.collect" ⟨[.ref v], []⟩) R s := by
    intro R hR
    refine codeAny_builtin PySem.F.entry_proto_collect ?_
    rw [Around.under_plainId PySem.F.plain_proto_collect _]
    show wpAny _ A.in1 (newList [] >>= fun q => again (.builtin "list.__iadd__" ⟨[q, .ref v], []⟩)) _ _ s
    refine wpAny_bind (wpAny_newObj_type (wpAny_pure ⟨plainId_quiet PySem.F.plain_list_iadd _, codeAny_builtin PySem.F.entry_list_iadd ?_⟩))
    rw [Around.under_plainId PySem.F.plain_list_iadd _]
    show wpAny _ A.in1 (Builtin.List.listExtendWith (.ref s.heap.objs.size) (.ref v) (.ref s.heap.objs.size)) _ _ _
    refine ext { s with heap := s.heap.push { cls := .type "list", data := .seq ([] : List Value).toArray } } R s.heap.objs.size 0 (let ⟨o, e, x⟩ := hv; ⟨o, Heap.get?_push_of_some _ e, x⟩) (hd.keep fun o e => Heap.get?_push_of_some _ e) (Heap.get?_push_size _ rfl) (Nat.ne_of_gt vl) (Nat.ne_of_gt dl) fun h' c acc as q1 q2 q3 q4 q5 q6 => ?_
    refine hR h' c acc as (fun b o e => q1 b o (Nat.ne_of_lt (Heap.lt_size e)) (Heap.get?_push_of_some _ e)) q2 q3 q4 (fun a m => ?_) q6
    have := q5 a m
    rw [Heap.size_push] at this
    omega
  unfold collect
  refine wpAny_bind (wpAny_runValue (key _ fun h' c acc as q1 q2 q3 q4 q5 q6 => ?_))
  show wpAny _ A (load s.heap.objs.size >>= _) _ _ _
  refine wpAny_bind (wpAny_load q2 (wpAny_pure ?_))
  have := k h' as q1 q3 q4 q5
  rw [← q6] at this
  exact this
end
end L2

set_option Elab.async false
set_option linter.all false
set_option maxRecDepth 100000
set_option maxHeartbeats 1000000
namespace L2
open PySem PySem.Spec PyProof.Rows
/-- a pair of a tuple of ints and an int -/
def PrI (h : Heap) (v : Value) (u : List Int) (m : Int) : Prop := ∃ (a : Addr) (o : Obj) (ka : Value) (t : Tok) (n : Nat), v = .ref a ∧ h.get? a = some o ∧ o.cls = .type "tuple" ∧ o.data = .seq #[ka, .int m t] n ∧ TupI h ka u
def kfP (h : Heap) (v : Value) : List Int := match v with
  | .ref a => match h.get? a with
    | some o => match o.data with
      | .seq its _ => kfI h (its.getD 0 .none)
      | _ => []
    | none => []
  | _ => []
def kfM (h : Heap) (v : Value) : Int := match v with
  | .ref a => match h.get? a with
    | some o => match o.data with
      | .seq its _ => vInt (its.getD 1 .none)
      | _ => 0
    | none => 0
  | _ => 0
theorem PrI.kf {h : Heap} {v : Value} {u : List Int} {m : Int} (p : PrI h v u m) : kfP h v = u ∧ kfM h v = m := by
  obtain ⟨a, o, ka, t, n, rfl, e, c, d, x⟩ := p
  unfold kfP kfM
  dsimp only
  rw [e]
  dsimp only
  rw [d]
  exact ⟨x.kf, rfl⟩
theorem PrI.keep {h h' : Heap} {v : Value} {u : List Int} {m : Int} (p : PrI h v u m) (k : ∀ (b : Addr) (o : Obj), o.cls = .type "tuple" → h.get? b = some o → h'.get? b = some o) : PrI h' v u m := by
  obtain ⟨a, o, ka, t, n, rfl, e, c, d, x⟩ := p
  exact ⟨a, o, ka, t, n, rfl, k a o c e, c, d, x.keep' k⟩
theorem ints_items {P : Program} {w : World} : ∀ {vs : List Value} {u : List Int}, IntsAre vs u → ItemsAre (intKind P w) u vs
  | _, _, .nil => .nil
  | _, _, .cons n t h => .cons (intKind_is _ _ _ _) (ints_items h)
theorem lexB_lt : ∀ (u v : List Int), HT.lexLt u v = lexB u v
  | [], [] => rfl
  | [], _ :: _ => rfl
  | _ :: _, [] => rfl
  | a :: u, b :: v => by rw [HT.lexLt_cons, lexB_lt u v]; rfl
section
variable {prog : Program} {w : World} {A : Around} {E : Value → Shared → Prop} {s : Shared}
theorem lt_pairs {x y : Value} {u v : List Int} {m n : Int} {Q : Bool → Shared → Prop} (hu : A.units < cLine) (hx : PrI s.heap x u m) (hy : PrI s.heap y v n) (hm : u = v → m = n) (h : Q (lexB u v) s) : wpAny (model prog w) A (keyLt' (tuples' false) x y) Q E s := by
  obtain ⟨a, o, ka, t, z, rfl, e, c, d, tx⟩ := hx
  obtain ⟨a', o', ka', t', z', rfl, e', c', d', ty⟩ := hy
  obtain ⟨p, op, ip, np, rfl, g1, g2, g3, g4⟩ := tx
  obtain ⟨q, oq, iq, nq, rfl, k1, k2, k3, k4⟩ := ty
  refine PySem.W.kat_lt e d e' d' (PySem.W.kat_cons ?_)
  refine wpAny_eqBool_tuple (knd := intKind prog w) hu ⟨op, ip, np, g1, g2, g3, ints_items g4⟩ ⟨oq, iq, nq, k1, k2, k3, ints_items k4⟩ ?_
  by_cases z : u = v
  · rw [decide_eq_true z]
    refine PySem.W.kat_yes (PySem.W.kat_cons ((intKind prog w).eqBool (a := m) (b := n) (intKind_is _ _ _ _) (intKind_is _ _ _ _) ?_))
    rw [decide_eq_true (hm z)]
    refine PySem.W.kat_yes (PySem.W.kat_nil ?_)
    rw [z, lexB_irr] at h
    exact h
  · rw [decide_eq_false z]
    refine PySem.W.kat_no (PySem.W.kat_one _ _ ?_)
    refine HT.lt_tupInts (items := ip) (items2 := iq) ⟨op, g1, g2, np, g3⟩ ⟨oq, k1, k2, nq, k3⟩ g4 k4 hu ?_
    rw [lexB_lt]
    exact h
theorem kind_pairs {vs : List Value} (hv : ∀ v ∈ vs, ∃ u m, PrI s.heap v u m) (h1 : vs ≠ []) {Q : SortKind → Shared → Prop} (h : Q (tuples' false) s) : wpAny (model prog w) A (keyKind' vs.toArray) Q E s := by
  have key : ∀ vs : List Value, (∀ v ∈ vs, ∃ u m, PrI s.heap v u m) → ∃ fs : List Value, PySem.W.KatTups s.heap vs fs ∧ fs.length = vs.length ∧ ∀ f ∈ fs, ∃ u, TupI s.heap f u := by
    intro vs
    induction vs with
    | nil => exact fun _ => ⟨[], trivial, rfl, fun f m => by cases m⟩
    | cons v vs ih =>
      intro hv
      obtain ⟨fs, f1, f2, f3⟩ := ih fun z m => hv z (List.mem_cons_of_mem _ m)
      obtain ⟨u, m, a, o, ka, t, n, rfl, e, c, d, x⟩ := hv v List.mem_cons_self
      refine ⟨ka :: fs, ⟨⟨a, o, _, n, rfl, e, c, d, rfl⟩, f1⟩, by simp [f2], fun f q => ?_⟩
      rcases List.mem_cons.mp q with rfl | q
      · exact ⟨u, x⟩
      · exact f3 f q
  obtain ⟨fs, f1, f2, f3⟩ := key vs hv
  refine PySem.W.kat_kind (T := .type "tuple") f1 ?_ (fun v m => ?_) (by decide) h
  · cases vs with
    | nil => exact absurd rfl h1
    | cons _ _ => rw [f2]; simp
  · obtain ⟨u, a, o, its, n, rfl, e, c, _⟩ := f3 v m
    exact fun A Q E s k q => wpAny_typeOf (T := "tuple") ⟨o, k _ _ e, c⟩ q
theorem sort_pairs {a : Addr} {vs : List Value} {n : Nat} {P : Fin → Shared → Prop} (hu : A.units < cLine) (hb : s.heap.get? a = some (seqObj "list" vs.toArray n)) (h64 : vs.length < 64) (hv : ∀ v ∈ vs, ∃ u m, PrI s.heap v u m)
    (hm : ∀ v ∈ vs, ∀ v' ∈ vs, kfP s.heap v = kfP s.heap v' → kfM s.heap v = kfM s.heap v')
    (h : ∀ out : Array Value, out.toList.Perm vs → (out.toList.map (kfP s.heap)).Pairwise (fun x y => lexB y x = false) → P (.done (.ret .none)) { s with heap := sortedHeap s.heap a vs out }) : wpAny (model prog w) A (Builtin.«list.sort» ⟨[.ref a], []⟩) P E s := by
  have kt : ∀ h' : Heap, (∀ b o, b ≠ a → s.heap.get? b = some o → h'.get? b = some o) → ∀ v ∈ vs, ∃ u m, PrI h' v u m ∧ kfP s.heap v = u ∧ kfM s.heap v = m := fun h' k v q => by
    obtain ⟨u, m, t⟩ := hv v q
    exact ⟨u, m, t.keep (tup_keep hb rfl k), t.kf.1, t.kf.2⟩
  have mz : ∀ p, p ∈ (pairsOf vs).toList → p.1 = p.2 ∧ p.1 ∈ vs := fun p q => by rw [pairsOf_toList] at q; exact mem_zip_self q
  refine sort_gen (k0 := tuples' false) (rk := fun v => rnk (vs.map (kfP s.heap)) (kfP s.heap v)) hb h64 (fun h2 h' k E' Q' q => ?_) (fun h' k E' x y Q' hx hy q => ?_) fun xs pm up => ?_
  · refine kind_pairs (s := { s with heap := h' }) (fun v hv' => ?_) (fun z => by rw [z] at h2; simp at h2) q
    obtain ⟨u, m, t, _⟩ := kt h' k v hv'
    exact ⟨u, m, t⟩
  · obtain ⟨u, m, t, eu, em⟩ := kt h' k x.1 (mz x hx).2
    obtain ⟨u', m', t', eu', em'⟩ := kt h' k y.1 (mz y hy).2
    refine lt_pairs (s := { s with heap := h' }) hu t t' (fun z => ?_) ?_
    · rw [← em, ← em']
      exact hm _ (mz x hx).2 _ (mz y hy).2 (by rw [eu, eu', z])
    have m1 : kfP s.heap x.1 ∈ vs.map (kfP s.heap) := List.mem_map.mpr ⟨_, (mz x hx).2, rfl⟩
    have m2 : kfP s.heap y.1 ∈ vs.map (kfP s.heap) := List.mem_map.mpr ⟨_, (mz y hy).2, rfl⟩
    have e3 : lexB u u' = decide (rnk (vs.map (kfP s.heap)) (kfP s.heap x.1) < rnk (vs.map (kfP s.heap)) (kfP s.heap y.1)) := by rw [rnk_ok m1 m2, eu, eu']
    rw [e3]
    exact q
  · have pl : xs.toList.Perm (vs.zip vs) := by rw [← pairsOf_toList]; exact Array.perm_iff_toList_perm.mp pm
    have ps : (xs.map (·.2)).toList.Perm vs := by
      rw [Array.toList_map]
      have := pl.map (·.2)
      rw [List.map_snd_zip (Nat.le_refl _)] at this
      exact this
    refine h (xs.map (·.2)) ps ?_
    rw [List.pairwise_iff_getElem]
    intro i j hi hj ij
    have lx : (xs.map (·.2)).toList.length = xs.size := by rw [Array.length_toList, Array.size_map]
    rw [List.length_map, lx] at hi hj
    have hz : xs.size = (pairsOf vs).size := pm.size_eq
    have q := up i j (Nat.le_of_lt ij) (by omega)
    have mi : xs[i] ∈ (pairsOf vs).toList := (Array.perm_iff_toList_perm.mp pm).subset (Array.getElem_mem_toList hi)
    have mj : xs[j] ∈ (pairsOf vs).toList := (Array.perm_iff_toList_perm.mp pm).subset (Array.getElem_mem_toList hj)
    unfold RK at q
    rw [Array.getElem?_eq_getElem hi, Array.getElem?_eq_getElem hj] at q
    dsimp only at q
    have e := rnk_ok (ks := vs.map (kfP s.heap)) (x := kfP s.heap xs[j].1) (y := kfP s.heap xs[i].1) (List.mem_map.mpr ⟨_, (mz _ mj).2, rfl⟩) (List.mem_map.mpr ⟨_, (mz _ mi).2, rfl⟩)
    rw [decide_eq_false (by omega)] at e
    simp only [List.getElem_map, Array.getElem_toList, Array.getElem_map]
    rw [← (mz _ mi).1, ← (mz _ mj).1]
    exact e.symm
/-- sorted(d.items()), the keys tuples of ints, the values ints -/
theorem sorted_its {v d : Addr} {es : Array DictEntry} {ep : Nat} {Q : Value → Shared → Prop} (hu : A.in1.in1.units < cLine) (hh : A.handled = none) (hv : s.heap.IsItemsView v d) (hd : RawD s.heap d es ep) (h64 : es.size < 64) {ks : List (List Int × Int)} (hl : es.size = ks.length)
    (he : ∀ (j : Nat) (e : DictEntry) (k : List Int × Int), es[j]? = some e → ks[j]? = some k → TupI s.heap e.key k.1 ∧ ∃ t, e.val = .int k.2 t) (hn : (ks.map (·.1)).Nodup)
    (h : ∀ (out : Array Value) (ws : List (List Int × Int)) (h1 h' : Heap) (e : Nat), (∀ b ob, s.heap.get? b = some ob → h1.get? b = some ob) → (∀ b ob, h1.get? b = some ob → h'.get? b = some ob) → out.size = ws.length → (∀ (i : Nat) (v : Value) (u : List Int × Int), out[i]? = some v → ws[i]? = some u → ∃ (a ka : Addr) (t : Tok), v = .ref a ∧ s.heap.objs.size ≤ a ∧ h1.get? a = some { cls := .type "tuple", data := .seq #[.ref ka, .int u.2 t] } ∧ (∃ en ∈ es.toList, en.key = .ref ka) ∧ TupI s.heap (.ref ka) u.1) → ws.Perm ks → ws.Pairwise (fun x y => lexB y.1 x.1 = false) → h'.get? h1.objs.size = some (seqObj "list" out e) → Q (.ref h1.objs.size) { s with heap := h' }) :
    wpAny (model prog w) A (call (.builtin "sorted") [.ref v]) Q E s := by
  refine Calls.call_function_entry kind_sorted plain_sorted entry_sorted (args_sorted1 _) ?_
  unfold Builtin.«sorted»
  refine wpAny_bind (m := checkCount "sorted" 1 1 _) (wpAny_pure (wpAny_bind (collect_its (by simp [hh]) hv hd (Nat.le_of_lt (small1000 (by omega))) fun h1 as kp la pa na => ?_)))
  have PR : ∀ (j : Nat) (a : Addr) (k : List Int × Int), as[j]? = some a → ks[j]? = some k → PrI h1 (.ref a) k.1 k.2 ∧ ∃ (ka : Addr) (t : Tok), h1.get? a = some { cls := .type "tuple", data := .seq #[.ref ka, .int k.2 t] } ∧ (∃ en ∈ es.toList, en.key = .ref ka) ∧ TupI s.heap (.ref ka) k.1 := fun j a k e1 e2 => by
    obtain ⟨e, x1, x2⟩ := pa j a e1
    obtain ⟨y1, t, y2⟩ := he j e k x1 e2
    rw [y2] at x2
    refine ⟨⟨a, _, e.key, t, _, rfl, x2, rfl, rfl, y1.keep' fun b o _ q => kp b o q⟩, ?_⟩
    have y1' := y1
    obtain ⟨ka, o, its, n, ek, _⟩ := y1'
    rw [ek] at x2 y1
    exact ⟨ka, t, x2, ⟨e, by rw [← Array.getElem?_toList] at x1; exact List.mem_of_getElem? x1, ek⟩, y1⟩
  have lz : as.length = ks.length := by omega
  refine wpAny_bind (wpAny_newList ?_)
  have hoL : (h1.push { cls := .type "list", data := .seq (as.map Value.ref).toArray }).get? h1.objs.size = some (seqObj "list" (as.map Value.ref).toArray 0) := Heap.get?_push_size _ rfl
  have kp2 : ∀ (b : Addr) (o : Obj), o.cls = .type "tuple" → h1.get? b = some o → (h1.push { cls := .type "list", data := .seq (as.map Value.ref).toArray }).get? b = some o := fun b o _ e => Heap.get?_push_of_some _ e
  have at_ : ∀ v ∈ as.map Value.ref, ∃ (j : Nat) (a : Addr) (k : List Int × Int), v = .ref a ∧ as[j]? = some a ∧ ks[j]? = some k := fun v m => by
    obtain ⟨a, ma, rfl⟩ := List.mem_map.mp m
    obtain ⟨j, hj⟩ := List.mem_iff_getElem?.mp ma
    have jl := (List.getElem?_eq_some_iff.mp hj).1
    exact ⟨j, a, ks[j], rfl, hj, List.getElem?_eq_getElem (by omega)⟩
  refine wpAny_bind (wpAny_holding (wpAny_call_entry slot_list_sort ⟨_, hoL, rfl⟩ entry_list_sort (sort_pairs (s := { s with heap := h1.push { cls := .type "list", data := .seq (as.map Value.ref).toArray } }) ?_ hoL (by rw [List.length_map]; omega) (fun v q => ?_) (fun v q v' q' ev => ?_) fun out po so => ⟨_, rfl, ?_⟩) (args_list_sort _)))
  · exact hu
  · obtain ⟨j, a, k, rfl, e1, e2⟩ := at_ v q
    exact ⟨_, _, (PR j a k e1 e2).1.keep kp2⟩
  · obtain ⟨j, a, k, rfl, e1, e2⟩ := at_ v q
    obtain ⟨j', a', k', rfl, e1', e2'⟩ := at_ v' q'
    have p1 := ((PR j a k e1 e2).1.keep kp2).kf
    have p2 := ((PR j' a' k' e1' e2').1.keep kp2).kf
    dsimp only at ev ⊢
    rw [p1.1, p2.1] at ev
    rw [p1.2, p2.2]
    have jj : j = j' := by
      have l1 : (ks.map (·.1))[j]? = some k.1 := by rw [List.getElem?_map, e2]; rfl
      have l2 : (ks.map (·.1))[j']? = some k.1 := by rw [List.getElem?_map, e2', ev]; rfl
      obtain ⟨b1, c1⟩ := List.getElem?_eq_some_iff.mp l1
      obtain ⟨b2, c2⟩ := List.getElem?_eq_some_iff.mp l2
      exact (List.getElem_inj hn).mp (c1.trans c2.symm)
    subst jj
    rw [e2] at e2'
    cases e2'
    rfl
  · obtain ⟨e, hE⟩ := sortedHeap_at (out := out) hoL
    generalize hH : h1.push { cls := .type "list", data := .seq (as.map Value.ref).toArray } = H1 at *
    have kf : ∀ (j : Nat) (a : Addr) (k : List Int × Int), as[j]? = some a → ks[j]? = some k → (kfP H1 (.ref a), kfM H1 (.ref a)) = k := fun j a k e1 e2 => by
      have p1 := ((PR j a k e1 e2).1.keep kp2).kf
      rw [p1.1, p1.2]
    have ek : (as.map Value.ref).map (fun v => (kfP H1 v, kfM H1 v)) = ks := by
      apply List.ext_getElem?
      intro i
      rw [List.getElem?_map, List.getElem?_map]
      by_cases z : i < as.length
      · have e1 : as[i]? = some as[i] := List.getElem?_eq_getElem z
        have e2 : ks[i]? = some ks[i] := List.getElem?_eq_getElem (by omega)
        rw [e1, e2]
        show some (kfP H1 (.ref as[i]), kfM H1 (.ref as[i])) = _
        rw [kf i _ _ e1 e2]
      · rw [List.getElem?_eq_none (by omega), List.getElem?_eq_none (by omega)]
        rfl
    refine wpAny_pure ⟨_, rfl, h out (out.toList.map (fun v => (kfP H1 v, kfM H1 v))) h1 _ e kp (fun b ob z => ?_) (by rw [List.length_map, Array.length_toList]) (fun i v u h3 h4 => ?_) ?_ ?_ hE⟩
    · have hlt : b < h1.objs.size := Heap.lt_size z
      have hlt2 : b < H1.objs.size := by rw [← hH, Heap.size_push]; exact Nat.lt_succ_of_lt hlt
      rw [sortedHeap_old (Nat.ne_of_lt hlt) hlt2]
      rw [← hH]
      exact Heap.get?_push_of_some _ z
    · rw [List.getElem?_map, Array.getElem?_toList, h3] at h4
      cases h4
      have mv : v ∈ as.map Value.ref := po.mem_iff.mp (by rw [← Array.getElem?_toList] at h3; exact List.mem_of_getElem? h3)
      obtain ⟨j, a, k, rfl, e1, e2⟩ := at_ v mv
      obtain ⟨ka, t, y1, y2, y3⟩ := (PR j a k e1 e2).2
      have := kf j a k e1 e2
      have k1 : kfP H1 (.ref a) = k.1 := congrArg Prod.fst this
      have k2 : kfM H1 (.ref a) = k.2 := congrArg Prod.snd this
      dsimp only
      rw [k1, k2]
      exact ⟨a, ka, t, rfl, na a (List.mem_of_getElem? e1), y1, y2, y3⟩
    · have p1 := po.map (fun v => (kfP H1 v, kfM H1 v))
      rw [ek] at p1
      exact p1
    · rw [List.pairwise_map] at so ⊢
      exact so
end
end L2

set_option Elab.async false
set_option linter.all false
set_option maxRecDepth 100000
set_option maxHeartbeats 1000000
namespace L2
open PySem PySem.Spec PyProof.Rows
/-- the items of the dict at d, seen at v -/
def IView (v d : Addr) : Heap → Prop := fun h => h.IsItemsView v d
/-- a list of pairs of a tuple of ints and an int -/
def PrL (H : Hp) (xs : List V) (us : List (List Int × Int)) : Prop := xs.length = us.length ∧ ∀ (i : Nat) (x : V) (u : List Int × Int), xs[i]? = some x → us[i]? = some u → ∃ a b : Addr, x = .ref a ∧ H a = some (.tup [.ref b, .int u.2]) ∧ H b = some (.tup (u.1.map V.int))
theorem meets_its (prog : Program) (w : World) (d : Addr) (hd : (d == sysModules) = false) : MeetsIn prog w (Builtin.«dict.items» ⟨[.ref d], []⟩) (fun _ R s => s.TypeIs (.ref d) "dict" ∧ R (.ok (.ret (.ref s.heap.objs.size))) { s with heap := s.heap.push { cls := .type "dict_items", data := .fields #[.ref d] } }) :=
  .of_wp fun A R s ⟨ty, h⟩ => by
    unfold Builtin.«dict.items» Builtin.Dict.noArgs
    refine wpAny_bind (wpAny_bind (wpAny_notOrdered_dict ty ?_))
    show wpAny _ _ (pure d) _ _ s
    refine wpAny_pure ?_
    show wpAny _ _ (Builtin.Dict.showsAll d >>= _) _ _ s
    unfold Builtin.Dict.showsAll
    rw [if_neg (by rw [hd]; decide)]
    exact wpAny_bind (wpAny_pure (wpAny_bind (wpAny_newObj_type (wpAny_pure ⟨_, rfl, h⟩))))
theorem paired_at {α β : Type} {F : α → β → Prop} {l1 : List α} {l2 : List β} (p : Paired F l1 l2) : l1.length = l2.length ∧ ∀ (j : Nat) (a : α) (b : β), l1[j]? = some a → l2[j]? = some b → F a b := by
  induction p with
  | nil => exact ⟨rfl, fun j a b e => by cases e⟩
  | cons h t ih =>
    refine ⟨by simp [ih.1], fun j a b e1 e2 => ?_⟩
    cases j with
    | zero => cases e1; cases e2; exact h
    | succ j => exact ih.2 j a b (by simpa using e1) (by simpa using e2)
/-- the pair at b -/
def cont (h : Heap) (b : Addr) : Option HO := match h.get? b with
  | some o => match o.data with
    | .seq its _ => match its.toList with
      | [.ref ka, .int m _] => some (.tup [.ref ka, .int m])
      | _ => none
    | _ => none
  | none => none
def adr : Value → Addr
  | .ref a => a
  | _ => 0
def withPairs (H : Hp) (h : Heap) (l : Addr) (al : List Addr) : Hp := fun b => match H b with
  | some o => some o
  | none => if b = l then some (.lst (al.map V.ref)) else if b ∈ al then cont h b else none
/-- many new objects at once -/
theorem Inv.more {X : Cx} {pins : List (Addr × Obj)} {σ : List (Option V)} {H H' : Hp} {s : Shared} {h' : Heap} {t' : Nat} (I : Inv X pins σ H s) (k : ∀ b u, s.heap.get? b = some u → h'.get? b = some u) (old : ∀ b o, H b = some o → H' b = some o) (new : ∀ b o, H b = none → H' b = some o → s.heap.get? b = none ∧ ObjOk X.prog X.w H' h' b o) : Inv X pins σ H' { s with heap := h', toks := t' } := by
  refine I.un ⟨fun b u q _ _ _ => k b u q, fun b u q _ _ _ => ⟨u.slots, k b u q⟩, fun b u q n _ => ?_, fun b u q _ => ⟨u, k b u q⟩, fun b xs q => old b _ q, fun b u xs q => old b _ q, fun b ps q => ⟨#[], by rw [old b _ q]; simp⟩⟩ fun b o e => ?_
  · cases z : H' b with
    | none => rfl
    | some o => rw [(new b o n z).1] at q; cases q
  · cases z : H b with
    | none => exact (new b o z e).2
    | some o' =>
      have := old b o' z
      rw [e] at this
      cases this
      exact (I.hok b o z).stay (fun c v _ q => k c v q) (fun c q => old c _ q) fun c xs q => old c _ q
section
variable {X : Cx}
def tDItems (td : TE) : TE := fun σ H Q => td σ H fun x H1 => ∃ d kvs, x = .ref d ∧ H1 d = some (.dT kvs) ∧ ∀ v, H1 v = none → Q (.ref v) (upd H1 v (.ext (IView v d)))
theorem pe_ditems {o : Expr} {td : TE} {apos cpos : PySem.Pos} (ho : PE X o td) (hbase : attributeBase o "items" X.env (eval o X.env) = eval o X.env := by rfl) (hline : (apos.endLine == cpos.line) = true := by rfl) : PE X (.Call (.Attribute o "items" apos) [] [] cpos) (tDItems td) := by
  intro pins s σ H Q I h
  refine wpAny_Call_method0_late hbase hline (thn (ho pins s σ H _ I h) fun u s1 ⟨x, H1, I1, rx, d, kvs, ex, hd, q⟩ => ?_)
  subst ex
  cases rx
  obtain ⟨t1, t2, t3⟩ := isD_at I1 (.inr ⟨kvs, .inl hd⟩)
  refine ⟨"dict", "dict.items", PySem.F.plainAttrs_dict, PySem.F.slot_dict_items, PySem.F.type_dict_items, t1, t2, Calls.callWith_builtin rfl (PySem.evalArgs_none ?_)⟩
  refine call_meetsIn PySem.F.slot_dict_items t1 PySem.F.entry_dict_items (PySem.F.args_dict_items_1 _) (meets_its X.prog X.w d t3) ⟨t1, ?_⟩
  have g : (s1.heap.push { cls := .type "dict_items", data := .fields #[.ref d] }).get? s1.heap.objs.size = some { cls := .type "dict_items", data := .fields #[.ref d] } := Heap.get?_push_size _ rfl
  exact ⟨.ref s1.heap.objs.size, _, I1.laid (t' := s1.toks) (o := .ext (IView s1.heap.objs.size d)) (fun b o e => Heap.get?_push_of_some _ e) (Nat.le_refl _) ⟨⟨_, g, rfl, rfl⟩, ⟨_, g⟩, fun h1 h2 ⟨ob, e, c⟩ k => ⟨ob, k ob e, c⟩⟩, rfl, q _ (I1.hok.fresh (Nat.le_refl _))⟩
/-- sorted(d.items()) -/
theorem call_sortedI {k : Nat} (hr : Room k X.A) : CallR X (.builtin "sorted") (fun xs H Q => ∃ (v d : Addr) (ks : List (List Int × Int)), xs = [.ref v] ∧ H v = some (.ext (IView v d)) ∧ H d = some (.dT (ks.map fun k => (k.1.map Sum.inl, V.int k.2))) ∧ ks.length < 64 ∧
    ∀ (l : Addr) (ps : List V) (ws : List (List Int × Int)) (H' : Hp), H l = none → (∀ b o, H b = some o → H' b = some o) → H' l = some (.lst ps) → PrL H' ps ws → ws.Perm ks → ws.Pairwise (fun x y => lexB y.1 x.1 = false) → Q (.ref l) H') := by
  intro pins s σ H xs us Q I r h
  obtain ⟨v, d, ks, rfl, hv, hd, h64, q⟩ := h
  obtain ⟨u, rfl, rx⟩ := vals1 r
  cases rx
  obtain ⟨iv, _, _⟩ := (show ObjOk X.prog X.w H s.heap v (.ext (IView v d)) from I.hok v _ hv)
  obtain ⟨_, hsys, xs, rel, o, es, ep, ho, hx, hdat, hes, hn⟩ := (show ObjOk X.prog X.w H s.heap d (.dT _) from I.hok d _ hd)
  obtain ⟨rl, ra⟩ := paired_at rel
  rw [List.length_map] at rl
  have row : ∀ (j : Nat) (e : DictEntry) (k : List Int × Int), es[j]? = some e → ks[j]? = some k → ∃ (ka : Addr) (t : Tok), e.key = .ref ka ∧ e.val = .int k.2 t ∧ H ka = some (.tup (k.1.map V.int)) := fun j e k e1 e2 => by
    rw [← Array.getElem?_toList, hes, List.getElem?_map] at e1
    cases z : xs[j]? with
    | none => rw [z] at e1; cases e1
    | some x =>
      rw [z] at e1
      cases e1
      have g := ra j _ x (by rw [List.getElem?_map, e2]; rfl) z
      obtain ⟨g1, g2, g3⟩ := g
      have g3 : RelV (V.int k.2) x.2.2 := g3
      obtain ⟨t, g4⟩ := g3
      refine ⟨x.2.1, t, rfl, g4, ?_⟩
      have g2 : H x.2.1 = some (.tup ((k.1.map Sum.inl).map kV)) := g2
      rw [List.map_map] at g2
      exact g2
  have tupI : ∀ (ka : Addr) (u : List Int), H ka = some (.tup (u.map V.int)) → TupI s.heap (.ref ka) u := fun ka u g => by
    obtain ⟨_, its, rv, o, e, c, n, dd⟩ := (show ObjOk X.prog X.w H s.heap ka (.tup (u.map V.int)) from I.hok ka _ g)
    exact ⟨ka, o, its.toArray, n, rfl, e, c, dd, by rw [List.toList_toArray]; exact intsAre_of rv⟩
  have sz : es.size = ks.length := by rw [← Array.length_toList, hes, List.length_map, ← rl]
  have nd : (ks.map (·.1)).Nodup := by
    have e : xs.map (·.1) = (ks.map (·.1)).map (fun u => u.map Sum.inl) := by
      apply List.ext_getElem?
      intro j
      rw [List.getElem?_map, List.map_map, List.getElem?_map]
      cases z : xs[j]? with
      | none => rw [List.getElem?_eq_none (by have := List.getElem?_eq_none_iff.mp z; omega)]; rfl
      | some x =>
        have jl := (List.getElem?_eq_some_iff.mp z).1
        have e2 : ks[j]? = some ks[j] := List.getElem?_eq_getElem (by omega)
        have g := ra j _ x (by rw [List.getElem?_map, e2]; rfl) z
        rw [e2]
        show some x.1 = some _
        rw [← g.1]
        rfl
    rw [e] at hn
    exact (List.pairwise_map.mp hn).imp fun h e => h (by rw [e])
  have hu : X.A.in1.in1.units < cLine := by
    have := hr.un
    show X.A.units + 1 + 1 < cLine
    omega
  refine sorted_its (ks := ks) hu hr.hd iv ⟨o, ho, hx, hdat⟩ (by omega) sz (fun j e k e1 e2 => ?_) nd fun out ws h1 h' e kp kp2 lo hout pm sr hl => ?_
  · obtain ⟨ka, t, g1, g2, g3⟩ := row j e k e1 e2
    rw [g1]
    exact ⟨tupI _ _ g3, t, g2⟩
  · have hw : ∀ (i : Nat) (v : Value) (u : List Int × Int), out[i]? = some v → ws[i]? = some u → ∃ (a ka : Addr) (t : Tok), v = .ref a ∧ s.heap.objs.size ≤ a ∧ h1.get? a = some { cls := .type "tuple", data := .seq #[.ref ka, .int u.2 t] } ∧ H ka = some (.tup (u.1.map V.int)) := fun i v u e1 e2 => by
      obtain ⟨a, ka, t, x1, x2, x3, ⟨en, x4, x5⟩, x6⟩ := hout i v u e1 e2
      obtain ⟨j, hj⟩ := List.mem_iff_getElem?.mp x4
      rw [Array.getElem?_toList] at hj
      have jl := (Array.getElem?_eq_some_iff.mp hj).1
      have kj : ks[j]? = some ks[j] := List.getElem?_eq_getElem (by omega)
      obtain ⟨ka', t', y1, y2, y3⟩ := row j en _ hj kj
      rw [x5] at y1
      cases y1
      have := x6.kf.symm.trans (tupI _ _ y3).kf
      rw [← this] at y3
      exact ⟨a, ka, t, x1, x2, x3, y3⟩
    have fresh : ∀ a, s.heap.objs.size ≤ a → H a = none := fun a q => I.hok.fresh q
    have I1 : Inv X pins σ H { s with heap := h1 } := I.kept (t' := s.toks) kp
    have fl : H h1.objs.size = none := I1.hok.fresh (Nat.le_refl _)
    have gone : ∀ a, s.heap.objs.size ≤ a → s.heap.get? a = none := fun a q => by
      cases z : s.heap.get? a with
      | none => rfl
      | some o => exact absurd (Heap.lt_size z) (Nat.not_lt.mpr q)
    have gl : s.heap.get? h1.objs.size = none := by
      cases z : s.heap.get? h1.objs.size with
      | none => rfl
      | some o => exact absurd (Heap.lt_size (kp _ _ z)) (Nat.lt_irrefl _)
    have atI : ∀ a ∈ out.toList.map adr, ∃ (ka : Addr) (t : Tok) (u : List Int × Int), s.heap.objs.size ≤ a ∧ h1.get? a = some { cls := .type "tuple", data := .seq #[.ref ka, .int u.2 t] } ∧ H ka = some (.tup (u.1.map V.int)) := fun a m => by
      obtain ⟨v, mv, ev⟩ := List.mem_map.mp m
      obtain ⟨i, hi⟩ := List.mem_iff_getElem?.mp mv
      rw [Array.getElem?_toList] at hi
      have il := (Array.getElem?_eq_some_iff.mp hi).1
      obtain ⟨a', ka, t, x1, x2, x3, x4⟩ := hw i v _ hi (List.getElem?_eq_getElem (by omega))
      rw [x1] at ev
      have ev : a' = a := ev
      subst ev
      exact ⟨ka, t, _, x2, x3, x4⟩
    have ct : ∀ (a ka : Addr) (m : Int) (t : Tok), h1.get? a = some { cls := .type "tuple", data := .seq #[.ref ka, .int m t] } → cont h1 a = some (.tup [.ref ka, .int m]) := fun a ka m t g => by
      unfold cont
      rw [g]
    have wp : ∀ (a ka : Addr) (m : Int) (t : Tok), a ∈ out.toList.map adr → s.heap.objs.size ≤ a → h1.get? a = some { cls := .type "tuple", data := .seq #[.ref ka, .int m t] } → withPairs H h1 h1.objs.size (out.toList.map adr) a = some (.tup [.ref ka, .int m]) := fun a ka m t ma sa g => by
      unfold withPairs
      rw [fresh a sa]
      dsimp only
      rw [if_neg (Nat.ne_of_lt (Heap.lt_size g)), if_pos ma, ct a ka m t g]
    have old : ∀ b o, H b = some o → withPairs H h1 h1.objs.size (out.toList.map adr) b = some o := fun b o q => by
      unfold withPairs
      rw [q]
    have wl : withPairs H h1 h1.objs.size (out.toList.map adr) h1.objs.size = some (.lst ((out.toList.map adr).map V.ref)) := by
      unfold withPairs
      rw [fl]
      dsimp only
      rw [if_pos rfl]
    have o64 : out.size ≤ 63 := by rw [lo, pm.length_eq]; omega
    have I2 : Inv X pins σ (withPairs H h1 h1.objs.size (out.toList.map adr)) { s with heap := h', toks := s.toks } := by
      refine Inv.more I (fun b u z => kp2 b u (kp b u z)) old fun b ob nb hb => ?_
      have hb' := hb
      unfold withPairs at hb'
      rw [nb] at hb'
      dsimp only at hb'
      by_cases zl : b = h1.objs.size
      · subst zl
        rw [if_pos rfl] at hb'
        cases hb'
        refine ⟨gl, ?_, out.toList, e, ?_, ?_⟩
        · rw [List.length_map, List.length_map, Array.length_toList]
          exact Nat.le_of_lt (small1000 (by omega))
        · have vr : ∀ l : List Value, (∀ v ∈ l, ∃ a, v = Value.ref a) → Vals ((l.map adr).map V.ref) l := by
            intro l
            induction l with
            | nil => exact fun _ => .nil
            | cons v l ih =>
              intro hl
              obtain ⟨a, rfl⟩ := hl v List.mem_cons_self
              exact .cons rfl (ih fun z m => hl z (List.mem_cons_of_mem _ m))
          refine vr _ fun v mv => ?_
          obtain ⟨i, hi⟩ := List.mem_iff_getElem?.mp mv
          rw [Array.getElem?_toList] at hi
          have il := (Array.getElem?_eq_some_iff.mp hi).1
          obtain ⟨a', ka, t, x1, _⟩ := hw i v _ hi (List.getElem?_eq_getElem (by omega))
          exact ⟨a', x1⟩
        · rw [hl]
      · rw [if_neg zl] at hb'
        by_cases zm : b ∈ out.toList.map adr
        · rw [if_pos zm] at hb'
          obtain ⟨ka, t, u, x1, x2, x3⟩ := atI b zm
          rw [ct b ka _ t x2] at hb'
          cases hb'
          exact ⟨gone b x1, (by show 2 ≤ sizeLine; decide), [.ref ka, .int u.2 t], .cons rfl (.cons ⟨t, rfl⟩ .nil), _, kp2 _ _ x2, rfl, _, rfl⟩
        · rw [if_neg zm] at hb'
          cases hb'
    refine ⟨.ref h1.objs.size, _, I2, rfl, q _ _ ws _ fl old wl ⟨?_, fun i x u e1 e2 => ?_⟩ pm sr⟩
    · rw [List.length_map, List.length_map, Array.length_toList, lo]
    · rw [List.getElem?_map, List.getElem?_map, Array.getElem?_toList] at e1
      cases z : out[i]? with
      | none => rw [z] at e1; cases e1
      | some v =>
        rw [z] at e1
        obtain ⟨a, ka, t, x1, x2, x3, x4⟩ := hw i v u z e2
        subst x1
        cases e1
        refine ⟨a, ka, rfl, wp a ka _ t ?_ x2 x3, old _ _ x4⟩
        rw [← Array.getElem?_toList] at z
        exact List.mem_map.mpr ⟨_, List.mem_of_getElem? z, rfl⟩
end
end L2

set_option Elab.async false
set_option linter.all false
set_option maxRecDepth 100000
set_option maxHeartbeats 1000000
namespace L2
open PySem PySem.Spec PyProof.Rows
theorem lex_uniL : ∀ {a b : List (List Int)}, a.Perm b → a.Pairwise (fun x y => lexB y x = false) → b.Pairwise (fun x y => lexB y x = false) → a = b
  | [], b, p, _, _ => p.nil_eq
  | x :: a, [], p, _, _ => absurd p.length_eq (by simp)
  | x :: a, y :: b, p, h1, h2 => by
    obtain ⟨u1, u2⟩ := List.pairwise_cons.mp h1
    obtain ⟨v1, v2⟩ := List.pairwise_cons.mp h2
    have e : x = y := by
      have m1 : x ∈ y :: b := p.subset List.mem_cons_self
      have m2 : y ∈ x :: a := p.symm.subset List.mem_cons_self
      rcases List.mem_cons.mp m1 with q | q
      · exact q
      rcases List.mem_cons.mp m2 with r | r
      · exact r.symm
      exact lexB_tot (v1 x q) (u1 y r)
    subst e
    rw [lex_uniL p.cons_inv u2 v2]
/-- a dict by tuples of ints -/
def putI (ks : List (List Int × Int)) (u : List Int) (z : Int) : List (List Int × Int) := if (ks.any fun k => decide (k.1 = u)) = true then ks.map fun k => if k.1 = u then (k.1, z) else k else ks ++ [(u, z)]
def getI (ks : List (List Int × Int)) (u : List Int) : Int := ((ks.find? fun k => decide (k.1 = u)).map (·.2)).getD 0
def emb (k : List Int × Int) : List Key × V := (k.1.map Sum.inl, V.int k.2)
theorem inlM : ∀ {u v : List Int}, u.map (Sum.inl : Int → Key) = v.map Sum.inl → u = v
  | [], [], _ => rfl
  | [], _ :: _, h => by cases h
  | _ :: _, [], h => by cases h
  | a :: u, b :: v, h => by
    rw [List.map_cons, List.map_cons] at h
    obtain ⟨h1, h2⟩ := List.cons.inj h
    rw [inlM h2, Sum.inl.inj h1]
theorem emb_key (k : List Int × Int) (u : List Int) : decide ((emb k).1 = u.map Sum.inl) = decide (k.1 = u) := by
  by_cases h : k.1 = u
  · rw [decide_eq_true h]; exact decide_eq_true (by unfold emb; rw [h])
  · rw [decide_eq_false h]; exact decide_eq_false fun q => h (inlM q)
theorem any_emb (ks : List (List Int × Int)) (u : List Int) : ((ks.map emb).any fun k => decide (k.1 = u.map Sum.inl)) = ks.any fun k => decide (k.1 = u) := by
  induction ks with
  | nil => rfl
  | cons k ks ih => rw [List.map_cons, List.any_cons, List.any_cons, ih, emb_key]
theorem put_emb (ks : List (List Int × Int)) (u : List Int) (z : Int) : putK (ks.map emb) (u.map Sum.inl) (V.int z) = (putI ks u z).map emb := by
  unfold putK putI
  rw [any_emb]
  by_cases h : (ks.any fun k => decide (k.1 = u)) = true
  · rw [if_pos h, if_pos h, List.map_map, List.map_map]
    refine List.map_congr_left fun k _ => ?_
    show (if (emb k).1 = u.map Sum.inl then ((emb k).1, V.int z) else emb k) = emb (if k.1 = u then (k.1, z) else k)
    have e := emb_key k u
    by_cases q : k.1 = u
    · rw [if_pos q, if_pos (of_decide_eq_true (by rw [e]; exact decide_eq_true q))]; rfl
    · rw [if_neg q, if_neg (of_decide_eq_false (by rw [e]; exact decide_eq_false q))]
  · rw [if_neg h, if_neg h, List.map_append]; rfl
theorem val_emb (ks : List (List Int × Int)) (u : List Int) : (valV (ks.map emb) (u.map Sum.inl)).getD (.int 0) = V.int (getI ks u) := by
  induction ks with
  | nil => rfl
  | cons k ks ih =>
    rw [List.map_cons]
    have e := emb_key k u
    unfold getI
    rw [List.find?_cons]
    by_cases q : k.1 = u
    · rw [decide_eq_true q]
      rw [valV_pos (of_decide_eq_true (by rw [e]; exact decide_eq_true q))]
      rfl
    · rw [decide_eq_false q]
      rw [valV_neg (of_decide_eq_false (by rw [e]; exact decide_eq_false q))]
      exact ih
theorem putI_len (ks : List (List Int × Int)) (u : List Int) (z : Int) : (putI ks u z).length ≤ ks.length + 1 := by
  unfold putI
  split
  · rw [List.length_map]; omega
  · rw [List.length_append]; exact Nat.le_refl _
/-- all of these weights -/
def totU (W : List (Int × List Int)) (u : List Int) : Int := ((W.filter fun e => decide (e.2 = u)).map (·.1)).sum
theorem totU_snoc (W : List (Int × List Int)) (e : Int × List Int) (u : List Int) : totU (W ++ [e]) u = totU W u + if e.2 = u then e.1 else 0 := by
  unfold totU
  rw [List.filter_append, List.map_append, List.sum_append]
  by_cases h : e.2 = u
  · rw [if_pos h]; simp [h]
  · rw [if_neg h]; simp [h]
theorem totU_none {W : List (Int × List Int)} {u : List Int} (h : u ∉ W.map (·.2)) : totU W u = 0 := by
  unfold totU
  have : W.filter (fun e => decide (e.2 = u)) = [] := List.filter_eq_nil_iff.mpr fun e he => by
    intro q
    exact h (List.mem_map.mpr ⟨e, he, of_decide_eq_true q⟩)
  rw [this]
  rfl
theorem totU_rev (W : List (Int × List Int)) (u : List Int) : totU W.reverse u = totU W u := by
  unfold totU
  have p : ((W.reverse.filter fun e => decide (e.2 = u)).map (·.1)).Perm ((W.filter fun e => decide (e.2 = u)).map (·.1)) := ((List.reverse_perm W).filter _).map _
  generalize (W.reverse.filter fun e => decide (e.2 = u)).map (·.1) = a at p ⊢
  generalize (W.filter fun e => decide (e.2 = u)).map (·.1) = b at p ⊢
  induction p with
  | nil => rfl
  | cons x _ ih => simp only [List.sum_cons, ih]
  | swap x y l => simp only [List.sum_cons]; omega
  | trans _ _ i1 i2 => exact i1.trans i2
structure DIs (W : List (Int × List Int)) (ks : List (List Int × Int)) : Prop where
  nd : (ks.map (·.1)).Nodup
  mem : ∀ u, u ∈ ks.map (·.1) ↔ u ∈ W.map (·.2)
  val : ∀ k ∈ ks, k.2 = totU W k.1
  len : ks.length ≤ W.length
theorem DIs.nil : DIs [] [] := ⟨List.Pairwise.nil, fun u => Iff.rfl, fun k h => (by cases h), Nat.le_refl _⟩
theorem DIs.get {W : List (Int × List Int)} {ks : List (List Int × Int)} (d : DIs W ks) (u : List Int) : getI ks u = totU W u := by
  unfold getI
  cases h : ks.find? fun k => decide (k.1 = u) with
  | none =>
    rw [totU_none]
    · rfl
    · intro q
      obtain ⟨k, hk, e⟩ := List.mem_map.mp ((d.mem u).mpr q)
      have := List.find?_eq_none.mp h k hk
      exact this (decide_eq_true e)
  | some k =>
    have e := List.find?_some h
    have m := List.mem_of_find?_eq_some h
    have e : k.1 = u := of_decide_eq_true e
    show k.2 = _
    rw [d.val k m, e]
theorem DIs.put {W : List (Int × List Int)} {ks : List (List Int × Int)} (d : DIs W ks) (e : Int × List Int) : DIs (W ++ [e]) (putI ks e.2 (getI ks e.2 + e.1)) := by
  have gt := d.get e.2
  have mk : (ks.any fun k => decide (k.1 = e.2)) = true ↔ e.2 ∈ ks.map (·.1) := by
    rw [List.any_eq_true, List.mem_map]
    constructor
    · rintro ⟨k, hk, q⟩; exact ⟨k, hk, of_decide_eq_true q⟩
    · rintro ⟨k, hk, q⟩; exact ⟨k, hk, decide_eq_true q⟩
  refine ⟨?_, fun u => ?_, fun k hk => ?_, ?_⟩
  · unfold putI
    by_cases h : (ks.any fun k => decide (k.1 = e.2)) = true
    · rw [if_pos h, List.map_map]
      have : (fun k : List Int × Int => k.1) ∘ (fun k => if k.1 = e.2 then (k.1, getI ks e.2 + e.1) else k) = fun k => k.1 := by
        funext k
        show (if k.1 = e.2 then (k.1, getI ks e.2 + e.1) else k).1 = k.1
        split <;> rfl
      rw [this]
      exact d.nd
    · rw [if_neg h, List.map_append]
      refine List.nodup_append.mpr ⟨d.nd, by simp, fun a ha b hb => ?_⟩
      have hb : b = e.2 := by simpa using hb
      rintro rfl
      exact h (mk.mpr (hb ▸ ha))
  · rw [List.map_append, List.mem_append]
    have : u ∈ (putI ks e.2 (getI ks e.2 + e.1)).map (·.1) ↔ u ∈ ks.map (·.1) ∨ u = e.2 := by
      unfold putI
      by_cases h : (ks.any fun k => decide (k.1 = e.2)) = true
      · rw [if_pos h, List.map_map]
        have q : (fun k : List Int × Int => k.1) ∘ (fun k => if k.1 = e.2 then (k.1, getI ks e.2 + e.1) else k) = fun k => k.1 := by
          funext k
          show (if k.1 = e.2 then (k.1, getI ks e.2 + e.1) else k).1 = k.1
          split <;> rfl
        rw [q]
        constructor
        · exact .inl
        · rintro (z | z)
          · exact z
          · rw [z]; exact mk.mp h
      · rw [if_neg h, List.map_append, List.mem_append]
        simp
    rw [this, d.mem u]
    simp
  · rw [totU_snoc]
    unfold putI at hk
    by_cases h : (ks.any fun k => decide (k.1 = e.2)) = true
    · rw [if_pos h] at hk
      obtain ⟨k', hk', rfl⟩ := List.mem_map.mp hk
      by_cases q : k'.1 = e.2
      · rw [if_pos q]
        show getI ks e.2 + e.1 = totU W k'.1 + if e.2 = k'.1 then e.1 else 0
        rw [if_pos q.symm, gt, q]
      · rw [if_neg q, if_neg (fun z => q z.symm), Int.add_zero]
        exact d.val k' hk'
    · rw [if_neg h] at hk
      rcases List.mem_append.mp hk with hk | hk
      · rw [if_neg, Int.add_zero]
        · exact d.val k hk
        · intro z
          exact h (mk.mpr (List.mem_map.mpr ⟨k, hk, z.symm⟩))
      · rw [List.mem_singleton.mp hk]
        show getI ks e.2 + e.1 = _
        rw [if_pos rfl, gt]
  · have := putI_len ks e.2 (getI ks e.2 + e.1)
    have := d.len
    rw [List.length_append]
    simp only [List.length_cons, List.length_nil]
    omega
/-- the sorts of a weighing -/
structure SortsOf (W : List (Int × List Int)) (ws : List (List Int × Int)) : Prop where
  keys : (ws.map (·.1)).Perm (ddT (W.map (·.2)))
  rise : (ws.map (·.1)).Pairwise (fun x y => lexB y x = false)
  val : ∀ k ∈ ws, k.2 = totU W k.1
theorem sorts_of {W : List (Int × List Int)} {ks ws : List (List Int × Int)} (d : DIs W ks) (p : ws.Perm ks) (s : ws.Pairwise (fun x y => lexB y.1 x.1 = false)) : SortsOf W ws := by
  refine ⟨(p.map _).trans ((List.perm_ext_iff_of_nodup d.nd (ddT_nodup _)).mpr fun u => ?_), List.pairwise_map.mpr s, fun k hk => d.val k (p.subset hk)⟩
  rw [ddT_mem, d.mem]
theorem sorts_uni {W : List (Int × List Int)} {ws vs : List (List Int × Int)} (a : SortsOf W ws) (b : SortsOf W vs) : ws = vs := by
  have e := lex_uniL (a.keys.trans b.keys.symm) a.rise b.rise
  have r : ∀ {l : List (List Int × Int)}, (∀ k ∈ l, k.2 = totU W k.1) → l = (l.map (·.1)).map fun u => (u, totU W u) := fun {l} h => by
    rw [List.map_map]
    refine (List.map_id l).symm.trans (List.map_congr_left fun k hk => ?_)
    show k = (k.1, totU W k.1)
    rw [← h k hk]
  rw [r a.val, r b.val, e]
theorem sorts_rev {W : List (Int × List Int)} {ws : List (List Int × Int)} (a : SortsOf W.reverse ws) : SortsOf W ws := by
  refine ⟨a.keys.trans ((List.perm_ext_iff_of_nodup (ddT_nodup _) (ddT_nodup _)).mpr fun u => ?_), a.rise, fun k hk => by rw [← totU_rev]; exact a.val k hk⟩
  rw [ddT_mem, ddT_mem, List.map_reverse, List.mem_reverse]
def dP (k : List Int × Int) : PyData := .tuple [dT k.1, .int k.2]
def dPs (us : List (List Int × Int)) : PyData := .list (us.map dP)
theorem PrL.di {K : PySem.W.Frag} {H : Hp} {a : Addr} {xs : List V} {us : List (List Int × Int)} (h : PrL H xs us) (ha : SqL K H a xs) : DI K H (.ref a) (dPs us) := by
  refine .lst ha (by rw [List.length_map]; exact h.1) fun i x d h1 h2 => ?_
  rw [List.getElem?_map] at h2
  cases z : us[i]? with
  | none => rw [z] at h2; cases h2
  | some u =>
    rw [z] at h2
    cases h2
    obtain ⟨b, c, rfl, hb, hc⟩ := h.2 i x u h1 z
    refine .tup (SqT.of hb) rfl fun j y e h3 h4 => ?_
    rcases j with _ | _ | j
    · cases h3; cases h4; exact di_ints hc
    · cases h3; cases h4; exact .int _
    · cases h3
theorem lay_dPs : ∀ us : List (List Int × Int), (dPs us).canLay0 = true := by
  have : ∀ us : List (List Int × Int), PyData.canLayAll0 (us.map dP) = true := by
    intro us
    induction us with
    | nil => rfl
    | cons u us ih =>
      show ((dP u).canLay0 && PyData.canLayAll0 (us.map dP)) = true
      rw [ih]
      show (((dT u.1).canLay0 && true) && true) = true
      rw [lay_dT]; rfl
  exact this
theorem dep_dPs (us : List (List Int × Int)) : (dPs us).depth ≤ 60 := by
  have : ∀ us : List (List Int × Int), PyData.depthAll (us.map dP) ≤ 2 := by
    intro us
    induction us with
    | nil => exact Nat.zero_le _
    | cons u us ih =>
      have e : (dP u).depth ≤ 2 := by show max (dT u.1).depth (max 0 0) + 1 ≤ 2; rw [dep_dT]; decide
      show max (dP u).depth _ ≤ 2
      omega
  show PyData.depthAll _ + 1 ≤ 60
  have := this us
  omega
theorem eqv_dPs (us : List (List Int × Int)) : PyData.eqv (dPs us) (dPs us) = true := SeqAt.eqv_refl _ (lay_dPs us)
theorem PrL.up {H H' : Hp} {xs : List V} {us : List (List Int × Int)} (h : PrL H xs us) (t : Tups H H') : PrL H' xs us := ⟨h.1, fun i x u h1 h2 => by
  obtain ⟨a, b, rfl, ha, hb⟩ := h.2 i x u h1 h2
  exact ⟨a, b, rfl, t _ _ ha, t _ _ hb⟩⟩
section
variable {X : Cx}
theorem op_eqDK {K : PySem.W.Frag} {k : Nat} (hr : Room k X.A) (hK : X.K = K := by rfl) : OpR X (compareOp .Eq) (rEqD K fun b => b) := by subst hK; exact op_eqD hr
end
end L2

set_option Elab.async false
set_option linter.all false
set_option maxRecDepth 100000
set_option maxHeartbeats 1000000
namespace Toy
open PySem L2 PyProof.Rows
def top (i : Nat) : Stmt := PySem.Challenge.pw_farcords_k07_sorts_of_weighings.main.body.getD i (.Pass ⟨0, 0, 0, 0⟩)
/-- a def of the text that keeps its promise, by its global name -/
structure Kn (P : Program) (w : World) (K : PySem.W.Frag) (mg : Str → Option Value) (base : Heap) (x : Str) (k : Nat) (ps : List Str) (sp : Sp) : Prop where
  ex : ∃ (f : Addr) (fd : FuncData), FnOk P w K mg base CX0 k f fd ps sp ∧ mg x = some (.ref f) ∧ PySem.W.keepIn K (.ref f) = true ∧ Binds K fd ps []
theorem pe_callD {X : Cx} {x : Str} {k j : Nat} {ps : List Str} {sp : Sp} {e : Expr} {es : List Expr} {t : TA} {p pos : Pos} (G : Kn X.prog X.w X.K X.mg X.base x k ps sp) (hr : Room j X.A) (hg : Gl X x) (ha : PA X (e :: es) t) (hle : k ≤ j := by decide)
    (hdb : (x == ("__debug__" : Str)) = false := by decide)
    (he : starEach (e :: es) X.env = (false, eval e X.env) :: starEach es X.env := by rfl) (hpl : (backTo pos (starEach es X.env)).any (·.1) = false := by rfl) : PE X (.Call (.Name x p) (e :: es) [] pos) (tCall sp [] E0 t) := by
  obtain ⟨f, fd, F, hm, hk, hb⟩ := G.ex
  exact pe_call F (hr.mono hle) hg hm hk hb .nil pass0 ha hdb he hpl
structure Txt (mg : Str → Option Value) : Prop where
  len : mg "len" = none
  range : mg "range" = none
  min : mg "min" = none
  max : mg "max" = none
  isinstance : mg "isinstance" = none
  bool : mg "bool" = none
  int : mg "int" = none
  tuple : mg "tuple" = none
  list : mg "list" = none
  str : mg "str" = none
  all : mg "all" = none
  sum : mg "sum" = none
  sorted : mg "sorted" = none
/-- the draw's list -/
def Purse (H : Hp) (d : Addr) : Prop := ∃ a b : Int, H d = some (.lst [.int a, .int b]) ∧ 0 ≤ b ∧ b < 2147483648
def But (d : Addr) (H H' : Hp) : Prop := ∀ c o, H c = some o → c ≠ d → H' c = some o
theorem But.refl (d : Addr) (H : Hp) : But d H H := fun _ _ e _ => e
theorem But.trans {d : Addr} {H H1 H2 : Hp} (a : But d H H1) (b : But d H1 H2) : But d H H2 := fun c o e n => b c o (a c o e n) n
theorem But.upd {d : Addr} {H H' : Hp} {o : HO} (a : But d H H') : But d H (upd H' d o) := fun c u e n => by rw [upd_ne n]; exact a c u e n
theorem But.new {d p : Addr} {H H' : Hp} {o : HO} (a : But d H H') (h : H' p = none) : But d H (L2.upd H' p o) := fun c u e n => by
  have := a c u e n
  rw [upd_ne (ne_of_none this h)]; exact this
theorem Purse.new {d p : Addr} {H : Hp} {o : HO} (a : Purse H d) (h : H p = none) : Purse (L2.upd H p o) d := by
  obtain ⟨x, y, e, r⟩ := a
  exact ⟨x, y, by rw [upd_ne (ne_of_none e h)]; exact e, r⟩
theorem But.seq {K : PySem.W.Frag} {d : Addr} {H0 H H' : Hp} {a : Addr} {xs : List V} (e : But d H H') (s : Same H0 H) (f : H0 d = none) (h : SqL K H0 a xs) : SqL K H' a xs := by
  exact Same.seq (H := H0) (fun b o q => e b o (s b o q) (fun z => by rw [z, f] at q; cases q)) h
theorem Same.but {d : Addr} {H0 H H' : Hp} (s : Same H0 H) (f : H0 d = none) (e : But d H H') : Same H0 H' := fun b o q => e b o (s b o q) (fun z => by rw [z, f] at q; cases q)
theorem Same.new {p : Addr} {H H' : Hp} {o : HO} (a : Same H H') (h : H' p = none) : Same H (L2.upd H' p o) := fun c u e => by
  have := a c u e
  rw [upd_ne (ne_of_none this h)]; exact this
theorem log_ok {m : Int} (h0 : 0 < m) (h : m < 10 ^ 100) : m.natAbs.log2 < 9000 := by
  have h2 : m.natAbs < 2 ^ 400 := by
    have : (10 : Int) ^ 100 ≤ 2 ^ 400 := by decide +kernel
    omega
  have := (Nat.log2_lt (n := m.natAbs) (k := 400) (by omega)).mpr h2
  omega
theorem bits_ok {m : Int} (h0 : 0 < m) (h : m < 10 ^ 100) : ((Builtin.Int.intBits m : Nat) : Int) ≤ 400 := by
  have h2 : m.natAbs < 2 ^ 400 := by
    have : (10 : Int) ^ 100 ≤ 2 ^ 400 := by decide +kernel
    omega
  have := (Nat.log2_lt (n := m.natAbs) (k := 400) (by omega)).mpr h2
  have hne : (m == 0) = false := by simp; omega
  unfold Builtin.Int.intBits
  simp only [hne]
  simp
  omega
section
variable {P : Program} {w : World} {K : PySem.W.Frag} {mg : Str → Option Value} {base : Heap}
abbrev s__law_cell_at : Stmt := top 3
theorem sc__law_cell_at : FnScope ["_law_script", "_law_k"] ["_law_script", "_law_k"] (defScope s__law_cell_at) := ⟨rfl, rfl, rfl, by decide +kernel, rfl, by decide +kernel, by decide +kernel⟩
def spCell (K : PySem.W.Frag) : Sp := fun vs H Q _ => ∃ (a : Addr) (ns : List Int) (k : Int), vs = [.ref a, .int k] ∧ SqL K H a (ns.map V.int) ∧ 0 ≤ k ∧ ∀ n : Int, Q (.int n) H
theorem ok_cell {f : Addr} {fd : FuncData} (F : Fun K "_law_cell_at" "_law_cell_at" s__law_cell_at f fd) (M : Txt mg) : FnOk P w K mg base CX0 1 f fd ["_law_script", "_law_k"] (spCell K) := by
  have sc := sc__law_cell_at
  refine F.ok sc (fun vs H Q E h => ?_) (fun cdv A outer s H vs Q E hr h => ?_)
  · obtain ⟨a, ns, k, rfl, _⟩ := h
    rfl
  · obtain ⟨a, ns, i, rfl, hS, h0, k⟩ := h
    refine ⟨_, (pss_cons (ps_if (pt_cmpR op_lt (pv 1) (pe_callB (call_lenK (K := K)) (by rfl) M.len PySem.boot_len (pa_cons (pv 0) pa_nil)) (nomark _)) (pss_one (ps_ret (pe_ix (ix_listK (K := K)) (pv 0) (pv 1) (fun _ _ => rfl)))) pss_nil)
      (pss_one (ps_ret pe_int))), ?_⟩
    refine ⟨_, rfl, _, rfl, a, _, rfl, .inl hS, _, _, rfl, rfl, _, rfl, ?_⟩
    refine ite2 (fun e => ?_) (fun e => ?_)
    · have e := of_decide_eq_true e
      rw [List.length_map] at e
      have hlt : i.toNat < ns.length := by omega
      refine ⟨_, rfl, _, rfl, a, _, _, V.int (ns[i.toNat]), rfl, rfl, hS, ?_, k _⟩
      have := atI_nat (xs := ns.map V.int) (j := i.toNat) (v := V.int (ns[i.toNat])) (by rw [List.getElem?_map, List.getElem?_eq_getElem hlt]; rfl)
      rw [Int.toNat_of_nonneg h0] at this
      exact this
    · exact k 0
abbrev s__law_purse : Stmt := top 4
theorem sc__law_purse : FnScope ["_law_script", "_law_at", "_law_cell", "_law_seed", "_law_k"] ["_law_script", "_law_at"] (defScope s__law_purse) := ⟨rfl, rfl, rfl, by decide +kernel, rfl, by decide +kernel, by decide +kernel⟩
def spPurse (K : PySem.W.Frag) : Sp := fun vs H Q _ => ∃ (a : Addr) (ns : List Int) (k : Int), vs = [.ref a, .int k] ∧ SqL K H a (ns.map V.int) ∧ 0 ≤ k ∧ k ≤ 1000 ∧ ∀ (d : Addr) (H' : Hp), H d = none → Purse H' d → Same H H' → Q (.ref d) H'
theorem ok_purse {f : Addr} {fd : FuncData} (F : Fun K "_law_purse" "_law_purse" s__law_purse f fd) (M : Txt mg) (G_law_cell_at : Kn P w K mg base "_law_cell_at" 1 ["_law_script", "_law_k"] (spCell K)) : FnOk P w K mg base CX0 2 f fd ["_law_script", "_law_at"] (spPurse K) := by
  have sc := sc__law_purse
  refine F.ok sc (fun vs H Q E h => ?_) (fun cdv A outer s H vs Q E hr h => ?_)
  · obtain ⟨a, ns, k, rfl, _⟩ := h
    rfl
  · obtain ⟨a, ns, i, rfl, hS, h0, h1, k⟩ := h
    refine ⟨_, (pss_cons (ps_set (i := 2) sc.nd rfl (Or.inl rfl) (pe_callD G_law_cell_at hr rfl (pa_cons (pv 0) (pa_cons (pv 1) pa_nil))))
      (pss_cons (ps_if (pt_cmpR op_ge (pv 2) (pe_op op_pow pe_int pe_int) (nomark _)) (pss_one (ps_ret (pe_lst (pa_cons (pv 2) (pa_cons pe_int pa_nil))))) pss_nil)
      (pss_cons (ps_set (i := 3) sc.nd rfl (Or.inl rfl) (pe_op op_add (pe_op op_mul pe_int (pv 1)) pe_int))
      (pss_cons (ps_for PassesOwn.never rfl (pi_range1 rfl M.range (pa_cons pe_int pa_nil)) (pg_name (i := 4) sc.nd rfl (Or.inl rfl))
      (pss_cons (ps_set (i := 3) sc.nd rfl (Or.inl rfl) (pe_op op_add (pe_op op_add (pe_op op_mul (pv 3) pe_int) (pe_op op_mod (pe_callD G_law_cell_at hr rfl (pa_cons (pv 0) (pa_cons (pe_op op_add (pv 1) (pv 4)) pa_nil))) pe_int)) (pe_op op_mul pe_int (pv 4))))
      (pss_one (ps_set (i := 3) sc.nd rfl (Or.inl rfl) (pe_op op_mod (pv 3) pe_int)))))
      (pss_one (ps_ret (pe_lst (pa_cons pe_int (pa_cons (pe_op op_add (pv 3) pe_int) pa_nil))))))))), ?_⟩
    refine ⟨_, rfl, _, rfl, a, ns, i, rfl, hS, h0, fun cell => ?_⟩
    refine ⟨_, rfl, _, _, rfl, rfl, ⟨by decide, by decide, by decide⟩, _, _, rfl, rfl, _, rfl, ?_⟩
    refine ite2 (fun e => ?_) (fun e => ?_)
    · refine ⟨_, rfl, (by show 2 ≤ sizeLine; decide), fun d hd => ?_⟩
      exact k d _ hd ⟨_, _, upd_same, by decide, by decide⟩ (Same.new (Same.refl _) hd)
    · refine ⟨_, rfl, _, _, rfl, rfl, .inl ⟨by decide, by decide⟩, _, _, rfl, rfl, ?_⟩
      refine ⟨9, rfl, by decide, by decide, for_range (n := 9) (fun j σ H' => ∃ (c kk : Option V) (seed : Int), σ = [some (.ref a), some (.int i), c, some (.int seed), kk] ∧ 0 ≤ seed ∧ seed < 2147483629 ∧ H' = H) ⟨_, _, _, rfl, by omega, by omega, rfl⟩ ?_ ?_⟩
      · rintro j σ H' hj ⟨c, kk, seed, rfl, hs0, hs1, rfl⟩
        refine ⟨_, rfl, _, _, rfl, rfl, .inl ⟨by omega, by omega⟩, ?_⟩
        refine ⟨_, rfl, _, rfl, _, rfl, _, _, rfl, rfl, a, ns, _, rfl, hS, by omega, fun cell' => ?_⟩
        refine ⟨_, _, rfl, rfl, (by show (0 : Int) < 2147483647; decide), _, _, rfl, rfl, _, rfl, _, _, rfl, rfl, .inl ⟨by decide, by decide⟩, _, _, rfl, rfl, ?_⟩
        refine ⟨_, rfl, _, _, rfl, rfl, (by show (0 : Int) < 2147483629; decide), ?_⟩
        exact ⟨_, _, _, rfl, Int.emod_nonneg _ (by decide), Int.emod_lt_of_pos _ (by decide), rfl⟩
      · rintro σ H' ⟨c, kk, seed, rfl, hs0, hs1, rfl⟩
        refine ⟨_, rfl, _, _, rfl, rfl, (by show 2 ≤ sizeLine; decide), fun d hd => ?_⟩
        exact k d _ hd ⟨_, _, upd_same, by omega, by omega⟩ (Same.new (Same.refl _) hd)
abbrev s__law_take : Stmt := top 5
theorem sc__law_take : FnScope ["_law_draw", "_law_many_here", "_law_digit", "_law_found", "_law_k"] ["_law_draw", "_law_many_here"] (defScope s__law_take) := ⟨rfl, rfl, rfl, by decide +kernel, rfl, by decide +kernel, by decide +kernel⟩
def spTake : Sp := fun vs H Q _ => ∃ (d : Addr) (m : Int), vs = [.ref d, .int m] ∧ Purse H d ∧ 0 < m ∧ m < 10 ^ 100 ∧ ∀ (r : Int) (H' : Hp), 0 ≤ r → r < m → Purse H' d → But d H H' → Q (.int r) H'
theorem ok_take {f : Addr} {fd : FuncData} (F : Fun K "_law_take" "_law_take" s__law_take f fd) (M : Txt mg) : FnOk P w K mg base CX0 1 f fd ["_law_draw", "_law_many_here"] spTake := by
  have sc := sc__law_take
  refine F.ok sc (fun vs H Q E h => ?_) (fun cdv A outer s H vs Q E hr h => ?_)
  · obtain ⟨a, k, rfl, _⟩ := h
    rfl
  · obtain ⟨d, m, rfl, ⟨a, b, hd, hb0, hb1⟩, hm0, hm1, k⟩ := h
    have hlog := log_ok hm0 hm1
    have hbits := bits_ok hm0 hm1
    refine ⟨_, (pss_cons (ps_if (pt_cmpR op_eq (pe_ix (ix_listK (K := K)) (pv 0) pe_int (fun _ _ => rfl)) pe_int (nomark _)) (pss_cons (ps_set (i := 2) sc.nd rfl (Or.inl rfl) (pe_op op_mod (pe_ix (ix_listK (K := K)) (pv 0) pe_int (fun _ _ => rfl)) (pv 1)))
      (pss_cons (ps_asg (pe_op op_fdivL (pe_ix (ix_listK (K := K)) (pv 0) pe_int (fun _ _ => rfl)) (pv 1)) (pg_sub (pv 0) pe_int set_list))
      (pss_one (ps_ret (pv 2))))) pss_nil)
      (pss_cons (ps_set (i := 3) sc.nd rfl (Or.inl rfl) pe_int)
      (pss_cons (ps_for PassesOwn.never rfl (pi_range1 rfl M.range (pa_cons (pe_op op_add pe_int (pe_op op_fdivL (pe_bm0 PySem.F.plainAttrs_int PySem.F.slot_int_bit_length PySem.F.type_int_bit_length mt_bits (pv 1)) pe_int)) pa_nil)) (pg_name (i := 4) sc.nd rfl (Or.inl rfl))
      (pss_cons (ps_asg (pe_op op_mod (pe_op op_mul (pe_ix (ix_listK (K := K)) (pv 0) pe_int (fun _ _ => rfl)) pe_int) pe_int) (pg_sub (pv 0) pe_int set_list))
      (pss_one (ps_set (i := 3) sc.nd rfl (Or.inl rfl) (pe_op op_add (pe_op op_mul (pv 3) pe_int) (pe_op op_mod (pe_op op_mul (pe_ix (ix_listK (K := K)) (pv 0) pe_int (fun _ _ => rfl)) (pe_ix (ix_listK (K := K)) (pv 0) pe_int (fun _ _ => rfl))) pe_int))))))
      (pss_one (ps_ret (pe_op op_mod (pe_op op_fdivL (pv 3) pe_int) (pv 1))))))), ?_⟩
    refine ⟨_, rfl, d, _, _, _, rfl, rfl, SqL.of hd, rfl, rfl, _, rfl, ?_⟩
    refine ite2 (fun e => ?_) (fun e => ?_)
    · refine ⟨_, rfl, d, _, _, _, rfl, rfl, SqL.of hd, rfl, _, rfl, _, _, rfl, rfl, hm0, ?_⟩
      refine ⟨_, rfl, d, _, _, _, rfl, rfl, SqL.of hd, rfl, _, rfl, _, _, rfl, rfl, ⟨hm0, hlog⟩, _, rfl, d, _, _, _, rfl, rfl, hd, rfl, ?_⟩
      refine ⟨_, rfl, ?_⟩
      exact k _ _ (Int.emod_nonneg _ (by omega)) (Int.emod_lt_of_pos _ hm0) ⟨_, _, upd_same, hb0, hb1⟩ (But.upd (But.refl _ _))
    · refine ⟨_, rfl, rfl, _, rfl, rfl, _, _, rfl, rfl, ⟨by decide, by decide⟩, _, _, rfl, rfl, ?_⟩
      refine ⟨_, rfl, by omega, by omega, for_range (fun j σ H' => ∃ (c kk : Option V) (found b' : Int), σ = [some (.ref d), some (.int m), c, some (.int found), kk] ∧ H' d = some (.lst [.int a, .int b']) ∧ 0 ≤ b' ∧ b' < 2147483648 ∧ But d H H') ⟨_, _, _, b, rfl, hd, hb0, hb1, But.refl _ _⟩ ?_ ?_⟩
      · rintro j σ H' hj ⟨c, kk, found, b', rfl, hd', hb0', hb1', bt⟩
        refine ⟨_, rfl, d, _, _, _, rfl, rfl, SqL.of hd', rfl, _, _, rfl, rfl, .inl ⟨by omega, by omega⟩, _, _, rfl, rfl, (by show (0 : Int) < 2147483647; decide), _, rfl, d, _, _, _, rfl, rfl, hd', rfl, ?_⟩
        have z0 : 0 ≤ b' * 48271 % 2147483647 := Int.emod_nonneg _ (by decide)
        have z1 : b' * 48271 % 2147483647 < 2147483647 := Int.emod_lt_of_pos _ (by decide)
        refine ⟨_, rfl, _, _, rfl, rfl, .inr ⟨by decide, by decide⟩, ?_⟩
        refine ⟨_, rfl, d, _, _, _, rfl, rfl, SqL.of upd_same, rfl, _, rfl, d, _, _, _, rfl, rfl, SqL.of upd_same, rfl, _, _, rfl, rfl, .inl ⟨by omega, by omega⟩, _, _, rfl, rfl, (by show (0 : Int) < 2147483629; decide), _, _, rfl, rfl, ?_⟩
        exact ⟨_, _, _, _, rfl, upd_same, z0, by omega, But.upd bt⟩
      · rintro σ H' ⟨c, kk, found, b', rfl, hd', hb0', hb1', bt⟩
        refine ⟨_, rfl, _, _, rfl, rfl, ⟨by decide, by decide⟩, _, rfl, _, _, rfl, rfl, hm0, ?_⟩
        exact k _ _ (Int.emod_nonneg _ (by omega)) (Int.emod_lt_of_pos _ hm0) ⟨_, _, hd', hb0', hb1'⟩ bt
end
end Toy
namespace Toy
open PySem L2 PyProof.Rows
theorem Purse.ne {H : Hp} {d p : Addr} (P : Purse H d) (h : H p = none) : p ≠ d := by
  obtain ⟨x, y, e, _⟩ := P
  exact (ne_of_none e h).symm
theorem But.free {d p : Addr} {H H' : Hp} (e : But d H H') (hP : Purse H' d) (h : H' p = none) : H p = none := by
  cases z : H p with
  | none => rfl
  | some o =>
    by_cases q : p = d
    · subst q
      obtain ⟨x, y, e', _⟩ := hP
      rw [h] at e'; cases e'
    · rw [e p o z q] at h; cases h
theorem But.tups {d : Addr} {H H' : Hp} (B : But d H H') (P : Purse H d) : Tups H H' := fun b ys e => B b _ e (fun z => by
  obtain ⟨x, y, e', _⟩ := P
  rw [z, e'] at e; cases e)
theorem But.own {d p : Addr} {H H' : Hp} {o : HO} (B : But d H H') (h : H p = none) : But d H (L2.upd H' p o) := fun c u e n => by
  rw [upd_ne (ne_of_none e h)]; exact B c u e n
theorem Purse.own {d p : Addr} {H : Hp} {o : HO} (P : Purse H d) (h : p ≠ d) : Purse (L2.upd H p o) d := by
  obtain ⟨x, y, e, r⟩ := P
  exact ⟨x, y, by rw [upd_ne (Ne.symm h)]; exact e, r⟩
theorem But.same {d : Addr} {H H1 H2 : Hp} (B : But d H H1) (s : Same H1 H2) : But d H H2 := fun c o e n => s c o (B c o e n)
theorem Same.purse {d : Addr} {H H' : Hp} (s : Same H H') (P : Purse H d) : Purse H' d := by
  obtain ⟨x, y, e, r⟩ := P
  exact ⟨x, y, s _ _ e, r⟩
section
variable {P : Program} {w : World} {K : PySem.W.Frag} {mg : Str → Option Value} {base : Heap}
abbrev s__law_number : Stmt := top 6
theorem sc__law_number : FnScope ["_law_draw", "_law_way", "_law_figure"] ["_law_draw"] (defScope s__law_number) := ⟨rfl, rfl, rfl, by decide +kernel, rfl, by decide +kernel, by decide +kernel⟩
def spNumber : Sp := fun vs H Q _ => ∃ (d : Addr), vs = [.ref d] ∧ Purse H d ∧ ∀ (r : Int) (H' : Hp), -(10 ^ 62) < r → r < 10 ^ 62 → Purse H' d → But d H H' → Q (.int r) H'
theorem ok_number {f : Addr} {fd : FuncData} (F : Fun K "_law_number" "_law_number" s__law_number f fd) (M : Txt mg) (G_law_take : Kn P w K mg base "_law_take" 1 ["_law_draw", "_law_many_here"] spTake) : FnOk P w K mg base CX0 2 f fd ["_law_draw"] spNumber := by
  have sc := sc__law_number
  refine F.ok sc (fun vs H Q E h => ?_) (fun cdv A outer s H vs Q E hr h => ?_)
  · obtain ⟨d, rfl, _⟩ := h
    rfl
  · obtain ⟨d, rfl, hP, k⟩ := h
    refine ⟨_, (pss_cons (ps_set (i := 1) sc.nd rfl (Or.inl rfl) (pe_callD G_law_take hr rfl (pa_cons (pv 0) (pa_cons pe_int pa_nil))))
      (pss_cons (ps_if (pt_cmpR op_lt (pv 1) pe_int (nomark _)) (pss_one (ps_ret (pe_op op_sub (pe_callD G_law_take hr rfl (pa_cons (pv 0) (pa_cons pe_int pa_nil))) pe_int))) pss_nil)
      (pss_cons (ps_set (i := 2) sc.nd rfl (Or.inl rfl) (pe_callD G_law_take hr rfl (pa_cons (pv 0) (pa_cons (pe_ix (ix_listK (K := K)) (pe_lst (pa_cons (pe_op op_pow pe_int pe_int) (pa_cons (pe_op op_pow pe_int pe_int) (pa_cons (pe_op op_pow pe_int pe_int) pa_nil)))) (pe_op op_sub (pv 1) pe_int) (fun _ _ => rfl)) pa_nil))))
      (pss_one (ps_ret (pe_op op_mul (pv 2) (pe_op op_sub pe_int (pe_op op_mul pe_int (pe_callD G_law_take hr rfl (pa_cons (pv 0) (pa_cons pe_int pa_nil))))))))))), ?_⟩
    refine ⟨_, rfl, d, 8, rfl, hP, by decide, by decide, fun way H1 w0 w1 P1 B1 => ?_⟩
    refine ⟨_, rfl, _, _, rfl, rfl, _, rfl, ite2 (fun e => ?_) (fun e => ?_)⟩
    · refine ⟨_, rfl, d, 9, rfl, P1, by decide, by decide, fun r H2 r0 r1 P2 B2 => ⟨_, _, rfl, rfl, ?_⟩⟩
      exact k _ H2 (by omega) (by omega) P2 (B1.trans B2)
    · have e := of_decide_eq_false (Bool.eq_false_iff.mpr e)
      refine ⟨_, rfl, _, _, rfl, rfl, ⟨by decide, by decide, by decide⟩, _, _, rfl, rfl, ⟨by decide, by decide, by decide⟩, _, _, rfl, rfl, ⟨by decide, by decide, by decide⟩, (by show 3 ≤ sizeLine; decide), fun l hl => ?_⟩
      have hc : way = 5 ∨ way = 6 ∨ way = 7 := by omega
      rcases hc with rfl | rfl | rfl
      all_goals
        refine ⟨_, rfl, _, _, rfl, rfl, l, _, _, _, rfl, rfl, SqL.of upd_same, rfl, ?_⟩
        refine ⟨d, _, rfl, P1.new hl, by decide, by decide, fun r H2 r0 r1 P2 B2 => ?_⟩
        refine ⟨_, rfl, _, rfl, d, 2, rfl, P2, by decide, by decide, fun b H3 b0 b1 P3 B3 => ?_⟩
        refine ⟨_, _, rfl, rfl, .inl ⟨by decide, by decide⟩, _, _, rfl, rfl, _, _, rfl, rfl, .inr ⟨by omega, by omega⟩, ?_⟩
        have r1' : r < 10 ^ 62 := Int.lt_of_lt_of_le r1 (by decide)
        have hb : b = 0 ∨ b = 1 := by omega
        rcases hb with rfl | rfl
        · exact k _ H3 (by omega) (by omega) P3 (((B1.new hl).trans B2).trans B3)
        · exact k _ H3 (by omega) (by omega) P3 (((B1.new hl).trans B2).trans B3)
abbrev s__law_weights : Stmt := top 7
theorem sc__law_weights : FnScope ["_law_draw", "_law_wide_here"] ["_law_draw", "_law_wide_here"] (defScope s__law_weights) := ⟨rfl, rfl, rfl, by decide +kernel, rfl, by decide +kernel, by decide +kernel⟩
def spWeights : Sp := fun vs H Q _ => ∃ (d : Addr) (wd : Int), vs = [.ref d, .int wd] ∧ Purse H d ∧ 1 ≤ wd ∧ wd ≤ 24 ∧ ∀ (p : Addr) (ns : List Int) (H' : Hp), H p = none → H' p = some (.tup (ns.map V.int)) → ns.length = wd.toNat → Purse H' d → But d H H' → Q (.ref p) H'
theorem ok_weights {f : Addr} {fd : FuncData} (F : Fun K "_law_weights" "_law_weights" s__law_weights f fd) (M : Txt mg) (G_law_number : Kn P w K mg base "_law_number" 2 ["_law_draw"] spNumber) : FnOk P w K mg base CX0 3 f fd ["_law_draw", "_law_wide_here"] spWeights := by
  have sc := sc__law_weights
  refine F.ok sc (fun vs H Q E h => ?_) (fun cdv A outer s H vs Q E hr h => ?_)
  · obtain ⟨d, wd, rfl, _⟩ := h
    rfl
  · obtain ⟨d, wd, rfl, hP, w1, w2, k⟩ := h
    refine ⟨_, (pss_one (ps_ret (pe_callTy call_tuple_of (by rfl) M.tuple boot_tuple (pa_cons (pe_compG (xs := ["_law_k"]) (Nb := ["_law_draw", "_law_wide_here"]) rfl (pi_range1 rfl M.range (pa_cons (pv 1) pa_nil)) rfl (by show ∀ p ∈ (List.zip ["_law_draw", "_law_wide_here"] ["_law_draw", "_law_wide_here"] : List (Str × Str)), _; decide +kernel) (by decide +kernel) (fun cl C s₂ H₂ fp => (pg_name (i := 0) (by show List.Nodup (["_law_k", "_law_draw", "_law_wide_here"] : List Str); decide +kernel) rfl (Or.inl (lookup_relabel_local rfl)) (Or.inr (lookup_relabel_local rfl)))) (fun cl C s₂ H₂ fp => pif_nil) (fun cl C s₂ H₂ fp => (pe_callD G_law_number hr rfl (pa_cons (pv 1) pa_nil))) (by decide +kernel) rfl (by decide +kernel) (by show ∀ y ∈ (_ : List (Str × NameKind)), y.2 = NameKind.free → (defScope s__law_weights).names.lookup y.1 = some .cell; decide +kernel)) pa_nil)))), ?_⟩
    refine ⟨_, rfl, _, rfl, by omega, by omega, compR (fun i ys H' => (∃ ns : List Int, ys = ns.map V.int ∧ ns.length = i) ∧ Purse H' d ∧ But d H H') ⟨⟨[], rfl, rfl⟩, hP, But.refl _ _⟩ (by omega) (fun i ys H' h => by obtain ⟨⟨ns, rfl, e⟩, _⟩ := h; rw [List.length_map, e]; exact Nat.le_refl _) ?_ ?_⟩
    · rintro i ys H' pre hp hi ⟨⟨ns, rfl, e⟩, P1, B1⟩
      rcases pre with _ | ⟨p0, _ | ⟨p1, pre⟩⟩
      · cases hp
      · refine ⟨⟨[some _], rfl, rfl⟩, ?_⟩
        unfold tYes
        dsimp only
        rw [if_pos (rfl : true = true)]
        refine ⟨_, rfl, d, rfl, P1, fun r H2 r0 r1 P2 B2 => ?_⟩
        exact ⟨⟨ns ++ [r], by rw [List.map_append]; rfl, by rw [List.length_append, e]; rfl⟩, P2, B1.trans B2⟩
      · cases hp
    · rintro ys H' ⟨⟨ns, rfl, e⟩, P1, B1⟩ D hD
      refine ⟨D, _, rfl, .inl ⟨SqL.of upd_same, fun l hl => ?_⟩⟩
      have B2 := B1.new (o := .lst (ns.map V.int)) hD
      have P2 := P1.new (o := .lst (ns.map V.int)) hD
      exact k l ns _ (B2.free P2 hl) upd_same e (P2.new hl) (B2.new hl)
abbrev s__law_many : Stmt := top 8
theorem sc__law_many : FnScope ["_law_draw"] ["_law_draw"] (defScope s__law_many) := ⟨rfl, rfl, rfl, by decide +kernel, rfl, by decide +kernel, by decide +kernel⟩
def spMany : Sp := fun vs H Q _ => ∃ (d : Addr), vs = [.ref d] ∧ Purse H d ∧ ∀ (r : Int) (H' : Hp), 1 ≤ r → r ≤ 10 ^ 59 → Purse H' d → But d H H' → Q (.int r) H'
theorem ok_many {f : Addr} {fd : FuncData} (F : Fun K "_law_many" "_law_many" s__law_many f fd) (M : Txt mg) (G_law_take : Kn P w K mg base "_law_take" 1 ["_law_draw", "_law_many_here"] spTake) : FnOk P w K mg base CX0 2 f fd ["_law_draw"] spMany := by
  have sc := sc__law_many
  refine F.ok sc (fun vs H Q E h => ?_) (fun cdv A outer s H vs Q E hr h => ?_)
  · obtain ⟨d, rfl, _⟩ := h
    rfl
  · obtain ⟨d, rfl, hP, k⟩ := h
    refine ⟨_, (pss_one (ps_ret (pe_op op_add pe_int (pe_callD G_law_take hr rfl (pa_cons (pv 0) (pa_cons (pe_ix (ix_listK (K := K)) (pe_lst (pa_cons pe_int (pa_cons pe_int (pa_cons pe_int (pa_cons (pe_op op_pow pe_int pe_int) (pa_cons (pe_op op_pow pe_int pe_int) (pa_cons (pe_op op_pow pe_int pe_int) pa_nil))))))) (pe_callD G_law_take hr rfl (pa_cons (pv 0) (pa_cons pe_int pa_nil))) (fun _ _ => rfl)) pa_nil)))))), ?_⟩
    refine ⟨_, rfl, _, _, rfl, rfl, ⟨by decide, by decide, by decide⟩, _, _, rfl, rfl, ⟨by decide, by decide, by decide⟩, _, _, rfl, rfl, ⟨by decide, by decide, by decide⟩, (by show 6 ≤ sizeLine; decide), fun l hl => ?_⟩
    have nl := hP.ne hl
    refine ⟨_, rfl, d, 6, rfl, hP.new hl, by decide, by decide, fun r H1 r0 r1 P1 B1 => ?_⟩
    have hl1 := B1 l _ upd_same nl
    have B2 : But d H H1 := (But.new (But.refl d H) hl).trans B1
    have hc : r = 0 ∨ r = 1 ∨ r = 2 ∨ r = 3 ∨ r = 4 ∨ r = 5 := by omega
    rcases hc with rfl | rfl | rfl | rfl | rfl | rfl
    all_goals
      refine ⟨l, _, _, _, rfl, rfl, SqL.of hl1, rfl, ?_⟩
      refine ⟨d, _, rfl, P1, by decide, by decide, fun r' H2 a0 a1 P2 B3 => ⟨_, _, rfl, rfl, ?_⟩⟩
      have a1' : r' < 10 ^ 59 := Int.lt_of_lt_of_le a1 (by decide)
      exact k _ H2 (by omega) (by omega) P2 (B2.trans B3)
abbrev s__law_pieces : Stmt := top 9
theorem sc__law_pieces : FnScope ["_law_draw", "_law_wide_here", "_law_most", "_law_pool", "_law_found", "_law_k", "_law_many_here"] ["_law_draw", "_law_wide_here", "_law_most"] (defScope s__law_pieces) := ⟨rfl, rfl, rfl, by decide +kernel, rfl, by decide +kernel, by decide +kernel⟩
def Pieces (wd most : Int) (L : List (Int × List Int)) : Prop := L.length = most.toNat ∧ ∀ e ∈ L, 1 ≤ e.1 ∧ e.1 ≤ 10 ^ 59 ∧ e.2.length = wd.toNat
def spPieces : Sp := fun vs H Q _ => ∃ (d : Addr) (wd most : Int), vs = [.ref d, .int wd, .int most] ∧ Purse H d ∧ 1 ≤ wd ∧ wd ≤ 24 ∧ 0 ≤ most ∧ most ≤ 1000 ∧ ∀ (a : Addr) (xs : List V) (L : List (Int × List Int)) (H' : Hp), H a = none → H' a = some (.lst xs) → Wg H' xs L → Pieces wd most L → Purse H' d → But d H H' → Q (.ref a) H'
theorem ok_pieces {f : Addr} {fd : FuncData} (F : Fun K "_law_pieces" "_law_pieces" s__law_pieces f fd) (M : Txt mg) (G_law_take : Kn P w K mg base "_law_take" 1 ["_law_draw", "_law_many_here"] spTake) (G_law_weights : Kn P w K mg base "_law_weights" 3 ["_law_draw", "_law_wide_here"] spWeights) (G_law_many : Kn P w K mg base "_law_many" 2 ["_law_draw"] spMany) : FnOk P w K mg base CX0 4 f fd ["_law_draw", "_law_wide_here", "_law_most"] spPieces := by
  have sc := sc__law_pieces
  refine F.ok sc (fun vs H Q E h => ?_) (fun cdv A outer s H vs Q E hr h => ?_)
  · obtain ⟨d, wd, most, rfl, _⟩ := h
    rfl
  · obtain ⟨d, wd, most, rfl, hP, w1, w2, m0, m1, k⟩ := h
    refine ⟨_, (pss_cons (ps_compG (xs := ["_law_k"]) (Nb := ["_law_draw", "_law_wide_here", "_law_most", "_law_pool", "_law_found", "", "_law_many_here"]) (pg_name (i := 3) sc.nd rfl (Or.inl rfl)) rfl rfl (pi_range1 rfl M.range (pa_cons (pe_op op_add pe_int (pe_callD G_law_take hr rfl (pa_cons (pv 0) (pa_cons pe_int pa_nil)))) pa_nil)) rfl (by show ∀ p ∈ (List.zip ["_law_draw", "_law_wide_here", "_law_most", "_law_pool", "_law_found", "", "_law_many_here"] ["_law_draw", "_law_wide_here", "_law_most", "_law_pool", "_law_found", "_law_k", "_law_many_here"] : List (Str × Str)), _; decide +kernel) (by decide +kernel) (fun cl C s₂ H₂ fp => (pg_name (i := 0) (by show List.Nodup (["_law_k", "_law_draw", "_law_wide_here", "_law_most", "_law_pool", "_law_found", "", "_law_many_here"] : List Str); decide +kernel) rfl (Or.inl (lookup_relabel_local rfl)) (Or.inr (lookup_relabel_local rfl)))) (fun cl C s₂ H₂ fp => pif_nil) (fun cl C s₂ H₂ fp => (pe_callD G_law_weights hr rfl (pa_cons (pv 1) (pa_cons (pv 2) pa_nil)))) (by decide +kernel) rfl (by decide +kernel) (by show ∀ y ∈ (_ : List (Str × NameKind)), y.2 = NameKind.free → (defScope s__law_pieces).names.lookup y.1 = some .cell; decide +kernel))
      (pss_cons (ps_set (i := 4) sc.nd rfl (Or.inl rfl) (pe_lst pa_nil))
      (pss_cons (ps_for PassesOwn.never rfl (pi_range1 rfl M.range (pa_cons (pv 2) pa_nil)) (pg_name (i := 5) sc.nd rfl (Or.inl rfl))
      (pss_cons (ps_set (i := 6) sc.nd rfl (Or.inl rfl) (pe_callD G_law_many hr rfl (pa_cons (pv 0) pa_nil)))
      (pss_one (ps_expr (pe_bm PySem.F.plainAttrs_list PySem.F.slot_list_append PySem.F.type_list_append mt_append (pv 4) (pa_cons (pe_tup (pa_cons (pv 6) (pa_cons (pe_ix (ix_listK (K := K)) (pv 3) (pe_callD G_law_take hr rfl (pa_cons (pv 0) (pa_cons (pe_callB (call_lenK (K := K)) (by rfl) M.len PySem.boot_len (pa_cons (pv 3) pa_nil)) pa_nil))) (fun _ _ => rfl)) pa_nil))) pa_nil))))))
      (pss_one (ps_ret (pv 4)))))), ?_⟩
    refine ⟨_, rfl, d, 4, rfl, hP, by decide, by decide, fun r H1 r0 r1 P1 B1 => ⟨_, _, rfl, rfl, ?_⟩⟩
    refine ⟨_, rfl, by omega, by omega, compR (fun i ys H' => ys.length = i ∧ (∀ y ∈ ys, ∃ (q : Addr) (ns : List Int), y = V.ref q ∧ H' q = some (.tup (ns.map V.int)) ∧ ns.length = wd.toNat) ∧ Purse H' d ∧ But d H H') ⟨rfl, fun y hy => by simp at hy, P1, B1⟩ (by omega) (fun i ys H' h => Nat.le_of_eq h.1) ?_ ?_⟩
    · rintro i ys H' pre hp hi ⟨e, hy, P2, B2⟩
      rcases pre with _ | ⟨p0, _ | ⟨p1, pre⟩⟩
      · cases hp
      · refine ⟨⟨[some _], rfl, rfl⟩, ?_⟩
        unfold tYes
        dsimp only
        rw [if_pos (rfl : true = true)]
        refine ⟨_, rfl, _, rfl, d, wd, rfl, P2, w1, w2, fun q ns H3 f3 h3 l3 P3 B3 => ?_⟩
        refine ⟨by rw [List.length_append, e]; rfl, fun y hm => ?_, P3, B2.trans B3⟩
        rcases List.mem_append.mp hm with z | z
        · obtain ⟨q', ns', rfl, t', l'⟩ := hy y z
          exact ⟨q', ns', rfl, B3.tups P2 _ _ t', l'⟩
        · rw [List.mem_singleton] at z
          subst z
          exact ⟨q, ns, rfl, h3, l3⟩
      · cases hp
    · rintro ys H2 ⟨e, hy, P2, B2⟩ D hD
      have P3 := P2.new (o := .lst ys) hD
      have B3 := B2.new (o := .lst ys) hD
      have fD := B2.free P2 hD
      refine ⟨(by show 0 ≤ sizeLine; decide), fun b hb => ?_⟩
      have P4 := P3.new (o := .lst []) hb
      have B4 := B3.new (o := .lst []) hb
      have fb := B3.free P3 hb
      have nbD : b ≠ D := fun z => by rw [z, upd_same] at hb; cases hb
      have nDd := P2.ne hD
      have nbd := P3.ne hb
      have T4 : Tups H2 (upd (upd H2 D (.lst ys)) b (.lst [])) := ((Tups.refl H2).new hD).new hb
      refine ⟨_, rfl, _, rfl, by omega, by omega, for_range (n := most.toNat) (fun i σ H' => ∃ (kk mm : Option V) (xs : List V) (L : List (Int × List Int)), σ = [some (.ref d), some (.int wd), some (.int most), some (.ref D), some (.ref b), kk, mm] ∧ H' b = some (.lst xs) ∧ H' D = some (.lst ys) ∧ Tups H2 H' ∧ Wg H' xs L ∧ L.length = i ∧ (∀ e ∈ L, 1 ≤ e.1 ∧ e.1 ≤ 10 ^ 59 ∧ e.2.length = wd.toNat) ∧ Purse H' d ∧ But d H H') ⟨_, _, [], [], rfl, upd_same, by rw [upd_ne (Ne.symm nbD)]; exact upd_same, T4, Wg.nil _, rfl, fun e he => by simp at he, P4, B4⟩ ?_ ?_⟩
      · rintro i σ H5 hi ⟨kk, mm, xs, L, rfl, h5b, h5D, T5, g5, l5, q5, P5, B5⟩
        refine ⟨_, rfl, d, rfl, P5, fun mny H6 y0 y1 P6 B6 => ?_⟩
        have h6b := B6 b _ h5b nbd
        have h6D := B6 D _ h5D nDd
        refine ⟨_, rfl, .inl ⟨rfl, _, SqL.of h6b⟩, _, rfl, _, rfl, _, rfl, _, rfl, D, _, rfl, .inl (SqL.of h6D), d, _, rfl, P6, by omega, by omega, fun c H7 c0 c1 P7 B7 => ?_⟩
        have h7b := B7 b _ h6b nbd
        have h7D := B7 D _ h6D nDd
        have hc : c.toNat < ys.length := by omega
        have T7 : Tups H2 H7 := (T5.trans (B6.tups P5)).trans (B7.tups P6)
        obtain ⟨q, ns, eq, tq, lq⟩ := hy _ (List.getElem_mem hc)
        have tq7 := T7 _ _ tq
        refine ⟨D, _, _, V.ref q, rfl, rfl, SqL.of h7D, ?_, (by show 2 ≤ sizeLine; decide), fun p hp => ?_⟩
        · have := atI_nat (xs := ys) (j := c.toNat) (v := V.ref q) (by rw [List.getElem?_eq_getElem hc, eq])
          rw [Int.toNat_of_nonneg c0] at this
          exact this
        · have npb : p ≠ b := fun z => by rw [z, h7b] at hp; cases hp
          have h8b : (upd H7 p (.tup [.int mny, .ref q])) b = some (.lst xs) := by rw [upd_ne (Ne.symm npb)]; exact h7b
          have hxl : xs.length = i := g5.1.trans l5
          refine ⟨b, xs, _, rfl, rfl, h8b, Nat.lt_of_le_of_lt (by omega : xs.length ≤ 1000) (by decide), ?_⟩
          have P8 := P7.new (o := .tup [.int mny, .ref q]) hp
          have B8 := ((B5.trans B6).trans B7).new (o := .tup [.int mny, .ref q]) hp
          have T8 : Tups H7 (upd H7 p (.tup [.int mny, .ref q])) := (Tups.refl H7).new hp
          have T9 : Tups (upd H7 p (.tup [.int mny, .ref q])) (upd (upd H7 p (.tup [.int mny, .ref q])) b (.lst (xs ++ [.ref p]))) := (Tups.refl _).lst h8b
          refine ⟨_, _, _, L ++ [(mny, ns)], rfl, upd_same, ?_, (T7.trans T8).trans T9, ?_, by rw [List.length_append, l5]; rfl, fun e he => ?_, P8.own nbd, B8.own fb⟩
          · rw [upd_ne (Ne.symm nbD)]
            have : p ≠ D := fun z => by rw [z, h7D] at hp; cases hp
            rw [upd_ne (Ne.symm this)]; exact h7D
          · refine Wg.snoc (g5.up ((((B6.tups P5).trans (B7.tups P6)).trans T8).trans T9)) ⟨p, q, rfl, T9 _ _ upd_same, T9 _ _ (T8 _ _ tq7)⟩
          · rcases List.mem_append.mp he with z | z
            · exact q5 e z
            · rw [List.mem_singleton] at z; subst z; exact ⟨y0, y1, lq⟩
      · rintro σ H5 ⟨kk, mm, xs, L, rfl, h5b, h5D, T5, g5, l5, q5, P5, B5⟩
        exact ⟨_, rfl, k b xs L H5 fb h5b g5 ⟨l5, q5⟩ P5 B5⟩
end
end Toy
namespace Toy
open PySem L2 PyProof.Rows
theorem Same.own {p : Addr} {H H' : Hp} {o : HO} (a : Same H H') (h : H p = none) : Same H (L2.upd H' p o) := fun c u e => by
  rw [upd_ne (ne_of_none e h)]; exact a c u e
theorem shStep_len (acc : List (Int × List Int)) (e : Int × List Int) : (shStep acc e).length ≤ acc.length + 1 := by
  unfold shStep
  split
  · split
    · split
      · rw [List.length_append, List.length_dropLast, List.length_singleton]; omega
      · rw [List.length_append, List.length_singleton]; exact Nat.le_refl _
    · rw [List.length_append, List.length_singleton]; exact Nat.le_refl _
  · omega
theorem shape_len (L : List (Int × List Int)) : (shape L).length ≤ L.length := by
  have key : ∀ (L acc : List (Int × List Int)), (L.foldl shStep acc).length ≤ acc.length + L.length := by
    intro L
    induction L with
    | nil => intro acc; exact Nat.le_refl _
    | cons e L ih =>
      intro acc
      rw [List.foldl_cons, List.length_cons]
      have := ih (shStep acc e)
      have := shStep_len acc e
      omega
  have := key L []
  unfold shape
  simpa using this
theorem shape_all {p : List Int → Prop} {L : List (Int × List Int)} (h : ∀ e ∈ L, p e.2) : ∀ e ∈ shape L, p e.2 := by
  have key : ∀ (L acc : List (Int × List Int)), (∀ e ∈ L, p e.2) → (∀ e ∈ acc, p e.2) → ∀ e ∈ L.foldl shStep acc, p e.2 := by
    intro L
    induction L with
    | nil => intro acc _ h; exact h
    | cons x L ih =>
      intro acc hL ha
      rw [List.foldl_cons]
      refine ih _ (fun e he => hL e (List.mem_cons_of_mem _ he)) ?_
      have hx := hL x List.mem_cons_self
      have snoc : ∀ e ∈ acc ++ [x], p e.2 := fun e he => (List.mem_append.mp he).elim (ha e) fun z => by rw [List.mem_singleton] at z; subst z; exact hx
      unfold shStep
      split
      · split
        · split
          · intro e he
            rcases List.mem_append.mp he with z | z
            · exact ha e (List.dropLast_subset _ z)
            · rw [List.mem_singleton] at z; subst z; exact hx
          · exact snoc
        · exact snoc
      · exact ha
  exact key L [] h (fun e he => by simp at he)
section
variable {P : Program} {w : World} {K : PySem.W.Frag} {mg : Str → Option Value} {base : Heap}
abbrev s__law_shape : Stmt := top 10
theorem sc__law_shape : FnScope ["_law_pieces_here", "_law_found", "_law_many_here", "_law_weights_here"] ["_law_pieces_here"] (defScope s__law_shape) := ⟨rfl, rfl, rfl, by decide +kernel, rfl, by decide +kernel, by decide +kernel⟩
def spShape (K : PySem.W.Frag) : Sp := fun vs H Q _ => ∃ (a : Addr) (xs : List V) (L : List (Int × List Int)), vs = [.ref a] ∧ SqL K H a xs ∧ Wg H xs L ∧ L.length ≤ 1000 ∧ ∀ (b : Addr) (ys : List V) (H' : Hp), H b = none → H' b = some (.lst ys) → Wg H' ys (shape L) → Same H H' → Q (.ref b) H'
theorem ok_shape {f : Addr} {fd : FuncData} (F : Fun K "_law_shape" "_law_shape" s__law_shape f fd) (M : Txt mg) : FnOk P w K mg base CX0 1 f fd ["_law_pieces_here"] (spShape K) := by
  have sc := sc__law_shape
  refine F.ok sc (fun vs H Q E h => ?_) (fun cdv A outer s H vs Q E hr h => ?_)
  · obtain ⟨a, xs, L, rfl, _⟩ := h
    rfl
  · obtain ⟨a, xs, L, rfl, hS, g, hL, k⟩ := h
    refine ⟨_, (pss_cons (ps_set (i := 1) sc.nd rfl (Or.inl rfl) (pe_lst pa_nil))
      (pss_cons (ps_for PassesOwn.never rfl (pi_list (pv 0)) (pg_tup rfl (pgs_cons (pg_name (i := 2) sc.nd rfl (Or.inl rfl)) (pgs_cons (pg_name (i := 3) sc.nd rfl (Or.inl rfl)) pgs_nil)))
      (pss_one (ps_if (pt_cmpR op_gt (pv 2) pe_int (nomark _)) (pss_cons (ps_if (PW.pt (pw_and (pt_cmpR (op_neD hr) (pv 1) (pe_lst pa_nil) (nomark _)) (pw_and1 (pt_cmpR (op_eqD hr) (pe_ix (ix_tupK (K := K)) (pe_ix (ix_listK (K := K)) (pv 1) (pe_un un_neg pe_int) (fun _ _ => rfl)) pe_int (fun _ _ => rfl)) (pv 3) (nomark _))))) (pss_one (ps_set (i := 2) sc.nd rfl (Or.inl rfl) (pe_op op_add (pv 2) (pe_ix (ix_tupK (K := K)) (pe_bm0 PySem.F.plainAttrs_list PySem.F.slot_list_pop PySem.F.type_list_pop mt_pop (pv 1)) pe_int (fun _ _ => rfl))))) pss_nil)
      (pss_one (ps_expr (pe_bm PySem.F.plainAttrs_list PySem.F.slot_list_append PySem.F.type_list_append mt_append (pv 1) (pa_cons (pe_tup (pa_cons (pv 2) (pa_cons (pv 3) pa_nil))) pa_nil))))) pss_nil)))
      (pss_one (ps_ret (pv 1))))), ?_⟩
    refine ⟨(by show 0 ≤ sizeLine; decide), fun b fb => ?_⟩
    refine ⟨_, rfl, a, rfl, ⟨xs, (Same.new (Same.refl H) fb).seq hS⟩, for_list (K := K) (a := a) (xs := xs) (fun i σ H' => ∃ (m v : Option V) (ys : List V), σ = [some (.ref a), some (.ref b), m, v] ∧ H' b = some (.lst ys) ∧ Wg H' ys (shape (L.take i)) ∧ Same H H') ⟨_, _, [], rfl, upd_same, Wg.nil _, Same.new (Same.refl H) fb⟩ (fun i σ H' _ ⟨_, _, _, _, _, _, z⟩ => z.seq hS) ?_ ?_⟩
    · rintro i x σ H1 hx ⟨m, v, ys, rfl, h1b, g1, s1⟩
      obtain ⟨e, hei, q, wq, rfl, hq, hw⟩ := g.at' hx
      have hq1 := s1 _ _ hq
      have hw1 := s1 _ _ hw
      have hi : i < L.length := (List.getElem?_eq_some_iff.mp hei).1
      have lys : ys.length ≤ i := by have := shape_len (L.take i); have := g1.1; rw [List.length_take] at *; omega
      refine ⟨q, _, rfl, SqT.of hq1, rfl, _, _, rfl, _, _, rfl, rfl, ?_⟩
      refine ⟨_, rfl, _, _, rfl, rfl, _, rfl, ite2 (fun hc => ?_) (fun hc => ?_)⟩
      · have hpos : 0 < e.1 := of_decide_eq_true hc
        refine ⟨_, rfl, (by show 0 ≤ sizeLine; decide), fun l hl => ?_⟩
        have nlb : l ≠ b := fun z => by rw [z, h1b] at hl; cases hl
        have s2 : Same H (upd H1 l (.lst [])) := Same.new s1 hl
        have T2 : Tups H1 (upd H1 l (.lst [])) := (Tups.refl H1).new hl
        have h2b : (upd H1 l (.lst [])) b = some (.lst ys) := by rw [upd_ne (Ne.symm nlb)]; exact h1b
        have hlN : (upd H1 l (.lst [])) l = some (.lst []) := upd_same
        have hw2 := T2 _ _ hw1
        have hq2 := T2 _ _ hq1
        have g2 := g1.up T2
        generalize upd H1 l (.lst []) = H2 at s2 T2 h2b hlN hw2 hq2 g2 ⊢
        refine ⟨_, _, g2.di (SqL.of h2b), di_nil (SqL.of hlN), lay_dL _, lay_dL _, dep_dL _, _, rfl, ?_⟩
        rw [eqv_dL]
        cases hlast : (shape (L.take i)).getLast? with
        | none =>
          have hnil : shape (L.take i) = [] := by
            cases z : shape (L.take i) with
            | nil => rfl
            | cons y r => rw [z] at hlast; simp at hlast
          rw [decide_eq_true hnil]
          refine iteF (iteF ?_)
          refine ⟨_, rfl, .inl ⟨rfl, _, SqL.of h2b⟩, _, rfl, _, rfl, (by show 2 ≤ sizeLine; decide), fun p hp => ?_⟩
          have npb : p ≠ b := fun z => by rw [z, h2b] at hp; cases hp
          have h8b := (upd_ne (H := H2) (a := p) (o := .tup [.int e.1, .ref wq]) (Ne.symm npb)).trans h2b
          refine ⟨b, _, _, rfl, rfl, h8b, Nat.lt_of_le_of_lt (by have := lys; omega : ys.length ≤ 1000) (by decide), ?_⟩
          have T8 : Tups H2 (upd H2 p (.tup [.int e.1, .ref wq])) := (Tups.refl _).new hp
          have T9 : Tups (upd H2 p (.tup [.int e.1, .ref wq])) (upd (upd H2 p (.tup [.int e.1, .ref wq])) b (.lst (ys ++ [.ref p]))) := (Tups.refl _).lst h8b
          refine ⟨_, _, _, rfl, upd_same, ?_, Same.own (Same.new s2 hp) fb⟩
          rw [shape_succ hei]; unfold shStep; rw [if_pos hpos]; rw [hlast]; dsimp only
          exact Wg.snoc (g2.up (T8.trans T9)) ⟨p, wq, rfl, T9 _ _ upd_same, T9 _ _ (T8 _ _ hw2)⟩
        | some l0 =>
          have hne : shape (L.take i) ≠ [] := fun z => by rw [z] at hlast; cases hlast
          rw [decide_eq_false hne]
          refine iteT ?_
          have hlen1 : (shape (L.take i)).length - 1 < ys.length := by
            have : 0 < (shape (L.take i)).length := List.length_pos_iff.mpr hne
            have := g2.1; omega
          have hl0 : (shape (L.take i))[ys.length - 1]? = some l0 := by rw [g2.1, ← List.getLast?_eq_getElem?]; exact hlast
          obtain ⟨y0, hy0, q0, w0, rfl, hq0, hw0⟩ := g2.get hl0
          refine ⟨_, rfl, _, rfl, b, _, _, V.ref q0, rfl, rfl, SqL.of h2b, ?_, q0, _, _, _, rfl, rfl, SqT.of hq0, rfl, _, rfl, _, _, di_ints hw0, di_ints hw2, lay_dT _, lay_dT _, (by rw [dep_dT]; decide), _, rfl, ?_⟩
          · have : ys = ys.dropLast ++ [V.ref q0] := drop_get (by rw [List.getLast?_eq_getElem?]; exact hy0)
            rw [this]; exact atI_last _ _
          rw [eqv_dT]
          refine ite2 (fun hE => ?_) (fun hE => ?_)
          · have hE := of_decide_eq_true hE
            refine ⟨_, rfl, _, rfl, .inl ⟨rfl, _, SqL.of h2b⟩, b, ys, V.ref q0, rfl, rfl, h2b, hy0, ?_⟩
            have T3 : Tups H2 (upd H2 b (.lst ys.dropLast)) := (Tups.refl H2).lst h2b
            have s3 : Same H (upd H2 b (.lst ys.dropLast)) := Same.own s2 fb
            have h3b : (upd H2 b (.lst ys.dropLast)) b = some (.lst ys.dropLast) := upd_same
            have hw3 := T3 _ _ hw2
            have hq03 := T3 _ _ hq0
            have g3 := (g2.up T3).pop
            have ld : ys.dropLast.length ≤ i := by rw [List.length_dropLast]; omega
            generalize upd H2 b (.lst ys.dropLast) = H3 at s3 T3 h3b hw3 hq03 g3 ⊢
            refine ⟨q0, _, _, _, rfl, rfl, SqT.of hq03, rfl, _, _, rfl, rfl, ?_⟩
            refine ⟨_, rfl, .inl ⟨rfl, _, SqL.of h3b⟩, _, rfl, _, rfl, (by show 2 ≤ sizeLine; decide), fun p hp => ?_⟩
            have npb : p ≠ b := fun z => by rw [z, h3b] at hp; cases hp
            have h8b := (upd_ne (H := H3) (a := p) (o := .tup [.int (e.1 + l0.1), .ref wq]) (Ne.symm npb)).trans h3b
            refine ⟨b, _, _, rfl, rfl, h8b, Nat.lt_of_le_of_lt (by have := ld; omega : ys.dropLast.length ≤ 1000) (by decide), ?_⟩
            have T8 : Tups H3 (upd H3 p (.tup [.int (e.1 + l0.1), .ref wq])) := (Tups.refl _).new hp
            have T9 : Tups (upd H3 p (.tup [.int (e.1 + l0.1), .ref wq])) (upd (upd H3 p (.tup [.int (e.1 + l0.1), .ref wq])) b (.lst (ys.dropLast ++ [.ref p]))) := (Tups.refl _).lst h8b
            refine ⟨_, _, _, rfl, upd_same, ?_, Same.own (Same.new s3 hp) fb⟩
            rw [shape_succ hei]; unfold shStep; rw [if_pos hpos]; rw [hlast]; dsimp only; rw [if_pos hE]
            exact Wg.snoc (g3.up (T8.trans T9)) ⟨p, wq, rfl, T9 _ _ upd_same, T9 _ _ (T8 _ _ hw3)⟩
          · have hE := of_decide_eq_false (Bool.eq_false_iff.mpr hE)
            refine ⟨_, rfl, .inl ⟨rfl, _, SqL.of h2b⟩, _, rfl, _, rfl, (by show 2 ≤ sizeLine; decide), fun p hp => ?_⟩
            have npb : p ≠ b := fun z => by rw [z, h2b] at hp; cases hp
            have h8b := (upd_ne (H := H2) (a := p) (o := .tup [.int e.1, .ref wq]) (Ne.symm npb)).trans h2b
            refine ⟨b, _, _, rfl, rfl, h8b, Nat.lt_of_le_of_lt (by have := lys; omega : ys.length ≤ 1000) (by decide), ?_⟩
            have T8 : Tups H2 (upd H2 p (.tup [.int e.1, .ref wq])) := (Tups.refl _).new hp
            have T9 : Tups (upd H2 p (.tup [.int e.1, .ref wq])) (upd (upd H2 p (.tup [.int e.1, .ref wq])) b (.lst (ys ++ [.ref p]))) := (Tups.refl _).lst h8b
            refine ⟨_, _, _, rfl, upd_same, ?_, Same.own (Same.new s2 hp) fb⟩
            rw [shape_succ hei]; unfold shStep; rw [if_pos hpos]; rw [hlast]; dsimp only; rw [if_neg hE]
            exact Wg.snoc (g2.up (T8.trans T9)) ⟨p, wq, rfl, T9 _ _ upd_same, T9 _ _ (T8 _ _ hw2)⟩
      · have hc := of_decide_eq_false (Bool.eq_false_iff.mpr hc)
        refine ⟨_, _, ys, rfl, h1b, ?_, s1⟩
        rw [shape_succ hei]
        unfold shStep
        rw [if_neg hc]
        exact g1
    · rintro σ H1 ⟨m, v, ys, rfl, h1b, g1, s1⟩
      have hlx : L.take xs.length = L := by rw [g.1]; exact List.take_length
      rw [hlx] at g1
      exact ⟨_, rfl, k b ys H1 fb h1b g1 s1⟩
abbrev s__law_wide : Stmt := top 11
theorem sc__law_wide : FnScope ["_law_draw"] ["_law_draw"] (defScope s__law_wide) := ⟨rfl, rfl, rfl, by decide +kernel, rfl, by decide +kernel, by decide +kernel⟩
def spWide : Sp := fun vs H Q _ => ∃ (d : Addr), vs = [.ref d] ∧ Purse H d ∧ ∀ (r : Int) (H' : Hp), 1 ≤ r → r ≤ 24 → Purse H' d → But d H H' → Q (.int r) H'
theorem ok_wide {f : Addr} {fd : FuncData} (F : Fun K "_law_wide" "_law_wide" s__law_wide f fd) (M : Txt mg) (G_law_take : Kn P w K mg base "_law_take" 1 ["_law_draw", "_law_many_here"] spTake) : FnOk P w K mg base CX0 2 f fd ["_law_draw"] spWide := by
  have sc := sc__law_wide
  refine F.ok sc (fun vs H Q E h => ?_) (fun cdv A outer s H vs Q E hr h => ?_)
  · obtain ⟨d, rfl, _⟩ := h
    rfl
  · obtain ⟨d, rfl, hP, k⟩ := h
    refine ⟨_, (pss_one (ps_ret (pe_ix (ix_listK (K := K)) (pe_lst (pa_cons (pe_op op_add pe_int (pe_callD G_law_take hr rfl (pa_cons (pv 0) (pa_cons pe_int pa_nil)))) (pa_cons (pe_op op_add pe_int (pe_callD G_law_take hr rfl (pa_cons (pv 0) (pa_cons pe_int pa_nil)))) pa_nil))) (pe_callTy call_int1 (by rfl) M.int boot_int (pa_cons (pe_cmpR op_eq (pe_callD G_law_take hr rfl (pa_cons (pv 0) (pa_cons pe_int pa_nil))) pe_int (nomark _)) pa_nil)) (fun _ _ => rfl)))), ?_⟩
    refine ⟨_, rfl, d, 3, rfl, hP, by decide, by decide, fun r H1 r0 r1 P1 B1 => ⟨_, _, rfl, rfl, ?_⟩⟩
    refine ⟨_, rfl, d, 24, rfl, P1, by decide, by decide, fun r' H2 q0 q1 P2 B2 => ⟨_, _, rfl, rfl, (by show 2 ≤ sizeLine; decide), fun l hl => ?_⟩⟩
    have nl := P2.ne hl
    refine ⟨_, rfl, d, 8, rfl, P2.new hl, by decide, by decide, fun t H3 t0 t1 P3 B3 => ⟨rfl, ?_⟩⟩
    have hl3 := B3 l _ upd_same nl
    have B := ((B1.trans B2).new hl).trans B3
    refine .inr ⟨_, rfl, ?_⟩
    cases decide (V.int t = V.int 5) with
    | true => exact ⟨l, _, _, _, rfl, rfl, SqL.of hl3, rfl, k _ H3 (by omega) (by omega) P3 B⟩
    | false => exact ⟨l, _, _, _, rfl, rfl, SqL.of hl3, rfl, k _ H3 (by omega) (by omega) P3 B⟩
end
end Toy
namespace Toy
open PySem L2 PyProof.Rows
section
variable {P : Program} {w : World} {K : PySem.W.Frag} {mg : Str → Option Value} {base : Heap}
abbrev s__law_weighing : Stmt := top 12
theorem sc__law_weighing : FnScope ["_law_draw", "_law_wide_here", "_law_most"] ["_law_draw", "_law_wide_here"] (defScope s__law_weighing) := ⟨rfl, rfl, rfl, by decide +kernel, rfl, by decide +kernel, by decide +kernel⟩
theorem pieces_wide {wd most : Int} {L : List (Int × List Int)} (h : Pieces wd most L) : ∀ e ∈ shape L, e.2.length = wd.toNat := shape_all (p := fun l => l.length = wd.toNat) fun e he => (h.2 e he).2.2
theorem pieces_good {wd most : Int} {L : List (Int × List Int)} (h : Pieces wd most L) (hm : most ≤ 40) : Good 40 (10 ^ 62) (shape L) := by
  have g := shape_good (C := 10 ^ 59) (by decide) (L := L) fun e he => (h.2 e he).2.1
  have hl : L.length ≤ 40 := by rw [h.1]; omega
  refine ⟨Nat.le_trans g.len hl, g.pos, Int.le_trans g.sum ?_⟩
  have : (L.length : Int) ≤ 40 := by omega
  calc (L.length : Int) * 10 ^ 59 ≤ 40 * 10 ^ 59 := Int.mul_le_mul_of_nonneg_right this (by decide)
    _ ≤ 10 ^ 62 := by decide
def spWeighing : Sp := fun vs H Q _ => ∃ (d : Addr) (wd : Int), vs = [.ref d, .int wd] ∧ Purse H d ∧ 1 ≤ wd ∧ wd ≤ 24 ∧ ∀ (b : Addr) (ys : List V) (wd' most : Int) (L : List (Int × List Int)) (H' : Hp), H b = none → H' b = some (.lst ys) → Wg H' ys (shape L) → Pieces wd most L → most ≤ 40 → Purse H' d → But d H H' → Q (.ref b) H'
theorem ok_weighing {f : Addr} {fd : FuncData} (F : Fun K "_law_weighing" "_law_weighing" s__law_weighing f fd) (M : Txt mg) (G_law_take : Kn P w K mg base "_law_take" 1 ["_law_draw", "_law_many_here"] spTake) (G_law_pieces : Kn P w K mg base "_law_pieces" 4 ["_law_draw", "_law_wide_here", "_law_most"] spPieces) (G_law_shape : Kn P w K mg base "_law_shape" 1 ["_law_pieces_here"] (spShape K)) : FnOk P w K mg base CX0 5 f fd ["_law_draw", "_law_wide_here"] spWeighing := by
  have sc := sc__law_weighing
  refine F.ok sc (fun vs H Q E h => ?_) (fun cdv A outer s H vs Q E hr h => ?_)
  · obtain ⟨d, wd, rfl, _⟩ := h
    rfl
  · obtain ⟨d, wd, rfl, hP, w1, w2, k⟩ := h
    refine ⟨_, (pss_cons (ps_set (i := 2) sc.nd rfl (Or.inl rfl) (pe_ix (ix_listK (K := K)) (pe_lst (pa_cons (pe_callD G_law_take hr rfl (pa_cons (pv 0) (pa_cons pe_int pa_nil))) (pa_cons (pe_callD G_law_take hr rfl (pa_cons (pv 0) (pa_cons pe_int pa_nil))) pa_nil))) (pe_callTy call_int1 (by rfl) M.int boot_int (pa_cons (pe_cmpR op_eq (pe_callD G_law_take hr rfl (pa_cons (pv 0) (pa_cons pe_int pa_nil))) pe_int (nomark _)) pa_nil)) (fun _ _ => rfl)))
      (pss_one (ps_ret (pe_callD G_law_shape hr rfl (pa_cons (pe_callD G_law_pieces hr rfl (pa_cons (pv 0) (pa_cons (pv 1) (pa_cons (pv 2) pa_nil)))) pa_nil))))), ?_⟩
    refine ⟨_, rfl, d, 7, rfl, hP, by decide, by decide, fun r H1 r0 r1 P1 B1 => ?_⟩
    refine ⟨_, rfl, d, 41, rfl, P1, by decide, by decide, fun r' H2 q0 q1 P2 B2 => ⟨(by show 2 ≤ sizeLine; decide), fun l hl => ?_⟩⟩
    have nl := P2.ne hl
    refine ⟨_, rfl, d, 8, rfl, P2.new hl, by decide, by decide, fun t H3 t0 t1 P3 B3 => ⟨rfl, ?_⟩⟩
    have hl3 := B3 l _ upd_same nl
    have B := ((B1.trans B2).new hl).trans B3
    have fin : ∀ most : Int, 0 ≤ most → most ≤ 40 → spPieces [.ref d, .int wd, .int most] H3 (fun y H4 => spShape K ([y] ++ []) H4 Q E0) E0 := fun most m0 m1 => by
      refine ⟨d, wd, most, rfl, P3, w1, w2, m0, by omega, fun a xs L H4 fa ha g p P4 B4 => ?_⟩
      have hl4 : L.length ≤ 40 := by rw [p.1]; omega
      refine ⟨a, xs, L, rfl, SqL.of ha, g, by omega, fun b ys H5 fb hb g5 s5 => ?_⟩
      exact k b ys wd most L H5 ((B.trans B4).free P4 fb) hb g5 p m1 (Same.purse s5 P4) ((B.trans B4).same s5)
    refine .inr ⟨_, rfl, ?_⟩
    cases decide (V.int t = V.int 3) with
    | true => exact ⟨l, _, _, _, rfl, rfl, SqL.of hl3, rfl, _, rfl, _, rfl, _, rfl, fin r' (by omega) (by omega)⟩
    | false => exact ⟨l, _, _, _, rfl, rfl, SqL.of hl3, rfl, _, rfl, _, rfl, _, rfl, fin r (by omega) (by omega)⟩
end
end Toy
namespace Toy
open PySem L2 PyProof.Rows
section
variable {P : Program} {w : World} {K : PySem.W.Frag} {mg : Str → Option Value} {base : Heap}
abbrev s__law_whole : Stmt := top 13
theorem sc__law_whole : FnScope ["_law_thing"] ["_law_thing"] (defScope s__law_whole) := ⟨rfl, rfl, rfl, by decide +kernel, rfl, by decide +kernel, by decide +kernel⟩
def spWholeL : Sp := fun vs H Q _ => ∃ i : Int, vs = [.int i] ∧ Q (.bl true) H
theorem ok_wholeL {f : Addr} {fd : FuncData} (F : Fun K "_law_whole" "_law_whole" s__law_whole f fd) (M : Txt mg) : FnOk P w K mg base CX0 1 f fd ["_law_thing"] spWholeL := by
  have sc := sc__law_whole
  refine F.ok sc (fun vs H Q E h => ?_) (fun cdv A outer s H vs Q E hr h => ?_)
  · obtain ⟨i, rfl, _⟩ := h
    rfl
  · obtain ⟨i, rfl, k⟩ := h
    refine ⟨_, (pss_one (ps_ret (pe_and (pe_callB (call_isinstK (T := "int") (K := K)) (by rfl) M.isinstance boot_isinstance (pa_cons (pv 0) (pa_cons (pe_bltn (v := .ty "int") rfl M.int boot_int rfl) pa_nil))) (pe_one (pe_not (pe_callB (call_isinstK (T := "bool") (K := K)) (by rfl) M.isinstance boot_isinstance (pa_cons (pv 0) (pa_cons (pe_bltn (v := .ty "bool") rfl M.bool boot_bool rfl) pa_nil)))))))), ?_⟩
    refine ⟨_, rfl, V.int i, _, _, rfl, TyOf.int _, kit_ii, _, rfl, iteT ?_⟩
    exact ⟨_, rfl, V.int i, _, _, rfl, TyOf.int _, kit_ib, _, rfl, k⟩
end
end Toy

set_option Elab.async false
set_option linter.all false
set_option maxRecDepth 100000
set_option maxHeartbeats 1000000
/-
  len : mg "len" = none
  range : mg "range" = none
  min : mg "min" = none
  max : mg "max" = none
  isinstance : mg "isinstance" = none
  bool : mg "bool" = none
  int : mg "int" = none
  tuple : mg "tuple" = none
  list : mg "list" = none
  str : mg "str" = none
  all : mg "all" = none
  sum : mg "sum" = none
  sorted : mg "sorted" = none
-/
namespace Toy
open PySem L2 PyProof.Rows
structure Gb (mg : Str → Option Value) : Prop where
  st : mg "set" = none
theorem wg_rev {H : Hp} {xs : List V} {L : List (Int × List Int)} (g : Wg H xs L) : Wg H xs.reverse L.reverse := by
  refine ⟨by rw [List.length_reverse, List.length_reverse]; exact g.1, fun i x e h1 h2 => ?_⟩
  have il := (List.getElem?_eq_some_iff.mp h1).1
  rw [List.length_reverse] at il
  rw [List.getElem?_reverse il] at h1
  rw [List.getElem?_reverse (by rw [← g.1]; exact il), ← g.1] at h2
  exact g.2 _ x e h1 h2
section
variable {P : Program} {w : World} {K : PySem.W.Frag} {mg : Str → Option Value} {base : Heap}
abbrev s_sorts : Stmt := top 1
theorem sc_sorts : FnScope ["weighing", "manys", "many", "weights"] ["weighing"] (defScope s_sorts) := ⟨rfl, rfl, rfl, by decide +kernel, rfl, by decide +kernel, by decide +kernel⟩
def spSorts (K : PySem.W.Frag) : Sp := fun vs H Q _ => ∃ (a : Addr) (xs : List V) (W : List (Int × List Int)), vs = [.ref a] ∧ SqL K H a xs ∧ Wg H xs W ∧ W.length ≤ 60 ∧ ∀ (l : Addr) (ps : List V) (ws : List (List Int × Int)) (H' : Hp), H l = none → H' l = some (.lst ps) → PrL H' ps ws → SortsOf W ws → Same H H' → Q (.ref l) H'
theorem ok_sorts {f : Addr} {fd : FuncData} (F : Fun K "sorts" "sorts" s_sorts f fd) (M : Txt mg) : FnOk P w K mg base CX0 1 f fd ["weighing"] (spSorts K) := by
  have sc := sc_sorts
  refine F.ok sc (fun vs H Q E h => ?_) (fun cdv A outer s H vs Q E hr h => ?_)
  · obtain ⟨a, xs, W, rfl, _⟩ := h
    rfl
  · obtain ⟨a, xs, W, rfl, ha, g, hl, k⟩ := h
    refine ⟨_, (pss_cons (ps_set (i := 1) sc.nd rfl (Or.inl rfl) pe_dnewT)
      (pss_cons (ps_for PassesOwn.never rfl (pi_list (pv 0)) (pg_tup rfl (pgs_cons (pg_name (i := 2) sc.nd rfl (Or.inl rfl)) (pgs_cons (pg_name (i := 3) sc.nd rfl (Or.inl rfl)) pgs_nil)))
      (pss_one (ps_dput (hu_of hr) (pv 1) (pv 3) (pe_op op_add (pe_dget2 (hu_of hr) (pv 1) (pv 3) pe_int ⟨rfl, rfl, rfl, rfl⟩) (pv 2)) rfl)))
      (pss_one (ps_ret (pe_callB (call_sortedI hr) (by rfl) M.sorted boot_sorted (pa_cons (pe_ditems (pv 1)) pa_nil)))))), ?_⟩
    refine fun d fd0 => ?_
    have s1 := Same.new (o := .dT []) (Same.refl H) fd0
    have hd1 : (upd H d (.dT [])) d = some (.dT (([] : List (List Int × Int)).map emb)) := upd_same
    generalize upd H d (.dT []) = H1 at s1 hd1 ⊢
    refine ⟨_, rfl, a, rfl, ⟨_, s1.seq ha⟩, for_list (K := K) (a := a) (xs := xs) (fun i σ H' => ∃ (x2 x3 : Option V) (ks : List (List Int × Int)), σ = [some (.ref a), some (.ref d), x2, x3] ∧ H' d = some (.dT (ks.map emb)) ∧ DIs (W.take i) ks ∧ Same H H') ⟨_, _, [], rfl, hd1, DIs.nil, s1⟩ (fun i σ H' _ h => by obtain ⟨_, _, _, _, _, _, z⟩ := h; exact z.seq ha) ?_ ?_⟩
    · rintro i x σ H2 hx ⟨x2, x3, ks, rfl, hd2, D2, s2⟩
      obtain ⟨e, he, q, wq, rfl, hq, hw⟩ := (g.up s2.tups).at' hx
      have hw' : H2 wq = some (.tup ((e.2.map Sum.inl).map kV)) := by rw [List.map_map]; exact hw
      have kl : ks.length ≤ 1000 := by have := D2.len; rw [List.length_take] at this; omega
      refine ⟨q, _, rfl, SqT.of hq, rfl, _, _, rfl, _, _, rfl, rfl, ?_⟩
      refine ⟨_, rfl, d, rfl, .inr ⟨_, .inl hd2⟩, _, rfl, _, DGet.t (k := e.2.map Sum.inl) hd2 hw', _, rfl, getI ks e.2, e.1, val_emb ks e.2, rfl, _, rfl, _, rfl, d, _, rfl, DPut.t (k := e.2.map Sum.inl) hd2 hw' (Nat.lt_of_le_of_lt (by rw [List.length_map]; exact kl : (ks.map emb).length ≤ 1000) (by decide)), ?_⟩
      refine ⟨_, _, putI ks e.2 (getI ks e.2 + e.1), rfl, ?_, ?_, Same.own s2 fd0⟩
      · rw [upd_same]
        exact congrArg (fun z => some (HO.dT z)) (put_emb ks e.2 (getI ks e.2 + e.1))
      · rw [take_succ' he]
        exact D2.put e
    · rintro σ H2 ⟨x2, x3, ks, rfl, hd2, D2, s2⟩
      rw [List.take_of_length_le (by rw [g.1]; exact Nat.le_refl _)] at D2
      have kl := D2.len
      refine ⟨_, rfl, d, _, rfl, hd2, fun v hv => ⟨v, d, ks, rfl, upd_same, ?_, by omega, fun l ps ws H' f1 old h2 pr pm sr => ?_⟩⟩
      · rw [upd_ne (ne_of_none hd2 hv)]
        exact hd2
      · have s3 := Same.new (o := .ext (IView v d)) s2 hv
        have s4 : Same H H' := s3.trans fun b o q => old b o q
        exact k l ps ws H' (s3.free f1) h2 pr (sorts_of D2 pm sr) s4
abbrev s__law_good : Stmt := top 14
theorem sc__law_good : FnScope ["_law_told", "_law_weighing_here", "_law_kinds", "_law_one"] ["_law_told", "_law_weighing_here"] (defScope s__law_good) := ⟨rfl, rfl, rfl, by decide +kernel, rfl, by decide +kernel, by decide +kernel⟩
def spGood (K : PySem.W.Frag) : Sp := fun vs H Q _ => ∃ (l a : Addr) (ps xs : List V) (W : List (Int × List Int)) (ws : List (List Int × Int)), vs = [.ref l, .ref a] ∧ H l = some (.lst ps) ∧ PrL H ps ws ∧ SqL K H a xs ∧ Wg H xs W ∧ W.length ≤ 60 ∧ SortsOf W ws ∧ (∀ e ∈ W, e.2 ≠ [] ∧ e.2.length ≤ 24) ∧ ∀ H', Same H H' → Q (.bl true) H'
theorem ok_good {f : Addr} {fd : FuncData} (F : Fun K "_law_good" "_law_good" s__law_good f fd) (M : Txt mg) (G_law_whole : Kn P w K mg base "_law_whole" 1 ["_law_thing"] spWholeL) (B : Gb mg) : FnOk P w K mg base CX0 2 f fd ["_law_told", "_law_weighing_here"] (spGood K) := by
  have sc := sc__law_good
  refine F.ok sc (fun vs H Q E h => ?_) (fun cdv A outer s H vs Q E hr h => ?_)
  · obtain ⟨l, a, ps, xs, W, ws, rfl, _⟩ := h
    rfl
  · obtain ⟨l, a, ps, xs, W, ws, rfl, hl, gp, ha, g, wl, so, ne, k⟩ := h
    refine ⟨_, (pss_cons (ps_if (pt_not (pt_val (pe_callB (call_isinstK (T := "list") (K := K)) (by rfl) M.isinstance boot_isinstance (pa_cons (pv 0) (pa_cons (pe_bltn (v := .ty "list") rfl M.list boot_list rfl) pa_nil))))) (pss_one (ps_ret pe_bl)) pss_nil)
      (pss_cons (ps_set (i := 2) sc.nd rfl (Or.inl rfl) (pe_lst pa_nil))
      (pss_cons (ps_for PassesOwn.never rfl (pi_list (pv 0)) (pg_name (i := 3) sc.nd rfl (Or.inr rfl))
      (pss_cons (ps_if (PW.pt (pw_or (pt_not (pt_val (pe_callB (call_isinstK (T := "tuple") (K := K)) (by rfl) M.isinstance boot_isinstance (pa_cons (pv 3) (pa_cons (pe_bltn (v := .ty "tuple") rfl M.tuple boot_tuple rfl) pa_nil))))) (pw_or (pt_cmpR op_ne (pe_callB (call_lenK (K := K)) (by rfl) M.len PySem.boot_len (pa_cons (pv 3) pa_nil)) pe_int (nomark _)) (pw_or1 (pt_not (pt_val (pe_callD G_law_whole hr rfl (pa_cons (pe_ix (ix_tupK (K := K)) (pv 3) pe_int (fun _ _ => rfl)) pa_nil)))))))) (pss_one (ps_ret pe_bl)) pss_nil)
      (pss_cons (ps_if (PW.pt (pw_or (pt_not (pt_val (pe_callB (call_isinstK (T := "tuple") (K := K)) (by rfl) M.isinstance boot_isinstance (pa_cons (pe_ix (ix_tupK (K := K)) (pv 3) pe_int (fun _ _ => rfl)) (pa_cons (pe_bltn (v := .ty "tuple") rfl M.tuple boot_tuple rfl) pa_nil))))) (pw_or1 (pt_not (pt_val (pe_callB (call_all rfl) (by rfl) M.all boot_all (pa_cons (pe_compG (xs := ["_law_figure"]) (Nb := ["_law_told", "_law_weighing_here", "_law_kinds", "_law_one"]) rfl (pi_tup (pe_ix (ix_tupK (K := K)) (pv 3) pe_int (fun _ _ => rfl))) rfl (by show ∀ p ∈ (List.zip ["_law_told", "_law_weighing_here", "_law_kinds", "_law_one"] ["_law_told", "_law_weighing_here", "_law_kinds", "_law_one"] : List (Str × Str)), _; decide +kernel) (by decide +kernel) (fun cl C s₂ H₂ fp => (pg_name (i := 0) (by show List.Nodup (["_law_figure", "_law_told", "_law_weighing_here", "_law_kinds", "_law_one"] : List Str); decide +kernel) rfl (Or.inl (lookup_relabel_local rfl)) (Or.inr (lookup_relabel_local rfl)))) (fun cl C s₂ H₂ fp => pif_nil) (fun cl C s₂ H₂ fp => (pe_callD G_law_whole hr rfl (pa_cons (pv 0) pa_nil))) (by decide +kernel) rfl (by decide +kernel) (by show ∀ y ∈ (_ : List (Str × NameKind)), y.2 = NameKind.free → (defScope s__law_good).names.lookup y.1 = some .cell; decide +kernel)) pa_nil))))))) (pss_one (ps_ret pe_bl)) pss_nil)
      (pss_cons (ps_expr (pe_bm PySem.F.plainAttrs_list PySem.F.slot_list_append PySem.F.type_list_append mt_append (pv 2) (pa_cons (pe_ix (ix_tupK (K := K)) (pv 3) pe_int (fun _ _ => rfl)) pa_nil)))
      (pss_one (ps_if (pt_cmpR op_ne (pe_ix (ix_tupK (K := K)) (pv 3) pe_int (fun _ _ => rfl)) (pe_callB (call_sum rfl) (by rfl) M.sum boot_sum (pa_cons (pe_compG (xs := ["_law_many_here", "_law_weights_here"]) (Nb := ["_law_told", "_law_weighing_here", "_law_kinds", "_law_one"]) rfl (pi_list (pv 1)) rfl (by show ∀ p ∈ (List.zip ["_law_told", "_law_weighing_here", "_law_kinds", "_law_one"] ["_law_told", "_law_weighing_here", "_law_kinds", "_law_one"] : List (Str × Str)), _; decide +kernel) (by decide +kernel) (fun cl C s₂ H₂ fp => (pg_tupK (K := K) (n := 2) rfl (pgs_cons (pg_name (i := 0) (by show List.Nodup (["_law_many_here", "_law_weights_here", "_law_told", "_law_weighing_here", "_law_kinds", "_law_one"] : List Str); decide +kernel) rfl (Or.inl (lookup_relabel_local rfl)) (Or.inr (lookup_relabel_local rfl))) (pgs_cons (pg_name (i := 1) (by show List.Nodup (["_law_many_here", "_law_weights_here", "_law_told", "_law_weighing_here", "_law_kinds", "_law_one"] : List Str); decide +kernel) rfl (Or.inl (lookup_relabel_local rfl)) (Or.inr (lookup_relabel_local rfl))) pgs_nil)))) (fun cl C s₂ H₂ fp => (pif_one (pt_cmpR (op_eqDK (K := K) hr) (pv 1) (pe_ix (ix_tupK (K := K)) (pv 5) pe_int (fun _ _ => rfl)) (nomark _)))) (fun cl C s₂ H₂ fp => (pv 0)) (by decide +kernel) rfl (by decide +kernel) (by show ∀ y ∈ (_ : List (Str × NameKind)), y.2 = NameKind.free → (defScope s__law_good).names.lookup y.1 = some .cell; decide +kernel)) pa_nil)) (nomark _)) (pss_one (ps_ret pe_bl)) pss_nil))))))
      (pss_one (ps_ret (pe_cmpR (op_eqD hr) (pv 2) (pe_sortedSetT hr rfl (pe_compG (xs := ["_law_many_here", "_law_weights_here"]) (Nb := ["_law_told", "_law_weighing_here", "_law_kinds", "_law_one"]) rfl (pi_list (pv 1)) rfl (by show ∀ p ∈ (List.zip ["_law_told", "_law_weighing_here", "_law_kinds", "_law_one"] ["_law_told", "_law_weighing_here", "_law_kinds", "_law_one"] : List (Str × Str)), _; decide +kernel) (by decide +kernel) (fun cl C s₂ H₂ fp => (pg_tupK (K := K) (n := 2) rfl (pgs_cons (pg_name (i := 0) (by show List.Nodup (["_law_many_here", "_law_weights_here", "_law_told", "_law_weighing_here", "_law_kinds", "_law_one"] : List Str); decide +kernel) rfl (Or.inl (lookup_relabel_local rfl)) (Or.inr (lookup_relabel_local rfl))) (pgs_cons (pg_name (i := 1) (by show List.Nodup (["_law_many_here", "_law_weights_here", "_law_told", "_law_weighing_here", "_law_kinds", "_law_one"] : List Str); decide +kernel) rfl (Or.inl (lookup_relabel_local rfl)) (Or.inr (lookup_relabel_local rfl))) pgs_nil)))) (fun cl C s₂ H₂ fp => pif_nil) (fun cl C s₂ H₂ fp => (pv 1)) (by decide +kernel) rfl (by decide +kernel) (by show ∀ y ∈ (_ : List (Str × NameKind)), y.2 = NameKind.free → (defScope s__law_good).names.lookup y.1 = some .cell; decide +kernel)) rfl M.sorted rfl B.st) (nomark _))))))), ?_⟩
    refine ⟨_, rfl, V.ref l, _, _, rfl, TyOf.lst hl, kit_ll, _, rfl, iteF ?_⟩
    refine ⟨(by show 0 ≤ sizeLine; decide), fun kd hkd => ?_⟩
    have s1 := Same.new (o := .lst []) (Same.refl H) hkd
    have hk1 : (upd H kd (.lst [])) kd = some (.lst []) := upd_same
    generalize upd H kd (.lst []) = H1 at s1 hk1 ⊢
    have wsl : ws.length ≤ 60 := by
      have := so.keys.length_eq
      rw [List.length_map] at this
      have := ddT_len (W.map (·.2))
      rw [List.length_map] at this
      omega
    refine ⟨_, rfl, l, rfl, ⟨_, SqL.of (s1 _ _ hl)⟩, for_list (K := K) (a := l) (xs := ps) (fun i σ H' => ∃ (x3 : Option V) (ks : List V), σ = [some (.ref l), some (.ref a), some (.ref kd), x3] ∧ H' kd = some (.lst ks) ∧ TuL H' ks ((ws.take i).map (·.1)) ∧ Same H H') ⟨_, [], rfl, hk1, TuL.nil _, s1⟩ (fun i σ H' _ h => by obtain ⟨_, _, _, _, _, z⟩ := h; exact SqL.of (z _ _ hl)) ?_ ?_⟩
    · rintro i x σ H2 hx ⟨x3, ks, rfl, hk2, tk2, s2⟩
      have ip := (List.getElem?_eq_some_iff.mp hx).1
      obtain ⟨u, hu⟩ : ∃ u, ws[i]? = some u := ⟨_, List.getElem?_eq_getElem (by rw [← gp.1]; exact ip)⟩
      obtain ⟨p, b, rfl, hp0, hb0⟩ := gp.2 i x u hx hu
      have hp := s2 _ _ hp0
      have hb := s2 _ _ hb0
      have um : u.1 ∈ W.map (·.2) := by
        rw [← ddT_mem]
        exact so.keys.subset (List.mem_map.mpr ⟨u, List.mem_of_getElem? hu, rfl⟩)
      obtain ⟨e0, he0, eu⟩ := List.mem_map.mp um
      have u24 : u.1.length ≤ 24 := by rw [← eu]; exact (ne e0 he0).2
      have ksl : ks.length ≤ 60 := by rw [tk2.1, List.length_map, List.length_take]; omega
      refine ⟨_, rfl, V.ref p, _, _, rfl, TyOf.tup hp, kit_tt, _, rfl, iteF ?_⟩
      refine ⟨_, rfl, p, _, rfl, .inr (SqT.of hp), rfl, _, rfl, iteF ?_⟩
      refine ⟨_, rfl, p, _, _, _, rfl, rfl, SqT.of hp, rfl, u.2, rfl, _, rfl, iteF ?_⟩
      refine ⟨_, rfl, p, _, _, _, rfl, rfl, SqT.of hp, rfl, V.ref b, _, _, rfl, TyOf.tup hb, kit_tt, _, rfl, iteF ?_⟩
      refine ⟨_, rfl, p, _, _, _, rfl, rfl, SqT.of hp, rfl, b, rfl, ⟨_, SqT.of hb⟩, compT (K := K) (a := b) (xs := u.1.map V.int) (fun i ys H' => ys = List.replicate i (V.bl true) ∧ H2 = H') ⟨rfl, rfl⟩ (by rw [List.length_map]; omega) (fun n ys H' h => by obtain ⟨rfl, _⟩ := h; exact Nat.le_of_eq List.length_replicate) (fun n ys H' _ h => by rw [← h.2]; exact SqT.of hb) ?_ ?_⟩
      · rintro n x ys' H' pre hpl hx ⟨rfl, rfl⟩
        rcases pre with _ | ⟨q0, _ | ⟨q1, pre⟩⟩
        · cases hpl
        · obtain ⟨z, rfl⟩ : ∃ z, x = V.int z := by
            rw [List.getElem?_map] at hx
            cases zz : u.1[n]? with
            | none => rw [zz] at hx; cases hx
            | some m => rw [zz] at hx; cases hx; exact ⟨m, rfl⟩
          refine ⟨⟨[some _], rfl, rfl⟩, ?_⟩
          unfold tYes
          dsimp only
          rw [if_pos (rfl : true = true)]
          refine ⟨_, rfl, z, rfl, ?_, rfl⟩
          rw [List.replicate_succ']
        · cases hpl
      · rintro ys' H' ⟨rfl, rfl⟩ D hD
        have s3 := Same.new (o := .lst (List.replicate (u.1.map V.int).length (V.bl true))) (Same.refl H2) hD
        refine ⟨D, List.replicate (u.1.map V.int).length true, rfl, (by rw [List.map_replicate]; exact SqL.of upd_same), ?_⟩
        have hal : (List.replicate (u.1.map V.int).length true).all id = true := by simp
        rw [hal]
        generalize upd H2 D (.lst (List.replicate (u.1.map V.int).length (V.bl true))) = H3 at s3 ⊢
        refine ⟨_, rfl, iteF ?_⟩
        have hk3 := s3 _ _ hk2
        have hp3 := s3 _ _ hp
        have hb3 := s3 _ _ hb
        refine ⟨_, rfl, .inl ⟨rfl, _, SqL.of hk3⟩, _, rfl, p, _, _, _, rfl, rfl, SqT.of hp3, rfl, kd, ks, _, rfl, rfl, hk3, Nat.lt_of_le_of_lt (show ks.length ≤ 1000 by omega) (by decide), ?_⟩
        have T4 : Tups H3 (upd H3 kd (.lst (ks ++ [.ref b]))) := (Tups.refl H3).lst hk3
        have tk4 : TuL (upd H3 kd (.lst (ks ++ [.ref b]))) (ks ++ [.ref b]) ((ws.take (i + 1)).map (·.1)) := by
          rw [take_succ' hu, List.map_append]
          exact TuL.snoc (TuL.up tk2 (s3.tups.trans T4)) (T4 _ _ hb3)
        have s4 : Same H (upd H3 kd (.lst (ks ++ [.ref b]))) := Same.own (s2.trans s3) hkd
        have hk4 : (upd H3 kd (.lst (ks ++ [.ref b]))) kd = some (.lst (ks ++ [.ref b])) := upd_same
        have hp4 := T4 _ _ hp3
        have hb4 := T4 _ _ hb3
        generalize upd H3 kd (.lst (ks ++ [.ref b])) = H4 at s4 hk4 tk4 hp4 hb4 ⊢
        have g4 := g.up s4.tups
        refine ⟨_, rfl, p, _, _, _, rfl, rfl, SqT.of hp4, rfl, _, rfl, a, rfl, ⟨_, s4.seq ha⟩, compL (K := K) (a := a) (xs := xs) (fun i ys H' => ys = (((W.take i).filter fun e => decide (e.2 = u.1)).map (·.1)).map V.int ∧ H4 = H') ⟨rfl, rfl⟩ (by rw [g.1]; omega) (fun n ys H' h => ?_) (fun n ys H' _ h => by rw [← h.2]; exact s4.seq ha) ?_ ?_⟩
        · rw [h.1, List.length_map, List.length_map]
          exact Nat.le_trans (List.length_filter_le _ _) (by rw [List.length_take]; exact Nat.min_le_left _ _)
        · rintro n x ys' H' pre hpl hx ⟨rfl, rfl⟩
          obtain ⟨e, he, q, wq, rfl, hq, hw⟩ := g4.at' hx
          rcases pre with _ | ⟨q0, _ | ⟨q1, _ | ⟨q2, pre⟩⟩⟩
          · cases hpl
          · cases hpl
          · refine ⟨q, _, rfl, SqT.of hq, rfl, _, _, rfl, _, _, rfl, rfl, ⟨[some _, some _], rfl, rfl⟩, ?_⟩
            refine ⟨_, rfl, _, rfl, p, _, _, _, rfl, rfl, SqT.of hp4, rfl, _, _, di_ints hw, di_ints hb4, lay_dT _, lay_dT _, (by rw [dep_dT]; decide), _, rfl, ?_⟩
            rw [eqv_dT]
            dsimp only
            rw [take_succ' he, List.filter_append]
            by_cases z : e.2 = u.1
            · rw [decide_eq_true z, if_pos (rfl : true = true)]
              refine ⟨_, rfl, ?_, rfl⟩
              have e1 : [e].filter (fun e => decide (e.2 = u.1)) = [e] := by simp [z]
              rw [e1, List.map_append, List.map_append]
              rfl
            · rw [decide_eq_false z, if_neg (by decide)]
              have e1 : [e].filter (fun e => decide (e.2 = u.1)) = [] := by simp [z]
              rw [e1, List.append_nil]
              exact ⟨rfl, rfl⟩
          · cases hpl
        · rintro ys' H' ⟨rfl, rfl⟩ D2 hD2
          rw [List.take_of_length_le (by rw [g.1]; exact Nat.le_refl _)]
          have s5 := Same.new (o := .lst (((W.filter fun e => decide (e.2 = u.1)).map (·.1)).map V.int)) (Same.refl H4) hD2
          refine ⟨D2, (W.filter fun e => decide (e.2 = u.1)).map (·.1), rfl, SqL.of upd_same, ?_⟩
          have ev : u.2 = ((W.filter fun e => decide (e.2 = u.1)).map (·.1)).sum := so.val u (List.mem_of_getElem? hu)
          rw [← ev]
          refine ⟨rfl, _, rfl, ?_⟩
          rw [decide_eq_true rfl]
          refine iteF ?_
          exact ⟨_, _, rfl, s5 _ _ hk4, TuL.up tk4 s5.tups, s4.trans s5⟩
    · rintro σ H2 ⟨x3, ks, rfl, hk2, tk2, s2⟩
      rw [List.take_of_length_le (by rw [gp.1]; exact Nat.le_refl _)] at tk2
      have g2 := g.up s2.tups
      refine ⟨_, rfl, _, rfl, a, rfl, ⟨_, s2.seq ha⟩, compL (K := K) (a := a) (xs := xs) (fun i ys H' => TuL H' ys ((W.take i).map (·.2)) ∧ H2 = H') ⟨TuL.nil _, rfl⟩ (by rw [g.1]; omega) (fun n ys H' h => ?_) (fun n ys H' _ h => by rw [← h.2]; exact s2.seq ha) ?_ ?_⟩
      · rw [h.1.1, List.length_map, List.length_take]; exact Nat.min_le_left _ _
      · rintro n x ys' H' pre hpl hx ⟨tz, rfl⟩
        obtain ⟨e, he, q, wq, rfl, hq, hw⟩ := g2.at' hx
        rcases pre with _ | ⟨q0, _ | ⟨q1, _ | ⟨q2, pre⟩⟩⟩
        · cases hpl
        · cases hpl
        · refine ⟨q, _, rfl, SqT.of hq, rfl, _, _, rfl, _, _, rfl, rfl, ⟨[some _, some _], rfl, rfl⟩, ?_⟩
          unfold tYes
          dsimp only
          rw [if_pos (rfl : true = true)]
          refine ⟨_, rfl, ?_, rfl⟩
          rw [take_succ' he, List.map_append]
          exact TuL.snoc tz hw
        · cases hpl
      · rintro ys' H' ⟨tz, rfl⟩ D2 hD2
        rw [List.take_of_length_le (by rw [g.1]; exact Nat.le_refl _)] at tz
        have s3 := Same.new (o := .lst ys') (Same.refl H2) hD2
        refine ⟨D2, ys', W.map (·.2), rfl, SqL.of upd_same, TuL.up tz s3.tups, by rw [List.length_map]; omega, fun v hv => ?_, fun q2 zs vs hq2 tw pw sw => ?_⟩
        · obtain ⟨e, he, rfl⟩ := List.mem_map.mp hv
          exact (ne e he).1
        · have s4 := Same.new (o := .lst zs) s3 hq2
          have ew := lex_uniL (so.keys.trans pw.symm) so.rise sw
          rw [ew] at tk2
          have tw4 := TuL.up tw (Same.new (o := .lst zs) (Same.refl _) hq2).tups
          refine ⟨_, _, (TuL.up tk2 s4.tups).di (SqL.of (s4 _ _ hk2)), tw4.di (SqL.of upd_same), lay_dTs _, lay_dTs _, dep_dTs _, ?_⟩
          rw [eqv_dTs, decide_eq_true rfl]
          exact k _ (s2.trans s4)
abbrev s_law : Stmt := top 15
theorem sc_law : FnScope ["_law_script", "_law_k", "_law_draw", "_law_weighing_here", "_law_handed", "_law_told", "_law_kept"] ["_law_script"] (defScope s_law) := ⟨rfl, rfl, rfl, by decide +kernel, rfl, by decide +kernel, by decide +kernel⟩
def spLaw (K : PySem.W.Frag) : Sp := fun vs H Q _ => ∃ (a : Addr) (ns : List Int), vs = [.ref a] ∧ SqL K H a (ns.map V.int) ∧ ns.length ≤ 63 ∧ ∀ H', Q (.bl true) H'
theorem ok_law {f : Addr} {fd : FuncData} (F : Fun K "law" "law" s_law f fd) (M : Txt mg) (G_law_purse : Kn P w K mg base "_law_purse" 2 ["_law_script", "_law_at"] (spPurse K)) (G_law_wide : Kn P w K mg base "_law_wide" 2 ["_law_draw"] spWide) (G_law_weighing : Kn P w K mg base "_law_weighing" 5 ["_law_draw", "_law_wide_here"] spWeighing) (Gsorts : Kn P w K mg base "sorts" 1 ["weighing"] (spSorts K)) (G_law_good : Kn P w K mg base "_law_good" 2 ["_law_told", "_law_weighing_here"] (spGood K)) : FnOk P w K mg base CX0 7 f fd ["_law_script"] (spLaw K) := by
  have sc := sc_law
  refine F.ok sc (fun vs H Q E h => ?_) (fun cdv A outer s H vs Q E hr h => ?_)
  · obtain ⟨a, ns, rfl, _⟩ := h
    rfl
  · obtain ⟨a, ns, rfl, hS, hlen, k⟩ := h
    refine ⟨_, (pss_cons (ps_for PassesOwn.never rfl (pi_range1 rfl M.range (pa_cons (pe_op op_add pe_int (pe_callB (call_min2 rfl) (by rfl) M.min boot_min (pa_cons pe_int (pa_cons (pe_callB (call_lenK (K := K)) (by rfl) M.len PySem.boot_len (pa_cons (pv 0) pa_nil)) pa_nil)))) pa_nil)) (pg_name (i := 1) sc.nd rfl (Or.inl rfl))
      (pss_cons (ps_set (i := 2) sc.nd rfl (Or.inl rfl) (pe_callD G_law_purse hr rfl (pa_cons (pv 0) (pa_cons (pv 1) pa_nil))))
      (pss_cons (ps_set (i := 3) sc.nd rfl (Or.inl rfl) (pe_callD G_law_weighing hr rfl (pa_cons (pv 2) (pa_cons (pe_callD G_law_wide hr rfl (pa_cons (pv 2) pa_nil)) pa_nil))))
      (pss_cons (ps_set (i := 4) sc.nd rfl (Or.inl rfl) (pe_callTy call_list_of (by rfl) M.list boot_list (pa_cons (pv 3) pa_nil)))
      (pss_cons (ps_set (i := 5) sc.nd rfl (Or.inl rfl) (pe_callD Gsorts hr rfl (pa_cons (pv 4) pa_nil)))
      (pss_cons (ps_if (PW.pt (pw_or (pt_not (pt_val (pe_callD G_law_good hr rfl (pa_cons (pv 5) (pa_cons (pv 3) pa_nil))))) (pw_or1 (pt_cmpR (op_neD hr) (pv 4) (pv 3) (nomark _))))) (pss_one (ps_ret pe_bl)) pss_nil)
      (pss_cons (ps_set (i := 6) sc.nd rfl (Or.inl rfl) (pe_callTy call_list_of (by rfl) M.list boot_list (pa_cons (pv 5) pa_nil)))
      (pss_cons (ps_expr (pe_bm PySem.F.plainAttrs_list PySem.F.slot_list_append PySem.F.type_list_append mt_append (pv 5) (pa_cons (pe_tup (pa_cons pe_int (pa_cons pe_int pa_nil))) pa_nil)))
      (pss_one (ps_if (PW.pt (pw_or (pt_cmpR (op_neD hr) (pe_callD Gsorts hr rfl (pa_cons (pv 4) pa_nil)) (pv 6) (nomark _)) (pw_or1 (pt_cmpR (op_neD hr) (pe_callD Gsorts hr rfl (pa_cons (pe_rev (pv 3) (po_some (pe_un un_neg pe_int))) pa_nil)) (pv 6) (nomark _))))) (pss_one (ps_ret pe_bl)) pss_nil))))))))))
      (pss_one (ps_ret pe_bl))), ?_⟩
    refine ⟨_, rfl, a, _, rfl, .inl hS, _, _, rfl, _, _, rfl, rfl, ?_⟩
    have hn : (1 + (if ((ns.map V.int).length : Int) < 6 then ((ns.map V.int).length : Int) else 6)).toNat ≤ 7 ∧ 1 + (if ((ns.map V.int).length : Int) < 6 then ((ns.map V.int).length : Int) else 6) < 2 ^ 62 ∧ -(2 ^ 62) ≤ 1 + (if ((ns.map V.int).length : Int) < 6 then ((ns.map V.int).length : Int) else 6) := by
      split <;> omega
    refine ⟨_, rfl, hn.2.2, hn.2.1, for_range (fun i σ H' => ∃ (x1 x2 x3 x4 x5 x6 : Option V), σ = [some (.ref a), x1, x2, x3, x4, x5, x6] ∧ Same H H') ⟨_, _, _, _, _, _, rfl, Same.refl H⟩ ?_ ?_⟩
    · rintro i σ H' hi ⟨x1, x2, x3, x4, x5, x6, rfl, s0⟩
      refine ⟨_, rfl, _, rfl, a, ns, _, rfl, s0.seq hS, by omega, by omega, fun d H1 fd0 P1 S1 => ?_⟩
      have s1 := s0.trans S1
      have fd1 := s0.free fd0
      refine ⟨_, rfl, _, rfl, d, rfl, P1, fun wd H2 w1 w2 P2 B2 => ?_⟩
      have s2 : Same H H2 := Same.but s1 fd1 B2
      refine ⟨d, wd, rfl, P2, w1, w2, fun b ys _ most L0 H3 fb hb g pc hm P3 B3 => ?_⟩
      have s3 : Same H H3 := Same.but s2 fd1 B3
      have gd := pieces_good pc hm
      have gw := pieces_wide pc
      have hlen := gd.len
      generalize shape L0 = L at g gd gw hlen
      have ne : ∀ e ∈ L, e.2 ≠ [] ∧ e.2.length ≤ 24 := fun e he => by
        have := gw e he
        refine ⟨fun z => ?_, by omega⟩
        rw [z] at this
        simp at this
        omega
      refine ⟨_, rfl, b, ys, rfl, .inl (SqL.of hb), fun c hc => ?_⟩
      have s4 : Same H3 (upd H3 c (.lst ys)) := Same.new (Same.refl H3) hc
      have hb4 := s4 _ _ hb
      have hc4 : (upd H3 c (.lst ys)) c = some (.lst ys) := upd_same
      have g4 := g.up s4.tups
      generalize upd H3 c (.lst ys) = H4 at s4 hb4 hc4 g4 ⊢
      refine ⟨_, rfl, c, ys, L, rfl, SqL.of hc4, g4, by omega, fun l ps ws H5 f5 h5 pr5 so5 s5 => ?_⟩
      have hb5 := s5 _ _ hb4
      have hc5 := s5 _ _ hc4
      have g5 := g4.up s5.tups
      refine ⟨_, rfl, _, rfl, l, b, ps, ys, L, ws, rfl, h5, pr5, SqL.of hb5, g5, by omega, so5, ne, fun H6 s6 => ⟨_, rfl, iteF ?_⟩⟩
      have hb6 := s6 _ _ hb5
      have hc6 := s6 _ _ hc5
      have g6 := g5.up s6.tups
      refine ⟨_, rfl, _, rfl, _, _, g6.di (SqL.of hc6), g6.di (SqL.of hb6), lay_dL _, lay_dL _, dep_dL _, _, rfl, ?_⟩
      rw [eqv_dL, decide_eq_true rfl]
      refine iteF ?_
      refine ⟨_, rfl, l, ps, rfl, .inl (SqL.of (s6 _ _ h5)), fun kp hkp => ?_⟩
      have s7 : Same H6 (upd H6 kp (.lst ps)) := Same.new (Same.refl H6) hkp
      have hk7 : (upd H6 kp (.lst ps)) kp = some (.lst ps) := upd_same
      generalize upd H6 kp (.lst ps) = H7 at s7 hk7 ⊢
      have s57 := s6.trans s7
      have h7 := s57 _ _ h5
      refine ⟨_, rfl, .inl ⟨rfl, _, SqL.of h7⟩, (by show 2 ≤ sizeLine; decide), fun q hq => ?_⟩
      have s8 := Same.new (o := .tup [.int 1, .int 2]) (Same.refl H7) hq
      generalize upd H7 q (.tup [.int 1, .int 2]) = H8 at s8 ⊢
      have h8 := s8 _ _ h7
      have s58 := s57.trans s8
      have psl : ps.length ≤ 60 := by
        rw [pr5.1]
        have := so5.keys.length_eq
        rw [List.length_map] at this
        have := ddT_len (L.map (·.2))
        rw [List.length_map] at this
        omega
      refine ⟨l, ps, _, rfl, rfl, h8, Nat.lt_of_le_of_lt (show ps.length ≤ 1000 by omega) (by decide), ?_⟩
      have T9 : Tups H8 (upd H8 l (.lst (ps ++ [.ref q]))) := (Tups.refl H8).lst h8
      have nl : ∀ (z : Addr) (o : HO), H4 z = some o → (upd H8 l (.lst (ps ++ [.ref q]))) z = some o := fun z o hz => by
        rw [upd_ne (ne_of_none hz f5)]
        exact s58 _ _ (s5 _ _ hz)
      have nk : kp ≠ l := fun z => by rw [z] at hkp; rw [s6 _ _ h5] at hkp; cases hkp
      have hk9 : (upd H8 l (.lst (ps ++ [.ref q]))) kp = some (.lst ps) := by rw [upd_ne nk]; exact s8 _ _ hk7
      have pr9 := pr5.up (s58.tups.trans T9)
      have g9 := g4.up (H' := upd H8 l (.lst (ps ++ [.ref q]))) fun z o hz => nl z _ hz
      have s9 : Same H (upd H8 l (.lst (ps ++ [.ref q]))) := s3.trans fun z o hz => nl z o (s4 _ _ hz)
      have hb9 := nl _ _ hb4
      have hc9 := nl _ _ hc4
      generalize upd H8 l (.lst (ps ++ [.ref q])) = H9 at hk9 pr9 g9 s9 hb9 hc9 ⊢
      refine ⟨_, rfl, c, ys, L, rfl, SqL.of hc9, g9, by omega, fun l2 ps2 ws2 HA fA hA prA soA sA => ?_⟩
      have e2 := sorts_uni soA so5
      subst e2
      refine ⟨_, rfl, _, _, prA.di (SqL.of hA), (pr9.up sA.tups).di (SqL.of (sA _ _ hk9)), lay_dPs _, lay_dPs _, dep_dPs _, _, rfl, ?_⟩
      rw [eqv_dPs]
      refine iteF ?_
      refine ⟨_, rfl, _, rfl, _, rfl, rfl, b, ys, rfl, SqL.of (sA _ _ hb9), fun u hu => ?_⟩
      have sB := Same.new (o := .lst ys.reverse) sA hu
      have hu7 : (upd HA u (.lst ys.reverse)) u = some (.lst ys.reverse) := upd_same
      generalize upd HA u (.lst ys.reverse) = HB at sB hu7 ⊢
      refine ⟨u, ys.reverse, L.reverse, rfl, SqL.of hu7, wg_rev (g9.up sB.tups), by rw [List.length_reverse]; omega, fun l3 ps3 ws3 HC fC hC prC soC sC => ?_⟩
      have e3 := sorts_uni (sorts_rev soC) so5
      subst e3
      have sBC := sB.trans sC
      refine ⟨_, rfl, _, _, prC.di (SqL.of hC), (pr9.up sBC.tups).di (SqL.of (sBC _ _ hk9)), lay_dPs _, lay_dPs _, dep_dPs _, _, rfl, ?_⟩
      rw [eqv_dPs]
      refine iteF ?_
      exact ⟨_, _, _, _, _, _, rfl, s9.trans sBC⟩
    · rintro σ H' ⟨x1, x2, x3, x4, x5, x6, rfl, s0⟩
      exact k H'
end
theorem all_mk {l : PySem.W.OpenLaw} {w : World} {K : PySem.W.Frag} {h : Heap} {mg : Str → Option Value} {fa f0 f1 f2 f3 f4 f5 f6 f7 f8 f9 f10 f11 f12 f13 : Addr} (X : K.In h) (G : h.Ns mainGlobals mg) (hfa : mg "law" = some (.ref fa))
    {od0 an0 od1 an1 od2 an2 od3 an3 od4 an4 od5 an5 od6 an6 od7 an7 od8 an8 od9 an9 od10 an10 od11 an11 od12 an12 od13 an13 : Option Addr} {sl0 sl1 sl2 sl3 sl4 sl5 sl6 sl7 sl8 sl9 sl10 sl11 sl12 sl13 : Array (Option Value)} {oc0 kV0 dc0 pm0 cd0 ct0 oc1 kV1 dc1 pm1 cd1 ct1 oc2 kV2 dc2 pm2 cd2 ct2 oc3 kV3 dc3 pm3 cd3 ct3 oc4 kV4 dc4 pm4 cd4 ct4 oc5 kV5 dc5 pm5 cd5 ct5 oc6 kV6 dc6 pm6 cd6 ct6 oc7 kV7 dc7 pm7 cd7 ct7 oc8 kV8 dc8 pm8 cd8 ct8 oc9 kV9 dc9 pm9 cd9 ct9 oc10 kV10 dc10 pm10 cd10 ct10 oc11 kV11 dc11 pm11 cd11 ct11 oc12 kV12 dc12 pm12 cd12 ct12 oc13 kV13 dc13 pm13 cd13 ct13 : Value}
    (a0 : PySem.W.nsIn K mainGlobals "sorts" = some (some (.ref f0))) (l0 : K.lookup f0 = some ⟨oc0, od0, .func (PySem.W.fnOf "sorts" "sorts" (defArgs s_sorts) (defBody s_sorts) (defScope s_sorts) .none kV0 dc0 pm0 an0 cd0 ct0), sl0⟩) (c0 : PySem.W.codeIn K cd0 "sorts" = true) (k0 : PySem.W.keepIn K (.ref f0) = true)
    (a1 : PySem.W.nsIn K mainGlobals "_law_cell_at" = some (some (.ref f1))) (l1 : K.lookup f1 = some ⟨oc1, od1, .func (PySem.W.fnOf "_law_cell_at" "_law_cell_at" (defArgs s__law_cell_at) (defBody s__law_cell_at) (defScope s__law_cell_at) .none kV1 dc1 pm1 an1 cd1 ct1), sl1⟩) (c1 : PySem.W.codeIn K cd1 "_law_cell_at" = true) (k1 : PySem.W.keepIn K (.ref f1) = true)
    (a2 : PySem.W.nsIn K mainGlobals "_law_purse" = some (some (.ref f2))) (l2 : K.lookup f2 = some ⟨oc2, od2, .func (PySem.W.fnOf "_law_purse" "_law_purse" (defArgs s__law_purse) (defBody s__law_purse) (defScope s__law_purse) .none kV2 dc2 pm2 an2 cd2 ct2), sl2⟩) (c2 : PySem.W.codeIn K cd2 "_law_purse" = true) (k2 : PySem.W.keepIn K (.ref f2) = true)
    (a3 : PySem.W.nsIn K mainGlobals "_law_take" = some (some (.ref f3))) (l3 : K.lookup f3 = some ⟨oc3, od3, .func (PySem.W.fnOf "_law_take" "_law_take" (defArgs s__law_take) (defBody s__law_take) (defScope s__law_take) .none kV3 dc3 pm3 an3 cd3 ct3), sl3⟩) (c3 : PySem.W.codeIn K cd3 "_law_take" = true) (k3 : PySem.W.keepIn K (.ref f3) = true)
    (a4 : PySem.W.nsIn K mainGlobals "_law_number" = some (some (.ref f4))) (l4 : K.lookup f4 = some ⟨oc4, od4, .func (PySem.W.fnOf "_law_number" "_law_number" (defArgs s__law_number) (defBody s__law_number) (defScope s__law_number) .none kV4 dc4 pm4 an4 cd4 ct4), sl4⟩) (c4 : PySem.W.codeIn K cd4 "_law_number" = true) (k4 : PySem.W.keepIn K (.ref f4) = true)
    (a5 : PySem.W.nsIn K mainGlobals "_law_weights" = some (some (.ref f5))) (l5 : K.lookup f5 = some ⟨oc5, od5, .func (PySem.W.fnOf "_law_weights" "_law_weights" (defArgs s__law_weights) (defBody s__law_weights) (defScope s__law_weights) .none kV5 dc5 pm5 an5 cd5 ct5), sl5⟩) (c5 : PySem.W.codeIn K cd5 "_law_weights" = true) (k5 : PySem.W.keepIn K (.ref f5) = true)
    (a6 : PySem.W.nsIn K mainGlobals "_law_many" = some (some (.ref f6))) (l6 : K.lookup f6 = some ⟨oc6, od6, .func (PySem.W.fnOf "_law_many" "_law_many" (defArgs s__law_many) (defBody s__law_many) (defScope s__law_many) .none kV6 dc6 pm6 an6 cd6 ct6), sl6⟩) (c6 : PySem.W.codeIn K cd6 "_law_many" = true) (k6 : PySem.W.keepIn K (.ref f6) = true)
    (a7 : PySem.W.nsIn K mainGlobals "_law_pieces" = some (some (.ref f7))) (l7 : K.lookup f7 = some ⟨oc7, od7, .func (PySem.W.fnOf "_law_pieces" "_law_pieces" (defArgs s__law_pieces) (defBody s__law_pieces) (defScope s__law_pieces) .none kV7 dc7 pm7 an7 cd7 ct7), sl7⟩) (c7 : PySem.W.codeIn K cd7 "_law_pieces" = true) (k7 : PySem.W.keepIn K (.ref f7) = true)
    (a8 : PySem.W.nsIn K mainGlobals "_law_shape" = some (some (.ref f8))) (l8 : K.lookup f8 = some ⟨oc8, od8, .func (PySem.W.fnOf "_law_shape" "_law_shape" (defArgs s__law_shape) (defBody s__law_shape) (defScope s__law_shape) .none kV8 dc8 pm8 an8 cd8 ct8), sl8⟩) (c8 : PySem.W.codeIn K cd8 "_law_shape" = true) (k8 : PySem.W.keepIn K (.ref f8) = true)
    (a9 : PySem.W.nsIn K mainGlobals "_law_wide" = some (some (.ref f9))) (l9 : K.lookup f9 = some ⟨oc9, od9, .func (PySem.W.fnOf "_law_wide" "_law_wide" (defArgs s__law_wide) (defBody s__law_wide) (defScope s__law_wide) .none kV9 dc9 pm9 an9 cd9 ct9), sl9⟩) (c9 : PySem.W.codeIn K cd9 "_law_wide" = true) (k9 : PySem.W.keepIn K (.ref f9) = true)
    (a10 : PySem.W.nsIn K mainGlobals "_law_weighing" = some (some (.ref f10))) (l10 : K.lookup f10 = some ⟨oc10, od10, .func (PySem.W.fnOf "_law_weighing" "_law_weighing" (defArgs s__law_weighing) (defBody s__law_weighing) (defScope s__law_weighing) .none kV10 dc10 pm10 an10 cd10 ct10), sl10⟩) (c10 : PySem.W.codeIn K cd10 "_law_weighing" = true) (k10 : PySem.W.keepIn K (.ref f10) = true)
    (a11 : PySem.W.nsIn K mainGlobals "_law_whole" = some (some (.ref f11))) (l11 : K.lookup f11 = some ⟨oc11, od11, .func (PySem.W.fnOf "_law_whole" "_law_whole" (defArgs s__law_whole) (defBody s__law_whole) (defScope s__law_whole) .none kV11 dc11 pm11 an11 cd11 ct11), sl11⟩) (c11 : PySem.W.codeIn K cd11 "_law_whole" = true) (k11 : PySem.W.keepIn K (.ref f11) = true)
    (a12 : PySem.W.nsIn K mainGlobals "_law_good" = some (some (.ref f12))) (l12 : K.lookup f12 = some ⟨oc12, od12, .func (PySem.W.fnOf "_law_good" "_law_good" (defArgs s__law_good) (defBody s__law_good) (defScope s__law_good) .none kV12 dc12 pm12 an12 cd12 ct12), sl12⟩) (c12 : PySem.W.codeIn K cd12 "_law_good" = true) (k12 : PySem.W.keepIn K (.ref f12) = true)
    (a13 : PySem.W.nsIn K mainGlobals "law" = some (some (.ref f13))) (l13 : K.lookup f13 = some ⟨oc13, od13, .func (PySem.W.fnOf "law" "law" (defArgs s_law) (defBody s_law) (defScope s_law) .none kV13 dc13 pm13 an13 cd13 ct13), sl13⟩) (c13 : PySem.W.codeIn K cd13 "law" = true) (k13 : PySem.W.keepIn K (.ref f13) = true)
    (g_set : PySem.W.nsIn K mainGlobals "set" = some none)
    (z_len : PySem.W.nsIn K mainGlobals "len" = some none) (z_range : PySem.W.nsIn K mainGlobals "range" = some none) (z_min : PySem.W.nsIn K mainGlobals "min" = some none) (z_max : PySem.W.nsIn K mainGlobals "max" = some none) (z_isinstance : PySem.W.nsIn K mainGlobals "isinstance" = some none) (z_bool : PySem.W.nsIn K mainGlobals "bool" = some none) (z_int : PySem.W.nsIn K mainGlobals "int" = some none) (z_tuple : PySem.W.nsIn K mainGlobals "tuple" = some none) (z_list : PySem.W.nsIn K mainGlobals "list" = some none) (z_str : PySem.W.nsIn K mainGlobals "str" = some none) (z_all : PySem.W.nsIn K mainGlobals "all" = some none) (z_sum : PySem.W.nsIn K mainGlobals "sum" = some none) (z_sorted : PySem.W.nsIn K mainGlobals "sorted" = some none) :
    ∃ fd : FuncData, (∀ (s : Shared) (v : Value), BindsTo s fd ⟨[v], []⟩ [("_law_script", v)]) ∧ ∀ base : Heap, K.In base → base.Ns mainGlobals mg → FnOk l.prog w K mg base CX0 7 fa fd ["_law_script"] (spLaw K) := by
  have e := hfa.symm.trans (PySem.W.mg_of X G a13)
  cases e
  have M : Txt mg := ⟨PySem.W.mg_none_of X G z_len, PySem.W.mg_none_of X G z_range, PySem.W.mg_none_of X G z_min, PySem.W.mg_none_of X G z_max, PySem.W.mg_none_of X G z_isinstance, PySem.W.mg_none_of X G z_bool, PySem.W.mg_none_of X G z_int, PySem.W.mg_none_of X G z_tuple, PySem.W.mg_none_of X G z_list, PySem.W.mg_none_of X G z_str, PySem.W.mg_none_of X G z_all, PySem.W.mg_none_of X G z_sum, PySem.W.mg_none_of X G z_sorted⟩
  have GB : Gb mg := ⟨PySem.W.mg_none_of X G g_set⟩
  have F0 := fun_mk (st := s_sorts) l0 c0 k0
  have b0 := F0.binds (ps := ["weighing"]) fun _ _ _ _ _ _ us hl => match us, hl with | [_], _ => rfl
  have F1 := fun_mk (st := s__law_cell_at) l1 c1 k1
  have b1 := F1.binds (ps := ["_law_script", "_law_k"]) fun _ _ _ _ _ _ us hl => match us, hl with | [_, _], _ => rfl
  have F2 := fun_mk (st := s__law_purse) l2 c2 k2
  have b2 := F2.binds (ps := ["_law_script", "_law_at"]) fun _ _ _ _ _ _ us hl => match us, hl with | [_, _], _ => rfl
  have F3 := fun_mk (st := s__law_take) l3 c3 k3
  have b3 := F3.binds (ps := ["_law_draw", "_law_many_here"]) fun _ _ _ _ _ _ us hl => match us, hl with | [_, _], _ => rfl
  have F4 := fun_mk (st := s__law_number) l4 c4 k4
  have b4 := F4.binds (ps := ["_law_draw"]) fun _ _ _ _ _ _ us hl => match us, hl with | [_], _ => rfl
  have F5 := fun_mk (st := s__law_weights) l5 c5 k5
  have b5 := F5.binds (ps := ["_law_draw", "_law_wide_here"]) fun _ _ _ _ _ _ us hl => match us, hl with | [_, _], _ => rfl
  have F6 := fun_mk (st := s__law_many) l6 c6 k6
  have b6 := F6.binds (ps := ["_law_draw"]) fun _ _ _ _ _ _ us hl => match us, hl with | [_], _ => rfl
  have F7 := fun_mk (st := s__law_pieces) l7 c7 k7
  have b7 := F7.binds (ps := ["_law_draw", "_law_wide_here", "_law_most"]) fun _ _ _ _ _ _ us hl => match us, hl with | [_, _, _], _ => rfl
  have F8 := fun_mk (st := s__law_shape) l8 c8 k8
  have b8 := F8.binds (ps := ["_law_pieces_here"]) fun _ _ _ _ _ _ us hl => match us, hl with | [_], _ => rfl
  have F9 := fun_mk (st := s__law_wide) l9 c9 k9
  have b9 := F9.binds (ps := ["_law_draw"]) fun _ _ _ _ _ _ us hl => match us, hl with | [_], _ => rfl
  have F10 := fun_mk (st := s__law_weighing) l10 c10 k10
  have b10 := F10.binds (ps := ["_law_draw", "_law_wide_here"]) fun _ _ _ _ _ _ us hl => match us, hl with | [_, _], _ => rfl
  have F11 := fun_mk (st := s__law_whole) l11 c11 k11
  have b11 := F11.binds (ps := ["_law_thing"]) fun _ _ _ _ _ _ us hl => match us, hl with | [_], _ => rfl
  have F12 := fun_mk (st := s__law_good) l12 c12 k12
  have b12 := F12.binds (ps := ["_law_told", "_law_weighing_here"]) fun _ _ _ _ _ _ us hl => match us, hl with | [_, _], _ => rfl
  have F13 := fun_mk (st := s_law) l13 c13 k13
  refine ⟨PySem.W.fnOf "law" "law" (defArgs s_law) (defBody s_law) (defScope s_law) .none kV13 dc13 pm13 an13 cd13 ct13, fun s v => .of_eq rfl, fun base _ _ => ?_⟩
  have G_law_cell_at : Kn l.prog w K mg base "_law_cell_at" _ ["_law_script", "_law_k"] _ := ⟨⟨f1, _, ok_cell F1 M , PySem.W.mg_of X G a1, k1, b1⟩⟩
  have G_law_purse : Kn l.prog w K mg base "_law_purse" _ ["_law_script", "_law_at"] _ := ⟨⟨f2, _, ok_purse F2 M G_law_cell_at, PySem.W.mg_of X G a2, k2, b2⟩⟩
  have G_law_take : Kn l.prog w K mg base "_law_take" _ ["_law_draw", "_law_many_here"] _ := ⟨⟨f3, _, ok_take F3 M , PySem.W.mg_of X G a3, k3, b3⟩⟩
  have G_law_number : Kn l.prog w K mg base "_law_number" _ ["_law_draw"] _ := ⟨⟨f4, _, ok_number F4 M G_law_take, PySem.W.mg_of X G a4, k4, b4⟩⟩
  have G_law_weights : Kn l.prog w K mg base "_law_weights" _ ["_law_draw", "_law_wide_here"] _ := ⟨⟨f5, _, ok_weights F5 M G_law_number, PySem.W.mg_of X G a5, k5, b5⟩⟩
  have G_law_many : Kn l.prog w K mg base "_law_many" _ ["_law_draw"] _ := ⟨⟨f6, _, ok_many F6 M G_law_take, PySem.W.mg_of X G a6, k6, b6⟩⟩
  have G_law_pieces : Kn l.prog w K mg base "_law_pieces" _ ["_law_draw", "_law_wide_here", "_law_most"] _ := ⟨⟨f7, _, ok_pieces F7 M G_law_take G_law_weights G_law_many, PySem.W.mg_of X G a7, k7, b7⟩⟩
  have G_law_shape : Kn l.prog w K mg base "_law_shape" _ ["_law_pieces_here"] _ := ⟨⟨f8, _, ok_shape F8 M , PySem.W.mg_of X G a8, k8, b8⟩⟩
  have G_law_wide : Kn l.prog w K mg base "_law_wide" _ ["_law_draw"] _ := ⟨⟨f9, _, ok_wide F9 M G_law_take, PySem.W.mg_of X G a9, k9, b9⟩⟩
  have G_law_weighing : Kn l.prog w K mg base "_law_weighing" _ ["_law_draw", "_law_wide_here"] _ := ⟨⟨f10, _, ok_weighing F10 M G_law_take G_law_pieces G_law_shape, PySem.W.mg_of X G a10, k10, b10⟩⟩
  have G_law_whole : Kn l.prog w K mg base "_law_whole" _ ["_law_thing"] _ := ⟨⟨f11, _, ok_wholeL F11 M , PySem.W.mg_of X G a11, k11, b11⟩⟩
  have Gsorts : Kn l.prog w K mg base "sorts" _ ["weighing"] _ := ⟨⟨f0, _, ok_sorts F0 M , PySem.W.mg_of X G a0, k0, b0⟩⟩
  have G_law_good : Kn l.prog w K mg base "_law_good" _ ["_law_told", "_law_weighing_here"] _ := ⟨⟨f12, _, ok_good F12 M G_law_whole GB, PySem.W.mg_of X G a12, k12, b12⟩⟩
  exact ok_law F13 M G_law_purse G_law_wide G_law_weighing Gsorts G_law_good

theorem walk {l : PySem.W.OpenLaw} {q : Program} {loose : List Str} {XP : (Str → Option Value) → Heap → Prop} {YP : World → Heap → Prop} {d : DefRec} {K : Params → PySem.W.Frag} (hn : l.most = some 63) (hdf : d.params.defaults = [])
    (hY : ∀ (w : World) (h : Heap), YP w h → (K w.params).In h)
    (F : ∀ (w : World) (mg : Str → Option Value) (fa : Addr) (h : Heap), (K w.params).In h → h.Ns mainGlobals mg → mg d.name = some (.ref fa) →
      ∃ fd : FuncData, (∀ (s : Shared) (u : Value), BindsTo s fd ⟨[u], []⟩ [("_law_script", u)]) ∧ ∀ base : Heap, (K w.params).In base → base.Ns mainGlobals mg → FnOk l.prog w (K w.params) mg base CX0 7 fa fd ["_law_script"] (spLaw (K w.params))) :
    PySem.W.WalkO q loose XP YP l.row.toRowW d [] (fun f vs => PySem.call f vs) :=
  L2.walk_of (n := 63) (k := 7) (x := "_law_script") (CX := fun _ => CX0) (sp := fun w => spLaw (K w.params)) hn (by decide) hdf ⟨rfl, by decide, by decide, rfl⟩ hY F (fun _ _ a ns hl _ hS => ⟨a, ns, rfl, hS, hl, fun _ => rfl⟩) fun _ _ _ _ _ z => z
end Toy
open PySem PySem.W PyProof.Rows
set_option maxRecDepth 100000 in
set_option maxHeartbeats 0 in
theorem PySem.Challenge.cw_farcords_k07_sorts_of_weighings_holds : PySem.Challenge.rw_farcords_k07_sorts_of_weighings.Holds := by
  w_on; o_law; k_head; (case hw => w_witness2)
  k_fill
  refine Toy.walk (l := PySem.Challenge.rw_farcords_k07_sorts_of_weighings) rfl rfl (fun w h Y => PySem.W.kIn_of Y) ?F
  case F =>
    intro w mg fa h KX G hmg
    refine' Toy.all_mk KX G hmg ?a0 ?l0 ?c0 ?k0 ?a1 ?l1 ?c1 ?k1 ?a2 ?l2 ?c2 ?k2 ?a3 ?l3 ?c3 ?k3 ?a4 ?l4 ?c4 ?k4 ?a5 ?l5 ?c5 ?k5 ?a6 ?l6 ?c6 ?k6 ?a7 ?l7 ?c7 ?k7 ?a8 ?l8 ?c8 ?k8 ?a9 ?l9 ?c9 ?k9 ?a10 ?l10 ?c10 ?k10 ?a11 ?l11 ?c11 ?k11 ?a12 ?l12 ?c12 ?k12 ?a13 ?l13 ?c13 ?k13 ?g_set ?z_len ?z_range ?z_min ?z_max ?z_isinstance ?z_bool ?z_int ?z_tuple ?z_list ?z_str ?z_all ?z_sum ?z_sorted
    (case a0 => k_is)
    (case l0 => k_is)
    (case c0 => k_is)
    (case k0 => k_is)
    (case a1 => k_is)
    (case l1 => k_is)
    (case c1 => k_is)
    (case k1 => k_is)
    (case a2 => k_is)
    (case l2 => k_is)
    (case c2 => k_is)
    (case k2 => k_is)
    (case a3 => k_is)
    (case l3 => k_is)
    (case c3 => k_is)
    (case k3 => k_is)
    (case a4 => k_is)
    (case l4 => k_is)
    (case c4 => k_is)
    (case k4 => k_is)
    (case a5 => k_is)
    (case l5 => k_is)
    (case c5 => k_is)
    (case k5 => k_is)
    (case a6 => k_is)
    (case l6 => k_is)
    (case c6 => k_is)
    (case k6 => k_is)
    (case a7 => k_is)
    (case l7 => k_is)
    (case c7 => k_is)
    (case k7 => k_is)
    (case a8 => k_is)
    (case l8 => k_is)
    (case c8 => k_is)
    (case k8 => k_is)
    (case a9 => k_is)
    (case l9 => k_is)
    (case c9 => k_is)
    (case k9 => k_is)
    (case a10 => k_is)
    (case l10 => k_is)
    (case c10 => k_is)
    (case k10 => k_is)
    (case a11 => k_is)
    (case l11 => k_is)
    (case c11 => k_is)
    (case k11 => k_is)
    (case a12 => k_is)
    (case l12 => k_is)
    (case c12 => k_is)
    (case k12 => k_is)
    (case a13 => k_is)
    (case l13 => k_is)
    (case c13 => k_is)
    (case k13 => k_is)
    (case g_set => k_is)
    (case z_len => k_is)
    (case z_range => k_is)
    (case z_min => k_is)
    (case z_max => k_is)
    (case z_isinstance => k_is)
    (case z_bool => k_is)
    (case z_int => k_is)
    (case z_tuple => k_is)
    (case z_list => k_is)
    (case z_str => k_is)
    (case z_all => k_is)
    (case z_sum => k_is)
    (case z_sorted => k_is)
#print axioms PySem.Challenge.cw_farcords_k07_sorts_of_weighings_holds

