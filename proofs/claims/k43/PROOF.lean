import PyProof.Rows.All
import Wide.All
import OpenK.AllK
import Wide.FinOn
import Lean
import PyProof.EqAt
import PyProof.EqKinds
import PyProof.TupleCall
import PyProof.NeData
import PyProof.SumAny
import PyProof.ReprRoads
import PyProof.CallStr
import PyProof.ReprLen
import PyProof.Rows.StrDigitsNeg
import PyProof.Rows.StrJoinMade
import PyProof.Rows.ZipGen
import PyProof.ListRange
import PyProof.TupleOfSeq
import PyProof.SetScanFacts
import PyProof.SetKind
import PyProof.Rows.SetFrom
import PyProof.SetRoads
import PyProof.Rows.SortShell
import PyProof.ListMulRoad
import PyProof.ListMulAny
import PyProof.FactsAll.tuple
import PyProof.RulesAssignMore
import PyProof.ZipIter
import PyProof.TupleIter
import PyProof.EnumFor
import PyProof.EnumMake
import PyProof.FitsBits
import KE.KDictList
import PyProof.Rows.SortShellK
import PyProof.TupleKey
import KE.KItemsList
import KE.KSortTup
import PyProof.Rows.ListMulR
import PySem.Challenge.RW_farcords_k43_what_is_a_sheet
set_option Elab.async false
set_option linter.all false
set_option maxRecDepth 100000
/-! THE HAND LAYER, for ints, bools, texts, own classes, LISTS and tuples (index, slices, in, append, pop ..), calls, loops. Paste it whole ahead of your own text; what your proof does not reach may be deleted. -/
namespace L2
open PySem PySem.Spec PyProof.Rows

/-- a key: an int or a str -/
abbrev Key := Sum Int Str
def keyIs : Key → Value → Bool
  | .inl k, v => Value.isInt k v
  | .inr x, v => Value.isStrOf x v
def keyH (w : World) : Key → Int
  | .inl k => hashInt k
  | .inr x => hashStr w x
theorem keyIs_shape : ∀ {k : Key} {v : Value}, keyIs k v = true → (∃ i t, k = Sum.inl i ∧ v = Value.int i t) ∨ (∃ x t, k = Sum.inr x ∧ v = Value.str x t)
  | .inl i, v, h => by
    obtain ⟨t, e⟩ := Value.isInt_shape (k := i) (v := v) h
    exact .inl ⟨i, t, rfl, e⟩
  | .inr x, v, h => by
    obtain ⟨t, e⟩ := Value.isStrOf_shape (x := x) (v := v) h
    exact .inr ⟨x, t, rfl, e⟩
theorem key_ll (a b : Int) : decide ((Sum.inl a : Key) = Sum.inl b) = (a == b) := by
  by_cases e : a = b
  · subst e; simp
  · have h : ¬ (Sum.inl a : Key) = Sum.inl b := fun q => e (Sum.inl.inj q)
    rw [decide_eq_false h]
    exact (beq_eq_false_iff_ne.mpr e).symm
theorem key_rr (a b : Str) : decide ((Sum.inr a : Key) = Sum.inr b) = decide (a = b) := by
  by_cases e : a = b
  · subst e; simp
  · have h : ¬ (Sum.inr a : Key) = Sum.inr b := fun q => e (Sum.inr.inj q)
    rw [decide_eq_false h, decide_eq_false e]
theorem key_lr (a : Int) (b : Str) : decide ((Sum.inl a : Key) = Sum.inr b) = false := decide_eq_false (fun q => nomatch q)
theorem key_rl (a : Str) (b : Int) : decide ((Sum.inr a : Key) = Sum.inl b) = false := decide_eq_false (fun q => nomatch q)

def mixKind (prog : Program) (w : World) : PySem.KeyKind prog w Key where
  is := keyIs
  hash := keyH w
  inj := fun v a b ha hb => by
    rcases keyIs_shape ha with ⟨i, t, rfl, rfl⟩ | ⟨x, t, rfl, rfl⟩
    · rcases keyIs_shape hb with ⟨j, u, rfl, e⟩ | ⟨y, u, rfl, e⟩
      · injection e with e1 _; rw [e1]
      · exact nomatch e
    · rcases keyIs_shape hb with ⟨j, u, rfl, e⟩ | ⟨y, u, rfl, e⟩
      · exact nomatch e
      · injection e with e1 _; rw [e1]
  byValue := fun k v h => by
    rcases keyIs_shape h with ⟨i, t, rfl, rfl⟩ | ⟨x, t, rfl, rfl⟩ <;> rfl
  pyHash := fun hv h => by
    rcases keyIs_shape hv with ⟨i, t, rfl, rfl⟩ | ⟨x, t, rfl, rfl⟩
    · exact wpAny_pyHash_int h
    · exact wpAny_pyHash_str h
  eqBool := fun hu hv h => by
    rcases keyIs_shape hu with ⟨i, t, rfl, rfl⟩ | ⟨x, t, rfl, rfl⟩
    · rcases keyIs_shape hv with ⟨j, u, rfl, rfl⟩ | ⟨y, u, rfl, rfl⟩
      · rw [key_ll] at h; exact wpAny_eqBool_int h
      · rw [key_lr] at h; exact SeqAt.EqAt.int_str i t y u _ _ _ _ h
    · rcases keyIs_shape hv with ⟨j, u, rfl, rfl⟩ | ⟨y, u, rfl, rfl⟩
      · rw [key_rl] at h; exact SeqAt.EqAt.str_int x t j u _ _ _ _ h
      · rw [key_rr] at h; exact wpAny_eqBool_str h
  «strs» := fun k x t v h => by
    rcases keyIs_shape h with ⟨i, u, rfl, e⟩ | ⟨y, u, rfl, e⟩
    · exact nomatch e
    · injection e with e1 _
      subst e1
      cases v <;> rfl

end L2

namespace L2
open PySem PySem.Spec PyProof.Rows

/-- a value, without the heap -/
inductive V where
  | non | bl (b : Bool) | int (i : Int) | str (x : Str) | byt (b : Array UInt8) | flt (b : UInt64) | ref (a : Addr) | ty (n : String)
  deriving DecidableEq

def RelV : V → Value → Prop
  | .non, u => u = Value.none
  | .bl b, u => u = Value.bool b
  | .int i, u => ∃ t, u = Value.int i t
  | .str x, u => ∃ t, u = Value.str x t
  | .byt b, u => ∃ t, u = Value.bytes b t
  | .flt b, u => ∃ t, u = Value.float b t
  | .ref a, u => u = Value.ref a
  | .ty n, u => u = Value.type n

abbrev Vals : List V → List Value → Prop := Paired RelV
theorem Vals.length {xs : List V} {us : List Value} (r : Vals xs us) : xs.length = us.length := Paired.length r
theorem Vals.get : ∀ {xs : List V} {us : List Value} {i : Nat} {x : V}, Vals xs us → xs[i]? = some x → ∃ u, us[i]? = some u ∧ RelV x u
  | _, _, _, _, .nil, e => by simp at e
  | _, _, 0, _, .cons r _, e => by simp at e; subst e; exact ⟨_, rfl, r⟩
  | _, _, i + 1, x, .cons _ t, e => by
    obtain ⟨u, h1, h2⟩ := Vals.get (i := i) (x := x) t (by simpa using e)
    exact ⟨u, by simpa using h1, h2⟩
theorem Vals.set {x : V} {u : Value} (r : RelV x u) : ∀ {xs : List V} {us : List Value} (i : Nat), Vals xs us → Vals (xs.set i x) (us.set i u)
  | _, _, _, .nil => .nil
  | _, _, 0, .cons _ t => .cons r t
  | _, _, i + 1, .cons q t => .cons q (Vals.set r i t)
theorem Vals.append : ∀ {xs ys : List V} {us ws : List Value}, Vals xs us → Vals ys ws → Vals (xs ++ ys) (us ++ ws)
  | _, _, _, _, .nil, s => s
  | _, _, _, _, .cons r t, s => .cons r (Vals.append t s)
theorem Vals.take : ∀ {xs : List V} {us : List Value} (n : Nat), Vals xs us → Vals (xs.take n) (us.take n)
  | _, _, 0, _ => .nil
  | _, _, _ + 1, .nil => .nil
  | _, _, n + 1, .cons r t => .cons r (Vals.take n t)
theorem Vals.drop : ∀ {xs : List V} {us : List Value} (n : Nat), Vals xs us → Vals (xs.drop n) (us.drop n)
  | _, _, 0, r => r
  | _, _, _ + 1, .nil => .nil
  | _, _, n + 1, .cons _ t => Vals.drop n t
def RelO : Option V → Option Value → Prop
  | some v, some u => RelV v u
  | none, none => True
  | _, _ => False
def KV {κ : Type} : List (κ × V) → List (κ × Value) → Prop := Paired fun (p : κ × V) (q : κ × Value) => p.1 = q.1 ∧ RelV p.2 q.2

/-- a key of a dict (00_mix): an int or a text -/
def kV : Key → V
  | .inl i => .int i
  | .inr x => .str x

/-- what stands at a tracked address -/
inductive HO where
  /-- a list -/
  | lst (xs : List V)
  /-- a tuple (never changes) -/
  | tup (xs : List V)
  /-- a dict whose keys are ints and texts; one whose keys are tuples of ints and texts (the empty one is both) -/
  | dK (kvs : List (Key × V)) | dT (kvs : List (List Key × V))
  /-- a set of ints: its members, its size -/
  | set (S : Int → Bool) (n : Nat)
  /-- an instance of the class at C, its dict at dx, its attributes -/
  | ins (C dx : Addr) (fs : List (Str × V))
  /-- the dict of the instance at x -/
  | own (x : Addr)
  /-- the dict of an exception -/
  | xd (fs : List (Str × V))
  /-- a bound method, f of x -/
  | met (f x : Addr)
  /-- a range object lo, lo + 1, .. below hi -/
  | rng (lo hi : Int)
  /-- a thing that is known to the object (the script; a dict while a loop walks it): read, never written while it is so -/
  | frz (o : Obj) (u : HO)
  /-- a code object's table -/
  | tbl (ps : Array Value)
  /-- any other thing, by what is true of its one object (a def of one's own: SetO a S n := HO.ext fun h => ..) -/
  | ext (φ : Heap → Prop)

abbrev Hp := Addr → Option HO
def upd (H : Hp) (a : Addr) (o : HO) : Hp := fun b => if b = a then some o else H b
theorem upd_same {H : Hp} {a : Addr} {o : HO} : upd H a o a = some o := by unfold upd; rw [if_pos rfl]
theorem upd_ne {H : Hp} {a b : Addr} {o : HO} (h : b ≠ a) : upd H a o b = H b := by unfold upd; rw [if_neg h]
theorem ne_of_none {H : Hp} {a b : Addr} {o : HO} (h : H a = some o) (h' : H b = none) : a ≠ b := by
  intro e; subst e; rw [h] at h'; cases h'

section
variable (P : Program) (w : World)
def ObjOk (H : Hp) (h : Heap) (a : Addr) : HO → Prop
  | .lst xs => xs.length ≤ sizeLine ∧ ∃ (its : List Value) (n : Nat), Vals xs its ∧ h.get? a = some { cls := .type "list", data := .seq its.toArray n }
  | .tup xs => xs.length ≤ sizeLine ∧ ∃ its : List Value, Vals xs its ∧ IsTup h a its.toArray
  | .dK kvs => kvs.length ≤ sizeLine ∧ (a == sysModules) = false ∧ ∃ vs, KV kvs vs ∧ h.DictOf (mixKind P w) a vs
  | .dT kvs => kvs.length ≤ sizeLine ∧ (a == sysModules) = false ∧ ∃ xs : List (List Key × Addr × Value),
      Paired (fun (p : List Key × V) (q : List Key × Addr × Value) => p.1 = q.1 ∧ H q.2.1 = some (.tup (p.1.map kV)) ∧ RelV p.2 q.2.2) kvs xs ∧
      ∃ o es ep, h.get? a = some o ∧ o.ExactDict ∧ o.data = .dict es ep ∧ es.toList = xs.map (entryOfKey (tupleKind (mixKind P w))) ∧ (xs.map (·.1)).Nodup
  | .set S n => h.SetOf (intKind P w) a S n
  | .ins C dx fs => H dx = some (.own a) ∧ fs.length ≤ 1000 ∧ dx ≠ a ∧ h.get? a = some (PySem.W.instObj C dx) ∧
      ∃ mA, h.Ns1 dx mA ∧ (∀ f, RelO (fs.lookup f) (mA f)) ∧ PySem.Within mA (fs.map (·.1))
  | .own _ => ∃ o, h.get? a = some o
  | .xd fs => ∃ mA, h.Ns1 a mA ∧ ∀ f, RelO (fs.lookup f) (mA f)
  | .rng lo hi => ∃ t u v, h.get? a = some { cls := .type "range", data := .fields #[.int lo t, .int hi u, .int 1 v] }
  | .frz o u => h.get? a = some o ∧ ObjOk H h a u
  | .tbl ps => h.get? a = some { cls := .none, data := .fields ps }
  | .met f x => h.get? a = some (PySem.W.methodObj (.ref f) (.ref x))
  | .ext φ => φ h ∧ (∃ o, h.get? a = some o) ∧ ∀ h1 h2 : Heap, φ h1 → (∀ o, h1.get? a = some o → h2.get? a = some o) → φ h2
/-- the abstract heap is held -/
def HOk (H : Hp) (h : Heap) : Prop := ∀ a o, H a = some o → ObjOk P w H h a o
end

section
variable {P : Program} {w : World} {H H' : Hp} {h h' : Heap} {a : Addr} {o : HO}
theorem ObjOk.lt (x : ObjOk P w H h a o) : a < h.objs.size := by
  cases o with
  | lst xs => obtain ⟨_, _, _, _, e⟩ := x; exact Heap.lt_size e
  | tup xs => obtain ⟨_, _, _, p⟩ := x; exact p.lt
  | dK kvs => obtain ⟨_, _, _, _, o, _, _, e, _⟩ := x; exact Heap.lt_size e
  | dT kvs => obtain ⟨_, _, _, _, o, _, _, e, _⟩ := x; exact Heap.lt_size e
  | set S n => obtain ⟨o, _, _, _, e, _⟩ := x; exact Heap.lt_size e
  | ins C dx fs => obtain ⟨_, _, _, e, _⟩ := x; exact Heap.lt_size e
  | own y => obtain ⟨_, e⟩ := x; exact Heap.lt_size e
  | xd fs => obtain ⟨_, ⟨_, _, _, e, _⟩, _⟩ := x; exact Heap.lt_size e
  | rng lo hi => obtain ⟨_, _, _, e⟩ := x; exact Heap.lt_size e
  | frz ob u => obtain ⟨e, _⟩ := x; exact Heap.lt_size e
  | tbl ps => exact Heap.lt_size (show h.get? a = some _ from x)
  | met f y => exact Heap.lt_size (show h.get? a = some _ from x)
  | ext φ => obtain ⟨_, ⟨_, e⟩, _⟩ := x; exact Heap.lt_size e
theorem Paired.mapP {α β : Type} {F G : α → β → Prop} : ∀ {l₁ : List α} {l₂ : List β}, Paired F l₁ l₂ → (∀ a b, F a b → G a b) → Paired G l₁ l₂
  | _, _, .nil, _ => .nil
  | _, _, .cons r t, f => .cons (f _ _ r) (Paired.mapP t f)
/-- what an object's description leans on: its own object, its own dict, the tuples -/
theorem ObjOk.stay (x : ObjOk P w H h a o) (k : ∀ b u, (b = a ∨ H b = some (.own a)) → h.get? b = some u → h'.get? b = some u)
    (ho : ∀ b, H b = some (.own a) → H' b = some (.own a)) (ht : ∀ b xs, H b = some (.tup xs) → H' b = some (.tup xs)) : ObjOk P w H' h' a o := by
  induction o with
  | lst xs => obtain ⟨z, its, n, r, e⟩ := x; exact ⟨z, its, n, r, k _ _ (.inl rfl) e⟩
  | tup xs => obtain ⟨z, its, r, ob, e, c⟩ := x; exact ⟨z, its, r, ob, k _ _ (.inl rfl) e, c⟩
  | dK kvs => obtain ⟨z, y, vs, r, ob, es, ep, e, c⟩ := x; exact ⟨z, y, vs, r, ob, es, ep, k _ _ (.inl rfl) e, c⟩
  | dT kvs =>
    obtain ⟨z, y, xs, r, ob, es, ep, e, c⟩ := x
    exact ⟨z, y, xs, Paired.mapP r fun p q z => ⟨z.1, ht _ _ z.2.1, z.2.2⟩, ob, es, ep, k _ _ (.inl rfl) e, c⟩
  | set S n => obtain ⟨ob, es, ep, t, e, c⟩ := x; exact ⟨ob, es, ep, t, k _ _ (.inl rfl) e, c⟩
  | ins C dx fs =>
    obtain ⟨d, z, ne, e, mA, ⟨od, es, ep, e2, c⟩, r⟩ := x
    exact ⟨ho _ d, z, ne, k _ _ (.inl rfl) e, mA, ⟨od, es, ep, k _ _ (.inr d) e2, c⟩, r⟩
  | own y => obtain ⟨ob, e⟩ := x; exact ⟨ob, k _ _ (.inl rfl) e⟩
  | xd fs => obtain ⟨mA, ⟨od, es, ep, e, c⟩, r⟩ := x; exact ⟨mA, ⟨od, es, ep, k _ _ (.inl rfl) e, c⟩, r⟩
  | rng lo hi => obtain ⟨t, u, v, e⟩ := x; exact ⟨t, u, v, k _ _ (.inl rfl) e⟩
  | frz ob u ih => obtain ⟨e, q⟩ := x; exact ⟨k _ _ (.inl rfl) e, ih q⟩
  | tbl ps =>
    have e : h.get? a = some { cls := .none, data := .fields ps } := x
    show h'.get? a = some { cls := .none, data := .fields ps }
    exact k a _ (.inl rfl) e
  | met f y =>
    have e : h.get? a = some (PySem.W.methodObj (.ref f) (.ref y)) := x
    show h'.get? a = some (PySem.W.methodObj (.ref f) (.ref y))
    exact k a _ (.inl rfl) e
  | ext φ => obtain ⟨p, ⟨o, e⟩, st⟩ := x; exact ⟨st _ _ p fun o q => k _ _ (.inl rfl) q, ⟨o, k _ _ (.inl rfl) e⟩, st⟩
theorem HOk.lt (x : HOk P w H h) (e : H a = some o) : a < h.objs.size := (x a o e).lt
theorem HOk.fresh (x : HOk P w H h) (e : h.objs.size ≤ a) : H a = none := by
  cases q : H a with
  | none => rfl
  | some u => exact absurd (Nat.lt_of_lt_of_le (x.lt q) e) (Nat.lt_irrefl _)
/-- every object of the heap is kept -/
theorem HOk.kept (x : HOk P w H h) (k : ∀ b u, h.get? b = some u → h'.get? b = some u) : HOk P w H h' := fun a o e =>
  (x a o e).stay (fun b u _ q => k b u q) (fun _ q => q) fun _ _ q => q
/-- a new object is laid and tracked -/
theorem HOk.laid (x : HOk P w H h) (k : ∀ b u, h.get? b = some u → h'.get? b = some u) (hp : h.objs.size ≤ a) (new : ObjOk P w (upd H a o) h' a o) : HOk P w (upd H a o) h' := fun b u e => by
  have hn := x.fresh hp
  by_cases hb : b = a
  · subst hb; rw [upd_same] at e; cases e; exact new
  · rw [upd_ne hb] at e
    exact (x b u e).stay (fun c v _ q => k c v q) (fun c q => by rw [upd_ne (ne_of_none q hn)]; exact q) fun c xs q => by rw [upd_ne (ne_of_none q hn)]; exact q
end

/-- what may be read as u: it is u, or a known u -/
def Rd (H : Hp) (a : Addr) (u : HO) : Prop := H a = some u ∨ ∃ o, H a = some (.frz o u)
theorem Rd.of {H : Hp} {a : Addr} {u : HO} (h : H a = some u) : Rd H a u := .inl h
theorem Rd.ok {P : Program} {w : World} {H : Hp} {h : Heap} {a : Addr} {u : HO} (r : Rd H a u) (x : HOk P w H h) : ObjOk P w H h a u := by
  rcases r with r | ⟨o, r⟩
  · exact x a u r
  · obtain ⟨_, q⟩ := x a _ r
    exact q
/-- what may be written -/
def Mut : Option HO → Prop
  | some (.lst _) => True
  | some (.dK _) => True
  | some (.dT _) => True
  | some (.set _ _) => True
  | some (.ins _ _ _) => True
  | some (.ext _) => True
  | _ => False
section
variable {P : Program} {w : World} {H : Hp} {h h' : Heap} {x e : Addr} {o' : HO}
/-- the object at e is changed: x itself, or the dict of the instance x -/
theorem HOk.write (ok : HOk P w H h) (mu : Mut (H x)) (he : e = x ∨ H e = some (.own x)) (k : ∀ b u, b ≠ e → h.get? b = some u → h'.get? b = some u) (heo : ∃ u, h'.get? e = some u)
    (new : ObjOk P w (upd H x o') h' x o') : HOk P w (upd H x o') h' := fun b u q => by
  have nown : ∀ c y, H c = some (.own y) → c ≠ x := fun c y r z => by subst z; rw [r] at mu; exact mu
  have ntup : ∀ c xs, H c = some (.tup xs) → c ≠ x := fun c xs r z => by subst z; rw [r] at mu; exact mu
  by_cases hb : b = x
  · subst hb; rw [upd_same] at q; cases q; exact new
  · rw [upd_ne hb] at q
    by_cases hbe : b = e
    · have q' : H b = some (.own x) := by
        rcases he with z | z
        · exact absurd (hbe.trans z) hb
        · rw [hbe]; exact z
      rw [q] at q'; cases q'
      obtain ⟨v, hv⟩ := heo
      exact ⟨v, by rw [hbe]; exact hv⟩
    · refine (ok b u q).stay (fun c v hc r => k c v ?_ r) (fun c r => by rw [upd_ne (nown c b r)]; exact r) fun c xs r => by rw [upd_ne (ntup c xs r)]; exact r
      rcases hc with rfl | hc
      · exact hbe
      · rintro rfl
        rcases he with z | z
        · exact nown c b hc z
        · rw [hc] at z; cases z; exact hb rfl
end

/-! ### kept unless tracked; of the frames at fs (the callers') the slots may change (an exception that passes writes there); of the records at ex (iterators) nothing is said -/
structure Un (fs ex : List Addr) (H H' : Hp) (h h' : Heap) : Prop where
  keep : ∀ b o, h.get? b = some o → H b = none → b ∉ fs → b ∉ ex → h'.get? b = some o
  slot : ∀ b o, h.get? b = some o → H b = none → b ∈ fs → b ∉ ex → ∃ sl, h'.get? b = some { o with slots := sl }
  free : ∀ b o, h.get? b = some o → H b = none → b ∉ ex → H' b = none
  there : ∀ b o, h.get? b = some o → b ∉ ex → ∃ o', h'.get? b = some o'
  tups : ∀ b xs, H b = some (.tup xs) → H' b = some (.tup xs)
  frzs : ∀ b o u, H b = some (.frz o u) → H' b = some (.frz o u)
  tbls : ∀ b ps, H b = some (.tbl ps) → ∃ more, H' b = some (.tbl (ps ++ more))
section
variable {fs fs' ex ex' : List Addr} {H H1 H2 : Hp} {h h1 h2 h' : Heap} {a x e : Addr} {o : HO}
theorem Un.any (u : Un fs ex H H1 h h1) {b : Addr} {ob : Obj} (q : h.get? b = some ob) (n : H b = none) (hx : b ∉ ex) : ∃ sl, h1.get? b = some { ob with slots := sl } := by
  by_cases hb : b ∈ fs
  · exact u.slot b ob q n hb hx
  · exact ⟨ob.slots, u.keep b ob q n hb hx⟩
theorem Un.trans (a : Un fs ex H H1 h h1) (b : Un fs ex H1 H2 h1 h2) : Un fs ex H H2 h h2 where
  keep := fun c ob q n hc hx => b.keep c ob (a.keep c ob q n hc hx) (a.free c ob q n hx) hc hx
  slot := fun c ob q n hc hx => by
    obtain ⟨sl, e1⟩ := a.slot c ob q n hc hx
    obtain ⟨sl', e2⟩ := b.slot c _ e1 (a.free c ob q n hx) hc hx
    exact ⟨sl', e2⟩
  free := fun c ob q n hx => by
    obtain ⟨o', e1⟩ := a.there c ob q hx
    exact b.free c o' e1 (a.free c ob q n hx) hx
  there := fun c ob q hx => by
    obtain ⟨o', e1⟩ := a.there c ob q hx
    exact b.there c o' e1 hx
  tups := fun c xs q => b.tups c xs (a.tups c xs q)
  frzs := fun c ob xs q => b.frzs c ob xs (a.frzs c ob xs q)
  tbls := fun c ps q => by
    obtain ⟨m1, e1⟩ := a.tbls c ps q
    obtain ⟨m2, e2⟩ := b.tbls c _ e1
    exact ⟨m1 ++ m2, by rw [e2, Array.append_assoc]⟩
theorem Un.kept (k : ∀ b u, h.get? b = some u → h'.get? b = some u) : Un fs ex H H h h' :=
  ⟨fun b ob q _ _ _ => k b ob q, fun b ob q _ _ _ => ⟨ob.slots, k b ob q⟩, fun _ _ _ n _ => n, fun b ob q _ => ⟨ob, k b ob q⟩, fun _ _ q => q, fun _ _ _ q => q, fun _ ps q => ⟨#[], by rw [q]; simp⟩⟩
theorem Un.refl : Un fs ex H H h h := Un.kept fun _ _ q => q
theorem Un.laid (k : ∀ b u, h.get? b = some u → h'.get? b = some u) (hp : h.objs.size ≤ a) (hn : H a = none) : Un fs ex H (upd H a o) h h' where
  keep := fun b u q _ _ _ => k b u q
  slot := fun b u q _ _ _ => ⟨u.slots, k b u q⟩
  free := fun b u q n _ => by rw [upd_ne (Nat.ne_of_lt (Nat.lt_of_lt_of_le (Heap.lt_size q) hp))]; exact n
  there := fun b u q _ => ⟨u, k b u q⟩
  tups := fun b xs q => by rw [upd_ne (ne_of_none q hn)]; exact q
  frzs := fun b u xs q => by rw [upd_ne (ne_of_none q hn)]; exact q
  tbls := fun b ps q => ⟨#[], by rw [upd_ne (ne_of_none q hn), q]; simp⟩
theorem Un.write (mu : Mut (H x)) (he : e = x ∨ H e = some (.own x)) (k : ∀ b u, b ≠ e → h.get? b = some u → h'.get? b = some u) (heo : ∃ u, h'.get? e = some u) : Un fs ex H (upd H x o) h h' := by
  have hx : ∀ b, H b = none → b ≠ x := fun b n z => by subst z; rw [n] at mu; exact mu
  have hb : ∀ b, H b = none → b ≠ e := fun b n z => by
    subst z
    rcases he with r | r
    · exact hx b n r
    · rw [n] at r; cases r
  have hm : ∀ b u, H b = some u → ¬ Mut (some u) → b ≠ x := fun b u q nm z => by subst z; rw [q] at mu; exact nm mu
  refine ⟨fun b u q n _ _ => k b u (hb b n) q, fun b u q n _ _ => ⟨u.slots, k b u (hb b n) q⟩, fun b u q n _ => by rw [upd_ne (hx b n)]; exact n, fun b u q _ => ?_,
    fun b xs q => by rw [upd_ne (hm b _ q fun z => z)]; exact q, fun b u xs q => by rw [upd_ne (hm b _ q fun z => z)]; exact q, fun b ps q => ⟨#[], by rw [upd_ne (hm b _ q fun z => z), q]; simp⟩⟩
  by_cases hbe : b = e
  · subst hbe; exact heo
  · exact ⟨u, k b u hbe q⟩
theorem Un.mono (u : Un fs ex H H1 h h1) (hs : ∀ b ∈ fs, b ∈ fs') (hx : ∀ b ∈ ex, b ∈ ex') : Un fs' ex' H H1 h h1 :=
  ⟨fun b ob q n hb he => u.keep b ob q n (fun z => hb (hs b z)) fun z => he (hx b z), fun _ _ q n _ he => u.any q n fun z => he (hx _ z), fun b ob q n he => u.free b ob q n fun z => he (hx b z), fun b ob q he => u.there b ob q fun z => he (hx b z), u.tups, u.frzs, u.tbls⟩
end

/-! ### the heap without what is tracked -/
def trk (h : Heap) (H : Hp) : List Addr := (List.range h.objs.size).filter fun a => (H a).isSome
def hidT (h : Heap) (H : Hp) : Heap := PySem.W.hideAll h (trk h H)
theorem hidT_size (h : Heap) (H : Hp) : (hidT h H).objs.size = h.objs.size := PySem.W.hideAll_size _ _
theorem hidT_get {h : Heap} {H : Hp} {b : Addr} {o : Obj} (e : h.get? b = some o) (n : H b = none) : (hidT h H).get? b = some o :=
  PySem.W.hideAll_get _ e fun hm => by
    have q : (H b).isSome = true := (List.mem_filter.mp hm).2
    rw [n] at q; simp at q
theorem of_hidT {h : Heap} {H : Hp} {b : Addr} {o : Obj} (e : (hidT h H).get? b = some o) : h.get? b = some o ∧ H b = none := by
  have e' : h.get? b = some o := PySem.W.of_hideAll (trk h H) e
  refine ⟨e', ?_⟩
  cases q : H b with
  | none => rfl
  | some x =>
    have hm : b ∈ trk h H := List.mem_filter.mpr ⟨List.mem_range.mpr (Heap.lt_size e'), by simp [q]⟩
    have z : (hidT h H).get? b = none := PySem.W.hideAll_none (trk h H) hm
    rw [z] at e; cases e

/-! ### OpenK's ledger, filled with every new object but one -/
def allNews (g h : Heap) (L : Addr) : List (Addr × Obj) := (List.range h.objs.size).filterMap fun a => if a = L ∨ (g.get? a).isSome = true then none else (h.get? a).map fun o => (a, o)
def rest (g h : Heap) (L d : Addr) : List (Addr × Obj) := (allNews g h L).filter fun p => decide (p.1 ≠ d)
end L2

namespace L2
open PySem PySem.Spec PyProof.Rows

/-- the module's facts, over the base: the heap at the law's entry without what is tracked there -/
structure Mod (K : PySem.W.Frag) (mg : Str → Option Value) (base : Heap) : Prop where
  kin : K.In base
  glob : base.Ns mainGlobals mg
  blt : ∃ mb, base.Ns builtinsNs mb ∧ ∀ x : Str, x ≠ "__name__" → mb x = bootBuiltins x
  nolimit : base.NoLimit

/-- the context: a def's body (or a comprehension's block) running. base: fixed through the whole law; s₀, H₀: the entry; outer: the frames whose slots others may change (a def's callers); stack: all frames that run;
   ex: iterators that were made ahead of the entry and are walked here (a comprehension's); fn: the names whose cells were made at the entry (a def: all; a comprehension's block: its own); calm: not within an except suite; pn: pins that every state bears; xe: what is wanted of an exception that leaves the code -/
structure Cx where
  prog : Program
  w : World
  K : PySem.W.Frag
  mg : Str → Option Value
  base : Heap
  A : Around
  N : List Str
  s₀ : Shared
  H₀ : Hp
  env : Env
  outer : List Env
  stack : List Env
  ex : List Addr
  fn : Str → Bool
  calm : Bool
  pn : List (Addr × Obj)
  xe : Value → Shared → Prop
/-- the callers' frames -/
def frs (l : List Env) : List Addr := l.filterMap (·.frame)
abbrev Cx.fs (X : Cx) : List Addr := frs X.outer

def Vis (sc : Scope) (x : Str) : Prop := sc.names.lookup x = some .local ∨ sc.names.lookup x = some .cell ∨ sc.names.lookup x = some .free
def Loc (sc : Scope) (x : Str) : Prop := sc.names.lookup x = some .local ∨ sc.names.lookup x = some .cell
def Look (env : Env) (h : Heap) (m : Str → Option Value) (x : Str) (u : Value) : Prop :=
  (env.kindOf x = some .local ∧ m x = some u) ∨ ((env.kindOf x = some .cell ∨ env.kindOf x = some .free) ∧ ∃ c, env.cells.lookup x = some c ∧ h.IsCell c (some u))

structure Cx.Ok (X : Cx) : Prop where
  mod : Mod X.K X.mg X.base
  kind : X.env.scope.kind = .function
  glob : X.env.globals = mainGlobals
  blt : X.env.builtins = builtinsNs
  above : X.s₀.heap.objs.size ≤ X.env.locals
  inj : ∀ x y c, X.env.cells.lookup x = some c → X.env.cells.lookup y = some c → x = y
  has : ∀ x, (X.env.kindOf x = some .cell ∨ X.env.kindOf x = some .free) → ∃ c, X.env.cells.lookup x = some c
  cab : ∀ x c, X.fn x = true → X.env.cells.lookup x = some c → X.s₀.heap.objs.size ≤ c
  hd : X.calm = true → X.A.handled = none
  frames : X.A.frames = some X.stack
  stk : X.stack = X.outer ∨ (X.stack = X.env :: X.outer ∧ X.env.frame = some X.env.locals)
  exf : ∀ b ∈ X.ex, b ≠ X.env.locals ∧ ∀ x c, X.env.cells.lookup x = some c → c ≠ b
  bs : ∀ b o, X.base.get? b = some o → X.s₀.heap.get? b = some o ∧ X.H₀ b = none
  bsz : X.base.objs.size ≤ X.s₀.heap.objs.size
  noex : ∀ b o, X.base.get? b = some o → b ∉ X.ex
  exfs : ∀ b ∈ X.ex, b ∉ X.fs
  funs : X.s₀.heap.FunFrames X.base X.outer
  frf : ∀ b ∈ X.fs, X.H₀ b = none

structure Inv (X : Cx) (pins : List (Addr × Obj)) (σ : List (Option V)) (H : Hp) (s : Shared) : Prop where
  ok : X.Ok
  os : s.os = X.s₀.os
  bare : AllBare s.gens
  base : Un X.fs X.ex X.H₀ H X.s₀.heap s.heap
  loc : ∃ m, s.heap.Ns X.env.locals m ∧ ∀ (i : Nat) (x : Str) (v : V), X.N[i]? = some x → σ[i]? = some (some v) → Vis X.env.scope x → ∃ u, RelV v u ∧ Look X.env s.heap m x u
  cell : ∀ x c, X.env.cells.lookup x = some c → ∃ v, s.heap.IsCell c v
  free : H X.env.locals = none
  freeC : ∀ x c, X.env.cells.lookup x = some c → H c = none
  pin : ∀ p ∈ X.pn ++ pins, s.heap.get? p.1 = some p.2 ∧ H p.1 = none ∧ p.1 ≠ X.env.locals ∧ p.1 ∉ X.fs ∧ ∀ v, p.2.data ≠ .cell v
  hok : HOk X.prog X.w H s.heap
  len : σ.length = X.N.length

section
variable {X : Cx} {pins : List (Addr × Obj)} {σ : List (Option V)} {H H' : Hp} {s : Shared} {h' : Heap}

theorem Cx.Ok.nofr (ok : X.Ok) {b : Addr} {o : Obj} (e : X.base.get? b = some o) : b ∉ X.fs := fun hb => by
  have := (ok.funs.mem hb).1
  rw [e] at this; cases this
theorem Inv.bs (I : Inv X pins σ H s) : ∀ b o, X.base.get? b = some o → s.heap.get? b = some o ∧ H b = none := fun b o e =>
  ⟨I.base.keep b o (I.ok.bs b o e).1 (I.ok.bs b o e).2 (I.ok.nofr e) (I.ok.noex b o e), I.base.free b o (I.ok.bs b o e).1 (I.ok.bs b o e).2 (I.ok.noex b o e)⟩
theorem Inv.bk (I : Inv X pins σ H s) : ∀ b o, X.base.get? b = some o → s.heap.get? b = some o := fun b o e => (I.bs b o e).1
theorem Inv.mod (I : Inv X pins σ H s) : Mod X.K X.mg X.base := I.ok.mod
theorem Inv.kIn (I : Inv X pins σ H s) : X.K.In s.heap := I.ok.mod.kin.keeps I.bk
theorem Inv.nolimit (I : Inv X pins σ H s) : s.heap.NoLimit := I.ok.mod.nolimit.keeps I.bk
/-- the frame over the base: for OpenK's rules (K.In X.base is I.mod.kin) -/
theorem Inv.fr (I : Inv X pins σ H s) : ∃ m, Fr X.base X.env.locals s.heap m :=
  let ⟨m, hn, _⟩ := I.loc
  ⟨m, hn, I.bk, Nat.le_trans I.ok.bsz I.ok.above⟩
theorem Inv.lt (I : Inv X pins σ H s) : X.env.locals < s.heap.objs.size := let ⟨_, hn, _⟩ := I.loc; hn.lt
theorem Inv.sz (I : Inv X pins σ H s) : X.s₀.heap.objs.size ≤ s.heap.objs.size := Nat.le_trans I.ok.above (Nat.le_of_lt I.lt)
theorem Inv.nofs (I : Inv X pins σ H s) {a : Addr} (h : s.heap.objs.size ≤ a) : a ∉ X.fs := fun hb => by
  obtain ⟨_, o, ho, _⟩ := I.ok.funs.mem hb
  exact absurd (Nat.lt_of_lt_of_le (Heap.lt_size ho) (Nat.le_trans I.sz h)) (Nat.lt_irrefl _)
theorem Inv.cne (I : Inv X pins σ H s) : ∀ x c, X.env.cells.lookup x = some c → c ≠ X.env.locals := fun x c e z => by
  obtain ⟨v, o, ho, hd⟩ := I.cell x c e
  obtain ⟨m, ⟨o', es, ep, ho', hd', _⟩, _⟩ := I.loc
  rw [z, ho'] at ho; cases ho; rw [hd'] at hd; cases hd
theorem Inv.funs (I : Inv X pins σ H s) : s.heap.FunFrames X.base X.outer := by
  have all : ∀ (l : List Env), (∀ b ∈ frs l, b ∈ X.fs) → X.s₀.heap.FunFrames X.base l → s.heap.FunFrames X.base l := by
    intro l
    induction l with
    | nil => intro _ _; trivial
    | cons env r ih =>
      intro hs hl
      obtain ⟨hk, ⟨L, o, hf, hn, ho, hd⟩, hr⟩ := hl
      have hL : L ∈ X.fs := hs L (by unfold frs; rw [List.filterMap_cons, hf]; exact List.mem_cons_self)
      obtain ⟨sl, e⟩ := I.base.slot L o ho (I.ok.frf L hL) hL fun z => I.ok.exfs L z hL
      exact ⟨hk, ⟨L, _, hf, hn, e, hd⟩, ih (fun b hb => hs b (by unfold frs; rw [List.filterMap_cons, hf]; exact List.mem_cons_of_mem _ hb)) hr⟩
  exact all X.outer (fun _ hb => hb) I.ok.funs

/-- the frames that run, for a call -/
theorem Inv.stack (I : Inv X pins σ H s) : s.heap.FunFrames X.base X.stack := by
  rcases I.ok.stk with e | ⟨e, hf⟩
  · rw [e]; exact I.funs
  · rw [e]
    obtain ⟨m, hn, _⟩ := I.loc
    refine .cons (by rw [I.ok.kind]; decide) hf hn ?_ I.funs
    exact Heap.get?_none_of_le (Nat.le_trans I.ok.bsz I.ok.above)
theorem Inv.stkSub (I : Inv X pins σ H s) : ∀ b ∈ frs X.stack, b ∈ X.env.locals :: X.fs := fun b hb => by
  rcases I.ok.stk with e | ⟨e, hf⟩
  · rw [e] at hb; exact List.mem_cons_of_mem _ hb
  · rw [e] at hb
    unfold frs at hb
    rw [List.filterMap_cons, hf] at hb
    exact hb
theorem Inv.stkFree (I : Inv X pins σ H s) : ∀ b ∈ frs X.stack, H b = none := fun b hb => by
  rcases List.mem_cons.mp (I.stkSub b hb) with e | hb
  · rw [e]; exact I.free
  · obtain ⟨_, o, ho, _⟩ := I.ok.funs.mem hb
    exact I.base.free b o ho (I.ok.frf b hb) fun z => I.ok.exfs b z hb

/-- THE STEP: the untracked objects but the frame and the records at ch are kept (the callers' frames up to slots), the frame's map is kept, the new abstract heap is held -/
theorem Inv.step {g' : Array GenState} {t' : Nat} {d' : Drawn} {ch : List Addr} (I : Inv X pins σ H s)
    (hch : ∀ b ∈ ch, (b ∈ X.ex ∨ X.s₀.heap.objs.size ≤ b) ∧ b ≠ X.env.locals ∧ (∀ x c, X.env.cells.lookup x = some c → c ≠ b) ∧ ∀ p ∈ X.pn ++ pins, p.1 ≠ b)
    (keep : ∀ b o, b ≠ X.env.locals → b ∉ X.fs → b ∉ ch → s.heap.get? b = some o → H b = none → h'.get? b = some o)
    (slot : ∀ b o, b ≠ X.env.locals → b ∈ X.fs → b ∉ ch → s.heap.get? b = some o → H b = none → ∃ sl, h'.get? b = some { o with slots := sl }) (free : ∀ b o, b ∉ ch → s.heap.get? b = some o → H b = none → H' b = none)
    (there : ∀ b o, b ∉ ch → s.heap.get? b = some o → ∃ o', h'.get? b = some o')
    (tups : ∀ b xs, H b = some (.tup xs) → H' b = some (.tup xs)) (frzs : ∀ b o u, H b = some (.frz o u) → H' b = some (.frz o u)) (tbls : ∀ b ps, H b = some (.tbl ps) → ∃ more, H' b = some (.tbl (ps ++ more)))
    (ns : ∀ m, s.heap.Ns X.env.locals m → h'.Ns X.env.locals m) (hok : HOk X.prog X.w H' h') (hg : AllBare g') :
    Inv X pins σ H' { s with heap := h', gens := g', drawn := d', toks := t' } := by
  have neL : ∀ b o, X.s₀.heap.get? b = some o → b ≠ X.env.locals := fun b o e => Nat.ne_of_lt (Nat.lt_of_lt_of_le (Heap.lt_size e) I.ok.above)
  have neC : ∀ b o, X.s₀.heap.get? b = some o → b ∉ X.ex → b ∉ ch := fun b o e hx hb => by
    rcases (hch b hb).1 with z | z
    · exact hx z
    · exact absurd (Nat.lt_of_lt_of_le (Heap.lt_size e) z) (Nat.lt_irrefl _)
  have cellK : ∀ x c, X.env.cells.lookup x = some c → ∀ v, s.heap.IsCell c v → h'.IsCell c v := fun x c e v ⟨o, ho, hd⟩ => by
    have nch : c ∉ ch := fun z => (hch c z).2.2.1 x c e rfl
    by_cases hc : c ∈ X.fs
    · obtain ⟨sl, q⟩ := slot c o (I.cne x c e) hc nch ho (I.freeC x c e)
      exact ⟨_, q, hd⟩
    · exact ⟨o, keep c o (I.cne x c e) hc nch ho (I.freeC x c e), hd⟩
  refine ⟨I.ok, I.os, hg, ⟨fun b o e n hb hx => ?_, fun b o e n hb hx => ?_, fun b o e n hx => ?_, fun b o e hx => ?_, fun b xs e => tups b xs (I.base.tups b xs e), fun b o xs e => frzs b o xs (I.base.frzs b o xs e), fun b ps e => ?_⟩, ?_, fun x c e => ?_, ?_, fun x c e => ?_, fun p hp => ?_, hok, I.len⟩
  · exact keep b o (neL b o e) hb (neC b o e hx) (I.base.keep b o e n hb hx) (I.base.free b o e n hx)
  · obtain ⟨sl, e1⟩ := I.base.slot b o e n hb hx
    obtain ⟨sl', e2⟩ := slot b _ (neL b o e) hb (neC b o e hx) e1 (I.base.free b o e n hx)
    exact ⟨sl', e2⟩
  · obtain ⟨o', e1⟩ := I.base.there b o e hx
    exact free b o' (neC b o e hx) e1 (I.base.free b o e n hx)
  · obtain ⟨o', e1⟩ := I.base.there b o e hx
    exact there b o' (neC b o e hx) e1
  · obtain ⟨m1, e1⟩ := I.base.tbls b ps e
    obtain ⟨m2, e2⟩ := tbls b _ e1
    exact ⟨m1 ++ m2, by rw [e2, Array.append_assoc]⟩
  · obtain ⟨m, hn, hl⟩ := I.loc
    refine ⟨m, ns m hn, fun i x v e1 e2 e3 => ?_⟩
    obtain ⟨u, r, l⟩ := hl i x v e1 e2 e3
    refine ⟨u, r, ?_⟩
    rcases l with l | ⟨k, c, e, z⟩
    · exact .inl l
    · exact .inr ⟨k, c, e, cellK x c e _ z⟩
  · obtain ⟨v, z⟩ := I.cell x c e
    exact ⟨v, cellK x c e v z⟩
  · obtain ⟨m, ⟨o, _, _, ho, _⟩, _⟩ := I.loc
    exact free _ o (fun z => (hch _ z).2.1 rfl) ho I.free
  · obtain ⟨v, o, ho, hd⟩ := I.cell x c e
    exact free c o (fun z => (hch c z).2.2.1 x c e rfl) ho (I.freeC x c e)
  · obtain ⟨e, n, ne, nf, d⟩ := I.pin p hp
    have nch : p.1 ∉ ch := fun z => (hch p.1 z).2.2.2 p hp rfl
    exact ⟨keep p.1 p.2 ne nf nch e n, free p.1 p.2 nch e n, ne, nf, d⟩
/-- .. where the frame's own object is kept too -/
theorem Inv.un {t' : Nat} (I : Inv X pins σ H s) (u : Un X.fs [] H H' s.heap h') (hok : HOk X.prog X.w H' h') : Inv X pins σ H' { s with heap := h', toks := t' } := by
  obtain ⟨m, ⟨o, es, ep, ho, r⟩, _⟩ := id I.loc
  obtain ⟨sl, hL⟩ := u.any ho I.free (by simp)
  exact I.step (g' := s.gens) (d' := s.drawn) (ch := []) (fun _ z => nomatch z) (fun b o _ hb _ e n => u.keep b o e n hb (by simp)) (fun b o _ hb _ e n => u.slot b o e n hb (by simp)) (fun b o _ e n => u.free b o e n (by simp)) (fun b o _ e => u.there b o e (by simp)) u.tups u.frzs u.tbls (fun m' hm => by
    obtain ⟨o', es', ep', ho', r'⟩ := hm
    rw [ho] at ho'; cases ho'
    exact ⟨_, es', ep', hL, r'⟩) hok I.bare
/-- behind a call (or a comprehension's block): the slots of this frame may have changed too, the records at ch may have turned -/
theorem Inv.call {g' : Array GenState} {t' : Nat} {d' : Drawn} {ch : List Addr} (I : Inv X pins σ H s) (u : Un (frs X.stack) ch H H' s.heap h') (hok : HOk X.prog X.w H' h') (hg : AllBare g')
    (hch : ∀ b ∈ ch, (b ∈ X.ex ∨ X.s₀.heap.objs.size ≤ b) ∧ b ≠ X.env.locals ∧ (∀ x c, X.env.cells.lookup x = some c → c ≠ b) ∧ ∀ p ∈ X.pn ++ pins, p.1 ≠ b) :
    Inv X pins σ H' { s with heap := h', gens := g', drawn := d', toks := t' } := by
  obtain ⟨m, ⟨o, es, ep, ho, r⟩, _⟩ := id I.loc
  obtain ⟨sl, hL⟩ := u.any ho I.free fun z => (hch _ z).2.1 rfl
  exact I.step (ch := ch) hch (fun b o hL hb hc e n => u.keep b o e n (fun z => (List.mem_cons.mp (I.stkSub b z)).elim hL hb) hc) (fun b o _ _ hc e n => u.any e n hc) (fun b o hc e n => u.free b o e n hc) (fun b o hc e => u.there b o e hc) u.tups u.frzs u.tbls (fun m' hm => by
    obtain ⟨o', es', ep', ho', r'⟩ := hm
    rw [ho] at ho'; cases ho'
    exact ⟨_, es', ep', hL, r'⟩) hok hg
/-- an untracked record of ours (an iterator) has turned -/
theorem Inv.turned {t' : Nat} {it : Addr} (I : Inv X pins σ H s) (k : ∀ b o, b ≠ it → s.heap.get? b = some o → h'.get? b = some o) (hn : H it = none) (hL : it ≠ X.env.locals)
    (h1 : it ∈ X.ex ∨ X.s₀.heap.objs.size ≤ it) (h2 : ∀ x c, X.env.cells.lookup x = some c → c ≠ it) (h3 : ∀ p ∈ X.pn ++ pins, p.1 ≠ it) : Inv X pins σ H { s with heap := h', toks := t' } := by
  have nit : ∀ b u, H b = some u → b ≠ it := fun b u e z => by rw [z, hn] at e; cases e
  refine I.step (g' := s.gens) (d' := s.drawn) (ch := [it]) (fun b hb => ?_) (fun b o _ _ hc e _ => k b o (fun z => hc (by simp [z])) e) (fun b o _ _ hc e _ => ⟨o.slots, k b o (fun z => hc (by simp [z])) e⟩) (fun _ _ _ _ n => n)
    (fun b o hc e => ⟨o, k b o (fun z => hc (by simp [z])) e⟩) (fun _ _ e => e) (fun _ _ _ e => e) (fun b ps e => ⟨#[], by rw [e]; simp⟩) (fun m hm => ?_) (fun b u e => ?_) I.bare
  · have e : b = it := by simpa using hb
    subst e
    exact ⟨h1, hL, h2, h3⟩
  · obtain ⟨o, es, ep, ho, r⟩ := hm
    exact ⟨o, es, ep, k _ o (Ne.symm hL) ho, r⟩
  · refine (I.hok b u e).stay (fun c v hc q => k c v ?_ q) (fun _ q => q) fun _ _ q => q
    rcases hc with z | z
    · rw [z]; exact nit b u e
    · exact nit c _ z
theorem Inv.tok (I : Inv X pins σ H s) (t : Nat) : Inv X pins σ H { s with toks := t } := I.un (h' := s.heap) (t' := t) Un.refl I.hok
/-- all objects kept -/
theorem Inv.kept {t' : Nat} (I : Inv X pins σ H s) (k : ∀ b u, s.heap.get? b = some u → h'.get? b = some u) : Inv X pins σ H { s with heap := h', toks := t' } := I.un (Un.kept k) (I.hok.kept k)
/-- a new object laid and tracked -/
theorem Inv.laid {a : Addr} {o : HO} {t' : Nat} (I : Inv X pins σ H s) (k : ∀ b u, s.heap.get? b = some u → h'.get? b = some u) (hp : s.heap.objs.size ≤ a) (new : ObjOk X.prog X.w (upd H a o) h' a o) :
    Inv X pins σ (upd H a o) { s with heap := h', toks := t' } := I.un (Un.laid k hp (I.hok.fresh hp)) (I.hok.laid k hp new)
/-- an object written -/
theorem Inv.write {x e : Addr} {o : HO} {t' : Nat} (I : Inv X pins σ H s) (mu : Mut (H x)) (he : e = x ∨ H e = some (.own x)) (k : ∀ b u, b ≠ e → s.heap.get? b = some u → h'.get? b = some u) (heo : ∃ u, h'.get? e = some u)
    (new : ObjOk X.prog X.w (upd H x o) h' x o) : Inv X pins σ (upd H x o) { s with heap := h', toks := t' } := I.un (Un.write mu he k heo) (I.hok.write mu he k heo new)
theorem Inv.pins_of {pins' : List (Addr × Obj)} (I : Inv X pins σ H s) (h : ∀ p ∈ pins', s.heap.get? p.1 = some p.2 ∧ H p.1 = none ∧ p.1 ≠ X.env.locals ∧ p.1 ∉ X.fs ∧ ∀ v, p.2.data ≠ .cell v) : Inv X pins' σ H s :=
  ⟨I.ok, I.os, I.bare, I.base, I.loc, I.cell, I.free, I.freeC, fun p hp => (List.mem_append.mp hp).elim (fun z => I.pin p (List.mem_append_left _ z)) (h p), I.hok, I.len⟩

theorem nodup_ix {N : List Str} (hN : N.Nodup) {i j : Nat} {x : Str} (a : N[i]? = some x) (b : N[j]? = some x) : i = j := by
  obtain ⟨h1, e1⟩ := List.getElem?_eq_some_iff.mp a
  obtain ⟨h2, e2⟩ := List.getElem?_eq_some_iff.mp b
  exact (List.getElem_inj hN).mp (e1.trans e2.symm)

/-- a name is stored; what changed -/
theorem store_ok2 {M : Model} {A : Around} {E : Value → Shared → Prop} {i : Nat} {x : Str} {v : V} {u : Value} {Q : Unit → Shared → Prop} (I : Inv X pins σ H s) (hN : X.N.Nodup) (hi : X.N[i]? = some x) (hx : Loc X.env.scope x) (r : RelV v u)
    (h : ∀ s', Inv X pins (σ.set i (some v)) H s' → (∃ a, Heap.SameBut a s.heap s'.heap ∧ (a = X.env.locals ∨ X.env.cells.lookup x = some a)) → Q () s') (hf : X.fn x = true ∨ X.env.scope.names.lookup x = some .local := by first | exact .inl rfl | exact .inr rfl | assumption) : wpAny M A (storeName X.env x u) Q E s := by
  obtain ⟨m, hn, hl⟩ := id I.loc
  have hcls : (X.env.scope.kind == .class || (X.env.scope.kind == .module && X.env.locals != X.env.globals)) = false := by rw [I.ok.kind]; rfl
  have hiσ : i < σ.length := by rw [I.len]; exact (List.getElem?_eq_some_iff.mp hi).1
  have cne := I.cne
  have tracked : ∀ {a : Addr} {h' : Heap}, (∃ o, s.heap.get? a = some o ∧ H a = none) → Heap.SameBut a s.heap h' → HOk X.prog X.w H h' := fun {a h'} ha hs b ob e => by
    obtain ⟨_, _, hfree⟩ := ha
    refine (I.hok b ob e).stay (fun c w' hc q => (hs.2 c ?_).trans q) (fun _ q => q) fun _ _ q => q
    rintro rfl
    rcases hc with rfl | hc
    · rw [hfree] at e; cases e
    · rw [hfree] at hc; cases hc
  rcases hx with hk | hk
  · refine wpAny_storeName_local hk hn (fun h' hn' hs => ?_) hcls
    obtain ⟨oL, _, _, hoL, _⟩ := id hn
    refine h _ ⟨I.ok, I.os, I.bare, ⟨fun b o e n hb hx => ?_, fun b o e n hb hx => ?_, I.base.free, fun b o e hx => ?_, I.base.tups, I.base.frzs, I.base.tbls⟩, ⟨_, hn', fun j y v' e1 e2 e3 => ?_⟩, fun y c e => ?_, I.free, I.freeC, fun p hp => ?_, tracked ⟨oL, hoL, I.free⟩ hs, by simpa using I.len⟩ ⟨_, hs, .inl rfl⟩
    · exact (hs.2 b (Nat.ne_of_lt (Nat.lt_of_lt_of_le (Heap.lt_size e) I.ok.above))).trans (I.base.keep b o e n hb hx)
    · obtain ⟨sl, e1⟩ := I.base.slot b o e n hb hx
      exact ⟨sl, (hs.2 b (Nat.ne_of_lt (Nat.lt_of_lt_of_le (Heap.lt_size e) I.ok.above))).trans e1⟩
    · obtain ⟨o', e1⟩ := I.base.there b o e hx
      exact ⟨o', (hs.2 b (Nat.ne_of_lt (Nat.lt_of_lt_of_le (Heap.lt_size e) I.ok.above))).trans e1⟩
    · by_cases hj : j = i
      · subst hj
        rw [hi] at e1; cases e1
        rw [List.getElem?_set_self hiσ] at e2
        cases e2
        exact ⟨u, r, .inl ⟨hk, by simp⟩⟩
      · rw [List.getElem?_set_ne (Ne.symm hj)] at e2
        obtain ⟨u', r', q⟩ := hl j y v' e1 e2 e3
        refine ⟨u', r', ?_⟩
        rcases q with ⟨k, e⟩ | ⟨k, c, e, z⟩
        · refine .inl ⟨k, ?_⟩
          have : y ≠ x := fun e => hj (nodup_ix hN e1 (e ▸ hi))
          simp [this, e]
        · exact .inr ⟨k, c, e, z.sameBut hs (cne y c e)⟩
    · obtain ⟨w', z⟩ := I.cell y c e
      exact ⟨w', z.sameBut hs (cne y c e)⟩
    · obtain ⟨e, n, ne, nf, d⟩ := I.pin p hp
      exact ⟨(hs.2 p.1 ne).trans e, n, ne, nf, d⟩
  · have hfn : X.fn x = true := by
      rcases hf with z | z
      · exact z
      · rw [z] at hk; cases hk
    obtain ⟨c, hc⟩ := I.ok.has x (.inl hk)
    obtain ⟨w', z⟩ := I.cell x c hc
    refine wpAny_storeName_cell I.ok.kind hk hc z (fun h' hc' hs => ?_)
    obtain ⟨oc, hoc, hocd⟩ := id z
    refine h { s with heap := h' } ⟨I.ok, I.os, I.bare, ⟨fun b o e n hb hx => ?_, fun b o e n hb hx => ?_, I.base.free, fun b o e hx => ?_, I.base.tups, I.base.frzs, I.base.tbls⟩, ⟨m, hn.sameBut hs (Ne.symm (cne x c hc)), fun j y v' e1 e2 e3 => ?_⟩, fun y c' e => ?_, I.free, I.freeC, fun p hp => ?_, tracked ⟨oc, hoc, I.freeC x c hc⟩ hs, by simpa using I.len⟩ ⟨c, hs, .inr hc⟩
    · exact (hs.2 b (Nat.ne_of_lt (Nat.lt_of_lt_of_le (Heap.lt_size e) (I.ok.cab x c hfn hc)))).trans (I.base.keep b o e n hb hx)
    · obtain ⟨sl, e1⟩ := I.base.slot b o e n hb hx
      exact ⟨sl, (hs.2 b (Nat.ne_of_lt (Nat.lt_of_lt_of_le (Heap.lt_size e) (I.ok.cab x c hfn hc)))).trans e1⟩
    · obtain ⟨o', e1⟩ := I.base.there b o e hx
      exact ⟨o', (hs.2 b (Nat.ne_of_lt (Nat.lt_of_lt_of_le (Heap.lt_size e) (I.ok.cab x c hfn hc)))).trans e1⟩
    · by_cases hj : j = i
      · subst hj
        rw [hi] at e1; cases e1
        rw [List.getElem?_set_self hiσ] at e2
        cases e2
        exact ⟨u, r, .inr ⟨.inl hk, c, hc, hc'⟩⟩
      · rw [List.getElem?_set_ne (Ne.symm hj)] at e2
        obtain ⟨u', r', q⟩ := hl j y v' e1 e2 e3
        refine ⟨u', r', ?_⟩
        rcases q with q | ⟨k, c', e, z'⟩
        · exact .inl q
        · refine .inr ⟨k, c', e, z'.sameBut hs ?_⟩
          rintro rfl
          exact hj (nodup_ix hN e1 (I.ok.inj _ _ _ e hc ▸ hi))
    · by_cases hcc : c' = c
      · subst hcc; exact ⟨_, hc'⟩
      · obtain ⟨w2, z2⟩ := I.cell y c' e
        exact ⟨w2, z2.sameBut hs hcc⟩
    · obtain ⟨e, n, ne, nf, d⟩ := I.pin p hp
      refine ⟨(hs.2 p.1 ?_).trans e, n, ne, nf, d⟩
      intro q
      rw [q, hoc] at e
      have q' : oc = p.2 := Option.some.inj e
      exact d w' (by rw [← q']; exact hocd)
theorem store_ok {M : Model} {A : Around} {E : Value → Shared → Prop} {i : Nat} {x : Str} {v : V} {u : Value} {Q : Unit → Shared → Prop} (I : Inv X pins σ H s) (hN : X.N.Nodup) (hi : X.N[i]? = some x) (hx : Loc X.env.scope x) (r : RelV v u)
    (h : ∀ s', Inv X pins (σ.set i (some v)) H s' → Q () s') (hf : X.fn x = true ∨ X.env.scope.names.lookup x = some .local := by first | exact .inl rfl | exact .inr rfl | assumption) : wpAny M A (storeName X.env x u) Q E s :=
  store_ok2 I hN hi hx r (fun s' I' _ => h s' I') hf
/-- behind a call or a block, the state as it is -/
theorem Inv.call' {s' : Shared} {ch : List Addr} (I : Inv X pins σ H s) (ho : s'.os = s.os) (u : Un (frs X.stack) ch H H' s.heap s'.heap) (hok : HOk X.prog X.w H' s'.heap) (hg : AllBare s'.gens)
    (hch : ∀ b ∈ ch, (b ∈ X.ex ∨ X.s₀.heap.objs.size ≤ b) ∧ b ≠ X.env.locals ∧ (∀ x c, X.env.cells.lookup x = some c → c ≠ b) ∧ ∀ p ∈ X.pn ++ pins, p.1 ≠ b) : Inv X pins σ H' s' := by
  obtain ⟨h', g', d', t', o'⟩ := s'
  have e : o' = s.os := ho
  subst e
  exact I.call (g' := g') (t' := t') (d' := d') u hok hg hch
end

/-! ### the judgements -/
/-- an exception: its class, its own dict's address (where it has one), the abstract heap behind it -/
abbrev XK := Value → Option Addr → Hp → Prop
abbrev St := List (Option V)
abbrev VK := V → Hp → Prop
/-- an expression's reading; a test's; an argument list's -/
abbrev TE := St → Hp → VK → Prop
abbrev TT := St → Hp → (Bool → Hp → Prop) → Prop
abbrev TA := St → Hp → (List V → Hp → Prop) → Prop
/-- what is wanted behind a statement -/
structure Ends where
  nx : St → Hp → Prop
  rt : VK
  bk : St → Hp → Prop := fun _ _ => False
  ct : St → Hp → Prop := fun _ _ => False
abbrev TS := Ends → St → Hp → Prop

def EP (X : Cx) (pins : List (Addr × Obj)) (σ : St) (Q : VK) (u : Value) (s' : Shared) : Prop := ∃ v H', Inv X pins σ H' s' ∧ RelV v u ∧ Q v H'
def TP (X : Cx) (pins : List (Addr × Obj)) (σ : St) (Q : Bool → Hp → Prop) (b : Bool) (s' : Shared) : Prop := ∃ H', Inv X pins σ H' s' ∧ Q b H'
def AP (X : Cx) (pins : List (Addr × Obj)) (σ : St) (Q : List V → Hp → Prop) (us : List Value) (s' : Shared) : Prop := ∃ vs H', Inv X pins σ H' s' ∧ Vals vs us ∧ Q vs H'
def SP (X : Cx) (pins : List (Addr × Obj)) (D : Ends) (f : Flow) (s' : Shared) : Prop :=
  match f with
  | .next => ∃ σ' H', Inv X pins σ' H' s' ∧ D.nx σ' H'
  | .brk => ∃ σ' H', Inv X pins σ' H' s' ∧ D.bk σ' H'
  | .cont => ∃ σ' H', Inv X pins σ' H' s' ∧ D.ct σ' H'
  | .ret u => ∃ v σ' H', Inv X pins σ' H' s' ∧ RelV v u ∧ D.rt v H'

def PE (X : Cx) (e : Expr) (t : TE) : Prop :=
  ∀ (pins : List (Addr × Obj)) (s : Shared) (σ : St) (H : Hp) (Q : VK), Inv X pins σ H s → t σ H Q → wpAny (model X.prog X.w) X.A (eval e X.env) (EP X pins σ Q) X.xe s
def PT (X : Cx) (e : Expr) (t : TT) : Prop :=
  ∀ (pins : List (Addr × Obj)) (s : Shared) (σ : St) (H : Hp) (Q : Bool → Hp → Prop), Inv X pins σ H s → t σ H Q → wpAny (model X.prog X.w) X.A (isTrue e X.env (eval e X.env)) (TP X pins σ Q) X.xe s
/-- a test whatever its 'whole' is (and, or) -/
def PW (X : Cx) (e : Expr) (t : TT) : Prop :=
  ∀ (whole : Sem Value) (pins : List (Addr × Obj)) (s : Shared) (σ : St) (H : Hp) (Q : Bool → Hp → Prop), Inv X pins σ H s → t σ H Q → wpAny (model X.prog X.w) X.A (isTrue e X.env whole) (TP X pins σ Q) X.xe s
theorem PW.pt {X : Cx} {e : Expr} {t : TT} (h : PW X e t) : PT X e t := h _
/-- an argument list (no star), from the left -/
def PA (X : Cx) (es : List Expr) (t : TA) : Prop :=
  ∀ (pos : Pos) (pins : List (Addr × Obj)) (s : Shared) (σ : St) (H : Hp) (Q : List V → Hp → Prop), Inv X pins σ H s → t σ H Q → wpAny (model X.prog X.w) X.A (spliced (backTo pos (starEach es X.env))) (AP X pins σ Q) X.xe s
def PS (X : Cx) (st : Stmt) (t : TS) : Prop :=
  ∀ (pins : List (Addr × Obj)) (s : Shared) (σ : St) (H : Hp) (D : Ends), Inv X pins σ H s → t D σ H → wpAny (model X.prog X.w) X.A (exec st X.env) (SP X pins D) X.xe s
def PSs (X : Cx) (st : List Stmt) (t : TS) : Prop :=
  ∀ (pins : List (Addr × Obj)) (s : Shared) (σ : St) (H : Hp) (D : Ends), Inv X pins σ H s → t D σ H → wpAny (model X.prog X.w) X.A (execs st X.env) (SP X pins D) X.xe s
/-- weaken the end -/
theorem thn {α : Type} {t : Sem α} {Q Q' : α → Shared → Prop} {M : Model} {A : Around} {E : Value → Shared → Prop} {s : Shared} (h : wpAny M A t Q E s) (hQ : ∀ a s, Q a s → Q' a s) : wpAny M A t Q' E s := wpAny_mono h hQ fun _ _ x => x
end L2

namespace L2
open PySem PySem.Spec PyProof.Rows
section
variable {X : Cx}

/-! ### names and constants -/
def tVar (i : Nat) : TE := fun σ H Q => ∃ v, σ[i]? = some (some v) ∧ Q v H
def tC (v : V) : TE := fun _ H Q => Q v H
theorem pe_var {i : Nat} {x : Str} {pos : Pos} (hN : X.N[i]? = some x) (hv : Vis X.env.scope x) (hd : (x == ("__debug__" : Str)) = false := by decide) (hcd : (x == ("__classdict__" : Str)) = false := by decide) : PE X (.Name x pos) (tVar i) := by
  intro pins s σ H Q I h
  obtain ⟨v, e, h⟩ := h
  obtain ⟨m, hn, hl⟩ := I.loc
  obtain ⟨u, r, l⟩ := hl i x v hN e hv
  have fin : EP X pins σ Q u s := ⟨v, H, I, r, h⟩
  rcases l with ⟨hk, hm⟩ | ⟨hk, c, hc, hcell⟩
  · exact wpAny_Name (wpAny_loadName_local I.ok.kind hk hn hm fin) hd
  · rcases hk with hk | hk
    · exact wpAny_Name (wpAny_loadName_cell I.ok.kind hk hc hcell fin) hd
    · exact wpAny_Name (wpAny_loadName_free I.ok.kind hk hc hcell fin hcd) hd
theorem pe_int {i j pos} : PE X (.Constant (.int i) j pos) (tC (.int i)) := fun _ _ _ H _ I h => wpAny_Constant_int ⟨.int i, H, I.tok _, ⟨_, rfl⟩, h⟩
theorem pe_bl {b j pos} : PE X (.Constant (.bool b) j pos) (tC (.bl b)) := fun _ _ _ H _ I h => Constant_bool ⟨.bl b, H, I, rfl, h⟩
theorem pe_non {j pos} : PE X (.Constant .none j pos) (tC .non) := fun _ _ _ H _ I h => Constant_none ⟨.non, H, I, rfl, h⟩
theorem pe_str {x j pos} : PE X (.Constant (.str x) j pos) (tC (.str x)) := fun _ _ _ H _ I h => Calls.Constant_str ⟨.str x, H, I.tok _, ⟨_, rfl⟩, h⟩

/-- a global name of the def -/
def Gl (X : Cx) (x : Str) : Prop := X.env.kindOf x = some .globalImplicit
theorem ld_glob {E : Value → Shared → Prop} {pins : List (Addr × Obj)} {s : Shared} {σ : St} {H : Hp} {x : Str} {u : Value} {pos : Pos} {Q : Value → Shared → Prop} (I : Inv X pins σ H s) (hg : Gl X x) (hm : X.mg x = some u) (h : Q u s)
    (hd : (x == ("__debug__" : Str)) = false := by decide) : wpAny (model X.prog X.w) X.A (eval (.Name x pos) X.env) Q E s :=
  Calls.Name_function_global I.ok.kind hg (Calls.loadGlobal_global (by rw [I.ok.glob]; exact I.mod.glob.keeps I.bk) hm h) hd
theorem ld_blt {E : Value → Shared → Prop} {pins : List (Addr × Obj)} {s : Shared} {σ : St} {H : Hp} {x : Str} {u : Value} {pos : Pos} {Q : Value → Shared → Prop} (I : Inv X pins σ H s) (hg : Gl X x) (hm : X.mg x = none) (hv : bootBuiltins x = some u) (h : Q u s)
    (hn : x ≠ "__name__" := by decide) (hd : (x == ("__debug__" : Str)) = false := by decide) : wpAny (model X.prog X.w) X.A (eval (.Name x pos) X.env) Q E s := by
  obtain ⟨mb, h1, h2⟩ := I.mod.blt
  exact Calls.Name_function_global I.ok.kind hg (Calls.loadGlobal_builtin (by rw [I.ok.glob]; exact I.mod.glob.keeps I.bk) hm (by rw [I.ok.blt]; exact h1.keeps I.bk) ((h2 x hn).trans hv) h) hd
/-- a module's constant, a class, a function, as a value -/
theorem pe_glob {x : Str} {v : V} {u : Value} {pos : Pos} (hg : Gl X x) (hm : X.mg x = some u) (r : RelV v u) (hd : (x == ("__debug__" : Str)) = false := by decide) : PE X (.Name x pos) (tC v) :=
  fun _ _ _ H _ I h => ld_glob I hg hm ⟨v, H, I, r, h⟩ hd
theorem pe_bltn {x : Str} {v : V} {u : Value} {pos : Pos} (hg : Gl X x) (hm : X.mg x = none) (hv : bootBuiltins x = some u) (r : RelV v u) (hn : x ≠ "__name__" := by decide) (hd : (x == ("__debug__" : Str)) = false := by decide) : PE X (.Name x pos) (tC v) :=
  fun _ _ _ H _ I h => ld_blt I hg hm hv ⟨v, H, I, r, h⟩ hn hd

variable {a b : Expr} {ta tb : TE} {pos : Pos}
/-- a comparison as a value, as a test -/
def tB (t : TE) : TT := fun σ H Q => t σ H fun x H1 => ∃ c, x = .bl c ∧ Q c H1
/-- an expression whose value is a bool, as a test -/
theorem pt_val {e : Expr} {t : TE} (h : PE X e t) (he : ∀ whole, isTrue e X.env whole = (do let v ← whole; standAt e.pos; holding [v] (truthy v)) := by intro _; rfl) : PT X e (tB t) := by
  intro pins s σ H Q I hw
  refine isTrue_plain (thn (h pins s σ H _ I hw) fun v s1 ⟨x, H1, I1, r1, q1⟩ => ?_) (he _)
  obtain ⟨d, rfl, q⟩ := q1
  cases r1
  exact wpAny_truthy_bool ⟨H1, I1, q⟩

/-! ### and, or, not -/
variable {tA tB' : TT} {rest : List Expr}
def tOr (t u : TT) : TT := fun σ H Q => t σ H fun c H1 => if c = true then Q true H1 else u σ H1 Q
def tNot (t : TT) : TT := fun σ H Q => t σ H fun c H1 => Q (!c) H1
theorem pw_or1 (ha : PT X a tA) : PW X (.BoolOp .Or [a] pos) tA := by
  intro wh pins s σ H Q I h
  refine isTrue_or (thn (ha pins s σ H Q I h) fun c s1 e => ?_)
  cases c with
  | false => exact isTrue_or_nil e
  | true => exact e
theorem pw_or (ha : PT X a tA) (hb : PW X (.BoolOp .Or (b :: rest) pos) tB') : PW X (.BoolOp .Or (a :: b :: rest) pos) (tOr tA tB') := by
  intro wh pins s σ H Q I h
  refine isTrue_or (thn (ha pins s σ H _ I h) fun c s1 ⟨H1, I1, q1⟩ => ?_)
  cases c with
  | true => exact ⟨H1, I1, q1⟩
  | false => exact hb wh pins s1 σ H1 Q I1 q1
theorem pt_not (ha : PT X a tA) : PT X (.UnaryOp .Not a pos) (tNot tA) := by
  intro pins s σ H Q I h
  exact isTrue_not (ha pins s σ H (fun c H1 => Q (!c) H1) I h)
/-- .. as values (bools) -/
def tAndV (ta tb : TE) : TE := fun σ H Q => ta σ H fun x H1 => ∃ c, x = .bl c ∧ if c = true then tb σ H1 Q else Q (.bl false) H1
def tNotV (ta : TE) : TE := fun σ H Q => ta σ H fun x H1 => ∃ c, x = .bl c ∧ Q (.bl (!c)) H1
theorem pe_one {op} {t : TE} (h : PE X a t) : PE X (.BoolOp op [a] pos) t := fun pins s σ H Q I hw => BoolOp_one (h pins s σ H Q I hw)
theorem pe_and (ha : PE X a ta) (hb : PE X (.BoolOp .And (b :: rest) pos) tb) : PE X (.BoolOp .And (a :: b :: rest) pos) (tAndV ta tb) := by
  intro pins s σ H Q I h
  refine BoolOp_and (thn (ha pins s σ H _ I h) fun v s1 ⟨x, H1, I1, r1, q1⟩ => ?_)
  obtain ⟨c, rfl, q1⟩ := q1
  cases r1
  refine wpAny_truthy_bool ?_
  cases c with
  | true => exact hb pins s1 σ H1 Q I1 q1
  | false => exact ⟨.bl false, H1, I1, rfl, q1⟩
theorem pe_not (ha : PE X a ta) : PE X (.UnaryOp .Not a pos) (tNotV ta) := by
  intro pins s σ H Q I h
  refine UnaryOp_ (thn (ha pins s σ H _ I h) fun v s1 ⟨x, H1, I1, r1, q1⟩ => ?_)
  obtain ⟨c, rfl, q1⟩ := q1
  cases r1
  exact not_of (wpAny_truthy_bool ⟨.bl (!c), H1, I1, rfl, q1⟩)
end
end L2

namespace L2
open PySem PySem.Spec PyProof.Rows

/-! ### a list, a tuple that is read: tracked, frozen, or an object of the module -/
def SqL (K : PySem.W.Frag) (H : Hp) (a : Addr) (xs : List V) : Prop :=
  Rd H a (.lst xs) ∨
    ∃ (o : Obj) (its : Array Value) (n : Nat), K.lookup a = some o ∧ o.cls = .type "list" ∧ o.dict = none ∧ o.data = .seq its n ∧ its.size ≤ sizeLine ∧ Vals xs its.toList
def SqT (K : PySem.W.Frag) (H : Hp) (a : Addr) (xs : List V) : Prop :=
  Rd H a (.tup xs) ∨
    ∃ (o : Obj) (its : Array Value) (n : Nat), K.lookup a = some o ∧ o.cls = .type "tuple" ∧ o.data = .seq its n ∧ its.size ≤ sizeLine ∧ Vals xs its.toList
def absV : Value → Option V
  | .none => some .non
  | .bool b => some (.bl b)
  | .int i _ => some (.int i)
  | .str x _ => some (.str x)
  | .bytes b _ => some (.byt b)
  | .float b _ => some (.flt b)
  | .ref a => some (.ref a)
  | .type n => some (.ty n)
  | _ => none
theorem RelV.abs {x : V} {u : Value} (r : RelV x u) : absV u = some x := by
  cases x with
  | non => cases r; rfl
  | bl _ => cases r; rfl
  | int _ => obtain ⟨t, rfl⟩ := r; rfl
  | str _ => obtain ⟨t, rfl⟩ := r; rfl
  | byt _ => obtain ⟨t, rfl⟩ := r; rfl
  | flt _ => obtain ⟨t, rfl⟩ := r; rfl
  | ref _ => cases r; rfl
  | ty _ => cases r; rfl
theorem RelV.inj {x y : V} {u : Value} (r : RelV x u) (q : RelV y u) : x = y := Option.some.inj (r.abs.symm.trans q.abs)
theorem Vals.inj : ∀ {xs ys : List V} {us : List Value}, Vals xs us → Vals ys us → xs = ys
  | _, _, _, .nil, .nil => rfl
  | _, _, _, .cons r t, .cons r' t' => by rw [r.inj r', Vals.inj t t']
section
variable {X : Cx} {pins : List (Addr × Obj)} {σ : St} {H : Hp} {s : Shared} {a : Addr} {xs ys : List V}
theorem SqL.of {K : PySem.W.Frag} (h : H a = some (.lst xs)) : SqL K H a xs := .inl (.inl h)
theorem SqT.of {K : PySem.W.Frag} (h : H a = some (.tup xs)) : SqT K H a xs := .inl (.inl h)
theorem Inv.list (I : Inv X pins σ H s) (h : SqL X.K H a xs) : ∃ its : List Value, Vals xs its ∧ PlainL s.heap a its.toArray ∧ xs.length ≤ sizeLine := by
  rcases h with h | ⟨o, its, n, hk, hc, hd, hs, hz, r⟩
  · obtain ⟨z, its, n, r, e⟩ := h.ok I.hok
    exact ⟨its, r, ⟨_, n, e, rfl, rfl, rfl⟩, z⟩
  · refine ⟨its.toList, r, ⟨o, n, I.kIn a o hk, hc, hd, by simpa using hs⟩, ?_⟩
    have e := r.length
    simp only [Array.length_toList] at e
    omega
theorem Inv.tuple (I : Inv X pins σ H s) (h : SqT X.K H a xs) : ∃ its : List Value, Vals xs its ∧ IsTup s.heap a its.toArray ∧ xs.length ≤ sizeLine := by
  rcases h with h | ⟨o, its, n, hk, hc, hs, hz, r⟩
  · obtain ⟨z, its, r, p⟩ := h.ok I.hok
    exact ⟨its, r, p, z⟩
  · refine ⟨its.toList, r, ⟨o, I.kIn a o hk, hc, n, by simpa using hs⟩, ?_⟩
    have e := r.length
    simp only [Array.length_toList] at e
    omega
theorem Inv.list_inj (I : Inv X pins σ H s) (h : SqL X.K H a xs) (h' : SqL X.K H a ys) : xs = ys := by
  obtain ⟨its, r, ⟨o, n, e, _, _, d⟩, _⟩ := I.list h
  obtain ⟨its', r', ⟨o', n', e', _, _, d'⟩, _⟩ := I.list h'
  rw [e] at e'; cases e'
  rw [d] at d'
  injection d' with d1 _
  have : its = its' := by simpa using congrArg Array.toList d1
  subst this
  exact r.inj r'
theorem Inv.tuple_inj (I : Inv X pins σ H s) (h : SqT X.K H a xs) (h' : SqT X.K H a ys) : xs = ys := by
  obtain ⟨its, r, ⟨o, e, _, n, d⟩, _⟩ := I.tuple h
  obtain ⟨its', r', ⟨o', e', _, n', d'⟩, _⟩ := I.tuple h'
  rw [e] at e'; cases e'
  rw [d] at d'
  injection d' with d1 _
  have : its = its' := by simpa using congrArg Array.toList d1
  subst this
  exact r.inj r'
end

/-! ### another wish about exceptions -/
abbrev Cx.wish (X : Cx) (E : Value → Shared → Prop) : Cx := { X with xe := E }
/-- no exception leaves -/
abbrev Cx.nox (X : Cx) : Cx := X.wish fun _ _ => False
theorem Cx.Ok.wish {X : Cx} (ok : X.Ok) (E : Value → Shared → Prop) : (X.wish E).Ok :=
  ⟨ok.mod, ok.kind, ok.glob, ok.blt, ok.above, ok.inj, ok.has, ok.cab, ok.hd, ok.frames, ok.stk, ok.exf, ok.bs, ok.bsz, ok.noex, ok.exfs, ok.funs, ok.frf⟩
theorem Cx.Ok.unwish {X : Cx} {E : Value → Shared → Prop} (ok : (X.wish E).Ok) : X.Ok :=
  ⟨ok.mod, ok.kind, ok.glob, ok.blt, ok.above, ok.inj, ok.has, ok.cab, ok.hd, ok.frames, ok.stk, ok.exf, ok.bs, ok.bsz, ok.noex, ok.exfs, ok.funs, ok.frf⟩
section
variable {X : Cx} {pins : List (Addr × Obj)} {σ : St} {H : Hp} {s : Shared} {E : Value → Shared → Prop}
theorem Inv.wish (I : Inv X pins σ H s) (E : Value → Shared → Prop) : Inv (X.wish E) pins σ H s := ⟨I.ok.wish E, I.os, I.bare, I.base, I.loc, I.cell, I.free, I.freeC, I.pin, I.hok, I.len⟩
theorem Inv.unwish (I : Inv (X.wish E) pins σ H s) : Inv X pins σ H s := ⟨I.ok.unwish, I.os, I.bare, I.base, I.loc, I.cell, I.free, I.freeC, I.pin, I.hok, I.len⟩
theorem SP.unwish {D : Ends} {f : Flow} {s' : Shared} (h : SP (X.wish E) pins D f s') : SP X pins D f s' := by
  cases f with
  | next => obtain ⟨σ', H', I, q⟩ := h; exact ⟨σ', H', I.unwish, q⟩
  | brk => obtain ⟨σ', H', I, q⟩ := h; exact ⟨σ', H', I.unwish, q⟩
  | cont => obtain ⟨σ', H', I, q⟩ := h; exact ⟨σ', H', I.unwish, q⟩
  | ret u => obtain ⟨v, σ', H', I, r, q⟩ := h; exact ⟨v, σ', H', I.unwish, r, q⟩
theorem PE.nox {e : Expr} {t : TE} (h : PE X.nox e t) : PE X e t := fun pins s σ H Q I hw =>
  wpAny_mono (h pins s σ H Q (I.wish _) hw) (fun _ _ ⟨v, H', I', r, q⟩ => ⟨v, H', I'.unwish, r, q⟩) fun _ _ z => False.elim z
theorem PT.nox {e : Expr} {t : TT} (h : PT X.nox e t) : PT X e t := fun pins s σ H Q I hw =>
  wpAny_mono (h pins s σ H Q (I.wish _) hw) (fun _ _ ⟨H', I', q⟩ => ⟨H', I'.unwish, q⟩) fun _ _ z => False.elim z
theorem PSs.nox {st : List Stmt} {t : TS} (h : PSs X.nox st t) : PSs X st t := fun pins s σ H D I hw =>
  wpAny_mono (h pins s σ H D (I.wish _) hw) (fun _ _ q => q.unwish) fun _ _ z => False.elim z
end

/-! ### blocks and small statements -/
section
variable {X : Cx} {st : Stmt} {rest : List Stmt} {t u : TS} {e : Expr} {te : TE} {pos : Pos}
def tNext : TS := fun D σ H => D.nx σ H
def tSeq (t u : TS) : TS := fun D σ H => t { D with nx := u D } σ H
theorem pss_nil : PSs X [] tNext := fun _ _ σ H _ I h => wpAny_execs_nil ⟨σ, H, I, h⟩
theorem pss_cons (h1 : PS X st t) (h2 : PSs X rest u) : PSs X (st :: rest) (tSeq t u) := by
  intro pins s σ H D I h
  refine wpAny_execs_cons (thn (h1 pins s σ H { D with nx := u D } I h) fun f s1 q => ?_)
  cases f with
  | next =>
    obtain ⟨σ', H', I', q⟩ := q
    exact h2 pins s1 σ' H' D I' q
  | ret v => exact q
  | brk => exact q
  | cont => exact q
theorem pss_one (h1 : PS X st t) : PSs X [st] t := by
  intro pins s σ H D I h
  refine wpAny_execs_cons (thn (h1 pins s σ H D I h) fun f s1 q => ?_)
  cases f with
  | next => exact wpAny_execs_nil q
  | ret v => exact q
  | brk => exact q
  | cont => exact q
/-- in a def's body nothing is shown -/
theorem Inv.quiet {pins : List (Addr × Obj)} {σ : St} {H : Hp} {s : Shared} (I : Inv X pins σ H s) : interactive X.env = false := by simp [interactive, I.ok.kind]
/-- an expression whose value is dropped -/
def tDrop (te : TE) : TS := fun D σ H => te σ H fun _ H1 => D.nx σ H1
theorem ps_expr (he : PE X e te) (hs : swapsWith e none pos.line X.env = pure false := by rfl) : PS X (.Expr e pos) (tDrop te) := by
  intro pins s σ H D I h
  exact wpAny_Expr_any (thn (he pins s σ H _ I h) fun v s1 ⟨x, H1, I1, r1, q1⟩ => ⟨σ, H1, I1, q1⟩) I.quiet hs
def tRet (te : TE) : TS := fun D σ H => te σ H D.rt
theorem ps_ret (he : PE X e te) : PS X (.Return (some e) pos) (tRet te) := by
  intro pins s σ H D I h
  exact wpAny_Return_some (thn (he pins s σ H _ I h) fun v s1 ⟨x, H1, I1, r1, q1⟩ => ⟨x, σ, H1, I1, r1, q1⟩)
def tIfS (c : TT) (t u : TS) : TS := fun D σ H => c σ H fun b H1 => if b = true then t D σ H1 else u D σ H1
theorem ps_if {c : Expr} {a b : List Stmt} {tc : TT} (hc : PT X c tc) (ha : PSs X a t) (hb : PSs X b u) : PS X (.If c a b pos) (tIfS tc t u) := by
  intro pins s σ H D I h
  refine wpAny_If (thn (hc pins s σ H _ I h) fun d s1 ⟨H1, I1, q1⟩ => ?_)
  cases d with
  | true => exact ha pins s1 σ H1 D I1 q1
  | false => exact hb pins s1 σ H1 D I1 q1
end

/-! ### targets -/
abbrev TG := V → St → Hp → (St → Hp → Prop) → Prop
abbrev TGs := List V → St → Hp → (St → Hp → Prop) → Prop
def PG (X : Cx) (target : Expr) (t : TG) : Prop :=
  ∀ (pins : List (Addr × Obj)) (s : Shared) (σ : St) (H : Hp) (v : V) (u : Value) (Q : St → Hp → Prop), Inv X pins σ H s → RelV v u → t v σ H Q →
    wpAny (model X.prog X.w) X.A (assign target X.env u) (fun _ s' => ∃ σ' H', Inv X pins σ' H' s' ∧ Q σ' H') X.xe s
/-- several targets, one after another -/
def PGs (X : Cx) (ts : List Expr) (t : TGs) : Prop :=
  ∀ (pins : List (Addr × Obj)) (s : Shared) (σ : St) (H : Hp) (vs : List V) (us : List Value) (Q : St → Hp → Prop), Inv X pins σ H s → Vals vs us → t vs σ H Q →
    wpAny (model X.prog X.w) X.A (assignInOrder ((assignEach ts X.env).map (·.2)) us) (fun _ s' => ∃ σ' H', Inv X pins σ' H' s' ∧ Q σ' H') X.xe s
/-- o[i] = v, by values -/
abbrev TSet := V → V → V → Hp → (Hp → Prop) → Prop
def PSet (X : Cx) (t : TSet) : Prop :=
  ∀ (pins : List (Addr × Obj)) (s : Shared) (σ : St) (H : Hp) (o i v : V) (ov iv u : Value) (Q : Hp → Prop), Inv X pins σ H s → RelV o ov → RelV i iv → RelV v u → t o i v H Q →
    wpAny (model X.prog X.w) X.A (setItem ov iv u) (fun _ s' => ∃ H', Inv X pins σ H' s' ∧ Q H') X.xe s
section
variable {X : Cx} {pos : Pos}
def gName (i : Nat) : TG := fun v σ H Q => Q (σ.set i (some v)) H
theorem pg_name {i : Nat} {x : Str} (hN : X.N.Nodup) (hi : X.N[i]? = some x) (hx : Loc X.env.scope x) (hf : X.fn x = true ∨ X.env.scope.names.lookup x = some .local := by first | exact .inl rfl | exact .inr rfl | assumption) : PG X (.Name x pos) (gName i) := by
  intro pins s σ H v u Q I r h
  exact wpAny_assign_Name (store_ok I hN hi hx r (fun s' I' => ⟨_, H, I', h⟩) hf)
def gNil : TGs := fun vs σ H Q => vs = [] ∧ Q σ H
def gCons (t : TG) (u : TGs) : TGs := fun vs σ H Q => ∃ v r, vs = v :: r ∧ t v σ H fun σ' H' => u r σ' H' Q
theorem pgs_nil : PGs X [] gNil := by
  intro pins s σ H vs us Q I r h
  obtain ⟨e, h⟩ := h
  subst e
  cases r
  exact assignInOrder_nil ⟨σ, H, I, h⟩
theorem pgs_cons {e : Expr} {es : List Expr} {t : TG} {u : TGs} (h1 : PG X e t) (h2 : PGs X es u)
    (hs : (assignEach (e :: es) X.env).map (·.2) = assign e X.env :: (assignEach es X.env).map (·.2) := by rfl) : PGs X (e :: es) (gCons t u) := by
  intro pins s σ H vs us Q I r h
  obtain ⟨v, vr, e1, h⟩ := h
  subst e1
  cases r with
  | cons r rr =>
    rw [hs]
    refine assignInOrder_cons (thn (h1 pins s σ H _ _ _ I r h) fun _ s1 ⟨σ1, H1, I1, q1⟩ => ?_)
    exact h2 pins s1 σ1 H1 _ _ Q I1 rr q1
/-- (a, b, ..) = a tuple of that length -/
def gTup (K : PySem.W.Frag) (n : Nat) (t : TGs) : TG := fun v σ H Q => ∃ a xs, v = .ref a ∧ SqT K H a xs ∧ xs.length = n ∧ t xs σ H Q
theorem pg_tup {es : List Expr} {k : Nat} {t : TGs} {n : Nat} (hc : X.calm = true) (h : PGs X es t)
    (hn : (assignEach es X.env).length = n := by rfl) (hst : (assignEach es X.env).findIdx? (·.1) = none := by rfl) : PG X (.Tuple es k pos) (gTup X.K n t) := by
  intro pins s σ H v u Q I r hw
  obtain ⟨a, xs, e1, hq, hl, hw⟩ := hw
  subst e1
  cases r
  obtain ⟨its, rv, ht, hz⟩ := I.tuple hq
  refine assign_Tuple_tuple (I.ok.hd hc) ht (by simp [hn, ← hl, rv.length]) hst fun h' hx => ?_
  have I1 : Inv X pins σ H { s with heap := h' } := I.kept (t' := s.toks) fun b o e => hx b o (Nat.ne_of_lt (Heap.lt_size e)) e
  exact h pins _ σ H xs _ Q I1 (by simpa using rv) hw
/-- o[i] = .. -/
def gSub (to ti : TE) (t : TSet) : TG := fun v σ H Q => to σ H fun o H1 => ti σ H1 fun i H2 => t o i v H2 fun H3 => Q σ H3
theorem pg_sub {o i : Expr} {to ti : TE} {t : TSet} (ho : PE X o to) (hi : PE X i ti) (hs : PSet X t)
    (ha : ∀ v, assign (.Subscript o i pos) X.env v = (do
      let ov ← holding [v] (eval o X.env)
      let iv ← holding [v, ov] (eval i X.env)
      standAt pos
      holding [v, ov, iv] (setItem ov iv v)
      release [v, ov, iv] []) := by intro _; rfl) : PG X (.Subscript o i pos) (gSub to ti t) := by
  intro pins s σ H v u Q I r h
  rw [ha]
  refine wpAny_bind (wpAny_holding (thn (ho pins s σ H _ I h) fun ov s1 ⟨x, H1, I1, r1, q1⟩ => ?_))
  refine wpAny_bind (wpAny_holding (thn (hi pins s1 σ H1 _ I1 q1) fun iv s2 ⟨y, H2, I2, r2, q2⟩ => ?_))
  refine wpAny_bind (wpAny_standAt (wpAny_bind (wpAny_holding (thn (hs pins s2 σ H2 x y v ov iv u _ I2 r1 r2 r q2) fun _ s3 ⟨H3, I3, q3⟩ => ?_))))
  exact wpAny_release ⟨σ, H3, I3, q3⟩
/-- target = value -/
def tAsg (te : TE) (g : TG) : TS := fun D σ H => te σ H fun x H1 => g x σ H1 D.nx
theorem ps_asg {tg e : Expr} {te : TE} {g : TG} (he : PE X e te) (hg : PG X tg g) (hs : swapsWithSole [tg] e pos.line X.env = pure false := by rfl) (hw : swappedStores [tg] e X.env = pure none := by rfl)
    (h1 : (assignEach [tg] X.env).map (·.2) = [assign tg X.env] := by rfl) : PS X (.Assign [tg] e pos) (tAsg te g) := by
  intro pins s σ H D I h
  refine wpAny_Assign_stores (thn (he pins s σ H _ I h) fun v s1 ⟨x, H1, I1, r1, q1⟩ => ?_) hs hw
  rw [h1]
  exact thn (hg pins s1 σ H1 x v _ I1 r1 q1) fun _ s2 q => q
/-- name = value -/
theorem ps_set {i : Nat} {x : Str} {e : Expr} {te : TE} {pos' : Pos} (hN : X.N.Nodup) (hi : X.N[i]? = some x) (hx : Loc X.env.scope x) (he : PE X e te) (hs : swapsWith e (some (.Name x pos')) pos.line X.env = pure false := by rfl) (hf : X.fn x = true ∨ X.env.scope.names.lookup x = some .local := by first | exact .inl rfl | exact .inr rfl | assumption) :
    PS X (.Assign [.Name x pos'] e pos) (tAsg te (gName i)) := by
  intro pins s σ H D I h
  refine wpAny_Assign_Name (thn (he pins s σ H _ I h) fun v s1 ⟨y, H1, I1, r1, q1⟩ => ?_) hs
  exact store_ok I1 hN hi hx r1 (fun s2 I2 => ⟨_, H1, I2, q1⟩) hf
end

/-! ### while -/
section
variable {X : Cx} {pos : Pos}
/-- the invariant W with its measure -/
def tWhile (c : TT) (tb : TS) : TS := fun D σ H => ∃ W : Nat → St → Hp → Prop, (∃ m, W m σ H) ∧ ∀ m σ H, W m σ H →
  c σ H fun b H1 => if b = true then ∃ N : St → Hp → Prop, (∀ σ' H', N σ' H' → ∃ m', m' < m ∧ W m' σ' H') ∧ tb { D with nx := N, ct := N, bk := D.nx } σ H1 else D.nx σ H1
theorem ps_while {c : Expr} {body : List Stmt} {tc : TT} {tb : TS} (hp : PassesOwn (model X.prog X.w) X.A X.env X.xe) (hc : PT X c tc) (hb : PSs X body tb) : PS X (.While c body [] pos) (tWhile tc tb) := by
  intro pins s σ H D I h
  obtain ⟨W, ⟨m0, w0⟩, turn⟩ := h
  refine wpAny_While (codeAny_whileLoop (fun n s' => ∃ σ' H', Inv X pins σ' H' s' ∧ W n σ' H') ?_ m0 ⟨σ, H, I, w0⟩)
  rintro n s1 ⟨σ1, H1, I1, w1⟩
  refine wpAny_passesOwn hp (thn (hc pins s1 σ1 H1 _ I1 (turn n σ1 H1 w1)) fun b s2 ⟨H2, I2, q2⟩ => ?_)
  cases b with
  | true =>
    obtain ⟨N, hN, q2⟩ := q2
    rw [if_pos rfl]
    refine wpAny_passesOwn hp (thn (hb pins s2 σ1 H2 _ I2 q2) fun f s3 q3 => ?_)
    cases f with
    | next =>
      obtain ⟨σ3, H3, I3, n3⟩ := q3
      obtain ⟨m', hm, w3⟩ := hN σ3 H3 n3
      exact ⟨m', hm, σ3, H3, I3, w3⟩
    | cont =>
      obtain ⟨σ3, H3, I3, n3⟩ := q3
      obtain ⟨m', hm, w3⟩ := hN σ3 H3 n3
      exact ⟨m', hm, σ3, H3, I3, w3⟩
    | brk => exact q3
    | ret v => exact q3
  | false =>
    rw [if_neg Bool.false_ne_true]
    exact wpAny_execs_nil ⟨σ1, H2, I2, q2⟩
end

/-! ### what a loop or a comprehension walks -/
/-- at turn i: it yields x (the heap may grow), or it stops -/
structure It where
  go : Nat → Hp → Prop
  yld : Nat → Hp → V → Hp → Prop
  stop : Nat → Hp → Prop
/-- the iterator's own objects may turn: they are not the frame's, not pinned, younger than the entry (or a comprehension's own) -/
def FpOk (X : Cx) (pins : List (Addr × Obj)) (H : Hp) (b : Addr) : Prop :=
  H b = none ∧ b ≠ X.env.locals ∧ b ∉ X.fs ∧ (b ∈ X.ex ∨ X.s₀.heap.objs.size ≤ b) ∧ (∀ x c, X.env.cells.lookup x = some c → c ≠ b) ∧ ∀ p ∈ X.pn ++ pins, p.1 ≠ b
theorem Inv.fpOk {X : Cx} {pins : List (Addr × Obj)} {σ : St} {H H' : Hp} {s : Shared} {b : Addr} (I : Inv X pins σ H s) (hb : s.heap.objs.size ≤ b) (hn : H' b = none) : FpOk X pins H' b := by
  refine ⟨hn, Nat.ne_of_gt (Nat.lt_of_lt_of_le I.lt hb), I.nofs hb, .inr (Nat.le_trans I.sz hb), fun x c e z => ?_, fun p hp z => ?_⟩
  · obtain ⟨v, q⟩ := I.cell x c e
    exact absurd (Nat.lt_of_lt_of_le q.lt (by rw [z]; exact hb)) (Nat.lt_irrefl _)
  · exact absurd (Nat.lt_of_lt_of_le (Heap.lt_size (I.pin p hp).1) (by rw [z]; exact hb)) (Nat.lt_irrefl _)
structure Turn (P : Program) (w : World) (K : PySem.W.Frag) (tg : Expr) (J : It) (fp : List Addr) (it : Addr) (tn : Nat → Heap → Prop) : Prop where
  mem : it ∈ fp
  obj : ∀ i h, tn i h → ∀ b ∈ fp, ∃ o, h.get? b = some o ∧ ∀ v, o.data ≠ .cell v
  keep : ∀ i h h', tn i h → (∀ b ∈ fp, ∀ o, h.get? b = some o → h'.get? b = some o) → tn i h'
  item : ∀ (X : Cx), X.prog = P → X.w = w → X.K = K → X.calm = true → ∀ (i : Nat) (pins : List (Addr × Obj)) (s : Shared) (σ : St) (H : Hp) (E : Value → Shared → Prop), Inv X pins σ H s → (∀ b ∈ fp, FpOk X pins H b) → tn i s.heap → J.go i H →
    wpAny (model P w) X.A (pyNext (.ref it)) (fun r s1 => ∃ u, r = some u ∧
      wpAny (model P w) X.A (letOwnedTupleGo tg (.ref it) u) (fun _ s2 => ∃ x H', Inv X pins σ H' s2 ∧ RelV x u ∧ J.yld i H x H' ∧ tn (i + 1) s2.heap ∧ ∀ b ∈ fp, H' b = none) E s1) E s
  done : ∀ (X : Cx), X.prog = P → X.w = w → X.K = K → X.calm = true → ∀ (i : Nat) (pins : List (Addr × Obj)) (s : Shared) (σ : St) (H : Hp) (E : Value → Shared → Prop), Inv X pins σ H s → (∀ b ∈ fp, FpOk X pins H b) → tn i s.heap → J.stop i H →
    wpAny (model P w) X.A (pyNext (.ref it)) (fun r s1 => r = none ∧ Inv X pins σ H s1) E s
  self : ∀ (A : Around) (i : Nat) (s : Shared) (Q : Value → Shared → Prop) (E : Value → Shared → Prop), tn i s.heap → Q (.ref it) s → wpAny (model P w) A (pyIter (.ref it)) Q E s
abbrev TI := St → Hp → (It → Hp → Prop) → Prop
/-- an iterator has come -/
def PIE (X : Cx) (pins : List (Addr × Obj)) (σ : St) (tg : Expr) (R : It → Hp → Prop) (itv : Value) (s2 : Shared) : Prop :=
  ∃ (it : Addr) (fp : List Addr) (tn : Nat → Heap → Prop) (J : It) (H' : Hp), itv = .ref it ∧ Inv X pins σ H' s2 ∧ Turn X.prog X.w X.K tg J fp it tn ∧ tn 0 s2.heap ∧ (∀ b ∈ fp, FpOk X pins H' b) ∧ R J H'
def PI (X : Cx) (tg iter : Expr) (wi : TI) : Prop :=
  ∀ (pins : List (Addr × Obj)) (s : Shared) (σ : St) (H : Hp) (R : It → Hp → Prop), Inv X pins σ H s → wi σ H R →
    wpAny (model X.prog X.w) X.A (eval iter X.env) (fun v s1 => wpAny (model X.prog X.w) X.A (pyIter v) (PIE X pins σ tg R) X.xe s1) X.xe s

/-- the step ahead of the store is nothing for an iterator that keeps no tuple -/
theorem go_of {M : Model} {A : Around} {E : Value → Shared → Prop} {s : Shared} {tg : Expr} {it : Addr} {u : Value} {o : Obj} {n : String} {vs : Array Value} {Q : Unit → Shared → Prop} (ho : s.heap.get? it = some o) (hc : o.cls = .type n) (hd : o.data = .fields vs)
    (hn : ["enumerate", "zip", "dict_itemiterator", "dict_reverseitemiterator", "odict_iterator", "itertools.zip_longest", "itertools.pairwise"].contains n = false) (hQ : Q () s) : wpAny M A (letOwnedTupleGo tg (.ref it) u) Q E s := by
  unfold letOwnedTupleGo
  cases tg <;> first
    | exact wpAny_pure hQ
    | (cases u <;> first
        | exact wpAny_pure hQ
        | (refine wpAny_bind (wpAny_load ho ?_)
           rw [hc, hd]
           show wpAny M A (if (["enumerate", "zip", "dict_itemiterator", "dict_reverseitemiterator", "odict_iterator", "itertools.zip_longest", "itertools.pairwise"].contains n && vs[0]? == some (rawInt _)) = true then _ else _) Q E s
           rw [if_neg (by intro h; rw [hn, Bool.false_and] at h; cases h)]
           exact wpAny_pure hQ))

/-- the list at a, as it stands at each turn (a loop may append to it) -/
def Itl (K : PySem.W.Frag) (a : Addr) : It :=
  ⟨fun i H => ∃ xs x, SqL K H a xs ∧ xs[i]? = some x, fun i H x H' => H' = H ∧ ∀ xs, SqL K H a xs → xs[i]? = some x, fun i H => ∃ xs, SqL K H a xs ∧ xs.length ≤ i⟩
def Itt (K : PySem.W.Frag) (a : Addr) : It :=
  ⟨fun i H => ∃ xs x, SqT K H a xs ∧ xs[i]? = some x, fun i H x H' => H' = H ∧ ∀ xs, SqT K H a xs → xs[i]? = some x, fun i H => ∃ xs, SqT K H a xs ∧ xs.length ≤ i⟩
/-- lo, lo + 1, .. (n of them) -/
def Itr (lo : Int) (n : Nat) : It := ⟨fun i _ => i < n, fun i H x H' => H' = H ∧ x = .int (lo + i), fun i _ => n ≤ i⟩
theorem turn_list {P : Program} {w : World} {K : PySem.W.Frag} {tg : Expr} (a it : Addr) : Turn P w K tg (Itl K a) [it] it (fun i h => h.IsListIter it a i) where
  mem := by simp
  obj := fun i h st b hb => by
    have e : b = it := by simpa using hb
    subst e
    obtain ⟨o, e, c, d⟩ := st
    exact ⟨o, e, fun v z => by rw [d] at z; cases z⟩
  keep := fun i h h' st k => st.at fun o e => k it (by simp) o e
  item := by
    intro X hP hw hK hc i pins s σ H E I hf st hg
    subst hP hw hK
    obtain ⟨xs, x, hq, hx⟩ := hg
    obtain ⟨its, rv, p, hz⟩ := I.list hq
    obtain ⟨u, hu, ru⟩ := rv.get hx
    obtain ⟨f0, f1, f2, f3, f4, f5⟩ := hf it (by simp)
    refine wpAny_pyNext_list_item st p.isList (x := u) (by simpa using hu) fun h' st' sb => ?_
    have I1 : Inv X pins σ H { s with heap := h' } := I.turned (t' := s.toks) (fun b o hb e => (sb.2 b hb).trans e) f0 f1 f3 f4 f5
    obtain ⟨o, e, c, d⟩ := id st'
    exact ⟨u, rfl, go_of (s := { s with heap := h' }) e c d (by decide) ⟨x, H, I1, ru, ⟨rfl, fun ys hy => by rw [I.list_inj hy hq]; exact hx⟩, st', fun b hb => (hf b hb).1⟩⟩
  done := by
    intro X hP hw hK hc i pins s σ H E I hf st hg
    subst hP hw hK
    obtain ⟨xs, hq, hx⟩ := hg
    obtain ⟨its, rv, p, hz⟩ := I.list hq
    obtain ⟨f0, f1, f2, f3, f4, f5⟩ := hf it (by simp)
    have hl := rv.length
    exact wpAny_pyNext_list_end (I.ok.hd hc) st p.isList (by simp; omega) fun h' eb => ⟨rfl, I.turned (t' := s.toks) (fun b o hb e => eb b o hb e) f0 f1 f3 f4 f5⟩
  self := fun _ _ _ _ _ st h => wpAny_pyIter_listiter st h
theorem turn_tuple {P : Program} {w : World} {K : PySem.W.Frag} {tg : Expr} (a it : Addr) : Turn P w K tg (Itt K a) [it] it (fun i h => h.IsTupleIter it a i) where
  mem := by simp
  obj := fun i h st b hb => by
    have e : b = it := by simpa using hb
    subst e
    obtain ⟨o, e, c, d⟩ := st
    exact ⟨o, e, fun v z => by rw [d] at z; cases z⟩
  keep := fun i h h' st k => st.at fun o e => k it (by simp) o e
  item := by
    intro X hP hw hK hc i pins s σ H E I hf st hg
    subst hP hw hK
    obtain ⟨xs, x, hq, hx⟩ := hg
    obtain ⟨its, rv, p, hz⟩ := I.tuple hq
    obtain ⟨u, hu, ru⟩ := rv.get hx
    obtain ⟨f0, f1, f2, f3, f4, f5⟩ := hf it (by simp)
    refine wpAny_pyNext_tuple_item st (show s.heap.IsTuple a its.toArray from p) (x := u) (by simpa using hu) fun h' st' sb => ?_
    have I1 : Inv X pins σ H { s with heap := h' } := I.turned (t' := s.toks) (fun b o hb e => (sb.2 b hb).trans e) f0 f1 f3 f4 f5
    obtain ⟨o, e, c, d⟩ := id st'
    exact ⟨u, rfl, go_of (s := { s with heap := h' }) e c d (by decide) ⟨x, H, I1, ru, ⟨rfl, fun ys hy => by rw [I.tuple_inj hy hq]; exact hx⟩, st', fun b hb => (hf b hb).1⟩⟩
  done := by
    intro X hP hw hK hc i pins s σ H E I hf st hg
    subst hP hw hK
    obtain ⟨xs, hq, hx⟩ := hg
    obtain ⟨its, rv, p, hz⟩ := I.tuple hq
    obtain ⟨f0, f1, f2, f3, f4, f5⟩ := hf it (by simp)
    have hl := rv.length
    exact wpAny_pyNext_tuple_end (I.ok.hd hc) st (show s.heap.IsTuple a its.toArray from p) (by simp; omega) fun h' eb => ⟨rfl, I.turned (t' := s.toks) (fun b o hb e => eb b o hb e) f0 f1 f3 f4 f5⟩
  self := fun _ _ _ _ _ st h => wpAny_pyIter_tupleiter st h
theorem turn_range {P : Program} {w : World} {K : PySem.W.Frag} {tg : Expr} (it : Addr) (lo : Int) (n : Nat) : Turn P w K tg (Itr lo n) [it] it (fun i h => IsRangeIter h it (lo + (i : Nat) * 1) ((n : Int) - (i : Nat)) 1) where
  mem := by simp
  obj := fun i h st b hb => by
    have e : b = it := by simpa using hb
    subst e
    exact ⟨_, st, fun v z => by
      have z' : Data.fields _ = Data.cell v := z
      cases z'⟩
  keep := fun i h h' st k => k it (by simp) _ st
  item := by
    intro X hP hw hK hc i pins s σ H E I hf st hg
    subst hP hw hK
    obtain ⟨f0, f1, f2, f3, f4, f5⟩ := hf it (by simp)
    have W := Walks.range (prog := X.prog) (w := X.w) (I.ok.hd hc) it lo 1 n
    refine W.item i s _ _ hg st fun v h' tk hv st' kk => ?_
    obtain ⟨t, rfl⟩ := hv
    have I1 : Inv X pins σ H { s with heap := h', toks := tk } := I.turned (fun b o hb e => kk b o (by simpa using hb) e) f0 f1 f3 f4 f5
    refine ⟨_, rfl, go_of (s := { s with heap := h', toks := tk }) (n := "range_iterator") st' rfl rfl (by decide) ⟨.int (lo + i), H, I1, ⟨t, ?_⟩, ⟨rfl, rfl⟩, st', fun b hb => (hf b hb).1⟩⟩
    rw [Int.mul_one]
  done := by
    intro X hP hw hK hc i pins s σ H E I hf st hg
    subst hP hw hK
    obtain ⟨f0, f1, f2, f3, f4, f5⟩ := hf it (by simp)
    exact wpAny_pyNext_range_end (I.ok.hd hc) st (by have : n ≤ i := hg; omega) fun h' eb => ⟨rfl, I.turned (t' := s.toks) (fun b o hb e => eb b o hb e) f0 f1 f3 f4 f5⟩
  self := fun _ _ _ _ _ st h => wpAny_pyIter_rangeiter st h
end L2

namespace L2
open PySem PySem.Spec PyProof.Rows
section
variable {X : Cx} {tg : Expr}
def iList (K : PySem.W.Frag) (tl : TE) : TI := fun σ H R => tl σ H fun x H1 => ∃ a, x = .ref a ∧ (∃ xs, SqL K H1 a xs) ∧ R (Itl K a) H1
def iTup (K : PySem.W.Frag) (tl : TE) : TI := fun σ H R => tl σ H fun x H1 => ∃ a, x = .ref a ∧ (∃ xs, SqT K H1 a xs) ∧ R (Itt K a) H1
theorem pi_list {l : Expr} {tl : TE} (hl : PE X l tl) : PI X tg l (iList X.K tl) := by
  intro pins s σ H R I h
  refine thn (hl pins s σ H _ I h) fun v s1 ⟨x, H1, I1, r1, q1⟩ => ?_
  obtain ⟨a, e, ⟨xs, hq⟩, q⟩ := q1
  subst e
  cases r1
  obtain ⟨its, rv, p, hz⟩ := I1.list hq
  refine wpAny_pyIter_list p.isList ?_
  refine ⟨s1.heap.objs.size, [s1.heap.objs.size], _, _, H1, rfl, I1.kept (t' := s1.toks) fun b o e => Heap.get?_push_of_some _ e, turn_list a _, ⟨_, Heap.get?_push_size _ rfl, rfl, rfl⟩, fun b hb => ?_, q⟩
  have e : b = s1.heap.objs.size := by simpa using hb
  subst e
  exact I1.fpOk (Nat.le_refl _) (I1.hok.fresh (Nat.le_refl _))
theorem pi_tup {l : Expr} {tl : TE} (hl : PE X l tl) : PI X tg l (iTup X.K tl) := by
  intro pins s σ H R I h
  refine thn (hl pins s σ H _ I h) fun v s1 ⟨x, H1, I1, r1, q1⟩ => ?_
  obtain ⟨a, e, ⟨xs, hq⟩, q⟩ := q1
  subst e
  cases r1
  obtain ⟨its, rv, p, hz⟩ := I1.tuple hq
  refine wpAny_pyIter_tuple (show s1.heap.IsTuple a its.toArray from p) ?_
  refine ⟨s1.heap.objs.size, [s1.heap.objs.size], _, _, H1, rfl, I1.kept (t' := s1.toks) fun b o e => Heap.get?_push_of_some _ e, turn_tuple a _, ⟨_, Heap.get?_push_size _ rfl, rfl, rfl⟩, fun b hb => ?_, q⟩
  have e : b = s1.heap.objs.size := by simpa using hb
  subst e
  exact I1.fpOk (Nat.le_refl _) (I1.hok.fresh (Nat.le_refl _))
/-- a range object just made, walked -/
theorem range_it {pins : List (Addr × Obj)} {σ : St} {H : Hp} {s : Shared} {R : It → Hp → Prop} {E : Value → Shared → Prop} {lo hi : Int} {t u v : Tok} {tk : Nat} (I : Inv X pins σ H s) (h1 : -(2 ^ 62) ≤ lo) (h2 : lo < 2 ^ 62) (h3 : -(2 ^ 62) ≤ hi) (h4 : hi < 2 ^ 62)
    (q : R (Itr lo (hi - lo).toNat) H) : wpAny (model X.prog X.w) X.A (pyIter (.ref s.heap.objs.size)) (PIE X pins σ tg R) E { s with heap := s.heap.push { cls := .type "range", data := .fields #[.int lo t, .int hi u, .int 1 v] }, toks := tk } := by
  refine wpAny_pyIter_range (IsRange.new ..) (small_one h1 h2 h3 h4) ?_
  have I1 : Inv X pins σ H { s with heap := s.heap.push { cls := .type "range", data := .fields #[.int lo t, .int hi u, .int 1 v] }, toks := tk } := I.kept fun b o e => Heap.get?_push_of_some _ e
  refine ⟨(s.heap.push { cls := .type "range", data := .fields #[.int lo t, .int hi u, .int 1 v] }).objs.size, [(s.heap.push { cls := .type "range", data := .fields #[.int lo t, .int hi u, .int 1 v] }).objs.size], _, _, H, rfl,
    I1.kept (t' := tk) fun b o e => Heap.get?_push_of_some _ e, turn_range _ lo (hi - lo).toNat, ?_, fun b hb => ?_, q⟩
  · have e1 : lo + ((0 : Nat) : Int) * 1 = lo := by simp
    have e2 : (((hi - lo).toNat : Nat) : Int) - ((0 : Nat) : Int) = Builtin.Range.rangeSize lo hi 1 := by rw [rangeSize_one]; split <;> omega
    show IsRangeIter _ _ (lo + ((0 : Nat) : Int) * 1) ((((hi - lo).toNat : Nat) : Int) - ((0 : Nat) : Int)) 1
    rw [e1, e2]
    exact Heap.get?_push_size _ rfl
  · have e : b = (s.heap.push { cls := .type "range", data := .fields #[.int lo t, .int hi u, .int 1 v] }).objs.size := by simpa using hb
    subst e
    exact I1.fpOk (Nat.le_refl _) (I1.hok.fresh (Nat.le_refl _))
def iRng1 (ta : TA) : TI := fun σ H R => ta σ H fun vs H1 => ∃ j : Int, vs = [.int j] ∧ -(2 ^ 62) ≤ j ∧ j < 2 ^ 62 ∧ R (Itr 0 j.toNat) H1
def iRng2 (ta : TA) : TI := fun σ H R => ta σ H fun vs H1 => ∃ i j : Int, vs = [.int i, .int j] ∧ (-(2 ^ 62) ≤ i ∧ i < 2 ^ 62 ∧ -(2 ^ 62) ≤ j ∧ j < 2 ^ 62) ∧ R (Itr i (j - i).toNat) H1
theorem pi_range1 {a : Expr} {ta : TA} {p pos : Pos} (hg : Gl X "range") (hm : X.mg "range" = none) (ha : PA X [a] ta) (hs : starEach [a] X.env = [(false, eval a X.env)] := by rfl) : PI X tg (.Call (.Name "range" p) [a] [] pos) (iRng1 ta) := by
  intro pins s σ H R I h
  refine Call_ (ld_blt I hg hm boot_range (PyProof.Rows.callWith_type1 (thn (ha pos pins s σ H _ I h) fun us s1 ⟨vs, H1, I1, r1, q1⟩ => ?_) hs rfl))
  obtain ⟨j, e, q1, q2, q⟩ := q1
  subst e
  cases r1 with
  | cons r rr =>
    cases rr
    obtain ⟨t, rfl⟩ := r
    exact call_range_1 (range_it I1 (by omega) (by omega) q1 q2 (by simpa using q))
theorem pi_range2 {a b : Expr} {ta : TA} {p pos : Pos} (hg : Gl X "range") (hm : X.mg "range" = none) (ha : PA X [a, b] ta) (hs : starEach [a, b] X.env = [(false, eval a X.env), (false, eval b X.env)] := by rfl) (hs2 : starEach [b] X.env = [(false, eval b X.env)] := by rfl) :
    PI X tg (.Call (.Name "range" p) [a, b] [] pos) (iRng2 ta) := by
  intro pins s σ H R I h
  refine Call_ (ld_blt I hg hm boot_range (PyProof.Rows.callWith_type1 (thn (ha pos pins s σ H _ I h) fun us s1 ⟨vs, H1, I1, r1, q1⟩ => ?_) (by rw [hs, hs2]) (by rw [hs2]; rfl)))
  obtain ⟨i, j, e, ⟨q1, q2, q3, q4⟩, q⟩ := q1
  subst e
  cases r1 with
  | cons r rr =>
    cases rr with
    | cons r' rr =>
      cases rr
      obtain ⟨t, rfl⟩ := r
      obtain ⟨t', rfl⟩ := r'
      exact call_range_2 (range_it I1 q1 q2 q3 q4 q)

/-! ### for -/
/-- W: the invariant by the turn and a measure; N: what the body is to reach -/
def tFor (wi : TI) (g : TG) (tb : TS) : TS := fun D σ H => wi σ H fun J H1 => ∃ W : Nat → Nat → St → Hp → Prop, (∃ m, W 0 m σ H1) ∧ ∀ i m σ H, W i m σ H →
  (J.stop i H ∧ D.nx σ H) ∨ (J.go i H ∧ ∃ N : St → Hp → Prop, (∀ σ' H', N σ' H' → ∃ m', m' < m ∧ W (i + 1) m' σ' H') ∧ ∀ x H', J.yld i H x H' → g x σ H' fun σ2 H2 => tb { D with nx := N, ct := N, bk := D.nx } σ2 H2)
/-- the records at fp as they stand -/
def pinsAt (fp : List Addr) (h : Heap) : List (Addr × Obj) := fp.filterMap fun b => (h.get? b).map fun o => (b, o)
theorem mem_pinsAt {fp : List Addr} {h : Heap} {b : Addr} {o : Obj} (hb : b ∈ fp) (e : h.get? b = some o) : (b, o) ∈ pinsAt fp h := List.mem_filterMap.mpr ⟨b, hb, by rw [e]; rfl⟩
theorem of_pinsAt {fp : List Addr} {h : Heap} {p : Addr × Obj} (hp : p ∈ pinsAt fp h) : p.1 ∈ fp ∧ h.get? p.1 = some p.2 := by
  obtain ⟨b, hb, e⟩ := List.mem_filterMap.mp hp
  cases q : h.get? b with
  | none => rw [q] at e; cases e
  | some o =>
    rw [q] at e
    have e' : (b, o) = p := Option.some.inj e
    subst e'
    exact ⟨hb, q⟩
theorem Inv.pinned {pins : List (Addr × Obj)} {σ : St} {H : Hp} {s : Shared} {fp : List Addr} (I : Inv X pins σ H s) (hf : ∀ b ∈ fp, FpOk X pins H b) (ho : ∀ b ∈ fp, ∃ o, s.heap.get? b = some o ∧ ∀ v, o.data ≠ .cell v) : Inv X (pins ++ pinsAt fp s.heap) σ H s :=
  I.pins_of fun p hp => (List.mem_append.mp hp).elim (fun z => I.pin p (List.mem_append_right _ z)) fun z => by
    obtain ⟨hb, e⟩ := of_pinsAt z
    obtain ⟨f0, f1, f2, _⟩ := hf p.1 hb
    obtain ⟨o, e', d⟩ := ho p.1 hb
    rw [e] at e'; cases e'
    exact ⟨e, f0, f1, f2, d⟩
theorem Inv.unpinned {pins pl : List (Addr × Obj)} {σ : St} {H : Hp} {s : Shared} (I : Inv X (pins ++ pl) σ H s) : Inv X pins σ H s := I.pins_of fun p hp => I.pin p (List.mem_append_right _ (List.mem_append_left _ hp))
theorem ps_for {iter : Expr} {body : List Stmt} {wi : TI} {g : TG} {tb : TS} {pos : Pos} (hp : PassesOwn (model X.prog X.w) X.A X.env X.xe) (hc : X.calm = true) (hi : PI X tg iter wi) (hg : PG X tg g) (hb : PSs X body tb)
    (hs : ∀ x, foldedSetIterable iter X.env x = pure x := by intro _; rfl) : PS X (.For tg iter body [] pos) (tFor wi g tb) := by
  intro pins s σ H D I h
  refine wpAny_For (thn (hi pins s σ H _ I h) fun v s1 h1 => thn h1 fun itv s2 h2 => ?_) hs
  obtain ⟨it, fp, tn, J, H2, e, I2, T, st2, f2, W, ⟨m0, w0⟩, turn⟩ := h2
  subst e
  -- what stays true of the iterator's objects through the loop
  have stat : ∀ {H' : Hp}, (∀ b ∈ fp, H' b = none) → ∀ b ∈ fp, FpOk X pins H' b := fun hn b hb => ⟨hn b hb, (f2 b hb).2⟩
  refine codeAny_forLoop_any (fun n s' => ∃ i σ' H', Inv X pins σ' H' s' ∧ tn i s'.heap ∧ (∀ b ∈ fp, H' b = none) ∧ W i n σ' H') ?_ m0 ⟨0, σ, H2, I2, st2, fun b hb => (f2 b hb).1, w0⟩
  rintro n s3 ⟨i, σ3, H3, I3, st3, fr3, w3⟩
  rcases turn i n σ3 H3 w3 with ⟨stop, qn⟩ | ⟨go, N, hN, step⟩
  · refine wpAny_passesOwn hp (thn (T.done X rfl rfl rfl hc i pins s3 σ3 H3 X.xe I3 (stat fr3) st3 stop) fun r s4 ⟨hr, I4⟩ => ?_)
    subst hr
    exact wpAny_execs_nil ⟨σ3, H3, I4, qn⟩
  · refine wpAny_passesOwn hp (thn (T.item X rfl rfl rfl hc i pins s3 σ3 H3 X.xe I3 (stat fr3) st3 go) fun r s4 ⟨u, hr, h4⟩ => ?_)
    subst hr
    refine wpAny_passesOwn hp (thn h4 fun _ s5 ⟨x, H5, I5, r5, y5, st5, fr5⟩ => ?_)
    have I5' := I5.pinned (stat fr5) (T.obj _ _ st5)
    refine wpAny_passesOwn hp (thn (hg _ s5 σ3 H5 x u _ I5' r5 (step x H5 y5)) fun _ s6 ⟨σ6, H6, I6, q6⟩ => ?_)
    refine wpAny_passesOwn hp (thn (hb _ s6 σ6 H6 _ I6 q6) fun f s7 q7 => ?_)
    have again : ∀ {σ7 : St} {H7 : Hp}, Inv X (pins ++ pinsAt fp s5.heap) σ7 H7 s7 → N σ7 H7 → ∃ m, m < n ∧ ∃ i σ' H', Inv X pins σ' H' s7 ∧ tn i s7.heap ∧ (∀ b ∈ fp, H' b = none) ∧ W i m σ' H' := fun {σ7 H7} I7 n7 => by
      obtain ⟨m', hm, w7⟩ := hN σ7 H7 n7
      refine ⟨m', hm, i + 1, σ7, H7, I7.unpinned, T.keep _ _ _ st5 fun b hb o e => (I7.pin (b, o) (List.mem_append_right _ (List.mem_append_right _ (mem_pinsAt hb e)))).1, fun b hb => ?_, w7⟩
      obtain ⟨o, e, d⟩ := T.obj _ _ st5 b hb
      exact (I7.pin (b, o) (List.mem_append_right _ (List.mem_append_right _ (mem_pinsAt hb e)))).2.1
    cases f with
    | next => obtain ⟨σ7, H7, I7, n7⟩ := q7; exact again I7 n7
    | cont => obtain ⟨σ7, H7, I7, n7⟩ := q7; exact again I7 n7
    | brk => obtain ⟨σ7, H7, I7, q7⟩ := q7; exact ⟨σ7, H7, I7.unpinned, q7⟩
    | ret v => obtain ⟨x7, σ7, H7, I7, r7, q7⟩ := q7; exact ⟨x7, σ7, H7, I7.unpinned, r7, q7⟩
end

/-! ### the forms one uses -/
/-- over a list that the body leaves as it is -/
theorem for_list {K : PySem.W.Frag} {a : Addr} {xs : List V} {g : TG} {tb : TS} {D : Ends} {σ : St} {H : Hp} (Pv : Nat → St → Hp → Prop) (h0 : Pv 0 σ H) (hl : ∀ i σ H, i ≤ xs.length → Pv i σ H → SqL K H a xs)
    (hs : ∀ i x σ H, xs[i]? = some x → Pv i σ H → g x σ H fun σ2 H2 => tb { D with nx := Pv (i + 1), ct := Pv (i + 1), bk := D.nx } σ2 H2) (hd : ∀ σ H, Pv xs.length σ H → D.nx σ H) :
    ∃ W : Nat → Nat → St → Hp → Prop, (∃ m, W 0 m σ H) ∧ ∀ i m σ H, W i m σ H →
      ((Itl K a).stop i H ∧ D.nx σ H) ∨ ((Itl K a).go i H ∧ ∃ N : St → Hp → Prop, (∀ σ' H', N σ' H' → ∃ m', m' < m ∧ W (i + 1) m' σ' H') ∧ ∀ x H', (Itl K a).yld i H x H' → g x σ H' fun σ2 H2 => tb { D with nx := N, ct := N, bk := D.nx } σ2 H2) := by
  refine ⟨fun i m σ H => m = xs.length - i ∧ i ≤ xs.length ∧ Pv i σ H, ⟨xs.length, by simp, Nat.zero_le _, h0⟩, ?_⟩
  rintro i m σ H ⟨rfl, hi, p⟩
  have q := hl i σ H hi p
  by_cases hlt : i < xs.length
  · refine .inr ⟨⟨xs, xs[i], q, by simp [hlt]⟩, Pv (i + 1), fun σ' H' p' => ⟨xs.length - (i + 1), by omega, rfl, hlt, p'⟩, fun x H' y => ?_⟩
    obtain ⟨e, y⟩ := y
    subst e
    exact hs i x σ _ (y xs q) p
  · have e : i = xs.length := by omega
    subst e
    exact .inl ⟨⟨xs, q, Nat.le_refl _⟩, hd σ H p⟩
theorem for_tup {K : PySem.W.Frag} {a : Addr} {xs : List V} {g : TG} {tb : TS} {D : Ends} {σ : St} {H : Hp} (Pv : Nat → St → Hp → Prop) (h0 : Pv 0 σ H) (hl : ∀ i σ H, i ≤ xs.length → Pv i σ H → SqT K H a xs)
    (hs : ∀ i x σ H, xs[i]? = some x → Pv i σ H → g x σ H fun σ2 H2 => tb { D with nx := Pv (i + 1), ct := Pv (i + 1), bk := D.nx } σ2 H2) (hd : ∀ σ H, Pv xs.length σ H → D.nx σ H) :
    ∃ W : Nat → Nat → St → Hp → Prop, (∃ m, W 0 m σ H) ∧ ∀ i m σ H, W i m σ H →
      ((Itt K a).stop i H ∧ D.nx σ H) ∨ ((Itt K a).go i H ∧ ∃ N : St → Hp → Prop, (∀ σ' H', N σ' H' → ∃ m', m' < m ∧ W (i + 1) m' σ' H') ∧ ∀ x H', (Itt K a).yld i H x H' → g x σ H' fun σ2 H2 => tb { D with nx := N, ct := N, bk := D.nx } σ2 H2) := by
  refine ⟨fun i m σ H => m = xs.length - i ∧ i ≤ xs.length ∧ Pv i σ H, ⟨xs.length, by simp, Nat.zero_le _, h0⟩, ?_⟩
  rintro i m σ H ⟨rfl, hi, p⟩
  have q := hl i σ H hi p
  by_cases hlt : i < xs.length
  · refine .inr ⟨⟨xs, xs[i], q, by simp [hlt]⟩, Pv (i + 1), fun σ' H' p' => ⟨xs.length - (i + 1), by omega, rfl, hlt, p'⟩, fun x H' y => ?_⟩
    obtain ⟨e, y⟩ := y
    subst e
    exact hs i x σ _ (y xs q) p
  · have e : i = xs.length := by omega
    subst e
    exact .inl ⟨⟨xs, q, Nat.le_refl _⟩, hd σ H p⟩
theorem for_range {lo : Int} {n : Nat} {g : TG} {tb : TS} {D : Ends} {σ : St} {H : Hp} (Pv : Nat → St → Hp → Prop) (h0 : Pv 0 σ H)
    (hs : ∀ i σ H, i < n → Pv i σ H → g (.int (lo + i)) σ H fun σ2 H2 => tb { D with nx := Pv (i + 1), ct := Pv (i + 1), bk := D.nx } σ2 H2) (hd : ∀ σ H, Pv n σ H → D.nx σ H) :
    ∃ W : Nat → Nat → St → Hp → Prop, (∃ m, W 0 m σ H) ∧ ∀ i m σ H, W i m σ H →
      ((Itr lo n).stop i H ∧ D.nx σ H) ∨ ((Itr lo n).go i H ∧ ∃ N : St → Hp → Prop, (∀ σ' H', N σ' H' → ∃ m', m' < m ∧ W (i + 1) m' σ' H') ∧ ∀ x H', (Itr lo n).yld i H x H' → g x σ H' fun σ2 H2 => tb { D with nx := N, ct := N, bk := D.nx } σ2 H2) := by
  refine ⟨fun i m σ H => m = n - i ∧ i ≤ n ∧ Pv i σ H, ⟨n, by simp, Nat.zero_le _, h0⟩, ?_⟩
  rintro i m σ H ⟨rfl, hi, p⟩
  by_cases hlt : i < n
  · refine .inr ⟨hlt, Pv (i + 1), fun σ' H' p' => ⟨n - (i + 1), by omega, rfl, hlt, p'⟩, fun x H' y => ?_⟩
    obtain ⟨e, y⟩ := y
    subst e y
    exact hs i σ _ hlt p
  · have e : i = n := by omega
    subst e
    exact .inl ⟨Nat.le_refl _, hd σ H p⟩
/-- while, by a word and a measure of the state -/
theorem while_by {c : TT} {tb : TS} {D : Ends} {σ : St} {H : Hp} (Pv : St → Hp → Prop) (μ : St → Hp → Nat) (h0 : Pv σ H)
    (hs : ∀ σ H, Pv σ H → c σ H fun b H1 => if b = true then tb { D with nx := fun σ' H' => Pv σ' H' ∧ μ σ' H' < μ σ H, ct := fun σ' H' => Pv σ' H' ∧ μ σ' H' < μ σ H, bk := D.nx } σ H1 else D.nx σ H1)
    (mono : ∀ σ H Q Q', (∀ b H1, Q b H1 → Q' b H1) → c σ H Q → c σ H Q') : tWhile c tb D σ H := by
  refine ⟨fun m σ H => m = μ σ H ∧ Pv σ H, ⟨_, rfl, h0⟩, ?_⟩
  rintro m σ H ⟨rfl, p⟩
  refine mono σ H _ _ (fun b H1 q => ?_) (hs σ H p)
  cases b with
  | true => exact ⟨_, fun σ' H' ⟨p', l⟩ => ⟨_, l, rfl, p'⟩, q⟩
  | false => exact q
end L2

namespace L2
open PySem PySem.Spec PyProof.Rows

abbrev R2 := V → V → Hp → VK → Prop
/-- a two-place operation on values: f is binaryOp op, inplaceOp op or compareOp op -/
def OpR (X : Cx) (f : Value → Value → Sem Value) (r : R2) : Prop :=
  ∀ (pins : List (Addr × Obj)) (s : Shared) (σ : St) (H : Hp) (x y : V) (v u : Value) (Q : VK), Inv X pins σ H s → RelV x v → RelV y u → r x y H Q →
    wpAny (model X.prog X.w) X.A (f v u) (EP X pins σ Q) X.xe s
/-- a one-place operation -/
def UnR (X : Cx) (f : Value → Sem Value) (r : V → Hp → VK → Prop) : Prop :=
  ∀ (pins : List (Addr × Obj)) (s : Shared) (σ : St) (H : Hp) (x : V) (v : Value) (Q : VK), Inv X pins σ H s → RelV x v → r x H Q →
    wpAny (model X.prog X.w) X.A (f v) (EP X pins σ Q) X.xe s
/-- a call of a value that is known (a builtin, a type) with values -/
def CallR (X : Cx) (f : Value) (r : List V → Hp → VK → Prop) : Prop :=
  ∀ (pins : List (Addr × Obj)) (s : Shared) (σ : St) (H : Hp) (xs : List V) (us : List Value) (Q : VK), Inv X pins σ H s → Vals xs us → r xs H Q →
    wpAny (model X.prog X.w) X.A (call f us) (EP X pins σ Q) X.xe s
def tOp (r : R2) (ta tb : TE) : TE := fun σ H Q => ta σ H fun x H1 => tb σ H1 fun y H2 => r x y H2 Q
def tUn (r : V → Hp → VK → Prop) (ta : TE) : TE := fun σ H Q => ta σ H fun x H1 => r x H1 Q
/-- ints in, under C, and a value out -/
def rI (C : Int → Int → Prop) (g : Int → Int → V) : R2 := fun x y H Q => ∃ i j, x = .int i ∧ y = .int j ∧ C i j ∧ Q (g i j) H
def rI0 (g : Int → Int → V) : R2 := fun x y H Q => ∃ i j, x = .int i ∧ y = .int j ∧ Q (g i j) H
def rU (g : Int → V) : V → Hp → VK → Prop := fun x H Q => ∃ i, x = .int i ∧ Q (g i) H

section
variable {X : Cx} {a b c : Expr} {ta tb tc : TE} {pos : Pos}

theorem binT (ha : PE X a ta) (hb : PE X b tb) {pins : List (Addr × Obj)} {s : Shared} {σ : St} {H : Hp} {R : V → V → Hp → Prop} (I : Inv X pins σ H s)
    (h : ta σ H fun x H1 => tb σ H1 fun y H2 => R x y H2) {Q : Value → Shared → Prop} {f : Value → Value → Sem Value}
    (hf : ∀ v u s2 x y H2, Inv X pins σ H2 s2 → RelV x v → RelV y u → R x y H2 → wpAny (model X.prog X.w) X.A (f v u) Q X.xe s2) :
    wpAny (model X.prog X.w) X.A (eval a X.env) (fun v s₁ => wpAny (model X.prog X.w) X.A (eval b X.env) (fun u s₂ => wpAny (model X.prog X.w) X.A (f v u) Q X.xe s₂) X.xe s₁) X.xe s := by
  refine thn (ha pins s σ H _ I h) fun v s1 ⟨x, H1, I1, r1, q1⟩ => ?_
  refine thn (hb pins s1 σ H1 _ I1 q1) fun u s2 ⟨y, H2, I2, r2, q2⟩ => ?_
  exact hf v u s2 x y H2 I2 r1 r2 q2

theorem pe_op {op : Operator} {r : R2} (ho : OpR X (binaryOp op) r) (ha : PE X a ta) (hb : PE X b tb) : PE X (.BinOp a op b pos) (tOp r ta tb) := by
  intro pins s σ H Q I h
  exact wpAny_BinOp (binT ha hb I h fun v u s2 x y H2 I2 rx ry q => ho pins s2 σ H2 x y v u Q I2 rx ry q)
theorem pe_un {op : UnaryOp} {r : V → Hp → VK → Prop} (ho : UnR X (unaryOp op) r) (ha : PE X a ta) : PE X (.UnaryOp op a pos) (tUn r ta) := by
  intro pins s σ H Q I h
  exact UnaryOp_ (thn (ha pins s σ H _ I h) fun v s1 ⟨x, H1, I1, r1, q1⟩ => ho pins s1 σ H1 x v Q I1 r1 q1)
/-! ### ints -/
theorem opI {f : Value → Value → Sem Value} {C : Int → Int → Prop} {g : Int → Int → Int}
    (rule : ∀ (i j : Int) (t u : Tok) (s : Shared) (Q : Value → Shared → Prop) (E : Value → Shared → Prop), C i j → Q (.int (g i j) s.toks) { s with toks := s.toks + 1 } → wpAny (model X.prog X.w) X.A (f (.int i t) (.int j u)) Q E s) :
    OpR X f (rI C fun i j => .int (g i j)) := by
  intro pins s σ H x y v u Q I rx ry h
  obtain ⟨i, j, rfl, rfl, hc, q⟩ := h
  obtain ⟨t, rfl⟩ := rx
  obtain ⟨t', rfl⟩ := ry
  exact rule i j t t' s _ _ hc ⟨.int (g i j), H, I.tok _, ⟨_, rfl⟩, q⟩
theorem opI0 {f : Value → Value → Sem Value} {g : Int → Int → Int}
    (rule : ∀ (i j : Int) (t u : Tok) (s : Shared) (Q : Value → Shared → Prop) (E : Value → Shared → Prop), Q (.int (g i j) s.toks) { s with toks := s.toks + 1 } → wpAny (model X.prog X.w) X.A (f (.int i t) (.int j u)) Q E s) :
    OpR X f (rI0 fun i j => .int (g i j)) := by
  intro pins s σ H x y v u Q I rx ry h
  obtain ⟨i, j, rfl, rfl, q⟩ := h
  obtain ⟨t, rfl⟩ := rx
  obtain ⟨t', rfl⟩ := ry
  exact rule i j t t' s _ _ ⟨.int (g i j), H, I.tok _, ⟨_, rfl⟩, q⟩
theorem opB0 {f : Value → Value → Sem Value} {g : Int → Int → Bool}
    (rule : ∀ (i j : Int) (t u : Tok) (s : Shared) (Q : Value → Shared → Prop) (E : Value → Shared → Prop), Q (.bool (g i j)) s → wpAny (model X.prog X.w) X.A (f (.int i t) (.int j u)) Q E s) :
    OpR X f (rI0 fun i j => .bl (g i j)) := by
  intro pins s σ H x y v u Q I rx ry h
  obtain ⟨i, j, rfl, rfl, q⟩ := h
  obtain ⟨t, rfl⟩ := rx
  obtain ⟨t', rfl⟩ := ry
  exact rule i j t t' s _ _ ⟨.bl (g i j), H, I, rfl, q⟩

def CPow (i j : Int) : Prop := 0 ≤ j ∧ j ≤ 1000000 ∧ i.natAbs < 2 ^ 64
def CMul (i j : Int) : Prop := (-(2 ^ 64) < i ∧ i < 2 ^ 64) ∨ (-(2 ^ 64) < j ∧ j < 2 ^ 64)
theorem CMul.ok {i j : Int} (h : CMul i j) : IntMulOk i j := by
  rcases h with ⟨h1, h2⟩ | ⟨h1, h2⟩
  · exact .of_left (intBits_le_64 h1 h2)
  · exact .of_right (intBits_le_64 h1 h2)
theorem op_add : OpR X (binaryOp .Add) (rI0 fun i j => .int (i + j)) := opI0 fun _ _ _ _ _ _ _ q => add_int q
theorem op_sub : OpR X (binaryOp .Sub) (rI0 fun i j => .int (i - j)) := opI0 fun _ _ _ _ _ _ _ q => sub_int q
theorem op_mul : OpR X (binaryOp .Mult) (rI CMul fun i j => .int (i * j)) := opI fun _ _ _ _ _ _ _ hc q => mul_int q hc.ok
/-- % by a positive divisor of any size -/
theorem op_mod : OpR X (binaryOp .Mod) (rI (fun _ j => 0 < j) fun i j => .int (i % j)) := opI fun i j _ _ _ _ _ hc q => by
  have h1 : (0 : Int) < j := hc
  exact mod_int' (by omega) (by rw [Int.fmod_eq_emod_of_nonneg i (by omega)]; exact q)
theorem op_pow : OpR X (binaryOp .Pow) (rI CPow fun i j => .int (i ^ j.toNat)) := opI fun _ _ _ _ _ _ _ hc q => pow_int_small hc.1 hc.2.1 hc.2.2 q
theorem unI {f : Value → Sem Value} {g : Int → Int}
    (rule : ∀ (i : Int) (t : Tok) (s : Shared) (Q : Value → Shared → Prop) (E : Value → Shared → Prop), Q (.int (g i) s.toks) { s with toks := s.toks + 1 } → wpAny (model X.prog X.w) X.A (f (.int i t)) Q E s) :
    UnR X f (rU fun i => .int (g i)) := by
  intro pins s σ H x v Q I rx h
  obtain ⟨i, rfl, q⟩ := h
  obtain ⟨t, rfl⟩ := rx
  exact rule i t s _ _ ⟨.int (g i), H, I.tok _, ⟨_, rfl⟩, q⟩
theorem un_neg : UnR X (unaryOp .USub) (rU fun i => .int (-i)) := unI fun _ _ _ _ _ q => neg_int q
end

/-! ### comparisons -/
/-- the scalars that == tells apart as data does -/
def scal : V → V → Bool
  | .non, .non => true | .non, .int _ => true | .int _, .non => true | .non, .bl _ => true | .bl _, .non => true | .non, .str _ => true | .str _, .non => true
  | .int _, .int _ => true | .bl _, .bl _ => true | .str _, .str _ => true | .byt _, .byt _ => true
  | .int _, .str _ => true | .str _, .int _ => true | .bl _, .str _ => true | .str _, .bl _ => true
  | _, _ => false
def rEq : R2 := fun x y H Q => scal x y = true ∧ Q (.bl (decide (x = y))) H
def rNe : R2 := fun x y H Q => scal x y = true ∧ Q (.bl (!decide (x = y))) H

theorem dec_int {i j : Int} : decide (V.int i = V.int j) = (i == j) := by
  rw [Bool.eq_iff_iff]
  simp
theorem dec_bl {i j : Bool} : decide (V.bl i = V.bl j) = (i == j) := by
  rw [Bool.eq_iff_iff]
  simp
theorem dec_str {i j : Str} : decide (V.str i = V.str j) = (i == j) := by
  rw [Bool.eq_iff_iff]
  simp
theorem dec_byt {i j : Array UInt8} : decide (V.byt i = V.byt j) = (i.toList == j.toList) := by
  rw [Bool.eq_iff_iff]
  cases i
  cases j
  simp

section
variable {X : Cx} {a b c : Expr} {ta tb tc : TE} {pos : Pos}
theorem fin_bl {pins : List (Addr × Obj)} {σ : St} {H : Hp} {s : Shared} {Q : VK} {k k' : Bool} (I : Inv X pins σ H s) (q : Q (.bl k) H) (e : k = k') : EP X pins σ Q (.bool k') s := by
  subst e
  exact ⟨.bl k, H, I, rfl, q⟩
theorem op_eq : OpR X (compareOp .Eq) rEq := by
  intro pins s σ H x y v u Q I rx ry h
  obtain ⟨hs, q⟩ := h
  cases x with
  | non =>
    cases rx
    cases y with
    | non => cases ry; exact PySem.EqNone.eq_none_none (fin_bl I q (by simp))
    | bl j => cases ry; exact PySem.EqNone.eq_none_bool (fin_bl I q (by simp))
    | int j => obtain ⟨t', rfl⟩ := ry; exact PySem.EqNone.eq_none_int (fin_bl I q (by simp))
    | str j => obtain ⟨t', rfl⟩ := ry; exact PySem.EqNone.eq_none_str (fin_bl I q (by simp))
    | _ => exact absurd (show false = true from hs) Bool.false_ne_true
  | bl i =>
    cases rx
    cases y with
    | non => cases ry; exact PySem.EqNone.eq_bool_none (fin_bl I q (by simp))
    | bl j => cases ry; exact eq_bool (fin_bl I q dec_bl)
    | str j => obtain ⟨t', rfl⟩ := ry; exact PySem.EqMixed.eq_bool_str (fin_bl I q (by simp))
    | _ => exact absurd (show false = true from hs) Bool.false_ne_true
  | int i =>
    obtain ⟨t, rfl⟩ := rx
    cases y with
    | non => cases ry; exact PySem.EqNone.eq_int_none (fin_bl I q (by simp))
    | int j => obtain ⟨t', rfl⟩ := ry; exact eq_int (fin_bl I q dec_int)
    | str j => obtain ⟨t', rfl⟩ := ry; exact PySem.EqMixed.eq_int_str (fin_bl I q (by simp))
    | _ => exact absurd (show false = true from hs) Bool.false_ne_true
  | str i =>
    obtain ⟨t, rfl⟩ := rx
    cases y with
    | non => cases ry; exact PySem.EqNone.eq_str_none (fin_bl I q (by simp))
    | bl j => cases ry; exact PySem.EqMixed.eq_str_bool (fin_bl I q (by simp))
    | int j => obtain ⟨t', rfl⟩ := ry; exact PySem.EqMixed.eq_str_int (fin_bl I q (by simp))
    | str j => obtain ⟨t', rfl⟩ := ry; exact eq_str (fin_bl I q dec_str)
    | _ => exact absurd (show false = true from hs) Bool.false_ne_true
  | byt i =>
    obtain ⟨t, rfl⟩ := rx
    cases y with
    | byt j => obtain ⟨t', rfl⟩ := ry; exact PySem.W.eq_bytes (fin_bl I q dec_byt)
    | _ => exact absurd (show false = true from hs) Bool.false_ne_true
  | _ => cases y <;> exact absurd (show false = true from hs) Bool.false_ne_true
theorem op_ne : OpR X (compareOp .NotEq) rNe := by
  intro pins s σ H x y v u Q I rx ry h
  obtain ⟨hs, q⟩ := h
  cases x with
  | non =>
    cases rx
    cases y with
    | non => cases ry; exact PySem.EqNone.ne_none_none (fin_bl I q (by simp))
    | bl j => cases ry; exact PySem.EqNone.ne_none_bool (fin_bl I q (by simp))
    | int j => obtain ⟨t', rfl⟩ := ry; exact PySem.EqNone.ne_none_int (fin_bl I q (by simp))
    | str j => obtain ⟨t', rfl⟩ := ry; exact PySem.EqNone.ne_none_str (fin_bl I q (by simp))
    | _ => exact absurd (show false = true from hs) Bool.false_ne_true
  | bl i =>
    cases rx
    cases y with
    | non => cases ry; exact PySem.EqNone.ne_bool_none (fin_bl I q (by simp))
    | bl j => cases ry; exact ne_bool (fin_bl I q (congrArg not dec_bl))
    | str j => obtain ⟨t', rfl⟩ := ry; exact PySem.EqMixed.ne_bool_str (fin_bl I q (by simp))
    | _ => exact absurd (show false = true from hs) Bool.false_ne_true
  | int i =>
    obtain ⟨t, rfl⟩ := rx
    cases y with
    | non => cases ry; exact PySem.EqNone.ne_int_none (fin_bl I q (by simp))
    | int j => obtain ⟨t', rfl⟩ := ry; exact ne_int (fin_bl I q (congrArg not dec_int))
    | str j => obtain ⟨t', rfl⟩ := ry; exact PySem.EqMixed.ne_int_str (fin_bl I q (by simp))
    | _ => exact absurd (show false = true from hs) Bool.false_ne_true
  | str i =>
    obtain ⟨t, rfl⟩ := rx
    cases y with
    | non => cases ry; exact PySem.EqNone.ne_str_none (fin_bl I q (by simp))
    | bl j => cases ry; exact PySem.EqMixed.ne_str_bool (fin_bl I q (by simp))
    | int j => obtain ⟨t', rfl⟩ := ry; exact PySem.EqMixed.ne_str_int (fin_bl I q (by simp))
    | str j => obtain ⟨t', rfl⟩ := ry; exact ne_str (fin_bl I q (congrArg not dec_str))
    | _ => exact absurd (show false = true from hs) Bool.false_ne_true
  | byt i =>
    obtain ⟨t, rfl⟩ := rx
    cases y with
    | byt j => obtain ⟨t', rfl⟩ := ry; exact PySem.W.ne_bytes (fin_bl I q (congrArg not dec_byt))
    | _ => exact absurd (show false = true from hs) Bool.false_ne_true
  | _ => cases y <;> exact absurd (show false = true from hs) Bool.false_ne_true

theorem op_lt : OpR X (compareOp .Lt) (rI0 fun i j => .bl (decide (i < j))) := opB0 fun _ _ _ _ _ _ _ q => lt_int q
theorem op_le : OpR X (compareOp .LtE) (rI0 fun i j => .bl (decide (i ≤ j))) := opB0 fun _ _ _ _ _ _ _ q => le_int q
theorem op_ge : OpR X (compareOp .GtE) (rI0 fun i j => .bl (decide (j ≤ i))) := opB0 fun _ _ _ _ _ _ _ q => ge_int q
/-- two rules for one operation: by cases -/
theorem OpR.or {f : Value → Value → Sem Value} {r r' : R2} (h : OpR X f r) (h' : OpR X f r') : OpR X f (fun x y H Q => r x y H Q ∨ r' x y H Q) := by
  intro pins s σ H x y v u Q I rx ry q
  rcases q with q | q
  · exact h pins s σ H x y v u Q I rx ry q
  · exact h' pins s σ H x y v u Q I rx ry q

theorem nomark (b : Expr) {op : CmpOp} (h : op ≠ .In := by decide) (h2 : op ≠ .NotIn := by decide) : behindInMarks op b = false := by
  have e1 : (op == CmpOp.In) = false := by cases op <;> first | rfl | exact absurd rfl h
  have e2 : (op == CmpOp.NotIn) = false := by cases op <;> first | rfl | exact absurd rfl h2
  cases b <;> simp [behindInMarks, e1, e2]
/-- a comparison as a value; hm: nomark b, or (for in, not in) by with_unfolding_all rfl -/
theorem pe_cmpR {op : CmpOp} {r : R2} (ho : OpR X (compareOp op) r) (ha : PE X a ta) (hb : PE X b tb) (hm : behindInMarks op b = false) : PE X (.Compare a [op] [b] pos) (tOp r ta tb) := by
  intro pins s σ H Q I h
  exact wpAny_Compare1 (binT ha hb I h fun v u s2 x y H2 I2 rx ry q => ho pins s2 σ H2 x y v u Q I2 rx ry q) hm
/-- a reading of a value as a test -/
def tTest (t : TE) : TT := fun σ H Q => t σ H fun x H' => ∃ k, x = .bl k ∧ Q k H'
theorem pt_cmpR {op : CmpOp} {r : R2} (ho : OpR X (compareOp op) r) (ha : PE X a ta) (hb : PE X b tb) (hm : behindInMarks op b = false) : PT X (.Compare a [op] [b] pos) (tTest (tOp r ta tb)) := by
  intro pins s σ H Q I h
  refine wpAny_isTrue_Compare1 (thn (ha pins s σ H _ I h) fun v s1 ⟨x, H1, I1, r1, q1⟩ => thn (hb pins s1 σ H1 _ I1 q1) fun u s2 ⟨y, H2, I2, r2, q2⟩ =>
    thn (ho pins s2 σ H2 x y v u _ I2 r1 r2 q2) fun c s3 ⟨z, H3, I3, r3, k, e, q3⟩ => ?_) hm
  subst e
  cases r3
  exact wpAny_truthy_bool ⟨H3, I3, q3⟩
/-- a op1 b op2 c -/
def tChain (r r' : R2) (ta tb tc : TE) : TE := fun σ H Q => ta σ H fun x H1 => tb σ H1 fun y H2 => r x y H2 fun z H3 => ∃ k, z = .bl k ∧
  (if k = true then tc σ H3 fun w' H4 => r' y w' H4 Q else Q (.bl false) H3)
theorem pt_chain {op op' : CmpOp} {r r' : R2} (ho : OpR X (compareOp op) r) (ho' : OpR X (compareOp op') r') (ha : PE X a ta) (hb : PE X b tb) (hc : PE X c tc)
    (hm : lastMarks [op, op'] [b, c] = false := by with_unfolding_all rfl) : PT X (.Compare a [op, op'] [b, c] pos) (tTest (tChain r r' ta tb tc)) := by
  intro pins s σ H Q I h
  refine isTrue_chain (thn (ha pins s σ H _ I h) fun v s1 ⟨x, H1, I1, r1, q1⟩ => test_link (thn (hb pins s1 σ H1 _ I1 q1) fun u s2 ⟨y, H2, I2, r2, q2⟩ =>
    thn (ho pins s2 σ H2 x y v u _ I2 r1 r2 q2) fun d s3 ⟨z, H3, I3, r3, k, e, q3⟩ => ?_)) hm
  subst e
  cases r3
  refine wpAny_truthy_bool ?_
  cases k with
  | false =>
    obtain ⟨k', e', q'⟩ := q3
    cases e'
    exact ite_ff ⟨H3, I3, q'⟩
  | true =>
    refine ite_tt (test_last (thn (hc pins s3 σ H3 _ I3 q3) fun w' s4 ⟨z', H4, I4, r4, q4⟩ => thn (ho' pins s4 σ H4 y z' u w' _ I4 r2 r4 q4) fun d' s5 ⟨z2, H5, I5, r5, k2, e2, q5⟩ => ?_))
    subst e2
    cases r5
    exact wpAny_truthy_bool ⟨H5, I5, q5⟩

theorem line63 : (sizeLine : Nat) < 2 ^ 63 := by rw [sizeLine_eq]; decide
/-! ### scalar builtins, by CallR -/
theorem vals1 {x : V} {us : List Value} (r : Vals [x] us) : ∃ u, us = [u] ∧ RelV x u := by
  cases r with
  | cons r1 r2 => cases r2; exact ⟨_, rfl, r1⟩
theorem vals2 {x y : V} {us : List Value} (r : Vals [x, y] us) : ∃ u w', us = [u, w'] ∧ RelV x u ∧ RelV y w' := by
  cases r with
  | cons r1 r2 =>
    cases r2 with
    | cons r3 r4 => cases r4; exact ⟨_, _, rfl, r1, r3⟩
theorem call_abs : CallR X (.builtin "abs") (fun xs H Q => ∃ i, xs = [.int i] ∧ Q (.int (if i < 0 then -i else i)) H) := by
  intro pins s σ H xs us Q I r h
  obtain ⟨i, rfl, q⟩ := h
  obtain ⟨u, rfl, t, rfl⟩ := vals1 r
  exact call_abs_int fun u tk => ⟨.int (if i < 0 then -i else i), H, I.tok _, ⟨_, rfl⟩, q⟩
theorem call_max2 (hc : X.calm = true) : CallR X (.builtin "max") (fun xs H Q => ∃ i j, xs = [.int i, .int j] ∧ Q (.int (if j > i then j else i)) H) := by
  intro pins s σ H xs us Q I r h
  obtain ⟨i, j, rfl, q⟩ := h
  obtain ⟨u, w', rfl, ⟨t, rfl⟩, ⟨t', rfl⟩⟩ := vals2 r
  refine max_two_ints (I.ok.hd hc) fun h' tk k => ⟨_, H, I.kept k, ?_, q⟩
  by_cases hj : j > i
  · rw [if_pos hj, if_pos hj]; exact ⟨_, rfl⟩
  · rw [if_neg hj, if_neg hj]; exact ⟨_, rfl⟩
theorem call_min2 (hc : X.calm = true) : CallR X (.builtin "min") (fun xs H Q => ∃ i j, xs = [.int i, .int j] ∧ Q (.int (if j < i then j else i)) H) := by
  intro pins s σ H xs us Q I r h
  obtain ⟨i, j, rfl, q⟩ := h
  obtain ⟨u, w', rfl, ⟨t, rfl⟩, ⟨t', rfl⟩⟩ := vals2 r
  refine min_two_ints (I.ok.hd hc) fun h' tk k => ⟨_, H, I.kept k, ?_, q⟩
  by_cases hj : j < i
  · rw [if_pos hj, if_pos hj]; exact ⟨_, rfl⟩
  · rw [if_neg hj, if_neg hj]; exact ⟨_, rfl⟩
end
end L2

namespace L2
open PySem PySem.Spec PyProof.Rows

/-! ### an instance, its attributes a map -/
structure ObjM (h : Heap) (x dx C : Addr) (mA : Str → Option Value) : Prop where
  obj : h.get? x = some (PySem.W.instObj C dx)
  ns : h.Ns1 dx mA
  ne : dx ≠ x

theorem lookIn_ns {h : Heap} {dx : Addr} {mA : Str → Option Value} (n : h.Ns1 dx mA) : ∃ od, h.get? dx = some od ∧ ∀ name, PySem.W.lookIn name od = some (mA name) := by
  obtain ⟨o, es, ep, ho, hd, hk, _, hm⟩ := n
  refine ⟨o, ho, fun name => ?_⟩
  have e := hm name
  unfold nsFind findBy at e
  rw [← Array.find?_toList] at e
  unfold PySem.W.lookIn
  rw [hd]
  dsimp only
  split
  · rename_i y q
    rw [q] at e
    exact congrArg some e
  · rename_i q
    rw [q] at e
    have a : es.toList.any (·.refKey) = false := by
      rw [List.any_eq_false]
      intro y hy
      obtain ⟨z, t, hkey⟩ := hk y (Array.mem_toList_iff.mp hy)
      simp [DictEntry.refKey, hkey]
    have a' : ¬ es.toList.any (·.refKey) = true := by rw [a]; exact Bool.false_ne_true
    rw [if_neg a']
    exact congrArg some e

theorem ObjM.look {h : Heap} {x dx C : Addr} {mA : Str → Option Value} (I : ObjM h x dx C mA) : ∃ od, PySem.W.InstAt h x (PySem.W.instObj C dx) C (some od) ∧ ∀ name, PySem.W.lookIn name od = some (mA name) :=
  let ⟨od, ho, hl⟩ := lookIn_ns I.ns
  ⟨od, ⟨I.obj, rfl, rfl, ho⟩, hl⟩

section
variable {prog : Program} {w : World} {A : Around} {E : Value → Shared → Prop} {s : Shared} {K : PySem.W.Frag} {x dx C f : Addr} {mA : Str → Option Value} {name : Str} {v : Value}

end

section
variable {P : Program} {w : World} {H H' : Hp} {h h' : Heap} {a C dx : Addr} {fs fs' : List (Str × V)}
theorem ins_get (hok : HOk P w H h) (e : H a = some (.ins C dx fs)) : ∃ mA, ObjM h a dx C mA ∧ (∀ f, RelO (fs.lookup f) (mA f)) ∧ PySem.Within mA (fs.map (·.1)) ∧ fs.length ≤ 1000 ∧ H dx = some (.own a) := by
  obtain ⟨d, z, ne, ob, mA, n, r, q⟩ := (show ObjOk P w H h a (.ins C dx fs) from hok a _ e)
  exact ⟨mA, ⟨ob, n, ne⟩, r, q, z, d⟩
end

/-! ### what of the text a class must have -/
structure Cls (K : PySem.W.Frag) (C : Addr) : Prop where
  pg : PySem.W.plainGet K C Str.empty = true
  hd : PySem.W.hasDictIn K C = true
  po : PySem.W.plainOver K C = true
  sa : PySem.W.findIn K (.ref C) "__setattr__" = some (some (.builtin "object.__setattr__"))
theorem Cls.get {K : PySem.W.Frag} {C : Addr} (c : Cls K C) (f : Str) : PySem.W.plainGet K C f = true := c.pg
/-- a constant of the class -/
structure Con (K : PySem.W.Frag) (C : Addr) (f : Str) (v : V) (u : Value) : Prop where
  at_ : PySem.W.findIn K (.ref C) f = some (some u)
  rel : RelV v u
  get : PySem.W.specialIn K u "__get__" = some none
  cp : PySem.W.copiedNames.contains f = false
/-- a method: a plain def of the class or of one above it -/
structure Meth (K : PySem.W.Frag) (C : Addr) (m : Str) (f : Addr) : Prop where
  at_ : PySem.W.findIn K (.ref C) m = some (some (.ref f))
  fn : PySem.W.isFn K (.ref f) = true
  kp : PySem.W.keepIn K (.ref f) = true

section
variable {X : Cx} {pins : List (Addr × Obj)} {σ : St} {H : Hp} {s : Shared} {a C dx : Addr} {fs : List (Str × V)} {f : Str} {v : V} {A : Around} {E : Value → Shared → Prop}

/-- a new instance, tracked, without attributes -/
theorem Inv.made (I : Inv X pins σ H s) : Inv X pins σ (upd (upd H s.heap.objs.size (.own (s.heap.objs.size + 1))) (s.heap.objs.size + 1) (.ins C s.heap.objs.size []))
    { s with heap := (s.heap.push PySem.W.emptyDict).push (PySem.W.instObj C s.heap.objs.size) } := by
  have e1 : (s.heap.push PySem.W.emptyDict).get? s.heap.objs.size = some PySem.W.emptyDict := Heap.get?_push_size s.heap rfl
  have e2 : ((s.heap.push PySem.W.emptyDict).push (PySem.W.instObj C s.heap.objs.size)).get? (s.heap.objs.size + 1) = some (PySem.W.instObj C s.heap.objs.size) := by
    have := Heap.get?_push_size (s.heap.push PySem.W.emptyDict) (o := PySem.W.instObj C s.heap.objs.size) rfl
    rwa [Heap.size_push] at this
  have e3 : (s.heap.push PySem.W.emptyDict).Ns s.heap.objs.size (fun _ => none) := ⟨PySem.W.emptyDict, #[], _, e1, rfl, (fun e he => absurd he (by simp)), fun _ => rfl⟩
  have I1 := I.laid (a := s.heap.objs.size) (o := .own (s.heap.objs.size + 1)) (h' := s.heap.push PySem.W.emptyDict) (t' := s.toks) (fun b u q => Heap.get?_push_of_some _ q) (Nat.le_refl _) ⟨_, e1⟩
  refine I1.laid (a := s.heap.objs.size + 1) (o := .ins C s.heap.objs.size []) (t' := s.toks) (fun b u q => Heap.get?_push_of_some _ q) (Nat.le_of_eq (Heap.size_push _ _)) ?_
  have ne : s.heap.objs.size ≠ s.heap.objs.size + 1 := Nat.ne_of_lt (Nat.lt_succ_self _)
  refine ⟨by rw [upd_ne ne, upd_same], Nat.zero_le _, ne, e2, fun _ => none, (Heap.Ns1.of_empty e3).at fun o q => Heap.get?_push_of_some _ q, fun _ => True.intro, fun y hy => absurd rfl hy⟩

end

section
variable {X : Cx} {o e value : Expr} {f : Str} {pos pos' tpos : Pos} {ta tv : TE}
end

/-! ### isinstance -/
section
variable {X : Cx} {pins : List (Addr × Obj)} {σ : St} {H : Hp} {s : Shared} {A : Around} {E : Value → Shared → Prop} {Q : Value → Shared → Prop} {c : Value} {b : Bool}
/-- the type of a value, as the fragment's deciders take it; for an instance its class -/
inductive TyOf (K : PySem.W.Frag) (H : Hp) : V → Value → Prop where
  | non : TyOf K H .non (.type "NoneType")
  | bl (x : Bool) : TyOf K H (.bl x) (.type "bool")
  | int (i : Int) : TyOf K H (.int i) (.type "int")
  | str (x : Str) : TyOf K H (.str x) (.type "str")
  | flt (x : UInt64) : TyOf K H (.flt x) (.type "float")
  | lst {a : Addr} {xs : List V} (e : H a = some (.lst xs)) : TyOf K H (.ref a) (.type "list")
  | frz {a : Addr} {o : Obj} {xs : List V} (e : H a = some (.frz o (.lst xs))) : TyOf K H (.ref a) (.type "list")
  | tup {a : Addr} {xs : List V} (e : H a = some (.tup xs)) : TyOf K H (.ref a) (.type "tuple")
  | dK {a : Addr} {kvs : List (Key × V)} (e : H a = some (.dK kvs)) : TyOf K H (.ref a) (.type "dict")
  | dT {a : Addr} {kvs : List (List Key × V)} (e : H a = some (.dT kvs)) : TyOf K H (.ref a) (.type "dict")
  | ins {a C dx : Addr} {fs : List (Str × V)} (e : H a = some (.ins C dx fs)) (cl : Cls K C) (ha : PySem.W.findIn K (.ref C) "__class__" = some (some (.builtin "object.__class__")))
      (hn : PySem.W.specialIn K (.builtin "object.__class__") "__get__" = some (some (.builtin "getset_descriptor.__get__"))) (htk : PySem.W.takesIn K (.builtin "object.__class__") = some true)
      (hm : PySem.W.mroIn K C (.type "object") = some true) : TyOf K H (.ref a) (.ref C)
/-- isinstance(x, c) for one class c, a built-in or an own one: kitOne's answer -/
theorem isinst_ok {x : V} {u t : Value} (I : Inv X pins σ H s) (rx : RelV x u) (ty : TyOf X.K H x t) (e : PySem.W.kitOne X.K t c = some b) (h : ∀ tk, Q (.bool b) { s with toks := tk }) :
    wpAny (model X.prog X.w) A (call (.builtin "isinstance") [u, c]) Q E s := by
  cases ty with
  | non => cases (show u = Value.none from rx); exact PySem.W.kia_one PySem.W.kitx_none I.kIn True.intro e (fun z => nomatch z) h
  | bl y => cases (show u = Value.bool y from rx); exact PySem.W.kia_one PySem.W.kitx_bool I.kIn True.intro e (fun z => nomatch z) h
  | int i => obtain ⟨t, q⟩ := (show ∃ t, u = Value.int i t from rx); cases q; exact PySem.W.kia_one PySem.W.kitx_int I.kIn True.intro e (fun z => nomatch z) h
  | str y => obtain ⟨t, q⟩ := (show ∃ t, u = Value.str y t from rx); cases q; exact PySem.W.kia_one PySem.W.kitx_str I.kIn True.intro e (fun z => nomatch z) h
  | flt y => obtain ⟨t, q⟩ := (show ∃ t, u = Value.float y t from rx); cases q; exact PySem.W.kia_one PySem.W.kitx_float I.kIn True.intro e (fun z => nomatch z) h
  | @lst a xs ea =>
    cases (show u = Value.ref a from rx)
    obtain ⟨_, _, n, _, h1⟩ := (show ObjOk X.prog X.w H s.heap a (.lst xs) from I.hok a _ ea)
    exact PySem.W.kia_one PySem.W.kitx_list I.kIn ⟨_, h1, rfl⟩ e (fun z => nomatch z) h
  | @frz a ob xs ea =>
    cases (show u = Value.ref a from rx)
    obtain ⟨_, _, _, n, _, h1⟩ := (show ObjOk X.prog X.w H s.heap a (.frz ob (.lst xs)) from I.hok a _ ea)
    exact PySem.W.kia_one PySem.W.kitx_list I.kIn ⟨_, h1, rfl⟩ e (fun z => nomatch z) h
  | @tup a xs ea =>
    cases (show u = Value.ref a from rx)
    obtain ⟨_, _, _, p⟩ := (show ObjOk X.prog X.w H s.heap a (.tup xs) from I.hok a _ ea)
    obtain ⟨o, h1, h2, _⟩ := p
    exact PySem.W.kia_one PySem.W.kitx_tuple I.kIn ⟨o, h1, h2⟩ e (fun z => nomatch z) h
  | @dK a kvs ea =>
    cases (show u = Value.ref a from rx)
    obtain ⟨_, _, vs, _, p⟩ := (show ObjOk X.prog X.w H s.heap a (.dK kvs) from I.hok a _ ea)
    obtain ⟨o, es, ep, h1, h2, _⟩ := p
    exact PySem.W.kia_one PySem.W.kitx_dict I.kIn ⟨o, h1, h2.1⟩ e (fun z => nomatch z) h
  | @dT a kvs ea =>
    cases (show u = Value.ref a from rx)
    obtain ⟨_, _, xs, _, o, es, ep, h1, h2, _⟩ := (show ObjOk X.prog X.w H s.heap a (.dT kvs) from I.hok a _ ea)
    exact PySem.W.kia_one PySem.W.kitx_dict I.kIn ⟨o, h1, h2.1⟩ e (fun z => nomatch z) h
  | @ins a C dx fs ea cl ha hn htk hm =>
    cases (show u = Value.ref a from rx)
    obtain ⟨mA, O, _⟩ := ins_get I.hok ea
    obtain ⟨od, J, _⟩ := O.look
    exact PySem.W.kia_one (PySem.W.kitx_own (cl.get _) cl.hd ha hn htk hm) I.kIn J e (fun z => nomatch z) h
end
end L2

namespace L2
open PySem PySem.Spec PyProof.Rows

/-! ### room -/
structure Room (k : Nat) (A : Around) : Prop where
  hd : A.handled = none
  dp : A.depth + 3 * k + 5 < recursionLimit
  un : A.units + 16 * k + 200 < cLine
  gd : A.guards = some []
theorem Room.mono {j k : Nat} {A : Around} (r : Room k A) (h : j ≤ k) : Room j A := ⟨r.hd, by have := r.dp; omega, by have := r.un; omega, r.gd⟩
theorem Room.deeper {k : Nat} {A : Around} (r : Room (k + 1) A) (env : Env) : Room k (A.deeper env) :=
  ⟨r.hd, by have := r.dp; show A.depth + 1 + 3 * k + 5 < _; omega, by have := r.un; show A.units + 3 + 16 * k + 200 < _; omega, r.gd⟩
theorem Room.in1 {k : Nat} {A : Around} (r : Room (k + 1) A) : Room k A.in1 :=
  ⟨r.hd, by have := r.dp; show A.depth + 3 * k + 5 < _; omega, by have := r.un; show A.units + 1 + 16 * k + 200 < _; omega, r.gd⟩
theorem Room.depth {k : Nat} {A : Around} (r : Room k A) : A.depth < recursionLimit := by have := r.dp; omega
theorem Room.units {k : Nat} {A : Around} (r : Room k A) : A.units + 64 < cLine := by have := r.un; omega
/-! ### argument lists and displays -/
def tNil : TA := fun _ H Q => Q [] H
def tCons (ta : TE) (tr : TA) : TA := fun σ H Q => ta σ H fun x H1 => tr σ H1 fun xs H2 => Q (x :: xs) H2
section
variable {X : Cx} {e : Expr} {es : List Expr} {te : TE} {t : TA} {pos : Pos}
theorem pa_nil : PA X [] tNil := fun _ _ _ _ H Q I h => Calls.spliced_nil ⟨[], H, I, .nil, h⟩
theorem pa_cons (ha : PE X e te) (hr : PA X es t) (hs : starEach (e :: es) X.env = (false, eval e X.env) :: starEach es X.env := by rfl) : PA X (e :: es) (tCons te t) := by
  intro pos pins s σ H Q I h
  rw [hs]
  show wpAny _ _ (spliced ((false, eval e X.env) :: backTo pos (starEach es X.env))) _ _ s
  refine Calls.spliced_cons (thn (ha pins s σ H _ I h) fun u s1 ⟨x, H1, I1, r1, q1⟩ => ?_)
  exact thn (hr pos pins s1 σ H1 _ I1 q1) fun us s2 ⟨xs, H2, I2, r2, q2⟩ => ⟨x :: xs, H2, I2, .cons r1 r2, q2⟩

/-- a tuple, a list of written items -/
def tTup (t : TA) : TE := fun σ H Q => t σ H fun xs H1 => xs.length ≤ sizeLine ∧ ∀ p, H1 p = none → Q (.ref p) (upd H1 p (.tup xs))
def tLst (t : TA) : TE := fun σ H Q => t σ H fun xs H1 => xs.length ≤ sizeLine ∧ ∀ p, H1 p = none → Q (.ref p) (upd H1 p (.lst xs))
theorem pe_tup {x1} (h : PA X es t) : PE X (.Tuple es x1 pos) (tTup t) := by
  intro pins s σ H Q I hq
  refine wpAny_Tuple_spliced (thn (h pos pins s σ H _ I hq) fun us s1 ⟨xs, H1, I1, r, z, q⟩ => ⟨by rw [← r.length]; exact z, ?_⟩)
  have hf : H1 s1.heap.objs.size = none := I1.hok.fresh (Nat.le_refl _)
  refine ⟨.ref s1.heap.objs.size, upd H1 s1.heap.objs.size (.tup xs), I1.laid (t' := s1.toks) (fun b u e => Heap.get?_push_of_some _ e) (Nat.le_refl _) ?_, rfl, q _ hf⟩
  exact ⟨z, us, r, ⟨_, Heap.get?_push_size _ rfl, rfl, _, rfl⟩⟩
theorem pe_lst (h : PA X es t) : PE X (.List es pos) (tLst t) := by
  intro pins s σ H Q I hq
  refine wpAny_List_spliced (thn (h pos pins s σ H _ I hq) fun us s1 ⟨xs, H1, I1, r, z, q⟩ => ⟨by rw [← r.length]; exact z, ?_⟩)
  have hf : H1 s1.heap.objs.size = none := I1.hok.fresh (Nat.le_refl _)
  refine ⟨.ref s1.heap.objs.size, upd H1 s1.heap.objs.size (.lst xs), I1.laid (t' := s1.toks) (fun b u e => Heap.get?_push_of_some _ e) (Nat.le_refl _) ?_, rfl, q _ hf⟩
  exact ⟨z, us, 0, r, Heap.get?_push_size _ rfl⟩
end

/-! ### what a def promises -/
/-- a def's promise: the bound arguments in the parameters' order, the heap, the wanted end, the wanted exception -/
abbrev Sp := List V → Hp → VK → XK → Prop
/-- how an exception lies behind a call (file 08 gives it): the callers' frames, abstract heap and state ahead of the call, the wish, the exception, the state -/
abbrev CXT := List Env → Hp → Shared → XK → Value → Shared → Prop

/-- the state at a call -/
structure Env0 (P : Program) (w : World) (K : PySem.W.Frag) (mg : Str → Option Value) (base : Heap) (A : Around) (outer : List Env) (s : Shared) (H : Hp) : Prop where
  frames : A.frames = some outer
  mod : Mod K mg base
  bs : ∀ b o, base.get? b = some o → s.heap.get? b = some o ∧ H b = none
  bsz : base.objs.size ≤ s.heap.objs.size
  funs : s.heap.FunFrames base outer
  frf : ∀ b ∈ frs outer, H b = none
  hok : HOk P w H s.heap
  bare : AllBare s.gens
/-- a call's end -/
def CE (outer : List Env) (P : Program) (w : World) (H : Hp) (s : Shared) (Q : VK) (u : Value) (s' : Shared) : Prop :=
  ∃ v H', s'.os = s.os ∧ AllBare s'.gens ∧ Un (frs outer) [] H H' s.heap s'.heap ∧ HOk P w H' s'.heap ∧ RelV v u ∧ Q v H'
def CR (CX : CXT) (outer : List Env) (P : Program) (w : World) (H : Hp) (s : Shared) (Q : VK) (E : XK) (r : Result) (s' : Shared) : Prop :=
  match r with
  | .ok (.ret u) => CE outer P w H s Q u s'
  | .ok _ => False
  | .error e => CX outer H s E e s'
structure FnOk (P : Program) (w : World) (K : PySem.W.Frag) (mg : Str → Option Value) (base : Heap) (CX : CXT) (k : Nat) (f : Addr) (fd : FuncData) (ps : List Str) (sp : Sp) : Prop where
  len : ∀ vs H Q E, sp vs H Q E → vs.length = ps.length
  run : ∀ (A : Around) (outer : List Env) (s : Shared) (H : Hp) (args : Args) (us : List Value) (vs : List V) (Q : VK) (E : XK), Room k A → Env0 P w K mg base A outer s H → BindsTo s fd args (ps.zip us) → Vals vs us → sp vs H Q E →
    codeAny (model P w) A (.call (.ref f) args) (CR CX outer P w H s Q E) s
theorem FnOk.mono {P : Program} {w : World} {K : PySem.W.Frag} {mg : Str → Option Value} {base : Heap} {CX : CXT} {j k : Nat} {f : Addr} {fd : FuncData} {ps : List Str} {sp : Sp} (F : FnOk P w K mg base CX j f fd ps sp) (h : j ≤ k) :
    FnOk P w K mg base CX k f fd ps sp := ⟨F.len, fun A outer s H args us vs Q E hr => F.run A outer s H args us vs Q E (hr.mono h)⟩
theorem Env0.in1 {P : Program} {w : World} {K : PySem.W.Frag} {mg : Str → Option Value} {base : Heap} {A : Around} {outer : List Env} {s : Shared} {H : Hp} (e : Env0 P w K mg base A outer s H) :
    Env0 P w K mg base A.in1 outer s H := ⟨e.frames, e.mod, e.bs, e.bsz, e.funs, e.frf, e.hok, e.bare⟩

section
variable {X : Cx} {pins : List (Addr × Obj)} {σ : St} {H : Hp} {s s' : Shared}
/-- from a body: what a callee wants -/
theorem Inv.env0 (I : Inv X pins σ H s) : Env0 X.prog X.w X.K X.mg X.base X.A X.stack s H :=
  ⟨I.ok.frames, I.ok.mod, I.bs, Nat.le_trans I.ok.bsz I.sz, I.stack, I.stkFree, I.hok, I.bare⟩
/-- behind a call -/
theorem Inv.after {Q : VK} {u : Value} (I : Inv X pins σ H s) (h : CE X.stack X.prog X.w H s Q u s') : EP X pins σ Q u s' := by
  obtain ⟨v, H', os, bare, un, hok, r, q⟩ := h
  obtain ⟨hh, g, d, t, os'⟩ := s'
  obtain rfl : os' = s.os := os
  exact ⟨v, H', I.call (h' := hh) (g' := g) (d' := d) (t' := t) (ch := []) un hok bare (fun b z => absurd z (by simp)), r, q⟩
end

/-! ### calls -/
/-- f(..): the written arguments, then the defaults dvs; E: what is wanted of an exception -/
def tCall (sp : Sp) (dvs : List V) (E : XK) (t : TA) : TE := fun σ H Q => t σ H fun vs H1 => sp (vs ++ dvs) H1 Q E
/-- how the parameters are bound: us the positional arguments, kw the keywords' values by name, ds the defaults that fill up -/
def Binds (K : PySem.W.Frag) (fd : FuncData) (ps : List Str) (ds : List Value) : Prop :=
  ∀ (s : Shared) (us : List Value), K.In s.heap → (us ++ ds).length = ps.length → BindsTo s fd ⟨us, []⟩ (ps.zip (us ++ ds))
/-- every parameter is given -/
theorem Binds.all {K : PySem.W.Frag} {fd : FuncData} {ps : List Str} (h : ∀ us : List Value, us.length = ps.length → bindArgs fd ⟨us, []⟩ = pure (ps.zip us)) : Binds K fd ps [] := fun s us _ hl => by
  rw [List.append_nil] at hl ⊢
  exact .of_eq (h us hl)

/-- an exception of a callee reaches what this body wants of exceptions -/
def Passes (CX : CXT) (X : Cx) (E : XK) : Prop := ∀ (pins : List (Addr × Obj)) (σ : St) (H : Hp) (s : Shared) (e : Value) (s' : Shared), Inv X pins σ H s → CX X.stack H s E e s' → X.xe e s'

section
variable {X : Cx} {CX : CXT} {k : Nat} {f C : Addr} {fd : FuncData} {ps : List Str} {sp : Sp} {dvs : List V} {ds : List Value} {E : XK} {x m : Str} {p pos apos : Pos} {e o : Expr} {es : List Expr} {ta : TE} {t : TA}

/-- the callee runs -/
theorem run_fn {pins : List (Addr × Obj)} {σ : St} {H : Hp} {s : Shared} {Q : VK} {us : List Value} {vs : List V} (F : FnOk X.prog X.w X.K X.mg X.base CX k f fd ps sp) (hr : Room k X.A) (hb : Binds X.K fd ps ds) (hd : Vals dvs ds) (hx : Passes CX X E)
    (I : Inv X pins σ H s) (r : Vals vs us) (h : sp (vs ++ dvs) H Q E) : wpAny (model X.prog X.w) X.A (call (.ref f) us) (EP X pins σ Q) X.xe s := by
  have r2 : Vals (vs ++ dvs) (us ++ ds) := r.append hd
  have hl : (us ++ ds).length = ps.length := by rw [← r2.length]; exact F.len _ _ _ _ h
  refine wpAny_call (codeAny_mono (F.run X.A X.stack s H ⟨us, []⟩ (us ++ ds) (vs ++ dvs) Q E hr I.env0 (hb s us I.kIn hl) r2 h) fun r s' hq => ?_)
  cases r with
  | error e => exact hx pins σ H s e s' I hq
  | ok fl =>
    cases fl with
    | ret u => exact I.after hq
    | next => exact False.elim hq
    | brk => exact False.elim hq
    | cont => exact False.elim hq

theorem pe_call (F : FnOk X.prog X.w X.K X.mg X.base CX k f fd ps sp) (hr : Room k X.A) (hg : Gl X x) (hm : X.mg x = some (.ref f)) (hk : PySem.W.keepIn X.K (.ref f) = true) (hb : Binds X.K fd ps ds) (hd : Vals dvs ds) (hx : Passes CX X E)
    (ha : PA X (e :: es) t) (hdb : (x == ("__debug__" : Str)) = false := by decide) (he : starEach (e :: es) X.env = (false, eval e X.env) :: starEach es X.env := by rfl) (hpl : (backTo pos (starEach es X.env)).any (·.1) = false := by rfl) :
    PE X (.Call (.Name x p) (e :: es) [] pos) (tCall sp dvs E t) := by
  intro pins s σ H Q I h
  refine wpAny_Call_Name_kw (ld_glob I hg hm ?_ hdb)
  refine PySem.W.callWith_K (h₀ := X.base) I.ok.mod.kin hk (thn (ha pos pins s σ H _ I h) fun us s1 ⟨vs, H1, I1, r, q⟩ => ⟨I1.kIn, ?_⟩) he hpl
  exact run_fn F hr hb hd hx I1 r q
/-- what a class must have to be made -/
structure Mk (K : PySem.W.Frag) (C f : Addr) : Prop where
  makes : PySem.W.makesIn K C = true
  init : PySem.W.findIn K (.ref C) "__init__" = some (some (.ref f))
  fn : PySem.W.isFn K (.ref f) = true
  kp : PySem.W.keepIn K (.ref C) = true

end

section
variable {X : Cx} {CX : CXT} {k : Nat} {f C : Addr} {fd : FuncData} {ps ks : List Str} {sp : Sp} {E : XK} {x m : Str} {p pos apos kpos : Pos} {e o : Expr} {es : List Expr} {kws : List Keyword} {te ta : TE} {t tk : TA} {nm : Option Str}
/-- how a call with keywords binds: g puts the positional values us and the keywords' values ws (names ks) in the parameters' order, defaults among them -/
structure KBinds (K : PySem.W.Frag) (fd : FuncData) (ps ks : List Str) (g : List Value → List Value → List Value) (gV : List V → List V → List V) : Prop where
  to : ∀ (s : Shared) (us ws : List Value), K.In s.heap → (g us ws).length = ps.length → BindsTo s fd ⟨us, ks.zip ws⟩ (ps.zip (g us ws))
  rel : ∀ {vs : List V} {us : List Value} {zs : List V} {ws : List Value}, Vals vs us → Vals zs ws → Vals (gV vs zs) (g us ws)
variable {g : List Value → List Value → List Value} {gV : List V → List V → List V}
end

/-! ### a def's body keeps its promise -/
/-- names: the parameters first -/
structure FnScope (N P : List Str) (sc : Scope) : Prop where
  kind : sc.kind = .function
  co : sc.isCoroutine = false
  gen : sc.isGenerator = false
  nd : N.Nodup
  pre : N.take P.length = P
  par : ∀ x ∈ P, sc.names.lookup x = some .local ∨ sc.names.lookup x = some .cell
  nofree : ∀ y ∈ sc.names, y.2 ≠ .free

theorem bindL_out {kindOf : Str → Option NameKind} {x : Str} : ∀ {binds : List (Str × Value)} {m : Str → Option Value}, (∀ v, (x, v) ∉ binds) → bindL kindOf binds m x = m x
  | [], _, _ => rfl
  | (n, v) :: r, m, h => by
    unfold bindL
    rw [bindL_out fun w hw => h w (List.mem_cons_of_mem _ hw)]
    split
    · have : x ≠ n := by rintro rfl; exact h v List.mem_cons_self
      simp [this]
    · rfl
theorem bindC_out {kindOf : Str → Option NameKind} {x : Str} : ∀ {binds : List (Str × Value)} {m : Str → Option Value}, (∀ v, (x, v) ∉ binds) → bindC kindOf binds m x = m x
  | [], _, _ => rfl
  | (n, v) :: r, m, h => by
    unfold bindC
    rw [bindC_out fun w hw => h w (List.mem_cons_of_mem _ hw)]
    split
    · rfl
    · have : x ≠ n := by rintro rfl; exact h v List.mem_cons_self
      simp [this]
theorem bindL_get {kindOf : Str → Option NameKind} {x : Str} {v : Value} : ∀ {P : List Str} {vs : List Value} {i : Nat} {m : Str → Option Value}, P.Nodup → P[i]? = some x → vs[i]? = some v → kindOf x = some .local →
    bindL kindOf (P.zip vs) m x = some v
  | [], _, _, _, _, h, _, _ => by simp at h
  | _ :: _, [], _, _, _, _, h, _ => by simp at h
  | p :: P, w :: vs, 0, m, nd, h1, h2, hk => by
    simp at h1 h2; subst h1; subst h2
    show bindL kindOf ((p, w) :: P.zip vs) m p = _
    unfold bindL
    rw [bindL_out fun v hv => (List.nodup_cons.mp nd).1 (List.of_mem_zip hv).1, if_pos hk]
    simp
  | p :: P, w :: vs, i + 1, m, nd, h1, h2, hk => by
    show bindL kindOf ((p, w) :: P.zip vs) m x = _
    unfold bindL
    exact bindL_get (i := i) (List.nodup_cons.mp nd).2 (by simpa using h1) (by simpa using h2) hk
theorem bindC_get {kindOf : Str → Option NameKind} {x : Str} {v : Value} : ∀ {P : List Str} {vs : List Value} {i : Nat} {m : Str → Option Value}, P.Nodup → P[i]? = some x → vs[i]? = some v → kindOf x ≠ some .local →
    bindC kindOf (P.zip vs) m x = some v
  | [], _, _, _, _, h, _, _ => by simp at h
  | _ :: _, [], _, _, _, _, h, _ => by simp at h
  | p :: P, w :: vs, 0, m, nd, h1, h2, hk => by
    simp at h1 h2; subst h1; subst h2
    show bindC kindOf ((p, w) :: P.zip vs) m p = _
    unfold bindC
    rw [bindC_out fun v hv => (List.nodup_cons.mp nd).1 (List.of_mem_zip hv).1, if_neg hk]
    simp
  | p :: P, w :: vs, i + 1, m, nd, h1, h2, hk => by
    show bindC kindOf ((p, w) :: P.zip vs) m x = _
    unfold bindC
    exact bindC_get (i := i) (List.nodup_cons.mp nd).2 (by simpa using h1) (by simpa using h2) hk

/-- the names' values at the entry -/
def start (N : List Str) (vs : List V) : St := vs.map some ++ List.replicate (N.length - vs.length) none

/-- the context of a def's body, at its entry; an exception leaves the frame, then lies as CX says -/
def cxOf (CX : CXT) (P : Program) (w : World) (K : PySem.W.Frag) (mg : Str → Option Value) (base : Heap) (N : List Str) (qual : Str) (scope : Scope) (f : Addr) (cd : Value) (A : Around) (outer : List Env) (s : Shared) (H : Hp) (E : XK) : Cx where
  prog := P
  w := w
  K := K
  mg := mg
  base := base
  A := A.deeper (envOfC qual scope s.heap.objs.size f cd)
  N := N
  s₀ := s
  H₀ := H
  env := envOfC qual scope s.heap.objs.size f cd
  outer := outer
  stack := envOfC qual scope s.heap.objs.size f cd :: outer
  ex := []
  calm := true
  fn := fun _ => true
  pn := []
  xe := fun e s' => wpAny (model P w) (A.deeper (envOfC qual scope s.heap.objs.size f cd)) (leaving (envOfC qual scope s.heap.objs.size f cd) e) (fun _ s'' => CX outer H s E e s'') (fun e' s'' => CX outer H s E e' s'') s'

theorem cell_has {sc : Scope} {n : Nat} {x : Str} (h : sc.names.lookup x = some .cell) : ∃ c, (cellsFrom n sc.names []).lookup x = some c := by
  have q := PySem.W.cellsFrom_some sc.names n [] (.inl h)
  exact Option.isSome_iff_exists.mp q

theorem inv_start {CX : CXT} {P : Program} {w : World} {K : PySem.W.Frag} {mg : Str → Option Value} {base : Heap} {N ps : List Str} {qual : Str} {scope : Scope} {f : Addr} {cd : Value} {A : Around} {outer : List Env} {s s1 : Shared} {H : Hp} {E : XK} {us : List Value} {vs : List V}
    (S : FnScope N ps scope) (hd : A.handled = none) (e0 : Env0 P w K mg base A outer s H) (hl : vs.length = ps.length) (r : Vals vs us)
    (x : InCallC s s.heap.objs.size (bindL (envOfC qual scope s.heap.objs.size f cd).kindOf (ps.zip us) fun _ => none) (cellsFrom (s.heap.objs.size + 1) scope.names []) (bindC (envOfC qual scope s.heap.objs.size f cd).kindOf (ps.zip us) fun _ => none) s1) :
    Inv (cxOf CX P w K mg base N qual scope f cd A outer s H E) [] (start N vs) H s1 := by
  have hpl : ps.length ≤ N.length := by have := congrArg List.length S.pre; rw [List.length_take] at this; omega
  obtain ⟨h1, tk, rfl, hk⟩ := x.done
  have noA : ∀ b : Addr, b ∉ (cxOf CX P w K mg base N qual scope f cd A outer s H E).ex := fun b z => absurd (show b ∈ ([] : List Addr) from z) (by simp)
  refine ⟨⟨e0.mod, S.kind, rfl, rfl, Nat.le_refl _, fun y z c h1 h2 => ?_, fun y hy => ?_, fun y c _ h => ?_, fun _ => hd, Around.frames_deeper e0.frames, .inr ⟨rfl, rfl⟩, fun b z => absurd z (noA b), e0.bs, e0.bsz, fun b _ _ => noA b, fun b z => absurd z (noA b), e0.funs, e0.frf⟩,
    rfl, e0.bare, Un.kept hk, ⟨_, x.toInCall.ns, fun i y v h1 h2 h3 => ?_⟩, fun y c h => ⟨_, x.cell y c h⟩, e0.hok.fresh (Nat.le_refl _), fun y c h => ?_, fun p hp => absurd (show p ∈ ([] : List (Addr × Obj)) from hp) (by simp), e0.hok.kept hk, ?_⟩
  · exact name_of_addr x.apart (PySem.mem_of_lookup h1) (PySem.mem_of_lookup h2)
  · have hy : scope.names.lookup y = some .cell ∨ scope.names.lookup y = some .free := hy
    rcases hy with hy | hy
    · exact cell_has hy
    · exact absurd rfl (S.nofree _ (PySem.mem_of_lookup hy))
  · exact Nat.le_of_lt (x.above y c (PySem.mem_of_lookup h))
  · have hi : i < vs.length := by
      unfold start at h2
      by_cases hi : i < vs.length
      · exact hi
      · rw [List.getElem?_append_right (by simpa using hi)] at h2
        rw [List.getElem?_replicate] at h2
        split at h2 <;> cases h2
    have ha : vs[i]? = some v := by
      unfold start at h2
      rw [List.getElem?_append_left (by simpa using hi), List.getElem?_map] at h2
      cases e : vs[i]? with
      | none => rw [e] at h2; cases h2
      | some a => rw [e] at h2; cases h2; rfl
    obtain ⟨u, hu, rv⟩ := r.get ha
    have hp : ps[i]? = some y := by
      rw [← S.pre, List.getElem?_take_of_lt (by omega)]; exact h1
    have ndP : ps.Nodup := by rw [← S.pre]; exact S.nd.sublist (List.take_sublist _ _)
    refine ⟨u, rv, ?_⟩
    rcases S.par y (List.mem_of_getElem? hp) with k | k
    · exact .inl ⟨k, bindL_get ndP hp hu k⟩
    · obtain ⟨c, e⟩ := cell_has (n := s.heap.objs.size + 1) k
      refine .inr ⟨.inl k, c, e, ?_⟩
      have q := x.cell y c e
      rw [bindC_get ndP hp hu (by show scope.names.lookup y ≠ _; rw [k]; decide)] at q
      exact q
  · exact e0.hok.fresh (Nat.le_of_lt (x.above y c (PySem.mem_of_lookup h)))
  · unfold start
    show _ = N.length
    rw [List.length_append, List.length_map, List.length_replicate]
    omega

/-- THE RULE: a def (or a method) of the text, by its body. The body's reading t is chosen for each entry; it is run at the parameters' values -/
theorem fn_of {CX : CXT} {P : Program} {w : World} {K : PySem.W.Frag} {mg : Str → Option Value} {base : Heap} {k : Nat} {f : Addr} {name qual : Str} {params : Arguments} {body : List Stmt} {scope : Scope} {dV kV doc pm cdv ct oc : Value} {an od : Option Addr}
    {osl : Array (Option Value)} {N ps : List Str} {sp : Sp} (lk : K.lookup f = some ⟨oc, od, .func (PySem.W.fnOf name qual params body scope dV kV doc pm an cdv ct), osl⟩) (hcd : PySem.W.codeIn K cdv qual = true) (S : FnScope N ps scope)
    (len : ∀ vs H Q E, sp vs H Q E → vs.length = ps.length)
    (hbody : ∀ (A : Around) (outer : List Env) (s : Shared) (H : Hp) (vs : List V) (Q : VK) (E : XK), Room k (A.deeper (envOfC qual scope s.heap.objs.size f cdv)) → sp vs H Q E →
      ∃ t, PSs (cxOf CX P w K mg base N qual scope f cdv A outer s H E) body t ∧ t { nx := fun _ H' => Q .non H', rt := Q } (start N vs) H) :
    FnOk P w K mg base CX (k + 1) f (PySem.W.fnOf name qual params body scope dV kV doc pm an cdv ct) ps sp := by
  refine ⟨len, fun A outer s H args us vs Q E hr e0 hb r hsp => ?_⟩
  have hl := len _ _ _ _ hsp
  have KX : K.In s.heap := e0.mod.kin.keeps fun b o e => (e0.bs b o e).1
  have lim : s.heap.NoLimit := e0.mod.nolimit.keeps fun b o e => (e0.bs b o e).1
  have hkind : ∀ y ∈ ps.zip us, scope.names.lookup y.1 = some .local ∨ (scope.names.lookup y.1 = some .cell ∧ ((cellsFrom (s.heap.objs.size + 1) scope.names []).lookup y.1).isSome = true) := fun ⟨n, v⟩ hy => by
    rcases S.par n (List.of_mem_zip hy).1 with q | q
    · exact .inl q
    · exact .inr ⟨q, PySem.W.cellsFrom_some _ _ _ (.inl q)⟩
  refine codeAny_call_function hr.depth (KX _ _ lk) rfl S.co S.gen rfl (PySem.W.codeRec_of KX hcd) (hb _ _ _ _ ?_)
  refine wpAny_newFunctionEnv_cells S.kind hkind fun env he s1 x => ?_
  subst he
  refine ⟨lim.keeps x.toInCall.keep, codeAny_func ?_⟩
  obtain ⟨t, ht, hq⟩ := hbody A outer s H vs Q E (hr.deeper _) hsp
  have I : Inv (cxOf CX P w K mg base N qual scope f cdv A outer s H E) [] (start N vs) H s1 := inv_start S hr.hd e0 hl r x
  refine wpAny_mono (ht [] s1 (start N vs) H _ I hq) (fun fl s' hs => ?_) fun e s' hs => hs
  have fin : ∀ {σ' : St} {H' : Hp} {v : V} {u : Value}, Inv (cxOf CX P w K mg base N qual scope f cdv A outer s H E) [] σ' H' s' → RelV v u → Q v H' → CE outer P w H s Q u s' :=
    fun {σ' H' v u} J rv q => ⟨v, H', J.os, J.bare, J.base, J.hok, rv, q⟩
  cases fl with
  | ret u =>
    obtain ⟨v, σ', H', J, rv, q⟩ := hs
    exact fin J rv q
  | next =>
    obtain ⟨σ', H', J, q⟩ := hs
    exact fin (v := V.non) (u := Value.none) J rfl q
  | brk =>
    obtain ⟨_, _, _, q⟩ := hs
    exact False.elim q
  | cont =>
    obtain ⟨_, _, _, q⟩ := hs
    exact False.elim q
end L2

namespace L2
open PySem PySem.Spec PyProof.Rows
section
variable {X : Cx} {x : Str} {p pos : Pos} {e : Expr} {es : List Expr} {t : TA} {id T : String} {r : List V → Hp → VK → Prop}

def tCB (r : List V → Hp → VK → Prop) (t : TA) : TE := fun σ H Q => t σ H fun vs H1 => r vs H1 Q
/-- f(e, ..), f a built-in function -/
theorem pe_callB (hc : CallR X (.builtin id) r) (hg : Gl X x) (hm : X.mg x = none) (hv : bootBuiltins x = some (.builtin id)) (ha : PA X (e :: es) t) (hn : x ≠ "__name__" := by decide) (hdb : (x == ("__debug__" : Str)) = false := by decide)
    (he : starEach (e :: es) X.env = (false, eval e X.env) :: starEach es X.env := by rfl) (hpl : (backTo pos (starEach es X.env)).any (·.1) = false := by rfl) : PE X (.Call (.Name x p) (e :: es) [] pos) (tCB r t) := by
  intro pins s σ H Q I h
  refine wpAny_Call_Name_kw (ld_blt I hg hm hv ?_ hn hdb)
  exact PyProof.Rows.callWith_builtin1 (thn (ha pos pins s σ H _ I h) fun us s1 ⟨vs, H1, I1, r1, q1⟩ => hc pins s1 σ H1 vs us Q I1 r1 q1) he hpl
/-- T(e, ..), T a built-in type -/
theorem pe_callTy (hc : CallR X (.type T) r) (hg : Gl X x) (hm : X.mg x = none) (hv : bootBuiltins x = some (.type T)) (ha : PA X (e :: es) t) (hn : x ≠ "__name__" := by decide) (hdb : (x == ("__debug__" : Str)) = false := by decide)
    (he : starEach (e :: es) X.env = (false, eval e X.env) :: starEach es X.env := by rfl) (hpl : (backTo pos (starEach es X.env)).any (·.1) = false := by rfl) : PE X (.Call (.Name x p) (e :: es) [] pos) (tCB r t) := by
  intro pins s σ H Q I h
  refine wpAny_Call_Name_kw (ld_blt I hg hm hv ?_ hn hdb)
  exact PyProof.Rows.callWith_type1 (thn (ha pos pins s σ H _ I h) fun us s1 ⟨vs, H1, I1, r1, q1⟩ => hc pins s1 σ H1 vs us Q I1 r1 q1) he hpl
end
end L2

namespace HT
open PySem PyProof.Rows

section
open PySem.SeqAt
open PySem.AutoSeq1 (wpAny_loadPart')
open PySem.MeetsSeq PySem.MeetsSeq2 PySem.MeetsSeq3

end

section
variable {prog : Program} {w : World} {A : Around} {E : Value → Shared → Prop} {s : Shared}

/-! ### t[a:b], not the whole -/
/-- a slice's bound as a place among n (d where it is left out) -/
def sIx (n d : Nat) : Option Int → Nat
  | none => d
  | some v => if v < 0 then (v + (n : Int)).toNat else min v.toNat n
end
end HT

namespace L2
open PySem PySem.Spec PyProof.Rows

/-! ### the parts of a slice -/
abbrev TO := St → Hp → (Option Int → Hp → Prop) → Prop
/-- a slice's part (left out, or an int) -/
def PO (X : Cx) (e : Option Expr) (t : TO) : Prop :=
  ∀ (pins : List (Addr × Obj)) (s : Shared) (σ : St) (H : Hp) (Q : Option Int → Hp → Prop), Inv X pins σ H s → t σ H Q →
    wpAny (model X.prog X.w) X.A (evalPart e X.env) (fun u s' => ∃ o H', Inv X pins σ H' s' ∧ IsPart u o ∧ Q o H') X.xe s
def tPart (t : TE) : TO := fun σ H Q => t σ H fun x H1 => ∃ i, x = .int i ∧ Q (some i) H1

theorem intsAre_of {ns : List Int} : ∀ {us : List Value}, Vals (ns.map V.int) us → IntsAre us ns := by
  induction ns with
  | nil => intro us r; rw [List.map_nil] at r; cases r; exact .nil
  | cons n ns ih =>
    intro us r
    rw [List.map_cons] at r
    cases r with
    | cons r1 r2 =>
      obtain ⟨t, e⟩ := r1
      subst e
      exact .cons n t (ih r2)

section
variable {X : Cx} {e : Expr} {te : TE} {lo hi : Option Expr} {tl th : TO} {pos p2 : Pos}

theorem po_some (h : PE X e te) : PO X (some e) (tPart te) := by
  intro pins s σ H Q I hw
  rw [evalPart_some]
  refine thn (h pins s σ H _ I hw) fun u s1 ⟨x, H1, I1, r1, q1⟩ => ?_
  obtain ⟨i, rfl, q⟩ := q1
  obtain ⟨t, rfl⟩ := r1
  exact ⟨some i, H1, I1, .int i t, q⟩

/-- what a slice of a value is, by values: the slice object stands at sl -/
def SlR (X : Cx) (r : V → Option Int → Option Int → Hp → VK → Prop) : Prop :=
  ∀ (pins : List (Addr × Obj)) (s : Shared) (σ : St) (H : Hp) (x : V) (v vl vu : Value) (lo hi : Option Int) (sl : Addr) (Q : VK), Inv X pins σ H s → RelV x v → s.heap.IsSliceOf sl vl vu .none → IsPart vl lo → IsPart vu hi → r x lo hi H Q →
    ∃ T id, typeLookup (.type T) "__getitem__" = pure (some (.builtin id)) ∧ s.TypeIs v T ∧ wpAny (model X.prog X.w) X.A (getItem v (.ref sl)) (EP X pins σ Q) X.xe s
theorem SlR.or {r r' : V → Option Int → Option Int → Hp → VK → Prop} (h : SlR X r) (h' : SlR X r') : SlR X (fun x lo hi H Q => r x lo hi H Q ∨ r' x lo hi H Q) := by
  intro pins s σ H x v vl vu lo hi sl Q I rx hs pl pu q
  rcases q with q | q
  · exact h pins s σ H x v vl vu lo hi sl Q I rx hs pl pu q
  · exact h' pins s σ H x v vl vu lo hi sl Q I rx hs pl pu q
def tSl (r : V → Option Int → Option Int → Hp → VK → Prop) (te : TE) (tl th : TO) : TE := fun σ H Q => te σ H fun x H1 => tl σ H1 fun l H2 => th σ H2 fun u H3 => r x l u H3 Q
/-- a[lo:hi], any a -/
theorem pe_slice {r : V → Option Int → Option Int → Hp → VK → Prop} (hr : SlR X r) (he : PE X e te) (hl : PO X lo tl) (hu : PO X hi th) : PE X (.Subscript e (.Slice lo hi none p2) pos) (tSl r te tl th) := by
  intro pins s σ H Q I h
  refine Subscript_ (thn (he pins s σ H _ I h) fun v s1 ⟨x, H1, I1, r1, q1⟩ => ?_)
  refine wpAny_Slice (thn (hl pins s1 σ H1 _ I1 q1) fun vl s2 ⟨l, H2, I2, pl, q2⟩ => thn (hu pins s2 σ H2 _ I2 q2) fun vu s3 ⟨u, H3, I3, pu, q3⟩ => ?_)
  rw [evalPart_none]
  refine wpAny_pure ?_
  have I4 : Inv X pins σ H3 { s3 with heap := s3.heap.push { cls := .type "slice", data := .fields #[vl, vu, .none] } } := I3.kept (t' := s3.toks) fun b ob q => Heap.get?_push_of_some _ q
  obtain ⟨T, id, hT, ht, hg⟩ := hr pins { s3 with heap := s3.heap.push { cls := .type "slice", data := .fields #[vl, vu, .none] } } σ H3 x v vl vu l u s3.heap.objs.size Q I4 r1 (Heap.IsSliceOf.new ..) pl pu q3
  show wpAny (model X.prog X.w) X.A (subscriptTail e (.Slice lo hi none p2) v (.ref s3.heap.objs.size)) (EP X pins σ Q) X.xe { s3 with heap := s3.heap.push { cls := .type "slice", data := .fields #[vl, vu, .none] } }
  exact tail_any (ops := [.ref s3.heap.objs.size, v]) ht hT hg (by with_unfolding_all rfl)

/-- the items of xs[lo:hi] -/
def cutV (xs : List V) (lo hi : Option Int) : List V := (xs.drop (HT.sIx xs.length 0 lo)).take (HT.sIx xs.length xs.length hi - HT.sIx xs.length 0 lo)
theorem cutV_length (xs : List V) (lo hi : Option Int) : (cutV xs lo hi).length ≤ xs.length := by
  unfold cutV
  rw [List.length_take, List.length_drop]
  omega
end
end L2

namespace L2
open PySem PySem.Spec PyProof.Rows

/-! ### places -/
/-- the place that an index of any sign means -/
def ixN (n : Nat) (i : Int) : Option Nat := if 0 ≤ i then (if i < n then some i.toNat else none) else if -(n : Int) ≤ i then some (i + n).toNat else none
def atI {α : Type} (xs : List α) (i : Int) : Option α := (ixN xs.length i).bind fun j => xs[j]?
theorem ixN_seq {n : Nat} {i : Int} {j : Nat} (h : ixN n i = some j) : seqIndex? i n = some j ∧ j < n ∧ -(n : Int) ≤ i ∧ i < n := by
  unfold ixN at h
  by_cases h0 : 0 ≤ i
  · rw [if_pos h0] at h
    by_cases h1 : i < n
    · rw [if_pos h1] at h
      have e : i.toNat = j := Option.some.inj h
      exact ⟨by rw [seqIndex_of h0 h1, e], by omega, by omega, h1⟩
    · rw [if_neg h1] at h; cases h
  · rw [if_neg h0] at h
    by_cases h1 : -(n : Int) ≤ i
    · rw [if_pos h1] at h
      have e : (i + n).toNat = j := Option.some.inj h
      exact ⟨by rw [seqIndex_neg (by omega) h1, e], by omega, h1, by omega⟩
    · rw [if_neg h1] at h; cases h
theorem atI_get {α : Type} {xs : List α} {i : Int} {v : α} (h : atI xs i = some v) : ∃ j, seqIndex? i xs.length = some j ∧ xs[j]? = some v ∧ j < xs.length ∧ -(xs.length : Int) ≤ i ∧ i < xs.length := by
  unfold atI at h
  cases e : ixN xs.length i with
  | none => rw [e] at h; cases h
  | some j =>
    rw [e] at h
    obtain ⟨h1, h2, h3, h4⟩ := ixN_seq e
    exact ⟨j, h1, h, h2, h3, h4⟩
theorem atI_nat {α : Type} {xs : List α} {j : Nat} {v : α} (h : xs[j]? = some v) : atI xs (j : Int) = some v := by
  have hj : j < xs.length := (List.getElem?_eq_some_iff.mp h).1
  have e : ixN xs.length (j : Int) = some j := by
    unfold ixN
    rw [if_pos (by omega), if_pos (by omega)]; simp
  unfold atI; rw [e]; exact h
/-! ### what may be subscripted -/
/-- what stands as an index of a plain subscript -/
def PlainIx (b : Expr) : Prop := ∀ o i, subscripted b false o i = operate [o, i] (getItem o i)
/-- a subscript by values -/
def IxR (X : Cx) (r : R2) : Prop :=
  ∀ (value slice : Expr) (pins : List (Addr × Obj)) (s : Shared) (σ : St) (H : Hp) (x y : V) (v u : Value) (Q : VK), Inv X pins σ H s → RelV x v → RelV y u → r x y H Q →
    subscripted slice false v u = operate [v, u] (getItem v u) → wpAny (model X.prog X.w) X.A (subscriptTail value slice v u) (EP X pins σ Q) X.xe s
/-- a call of a builtin's method by values: the receiver, the arguments -/
def MtR (X : Cx) (id : String) (r : V → List V → Hp → VK → Prop) : Prop :=
  ∀ (pins : List (Addr × Obj)) (s : Shared) (σ : St) (H : Hp) (x : V) (xs : List V) (v : Value) (us : List Value) (Q : VK), Inv X pins σ H s → RelV x v → Vals xs us → r x xs H Q →
    wpAny (model X.prog X.w) X.A (call (.builtin id) (v :: us)) (EP X pins σ Q) X.xe s
section
variable {X : Cx} {a b : Expr} {ta tb : TE} {pos : Pos}
theorem IxR.or {r r' : R2} (h : IxR X r) (h' : IxR X r') : IxR X (fun x y H Q => r x y H Q ∨ r' x y H Q) := by
  intro value slice pins s σ H x y v u Q I rx ry q hs
  rcases q with q | q
  · exact h value slice pins s σ H x y v u Q I rx ry q hs
  · exact h' value slice pins s σ H x y v u Q I rx ry q hs
theorem MtR.or {id : String} {r r' : V → List V → Hp → VK → Prop} (h : MtR X id r) (h' : MtR X id r') : MtR X id (fun x xs H Q => r x xs H Q ∨ r' x xs H Q) := by
  intro pins s σ H x xs v us Q I rx rs q
  rcases q with q | q
  · exact h pins s σ H x xs v us Q I rx rs q
  · exact h' pins s σ H x xs v us Q I rx rs q
/-- a[b] -/
theorem pe_ix {r : R2} (hr : IxR X r) (ha : PE X a ta) (hb : PE X b tb) (hs : PlainIx b) : PE X (.Subscript a b pos) (tOp r ta tb) := by
  intro pins s σ H Q I h
  exact Subscript_ (binT ha hb I h fun v u s2 x y H2 I2 rx ry q => hr a b pins s2 σ H2 x y v u Q I2 rx ry q (hs _ _))

def rIxL (K : PySem.W.Frag) : R2 := fun x y H Q => ∃ p xs i v, x = .ref p ∧ y = .int i ∧ SqL K H p xs ∧ atI xs i = some v ∧ Q v H
def rIxT (K : PySem.W.Frag) : R2 := fun x y H Q => ∃ p xs i v, x = .ref p ∧ y = .int i ∧ SqT K H p xs ∧ atI xs i = some v ∧ Q v H
theorem ix_list : IxR X (rIxL X.K) := by
  intro value slice pins s σ H x y v u Q I rx ry h hs
  obtain ⟨p, xs, i, z, rfl, rfl, hq, he, q⟩ := h
  cases rx
  obtain ⟨t, rfl⟩ := ry
  obtain ⟨its, r, pl, hz⟩ := I.list hq
  obtain ⟨j, h1, h2, h3, h4, h5⟩ := atI_get he
  obtain ⟨w, ew, rw'⟩ := r.get h2
  have hl := r.length
  have hn := line63
  have fin : EP X pins σ Q w s := ⟨z, H, I, rw', q⟩
  by_cases h0 : 0 ≤ i
  · have hj : i.toNat = j := by
      rw [seqIndex_of h0 h5] at h1
      exact Option.some.inj h1
    exact item_listR pl.isList h0 (by omega) (by rw [hj]; simpa using ew) fin hs
  · have hj : (i + (its.toArray.size : Int)).toNat = j := by
      rw [seqIndex_neg (by omega) h4] at h1
      rw [List.size_toArray, ← hl]
      exact Option.some.inj h1
    exact subscriptTail_builtinR (x := w) pl.isList.typeIs slot_list_getitem.lookup
      (wpAny_getItem_list_neg (Q := fun r s' => r = w ∧ EP X pins σ Q r s') pl.isList (by omega) (by rw [List.size_toArray] <;> omega) (by omega) (by rw [hj]; simpa using ew) ⟨rfl, fin⟩) hs
theorem ix_tup : IxR X (rIxT X.K) := by
  intro value slice pins s σ H x y v u Q I rx ry h hs
  obtain ⟨p, xs, i, z, rfl, rfl, hq, he, q⟩ := h
  cases rx
  obtain ⟨t, rfl⟩ := ry
  obtain ⟨its, r, pl, hz⟩ := I.tuple hq
  obtain ⟨j, h1, h2, h3, h4, h5⟩ := atI_get he
  obtain ⟨w, ew, rw'⟩ := r.get h2
  have hl := r.length
  have hn := line63
  have fin : EP X pins σ Q w s := ⟨z, H, I, rw', q⟩
  exact subscriptTail_builtinR (x := w) pl.typeIs slot_tuple_getitem.lookup
    (getItem_tuple (j := j) (Q := fun r s' => r = w ∧ EP X pins σ Q r s') pl (by omega) (by omega) (by rw [List.size_toArray, ← hl]; exact h1) (by simpa using ew) ⟨rfl, fin⟩) hs
/-! ### xs[i] = v, any sign -/
/-- the list's object behind a store -/
theorem mapSeq_set (its : List Value) (n j : Nat) (u : Value) : Obj.mapSeq (·.setIfInBounds j u) { cls := .type "list", data := .seq its.toArray n } = { cls := .type "list", data := .seq (its.set j u).toArray n } := by
  simp [Obj.mapSeq]
theorem Inv.lst {pins : List (Addr × Obj)} {σ : St} {H : Hp} {s : Shared} {p : Addr} {xs : List V} (I : Inv X pins σ H s) (h : H p = some (.lst xs)) :
    ∃ (its : List Value) (n : Nat), Vals xs its ∧ s.heap.get? p = some { cls := .type "list", data := .seq its.toArray n } ∧ xs.length ≤ sizeLine := by
  obtain ⟨z, its, n, r, e⟩ := I.hok p _ h
  exact ⟨its, n, r, e, z⟩
/-- the list at p is written by an update of its object -/
theorem Inv.lstUpd {pins : List (Addr × Obj)} {σ : St} {H : Hp} {s : Shared} {p : Addr} {xs ys : List V} {its its' : List Value} {n n' : Nat} {f : Obj → Obj} (I : Inv X pins σ H s) (h : H p = some (.lst xs))
    (ho : s.heap.get? p = some { cls := .type "list", data := .seq its.toArray n }) (hf : f { cls := .type "list", data := .seq its.toArray n } = { cls := .type "list", data := .seq its'.toArray n' }) (r : Vals ys its') (hz : ys.length ≤ sizeLine) (t : Nat) :
    Inv X pins σ (upd H p (.lst ys)) { s with heap := s.heap.update p f, toks := t } := by
  have e : (s.heap.update p f).get? p = some { cls := .type "list", data := .seq its'.toArray n' } := by
    rw [Heap.get?_update_self f ho (by rw [hf] <;> rfl), hf]
  refine I.write (x := p) (e := p) (by rw [h]; trivial) (.inl rfl) (fun b u hb q => (Heap.get?_update_other _ _ (Ne.symm hb)).trans q) ⟨_, e⟩ ?_
  exact ⟨hz, its', n', r, e⟩
def rSetL : V → V → V → Hp → (Hp → Prop) → Prop := fun o i v H Q => ∃ p xs k j, o = .ref p ∧ i = .int k ∧ H p = some (.lst xs) ∧ ixN xs.length k = some j ∧ Q (upd H p (.lst (xs.set j v)))
theorem set_list : PSet X rSetL := by
  intro pins s σ H o i v ov iv u Q I ro ri rv h
  obtain ⟨p, xs, k, j, rfl, rfl, hp, hj, q⟩ := h
  cases ro
  obtain ⟨t, rfl⟩ := ri
  obtain ⟨its, n, r, ho, hz⟩ := I.lst hp
  obtain ⟨h1, h2, h3, h4⟩ := ixN_seq hj
  have hl := r.length
  have hn := line63
  have I' : Inv X pins σ (upd H p (.lst (xs.set j v))) { s with heap := s.heap.update p (Obj.mapSeq (·.setIfInBounds j u)) } :=
    I.lstUpd hp ho (mapSeq_set its n j u) (r.set rv j) (by rw [List.length_set]; exact hz) s.toks
  by_cases h0 : 0 ≤ k
  · have hk : k.toNat = j := by
      rw [seqIndex_of h0 h4] at h1
      exact Option.some.inj h1
    exact PySem.W.ki_setAt ho h0 (by omega) (by rw [List.size_toArray, ← hl]; exact h4) (by rw [hk]; exact ⟨_, I', q⟩)
  · have hk : (k + (its.toArray.size : Int)).toNat = j := by
      rw [seqIndex_neg (by omega) h3] at h1
      rw [List.size_toArray, ← hl]
      exact Option.some.inj h1
    exact PySem.W.ki_setBack ho (by omega) (by rw [List.size_toArray, ← hl]; exact h3) (by omega) (by rw [hk]; exact ⟨_, I', q⟩)

/-! ### slices -/
theorem slice_bounds (lo hi : Option Int) (n : Nat) : (sliceBounds lo hi none n).1 = ((HT.sIx n 0 lo : Nat) : Int) ∧ (sliceBounds lo hi none n).2.1 = ((HT.sIx n n hi : Nat) : Int) ∧ (sliceBounds lo hi none n).2.2 = 1 := by
  refine ⟨?_, ?_, rfl⟩
  · cases lo with
    | none => simp [sliceBounds, HT.sIx]
    | some i =>
      simp only [sliceBounds, HT.sIx, Option.getD_none, show (1 : Int) > 0 by decide, if_true]
      by_cases h : i < 0
      · simp only [h, if_true] <;> omega
      · simp only [h, if_false] <;> omega
  · cases hi with
    | none => simp [sliceBounds, HT.sIx]
    | some i =>
      simp only [sliceBounds, HT.sIx, Option.getD_none, show (1 : Int) > 0 by decide, if_true]
      by_cases h : i < 0
      · simp only [h, if_true] <;> omega
      · simp only [h, if_false] <;> omega
theorem slicePick_cut (its : List Value) (lo hi : Option Int) : slicePick its.toArray lo hi none = ((its.drop (HT.sIx its.length 0 lo)).take (HT.sIx its.length its.length hi - HT.sIx its.length 0 lo)).toArray := by
  obtain ⟨h1, h2, h3⟩ := slice_bounds lo hi its.toArray.size
  unfold slicePick
  rw [h1, h2, h3]
  simp only [sliceRange_one, pick_run, List.size_toArray] <;> rfl
/-- xs[lo:hi] of a list: a new list -/
def rSlL (K : PySem.W.Frag) : V → Option Int → Option Int → Hp → VK → Prop := fun x lo hi H Q => ∃ a xs, x = .ref a ∧ SqL K H a xs ∧ ∀ p, H p = none → Q (.ref p) (upd H p (.lst (cutV xs lo hi)))
theorem sl_list : SlR X (rSlL X.K) := by
  intro pins s σ H x v vl vu lo hi sl Q I rx hs pl pu h
  obtain ⟨a, xs, rfl, hx, q⟩ := h
  cases rx
  obtain ⟨its, r, ht, hz⟩ := I.list hx
  have hlen := r.length
  refine ⟨"list", _, slot_list_getitem.lookup, ht.isList.typeIs, ?_⟩
  refine wpAny_getItem_list_slice ht.isList hs pl pu .none (by simp) ?_ (by rw [List.size_toArray] <;> omega)
  rw [slicePick_cut, ← hlen]
  refine ⟨.ref s.heap.objs.size, _, I.laid (t' := s.toks) (o := .lst (cutV xs lo hi)) (fun b ob q => Heap.get?_push_of_some _ q) (Nat.le_refl _) ?_, rfl, q _ (I.hok.fresh (Nat.le_refl _))⟩
  exact ⟨Nat.le_trans (cutV_length xs lo hi) hz, _, 0, (r.drop (HT.sIx xs.length 0 lo)).take (HT.sIx xs.length xs.length hi - HT.sIx xs.length 0 lo), Heap.get?_push_size _ rfl⟩

/-! ### in, not in: flat items -/
def flatV : V → Bool
  | .non => true
  | .bl _ => true
  | .int _ => true
  | .str _ => true
  | _ => false
/-- == of flat values -/
def eqV : V → V → Bool
  | .non, .non => true
  | .bl a, .bl b => a == b
  | .bl a, .int b => (if a then 1 else 0) == b
  | .int a, .bl b => a == (if b then 1 else 0)
  | .int a, .int b => a == b
  | .str a, .str b => a == b
  | _, _ => false
theorem eqAt_V {A : Around} {s : Shared} {y x : V} {u v : Value} (ry : RelV y u) (rx : RelV x v) (fy : flatV y = true) (fx : flatV x = true) : SeqAt.EqAt A s u v (eqV y x) := by
  cases y with
  | non =>
    cases ry
    cases x with
    | non => cases rx; exact SeqAt.EqAt.same _
    | bl b => cases rx; exact SeqAt.EqAt.none_bool b
    | int b => obtain ⟨t, rfl⟩ := rx; exact SeqAt.EqAt.none_int b t
    | str b => obtain ⟨t, rfl⟩ := rx; exact SeqAt.EqAt.none_str b t
    | _ => exact absurd (show false = true from fx) Bool.false_ne_true
  | bl a =>
    cases ry
    cases x with
    | non => cases rx; exact SeqAt.EqAt.bool_none a
    | bl b => cases rx; exact SeqAt.EqAt.bool_bool a b
    | int b => obtain ⟨t, rfl⟩ := rx; exact SeqAt.EqAt.bool_int a b t
    | str b => obtain ⟨t, rfl⟩ := rx; exact SeqAt.EqAt.bool_str a b t
    | _ => exact absurd (show false = true from fx) Bool.false_ne_true
  | int a =>
    obtain ⟨t', rfl⟩ := ry
    cases x with
    | non => cases rx; exact SeqAt.EqAt.int_none a t'
    | bl b => cases rx; exact SeqAt.EqAt.int_bool a t' b
    | int b => obtain ⟨t, rfl⟩ := rx; exact SeqAt.EqAt.int_int a t' b t
    | str b => obtain ⟨t, rfl⟩ := rx; exact SeqAt.EqAt.int_str a t' b t
    | _ => exact absurd (show false = true from fx) Bool.false_ne_true
  | str a =>
    obtain ⟨t', rfl⟩ := ry
    cases x with
    | non => cases rx; exact SeqAt.EqAt.str_none a t'
    | bl b => cases rx; exact SeqAt.EqAt.str_bool a t' b
    | int b => obtain ⟨t, rfl⟩ := rx; exact SeqAt.EqAt.str_int a t' b t
    | str b => obtain ⟨t, rfl⟩ := rx; exact SeqAt.EqAt.str_str a t' b t
    | _ => exact absurd (show false = true from fx) Bool.false_ne_true
  | _ => exact absurd (show false = true from fy) Bool.false_ne_true
/-- the items' answers, read off the values (a value's own answer does not lean on its token) -/
def eqU (x : V) (u : Value) : Bool := match u with
  | .none => eqV .non x
  | .bool b => eqV (.bl b) x
  | .int i _ => eqV (.int i) x
  | .str z _ => eqV (.str z) x
  | _ => false
theorem eqU_of {x y : V} {u : Value} (r : RelV y u) (f : flatV y = true) : eqU x u = eqV y x := by
  cases y with
  | non => cases r; rfl
  | bl b => cases r; rfl
  | int i => obtain ⟨t, rfl⟩ := r; rfl
  | str z => obtain ⟨t, rfl⟩ := r; rfl
  | _ => exact absurd (show false = true from f) Bool.false_ne_true
theorem any_eqU {x : V} : ∀ {xs : List V} {us : List Value}, Vals xs us → xs.all flatV = true → us.any (eqU x) = xs.any fun y => eqV y x
  | _, _, .nil, _ => rfl
  | y :: xs, u :: us, .cons r t, f => by
    rw [List.all_cons, Bool.and_eq_true] at f
    rw [List.any_cons, List.any_cons, eqU_of r f.1, any_eqU t f.2]
theorem mem_eqAt {A : Around} {s : Shared} {x : V} {v : Value} (rx : RelV x v) (fx : flatV x = true) : ∀ {xs : List V} {us : List Value}, Vals xs us → xs.all flatV = true → ∀ u ∈ us, SeqAt.EqAt A s u v (eqU x u)
  | _, _, .nil, _ => fun u hu => by cases hu
  | y :: xs, u :: us, .cons r t, f => fun u' hu => by
    rw [List.all_cons, Bool.and_eq_true] at f
    rcases List.mem_cons.mp hu with rfl | hu
    · rw [eqU_of r f.1]; exact eqAt_V r rx f.1 fx
    · exact mem_eqAt rx fx t f.2 u' hu
def inV (x : V) (xs : List V) : Bool := xs.any fun y => eqV y x
/-- x in a list or tuple of flat items -/
def rIn (K : PySem.W.Frag) (neg : Bool) : R2 := fun x y H Q => ∃ p xs, y = .ref p ∧ (SqL K H p xs ∨ SqT K H p xs) ∧ flatV x = true ∧ xs.all flatV = true ∧ Q (.bl (if neg then !inV x xs else inV x xs)) H
theorem op_notIn_seq : OpR X (compareOp .NotIn) (rIn X.K true) := by
  intro pins s σ H x y v u Q I rx ry h
  obtain ⟨p, xs, rfl, hq, fx, fs, q⟩ := h
  cases ry
  rcases hq with hq | hq
  · obtain ⟨its, r, pl, hz⟩ := I.list hq
    refine SeqAt.notIn_listAt (eqU x) pl.isList (fun w hw => mem_eqAt rx fx r fs w (by simpa using hw)) ⟨.bl _, H, I, rfl, ?_⟩
    rw [show its.toArray.any (eqU x) = its.any (eqU x) by simp, any_eqU r fs]
    exact q
  · obtain ⟨its, r, pl, hz⟩ := I.tuple hq
    refine SeqAt.notIn_tupleAt (eqU x) pl (fun w hw => mem_eqAt rx fx r fs w (by simpa using hw)) ⟨.bl _, H, I, rfl, ?_⟩
    rw [show its.toArray.any (eqU x) = its.any (eqU x) by simp, any_eqU r fs]
    exact q
/-! ### len, list(x), tuple(x) of any list or tuple that is read -/
theorem call_len_seq : CallR X (.builtin "len") (fun xs H Q => ∃ p ys, xs = [.ref p] ∧ (SqL X.K H p ys ∨ SqT X.K H p ys) ∧ Q (.int ys.length) H) := by
  intro pins s σ H xs us Q I r h
  obtain ⟨p, ys, rfl, hq, q⟩ := h
  obtain ⟨u, rfl, rx⟩ := vals1 r
  cases rx
  have hn := line63
  rcases hq with hq | hq
  · obtain ⟨its, r', pl, hz⟩ := I.list hq
    have hlen := r'.length
    exact Calls.call_len_list pl.isList (by simp only [List.size_toArray] <;> omega) ⟨.int ys.length, H, I.tok _, ⟨s.toks + 1, by rw [List.size_toArray, hlen]⟩, q⟩
  · obtain ⟨its, r', pl, hz⟩ := I.tuple hq
    have hlen := r'.length
    exact len_tuple pl (by simp only [List.size_toArray] <;> omega) ⟨.int ys.length, H, I.tok _, ⟨s.toks + 1, by rw [List.size_toArray, hlen]⟩, q⟩
theorem CallR.or {f : Value} {r r' : List V → Hp → VK → Prop} (h : CallR X f r) (h' : CallR X f r') : CallR X f (fun xs H Q => r xs H Q ∨ r' xs H Q) := by
  intro pins s σ H xs us Q I rs q
  rcases q with q | q
  · exact h pins s σ H xs us Q I rs q
  · exact h' pins s σ H xs us Q I rs q
theorem call_list_of : CallR X (.type "list") (fun xs H Q => ∃ p ys, xs = [.ref p] ∧ (SqL X.K H p ys ∨ SqT X.K H p ys) ∧ ∀ l, H l = none → Q (.ref l) (upd H l (.lst ys))) := by
  intro pins s σ H xs us Q I r h
  obtain ⟨p, ys, rfl, hq, q⟩ := h
  obtain ⟨u, rfl, rx⟩ := vals1 r
  cases rx
  have fin : ∀ (its : List Value), Vals ys its → ys.length ≤ sizeLine → ∀ (h' : Heap) (c' : Nat), (∀ b o', s.heap.get? b = some o' → h'.get? b = some o') →
      h'.get? s.heap.objs.size = some { cls := .type "list", dict := none, data := .seq its.toArray c', slots := #[] } → EP X pins σ Q (.ref s.heap.objs.size) { s with heap := h' } := fun its r' hz h' c' kp e =>
    ⟨.ref s.heap.objs.size, _, I.laid (t' := s.toks) kp (Nat.le_refl _) (show ObjOk X.prog X.w _ h' _ (.lst ys) from ⟨hz, its, c', r', e⟩), rfl, q _ (I.hok.fresh (Nat.le_refl _))⟩
  rcases hq with hq | hq
  · obtain ⟨its, r', pl, hz⟩ := I.list hq
    have hlen := r'.length
    obtain ⟨o, ho, hc, n, hd⟩ := pl.isList
    exact call_list_seq p (.inl rfl) ho hc hd (fun h' c' kp e => fin its r' hz h' c' kp e) (by simp only [List.size_toArray] <;> omega)
  · obtain ⟨its, r', pl, hz⟩ := I.tuple hq
    have hlen := r'.length
    obtain ⟨o, ho, hc, n, hd⟩ := pl
    exact call_list_seq p (.inr rfl) ho hc hd (fun h' c' kp e => fin its r' hz h' c' kp e) (by simp only [List.size_toArray] <;> omega)
theorem call_tuple_of : CallR X (.type "tuple") (fun xs H Q => ∃ p ys, xs = [.ref p] ∧ ((SqL X.K H p ys ∧ ∀ l, H l = none → Q (.ref l) (upd H l (.tup ys))) ∨ (SqT X.K H p ys ∧ Q (.ref p) H))) := by
  intro pins s σ H xs us Q I r h
  obtain ⟨p, ys, rfl, h⟩ := h
  obtain ⟨u, rfl, rx⟩ := vals1 r
  cases rx
  rcases h with ⟨hq, q⟩ | ⟨hq, q⟩
  · obtain ⟨its, r', pl, hz⟩ := I.list hq
    have hlen := r'.length
    refine call_tuple_list pl.isList (fun h' kp => ?_) (by simp only [List.size_toArray] <;> omega)
    have I1 : Inv X pins σ H { s with heap := h' } := I.kept (t' := s.toks) kp
    have I2 : Inv X pins σ (upd H h'.objs.size (.tup ys)) { s with heap := h'.push { cls := .type "tuple", data := .seq its.toArray } } :=
      I1.laid (t' := s.toks) (fun b o e => Heap.get?_push_of_some _ e) (Nat.le_refl _) (show ObjOk X.prog X.w _ _ _ (.tup ys) from ⟨hz, its, r', IsTup.new _ _⟩)
    exact ⟨.ref h'.objs.size, _, I2, rfl, q _ (I1.hok.fresh (Nat.le_refl _))⟩
  · obtain ⟨its, r', pl, hz⟩ := I.tuple hq
    exact call_tuple_same pl ⟨.ref p, H, I, rfl, q⟩

/-! ### the call of a builtin's method: o.m(..) -/
/-- the value is of that builtin type -/
def tyV (K : PySem.W.Frag) (T : String) (x : V) (H : Hp) : Prop := match x with
  | .str _ => T = "str"
  | .int _ => T = "int"
  | .ref p => (T = "list" ∧ ∃ xs, SqL K H p xs) ∨ (T = "tuple" ∧ ∃ o, K.lookup p = some o ∧ o.cls = .type "tuple" ∧ o.dict = none) ∨
      (T = "dict" ∧ ((∃ kvs, H p = some (.dK kvs)) ∨ ∃ kvs, H p = some (.dT kvs))) ∨ (T = "set" ∧ ∃ S n, H p = some (.set S n))
  | _ => False
theorem tyV_is {pins : List (Addr × Obj)} {σ : St} {H : Hp} {s : Shared} {T : String} {x : V} {v : Value} (I : Inv X pins σ H s) (r : RelV x v) (ty : tyV X.K T x H) :
    s.TypeIs v T ∧ ∀ a, v = .ref a → ∃ ob, s.heap.get? a = some ob ∧ ob.dict = none := by
  cases x with
  | str z =>
    obtain ⟨t, rfl⟩ := r
    cases (show T = "str" from ty)
    exact ⟨typeIs_str s z t, fun _ e => nomatch e⟩
  | int i =>
    obtain ⟨t, rfl⟩ := r
    cases (show T = "int" from ty)
    exact ⟨typeIs_int s i t, fun _ e => nomatch e⟩
  | ref p =>
    cases r
    rcases ty with ⟨rfl, xs, hq⟩ | ⟨rfl, o, hk, hc, hd⟩ | ⟨rfl, hk⟩ | ⟨rfl, S, n, hk⟩
    · obtain ⟨its, _, pl, _⟩ := I.list hq
      refine ⟨pl.isList.typeIs, fun a e => ?_⟩
      cases e
      obtain ⟨o, n, e, c, hd, _⟩ := pl
      exact ⟨o, e, hd⟩
    · refine ⟨⟨o, I.kIn p o hk, hc⟩, fun a e => ?_⟩
      cases e
      exact ⟨o, I.kIn _ o hk, hd⟩
    · have z : ∃ o, s.heap.get? p = some o ∧ o.ExactDict := by
        rcases hk with ⟨kvs, hk⟩ | ⟨kvs, hk⟩
        · obtain ⟨_, _, _, _, o, _, _, e, ex, _⟩ := I.hok p _ hk
          exact ⟨o, e, ex⟩
        · obtain ⟨_, _, _, _, o, _, _, e, ex, _⟩ := I.hok p _ hk
          exact ⟨o, e, ex⟩
      obtain ⟨o, e, ex⟩ := z
      refine ⟨⟨o, e, ex.1⟩, fun a e2 => ?_⟩
      cases e2
      exact ⟨o, e, ex.2.1⟩
    · obtain ⟨o, _, _, _, e, ex, _⟩ := I.hok p _ hk
      refine ⟨⟨o, e, ex.1⟩, fun a e2 => ?_⟩
      cases e2
      exact ⟨o, e, ex.2.1⟩
  | _ => exact False.elim ty
def tBM (K : PySem.W.Frag) (T : String) (r : V → List V → Hp → VK → Prop) (to : TE) (t : TA) : TE := fun σ H Q => to σ H fun x H1 => tyV K T x H1 ∧ t σ H1 fun xs H2 => r x xs H2 Q
variable {o e : Expr} {es : List Expr} {to : TE} {t : TA} {name : Str} {apos cpos : Pos} {T id : String} {r : V → List V → Hp → VK → Prop}
theorem pe_bm (pa : PlainAttrs T) (slot : Slot T name id) (hty : typeOf (.builtin id) = pure (.type "method_descriptor")) (hm : MtR X id r) (ho : PE X o to) (ha : PA X (e :: es) t)
    (hbase : attributeBase o name X.env (eval o X.env) = eval o X.env := by rfl)
    (hfew : ((backTo cpos (starEach (e :: es) X.env)).all (fun x => !x.1) && (backToKw cpos (keywordEach [] X.env)).all (fun x => x.1.isSome)
      && decide ((e :: es).length + ([] : List Keyword).length + (if ([] : List Keyword).isEmpty then 0 else 1) < 30)) = true := by rfl)
    (hline : (apos.endLine == cpos.line) = true := by rfl) (hs : starEach (e :: es) X.env = (false, eval e X.env) :: starEach es X.env := by rfl) (hplain : (backTo cpos (starEach es X.env)).any (·.1) = false := by rfl) :
    PE X (.Call (.Attribute o name apos) (e :: es) [] cpos) (tBM X.K T r to t) := by
  intro pins s σ H Q I h
  refine wpAny_Call_method_late hbase hfew hline rfl (thn (ho pins s σ H _ I h) fun v s1 ⟨x, H1, I1, r1, ty, q1⟩ => ?_)
  obtain ⟨h1, h2⟩ := tyV_is I1 r1 ty
  refine ⟨T, id, pa, slot, hty, h1, h2, ?_⟩
  have hA := ha cpos pins s1 σ H1 _ I1 q1
  rw [hs] at hA ⊢
  refine Calls.callWith_builtin (by show (false || (backTo cpos (starEach es X.env)).any (·.1)) = false; rw [hplain] <;> rfl) (Calls.evalArgs_plain ?_)
  exact thn hA fun us s2 ⟨vs, H2, I2, r2, q2⟩ => hm pins s2 σ H2 x vs v us Q I2 r1 r2 q2
/- xs.append(e), list.index on a module's tuple .. are MtR facts of 06m -/
end
end L2

namespace L2
open PySem PySem.Spec PyProof.Rows

def MtM (X : Cx) (id : String) (r : V → List V → Hp → VK → Prop) : Prop :=
  ∀ (pins : List (Addr × Obj)) (s : Shared) (σ : St) (H : Hp) (x : V) (xs : List V) (v : Value) (us : List Value) (Q : VK), Inv X pins σ H s → RelV x v → Vals xs us → r x xs H Q →
    wpAny (model X.prog X.w) X.A (call (.builtin id) (v :: us)) (EP X pins σ Q) X.xe s

/-! ### lists of values -/
theorem Vals.one : ∀ {x : V} {us : List Value}, Vals [x] us → ∃ u, us = [u] ∧ RelV x u
  | _, _, .cons r .nil => ⟨_, rfl, r⟩
theorem Vals.two : ∀ {x y : V} {us : List Value}, Vals [x, y] us → ∃ u v, us = [u, v] ∧ RelV x u ∧ RelV y v
  | _, _, _, .cons r (.cons q .nil) => ⟨_, _, rfl, r, q⟩
theorem Vals.zero : ∀ {us : List Value}, Vals [] us → us = []
  | _, .nil => rfl
theorem Vals.dropLast {xs : List V} {us : List Value} (h : Vals xs us) : Vals xs.dropLast us.dropLast := by
  induction h with
  | nil => exact .nil
  | cons r t ih =>
    cases t with
    | nil => exact .nil
    | cons q t' => exact .cons r ih
theorem Vals.eraseIdx : ∀ {xs : List V} {us : List Value} (i : Nat), Vals xs us → Vals (xs.eraseIdx i) (us.eraseIdx i)
  | _, _, _, .nil => .nil
  | _, _, 0, .cons _ t => t
  | _, _, i + 1, .cons r t => .cons r (Vals.eraseIdx i t)
theorem Vals.reverse {xs : List V} {us : List Value} (h : Vals xs us) : Vals xs.reverse us.reverse := by
  induction h with
  | nil => exact .nil
  | cons r t ih => rw [List.reverse_cons, List.reverse_cons]; exact Vals.append ih (.cons r .nil)
theorem Vals.rep {xs : List V} {us : List Value} (h : Vals xs us) : ∀ k : Nat, Vals (List.replicate k xs).flatten (List.replicate k us).flatten
  | 0 => .nil
  | k + 1 => by
    rw [List.replicate_succ, List.replicate_succ, List.flatten_cons, List.flatten_cons]
    exact Vals.append h (Vals.rep h k)
theorem len_erase {α : Type} : ∀ (l : List α) (i : Nat), (l.eraseIdx i).length ≤ l.length
  | [], _ => Nat.le_refl _
  | _ :: _, 0 => Nat.le_succ _
  | _ :: r, i + 1 => Nat.succ_le_succ (len_erase r i)
theorem foldl_rep (its : List Value) : ∀ (k : Nat) (acc : List Value),
    List.foldl (fun x1 x2 => x1 ++ x2) acc.toArray (List.replicate k its.toArray) = (acc ++ (List.replicate k its).flatten).toArray
  | 0, acc => by simp
  | k + 1, acc => by
    have e : acc.toArray ++ its.toArray = (acc ++ its).toArray := by simp
    have e2 : (acc ++ its) ++ (List.replicate k its).flatten = acc ++ (List.replicate (k + 1) its).flatten := by
      rw [List.replicate_succ, List.flatten_cons, List.append_assoc]
    rw [← e2, ← foldl_rep its k (acc ++ its), ← e, List.replicate_succ, List.foldl_cons]

section
variable {X : Cx} {pins : List (Addr × Obj)} {σ : St} {H : Hp} {s : Shared} {l b : Addr} {xs ys zs : List V}

/-! ### the two steps: a tracked list is rewritten, a new list is laid -/
theorem Inv.lset {its its' : List Value} {n : Nat} {f : Array Value → Array Value} {t' : Nat} (I : Inv X pins σ H s) (hH : H l = some (.lst xs))
    (e : s.heap.get? l = some { cls := .type "list", data := .seq its.toArray n }) (hf : f its.toArray = its'.toArray) (hv : Vals ys its') (hz : ys.length ≤ sizeLine) :
    Inv X pins σ (upd H l (.lst ys)) { s with heap := s.heap.update l (Obj.mapSeq f), toks := t' } := by
  have q := PySem.IsL.update e f
  rw [hf] at q
  refine I.write (x := l) (e := l) (by rw [hH]; exact trivial) (.inl rfl) (fun b' u hb hu => (Heap.get?_update_other s.heap (Obj.mapSeq f) (Ne.symm hb)).trans hu) ⟨_, q⟩ ?_
  exact ⟨hz, its', _, hv, q⟩
theorem Inv.lnew {its : List Value} {t' : Nat} (I : Inv X pins σ H s) (hv : Vals ys its) (hz : ys.length ≤ sizeLine) :
    Inv X pins σ (upd H s.heap.objs.size (.lst ys)) { s with heap := s.heap.push { cls := .type "list", data := .seq its.toArray }, toks := t' } :=
  I.laid (fun _ _ q => Heap.get?_push_of_some _ q) (Nat.le_refl _) ⟨hz, its, 0, hv, Heap.get?_push_size _ rfl⟩
theorem Inv.fresh (I : Inv X pins σ H s) : H s.heap.objs.size = none := I.hok.fresh (Nat.le_refl _)
theorem Inv.lstM (I : Inv X pins σ H s) (hH : H l = some (.lst xs)) : xs.length ≤ sizeLine ∧ ∃ (its : List Value) (n : Nat), Vals xs its ∧ xs.length = its.length ∧ s.heap.get? l = some { cls := .type "list", data := .seq its.toArray n } := by
  obtain ⟨z, its, n, r, e⟩ := I.hok l _ hH
  exact ⟨z, its, n, r, r.length, e⟩

theorem notLongL {n : Nat} (h : n ≤ sizeLine) : Builtin.List.listTooLong n = false := by
  unfold Builtin.List.listTooLong
  exact decide_eq_false (by omega)
end

section
variable {X : Cx}

/-! ### methods -/
def rAppend : V → List V → Hp → VK → Prop := fun x vs H Q => ∃ l xs y, x = .ref l ∧ vs = [y] ∧ H l = some (.lst xs) ∧ xs.length < sizeLine ∧ Q .non (upd H l (.lst (xs ++ [y])))
theorem mt_append : MtM X "list.append" rAppend := by
  intro pins s σ H x vs v us Q I rx rv h
  obtain ⟨l, xs, y, rfl, rfl, hH, hz, q⟩ := h
  cases rx
  obtain ⟨u, rfl, ru⟩ := rv.one
  obtain ⟨z, its, n, r, hl, e⟩ := I.lstM hH
  refine call_meets F.slot_list_append ⟨_, e, rfl⟩ F.entry_list_append (F.args_list_append_2 _ _) (PySem.list_append l its.toArray n u (by rw [List.size_toArray]; omega)) ⟨e, ?_⟩
  refine ⟨.non, _, I.lset (its' := its ++ [u]) hH e (by simp) (r.append (.cons ru .nil)) ?_, rfl, q⟩
  rw [List.length_append, List.length_singleton]
  omega

def rPopAt : V → List V → Hp → VK → Prop := fun x vs H Q => ∃ l xs i k y, x = .ref l ∧ vs = [.int i] ∧ H l = some (.lst xs) ∧ -(2 ^ 63) ≤ i ∧ i < 2 ^ 63 ∧ seqIndex? i xs.length = some k ∧ xs[k]? = some y ∧ Q y (upd H l (.lst (xs.eraseIdx k)))
theorem mt_popAt : MtM X "list.pop" rPopAt := by
  intro pins s σ H x vs v us Q I rx rv h
  obtain ⟨l, xs, i, k, y, rfl, rfl, hH, h1, h2, hk, hy, q⟩ := h
  cases rx
  obtain ⟨u, rfl, ru⟩ := rv.one
  obtain ⟨t, rfl⟩ := ru
  obtain ⟨z, its, n, r, hl, e⟩ := I.lstM hH
  obtain ⟨w, hw, rw'⟩ := r.get hy
  refine call_meets F.slot_list_pop ⟨_, e, rfl⟩ F.entry_list_pop (F.args_list_pop_2 _ _)
    (MeetsSeq.list_pop_at l its.toArray n i t k w (fitsIndex_both h1 h2) (by rw [List.size_toArray, ← hl]; exact hk) (by rw [← Array.getElem?_toList]; exact hw) (by rw [List.size_toArray]; omega)) ⟨e, ?_⟩
  refine ⟨y, _, I.lset (its' := its.eraseIdx k) hH e ?_ (r.eraseIdx k) ?_, rw', q⟩
  · show its.toArray.eraseIdxIfInBounds k = (its.eraseIdx k).toArray
    rw [List.eraseIdxIfInBounds_toArray]
  · have := len_erase xs k
    omega

/-! ### list + list, list += list, list * int -/
def rCat : R2 := fun x y H Q => ∃ l b xs zs, x = .ref l ∧ y = .ref b ∧ H l = some (.lst xs) ∧ H b = some (.lst zs) ∧ xs.length + zs.length ≤ sizeLine ∧ ∀ p, H p = none → Q (.ref p) (upd H p (.lst (xs ++ zs)))
theorem op_cat : OpR X (binaryOp .Add) rCat := by
  intro pins s σ H x y v u Q I rx ry h
  obtain ⟨l, b, xs, zs, rfl, rfl, hH, hB, hz, q⟩ := h
  cases rx
  cases ry
  obtain ⟨z, its, n, r, hl, e⟩ := I.lstM hH
  obtain ⟨z2, its2, n2, r2, hl2, e2⟩ := I.lstM hB
  refine PySem.P.add_list e e2 ?_ (by rw [List.size_toArray, List.size_toArray]; omega)
  have ea : its.toArray ++ its2.toArray = (its ++ its2).toArray := by simp
  rw [ea]
  exact ⟨.ref _, _, I.lnew (t' := s.toks) (r.append r2) (by rw [List.length_append]; omega), rfl, q _ I.fresh⟩
/-- a list times an int (a negative one is nothing) -/
def rRep : R2 := fun x y H Q => ∃ l k xs, x = .ref l ∧ y = .int k ∧ H l = some (.lst xs) ∧ -(2 ^ 63) ≤ k ∧ k < 2 ^ 63 ∧ xs.length * k.toNat ≤ sizeLine ∧
  ∀ p, H p = none → Q (.ref p) (upd H p (.lst (List.replicate k.toNat xs).flatten))
theorem len_rep {α : Type} (xs : List α) (k : Nat) : (List.replicate k xs).flatten.length = k * xs.length := by
  induction k with
  | zero => simp
  | succ k ih => rw [List.replicate_succ, List.flatten_cons, List.length_append, ih, Nat.succ_mul, Nat.add_comm]
theorem op_rep : OpR X (binaryOp .Mult) rRep := by
  intro pins s σ H x y v u Q I rx ry h
  obtain ⟨l, k, xs, rfl, rfl, hH, h1, h2, hz, q⟩ := h
  cases rx
  obtain ⟨t, rfl⟩ := ry
  obtain ⟨z, its, n, r, hl, e⟩ := I.lstM hH
  have hlen : its.toArray.size * k.toNat ≤ sizeLine := by rw [List.size_toArray, ← hl]; exact hz
  have hcap : ¬ its.toArray.size * k.toNat > (2 ^ 63 - 1) / 8 := by
    have : (sizeLine : Nat) ≤ (2 ^ 63 - 1) / 8 := by decide
    omega
  have hfit : ¬ (!Builtin.List.listFitsIndex k) = true := by
    rw [fitsIndex_both h1 h2]
    exact Bool.false_ne_true
  have hlong : ¬ Builtin.List.listTooLong (its.toArray.size * k.toNat) = true := by
    rw [notLongL hlen]
    exact Bool.false_ne_true
  have hnew : List.foldl (fun x1 x2 => x1 ++ x2) #[] (List.replicate (if its.toArray.isEmpty = true then 0 else k.toNat) its.toArray) = (List.replicate k.toNat its).flatten.toArray := by
    have f0 : ∀ m : Nat, List.foldl (fun x1 x2 => x1 ++ x2) #[] (List.replicate m its.toArray) = (List.replicate m its).flatten.toArray := fun m => by
      have := foldl_rep its m []
      rw [List.nil_append] at this
      exact this
    rw [f0]
    cases its with
    | nil => simp
    | cons a r' => rw [if_neg (by simp)]
  refine wpAny_binaryOp_repeat_ref (T := "list") (U := "int") (by decide) ⟨_, e, rfl⟩ (fun s' => typeIs_int s' k t) noFill_list_mul F.fills_int_mul F.slot_int_rmul repeat_list F.slot_int_index.lookup
    (call_meets F.slot_int_rmul (typeIs_int s k t) F.entry_int_rmul (F.args_int_rmul_2 _ _) (int___rmul___int_list k t l its.toArray n)
      ⟨e, rfl, ⟨_, e, rfl⟩, call_meets F.slot_list_mul ⟨_, e, rfl⟩ F.entry_list_mul (F.args_list_mul_2 _ _) (AutoListH.list___mul___list_int_3 l its.toArray n k t hfit hcap hlong) ⟨e, ?_⟩⟩)
  rw [hnew]
  exact ⟨.ref _, _, I.lnew (t' := s.toks) (r.rep k.toNat) (by rw [len_rep, Nat.mul_comm]; exact hz), rfl, q _ I.fresh⟩

end

/-! ### xs[a:b] = ys -/
section
variable {prog : Program} {w : World} {A : Around} {E : Value → Shared → Prop} {s : Shared}
set_option maxRecDepth 100000 in
end

section
variable {X : Cx}
end
end L2

namespace Att
open PySem PySem.W PySem.Calls PyProof.Rows

/-! ### the script -/
theorem ints_of_wellAll {P : Params} {h : Heap} : ∀ (ns : List Int) (vs : List Value), WellAll P h vs (ns.map WData.int) → IntsAre vs ns := by
  intro ns
  induction ns with
  | nil =>
    intro vs w
    rw [List.map_nil] at w
    cases w
    exact .nil
  | cons n ns ih =>
    intro vs w
    rw [List.map_cons] at w
    cases w with
    | cons a b =>
      cases a
      exact .cons _ _ (ih _ b)

theorem script_of {l : OpenLaw} {n : Nat} (hn : l.most = some n) {P : Params} {h : Heap} {args : List WData} {vals : List Value}
    (hpre : l.row.toRowW.claim.pre args = true) (hwl : WellAll P h vals args) :
    ∃ a vs ns, vals = [Value.ref a] ∧ args = [WData.list (ns.map WData.int)] ∧ h.get? a = some { cls := .type "list", data := .seq vs.toArray } ∧ IntsAre vs ns ∧ ns.length ≤ n := by
  have hsh : WShape.hasAll [] args [.list .int] = true := (pre_splitW hpre).1
  have hc : l.pre.holds [] { args := args } = true := (pre_splitW hpre).2
  obtain ⟨d, r, rfl, h1, h2⟩ := hasAllW_cons hsh
  obtain rfl := hasAllW_nil h2
  obtain ⟨xs, rfl, h3⟩ := hasW_list h1
  obtain ⟨ns, rfl⟩ := items_int h3
  have hlen : ns.length ≤ n := by
    unfold OpenLaw.pre at hc
    have h4 : (WTm.not (.lt (.lit (.int (n : Int))) (.len (.arg 0)))).holds [] { args := [.list (ns.map .int)] } = true := by
      have h4 := (holds_andW hc).1
      rw [hn] at h4
      exact h4
    have h5 := condW_of h4 (w_not (w_lt w_lit (w_len_list (w_arg rfl))))
    rw [List.length_map] at h5
    refine Nat.le_of_not_lt fun q => ?_
    have q' : (n : Int) < ((ns.length : Nat) : Int) := by omega
    first
      | (rw [decide_eq_true q'] at h5; exact absurd h5 (by decide))
      | (simp at h5; omega)
  cases hwl with
  | cons w1 w2 =>
    cases w2
    cases w1 with
    | list ho hall => exact ⟨_, _, ns, rfl, rfl, ho, ints_of_wellAll ns _ hall, hlen⟩

theorem post_true (l : OpenLaw) (args : List WData) : l.row.toRowW.claim.post args (.bool true) args = true :=
  postW_of (r := l.row.toRowW) (X := (true == true))
    (show WShape.has [] (.bool true) .bool = true by first | rfl | decide | simp [WShape.has, WShape.arms, WShape.armsAll])
    (show (WTm.eq .res (.lit (.bool true))).value [] { args := args, res := some (.bool true), after := args } = some (.bool (true == true)) from w_eq_bool (w_res rfl) w_lit) rfl

/-- the same from a codeAny of the CALL (for a layer whose function contracts speak of calls) -/
theorem attach_call {l : OpenLaw} {n : Nat} {q : Program} {loose : List Str} {XP : (Str → Option Value) → Heap → Prop} {YP : World → Heap → Prop} {d : DefRec}
    (hn : l.most = some n) (hdf : d.params.defaults = [])
    (call : ∀ (w : World) (s₀ s₁ : Shared) (mg mb : Str → Option Value) (fa : Addr) (o : Obj) (pm cd doc : Value) (a : Addr) (vs : List Value) (ns : List Int),
      Ground q loose [] XP w s₀ mg mb s₁.heap → YP w s₁.heap →
      s₁.heap.get? fa = some o → o.data = .func (docDef d.name d.params d.body d.scope pm cd doc) → s₁.heap.CodeRec cd d.name → mg d.name = some (.ref fa) →
      s₁.heap.get? a = some { cls := .type "list", data := .seq vs.toArray } → IntsAre vs ns → ns.length ≤ n → s₁.gens = #[] →
      codeAny (model l.prog w) callerA (.call (.ref fa) ⟨[.ref a], []⟩) (fun r s' => r = .ok (.ret (.bool true)) ∧ OldK s₁.heap s'.heap ∧ s'.os = s₁.os ∧ AllBare s'.gens) s₁) :
    WalkO q loose XP YP l.row.toRowW d [] (fun f vs => PySem.call f vs) := by
  intro w s₀ s₁ mg mb G Y fa o pm cd doc dV kV ho hd hcd hD hmg hg args vals as hpre hlay hrd hwl hlo
  obtain rfl : dV = .none := Dflts.none hD hdf
  obtain rfl : kV = .none := Dflts.noKw hD
  obtain ⟨a, vs, ns, rfl, rfl, hobj, hints, hlen⟩ := script_of hn hpre hwl
  refine enter_call (codeAny_mono (call w s₀ s₁ mg mb fa o pm cd doc a vs ns G Y ho (fd_plain hd) hcd hmg hobj hints hlen hg) fun r s' hq => ?_)
  obtain ⟨rfl, h2, h3, h4⟩ := hq
  exact ⟨.inl ⟨.bool true, .bool true, [], rfl, fun _ => rfl, .bool true, post_true l _, fun _ => ⟨List.Pairwise.nil, fun _ hm => (nomatch hm)⟩⟩, h2, h3, h4⟩

/-! ### rules over ANY heap (no ledger) from facts about the written part K: the library's own take a ledger (News) for what they write -/
section
variable {prog : Program} {w : World} {A : Around} {E : Value → Shared → Prop} {s : Shared} {K : Frag}

def ledger (h : Heap) (L d : Addr) : List (Addr × Obj) := (List.range h.objs.size).filterMap fun a => if a = L ∨ a = d then none else (h.get? a).map fun o => (a, o)
end
end Att

namespace L2
open PySem PySem.Spec PyProof.Rows

theorem vals_ints : ∀ {vs : List Value} {ns : List Int}, IntsAre vs ns → Vals (ns.map V.int) vs
  | _, _, .nil => .nil
  | _, _, .cons n t h => .cons ⟨t, rfl⟩ (vals_ints h)

/-- nothing is tracked but the script, known to the object (or it is an object of the module) -/
def Only (H : Hp) : Prop := ∀ b, H b = none ∨ ∃ o xs, H b = some (.frz o (.lst xs))

/-- THE HEAD: the law's promise, at the heap behind the top. F, the promise of the law's def, may use that base is part of the heap (so K.In base, base.Ns mainGlobals mg stand in Mod) -/
theorem law_call {P : Program} {w : World} {K : PySem.W.Frag} {mg mb : Str → Option Value} {CX : CXT} {k : Nat} {fa a : Addr} {fd : FuncData} {x : Str} {sp : Sp} {s₁ : Shared} {vs : List Value} {ns : List Int}
    (KX : K.In s₁.heap) (hns : s₁.heap.Ns mainGlobals mg) (hb : s₁.heap.Ns builtinsNs mb) (hbb : ∀ x : Str, x ≠ "__name__" → mb x = bootBuiltins x) (hlim : s₁.heap.NoLimit) (hg : s₁.gens = #[])
    (ha : s₁.heap.get? a = some { cls := .type "list", data := .seq vs.toArray }) (hi : IntsAre vs ns) (hl : ns.length ≤ sizeLine) (hr : Room k callerA)
    (F : ∀ base : Heap, K.In base → base.Ns mainGlobals mg → FnOk P w K mg base CX k fa fd [x] sp) (hbind : ∀ (s : Shared) (u : Value), BindsTo s fd ⟨[u], []⟩ [(x, u)])
    (hsp : ∀ H : Hp, Only H → SqL K H a (ns.map V.int) → sp [.ref a] H (fun v _ => v = .bl true) fun _ _ _ => False)
    (hCX : ∀ H e s', CX [] H s₁ (fun _ _ _ => False) e s' → False) :
    codeAny (model P w) callerA (.call (.ref fa) ⟨[.ref a], []⟩) (fun r s' => r = .ok (.ret (.bool true)) ∧ OldK s₁.heap s'.heap ∧ s'.os = s₁.os ∧ AllBare s'.gens) s₁ := by
  have rv := vals_ints hi
  have lenV := hi.length
  -- from an abstract heap in which nothing but the script may be tracked
  have core : ∀ H : Hp, Only H → SqL K H a (ns.map V.int) → HOk P w H s₁.heap → (∀ b, H b ≠ none → b = a) → (H a ≠ none → K.lookup a = none) →
      codeAny (model P w) callerA (.call (.ref fa) ⟨[.ref a], []⟩) (fun r s' => r = .ok (.ret (.bool true)) ∧ OldK s₁.heap s'.heap ∧ s'.os = s₁.os ∧ AllBare s'.gens) s₁ := by
    intro H hO hS hok hA hK
    have base_of : ∀ {b : Addr} {o : Obj}, s₁.heap.get? b = some o → H b = none → (hidT s₁.heap H).get? b = some o := fun e n => hidT_get e n
    have noA : ∀ {b : Addr} {o : Obj} {es : Array DictEntry} {ep : Nat}, s₁.heap.get? b = some o → o.data = .dict es ep → H b = none := fun {b o es ep} e d => by
      cases q : H b with
      | none => rfl
      | some u =>
        have e' : b = a := hA b (by rw [q]; simp)
        subst e'
        rw [ha] at e; cases e
        have d' : Data.seq vs.toArray _ = Data.dict es ep := d
        cases d'
    have nsK : ∀ {b : Addr} {m : Str → Option Value}, s₁.heap.Ns b m → (hidT s₁.heap H).Ns b m := fun {b m} ⟨o, es, ep, e, d, r⟩ => ⟨o, es, ep, base_of e (noA e d), d, r⟩
    have hKb : K.In (hidT s₁.heap H) := fun b o e => base_of (KX b o e) (by
      cases q : H b with
      | none => rfl
      | some u =>
        have e' : b = a := hA b (by rw [q]; simp)
        subst e'
        rw [hK (by rw [q]; simp)] at e; cases e)
    have hM : Mod K mg (hidT s₁.heap H) := ⟨hKb, nsK hns, ⟨mb, nsK hb, hbb⟩, let ⟨mc, h1, h2⟩ := hlim; ⟨mc, nsK h1, h2⟩⟩
    have e0 : Env0 P w K mg (hidT s₁.heap H) callerA [] s₁ H := ⟨rfl, hM, fun b o e => of_hidT e, Nat.le_of_eq (hidT_size _ _), trivial, fun b hb => absurd (show b ∈ ([] : List Addr) from hb) (by simp), hok, .of_eq hg⟩
    refine codeAny_mono ((F _ hKb (nsK hns)).run callerA [] s₁ H ⟨[.ref a], []⟩ [.ref a] [.ref a] _ _ hr e0 (hbind s₁ (.ref a)) (.cons rfl .nil) (hsp H hO hS)) fun r s' h => ?_
    cases r with
    | error e => exact (hCX H e s' h).elim
    | ok fl =>
      cases fl with
      | next => exact False.elim h
      | brk => exact False.elim h
      | cont => exact False.elim h
      | ret u =>
        obtain ⟨v, H', os, bare, un, hok', r', q⟩ := h
        have q' : v = .bl true := q
        subst q'
        obtain rfl : u = Value.bool true := r'
        refine ⟨rfl, OldK.of_keep fun b o e => ?_, os, bare⟩
        cases q : H b with
        | none => exact un.keep b o e q (by intro z; exact absurd (show b ∈ ([] : List Addr) from z) (by simp)) (by simp)
        | some u =>
          rcases hO b with z | ⟨ob, xs, z⟩
          · rw [q] at z; cases z
          · have z2 := un.frzs b ob _ z
            obtain ⟨e1, _⟩ := hok b _ z
            obtain ⟨e2, _⟩ := hok' b _ z2
            rw [e] at e1; cases e1
            exact e2
  cases hk : K.lookup a with
  | some o =>
    -- the script is one of the module's own objects
    have e := KX a o hk
    rw [ha] at e
    cases e
    refine core (fun _ => none) (fun _ => .inl rfl) (.inr ⟨_, vs.toArray, _, hk, rfl, rfl, rfl, by rw [List.size_toArray, lenV]; exact hl, by simpa using rv⟩) (fun b u z => by have z' : (none : Option HO) = some u := z; cases z') (fun b z => absurd rfl z) fun z => absurd rfl z
  | none =>
    refine core (fun b => if b = a then some (.frz { cls := .type "list", data := .seq vs.toArray } (.lst (ns.map V.int))) else none) (fun b => ?_) (.inl (.inr ⟨{ cls := .type "list", data := .seq vs.toArray }, if_pos rfl⟩)) (fun b u z => ?_) (fun b z => ?_) fun _ => hk
    · by_cases hb : b = a
      · exact .inr ⟨_, _, if_pos hb⟩
      · exact .inl (if_neg hb)
    · by_cases hb : b = a
      · have z' := (if_pos hb).symm.trans z
        cases z'
        subst hb
        exact ⟨ha, by rw [List.length_map]; exact hl, vs, _, rv, ha⟩
      · have z' := (if_neg hb).symm.trans z
        cases z'
    · by_cases hb : b = a
      · exact hb
      · exact absurd (if_neg hb) z
end L2

namespace L2
open PySem PySem.Spec PyProof.Rows

abbrev KOf {K : PySem.W.Frag} {h : Heap} (_ : K.In h) : PySem.W.Frag := K

/-- the goal that k_head leaves (case hc), from the law's promise. F gives the function object fd (K's own) once, then the promise over every base -/
theorem walk_of {l : PySem.W.OpenLaw} {n k : Nat} {q : Program} {loose : List Str} {XP : (Str → Option Value) → Heap → Prop} {YP : World → Heap → Prop} {d : DefRec} {K : Params → PySem.W.Frag} {CX : World → CXT} {sp : World → Sp} {x : Str}
    (hn : l.most = some n) (hn2 : n ≤ sizeLine) (hdf : d.params.defaults = []) (hr : Room k callerA)
    (hY : ∀ (w : World) (h : Heap), YP w h → (K w.params).In h)
    (F : ∀ (w : World) (mg : Str → Option Value) (fa : Addr) (h : Heap), (K w.params).In h → h.Ns mainGlobals mg → mg d.name = some (.ref fa) →
      ∃ fd : FuncData, (∀ (s : Shared) (u : Value), BindsTo s fd ⟨[u], []⟩ [(x, u)]) ∧
        ∀ base : Heap, (K w.params).In base → base.Ns mainGlobals mg → FnOk l.prog w (K w.params) mg base (CX w) k fa fd [x] (sp w))
    (hsp : ∀ (w : World) (H : Hp) (a : Addr) (ns : List Int), ns.length ≤ n → Only H → SqL (K w.params) H a (ns.map V.int) → sp w [.ref a] H (fun v _ => v = .bl true) fun _ _ _ => False)
    (hCX : ∀ (w : World) (H : Hp) (s : Shared) (e : Value) (s' : Shared), CX w [] H s (fun _ _ _ => False) e s' → False) :
    PySem.W.WalkO q loose XP YP l.row.toRowW d [] (fun f vs => PySem.call f vs) := by
  refine Att.attach_call hn hdf fun w s₀ s₁ mg mb fa o pm cd doc a vs ns G Y ho hd hcd hmg hobj hints hlen hg => ?_
  have KX := hY w _ Y
  obtain ⟨fd, hb, hF⟩ := F w mg fa _ KX G.T.g hmg
  exact law_call KX G.T.g G.T.b G.T.builtins G.T.nolimit hg hobj hints (Nat.le_trans hlen hn2) hr hF hb (fun H hO hS => hsp w H a ns hlen hO hS) fun H e s' => hCX w H s₁ e s'
end L2

/- THE LAST THEOREM (shape; LID, My.* are yours):
   My.Adr: a structure of the addresses that your layer names (classes, functions); My.Txt K t: a structure (Prop) of the equations over K;
   My.txt_mk : {K} {implicit addresses ..} (e1 : nsIn K mainGlobals "law" = some (some (.ref f))) (e2 : K.lookup f = some ⟨oc, od, .func (fnOf "law" "law" params body scope dV kV doc pm an cdv ct), sl⟩) (e3 : codeIn K cdv "law" = true) .. : ∃ t, My.Txt K t

set_option maxRecDepth 100000 in
set_option maxHeartbeats 0 in
theorem PySem.Challenge.cw_LID_holds : PySem.Challenge.rw_LID.Holds := by
  w_on; o_law; k_head; (case hw => w_witness2)
  k_fill
  refine L2.walk_of (l := PySem.Challenge.rw_LID) (n := 63) (k := 40) (x := "script") (CX := fun w => ..) (sp := fun _ => My.sp_law) rfl (by decide) rfl ⟨rfl, by decide, by decide⟩ (fun w h Y => PySem.W.kIn_of Y) ?F ?S ?C
  case F =>
    intro w mg fa h KX G hmg
    have T : ∃ t, My.Txt (L2.KOf KX) t := by
      dsimp only [L2.KOf]                          -- K must stand as «<heap const> w.params» for k_is
      refine' My.txt_mk ?e1 ?e2 ?e3 ..
      (case e1 => PySem.W.k_is)                    -- in the order: a name -> its address -> its object -> its parts
      (case e2 => PySem.W.k_is)
      ..
    obtain ⟨t, T⟩ := T
    have e0 := hmg.symm.trans (PySem.W.mg_of KX G T.law)
    cases e0                                       -- fa is the law's own address
    exact ⟨_, fun s u => .of_eq rfl, fun base kb nb => My.law_fn T kb nb⟩     -- if «.of_eq rfl» comes too early: refine' ⟨_, ?b, fun base kb nb => My.law_fn T kb nb⟩; exact fun s u => .of_eq rfl
  case S => exact fun w H a ns hl hO hS => ..
  case C => exact ..
(the tactic k_is has no namespace: write k_is) -/

/-! SHORT WORDS over the layer: a def of the text, its body, what a loop and a test want. -/
namespace L2
open PySem PySem.Spec PyProof.Rows

def defArgs (s : Stmt) : Arguments := match s with
  | .FunctionDef _ a _ _ _ _ _ _ _ _ => a
  | _ => { posonlyargs := [], args := [], vararg := none, kwonlyargs := [], kw_defaults := [], kwarg := none, defaults := [] }
def defBody (s : Stmt) : List Stmt := match s with
  | .FunctionDef _ _ b _ _ _ _ _ _ _ => b
  | _ => []
def defScope (s : Stmt) : Scope := match s with
  | .FunctionDef _ _ _ _ _ _ sc _ _ _ => sc
  | _ => { kind := .function, names := [], isGenerator := false, isCoroutine := false }

/-! ### no exception leaves a def -/
abbrev CX0 : CXT := fun _ _ _ _ _ _ => False
abbrev E0 : XK := fun _ _ _ => False
theorem pass0 {X : Cx} : Passes CX0 X E0 := fun _ _ _ _ _ _ _ h => h.elim

/-! ### a def (or method) of the text as it stands behind the top -/
structure Fun (K : PySem.W.Frag) (x qual : Str) (st : Stmt) (f : Addr) (fd : FuncData) : Prop where
  ex : ∃ (oc : Value) (od : Option Addr) (kV doc pm : Value) (an : Option Addr) (cdv ct : Value) (osl : Array (Option Value)),
    fd = PySem.W.fnOf x qual (defArgs st) (defBody st) (defScope st) .none kV doc pm an cdv ct ∧ K.lookup f = some ⟨oc, od, .func fd, osl⟩ ∧ PySem.W.codeIn K cdv qual = true
  kp : PySem.W.keepIn K (.ref f) = true
section
variable {P : Program} {w : World} {K : PySem.W.Frag} {mg : Str → Option Value} {base : Heap}
/-- THE RULE for a def: its body as a term of rules, and the reading of that term -/
theorem Fun.ok {x qual : Str} {st : Stmt} {f : Addr} {fd : FuncData} {N ps : List Str} {k : Nat} {sp : Sp} (F : Fun K x qual st f fd) (S : FnScope N ps (defScope st)) (len : ∀ vs H Q E, sp vs H Q E → vs.length = ps.length)
    (hbody : ∀ (cdv : Value) (A : Around) (outer : List Env) (s : Shared) (H : Hp) (vs : List V) (Q : VK) (E : XK), Room k (A.deeper (envOfC qual (defScope st) s.heap.objs.size f cdv)) → sp vs H Q E →
      ∃ t, PSs (cxOf CX0 P w K mg base N qual (defScope st) f cdv A outer s H E).nox (defBody st) t ∧ t { nx := fun _ H' => Q .non H', rt := Q } (start N vs) H) : FnOk P w K mg base CX0 (k + 1) f fd ps sp := by
  obtain ⟨oc, od, kV, doc, pm, an, cdv, ct, osl, rfl, lk, hcd⟩ := F.ex
  refine fn_of lk hcd S len fun A outer s H vs Q E hr hsp => ?_
  obtain ⟨t, h, q⟩ := hbody cdv A outer s H vs Q E hr hsp
  exact ⟨t, h.nox, q⟩
/-- how its arguments bind (no defaults): h is «fun _ _ _ _ _ _ us hl => match us, hl with | [_, _], _ => rfl», one _ a parameter -/
theorem Fun.binds {x qual : Str} {st : Stmt} {f : Addr} {fd : FuncData} {ps : List Str} (F : Fun K x qual st f fd)
    (h : ∀ (kV doc pm : Value) (an : Option Addr) (cdv ct : Value) (us : List Value), us.length = ps.length → bindArgs (PySem.W.fnOf x qual (defArgs st) (defBody st) (defScope st) .none kV doc pm an cdv ct) ⟨us, []⟩ = pure (ps.zip us)) : Binds K fd ps [] := by
  obtain ⟨oc, od, kV, doc, pm, an, cdv, ct, osl, rfl, lk, hcd⟩ := F.ex
  exact .all (h kV doc pm an cdv ct)
theorem fun_mk {x qual : Str} {st : Stmt} {f : Addr} {oc : Value} {od an : Option Addr} {osl : Array (Option Value)} {kV doc pm cdv ct : Value} (l : K.lookup f = some ⟨oc, od, .func (PySem.W.fnOf x qual (defArgs st) (defBody st) (defScope st) .none kV doc pm an cdv ct), osl⟩)
    (c : PySem.W.codeIn K cdv qual = true) (k : PySem.W.keepIn K (.ref f) = true) : Fun K x qual st f (PySem.W.fnOf x qual (defArgs st) (defBody st) (defScope st) .none kV doc pm an cdv ct) := ⟨⟨oc, od, kV, doc, pm, an, cdv, ct, osl, rfl, l, c⟩, k⟩
end
theorem small1000 {n : Nat} (h : n ≤ 1000) : n < sizeLine := Nat.lt_of_le_of_lt h (by decide)

/-! ### expressions in short: the name that stands in the i-th slot -/
section
variable {X : Cx}
theorem pv (i : Nat) {x : Str} {pos : Pos} (hN : X.N[i]? = some x := by rfl) (hv : Vis X.env.scope x := by first | exact Or.inl rfl | exact Or.inr (Or.inl rfl) | exact Or.inr (Or.inr rfl)) (hd : (x == ("__debug__" : Str)) = false := by decide)
    (hcd : (x == ("__classdict__" : Str)) = false := by decide) : PE X (.Name x pos) (tVar i) := pe_var hN hv hd hcd
end

/-! ### tests -/
theorem iteF {A B : Prop} (h : B) : if false = true then A else B := by
  rw [if_neg Bool.false_ne_true]
  exact h
theorem iteT {A B : Prop} (h : A) : if true = true then A else B := by
  rw [if_pos rfl]
  exact h
theorem ite2 {c A B : Prop} [Decidable c] (h1 : c → A) (h2 : ¬ c → B) : if c then A else B := by
  by_cases h : c
  · rw [if_pos h]
    exact h1 h
  · rw [if_neg h]
    exact h2 h
/-! ### heaps -/
/-- all that was tracked is as it was -/
def Same (H H' : Hp) : Prop := ∀ b o, H b = some o → H' b = some o
theorem Same.refl (H : Hp) : Same H H := fun _ _ h => h
theorem Same.trans {H H1 H2 : Hp} (a : Same H H1) (b : Same H1 H2) : Same H H2 := fun c o h => b c o (a c o h)
theorem Same.free {H H' : Hp} (e : Same H H') {l : Addr} (h : H' l = Option.none) : H l = Option.none := by
  cases q : H l with
  | none => rfl
  | some o =>
    rw [e l o q] at h
    cases h
theorem Same.seq {K : PySem.W.Frag} {H H' : Hp} {a : Addr} {xs : List V} (e : Same H H') (h : SqL K H a xs) : SqL K H' a xs := by
  rcases h with (h | ⟨o, h⟩) | h
  · exact .inl (.inl (e _ _ h))
  · exact .inl (.inr ⟨o, e _ _ h⟩)
  · exact .inr h

end L2

set_option Elab.async false
set_option linter.all false
set_option maxRecDepth 100000
/-! THE HAND LAYER, for ints, bools, texts, own classes, DICTS (int and text keys), calls, loops. Paste it whole ahead of your own text; what your proof does not reach may be deleted. -/
namespace L2
open PySem PySem.Spec PyProof.Rows

end L2

namespace L2
open PySem PySem.Spec PyProof.Rows

section
variable (P : Program) (w : World)
end

section
variable {P : Program} {w : World} {H H' : Hp} {h h' : Heap} {a : Addr} {o : HO}
end

section
variable {P : Program} {w : World} {H : Hp} {h h' : Heap} {x e : Addr} {o' : HO}
end

/-! ### kept unless tracked; of the frames at fs (the callers') the slots may change (an exception that passes writes there); of the records at ex (iterators) nothing is said -/
section
variable {fs fs' ex ex' : List Addr} {H H1 H2 : Hp} {h h1 h2 h' : Heap} {a x e : Addr} {o : HO}
end

/-! ### the heap without what is tracked -/
/-! ### OpenK's ledger, filled with every new object but one -/
end L2

namespace L2
open PySem PySem.Spec PyProof.Rows

section
variable {X : Cx} {pins : List (Addr × Obj)} {σ : List (Option V)} {H H' : Hp} {s : Shared} {h' : Heap}

end

/-! ### the judgements -/
end L2

namespace L2
open PySem PySem.Spec PyProof.Rows
section
variable {X : Cx}

/-! ### names and constants -/
/-! ### arithmetic -/
variable {a b : Expr} {ta tb : TE} {pos : Pos}
/-! ### comparisons -/
/-! ### and, or, not -/
variable {tA tB' : TT} {rest : List Expr}
end
end L2

namespace L2
open PySem PySem.Spec PyProof.Rows

/-! ### a list, a tuple that is read: tracked, frozen, or an object of the module -/
section
variable {X : Cx} {pins : List (Addr × Obj)} {σ : St} {H : Hp} {s : Shared} {a : Addr} {xs ys : List V}
end

/-! ### another wish about exceptions -/
section
variable {X : Cx} {pins : List (Addr × Obj)} {σ : St} {H : Hp} {s : Shared} {E : Value → Shared → Prop}
end

/-! ### blocks and small statements -/
section
variable {X : Cx} {st : Stmt} {rest : List Stmt} {t u : TS} {e : Expr} {te : TE} {pos : Pos}
end

/-! ### targets -/
section
variable {X : Cx} {pos : Pos}
end

/-! ### while -/
section
variable {X : Cx} {pos : Pos}
end

/-! ### what a loop or a comprehension walks -/
end L2

namespace L2
open PySem PySem.Spec PyProof.Rows
section
variable {X : Cx} {tg : Expr}
/-! ### for -/
end

/-! ### the forms one uses -/
end L2

namespace L2
open PySem PySem.Spec PyProof.Rows

section
variable {X : Cx} {a b c : Expr} {ta tb tc : TE} {pos : Pos}

/-! ### ints -/
/-! ### bools among ints: n += (a < b) -/
end

/-! ### comparisons -/
section
variable {X : Cx} {a b c : Expr} {ta tb tc : TE} {pos : Pos}
/-! ### truth -/
/-! ### strs and bytes -/
/-! ### scalar builtins, by CallR -/
end
end L2

namespace L2
open PySem PySem.Spec PyProof.Rows

/-! ### an instance, its attributes a map -/
section
variable {prog : Program} {w : World} {A : Around} {E : Value → Shared → Prop} {s : Shared} {K : PySem.W.Frag} {x dx C f : Addr} {mA : Str → Option Value} {name : Str} {v : Value}

end

/-! ### the attributes as a list of pairs -/
section
variable {P : Program} {w : World} {H H' : Hp} {h h' : Heap} {a C dx : Addr} {fs fs' : List (Str × V)}
end

/-! ### what of the text a class must have -/
section
variable {X : Cx} {pins : List (Addr × Obj)} {σ : St} {H : Hp} {s : Shared} {a C dx : Addr} {fs : List (Str × V)} {f : Str} {v : V} {A : Around} {E : Value → Shared → Prop}

end

/-! ### readings and rules -/
section
variable {X : Cx} {o e value : Expr} {f : Str} {pos pos' tpos : Pos} {ta tv : TE}
end

/-! ### isinstance -/
section
variable {X : Cx} {pins : List (Addr × Obj)} {σ : St} {H : Hp} {s : Shared} {A : Around} {E : Value → Shared → Prop} {Q : Value → Shared → Prop} {c : Value} {b : Bool}
end
end L2

namespace L2
open PySem PySem.Spec PyProof.Rows

/-! ### room -/
/-! ### argument lists and displays -/
section
variable {X : Cx} {e : Expr} {es : List Expr} {te : TE} {t : TA} {pos : Pos}
end

/-! ### what a def promises -/
section
variable {X : Cx} {pins : List (Addr × Obj)} {σ : St} {H : Hp} {s s' : Shared}
end

/-! ### calls -/
section
variable {X : Cx} {CX : CXT} {k : Nat} {f C : Addr} {fd : FuncData} {ps : List Str} {sp : Sp} {dvs : List V} {ds : List Value} {E : XK} {x m : Str} {p pos apos : Pos} {e o : Expr} {es : List Expr} {ta : TE} {t : TA}

end

/-! ### keywords -/
section
variable {X : Cx} {CX : CXT} {k : Nat} {f C : Addr} {fd : FuncData} {ps ks : List Str} {sp : Sp} {E : XK} {x m : Str} {p pos apos kpos : Pos} {e o : Expr} {es : List Expr} {kws : List Keyword} {te ta : TE} {t tk : TA} {nm : Option Str}
variable {g : List Value → List Value → List Value} {gV : List V → List V → List V}
end

/-! ### a def's body keeps its promise -/
end L2

namespace L2
open PySem PySem.Spec PyProof.Rows
section
variable {X : Cx} {x : Str} {p pos : Pos} {e : Expr} {es : List Expr} {t : TA} {id T : String} {r : List V → Hp → VK → Prop}

end
end L2

namespace L2
open PySem PySem.Spec PyProof.Rows

/-! ### lists of pairs as tables -/
section
variable {κ : Type} [DecidableEq κ]
def valV (kvs : List (κ × V)) (k : κ) : Option V := (kvs.find? fun kv => decide (kv.1 = k)).map (·.2)
/-- in its place, or at the end -/
def putK (kvs : List (κ × V)) (k : κ) (v : V) : List (κ × V) :=
  if (kvs.any fun kv => decide (kv.1 = k)) = true then kvs.map (fun kv => if kv.1 = k then (kv.1, v) else kv) else kvs ++ [(k, v)]
def dropK (kvs : List (κ × V)) (k : κ) : List (κ × V) := kvs.filter fun kv => decide (kv.1 ≠ k)

theorem valV_pos {p : κ × V} {r : List (κ × V)} {k : κ} (e : p.1 = k) : valV (p :: r) k = some p.2 := by simp [valV, List.find?_cons, e]
theorem valV_neg {p : κ × V} {r : List (κ × V)} {k : κ} (e : ¬ p.1 = k) : valV (p :: r) k = valV r k := by simp [valV, List.find?_cons, e]
theorem valV_any (k : κ) : ∀ kvs : List (κ × V), (kvs.any fun kv => decide (kv.1 = k)) = (valV kvs k).isSome
  | [] => rfl
  | p :: r => by
    rw [List.any_cons]
    by_cases e : p.1 = k
    · simp only [valV_pos e, decide_eq_true e, Bool.true_or, Option.isSome_some]
    · rw [valV_neg e, decide_eq_false e, Bool.false_or]; exact valV_any k r
theorem RelO.isSome_eq {o : Option V} {u : Option Value} (r : RelO o u) : o.isSome = u.isSome := by
  cases o with
  | none => cases u with
    | none => rfl
    | some _ => exact (show False from r).elim
  | some _ => cases u with
    | none => exact (show False from r).elim
    | some _ => rfl
theorem RelO.getD {o : Option V} {u : Option Value} {d : V} {d' : Value} (r : RelO o u) (rd : RelV d d') : RelV (o.getD d) (u.getD d') := by
  cases o with
  | none => cases u with
    | none => exact rd
    | some _ => exact (show False from r).elim
  | some _ => cases u with
    | none => exact (show False from r).elim
    | some _ => exact r

/-- raw tables of the same keys -/
theorem KV.val {kvs : List (κ × V)} {vs : List (κ × Value)} (r : KV kvs vs) (k : κ) : RelO (valV kvs k) (valueAt vs k) := by
  unfold KV at r
  induction r with
  | nil => exact True.intro
  | @cons p q ps qs h t ih =>
    obtain ⟨h1, h2⟩ := h
    by_cases e : p.1 = k
    · have e' : q.1 = k := h1.symm.trans e
      have b : valueAt (q :: qs) k = some q.2 := by simp [valueAt, List.find?_cons, e']
      rw [valV_pos e, b]; exact h2
    · have e' : ¬ q.1 = k := fun z => e (h1.trans z)
      have b : valueAt (q :: qs) k = valueAt qs k := by simp [valueAt, List.find?_cons, e']
      rw [valV_neg e, b]; exact ih
theorem KV.any {kvs : List (κ × V)} {vs : List (κ × Value)} (r : KV kvs vs) (k : κ) : (kvs.any fun kv => decide (kv.1 = k)) = vs.any fun kv => decide (kv.1 = k) := by
  unfold KV at r
  induction r with
  | nil => rfl
  | cons h t ih => rw [List.any_cons, List.any_cons, ih, h.1]
theorem KV.repl {kvs : List (κ × V)} {vs : List (κ × Value)} (r : KV kvs vs) (k : κ) {y : V} {u : Value} (ry : RelV y u) :
    KV (kvs.map fun kv => if kv.1 = k then (kv.1, y) else kv) (vs.map fun kv => if kv.1 = k then (kv.1, u) else kv) := by
  unfold KV at r ⊢
  induction r with
  | nil => exact .nil
  | @cons p q ps qs h t ih =>
    rw [List.map_cons, List.map_cons]
    refine .cons ?_ ih
    obtain ⟨h1, h2⟩ := h
    by_cases e : p.1 = k
    · rw [if_pos e, if_pos (h1.symm.trans e)]; exact ⟨h1, ry⟩
    · rw [if_neg e, if_neg (fun z => e (h1.trans z))]; exact ⟨h1, h2⟩
theorem KV.put {kvs : List (κ × V)} {vs : List (κ × Value)} (r : KV kvs vs) (k : κ) {y : V} {u : Value} (ry : RelV y u) : KV (putK kvs k y) (stored vs k u) := by
  unfold putK stored
  rw [r.any k]
  by_cases e : (vs.any fun kv => decide (kv.1 = k)) = true
  · rw [if_pos e, if_pos e]; exact r.repl k ry
  · rw [if_neg e, if_neg e]; exact Paired.snoc r ⟨rfl, ry⟩
theorem KV.drop {kvs : List (κ × V)} {vs : List (κ × Value)} (r : KV kvs vs) (k : κ) : KV (dropK kvs k) (without vs k) := by
  unfold KV at r ⊢
  unfold dropK without
  induction r with
  | nil => exact .nil
  | @cons p q ps qs h t ih =>
    obtain ⟨h1, h2⟩ := h
    rw [List.filter_cons, List.filter_cons]
    by_cases e : p.1 = k
    · have a : ¬ decide (p.1 ≠ k) = true := by simp [e]
      have b : ¬ decide (q.1 ≠ k) = true := by simp [h1.symm.trans e]
      rw [if_neg a, if_neg b]; exact ih
    · have e' : ¬ q.1 = k := fun z => e (h1.trans z)
      have a : decide (p.1 ≠ k) = true := by simp [e]
      have b : decide (q.1 ≠ k) = true := by simp [e']
      rw [if_pos a, if_pos b]; exact .cons ⟨h1, h2⟩ ih
theorem KV.keys {kvs : List (κ × V)} {vs : List (κ × Value)} (r : KV kvs vs) : kvs.map (·.1) = vs.map (·.1) := by
  unfold KV at r
  induction r with
  | nil => rfl
  | cons h t ih => rw [List.map_cons, List.map_cons, ih, h.1]
theorem KV.length {kvs : List (κ × V)} {vs : List (κ × Value)} (r : KV kvs vs) : kvs.length = vs.length := Paired.length r
end


/-- raw entries of a dict with tuple keys -/
abbrev KT (H : Hp) : List (List Key × V) → List (List Key × Addr × Value) → Prop := Paired fun p q => p.1 = q.1 ∧ H q.2.1 = some (.tup (p.1.map kV)) ∧ RelV p.2 q.2.2
theorem KT.val {H : Hp} {kvs : List (List Key × V)} {xs : List (List Key × Addr × Value)} (r : KT H kvs xs) (k : List Key) : RelO (valV kvs k) ((atKey xs k).map (·.2)) := by
  induction r with
  | nil => exact True.intro
  | @cons p q ps qs h t ih =>
    obtain ⟨h1, _, h2⟩ := h
    by_cases e : p.1 = k
    · have e' : q.1 = k := h1.symm.trans e
      have b : atKey (q :: qs) k = some q.2 := by simp [atKey, List.find?_cons, e']
      rw [valV_pos e, b]; exact h2
    · have e' : ¬ q.1 = k := fun z => e (h1.trans z)
      have b : atKey (q :: qs) k = atKey qs k := by simp [atKey, List.find?_cons, e']
      rw [valV_neg e, b]; exact ih
theorem KT.repl {H : Hp} {kvs : List (List Key × V)} {xs : List (List Key × Addr × Value)} (r : KT H kvs xs) (k : List Key) {y : V} {u : Value} (ry : RelV y u) :
    KT H (kvs.map fun kv => if kv.1 = k then (kv.1, y) else kv) (xs.map (putAt k u)) := by
  induction r with
  | nil => exact .nil
  | @cons p q ps qs h t ih =>
    rw [List.map_cons, List.map_cons]
    refine .cons ?_ ih
    obtain ⟨h1, h2, h3⟩ := h
    unfold putAt
    by_cases e : p.1 = k
    · rw [if_pos e, if_pos (h1.symm.trans e)]; exact ⟨h1, h2, ry⟩
    · rw [if_neg e, if_neg (fun z => e (h1.trans z))]; exact ⟨h1, h2, h3⟩
theorem KT.put {H : Hp} {kvs : List (List Key × V)} {xs : List (List Key × Addr × Value)} (r : KT H kvs xs) (k : List Key) {b : Addr} {y : V} {u : Value} (hb : H b = some (.tup (k.map kV))) (ry : RelV y u) :
    KT H (putK kvs k y) (storedH xs k b u) := by
  have e : (kvs.any fun kv => decide (kv.1 = k)) = (atKey xs k).isSome := by
    rw [valV_any, (r.val k).isSome_eq, Option.isSome_map]
  unfold putK storedH
  rw [e]
  by_cases q : (atKey xs k).isSome = true
  · rw [if_pos q, if_pos q]; exact r.repl k ry
  · rw [if_neg q, if_neg q]; exact Paired.snoc r ⟨rfl, hb, ry⟩
theorem KT.keeps {H H' : Hp} {kvs : List (List Key × V)} {xs : List (List Key × Addr × Value)} (r : KT H kvs xs) (ht : ∀ b ys, H b = some (.tup ys) → H' b = some (.tup ys)) : KT H' kvs xs :=
  Paired.mapP r fun _ _ z => ⟨z.1, ht _ _ z.2.1, z.2.2⟩

section
variable {P : Program} {w : World} {H : Hp} {h : Heap} {a : Addr}
end

/-- what the dict at a holds at the key y -/
def DGet (H : Hp) (a : Addr) (y : V) (r : Option V) : Prop :=
  (∃ kvs k, Rd H a (.dK kvs) ∧ y = kV k ∧ r = valV kvs k) ∨ ∃ kvs k b, Rd H a (.dT kvs) ∧ y = .ref b ∧ H b = some (.tup (k.map kV)) ∧ r = valV kvs k
/-- the heap behind a[y] = v -/
def DPut (H : Hp) (a : Addr) (y v : V) (H' : Hp) : Prop :=
  (∃ kvs k, H a = some (.dK kvs) ∧ y = kV k ∧ kvs.length < sizeLine ∧ H' = upd H a (.dK (putK kvs k v))) ∨
  ∃ kvs k b, H a = some (.dT kvs) ∧ y = .ref b ∧ H b = some (.tup (k.map kV)) ∧ kvs.length < sizeLine ∧ H' = upd H a (.dT (putK kvs k v))
theorem DGet.k {H : Hp} {a : Addr} {kvs : List (Key × V)} {k : Key} (e : H a = some (.dK kvs)) : DGet H a (kV k) (valV kvs k) := .inl ⟨kvs, k, .inl e, rfl, rfl⟩
theorem DGet.t {H : Hp} {a b : Addr} {kvs : List (List Key × V)} {k : List Key} (e : H a = some (.dT kvs)) (eb : H b = some (.tup (k.map kV))) : DGet H a (.ref b) (valV kvs k) := .inr ⟨kvs, k, b, .inl e, rfl, eb, rfl⟩
theorem DPut.k {H : Hp} {a : Addr} {kvs : List (Key × V)} {k : Key} {v : V} (e : H a = some (.dK kvs)) (hl : kvs.length < sizeLine) : DPut H a (kV k) v (upd H a (.dK (putK kvs k v))) := .inl ⟨kvs, k, e, rfl, hl, rfl⟩
theorem DPut.t {H : Hp} {a b : Addr} {kvs : List (List Key × V)} {k : List Key} {v : V} (e : H a = some (.dT kvs)) (eb : H b = some (.tup (k.map kV))) (hl : kvs.length < sizeLine) :
    DPut H a (.ref b) v (upd H a (.dT (putK kvs k v))) := .inr ⟨kvs, k, b, e, rfl, eb, hl, rfl⟩


section
variable {X : Cx} {pins : List (Addr × Obj)} {σ : St} {H : Hp} {s : Shared} {a : Addr} {y v : V} {u r : Value} {o : Option V} {A : Around} {E : Value → Shared → Prop}

theorem Inv.big (I : Inv X pins σ H s) : sysModules < s.heap.objs.size := by
  have h : mainGlobals < s.heap.objs.size := (I.mod.glob.keeps I.bk).lt
  exact Nat.lt_trans (by decide) h

end

section
variable {X : Cx} {pins : List (Addr × Obj)} {σ : St} {H : Hp} {s : Shared} {a : Addr} {kvs : List (Key × V)} {k : Key} {u : Value} {A : Around} {E : Value → Shared → Prop}
end


section
variable {X : Cx} {o i e value : Expr} {pos pos' tpos : Pos} {td ty tv : TE}
end


section
variable {X : Cx} {pos : Pos}
end

/-! ### methods -/
/-- a method call o.m(e) of a built-in, with one argument: what must be seen of the text -/
structure M1 (X : Cx) (o : Expr) (m : Str) (apos : Pos) (e : Expr) (cpos : Pos) : Prop where
  base : attributeBase o m X.env (eval o X.env) = eval o X.env
  few : ((backTo cpos (starEach [e] X.env)).all (fun x => !x.1) && (backToKw cpos (keywordEach [] X.env)).all (fun x => x.1.isSome)
    && decide (([e] : List Expr).length + ([] : List Keyword).length + (if ([] : List Keyword).isEmpty then 0 else 1) < 30)) = true
  line : (apos.endLine == cpos.line) = true
  trees : backTo cpos (starEach [e] X.env) = [(false, eval e X.env)]
structure M2 (X : Cx) (o : Expr) (m : Str) (apos : Pos) (e f : Expr) (cpos : Pos) : Prop where
  base : attributeBase o m X.env (eval o X.env) = eval o X.env
  few : ((backTo cpos (starEach [e, f] X.env)).all (fun x => !x.1) && (backToKw cpos (keywordEach [] X.env)).all (fun x => x.1.isSome)
    && decide (([e, f] : List Expr).length + ([] : List Keyword).length + (if ([] : List Keyword).isEmpty then 0 else 1) < 30)) = true
  line : (apos.endLine == cpos.line) = true
  trees : backTo cpos (starEach [e, f] X.env) = [(false, eval e X.env), (false, eval f X.env)]

section
variable {X : Cx} {pins : List (Addr × Obj)} {σ : St} {H : Hp} {s : Shared} {a : Addr} {y d : V} {u r : Value} {o : Option V} {A : Around} {E : Value → Shared → Prop}
end

section
variable {X : Cx} {o e f : Expr} {apos cpos : Pos} {td ty tx : TE}
end

/-! ### dict(d): a copy -/
section
variable {X : Cx} {pins : List (Addr × Obj)} {σ : St} {H : Hp} {s : Shared} {a : Addr} {kvs : List (Key × V)} {A : Around} {E : Value → Shared → Prop}
end


section
variable {X : Cx} {pins : List (Addr × Obj)} {σ : St} {H : Hp} {s : Shared} {a : Addr} {y : V} {u : Value} {A : Around} {E : Value → Shared → Prop}
end
end L2

namespace Att
open PySem PySem.W PySem.Calls PyProof.Rows

/-! ### the script -/
/-! ### the attachment: holds_open's last premise (the goal 'hc' behind k_head) from a wpAny of the law's body -/
/-! ### rules over ANY heap (no ledger) from facts about the written part K: the library's own take a ledger (News) for what they write -/
section
variable {prog : Program} {w : World} {A : Around} {E : Value → Shared → Prop} {s : Shared} {K : Frag}

/-! the whole heap as the ledger: makes every rule that writes through a ledger a rule over any heap -/
end
end Att

namespace L2
open PySem PySem.Spec PyProof.Rows

end L2

namespace L2
open PySem PySem.Spec PyProof.Rows

/-! SHORT WORDS over the layer: a def of the text, its body, what a loop and a test want. -/

open PySem PySem.Spec PyProof.Rows

/-! ### the text by places -/
/-! ### no exception leaves a def -/
/-! ### a def (or method) of the text as it stands behind the top -/
section
variable {P : Program} {w : World} {K : PySem.W.Frag} {mg : Str → Option Value} {base : Heap}
end
/-! ### expressions in short: the name that stands in the i-th slot -/
section
variable {X : Cx}
end

/-! ### tests -/
/-! ### heaps -/
/-! ### a dict's pairs: keys that differ -/
section
variable {κ : Type} [DecidableEq κ]
end
end L2

set_option Elab.async false
set_option linter.all false
set_option maxRecDepth 100000
set_option maxHeartbeats 4000000
namespace L2
open PySem PySem.Spec PyProof.Rows
section
variable {X : Cx}
def CDivL (i j : Int) : Prop := 0 < j ∧ j.natAbs.log2 < 9000
theorem op_fdivL : OpR X (binaryOp .FloorDiv) (rI CDivL fun i j => .int (i / j)) := opI fun i j _ _ _ _ _ hc q => by
  have h1 : (0 : Int) < j := hc.1
  exact floordiv_int (by omega) (by rw [Int.fdiv_eq_ediv_of_nonneg i (by omega)]; exact q) (.inl (PyProof.noPylong_of_log2 hc.2))
theorem call_isinst {T : String} : CallR X (.builtin "isinstance") (fun xs H Q => ∃ x t b, xs = [x, .ty T] ∧ TyOf X.K H x t ∧ PySem.W.kitOne X.K t (.type T) = some b ∧ Q (.bl b) H) := by
  intro pins s σ H xs us Q I r h
  obtain ⟨x, t, b, rfl, ty, e, q⟩ := h
  obtain ⟨u, w', rfl, r1, r2⟩ := vals2 r
  cases (show w' = .type T from r2)
  exact isinst_ok I r1 ty e fun tk => ⟨.bl b, H, I.tok _, rfl, q⟩
end
end L2

set_option Elab.async false
set_option linter.all false
set_option maxRecDepth 100000
set_option maxHeartbeats 4000000
namespace L2
open PySem PySem.Spec PyProof.Rows
section
variable {X : Cx}
/-- the cells that a comprehension's block takes over -/
theorem clos_go (env : Env) : ∀ (names : List (Str × NameKind)) (acc : List (Str × Addr)), (∀ y ∈ names, y.2 = .free → ∃ c, env.cells.lookup y.1 = some c) → (∀ y c, acc.lookup y = some c → env.cells.lookup y = some c) →
    ∃ cl, (forIn names acc fun (x : Str × NameKind) (r : List (Str × Addr)) => if (x.2 == NameKind.free) = true then (do let c ← cellOf env x.1; pure (ForInStep.yield ((x.1, c) :: r))) else pure (ForInStep.yield r) : Sem _) = pure cl ∧
      (∀ y c, cl.lookup y = some c → env.cells.lookup y = some c) ∧ (∀ y, (y, NameKind.free) ∈ names → (cl.lookup y).isSome = true) ∧ (∀ y, (acc.lookup y).isSome = true → (cl.lookup y).isSome = true)
  | [], acc, _, h => ⟨acc, by simp, h, fun y z => absurd z (by simp), fun _ z => z⟩
  | (n, k) :: r, acc, hf, h => by
    by_cases hk : k = .free
    · subst hk
      obtain ⟨c, hc⟩ := hf (n, .free) List.mem_cons_self rfl
      obtain ⟨cl, e, h1, h2, h3⟩ := clos_go env r ((n, c) :: acc) (fun y hy => hf y (List.mem_cons_of_mem _ hy)) (fun y d hd => by
        rw [List.lookup_cons] at hd
        cases z : y == n with
        | true =>
          rw [z] at hd
          have : y = n := by simpa using z
          subst this
          cases hd
          exact hc
        | false => rw [z] at hd; exact h y d hd)
      have hin : ∀ y, (((n, c) :: acc).lookup y).isSome = true ∨ True := fun _ => .inr trivial
      refine ⟨cl, ?_, h1, fun y hy => ?_, fun y hy => h3 y ?_⟩
      · rw [List.forIn_cons]
        have e0 : cellOf env n = pure c := by unfold cellOf; rw [hc]
        simp only [beq_self_eq_true, if_true, e0, pure_bind]
        exact e
      · rcases List.mem_cons.mp hy with z | z
        · cases z
          exact h3 _ (by rw [List.lookup_cons]; simp)
        · exact h2 y z
      · rw [List.lookup_cons]
        cases y == n with
        | true => rfl
        | false => exact hy
    · obtain ⟨cl, e, h1, h2, h3⟩ := clos_go env r acc (fun y hy => hf y (List.mem_cons_of_mem _ hy)) h
      refine ⟨cl, ?_, h1, fun y hy => ?_, h3⟩
      · rw [List.forIn_cons]
        have hb : (k == NameKind.free) = false := by simpa using hk
        simp only [hb, Bool.false_eq_true, if_false, pure_bind]
        exact e
      · rcases List.mem_cons.mp hy with z | z
        · cases z; exact absurd rfl hk
        · exact h2 y z
theorem clos_ok {scope : Scope} {env : Env} (hf : ∀ y ∈ scope.names, y.2 = .free → ∃ c, env.cells.lookup y.1 = some c) : ∃ cl, closureFor scope env = pure cl ∧ (∀ y c, cl.lookup y = some c → env.cells.lookup y = some c) ∧ (∀ y, (y, NameKind.free) ∈ scope.names → (cl.lookup y).isSome = true) := by
  obtain ⟨cl, e, h1, h2, _⟩ := clos_go env scope.names [] hf (fun y c h => by cases h)
  refine ⟨cl, ?_, h1, h2⟩
  unfold closureFor
  simp only [bind_pure]
  exact e
end
end L2
namespace L2
open PySem PySem.Spec PyProof.Rows
section
variable {X : Cx}
def tYes : TT := fun _ H Q => Q true H
/-- a comprehension's tests -/
def PIf (X : Cx) (ifs : List Expr) (t : TT) : Prop :=
  ∀ (pins : List (Addr × Obj)) (s : Shared) (σ : St) (H : Hp) (Q : Bool → Hp → Prop), Inv X pins σ H s → t σ H Q →
    wpAny (model X.prog X.w) X.A (forIn ifs true fun c r => if r = true then do let ok ← isTrue c X.env (eval c X.env); pure (ForInStep.yield ok) else pure (ForInStep.yield r)) (TP X pins σ Q) X.xe s
theorem pif_nil : PIf X [] tYes := fun pins s σ H Q I h => wpAny_tests_nil ⟨H, I, h⟩
theorem relabel_kind {names : List (Str × NameKind)} {env : Env} {x : Str} {k : NameKind} (hc : ∀ y ∈ names, y.2 ≠ .cell) (h : (names.map fun (n, k) => if (k == NameKind.free && env.scope.kind == .function && env.kindOf n == some .cell) then (n, NameKind.cell) else (n, k)).lookup x = some k) :
    (k = .cell ∨ k = .free) → names.lookup x = some .free ∧ (k = .cell → env.kindOf x = some .cell) := by
  induction names with
  | nil => cases h
  | cons p r ih =>
    obtain ⟨n, k0⟩ := p
    intro hk
    have h : List.lookup x ((if (k0 == NameKind.free && env.scope.kind == .function && env.kindOf n == some .cell) = true then (n, NameKind.cell) else (n, k0)) :: _) = some k := h
    by_cases c : (k0 == NameKind.free && env.scope.kind == .function && env.kindOf n == some .cell) = true
    · rw [if_pos c] at h
      rw [List.lookup_cons] at h ⊢
      cases z : x == n with
      | true =>
        have e : x = n := by simpa using z
        subst e
        simp only [Bool.and_eq_true, beq_iff_eq] at c
        exact ⟨by rw [c.1.1], fun _ => c.2⟩
      | false => rw [z] at h; exact ih (fun y hy => hc y (List.mem_cons_of_mem _ hy)) h hk
    · rw [if_neg c] at h
      rw [List.lookup_cons] at h ⊢
      cases z : x == n with
      | true =>
        rw [z] at h
        have e : k0 = k := Option.some.inj h
        subst e
        rcases hk with rfl | rfl
        · exact absurd rfl (hc (n, .cell) List.mem_cons_self)
        · exact ⟨rfl, fun z => by cases z⟩
      | false => rw [z] at h; exact ih (fun y hy => hc y (List.mem_cons_of_mem _ hy)) h hk
end
end L2

set_option Elab.async false
set_option linter.all false
set_option maxRecDepth 100000
set_option maxHeartbeats 4000000
namespace L2
open PySem PySem.Spec PyProof.Rows
section
variable {X : Cx}
theorem relabel_local {names : List (Str × NameKind)} {env : Env} {x : Str} (h : (names.map fun (n, k) => if (k == NameKind.free && env.scope.kind == .function && env.kindOf n == some .cell) then (n, NameKind.cell) else (n, k)).lookup x = some .local) :
    names.lookup x = some .local := by
  induction names with
  | nil => cases h
  | cons p r ih =>
    obtain ⟨n, k0⟩ := p
    have h : List.lookup x ((if (k0 == NameKind.free && env.scope.kind == .function && env.kindOf n == some .cell) = true then (n, NameKind.cell) else (n, k0)) :: _) = some .local := h
    by_cases c : (k0 == NameKind.free && env.scope.kind == .function && env.kindOf n == some .cell) = true
    · rw [if_pos c] at h
      rw [List.lookup_cons] at h ⊢
      cases z : x == n with
      | true => rw [z] at h; cases h
      | false => rw [z] at h; exact ih h
    · rw [if_neg c] at h
      rw [List.lookup_cons] at h ⊢
      cases z : x == n with
      | true => rw [z] at h; exact h
      | false => rw [z] at h; exact ih h
end
end L2

set_option Elab.async false
set_option linter.all false
set_option maxRecDepth 100000
set_option maxHeartbeats 4000000
namespace L2
open PySem PySem.Spec PyProof.Rows
/-- what a value holds, at any depth -/
inductive DI (K : PySem.W.Frag) (H : Hp) : V → PyData → Prop where
  | non : DI K H .non .none
  | bl (b : Bool) : DI K H (.bl b) (.bool b)
  | int (i : Int) : DI K H (.int i) (.int i)
  | str (x : Str) : DI K H (.str x) (.str x)
  | tup {a : Addr} {xs : List V} {ds : List PyData} : SqT K H a xs → xs.length = ds.length → (∀ (i : Nat) (x : V) (d : PyData), xs[i]? = some x → ds[i]? = some d → DI K H x d) → DI K H (.ref a) (.tuple ds)
  | lst {a : Addr} {xs : List V} {ds : List PyData} : SqL K H a xs → xs.length = ds.length → (∀ (i : Nat) (x : V) (d : PyData), xs[i]? = some x → ds[i]? = some d → DI K H x d) → DI K H (.ref a) (.list ds)
section
variable {X : Cx} {pins : List (Addr × Obj)} {σ : St} {H : Hp} {s : Shared}
theorem readsAll_of : ∀ {us : List Value} {ds : List PyData} {xs : List V}, Vals xs us → xs.length = ds.length → (∀ (i : Nat) (x : V) (d : PyData) (u : Value), xs[i]? = some x → ds[i]? = some d → RelV x u → ∃ as, Reads s.heap u d as) → ∃ as, ReadsAll s.heap us ds as
  | _, ds, _, .nil, hl, _ => by
    cases ds with
    | nil => exact ⟨_, .nil⟩
    | cons d r => cases hl
  | _, ds, _, .cons (a := x) r t, hl, h => by
    cases ds with
    | nil => cases hl
    | cons d rest =>
      obtain ⟨as, ra⟩ := h 0 x d _ rfl rfl r
      obtain ⟨bs, rb⟩ := readsAll_of t (by simpa using hl) (fun i y e u h1 h2 h3 => h (i + 1) y e u (by simpa using h1) (by simpa using h2) h3)
      exact ⟨_, .cons ra rb⟩
theorem DI.reads (I : Inv X pins σ H s) {x : V} {d : PyData} (h : DI X.K H x d) : ∀ {u : Value}, RelV x u → ∃ as, Reads s.heap u d as := by
  induction h with
  | non => intro u r; cases r; exact ⟨_, .none⟩
  | bl b => intro u r; cases r; exact ⟨_, .bool b⟩
  | int i => intro u r; obtain ⟨t, rfl⟩ := r; exact ⟨_, .int i t⟩
  | str x => intro u r; obtain ⟨t, rfl⟩ := r; exact ⟨_, .str x t⟩
  | tup hq hl _ ih =>
    intro u r
    cases r
    obtain ⟨its, rv, ⟨o, e, c, n, hd⟩, _⟩ := I.tuple hq
    obtain ⟨as, ra⟩ := readsAll_of (s := s) rv hl (fun i y d u h1 h2 h3 => ih i y d h1 h2 h3)
    exact ⟨_, .tuple e c hd (by simpa using ra)⟩
  | lst hq hl _ ih =>
    intro u r
    cases r
    obtain ⟨its, rv, pl, _⟩ := I.list hq
    obtain ⟨o, e, c, n, hd⟩ := pl.isList
    obtain ⟨as, ra⟩ := readsAll_of (s := s) rv hl (fun i y d u h1 h2 h3 => ih i y d h1 h2 h3)
    exact ⟨_, .list e c hd (by simpa using ra)⟩
def rEqD (K : PySem.W.Frag) (g : Bool → Bool) : R2 := fun x y H Q => ∃ dx dy, DI K H x dx ∧ DI K H y dy ∧ dx.canLay0 = true ∧ dy.canLay0 = true ∧ dx.depth ≤ 60 ∧ Q (.bl (g (PyData.eqv dx dy))) H
theorem op_eqD {k : Nat} (hr : Room k X.A) : OpR X (compareOp .Eq) (rEqD X.K fun b => b) := by
  intro pins s σ H x y v u Q I rx ry h
  obtain ⟨dx, dy, hx, hy, cx, cy, hd, q⟩ := h
  obtain ⟨as, ra⟩ := hx.reads I rx
  obtain ⟨bs, rb⟩ := hy.reads I ry
  have hu := hr.units
  exact SeqAt.compareEq_reads ra rb cx cy (by omega) ⟨.bl _, H, I, rfl, q⟩
theorem op_neD {k : Nat} (hr : Room k X.A) : OpR X (compareOp .NotEq) (rEqD X.K fun b => !b) := by
  intro pins s σ H x y v u Q I rx ry h
  obtain ⟨dx, dy, hx, hy, cx, cy, hd, q⟩ := h
  obtain ⟨as, ra⟩ := hx.reads I rx
  obtain ⟨bs, rb⟩ := hy.reads I ry
  have hu := hr.units
  exact SeqAt.compareNe_reads ra rb cx cy (by omega) ⟨.bl _, H, I, rfl, q⟩
theorem op_isnotB : OpR X (compareOp .IsNot) (fun x y H Q => ∃ b c, x = .bl b ∧ y = .bl c ∧ Q (.bl (!(b == c))) H) := by
  intro pins s σ H x y v u Q I rx ry h
  obtain ⟨b, c, rfl, rfl, q⟩ := h
  cases rx; cases ry
  refine wpAny_isNot_plain rfl ⟨.bl _, H, I, ?_, q⟩
  show Value.bool (!(Value.bool b == Value.bool c)) = Value.bool (!(b == c))
  cases b <;> cases c <;> rfl
end
end L2

set_option Elab.async false
set_option linter.all false
set_option maxRecDepth 100000
set_option maxHeartbeats 4000000
namespace L2
open PySem PySem.Spec PyProof.Rows
section
variable {X : Cx}
theorem range_all_get (bs : List Bool) : (List.range bs.length).all (fun i => bs.getD i true) = bs.all id := by
  induction bs with
  | nil => rfl
  | cons b r ih =>
    rw [List.length_cons, List.range_succ_eq_map, List.all_cons, List.all_map, List.all_cons]
    have : (List.range r.length).all ((fun i => (b :: r).getD i true) ∘ Nat.succ) = (List.range r.length).all (fun i => r.getD i true) := by
      congr 1
    rw [this, ih]
    rfl
theorem call_all (hc : X.calm = true) : CallR X (.builtin "all") (fun xs H Q => ∃ (p : Addr) (bs : List Bool), xs = [.ref p] ∧ SqL X.K H p (bs.map V.bl) ∧ Q (.bl (bs.all id)) H) := by
  intro pins s σ H xs us Q I r h
  obtain ⟨p, bs, rfl, hq, q⟩ := h
  obtain ⟨u, rfl, rx⟩ := vals1 r
  cases rx
  obtain ⟨its, rv, pl, hz⟩ := I.list hq
  have hlt : p < s.heap.objs.size := by
    obtain ⟨o, e, _⟩ := pl.isList
    exact Heap.lt_size e
  have hlen : its.length = bs.length := by have := rv.length; rw [List.length_map] at this; exact this.symm
  refine call_all_walk (wpAny_pyIter_list pl.isList ?_)
  refine ⟨_, _, _, _, _, _, fun i => bs.getD i true, rfl, Walks.list (A := X.A.in1) (I.ok.hd hc) s.heap.objs.size p (Nat.ne_of_lt hlt) its.toArray, ?_, ?_, fun h' tk hk => ?_⟩
  · exact ⟨⟨_, Heap.get?_push_size _ rfl, rfl, rfl⟩, (let ⟨o, e, c⟩ := pl.isList; ⟨o, Heap.get?_push_of_some _ e, c⟩)⟩
  · intro i v s' Q' E' hP hQ
    have hv : its[i]? = some v := by simpa using hP
    have hil : i < bs.length := by rw [← hlen]; exact (List.getElem?_eq_some_iff.mp hv).1
    obtain ⟨u, e, ru⟩ := rv.get (x := V.bl (bs.getD i true)) (i := i) (by rw [List.getElem?_map, List.getElem?_eq_getElem hil, List.getD_eq_getElem?_getD, List.getElem?_eq_getElem hil]; rfl)
    rw [hv] at e
    cases e
    cases ru
    exact wpAny_truthy_bool hQ
  · have e : (List.range its.toArray.size).all (fun i => bs.getD i true) = bs.all id := by
      rw [List.size_toArray, hlen]; exact range_all_get bs
    rw [e]
    refine ⟨.bl _, H, ?_, rfl, q⟩
    exact I.kept fun b o eb => hk b o (by simp; exact Nat.ne_of_lt (Heap.lt_size eb)) (Heap.get?_push_of_some _ eb)
theorem DI.flat {K : PySem.W.Frag} {H : Hp} {x : V} {d : PyData} (h : match x, d with | .non, .none => True | .bl b, .bool c => b = c | .int i, .int j => i = j | .str x, .str y => x = y | _, _ => False) : DI K H x d := by
  cases x <;> cases d <;> first | exact h.elim | exact .non | (cases h; first | exact .bl _ | exact .int _ | exact .str _)
theorem call_isinstK {K : PySem.W.Frag} {T : String} (hK : X.K = K := by rfl) : CallR X (.builtin "isinstance") (fun xs H Q => ∃ x t b, xs = [x, .ty T] ∧ TyOf K H x t ∧ PySem.W.kitOne K t (.type T) = some b ∧ Q (.bl b) H) := by
  subst hK; exact call_isinst
theorem ix_listK {K : PySem.W.Frag} (hK : X.K = K := by rfl) : IxR X (rIxL K) := by subst hK; exact ix_list
theorem ix_tupK {K : PySem.W.Frag} (hK : X.K = K := by rfl) : IxR X (rIxT K) := by subst hK; exact ix_tup
theorem call_lenK {K : PySem.W.Frag} (hK : X.K = K := by rfl) : CallR X (.builtin "len") (fun xs H Q => ∃ p ys, xs = [.ref p] ∧ (SqL K H p ys ∨ SqT K H p ys) ∧ Q (.int ys.length) H) := by subst hK; exact call_len_seq
end
end L2

set_option Elab.async false
set_option linter.all false
set_option maxRecDepth 100000
set_option maxHeartbeats 4000000
namespace L2
open PySem PySem.Spec PyProof.Rows
section
variable {X : Cx}
theorem Vals.of_get : ∀ {xs : List V} {us : List Value}, xs.length = us.length → (∀ (i : Nat) (x : V) (u : Value), xs[i]? = some x → us[i]? = some u → RelV x u) → Vals xs us
  | [], [], _, _ => .nil
  | [], _ :: _, h, _ => by cases h
  | _ :: _, [], h, _ => by cases h
  | x :: xs, u :: us, h, k => .cons (k 0 x u rfl rfl) (Vals.of_get (by simpa using h) fun i y v h1 h2 => k (i + 1) y v (by simpa using h1) (by simpa using h2))
end
end L2

set_option Elab.async false
set_option linter.all false
set_option maxRecDepth 100000
set_option maxHeartbeats 4000000
namespace L2
open PySem PySem.Spec PyProof.Rows
section
variable {X : Cx}
section
variable {prog : Program} {w : World} {A : Around} {R : Result → Shared → Prop} {s : Shared}
/-- one turn of a comprehension, the step ahead of the store told too -/
theorem loop_turns {elt tg iter : Expr} {ifs : List Expr} {scope : Scope} {pos : Pos} {it acc : Value} {env : Env} {EE : Value → Shared → Prop} (hE : EE = notedBy (model prog w) A env fun e s' => R (.error e) s') (I : Nat → Shared → Prop)
    (turn : ∀ n s, I n s → wpAny (model prog w) A (pyNext it) (fun r z1 => match r with
      | none => R (.ok .next) z1
      | some v => wpAny (model prog w) A (letOwnedTupleGo tg it v) (fun _ y1 => wpAny (model prog w) A (assign tg env v) (fun _ z2 =>
          wpAny (model prog w) A (forIn ifs true fun c r => if r = true then do let ok ← isTrue c env (eval c env); pure (ForInStep.yield ok) else pure (ForInStep.yield r)) (fun ok z3 =>
            if ok = true then wpAny (model prog w) A (eval elt env) (fun x z4 => wpAny (model prog w) A (call (.builtin "list.append") [acc, x]) (fun _ z5 => ∃ m, m < n ∧ I m z5) EE z4) EE z3 else ∃ m, m < n ∧ I m z3) EE z2) EE y1) EE z1) EE s)
    (n : Nat) (h : I n s) : codeAny (model prog w) A (.compLoop (.ListComp elt [⟨tg, iter, ifs, 0⟩] scope pos) 0 it acc env) R s := by
  subst hE
  refine codeAny_loop rfl I (fun n s hI => ?_) n h
  show wpAny _ A ((compTurn (.ListComp elt [⟨tg, iter, ifs, 0⟩] scope pos) 0 it acc env).onRaise (fun x => do noteFrame x env; theTreesLotGoes x)) _ _ s
  refine wpAny_noted ?_
  rw [compTurn_list]
  refine wpAny_bind (wpAny_standAt (wpAny_bind (wpAny_mono (turn n s hI) (fun r z1 q1 => ?_) fun _ _ z => z)))
  cases r with
  | none => exact wpAny_pure q1
  | some v =>
    refine wpAny_bind (wpAny_mono q1 (fun _ y1 q1 => ?_) fun _ _ z => z)
    refine wpAny_bind (wpAny_mono q1 (fun _ z2 q2 => wpAny_bind (wpAny_mono q2 (fun ok z3 q3 => ?_) fun _ _ z => z)) fun _ _ z => z)
    cases ok with
    | false => exact wpAny_pure ⟨rfl, q3⟩
    | true => exact wpAny_bind (wpAny_bind (wpAny_mono q3 (fun x z4 q4 => wpAny_bind (wpAny_mono q4 (fun _ z5 q5 => wpAny_pure (wpAny_pure ⟨rfl, q5⟩)) fun _ _ z => z)) fun _ _ z => z))
end
/-- the block of a comprehension: its own names ahead of the frame's -/
def cxC (X : Cx) (xs Nb : List Str) (scope : Scope) (cl : List (Str × Addr)) (C : Addr) (s₂ : Shared) (H₂ : Hp) (fp : List Addr) : Cx :=
  { X with N := xs ++ Nb, s₀ := s₂, H₀ := H₂, env := compEnvC scope cl C X.env, outer := X.stack, stack := X.stack, ex := fp, fn := fun _ => false, pn := [], xe := fun _ _ => False }
def InB (X : Cx) (xs Nb : List Str) (scope : Scope) (φ : Cx → Prop) : Prop := ∀ (cl : List (Str × Addr)) (C : Addr) (s₂ : Shared) (H₂ : Hp) (fp : List Addr), φ (cxC X xs Nb scope cl C s₂ H₂ fp)
def CGo (k : Nat) (J : It) (g : TG) (tt : TT) (te : TE) (Q : VK) (σ : St) (H1 : Hp) : Prop := ∃ W : Nat → Nat → List V → Hp → Prop, (∃ m, W 0 m [] H1) ∧ ∀ i m ys H, W i m ys H →
  (J.stop i H ∧ ∀ D, H D = none → Q (.ref D) (upd H D (.lst ys))) ∨ (J.go i H ∧ ys.length < sizeLine ∧ ∃ N : List V → Hp → Prop, (∀ zs H', N zs H' → ∃ m', m' < m ∧ W (i + 1) m' zs H') ∧ ∀ v H' (pre : St), pre.length = k → J.yld i H v H' → g v (pre ++ σ) H' fun σ' H2 => (∃ pre' : St, σ' = pre' ++ σ ∧ pre'.length = k) ∧ tt σ' H2 fun ok H3 => if ok = true then te σ' H3 fun y H4 => N (ys ++ [y]) H4 else N ys H3)
def tCompG (k : Nat) (wi : TI) (g : TG) (tt : TT) (te : TE) : TE := fun σ H Q => wi σ H fun J H1 => CGo k J g tt te Q σ H1
theorem comp_core {elt iter tg : Expr} {xs Nb : List Str} {ifs : List Expr} {scope : Scope} {pos : Pos} {wi : TI} {g : TG} {tt : TT} {te : TE}
    (hc : X.calm = true) (hi : PI X tg iter wi) (hlen : Nb.length = X.N.length) (hNb : ∀ p ∈ Nb.zip X.N, p.1 = p.2 ∨ scope.names.lookup p.1 = none) (hxN : ∀ y ∈ Nb, scope.names.lookup y ≠ some .local)
    (hg : InB X xs Nb scope fun Y => PG Y tg g) (ht : InB X xs Nb scope fun Y => PIf Y ifs tt) (he : InB X xs Nb scope fun Y => PE Y elt te)
    (hcell : ∀ y ∈ scope.names, y.2 ≠ .cell) (hkind : scope.kind = .function) (hnames : ∀ y ∈ scope.names, y.2 = .local → scope.names.lookup y.1 = some .local)
    (hfree : ∀ y ∈ scope.names, y.2 = .free → X.env.kindOf y.1 = some .cell)
    (hs : ∀ x, foldedSetIterable iter X.env x = pure x) {pos2 : Pos} {use : Option (Value → Sem Unit)} {QQ : Value → Shared → Prop} {pins : List (Addr × Obj)} {s : Shared} {σ : St} {H : Hp} {Q : VK} (I : Inv X pins σ H s) (h : tCompG xs.length wi g tt te σ H Q)
    (post : ∀ (s2 s4 : Shared) (H2 H4 : Hp) (C D : Addr) (m4 : Str → Option Value), Inv X pins σ H2 s2 → s2.heap.objs.size ≤ C → s4.heap.Ns C m4 → H4 C = none → (∀ h', Heap.SameBut C s4.heap h' → Inv X pins σ H4 { s4 with heap := h' }) → Q (.ref D) H4 → compPost (model X.prog X.w) X.A X.xe use QQ (.ref D) C (.ok .next) s4) :
    wpAny (model X.prog X.w) X.A (comprehension (.ListComp elt [⟨tg, iter, ifs, 0⟩] scope pos) scope X.env pos2 (newList []) false (eval iter X.env) use) QQ X.xe s := by
  obtain ⟨cl, hcl, cl1, cl2⟩ := clos_ok (scope := scope) (env := X.env) (fun y hy hf => I.ok.has y.1 (.inl (hfree y hy hf)))
  refine wpAny_comprehension_free rfl hs hcl hkind hnames (thn (hi pins s σ H _ I h) fun v s1 h1 => thn h1 fun itv s2 h2 => ?_)
  obtain ⟨it, fp, tn, J, H2, e, I2, T, st2, f2, W, ⟨m0, w0⟩, turn⟩ := h2
  subst e
  refine wpAny_newObj_type (wpAny_newFunctionEnv hcell (by intro y hy; simp at hy) (fun h₁ hns₁ hsb₁ => ?_) hkind)
  dsimp only at hns₁ hsb₁ ⊢
  generalize hHp : s2.heap.push { cls := .type "list", dict := none, data := .seq ([] : List Value).toArray } = Hp2 at hns₁ hsb₁ ⊢
  have hC : Hp2.objs.size = s2.heap.objs.size + 1 := by rw [← hHp, Heap.size_push]
  have hDC : s2.heap.objs.size ≠ Hp2.objs.size := by rw [hC]; exact Nat.ne_of_lt (Nat.lt_succ_self _)
  have below : ∀ b, b < s2.heap.objs.size → b ≠ Hp2.objs.size ∧ b ≠ s2.heap.objs.size := fun b hb => ⟨by rw [hC]; exact Nat.ne_of_lt (Nat.lt_succ_of_lt hb), Nat.ne_of_lt hb⟩
  have old : ∀ b o, s2.heap.get? b = some o → h₁.get? b = some o := fun b o e => hsb₁.extBut b o (below b (Heap.lt_size e)).1 (Heap.get?_push_of_some _ (hHp ▸ Heap.get?_push_of_some _ e))
  have hacc : h₁.PlainList s2.heap.objs.size #[] := ⟨_, hsb₁.extBut _ _ hDC (Heap.get?_push_of_some _ (hHp ▸ Heap.get?_push_size _ rfl))⟩
  -- the block
  generalize hY : cxC X xs Nb scope cl Hp2.objs.size s2 H2 fp = Y
  have Yprog : Y.prog = X.prog := by rw [← hY]; rfl
  have fpLt : ∀ b ∈ fp, b < s2.heap.objs.size := fun b hb => by
    obtain ⟨o, e, _⟩ := T.obj _ _ st2 b hb
    exact Heap.lt_size e
  have cellLt : ∀ y c, cl.lookup y = some c → c < s2.heap.objs.size := fun y c hc => by
    obtain ⟨v, q⟩ := I2.cell y c (cl1 y c hc)
    exact q.lt
  have frSub : ∀ b ∈ frs X.stack, b < s2.heap.objs.size := fun b hb => by
    rcases List.mem_cons.mp (I2.stkSub b hb) with z | z
    · rw [z]; exact I2.lt
    · by_cases hlt : b < s2.heap.objs.size
      · exact hlt
      · exact absurd z (I2.nofs (Nat.le_of_not_lt hlt))
  have ok : (cxC X xs Nb scope cl Hp2.objs.size s2 H2 fp).Ok := by
    refine ⟨I2.ok.mod, hkind, I2.ok.glob, I2.ok.blt, (by show s2.heap.objs.size ≤ Hp2.objs.size; omega), fun y z c h1 h2 => I2.ok.inj y z c (cl1 y c h1) (cl1 z c h2), fun y hy => ?_, fun y c hf _ => absurd hf (by intro z; cases z), I2.ok.hd, I2.ok.frames, .inl rfl, fun b hb => ⟨?_, fun y c h1 h2 => ?_⟩, I2.bs, Nat.le_trans I2.ok.bsz I2.sz, fun b o e hb => ?_, fun b hb hm => ?_, I2.stack, I2.stkFree⟩
    · have hy : (scope.names.map fun (n, k) => if (k == NameKind.free && X.env.scope.kind == .function && X.env.kindOf n == some .cell) then (n, NameKind.cell) else (n, k)).lookup y = some .cell ∨ (scope.names.map fun (n, k) => if (k == NameKind.free && X.env.scope.kind == .function && X.env.kindOf n == some .cell) then (n, NameKind.cell) else (n, k)).lookup y = some .free := hy
      have q : scope.names.lookup y = some .free := by
        rcases hy with z | z
        · exact (relabel_kind hcell z (.inl rfl)).1
        · exact (relabel_kind hcell z (.inr rfl)).1
      exact Option.isSome_iff_exists.mp (cl2 y (PySem.mem_of_lookup q))
    · exact (below b (fpLt b hb)).1
    · exact (f2 b hb).2.2.2.2.1 y c (cl1 y c h1) h2
    · rcases (f2 b hb).2.2.2.1 with z | z
      · exact I2.ok.noex b o e z
      · exact absurd (Nat.lt_of_lt_of_le (Heap.lt_size e) (Nat.le_trans I2.ok.bsz z)) (Nat.lt_irrefl _)
    · rcases List.mem_cons.mp (I2.stkSub b hm) with z | z
      · exact (f2 b hb).2.1 z
      · exact (f2 b hb).2.2.1 z
  have fpY : ∀ {H' : Hp} {pl : List (Addr × Obj)}, (∀ b ∈ fp, H' b = none) → (∀ p ∈ pl, p.1 = s2.heap.objs.size) → ∀ b ∈ fp, FpOk Y pl H' b := fun {H' pl} hn hp b hb => by
    rw [← hY]
    refine ⟨hn b hb, (below b (fpLt b hb)).1, fun hm => ?_, .inl hb, fun y c h1 h2 => (f2 b hb).2.2.2.2.1 y c (cl1 y c h1) h2, fun p hm z => ?_⟩
    · rcases List.mem_cons.mp (I2.stkSub b hm) with z | z
      · exact (f2 b hb).2.1 z
      · exact (f2 b hb).2.2.1 z
    · have hm : p ∈ pl := hm
      rw [hp p hm] at z
      exact (below b (fpLt b hb)).2 z.symm
  have HD : H2 s2.heap.objs.size = none := I2.hok.fresh (Nat.le_refl _)
  have HC : H2 Hp2.objs.size = none := I2.hok.fresh (by omega)
  obtain ⟨m2, hns2, hloc2⟩ := I2.loc
  have IY : ∀ tk, Inv (cxC X xs Nb scope cl Hp2.objs.size s2 H2 fp) [] (List.replicate xs.length none ++ σ) H2 { s2 with heap := h₁, toks := tk } := fun tk => by
    refine ⟨ok, rfl, I2.bare, Un.kept old, ⟨_, hns₁, fun i y v h1 h2 h3 => ?_⟩, fun y c h1 => ?_, HC, fun y c h1 => I2.freeC y c (cl1 y c h1), fun p hp => absurd (show p ∈ ([] : List (Addr × Obj)) from hp) (by simp), I2.hok.kept old, (by show (List.replicate xs.length (none : Option V) ++ σ).length = (xs ++ Nb).length; rw [List.length_append, List.length_append, List.length_replicate, hlen, I2.len])⟩
    · have h1 : (xs ++ Nb)[i]? = some y := h1
      by_cases hik : i < xs.length
      · rw [List.getElem?_append_left (by rw [List.length_replicate]; exact hik), List.getElem?_replicate, if_pos hik] at h2
        cases h2
      · rw [List.getElem?_append_right (by omega)] at h1
        rw [List.getElem?_append_right (by rw [List.length_replicate]; omega), List.length_replicate] at h2
        generalize i - xs.length = i at h1 h2
        have h3 : Vis (relabel scope X.env) y := h3
        have key : ∀ k, (k = NameKind.cell ∨ k = NameKind.free) → (relabel scope X.env).names.lookup y = some k → ∃ u, RelV v u ∧ Look (compEnvC scope cl Hp2.objs.size X.env) h₁ (fun x => ([] : List (Str × Value)).reverse.lookup x) y u := fun k hk hl => by
          obtain ⟨q1, _⟩ := relabel_kind hcell hl hk
          have q2 := hfree (y, .free) (PySem.mem_of_lookup q1) rfl
          have h1' : X.N[i]? = some y := by
            have hi' : i < X.N.length := by rw [← hlen]; exact (List.getElem?_eq_some_iff.mp h1).1
            have hz : (Nb.zip X.N)[i]? = some (y, X.N[i]) := by rw [List.getElem?_zip_eq_some]; exact ⟨h1, List.getElem?_eq_getElem hi'⟩
            rcases hNb _ (List.mem_of_getElem? hz) with z | z
            · have z : y = X.N[i] := z
              rw [z]; exact List.getElem?_eq_getElem hi'
            · have z : scope.names.lookup y = none := z
              rw [q1] at z; cases z
          obtain ⟨u, r, l⟩ := hloc2 i y v h1' h2 (.inr (.inl q2))
          refine ⟨u, r, .inr ⟨?_, ?_⟩⟩
          · rcases hk with rfl | rfl
            · exact .inl hl
            · exact .inr hl
          · rcases l with ⟨k1, _⟩ | ⟨_, c, e1, z⟩
            · rw [q2] at k1; cases k1
            · obtain ⟨c', e2⟩ := Option.isSome_iff_exists.mp (cl2 y (PySem.mem_of_lookup q1))
              have e3 := cl1 y c' e2
              rw [e1] at e3
              cases e3
              obtain ⟨o, ho, hd⟩ := z
              exact ⟨c, e2, o, old c o ho, hd⟩
        rcases h3 with h3 | h3 | h3
        · -- a local of the block is x alone: no value is known of it
          exfalso
          exact hxN y (List.mem_of_getElem? h1) (relabel_local h3)
        · exact key _ (.inl rfl) h3
        · exact key _ (.inr rfl) h3
    · obtain ⟨v, o, ho, hd⟩ := I2.cell y c (cl1 y c h1)
      exact ⟨v, o, old c o ho, hd⟩
  have noErr : ∀ {α : Type} {m : Sem α} {G : α → Shared → Prop} {E' : Value → Shared → Prop} {s' : Shared}, wpAny (model X.prog X.w) X.A m G (fun _ _ => False) s' → wpAny (model X.prog X.w) X.A m G E' s' := fun h => wpAny_mono h (fun _ _ q => q) fun _ _ q => q.elim
  have loop : ∀ (tk : Nat) (R : Result → Shared → Prop), R = compPost (model X.prog X.w) X.A X.xe use QQ (.ref s2.heap.objs.size) Hp2.objs.size →
      codeAny (model X.prog X.w) X.A (.compLoop (.ListComp elt [⟨tg, iter, ifs, 0⟩] scope pos) 0 (.ref it) (.ref s2.heap.objs.size) (compEnvC scope cl Hp2.objs.size X.env)) R { s2 with heap := h₁, toks := tk } := by
    rintro tk R rfl
    refine loop_turns rfl (fun n s' => ∃ i σv H' ys its, σv.length = xs.length ∧ Inv Y [] (σv ++ σ) H' s' ∧ tn i s'.heap ∧ (∀ b ∈ fp, H' b = none) ∧ Vals ys its ∧ ys.length ≤ sizeLine ∧ s'.heap.PlainList s2.heap.objs.size its.toArray ∧ H' s2.heap.objs.size = none ∧ W i n ys H') ?_ m0
      ⟨0, List.replicate xs.length none, H2, [], [], List.length_replicate, hY ▸ IY tk, T.keep _ _ _ st2 fun b _ o e => old b o e, fun b hb => (f2 b hb).1, .nil, Nat.zero_le _, hacc, HD, w0⟩
    rintro n s3 ⟨i, σv, H3, ys, its, lv, I3, st3, fr3, rv, hz, ⟨nn, pl3⟩, HD3, w3⟩
    have I3p : Inv Y [(s2.heap.objs.size, { cls := .type "list", data := .seq its.toArray nn })] (σv ++ σ) H3 s3 := I3.pins_of fun p hp => by
      rw [List.mem_singleton] at hp
      subst hp
      refine ⟨pl3, HD3, ?_, fun hm => ?_, fun v z => by cases z⟩
      · rw [← hY]; exact hDC
      · rw [← hY] at hm
        exact absurd (frSub _ hm) (Nat.lt_irrefl _)
    have pinD : ∀ p ∈ [((s2.heap.objs.size : Addr), ({ cls := .type "list", data := .seq its.toArray nn } : Obj))], p.1 = s2.heap.objs.size := fun p hp => by
      rw [List.mem_singleton] at hp
      rw [hp]
    subst hY
    rcases turn i n ys H3 w3 with ⟨stop, qn⟩ | ⟨go, hlt, NN, hNN, step⟩
    · refine noErr (thn (T.done (cxC X xs Nb scope cl Hp2.objs.size s2 H2 fp) rfl rfl rfl hc i _ s3 _ H3 (fun _ _ => False) I3p (fpY fr3 pinD) st3 stop) fun r s4 ⟨hr, I4⟩ => ?_)
      subst hr
      obtain ⟨m4, hns4, _⟩ := I4.loc
      refine post s2 s4 H2 (upd H3 s2.heap.objs.size (.lst ys)) Hp2.objs.size s2.heap.objs.size m4 I2 (by omega) hns4 (by rw [upd_ne (Ne.symm hDC)]; exact I4.free) (fun h' sb => ?_) (qn _ HD3)
      have pl4 := (I4.pin _ (List.mem_append_right _ List.mem_cons_self)).1
      have up : ∀ b o, b ≠ Hp2.objs.size → s4.heap.get? b = some o → h'.get? b = some o := fun b o hb e => sb.extBut b o hb e
      have base := I4.base
      have HC4 : H3 Hp2.objs.size = none := I4.free
      have neC : ∀ b o, s2.heap.get? b = some o → b ≠ Hp2.objs.size := fun b o e => (below b (Heap.lt_size e)).1
      have neD : ∀ b o, s2.heap.get? b = some o → b ≠ s2.heap.objs.size := fun b o e => (below b (Heap.lt_size e)).2
      have hokN : HOk X.prog X.w (upd H3 s2.heap.objs.size (.lst ys)) h' := fun b u e => by
        by_cases hb : b = s2.heap.objs.size
        · subst hb
          rw [upd_same] at e
          cases e
          exact ⟨hz, its, nn, rv, up _ _ hDC pl4⟩
        · rw [upd_ne hb] at e
          refine (I4.hok b u e).stay (fun c v hc q => up c v ?_ q) (fun c q => by rw [upd_ne (ne_of_none q HD3)]; exact q) fun c xs q => by rw [upd_ne (ne_of_none q HD3)]; exact q
          rcases hc with z | z
          · rw [z]; exact ne_of_none e HC4
          · exact ne_of_none z HC4
      refine I2.call' (s' := { s4 with heap := h' }) (ch := fp) I4.os ⟨fun b o e n hb hx' => up b o (neC b o e) (base.keep b o e n hb hx'), fun b o e n hb hx' => ?_, fun b o e n hx' => ?_, fun b o e hx' => ?_, fun b xs e => ?_, fun b o u e => ?_, fun b ps e => ?_⟩ hokN I4.bare (fun b hb => ?_)
      · obtain ⟨sl, q⟩ := base.slot b o e n hb hx'
        exact ⟨sl, up b _ (neC b o e) q⟩
      · rw [upd_ne (neD b o e)]
        exact base.free b o e n hx'
      · obtain ⟨o', q⟩ := base.there b o e hx'
        exact ⟨o', up b o' (neC b o e) q⟩
      · have q := base.tups b xs e
        rw [upd_ne (ne_of_none q HD3)]; exact q
      · have q := base.frzs b o u e
        rw [upd_ne (ne_of_none q HD3)]; exact q
      · obtain ⟨more, q⟩ := base.tbls b ps e
        exact ⟨more, by rw [upd_ne (ne_of_none q HD3)]; exact q⟩
      · obtain ⟨_, g1, _, g3, g4, g5⟩ := f2 b hb
        exact ⟨g3, g1, g4, g5⟩
    · refine noErr (thn (T.item (cxC X xs Nb scope cl Hp2.objs.size s2 H2 fp) rfl rfl rfl hc i _ s3 _ H3 (fun _ _ => False) I3p (fpY fr3 pinD) st3 go) fun r s4 ⟨u, hr, h4⟩ => ?_)
      subst hr
      refine noErr (thn h4 fun _ s5 ⟨v, H5, I5, r5, y5, st5, fr5⟩ => ?_)
      have I5' := I5.pinned (fpY fr5 pinD) (T.obj _ _ st5)
      have stp := step v H5 σv lv y5
      refine noErr (thn (hg cl Hp2.objs.size s2 H2 fp _ s5 _ H5 v u _ I5' r5 stp) fun _ s6 ⟨σ6, H6, I6, ⟨pre', e6, l6⟩, stp⟩ => ?_)
      subst e6
      have again : ∀ {s7 s8 : Shared} {H7 : Hp} {zs : List V} {ws : List Value} {m' : Nat}, Inv (cxC X xs Nb scope cl Hp2.objs.size s2 H2 fp) ([((s2.heap.objs.size : Addr), ({ cls := .type "list", data := .seq its.toArray nn } : Obj))] ++ pinsAt fp s5.heap) (pre' ++ σ) H7 s7 →
          (∃ h', s8 = { s7 with heap := h' } ∧ (∀ b o, b ≠ s2.heap.objs.size → s7.heap.get? b = some o → h'.get? b = some o) ∧ h'.PlainList s2.heap.objs.size ws.toArray) → Vals zs ws → zs.length ≤ sizeLine → m' < n → W (i + 1) m' zs H7 →
          ∃ m, m < n ∧ ∃ i σv H' ys its, σv.length = xs.length ∧ Inv (cxC X xs Nb scope cl Hp2.objs.size s2 H2 fp) [] (σv ++ σ) H' s8 ∧ tn i s8.heap ∧ (∀ b ∈ fp, H' b = none) ∧ Vals ys its ∧ ys.length ≤ sizeLine ∧ s8.heap.PlainList s2.heap.objs.size its.toArray ∧ H' s2.heap.objs.size = none ∧ W i m ys H' := by
        rintro s7 s8 H7 zs ws m' I7 ⟨h', rfl, up, plw⟩ rz hzz hm w7
        have HD7 : H7 s2.heap.objs.size = none := (I7.pin _ (List.mem_append_right _ (List.mem_append_left _ List.mem_cons_self))).2.1
        have fr7 : ∀ b ∈ fp, H7 b = none := fun b hb => by
          obtain ⟨o, e, d⟩ := T.obj _ _ st5 b hb
          exact (I7.pin (b, o) (List.mem_append_right _ (List.mem_append_right _ (mem_pinsAt hb e)))).2.1
        have I7' : Inv (cxC X xs Nb scope cl Hp2.objs.size s2 H2 fp) [] (pre' ++ σ) H7 s7 := I7.pins_of fun p hp => absurd hp (by simp)
        refine ⟨m', hm, i + 1, pre', H7, zs, ws, l6, ?_, ?_, fr7, rz, hzz, plw, HD7, w7⟩
        · have := I7'.turned (it := s2.heap.objs.size) (h' := h') (t' := s7.toks) up HD7 hDC (.inr (Nat.le_refl _)) (fun y c h1 h2 => absurd (cellLt y c h1) (by rw [h2]; exact Nat.lt_irrefl _)) (fun p hp => absurd (show p ∈ ([] : List (Addr × Obj)) from hp) (by simp))
          exact this
        · refine T.keep _ _ _ st5 fun b hb o e => up b o (below b (fpLt b hb)).2 ?_
          exact (I7.pin (b, o) (List.mem_append_right _ (List.mem_append_right _ (mem_pinsAt hb e)))).1
      refine noErr (thn (ht cl Hp2.objs.size s2 H2 fp _ s6 _ H6 _ I6 stp) fun okb s7 ⟨H7, I7, q7⟩ => ?_)
      have pl7 := (I7.pin _ (List.mem_append_right _ (List.mem_append_left _ List.mem_cons_self))).1
      cases okb with
      | false =>
        rw [if_neg Bool.false_ne_true] at q7 ⊢
        obtain ⟨m', hm, w7⟩ := hNN _ _ q7
        exact again I7 ⟨s7.heap, rfl, fun _ _ _ e => e, nn, pl7⟩ rv hz hm w7
      | true =>
        rw [if_pos rfl] at q7 ⊢
        refine noErr (thn (he cl Hp2.objs.size s2 H2 fp _ s7 _ H7 _ I7 q7) fun w' s8 ⟨y, H8, I8, r8, q8⟩ => ?_)
        obtain ⟨m', hm, w8⟩ := hNN _ _ q8
        have pl8 := (I8.pin _ (List.mem_append_right _ (List.mem_append_left _ List.mem_cons_self))).1
        refine wpAny_list_append_plain (hsz := by have := rv.length; simp only [List.size_toArray]; omega) ⟨nn, pl8⟩ fun h9 pl9 sb9 => ?_
        refine again I8 ⟨h9, rfl, fun b o hb e => sb9.extBut b o hb e, ?_⟩ (rv.append (.cons r8 .nil)) (by rw [List.length_append, List.length_singleton]; omega) hm w8
        have e9 : its.toArray.push w' = (its ++ [w']).toArray := by simp
        rw [← e9]
        exact pl9
  refine codeAny_compStart_list (loop _ _ rfl) (noErr (T.self _ 0 _ _ _ (T.keep _ _ _ st2 fun b _ o e => old b o e) (loop _ _ rfl)))
theorem pe_compG {elt iter tg : Expr} {xs Nb : List Str} {ifs : List Expr} {scope : Scope} {pos : Pos} {wi : TI} {g : TG} {tt : TT} {te : TE}
    (hc : X.calm = true) (hi : PI X tg iter wi) (hlen : Nb.length = X.N.length) (hNb : ∀ p ∈ Nb.zip X.N, p.1 = p.2 ∨ scope.names.lookup p.1 = none) (hxN : ∀ y ∈ Nb, scope.names.lookup y ≠ some .local)
    (hg : InB X xs Nb scope fun Y => PG Y tg g) (ht : InB X xs Nb scope fun Y => PIf Y ifs tt) (he : InB X xs Nb scope fun Y => PE Y elt te)
    (hcell : ∀ y ∈ scope.names, y.2 ≠ .cell) (hkind : scope.kind = .function) (hnames : ∀ y ∈ scope.names, y.2 = .local → scope.names.lookup y.1 = some .local)
    (hfree : ∀ y ∈ scope.names, y.2 = .free → X.env.kindOf y.1 = some .cell)
    (hs : ∀ x, foldedSetIterable iter X.env x = pure x := by intro _; rfl) :
    PE X (.ListComp elt [⟨tg, iter, ifs, 0⟩] scope pos) (tCompG xs.length wi g tt te) := by
  intro pins s σ H Q I h
  rw [eval_ListComp]
  exact comp_core (use := none) (QQ := EP X pins σ Q) hc hi hlen hNb hxN hg ht he hcell hkind hnames hfree hs I h fun s2 s4 H2 H4 C D m4 _ _ hn _ IX q => ⟨m4, hn, fun h' sb => ⟨.ref D, H4, IX h' sb, rfl, q⟩⟩
/-- over a list, a tuple, a range: by a word -/
theorem compL {K : PySem.W.Frag} {k : Nat} {a : Addr} {xs : List V} {g : TG} {tt : TT} {te : TE} {Q : VK} {σ : St} {H : Hp} (Pv : Nat → List V → Hp → Prop) (h0 : Pv 0 [] H) (hb : xs.length ≤ 1000) (hz : ∀ i ys H, Pv i ys H → ys.length ≤ i) (hl : ∀ i ys H, i ≤ xs.length → Pv i ys H → SqL K H a xs)
    (hs : ∀ i x ys H (pre : St), pre.length = k → xs[i]? = some x → Pv i ys H → g x (pre ++ σ) H fun σ' H2 => (∃ pre' : St, σ' = pre' ++ σ ∧ pre'.length = k) ∧ tt σ' H2 fun ok H3 => if ok = true then te σ' H3 fun y H4 => Pv (i + 1) (ys ++ [y]) H4 else Pv (i + 1) ys H3) (hd : ∀ ys H, Pv xs.length ys H → ∀ D, H D = none → Q (.ref D) (upd H D (.lst ys))) : CGo k (Itl K a) g tt te Q σ H := by
  refine ⟨fun i m ys H => m = xs.length - i ∧ i ≤ xs.length ∧ Pv i ys H, ⟨xs.length, by simp, Nat.zero_le _, h0⟩, ?_⟩
  rintro i m ys H ⟨rfl, hi, p⟩
  have q := hl i ys H hi p
  by_cases hlt : i < xs.length
  · refine .inr ⟨⟨xs, xs[i], q, by simp [hlt]⟩, Nat.lt_of_le_of_lt (hz i ys H p) (small1000 (by omega)), Pv (i + 1), fun zs H' p' => ⟨xs.length - (i + 1), by omega, rfl, hlt, p'⟩, fun x H' pre hp y => ?_⟩
    obtain ⟨e, y⟩ := y
    subst e
    exact hs i x ys _ pre hp (y xs q) p
  · have e : i = xs.length := by omega
    subst e
    exact .inl ⟨⟨xs, q, Nat.le_refl _⟩, hd ys H p⟩
theorem compT {K : PySem.W.Frag} {k : Nat} {a : Addr} {xs : List V} {g : TG} {tt : TT} {te : TE} {Q : VK} {σ : St} {H : Hp} (Pv : Nat → List V → Hp → Prop) (h0 : Pv 0 [] H) (hb : xs.length ≤ 1000) (hz : ∀ i ys H, Pv i ys H → ys.length ≤ i) (hl : ∀ i ys H, i ≤ xs.length → Pv i ys H → SqT K H a xs)
    (hs : ∀ i x ys H (pre : St), pre.length = k → xs[i]? = some x → Pv i ys H → g x (pre ++ σ) H fun σ' H2 => (∃ pre' : St, σ' = pre' ++ σ ∧ pre'.length = k) ∧ tt σ' H2 fun ok H3 => if ok = true then te σ' H3 fun y H4 => Pv (i + 1) (ys ++ [y]) H4 else Pv (i + 1) ys H3) (hd : ∀ ys H, Pv xs.length ys H → ∀ D, H D = none → Q (.ref D) (upd H D (.lst ys))) : CGo k (Itt K a) g tt te Q σ H := by
  refine ⟨fun i m ys H => m = xs.length - i ∧ i ≤ xs.length ∧ Pv i ys H, ⟨xs.length, by simp, Nat.zero_le _, h0⟩, ?_⟩
  rintro i m ys H ⟨rfl, hi, p⟩
  have q := hl i ys H hi p
  by_cases hlt : i < xs.length
  · refine .inr ⟨⟨xs, xs[i], q, by simp [hlt]⟩, Nat.lt_of_le_of_lt (hz i ys H p) (small1000 (by omega)), Pv (i + 1), fun zs H' p' => ⟨xs.length - (i + 1), by omega, rfl, hlt, p'⟩, fun x H' pre hp y => ?_⟩
    obtain ⟨e, y⟩ := y
    subst e
    exact hs i x ys _ pre hp (y xs q) p
  · have e : i = xs.length := by omega
    subst e
    exact .inl ⟨⟨xs, q, Nat.le_refl _⟩, hd ys H p⟩
theorem compR {k : Nat} {lo : Int} {n : Nat} {g : TG} {tt : TT} {te : TE} {Q : VK} {σ : St} {H : Hp} (Pv : Nat → List V → Hp → Prop) (h0 : Pv 0 [] H) (hb : n ≤ 1000) (hz : ∀ i ys H, Pv i ys H → ys.length ≤ i)
    (hs : ∀ (i : Nat) ys H (pre : St), pre.length = k → i < n → Pv i ys H → g (.int (lo + i)) (pre ++ σ) H fun σ' H2 => (∃ pre' : St, σ' = pre' ++ σ ∧ pre'.length = k) ∧ tt σ' H2 fun ok H3 => if ok = true then te σ' H3 fun y H4 => Pv (i + 1) (ys ++ [y]) H4 else Pv (i + 1) ys H3) (hd : ∀ ys H, Pv n ys H → ∀ D, H D = none → Q (.ref D) (upd H D (.lst ys))) : CGo k (Itr lo n) g tt te Q σ H := by
  refine ⟨fun i m ys H => m = n - i ∧ i ≤ n ∧ Pv i ys H, ⟨n, by simp, Nat.zero_le _, h0⟩, ?_⟩
  rintro i m ys H ⟨rfl, hi, p⟩
  by_cases hlt : i < n
  · refine .inr ⟨hlt, Nat.lt_of_le_of_lt (hz i ys H p) (small1000 (by omega)), Pv (i + 1), fun zs H' p' => ⟨n - (i + 1), by omega, rfl, hlt, p'⟩, fun x H' pre hp y => ?_⟩
    obtain ⟨e, y⟩ := y
    subst e y
    exact hs i ys _ pre hp hlt p
  · have e : i = n := by omega
    subst e
    exact .inl ⟨Nat.le_refl _, hd ys H p⟩
end
end L2

set_option Elab.async false
set_option linter.all false
set_option maxRecDepth 100000
set_option maxHeartbeats 4000000
namespace L2
open PySem PySem.Spec PyProof.Rows
section
variable {X : Cx}
section
variable {prog : Program} {w : World} {A : Around} {R : Result → Shared → Prop} {s : Shared}
abbrev e2 (elt tg iter : Expr) (ifs : List Expr) (tg2 iter2 : Expr) (ifs2 : List Expr) (scope : Scope) (pos : Pos) : Expr := .ListComp elt [⟨tg, iter, ifs, 0⟩, ⟨tg2, iter2, ifs2, 0⟩] scope pos
theorem turn_two0 (elt tg iter : Expr) (ifs : List Expr) (tg2 iter2 : Expr) (ifs2 : List Expr) (scope : Scope) (pos : Pos) (it acc : Value) (env : Env) : compTurn (e2 elt tg iter ifs tg2 iter2 ifs2 scope pos) 0 it acc env = (do
    standAt iter.pos
    match ← pyNext it with
    | none => pure (.done .next)
    | some v =>
      letOwnedTupleGo tg it v
      assign tg env v
      let mut ok := true
      for c in ifs do
        if ok then ok ← isTrue c env (eval c env)
      if ok then
        let x ← eval iter2 env
        standAt iter2.pos
        let x ← foldedSetIterable iter2 env x
        let _ ← runOwn (.compStart (e2 elt tg iter ifs tg2 iter2 ifs2 scope pos) 1 (← holding [x] (pyIter x)) acc env) env
      again (.compLoop (e2 elt tg iter ifs tg2 iter2 ifs2 scope pos) 0 it acc env)) := rfl
theorem turn_two1 (elt tg iter : Expr) (ifs : List Expr) (tg2 iter2 : Expr) (ifs2 : List Expr) (scope : Scope) (pos : Pos) (it acc : Value) (env : Env) : compTurn (e2 elt tg iter ifs tg2 iter2 ifs2 scope pos) 1 it acc env = (do
    standAt iter2.pos
    match ← pyNext it with
    | none => pure (.done .next)
    | some v =>
      letOwnedTupleGo tg2 it v
      assign tg2 env v
      let mut ok := true
      for c in ifs2 do
        if ok then ok ← isTrue c env (eval c env)
      if ok then (eval elt env >>= fun x => call (.builtin "list.append") [acc, x] >>= fun _ => pure () : Sem Unit)
      again (.compLoop (e2 elt tg iter ifs tg2 iter2 ifs2 scope pos) 1 it acc env)) := rfl
/-- the inner loop's turns -/
theorem loop_two1 {elt tg iter tg2 iter2 : Expr} {ifs ifs2 : List Expr} {scope : Scope} {pos : Pos} {it acc : Value} {env : Env} {EE : Value → Shared → Prop} (hE : EE = notedBy (model prog w) A env fun e s' => R (.error e) s') (I : Nat → Shared → Prop)
    (turn : ∀ n s, I n s → wpAny (model prog w) A (pyNext it) (fun r z1 => match r with
      | none => R (.ok .next) z1
      | some v => wpAny (model prog w) A (letOwnedTupleGo tg2 it v) (fun _ y1 => wpAny (model prog w) A (assign tg2 env v) (fun _ z2 =>
          wpAny (model prog w) A (forIn ifs2 true fun c r => if r = true then do let ok ← isTrue c env (eval c env); pure (ForInStep.yield ok) else pure (ForInStep.yield r)) (fun ok z3 =>
            if ok = true then wpAny (model prog w) A (eval elt env) (fun x z4 => wpAny (model prog w) A (call (.builtin "list.append") [acc, x]) (fun _ z5 => ∃ m, m < n ∧ I m z5) EE z4) EE z3 else ∃ m, m < n ∧ I m z3) EE z2) EE y1) EE z1) EE s)
    (n : Nat) (h : I n s) : codeAny (model prog w) A (.compLoop (e2 elt tg iter ifs tg2 iter2 ifs2 scope pos) 1 it acc env) R s := by
  subst hE
  refine codeAny_loop rfl I (fun n s hI => ?_) n h
  show wpAny _ A ((compTurn (e2 elt tg iter ifs tg2 iter2 ifs2 scope pos) 1 it acc env).onRaise (fun x => do noteFrame x env; theTreesLotGoes x)) _ _ s
  refine wpAny_noted ?_
  rw [turn_two1]
  refine wpAny_bind (wpAny_standAt (wpAny_bind (wpAny_mono (turn n s hI) (fun r z1 q1 => ?_) fun _ _ z => z)))
  cases r with
  | none => exact wpAny_pure q1
  | some v =>
    refine wpAny_bind (wpAny_mono q1 (fun _ y1 q1 => ?_) fun _ _ z => z)
    refine wpAny_bind (wpAny_mono q1 (fun _ z2 q2 => wpAny_bind (wpAny_mono q2 (fun ok z3 q3 => ?_) fun _ _ z => z)) fun _ _ z => z)
    cases ok with
    | false => exact wpAny_pure ⟨rfl, q3⟩
    | true => exact wpAny_bind (wpAny_bind (wpAny_mono q3 (fun x z4 q4 => wpAny_bind (wpAny_mono q4 (fun _ z5 q5 => wpAny_pure (wpAny_pure ⟨rfl, q5⟩)) fun _ _ z => z)) fun _ _ z => z))
/-- the outer loop's turns -/
theorem loop_two0 {elt tg iter tg2 iter2 : Expr} {ifs ifs2 : List Expr} {scope : Scope} {pos : Pos} {it acc : Value} {env : Env} (hs2 : ∀ x, foldedSetIterable iter2 env x = pure x) (I : Nat → Shared → Prop)
    (turn : ∀ n s, I n s → wpAny (model prog w) A (pyNext it) (fun r z1 => match r with
      | none => R (.ok .next) z1
      | some v => wpAny (model prog w) A (letOwnedTupleGo tg it v) (fun _ y1 => wpAny (model prog w) A (assign tg env v) (fun _ z2 =>
          wpAny (model prog w) A (forIn ifs true fun c r => if r = true then do let ok ← isTrue c env (eval c env); pure (ForInStep.yield ok) else pure (ForInStep.yield r)) (fun ok z3 =>
            if ok = true then wpAny (model prog w) A (eval iter2 env) (fun x z4 => wpAny (model prog w) A (pyIter x) (fun i2 z5 => codeAny (model prog w) A (.compStart (e2 elt tg iter ifs tg2 iter2 ifs2 scope pos) 1 i2 acc env) (fun r s' => match r with | .ok _ => ∃ m, m < n ∧ I m s' | .error _ => False) z5) (fun _ _ => False) z4) (fun _ _ => False) z3 else ∃ m, m < n ∧ I m z3) (fun _ _ => False) z2) (fun _ _ => False) y1) (fun _ _ => False) z1) (fun _ _ => False) s)
    (n : Nat) (h : I n s) : codeAny (model prog w) A (.compLoop (e2 elt tg iter ifs tg2 iter2 ifs2 scope pos) 0 it acc env) R s := by
  refine codeAny_loop rfl I (fun n s hI => ?_) n h
  show wpAny _ A ((compTurn (e2 elt tg iter ifs tg2 iter2 ifs2 scope pos) 0 it acc env).onRaise (fun x => do noteFrame x env; theTreesLotGoes x)) _ _ s
  refine wpAny_noted ?_
  rw [turn_two0]
  refine wpAny_bind (wpAny_standAt (wpAny_bind (wpAny_mono (turn n s hI) (fun r z1 q1 => ?_) fun _ _ z => z.elim)))
  cases r with
  | none => exact wpAny_pure q1
  | some v =>
    refine wpAny_bind (wpAny_mono q1 (fun _ y1 q1 => ?_) fun _ _ z => z.elim)
    refine wpAny_bind (wpAny_mono q1 (fun _ z2 q2 => wpAny_bind (wpAny_mono q2 (fun ok z3 q3 => ?_) fun _ _ z => z.elim)) fun _ _ z => z.elim)
    cases ok with
    | false => exact wpAny_pure ⟨rfl, q3⟩
    | true =>
      refine wpAny_bind (wpAny_mono q3 (fun x z4 q4 => wpAny_bind (wpAny_standAt (wpAny_bind (wpAny_of_eq (hs2 x) (wpAny_bind (wpAny_holding (wpAny_mono q4 (fun i2 z5 q5 => ?_) fun _ _ z => z.elim))))))) fun _ _ z => z.elim)
      refine wpAny_bind (wpAny_runOwn (codeAny_mono q5 fun r s' q => ?_))
      cases r with
      | ok f => exact wpAny_pure ⟨rfl, q⟩
      | error e => exact q.elim
theorem start_two1 {elt tg iter tg2 iter2 : Expr} {ifs ifs2 : List Expr} {scope : Scope} {pos : Pos} {it acc : Value} {env : Env}
    (h0 : codeAny (model prog w) A (.compLoop (e2 elt tg iter ifs tg2 iter2 ifs2 scope pos) 1 it acc env) R s)
    (h : wpAny (model prog w) A (pyIter it) (fun it' s' => codeAny (model prog w) A (.compLoop (e2 elt tg iter ifs tg2 iter2 ifs2 scope pos) 1 it' acc env) R s') (fun _ _ => False) s) :
    codeAny (model prog w) A (.compStart (e2 elt tg iter ifs tg2 iter2 ifs2 scope pos) 1 it acc env) R s := by
  refine codeAny_of_tree ?_
  show wpAny _ _ ((compStart (e2 elt tg iter ifs tg2 iter2 ifs2 scope pos) 1 it acc env).onRaise (fun x => do noteFrame x env; standAt theWindowsPlace)) _ _ s
  refine wpAny_notedAt ?_
  unfold compStart
  show wpAny _ _ (ask >>= _) _ _ s
  refine wpAny_bind (wpAny_askSetting (wpAny_ite ?_))
  split
  · exact wpAny_pure ⟨rfl, h0⟩
  · refine wpAny_bind (wpAny_rule ?_)
    show wpAny _ _ (standAt iter2.pos >>= _) _ _ s
    exact wpAny_bind (wpAny_standAt (wpAny_bind (wpAny_mono h (fun it' s' q => wpAny_pure ⟨rfl, q⟩) fun _ _ z => z.elim)))
end
/-- the inner loop -/
def CGi (k : Nat) (J : It) (g : TG) (tt : TT) (te : TE) (N : List V → Hp → Prop) (σ : St) (ys : List V) (σ1 : St) (H1 : Hp) : Prop := ∃ W : Nat → Nat → List V → St → Hp → Prop, (∃ m, W 0 m ys σ1 H1) ∧ ∀ j m zs σ' H, W j m zs σ' H →
  (J.stop j H ∧ N zs H) ∨ (J.go j H ∧ zs.length < sizeLine ∧ ∃ N2 : List V → St → Hp → Prop, (∀ ws σ2 H', N2 ws σ2 H' → ∃ m', m' < m ∧ W (j + 1) m' ws σ2 H') ∧ ∀ v H', J.yld j H v H' → g v σ' H' fun σ2 H2 => (∃ pre' : St, σ2 = pre' ++ σ ∧ pre'.length = k) ∧ tt σ2 H2 fun ok H3 => if ok = true then te σ2 H3 fun y H4 => N2 (zs ++ [y]) σ2 H4 else N2 zs σ2 H3)
def CGo2 (k : Nat) (J : It) (g : TG) (tt : TT) (wi2 : TI) (g2 : TG) (tt2 : TT) (te : TE) (Q : VK) (σ : St) (H1 : Hp) : Prop := ∃ W : Nat → Nat → List V → Hp → Prop, (∃ m, W 0 m [] H1) ∧ ∀ i m ys H, W i m ys H →
  (J.stop i H ∧ ∀ D, H D = none → Q (.ref D) (upd H D (.lst ys))) ∨ (J.go i H ∧ ∃ N : List V → Hp → Prop, (∀ zs H', N zs H' → ∃ m', m' < m ∧ W (i + 1) m' zs H') ∧ ∀ v H' (pre : St), pre.length = k → J.yld i H v H' → g v (pre ++ σ) H' fun σ' H2 => (∃ pre' : St, σ' = pre' ++ σ ∧ pre'.length = k) ∧ tt σ' H2 fun ok H3 => if ok = true then wi2 σ' H3 fun J2 H4 => CGi k J2 g2 tt2 te N σ ys σ' H4 else N ys H3)
/-- [te for g in wi if tt for g2 in wi2 if tt2] -/
def tComp2 (k : Nat) (wi : TI) (g : TG) (tt : TT) (wi2 : TI) (g2 : TG) (tt2 : TT) (te : TE) : TE := fun σ H Q => wi σ H fun J H1 => CGo2 k J g tt wi2 g2 tt2 te Q σ H1
theorem comp_core2 {elt iter tg iter2 tg2 : Expr} {xs Nb : List Str} {ifs ifs2 : List Expr} {scope : Scope} {pos : Pos} {wi wi2 : TI} {g g2 : TG} {tt tt2 : TT} {te : TE}
    (hc : X.calm = true) (hi : PI X tg iter wi) (hlen : Nb.length = X.N.length) (hNb : ∀ p ∈ Nb.zip X.N, p.1 = p.2 ∨ scope.names.lookup p.1 = none) (hxN : ∀ y ∈ Nb, scope.names.lookup y ≠ some .local)
    (hg : InB X xs Nb scope fun Y => PG Y tg g) (ht : InB X xs Nb scope fun Y => PIf Y ifs tt) (hi2 : InB X xs Nb scope fun Y => PI Y tg2 iter2 wi2) (hg2 : InB X xs Nb scope fun Y => PG Y tg2 g2) (ht2 : InB X xs Nb scope fun Y => PIf Y ifs2 tt2) (hs2 : ∀ env x, foldedSetIterable iter2 env x = pure x) (he : InB X xs Nb scope fun Y => PE Y elt te)
    (hcell : ∀ y ∈ scope.names, y.2 ≠ .cell) (hkind : scope.kind = .function) (hnames : ∀ y ∈ scope.names, y.2 = .local → scope.names.lookup y.1 = some .local)
    (hfree : ∀ y ∈ scope.names, y.2 = .free → X.env.kindOf y.1 = some .cell)
    (hs : ∀ x, foldedSetIterable iter X.env x = pure x) {pos2 : Pos} {use : Option (Value → Sem Unit)} {QQ : Value → Shared → Prop} {pins : List (Addr × Obj)} {s : Shared} {σ : St} {H : Hp} {Q : VK} (I : Inv X pins σ H s) (h : tComp2 xs.length wi g tt wi2 g2 tt2 te σ H Q)
    (post : ∀ (s2 s4 : Shared) (H2 H4 : Hp) (C D : Addr) (m4 : Str → Option Value), Inv X pins σ H2 s2 → s2.heap.objs.size ≤ C → s4.heap.Ns C m4 → H4 C = none → (∀ h', Heap.SameBut C s4.heap h' → Inv X pins σ H4 { s4 with heap := h' }) → Q (.ref D) H4 → compPost (model X.prog X.w) X.A X.xe use QQ (.ref D) C (.ok .next) s4) :
    wpAny (model X.prog X.w) X.A (comprehension (.ListComp elt [⟨tg, iter, ifs, 0⟩, ⟨tg2, iter2, ifs2, 0⟩] scope pos) scope X.env pos2 (newList []) false (eval iter X.env) use) QQ X.xe s := by
  obtain ⟨cl, hcl, cl1, cl2⟩ := clos_ok (scope := scope) (env := X.env) (fun y hy hf => I.ok.has y.1 (.inl (hfree y hy hf)))
  refine wpAny_comprehension_free rfl hs hcl hkind hnames (thn (hi pins s σ H _ I h) fun v s1 h1 => thn h1 fun itv s2 h2 => ?_)
  obtain ⟨it, fp, tn, J, H2, e, I2, T, st2, f2, W, ⟨m0, w0⟩, turn⟩ := h2
  subst e
  refine wpAny_newObj_type (wpAny_newFunctionEnv hcell (by intro y hy; simp at hy) (fun h₁ hns₁ hsb₁ => ?_) hkind)
  dsimp only at hns₁ hsb₁ ⊢
  generalize hHp : s2.heap.push { cls := .type "list", dict := none, data := .seq ([] : List Value).toArray } = Hp2 at hns₁ hsb₁ ⊢
  have hC : Hp2.objs.size = s2.heap.objs.size + 1 := by rw [← hHp, Heap.size_push]
  have hDC : s2.heap.objs.size ≠ Hp2.objs.size := by rw [hC]; exact Nat.ne_of_lt (Nat.lt_succ_self _)
  have below : ∀ b, b < s2.heap.objs.size → b ≠ Hp2.objs.size ∧ b ≠ s2.heap.objs.size := fun b hb => ⟨by rw [hC]; exact Nat.ne_of_lt (Nat.lt_succ_of_lt hb), Nat.ne_of_lt hb⟩
  have old : ∀ b o, s2.heap.get? b = some o → h₁.get? b = some o := fun b o e => hsb₁.extBut b o (below b (Heap.lt_size e)).1 (Heap.get?_push_of_some _ (hHp ▸ Heap.get?_push_of_some _ e))
  have hacc : h₁.PlainList s2.heap.objs.size #[] := ⟨_, hsb₁.extBut _ _ hDC (Heap.get?_push_of_some _ (hHp ▸ Heap.get?_push_size _ rfl))⟩
  -- the block
  generalize hY : cxC X xs Nb scope cl Hp2.objs.size s2 H2 fp = Y
  have Yprog : Y.prog = X.prog := by rw [← hY]; rfl
  have fpLt : ∀ b ∈ fp, b < s2.heap.objs.size := fun b hb => by
    obtain ⟨o, e, _⟩ := T.obj _ _ st2 b hb
    exact Heap.lt_size e
  have cellLt : ∀ y c, cl.lookup y = some c → c < s2.heap.objs.size := fun y c hc => by
    obtain ⟨v, q⟩ := I2.cell y c (cl1 y c hc)
    exact q.lt
  have frSub : ∀ b ∈ frs X.stack, b < s2.heap.objs.size := fun b hb => by
    rcases List.mem_cons.mp (I2.stkSub b hb) with z | z
    · rw [z]; exact I2.lt
    · by_cases hlt : b < s2.heap.objs.size
      · exact hlt
      · exact absurd z (I2.nofs (Nat.le_of_not_lt hlt))
  have ok : (cxC X xs Nb scope cl Hp2.objs.size s2 H2 fp).Ok := by
    refine ⟨I2.ok.mod, hkind, I2.ok.glob, I2.ok.blt, (by show s2.heap.objs.size ≤ Hp2.objs.size; omega), fun y z c h1 h2 => I2.ok.inj y z c (cl1 y c h1) (cl1 z c h2), fun y hy => ?_, fun y c hf _ => absurd hf (by intro z; cases z), I2.ok.hd, I2.ok.frames, .inl rfl, fun b hb => ⟨?_, fun y c h1 h2 => ?_⟩, I2.bs, Nat.le_trans I2.ok.bsz I2.sz, fun b o e hb => ?_, fun b hb hm => ?_, I2.stack, I2.stkFree⟩
    · have hy : (scope.names.map fun (n, k) => if (k == NameKind.free && X.env.scope.kind == .function && X.env.kindOf n == some .cell) then (n, NameKind.cell) else (n, k)).lookup y = some .cell ∨ (scope.names.map fun (n, k) => if (k == NameKind.free && X.env.scope.kind == .function && X.env.kindOf n == some .cell) then (n, NameKind.cell) else (n, k)).lookup y = some .free := hy
      have q : scope.names.lookup y = some .free := by
        rcases hy with z | z
        · exact (relabel_kind hcell z (.inl rfl)).1
        · exact (relabel_kind hcell z (.inr rfl)).1
      exact Option.isSome_iff_exists.mp (cl2 y (PySem.mem_of_lookup q))
    · exact (below b (fpLt b hb)).1
    · exact (f2 b hb).2.2.2.2.1 y c (cl1 y c h1) h2
    · rcases (f2 b hb).2.2.2.1 with z | z
      · exact I2.ok.noex b o e z
      · exact absurd (Nat.lt_of_lt_of_le (Heap.lt_size e) (Nat.le_trans I2.ok.bsz z)) (Nat.lt_irrefl _)
    · rcases List.mem_cons.mp (I2.stkSub b hm) with z | z
      · exact (f2 b hb).2.1 z
      · exact (f2 b hb).2.2.1 z
  have fpY : ∀ {H' : Hp} {pl : List (Addr × Obj)}, (∀ b ∈ fp, H' b = none) → (∀ p ∈ pl, p.1 = s2.heap.objs.size) → ∀ b ∈ fp, FpOk Y pl H' b := fun {H' pl} hn hp b hb => by
    rw [← hY]
    refine ⟨hn b hb, (below b (fpLt b hb)).1, fun hm => ?_, .inl hb, fun y c h1 h2 => (f2 b hb).2.2.2.2.1 y c (cl1 y c h1) h2, fun p hm z => ?_⟩
    · rcases List.mem_cons.mp (I2.stkSub b hm) with z | z
      · exact (f2 b hb).2.1 z
      · exact (f2 b hb).2.2.1 z
    · have hm : p ∈ pl := hm
      rw [hp p hm] at z
      exact (below b (fpLt b hb)).2 z.symm
  have HD : H2 s2.heap.objs.size = none := I2.hok.fresh (Nat.le_refl _)
  have HC : H2 Hp2.objs.size = none := I2.hok.fresh (by omega)
  obtain ⟨m2, hns2, hloc2⟩ := I2.loc
  have IY : ∀ tk, Inv (cxC X xs Nb scope cl Hp2.objs.size s2 H2 fp) [] (List.replicate xs.length none ++ σ) H2 { s2 with heap := h₁, toks := tk } := fun tk => by
    refine ⟨ok, rfl, I2.bare, Un.kept old, ⟨_, hns₁, fun i y v h1 h2 h3 => ?_⟩, fun y c h1 => ?_, HC, fun y c h1 => I2.freeC y c (cl1 y c h1), fun p hp => absurd (show p ∈ ([] : List (Addr × Obj)) from hp) (by simp), I2.hok.kept old, (by show (List.replicate xs.length (none : Option V) ++ σ).length = (xs ++ Nb).length; rw [List.length_append, List.length_append, List.length_replicate, hlen, I2.len])⟩
    · have h1 : (xs ++ Nb)[i]? = some y := h1
      by_cases hik : i < xs.length
      · rw [List.getElem?_append_left (by rw [List.length_replicate]; exact hik), List.getElem?_replicate, if_pos hik] at h2
        cases h2
      · rw [List.getElem?_append_right (by omega)] at h1
        rw [List.getElem?_append_right (by rw [List.length_replicate]; omega), List.length_replicate] at h2
        generalize i - xs.length = i at h1 h2
        have h3 : Vis (relabel scope X.env) y := h3
        have key : ∀ k, (k = NameKind.cell ∨ k = NameKind.free) → (relabel scope X.env).names.lookup y = some k → ∃ u, RelV v u ∧ Look (compEnvC scope cl Hp2.objs.size X.env) h₁ (fun x => ([] : List (Str × Value)).reverse.lookup x) y u := fun k hk hl => by
          obtain ⟨q1, _⟩ := relabel_kind hcell hl hk
          have q2 := hfree (y, .free) (PySem.mem_of_lookup q1) rfl
          have h1' : X.N[i]? = some y := by
            have hi' : i < X.N.length := by rw [← hlen]; exact (List.getElem?_eq_some_iff.mp h1).1
            have hz : (Nb.zip X.N)[i]? = some (y, X.N[i]) := by rw [List.getElem?_zip_eq_some]; exact ⟨h1, List.getElem?_eq_getElem hi'⟩
            rcases hNb _ (List.mem_of_getElem? hz) with z | z
            · have z : y = X.N[i] := z
              rw [z]; exact List.getElem?_eq_getElem hi'
            · have z : scope.names.lookup y = none := z
              rw [q1] at z; cases z
          obtain ⟨u, r, l⟩ := hloc2 i y v h1' h2 (.inr (.inl q2))
          refine ⟨u, r, .inr ⟨?_, ?_⟩⟩
          · rcases hk with rfl | rfl
            · exact .inl hl
            · exact .inr hl
          · rcases l with ⟨k1, _⟩ | ⟨_, c, e1, z⟩
            · rw [q2] at k1; cases k1
            · obtain ⟨c', e2⟩ := Option.isSome_iff_exists.mp (cl2 y (PySem.mem_of_lookup q1))
              have e3 := cl1 y c' e2
              rw [e1] at e3
              cases e3
              obtain ⟨o, ho, hd⟩ := z
              exact ⟨c, e2, o, old c o ho, hd⟩
        rcases h3 with h3 | h3 | h3
        · -- a local of the block is x alone: no value is known of it
          exfalso
          exact hxN y (List.mem_of_getElem? h1) (relabel_local h3)
        · exact key _ (.inl rfl) h3
        · exact key _ (.inr rfl) h3
    · obtain ⟨v, o, ho, hd⟩ := I2.cell y c (cl1 y c h1)
      exact ⟨v, o, old c o ho, hd⟩
  have noErr : ∀ {α : Type} {m : Sem α} {G : α → Shared → Prop} {E' : Value → Shared → Prop} {s' : Shared}, wpAny (model X.prog X.w) X.A m G (fun _ _ => False) s' → wpAny (model X.prog X.w) X.A m G E' s' := fun h => wpAny_mono h (fun _ _ q => q) fun _ _ q => q.elim
  have loop : ∀ (tk : Nat) (R : Result → Shared → Prop), R = compPost (model X.prog X.w) X.A X.xe use QQ (.ref s2.heap.objs.size) Hp2.objs.size →
      codeAny (model X.prog X.w) X.A (.compLoop (.ListComp elt [⟨tg, iter, ifs, 0⟩, ⟨tg2, iter2, ifs2, 0⟩] scope pos) 0 (.ref it) (.ref s2.heap.objs.size) (compEnvC scope cl Hp2.objs.size X.env)) R { s2 with heap := h₁, toks := tk } := by
    rintro tk R rfl
    refine loop_two0 (fun x => hs2 _ x) (fun n s' => ∃ i σv H' ys its, σv.length = xs.length ∧ Inv Y [] (σv ++ σ) H' s' ∧ tn i s'.heap ∧ (∀ b ∈ fp, H' b = none) ∧ Vals ys its ∧ ys.length ≤ sizeLine ∧ s'.heap.PlainList s2.heap.objs.size its.toArray ∧ H' s2.heap.objs.size = none ∧ W i n ys H') ?_ m0
      ⟨0, List.replicate xs.length none, H2, [], [], List.length_replicate, hY ▸ IY tk, T.keep _ _ _ st2 fun b _ o e => old b o e, fun b hb => (f2 b hb).1, .nil, Nat.zero_le _, hacc, HD, w0⟩
    rintro n s3 ⟨i, σv, H3, ys, its, lv, I3, st3, fr3, rv, hz, ⟨nn, pl3⟩, HD3, w3⟩
    have I3p : Inv Y [(s2.heap.objs.size, { cls := .type "list", data := .seq its.toArray nn })] (σv ++ σ) H3 s3 := I3.pins_of fun p hp => by
      rw [List.mem_singleton] at hp
      subst hp
      refine ⟨pl3, HD3, ?_, fun hm => ?_, fun v z => by cases z⟩
      · rw [← hY]; exact hDC
      · rw [← hY] at hm
        exact absurd (frSub _ hm) (Nat.lt_irrefl _)
    have pinD : ∀ p ∈ [((s2.heap.objs.size : Addr), ({ cls := .type "list", data := .seq its.toArray nn } : Obj))], p.1 = s2.heap.objs.size := fun p hp => by
      rw [List.mem_singleton] at hp
      rw [hp]
    subst hY
    rcases turn i n ys H3 w3 with ⟨stop, qn⟩ | ⟨go, NN, hNN, step⟩
    · refine noErr (thn (T.done (cxC X xs Nb scope cl Hp2.objs.size s2 H2 fp) rfl rfl rfl hc i _ s3 _ H3 (fun _ _ => False) I3p (fpY fr3 pinD) st3 stop) fun r s4 ⟨hr, I4⟩ => ?_)
      subst hr
      obtain ⟨m4, hns4, _⟩ := I4.loc
      refine post s2 s4 H2 (upd H3 s2.heap.objs.size (.lst ys)) Hp2.objs.size s2.heap.objs.size m4 I2 (by omega) hns4 (by rw [upd_ne (Ne.symm hDC)]; exact I4.free) (fun h' sb => ?_) (qn _ HD3)
      have pl4 := (I4.pin _ (List.mem_append_right _ List.mem_cons_self)).1
      have up : ∀ b o, b ≠ Hp2.objs.size → s4.heap.get? b = some o → h'.get? b = some o := fun b o hb e => sb.extBut b o hb e
      have base := I4.base
      have HC4 : H3 Hp2.objs.size = none := I4.free
      have neC : ∀ b o, s2.heap.get? b = some o → b ≠ Hp2.objs.size := fun b o e => (below b (Heap.lt_size e)).1
      have neD : ∀ b o, s2.heap.get? b = some o → b ≠ s2.heap.objs.size := fun b o e => (below b (Heap.lt_size e)).2
      have hokN : HOk X.prog X.w (upd H3 s2.heap.objs.size (.lst ys)) h' := fun b u e => by
        by_cases hb : b = s2.heap.objs.size
        · subst hb
          rw [upd_same] at e
          cases e
          exact ⟨hz, its, nn, rv, up _ _ hDC pl4⟩
        · rw [upd_ne hb] at e
          refine (I4.hok b u e).stay (fun c v hc q => up c v ?_ q) (fun c q => by rw [upd_ne (ne_of_none q HD3)]; exact q) fun c xs q => by rw [upd_ne (ne_of_none q HD3)]; exact q
          rcases hc with z | z
          · rw [z]; exact ne_of_none e HC4
          · exact ne_of_none z HC4
      refine I2.call' (s' := { s4 with heap := h' }) (ch := fp) I4.os ⟨fun b o e n hb hx' => up b o (neC b o e) (base.keep b o e n hb hx'), fun b o e n hb hx' => ?_, fun b o e n hx' => ?_, fun b o e hx' => ?_, fun b xs e => ?_, fun b o u e => ?_, fun b ps e => ?_⟩ hokN I4.bare (fun b hb => ?_)
      · obtain ⟨sl, q⟩ := base.slot b o e n hb hx'
        exact ⟨sl, up b _ (neC b o e) q⟩
      · rw [upd_ne (neD b o e)]
        exact base.free b o e n hx'
      · obtain ⟨o', q⟩ := base.there b o e hx'
        exact ⟨o', up b o' (neC b o e) q⟩
      · have q := base.tups b xs e
        rw [upd_ne (ne_of_none q HD3)]; exact q
      · have q := base.frzs b o u e
        rw [upd_ne (ne_of_none q HD3)]; exact q
      · obtain ⟨more, q⟩ := base.tbls b ps e
        exact ⟨more, by rw [upd_ne (ne_of_none q HD3)]; exact q⟩
      · obtain ⟨_, g1, _, g3, g4, g5⟩ := f2 b hb
        exact ⟨g3, g1, g4, g5⟩
    · refine noErr (thn (T.item (cxC X xs Nb scope cl Hp2.objs.size s2 H2 fp) rfl rfl rfl hc i _ s3 _ H3 (fun _ _ => False) I3p (fpY fr3 pinD) st3 go) fun r s4 ⟨u, hr, h4⟩ => ?_)
      subst hr
      refine noErr (thn h4 fun _ s5 ⟨v, H5, I5, r5, y5, st5, fr5⟩ => ?_)
      have I5' := I5.pinned (fpY fr5 pinD) (T.obj _ _ st5)
      have stp := step v H5 σv lv y5
      refine noErr (thn (hg cl Hp2.objs.size s2 H2 fp _ s5 _ H5 v u _ I5' r5 stp) fun _ s6 ⟨σ6, H6, I6, ⟨pre', e6, l6⟩, stp⟩ => ?_)
      subst e6
      generalize hpo : pinsAt fp s5.heap = po at I5' I6
      have poA : ∀ p ∈ po, p.1 ∈ fp := fun p hp => by rw [← hpo] at hp; exact (of_pinsAt hp).1
      have poD : ∀ p ∈ po, p.1 ≠ s2.heap.objs.size := fun p hp => (below _ (fpLt _ (poA p hp))).2
      have again : ∀ {s7 : Shared} {H7 : Hp} {pre7 : St} {zs : List V} {ws : List Value} {m' : Nat}, pre7.length = xs.length → Inv (cxC X xs Nb scope cl Hp2.objs.size s2 H2 fp) po (pre7 ++ σ) H7 s7 → s7.heap.PlainList s2.heap.objs.size ws.toArray → H7 s2.heap.objs.size = none → Vals zs ws → zs.length ≤ sizeLine → m' < n → W (i + 1) m' zs H7 →
          ∃ m, m < n ∧ ∃ i σv H' ys its, σv.length = xs.length ∧ Inv (cxC X xs Nb scope cl Hp2.objs.size s2 H2 fp) [] (σv ++ σ) H' s7 ∧ tn i s7.heap ∧ (∀ b ∈ fp, H' b = none) ∧ Vals ys its ∧ ys.length ≤ sizeLine ∧ s7.heap.PlainList s2.heap.objs.size its.toArray ∧ H' s2.heap.objs.size = none ∧ W i m ys H' := by
        intro s7 H7 pre7 zs ws m' l7 I7 plw HD7 rz hzz hm w7
        have fr7 : ∀ b ∈ fp, H7 b = none := fun b hb => by
          obtain ⟨o, e, d⟩ := T.obj _ _ st5 b hb
          exact (I7.pin (b, o) (List.mem_append_right _ (by rw [← hpo]; exact mem_pinsAt hb e))).2.1
        refine ⟨m', hm, i + 1, pre7, H7, zs, ws, l7, I7.pins_of fun p hp => absurd hp (by simp), ?_, fr7, rz, hzz, plw, HD7, w7⟩
        refine T.keep _ _ _ st5 fun b hb o e => ?_
        exact (I7.pin (b, o) (List.mem_append_right _ (by rw [← hpo]; exact mem_pinsAt hb e))).1
      refine noErr (thn (ht cl Hp2.objs.size s2 H2 fp _ s6 _ H6 _ I6 stp) fun okb s7 ⟨H7, I7, q7⟩ => ?_)
      have pl7 := (I7.pin _ (List.mem_append_right _ (List.mem_append_left _ List.mem_cons_self)))
      have I7o : Inv (cxC X xs Nb scope cl Hp2.objs.size s2 H2 fp) po (pre' ++ σ) H7 s7 := I7.pins_of fun p hp => I7.pin p (List.mem_append_right _ (List.mem_append_right _ hp))
      cases okb with
      | false =>
        rw [if_neg Bool.false_ne_true] at q7 ⊢
        obtain ⟨m', hm, w7⟩ := hNN _ _ q7
        exact again l6 I7o ⟨nn, pl7.1⟩ pl7.2.1 rv hz hm w7
      | true =>
        rw [if_pos rfl] at q7 ⊢
        refine noErr (thn (hi2 cl Hp2.objs.size s2 H2 fp _ s7 _ H7 _ I7 q7) fun x s8 h8 => noErr (thn h8 fun itv s9 h9 => ?_))
        obtain ⟨it2, fp2, tn2, J2, H9, e9, I9, T2, st9, f9, W2, ⟨m2, w2⟩, turn2⟩ := h9
        subst e9
        have pl9 := (I9.pin _ (List.mem_append_right _ (List.mem_append_left _ List.mem_cons_self)))
        have I9o : Inv (cxC X xs Nb scope cl Hp2.objs.size s2 H2 fp) po (pre' ++ σ) H9 s9 := I9.pins_of fun p hp => I9.pin p (List.mem_append_right _ (List.mem_append_right _ hp))
        have fp2D : ∀ b ∈ fp2, b ≠ s2.heap.objs.size := fun b hb z => (f9 b hb).2.2.2.2.2 _ (List.mem_append_right _ (List.mem_append_left _ List.mem_cons_self)) z.symm
        have inner : codeAny (model X.prog X.w) X.A (.compLoop (e2 elt tg iter ifs tg2 iter2 ifs2 scope pos) 1 (.ref it2) (.ref s2.heap.objs.size) (compEnvC scope cl Hp2.objs.size X.env)) (fun r s' => match r with | .ok _ => ∃ m, m < n ∧ ∃ i σv H' ys its, σv.length = xs.length ∧ Inv (cxC X xs Nb scope cl Hp2.objs.size s2 H2 fp) [] (σv ++ σ) H' s' ∧ tn i s'.heap ∧ (∀ b ∈ fp, H' b = none) ∧ Vals ys its ∧ ys.length ≤ sizeLine ∧ s'.heap.PlainList s2.heap.objs.size its.toArray ∧ H' s2.heap.objs.size = none ∧ W i m ys H' | .error _ => False) s9 := by
          refine loop_two1 rfl (fun n' s' => ∃ (j : Nat) (pv : St) (H' : Hp) (zs : List V) (ws : List Value), pv.length = xs.length ∧ Inv (cxC X xs Nb scope cl Hp2.objs.size s2 H2 fp) po (pv ++ σ) H' s' ∧ tn2 j s'.heap ∧ (∀ b ∈ fp2, H' b = none) ∧ Vals zs ws ∧ zs.length ≤ sizeLine ∧ s'.heap.PlainList s2.heap.objs.size ws.toArray ∧ H' s2.heap.objs.size = none ∧ W2 j n' zs (pv ++ σ) H') ?_ m2 ⟨0, pre', H9, ys, its, l6, I9o, st9, fun b hb => (f9 b hb).1, rv, hz, ⟨nn, pl9.1⟩, pl9.2.1, w2⟩
          rintro n' t0 ⟨j, pv, K0, zs, ws, lpv, J0, tst, tfr, rz, hzz, ⟨nz, plz⟩, KD, ww⟩
          have J0p : Inv (cxC X xs Nb scope cl Hp2.objs.size s2 H2 fp) ([((s2.heap.objs.size : Addr), ({ cls := .type "list", data := .seq ws.toArray nz } : Obj))] ++ po) (pv ++ σ) K0 t0 := J0.pins_of fun p hp => by
            rcases List.mem_append.mp hp with hp | hp
            · rw [List.mem_singleton] at hp
              subst hp
              exact ⟨plz, KD, hDC, fun hm => absurd (frSub _ hm) (Nat.lt_irrefl _), fun v z => by cases z⟩
            · exact J0.pin p (List.mem_append_right _ hp)
          have fpI : ∀ {K' : Hp}, (∀ b ∈ fp2, K' b = none) → ∀ b ∈ fp2, FpOk (cxC X xs Nb scope cl Hp2.objs.size s2 H2 fp) ([((s2.heap.objs.size : Addr), ({ cls := .type "list", data := .seq ws.toArray nz } : Obj))] ++ po) K' b := fun {K'} hn b hb => by
            obtain ⟨_, a1, a2, a3, a4, a5⟩ := f9 b hb
            refine ⟨hn b hb, a1, a2, a3, a4, fun p hp => ?_⟩
            have hp : p ∈ [((s2.heap.objs.size : Addr), ({ cls := .type "list", data := .seq ws.toArray nz } : Obj))] ++ po := hp
            rcases List.mem_append.mp hp with hp | hp
            · rw [List.mem_singleton] at hp
              subst hp
              exact fun z => fp2D b hb z.symm
            · exact a5 p (List.mem_append_right _ (List.mem_append_right _ hp))
          rcases turn2 j n' zs _ K0 ww with ⟨stop2, qn2⟩ | ⟨go2, hlt2, N2, hN2, step2⟩
          · refine noErr (thn (T2.done (cxC X xs Nb scope cl Hp2.objs.size s2 H2 fp) rfl rfl rfl hc j _ t0 _ K0 (fun _ _ => False) J0p (fpI tfr) tst stop2) fun r t1 ⟨hr, J1⟩ => ?_)
            subst hr
            obtain ⟨m', hm, w7⟩ := hNN _ _ qn2
            have p1 := J1.pin _ (List.mem_append_right _ (List.mem_append_left _ List.mem_cons_self))
            exact again lpv (J1.pins_of fun p hp => J1.pin p (List.mem_append_right _ (List.mem_append_right _ hp))) ⟨nz, p1.1⟩ p1.2.1 rz hzz hm w7
          · refine noErr (thn (T2.item (cxC X xs Nb scope cl Hp2.objs.size s2 H2 fp) rfl rfl rfl hc j _ t0 _ K0 (fun _ _ => False) J0p (fpI tfr) tst go2) fun r t1 ⟨u2, hr, h4⟩ => ?_)
            subst hr
            refine noErr (thn h4 fun _ t2 ⟨v2, K2, J2', r2, y2, ts2, tf2⟩ => ?_)
            have J2p := J2'.pinned (fpI tf2) (T2.obj _ _ ts2)
            have stp2 := step2 v2 K2 y2
            refine noErr (thn (hg2 cl Hp2.objs.size s2 H2 fp _ t2 _ K2 v2 u2 _ J2p r2 stp2) fun _ t3 ⟨σ7, K3, J3, ⟨pv', e7, l7⟩, stp2⟩ => ?_)
            subst e7
            have again2 : ∀ {t7 t8 : Shared} {K7 : Hp} {zs' : List V} {ws' : List Value} {m' : Nat}, Inv (cxC X xs Nb scope cl Hp2.objs.size s2 H2 fp) (([((s2.heap.objs.size : Addr), ({ cls := .type "list", data := .seq ws.toArray nz } : Obj))] ++ po) ++ pinsAt fp2 t2.heap) (pv' ++ σ) K7 t7 →
                (∃ h', t8 = { t7 with heap := h' } ∧ (∀ b o, b ≠ s2.heap.objs.size → t7.heap.get? b = some o → h'.get? b = some o) ∧ h'.PlainList s2.heap.objs.size ws'.toArray) → Vals zs' ws' → zs'.length ≤ sizeLine → m' < n' → W2 (j + 1) m' zs' (pv' ++ σ) K7 →
                ∃ m, m < n' ∧ ∃ (j : Nat) (pv : St) (H' : Hp) (zs : List V) (ws : List Value), pv.length = xs.length ∧ Inv (cxC X xs Nb scope cl Hp2.objs.size s2 H2 fp) po (pv ++ σ) H' t8 ∧ tn2 j t8.heap ∧ (∀ b ∈ fp2, H' b = none) ∧ Vals zs ws ∧ zs.length ≤ sizeLine ∧ t8.heap.PlainList s2.heap.objs.size ws.toArray ∧ H' s2.heap.objs.size = none ∧ W2 j m zs (pv ++ σ) H' := by
              rintro t7 t8 K7 zs' ws' m' J7 ⟨h', rfl, up, plw⟩ rz' hzz' hm w7
              have KD7 : K7 s2.heap.objs.size = none := (J7.pin _ (List.mem_append_right _ (List.mem_append_left _ (List.mem_append_left _ List.mem_cons_self)))).2.1
              have p2 : ∀ b ∈ fp2, ∃ o, t2.heap.get? b = some o ∧ t7.heap.get? b = some o ∧ K7 b = none := fun b hb => by
                obtain ⟨o, e, d⟩ := T2.obj _ _ ts2 b hb
                have := J7.pin (b, o) (List.mem_append_right _ (List.mem_append_right _ (mem_pinsAt hb e)))
                exact ⟨o, e, this.1, this.2.1⟩
              have J7' : Inv (cxC X xs Nb scope cl Hp2.objs.size s2 H2 fp) po (pv' ++ σ) K7 t7 := J7.pins_of fun p hp => J7.pin p (List.mem_append_right _ (List.mem_append_left _ (List.mem_append_right _ hp)))
              refine ⟨m', hm, j + 1, pv', K7, zs', ws', l7, ?_, ?_, fun b hb => (p2 b hb).choose_spec.2.2, rz', hzz', plw, KD7, w7⟩
              · have := J7'.turned (it := s2.heap.objs.size) (h' := h') (t' := t7.toks) up KD7 hDC (.inr (Nat.le_refl _)) (fun y c h1 h2 => absurd (cellLt y c h1) (by rw [h2]; exact Nat.lt_irrefl _)) (fun p hp => poD p hp)
                exact this
              · refine T2.keep _ _ _ ts2 fun b hb o e => up b o (fp2D b hb) ?_
                obtain ⟨o', e1, e2, _⟩ := p2 b hb
                rw [e] at e1
                cases e1
                exact e2
            refine noErr (thn (ht2 cl Hp2.objs.size s2 H2 fp _ t3 _ K3 _ J3 stp2) fun okb t7 ⟨K7, J7, q7⟩ => ?_)
            have pl7 := (J7.pin _ (List.mem_append_right _ (List.mem_append_left _ (List.mem_append_left _ List.mem_cons_self)))).1
            cases okb with
            | false =>
              rw [if_neg Bool.false_ne_true] at q7 ⊢
              obtain ⟨m', hm, w7⟩ := hN2 _ _ _ q7
              exact again2 J7 ⟨t7.heap, rfl, fun _ _ _ e => e, nz, pl7⟩ rz hzz hm w7
            | true =>
              rw [if_pos rfl] at q7 ⊢
              refine noErr (thn (he cl Hp2.objs.size s2 H2 fp _ t7 _ K7 _ J7 q7) fun w' t8 ⟨y, K8, J8, r8, q8⟩ => ?_)
              obtain ⟨m', hm, w8⟩ := hN2 _ _ _ q8
              have pl8 := (J8.pin _ (List.mem_append_right _ (List.mem_append_left _ (List.mem_append_left _ List.mem_cons_self)))).1
              refine wpAny_list_append_plain (hsz := by have := rz.length; simp only [List.size_toArray]; omega) ⟨nz, pl8⟩ fun h9 pl9 sb9 => ?_
              refine again2 J8 ⟨h9, rfl, fun b o hb e => sb9.extBut b o hb e, ?_⟩ (rz.append (.cons r8 .nil)) (by rw [List.length_append, List.length_singleton]; omega) hm w8
              have e9 : ws.toArray.push w' = (ws ++ [w']).toArray := by simp
              rw [← e9]
              exact pl9
        exact start_two1 inner (T2.self _ 0 _ _ _ st9 inner)
  refine codeAny_compStart_list (loop _ _ rfl) (noErr (T.self _ 0 _ _ _ (T.keep _ _ _ st2 fun b _ o e => old b o e) (loop _ _ rfl)))
theorem pe_comp2 {elt iter tg iter2 tg2 : Expr} {xs Nb : List Str} {ifs ifs2 : List Expr} {scope : Scope} {pos : Pos} {wi wi2 : TI} {g g2 : TG} {tt tt2 : TT} {te : TE}
    (hc : X.calm = true) (hi : PI X tg iter wi) (hlen : Nb.length = X.N.length) (hNb : ∀ p ∈ Nb.zip X.N, p.1 = p.2 ∨ scope.names.lookup p.1 = none) (hxN : ∀ y ∈ Nb, scope.names.lookup y ≠ some .local)
    (hg : InB X xs Nb scope fun Y => PG Y tg g) (ht : InB X xs Nb scope fun Y => PIf Y ifs tt) (hi2 : InB X xs Nb scope fun Y => PI Y tg2 iter2 wi2) (hg2 : InB X xs Nb scope fun Y => PG Y tg2 g2) (ht2 : InB X xs Nb scope fun Y => PIf Y ifs2 tt2) (he : InB X xs Nb scope fun Y => PE Y elt te)
    (hcell : ∀ y ∈ scope.names, y.2 ≠ .cell) (hkind : scope.kind = .function) (hnames : ∀ y ∈ scope.names, y.2 = .local → scope.names.lookup y.1 = some .local)
    (hfree : ∀ y ∈ scope.names, y.2 = .free → X.env.kindOf y.1 = some .cell)
    (hs : ∀ x, foldedSetIterable iter X.env x = pure x := by intro _; rfl) (hs2 : ∀ env x, foldedSetIterable iter2 env x = pure x := by intro _ _; rfl) :
    PE X (.ListComp elt [⟨tg, iter, ifs, 0⟩, ⟨tg2, iter2, ifs2, 0⟩] scope pos) (tComp2 xs.length wi g tt wi2 g2 tt2 te) := by
  intro pins s σ H Q I h
  rw [eval_ListComp]
  exact comp_core2 (use := none) (QQ := EP X pins σ Q) hc hi hlen hNb hxN hg ht hi2 hg2 ht2 hs2 he hcell hkind hnames hfree hs I h fun s2 s4 H2 H4 C D m4 _ _ hn _ IX q => ⟨m4, hn, fun h' sb => ⟨.ref D, H4, IX h' sb, rfl, q⟩⟩
/-- outer over a list, inner over a tuple -/
theorem comp2LT {K : PySem.W.Frag} {k : Nat} {a : Addr} {xs : List V} {g : TG} {tt : TT} {wi2 : TI} {g2 : TG} {tt2 : TT} {te : TE} {Q : VK} {σ : St} {H : Hp} (Pv : Nat → List V → Hp → Prop) (h0 : Pv 0 [] H) (hl : ∀ i ys H, i ≤ xs.length → Pv i ys H → SqL K H a xs)
    (hs : ∀ i x ys H (pre : St), pre.length = k → xs[i]? = some x → Pv i ys H → g x (pre ++ σ) H fun σ' H2 => (∃ pre' : St, σ' = pre' ++ σ ∧ pre'.length = k) ∧ tt σ' H2 fun ok H3 => if ok = true then wi2 σ' H3 fun J2 H4 => CGi k J2 g2 tt2 te (Pv (i + 1)) σ ys σ' H4 else Pv (i + 1) ys H3)
    (hd : ∀ ys H, Pv xs.length ys H → ∀ D, H D = none → Q (.ref D) (upd H D (.lst ys))) : CGo2 k (Itl K a) g tt wi2 g2 tt2 te Q σ H := by
  refine ⟨fun i m ys H => m = xs.length - i ∧ i ≤ xs.length ∧ Pv i ys H, ⟨xs.length, by simp, Nat.zero_le _, h0⟩, ?_⟩
  rintro i m ys H ⟨rfl, hi, p⟩
  have q := hl i ys H hi p
  by_cases hlt : i < xs.length
  · refine .inr ⟨⟨xs, xs[i], q, by simp [hlt]⟩, Pv (i + 1), fun zs H' p' => ⟨xs.length - (i + 1), by omega, rfl, hlt, p'⟩, fun x H' pre hp y => ?_⟩
    obtain ⟨e, y⟩ := y
    subst e
    exact hs i x ys _ pre hp (y xs q) p
  · have e : i = xs.length := by omega
    subst e
    exact .inl ⟨⟨xs, q, Nat.le_refl _⟩, hd ys H p⟩
/-- the inner loop over a tuple -/
theorem compIT {K : PySem.W.Frag} {k : Nat} {a : Addr} {xs : List V} {g : TG} {tt : TT} {te : TE} {N : List V → Hp → Prop} {σ σ1 : St} {ys : List V} {H : Hp} (Pv : Nat → List V → St → Hp → Prop) (h0 : Pv 0 ys σ1 H) (hz : ∀ i ys σ' H, Pv i ys σ' H → ys.length ≤ 1000) (hl : ∀ i ys σ' H, i ≤ xs.length → Pv i ys σ' H → SqT K H a xs)
    (hs : ∀ i x ys σ' H, xs[i]? = some x → Pv i ys σ' H → g x σ' H fun σ2 H2 => (∃ pre' : St, σ2 = pre' ++ σ ∧ pre'.length = k) ∧ tt σ2 H2 fun ok H3 => if ok = true then te σ2 H3 fun y H4 => Pv (i + 1) (ys ++ [y]) σ2 H4 else Pv (i + 1) ys σ2 H3) (hd : ∀ ys σ' H, Pv xs.length ys σ' H → N ys H) : CGi k (Itt K a) g tt te N σ ys σ1 H := by
  refine ⟨fun i m ys σ' H => m = xs.length - i ∧ i ≤ xs.length ∧ Pv i ys σ' H, ⟨xs.length, by simp, Nat.zero_le _, h0⟩, ?_⟩
  rintro i m ys σ' H ⟨rfl, hi, p⟩
  have q := hl i ys σ' H hi p
  by_cases hlt : i < xs.length
  · refine .inr ⟨⟨xs, xs[i], q, by simp [hlt]⟩, Nat.lt_of_le_of_lt (hz i ys σ' H p) (by decide), Pv (i + 1), fun zs σ2 H' p' => ⟨xs.length - (i + 1), by omega, rfl, hlt, p'⟩, fun x H' y => ?_⟩
    obtain ⟨e, y⟩ := y
    subst e
    exact hs i x ys σ' _ (y xs q) p
  · have e : i = xs.length := by omega
    subst e
    exact .inl ⟨⟨xs, q, Nat.le_refl _⟩, hd ys σ' H p⟩
end
end L2

set_option Elab.async false
set_option linter.all false
set_option maxRecDepth 100000
set_option maxHeartbeats 4000000
namespace L2
open PySem PySem.Spec PyProof.Rows
section
variable {X : Cx}
theorem sl_listK {K : PySem.W.Frag} (hK : X.K = K := by rfl) : SlR X (rSlL K) := by subst hK; exact sl_list
end
/-! data of weighings -/
def dT (ns : List Int) : PyData := .tuple (ns.map .int)
def dE (e : Int × List Int) : PyData := .tuple [.int e.1, dT e.2]
def dL (L : List (Int × List Int)) : PyData := .list (L.map dE)
theorem eqvAll_ints : ∀ ns ms : List Int, PyData.eqvAll (ns.map .int) (ms.map .int) = decide (ns = ms)
  | [], [] => rfl
  | [], _ :: _ => rfl
  | _ :: _, [] => rfl
  | n :: ns, m :: ms => by
    show (PyData.eqv (.int n) (.int m) && PyData.eqvAll (ns.map .int) (ms.map .int)) = _
    rw [eqvAll_ints ns ms]
    show ((n == m) && _) = _
    by_cases h : n = m
    · subst h; by_cases h2 : ns = ms <;> simp [h2]
    · simp [h]
theorem lay_ints : ∀ ns : List Int, PyData.canLayAll0 (ns.map .int) = true
  | [] => rfl
  | _ :: ns => by show (true && _) = true; rw [lay_ints ns]; rfl
theorem dep_ints : ∀ ns : List Int, PyData.depthAll (ns.map .int) = 0
  | [] => rfl
  | _ :: ns => by show max 0 _ = 0; rw [dep_ints ns]; rfl
/-- tuples stay -/
def Tups (H H' : Hp) : Prop := ∀ b ys, H b = some (.tup ys) → H' b = some (.tup ys)
theorem Tups.refl (H : Hp) : Tups H H := fun _ _ h => h
theorem Tups.trans {H H1 H2 : Hp} (a : Tups H H1) (b : Tups H1 H2) : Tups H H2 := fun c y h => b c y (a c y h)
theorem Tups.new {H H1 : Hp} {p : Addr} {o : HO} (a : Tups H H1) (h : H1 p = none) : Tups H (upd H1 p o) := fun c y e => by
  have := a c y e
  rw [upd_ne (ne_of_none this h)]; exact this
theorem Tups.lst {H H1 : Hp} {p : Addr} {xs ys : List V} (a : Tups H H1) (h : H1 p = some (.lst xs)) : Tups H (upd H1 p (.lst ys)) := fun c y e => by
  have := a c y e
  have hn : c ≠ p := fun z => by rw [z, h] at this; cases this
  rw [upd_ne hn]; exact this
theorem Same.tups {H H' : Hp} (s : Same H H') : Tups H H' := fun b ys e => s b _ e
/-- one tuple (many, weights) -/
def Sh (H : Hp) (x : V) (e : Int × List Int) : Prop := ∃ p w, x = .ref p ∧ H p = some (.tup [.int e.1, .ref w]) ∧ H w = some (.tup (e.2.map V.int))
def Wg (H : Hp) (xs : List V) (L : List (Int × List Int)) : Prop := xs.length = L.length ∧ ∀ (i : Nat) (x : V) (e : Int × List Int), xs[i]? = some x → L[i]? = some e → Sh H x e
theorem Sh.up {H H' : Hp} {x : V} {e : Int × List Int} (h : Sh H x e) (t : Tups H H') : Sh H' x e := by
  obtain ⟨p, w, rfl, h1, h2⟩ := h
  exact ⟨p, w, rfl, t _ _ h1, t _ _ h2⟩
theorem Wg.up {H H' : Hp} {xs : List V} {L : List (Int × List Int)} (h : Wg H xs L) (t : Tups H H') : Wg H' xs L := ⟨h.1, fun i x e h1 h2 => (h.2 i x e h1 h2).up t⟩
theorem Wg.nil (H : Hp) : Wg H [] [] := ⟨rfl, fun i x e h _ => by cases h⟩
theorem Wg.snoc {H : Hp} {xs : List V} {L : List (Int × List Int)} {x : V} {e : Int × List Int} (h : Wg H xs L) (s : Sh H x e) : Wg H (xs ++ [x]) (L ++ [e]) := by
  refine ⟨by simp [h.1], fun i y d h1 h2 => ?_⟩
  by_cases hi : i < xs.length
  · rw [List.getElem?_append_left hi] at h1
    rw [List.getElem?_append_left (by rw [← h.1]; exact hi)] at h2
    exact h.2 i y d h1 h2
  · have hl : i < (xs ++ [x]).length := (List.getElem?_eq_some_iff.mp h1).1
    rw [List.length_append, List.length_singleton] at hl
    have e0 : i = xs.length := by omega
    subst e0
    rw [List.getElem?_append_right (Nat.le_refl _), Nat.sub_self] at h1
    rw [List.getElem?_append_right (by rw [h.1]; exact Nat.le_refl _), h.1, Nat.sub_self] at h2
    cases h1
    cases h2
    exact s
theorem Wg.get {H : Hp} {xs : List V} {L : List (Int × List Int)} {i : Nat} {e : Int × List Int} (h : Wg H xs L) (he : L[i]? = some e) : ∃ x, xs[i]? = some x ∧ Sh H x e := by
  have hi : i < xs.length := by rw [h.1]; exact (List.getElem?_eq_some_iff.mp he).1
  exact ⟨xs[i], List.getElem?_eq_getElem hi, h.2 i _ e (List.getElem?_eq_getElem hi) he⟩
theorem Wg.at' {H : Hp} {xs : List V} {L : List (Int × List Int)} {i : Nat} {x : V} (h : Wg H xs L) (he : xs[i]? = some x) : ∃ e, L[i]? = some e ∧ Sh H x e := by
  have hi : i < L.length := by rw [← h.1]; exact (List.getElem?_eq_some_iff.mp he).1
  exact ⟨L[i], List.getElem?_eq_getElem hi, h.2 i _ _ he (List.getElem?_eq_getElem hi)⟩
theorem Wg.pop {H : Hp} {xs : List V} {L : List (Int × List Int)} (h : Wg H xs L) : Wg H xs.dropLast L.dropLast := by
  refine ⟨by rw [List.length_dropLast, List.length_dropLast, h.1], fun i x e h1 h2 => ?_⟩
  rw [List.getElem?_dropLast] at h1 h2
  split at h1
  · split at h2
    · exact h.2 i x e h1 h2
    · cases h2
  · cases h1
theorem di_ints {K : PySem.W.Frag} {H : Hp} {w : Addr} {ns : List Int} (h : H w = some (.tup (ns.map V.int))) : DI K H (.ref w) (dT ns) := by
  refine .tup (SqT.of h) (by simp) fun i x d h1 h2 => ?_
  rw [List.getElem?_map] at h1 h2
  cases z : ns[i]? with
  | none => rw [z] at h1; cases h1
  | some n =>
    rw [z] at h1 h2
    cases h1
    cases h2
    exact .int _
theorem Sh.di {K : PySem.W.Frag} {H : Hp} {x : V} {e : Int × List Int} (h : Sh H x e) : DI K H x (dE e) := by
  obtain ⟨p, w, rfl, h1, h2⟩ := h
  refine .tup (SqT.of h1) rfl fun i y d a b => ?_
  rcases i with _ | _ | i
  · cases a; cases b; exact .int _
  · cases a; cases b; exact di_ints h2
  · cases a
theorem Wg.di {K : PySem.W.Frag} {H : Hp} {a : Addr} {xs : List V} {L : List (Int × List Int)} (h : Wg H xs L) (ha : SqL K H a xs) : DI K H (.ref a) (dL L) := by
  refine .lst ha (by rw [List.length_map]; exact h.1) fun i x d h1 h2 => ?_
  rw [List.getElem?_map] at h2
  cases z : L[i]? with
  | none => rw [z] at h2; cases h2
  | some e =>
    rw [z] at h2
    cases h2
    exact (h.2 i x e h1 z).di
/-- pieces put together -/
def shStep (acc : List (Int × List Int)) (e : Int × List Int) : List (Int × List Int) :=
  if 0 < e.1 then match acc.getLast? with
    | some l => if l.2 = e.2 then acc.dropLast ++ [(e.1 + l.1, e.2)] else acc ++ [e]
    | none => acc ++ [e]
  else acc
def shape (L : List (Int × List Int)) : List (Int × List Int) := L.foldl shStep []
def tot (L : List (Int × List Int)) : Int := (L.map (·.1)).sum
theorem take_succ' {α : Type} {L : List α} {i : Nat} {e : α} (h : L[i]? = some e) : L.take (i + 1) = L.take i ++ [e] := by
  rw [List.take_add_one, h]; rfl
/-- what a weighing put together here keeps to -/
structure Good (n : Nat) (B : Int) (L : List (Int × List Int)) : Prop where
  len : L.length ≤ n
  pos : ∀ e ∈ L, 0 < e.1
  sum : tot L ≤ B
end L2

set_option Elab.async false
set_option linter.all false
set_option maxRecDepth 100000
set_option maxHeartbeats 4000000
namespace L2
open PySem PySem.Spec PyProof.Rows
section
variable {X : Cx}
end
/-- pieces put together twice -/
def Norm : List (Int × List Int) → Prop
  | [] => True
  | [e] => 0 < e.1
  | e :: d :: r => 0 < e.1 ∧ e.2 ≠ d.2 ∧ Norm (d :: r)
theorem Norm.snoc : ∀ {L : List (Int × List Int)} {e : Int × List Int}, Norm L → 0 < e.1 → (∀ l, L.getLast? = some l → l.2 ≠ e.2) → Norm (L ++ [e])
  | [], e, _, h, _ => h
  | [d], e, hd, h, k => ⟨hd, k d rfl, h⟩
  | d :: d' :: r, e, hd, h, k => by
    refine ⟨hd.1, hd.2.1, ?_⟩
    exact Norm.snoc (L := d' :: r) hd.2.2 h fun l hl => k l (by rw [List.getLast?_cons_cons]; exact hl)
theorem Norm.init : ∀ {L : List (Int × List Int)} {e : Int × List Int}, Norm (L ++ [e]) → Norm L ∧ 0 < e.1 ∧ ∀ l, L.getLast? = some l → l.2 ≠ e.2
  | [], e, h => ⟨trivial, h, fun l z => by cases z⟩
  | [d], e, h => ⟨h.1, h.2.2, fun l z => by cases z; exact h.2.1⟩
  | d :: d' :: r, e, h => by
    obtain ⟨a, b, c⟩ := Norm.init (L := d' :: r) h.2.2
    exact ⟨⟨h.1, h.2.1, a⟩, b, fun l z => c l (by rw [List.getLast?_cons_cons] at z; exact z)⟩
theorem Norm.pos : ∀ {L : List (Int × List Int)}, Norm L → ∀ e ∈ L, 0 < e.1
  | [], _, e, h => by cases h
  | [d], hd, e, h => by rw [List.mem_singleton] at h; subst h; exact hd
  | d :: d' :: r, hd, e, h => by
    rcases List.mem_cons.mp h with z | z
    · subst z; exact hd.1
    · exact Norm.pos (L := d' :: r) hd.2.2 e z
end L2

set_option Elab.async false
set_option linter.all false
set_option maxRecDepth 100000
set_option maxHeartbeats 4000000
namespace L2
open PySem PySem.Spec PyProof.Rows
section
variable {X : Cx}
theorem Vals.rev {xs : List V} {us : List Value} (r : Vals xs us) : Vals xs.reverse us.reverse := by
  induction r with
  | nil => exact .nil
  | cons a b ih => rw [List.reverse_cons, List.reverse_cons]; exact ih.append (.cons a .nil)
/-- sorted of a list of few ints -/
theorem call_sorted : CallR X (.builtin "sorted") (fun xs H Q => ∃ (p : Addr) (ns : List Int), xs = [.ref p] ∧ SqL X.K H p (ns.map V.int) ∧ ns.length < 64 ∧ ∀ (l : Addr) (ms : List Int), H l = none → ms.Perm ns → ms.Pairwise (· ≤ ·) → Q (.ref l) (upd H l (.lst (ms.map V.int)))) := by
  intro pins s σ H xs us Q I r h
  obtain ⟨p, ns, rfl, hq, h64, q⟩ := h
  obtain ⟨u, rfl, rx⟩ := vals1 r
  cases rx
  obtain ⟨its, rv, pl, hz⟩ := I.list hq
  have hlen : its.length = ns.length := by have := rv.length; rw [List.length_map] at this; exact this.symm
  refine sorted_ints (vs := its) pl.isList (intsAre_of rv) (by omega) fun out ms hI hp hw => ?_
  obtain ⟨e, he⟩ := sortedAll_at s.heap its out
  have hl : ms.length = ns.length := hp.length_eq
  refine ⟨.ref _, upd H (s.heap.objs.size + 1) (.lst (ms.map V.int)), I.laid (t' := s.toks) (fun b ob z => sortedAll_old z) (Nat.le_succ _) ⟨?_, out.toList, e, vals_ints hI, ?_⟩, rfl, q _ ms (I.hok.fresh (Nat.le_succ _)) hp hw⟩
  · rw [List.length_map, hl]
    exact Nat.le_of_lt (small1000 (by omega))
  · rw [he]
section
variable {prog : Program} {w : World} {A : Around} {E : Value → Shared → Prop} {s : Shared}
end
/-- xs[::-1] -/
def tRev (K : PySem.W.Frag) (te : TE) (tk : TO) : TE := fun σ H Q => te σ H fun x H1 => tk σ H1 fun k H2 => k = some (-1) ∧ ∃ a xs, x = .ref a ∧ SqL K H2 a xs ∧ ∀ p, H2 p = none → Q (.ref p) (upd H2 p (.lst xs.reverse))
theorem pe_rev {e : Expr} {te : TE} {st : Option Expr} {tk : TO} {pos p2 : Pos} (he : PE X e te) (hk : PO X st tk) (hsub : ∀ a b : Addr, subscripted (.Slice none none st p2) false (.ref a) (.ref b) = operate [.ref a, .ref b] (getItem (.ref a) (.ref b)) := by intro _ _; with_unfolding_all rfl) : PE X (.Subscript e (.Slice none none st p2) pos) (tRev X.K te tk) := by
  intro pins s σ H Q I h
  refine Subscript_ (thn (he pins s σ H _ I h) fun v s1 ⟨x, H1, I1, r1, q1⟩ => ?_)
  refine wpAny_Slice ?_
  rw [evalPart_none]
  refine wpAny_pure (wpAny_pure (thn (hk pins s1 σ H1 _ I1 q1) fun vk s3 ⟨k, H3, I3, pk, q3⟩ => ?_))
  obtain ⟨rfl, a, xs, rfl, hx, q⟩ := q3
  cases r1
  have I4 : Inv X pins σ H3 { s3 with heap := s3.heap.push { cls := .type "slice", data := .fields #[.none, .none, vk] } } := I3.kept (t' := s3.toks) fun b ob z => Heap.get?_push_of_some _ z
  obtain ⟨its, r, ht, hz⟩ := I4.list hx
  have hlen := r.length
  show wpAny (model X.prog X.w) X.A (subscriptTail e (.Slice none none st p2) (.ref a) (.ref s3.heap.objs.size)) (EP X pins σ Q) X.xe { s3 with heap := s3.heap.push { cls := .type "slice", data := .fields #[.none, .none, vk] } }
  refine tail_any (ops := [.ref a, .ref s3.heap.objs.size]) ht.isList.typeIs slot_list_getitem.lookup ?_ (hsub _ _)
  refine wpAny_getItem_list_slice ht.isList (Heap.IsSliceOf.new ..) .none .none pk (by simp) ?_ (by rw [List.size_toArray] <;> omega)
  rw [PySem.W.krv_pick]
  refine ⟨.ref _, _, I4.laid (t' := s3.toks) (o := .lst xs.reverse) (fun b ob z => Heap.get?_push_of_some _ z) (Nat.le_refl _) ?_, rfl, q _ (I4.hok.fresh (Nat.le_refl _))⟩
  exact ⟨by rw [List.length_reverse]; exact hz, its.reverse, 0, Vals.rev r, Heap.get?_push_size _ rfl⟩
end
end L2

set_option Elab.async false
set_option linter.all false
set_option maxRecDepth 100000
set_option maxHeartbeats 4000000
namespace L2
abbrev WL := List (Int × List Int)
def Pos (L : WL) : Prop := ∀ e ∈ L, 0 < e.1
theorem Pos.tail {x : Int × List Int} {r : WL} (h : Pos (x :: r)) : 0 < x.1 ∧ Pos r := ⟨h x List.mem_cons_self, fun e he => h e (List.mem_cons_of_mem _ he)⟩
theorem Pos.cons {x : Int × List Int} {r : WL} (h : 0 < x.1) (hr : Pos r) : Pos (x :: r) := fun e he => by
  rcases List.mem_cons.mp he with z | z
  · subst z; exact h
  · exact hr e z
theorem Norm.tl {x : Int × List Int} {r : WL} (h : Norm (x :: r)) : 0 < x.1 ∧ Norm r ∧ ∀ y r', r = y :: r' → x.2 ≠ y.2 := by
  cases r with
  | nil => exact ⟨h, trivial, fun y r' z => by cases z⟩
  | cons y r => exact ⟨h.1, h.2.2, fun z r' e => by cases e; exact h.2.1⟩
theorem Norm.mk {x : Int × List Int} {r : WL} (h0 : 0 < x.1) (h1 : Norm r) (h2 : ∀ y r', r = y :: r' → x.2 ≠ y.2) : Norm (x :: r) := by
  cases r with
  | nil => exact h0
  | cons y r => exact ⟨h0, h2 y r rfl, h1⟩
end L2

set_option Elab.async false
set_option linter.all false
set_option maxRecDepth 100000
set_option maxHeartbeats 4000000
namespace L2
open PySem PySem.Spec PyProof.Rows
section
variable {X : Cx}
end
/-- any thing that was made here -/
inductive Th (H : Hp) : V → PyData → Prop where
  | non : Th H .non .none
  | bl (b : Bool) : Th H (.bl b) (.bool b)
  | int (i : Int) : Th H (.int i) (.int i)
  | str (x : Str) : Th H (.str x) (.str x)
  | tup {a : Addr} {xs : List V} {ds : List PyData} : H a = some (.tup xs) → xs.length = ds.length → (∀ (i : Nat) (x : V) (d : PyData), xs[i]? = some x → ds[i]? = some d → Th H x d) → Th H (.ref a) (.tuple ds)
  | lst {a : Addr} {xs : List V} {ds : List PyData} : H a = some (.lst xs) → xs.length = ds.length → (∀ (i : Nat) (x : V) (d : PyData), xs[i]? = some x → ds[i]? = some d → Th H x d) → Th H (.ref a) (.list ds)
theorem Th.di {K : PySem.W.Frag} {H : Hp} {x : V} {d : PyData} (h : Th H x d) : DI K H x d := by
  induction h with
  | non => exact .non
  | bl b => exact .bl b
  | int i => exact .int i
  | str x => exact .str x
  | tup a b _ ih => exact .tup (SqT.of a) b ih
  | lst a b _ ih => exact .lst (SqL.of a) b ih
theorem Th.up {H H' : Hp} {x : V} {d : PyData} (h : Th H x d) (s : Same H H') : Th H' x d := by
  induction h with
  | non => exact .non
  | bl b => exact .bl b
  | int i => exact .int i
  | str x => exact .str x
  | tup a b _ ih => exact .tup (s _ _ a) b ih
  | lst a b _ ih => exact .lst (s _ _ a) b ih
def tyName : PyData → String
  | .none => "NoneType"
  | .bool _ => "bool"
  | .int _ => "int"
  | .str _ => "str"
  | .list _ => "list"
  | .tuple _ => "tuple"
  | .dict _ => "dict"
theorem Th.ty {K : PySem.W.Frag} {H : Hp} {x : V} {d : PyData} (h : Th H x d) : TyOf K H x (.type (tyName d)) := by
  cases h with
  | non => exact .non
  | bl b => exact .bl b
  | int i => exact .int i
  | str x => exact .str x
  | tup a _ _ => exact .tup a
  | lst a _ _ => exact .lst a
def isInt : PyData → Bool
  | .int _ | .bool _ => true
  | _ => false
def isBool : PyData → Bool
  | .bool _ => true
  | _ => false
def isTup : PyData → Bool
  | .tuple _ => true
  | _ => false
theorem kit_int {K : PySem.W.Frag} (d : PyData) : PySem.W.kitOne K (.type (tyName d)) (.type "int") = some (isInt d) := by
  cases d <;> with_unfolding_all rfl
theorem kit_bool {K : PySem.W.Frag} (d : PyData) : PySem.W.kitOne K (.type (tyName d)) (.type "bool") = some (isBool d) := by
  cases d <;> with_unfolding_all rfl
theorem kit_tup {K : PySem.W.Frag} (d : PyData) : PySem.W.kitOne K (.type (tyName d)) (.type "tuple") = some (isTup d) := by
  cases d <;> with_unfolding_all rfl
/-- what may be shown -/
structure Fine (n : Nat) (d : PyData) : Prop where
  lay : d.canLay0 = true
  show' : d.showable = true
  dep : d.depth ≤ n
  wt : d.weight ≤ 400 * 12 ^ n
  short : d.intsShort 80 = true
theorem int_short {i : Int} (h1 : -(10 ^ 79) < i) (h2 : i < 10 ^ 79) : (Str.ofString (toString i)).length ≤ 80 := by
  by_cases h0 : 0 ≤ i
  · exact Nat.le_trans (toString_length_le (k := 79) h0 (by decide) h2) (by decide)
  · rw [len_text_neg (by omega)]
    have := toString_length_le (v := 0 - i) (k := 79) (by omega) (by decide) (by omega)
    omega
theorem Fine.int {i : Int} (h1 : -(10 ^ 79) < i) (h2 : i < 10 ^ 79) : Fine 0 (.int i) := by
  have hl : i ≠ 0 → i.natAbs.log2 < 300 := fun z => by
    refine (Nat.log2_lt (by omega)).mpr ?_
    have : (10 : Int) ^ 79 ≤ 2 ^ 300 := by decide +kernel
    omega
  refine ⟨rfl, ?_, Nat.le_refl _, ?_, decide_eq_true (int_short h1 h2)⟩
  · show decide (i.natAbs.log2 < 1920) = true
    by_cases z : i = 0
    · subst z; rfl
    · have := hl z
      exact decide_eq_true (by omega)
  · show (if i == 0 then 0 else i.natAbs.log2 + 1) ≤ _
    by_cases z : i = 0
    · subst z; decide
    · rw [if_neg (by simpa using z)]
      have := hl z
      show _ ≤ 400
      omega
theorem Fine.mono {n m : Nat} {d : PyData} (h : Fine n d) (hm : n ≤ m) : Fine m d := ⟨h.lay, h.show', Nat.le_trans h.dep hm, Nat.le_trans h.wt (Nat.mul_le_mul_left _ (Nat.pow_le_pow_right (by decide) hm)), h.short⟩
theorem Fine.all {n : Nat} : ∀ {ds : List PyData}, (∀ d ∈ ds, Fine n d) → PyData.canLayAll0 ds = true ∧ PyData.showableAll ds = true ∧ PyData.depthAll ds ≤ n ∧ PyData.weightAll ds ≤ ds.length * (400 * 12 ^ n + 1) ∧ PyData.intsShortAll 80 ds = true
  | [], _ => ⟨rfl, rfl, Nat.zero_le _, Nat.zero_le _, rfl⟩
  | d :: ds, h => by
    obtain ⟨a, b, c, e, f⟩ := Fine.all (ds := ds) fun x hx => h x (List.mem_cons_of_mem _ hx)
    have q := h d List.mem_cons_self
    refine ⟨?_, ?_, ?_, ?_, ?_⟩
    · show (d.canLay0 && _) = true; rw [q.lay, a]; rfl
    · show (d.showable && _) = true; rw [q.show', b]; rfl
    · show max d.depth _ ≤ n; have := q.dep; omega
    · show d.weight + 1 + PyData.weightAll ds ≤ (ds.length + 1) * (400 * 12 ^ n + 1)
      rw [Nat.succ_mul]
      have := q.wt
      omega
    · show (d.intsShort 80 && _) = true; rw [q.short, f]; rfl
theorem Fine.tup {n : Nat} {ds : List PyData} (h : ∀ d ∈ ds, Fine n d) (hl : ds.length ≤ 10) : Fine (n + 1) (.tuple ds) := by
  obtain ⟨a, b, c, e, f⟩ := Fine.all h
  refine ⟨a, b, by show PyData.depthAll ds + 1 ≤ n + 1; omega, ?_, f⟩
  show PyData.weightAll ds ≤ _
  have h1 : ds.length * (400 * 12 ^ n + 1) ≤ 10 * (400 * 12 ^ n + 1) := Nat.mul_le_mul_right _ hl
  have h2 : 400 * 12 ^ (n + 1) = 12 * (400 * 12 ^ n) := by rw [Nat.pow_succ]; omega
  have h3 : 1 ≤ 12 ^ n := Nat.one_le_pow _ _ (by decide)
  omega
theorem Fine.lst {n : Nat} {ds : List PyData} (h : ∀ d ∈ ds, Fine n d) (hl : ds.length ≤ 10) : Fine (n + 1) (.list ds) := by
  obtain ⟨a, b, c, e, f⟩ := Fine.all h
  refine ⟨a, b, by show PyData.depthAll ds + 1 ≤ n + 1; omega, ?_, f⟩
  show PyData.weightAll ds ≤ _
  have h1 : ds.length * (400 * 12 ^ n + 1) ≤ 10 * (400 * 12 ^ n + 1) := Nat.mul_le_mul_right _ hl
  have h2 : 400 * 12 ^ (n + 1) = 12 * (400 * 12 ^ n) := by rw [Nat.pow_succ]; omega
  have h3 : 1 ≤ 12 ^ n := Nat.one_le_pow _ _ (by decide)
  omega
theorem Fine.len {d : PyData} (h : Fine 2 d) : d.shown.length ≤ sizeLine := by
  have h1 := PyData.shown_le 80 (by decide) d (PyData.leavesShort_of_canLay0 80 d h.lay h.short)
  have h2 := h.wt
  have h3 : (400 * 12 ^ 2 : Nat) = 57600 := by decide
  have h4 : sizeLine = 16777216 := by decide
  rw [h3] at h2
  rw [h4]
  omega
theorem Fine.noD {n : Nat} {d : PyData} (h : Fine n d) : d.hasDict = false := PyData.hasDict_of_canLay d h.lay
theorem Th.parts {H : Hp} {a : Addr} {ds : List PyData} (h : Th H (.ref a) (.tuple ds)) : ∃ xs, H a = some (.tup xs) ∧ xs.length = ds.length ∧ ∀ (i : Nat) (x : V) (d : PyData), xs[i]? = some x → ds[i]? = some d → Th H x d := by
  cases h with
  | tup a b c => exact ⟨_, a, b, c⟩
section
variable {X : Cx} {es : List Expr} {te : TE} {t : TA}
theorem pa_Constant {c : Const} {j : Nat} {p : PySem.Pos} (ha : PE X (.Constant c j p) te) (hr : PA X es t) : PA X (.Constant c j p :: es) (tCons te t) := pa_cons ha hr rfl
theorem pa_Name {x : Str} {p : PySem.Pos} (ha : PE X (.Name x p) te) (hr : PA X es t) : PA X (.Name x p :: es) (tCons te t) := pa_cons ha hr rfl
theorem pa_List {l : List Expr} {p : PySem.Pos} (ha : PE X (.List l p) te) (hr : PA X es t) : PA X (.List l p :: es) (tCons te t) := pa_cons ha hr rfl
theorem pa_BinOp {a b : Expr} {o : Operator} {p : PySem.Pos} (ha : PE X (.BinOp a o b p) te) (hr : PA X es t) : PA X (.BinOp a o b p :: es) (tCons te t) := pa_cons ha hr rfl
theorem pa_Subscript {a b : Expr} {p : PySem.Pos} (ha : PE X (.Subscript a b p) te) (hr : PA X es t) : PA X (.Subscript a b p :: es) (tCons te t) := pa_cons ha hr rfl
theorem pa_Call {f : Expr} {l : List Expr} {kw : List Keyword} {p : PySem.Pos} (ha : PE X (.Call f l kw p) te) (hr : PA X es t) : PA X (.Call f l kw p :: es) (tCons te t) := pa_cons ha hr rfl
end
/-- the items of a display, not to be unfolded -/
structure PAs (X : Cx) (es : List Expr) (t : TA) : Prop where
  out : PA X es t
section
variable {X : Cx} {es : List Expr} {te : TE} {t : TA}
end
theorem pa_o2 {X : Cx} {e1 e2 : Expr} {t1 t2 : TE} {es : List Expr} {t : TA} (h1 : PE X e1 t1) (h2 : PE X e2 t2) (hr : PA X es t) (s1 : ∀ l, starEach (e1 :: l) X.env = (false, eval e1 X.env) :: starEach l X.env := by intro _; rfl) (s2 : ∀ l, starEach (e2 :: l) X.env = (false, eval e2 X.env) :: starEach l X.env := by intro _; rfl) : PA X (e1 :: e2 :: es) (tCons t1 (tCons t2 t)) := (pa_cons h1 (pa_cons h2 hr (s2 _)) (s1 _))
theorem pa_o3 {X : Cx} {e1 e2 e3 : Expr} {t1 t2 t3 : TE} {es : List Expr} {t : TA} (h1 : PE X e1 t1) (h2 : PE X e2 t2) (h3 : PE X e3 t3) (hr : PA X es t) (s1 : ∀ l, starEach (e1 :: l) X.env = (false, eval e1 X.env) :: starEach l X.env := by intro _; rfl) (s2 : ∀ l, starEach (e2 :: l) X.env = (false, eval e2 X.env) :: starEach l X.env := by intro _; rfl) (s3 : ∀ l, starEach (e3 :: l) X.env = (false, eval e3 X.env) :: starEach l X.env := by intro _; rfl) : PA X (e1 :: e2 :: e3 :: es) (tCons t1 (tCons t2 (tCons t3 t))) := (pa_cons h1 (pa_cons h2 (pa_cons h3 hr (s3 _)) (s2 _)) (s1 _))
theorem pa_o4 {X : Cx} {e1 e2 e3 e4 : Expr} {t1 t2 t3 t4 : TE} {es : List Expr} {t : TA} (h1 : PE X e1 t1) (h2 : PE X e2 t2) (h3 : PE X e3 t3) (h4 : PE X e4 t4) (hr : PA X es t) (s1 : ∀ l, starEach (e1 :: l) X.env = (false, eval e1 X.env) :: starEach l X.env := by intro _; rfl) (s2 : ∀ l, starEach (e2 :: l) X.env = (false, eval e2 X.env) :: starEach l X.env := by intro _; rfl) (s3 : ∀ l, starEach (e3 :: l) X.env = (false, eval e3 X.env) :: starEach l X.env := by intro _; rfl) (s4 : ∀ l, starEach (e4 :: l) X.env = (false, eval e4 X.env) :: starEach l X.env := by intro _; rfl) : PA X (e1 :: e2 :: e3 :: e4 :: es) (tCons t1 (tCons t2 (tCons t3 (tCons t4 t)))) := (pa_cons h1 (pa_cons h2 (pa_cons h3 (pa_cons h4 hr (s4 _)) (s3 _)) (s2 _)) (s1 _))
section
variable {X : Cx}
end
theorem sw_sub {a b : Expr} {p : PySem.Pos} {t : Option Expr} {l : Nat} {env : Env} : swapsWith (.Subscript a b p) t l env = pure false := rfl
end L2

set_option Elab.async false
set_option linter.all false
set_option maxRecDepth 100000
set_option maxHeartbeats 1000000
namespace L2
open PySem PySem.Spec PyProof.Rows
section
variable {X : Cx} {pins : List (Addr × Obj)} {σ : St} {H : Hp} {s : Shared} {h' : Heap}
end
section
variable {X : Cx}
end
end L2

set_option Elab.async false
set_option linter.all false
set_option maxRecDepth 100000
set_option maxHeartbeats 1000000
namespace L2
open PySem PySem.Spec PyProof.Rows
/-- things that may be shown: so deep, so heavy -/
structure FA (n W : Nat) (ds : List PyData) : Prop where
  lay : PyData.canLayAll0 ds = true
  show' : PyData.showableAll ds = true
  dep : PyData.depthAll ds ≤ n
  wt : PyData.weightAll ds ≤ W
  short : PyData.intsShortAll 80 ds = true
structure FD (n W : Nat) (d : PyData) : Prop where
  lay : d.canLay0 = true
  show' : d.showable = true
  dep : d.depth ≤ n
  wt : d.weight ≤ W
  short : d.intsShort 80 = true
theorem FA.nil {n W : Nat} : FA n W [] := ⟨rfl, rfl, Nat.zero_le _, Nat.zero_le _, rfl⟩
theorem FA.cons {n W w : Nat} {d : PyData} {ds : List PyData} (h : FD n w d) (k : FA n W ds) : FA n (w + 1 + W) (d :: ds) := by
  refine ⟨?_, ?_, ?_, ?_, ?_⟩
  · show (d.canLay0 && _) = true; rw [h.lay, k.lay]; rfl
  · show (d.showable && _) = true; rw [h.show', k.show']; rfl
  · show max d.depth _ ≤ n; have := h.dep; have := k.dep; omega
  · show d.weight + 1 + PyData.weightAll ds ≤ _; have := h.wt; have := k.wt; omega
  · show (d.intsShort 80 && _) = true; rw [h.short, k.short]; rfl
theorem FA.mono {n m W V : Nat} {ds : List PyData} (h : FA n W ds) (a : n ≤ m) (b : W ≤ V) : FA m V ds := ⟨h.lay, h.show', Nat.le_trans h.dep a, Nat.le_trans h.wt b, h.short⟩
theorem FD.mono {n m W V : Nat} {d : PyData} (h : FD n W d) (a : n ≤ m) (b : W ≤ V) : FD m V d := ⟨h.lay, h.show', Nat.le_trans h.dep a, Nat.le_trans h.wt b, h.short⟩
theorem FA.head {n W : Nat} {d : PyData} {ds : List PyData} (h : FA n W (d :: ds)) : FD n W d := by
  have h1 : (d.canLay0 && PyData.canLayAll0 ds) = true := h.lay
  have h2 : (d.showable && PyData.showableAll ds) = true := h.show'
  have h3 : max d.depth (PyData.depthAll ds) ≤ n := h.dep
  have h4 : d.weight + 1 + PyData.weightAll ds ≤ W := h.wt
  have h5 : (d.intsShort 80 && PyData.intsShortAll 80 ds) = true := h.short
  rw [Bool.and_eq_true] at h1 h2 h5
  exact ⟨h1.1, h2.1, by omega, by omega, h5.1⟩
theorem FA.tail {n W : Nat} {d : PyData} {ds : List PyData} (h : FA n W (d :: ds)) : FA n W ds := by
  have h1 : (d.canLay0 && PyData.canLayAll0 ds) = true := h.lay
  have h2 : (d.showable && PyData.showableAll ds) = true := h.show'
  have h3 : max d.depth (PyData.depthAll ds) ≤ n := h.dep
  have h4 : d.weight + 1 + PyData.weightAll ds ≤ W := h.wt
  have h5 : (d.intsShort 80 && PyData.intsShortAll 80 ds) = true := h.short
  rw [Bool.and_eq_true] at h1 h2 h5
  exact ⟨h1.2, h2.2, by omega, by omega, h5.2⟩
theorem FA.drop {n W : Nat} : ∀ (i : Nat) {ds : List PyData}, FA n W ds → FA n W (ds.drop i)
  | 0, _, h => h
  | _ + 1, [], h => h
  | i + 1, _ :: _, h => FA.drop i h.tail
theorem wt_take : ∀ (i : Nat) (ds : List PyData), PyData.weightAll (ds.take i) ≤ PyData.weightAll ds
  | 0, _ => Nat.zero_le _
  | _ + 1, [] => Nat.le_refl _
  | i + 1, d :: ds => by
    show d.weight + 1 + PyData.weightAll (ds.take i) ≤ d.weight + 1 + PyData.weightAll ds
    have := wt_take i ds
    omega
theorem FA.take {n W : Nat} : ∀ (i : Nat) {ds : List PyData}, FA n W ds → FA n W (ds.take i)
  | 0, _, _ => FA.nil
  | _ + 1, [], h => h
  | i + 1, d :: ds, h => by
    have k := FA.take i h.tail
    have q := h.head
    refine ⟨?_, ?_, ?_, Nat.le_trans (wt_take (i + 1) (d :: ds)) h.wt, ?_⟩
    · show (d.canLay0 && _) = true; rw [q.lay, k.lay]; rfl
    · show (d.showable && _) = true; rw [q.show', k.show']; rfl
    · show max d.depth _ ≤ n; have := q.dep; have := k.dep; omega
    · show (d.intsShort 80 && _) = true; rw [q.short, k.short]; rfl
theorem FA.append {n W V : Nat} : ∀ {ds es : List PyData}, FA n W ds → FA n V es → FA n (W + V) (ds ++ es)
  | [], es, _, k => k.mono (Nat.le_refl _) (by omega)
  | d :: ds, es, h, k => by
    have q := h.head
    have h4 : d.weight + 1 + PyData.weightAll ds ≤ W := h.wt
    have t : FA n (W - (d.weight + 1)) ds := ⟨h.tail.lay, h.tail.show', h.tail.dep, by omega, h.tail.short⟩
    have r := FA.append t k
    exact (FA.cons (w := d.weight) ⟨q.lay, q.show', q.dep, Nat.le_refl _, q.short⟩ r).mono (Nat.le_refl _) (by omega)
theorem FA.all {n w : Nat} : ∀ {ds : List PyData}, (∀ d ∈ ds, FD n w d) → FA n (ds.length * (w + 1)) ds
  | [], _ => FA.nil
  | d :: ds, h => by
    have := FA.cons (h d List.mem_cons_self) (FA.all fun x hx => h x (List.mem_cons_of_mem _ hx))
    refine this.mono (Nat.le_refl _) ?_
    rw [List.length_cons, Nat.succ_mul]
    omega
theorem FA.lst {n W : Nat} {ds : List PyData} (h : FA n W ds) : FD (n + 1) W (.list ds) := ⟨h.lay, h.show', by show PyData.depthAll ds + 1 ≤ n + 1; have := h.dep; omega, h.wt, h.short⟩
theorem FA.tup {n W : Nat} {ds : List PyData} (h : FA n W ds) : FD (n + 1) W (.tuple ds) := ⟨h.lay, h.show', by show PyData.depthAll ds + 1 ≤ n + 1; have := h.dep; omega, h.wt, h.short⟩
theorem FD.int {n : Nat} {i : Int} (h1 : -(10 ^ 79) < i) (h2 : i < 10 ^ 79) : FD n 400 (.int i) := by
  have := Fine.int h1 h2
  exact ⟨this.lay, this.show', Nat.le_trans this.dep (Nat.zero_le _), by have := this.wt; simpa using this, this.short⟩
theorem FD.bl {n : Nat} (b : Bool) : FD n 0 (.bool b) := ⟨rfl, rfl, Nat.zero_le _, Nat.le_refl _, rfl⟩
theorem FD.non {n : Nat} : FD n 0 .none := ⟨rfl, rfl, Nat.zero_le _, Nat.le_refl _, rfl⟩
theorem FD.len {n : Nat} {d : PyData} (h : FD n 200000 d) : d.shown.length ≤ sizeLine := by
  have h1 := PyData.shown_le 80 (by decide) d (PyData.leavesShort_of_canLay0 80 d h.lay h.short)
  have h2 := h.wt
  have h4 : sizeLine = 16777216 := by decide
  rw [h4]
  omega
theorem FD.noD {n W : Nat} {d : PyData} (h : FD n W d) : d.hasDict = false := PyData.hasDict_of_canLay d h.lay
/-- Th by a list -/
def ThL (H : Hp) (xs : List V) (ds : List PyData) : Prop := xs.length = ds.length ∧ ∀ (i : Nat) (x : V) (d : PyData), xs[i]? = some x → ds[i]? = some d → Th H x d
theorem ThL.nil {H : Hp} : ThL H [] [] := ⟨rfl, fun i x d h => by simp at h⟩
theorem ThL.cons {H : Hp} {x : V} {d : PyData} {xs : List V} {ds : List PyData} (h : Th H x d) (k : ThL H xs ds) : ThL H (x :: xs) (d :: ds) := by
  refine ⟨by rw [List.length_cons, List.length_cons, k.1], fun i y e h1 h2 => ?_⟩
  cases i with
  | zero => cases h1; cases h2; exact h
  | succ i => exact k.2 i y e h1 h2
theorem ThL.up {H H' : Hp} {xs : List V} {ds : List PyData} (k : ThL H xs ds) (s : Same H H') : ThL H' xs ds := ⟨k.1, fun i x d h1 h2 => (k.2 i x d h1 h2).up s⟩
theorem ThL.append {H : Hp} {xs ys : List V} {ds es : List PyData} (k : ThL H xs ds) (l : ThL H ys es) : ThL H (xs ++ ys) (ds ++ es) := by
  refine ⟨by rw [List.length_append, List.length_append, k.1, l.1], fun i x d h1 h2 => ?_⟩
  by_cases hi : i < xs.length
  · rw [List.getElem?_append_left hi] at h1
    rw [List.getElem?_append_left (k.1 ▸ hi)] at h2
    exact k.2 i x d h1 h2
  · rw [List.getElem?_append_right (by omega)] at h1
    rw [List.getElem?_append_right (by rw [← k.1]; omega), ← k.1] at h2
    exact l.2 _ x d h1 h2
theorem ThL.take {H : Hp} {xs : List V} {ds : List PyData} (k : ThL H xs ds) (n : Nat) : ThL H (xs.take n) (ds.take n) := by
  refine ⟨by rw [List.length_take, List.length_take, k.1], fun i x d h1 h2 => ?_⟩
  rw [List.getElem?_take] at h1 h2
  split at h1
  · rename_i hi
    rw [if_pos hi] at h2
    exact k.2 i x d h1 h2
  · cases h1
theorem ThL.drop {H : Hp} {xs : List V} {ds : List PyData} (k : ThL H xs ds) (n : Nat) : ThL H (xs.drop n) (ds.drop n) := by
  refine ⟨by rw [List.length_drop, List.length_drop, k.1], fun i x d h1 h2 => ?_⟩
  rw [List.getElem?_drop] at h1 h2
  exact k.2 _ x d h1 h2
theorem ThL.tup {H : Hp} {a : Addr} {xs : List V} {ds : List PyData} (k : ThL H xs ds) (h : H a = some (.tup xs)) : Th H (.ref a) (.tuple ds) := .tup h k.1 k.2
theorem ThL.lst {H : Hp} {a : Addr} {xs : List V} {ds : List PyData} (k : ThL H xs ds) (h : H a = some (.lst xs)) : Th H (.ref a) (.list ds) := .lst h k.1 k.2
theorem ThL.ints {H : Hp} (ns : List Int) : ThL H (ns.map V.int) (ns.map .int) := by
  refine ⟨by simp, fun i x d h1 h2 => ?_⟩
  rw [List.getElem?_map] at h1 h2
  cases z : ns[i]? with
  | none => rw [z] at h1; cases h1
  | some n => rw [z] at h1 h2; cases h1; cases h2; exact .int n
theorem FA.ints {ns : List Int} (h : ∀ n ∈ ns, -(10 ^ 79) < n ∧ n < 10 ^ 79) : FA 0 (ns.length * 401) (ns.map .int) := by
  have := FA.all (n := 0) (w := 400) (ds := ns.map .int) (fun d hd => by
    obtain ⟨n, hn, rfl⟩ := List.mem_map.mp hd
    exact FD.int (h n hn).1 (h n hn).2)
  rwa [List.length_map] at this
end L2

set_option Elab.async false
set_option linter.all false
set_option maxRecDepth 100000
set_option maxHeartbeats 1000000
namespace L2
open PySem PySem.Spec PyProof.Rows
section
variable {prog : Program} {w : World} {A : Around} {E : Value → Shared → Prop} {s : Shared}
end
section
variable {X : Cx}
end
end L2

set_option Elab.async false
set_option linter.all false
set_option maxRecDepth 100000
set_option maxHeartbeats 1000000
namespace L2
open PySem PySem.Spec PyProof.Rows
/-- no star -/
def NSt (X : Cx) (e : Expr) : Prop := ∀ l, starEach (e :: l) X.env = (false, eval e X.env) :: starEach l X.env
theorem pe_l8 {X : Cx} {e1 e2 e3 e4 e5 e6 e7 e8 : Expr} {t1 t2 t3 t4 t5 t6 t7 t8 : TE} {pos : PySem.Pos} (h1 : PE X e1 t1) (h2 : PE X e2 t2) (h3 : PE X e3 t3) (h4 : PE X e4 t4) (h5 : PE X e5 t5) (h6 : PE X e6 t6) (h7 : PE X e7 t7) (h8 : PE X e8 t8) (n1 : NSt X e1 := by intro _; rfl) (n2 : NSt X e2 := by intro _; rfl) (n3 : NSt X e3 := by intro _; rfl) (n4 : NSt X e4 := by intro _; rfl) (n5 : NSt X e5 := by intro _; rfl) (n6 : NSt X e6 := by intro _; rfl) (n7 : NSt X e7 := by intro _; rfl) (n8 : NSt X e8 := by intro _; rfl) : PE X (.List [e1, e2, e3, e4, e5, e6, e7, e8] pos) (tLst (tCons t1 (tCons t2 (tCons t3 (tCons t4 (tCons t5 (tCons t6 (tCons t7 (tCons t8 tNil))))))))) :=
  pe_lst (pa_cons h1 (pa_cons h2 (pa_cons h3 (pa_cons h4 (pa_cons h5 (pa_cons h6 (pa_cons h7 (pa_cons h8 pa_nil (n8 _)) (n7 _)) (n6 _)) (n5 _)) (n4 _)) (n3 _)) (n2 _)) (n1 _))
theorem pe_l10 {X : Cx} {e1 e2 e3 e4 e5 e6 e7 e8 e9 e10 : Expr} {t1 t2 t3 t4 t5 t6 t7 t8 t9 t10 : TE} {pos : PySem.Pos} (h1 : PE X e1 t1) (h2 : PE X e2 t2) (h3 : PE X e3 t3) (h4 : PE X e4 t4) (h5 : PE X e5 t5) (h6 : PE X e6 t6) (h7 : PE X e7 t7) (h8 : PE X e8 t8) (h9 : PE X e9 t9) (h10 : PE X e10 t10) (n1 : NSt X e1 := by intro _; rfl) (n2 : NSt X e2 := by intro _; rfl) (n3 : NSt X e3 := by intro _; rfl) (n4 : NSt X e4 := by intro _; rfl) (n5 : NSt X e5 := by intro _; rfl) (n6 : NSt X e6 := by intro _; rfl) (n7 : NSt X e7 := by intro _; rfl) (n8 : NSt X e8 := by intro _; rfl) (n9 : NSt X e9 := by intro _; rfl) (n10 : NSt X e10 := by intro _; rfl) : PE X (.List [e1, e2, e3, e4, e5, e6, e7, e8, e9, e10] pos) (tLst (tCons t1 (tCons t2 (tCons t3 (tCons t4 (tCons t5 (tCons t6 (tCons t7 (tCons t8 (tCons t9 (tCons t10 tNil))))))))))) :=
  pe_lst (pa_cons h1 (pa_cons h2 (pa_cons h3 (pa_cons h4 (pa_cons h5 (pa_cons h6 (pa_cons h7 (pa_cons h8 (pa_cons h9 (pa_cons h10 pa_nil (n10 _)) (n9 _)) (n8 _)) (n7 _)) (n6 _)) (n5 _)) (n4 _)) (n3 _)) (n2 _)) (n1 _))
end L2

set_option Elab.async false
set_option linter.all false
set_option maxRecDepth 100000
set_option maxHeartbeats 1000000
namespace L2
open PySem PySem.Spec PyProof.Rows
/-- a table as it is where nothing was taken out -/
structure TB (t : SetTable) (led : Bool) : Prop where
  led : t.led = led
  dum : t.dummies = #[]
  up : t.place.toList.Pairwise (· < ·)
end L2

set_option Elab.async false
set_option linter.all false
set_option maxRecDepth 100000
set_option maxHeartbeats 2000000
namespace L2
open PySem PySem.Spec PyProof.Rows
/-- a set of ints, told by its members, each once -/
def SetJ (prog : Program) (w : World) (h : Heap) (a : Addr) (ns : List Int) : Prop :=
  ∃ o es ep t, h.get? a = some o ∧ o.ExactSet ∧ o.data = .set es ep t ∧ ElemsOf (intKind prog w) es.toList ∧ (∃ ms, IntsAre (es.toList.map (·.2)) ms ∧ ms.Perm ns) ∧ es.size < scanBound ∧ t.fits es.size = true ∧ TB t (!w.params.followText "set-order")
theorem SetJ.size {prog : Program} {w : World} {o : Obj} {es : Array (Int × Value)} {ns : List Int} (h : ∃ ms, IntsAre (es.toList.map (·.2)) ms ∧ ms.Perm ns) : es.size = ns.length := by
  obtain ⟨ms, h1, h2⟩ := h
  have := h1.length
  rw [List.length_map, Array.length_toList] at this
  rw [this, h2.length_eq]
section
variable {prog : Program} {w : World} {A : Around} {E : Value → Shared → Prop} {s : Shared}
end
end L2

set_option Elab.async false
set_option linter.all false
set_option maxRecDepth 100000
set_option maxHeartbeats 4000000
namespace L2
open PySem PySem.Spec PyProof.Rows
/-- each number once, as first met -/
def ddStep (acc : List Int) (k : Int) : List Int := if k ∈ acc then acc else acc ++ [k]
def dd (ns : List Int) : List Int := ns.foldl ddStep []
theorem SetJ.keep {prog : Program} {w : World} {h h' : Heap} {a : Addr} {ns : List Int} (x : SetJ prog w h a ns) (k : ∀ o, h.get? a = some o → h'.get? a = some o) : SetJ prog w h' a ns := by
  obtain ⟨o, es, ep, t, ho, r⟩ := x
  exact ⟨o, es, ep, t, k o ho, r⟩
section
variable {prog : Program} {w : World} {A : Around} {R : Result → Shared → Prop} {J : Addr} {fp wr : List Addr} {G : Array GenState → Array GenState → Prop} {n : Nat} {P : Nat → Value → Prop} {St : Nat → Shared → Prop}
end
section
variable {prog : Program} {w : World} {A : Around} {E : Value → Shared → Prop} {s : Shared}
set_option maxHeartbeats 8000000 in
end
end L2

set_option Elab.async false
set_option linter.all false
set_option maxRecDepth 100000
set_option maxHeartbeats 4000000
namespace L2
open PySem PySem.Spec PyProof.Rows
section
variable {prog : Program} {w : World} {A : Around} {E : Value → Shared → Prop} {s : Shared}
end
end L2

set_option Elab.async false
set_option linter.all false
set_option maxRecDepth 100000
set_option maxHeartbeats 4000000
namespace L2
open PySem PySem.Spec PyProof.Rows
/-- how a set is gone along: the order, and what the record keeps first at each step -/
structure Order (w : World) (S : Addr) (es : Array (Int × Value)) (ep : Nat) (t : SetTable) (T : Addr) where
  ord : List Value
  first : Nat → Value
  tup : Option (Array Value)
  perm : ord.Perm (es.toList.map (·.2))
  how : (w.params.followText "set-order" = true ∧ tup = none ∧ (∀ i, first i = rawInt 0) ∧ ord = (pickOrder (w.params.setOrder S ep) es).toList.map (·.2)) ∨
    (w.params.followText "set-order" = false ∧ (!t.plain && decide (es.size > 1)) = false ∧ tup = none ∧ (∀ i, first i = rawInt ((if i = 0 then 0 else t.place.getD (i - 1) 0 + 1 : Nat) : Int)) ∧ ord = es.toList.map (·.2)) ∨
    (w.params.followText "set-order" = false ∧ ∃ ps : List Nat, tup = some (ps.map fun (i : Nat) => rawInt i).toArray ∧ ps.Perm (List.range es.size) ∧ (∀ i, first i = .ref T) ∧ ord = ps.filterMap fun i => (es[i]?).map (·.2))
section
variable {prog : Program} {w : World} {A : Around} {E : Value → Shared → Prop} {s : Shared} {S I T : Addr} {o : Obj} {es : Array (Int × Value)} {ep : Nat} {t : SetTable}
end
end L2

set_option Elab.async false
set_option linter.all false
set_option maxRecDepth 100000
set_option maxHeartbeats 4000000
namespace L2
open PySem PySem.Spec PyProof.Rows
section
variable {prog : Program} {w : World} {A : Around} {E : Value → Shared → Prop} {s : Shared} {S I T : Addr} {o : Obj} {es : Array (Int × Value)} {ep : Nat} {t : SetTable}
end
section
variable {X : Cx}
end
end L2

set_option Elab.async false
set_option linter.all false
set_option maxRecDepth 100000
set_option maxHeartbeats 4000000
namespace L2
open PySem PySem.Spec PyProof.Rows
section
variable {prog : Program} {w : World} {A : Around} {R : Result → Shared → Prop} {s : Shared}
end
section
variable {X : Cx}
end
end L2

set_option Elab.async false
set_option linter.all false
set_option maxRecDepth 100000
set_option maxHeartbeats 1000000
namespace L2
open PySem PySem.Spec PyProof.Rows
section
variable {X : Cx}
end
end L2

set_option Elab.async false
set_option linter.all false
set_option maxRecDepth 100000
set_option maxHeartbeats 1000000
namespace L2
open PySem PySem.Spec PyProof.Rows
section
variable {X : Cx}
end
section
variable {X : Cx}
end
end L2

set_option Elab.async false
set_option linter.all false
set_option maxRecDepth 100000
set_option maxHeartbeats 1000000
namespace Toy
open PySem L2 PyProof.Rows
abbrev Wl := List (Int × List Int)
def Adj : List (List Int) → Prop
  | a :: b :: r => a ≠ b ∧ Adj (b :: r)
  | _ => True
theorem adj_take : ∀ {A : List (List Int)} (n : Nat), Adj A → Adj (A.take n)
  | _, 0, _ => by rw [List.take_zero]; trivial
  | [], n + 1, _ => trivial
  | [a], n + 1, _ => by rw [List.take_succ_cons, List.take_nil]; trivial
  | a :: b :: r, 1, _ => trivial
  | a :: b :: r, n + 2, ⟨h1, h2⟩ => by
    have := adj_take (n + 1) h2
    rw [List.take_succ_cons] at this
    rw [List.take_succ_cons, List.take_succ_cons]
    exact ⟨h1, this⟩
structure Nrm (wd : Nat) (L : Wl) : Prop where
  pos : ∀ e ∈ L, 1 ≤ e.1
  wid : ∀ e ∈ L, e.2.length = wd
  adj : Adj (L.map (·.2))
theorem Nrm.take {wd : Nat} {L : Wl} (h : Nrm wd L) (n : Nat) : Nrm wd (L.take n) :=
  ⟨fun e he => h.pos e (List.mem_of_mem_take he), fun e he => h.wid e (List.mem_of_mem_take he), by rw [List.map_take]; exact adj_take n h.adj⟩
end Toy

set_option Elab.async false
set_option linter.all false
set_option maxRecDepth 100000
set_option maxHeartbeats 1000000
namespace L2
open PySem PySem.Spec PyProof.Rows
section
variable {prog : Program} {w : World} {A : Around} {E : Value → Shared → Prop} {s : Shared}
end
section
variable {prog : Program} {w : World} {A : Around} {E : Value → Shared → Prop} {s : Shared}
end
section
variable {X : Cx}
end
end L2

set_option Elab.async false
set_option linter.all false
set_option maxRecDepth 100000
set_option maxHeartbeats 1000000
namespace L2
open PySem PySem.Spec PyProof.Rows
section
variable {X : Cx}
end
end L2

set_option Elab.async false
set_option linter.all false
set_option maxRecDepth 100000
set_option maxHeartbeats 1000000
namespace L2
open PySem PySem.Spec PyProof.Rows
section
variable {prog : Program} {w : World} {A : Around} {E : Value → Shared → Prop} {s : Shared} {T : String} {r d : Addr} {n : Nat} {Pr : Nat → Value → Prop} {OK : Heap → Prop}
end
section
variable {X : Cx}
end
end L2

set_option Elab.async false
set_option linter.all false
set_option maxRecDepth 100000
set_option maxHeartbeats 1000000
namespace L2
open PySem PySem.Spec PyProof.Rows
/-- what stays while it is sorted -/
structure SB (k0 : SortKind) (a0 : Array Keyed) (st : SortSt) : Prop where
  pm : (arrOf st).Perm a0
  kd : kindOf st = k0
  fl : failedOf st = none
  pn : pendingOf st = #[]
theorem SB.sz {k0 : SortKind} {a0 : Array Keyed} {st : SortSt} (b : SB k0 a0 st) : (arrOf st).size = a0.size := b.pm.size_eq
theorem SB.put {k0 : SortKind} {a0 xs : Array Keyed} {st : SortSt} (b : SB k0 a0 st) (p : xs.Perm (arrOf st)) : SB k0 a0 (setArr st xs) := ⟨p.trans b.pm, b.kd, b.fl, b.pn⟩
section
variable {prog : Program} {w : World} {A : Around} {E : Value → Shared → Prop} {s : Shared} {k0 : SortKind} {a0 : Array Keyed} {rk : Value → Int}
end
end L2

set_option Elab.async false
set_option linter.all false
set_option maxRecDepth 100000
set_option maxHeartbeats 1000000
namespace L2
open PySem PySem.Spec PyProof.Rows
/-- tuples of ints, the lesser one -/
def lexB : List Int → List Int → Bool
  | [], [] => false
  | [], _ :: _ => true
  | _ :: _, [] => false
  | a :: x, b :: y => if a = b then lexB x y else decide (a < b)
def vInt : Value → Int
  | .int n _ => n
  | _ => 0
theorem ints_map : ∀ {vs : List Value} {u : List Int}, IntsAre vs u → vs.map vInt = u
  | _, _, .nil => rfl
  | _, _, .cons n t h => by rw [List.map_cons, ints_map h]; rfl
def kfI (h : Heap) (v : Value) : List Int := match v with
  | .ref a => match h.get? a with
    | some o => match o.data with
      | .seq its _ => its.toList.map vInt
      | _ => []
    | none => []
  | _ => []
/-- a tuple of ints -/
def TupI (h : Heap) (v : Value) (u : List Int) : Prop := ∃ a o its n, v = .ref a ∧ h.get? a = some o ∧ o.cls = .type "tuple" ∧ o.data = .seq its n ∧ IntsAre its.toList u
theorem TupI.kf {h : Heap} {v : Value} {u : List Int} (t : TupI h v u) : kfI h v = u := by
  obtain ⟨a, o, its, n, rfl, e, c, d, i⟩ := t
  unfold kfI
  dsimp only
  rw [e]
  dsimp only
  rw [d]
  exact ints_map i
theorem TupI.keep {h h' : Heap} {v : Value} {u : List Int} (t : TupI h v u) (k : ∀ a o, v = .ref a → h.get? a = some o → h'.get? a = some o) : TupI h' v u := by
  obtain ⟨a, o, its, n, rfl, e, r⟩ := t
  exact ⟨a, o, its, n, rfl, k a o rfl e, r⟩
theorem TupI.keep' {h h' : Heap} {v : Value} {u : List Int} (t : TupI h v u) (k : ∀ (b : Addr) (o : Obj), o.cls = .type "tuple" → h.get? b = some o → h'.get? b = some o) : TupI h' v u := by
  obtain ⟨a, o, its, n, rfl, e, c, r⟩ := t
  exact ⟨a, o, its, n, rfl, k a o c e, c, r⟩
section
variable {prog : Program} {w : World} {A : Around} {E : Value → Shared → Prop} {s : Shared}
end
end L2

set_option Elab.async false
set_option linter.all false
set_option maxRecDepth 100000
set_option maxHeartbeats 1000000
namespace L2
open PySem PySem.Spec PyProof.Rows
section
variable {prog : Program} {w : World} {A : Around} {E : Value → Shared → Prop} {s : Shared}
end
end L2

set_option Elab.async false
set_option linter.all false
set_option maxRecDepth 100000
set_option maxHeartbeats 1000000
namespace L2
open PySem PySem.Spec PyProof.Rows
section
variable {prog : Program} {w : World} {A : Around} {E : Value → Shared → Prop} {s : Shared}
end
end L2

set_option Elab.async false
set_option linter.all false
set_option maxRecDepth 100000
set_option maxHeartbeats 1000000
namespace L2
open PySem PySem.Spec PyProof.Rows
abbrev Pb := SetTable.Probe
/-- one probe on -/
def adv (m : Nat) (p : Pb) : Pb := if p.more > 0 then { p with j := p.j + 1, more := p.more - 1 } else { p with j := (p.i * 5 + 1 + p.perturb / 32) % (m + 1), more := SetTable.runEnd m ((p.i * 5 + 1 + p.perturb / 32) % (m + 1)) - (p.i * 5 + 1 + p.perturb / 32) % (m + 1), i := (p.i * 5 + 1 + p.perturb / 32) % (m + 1), perturb := p.perturb / 32 }
def itP (m : Nat) (p : Pb) : Nat → Pb
  | 0 => p
  | k + 1 => adv m (itP m p k)
theorem itP_add (m : Nat) (p : Pb) (a b : Nat) : itP m p (a + b) = itP m (itP m p a) b := by
  induction b with
  | zero => rfl
  | succ b ih => show adv m (itP m p (a + b)) = adv m _; rw [ih]
/-- to the begin of the next run -/
def lp (m : Nat) (p : Pb) : Pb := { p with j := (p.i * 5 + 1 + p.perturb / 32) % (m + 1), more := SetTable.runEnd m ((p.i * 5 + 1 + p.perturb / 32) % (m + 1)) - (p.i * 5 + 1 + p.perturb / 32) % (m + 1), i := (p.i * 5 + 1 + p.perturb / 32) % (m + 1), perturb := p.perturb / 32 }
theorem run_pos (m : Nat) : ∀ (k : Nat) (p : Pb), k ≤ p.more → itP m p k = { p with j := p.j + k, more := p.more - k }
  | 0, p, _ => rfl
  | k + 1, p, h => by
    show adv m (itP m p k) = _
    rw [run_pos m k p (by omega)]
    unfold adv
    rw [if_pos (show p.more - k > 0 by omega)]
    show ({ p with j := p.j + k + 1, more := p.more - k - 1 } : Pb) = _
    rw [Nat.add_assoc, Nat.sub_sub]
theorem itP_lp (m : Nat) (p : Pb) : itP m p (p.more + 1) = lp m p := by
  show adv m (itP m p p.more) = _
  rw [run_pos m p.more p (Nat.le_refl _)]
  unfold adv
  rw [if_neg (show ¬ p.more - p.more > 0 by omega)]
  rfl
def lpN (m : Nat) (p : Pb) : Nat → Pb
  | 0 => p
  | n + 1 => lp m (lpN m p n)
theorem lpN_perturb {m : Nat} {p : Pb} : ∀ n, (lpN m p n).perturb = p.perturb / 32 ^ n
  | 0 => by rw [Nat.pow_zero, Nat.div_one]; rfl
  | n + 1 => by
    show (lpN m p n).perturb / 32 = _
    rw [lpN_perturb n, Nat.div_div_eq_div_mul, Nat.pow_succ]
def fLc (m i : Nat) : Nat := (i * 5 + 1) % (m + 1)
def fIt (m i : Nat) : Nat → Nat
  | 0 => i
  | n + 1 => fLc m (fIt m i n)
theorem fIt_add (m i : Nat) (a b : Nat) : fIt m i (a + b) = fIt m (fIt m i a) b := by
  induction b with
  | zero => rfl
  | succ b ih => show fLc m (fIt m i (a + b)) = fLc m _; rw [ih]
theorem lpN_late {m : Nat} {p : Pb} (h : p.perturb < 2 ^ 64) : ∀ n, (lpN m p (13 + n)).i = fIt m (lpN m p 13).i n ∧ (lpN m p (13 + n)).perturb = 0
  | 0 => ⟨rfl, by rw [lpN_perturb]; exact Nat.div_eq_of_lt (Nat.lt_trans h (by decide))⟩
  | n + 1 => by
    obtain ⟨e1, e2⟩ := lpN_late h n
    constructor
    · show ((lpN m p (13 + n)).i * 5 + 1 + (lpN m p (13 + n)).perturb / 32) % (m + 1) = fLc m (fIt m _ n)
      rw [e1, e2]; rfl
    · show (lpN m p (13 + n)).perturb / 32 = 0
      rw [e2]
/-- sizes of tables met here -/
def OkM (m : Nat) : Prop := m = 7 ∨ m = 31 ∨ m = 127
def orbGo (m : Nat) : Nat → Nat → List Nat
  | 0, _ => []
  | k + 1, i => i :: orbGo m k (fLc m i)
theorem orbGo_get (m : Nat) : ∀ (k i n : Nat) (x : Nat), (orbGo m k i)[n]? = some x → n < k ∧ x = fIt m i n
  | 0, i, n, x, h => by cases h
  | k + 1, i, 0, x, h => by cases h; exact ⟨Nat.succ_pos _, rfl⟩
  | k + 1, i, n + 1, x, h => by
    obtain ⟨a, b⟩ := orbGo_get m k (fLc m i) n x h
    refine ⟨by omega, ?_⟩
    rw [b, Nat.add_comm n 1, fIt_add]
    rfl
theorem full_7 : (List.range 8).all (fun e => (orbGo 7 8 0).contains e) = true ∧ fIt 7 0 8 = 0 := by decide
theorem full_31 : (List.range 32).all (fun e => (orbGo 31 32 0).contains e) = true ∧ fIt 31 0 32 = 0 := by decide +kernel
theorem full_127 : (List.range 128).all (fun e => (orbGo 127 128 0).contains e) = true ∧ fIt 127 0 128 = 0 := by decide +kernel
theorem full_of {m : Nat} (h : OkM m) : (∀ e, e ≤ m → ∃ n, n ≤ m ∧ fIt m 0 n = e) ∧ fIt m 0 (m + 1) = 0 := by
  have key : ∀ m, (List.range (m + 1)).all (fun e => (orbGo m (m + 1) 0).contains e) = true → ∀ e, e ≤ m → ∃ n, n ≤ m ∧ fIt m 0 n = e := fun m h e he => by
    have := List.all_eq_true.mp h e (List.mem_range.mpr (by omega))
    obtain ⟨n, hn⟩ := List.mem_iff_getElem?.mp (List.contains_iff_mem.mp this)
    obtain ⟨a, b⟩ := orbGo_get m _ _ _ _ hn
    exact ⟨n, by omega, b.symm⟩
  rcases h with rfl | rfl | rfl
  · exact ⟨key 7 full_7.1, full_7.2⟩
  · exact ⟨key 31 full_31.1, full_31.2⟩
  · exact ⟨key 127 full_127.1, full_127.2⟩
/-- from any slot to any slot -/
theorem full_any {m : Nat} (h : OkM m) {i e : Nat} (hi : i ≤ m) (he : e ≤ m) : ∃ n, n ≤ m ∧ fIt m i n = e := by
  obtain ⟨f1, f2⟩ := full_of h
  obtain ⟨a, ha, ea⟩ := f1 i hi
  obtain ⟨b, hb, eb⟩ := f1 e he
  by_cases z : a ≤ b
  · refine ⟨b - a, by omega, ?_⟩
    rw [← ea, ← fIt_add, show a + (b - a) = b by omega]; exact eb
  · refine ⟨b + (m + 1) - a, by omega, ?_⟩
    rw [← ea, ← fIt_add, show a + (b + (m + 1) - a) = (m + 1) + b by omega, fIt_add, f2]; exact eb
theorem lpN_i {m : Nat} {p : Pb} (hi : p.i ≤ m) : ∀ n, (lpN m p n).i ≤ m
  | 0 => hi
  | n + 1 => by
    exact Nat.le_of_lt_succ (Nat.mod_lt ((lpN m p n).i * 5 + 1 + (lpN m p n).perturb / 32) (Nat.succ_pos m))
/-- every slot is met, and soon -/
theorem meets {m : Nat} (h : OkM m) {p : Pb} (hp : p.perturb < 2 ^ 64) (hm : p.more ≤ 9) (hi : p.i ≤ m) {e : Nat} (he : e ≤ m) : ∃ n, n ≤ 13 + m ∧ 13 ≤ n ∧ (lpN m p n).j = e ∧ (lpN m p n).i = e := by
  obtain ⟨n, hn, en⟩ := full_any h (lpN_i (m := m) hi 13) he
  have z := (lpN_late (m := m) hp n).1
  rw [en] at z
  refine ⟨13 + n, by omega, by omega, ?_, z⟩
  rw [← z]
  rw [show 13 + n = (12 + n) + 1 by omega]
  rfl
end L2

set_option Elab.async false
set_option linter.all false
set_option maxRecDepth 100000
set_option maxHeartbeats 1000000
namespace L2
open PySem PySem.Spec PyProof.Rows
/-- taken slots -/
def Occ (t : SetTable) (j : Nat) : Prop := ∃ i : Nat, t.place[i]? = some j
end L2

set_option Elab.async false
set_option linter.all false
set_option maxRecDepth 100000
set_option maxHeartbeats 1000000
namespace L2
open PySem PySem.Spec PyProof.Rows
abbrev Own := Array (Option Nat)
def startP (m : Nat) (h : Int) : Pb := { j := SetTable.bits h % (m + 1), more := SetTable.runEnd m (SetTable.bits h % (m + 1)) - SetTable.bits h % (m + 1), i := SetTable.bits h % (m + 1), perturb := SetTable.bits h, dummy := none }
theorem bits_lt (h : Int) : SetTable.bits h < 2 ^ 64 := by
  unfold SetTable.bits
  have a := Int.emod_nonneg h (by decide : (2 ^ 64 : Int) ≠ 0)
  have b := Int.emod_lt_of_pos h (by decide : (0 : Int) < 2 ^ 64)
  omega
theorem run_le (m i : Nat) : SetTable.runEnd m i - i ≤ 9 := by unfold SetTable.runEnd; split <;> omega
theorem free_ok {m : Nat} {ow : Own} : ∀ (fuel : Nat) (p : Pb), p.j = p.i → p.more = SetTable.runEnd m p.i - p.i → ∀ {j : Nat}, SetTable.layClean.free m ow fuel p.i p.perturb = some j →
    ∃ k, (itP m p k).j = j ∧ ow.getD j (some 0) = none ∧ ∀ k', k' < k → ow.getD (itP m p k').j (some 0) ≠ none
  | 0, p, _, _, j, h => by unfold SetTable.layClean.free at h; cases h
  | fuel + 1, p, hj, hm, j, h => by
    have le : p.i ≤ SetTable.runEnd m p.i := by unfold SetTable.runEnd; split <;> omega
    have len : SetTable.runEnd m p.i + 1 - p.i = p.more + 1 := by omega
    unfold SetTable.layClean.free at h
    rw [len] at h
    cases z : (List.range (p.more + 1)).find? (fun k => (ow.getD (p.i + k) (some 0)).isNone) with
    | some k =>
      rw [z] at h
      dsimp only at h
      cases h
      obtain ⟨q1, as, bs, q2, q3⟩ := List.find?_eq_some_iff_append.mp z
      have kr : k ∈ List.range (p.more + 1) := by rw [q2]; simp
      have kl := List.mem_range.mp kr
      refine ⟨k, by rw [run_pos m k p (by omega)]; show p.j + k = _; rw [hj], by simpa using q1, fun k' hk' => ?_⟩
      rw [run_pos m k' p (by omega)]
      show ow.getD (p.j + k') (some 0) ≠ none
      rw [hj]
      have mem : k' ∈ as := by
        have i1 : (List.range (p.more + 1))[k']? = some k' := by rw [List.getElem?_range (by omega)]
        have i2 : (List.range (p.more + 1))[k]? = some k := by rw [List.getElem?_range (by omega)]
        rw [q2] at i1 i2
        by_cases la : k' < as.length
        · rw [List.getElem?_append_left la] at i1
          exact List.mem_of_getElem? i1
        · exfalso
          have ea : as.length = k := by
            have i3 : (as ++ k :: bs)[as.length]? = some k := by rw [List.getElem?_append_right (Nat.le_refl _), Nat.sub_self]; rfl
            rw [← q2] at i3
            by_cases l2 : as.length < p.more + 1
            · rw [List.getElem?_range l2] at i3; cases i3; rfl
            · rw [List.getElem?_eq_none (by rw [List.length_range]; omega)] at i3; cases i3
          omega
      have q4 := q3 k' mem
      intro q5
      rw [q5] at q4
      cases q4
    | none =>
      rw [z] at h
      dsimp only at h
      have al := List.find?_eq_none.mp z
      have rc := free_ok fuel (lp m p) rfl rfl (j := j) h
      obtain ⟨k, e1, e2, e3⟩ := rc
      refine ⟨p.more + 1 + k, by rw [itP_add, itP_lp]; exact e1, e2, fun k' hk' => ?_⟩
      by_cases l : k' < p.more + 1
      · rw [run_pos m k' p (by omega)]
        show ow.getD (p.j + k') (some 0) ≠ none
        rw [hj]
        have := al k' (List.mem_range.mpr l)
        simpa using this
      · have e : k' = p.more + 1 + (k' - (p.more + 1)) := by omega
        rw [e, itP_add, itP_lp]
        exact e3 _ (by omega)
theorem free_some {m : Nat} {ow : Own} : ∀ (fuel : Nat) (p : Pb), p.j = p.i → p.more = SetTable.runEnd m p.i - p.i → (∃ n, n < fuel ∧ ow.getD (lpN m p n).j (some 0) = none) → ∃ j, SetTable.layClean.free m ow fuel p.i p.perturb = some j
  | 0, p, _, _, ⟨n, h, _⟩ => by omega
  | fuel + 1, p, hj, hm, ⟨n, hn, he⟩ => by
    unfold SetTable.layClean.free
    cases z : (List.range (SetTable.runEnd m p.i + 1 - p.i)).find? (fun k => (ow.getD (p.i + k) (some 0)).isNone) with
    | some k => exact ⟨p.i + k, rfl⟩
    | none =>
      dsimp only
      have le : p.i ≤ SetTable.runEnd m p.i := by unfold SetTable.runEnd; split <;> omega
      cases n with
      | zero =>
        exfalso
        have := List.find?_eq_none.mp z 0 (List.mem_range.mpr (by omega))
        have he : ow.getD p.j (some 0) = none := he
        rw [hj] at he
        rw [Nat.add_zero, he] at this
        exact this rfl
      | succ n =>
        refine free_some fuel (lp m p) rfl rfl ⟨n, by omega, ?_⟩
        have e : ∀ n, lpN m (lp m p) n = lpN m p (n + 1) := fun n => by
          induction n with
          | zero => rfl
          | succ n ih => show lp m (lpN m (lp m p) n) = lp m (lpN m p (n + 1)); rw [ih]
        rw [e]; exact he
/-- a table laid: each hash at a slot of its own, met first -/
structure LC (m : Nat) (ow : Own) (hs : List Int) : Prop where
  size : ow.size = m + 1
  at' : ∀ (k : Nat) (h : Int), hs[k]? = some h → ∃ j : Nat, ow[j]? = some (some k) ∧ ∃ n, (itP m (startP m h) n).j = j ∧ ∀ n', n' < n → ow.getD (itP m (startP m h) n').j (some 0) ≠ none
  few : ∀ (j k : Nat), ow[j]? = some (some k) → k < hs.length
  one : ∀ (j j' k : Nat), ow[j]? = some (some k) → ow[j']? = some (some k) → j = j'
theorem nodup_leN : ∀ {l m : List Nat}, l.Nodup → (∀ x ∈ l, x ∈ m) → l.length ≤ m.length
  | [], m, _, _ => Nat.zero_le _
  | a :: l, m, h, hm => by
    rw [List.nodup_cons] at h
    have ha := hm a List.mem_cons_self
    have q := nodup_leN (m := m.erase a) h.2 fun x hx => (List.mem_erase_of_ne (fun z : x = a => h.1 (by rw [← z]; exact hx))).mpr (hm x (List.mem_cons_of_mem _ hx))
    rw [List.length_erase_of_mem ha] at q
    have := List.length_pos_of_mem ha
    simp only [List.length_cons]
    omega
theorem LC.room {m : Nat} {ow : Own} {hs : List Int} (c : LC m ow hs) (hl : hs.length ≤ m) : ∃ e, e ≤ m ∧ ow.getD e (some 0) = none := by
  refine Classical.byContradiction fun z => ?_
  have al : ∀ e, e ≤ m → ∃ k, ow[e]? = some (some k) := fun e he => by
    have hlt : e < ow.size := by rw [c.size]; omega
    cases q : ow[e] with
    | none => exact absurd ⟨e, he, by rw [Array.getD_eq_getD_getElem?, Array.getElem?_eq_getElem hlt, q]; rfl⟩ z
    | some k => exact ⟨k, by rw [Array.getElem?_eq_getElem hlt, q]⟩
  let g : Nat → Nat := fun e => (ow.getD e none).getD 0
  have gk : ∀ e, e ≤ m → ow[e]? = some (some (g e)) := fun e he => by
    obtain ⟨k, hk⟩ := al e he
    have : g e = k := by show (ow.getD e none).getD 0 = k; rw [Array.getD_eq_getD_getElem?, hk]; rfl
    rw [this]; exact hk
  have nd : ((List.range (m + 1)).map g).Nodup := by
    rw [List.nodup_iff_pairwise_ne, List.pairwise_map]
    refine List.nodup_iff_pairwise_ne.mp List.nodup_range |>.imp_of_mem ?_
    intro a b ha hb ne e
    have ha := List.mem_range.mp ha
    have hb := List.mem_range.mp hb
    have h1 := gk a (by omega)
    have h2 := gk b (by omega)
    rw [e] at h1
    exact ne (c.one _ _ _ h1 h2)
  have := nodup_leN (m := List.range hs.length) nd fun x hx => by
    obtain ⟨e, he, rfl⟩ := List.mem_map.mp hx
    exact List.mem_range.mpr (c.few _ _ (gk e (by have := List.mem_range.mp he; omega)))
  rw [List.length_map, List.length_range, List.length_range] at this
  omega
theorem LC.step {m : Nat} (hm : OkM m) {ow : Own} {hs : List Int} (c : LC m ow hs) (hl : hs.length ≤ m) (h : Int) : ∃ j, SetTable.layClean.free m ow (SetTable.turns m) (SetTable.bits h % (m + 1)) (SetTable.bits h) = some j ∧ LC m (ow.setIfInBounds j (some hs.length)) (hs ++ [h]) := by
  obtain ⟨e, he, hf⟩ := c.room hl
  have ib : SetTable.bits h % (m + 1) ≤ m := Nat.le_of_lt_succ (Nat.mod_lt _ (Nat.succ_pos m))
  obtain ⟨n, n1, _, n2, _⟩ := meets hm (p := startP m h) (bits_lt h) (run_le m _) ib he
  obtain ⟨j, hj⟩ := free_some (m := m) (ow := ow) (SetTable.turns m) (startP m h) rfl rfl ⟨n, by unfold SetTable.turns; omega, by rw [n2]; exact hf⟩
  have hj' : SetTable.layClean.free m ow (SetTable.turns m) (SetTable.bits h % (m + 1)) (SetTable.bits h) = some j := hj
  refine ⟨j, hj', ?_⟩
  obtain ⟨k, k1, k2, k3⟩ := free_ok (SetTable.turns m) (startP m h) rfl rfl hj
  have jl : j < ow.size := by
    refine Classical.byContradiction fun z => ?_
    rw [Array.getD_eq_getD_getElem?, Array.getElem?_eq_none (by omega)] at k2
    cases k2
  have jn : ow[j]? = some none := by
    rw [Array.getD_eq_getD_getElem?, Array.getElem?_eq_getElem jl] at k2
    rw [Array.getElem?_eq_getElem jl]
    exact congrArg some k2
  have gs : ∀ x, (ow.setIfInBounds j (some hs.length))[x]? = if j = x then some (some hs.length) else ow[x]? := fun x => by
    rw [Array.getElem?_setIfInBounds]
    by_cases q : j = x
    · subst q; simp [jl]
    · simp [q]
  have occ : ∀ x, ow.getD x (some 0) ≠ none → (ow.setIfInBounds j (some hs.length)).getD x (some 0) ≠ none := fun x hx => by
    rw [Array.getD_eq_getD_getElem?, gs]
    split
    · intro q; cases q
    · rw [← Array.getD_eq_getD_getElem?]; exact hx
  refine ⟨by rw [Array.size_setIfInBounds]; exact c.size, fun x y hx => ?_, fun x y hx => ?_, fun x x' y hx hx' => ?_⟩
  · by_cases z : x < hs.length
    · rw [List.getElem?_append_left z] at hx
      obtain ⟨i, i1, nn, i2, i3⟩ := c.at' x y hx
      refine ⟨i, ?_, nn, i2, fun n' hn' => occ _ (i3 n' hn')⟩
      rw [gs, if_neg (fun q => by rw [← q, jn] at i1; cases i1)]
      exact i1
    · have e : x = hs.length := by
        have := (List.getElem?_eq_some_iff.mp hx).1
        rw [List.length_append] at this
        simp at this
        omega
      subst e
      rw [List.getElem?_append_right (Nat.le_refl _), Nat.sub_self] at hx
      cases hx
      refine ⟨j, by rw [gs, if_pos rfl], k, k1, fun n' hn' => occ _ (k3 n' hn')⟩
  · rw [gs] at hx
    rw [List.length_append]
    split at hx
    · cases hx; simp
    · have := c.few x y hx
      simp
      omega
  · rw [gs] at hx hx'
    split at hx
    · rename_i q
      cases hx
      split at hx'
      · rename_i q'; rw [← q, ← q']
      · exact absurd (c.few _ _ hx') (Nat.lt_irrefl _)
    · split at hx'
      · cases hx'; exact absurd (c.few _ _ hx) (Nat.lt_irrefl _)
      · exact c.one _ _ _ hx hx'
end L2

set_option Elab.async false
set_option linter.all false
set_option maxRecDepth 100000
set_option maxHeartbeats 1000000
namespace L2
open PySem PySem.Spec PyProof.Rows
/-- a table in which each hash is found -/
structure TabOk (t : SetTable) (led : Bool) (hs : List Int) : Prop where
  tb : TB t led
  m : (t.mask = 7 ∧ hs.length ≤ 4) ∨ (t.mask = 31 ∧ hs.length ≤ 18) ∨ (t.mask = 127 ∧ hs.length ≤ 76)
  sz : t.place.size = hs.length
  le : ∀ (i j : Nat), t.place[i]? = some j → j ≤ t.mask
  rch : ∀ (i : Nat) (h : Int), hs[i]? = some h → ∃ j : Nat, t.place[i]? = some j ∧ ∃ n, (itP t.mask (startP t.mask h) n).j = j ∧ ∀ n', n' < n → Occ t (itP t.mask (startP t.mask h) n').j
theorem TabOk.few {t : SetTable} {led : Bool} {hs : List Int} (k : TabOk t led hs) : hs.length + 1 ≤ t.mask := by rcases k.m with h | h | h <;> omega
theorem TabOk.fits {t : SetTable} {led : Bool} {hs : List Int} (k : TabOk t led hs) : t.fits hs.length = true := by
  unfold SetTable.fits SetTable.fill
  rw [k.sz, k.tb.dum]
  have := k.few
  simp
  omega
theorem TabOk.room {t : SetTable} {led : Bool} {hs : List Int} (k : TabOk t led hs) : ∃ e, e ≤ t.mask ∧ ¬ Occ t e := by
  refine Classical.byContradiction fun z => ?_
  have al : ∀ e, e ≤ t.mask → e ∈ t.place.toList := fun e he => by
    refine Classical.byContradiction fun q => z ⟨e, he, fun ⟨i, hi⟩ => q ?_⟩
    rw [← Array.getElem?_toList] at hi
    exact List.mem_of_getElem? hi
  have := nodup_leN (l := List.range (t.mask + 1)) (m := t.place.toList) List.nodup_range fun x hx => al x (by have := List.mem_range.mp hx; omega)
  rw [List.length_range, Array.length_toList, k.sz] at this
  have := k.few
  omega
end L2

set_option Elab.async false
set_option linter.all false
set_option maxRecDepth 100000
set_option maxHeartbeats 1000000
namespace L2
open PySem PySem.Spec PyProof.Rows
theorem items_ints {prog : Program} {w : World} : ∀ {vs : List Value} {u : List Int}, IntsAre vs u → ItemsAre (intKind prog w) u vs
  | _, _, .nil => .nil
  | _, _, .cons n t h => .cons (intKind_is _ _ _ _) (items_ints h)
theorem TupI.key {prog : Program} {w : World} {h : Heap} {a : Addr} {u : List Int} (t : TupI h (.ref a) u) : IsTupleKey (intKind prog w) h u a := by
  obtain ⟨b, o, its, n, e, e1, c, d, i⟩ := t
  cases e
  exact ⟨o, its, n, e1, c, d, items_ints i⟩
section
variable {prog : Program} {w : World} {A : Around} {E : Value → Shared → Prop} {s : Shared}
end
end L2

set_option Elab.async false
set_option linter.all false
set_option maxRecDepth 100000
set_option maxHeartbeats 1000000
namespace L2
open PySem PySem.Spec PyProof.Rows
def hsh (prog : Program) (w : World) (u : List Int) : Int := tupleKeyHash (intKind prog w) u
/-- the elements of a set of tuples -/
def EA (prog : Program) (w : World) (V0 : Value → Prop) (hp : Heap) (es : List (Int × Value)) (ks : List (List Int)) : Prop := es.length = ks.length ∧ ∀ (i : Nat) (e : Int × Value) (k : List Int), es[i]? = some e → ks[i]? = some k → TupI hp e.2 k ∧ e.1 = hsh prog w k ∧ V0 e.2
section
variable {prog : Program} {w : World} {A : Around} {E : Value → Shared → Prop} {s : Shared}
end
end L2

set_option Elab.async false
set_option linter.all false
set_option maxRecDepth 100000
set_option maxHeartbeats 1000000
namespace L2
open PySem PySem.Spec PyProof.Rows
/-- things by their numbers -/
def pick {α : Type} (l : List α) (ord : List Nat) : List α := ord.filterMap fun i => l[i]?
/-- a set of tuples of ints, told by its members, each once -/
def SetT (prog : Program) (w : World) (V0 : Value → Prop) (hp : Heap) (a : Addr) (us : List (List Int)) : Prop :=
  ∃ o es ep t ks, hp.get? a = some o ∧ o.ExactSet ∧ o.data = .set es ep t ∧ EA prog w V0 hp es.toList ks ∧ ks.Perm us ∧ TabOk t (!w.params.followText "set-order") (es.toList.map (·.1))
theorem EA.keep {prog : Program} {w : World} {V0 : Value → Prop} {h h' : Heap} {es : List (Int × Value)} {ks : List (List Int)} (x : EA prog w V0 h es ks) (k : ∀ (b : Addr) (o : Obj), o.cls = .type "tuple" → h.get? b = some o → h'.get? b = some o) : EA prog w V0 h' es ks :=
  ⟨x.1, fun i e u h1 h2 => ⟨(x.2 i e u h1 h2).1.keep' k, (x.2 i e u h1 h2).2⟩⟩
section
variable {prog : Program} {w : World} {A : Around} {E : Value → Shared → Prop} {s : Shared}
theorem sb_tup {a : Addr} {o : Obj} {h h' : Heap} (ho : h.get? a = some o) (hx : o.ExactSet) (sb : Heap.SameBut a h h') (b : Addr) (ob : Obj) (hc : ob.cls = .type "tuple") (hb : h.get? b = some ob) : h'.get? b = some ob := by
  refine sb.extBut b ob (fun z => ?_) hb
  rw [z, ho] at hb
  cases hb
  rw [hx.1] at hc
  exact absurd hc (by decide)
end
end L2

set_option Elab.async false
set_option linter.all false
set_option maxRecDepth 100000
set_option maxHeartbeats 4000000
namespace L2
open PySem PySem.Spec PyProof.Rows
/-- each tuple once, as first met -/
def ddT (us : List (List Int)) : List (List Int) := us.foldl (fun acc k => if k ∈ acc then acc else acc ++ [k]) []
theorem SetT.keep {prog : Program} {w : World} {V0 : Value → Prop} {h h' : Heap} {a : Addr} {us : List (List Int)} (x : SetT prog w V0 h a us) (k : ∀ b o, (b = a ∨ o.cls = .type "tuple") → h.get? b = some o → h'.get? b = some o) : SetT prog w V0 h' a us := by
  obtain ⟨o, es, ep, t, ks, ho, hx, hd, ea, r⟩ := x
  exact ⟨o, es, ep, t, ks, k a o (.inl rfl) ho, hx, hd, ea.keep fun b ob c e => k b ob (.inr c) e, r⟩
theorem SetT.other {prog : Program} {w : World} {V0 : Value → Prop} {h h' : Heap} {a : Addr} {us : List (List Int)} {v : Value} {u : List Int} (x : SetT prog w V0 h a us) (t : TupI h v u) (sb : Heap.SameBut a h h') : TupI h' v u := by
  obtain ⟨o, es, ep, tb, ks, ho, hx, _⟩ := x
  exact t.keep' (sb_tup ho hx sb)
section
variable {prog : Program} {w : World} {A : Around} {R : Result → Shared → Prop} {J : Addr} {fp wr : List Addr} {G : Array GenState → Array GenState → Prop} {n : Nat} {P : Nat → Value → Prop} {St : Nat → Shared → Prop}
end
section
variable {prog : Program} {w : World} {A : Around} {E : Value → Shared → Prop} {s : Shared}
set_option maxHeartbeats 8000000 in
end
end L2

set_option Elab.async false
set_option linter.all false
set_option maxRecDepth 100000
set_option maxHeartbeats 4000000
namespace L2
open PySem PySem.Spec PyProof.Rows
section
variable {prog : Program} {w : World} {A : Around} {E : Value → Shared → Prop} {s : Shared}
end
end L2

set_option Elab.async false
set_option linter.all false
set_option maxRecDepth 100000
set_option maxHeartbeats 1000000
namespace L2
open PySem PySem.Spec PyProof.Rows
/-- tuples of ints in a list -/
def TuL (H : Hp) (xs : List V) (us : List (List Int)) : Prop := xs.length = us.length ∧ ∀ (i : Nat) (x : V) (u : List Int), xs[i]? = some x → us[i]? = some u → ∃ a : Addr, x = .ref a ∧ H a = some (.tup (u.map V.int))
theorem TuL.nil (H : Hp) : TuL H [] [] := ⟨rfl, fun i x u h => by cases h⟩
theorem TuL.up {H H' : Hp} {xs : List V} {us : List (List Int)} (h : TuL H xs us) (t : Tups H H') : TuL H' xs us := ⟨h.1, fun i x u h1 h2 => by
  obtain ⟨a, b, c⟩ := h.2 i x u h1 h2
  exact ⟨a, b, t _ _ c⟩⟩
theorem TuL.snoc {H : Hp} {xs : List V} {us : List (List Int)} {a : Addr} {u : List Int} (h : TuL H xs us) (ha : H a = some (.tup (u.map V.int))) : TuL H (xs ++ [.ref a]) (us ++ [u]) := by
  refine ⟨by rw [List.length_append, List.length_append, h.1]; rfl, fun i y r h1 h2 => ?_⟩
  by_cases z : i < xs.length
  · rw [List.getElem?_append_left z] at h1
    rw [List.getElem?_append_left (h.1 ▸ z)] at h2
    exact h.2 i y r h1 h2
  · rw [List.getElem?_append_right (by omega)] at h1
    rw [List.getElem?_append_right (by have := h.1; omega), ← h.1] at h2
    cases w : i - xs.length with
    | zero => rw [w] at h1 h2; cases h1; cases h2; exact ⟨a, rfl, ha⟩
    | succ m => rw [w] at h1; cases h1
def dTs (us : List (List Int)) : PyData := .list (us.map dT)
theorem TuL.di {K : PySem.W.Frag} {H : Hp} {a : Addr} {xs : List V} {us : List (List Int)} (h : TuL H xs us) (ha : SqL K H a xs) : DI K H (.ref a) (dTs us) := by
  refine .lst ha (by rw [List.length_map]; exact h.1) fun i x d h1 h2 => ?_
  rw [List.getElem?_map] at h2
  cases z : us[i]? with
  | none => rw [z] at h2; cases h2
  | some u =>
    rw [z] at h2
    cases h2
    obtain ⟨b, rfl, hb⟩ := h.2 i x u h1 z
    refine .tup (SqT.of hb) (by rw [List.length_map, List.length_map]) fun j y e h3 h4 => ?_
    rw [List.getElem?_map] at h3 h4
    cases zz : u[j]? with
    | none => rw [zz] at h3; cases h3
    | some m => rw [zz] at h3 h4; cases h3; cases h4; exact .int m
section
variable {X : Cx} {pins : List (Addr × Obj)} {σ : St} {H : Hp} {s : Shared}
theorem call_tuple_ofKK {K : PySem.W.Frag} (hK : X.K = K := by rfl) : CallR X (.type "tuple") (fun xs H Q => ∃ p ys, xs = [.ref p] ∧ ((SqL K H p ys ∧ ∀ l, H l = none → Q (.ref l) (upd H l (.tup ys))) ∨ (SqT K H p ys ∧ Q (.ref p) H))) := by subst hK; exact call_tuple_of
end
end L2

set_option Elab.async false
set_option linter.all false
set_option maxRecDepth 100000
set_option maxHeartbeats 1000000
namespace L2
open PySem PySem.Spec PyProof.Rows
/-- the dict at d, by its rows -/
def RawD (h : Heap) (d : Addr) (es : Array DictEntry) (ep : Nat) : Prop := ∃ o, h.get? d = some o ∧ o.ExactDict ∧ o.data = .dict es ep
theorem RawD.keep {h h' : Heap} {d : Addr} {es : Array DictEntry} {ep : Nat} (r : RawD h d es ep) (k : ∀ o, h.get? d = some o → h'.get? d = some o) : RawD h' d es ep :=
  let ⟨o, e, x⟩ := r; ⟨o, k o e, x⟩
/-- a walk over its items, f0 and f1: what it handed out last -/
def ItF (h : Heap) (it d : Addr) (f0 f1 : Value) (i n ep : Nat) (ok ov : Value) : Prop :=
  h.get? it = some { cls := .type "dict_itemiterator", data := .fields #[f0, f1, .ref d, .int i 0, .int n 0, .int ep 0, ok, ov] }
section
variable {prog : Program} {w : World} {A : Around} {E : Value → Shared → Prop} {s : Shared} {it d : Addr} {f0 f1 ok ov : Value} {i ep : Nat} {es : Array DictEntry}
/-- the walk's state: at the begin, or with a pair held that is not the list's -/
def ItS (h : Heap) (it d S : Addr) (i n ep : Nat) : Prop := (i = 0 ∧ ∃ ok ov, ItF h it d .none (.bool false) 0 n ep ok ov) ∨ ∃ (a : Addr) (f : Bool) (ok ov : Value) (oa : Obj), ItF h it d (rawInt a) (.bool f) i n ep ok ov ∧ h.get? a = some oa ∧ a ≠ it ∧ a ≠ S
theorem ItS.keep {h h' : Heap} {S : Addr} {n : Nat} (x : ItS h it d S i n ep) (nS : it ≠ S) (k : ∀ b o, b ≠ S → h.get? b = some o → h'.get? b = some o) : ItS h' it d S i n ep := by
  rcases x with ⟨e, ok, ov, g⟩ | ⟨a, f, ok, ov, oa, g, ga, n1, n2⟩
  · exact .inl ⟨e, ok, ov, k _ _ nS g⟩
  · exact .inr ⟨a, f, ok, ov, oa, k _ _ nS g, k _ _ n2 ga, n1, n2⟩
end
end L2

set_option Elab.async false
set_option linter.all false
set_option maxRecDepth 100000
set_option maxHeartbeats 1000000
namespace L2
open PySem PySem.Spec PyProof.Rows
/-- a pair of a tuple of ints and an int -/
def PrI (h : Heap) (v : Value) (u : List Int) (m : Int) : Prop := ∃ (a : Addr) (o : Obj) (ka : Value) (t : Tok) (n : Nat), v = .ref a ∧ h.get? a = some o ∧ o.cls = .type "tuple" ∧ o.data = .seq #[ka, .int m t] n ∧ TupI h ka u
def kfP (h : Heap) (v : Value) : List Int := match v with
  | .ref a => match h.get? a with
    | some o => match o.data with
      | .seq its _ => kfI h (its.getD 0 .none)
      | _ => []
    | none => []
  | _ => []
def kfM (h : Heap) (v : Value) : Int := match v with
  | .ref a => match h.get? a with
    | some o => match o.data with
      | .seq its _ => vInt (its.getD 1 .none)
      | _ => 0
    | none => 0
  | _ => 0
theorem PrI.kf {h : Heap} {v : Value} {u : List Int} {m : Int} (p : PrI h v u m) : kfP h v = u ∧ kfM h v = m := by
  obtain ⟨a, o, ka, t, n, rfl, e, c, d, x⟩ := p
  unfold kfP kfM
  dsimp only
  rw [e]
  dsimp only
  rw [d]
  exact ⟨x.kf, rfl⟩
theorem PrI.keep {h h' : Heap} {v : Value} {u : List Int} {m : Int} (p : PrI h v u m) (k : ∀ (b : Addr) (o : Obj), o.cls = .type "tuple" → h.get? b = some o → h'.get? b = some o) : PrI h' v u m := by
  obtain ⟨a, o, ka, t, n, rfl, e, c, d, x⟩ := p
  exact ⟨a, o, ka, t, n, rfl, k a o c e, c, d, x.keep' k⟩
section
variable {prog : Program} {w : World} {A : Around} {E : Value → Shared → Prop} {s : Shared}
end
end L2

set_option Elab.async false
set_option linter.all false
set_option maxRecDepth 100000
set_option maxHeartbeats 1000000
namespace L2
open PySem PySem.Spec PyProof.Rows
/-- a list of pairs of a tuple of ints and an int -/
def PrL (H : Hp) (xs : List V) (us : List (List Int × Int)) : Prop := xs.length = us.length ∧ ∀ (i : Nat) (x : V) (u : List Int × Int), xs[i]? = some x → us[i]? = some u → ∃ a b : Addr, x = .ref a ∧ H a = some (.tup [.ref b, .int u.2]) ∧ H b = some (.tup (u.1.map V.int))
/-- the pair at b -/
def cont (h : Heap) (b : Addr) : Option HO := match h.get? b with
  | some o => match o.data with
    | .seq its _ => match its.toList with
      | [.ref ka, .int m _] => some (.tup [.ref ka, .int m])
      | _ => none
    | _ => none
  | none => none
/-- many new objects at once -/
theorem Inv.more {X : Cx} {pins : List (Addr × Obj)} {σ : List (Option V)} {H H' : Hp} {s : Shared} {h' : Heap} {t' : Nat} (I : Inv X pins σ H s) (k : ∀ b u, s.heap.get? b = some u → h'.get? b = some u) (old : ∀ b o, H b = some o → H' b = some o) (new : ∀ b o, H b = none → H' b = some o → s.heap.get? b = none ∧ ObjOk X.prog X.w H' h' b o) : Inv X pins σ H' { s with heap := h', toks := t' } := by
  refine I.un ⟨fun b u q _ _ _ => k b u q, fun b u q _ _ _ => ⟨u.slots, k b u q⟩, fun b u q n _ => ?_, fun b u q _ => ⟨u, k b u q⟩, fun b xs q => old b _ q, fun b u xs q => old b _ q, fun b ps q => ⟨#[], by rw [old b _ q]; simp⟩⟩ fun b o e => ?_
  · cases z : H' b with
    | none => rfl
    | some o => rw [(new b o n z).1] at q; cases q
  · cases z : H b with
    | none => exact (new b o z e).2
    | some o' =>
      have := old b o' z
      rw [e] at this
      cases this
      exact (I.hok b o z).stay (fun c v _ q => k c v q) (fun c q => old c _ q) fun c xs q => old c _ q
section
variable {X : Cx}
end
end L2

set_option Elab.async false
set_option linter.all false
set_option maxRecDepth 100000
set_option maxHeartbeats 1000000
namespace L2
open PySem PySem.Spec PyProof.Rows
/-- a dict by tuples of ints -/
def putI (ks : List (List Int × Int)) (u : List Int) (z : Int) : List (List Int × Int) := if (ks.any fun k => decide (k.1 = u)) = true then ks.map fun k => if k.1 = u then (k.1, z) else k else ks ++ [(u, z)]
def getI (ks : List (List Int × Int)) (u : List Int) : Int := ((ks.find? fun k => decide (k.1 = u)).map (·.2)).getD 0
theorem putI_len (ks : List (List Int × Int)) (u : List Int) (z : Int) : (putI ks u z).length ≤ ks.length + 1 := by
  unfold putI
  split
  · rw [List.length_map]; omega
  · rw [List.length_append]; exact Nat.le_refl _
/-- all of these weights -/
def totU (W : List (Int × List Int)) (u : List Int) : Int := ((W.filter fun e => decide (e.2 = u)).map (·.1)).sum
theorem totU_snoc (W : List (Int × List Int)) (e : Int × List Int) (u : List Int) : totU (W ++ [e]) u = totU W u + if e.2 = u then e.1 else 0 := by
  unfold totU
  rw [List.filter_append, List.map_append, List.sum_append]
  by_cases h : e.2 = u
  · rw [if_pos h]; simp [h]
  · rw [if_neg h]; simp [h]
theorem totU_none {W : List (Int × List Int)} {u : List Int} (h : u ∉ W.map (·.2)) : totU W u = 0 := by
  unfold totU
  have : W.filter (fun e => decide (e.2 = u)) = [] := List.filter_eq_nil_iff.mpr fun e he => by
    intro q
    exact h (List.mem_map.mpr ⟨e, he, of_decide_eq_true q⟩)
  rw [this]
  rfl
structure DIs (W : List (Int × List Int)) (ks : List (List Int × Int)) : Prop where
  nd : (ks.map (·.1)).Nodup
  mem : ∀ u, u ∈ ks.map (·.1) ↔ u ∈ W.map (·.2)
  val : ∀ k ∈ ks, k.2 = totU W k.1
  len : ks.length ≤ W.length
theorem DIs.nil : DIs [] [] := ⟨List.Pairwise.nil, fun u => Iff.rfl, fun k h => (by cases h), Nat.le_refl _⟩
theorem DIs.get {W : List (Int × List Int)} {ks : List (List Int × Int)} (d : DIs W ks) (u : List Int) : getI ks u = totU W u := by
  unfold getI
  cases h : ks.find? fun k => decide (k.1 = u) with
  | none =>
    rw [totU_none]
    · rfl
    · intro q
      obtain ⟨k, hk, e⟩ := List.mem_map.mp ((d.mem u).mpr q)
      have := List.find?_eq_none.mp h k hk
      exact this (decide_eq_true e)
  | some k =>
    have e := List.find?_some h
    have m := List.mem_of_find?_eq_some h
    have e : k.1 = u := of_decide_eq_true e
    show k.2 = _
    rw [d.val k m, e]
theorem DIs.put {W : List (Int × List Int)} {ks : List (List Int × Int)} (d : DIs W ks) (e : Int × List Int) : DIs (W ++ [e]) (putI ks e.2 (getI ks e.2 + e.1)) := by
  have gt := d.get e.2
  have mk : (ks.any fun k => decide (k.1 = e.2)) = true ↔ e.2 ∈ ks.map (·.1) := by
    rw [List.any_eq_true, List.mem_map]
    constructor
    · rintro ⟨k, hk, q⟩; exact ⟨k, hk, of_decide_eq_true q⟩
    · rintro ⟨k, hk, q⟩; exact ⟨k, hk, decide_eq_true q⟩
  refine ⟨?_, fun u => ?_, fun k hk => ?_, ?_⟩
  · unfold putI
    by_cases h : (ks.any fun k => decide (k.1 = e.2)) = true
    · rw [if_pos h, List.map_map]
      have : (fun k : List Int × Int => k.1) ∘ (fun k => if k.1 = e.2 then (k.1, getI ks e.2 + e.1) else k) = fun k => k.1 := by
        funext k
        show (if k.1 = e.2 then (k.1, getI ks e.2 + e.1) else k).1 = k.1
        split <;> rfl
      rw [this]
      exact d.nd
    · rw [if_neg h, List.map_append]
      refine List.nodup_append.mpr ⟨d.nd, by simp, fun a ha b hb => ?_⟩
      have hb : b = e.2 := by simpa using hb
      rintro rfl
      exact h (mk.mpr (hb ▸ ha))
  · rw [List.map_append, List.mem_append]
    have : u ∈ (putI ks e.2 (getI ks e.2 + e.1)).map (·.1) ↔ u ∈ ks.map (·.1) ∨ u = e.2 := by
      unfold putI
      by_cases h : (ks.any fun k => decide (k.1 = e.2)) = true
      · rw [if_pos h, List.map_map]
        have q : (fun k : List Int × Int => k.1) ∘ (fun k => if k.1 = e.2 then (k.1, getI ks e.2 + e.1) else k) = fun k => k.1 := by
          funext k
          show (if k.1 = e.2 then (k.1, getI ks e.2 + e.1) else k).1 = k.1
          split <;> rfl
        rw [q]
        constructor
        · exact .inl
        · rintro (z | z)
          · exact z
          · rw [z]; exact mk.mp h
      · rw [if_neg h, List.map_append, List.mem_append]
        simp
    rw [this, d.mem u]
    simp
  · rw [totU_snoc]
    unfold putI at hk
    by_cases h : (ks.any fun k => decide (k.1 = e.2)) = true
    · rw [if_pos h] at hk
      obtain ⟨k', hk', rfl⟩ := List.mem_map.mp hk
      by_cases q : k'.1 = e.2
      · rw [if_pos q]
        show getI ks e.2 + e.1 = totU W k'.1 + if e.2 = k'.1 then e.1 else 0
        rw [if_pos q.symm, gt, q]
      · rw [if_neg q, if_neg (fun z => q z.symm), Int.add_zero]
        exact d.val k' hk'
    · rw [if_neg h] at hk
      rcases List.mem_append.mp hk with hk | hk
      · rw [if_neg, Int.add_zero]
        · exact d.val k hk
        · intro z
          exact h (mk.mpr (List.mem_map.mpr ⟨k, hk, z.symm⟩))
      · rw [List.mem_singleton.mp hk]
        show getI ks e.2 + e.1 = _
        rw [if_pos rfl, gt]
  · have := putI_len ks e.2 (getI ks e.2 + e.1)
    have := d.len
    rw [List.length_append]
    simp only [List.length_cons, List.length_nil]
    omega
/-- the sorts of a weighing -/
structure SortsOf (W : List (Int × List Int)) (ws : List (List Int × Int)) : Prop where
  keys : (ws.map (·.1)).Perm (ddT (W.map (·.2)))
  rise : (ws.map (·.1)).Pairwise (fun x y => lexB y x = false)
  val : ∀ k ∈ ws, k.2 = totU W k.1
def dP (k : List Int × Int) : PyData := .tuple [dT k.1, .int k.2]
def dPs (us : List (List Int × Int)) : PyData := .list (us.map dP)
theorem PrL.di {K : PySem.W.Frag} {H : Hp} {a : Addr} {xs : List V} {us : List (List Int × Int)} (h : PrL H xs us) (ha : SqL K H a xs) : DI K H (.ref a) (dPs us) := by
  refine .lst ha (by rw [List.length_map]; exact h.1) fun i x d h1 h2 => ?_
  rw [List.getElem?_map] at h2
  cases z : us[i]? with
  | none => rw [z] at h2; cases h2
  | some u =>
    rw [z] at h2
    cases h2
    obtain ⟨b, c, rfl, hb, hc⟩ := h.2 i x u h1 z
    refine .tup (SqT.of hb) rfl fun j y e h3 h4 => ?_
    rcases j with _ | _ | j
    · cases h3; cases h4; exact di_ints hc
    · cases h3; cases h4; exact .int _
    · cases h3
theorem PrL.up {H H' : Hp} {xs : List V} {us : List (List Int × Int)} (h : PrL H xs us) (t : Tups H H') : PrL H' xs us := ⟨h.1, fun i x u h1 h2 => by
  obtain ⟨a, b, rfl, ha, hb⟩ := h.2 i x u h1 h2
  exact ⟨a, b, rfl, t _ _ ha, t _ _ hb⟩⟩
section
variable {X : Cx}
end
end L2

set_option Elab.async false
set_option linter.all false
set_option maxRecDepth 100000
set_option maxHeartbeats 1000000
namespace L2
open PySem PySem.Spec PyProof.Rows
section
variable {X : Cx}
theorem call_range2 : CallR X (.type "range") (fun xs H Q => ∃ i j : Int, xs = [.int i, .int j] ∧ ∀ p, H p = none → Q (.ref p) (upd H p (.rng i j))) := by
  intro pins s σ H xs us Q I r h
  obtain ⟨i, j, rfl, q⟩ := h
  obtain ⟨u1, u2, rfl, ⟨t1, rfl⟩, ⟨t2, rfl⟩⟩ := vals2 r
  refine call_range_2 ?_
  exact ⟨.ref _, upd H s.heap.objs.size (.rng i j), I.laid (fun b u e => Heap.get?_push_of_some _ e) (Nat.le_refl _) ⟨_, _, _, Heap.get?_push_size _ rfl⟩, rfl, q _ (I.hok.fresh (Nat.le_refl _))⟩
/-- lo, lo + 1, .. -/
def upto (lo : Int) (n : Nat) : List Int := (List.range n).map fun (i : Nat) => lo + (i : Int)
theorem call_list_rng2 (hc : X.calm = true) : CallR X (.type "list") (fun xs H Q => ∃ (p : Addr) (i j : Int), xs = [.ref p] ∧ H p = some (.rng i j) ∧ -1000 ≤ i ∧ i ≤ j ∧ j ≤ 1000 ∧ ∀ l, H l = none → Q (.ref l) (upd H l (.lst ((upto i (j - i).toNat).map V.int)))) := by
  intro pins s σ H xs us Q I r h
  obtain ⟨p, lo, j, rfl, hp, h0, h1, h2, q⟩ := h
  obtain ⟨u, rfl, rx⟩ := vals1 r
  cases rx
  obtain ⟨t, u, v, e⟩ := I.hok p _ hp
  refine call_list_range (n := (j - lo).toNat) (I.ok.hd hc) e (small_one (by omega) (by omega) (by omega) (by omega)) (by rw [rangeSize_one]; split <;> omega) (by omega) fun h' tk acc' c' hk hS hacc => ?_
  have hln : ((upto lo (j - lo).toNat).map V.int).length = acc'.toList.length := by unfold upto; simp [hacc.1]
  refine ⟨.ref _, _, I.laid (o := .lst ((upto lo (j - lo).toNat).map V.int)) hk (Nat.le_refl _) ⟨?_, acc'.toList, c', Vals.of_get hln fun i x w' e1 e2 => ?_, by simpa using hS⟩, rfl, q _ (I.hok.fresh (Nat.le_refl _))⟩
  · unfold upto
    rw [List.length_map, List.length_map, List.length_range]
    exact Nat.le_trans (show (j - lo).toNat ≤ 2000 by omega) (by decide)
  · have hi : i < (j - lo).toNat := by
      have := (List.getElem?_eq_some_iff.mp e1).1
      unfold upto at this
      rw [List.length_map, List.length_map, List.length_range] at this
      exact this
    unfold upto at e1
    rw [List.getElem?_map, List.getElem?_map, List.getElem?_range hi] at e1
    cases e1
    obtain ⟨tk', z⟩ := hacc.2 i w' (by simpa using e2)
    rw [z]
    exact ⟨tk', by simp⟩
/-- repr(thing) -/
def rtxt : PyData → Str := fun d => d.shown
theorem call_reprD {k : Nat} (hr : Room k X.A) : CallR X (.builtin "repr") (fun xs H Q => ∃ x d, xs = [x] ∧ DI X.K H x d ∧ d.showable = true ∧ d.hasDict = false ∧ d.depth ≤ 60 ∧ d.shown.length ≤ sizeLine ∧ Q (.str (rtxt d)) H) := by
  intro pins s σ H xs us Q I r h
  obtain ⟨x, d, rfl, hd, hs, hn, hdp, hl, q⟩ := h
  obtain ⟨u, rfl, rx⟩ := vals1 r
  have big : ∀ (a : Addr), x = .ref a → EP X pins σ Q (.str (rtxt d) 0) s → wpAny (model X.prog X.w) X.A (call (.builtin "repr") [u]) (EP X pins σ Q) X.xe s := by
    intro a e _
    subst e
    cases rx
    obtain ⟨as, ra⟩ := hd.reads I (u := .ref a) rfl
    have hu := hr.un
    refine repr_of_reads' ra hs (PyData.noDict_hsm hn) hr.gd (by omega) (fun b o e => e) (fun h' t tk hk => ?_) hl
    exact ⟨.str (rtxt d), H, I.kept (t' := tk) fun b o e => hk b o e, ⟨t, rfl⟩, q⟩
  cases hd with
  | non => cases rx; exact PySem.P.repr_of_none ⟨.str _, H, I.tok _, ⟨_, rfl⟩, q⟩
  | bl b => cases rx; exact PySem.P.repr_of_bool ⟨.str _, H, I.tok _, ⟨_, rfl⟩, q⟩
  | int i => obtain ⟨t, rfl⟩ := rx; exact PySem.P.repr_of_int (of_decide_eq_true hs) ⟨.str _, H, I.tok _, ⟨_, rfl⟩, q⟩
  | str y => obtain ⟨t, rfl⟩ := rx; exact PySem.P.repr_of_str ⟨.str _, H, I.tok _, ⟨_, rfl⟩, q⟩ hl
  | tup a b c => exact big _ rfl ⟨.str _, H, I, ⟨_, rfl⟩, q⟩
  | lst a b c => exact big _ rfl ⟨.str _, H, I, ⟨_, rfl⟩, q⟩
/-- k * xs -/
def rRepR : R2 := fun x y H Q => ∃ l k xs, y = .ref l ∧ x = .int k ∧ H l = some (.lst xs) ∧ -(2 ^ 63) ≤ k ∧ k < 2 ^ 63 ∧ xs.length * k.toNat ≤ sizeLine ∧
  ∀ p, H p = none → Q (.ref p) (upd H p (.lst (List.replicate k.toNat xs).flatten))
theorem op_repR : OpR X (binaryOp .Mult) rRepR := by
  intro pins s σ H x y v u Q I rx ry h
  obtain ⟨l, k, xs, rfl, rfl, hH, h1, h2, hz, q⟩ := h
  cases ry
  obtain ⟨t, rfl⟩ := rx
  obtain ⟨z, its, n, r, hl, e⟩ := I.lstM hH
  have hlen : its.toArray.size * k.toNat ≤ sizeLine := by rw [List.size_toArray, ← hl]; exact hz
  have hcap : ¬ its.toArray.size * k.toNat > (2 ^ 63 - 1) / 8 := by
    have : (sizeLine : Nat) ≤ (2 ^ 63 - 1) / 8 := by decide
    omega
  have hfit : ¬ (!Builtin.List.listFitsIndex k) = true := by
    rw [fitsIndex_both h1 h2]
    exact Bool.false_ne_true
  have hlong : ¬ Builtin.List.listTooLong (its.toArray.size * k.toNat) = true := by
    rw [notLongL hlen]
    exact Bool.false_ne_true
  have hnew : List.foldl (fun x1 x2 => x1 ++ x2) #[] (List.replicate (if its.toArray.isEmpty = true then 0 else k.toNat) its.toArray) = (List.replicate k.toNat its).flatten.toArray := by
    have f0 : ∀ m : Nat, List.foldl (fun x1 x2 => x1 ++ x2) #[] (List.replicate m its.toArray) = (List.replicate m its).flatten.toArray := fun m => by
      have := foldl_rep its m []
      rw [List.nil_append] at this
      exact this
    rw [f0]
    cases its with
    | nil => simp
    | cons a r' => rw [if_neg (by simp)]
  refine lm_binaryOp_repeat_right (T := "list") (U := "int") (by decide) (fun s' => typeIs_int s' k t) ⟨_, e, rfl⟩ F.fills_int_mul noFill_list_mul F.slot_int_mul lm_noRepeat_int repeat_list F.slot_int_index.lookup
    (call_meets F.slot_int_mul (typeIs_int s k t) F.entry_int_mul (F.args_int_mul_2 _ _) (int___mul___int_list k t l its.toArray n)
      ⟨e, rfl, ⟨_, e, rfl⟩, call_meets F.slot_list_mul ⟨_, e, rfl⟩ F.entry_list_mul (F.args_list_mul_2 _ _) (AutoListH.list___mul___list_int_3 l its.toArray n k t hfit hcap hlong) ⟨e, ?_⟩⟩)
  rw [hnew]
  exact ⟨.ref _, _, I.lnew (t' := s.toks) (r.rep k.toNat) (by rw [len_rep, Nat.mul_comm]; exact hz), rfl, q _ I.fresh⟩
/-- xs.count(i), ints -/
def rCount : V → List V → Hp → VK → Prop := fun x vs H Q => ∃ (l : Addr) (ns : List Int) (i : Int), x = .ref l ∧ vs = [.int i] ∧ H l = some (.lst (ns.map V.int)) ∧ Q (.int ((ns.countP fun z => decide (z = i)) : Nat)) H
theorem mt_count : MtM X "list.count" rCount := by
  intro pins s σ H x vs v us Q I rx rv h
  obtain ⟨l, ns, i, rfl, rfl, hH, q⟩ := h
  cases rx
  obtain ⟨u, rfl, t, rfl⟩ := vals1 rv
  obtain ⟨z, its, n, r, hl, e⟩ := I.lstM hH
  have hI := intsAre_of r
  refine call_meets F.slot_list_count ⟨_, e, rfl⟩ F.entry_list_count (F.args_list_count_2 _ _) (MeetsSeq.list_count l its.toArray n (.int i t) (PyProof.Rows.isInt i) (fun y hy => ?_)) ⟨e, ?_⟩
  · exact PyProof.Rows.eq_isInt i t hI y (by simpa using hy)
  · refine ⟨.int _, H, I.tok _, ⟨s.toks, ?_⟩, q⟩
    have cnt : ∀ {vs : List Value} {ns : List Int}, IntsAre vs ns → vs.countP (PyProof.Rows.isInt i) = ns.countP fun z => decide (z = i) := by
      intro vs ns h
      induction h with
      | nil => rfl
      | cons m t' h ih =>
        rw [List.countP_cons, List.countP_cons, ih]
        have e1 : PyProof.Rows.isInt i (.int m t') = decide (m = i) := by
          show (m == i) = decide (m = i)
          by_cases q : m = i <;> simp [q]
        rw [e1]
    rw [List.toList_toArray, cnt hI]
theorem pi_tupK {K : PySem.W.Frag} {tg l : Expr} {tl : TE} (hl : PE X l tl) (hK : X.K = K := by rfl) : PI X tg l (iTup K tl) := by subst hK; exact pi_tup hl
theorem pe_bmK {K : PySem.W.Frag} {o e : Expr} {es : List Expr} {to : TE} {t : TA} {name : Str} {apos cpos : PySem.Pos} {T id : String} {r : V → List V → Hp → VK → Prop} (pa : PlainAttrs T) (slot : Slot T name id) (hty : typeOf (.builtin id) = pure (.type "method_descriptor")) (hm : MtR X id r) (ho : PE X o to) (ha : PA X (e :: es) t) (hK : X.K = K := by rfl)
    (hbase : attributeBase o name X.env (eval o X.env) = eval o X.env := by rfl)
    (hfew : ((backTo cpos (starEach (e :: es) X.env)).all (fun x => !x.1) && (backToKw cpos (keywordEach [] X.env)).all (fun x => x.1.isSome)
      && decide ((e :: es).length + ([] : List Keyword).length + (if ([] : List Keyword).isEmpty then 0 else 1) < 30)) = true := by rfl)
    (hline : (apos.endLine == cpos.line) = true := by rfl) (hs : starEach (e :: es) X.env = (false, eval e X.env) :: starEach es X.env := by rfl) (hplain : (backTo cpos (starEach es X.env)).any (·.1) = false := by rfl) :
    PE X (.Call (.Attribute o name apos) (e :: es) [] cpos) (tBM K T r to t) := by subst hK; exact pe_bm pa slot hty hm ho ha hbase hfew hline hs hplain
end
end L2

set_option Elab.async false
set_option linter.all false
set_option maxRecDepth 100000
set_option maxHeartbeats 1000000
namespace L2
open PySem PySem.Spec PyProof.Rows
def absI (i : Int) : Int := if i < 0 then -i else i
/-- the pool: each tie twice -/
def pool (n : Nat) : List Int := upto 1 n ++ upto 1 n
structure ShOk (S : List (List Int)) : Prop where
  even : ∃ m : Nat, S.length = 2 * m ∧ 1 ≤ m ∧ m ≤ 6
  three : ∀ t ∈ S, t.length = 3
  ties : (S.flatten.map absI).Perm (pool (S.length / 2 * 3))
theorem mem_upto {lo : Int} {n : Nat} {i : Int} : i ∈ upto lo n ↔ lo ≤ i ∧ i < lo + (n : Int) := by
  unfold upto
  rw [List.mem_map]
  constructor
  · rintro ⟨k, hk, rfl⟩
    have := List.mem_range.mp hk
    omega
  · rintro ⟨h1, h2⟩
    exact ⟨(i - lo).toNat, List.mem_range.mpr (by omega), by omega⟩
theorem upto_len (lo : Int) (n : Nat) : (upto lo n).length = n := by unfold upto; rw [List.length_map, List.length_range]
theorem chunks (os : List Int) : ∀ n : Nat, ((List.range n).map fun k => (os.drop (3 * k)).take 3).flatten = os.take (3 * n)
  | 0 => by simp
  | n + 1 => by
    rw [List.range_succ, List.map_append, List.flatten_append, chunks os n]
    simp only [List.map_cons, List.map_nil, List.flatten_cons, List.flatten_nil, List.append_nil]
    rw [show 3 * (n + 1) = 3 * n + 3 by omega, List.take_add]
theorem rep2 (xs : List V) : (List.replicate (2 : Int).toNat xs).flatten = xs ++ xs := by
  show xs ++ (xs ++ []) = xs ++ xs
  rw [List.append_nil]
def dI (ns : List Int) : PyData := .list (ns.map .int)
theorem di_lst {K : PySem.W.Frag} {H : Hp} {a : Addr} {ns : List Int} (h : SqL K H a (ns.map V.int)) : DI K H (.ref a) (dI ns) := by
  refine .lst h (by rw [List.length_map, List.length_map]) fun i x d h1 h2 => ?_
  rw [List.getElem?_map] at h1 h2
  cases z : ns[i]? with
  | none => rw [z] at h1; cases h1
  | some m => rw [z] at h1 h2; cases h1; cases h2; exact .int m
theorem eqv_dI (ns ms : List Int) : PyData.eqv (dI ns) (dI ms) = decide (ns = ms) := eqvAll_ints ns ms
theorem lay_dI (ns : List Int) : (dI ns).canLay0 = true := lay_ints ns
theorem dep_dI (ns : List Int) : (dI ns).depth ≤ 60 := by show PyData.depthAll _ + 1 ≤ 60; rw [dep_ints]; decide
theorem erase_permK {α : Type} : ∀ {l : List α} {k : Nat} {y : α}, l[k]? = some y → l.Perm (y :: l.eraseIdx k)
  | [], k, y, h => by cases h
  | a :: l, 0, y, h => by cases h; exact List.Perm.refl _
  | a :: l, k + 1, y, h => by
    have ih := erase_permK (l := l) (k := k) (y := y) (by simpa using h)
    exact (List.Perm.cons a ih).trans (List.Perm.swap y a _)
theorem map_erase {α β : Type} (f : α → β) : ∀ (l : List α) (k : Nat), (l.map f).eraseIdx k = (l.eraseIdx k).map f
  | [], _ => rfl
  | _ :: _, 0 => rfl
  | a :: l, k + 1 => by
    show f a :: (l.map f).eraseIdx k = f a :: (l.eraseIdx k).map f
    rw [map_erase f l k]
theorem cut_midL (xs : List V) {u m : Int} (u0 : 0 ≤ u) (m1 : 0 ≤ m) (h : u + m ≤ (xs.length : Int)) : cutV xs (some u) (some (u + m)) = (xs.drop u.toNat).take m.toNat := by
  unfold cutV
  have a1 : HT.sIx xs.length 0 (some u) = u.toNat := by
    show (if u < 0 then _ else min u.toNat xs.length) = _
    rw [if_neg (by omega)]
    omega
  have a2 : HT.sIx xs.length xs.length (some (u + m)) = u.toNat + m.toNat := by
    show (if u + m < 0 then _ else min (u + m).toNat xs.length) = _
    rw [if_neg (by omega)]
    omega
  rw [a1, a2, Nat.add_sub_cancel_left]
theorem abs_sign {y r : Int} (hy : 0 ≤ y) (h0 : 0 ≤ r) (h1 : r < 2) : absI (y * (1 - 2 * r)) = y := by
  have : r = 0 ∨ r = 1 := by omega
  unfold absI
  rcases this with rfl | rfl
  · rw [show y * (1 - 2 * 0) = y by omega, if_neg (by omega)]
  · rw [show y * (1 - 2 * 1) = -y by omega]
    split <;> omega
theorem pool_len (n : Nat) : (pool n).length = 2 * n := by unfold pool; rw [List.length_append, upto_len]; omega
theorem mem_pool {n : Nat} {i : Int} (h : i ∈ pool n) : 1 ≤ i ∧ i ≤ (n : Int) := by
  unfold pool at h
  rcases List.mem_append.mp h with h | h <;> (have := mem_upto.mp h; omega)
theorem sheet_ok {m : Nat} {os : List Int} (m1 : 1 ≤ m) (m6 : m ≤ 6) (h : (os.map absI).Perm (pool (3 * m))) : ShOk ((List.range (2 * m)).map fun k => (os.drop (3 * k)).take 3) := by
  have hl : os.length = 6 * m := by
    have := h.length_eq
    rw [List.length_map, pool_len] at this
    omega
  have lS : ((List.range (2 * m)).map fun k => (os.drop (3 * k)).take 3).length = 2 * m := by rw [List.length_map, List.length_range]
  refine ⟨⟨m, lS, m1, m6⟩, fun t ht => ?_, ?_⟩
  · obtain ⟨k, hk, rfl⟩ := List.mem_map.mp ht
    have hk := List.mem_range.mp hk
    rw [List.length_take, List.length_drop]
    omega
  · rw [chunks, List.take_of_length_le (by omega), lS]
    rw [show 2 * m / 2 * 3 = 3 * m by omega]
    exact h
end L2

set_option Elab.async false
set_option linter.all false
set_option maxRecDepth 100000
set_option maxHeartbeats 1000000
namespace L2
open PySem PySem.Spec PyProof.Rows
def wholeD : PyData → Bool
  | .int _ => true
  | _ => false
theorem wholeD_int {H : Hp} {x : V} {d : PyData} (h : Th H x d) (e : wholeD d = true) : ∃ i, x = .int i ∧ d = .int i := by
  cases h <;> first | exact ⟨_, rfl, rfl⟩ | cases e
theorem whole_ib (d : PyData) : wholeD d = (isInt d && !isBool d) := by cases d <;> rfl
def isLst : PyData → Bool
  | .list _ => true
  | _ => false
theorem kit_lst {K : PySem.W.Frag} (d : PyData) : PySem.W.kitOne K (.type (tyName d)) (.type "list") = some (isLst d) := by cases d <;> rfl
theorem tup_parts {H : Hp} {x : V} {d : PyData} (t : Th H x d) (h : isTup d = true) : ∃ p ds xs, x = .ref p ∧ d = .tuple ds ∧ H p = some (.tup xs) ∧ ThL H xs ds := by
  cases t with
  | tup a b c => exact ⟨_, _, _, rfl, rfl, a, b, c⟩
  | _ => cases h
theorem lst_parts {H : Hp} {x : V} {d : PyData} (t : Th H x d) (h : isLst d = true) : ∃ p ds xs, x = .ref p ∧ d = .list ds ∧ H p = some (.lst xs) ∧ ThL H xs ds := by
  cases t with
  | lst a b c => exact ⟨_, _, _, rfl, rfl, a, b, c⟩
  | _ => cases h
theorem thl_at {H : Hp} {xs : List V} {ds : List PyData} (k : ThL H xs ds) {i : Nat} {x : V} (e : xs[i]? = some x) : ∃ d, ds[i]? = some d ∧ Th H x d := by
  have hi : i < ds.length := by rw [← k.1]; exact (List.getElem?_eq_some_iff.mp e).1
  exact ⟨ds[i], List.getElem?_eq_getElem hi, k.2 i x _ e (List.getElem?_eq_getElem hi)⟩
theorem three3 {α : Type} {xs : List α} (h : xs.length = 3) : ∃ a b c, xs = [a, b, c] := by
  match xs, h with
  | [a, b, c], _ => exact ⟨a, b, c, rfl⟩
def isTri : PyData → Bool
  | .tuple ds => decide (ds.length = 3) && ds.all wholeD
  | _ => false
def intD : PyData → Int
  | .int i => i
  | _ => 0
def sidesD : PyData → List Int
  | .tuple ds => ds.map intD
  | _ => []
def tiesD (ts : List PyData) : List Int := (ts.map fun t => (sidesD t).map absI).flatten
/-- True just of a sheet -/
def isS : PyData → Bool
  | .list ts => (decide (2 ≤ ts.length ∧ ts.length ≤ 12 ∧ ts.length % 2 = 0) && ts.all isTri) && (upto 1 (ts.length / 2 * 3)).all fun t => decide ((tiesD ts).countP (fun z => decide (z = t)) = 2)
  | _ => false
theorem isS_not {d : PyData} (h : isLst d = false) : isS d = false := by cases d <;> first | rfl | cases h
theorem isTri_not {d : PyData} (h : isTup d = false) : isTri d = false := by cases d <;> first | rfl | cases h
theorem isTri_ints {d : PyData} (h : isTri d = true) : ∃ a b c : Int, d = .tuple [.int a, .int b, .int c] := by
  cases d with
  | tuple ds =>
    have h' : (decide (ds.length = 3) && ds.all wholeD) = true := h
    rw [Bool.and_eq_true] at h'
    obtain ⟨h1, h2⟩ := h'
    obtain ⟨a, b, c, rfl⟩ := three3 (of_decide_eq_true h1)
    have w := List.all_eq_true.mp h2
    have wa := w a (by simp)
    have wb := w b (by simp)
    have wc := w c (by simp)
    cases a <;> first | cases wa | skip
    cases b <;> first | cases wb | skip
    cases c <;> first | cases wc | skip
    exact ⟨_, _, _, rfl⟩
  | _ => cases h
theorem tiesD_snoc (ts : List PyData) (t : PyData) : tiesD (ts ++ [t]) = tiesD ts ++ (sidesD t).map absI := by
  unfold tiesD
  rw [List.map_append, List.flatten_append]
  simp
theorem ties_len : ∀ {ts : List PyData}, ts.all isTri = true → (tiesD ts).length = 3 * ts.length
  | [], _ => rfl
  | t :: ts, h => by
    rw [List.all_cons, Bool.and_eq_true] at h
    obtain ⟨a, b, c, rfl⟩ := isTri_ints h.1
    have ih := ties_len h.2
    unfold tiesD at ih ⊢
    rw [List.map_cons, List.flatten_cons, List.length_append, ih]
    simp only [sidesD, List.map_cons, List.map_nil, List.length_cons, List.length_nil]
    omega
theorem upto_succ (lo : Int) (n : Nat) : upto lo (n + 1) = upto lo n ++ [lo + (n : Int)] := by unfold upto; rw [List.range_succ, List.map_append]; rfl
theorem count_upto (t : Int) : ∀ n : Nat, (upto 1 n).countP (fun z => decide (z = t)) = if 1 ≤ t ∧ t ≤ (n : Int) then 1 else 0
  | 0 => by rw [if_neg (by omega)]; rfl
  | n + 1 => by
    rw [upto_succ, List.countP_append, count_upto t n]
    by_cases h : (1 : Int) + (n : Int) = t
    · rw [if_neg (by omega), if_pos (by omega)]
      simp [h]
    · have e : List.countP (fun z => decide (z = t)) [(1 : Int) + (n : Int)] = 0 := by simp [h]
      rw [e]
      by_cases q : 1 ≤ t ∧ t ≤ (n : Int)
      · rw [if_pos q, if_pos (by omega)]
      · rw [if_neg q, if_neg (by omega)]
theorem count_pool (t : Int) (n : Nat) : (pool n).countP (fun z => decide (z = t)) = if 1 ≤ t ∧ t ≤ (n : Int) then 2 else 0 := by
  unfold pool
  rw [List.countP_append, count_upto]
  split <;> rfl
theorem filt_len (A : List Int) : ∀ n : Nat, (∀ t ∈ upto 1 n, A.countP (fun z => decide (z = t)) = 2) → (A.countP fun z => decide (1 ≤ z ∧ z ≤ (n : Int))) = 2 * n
  | 0, _ => by
    rw [List.countP_eq_zero.mpr]
    intro z _
    simp
    omega
  | n + 1, h => by
    have ih := filt_len A n fun t ht => h t (by rw [upto_succ]; exact List.mem_append_left _ ht)
    have hl := h (1 + (n : Int)) (by rw [upto_succ]; exact List.mem_append_right _ (by simp))
    have key : ∀ B : List Int, (B.countP fun z => decide (1 ≤ z ∧ z ≤ ((n + 1 : Nat) : Int))) = (B.countP fun z => decide (1 ≤ z ∧ z ≤ (n : Int))) + B.countP (fun z => decide (z = 1 + (n : Int))) := by
      intro B
      induction B with
      | nil => rfl
      | cons b B ihB =>
        rw [List.countP_cons, List.countP_cons, List.countP_cons, ihB]
        by_cases q1 : 1 ≤ b ∧ b ≤ (n : Int)
        · have q2 : 1 ≤ b ∧ b ≤ ((n + 1 : Nat) : Int) := by omega
          have q3 : ¬ b = 1 + (n : Int) := by omega
          simp only [q1, q2, q3, decide_true, decide_false, if_true, and_self]
          simp
          omega
        · by_cases q3 : b = 1 + (n : Int)
          · have q2 : 1 ≤ b ∧ b ≤ ((n + 1 : Nat) : Int) := by omega
            rw [decide_eq_true q2, decide_eq_false q1, decide_eq_true q3]
            simp
            omega
          · have q2 : ¬ (1 ≤ b ∧ b ≤ ((n + 1 : Nat) : Int)) := by omega
            rw [decide_eq_false q2, decide_eq_false q1, decide_eq_false q3]
            simp
    rw [key, ih, hl]
    omega
/-- each tie twice, and no other -/
theorem perm_pool {A : List Int} {n : Nat} (hl : A.length = 2 * n) : A.Perm (pool n) ↔ ∀ t ∈ upto 1 n, A.countP (fun z => decide (z = t)) = 2 := by
  constructor
  · intro p t ht
    have := mem_upto.mp ht
    rw [p.countP_eq, count_pool, if_pos (by omega)]
  · intro h
    have fl := filt_len A n h
    rw [← hl] at fl
    have all := List.countP_eq_length.mp fl
    rw [List.perm_iff_count]
    intro a
    have c1 : ∀ l : List Int, List.count a l = l.countP fun z => decide (z = a) := fun l => by
      unfold List.count
      congr 1
    rw [c1, c1, count_pool]
    by_cases q : 1 ≤ a ∧ a ≤ (n : Int)
    · rw [if_pos q]
      exact h a (mem_upto.mpr (by omega))
    · rw [if_neg q]
      refine List.countP_eq_zero.mpr fun z hz => ?_
      have := of_decide_eq_true (all z hz)
      intro e
      rw [of_decide_eq_true e] at this
      exact q this
theorem isS_eq (ts : List PyData) : isS (.list ts) = ((decide (2 ≤ ts.length ∧ ts.length ≤ 12 ∧ ts.length % 2 = 0) && ts.all isTri) && (upto 1 (ts.length / 2 * 3)).all fun t => decide ((tiesD ts).countP (fun z => decide (z = t)) = 2)) := rfl
theorem isS_len {ts : List PyData} (h : ¬ (2 ≤ ts.length ∧ ts.length ≤ 12 ∧ ts.length % 2 = 0)) : isS (.list ts) = false := by
  rw [isS_eq, decide_eq_false h]; rfl
theorem isS_tri {ts : List PyData} (h : ts.all isTri = false) : isS (.list ts) = false := by
  rw [isS_eq, h, Bool.and_false]; rfl
theorem isS_bad {ts : List PyData} {n : Nat} {d : PyData} (h : ts[n]? = some d) (hd : isTri d = false) : isS (.list ts) = false := by
  refine isS_tri (Bool.eq_false_iff.mpr fun q => ?_)
  rw [List.all_eq_true.mp q d (List.mem_of_getElem? h)] at hd
  cases hd
theorem isS_full {ts : List PyData} (h : 2 ≤ ts.length ∧ ts.length ≤ 12 ∧ ts.length % 2 = 0) (h2 : ts.all isTri = true) : isS (.list ts) = (upto 1 (ts.length / 2 * 3)).all fun t => decide ((tiesD ts).countP (fun z => decide (z = t)) = 2) := by
  rw [isS_eq, decide_eq_true h, h2]; rfl
theorem isS_perm {ts : List PyData} (h : 2 ≤ ts.length ∧ ts.length ≤ 12 ∧ ts.length % 2 = 0) (h2 : ts.all isTri = true) : isS (.list ts) = true ↔ (tiesD ts).Perm (pool (ts.length / 2 * 3)) := by
  rw [isS_full h h2, perm_pool (by rw [ties_len h2]; omega), List.all_eq_true]
  constructor
  · exact fun q t ht => of_decide_eq_true (q t ht)
  · exact fun q t ht => decide_eq_true (q t ht)
/-- what was drawn is a sheet -/
theorem tri_dT {t : List Int} (h : t.length = 3) : isTri (dT t) = true := by
  show (decide ((t.map PyData.int).length = 3) && (t.map PyData.int).all wholeD) = true
  rw [List.length_map, decide_eq_true h, Bool.true_and, List.all_eq_true]
  intro x hx
  obtain ⟨i, _, rfl⟩ := List.mem_map.mp hx
  rfl
theorem ties_dT : ∀ S : List (List Int), tiesD (S.map dT) = S.flatten.map absI
  | [] => rfl
  | t :: S => by
    have ih := ties_dT S
    unfold tiesD at ih ⊢
    rw [List.map_cons, List.map_cons, List.flatten_cons, List.flatten_cons, List.map_append, ih]
    congr 1
    show ((t.map PyData.int).map intD).map absI = t.map absI
    rw [List.map_map, List.map_map]
    rfl
theorem isS_sheet {S : List (List Int)} (h : ShOk S) : isS (dTs S) = true := by
  obtain ⟨m, hm, m1, m6⟩ := h.even
  have l : (S.map dT).length = S.length := List.length_map ..
  refine (isS_perm (ts := S.map dT) (by rw [l]; omega) ?_).mpr ?_
  · rw [List.all_eq_true]
    intro x hx
    obtain ⟨t, ht, rfl⟩ := List.mem_map.mp hx
    exact tri_dT (h.three t ht)
  · rw [ties_dT, l]
    exact h.ties
theorem TuL.th {H : Hp} {xs : List V} {us : List (List Int)} (h : TuL H xs us) : ThL H xs (us.map dT) := by
  refine ⟨by rw [List.length_map]; exact h.1, fun i x d h1 h2 => ?_⟩
  rw [List.getElem?_map] at h2
  cases z : us[i]? with
  | none => rw [z] at h2; cases h2
  | some u =>
    rw [z] at h2
    cases h2
    obtain ⟨a, rfl, ha⟩ := h.2 i x u h1 z
    exact (ThL.ints u).tup ha
end L2

set_option Elab.async false
set_option linter.all false
set_option maxRecDepth 100000
set_option maxHeartbeats 1000000
namespace L2
open PySem PySem.Spec PyProof.Rows
theorem ThL.set {H : Hp} {xs : List V} {ds : List PyData} (k : ThL H xs ds) {v : V} {dv : PyData} (t : Th H v dv) (n : Nat) : ThL H (xs.set n v) (ds.set n dv) := by
  refine ⟨by rw [List.length_set, List.length_set, k.1], fun i x d h1 h2 => ?_⟩
  rw [List.getElem?_set] at h1 h2
  by_cases e : n = i
  · rw [if_pos e] at h1 h2
    rw [← k.1] at h2
    by_cases q : n < xs.length
    · rw [if_pos q] at h1 h2
      cases h1
      cases h2
      exact t
    · rw [if_neg q] at h1
      cases h1
  · rw [if_neg e] at h1 h2
    exact k.2 i x d h1 h2
theorem ThL.erase {H : Hp} {xs : List V} {ds : List PyData} (k : ThL H xs ds) (n : Nat) : ThL H (xs.eraseIdx n) (ds.eraseIdx n) := by
  have a := (k.take n).append (k.drop (n + 1))
  rw [List.eraseIdx_eq_take_drop_succ, List.eraseIdx_eq_take_drop_succ]
  exact a
theorem ThL.rev {H : Hp} {xs : List V} {ds : List PyData} (k : ThL H xs ds) : ThL H xs.reverse ds.reverse := by
  refine ⟨by rw [List.length_reverse, List.length_reverse, k.1], fun i x d h1 h2 => ?_⟩
  have hi : i < xs.length := by have := (List.getElem?_eq_some_iff.mp h1).1; simpa using this
  rw [List.getElem?_reverse hi] at h1
  rw [List.getElem?_reverse (by rw [← k.1]; exact hi), ← k.1] at h2
  exact k.2 _ x d h1 h2
theorem FD.str {n : Nat} (x : Str) (h1 : (PyData.str x).canLay0 = true) (h2 : (PyData.str x).weight ≤ 400) (h3 : (PyData.str x).intsShort 80 = true) : FD n 400 (.str x) := ⟨h1, rfl, Nat.zero_le _, h2, h3⟩
/-- a list of few light things -/
theorem FD.few {n : Nat} {ds : List PyData} (h : ∀ d ∈ ds, FD n 3000 d) (l : ds.length ≤ 20) : FD (n + 1) 200000 (.list ds) := by
  refine (FA.lst (FA.all h)).mono (Nat.le_refl _) ?_
  have : ds.length * 3001 ≤ 20 * 3001 := Nat.mul_le_mul_right _ l
  omega
theorem FD.fewT {n : Nat} {ds : List PyData} (h : ∀ d ∈ ds, FD n 3000 d) (l : ds.length ≤ 20) : FD (n + 1) 200000 (.tuple ds) := by
  refine (FA.tup (FA.all h)).mono (Nat.le_refl _) ?_
  have : ds.length * 3001 ≤ 20 * 3001 := Nat.mul_le_mul_right _ l
  omega
/-- few small numbers -/
theorem FD.smallT {n : Nat} {ds : List PyData} (h : ∀ d ∈ ds, FD n 400 d) (l : ds.length ≤ 6) : FD (n + 1) 3000 (.tuple ds) := by
  refine (FA.tup (FA.all h)).mono (Nat.le_refl _) ?_
  have : ds.length * 401 ≤ 6 * 401 := Nat.mul_le_mul_right _ l
  omega
theorem FD.smallL {n : Nat} {ds : List PyData} (h : ∀ d ∈ ds, FD n 400 d) (l : ds.length ≤ 6) : FD (n + 1) 3000 (.list ds) := by
  refine (FA.lst (FA.all h)).mono (Nat.le_refl _) ?_
  have : ds.length * 401 ≤ 6 * 401 := Nat.mul_le_mul_right _ l
  omega
theorem ShOk.side {S : List (List Int)} (h : ShOk S) {t : List Int} (ht : t ∈ S) {i : Int} (hi : i ∈ t) : 1 ≤ absI i ∧ absI i ≤ ((S.length / 2 * 3 : Nat) : Int) := by
  have : absI i ∈ pool (S.length / 2 * 3) := h.ties.subset (List.mem_map_of_mem (List.mem_flatten.mpr ⟨t, ht, hi⟩))
  exact mem_pool this
theorem ShOk.len {S : List (List Int)} (h : ShOk S) : 2 ≤ S.length ∧ S.length ≤ 12 ∧ S.length % 2 = 0 := by
  obtain ⟨m, a, b, c⟩ := h.even
  omega
theorem abs_le {i n : Int} (h : absI i ≤ n) : -n ≤ i ∧ i ≤ n := by unfold absI at h; split at h <;> omega
theorem ShOk.small {S : List (List Int)} (h : ShOk S) {t : List Int} (ht : t ∈ S) {i : Int} (hi : i ∈ t) : -18 ≤ i ∧ i ≤ 18 := by
  have a := h.side ht hi
  have b := h.len
  have := abs_le a.2
  omega
theorem FD.sm {n : Nat} {i : Int} (h : -100 ≤ i ∧ i ≤ 100) : FD n 400 (.int i) := FD.int (Int.lt_of_lt_of_le (by decide) h.1) (Int.lt_of_le_of_lt h.2 (by decide))
theorem ShOk.fd {S : List (List Int)} (h : ShOk S) : ∀ d ∈ S.map dT, FD 1 3000 d := by
  intro d hd
  obtain ⟨t, ht, rfl⟩ := List.mem_map.mp hd
  refine FD.smallT (ds := t.map PyData.int) (fun x hx => ?_) (by rw [List.length_map, h.three t ht]; decide)
  obtain ⟨i, hi, rfl⟩ := List.mem_map.mp hx
  have := h.small ht hi
  exact FD.sm (by omega)
theorem mem_set' {α : Type} {l : List α} {n : Nat} {a b : α} (h : a ∈ l.set n b) : a ∈ l ∨ a = b := by
  rcases List.mem_or_eq_of_mem_set h with h | h
  · exact .inl h
  · exact .inr h
end L2

set_option Elab.async false
set_option linter.all false
set_option maxRecDepth 100000
set_option maxHeartbeats 1000000
namespace Toy
open PySem L2 PyProof.Rows
def top (i : Nat) : Stmt := PySem.Challenge.pw_farcords_k43_what_is_a_sheet.main.body.getD i (.Pass ⟨0, 0, 0, 0⟩)
/-- a def of the text that keeps its promise, by its global name -/
structure Kn (P : Program) (w : World) (K : PySem.W.Frag) (mg : Str → Option Value) (base : Heap) (x : Str) (k : Nat) (ps : List Str) (sp : Sp) : Prop where
  ex : ∃ (f : Addr) (fd : FuncData), FnOk P w K mg base CX0 k f fd ps sp ∧ mg x = some (.ref f) ∧ PySem.W.keepIn K (.ref f) = true ∧ Binds K fd ps []
theorem pe_callD {X : Cx} {x : Str} {k j : Nat} {ps : List Str} {sp : Sp} {e : Expr} {es : List Expr} {t : TA} {p pos : Pos} (G : Kn X.prog X.w X.K X.mg X.base x k ps sp) (hr : Room j X.A) (hg : Gl X x) (ha : PA X (e :: es) t) (hle : k ≤ j := by decide)
    (hdb : (x == ("__debug__" : Str)) = false := by decide)
    (he : starEach (e :: es) X.env = (false, eval e X.env) :: starEach es X.env := by rfl) (hpl : (backTo pos (starEach es X.env)).any (·.1) = false := by rfl) : PE X (.Call (.Name x p) (e :: es) [] pos) (tCall sp [] E0 t) := by
  obtain ⟨f, fd, F, hm, hk, hb⟩ := G.ex
  exact pe_call F (hr.mono hle) hg hm hk hb .nil pass0 ha hdb he hpl
structure Txt (mg : Str → Option Value) : Prop where
  len : mg "len" = none
  range : mg "range" = none
  min : mg "min" = none
  max : mg "max" = none
  isinstance : mg "isinstance" = none
  bool : mg "bool" = none
  int : mg "int" = none
  tuple : mg "tuple" = none
  list : mg "list" = none
  str : mg "str" = none
  all : mg "all" = none
  sum : mg "sum" = none
  sorted : mg "sorted" = none
/-- the draw's list -/
def Purse (H : Hp) (d : Addr) : Prop := ∃ a b : Int, H d = some (.lst [.int a, .int b]) ∧ 0 ≤ b ∧ b < 2147483648
def But (d : Addr) (H H' : Hp) : Prop := ∀ c o, H c = some o → c ≠ d → H' c = some o
theorem But.refl (d : Addr) (H : Hp) : But d H H := fun _ _ e _ => e
theorem But.trans {d : Addr} {H H1 H2 : Hp} (a : But d H H1) (b : But d H1 H2) : But d H H2 := fun c o e n => b c o (a c o e n) n
theorem But.upd {d : Addr} {H H' : Hp} {o : HO} (a : But d H H') : But d H (upd H' d o) := fun c u e n => by rw [upd_ne n]; exact a c u e n
theorem But.new {d p : Addr} {H H' : Hp} {o : HO} (a : But d H H') (h : H' p = none) : But d H (L2.upd H' p o) := fun c u e n => by
  have := a c u e n
  rw [upd_ne (ne_of_none this h)]; exact this
theorem Purse.new {d p : Addr} {H : Hp} {o : HO} (a : Purse H d) (h : H p = none) : Purse (L2.upd H p o) d := by
  obtain ⟨x, y, e, r⟩ := a
  exact ⟨x, y, by rw [upd_ne (ne_of_none e h)]; exact e, r⟩
theorem But.seq {K : PySem.W.Frag} {d : Addr} {H0 H H' : Hp} {a : Addr} {xs : List V} (e : But d H H') (s : Same H0 H) (f : H0 d = none) (h : SqL K H0 a xs) : SqL K H' a xs := by
  exact Same.seq (H := H0) (fun b o q => e b o (s b o q) (fun z => by rw [z, f] at q; cases q)) h
theorem Same.but {d : Addr} {H0 H H' : Hp} (s : Same H0 H) (f : H0 d = none) (e : But d H H') : Same H0 H' := fun b o q => e b o (s b o q) (fun z => by rw [z, f] at q; cases q)
theorem Same.new {p : Addr} {H H' : Hp} {o : HO} (a : Same H H') (h : H' p = none) : Same H (L2.upd H' p o) := fun c u e => by
  have := a c u e
  rw [upd_ne (ne_of_none this h)]; exact this
theorem log_ok {m : Int} (h0 : 0 < m) (h : m < 10 ^ 100) : m.natAbs.log2 < 9000 := by
  have h2 : m.natAbs < 2 ^ 400 := by
    have : (10 : Int) ^ 100 ≤ 2 ^ 400 := by decide +kernel
    omega
  have := (Nat.log2_lt (n := m.natAbs) (k := 400) (by omega)).mpr h2
  omega
section
variable {P : Program} {w : World} {K : PySem.W.Frag} {mg : Str → Option Value} {base : Heap}
abbrev s__law_cell_at : Stmt := top 8
theorem sc__law_cell_at : FnScope ["_law_script", "_law_k"] ["_law_script", "_law_k"] (defScope s__law_cell_at) := ⟨rfl, rfl, rfl, by decide +kernel, rfl, by decide +kernel, by decide +kernel⟩
def spCell (K : PySem.W.Frag) : Sp := fun vs H Q _ => ∃ (a : Addr) (ns : List Int) (k : Int), vs = [.ref a, .int k] ∧ SqL K H a (ns.map V.int) ∧ 0 ≤ k ∧ ∀ n : Int, Q (.int n) H
theorem ok_cell {f : Addr} {fd : FuncData} (F : Fun K "_law_cell_at" "_law_cell_at" s__law_cell_at f fd) (M : Txt mg) : FnOk P w K mg base CX0 1 f fd ["_law_script", "_law_k"] (spCell K) := by
  have sc := sc__law_cell_at
  refine F.ok sc (fun vs H Q E h => ?_) (fun cdv A outer s H vs Q E hr h => ?_)
  · obtain ⟨a, ns, k, rfl, _⟩ := h
    rfl
  · obtain ⟨a, ns, i, rfl, hS, h0, k⟩ := h
    refine ⟨_, (pss_cons (ps_if (pt_cmpR op_lt (pv 1) (pe_callB (call_lenK (K := K)) (by rfl) M.len PySem.boot_len (pa_Name (pv 0) pa_nil)) (nomark _)) (pss_one (ps_ret (pe_ix (ix_listK (K := K)) (pv 0) (pv 1) (fun _ _ => rfl)))) pss_nil)
      (pss_one (ps_ret pe_int))), ?_⟩
    refine ⟨_, rfl, _, rfl, a, _, rfl, .inl hS, _, _, rfl, rfl, _, rfl, ?_⟩
    refine ite2 (fun e => ?_) (fun e => ?_)
    · have e := of_decide_eq_true e
      rw [List.length_map] at e
      have hlt : i.toNat < ns.length := by omega
      refine ⟨_, rfl, _, rfl, a, _, _, V.int (ns[i.toNat]), rfl, rfl, hS, ?_, k _⟩
      have := atI_nat (xs := ns.map V.int) (j := i.toNat) (v := V.int (ns[i.toNat])) (by rw [List.getElem?_map, List.getElem?_eq_getElem hlt]; rfl)
      rw [Int.toNat_of_nonneg h0] at this
      exact this
    · exact k 0
end
end Toy
namespace Toy
open PySem L2 PyProof.Rows
/-- one number, the digits of which are drawn -/
def Rest (H : Hp) (d : Addr) : Prop := ∃ n : Int, H d = some (.lst [.int n])
theorem Rest.new {d p : Addr} {H : Hp} {o : HO} (a : Rest H d) (h : H p = none) : Rest (L2.upd H p o) d := by
  obtain ⟨n, e⟩ := a
  exact ⟨n, by rw [upd_ne (ne_of_none e h)]; exact e⟩
theorem Rest.ne {d p : Addr} {H : Hp} (a : Rest H d) (h : H p = none) : p ≠ d := by
  obtain ⟨n, e⟩ := a
  exact fun z => by rw [z, e] at h; cases h
theorem Rest.same {d : Addr} {H H' : Hp} (a : Rest H d) (s : Same H H') : Rest H' d := let ⟨n, e⟩ := a; ⟨n, s _ _ e⟩
theorem But.tupsR {d : Addr} {H H' : Hp} (b : But d H H') (r : Rest H d) : Tups H H' := fun c xs e => b c _ e fun z => by
  obtain ⟨n, q⟩ := r
  rw [z, q] at e
  cases e
theorem But.same {d : Addr} {H H' : Hp} (s : Same H H') : But d H H' := fun c o e _ => s c o e
theorem But.fr {d p : Addr} {H H' : Hp} (b : But d H H') (h : H' p = none) (n : p ≠ d) : H p = none := by
  cases e : H p with
  | none => rfl
  | some o => rw [b p o e n] at h; cases h
theorem at8 {a0 a1 a2 a3 a4 a5 a6 a7 r : Int} (r0 : 0 ≤ r) (r1 : r < 8) (h : ∀ z ∈ [a0, a1, a2, a3, a4, a5, a6, a7], 0 < z ∧ z < 100000) : ∃ z : Int, atI [V.int a0, V.int a1, V.int a2, V.int a3, V.int a4, V.int a5, V.int a6, V.int a7] r = some (V.int z) ∧ 0 < z ∧ z < 100000 := by
  have hc : r = 0 ∨ r = 1 ∨ r = 2 ∨ r = 3 ∨ r = 4 ∨ r = 5 ∨ r = 6 ∨ r = 7 := by omega
  rcases hc with rfl | rfl | rfl | rfl | rfl | rfl | rfl | rfl
  · exact ⟨a0, rfl, h a0 (by simp)⟩
  · exact ⟨a1, rfl, h a1 (by simp)⟩
  · exact ⟨a2, rfl, h a2 (by simp)⟩
  · exact ⟨a3, rfl, h a3 (by simp)⟩
  · exact ⟨a4, rfl, h a4 (by simp)⟩
  · exact ⟨a5, rfl, h a5 (by simp)⟩
  · exact ⟨a6, rfl, h a6 (by simp)⟩
  · exact ⟨a7, rfl, h a7 (by simp)⟩
section
variable {P : Program} {w : World} {K : PySem.W.Frag} {mg : Str → Option Value} {base : Heap}
abbrev s__law_big : Stmt := top 9
theorem sc__law_big : FnScope ["_law_script", "_law_at", "_law_by", "_law_prime", "_law_cell", "_law_big_here", "_law_k", "_law_one"] ["_law_script", "_law_at"] (defScope s__law_big) := ⟨rfl, rfl, rfl, by decide +kernel, rfl, by decide +kernel, by decide +kernel⟩
def spBig (K : PySem.W.Frag) : Sp := fun vs H Q _ => ∃ (a : Addr) (ns : List Int) (k : Int), vs = [.ref a, .int k] ∧ SqL K H a (ns.map V.int) ∧ 0 ≤ k ∧ ∀ (n : Int) H', Same H H' → Q (.int n) H'
theorem ok_big {f : Addr} {fd : FuncData} (F : Fun K "_law_big" "_law_big" s__law_big f fd) (M : Txt mg) (G_law_cell_at : Kn P w K mg base "_law_cell_at" 1 ["_law_script", "_law_k"] (spCell K)) : FnOk P w K mg base CX0 2 f fd ["_law_script", "_law_at"] (spBig K) := by
  have sc := sc__law_big
  refine F.ok sc (fun vs H Q E h => ?_) (fun cdv A outer s H vs Q E hr h => ?_)
  · obtain ⟨a, ns, k, rfl, _⟩ := h
    rfl
  · obtain ⟨a, ns, i, rfl, hS, h0, k⟩ := h
    refine ⟨_, (pss_cons (ps_set (i := 2) sc.nd rfl (Or.inl rfl) (pe_tup (pa_o4 pe_int pe_int pe_int pe_int (pa_o4 pe_int pe_int pe_int pe_int pa_nil))))
      (pss_cons (ps_set (i := 3) sc.nd rfl (Or.inl rfl) (pe_tup (pa_o4 pe_int pe_int pe_int pe_int (pa_o4 pe_int pe_int pe_int pe_int pa_nil))))
      (pss_cons (ps_set (i := 4) sc.nd rfl (Or.inl rfl) (pe_callD G_law_cell_at hr rfl (pa_Name (pv 0) (pa_Name (pv 1) pa_nil))))
      (pss_cons (ps_if (pt_cmpR op_ge (pv 4) (pe_op op_pow pe_int pe_int) (nomark _)) (pss_one (ps_ret (pv 4))) pss_nil)
      (pss_cons (ps_set (i := 5) sc.nd rfl (Or.inl rfl) pe_int)
      (pss_cons (ps_for PassesOwn.never rfl (pi_range1 rfl M.range (pa_Constant pe_int pa_nil)) (pg_name (i := 6) sc.nd rfl (Or.inl rfl))
      (pss_cons (ps_set (i := 7) sc.nd rfl (Or.inl rfl) (pe_op op_add (pe_op op_add (pe_op op_mod (pe_callD G_law_cell_at hr rfl (pa_Name (pv 0) (pa_BinOp (pe_op op_add (pv 1) (pe_op op_mod (pv 6) pe_int)) pa_nil))) (pe_op op_pow pe_int pe_int)) pe_int) (pe_op op_mul (pv 6) (pv 6))))
      (pss_one (ps_set (i := 5) sc.nd rfl (Or.inl rfl) (pe_op op_add (pe_op op_mul (pv 5) pe_int) (pe_op op_mod (pe_op op_mod (pe_op op_mul (pv 7) (pe_ix (ix_tupK (K := K)) (pv 2) (pe_op op_mod (pv 6) pe_int) (fun _ _ => rfl))) (pe_ix (ix_tupK (K := K)) (pv 3) (pe_op op_mod (pv 6) pe_int) (fun _ _ => rfl))) pe_int))))))
      (pss_one (ps_ret (pv 5))))))))), ?_⟩
    refine ⟨(by show 8 ≤ sizeLine; decide), fun t1 ht1 => ?_⟩
    have s1 := Same.new (o := .tup [.int 48271, .int 69621, .int 16807, .int 39373, .int 21401, .int 60493, .int 87721, .int 31337]) (Same.refl H) ht1
    have h1 : (upd H t1 (.tup [.int 48271, .int 69621, .int 16807, .int 39373, .int 21401, .int 60493, .int 87721, .int 31337])) t1 = some (.tup [.int 48271, .int 69621, .int 16807, .int 39373, .int 21401, .int 60493, .int 87721, .int 31337]) := upd_same
    generalize upd H t1 (.tup [.int 48271, .int 69621, .int 16807, .int 39373, .int 21401, .int 60493, .int 87721, .int 31337]) = H1 at s1 h1 ⊢
    refine ⟨(by show 8 ≤ sizeLine; decide), fun t2 ht2 => ?_⟩
    have s2 := Same.new (o := .tup [.int 99991, .int 99989, .int 99971, .int 99961, .int 99929, .int 99923, .int 99907, .int 99901]) (Same.refl H1) ht2
    have h2 : (upd H1 t2 (.tup [.int 99991, .int 99989, .int 99971, .int 99961, .int 99929, .int 99923, .int 99907, .int 99901])) t2 = some (.tup [.int 99991, .int 99989, .int 99971, .int 99961, .int 99929, .int 99923, .int 99907, .int 99901]) := upd_same
    generalize upd H1 t2 (.tup [.int 99991, .int 99989, .int 99971, .int 99961, .int 99929, .int 99923, .int 99907, .int 99901]) = H2 at s2 h2 ⊢
    have h1' := s2 _ _ h1
    have s02 := s1.trans s2
    refine ⟨_, rfl, _, rfl, a, ns, i, rfl, s02.seq hS, h0, fun cell => ?_⟩
    refine ⟨_, rfl, _, _, rfl, rfl, ⟨by decide, by decide, by decide⟩, _, _, rfl, rfl, _, rfl, ite2 (fun _ => ?_) (fun _ => ?_)⟩
    · exact ⟨_, rfl, k cell H2 s02⟩
    refine ⟨60, rfl, by decide, by decide, for_range (n := 60) (fun j σ H' => ∃ (x6 x7 : Option V) (b : Int), σ = [some (.ref a), some (.int i), some (.ref t1), some (.ref t2), some (.int cell), some (.int b), x6, x7] ∧ H2 = H') ⟨_, _, 0, rfl, rfl⟩ ?_ ?_⟩
    · rintro j σ H' hj ⟨x6, x7, b, rfl, rfl⟩
      have j9 : 0 ≤ (0 + (j : Int)) % 9 := Int.emod_nonneg _ (by decide)
      refine ⟨_, rfl, _, rfl, _, rfl, _, _, rfl, rfl, (by show (0 : Int) < 9; decide), _, _, rfl, rfl, a, ns, _, rfl, s02.seq hS, by omega, fun c2 => ?_⟩
      refine ⟨_, _, rfl, rfl, ⟨by decide, by decide, by decide⟩, _, _, rfl, rfl, (by show (0 : Int) < 10 ^ 18; decide), _, _, rfl, rfl, _, rfl, _, rfl, _, _, rfl, rfl, .inl ⟨by omega, by omega⟩, _, _, rfl, rfl, ?_⟩
      obtain ⟨z1, e1, p1, q1⟩ := at8 (a0 := 48271) (a1 := 69621) (a2 := 16807) (a3 := 39373) (a4 := 21401) (a5 := 60493) (a6 := 87721) (a7 := 31337) (r := (0 + (j : Int)) % 8) (Int.emod_nonneg _ (by decide)) (Int.emod_lt_of_pos _ (by decide)) (by decide)
      obtain ⟨z2, e2, p2, q2⟩ := at8 (a0 := 99991) (a1 := 99989) (a2 := 99971) (a3 := 99961) (a4 := 99929) (a5 := 99923) (a6 := 99907) (a7 := 99901) (r := (0 + (j : Int)) % 8) (Int.emod_nonneg _ (by decide)) (Int.emod_lt_of_pos _ (by decide)) (by decide)
      refine ⟨_, rfl, _, _, rfl, rfl, .inr ⟨by decide, by decide⟩, _, rfl, _, rfl, _, rfl, _, _, rfl, rfl, (by show (0 : Int) < 8; decide), t1, _, _, _, rfl, rfl, SqT.of h1', e1, _, z1, rfl, rfl, .inr ⟨by omega, by omega⟩, _, rfl, _, rfl, _, _, rfl, rfl, (by show (0 : Int) < 8; decide), t2, _, _, _, rfl, rfl, SqT.of h2, e2, _, z2, rfl, rfl, p2, _, _, rfl, rfl, (by show (0 : Int) < 7919; decide), _, _, rfl, rfl, ?_⟩
      exact ⟨_, _, _, rfl, rfl⟩
    · rintro σ H' ⟨x6, x7, b, rfl, rfl⟩
      exact ⟨_, rfl, k b _ s02⟩
abbrev s__law_digit : Stmt := top 10
theorem sc__law_digit : FnScope ["_law_rest", "_law_many", "_law_found"] ["_law_rest", "_law_many"] (defScope s__law_digit) := ⟨rfl, rfl, rfl, by decide +kernel, rfl, by decide +kernel, by decide +kernel⟩
def spDigit : Sp := fun vs H Q _ => ∃ (d : Addr) (m : Int), vs = [.ref d, .int m] ∧ Rest H d ∧ 0 < m ∧ m ≤ 1000 ∧ ∀ (r : Int) (H' : Hp), 0 ≤ r → r < m → Rest H' d → But d H H' → Q (.int r) H'
theorem ok_digit {f : Addr} {fd : FuncData} (F : Fun K "_law_digit" "_law_digit" s__law_digit f fd) (M : Txt mg) : FnOk P w K mg base CX0 1 f fd ["_law_rest", "_law_many"] spDigit := by
  have sc := sc__law_digit
  refine F.ok sc (fun vs H Q E h => ?_) (fun cdv A outer s H vs Q E hr h => ?_)
  · obtain ⟨d, m, rfl, _⟩ := h
    rfl
  · obtain ⟨d, m, rfl, ⟨n, hd⟩, m0, m1, k⟩ := h
    refine ⟨_, (pss_cons (ps_set (i := 2) sc.nd rfl (Or.inl rfl) (pe_op op_mod (pe_ix (ix_listK (K := K)) (pv 0) pe_int (fun _ _ => rfl)) (pv 1)))
      (pss_cons (ps_asg (pe_op op_fdivL (pe_ix (ix_listK (K := K)) (pv 0) pe_int (fun _ _ => rfl)) (pv 1)) (pg_sub (pv 0) pe_int set_list))
      (pss_one (ps_ret (pv 2))))), ?_⟩
    refine ⟨_, rfl, d, _, _, _, rfl, rfl, SqL.of hd, rfl, _, rfl, _, _, rfl, rfl, m0, ?_⟩
    refine ⟨_, rfl, d, _, _, _, rfl, rfl, SqL.of hd, rfl, _, rfl, _, _, rfl, rfl, ⟨m0, log_ok m0 (Int.lt_of_le_of_lt m1 (by decide))⟩, _, rfl, d, _, _, _, rfl, rfl, hd, rfl, ?_⟩
    exact ⟨_, rfl, k _ _ (Int.emod_nonneg _ (by omega)) (Int.emod_lt_of_pos _ m0) ⟨_, upd_same⟩ (But.upd (But.refl _ _))⟩
abbrev s__law_sheet : Stmt := top 11
theorem sc__law_sheet : FnScope ["_law_rest", "_law_many", "_law_pool", "_law_order"] ["_law_rest"] (defScope s__law_sheet) := ⟨rfl, rfl, rfl, by decide +kernel, rfl, by decide +kernel, by decide +kernel⟩
def spSheet : Sp := fun vs H Q _ => ∃ (d : Addr), vs = [.ref d] ∧ Rest H d ∧ ∀ (b : Addr) (xs : List V) (S : List (List Int)) (H' : Hp), H b = none → H' b = some (.lst xs) → TuL H' xs S → ShOk S → Rest H' d → But d H H' → Q (.ref b) H'
theorem ok_sheet {f : Addr} {fd : FuncData} (F : Fun K "_law_sheet" "_law_sheet" s__law_sheet f fd) (M : Txt mg) (G_law_digit : Kn P w K mg base "_law_digit" 1 ["_law_rest", "_law_many"] spDigit) : FnOk P w K mg base CX0 2 f fd ["_law_rest"] spSheet := by
  have sc := sc__law_sheet
  refine F.ok sc (fun vs H Q E h => ?_) (fun cdv A outer s H vs Q E hr h => ?_)
  · obtain ⟨d, rfl, _⟩ := h
    rfl
  · obtain ⟨d, rfl, R0, k⟩ := h
    refine ⟨_, (pss_cons (ps_set (i := 1) sc.nd rfl (Or.inl rfl) (pe_op op_add pe_int (pe_op op_mul pe_int (pe_callD G_law_digit hr rfl (pa_Name (pv 0) (pa_Constant pe_int pa_nil))))))
      (pss_cons (ps_if (pt_cmpR op_eq (pe_callD G_law_digit hr rfl (pa_Name (pv 0) (pa_Constant pe_int pa_nil))) pe_int (nomark _)) (pss_one (ps_set (i := 1) sc.nd rfl (Or.inl rfl) (pe_op op_add pe_int (pe_op op_mul pe_int (pe_callD G_law_digit hr rfl (pa_Name (pv 0) (pa_Constant pe_int pa_nil))))))) pss_nil)
      (pss_cons (ps_set (i := 2) sc.nd rfl (Or.inl rfl) (pe_op op_repR pe_int (pe_callTy (call_list_rng2 rfl) (by rfl) M.list boot_list (pa_Call (pe_callTy call_range2 (by rfl) M.range boot_range (pa_Constant pe_int (pa_BinOp (pe_op op_add (pe_op op_fdivL (pe_op op_mul (pv 1) pe_int) pe_int) pe_int) pa_nil))) pa_nil))))
      (pss_cons (ps_set (i := 3) sc.nd rfl (Or.inr rfl) (pe_lst pa_nil))
      (pss_cons (ps_while PassesOwn.never (pt_cmpR (op_neD hr) (pv 2) (pe_lst pa_nil) (nomark _)) (pss_one (ps_expr (pe_bm PySem.F.plainAttrs_list PySem.F.slot_list_append PySem.F.type_list_append mt_append (pv 3) (pa_BinOp (pe_op op_mul (pe_bm PySem.F.plainAttrs_list PySem.F.slot_list_pop PySem.F.type_list_pop mt_popAt (pv 2) (pa_Call (pe_callD G_law_digit hr rfl (pa_Name (pv 0) (pa_Call (pe_callB (call_lenK (K := K)) (by rfl) M.len PySem.boot_len (pa_Name (pv 2) pa_nil)) pa_nil))) pa_nil)) (pe_op op_sub pe_int (pe_op op_mul pe_int (pe_callD G_law_digit hr rfl (pa_Name (pv 0) (pa_Constant pe_int pa_nil)))))) pa_nil)))))
      (pss_one (ps_ret (pe_compG (xs := ["_law_k"]) (Nb := ["_law_rest", "_law_many", "_law_pool", "_law_order"]) rfl (pi_range1 rfl M.range (pa_Name (pv 1) pa_nil)) rfl (by show ∀ p ∈ (List.zip ["_law_rest", "_law_many", "_law_pool", "_law_order"] ["_law_rest", "_law_many", "_law_pool", "_law_order"] : List (Str × Str)), _; decide +kernel) (by decide +kernel) (fun cl C s₂ H₂ fp => (pg_name (i := 0) (by show List.Nodup (["_law_k", "_law_rest", "_law_many", "_law_pool", "_law_order"] : List Str); decide +kernel) rfl (Or.inl (lookup_relabel_local rfl)) (Or.inr (lookup_relabel_local rfl)))) (fun cl C s₂ H₂ fp => pif_nil) (fun cl C s₂ H₂ fp => (pe_callTy (call_tuple_ofKK (K := K)) (by rfl) M.tuple boot_tuple (pa_Subscript (pe_slice (sl_listK (K := K)) (pv 4) (po_some (pe_op op_mul pe_int (pv 0))) (po_some (pe_op op_add (pe_op op_mul pe_int (pv 0)) pe_int))) pa_nil))) (by decide +kernel) rfl (by decide +kernel) (by show ∀ y ∈ (_ : List (Str × NameKind)), y.2 = NameKind.free → (defScope s__law_sheet).names.lookup y.1 = some .cell; decide +kernel))))))))), ?_⟩
    refine ⟨_, rfl, d, 4, rfl, R0, by decide, by decide, fun r1 H1 r10 r11 R1 B1 => ⟨2, r1, rfl, rfl, .inl ⟨by decide, by decide⟩, 2, 2 * r1, rfl, rfl, ?_⟩⟩
    refine ⟨_, rfl, d, 8, rfl, R1, by decide, by decide, fun r2 H2 _ _ R2 B2 => ⟨rfl, _, rfl, ite2 (fun e => ?_) (fun e => ?_)⟩⟩
    · refine ⟨_, rfl, d, 2, rfl, R2, by decide, by decide, fun r3 H3 r30 r31 R3 B3 => ⟨2, r3, rfl, rfl, .inl ⟨by decide, by decide⟩, 10, 2 * r3, rfl, rfl, ?_⟩⟩
      have B03 := (B1.trans B2).trans B3
      obtain ⟨m, hm, m1, m6⟩ : ∃ m : Nat, (10 + 2 * r3) = 2 * (m : Int) ∧ 1 ≤ m ∧ m ≤ 6 := ⟨(10 + 2 * r3).toNat / 2, by omega, by omega, by omega⟩
      refine ⟨_, rfl, (10 + 2 * r3), 3, rfl, rfl, .inr ⟨by decide, by decide⟩, (10 + 2 * r3) * 3, 2, rfl, rfl, ⟨by decide, by decide⟩, _, _, rfl, rfl, 1, (10 + 2 * r3) * 3 / 2 + 1, rfl, fun p1 hp1 => ⟨p1, 1, (10 + 2 * r3) * 3 / 2 + 1, rfl, upd_same, by decide, by omega, by omega, fun l1 hl1 => ⟨l1, 2, _, rfl, rfl, upd_same, by decide, by decide, ?_, fun pl hpl => ?_⟩⟩⟩
      · rw [List.length_map, upto_len]
        exact Nat.le_trans (show ((10 + 2 * r3) * 3 / 2 + 1 - 1).toNat * (2 : Int).toNat ≤ 1000 by show _ * 2 ≤ 1000; omega) (by decide)
      have e3 : ((10 + 2 * r3) * 3 / 2 + 1 - 1).toNat = 3 * m := by omega
      rw [rep2, e3, ← List.map_append]
      have npd : pl ≠ d := ((R3.new hp1).new hl1).ne hpl
      have plfree : H pl = none := ((B03.new hp1).new hl1).fr hpl npd
      have B4 : But d H (upd (upd (upd H3 p1 (.rng 1 ((10 + 2 * r3) * 3 / 2 + 1))) l1 (.lst ((upto 1 (3 * m)).map V.int))) pl (.lst ((upto 1 (3 * m) ++ upto 1 (3 * m)).map V.int))) := by
        rw [e3] at hpl
        exact ((B03.new hp1).new hl1).new hpl
      have R4 : Rest (upd (upd (upd H3 p1 (.rng 1 ((10 + 2 * r3) * 3 / 2 + 1))) l1 (.lst ((upto 1 (3 * m)).map V.int))) pl (.lst ((upto 1 (3 * m) ++ upto 1 (3 * m)).map V.int))) d := by
        rw [e3] at hpl
        exact ((R3.new hp1).new hl1).new hpl
      have hpl4 : (upd (upd (upd H3 p1 (.rng 1 ((10 + 2 * r3) * 3 / 2 + 1))) l1 (.lst ((upto 1 (3 * m)).map V.int))) pl (.lst ((upto 1 (3 * m) ++ upto 1 (3 * m)).map V.int))) pl = some (.lst ((pool (3 * m)).map V.int)) := upd_same
      generalize upd (upd (upd H3 p1 (.rng 1 ((10 + 2 * r3) * 3 / 2 + 1))) l1 (.lst ((upto 1 (3 * m)).map V.int))) pl (.lst ((upto 1 (3 * m) ++ upto 1 (3 * m)).map V.int)) = H4 at B4 R4 hpl4 ⊢
      refine ⟨(by show 0 ≤ sizeLine; decide), fun od hod => ?_⟩
      have B5 := B4.new (o := .lst []) hod
      have R5 := R4.new (o := .lst []) hod
      have hod5 : (upd H4 od (.lst [])) od = some (.lst (([] : List Int).map V.int)) := upd_same
      have hpl5 : (upd H4 od (.lst [])) pl = some (.lst ((pool (3 * m)).map V.int)) := by rw [upd_ne (ne_of_none hpl4 hod)]; exact hpl4
      have nod : od ≠ d := R4.ne hod
      have odfree : H od = none := B4.fr hod nod
      have npo : pl ≠ od := ne_of_none hpl4 hod
      generalize upd H4 od (.lst []) = H5 at B5 R5 hod5 hpl5 ⊢
      refine while_by (fun σ H' => ∃ (ps os : List Int), σ = [some (.ref d), some (.int (10 + 2 * r3)), some (.ref pl), some (.ref od)] ∧ H' pl = some (.lst (ps.map V.int)) ∧ H' od = some (.lst (os.map V.int)) ∧ (os.map absI ++ ps).Perm (pool (3 * m)) ∧ Rest H' d ∧ But d H H') (fun σ H' => match H' pl with | some (.lst xs) => xs.length | _ => 0) ⟨pool (3 * m), [], rfl, hpl5, hod5, List.Perm.refl _, R5, B5⟩ ?_ (fun σ H Q Q' h hc => by obtain ⟨v, e, z, k⟩ := hc; exact ⟨v, e, z, fun p hp => by obtain ⟨d1, d2, a1, a2, a3, a4, a5, b, eb, q⟩ := k p hp; exact ⟨d1, d2, a1, a2, a3, a4, a5, b, eb, h _ _ q⟩⟩)
      rintro σ H6 ⟨ps, os, rfl, hpl6, hod6, pm, R6, B6⟩
      have len6 : os.length + ps.length = 6 * m := by
        have := pm.length_eq
        rw [List.length_append, List.length_map, pool_len] at this
        omega
      refine ⟨_, rfl, (by show 0 ≤ sizeLine; decide), fun z hz => ?_⟩
      have s7 := Same.new (o := .lst []) (Same.refl H6) hz
      have hz7 : (upd H6 z (.lst [])) z = some (.lst (([] : List Int).map V.int)) := upd_same
      generalize upd H6 z (.lst []) = H7 at s7 hz7 ⊢
      have hpl7 := s7 _ _ hpl6
      have hod7 := s7 _ _ hod6
      have R7 := R6.same s7
      have B7 : But d H H7 := B6.trans (But.same s7)
      refine ⟨_, _, di_lst (SqL.of hpl7), di_lst (SqL.of hz7), lay_dI _, lay_dI _, dep_dI _, _, rfl, ?_⟩
      rw [eqv_dI]
      by_cases pe : ps = []
      · rw [decide_eq_true pe]
        refine iteF ?_
        subst pe
        rw [List.append_nil] at pm
        have ol : os.length = 6 * m := by simpa using len6
        refine ⟨_, rfl, (10 + 2 * r3), rfl, by omega, by omega, compR (lo := 0) (n := (10 + 2 * r3).toNat) (fun i ys H' => TuL H' ys ((List.range i).map fun k => (os.drop (3 * k)).take 3) ∧ Same H7 H') ⟨TuL.nil _, Same.refl H7⟩ (by omega) (fun i ys H' h => by rw [h.1.1, List.length_map, List.length_range]; exact Nat.le_refl _) ?_ ?_⟩
        · rintro i ys H8 pre hpre hi ⟨tz, s8⟩
          rcases pre with _ | ⟨q0, _ | ⟨q1, pre⟩⟩
          · cases hpre
          · refine ⟨⟨[some _], rfl, rfl⟩, ?_⟩
            unfold tYes
            dsimp only
            rw [if_pos (rfl : true = true)]
            refine ⟨_, rfl, _, rfl, 3, (0 + (i : Int)), rfl, rfl, .inl ⟨by decide, by decide⟩, 3 * (0 + (i : Int)), rfl, _, rfl, 3, (0 + (i : Int)), rfl, rfl, .inl ⟨by decide, by decide⟩, _, _, rfl, rfl, 3 * (0 + (i : Int)) + 3, rfl, od, _, rfl, SqL.of (s8 _ _ hod7), fun q hq => ?_⟩
            rw [cut_midL _ (by omega) (by decide) (by rw [List.length_map]; omega)]
            have e4 : (3 * (0 + (i : Int))).toNat = 3 * i := by omega
            rw [e4]
            have e5 : (((os.map V.int).drop (3 * i)).take (3 : Int).toNat) = ((os.drop (3 * i)).take 3).map V.int := by rw [← List.map_drop, ← List.map_take]; rfl
            rw [e5]
            have s9 := Same.new (o := .lst (((os.drop (3 * i)).take 3).map V.int)) (Same.refl H8) hq
            refine ⟨q, _, rfl, .inl ⟨SqL.of upd_same, fun t ht => ?_⟩⟩
            have s10 := Same.new (o := .tup (((os.drop (3 * i)).take 3).map V.int)) s9 ht
            rw [List.range_succ, List.map_append]
            exact ⟨TuL.snoc (TuL.up tz s10.tups) upd_same, s8.trans s10⟩
          · cases hpre
        · rintro ys H8 ⟨tz, s8⟩ D hD
          have s9 := Same.new (o := .lst ys) s8 hD
          have B9 : But d H (upd H8 D (.lst ys)) := B7.trans (But.same s9)
          have nD : D ≠ d := (R7.same s8).ne hD
          have e6 : (10 + 2 * r3).toNat = 2 * m := by omega
          rw [e6] at tz
          exact k D ys _ _ (B7.fr (s8.free hD) nD) upd_same (TuL.up tz (Same.new (o := .lst ys) (Same.refl H8) hD).tups) (sheet_ok m1 m6 pm) (R7.same s9) B9
      · rw [decide_eq_false pe]
        refine iteT ?_
        have psl : 0 < ps.length := List.length_pos_iff.mpr pe
        refine ⟨_, rfl, .inl ⟨rfl, _, SqL.of hod7⟩, _, rfl, .inl ⟨rfl, _, SqL.of hpl7⟩, _, rfl, _, rfl, pl, _, rfl, .inl (SqL.of hpl7), d, ((ps.map V.int).length : Nat), rfl, R7, by rw [List.length_map]; omega, by rw [List.length_map]; omega, fun r1 H8 r10 r11 R8 B8 => ?_⟩
        rw [List.length_map] at r11
        have hpl8 := B8 _ _ hpl7 npd
        have hod8 := B8 _ _ hod7 nod
        obtain ⟨y, hy⟩ : ∃ y, ps[r1.toNat]? = some y := ⟨_, List.getElem?_eq_getElem (by omega)⟩
        have si : seqIndex? r1 (ps.map V.int).length = some r1.toNat := seqIndex_of r10 (by rw [List.length_map]; exact r11)
        refine ⟨pl, _, r1, r1.toNat, V.int y, rfl, rfl, hpl8, by omega, by omega, si, by rw [List.getElem?_map, hy]; rfl, ?_⟩
        rw [map_erase]
        have R9 : Rest (upd H8 pl (.lst ((ps.eraseIdx r1.toNat).map V.int))) d := by
          obtain ⟨n, e⟩ := R8
          exact ⟨n, by rw [upd_ne (Ne.symm npd)]; exact e⟩
        have hod9 : (upd H8 pl (.lst ((ps.eraseIdx r1.toNat).map V.int))) od = some (.lst (os.map V.int)) := by rw [upd_ne (Ne.symm npo)]; exact hod8
        have hpl9 : (upd H8 pl (.lst ((ps.eraseIdx r1.toNat).map V.int))) pl = some (.lst ((ps.eraseIdx r1.toNat).map V.int)) := upd_same
        have B9 : But d H (upd H8 pl (.lst ((ps.eraseIdx r1.toNat).map V.int))) := fun c o e n => by
          by_cases z : c = pl
          · subst z
            rw [plfree] at e
            cases e
          · rw [upd_ne z]
            exact B8 c o (B7 c o e n) n
        generalize upd H8 pl (.lst ((ps.eraseIdx r1.toNat).map V.int)) = H9 at R9 hod9 hpl9 B9 ⊢
        refine ⟨_, rfl, d, 2, rfl, R9, by decide, by decide, fun r2 HA r20 r21 RA BA => ⟨2, r2, rfl, rfl, .inl ⟨by decide, by decide⟩, 1, 2 * r2, rfl, rfl, y, 1 - 2 * r2, rfl, rfl, .inr ⟨by omega, by omega⟩, ?_⟩⟩
        have hodA := BA _ _ hod9 nod
        have hplA := BA _ _ hpl9 npd
        refine ⟨od, _, _, rfl, rfl, hodA, Nat.lt_of_le_of_lt (show (os.map V.int).length ≤ 1000 by rw [List.length_map]; omega) (by decide), ?_⟩
        have my : y ∈ pool (3 * m) := pm.subset (List.mem_append_right _ (List.mem_of_getElem? hy))
        have yb := mem_pool my
        have RB : Rest (upd HA od (.lst (os.map V.int ++ [(fun i j => V.int (i * j)) y (1 - 2 * r2)]))) d := by
          obtain ⟨n, e⟩ := RA
          exact ⟨n, by rw [upd_ne (Ne.symm nod)]; exact e⟩
        have BB' : But d H (upd HA od (.lst (os.map V.int ++ [(fun i j => V.int (i * j)) y (1 - 2 * r2)]))) := fun c o e n => by
          by_cases z : c = od
          · subst z
            rw [odfree] at e
            cases e
          · rw [upd_ne z]
            exact BA c o (B9 c o e n) n
        have hplB : (upd HA od (.lst (os.map V.int ++ [(fun i j => V.int (i * j)) y (1 - 2 * r2)]))) pl = some (.lst ((ps.eraseIdx r1.toNat).map V.int)) := by rw [upd_ne npo]; exact hplA
        refine ⟨⟨ps.eraseIdx r1.toNat, os ++ [y * (1 - 2 * r2)], rfl, hplB, ?_, ?_, RB, BB'⟩, ?_⟩
        · rw [upd_same, List.map_append]
          rfl
        · rw [List.map_append, List.append_assoc]
          refine List.Perm.trans (List.Perm.append_left _ ?_) pm
          show (absI (y * (1 - 2 * r2)) :: ps.eraseIdx r1.toNat).Perm ps
          rw [abs_sign (by omega) r20 r21]
          exact (erase_permK hy).symm
        · dsimp only
          rw [hplB, hpl6]
          dsimp only
          rw [List.length_map, List.length_map]
          have := (erase_permK hy).length_eq
          simp only [List.length_cons] at this
          omega
    · have B02 := B1.trans B2
      obtain ⟨m, hm, m1, m6⟩ : ∃ m : Nat, (2 + 2 * r1) = 2 * (m : Int) ∧ 1 ≤ m ∧ m ≤ 6 := ⟨(2 + 2 * r1).toNat / 2, by omega, by omega, by omega⟩
      refine ⟨_, rfl, (2 + 2 * r1), 3, rfl, rfl, .inr ⟨by decide, by decide⟩, (2 + 2 * r1) * 3, 2, rfl, rfl, ⟨by decide, by decide⟩, _, _, rfl, rfl, 1, (2 + 2 * r1) * 3 / 2 + 1, rfl, fun p1 hp1 => ⟨p1, 1, (2 + 2 * r1) * 3 / 2 + 1, rfl, upd_same, by decide, by omega, by omega, fun l1 hl1 => ⟨l1, 2, _, rfl, rfl, upd_same, by decide, by decide, ?_, fun pl hpl => ?_⟩⟩⟩
      · rw [List.length_map, upto_len]
        exact Nat.le_trans (show ((2 + 2 * r1) * 3 / 2 + 1 - 1).toNat * (2 : Int).toNat ≤ 1000 by show _ * 2 ≤ 1000; omega) (by decide)
      have e3 : ((2 + 2 * r1) * 3 / 2 + 1 - 1).toNat = 3 * m := by omega
      rw [rep2, e3, ← List.map_append]
      have npd : pl ≠ d := ((R2.new hp1).new hl1).ne hpl
      have plfree : H pl = none := ((B02.new hp1).new hl1).fr hpl npd
      have B4 : But d H (upd (upd (upd H2 p1 (.rng 1 ((2 + 2 * r1) * 3 / 2 + 1))) l1 (.lst ((upto 1 (3 * m)).map V.int))) pl (.lst ((upto 1 (3 * m) ++ upto 1 (3 * m)).map V.int))) := by
        rw [e3] at hpl
        exact ((B02.new hp1).new hl1).new hpl
      have R4 : Rest (upd (upd (upd H2 p1 (.rng 1 ((2 + 2 * r1) * 3 / 2 + 1))) l1 (.lst ((upto 1 (3 * m)).map V.int))) pl (.lst ((upto 1 (3 * m) ++ upto 1 (3 * m)).map V.int))) d := by
        rw [e3] at hpl
        exact ((R2.new hp1).new hl1).new hpl
      have hpl4 : (upd (upd (upd H2 p1 (.rng 1 ((2 + 2 * r1) * 3 / 2 + 1))) l1 (.lst ((upto 1 (3 * m)).map V.int))) pl (.lst ((upto 1 (3 * m) ++ upto 1 (3 * m)).map V.int))) pl = some (.lst ((pool (3 * m)).map V.int)) := upd_same
      generalize upd (upd (upd H2 p1 (.rng 1 ((2 + 2 * r1) * 3 / 2 + 1))) l1 (.lst ((upto 1 (3 * m)).map V.int))) pl (.lst ((upto 1 (3 * m) ++ upto 1 (3 * m)).map V.int)) = H4 at B4 R4 hpl4 ⊢
      refine ⟨(by show 0 ≤ sizeLine; decide), fun od hod => ?_⟩
      have B5 := B4.new (o := .lst []) hod
      have R5 := R4.new (o := .lst []) hod
      have hod5 : (upd H4 od (.lst [])) od = some (.lst (([] : List Int).map V.int)) := upd_same
      have hpl5 : (upd H4 od (.lst [])) pl = some (.lst ((pool (3 * m)).map V.int)) := by rw [upd_ne (ne_of_none hpl4 hod)]; exact hpl4
      have nod : od ≠ d := R4.ne hod
      have odfree : H od = none := B4.fr hod nod
      have npo : pl ≠ od := ne_of_none hpl4 hod
      generalize upd H4 od (.lst []) = H5 at B5 R5 hod5 hpl5 ⊢
      refine while_by (fun σ H' => ∃ (ps os : List Int), σ = [some (.ref d), some (.int (2 + 2 * r1)), some (.ref pl), some (.ref od)] ∧ H' pl = some (.lst (ps.map V.int)) ∧ H' od = some (.lst (os.map V.int)) ∧ (os.map absI ++ ps).Perm (pool (3 * m)) ∧ Rest H' d ∧ But d H H') (fun σ H' => match H' pl with | some (.lst xs) => xs.length | _ => 0) ⟨pool (3 * m), [], rfl, hpl5, hod5, List.Perm.refl _, R5, B5⟩ ?_ (fun σ H Q Q' h hc => by obtain ⟨v, e, z, k⟩ := hc; exact ⟨v, e, z, fun p hp => by obtain ⟨d1, d2, a1, a2, a3, a4, a5, b, eb, q⟩ := k p hp; exact ⟨d1, d2, a1, a2, a3, a4, a5, b, eb, h _ _ q⟩⟩)
      rintro σ H6 ⟨ps, os, rfl, hpl6, hod6, pm, R6, B6⟩
      have len6 : os.length + ps.length = 6 * m := by
        have := pm.length_eq
        rw [List.length_append, List.length_map, pool_len] at this
        omega
      refine ⟨_, rfl, (by show 0 ≤ sizeLine; decide), fun z hz => ?_⟩
      have s7 := Same.new (o := .lst []) (Same.refl H6) hz
      have hz7 : (upd H6 z (.lst [])) z = some (.lst (([] : List Int).map V.int)) := upd_same
      generalize upd H6 z (.lst []) = H7 at s7 hz7 ⊢
      have hpl7 := s7 _ _ hpl6
      have hod7 := s7 _ _ hod6
      have R7 := R6.same s7
      have B7 : But d H H7 := B6.trans (But.same s7)
      refine ⟨_, _, di_lst (SqL.of hpl7), di_lst (SqL.of hz7), lay_dI _, lay_dI _, dep_dI _, _, rfl, ?_⟩
      rw [eqv_dI]
      by_cases pe : ps = []
      · rw [decide_eq_true pe]
        refine iteF ?_
        subst pe
        rw [List.append_nil] at pm
        have ol : os.length = 6 * m := by simpa using len6
        refine ⟨_, rfl, (2 + 2 * r1), rfl, by omega, by omega, compR (lo := 0) (n := (2 + 2 * r1).toNat) (fun i ys H' => TuL H' ys ((List.range i).map fun k => (os.drop (3 * k)).take 3) ∧ Same H7 H') ⟨TuL.nil _, Same.refl H7⟩ (by omega) (fun i ys H' h => by rw [h.1.1, List.length_map, List.length_range]; exact Nat.le_refl _) ?_ ?_⟩
        · rintro i ys H8 pre hpre hi ⟨tz, s8⟩
          rcases pre with _ | ⟨q0, _ | ⟨q1, pre⟩⟩
          · cases hpre
          · refine ⟨⟨[some _], rfl, rfl⟩, ?_⟩
            unfold tYes
            dsimp only
            rw [if_pos (rfl : true = true)]
            refine ⟨_, rfl, _, rfl, 3, (0 + (i : Int)), rfl, rfl, .inl ⟨by decide, by decide⟩, 3 * (0 + (i : Int)), rfl, _, rfl, 3, (0 + (i : Int)), rfl, rfl, .inl ⟨by decide, by decide⟩, _, _, rfl, rfl, 3 * (0 + (i : Int)) + 3, rfl, od, _, rfl, SqL.of (s8 _ _ hod7), fun q hq => ?_⟩
            rw [cut_midL _ (by omega) (by decide) (by rw [List.length_map]; omega)]
            have e4 : (3 * (0 + (i : Int))).toNat = 3 * i := by omega
            rw [e4]
            have e5 : (((os.map V.int).drop (3 * i)).take (3 : Int).toNat) = ((os.drop (3 * i)).take 3).map V.int := by rw [← List.map_drop, ← List.map_take]; rfl
            rw [e5]
            have s9 := Same.new (o := .lst (((os.drop (3 * i)).take 3).map V.int)) (Same.refl H8) hq
            refine ⟨q, _, rfl, .inl ⟨SqL.of upd_same, fun t ht => ?_⟩⟩
            have s10 := Same.new (o := .tup (((os.drop (3 * i)).take 3).map V.int)) s9 ht
            rw [List.range_succ, List.map_append]
            exact ⟨TuL.snoc (TuL.up tz s10.tups) upd_same, s8.trans s10⟩
          · cases hpre
        · rintro ys H8 ⟨tz, s8⟩ D hD
          have s9 := Same.new (o := .lst ys) s8 hD
          have B9 : But d H (upd H8 D (.lst ys)) := B7.trans (But.same s9)
          have nD : D ≠ d := (R7.same s8).ne hD
          have e6 : (2 + 2 * r1).toNat = 2 * m := by omega
          rw [e6] at tz
          exact k D ys _ _ (B7.fr (s8.free hD) nD) upd_same (TuL.up tz (Same.new (o := .lst ys) (Same.refl H8) hD).tups) (sheet_ok m1 m6 pm) (R7.same s9) B9
      · rw [decide_eq_false pe]
        refine iteT ?_
        have psl : 0 < ps.length := List.length_pos_iff.mpr pe
        refine ⟨_, rfl, .inl ⟨rfl, _, SqL.of hod7⟩, _, rfl, .inl ⟨rfl, _, SqL.of hpl7⟩, _, rfl, _, rfl, pl, _, rfl, .inl (SqL.of hpl7), d, ((ps.map V.int).length : Nat), rfl, R7, by rw [List.length_map]; omega, by rw [List.length_map]; omega, fun r1 H8 r10 r11 R8 B8 => ?_⟩
        rw [List.length_map] at r11
        have hpl8 := B8 _ _ hpl7 npd
        have hod8 := B8 _ _ hod7 nod
        obtain ⟨y, hy⟩ : ∃ y, ps[r1.toNat]? = some y := ⟨_, List.getElem?_eq_getElem (by omega)⟩
        have si : seqIndex? r1 (ps.map V.int).length = some r1.toNat := seqIndex_of r10 (by rw [List.length_map]; exact r11)
        refine ⟨pl, _, r1, r1.toNat, V.int y, rfl, rfl, hpl8, by omega, by omega, si, by rw [List.getElem?_map, hy]; rfl, ?_⟩
        rw [map_erase]
        have R9 : Rest (upd H8 pl (.lst ((ps.eraseIdx r1.toNat).map V.int))) d := by
          obtain ⟨n, e⟩ := R8
          exact ⟨n, by rw [upd_ne (Ne.symm npd)]; exact e⟩
        have hod9 : (upd H8 pl (.lst ((ps.eraseIdx r1.toNat).map V.int))) od = some (.lst (os.map V.int)) := by rw [upd_ne (Ne.symm npo)]; exact hod8
        have hpl9 : (upd H8 pl (.lst ((ps.eraseIdx r1.toNat).map V.int))) pl = some (.lst ((ps.eraseIdx r1.toNat).map V.int)) := upd_same
        have B9 : But d H (upd H8 pl (.lst ((ps.eraseIdx r1.toNat).map V.int))) := fun c o e n => by
          by_cases z : c = pl
          · subst z
            rw [plfree] at e
            cases e
          · rw [upd_ne z]
            exact B8 c o (B7 c o e n) n
        generalize upd H8 pl (.lst ((ps.eraseIdx r1.toNat).map V.int)) = H9 at R9 hod9 hpl9 B9 ⊢
        refine ⟨_, rfl, d, 2, rfl, R9, by decide, by decide, fun r2 HA r20 r21 RA BA => ⟨2, r2, rfl, rfl, .inl ⟨by decide, by decide⟩, 1, 2 * r2, rfl, rfl, y, 1 - 2 * r2, rfl, rfl, .inr ⟨by omega, by omega⟩, ?_⟩⟩
        have hodA := BA _ _ hod9 nod
        have hplA := BA _ _ hpl9 npd
        refine ⟨od, _, _, rfl, rfl, hodA, Nat.lt_of_le_of_lt (show (os.map V.int).length ≤ 1000 by rw [List.length_map]; omega) (by decide), ?_⟩
        have my : y ∈ pool (3 * m) := pm.subset (List.mem_append_right _ (List.mem_of_getElem? hy))
        have yb := mem_pool my
        have RB : Rest (upd HA od (.lst (os.map V.int ++ [(fun i j => V.int (i * j)) y (1 - 2 * r2)]))) d := by
          obtain ⟨n, e⟩ := RA
          exact ⟨n, by rw [upd_ne (Ne.symm nod)]; exact e⟩
        have BB' : But d H (upd HA od (.lst (os.map V.int ++ [(fun i j => V.int (i * j)) y (1 - 2 * r2)]))) := fun c o e n => by
          by_cases z : c = od
          · subst z
            rw [odfree] at e
            cases e
          · rw [upd_ne z]
            exact BA c o (B9 c o e n) n
        have hplB : (upd HA od (.lst (os.map V.int ++ [(fun i j => V.int (i * j)) y (1 - 2 * r2)]))) pl = some (.lst ((ps.eraseIdx r1.toNat).map V.int)) := by rw [upd_ne npo]; exact hplA
        refine ⟨⟨ps.eraseIdx r1.toNat, os ++ [y * (1 - 2 * r2)], rfl, hplB, ?_, ?_, RB, BB'⟩, ?_⟩
        · rw [upd_same, List.map_append]
          rfl
        · rw [List.map_append, List.append_assoc]
          refine List.Perm.trans (List.Perm.append_left _ ?_) pm
          show (absI (y * (1 - 2 * r2)) :: ps.eraseIdx r1.toNat).Perm ps
          rw [abs_sign (by omega) r20 r21]
          exact (erase_permK hy).symm
        · dsimp only
          rw [hplB, hpl6]
          dsimp only
          rw [List.length_map, List.length_map]
          have := (erase_permK hy).length_eq
          simp only [List.length_cons] at this
          omega
end
end Toy

set_option Elab.async false
set_option linter.all false
set_option maxRecDepth 100000
set_option maxHeartbeats 1000000
/-
  len : mg "len" = none
  range : mg "range" = none
  min : mg "min" = none
  max : mg "max" = none
  isinstance : mg "isinstance" = none
  bool : mg "bool" = none
  int : mg "int" = none
  tuple : mg "tuple" = none
  list : mg "list" = none
  str : mg "str" = none
  all : mg "all" = none
  sum : mg "sum" = none
  sorted : mg "sorted" = none
-/
namespace Toy
open PySem L2 PyProof.Rows
structure Gb (mg : Str → Option Value) : Prop where
  ab : mg "abs" = none
  rp : mg "repr" = none
  mt : ∃ t, mg "MOST_TRIANGLES" = some (.int 12 t)
theorem Same.own {p : Addr} {H H' : Hp} {o : HO} (a : Same H H') (h : H p = none) : Same H (L2.upd H' p o) := fun c u e => by
  rw [upd_ne (ne_of_none e h)]; exact a c u e
theorem sort_uni : ∀ {a b : List Int}, a.Perm b → a.Pairwise (· ≤ ·) → b.Pairwise (· ≤ ·) → a = b
  | [], b, p, _, _ => p.nil_eq
  | x :: a, [], p, _, _ => absurd p.length_eq (by simp)
  | x :: a, y :: b, p, h1, h2 => by
    obtain ⟨u1, u2⟩ := List.pairwise_cons.mp h1
    obtain ⟨v1, v2⟩ := List.pairwise_cons.mp h2
    have e : x = y := by
      have m1 : x ∈ y :: b := p.subset List.mem_cons_self
      have m2 : y ∈ x :: a := p.symm.subset List.mem_cons_self
      rcases List.mem_cons.mp m1 with q | q
      · exact q
      rcases List.mem_cons.mp m2 with r | r
      · exact r.symm
      have := u1 y r
      have := v1 x q
      omega
    subst e
    rw [sort_uni p.cons_inv u2 v2]
theorem in_evens {a b : Nat} (h : a = b) : inV (V.int (a : Int)) [.int 2, .int 4, .int 6, .int 8, .int 10, .int 12] = decide (2 ≤ b ∧ b ≤ 12 ∧ b % 2 = 0) := by
  subst h
  have e : inV (V.int (a : Int)) [.int 2, .int 4, .int 6, .int 8, .int 10, .int 12] = (eqV (.int 2) (.int (a : Int)) || (eqV (.int 4) (.int (a : Int)) || (eqV (.int 6) (.int (a : Int)) || (eqV (.int 8) (.int (a : Int)) || (eqV (.int 10) (.int (a : Int)) || (eqV (.int 12) (.int (a : Int)) || false)))))) := rfl
  rw [e]
  have q : ∀ i : Int, eqV (.int i) (.int (a : Int)) = decide (i = (a : Int)) := fun i => by
    first | rfl | (show (i == (a : Int)) = _; by_cases z : i = (a : Int) <;> simp [z])
  rw [q, q, q, q, q, q]
  by_cases z : 2 ≤ a ∧ a ≤ 12 ∧ a % 2 = 0
  · rw [decide_eq_true z]
    have : a = 2 ∨ a = 4 ∨ a = 6 ∨ a = 8 ∨ a = 10 ∨ a = 12 := by omega
    rcases this with rfl | rfl | rfl | rfl | rfl | rfl <;> rfl
  · rw [decide_eq_false z]
    rw [decide_eq_false (by omega), decide_eq_false (by omega), decide_eq_false (by omega), decide_eq_false (by omega), decide_eq_false (by omega), decide_eq_false (by omega)]
    rfl
section
variable {P : Program} {w : World} {K : PySem.W.Frag} {mg : Str → Option Value} {base : Heap}
abbrev s_is_whole : Stmt := top 1
theorem sc_is_whole : FnScope ["thing"] ["thing"] (defScope s_is_whole) := ⟨rfl, rfl, rfl, by decide +kernel, rfl, by decide +kernel, by decide +kernel⟩
def spWhole : Sp := fun vs H Q _ => ∃ x d, vs = [x] ∧ Th H x d ∧ Q (.bl (wholeD d)) H
theorem ok_whole {f : Addr} {fd : FuncData} (F : Fun K "is_whole" "is_whole" s_is_whole f fd) (M : Txt mg) : FnOk P w K mg base CX0 1 f fd ["thing"] spWhole := by
  have sc := sc_is_whole
  refine F.ok sc (fun vs H Q E h => ?_) (fun cdv A outer s H vs Q E hr h => ?_)
  · obtain ⟨x, d, rfl, _⟩ := h
    rfl
  · obtain ⟨x, d, rfl, t, k⟩ := h
    refine ⟨_, (pss_one (ps_ret (pe_and (pe_callB (call_isinstK (T := "int") (K := K)) (by rfl) M.isinstance boot_isinstance (pa_Name (pv 0) (pa_Name (pe_bltn (v := .ty "int") rfl M.int boot_int rfl) pa_nil))) (pe_one (pe_not (pe_callB (call_isinstK (T := "bool") (K := K)) (by rfl) M.isinstance boot_isinstance (pa_Name (pv 0) (pa_Name (pe_bltn (v := .ty "bool") rfl M.bool boot_bool rfl) pa_nil)))))))), ?_⟩
    rw [whole_ib] at k
    refine ⟨_, rfl, x, _, _, rfl, t.ty, kit_int d, _, rfl, ?_⟩
    cases hi : isInt d with
    | false => rw [hi] at k; exact iteF k
    | true => rw [hi] at k; exact iteT ⟨_, rfl, x, _, _, rfl, t.ty, kit_bool d, _, rfl, k⟩
abbrev s_is_triangle : Stmt := top 4
theorem sc_is_triangle : FnScope ["thing"] ["thing"] (defScope s_is_triangle) := ⟨rfl, rfl, rfl, by decide +kernel, rfl, by decide +kernel, by decide +kernel⟩
def spTri : Sp := fun vs H Q _ => ∃ x d, vs = [x] ∧ Th H x d ∧ ∀ H', Same H H' → Q (.bl (isTri d)) H'
theorem ok_tri {f : Addr} {fd : FuncData} (F : Fun K "is_triangle" "is_triangle" s_is_triangle f fd) (M : Txt mg) (Gis_whole : Kn P w K mg base "is_whole" 1 ["thing"] spWhole) : FnOk P w K mg base CX0 2 f fd ["thing"] spTri := by
  have sc := sc_is_triangle
  refine F.ok sc (fun vs H Q E h => ?_) (fun cdv A outer s H vs Q E hr h => ?_)
  · obtain ⟨x, d, rfl, _⟩ := h
    rfl
  · obtain ⟨x, d, rfl, t, k⟩ := h
    refine ⟨_, (pss_one (ps_ret (pe_and (pe_callB (call_isinstK (T := "tuple") (K := K)) (by rfl) M.isinstance boot_isinstance (pa_Name (pv 0) (pa_Name (pe_bltn (v := .ty "tuple") rfl M.tuple boot_tuple rfl) pa_nil))) (pe_and (pe_cmpR op_eq (pe_callB (call_lenK (K := K)) (by rfl) M.len PySem.boot_len (pa_Name (pv 0) pa_nil)) pe_int (nomark _)) (pe_one (pe_callB (call_all rfl) (by rfl) M.all boot_all (pa_cons (pe_compG (xs := ["side"]) (Nb := ["thing"]) rfl (pi_tup (pv 0)) rfl (by show ∀ p ∈ (List.zip ["thing"] ["thing"] : List (Str × Str)), _; decide +kernel) (by decide +kernel) (fun cl C s₂ H₂ fp => (pg_name (i := 0) (by show List.Nodup (["side", "thing"] : List Str); decide +kernel) rfl (Or.inl (lookup_relabel_local rfl)) (Or.inr (lookup_relabel_local rfl)))) (fun cl C s₂ H₂ fp => pif_nil) (fun cl C s₂ H₂ fp => (pe_callD Gis_whole hr rfl (pa_Name (pv 0) pa_nil))) (by decide +kernel) rfl (by decide +kernel) (by show ∀ y ∈ (_ : List (Str × NameKind)), y.2 = NameKind.free → (defScope s_is_triangle).names.lookup y.1 = some .cell; decide +kernel)) pa_nil))))))), ?_⟩
    refine ⟨_, rfl, x, _, _, rfl, t.ty, kit_tup d, _, rfl, ?_⟩
    cases ht : isTup d with
    | false =>
      rw [isTri_not ht] at k
      exact iteF (k H (Same.refl H))
    | true =>
      refine iteT ?_
      obtain ⟨p, ds, xs, rfl, rfl, hp, tl⟩ := tup_parts t ht
      refine ⟨_, rfl, p, _, rfl, .inr (SqT.of hp), rfl, _, rfl, ?_⟩
      have eb : isTri (.tuple ds) = (decide (ds.length = 3) && ds.all wholeD) := rfl
      rw [eb] at k
      by_cases h3 : ds.length = 3
      · have ev : decide (V.int ((xs.length : Nat) : Int) = V.int 3) = true := by rw [tl.1, h3]; rfl
        rw [ev]
        refine iteT ?_
        rw [decide_eq_true h3, Bool.true_and] at k
        have xl : xs.length = 3 := by rw [tl.1]; exact h3
        refine ⟨_, rfl, p, rfl, ⟨_, SqT.of hp⟩, compT (K := K) (a := p) (xs := xs) (fun i ys H' => ys = ((ds.take i).map wholeD).map V.bl ∧ H = H') ⟨rfl, rfl⟩ (by omega) (fun n ys H' h => by rw [h.1, List.length_map, List.length_map, List.length_take]; exact Nat.min_le_left _ _) (fun n ys H' _ h => by rw [← h.2]; exact SqT.of hp) ?_ ?_⟩
        · rintro n y ys' H' pre hpl hx ⟨rfl, rfl⟩
          obtain ⟨dn, hdn, tn⟩ := thl_at tl hx
          rcases pre with _ | ⟨q0, _ | ⟨q1, pre⟩⟩
          · cases hpl
          · refine ⟨⟨[some _], rfl, rfl⟩, ?_⟩
            unfold tYes
            dsimp only
            rw [if_pos (rfl : true = true)]
            refine ⟨_, rfl, y, dn, rfl, tn, ?_, rfl⟩
            rw [take_succ' hdn, List.map_append, List.map_append]
            rfl
          · cases hpl
        · rintro ys' H' ⟨rfl, rfl⟩ D hD
          refine ⟨D, (ds.take xs.length).map wholeD, rfl, SqL.of upd_same, ?_⟩
          rw [List.take_of_length_le (by rw [tl.1]; exact Nat.le_refl _), List.all_map]
          exact k _ (Same.new (Same.refl H) hD)
      · have ev : decide (V.int ((xs.length : Nat) : Int) = V.int 3) = false := decide_eq_false fun q => h3 (by have := V.int.inj q; rw [← tl.1]; omega)
        rw [ev]
        refine iteF ?_
        rw [decide_eq_false h3, Bool.false_and] at k
        exact k H (Same.refl H)
abbrev s_many_ties : Stmt := top 5
theorem sc_many_ties : FnScope ["sheet"] ["sheet"] (defScope s_many_ties) := ⟨rfl, rfl, rfl, by decide +kernel, rfl, by decide +kernel, by decide +kernel⟩
def spTies (K : PySem.W.Frag) : Sp := fun vs H Q _ => ∃ (a : Addr) (xs : List V), vs = [.ref a] ∧ SqL K H a xs ∧ Q (.int ((xs.length / 2 * 3 : Nat) : Int)) H
theorem ok_ties {f : Addr} {fd : FuncData} (F : Fun K "many_ties" "many_ties" s_many_ties f fd) (M : Txt mg) : FnOk P w K mg base CX0 1 f fd ["sheet"] (spTies K) := by
  have sc := sc_many_ties
  refine F.ok sc (fun vs H Q E h => ?_) (fun cdv A outer s H vs Q E hr h => ?_)
  · obtain ⟨a, xs, rfl, _⟩ := h
    rfl
  · obtain ⟨a, xs, rfl, ha, k⟩ := h
    refine ⟨_, (pss_one (ps_ret (pe_op op_mul (pe_op op_fdivL (pe_callB (call_lenK (K := K)) (by rfl) M.len PySem.boot_len (pa_Name (pv 0) pa_nil)) pe_int) pe_int))), ?_⟩
    refine ⟨_, rfl, a, _, rfl, .inl ha, _, _, rfl, rfl, ⟨by decide, by decide⟩, ((xs.length : Nat) : Int) / 2, 3, rfl, rfl, .inr ⟨by decide, by decide⟩, ?_⟩
    have e : ((xs.length : Nat) : Int) / 2 * 3 = ((xs.length / 2 * 3 : Nat) : Int) := by omega
    show Q (V.int (((xs.length : Nat) : Int) / 2 * 3)) H
    rw [e]
    exact k
abbrev s_is_sheet : Stmt := top 6
theorem sc_is_sheet : FnScope ["thing", "ties"] ["thing"] (defScope s_is_sheet) := ⟨rfl, rfl, rfl, by decide +kernel, rfl, by decide +kernel, by decide +kernel⟩
def spIsS : Sp := fun vs H Q _ => ∃ x d, vs = [x] ∧ Th H x d ∧ ∀ H', Same H H' → Q (.bl (isS d)) H'
theorem ok_issheet {f : Addr} {fd : FuncData} (F : Fun K "is_sheet" "is_sheet" s_is_sheet f fd) (M : Txt mg) (Gis_triangle : Kn P w K mg base "is_triangle" 2 ["thing"] spTri) (Gmany_ties : Kn P w K mg base "many_ties" 1 ["sheet"] (spTies K)) (B : Gb mg) : FnOk P w K mg base CX0 3 f fd ["thing"] spIsS := by
  have sc := sc_is_sheet
  refine F.ok sc (fun vs H Q E h => ?_) (fun cdv A outer s H vs Q E hr h => ?_)
  · obtain ⟨x, d, rfl, _⟩ := h
    rfl
  · obtain ⟨x, d, rfl, t, k⟩ := h
    obtain ⟨_, hmt⟩ := B.mt
    refine ⟨_, (pss_cons (ps_if (PW.pt (pw_or (pt_not (pt_val (pe_callB (call_isinstK (T := "list") (K := K)) (by rfl) M.isinstance boot_isinstance (pa_Name (pv 0) (pa_Name (pe_bltn (v := .ty "list") rfl M.list boot_list rfl) pa_nil))))) (pw_or (pt_not (pt_chain op_le op_le pe_int (pe_callB (call_lenK (K := K)) (by rfl) M.len PySem.boot_len (pa_Name (pv 0) pa_nil)) (pe_glob (v := .int 12) rfl hmt ⟨_, rfl⟩))) (pw_or1 (pt_cmpR op_eq (pe_op op_mod (pe_callB (call_lenK (K := K)) (by rfl) M.len PySem.boot_len (pa_Name (pv 0) pa_nil)) pe_int) pe_int (nomark _)))))) (pss_one (ps_ret pe_bl)) pss_nil)
      (pss_cons (ps_if (pt_not (pt_val (pe_callB (call_all rfl) (by rfl) M.all boot_all (pa_cons (pe_compG (xs := ["triangle"]) (Nb := ["thing", "ties"]) rfl (pi_list (pv 0)) rfl (by show ∀ p ∈ (List.zip ["thing", "ties"] ["thing", "ties"] : List (Str × Str)), _; decide +kernel) (by decide +kernel) (fun cl C s₂ H₂ fp => (pg_name (i := 0) (by show List.Nodup (["triangle", "thing", "ties"] : List Str); decide +kernel) rfl (Or.inl (lookup_relabel_local rfl)) (Or.inr (lookup_relabel_local rfl)))) (fun cl C s₂ H₂ fp => pif_nil) (fun cl C s₂ H₂ fp => (pe_callD Gis_triangle hr rfl (pa_Name (pv 0) pa_nil))) (by decide +kernel) rfl (by decide +kernel) (by show ∀ y ∈ (_ : List (Str × NameKind)), y.2 = NameKind.free → (defScope s_is_sheet).names.lookup y.1 = some .cell; decide +kernel)) pa_nil)))) (pss_one (ps_ret pe_bl)) pss_nil)
      (pss_cons (ps_set (i := 1) sc.nd rfl (Or.inl rfl) (pe_callB call_sorted (by rfl) M.sorted boot_sorted (pa_cons (pe_comp2 (xs := ["triangle", "side"]) (Nb := ["thing", "ties"]) rfl (pi_list (pv 0)) rfl (by show ∀ p ∈ (List.zip ["thing", "ties"] ["thing", "ties"] : List (Str × Str)), _; decide +kernel) (by decide +kernel) (fun cl C s₂ H₂ fp => (pg_name (i := 0) (by show List.Nodup (["triangle", "side", "thing", "ties"] : List Str); decide +kernel) rfl (Or.inl (lookup_relabel_local rfl)) (Or.inr (lookup_relabel_local rfl)))) (fun cl C s₂ H₂ fp => pif_nil) (fun cl C s₂ H₂ fp => (pi_tupK (K := K) (pv 0))) (fun cl C s₂ H₂ fp => (pg_name (i := 1) (by show List.Nodup (["triangle", "side", "thing", "ties"] : List Str); decide +kernel) rfl (Or.inl (lookup_relabel_local rfl)) (Or.inr (lookup_relabel_local rfl)))) (fun cl C s₂ H₂ fp => pif_nil) (fun cl C s₂ H₂ fp => (pe_callB call_abs (by rfl) B.ab boot_abs (pa_Name (pv 1) pa_nil))) (by decide +kernel) rfl (by decide +kernel) (by show ∀ y ∈ (_ : List (Str × NameKind)), y.2 = NameKind.free → (defScope s_is_sheet).names.lookup y.1 = some .cell; decide +kernel)) pa_nil)))
      (pss_one (ps_ret (pe_cmpR (op_eqD hr) (pv 1) (pe_callB call_sorted (by rfl) M.sorted boot_sorted (pa_BinOp (pe_op op_rep (pe_callTy (call_list_rng2 rfl) (by rfl) M.list boot_list (pa_Call (pe_callTy call_range2 (by rfl) M.range boot_range (pa_Constant pe_int (pa_BinOp (pe_op op_add (pe_callD Gmany_ties hr rfl (pa_Name (pv 0) pa_nil)) pe_int) pa_nil))) pa_nil)) pe_int) pa_nil)) (nomark _))))))), ?_⟩
    refine ⟨_, rfl, x, _, _, rfl, t.ty, kit_lst d, _, rfl, ?_⟩
    cases ht : isLst d with
    | false =>
      rw [isS_not ht] at k
      exact iteT (iteT (k H (Same.refl H)))
    | true =>
      refine iteF ?_
      obtain ⟨p, ds, xs, rfl, rfl, hp, tl⟩ := lst_parts t ht
      have lx := tl.1
      have kf : ¬ (2 ≤ ds.length ∧ ds.length ≤ 12 ∧ ds.length % 2 = 0) → ∀ H', Same H H' → Q (.bl false) H' := fun z H' s' => by
        have := k H' s'
        rw [isS_len z] at this
        exact this
      refine ⟨_, rfl, p, _, rfl, .inl (SqL.of hp), _, _, rfl, rfl, _, rfl, ?_⟩
      by_cases l2 : (2 : Int) ≤ ((xs.length : Nat) : Int)
      rotate_left
      · rw [decide_eq_false l2]
        exact iteF ⟨_, rfl, iteT (iteT (kf (by omega) H (Same.refl H)))⟩
      rw [decide_eq_true l2]
      refine iteT ⟨_, _, rfl, rfl, _, rfl, ?_⟩
      by_cases l12 : ((xs.length : Nat) : Int) ≤ 12
      rotate_left
      · rw [decide_eq_false l12]
        exact iteT (iteT (kf (by omega) H (Same.refl H)))
      rw [decide_eq_true l12]
      refine iteF ?_
      refine ⟨_, rfl, p, _, rfl, .inl (SqL.of hp), _, _, rfl, rfl, (by show (0 : Int) < 2; decide), rfl, _, rfl, ?_⟩
      by_cases lo : ((xs.length : Nat) : Int) % 2 = 1
      · have ev : decide ((fun i j => V.int (i % j)) ((xs.length : Nat) : Int) 2 = V.int 1) = true := decide_eq_true (by show V.int (((xs.length : Nat) : Int) % 2) = V.int 1; rw [lo])
        rw [ev]
        exact iteT (kf (by omega) H (Same.refl H))
      have ev : decide ((fun i j => V.int (i % j)) ((xs.length : Nat) : Int) 2 = V.int 1) = false := decide_eq_false fun q => lo (V.int.inj q)
      rw [ev]
      refine iteF ?_
      have okl : 2 ≤ ds.length ∧ ds.length ≤ 12 ∧ ds.length % 2 = 0 := by omega
      refine ⟨_, rfl, p, rfl, ⟨_, SqL.of hp⟩, compL (K := K) (a := p) (xs := xs) (fun i ys H' => ys = ((ds.take i).map isTri).map V.bl ∧ Same H H') ⟨rfl, Same.refl H⟩ (by omega) (fun n ys H' h => by rw [h.1, List.length_map, List.length_map, List.length_take]; exact Nat.min_le_left _ _) (fun n ys H' _ h => SqL.of (h.2 _ _ hp)) ?_ ?_⟩
      · rintro n y ys' H1 pre hpl hx ⟨rfl, s1⟩
        obtain ⟨dn, hdn, tn⟩ := thl_at tl hx
        rcases pre with _ | ⟨q0, _ | ⟨q1, pre⟩⟩
        · cases hpl
        · refine ⟨⟨[some _], rfl, rfl⟩, ?_⟩
          unfold tYes
          dsimp only
          rw [if_pos (rfl : true = true)]
          refine ⟨_, rfl, y, dn, rfl, tn.up s1, fun H2 s2 => ⟨?_, s1.trans s2⟩⟩
          rw [take_succ' hdn, List.map_append, List.map_append]
          rfl
        · cases hpl
      rintro ys' H1 ⟨rfl, s1⟩ D hD
      rw [List.take_of_length_le (by rw [lx]; exact Nat.le_refl _)]
      refine ⟨D, ds.map isTri, rfl, SqL.of upd_same, ?_⟩
      have s2 := Same.new (o := .lst ((ds.map isTri).map V.bl)) s1 hD
      generalize upd H1 D (.lst ((ds.map isTri).map V.bl)) = H2 at s2 ⊢
      rw [List.all_map]
      refine ⟨_, rfl, ?_⟩
      cases hall : ds.all isTri with
      | false =>
        have e : ds.all (id ∘ isTri) = false := hall
        rw [e]
        have := k H2 s2
        rw [isS_tri hall] at this
        exact iteT this
      | true =>
        have e : ds.all (id ∘ isTri) = true := hall
        rw [e]
        refine iteF ?_
        have hp2 := s2 _ _ hp
        refine ⟨_, rfl, p, rfl, ⟨_, SqL.of hp2⟩, comp2LT (K := K) (a := p) (xs := xs) (fun i ys H' => ys = (tiesD (ds.take i)).map V.int ∧ H2 = H') ⟨rfl, rfl⟩ (fun n ys H' _ h => by rw [← h.2]; exact SqL.of hp2) ?_ ?_⟩
        · rintro n y ys' H' pre hpl hx ⟨rfl, rfl⟩
          obtain ⟨dn, hdn, tn⟩ := thl_at tl hx
          obtain ⟨a, b, c, rfl⟩ := isTri_ints (List.all_eq_true.mp hall dn (List.mem_of_getElem? hdn))
          obtain ⟨q, es, zs, rfl, ee, hq, tq⟩ := tup_parts (tn.up s2) rfl
          cases ee
          obtain ⟨y1, y2, y3, rfl⟩ := three3 tq.1
          have e1 : y1 = .int a := by have := tq.2 0 y1 _ rfl rfl; cases this; rfl
          have e2 : y2 = .int b := by have := tq.2 1 y2 _ rfl rfl; cases this; rfl
          have e3 : y3 = .int c := by have := tq.2 2 y3 _ rfl rfl; cases this; rfl
          subst e1 e2 e3
          have nl := (List.getElem?_eq_some_iff.mp hdn).1
          have tl3 : (tiesD (ds.take n)).length = 3 * n := by
            rw [ties_len (List.all_eq_true.mpr fun z hz => List.all_eq_true.mp hall z (List.mem_of_mem_take hz)), List.length_take]
            omega
          rcases pre with _ | ⟨q0, _ | ⟨q1, _ | ⟨q2, pre⟩⟩⟩
          · cases hpl
          · cases hpl
          · refine ⟨⟨[some _, _], rfl, rfl⟩, ?_⟩
            unfold tYes
            dsimp only
            rw [if_pos (rfl : true = true)]
            refine ⟨_, rfl, q, rfl, ⟨_, SqT.of hq⟩, compIT (K := K) (a := q) (xs := [.int a, .int b, .int c]) (fun j zs σ' H' => zs = (tiesD (ds.take n) ++ ([a, b, c].map absI).take j).map V.int ∧ (∃ q1, σ' = [some (.ref q), q1, some (.ref p), none]) ∧ H2 = H') ⟨by rw [List.take_zero, List.append_nil], ⟨_, rfl⟩, rfl⟩ (fun j zs σ' H' h => ?_) (fun j zs σ' H' _ h => by rw [← h.2.2]; exact SqT.of hq) ?_ ?_⟩
            · rw [h.1, List.length_map, List.length_append, List.length_take, tl3]
              simp only [List.length_map, List.length_cons, List.length_nil]
              omega
            · rintro j z zs σ' H' hz ⟨rfl, ⟨q1, rfl⟩, rfl⟩
              refine ⟨⟨[some _, some _], rfl, rfl⟩, ?_⟩
              dsimp only
              rw [if_pos (rfl : true = true)]
              rcases j with _ | _ | _ | j
              · cases hz
                refine ⟨_, rfl, a, rfl, ?_, ⟨_, rfl⟩, rfl⟩
                show (tiesD (ds.take n) ++ []).map V.int ++ [V.int (absI a)] = (tiesD (ds.take n) ++ [absI a]).map V.int
                rw [List.map_append, List.map_append]
                simp
              · cases hz
                refine ⟨_, rfl, b, rfl, ?_, ⟨_, rfl⟩, rfl⟩
                show (tiesD (ds.take n) ++ [absI a]).map V.int ++ [V.int (absI b)] = (tiesD (ds.take n) ++ [absI a, absI b]).map V.int
                rw [List.map_append, List.map_append]
                simp
              · cases hz
                refine ⟨_, rfl, c, rfl, ?_, ⟨_, rfl⟩, rfl⟩
                show (tiesD (ds.take n) ++ [absI a, absI b]).map V.int ++ [V.int (absI c)] = (tiesD (ds.take n) ++ [absI a, absI b, absI c]).map V.int
                rw [List.map_append, List.map_append]
                simp
              · cases hz
            · rintro zs σ' H' ⟨rfl, _, rfl⟩
              refine ⟨?_, rfl⟩
              rw [take_succ' hdn, tiesD_snoc]
              rfl
          · cases hpl
        · rintro ys' H' ⟨rfl, rfl⟩ D2 hD2
          rw [List.take_of_length_le (by rw [lx]; exact Nat.le_refl _)]
          have tlen := ties_len hall
          refine ⟨D2, tiesD ds, rfl, SqL.of upd_same, by omega, fun l3 ms hl3 pm pw => ?_⟩
          have s3 := Same.new (o := .lst ((tiesD ds).map V.int)) s2 hD2
          have s4 := Same.new (o := .lst (ms.map V.int)) s3 hl3
          have hl4 : (upd (upd H2 D2 (.lst ((tiesD ds).map V.int))) l3 (.lst (ms.map V.int))) l3 = some (.lst (ms.map V.int)) := upd_same
          generalize upd (upd H2 D2 (.lst ((tiesD ds).map V.int))) l3 (.lst (ms.map V.int)) = H4 at s4 hl4 ⊢
          have e6 : (((xs.length / 2 * 3 : Nat) : Int) + 1 - 1).toNat = ds.length / 2 * 3 := by rw [lx]; omega
          refine ⟨_, rfl, _, rfl, p, xs, rfl, SqL.of (s4 _ _ hp), _, _, rfl, rfl, 1, ((xs.length / 2 * 3 : Nat) : Int) + 1, rfl, fun p1 hp1 => ⟨p1, 1, ((xs.length / 2 * 3 : Nat) : Int) + 1, rfl, upd_same, by decide, by omega, by omega, fun l1 hl1 => ⟨l1, 2, _, rfl, rfl, upd_same, by decide, by decide, ?_, fun pl hpl => ?_⟩⟩⟩
          · rw [List.length_map, upto_len, e6]
            exact Nat.le_trans (show ds.length / 2 * 3 * 2 ≤ 1000 by omega) (by decide)
          · have s5 := Same.new (o := .rng 1 (((xs.length / 2 * 3 : Nat) : Int) + 1)) (Same.refl H4) hp1
            have s6 := Same.new (o := .lst ((upto 1 (((xs.length / 2 * 3 : Nat) : Int) + 1 - 1).toNat).map V.int)) s5 hl1
            have s7 := Same.new (o := .lst ((List.replicate (2 : Int).toNat ((upto 1 (((xs.length / 2 * 3 : Nat) : Int) + 1 - 1).toNat).map V.int)).flatten)) s6 hpl
            have hpl7 : (upd (upd (upd H4 p1 (.rng 1 (((xs.length / 2 * 3 : Nat) : Int) + 1))) l1 (.lst ((upto 1 (((xs.length / 2 * 3 : Nat) : Int) + 1 - 1).toNat).map V.int))) pl (.lst ((List.replicate (2 : Int).toNat ((upto 1 (((xs.length / 2 * 3 : Nat) : Int) + 1 - 1).toNat).map V.int)).flatten))) pl = some (.lst ((pool (ds.length / 2 * 3)).map V.int)) := by
              rw [upd_same, rep2, e6, ← List.map_append]
              rfl
            generalize upd (upd (upd H4 p1 (.rng 1 (((xs.length / 2 * 3 : Nat) : Int) + 1))) l1 (.lst ((upto 1 (((xs.length / 2 * 3 : Nat) : Int) + 1 - 1).toNat).map V.int))) pl (.lst ((List.replicate (2 : Int).toNat ((upto 1 (((xs.length / 2 * 3 : Nat) : Int) + 1 - 1).toNat).map V.int)).flatten)) = H7 at s7 hpl7 ⊢
            refine ⟨pl, pool (ds.length / 2 * 3), rfl, SqL.of hpl7, by rw [pool_len]; omega, fun l5 ms2 hl5 pm2 pw2 => ?_⟩
            have s8 := Same.new (o := .lst (ms2.map V.int)) s7 hl5
            refine ⟨_, _, di_lst (SqL.of (s8 _ _ hl4)), di_lst (SqL.of upd_same), lay_dI _, lay_dI _, dep_dI _, ?_⟩
            rw [eqv_dI]
            have key : decide (ms = ms2) = isS (.list ds) := by
              have hiff : ms = ms2 ↔ isS (.list ds) = true := by
                rw [isS_perm okl hall]
                constructor
                · intro z
                  rw [← z] at pm2
                  exact pm.symm.trans pm2
                · intro z
                  exact sort_uni ((pm.trans z).trans pm2.symm) pw pw2
              by_cases z : ms = ms2
              · rw [decide_eq_true z, hiff.mp z]
              · rw [decide_eq_false z]
                exact (Bool.eq_false_iff.mpr fun q => z (hiff.mpr q)).symm
            rw [key]
            exact k _ (s4.trans s8)
abbrev s__law_is_sheet : Stmt := top 12
theorem sc__law_is_sheet : FnScope ["_law_thing", "_law_ties", "_law_triangle", "_law_side"] ["_law_thing"] (defScope s__law_is_sheet) := ⟨rfl, rfl, rfl, by decide +kernel, rfl, by decide +kernel, by decide +kernel⟩
theorem ok_lsheet {f : Addr} {fd : FuncData} (F : Fun K "_law_is_sheet" "_law_is_sheet" s__law_is_sheet f fd) (M : Txt mg) (B : Gb mg) : FnOk P w K mg base CX0 1 f fd ["_law_thing"] spIsS := by
  have sc := sc__law_is_sheet
  refine F.ok sc (fun vs H Q E h => ?_) (fun cdv A outer s H vs Q E hr h => ?_)
  · obtain ⟨x, d, rfl, _⟩ := h
    rfl
  · obtain ⟨x, d, rfl, t, k⟩ := h
    refine ⟨_, (pss_cons (ps_if (PW.pt (pw_or (pt_not (pt_val (pe_callB (call_isinstK (T := "list") (K := K)) (by rfl) M.isinstance boot_isinstance (pa_Name (pv 0) (pa_Name (pe_bltn (v := .ty "list") rfl M.list boot_list rfl) pa_nil))))) (pw_or1 (pt_cmpR op_notIn_seq (pe_callB (call_lenK (K := K)) (by rfl) M.len PySem.boot_len (pa_Name (pv 0) pa_nil)) (pe_tup (pa_o4 pe_int pe_int pe_int pe_int (pa_o2 pe_int pe_int pa_nil))) rfl)))) (pss_one (ps_ret pe_bl)) pss_nil)
      (pss_cons (ps_set (i := 1) sc.nd rfl (Or.inr rfl) (pe_lst pa_nil))
      (pss_cons (ps_for PassesOwn.never rfl (pi_list (pv 0)) (pg_name (i := 2) sc.nd rfl (Or.inl rfl))
      (pss_cons (ps_if (PW.pt (pw_or (pt_not (pt_val (pe_callB (call_isinstK (T := "tuple") (K := K)) (by rfl) M.isinstance boot_isinstance (pa_Name (pv 2) (pa_Name (pe_bltn (v := .ty "tuple") rfl M.tuple boot_tuple rfl) pa_nil))))) (pw_or1 (pt_cmpR op_ne (pe_callB (call_lenK (K := K)) (by rfl) M.len PySem.boot_len (pa_Name (pv 2) pa_nil)) pe_int (nomark _))))) (pss_one (ps_ret pe_bl)) pss_nil)
      (pss_one (ps_for PassesOwn.never rfl (pi_tup (pv 2)) (pg_name (i := 3) sc.nd rfl (Or.inl rfl))
      (pss_cons (ps_if (PW.pt (pw_or (pt_not (pt_val (pe_callB (call_isinstK (T := "int") (K := K)) (by rfl) M.isinstance boot_isinstance (pa_Name (pv 3) (pa_Name (pe_bltn (v := .ty "int") rfl M.int boot_int rfl) pa_nil))))) (pw_or1 (pt_val (pe_callB (call_isinstK (T := "bool") (K := K)) (by rfl) M.isinstance boot_isinstance (pa_Name (pv 3) (pa_Name (pe_bltn (v := .ty "bool") rfl M.bool boot_bool rfl) pa_nil))))))) (pss_one (ps_ret pe_bl)) pss_nil)
      (pss_one (ps_expr (pe_bm PySem.F.plainAttrs_list PySem.F.slot_list_append PySem.F.type_list_append mt_append (pv 1) (pa_Call (pe_callB call_abs (by rfl) B.ab boot_abs (pa_Name (pv 3) pa_nil)) pa_nil)))))))))
      (pss_one (ps_ret (pe_callB (call_all rfl) (by rfl) M.all boot_all (pa_cons (pe_compG (xs := ["_law_tie"]) (Nb := ["_law_thing", "_law_ties", "_law_triangle", "_law_side"]) rfl (pi_range2 rfl M.range (pa_Constant pe_int (pa_BinOp (pe_op op_add (pe_op op_fdivL (pe_op op_mul (pe_callB (call_lenK (K := K)) (by rfl) M.len PySem.boot_len (pa_Name (pv 0) pa_nil)) pe_int) pe_int) pe_int) pa_nil))) rfl (by show ∀ p ∈ (List.zip ["_law_thing", "_law_ties", "_law_triangle", "_law_side"] ["_law_thing", "_law_ties", "_law_triangle", "_law_side"] : List (Str × Str)), _; decide +kernel) (by decide +kernel) (fun cl C s₂ H₂ fp => (pg_name (i := 0) (by show List.Nodup (["_law_tie", "_law_thing", "_law_ties", "_law_triangle", "_law_side"] : List Str); decide +kernel) rfl (Or.inl (lookup_relabel_local rfl)) (Or.inr (lookup_relabel_local rfl)))) (fun cl C s₂ H₂ fp => pif_nil) (fun cl C s₂ H₂ fp => (pe_cmpR op_eq (pe_bmK (K := K) PySem.F.plainAttrs_list PySem.F.slot_list_count PySem.F.type_list_count mt_count (pv 2) (pa_Name (pv 0) pa_nil)) pe_int (nomark _))) (by decide +kernel) rfl (by decide +kernel) (by show ∀ y ∈ (_ : List (Str × NameKind)), y.2 = NameKind.free → (defScope s__law_is_sheet).names.lookup y.1 = some .cell; decide +kernel)) pa_nil))))))), ?_⟩
    refine ⟨_, rfl, x, _, _, rfl, t.ty, kit_lst d, _, rfl, ?_⟩
    cases ht : isLst d with
    | false =>
      rw [isS_not ht] at k
      exact iteT (iteT (k H (Same.refl H)))
    | true =>
      refine iteF ?_
      obtain ⟨p, ds, xs, rfl, rfl, hp, tl⟩ := lst_parts t ht
      have lx := tl.1
      refine ⟨_, rfl, p, _, rfl, .inl (SqL.of hp), (by show 6 ≤ sizeLine; decide), fun tp htp => ?_⟩
      have s0 := Same.new (o := .tup [.int 2, .int 4, .int 6, .int 8, .int 10, .int 12]) (Same.refl H) htp
      have htp0 : (upd H tp (.tup [.int 2, .int 4, .int 6, .int 8, .int 10, .int 12])) tp = some (.tup [.int 2, .int 4, .int 6, .int 8, .int 10, .int 12]) := upd_same
      generalize upd H tp (.tup [.int 2, .int 4, .int 6, .int 8, .int 10, .int 12]) = H0 at s0 htp0 ⊢
      refine ⟨tp, _, rfl, .inr (SqT.of htp0), rfl, rfl, _, rfl, ?_⟩
      rw [show (if true = true then !inV (V.int ((xs.length : Nat) : Int)) [.int 2, .int 4, .int 6, .int 8, .int 10, .int 12] else inV (V.int ((xs.length : Nat) : Int)) [.int 2, .int 4, .int 6, .int 8, .int 10, .int 12]) = !inV (V.int ((xs.length : Nat) : Int)) [.int 2, .int 4, .int 6, .int 8, .int 10, .int 12] from rfl]
      by_cases okl : 2 ≤ ds.length ∧ ds.length ≤ 12 ∧ ds.length % 2 = 0
      rotate_left
      · rw [in_evens (by rw [lx]), decide_eq_false okl]
        have := k H0 s0
        rw [isS_len okl] at this
        exact iteT this
      rw [in_evens (by rw [lx]), decide_eq_true okl]
      refine iteF ?_
      refine ⟨(by show 0 ≤ sizeLine; decide), fun td htd => ?_⟩
      have s1 := Same.new (o := .lst []) (Same.refl H0) htd
      have htd1 : (upd H0 td (.lst [])) td = some (.lst ((tiesD (ds.take 0)).map V.int)) := upd_same
      generalize upd H0 td (.lst []) = H1 at s1 htd1 ⊢
      have hp1 := s1 _ _ (s0 _ _ hp)
      have td0 : H td = none := s0.free htd
      refine ⟨_, rfl, p, rfl, ⟨_, SqL.of hp1⟩, for_list (K := K) (a := p) (xs := xs) (fun i σ H' => ∃ (x2 x3 : Option V), σ = [some (.ref p), some (.ref td), x2, x3] ∧ H' td = some (.lst ((tiesD (ds.take i)).map V.int)) ∧ (ds.take i).all isTri = true ∧ Same H H') ⟨_, _, rfl, htd1, rfl, s0.trans s1⟩ (fun i σ H' _ h => by obtain ⟨_, _, _, _, _, z⟩ := h; exact SqL.of (z _ _ hp)) ?_ ?_⟩
      · rintro n y σ H2 hx ⟨x2, x3, rfl, htd2, al2, s2⟩
        obtain ⟨dn, hdn, tn0⟩ := thl_at tl hx
        have tn := tn0.up s2
        have bad : isTri dn = false → ∀ H', Same H H' → Q (.bl false) H' := fun z H' s' => by
          have := k H' s'
          rw [isS_bad hdn z] at this
          exact this
        refine ⟨_, rfl, y, _, _, rfl, tn.ty, kit_tup dn, _, rfl, ?_⟩
        cases hu : isTup dn with
        | false => exact iteT (iteT (bad (isTri_not hu) H2 s2))
        | true =>
          refine iteF ?_
          obtain ⟨q, es, zs, rfl, rfl, hq0, tq⟩ := tup_parts tn0 hu
          have hq := s2 _ _ hq0
          have et : isTri (.tuple es) = (decide (es.length = 3) && es.all wholeD) := rfl
          refine ⟨_, rfl, q, _, rfl, .inr (SqT.of hq), rfl, _, rfl, ?_⟩
          by_cases l3 : es.length = 3
          rotate_left
          · have ev : (!decide (V.int ((zs.length : Nat) : Int) = V.int 3)) = true := by
              rw [decide_eq_false]
              · rfl
              · intro z
                have := V.int.inj z
                rw [tq.1] at this
                omega
            rw [ev]
            exact iteT (bad (by rw [et, decide_eq_false l3]; rfl) H2 s2)
          have ev : (!decide (V.int ((zs.length : Nat) : Int) = V.int 3)) = false := by rw [tq.1, l3]; rfl
          rw [ev]
          refine iteF ?_
          have tl3 : (tiesD (ds.take n)).length ≤ 36 := by
            rw [ties_len al2, List.length_take]
            omega
          refine ⟨_, rfl, q, rfl, ⟨_, SqT.of hq⟩, for_tup (K := K) (a := q) (xs := zs) (fun j σ H' => ∃ (x3 : Option V), σ = [some (.ref p), some (.ref td), some (.ref q), x3] ∧ H' td = some (.lst ((tiesD (ds.take n) ++ ((es.take j).map L2.intD).map absI).map V.int)) ∧ (es.take j).all wholeD = true ∧ Same H H') ⟨_, rfl, by rw [List.take_zero]; simpa using htd2, rfl, s2⟩ (fun j σ H' _ h => by obtain ⟨_, _, _, _, z⟩ := h; exact SqT.of (z _ _ hq0)) ?_ ?_⟩
          · rintro j z σ H3 hz ⟨x3, rfl, htd3, al3, s3⟩
            obtain ⟨dj, hdj, tj0⟩ := thl_at tq hz
            have tj := tj0.up s3
            have jl := (List.getElem?_eq_some_iff.mp hdj).1
            have badj : wholeD dj = false → ∀ H', Same H H' → Q (.bl false) H' := fun w' => bad (by
              rw [et, Bool.and_eq_false_iff]
              exact .inr (Bool.eq_false_iff.mpr fun q' => by rw [List.all_eq_true.mp q' dj (List.mem_of_getElem? hdj)] at w'; cases w'))
            have wib := whole_ib dj
            refine ⟨_, rfl, z, _, _, rfl, tj.ty, kit_int dj, _, rfl, ?_⟩
            cases hi : isInt dj with
            | false =>
              rw [hi, Bool.false_and] at wib
              exact iteT (iteT (badj wib H3 s3))
            | true =>
              refine iteF ?_
              rw [hi, Bool.true_and] at wib
              refine ⟨_, rfl, z, _, _, rfl, tj.ty, kit_bool dj, _, rfl, ?_⟩
              cases hb : isBool dj with
              | true =>
                rw [hb] at wib
                exact iteT (badj wib H3 s3)
              | false =>
                refine iteF ?_
                rw [hb] at wib
                obtain ⟨i, rfl, rfl⟩ := wholeD_int tj wib
                refine ⟨_, rfl, .inl ⟨rfl, _, SqL.of htd3⟩, _, rfl, i, rfl, td, _, _, rfl, rfl, htd3, ?_, ?_⟩
                · refine Nat.lt_of_le_of_lt (show _ ≤ 1000 from ?_) (by decide)
                  rw [List.length_map, List.length_append, List.length_map, List.length_map, List.length_take]
                  omega
                · refine ⟨_, rfl, ?_, ?_, Same.own s3 td0⟩
                  · rw [upd_same, take_succ' hdj]
                    simp only [List.map_append, List.map_cons, List.map_nil, List.append_assoc]
                    rfl
                  · rw [take_succ' hdj, List.all_append, al3]
                    rfl
          · rintro σ H3 ⟨x3, rfl, htd3, al3, s3⟩
            have te : es.take zs.length = es := List.take_of_length_le (by rw [tq.1]; exact Nat.le_refl _)
            rw [te] at htd3 al3
            refine ⟨_, _, rfl, ?_, ?_, s3⟩
            · rw [take_succ' hdn, tiesD_snoc]
              exact htd3
            · rw [take_succ' hdn, List.all_append, al2]
              show (true && (isTri (.tuple es) && true)) = true
              rw [et, decide_eq_true l3, al3]
              rfl
      · rintro σ H2 ⟨x2, x3, rfl, htd2, al2, s2⟩
        rw [List.take_of_length_le (by rw [lx]; exact Nat.le_refl _)] at htd2 al2
        have e7 : (((xs.length : Nat) : Int) * 3 / 2 + 1 - 1).toNat = ds.length / 2 * 3 := by rw [lx]; omega
        refine ⟨_, rfl, p, _, rfl, .inl (SqL.of (s2 _ _ hp)), _, _, rfl, rfl, .inr ⟨by decide, by decide⟩, ((xs.length : Nat) : Int) * 3, 2, rfl, rfl, ⟨by decide, by decide⟩, _, _, rfl, rfl, 1, ((xs.length : Nat) : Int) * 3 / 2 + 1, rfl, ⟨by decide, by decide, by omega, by omega⟩, compR (lo := 1) (n := (((xs.length : Nat) : Int) * 3 / 2 + 1 - 1).toNat) (fun i ys H' => ys = ((upto 1 i).map fun t => decide ((tiesD ds).countP (fun z => decide (z = t)) = 2)).map V.bl ∧ H2 = H') ⟨rfl, rfl⟩ (by omega) (fun n ys H' h => by rw [h.1, List.length_map, List.length_map, upto_len]; exact Nat.le_refl _) ?_ ?_⟩
        · rintro n ys' H' pre hpl hn ⟨rfl, rfl⟩
          rcases pre with _ | ⟨q0, _ | ⟨q1, pre⟩⟩
          · cases hpl
          · refine ⟨⟨[some _], rfl, rfl⟩, ?_⟩
            unfold tYes
            dsimp only
            rw [if_pos (rfl : true = true)]
            refine ⟨_, rfl, .inl ⟨rfl, _, SqL.of htd2⟩, _, rfl, td, tiesD ds, 1 + (n : Int), rfl, rfl, htd2, rfl, ?_, rfl⟩
            rw [upto_succ, List.map_append, List.map_append]
            have e8 : decide (V.int (((tiesD ds).countP fun z => decide (z = 1 + (n : Int))) : Nat) = V.int 2) = decide ((tiesD ds).countP (fun z => decide (z = 1 + (n : Int))) = 2) := by
              by_cases z : (tiesD ds).countP (fun z => decide (z = 1 + (n : Int))) = 2
              · rw [decide_eq_true z, z]; rfl
              · rw [decide_eq_false z]
                exact decide_eq_false fun q => z (by have := V.int.inj q; omega)
            rw [e8]
            rfl
          · cases hpl
        · rintro ys' H' ⟨rfl, rfl⟩ D hD
          rw [e7]
          refine ⟨D, (upto 1 (ds.length / 2 * 3)).map fun t => decide ((tiesD ds).countP (fun z => decide (z = t)) = 2), rfl, SqL.of upd_same, ?_⟩
          rw [List.all_map]
          have := k _ (Same.new (o := .lst (((upto 1 (ds.length / 2 * 3)).map fun t => decide ((tiesD ds).countP (fun z => decide (z = t)) = 2)).map V.bl)) s2 hD)
          rw [isS_full okl al2] at this
          exact this
end
end Toy

set_option Elab.async false
set_option linter.all false
set_option maxRecDepth 100000
set_option maxHeartbeats 1000000
namespace Toy
open PySem L2 PyProof.Rows
def spBent : Sp := fun vs H Q _ => ∃ (b d : Addr) (xs : List V) (S : List (List Int)), vs = [.ref b, .ref d] ∧ H b = some (.lst xs) ∧ TuL H xs S ∧ ShOk S ∧ Rest H d ∧ b ≠ d ∧ ∀ (x : V) (dd : PyData) (H' : Hp), Th H' x dd → FD 3 200000 dd → Rest H' d → But d H H' → Q x H'
abbrev tPl (i : Nat) (n : Int) : TE := tOp (rI0 fun i j => V.int (i + j)) (tVar i) (tC (V.int n))
abbrev tNg (i : Nat) : TE := tUn (rU fun i => V.int (-i)) (tVar i)
abbrev tNm (i : Nat) : TE := tOp (rI0 fun i j => V.int (i - j)) (tNg i) (tC (V.int 1))
abbrev tDg (n : Int) : TE := tCall spDigit [] E0 (tCons (tVar 1) (tCons (tC (V.int n)) tNil))
abbrev tLn (K : PySem.W.Frag) : TE := tCB (fun xs H Q => ∃ p ys, xs = [V.ref p] ∧ (SqL K H p ys ∨ SqT K H p ys) ∧ Q (V.int ((ys.length : Nat) : Int)) H) (tCons (tVar 0) tNil)
abbrev tIs (n : Int) : TT := tTest (tOp rEq (tVar 6) (tC (V.int n)))
abbrev tLs (n : Int) : TT := tTest (tOp (rI0 fun i j => V.bl (decide (i < j))) (tVar 6) (tC (V.int n)))
def tBent (K : PySem.W.Frag) : TS :=
  tSeq (tAsg (tCall spDigit [] E0 (tCons (tVar 1) (tCons (tLn K) tNil))) (gName 2))
  (tSeq (tAsg (tOp (rIxL K) (tVar 0) (tVar 2)) (gTup K 3 (gCons (gName 3) (gCons (gName 4) (gCons (gName 5) gNil)))))
  (tSeq (tAsg (tDg 14) (gName 6))
  (tSeq (tAsg (tOp (rI CDivL fun i j => V.int (i / j)) (tOp (rI CMul fun i j => V.int (i * j)) (tLn K) (tC (V.int 3))) (tC (V.int 2))) (gName 7))
  (tSeq (tAsg (tOp (rIxL K) (tLst (tCons (tPl 7 1) (tCons (tC (V.int 0)) (tCons (tNm 7) (tCons (tVar 4) (tCons (tNg 3) (tCons (tC (V.bl true)) (tCons (tC V.non) (tCons (tC (V.str "1")) (tCons (tOp (rI CPow fun i j => V.int (i ^ j.toNat)) (tC (V.int 10)) (tC (V.int 20))) (tCons (tTup (tCons (tC (V.int 1)) tNil)) tNil))))))))))) (tDg 10)) (gName 8))
  (tSeq (tAsg (tLst (tCons (tTup (tCons (tVar 3) (tCons (tVar 4) tNil))) (tCons (tTup (tCons (tVar 3) (tCons (tVar 4) (tCons (tVar 5) (tCons (tVar 3) tNil))))) (tCons (tLst (tCons (tVar 3) (tCons (tVar 4) (tCons (tVar 5) tNil)))) (tCons (tVar 3) (tCons (tC V.non) (tCons (tTup tNil) (tCons (tC (V.str "123")) (tCons (tTup (tCons (tNg 5) (tCons (tNg 4) (tCons (tNg 3) tNil)))) tNil))))))))) (gName 9))
  (tSeq (tAsg (tCB (fun xs H Q => ∃ p ys, xs = [V.ref p] ∧ (SqL K H p ys ∨ SqT K H p ys) ∧ ∀ (l : Addr), H l = none → Q (V.ref l) (upd H l (HO.lst ys))) (tCons (tVar 0) tNil)) (gName 10))
  (tSeq (tIfS (tLs 4) (tAsg (tOp (rIxL K) (tLst (tCons (tTup (tCons (tVar 8) (tCons (tVar 4) (tCons (tVar 5) tNil)))) (tCons (tTup (tCons (tVar 3) (tCons (tVar 8) (tCons (tVar 5) tNil)))) (tCons (tTup (tCons (tVar 3) (tCons (tVar 4) (tCons (tVar 8) tNil)))) (tCons (tTup (tCons (tNg 3) (tCons (tVar 4) (tCons (tVar 5) tNil)))) tNil))))) (tVar 6)) (gSub (tVar 10) (tVar 2) rSetL))
    (tIfS (tLs 7) (tAsg (tOp (rIxL K) (tVar 9) (tDg 8)) (gSub (tVar 10) (tVar 2) rSetL))
    (tIfS (tIs 7) (tAsg (tOp rCat (tVar 10) (tLst (tCons (tOp (rIxL K) (tVar 0) (tVar 2)) tNil))) (gName 10))
    (tIfS (tIs 8) (tDrop (tBM K "list" rPopAt (tVar 10) (tCons (tVar 2) tNil)))
    (tIfS (tIs 9) (tAsg (tOp rCat (tVar 10) (tLst (tCons (tTup (tCons (tPl 7 1) (tCons (tPl 7 2) (tCons (tPl 7 3) tNil)))) (tCons (tTup (tCons (tNm 7) (tCons (tPl 7 2) (tCons (tPl 7 3) tNil)))) tNil)))) (gName 10))
    (tIfS (tIs 10) (tAsg (tCB (fun xs H Q => ∃ p ys, xs = [V.ref p] ∧ ((SqL K H p ys ∧ ∀ (l : Addr), H l = none → Q (V.ref l) (upd H l (HO.tup ys))) ∨ SqT K H p ys ∧ Q (V.ref p) H)) (tCons (tVar 10) tNil)) (gName 10))
    (tIfS (tIs 11) (tAsg (tOp (rIxL K) (tLst (tCons (tC V.non) (tCons (tC (V.int 0)) (tCons (tC (V.bl true)) (tCons (tC (V.str "1 1 2 / 2 3 3")) (tCons (tLst tNil) (tCons (tLst (tCons (tLst tNil) tNil)) (tCons (tTup tNil) (tCons (tLst (tCons (tC V.non) tNil)) tNil))))))))) (tDg 8)) (gName 10))
    (tIfS (tIs 12) (tAsg (tTup (tCons (tVar 3) (tCons (tVar 5) (tCons (tVar 4) tNil)))) (gSub (tVar 10) (tVar 2) rSetL))
      (tAsg (tRev K (tVar 10) (tPart (tUn (rU fun i => V.int (-i)) (tC (V.int 1))))) (gName 10))))))))))
  (tRet (tVar 10)))))))))
theorem But.own {p d : Addr} {H H' : Hp} {o : HO} (a : But d H H') (h : H p = none) : But d H (L2.upd H' p o) := fun c u e n => by
  rw [upd_ne (ne_of_none e h)]; exact a c u e n
theorem Rest.set {d l : Addr} {H : Hp} {o : HO} (a : Rest H d) (n : l ≠ d) : Rest (L2.upd H l o) d := by
  obtain ⟨m, e⟩ := a
  exact ⟨m, by rw [upd_ne (Ne.symm n)]; exact e⟩
theorem FD.t3 {a b c : PyData} {n : Nat} (ha : FD n 500 a) (hb : FD n 500 b) (hc : FD n 500 c) : FD (n + 1) 3000 (.tuple [a, b, c]) :=
  (FA.tup (FA.cons ha (FA.cons hb (FA.cons hc (FA.nil (W := 0)))))).mono (Nat.le_refl _) (by decide)
theorem fd1 {n : Nat} {i : Int} (h : -100 ≤ i ∧ i ≤ 100) : FD n 500 (.int i) := (FD.sm h).mono (Nat.le_refl _) (by decide)
set_option maxHeartbeats 4000000 in
theorem bent_reads {K : PySem.W.Frag} {H : Hp} {Q : VK} {Z : L2.St → Hp → Prop} {b d : Addr} {xs : List V} {S : List (List Int)} (hb : H b = some (.lst xs)) (tS : TuL H xs S) (oS : ShOk S) (R0 : Rest H d) (nbd : b ≠ d)
    (k : ∀ (x : V) (dd : PyData) (H' : Hp), Th H' x dd → FD 3 200000 dd → Rest H' d → But d H H' → Q x H') : tBent K { nx := Z, rt := Q } [some (.ref b), some (.ref d), none, none, none, none, none, none, none, none, none] H := by
  have lx : xs.length = S.length := tS.1
  have ls := oS.len
  refine ⟨_, rfl, _, rfl, b, xs, rfl, .inl (SqL.of hb), d, _, rfl, R0, by omega, by omega, fun r H1 r0 r1 R1 B1 => ?_⟩
  have hb1 := B1 _ _ hb nbd
  have tS1 := tS.up (But.tupsR B1 R0)
  obtain ⟨j, rfl⟩ : ∃ j : Nat, r = (j : Int) := ⟨r.toNat, by omega⟩
  have jl : j < S.length := by omega
  have eS : S[j]? = some S[j] := List.getElem?_eq_getElem jl
  have ex : xs[j]? = some xs[j] := List.getElem?_eq_getElem (by omega)
  obtain ⟨q, eq, hq⟩ := tS1.2 j _ _ ex eS
  have mS : S[j] ∈ S := List.getElem_mem jl
  have sm : ∀ i ∈ S[j], -18 ≤ i ∧ i ≤ 18 := fun i hi => oS.small mS hi
  obtain ⟨o1, o2, o3, e3⟩ := three3 (oS.three _ mS)
  rw [e3] at hq sm
  rw [eq] at ex
  have b1 := sm o1 (by simp)
  have b2 := sm o2 (by simp)
  have b3 := sm o3 (by simp)
  refine ⟨_, rfl, _, rfl, b, xs, _, _, rfl, rfl, SqL.of hb1, atI_nat ex, q, _, rfl, SqT.of hq, rfl, _, _, rfl, _, _, rfl, _, _, rfl, rfl, ?_⟩
  refine ⟨_, rfl, d, 14, rfl, R1, by decide, by decide, fun kd H2 k0 k1 R2 B2 => ?_⟩
  have hb2 := B2 _ _ hb1 nbd
  have tS2 := tS1.up (But.tupsR B2 R1)
  have B02 := B1.trans B2
  refine ⟨_, rfl, b, xs, rfl, .inl (SqL.of hb2), ((xs.length : Nat) : Int), 3, rfl, rfl, .inr ⟨by decide, by decide⟩, ((xs.length : Nat) : Int) * 3, 2, rfl, rfl, ⟨by decide, by decide⟩, ?_⟩
  have fb : 3 ≤ ((xs.length : Nat) : Int) * 3 / 2 ∧ ((xs.length : Nat) : Int) * 3 / 2 ≤ 18 := by omega
  show tSeq _ _ _ [some (.ref b), some (.ref d), some (.int (j : Int)), some (.int o1), some (.int o2), some (.int o3), some (.int kd), some (.int (((xs.length : Nat) : Int) * 3 / 2)), none, none, none] H2
  generalize ((xs.length : Nat) : Int) * 3 / 2 = fr at fb ⊢
  refine ⟨_, rfl, _, _, rfl, rfl, _, rfl, _, rfl, _, _, rfl, rfl, _, rfl, _, rfl, _, rfl, _, _, rfl, rfl, ⟨by decide, by decide, by decide⟩, (by show 1 ≤ sizeLine; decide), fun p1 hp1 => ⟨(by show 10 ≤ sizeLine; decide), fun l1 hl1 => ?_⟩⟩
  have s3 := Same.new (o := .lst [.int (fr + 1), .int 0, .int (-fr - 1), .int o2, .int (-o1), .bl true, .non, .str "1", .int (10 ^ (20 : Int).toNat), .ref p1]) (Same.new (o := .tup [.int 1]) (Same.refl H2) hp1) hl1
  have hp3 := (Same.new (o := .lst [.int (fr + 1), .int 0, .int (-fr - 1), .int o2, .int (-o1), .bl true, .non, .str "1", .int (10 ^ (20 : Int).toNat), .ref p1]) (Same.refl _) hl1) p1 _ (upd_same (H := H2) (o := .tup [.int 1]))
  have hl3 : (upd (upd H2 p1 (.tup [.int 1])) l1 (.lst [.int (fr + 1), .int 0, .int (-fr - 1), .int o2, .int (-o1), .bl true, .non, .str "1", .int (10 ^ (20 : Int).toNat), .ref p1])) l1 = some (.lst [.int (fr + 1), .int 0, .int (-fr - 1), .int o2, .int (-o1), .bl true, .non, .str "1", .int (10 ^ (20 : Int).toNat), .ref p1]) := upd_same
  have np1 := R2.ne hp1
  have nl1 := (R2.new (o := .tup [.int 1]) hp1).ne hl1
  show tDg 10 _ (upd (upd H2 p1 (.tup [.int 1])) l1 (.lst [.int (fr + 1), .int 0, .int (-fr - 1), .int o2, .int (-o1), .bl true, .non, .str "1", .int (10 ^ (20 : Int).toNat), .ref p1])) _
  generalize upd (upd H2 p1 (.tup [.int 1])) l1 (.lst [.int (fr + 1), .int 0, .int (-fr - 1), .int o2, .int (-o1), .bl true, .non, .str "1", .int (10 ^ (20 : Int).toNat), .ref p1]) = H3 at s3 hp3 hl3 ⊢
  have R3 := R2.same s3
  refine ⟨_, rfl, d, 10, rfl, R3, by decide, by decide, fun r2 H4 r20 r21 R4 B4 => ?_⟩
  have hl4 := B4 _ _ hl3 nl1
  have hp4 := B4 _ _ hp3 np1
  have tS4 := (tS2.up s3.tups).up (But.tupsR B4 R3)
  have hb4 := B4 _ _ (s3 _ _ hb2) nbd
  have B04 : But d H H4 := (B02.trans (But.same s3)).trans B4
  have pick : ∃ (v : V) (dv : PyData), atI [V.int (fr + 1), .int 0, .int (-fr - 1), .int o2, .int (-o1), .bl true, .non, .str "1", .int (10 ^ (20 : Int).toNat), .ref p1] r2 = some v ∧ Th H4 v dv ∧ FD 1 500 dv := by
    have hc : r2 = 0 ∨ r2 = 1 ∨ r2 = 2 ∨ r2 = 3 ∨ r2 = 4 ∨ r2 = 5 ∨ r2 = 6 ∨ r2 = 7 ∨ r2 = 8 ∨ r2 = 9 := by omega
    rcases hc with rfl | rfl | rfl | rfl | rfl | rfl | rfl | rfl | rfl | rfl
    · exact ⟨_, _, rfl, .int _, fd1 (by omega)⟩
    · exact ⟨_, _, rfl, .int _, fd1 (by omega)⟩
    · exact ⟨_, _, rfl, .int _, fd1 (by omega)⟩
    · exact ⟨_, _, rfl, .int _, fd1 (by omega)⟩
    · exact ⟨_, _, rfl, .int _, fd1 (by omega)⟩
    · exact ⟨_, _, rfl, .bl _, (FD.bl _).mono (Nat.le_refl _) (by decide)⟩
    · exact ⟨_, _, rfl, .non, FD.non.mono (Nat.le_refl _) (by decide)⟩
    · exact ⟨_, _, rfl, .str _, (FD.str "1" (by decide +kernel) (by decide +kernel) rfl).mono (Nat.le_refl _) (by decide)⟩
    · exact ⟨_, _, rfl, .int _, (FD.int (by decide +kernel) (by decide +kernel)).mono (Nat.le_refl _) (by decide)⟩
    · exact ⟨_, _, rfl, (ThL.cons (.int _) ThL.nil).tup hp4, (FA.tup (FA.cons (FD.sm (by decide)) (FA.nil (W := 0)))).mono (Nat.le_refl _) (by decide)⟩
  obtain ⟨v, dv, hat, tv, fv⟩ := pick
  refine ⟨l1, _, _, v, rfl, rfl, SqL.of hl4, hat, ?_⟩
  refine ⟨_, rfl, _, rfl, (by show 2 ≤ sizeLine; decide), fun t1 ht1 => ?_⟩
  have s5 := Same.new (o := .tup [.int o1, .int o2]) (Same.refl H4) ht1
  have f1 : (upd H4 t1 (.tup [.int o1, .int o2])) t1 = some (.tup [.int o1, .int o2]) := upd_same
  generalize upd H4 t1 (.tup [.int o1, .int o2]) = H5 at s5 f1 ⊢
  refine ⟨_, rfl, _, rfl, _, rfl, _, rfl, (by show 4 ≤ sizeLine; decide), fun t2 ht2 => ?_⟩
  have s6 := Same.new (o := .tup [.int o1, .int o2, .int o3, .int o1]) (Same.refl H5) ht2
  have f2 : (upd H5 t2 (.tup [.int o1, .int o2, .int o3, .int o1])) t2 = some (.tup [.int o1, .int o2, .int o3, .int o1]) := upd_same
  generalize upd H5 t2 (.tup [.int o1, .int o2, .int o3, .int o1]) = H6 at s6 f2 ⊢
  have R6 : Rest H6 d := R4.same (s5.trans s6)
  refine ⟨_, rfl, _, rfl, _, rfl, (by show 3 ≤ sizeLine; decide), fun t3 ht3 => ?_⟩
  have nt3 := R6.ne ht3
  have s7 := Same.new (o := .lst [.int o1, .int o2, .int o3]) (Same.refl H6) ht3
  have f3 : (upd H6 t3 (.lst [.int o1, .int o2, .int o3])) t3 = some (.lst [.int o1, .int o2, .int o3]) := upd_same
  generalize upd H6 t3 (.lst [.int o1, .int o2, .int o3]) = H7 at s7 f3 ⊢
  refine ⟨_, rfl, (by show 0 ≤ sizeLine; decide), fun t4 ht4 => ?_⟩
  have s8 := Same.new (o := .tup []) (Same.refl H7) ht4
  have f4 : (upd H7 t4 (.tup [])) t4 = some (.tup []) := upd_same
  generalize upd H7 t4 (.tup []) = H8 at s8 f4 ⊢
  refine ⟨_, rfl, _, rfl, _, rfl, _, rfl, _, rfl, _, rfl, (by show 3 ≤ sizeLine; decide), fun t5 ht5 => ?_⟩
  have s9 := Same.new (o := .tup [.int (-o3), .int (-o2), .int (-o1)]) (Same.refl H8) ht5
  have f5 : (upd H8 t5 (.tup [.int (-o3), .int (-o2), .int (-o1)])) t5 = some (.tup [.int (-o3), .int (-o2), .int (-o1)]) := upd_same
  generalize upd H8 t5 (.tup [.int (-o3), .int (-o2), .int (-o1)]) = H9 at s9 f5 ⊢
  have s49 : Same H4 H9 := (((s5.trans s6).trans s7).trans s8).trans s9
  refine ⟨(by show 8 ≤ sizeLine; decide), fun tl htl => ?_⟩
  have ntl := (R4.same s49).ne htl
  have sA := Same.new (o := .lst [.ref t1, .ref t2, .ref t3, .int o1, .non, .ref t4, .str "123", .ref t5]) s49 htl
  have sA9 := Same.new (o := .lst [.ref t1, .ref t2, .ref t3, .int o1, .non, .ref t4, .str "123", .ref t5]) (Same.refl H9) htl
  have fl : (upd H9 tl (.lst [.ref t1, .ref t2, .ref t3, .int o1, .non, .ref t4, .str "123", .ref t5])) tl = some (.lst [.ref t1, .ref t2, .ref t3, .int o1, .non, .ref t4, .str "123", .ref t5]) := upd_same
  generalize upd H9 tl (.lst [.ref t1, .ref t2, .ref t3, .int o1, .non, .ref t4, .str "123", .ref t5]) = HA at sA sA9 fl ⊢
  have g5 := sA9 _ _ f5
  have g4 := sA9 _ _ (s9 _ _ f4)
  have g3 := sA9 _ _ (s9 _ _ (s8 _ _ f3))
  have g2 := sA9 _ _ (s9 _ _ (s8 _ _ (s7 _ _ f2)))
  have g1 := sA9 _ _ (s9 _ _ (s8 _ _ (s7 _ _ (s6 _ _ f1))))
  have RA := R4.same sA
  have tSA := tS4.up sA.tups
  have hbA := sA _ _ hb4
  have tvA := tv.up sA
  have BA : But d H HA := B04.trans (But.same sA)
  clear f1 f2 f3 f4 f5 s5 s6 s7 s8 s9 s49 sA9 ht1 ht2 ht3 ht4 ht5 htl
  refine ⟨_, rfl, b, xs, rfl, .inl (SqL.of hbA), fun l hl => ?_⟩
  have nld := RA.ne hl
  have lfree : H l = none := BA.fr hl nld
  have sB := Same.new (o := .lst xs) (Same.refl HA) hl
  have hlB : (upd HA l (.lst xs)) l = some (.lst xs) := upd_same
  have nt3l : t3 ≠ l := ne_of_none g3 hl
  have ntll : tl ≠ l := ne_of_none fl hl
  generalize upd HA l (.lst xs) = HB at sB hlB ⊢
  have RB := RA.same sB
  have BB : But d H HB := BA.trans (But.same sB)
  have tSB := tSA.up sB.tups
  have hbB := sB _ _ hbA
  have ixj : ixN xs.length (j : Int) = some j := by
    unfold ixN
    rw [if_pos (by omega), if_pos (by omega)]
    simp
  have setF : ∀ (H' : Hp) (x : V) (dx : PyData), Tups HB H' → Rest H' d → But d H H' → H' l = some (.lst xs) → Th (upd H' l (.lst (xs.set j x))) x dx → FD 2 3000 dx → Q (.ref l) (upd H' l (.lst (xs.set j x))) := fun H' x dx tp rr bb hl' tx fx => by
    refine k _ _ _ (ThL.lst ((TuL.th (tSB.up (Tups.lst tp hl'))).set tx j) upd_same) (FD.few (fun d' hd' => ?_) ?_) (rr.set nld) (bb.own lfree)
    · rcases mem_set' hd' with h | h
      · exact (oS.fd d' h).mono (by decide) (Nat.le_refl _)
      · rw [h]; exact fx
    · rw [List.length_set, List.length_map]; omega
  refine ⟨_, rfl, _, _, rfl, rfl, _, rfl, ite2 (fun c => ?_) (fun c => ?_)⟩
  · have c := of_decide_eq_true c
    refine ⟨_, rfl, _, rfl, _, rfl, (by show 3 ≤ sizeLine; decide), fun u1 hu1 => ?_⟩
    have sHC := Same.new (o := .tup [v, .int o2, .int o3]) (Same.refl HB) hu1
    have fu1 : (upd HB u1 (.tup [v, .int o2, .int o3])) u1 = some (.tup [v, .int o2, .int o3]) := upd_same
    generalize upd HB u1 (.tup [v, .int o2, .int o3]) = HC at sHC fu1 ⊢
    refine ⟨_, rfl, _, rfl, _, rfl, (by show 3 ≤ sizeLine; decide), fun u2 hu2 => ?_⟩
    have sHD := Same.new (o := .tup [.int o1, v, .int o3]) (Same.refl HC) hu2
    have fu2 : (upd HC u2 (.tup [.int o1, v, .int o3])) u2 = some (.tup [.int o1, v, .int o3]) := upd_same
    generalize upd HC u2 (.tup [.int o1, v, .int o3]) = HD at sHD fu2 ⊢
    refine ⟨_, rfl, _, rfl, _, rfl, (by show 3 ≤ sizeLine; decide), fun u3 hu3 => ?_⟩
    have sHE := Same.new (o := .tup [.int o1, .int o2, v]) (Same.refl HD) hu3
    have fu3 : (upd HD u3 (.tup [.int o1, .int o2, v])) u3 = some (.tup [.int o1, .int o2, v]) := upd_same
    generalize upd HD u3 (.tup [.int o1, .int o2, v]) = HE at sHE fu3 ⊢
    refine ⟨_, rfl, _, rfl, _, rfl, _, rfl, (by show 3 ≤ sizeLine; decide), fun u4 hu4 => ?_⟩
    have sHF := Same.new (o := .tup [.int (-o1), .int o2, .int o3]) (Same.refl HE) hu4
    have fu4 : (upd HE u4 (.tup [.int (-o1), .int o2, .int o3])) u4 = some (.tup [.int (-o1), .int o2, .int o3]) := upd_same
    generalize upd HE u4 (.tup [.int (-o1), .int o2, .int o3]) = HF at sHF fu4 ⊢
    refine ⟨(by show 4 ≤ sizeLine; decide), fun ul hul => ?_⟩
    have sG := Same.new (o := .lst [.ref u1, .ref u2, .ref u3, .ref u4]) (Same.refl HF) hul
    have ful : (upd HF ul (.lst [.ref u1, .ref u2, .ref u3, .ref u4])) ul = some (.lst [.ref u1, .ref u2, .ref u3, .ref u4]) := upd_same
    generalize upd HF ul (.lst [.ref u1, .ref u2, .ref u3, .ref u4]) = HG at sG ful ⊢
    have g4' := sG _ _ fu4
    have g3' := sG _ _ (sHF _ _ fu3)
    have g2' := sG _ _ (sHF _ _ (sHE _ _ fu2))
    have g1' := sG _ _ (sHF _ _ (sHE _ _ (sHD _ _ fu1)))
    have sBG : Same HB HG := (((sHC.trans sHD).trans sHE).trans sHF).trans sG
    have hlG := sBG _ _ hlB
    have R' := RB.same sBG
    have B' : But d H HG := BB.trans (But.same sBG)
    have sAG : Same HA HG := sB.trans sBG
    have tvX : ∀ x, Th (upd HG l (.lst (xs.set j x))) v dv := fun x => tvA.up (Same.own sAG hl)
    have tpX : ∀ x, Tups HG (upd HG l (.lst (xs.set j x))) := fun x => Tups.lst (Tups.refl HG) hlG
    have i1 : FD 1 500 (.int o1) := fd1 (by omega)
    have i2 : FD 1 500 (.int o2) := fd1 (by omega)
    have i3 : FD 1 500 (.int o3) := fd1 (by omega)
    have hc : kd = 0 ∨ kd = 1 ∨ kd = 2 ∨ kd = 3 := by omega
    rcases hc with rfl | rfl | rfl | rfl
    · refine ⟨_, rfl, ul, _, _, _, rfl, rfl, SqL.of ful, rfl, _, rfl, _, rfl, l, xs, _, j, rfl, rfl, hlG, ixj, _, rfl, ?_⟩
      exact setF HG _ _ sBG.tups R' B' hlG ((ThL.cons (tvX _) (ThL.cons (.int _) (ThL.cons (.int _) ThL.nil))).tup (tpX _ _ _ g1')) (FD.t3 fv i2 i3)
    · refine ⟨_, rfl, ul, _, _, _, rfl, rfl, SqL.of ful, rfl, _, rfl, _, rfl, l, xs, _, j, rfl, rfl, hlG, ixj, _, rfl, ?_⟩
      exact setF HG _ _ sBG.tups R' B' hlG ((ThL.cons (.int _) (ThL.cons (tvX _) (ThL.cons (.int _) ThL.nil))).tup (tpX _ _ _ g2')) (FD.t3 i1 fv i3)
    · refine ⟨_, rfl, ul, _, _, _, rfl, rfl, SqL.of ful, rfl, _, rfl, _, rfl, l, xs, _, j, rfl, rfl, hlG, ixj, _, rfl, ?_⟩
      exact setF HG _ _ sBG.tups R' B' hlG ((ThL.cons (.int _) (ThL.cons (.int _) (ThL.cons (tvX _) ThL.nil))).tup (tpX _ _ _ g3')) (FD.t3 i1 i2 fv)
    · refine ⟨_, rfl, ul, _, _, _, rfl, rfl, SqL.of ful, rfl, _, rfl, _, rfl, l, xs, _, j, rfl, rfl, hlG, ixj, _, rfl, ?_⟩
      exact setF HG _ _ sBG.tups R' B' hlG ((ThL.cons (.int _) (ThL.cons (.int _) (ThL.cons (.int _) ThL.nil))).tup (tpX _ _ _ g4')) (FD.t3 (fd1 (by omega)) i2 i3)
  refine ⟨_, rfl, _, _, rfl, rfl, _, rfl, ite2 (fun c2 => ?_) (fun c2 => ?_)⟩
  · refine ⟨_, rfl, _, rfl, d, 8, rfl, RB, by decide, by decide, fun r3 HC r30 r31 RC BC => ?_⟩
    have tpC : Tups HB HC := But.tupsR BC RB
    have tpA : Tups HA HC := sB.tups.trans tpC
    have hlC := BC _ _ hlB nld
    have flC := BC _ _ (sB _ _ fl) ntl
    have g3C := BC _ _ (sB _ _ g3) nt3
    have tpX : ∀ x, Tups HC (upd HC l (.lst (xs.set j x))) := fun x => Tups.lst (Tups.refl HC) hlC
    have B' : But d H HC := BB.trans BC
    have hc : r3 = 0 ∨ r3 = 1 ∨ r3 = 2 ∨ r3 = 3 ∨ r3 = 4 ∨ r3 = 5 ∨ r3 = 6 ∨ r3 = 7 := by omega
    have i1 : FD 1 400 (.int o1) := FD.sm (by omega)
    rcases hc with rfl | rfl | rfl | rfl | rfl | rfl | rfl | rfl
    · refine ⟨tl, _, _, _, rfl, rfl, SqL.of flC, rfl, _, rfl, _, rfl, l, xs, _, j, rfl, rfl, hlC, ixj, _, rfl, ?_⟩
      exact setF HC _ _ tpC RC B' hlC ((ThL.cons (.int _) (ThL.cons (.int _) ThL.nil)).tup (tpX _ _ _ (tpA _ _ g1))) (FD.smallT (fun d' h => by simp at h; rcases h with rfl | rfl <;> exact FD.sm (by omega)) (Nat.le_of_ble_eq_true rfl))
    · refine ⟨tl, _, _, _, rfl, rfl, SqL.of flC, rfl, _, rfl, _, rfl, l, xs, _, j, rfl, rfl, hlC, ixj, _, rfl, ?_⟩
      exact setF HC _ _ tpC RC B' hlC ((ThL.cons (.int _) (ThL.cons (.int _) (ThL.cons (.int _) (ThL.cons (.int _) ThL.nil)))).tup (tpX _ _ _ (tpA _ _ g2))) (FD.smallT (fun d' h => by simp at h; rcases h with rfl | rfl | rfl | rfl <;> exact FD.sm (by omega)) (Nat.le_of_ble_eq_true rfl))
    · refine ⟨tl, _, _, _, rfl, rfl, SqL.of flC, rfl, _, rfl, _, rfl, l, xs, _, j, rfl, rfl, hlC, ixj, _, rfl, ?_⟩
      exact setF HC _ _ tpC RC B' hlC ((ThL.cons (.int _) (ThL.cons (.int _) (ThL.cons (.int _) ThL.nil))).lst (by rw [upd_ne nt3l]; exact g3C)) (FD.smallL (fun d' h => by simp at h; rcases h with rfl | rfl | rfl <;> exact FD.sm (by omega)) (Nat.le_of_ble_eq_true rfl))
    · refine ⟨tl, _, _, _, rfl, rfl, SqL.of flC, rfl, _, rfl, _, rfl, l, xs, _, j, rfl, rfl, hlC, ixj, _, rfl, ?_⟩
      exact setF HC _ _ tpC RC B' hlC (.int _) ((FD.sm (by omega)).mono (Nat.le_refl _) (by decide))
    · refine ⟨tl, _, _, _, rfl, rfl, SqL.of flC, rfl, _, rfl, _, rfl, l, xs, _, j, rfl, rfl, hlC, ixj, _, rfl, ?_⟩
      exact setF HC _ _ tpC RC B' hlC .non (FD.non.mono (Nat.le_refl _) (by decide))
    · refine ⟨tl, _, _, _, rfl, rfl, SqL.of flC, rfl, _, rfl, _, rfl, l, xs, _, j, rfl, rfl, hlC, ixj, _, rfl, ?_⟩
      exact setF HC _ _ tpC RC B' hlC (ThL.nil.tup (tpX _ _ _ (tpA _ _ g4))) (FD.smallT (n := 1) (fun d' h => by cases h) (by decide))
    · refine ⟨tl, _, _, _, rfl, rfl, SqL.of flC, rfl, _, rfl, _, rfl, l, xs, _, j, rfl, rfl, hlC, ixj, _, rfl, ?_⟩
      exact setF HC _ _ tpC RC B' hlC (.str _) ((FD.str "123" (by decide +kernel) (by decide +kernel) rfl).mono (Nat.le_refl _) (by decide))
    · refine ⟨tl, _, _, _, rfl, rfl, SqL.of flC, rfl, _, rfl, _, rfl, l, xs, _, j, rfl, rfl, hlC, ixj, _, rfl, ?_⟩
      exact setF HC _ _ tpC RC B' hlC ((ThL.cons (.int _) (ThL.cons (.int _) (ThL.cons (.int _) ThL.nil))).tup (tpX _ _ _ (tpA _ _ g5))) (FD.smallT (fun d' h => by simp at h; rcases h with rfl | rfl | rfl <;> exact FD.sm (by omega)) (Nat.le_of_ble_eq_true rfl))
  have thB : ThL HB xs (S.map dT) := TuL.th tSB
  have fdS : ∀ d' ∈ S.map dT, FD 2 3000 d' := fun d' h => (oS.fd d' h).mono (by decide) (Nat.le_refl _)
  have lm : (S.map dT).length ≤ 12 := by rw [List.length_map]; omega
  refine ⟨_, rfl, rfl, _, rfl, ite2 (fun c3 => ?_) (fun c3 => ?_)⟩
  · have hqB : HB q = some (.tup ([o1, o2, o3].map V.int)) := by
      obtain ⟨q', e', h'⟩ := tSB.2 j _ _ ex eS
      cases e'
      rw [e3] at h'
      exact h'
    refine ⟨_, rfl, _, rfl, _, rfl, b, xs, _, _, rfl, rfl, SqL.of hbB, atI_nat ex, (by show 1 ≤ sizeLine; decide), fun u1 hu1 => ?_⟩
    have sC := Same.new (o := .lst [.ref q]) (Same.refl HB) hu1
    have fu1 : (upd HB u1 (.lst [.ref q])) u1 = some (.lst [.ref q]) := upd_same
    generalize upd HB u1 (.lst [.ref q]) = HC at sC fu1 ⊢
    refine ⟨l, u1, _, _, rfl, rfl, sC _ _ hlB, fu1, Nat.le_trans (show xs.length + 1 ≤ 1000 by omega) (by decide), fun l2 hl2 => ⟨_, rfl, ?_⟩⟩
    have sD := Same.new (o := .lst (xs ++ [.ref q])) sC hl2
    refine k _ (.list (S.map dT ++ [dT [o1, o2, o3]])) _ (ThL.lst ((thB.up sD).append (ThL.cons ((ThL.ints [o1, o2, o3]).tup (sD _ _ hqB)) ThL.nil)) upd_same) (FD.few (fun d' h => ?_) (by rw [List.length_append]; simp only [List.length_cons, List.length_nil]; omega)) (RB.same sD) (BB.trans (But.same sD))
    rcases List.mem_append.mp h with h | h
    · exact fdS d' h
    · rw [List.mem_singleton.mp h]
      exact FD.smallT (n := 1) (fun x hx => by simp at hx; rcases hx with rfl | rfl | rfl <;> exact FD.sm (by omega)) (Nat.le_of_ble_eq_true rfl)
  refine ⟨_, rfl, rfl, _, rfl, ite2 (fun c4 => ?_) (fun c4 => ?_)⟩
  · refine ⟨_, rfl, .inl ⟨rfl, _, SqL.of hlB⟩, _, rfl, l, xs, (j : Int), j, _, rfl, rfl, hlB, by omega, by omega, (ixN_seq ixj).1, ex, _, rfl, ?_⟩
    refine k _ (.list ((S.map dT).eraseIdx j)) _ (ThL.lst ((TuL.th (tSB.up (Tups.lst (Tups.refl HB) hlB))).erase j) upd_same) (FD.few (fun d' h => fdS d' (List.mem_of_mem_eraseIdx h)) (Nat.le_trans (List.length_eraseIdx_le _ _) (by omega))) (RB.set nld) (BB.own lfree)
  refine ⟨_, rfl, rfl, _, rfl, ite2 (fun c5 => ?_) (fun c5 => ?_)⟩
  · refine ⟨_, rfl, _, rfl, _, _, rfl, rfl, _, rfl, _, _, rfl, rfl, _, rfl, _, _, rfl, rfl, (by show 3 ≤ sizeLine; decide), fun u1 hu1 => ?_⟩
    have sC := Same.new (o := .tup [.int (fr + 1), .int (fr + 2), .int (fr + 3)]) (Same.refl HB) hu1
    have fu1 : (upd HB u1 (.tup [.int (fr + 1), .int (fr + 2), .int (fr + 3)])) u1 = some (.tup [.int (fr + 1), .int (fr + 2), .int (fr + 3)]) := upd_same
    show tTup _ _ (upd HB u1 (.tup [.int (fr + 1), .int (fr + 2), .int (fr + 3)])) _
    generalize upd HB u1 (.tup [.int (fr + 1), .int (fr + 2), .int (fr + 3)]) = HC at sC fu1 ⊢
    refine ⟨_, rfl, _, rfl, _, _, rfl, rfl, _, rfl, _, _, rfl, rfl, _, rfl, _, _, rfl, rfl, (by show 3 ≤ sizeLine; decide), fun u2 hu2 => ?_⟩
    have sD := Same.new (o := .tup [.int (-fr - 1), .int (fr + 2), .int (fr + 3)]) (Same.refl HC) hu2
    have fu2 : (upd HC u2 (.tup [.int (-fr - 1), .int (fr + 2), .int (fr + 3)])) u2 = some (.tup [.int (-fr - 1), .int (fr + 2), .int (fr + 3)]) := upd_same
    refine ⟨(by show 2 ≤ sizeLine; decide), fun ul hul => ?_⟩
    have sE := Same.new (o := .lst [.ref u1, .ref u2]) (Same.refl (upd HC u2 (.tup [.int (-fr - 1), .int (fr + 2), .int (fr + 3)]))) hul
    refine ⟨l, ul, _, _, rfl, rfl, sE _ _ (sD _ _ (sC _ _ hlB)), upd_same, Nat.le_trans (show xs.length + 2 ≤ 1000 by omega) (by decide), fun l2 hl2 => ⟨_, rfl, ?_⟩⟩
    have sF := Same.new (o := .lst (xs ++ [.ref u1, .ref u2])) (Same.refl _) hl2
    have sBF := ((sC.trans sD).trans sE).trans sF
    refine k _ (.list (S.map dT ++ [.tuple [.int (fr + 1), .int (fr + 2), .int (fr + 3)], .tuple [.int (-fr - 1), .int (fr + 2), .int (fr + 3)]])) _ (ThL.lst ((thB.up sBF).append (ThL.cons ((ThL.cons (.int _) (ThL.cons (.int _) (ThL.cons (.int _) ThL.nil))).tup (sF _ _ (sE _ _ (sD _ _ fu1)))) (ThL.cons ((ThL.cons (.int _) (ThL.cons (.int _) (ThL.cons (.int _) ThL.nil))).tup (sF _ _ (sE _ _ fu2))) ThL.nil))) upd_same) (FD.few (fun d' h => ?_) (by rw [List.length_append]; simp only [List.length_cons, List.length_nil]; omega)) (RB.same sBF) (BB.trans (But.same sBF))
    rcases List.mem_append.mp h with h | h
    · exact fdS d' h
    · simp at h
      rcases h with rfl | rfl
      · exact FD.smallT (n := 1) (fun x hx => by simp at hx; rcases hx with rfl | rfl | rfl <;> exact FD.sm (by omega)) (Nat.le_of_ble_eq_true rfl)
      · exact FD.smallT (n := 1) (fun x hx => by simp at hx; rcases hx with rfl | rfl | rfl <;> exact FD.sm (by omega)) (Nat.le_of_ble_eq_true rfl)
  refine ⟨_, rfl, rfl, _, rfl, ite2 (fun c6 => ?_) (fun c6 => ?_)⟩
  · refine ⟨_, rfl, l, xs, rfl, .inl ⟨SqL.of hlB, fun u1 hu1 => ⟨_, rfl, ?_⟩⟩⟩
    have sC := Same.new (o := .tup xs) (Same.refl HB) hu1
    exact k _ (.tuple (S.map dT)) _ ((thB.up sC).tup upd_same) (FD.fewT fdS (by omega)) (RB.same sC) (BB.trans (But.same sC))
  refine ⟨_, rfl, rfl, _, rfl, ite2 (fun c7 => ?_) (fun c7 => ?_)⟩
  · refine ⟨(by show 0 ≤ sizeLine; decide), fun u1 hu1 => ?_⟩
    have n1 := RB.ne hu1
    have sC := Same.new (o := .lst []) (Same.refl HB) hu1
    have fu1 : (upd HB u1 (.lst [])) u1 = some (.lst []) := upd_same
    generalize upd HB u1 (.lst []) = HC at sC fu1 ⊢
    refine ⟨(by show 0 ≤ sizeLine; decide), fun u2 hu2 => ?_⟩
    have n2 := (RB.same sC).ne hu2
    have sD := Same.new (o := .lst []) (Same.refl HC) hu2
    have fu2 : (upd HC u2 (.lst [])) u2 = some (.lst []) := upd_same
    generalize upd HC u2 (.lst []) = HD at sD fu2 ⊢
    refine ⟨(by show 1 ≤ sizeLine; decide), fun u3 hu3 => ?_⟩
    have n3 := (RB.same (sC.trans sD)).ne hu3
    have sE := Same.new (o := .lst [.ref u2]) (Same.refl HD) hu3
    have fu3 : (upd HD u3 (.lst [.ref u2])) u3 = some (.lst [.ref u2]) := upd_same
    generalize upd HD u3 (.lst [.ref u2]) = HE at sE fu3 ⊢
    refine ⟨(by show 0 ≤ sizeLine; decide), fun u4 hu4 => ?_⟩
    have n4 := (RB.same ((sC.trans sD).trans sE)).ne hu4
    have sF := Same.new (o := .tup []) (Same.refl HE) hu4
    have fu4 : (upd HE u4 (.tup [])) u4 = some (.tup []) := upd_same
    generalize upd HE u4 (.tup []) = HF at sF fu4 ⊢
    refine ⟨(by show 1 ≤ sizeLine; decide), fun u5 hu5 => ?_⟩
    have n5 := (RB.same (((sC.trans sD).trans sE).trans sF)).ne hu5
    have sG := Same.new (o := .lst [.non]) (Same.refl HF) hu5
    have fu5 : (upd HF u5 (.lst [.non])) u5 = some (.lst [.non]) := upd_same
    generalize upd HF u5 (.lst [.non]) = HG at sG fu5 ⊢
    refine ⟨(by show 8 ≤ sizeLine; decide), fun ul hul => ?_⟩
    have n6 := (RB.same ((((sC.trans sD).trans sE).trans sF).trans sG)).ne hul
    have sI := Same.new (o := .lst [.non, .int 0, .bl true, .str "1 1 2 / 2 3 3", .ref u1, .ref u3, .ref u4, .ref u5]) (Same.refl HG) hul
    have ful : (upd HG ul (.lst [.non, .int 0, .bl true, .str "1 1 2 / 2 3 3", .ref u1, .ref u3, .ref u4, .ref u5])) ul = some (.lst [.non, .int 0, .bl true, .str "1 1 2 / 2 3 3", .ref u1, .ref u3, .ref u4, .ref u5]) := upd_same
    generalize upd HG ul (.lst [.non, .int 0, .bl true, .str "1 1 2 / 2 3 3", .ref u1, .ref u3, .ref u4, .ref u5]) = HI at sI ful ⊢
    have sBI := ((((sC.trans sD).trans sE).trans sF).trans sG).trans sI
    have RI := RB.same sBI
    refine ⟨_, rfl, d, 8, rfl, RI, by decide, by decide, fun r3 HJ r30 r31 RJ BJ => ?_⟩
    have fulJ := BJ _ _ ful n6
    have h5 := BJ _ _ (sI _ _ fu5) n5
    have h4 := BJ _ _ (sI _ _ (sG _ _ fu4)) n4
    have h3 := BJ _ _ (sI _ _ (sG _ _ (sF _ _ fu3))) n3
    have h2 := BJ _ _ (sI _ _ (sG _ _ (sF _ _ (sE _ _ fu2)))) n2
    have h1 := BJ _ _ (sI _ _ (sG _ _ (sF _ _ (sE _ _ (sD _ _ fu1))))) n1
    have B' : But d H HJ := (BB.trans (But.same sBI)).trans BJ
    have hc : r3 = 0 ∨ r3 = 1 ∨ r3 = 2 ∨ r3 = 3 ∨ r3 = 4 ∨ r3 = 5 ∨ r3 = 6 ∨ r3 = 7 := by omega
    have fN : FD 2 3000 .none := FD.non.mono (Nat.le_refl _) (by decide)
    have f0 : FD 2 3000 (.list []) := FD.smallL (n := 1) (fun d' h => by cases h) (by decide)
    rcases hc with rfl | rfl | rfl | rfl | rfl | rfl | rfl | rfl
    · refine ⟨ul, _, _, _, rfl, rfl, SqL.of fulJ, rfl, _, rfl, ?_⟩
      exact k _ _ _ .non (FD.non.mono (Nat.le_refl _) (by decide)) RJ B'
    · refine ⟨ul, _, _, _, rfl, rfl, SqL.of fulJ, rfl, _, rfl, ?_⟩
      exact k _ _ _ (.int _) ((FD.sm (by decide)).mono (Nat.le_refl _) (by decide)) RJ B'
    · refine ⟨ul, _, _, _, rfl, rfl, SqL.of fulJ, rfl, _, rfl, ?_⟩
      exact k _ _ _ (.bl _) ((FD.bl _).mono (Nat.le_refl _) (by decide)) RJ B'
    · refine ⟨ul, _, _, _, rfl, rfl, SqL.of fulJ, rfl, _, rfl, ?_⟩
      exact k _ _ _ (.str _) ((FD.str "1 1 2 / 2 3 3" (by decide +kernel) (by decide +kernel) rfl).mono (Nat.le_refl _) (by decide)) RJ B'
    · refine ⟨ul, _, _, _, rfl, rfl, SqL.of fulJ, rfl, _, rfl, ?_⟩
      exact k _ _ _ (ThL.nil.lst h1) (FD.few (n := 2) (fun d' h => by cases h) (by decide)) RJ B'
    · refine ⟨ul, _, _, _, rfl, rfl, SqL.of fulJ, rfl, _, rfl, ?_⟩
      exact k _ _ _ ((ThL.cons (ThL.nil.lst h2) ThL.nil).lst h3) (FD.few (n := 2) (fun d' h => by rw [List.mem_singleton.mp h]; exact f0) (by decide)) RJ B'
    · refine ⟨ul, _, _, _, rfl, rfl, SqL.of fulJ, rfl, _, rfl, ?_⟩
      exact k _ _ _ (ThL.nil.tup h4) (FD.fewT (n := 2) (fun d' h => by cases h) (by decide)) RJ B'
    · refine ⟨ul, _, _, _, rfl, rfl, SqL.of fulJ, rfl, _, rfl, ?_⟩
      exact k _ _ _ ((ThL.cons .non ThL.nil).lst h5) (FD.few (n := 2) (fun d' h => by rw [List.mem_singleton.mp h]; exact fN) (by decide)) RJ B'
  refine ⟨_, rfl, rfl, _, rfl, ite2 (fun c8 => ?_) (fun c8 => ?_)⟩
  · refine ⟨_, rfl, _, rfl, _, rfl, (by show 3 ≤ sizeLine; decide), fun u1 hu1 => ?_⟩
    have sC := Same.new (o := .tup [.int o1, .int o3, .int o2]) (Same.refl HB) hu1
    have fu1 : (upd HB u1 (.tup [.int o1, .int o3, .int o2])) u1 = some (.tup [.int o1, .int o3, .int o2]) := upd_same
    generalize upd HB u1 (.tup [.int o1, .int o3, .int o2]) = HC at sC fu1 ⊢
    have hlC := sC _ _ hlB
    refine ⟨_, rfl, _, rfl, l, xs, _, j, rfl, rfl, hlC, ixj, _, rfl, ?_⟩
    exact setF HC _ _ sC.tups (RB.same sC) (BB.trans (But.same sC)) hlC ((ThL.cons (.int _) (ThL.cons (.int _) (ThL.cons (.int _) ThL.nil))).tup (Tups.lst (Tups.refl HC) hlC _ _ fu1)) (FD.smallT (fun d' h => by simp at h; rcases h with rfl | rfl | rfl <;> exact FD.sm (by omega)) (Nat.le_of_ble_eq_true rfl))
  · refine ⟨_, rfl, _, rfl, _, rfl, rfl, l, xs, rfl, SqL.of hlB, fun u1 hu1 => ⟨_, rfl, ?_⟩⟩
    have sC := Same.new (o := .lst xs.reverse) (Same.refl HB) hu1
    exact k _ (.list (S.map dT).reverse) _ (ThL.lst (thB.up sC).rev upd_same) (FD.few (fun d' h => fdS d' (List.mem_reverse.mp h)) (by rw [List.length_reverse]; omega)) (RB.same sC) (BB.trans (But.same sC))
end Toy

set_option Elab.async false
set_option linter.all false
set_option maxRecDepth 100000
set_option maxHeartbeats 1000000
namespace Toy
open PySem L2 PyProof.Rows
section
variable {P : Program} {w : World} {K : PySem.W.Frag} {mg : Str → Option Value} {base : Heap}
abbrev s__law_bent : Stmt := top 13
theorem sc__law_bent : FnScope ["_law_sheet_here", "_law_rest", "_law_at", "_law_one", "_law_two", "_law_three", "_law_kind", "_law_far", "_law_side", "_law_triangle", "_law_made"] ["_law_sheet_here", "_law_rest"] (defScope s__law_bent) := ⟨rfl, rfl, rfl, by decide +kernel, rfl, by decide +kernel, by decide +kernel⟩
def sdX : Expr := match (defBody s__law_bent).getD 4 (.Pass ⟨0, 0, 0, 0⟩) with
  | .Assign _ (.Subscript e _ _) _ => e
  | _ => .Tuple [] 0 ⟨0, 0, 0, 0⟩
def trX : Expr := match (defBody s__law_bent).getD 5 (.Pass ⟨0, 0, 0, 0⟩) with
  | .Assign _ e _ => e
  | _ => .Tuple [] 0 ⟨0, 0, 0, 0⟩
def f4X : Expr := match (defBody s__law_bent).getD 7 (.Pass ⟨0, 0, 0, 0⟩) with
  | .If _ (.Assign _ (.Subscript e _ _) _ :: _) _ _ => e
  | _ => .Tuple [] 0 ⟨0, 0, 0, 0⟩
def noX : Expr := match (defBody s__law_bent).getD 7 (.Pass ⟨0, 0, 0, 0⟩) with
  | .If _ _ [.If _ _ [.If _ _ [.If _ _ [.If _ _ [.If _ _ [.If _ (.Assign _ (.Subscript e _ _) _ :: _) _ _] _] _] _] _] _] _ => e
  | _ => .Tuple [] 0 ⟨0, 0, 0, 0⟩
def twX : Expr := match (defBody s__law_bent).getD 7 (.Pass ⟨0, 0, 0, 0⟩) with
  | .If _ _ [.If _ _ [.If _ _ [.If _ _ [.If _ (.Assign _ (.BinOp _ _ e _) _ :: _) _ _] _] _] _] _ => e
  | _ => .Tuple [] 0 ⟨0, 0, 0, 0⟩
def bodyB (e f g h j : Expr) : List Stmt := match defBody s__law_bent with
  | a :: b :: c :: d :: .Assign t1 (.Subscript _ i1 p1) q1 :: .Assign t2 _ q2 :: m :: .If c0 (.Assign t3 (.Subscript _ i3 p3) q3 :: r3) [.If c1 b1 [.If c2 b2 [.If c3 b3 [.If c4 (.Assign t5 (.BinOp l5 o5 _ p5) q5 :: r5) [.If c5 b5 [.If c6 (.Assign t4 (.Subscript _ i4 p4) q4 :: r4) o6 z6] z5] z4] z3] z2] z1] z0 :: r =>
    a :: b :: c :: d :: .Assign t1 (.Subscript e i1 p1) q1 :: .Assign t2 f q2 :: m :: .If c0 (.Assign t3 (.Subscript g i3 p3) q3 :: r3) [.If c1 b1 [.If c2 b2 [.If c3 b3 [.If c4 (.Assign t5 (.BinOp l5 o5 j p5) q5 :: r5) [.If c5 b5 [.If c6 (.Assign t4 (.Subscript h i4 p4) q4 :: r4) o6 z6] z5] z4] z3] z2] z1] z0 :: r
  | r => r
theorem swapE4 {X : Cx} {b : Expr → Expr → Expr → Expr → Expr → List Stmt} {e f g h j : Expr} {te tf tg th tj : TE} {R : TS → Prop} (he : PE X e te) (hf : PE X f tf) (hw : ∀ t l env, swapsWith f t l env = pure false) (hg : PE X g tg) (hh : PE X h th) (hj : PE X j tj)
    (k : ∀ e' f' g' h' j', PE X e' te → PE X f' tf → (∀ t l env, swapsWith f' t l env = pure false) → PE X g' tg → PE X h' th → PE X j' tj → ∃ T, PSs X (b e' f' g' h' j') T ∧ R T) : ∃ T, PSs X (b e f g h j) T ∧ R T := k e f g h j he hf hw hg hh hj
set_option maxHeartbeats 6000000 in
theorem ok_bent {f : Addr} {fd : FuncData} (F : Fun K "_law_bent" "_law_bent" s__law_bent f fd) (M : Txt mg) (G_law_digit : Kn P w K mg base "_law_digit" 1 ["_law_rest", "_law_many"] spDigit) : FnOk P w K mg base CX0 2 f fd ["_law_sheet_here", "_law_rest"] spBent := by
  have sc := sc__law_bent
  refine F.ok sc (fun vs H Q E h => ?_) (fun cdv A outer s H vs Q E hr h => ?_)
  · obtain ⟨b, d, xs, S, rfl, _⟩ := h
    rfl
  · obtain ⟨b, d, xs, S, rfl, hb, tS, oS, R0, nbd, k⟩ := h
    refine swapE4 (b := bodyB) (e := sdX) (f := trX) (g := f4X) (h := noX) (j := twX)
      (pe_l10 (pe_op op_add (pv 7) pe_int) pe_int (pe_op op_sub (pe_un un_neg (pv 7)) pe_int) (pv 4) (pe_un un_neg (pv 3)) pe_bl pe_non pe_str (pe_op op_pow pe_int pe_int) (pe_tup (pa_Constant pe_int pa_nil)))
      (pe_l8 (pe_tup (pa_o2 (pv 3) (pv 4) pa_nil)) (pe_tup (pa_o4 (pv 3) (pv 4) (pv 5) (pv 3) pa_nil)) (pe_lst (pa_o3 (pv 3) (pv 4) (pv 5) pa_nil)) (pv 3) pe_non (pe_tup pa_nil) pe_str (pe_tup (pa_o3 (pe_un un_neg (pv 5)) (pe_un un_neg (pv 4)) (pe_un un_neg (pv 3)) pa_nil))) (fun _ _ _ => rfl)
      (pe_lst (pa_o4 (pe_tup (pa_o3 (pv 8) (pv 4) (pv 5) pa_nil)) (pe_tup (pa_o3 (pv 3) (pv 8) (pv 5) pa_nil)) (pe_tup (pa_o3 (pv 3) (pv 4) (pv 8) pa_nil)) (pe_tup (pa_o3 (pe_un un_neg (pv 3)) (pv 4) (pv 5) pa_nil)) pa_nil))
      (pe_l8 pe_non pe_int pe_bl pe_str (pe_lst pa_nil) (pe_lst (pa_List (pe_lst pa_nil) pa_nil)) (pe_tup pa_nil) (pe_lst (pa_Constant pe_non pa_nil)))
      (pe_lst (pa_o2 (pe_tup (pa_o3 (pe_op op_add (pv 7) pe_int) (pe_op op_add (pv 7) pe_int) (pe_op op_add (pv 7) pe_int) pa_nil)) (pe_tup (pa_o3 (pe_op op_sub (pe_un un_neg (pv 7)) pe_int) (pe_op op_add (pv 7) pe_int) (pe_op op_add (pv 7) pe_int) pa_nil)) pa_nil))
      (fun e f' g h' j he hf hw hg hh hj => ?_)
    refine ⟨_, (pss_cons (ps_set (i := 2) sc.nd rfl (Or.inl rfl) (pe_callD G_law_digit hr rfl (pa_Name (pv 1) (pa_Call (pe_callB (call_lenK (K := K)) (by rfl) M.len PySem.boot_len (pa_Name (pv 0) pa_nil)) pa_nil))))
      (pss_cons (ps_asg (pe_ix (ix_listK (K := K)) (pv 0) (pv 2) (fun _ _ => rfl)) (pg_tup rfl (pgs_cons (pg_name (i := 3) sc.nd rfl (Or.inl rfl)) (pgs_cons (pg_name (i := 4) sc.nd rfl (Or.inl rfl)) (pgs_cons (pg_name (i := 5) sc.nd rfl (Or.inl rfl)) pgs_nil)))))
      (pss_cons (ps_set (i := 6) sc.nd rfl (Or.inl rfl) (pe_callD G_law_digit hr rfl (pa_Name (pv 1) (pa_Constant pe_int pa_nil))))
      (pss_cons (ps_set (i := 7) sc.nd rfl (Or.inl rfl) (pe_op op_fdivL (pe_op op_mul (pe_callB (call_lenK (K := K)) (by rfl) M.len PySem.boot_len (pa_Name (pv 0) pa_nil)) pe_int) pe_int))
      (pss_cons (ps_set (i := 8) sc.nd rfl (Or.inl rfl) (pe_ix (ix_listK (K := K)) he (pe_callD G_law_digit hr rfl (pa_Name (pv 1) (pa_Constant pe_int pa_nil))) (fun _ _ => rfl)) sw_sub)
      (pss_cons (ps_set (i := 9) sc.nd rfl (Or.inl rfl) hf (hw _ _ _))
      (pss_cons (ps_set (i := 10) sc.nd rfl (Or.inl rfl) (pe_callTy call_list_of (by rfl) M.list boot_list (pa_Name (pv 0) pa_nil)))
      (pss_cons (ps_if (pt_cmpR op_lt (pv 6) pe_int (nomark _)) (pss_one (ps_asg (pe_ix (ix_listK (K := K)) hg (pv 6) (fun _ _ => rfl)) (pg_sub (pv 10) (pv 2) set_list))) (pss_one (ps_if (pt_cmpR op_lt (pv 6) pe_int (nomark _)) (pss_one (ps_asg (pe_ix (ix_listK (K := K)) (pv 9) (pe_callD G_law_digit hr rfl (pa_Name (pv 1) (pa_Constant pe_int pa_nil))) (fun _ _ => rfl)) (pg_sub (pv 10) (pv 2) set_list))) (pss_one (ps_if (pt_cmpR op_eq (pv 6) pe_int (nomark _)) (pss_one (ps_set (i := 10) sc.nd rfl (Or.inl rfl) (pe_op op_cat (pv 10) (pe_lst (pa_Subscript (pe_ix (ix_listK (K := K)) (pv 0) (pv 2) (fun _ _ => rfl)) pa_nil))))) (pss_one (ps_if (pt_cmpR op_eq (pv 6) pe_int (nomark _)) (pss_one (ps_expr (pe_bm PySem.F.plainAttrs_list PySem.F.slot_list_pop PySem.F.type_list_pop mt_popAt (pv 10) (pa_Name (pv 2) pa_nil)))) (pss_one (ps_if (pt_cmpR op_eq (pv 6) pe_int (nomark _)) (pss_one (ps_set (i := 10) sc.nd rfl (Or.inl rfl) (pe_op op_cat (pv 10) hj))) (pss_one (ps_if (pt_cmpR op_eq (pv 6) pe_int (nomark _)) (pss_one (ps_set (i := 10) sc.nd rfl (Or.inl rfl) (pe_callTy call_tuple_of (by rfl) M.tuple boot_tuple (pa_Name (pv 10) pa_nil)))) (pss_one (ps_if (pt_cmpR op_eq (pv 6) pe_int (nomark _)) (pss_one (ps_set (i := 10) sc.nd rfl (Or.inl rfl) (pe_ix (ix_listK (K := K)) hh (pe_callD G_law_digit hr rfl (pa_Name (pv 1) (pa_Constant pe_int pa_nil))) (fun _ _ => rfl)) sw_sub)) (pss_one (ps_if (pt_cmpR op_eq (pv 6) pe_int (nomark _)) (pss_one (ps_asg (pe_tup (pa_o3 (pv 3) (pv 5) (pv 4) pa_nil)) (pg_sub (pv 10) (pv 2) set_list))) (pss_one (ps_set (i := 10) sc.nd rfl (Or.inl rfl) (pe_rev (pv 10) (po_some (pe_un un_neg pe_int))) sw_sub)))))))))))))))))
      (pss_one (ps_ret (pv 10))))))))))), ?_⟩
    exact bent_reads hb tS oS R0 nbd k
end
end Toy

set_option Elab.async false
set_option linter.all false
set_option maxRecDepth 100000
set_option maxHeartbeats 1000000
/-
  len : mg "len" = none
  range : mg "range" = none
  min : mg "min" = none
  max : mg "max" = none
  isinstance : mg "isinstance" = none
  bool : mg "bool" = none
  int : mg "int" = none
  tuple : mg "tuple" = none
  list : mg "list" = none
  str : mg "str" = none
  all : mg "all" = none
  sum : mg "sum" = none
  sorted : mg "sorted" = none
-/
namespace Toy
open PySem L2 PyProof.Rows
section
variable {P : Program} {w : World} {K : PySem.W.Frag} {mg : Str → Option Value} {base : Heap}
def spLaw (K : PySem.W.Frag) : Sp := fun vs H Q _ => ∃ (a : Addr) (ns : List Int), vs = [.ref a] ∧ SqL K H a (ns.map V.int) ∧ ns.length ≤ 63 ∧ ∀ H', Q (.bl true) H'
abbrev s_law : Stmt := top 14
theorem sc_law : FnScope ["_law_script", "_law_rest", "_law_sheet_here", "_law_k", "_law_made", "_law_kept", "_law_told"] ["_law_script"] (defScope s_law) := ⟨rfl, rfl, rfl, by decide +kernel, rfl, by decide +kernel, by decide +kernel⟩
theorem ok_law {f : Addr} {fd : FuncData} (F : Fun K "law" "law" s_law f fd) (M : Txt mg) (G_law_big : Kn P w K mg base "_law_big" 2 ["_law_script", "_law_at"] (spBig K)) (G_law_sheet : Kn P w K mg base "_law_sheet" 2 ["_law_rest"] spSheet) (Gis_sheet : Kn P w K mg base "is_sheet" 3 ["thing"] spIsS) (G_law_bent : Kn P w K mg base "_law_bent" 2 ["_law_sheet_here", "_law_rest"] spBent) (G_law_is_sheet : Kn P w K mg base "_law_is_sheet" 1 ["_law_thing"] spIsS) (B : Gb mg) : FnOk P w K mg base CX0 6 f fd ["_law_script"] (spLaw K) := by
  have sc := sc_law
  refine F.ok sc (fun vs H Q E h => ?_) (fun cdv A outer s H vs Q E hr h => ?_)
  · obtain ⟨a, ns, rfl, _⟩ := h
    rfl
  · obtain ⟨a, ns, rfl, hS, hl, k⟩ := h
    refine ⟨_, (pss_cons (ps_set (i := 1) sc.nd rfl (Or.inl rfl) (pe_lst (pa_Call (pe_callD G_law_big hr rfl (pa_Name (pv 0) (pa_Constant pe_int pa_nil))) pa_nil)))
      (pss_cons (ps_set (i := 2) sc.nd rfl (Or.inl rfl) (pe_callD G_law_sheet hr rfl (pa_Name (pv 1) pa_nil)))
      (pss_cons (ps_if (pt_cmpR op_isnotB (pe_callD Gis_sheet hr rfl (pa_Call (pe_callTy call_list_of (by rfl) M.list boot_list (pa_Name (pv 2) pa_nil)) pa_nil)) pe_bl (nomark _)) (pss_one (ps_ret pe_bl)) pss_nil)
      (pss_cons (ps_for PassesOwn.never rfl (pi_range1 rfl M.range (pa_Call (pe_callB (call_max2 rfl) (by rfl) M.max boot_max (pa_Constant pe_int (pa_Call (pe_callB (call_min2 rfl) (by rfl) M.min boot_min (pa_Constant pe_int (pa_BinOp (pe_op op_sub (pe_callB (call_lenK (K := K)) (by rfl) M.len PySem.boot_len (pa_Name (pv 0) pa_nil)) pe_int) pa_nil))) pa_nil))) pa_nil)) (pg_name (i := 3) sc.nd rfl (Or.inl rfl))
      (pss_cons (ps_set (i := 1) sc.nd rfl (Or.inl rfl) (pe_lst (pa_Call (pe_callD G_law_big hr rfl (pa_Name (pv 0) (pa_BinOp (pe_op op_add pe_int (pv 3)) pa_nil))) pa_nil)))
      (pss_cons (ps_set (i := 4) sc.nd rfl (Or.inl rfl) (pe_callD G_law_bent hr rfl (pa_Name (pv 2) (pa_Name (pv 1) pa_nil))))
      (pss_cons (ps_set (i := 5) sc.nd rfl (Or.inl rfl) (pe_callB (call_reprD hr) (by rfl) B.rp boot_repr (pa_Name (pv 4) pa_nil)))
      (pss_cons (ps_set (i := 6) sc.nd rfl (Or.inl rfl) (pe_callD Gis_sheet hr rfl (pa_Name (pv 4) pa_nil)))
      (pss_one (ps_if (PW.pt (pw_or (pt_not (pt_val (pe_callB (call_isinstK (T := "bool") (K := K)) (by rfl) M.isinstance boot_isinstance (pa_Name (pv 6) (pa_Name (pe_bltn (v := .ty "bool") rfl M.bool boot_bool rfl) pa_nil))))) (pw_or (pt_cmpR op_ne (pv 6) (pe_callD G_law_is_sheet hr rfl (pa_Name (pv 4) pa_nil)) (nomark _)) (pw_or1 (pt_cmpR op_ne (pe_callB (call_reprD hr) (by rfl) B.rp boot_repr (pa_Name (pv 4) pa_nil)) (pv 5) (nomark _)))))) (pss_one (ps_ret pe_bl)) pss_nil)))))))
      (pss_one (ps_ret pe_bl)))))), ?_⟩
    refine ⟨_, rfl, a, ns, 0, rfl, hS, by decide, fun n H1 S1 => ⟨(by show 1 ≤ sizeLine; decide), fun d hd => ?_⟩⟩
    have s2 := Same.new (o := .lst [.int n]) S1 hd
    have df : H d = none := S1.free hd
    have R2 : Rest (upd H1 d (.lst [.int n])) d := ⟨n, upd_same⟩
    generalize upd H1 d (.lst [.int n]) = H2 at s2 R2 ⊢
    refine ⟨_, rfl, d, rfl, R2, fun b xs S H3 bf hb tS oS R3 B3 => ?_⟩
    have nbd : b ≠ d := fun z => by
      obtain ⟨m, e⟩ := R2
      rw [z, e] at bf
      cases bf
    have s3 : Same H H3 := Same.but s2 df B3
    refine ⟨_, rfl, b, xs, rfl, .inl (SqL.of hb), fun l hl => ?_⟩
    have s4 := Same.new (o := .lst xs) (Same.refl H3) hl
    refine ⟨_, dTs S, rfl, ((TuL.th tS).up s4).lst upd_same, fun H5 s5 => ⟨_, _, rfl, rfl, _, rfl, ?_⟩⟩
    rw [isS_sheet oS]
    refine iteF ?_
    have s6 : Same H3 H5 := s4.trans s5
    have hb5 := s6 _ _ hb
    have tS5 := tS.up s6.tups
    have s05 := s3.trans s6
    have R5 := R3.same s6
    clear s5 s4 hl s6
    refine ⟨_, rfl, a, _, rfl, .inl (s05.seq hS), _, _, rfl, rfl, _, _, rfl, _, _, rfl, _, rfl, ?_, ?_, for_range (fun i σ H' => ∃ (x1 x3 x4 x5 x6 : Option V), σ = [some (.ref a), x1, some (.ref b), x3, x4, x5, x6] ∧ Same H H' ∧ H' b = some (.lst xs) ∧ TuL H' xs S) ⟨_, _, _, _, _, rfl, s05, hb5, tS5⟩ ?_ ?_⟩
    · rw [List.length_map]
      (repeat' split) <;> omega
    · rw [List.length_map]
      (repeat' split) <;> omega
    · rintro i σ H' hi ⟨x1, x3, x4, x5, x6, rfl, s0, hb6, tS6⟩
      refine ⟨_, rfl, _, rfl, _, _, rfl, rfl, a, ns, _, rfl, s0.seq hS, by omega, fun n2 H7 S7 => ⟨(by show 1 ≤ sizeLine; decide), fun e he => ?_⟩⟩
      have s8 := Same.new (o := .lst [.int n2]) S7 he
      have ef : H' e = none := S7.free he
      have R8 : Rest (upd H7 e (.lst [.int n2])) e := ⟨n2, upd_same⟩
      generalize upd H7 e (.lst [.int n2]) = H8 at s8 R8 ⊢
      have nbe : b ≠ e := ne_of_none hb6 ef
      refine ⟨_, rfl, _, rfl, b, e, xs, S, rfl, s8 _ _ hb6, tS6.up s8.tups, oS, R8, nbe, fun x dd H9 tx fx R9 B9 => ?_⟩
      have s9 : Same H' H9 := Same.but s8 ef B9
      refine ⟨_, rfl, x, dd, rfl, Th.di tx, fx.show', fx.noD, Nat.le_trans fx.dep (by decide), fx.len, ?_⟩
      refine ⟨_, rfl, x, dd, rfl, tx, fun HA sA => ?_⟩
      have txA := tx.up sA
      refine ⟨_, rfl, _, _, _, rfl, .bl _, (kit_bool (.bool (isS dd)) : _), _, rfl, iteF ⟨_, rfl, _, rfl, x, dd, rfl, txA, fun HB sB => ⟨rfl, _, rfl, ?_⟩⟩⟩
      have ev : (!decide (V.bl (isS dd) = V.bl (isS dd))) = false := by simp
      rw [ev]
      refine iteF ⟨_, rfl, x, dd, rfl, Th.di (txA.up sB), fx.show', fx.noD, Nat.le_trans fx.dep (by decide), fx.len, _, rfl, rfl, _, rfl, ?_⟩
      have ev2 : (!decide (V.str (rtxt dd) = V.str (rtxt dd))) = false := by simp
      rw [ev2]
      have sX := s9.trans (sA.trans sB)
      exact iteF ⟨_, _, _, _, _, rfl, s0.trans sX, sX _ _ hb6, tS6.up sX.tups⟩
    · rintro σ H' ⟨x1, x3, x4, x5, x6, rfl, s0, hb6, tS6⟩
      exact k H'
end
theorem all_mk {l : PySem.W.OpenLaw} {w : World} {K : PySem.W.Frag} {h : Heap} {mg : Str → Option Value} {fa f0 f1 f2 f3 f4 f5 f6 f7 f8 f9 f10 : Addr} {tg_MOST_TRIANGLES : Tok} (X : K.In h) (G : h.Ns mainGlobals mg) (hfa : mg "law" = some (.ref fa))
    {od0 an0 od1 an1 od2 an2 od3 an3 od4 an4 od5 an5 od6 an6 od7 an7 od8 an8 od9 an9 od10 an10 : Option Addr} {sl0 sl1 sl2 sl3 sl4 sl5 sl6 sl7 sl8 sl9 sl10 : Array (Option Value)} {oc0 kV0 dc0 pm0 cd0 ct0 oc1 kV1 dc1 pm1 cd1 ct1 oc2 kV2 dc2 pm2 cd2 ct2 oc3 kV3 dc3 pm3 cd3 ct3 oc4 kV4 dc4 pm4 cd4 ct4 oc5 kV5 dc5 pm5 cd5 ct5 oc6 kV6 dc6 pm6 cd6 ct6 oc7 kV7 dc7 pm7 cd7 ct7 oc8 kV8 dc8 pm8 cd8 ct8 oc9 kV9 dc9 pm9 cd9 ct9 oc10 kV10 dc10 pm10 cd10 ct10 : Value}
    (a0 : PySem.W.nsIn K mainGlobals "is_whole" = some (some (.ref f0))) (l0 : K.lookup f0 = some ⟨oc0, od0, .func (PySem.W.fnOf "is_whole" "is_whole" (defArgs s_is_whole) (defBody s_is_whole) (defScope s_is_whole) .none kV0 dc0 pm0 an0 cd0 ct0), sl0⟩) (c0 : PySem.W.codeIn K cd0 "is_whole" = true) (k0 : PySem.W.keepIn K (.ref f0) = true)
    (a1 : PySem.W.nsIn K mainGlobals "is_triangle" = some (some (.ref f1))) (l1 : K.lookup f1 = some ⟨oc1, od1, .func (PySem.W.fnOf "is_triangle" "is_triangle" (defArgs s_is_triangle) (defBody s_is_triangle) (defScope s_is_triangle) .none kV1 dc1 pm1 an1 cd1 ct1), sl1⟩) (c1 : PySem.W.codeIn K cd1 "is_triangle" = true) (k1 : PySem.W.keepIn K (.ref f1) = true)
    (a2 : PySem.W.nsIn K mainGlobals "many_ties" = some (some (.ref f2))) (l2 : K.lookup f2 = some ⟨oc2, od2, .func (PySem.W.fnOf "many_ties" "many_ties" (defArgs s_many_ties) (defBody s_many_ties) (defScope s_many_ties) .none kV2 dc2 pm2 an2 cd2 ct2), sl2⟩) (c2 : PySem.W.codeIn K cd2 "many_ties" = true) (k2 : PySem.W.keepIn K (.ref f2) = true)
    (a3 : PySem.W.nsIn K mainGlobals "is_sheet" = some (some (.ref f3))) (l3 : K.lookup f3 = some ⟨oc3, od3, .func (PySem.W.fnOf "is_sheet" "is_sheet" (defArgs s_is_sheet) (defBody s_is_sheet) (defScope s_is_sheet) .none kV3 dc3 pm3 an3 cd3 ct3), sl3⟩) (c3 : PySem.W.codeIn K cd3 "is_sheet" = true) (k3 : PySem.W.keepIn K (.ref f3) = true)
    (a4 : PySem.W.nsIn K mainGlobals "_law_cell_at" = some (some (.ref f4))) (l4 : K.lookup f4 = some ⟨oc4, od4, .func (PySem.W.fnOf "_law_cell_at" "_law_cell_at" (defArgs s__law_cell_at) (defBody s__law_cell_at) (defScope s__law_cell_at) .none kV4 dc4 pm4 an4 cd4 ct4), sl4⟩) (c4 : PySem.W.codeIn K cd4 "_law_cell_at" = true) (k4 : PySem.W.keepIn K (.ref f4) = true)
    (a5 : PySem.W.nsIn K mainGlobals "_law_big" = some (some (.ref f5))) (l5 : K.lookup f5 = some ⟨oc5, od5, .func (PySem.W.fnOf "_law_big" "_law_big" (defArgs s__law_big) (defBody s__law_big) (defScope s__law_big) .none kV5 dc5 pm5 an5 cd5 ct5), sl5⟩) (c5 : PySem.W.codeIn K cd5 "_law_big" = true) (k5 : PySem.W.keepIn K (.ref f5) = true)
    (a6 : PySem.W.nsIn K mainGlobals "_law_digit" = some (some (.ref f6))) (l6 : K.lookup f6 = some ⟨oc6, od6, .func (PySem.W.fnOf "_law_digit" "_law_digit" (defArgs s__law_digit) (defBody s__law_digit) (defScope s__law_digit) .none kV6 dc6 pm6 an6 cd6 ct6), sl6⟩) (c6 : PySem.W.codeIn K cd6 "_law_digit" = true) (k6 : PySem.W.keepIn K (.ref f6) = true)
    (a7 : PySem.W.nsIn K mainGlobals "_law_sheet" = some (some (.ref f7))) (l7 : K.lookup f7 = some ⟨oc7, od7, .func (PySem.W.fnOf "_law_sheet" "_law_sheet" (defArgs s__law_sheet) (defBody s__law_sheet) (defScope s__law_sheet) .none kV7 dc7 pm7 an7 cd7 ct7), sl7⟩) (c7 : PySem.W.codeIn K cd7 "_law_sheet" = true) (k7 : PySem.W.keepIn K (.ref f7) = true)
    (a8 : PySem.W.nsIn K mainGlobals "_law_is_sheet" = some (some (.ref f8))) (l8 : K.lookup f8 = some ⟨oc8, od8, .func (PySem.W.fnOf "_law_is_sheet" "_law_is_sheet" (defArgs s__law_is_sheet) (defBody s__law_is_sheet) (defScope s__law_is_sheet) .none kV8 dc8 pm8 an8 cd8 ct8), sl8⟩) (c8 : PySem.W.codeIn K cd8 "_law_is_sheet" = true) (k8 : PySem.W.keepIn K (.ref f8) = true)
    (a9 : PySem.W.nsIn K mainGlobals "_law_bent" = some (some (.ref f9))) (l9 : K.lookup f9 = some ⟨oc9, od9, .func (PySem.W.fnOf "_law_bent" "_law_bent" (defArgs s__law_bent) (defBody s__law_bent) (defScope s__law_bent) .none kV9 dc9 pm9 an9 cd9 ct9), sl9⟩) (c9 : PySem.W.codeIn K cd9 "_law_bent" = true) (k9 : PySem.W.keepIn K (.ref f9) = true)
    (a10 : PySem.W.nsIn K mainGlobals "law" = some (some (.ref f10))) (l10 : K.lookup f10 = some ⟨oc10, od10, .func (PySem.W.fnOf "law" "law" (defArgs s_law) (defBody s_law) (defScope s_law) .none kV10 dc10 pm10 an10 cd10 ct10), sl10⟩) (c10 : PySem.W.codeIn K cd10 "law" = true) (k10 : PySem.W.keepIn K (.ref f10) = true)
    (g_abs : PySem.W.nsIn K mainGlobals "abs" = some none)
    (g_repr : PySem.W.nsIn K mainGlobals "repr" = some none)
    (g_MOST_TRIANGLES : PySem.W.nsIn K mainGlobals "MOST_TRIANGLES" = some (some (.int 12 tg_MOST_TRIANGLES)))
    (z_len : PySem.W.nsIn K mainGlobals "len" = some none) (z_range : PySem.W.nsIn K mainGlobals "range" = some none) (z_min : PySem.W.nsIn K mainGlobals "min" = some none) (z_max : PySem.W.nsIn K mainGlobals "max" = some none) (z_isinstance : PySem.W.nsIn K mainGlobals "isinstance" = some none) (z_bool : PySem.W.nsIn K mainGlobals "bool" = some none) (z_int : PySem.W.nsIn K mainGlobals "int" = some none) (z_tuple : PySem.W.nsIn K mainGlobals "tuple" = some none) (z_list : PySem.W.nsIn K mainGlobals "list" = some none) (z_str : PySem.W.nsIn K mainGlobals "str" = some none) (z_all : PySem.W.nsIn K mainGlobals "all" = some none) (z_sum : PySem.W.nsIn K mainGlobals "sum" = some none) (z_sorted : PySem.W.nsIn K mainGlobals "sorted" = some none) :
    ∃ fd : FuncData, (∀ (s : Shared) (v : Value), BindsTo s fd ⟨[v], []⟩ [("_law_script", v)]) ∧ ∀ base : Heap, K.In base → base.Ns mainGlobals mg → FnOk l.prog w K mg base CX0 6 fa fd ["_law_script"] (spLaw K) := by
  have e := hfa.symm.trans (PySem.W.mg_of X G a10)
  cases e
  have M : Txt mg := ⟨PySem.W.mg_none_of X G z_len, PySem.W.mg_none_of X G z_range, PySem.W.mg_none_of X G z_min, PySem.W.mg_none_of X G z_max, PySem.W.mg_none_of X G z_isinstance, PySem.W.mg_none_of X G z_bool, PySem.W.mg_none_of X G z_int, PySem.W.mg_none_of X G z_tuple, PySem.W.mg_none_of X G z_list, PySem.W.mg_none_of X G z_str, PySem.W.mg_none_of X G z_all, PySem.W.mg_none_of X G z_sum, PySem.W.mg_none_of X G z_sorted⟩
  have GB : Gb mg := ⟨PySem.W.mg_none_of X G g_abs, PySem.W.mg_none_of X G g_repr, ⟨_, PySem.W.mg_of X G g_MOST_TRIANGLES⟩⟩
  have F0 := fun_mk (st := s_is_whole) l0 c0 k0
  have b0 := F0.binds (ps := ["thing"]) fun _ _ _ _ _ _ us hl => match us, hl with | [_], _ => rfl
  have F1 := fun_mk (st := s_is_triangle) l1 c1 k1
  have b1 := F1.binds (ps := ["thing"]) fun _ _ _ _ _ _ us hl => match us, hl with | [_], _ => rfl
  have F2 := fun_mk (st := s_many_ties) l2 c2 k2
  have b2 := F2.binds (ps := ["sheet"]) fun _ _ _ _ _ _ us hl => match us, hl with | [_], _ => rfl
  have F3 := fun_mk (st := s_is_sheet) l3 c3 k3
  have b3 := F3.binds (ps := ["thing"]) fun _ _ _ _ _ _ us hl => match us, hl with | [_], _ => rfl
  have F4 := fun_mk (st := s__law_cell_at) l4 c4 k4
  have b4 := F4.binds (ps := ["_law_script", "_law_k"]) fun _ _ _ _ _ _ us hl => match us, hl with | [_, _], _ => rfl
  have F5 := fun_mk (st := s__law_big) l5 c5 k5
  have b5 := F5.binds (ps := ["_law_script", "_law_at"]) fun _ _ _ _ _ _ us hl => match us, hl with | [_, _], _ => rfl
  have F6 := fun_mk (st := s__law_digit) l6 c6 k6
  have b6 := F6.binds (ps := ["_law_rest", "_law_many"]) fun _ _ _ _ _ _ us hl => match us, hl with | [_, _], _ => rfl
  have F7 := fun_mk (st := s__law_sheet) l7 c7 k7
  have b7 := F7.binds (ps := ["_law_rest"]) fun _ _ _ _ _ _ us hl => match us, hl with | [_], _ => rfl
  have F8 := fun_mk (st := s__law_is_sheet) l8 c8 k8
  have b8 := F8.binds (ps := ["_law_thing"]) fun _ _ _ _ _ _ us hl => match us, hl with | [_], _ => rfl
  have F9 := fun_mk (st := s__law_bent) l9 c9 k9
  have b9 := F9.binds (ps := ["_law_sheet_here", "_law_rest"]) fun _ _ _ _ _ _ us hl => match us, hl with | [_, _], _ => rfl
  have F10 := fun_mk (st := s_law) l10 c10 k10
  refine ⟨PySem.W.fnOf "law" "law" (defArgs s_law) (defBody s_law) (defScope s_law) .none kV10 dc10 pm10 an10 cd10 ct10, fun s v => .of_eq rfl, fun base _ _ => ?_⟩
  have G_law_cell_at : Kn l.prog w K mg base "_law_cell_at" _ ["_law_script", "_law_k"] _ := ⟨⟨f4, _, ok_cell F4 M , PySem.W.mg_of X G a4, k4, b4⟩⟩
  have G_law_big : Kn l.prog w K mg base "_law_big" _ ["_law_script", "_law_at"] _ := ⟨⟨f5, _, ok_big F5 M G_law_cell_at, PySem.W.mg_of X G a5, k5, b5⟩⟩
  have G_law_digit : Kn l.prog w K mg base "_law_digit" _ ["_law_rest", "_law_many"] _ := ⟨⟨f6, _, ok_digit F6 M , PySem.W.mg_of X G a6, k6, b6⟩⟩
  have G_law_sheet : Kn l.prog w K mg base "_law_sheet" _ ["_law_rest"] _ := ⟨⟨f7, _, ok_sheet F7 M G_law_digit, PySem.W.mg_of X G a7, k7, b7⟩⟩
  have Gis_whole : Kn l.prog w K mg base "is_whole" _ ["thing"] _ := ⟨⟨f0, _, ok_whole F0 M , PySem.W.mg_of X G a0, k0, b0⟩⟩
  have Gis_triangle : Kn l.prog w K mg base "is_triangle" _ ["thing"] _ := ⟨⟨f1, _, ok_tri F1 M Gis_whole, PySem.W.mg_of X G a1, k1, b1⟩⟩
  have Gmany_ties : Kn l.prog w K mg base "many_ties" _ ["sheet"] _ := ⟨⟨f2, _, ok_ties F2 M , PySem.W.mg_of X G a2, k2, b2⟩⟩
  have Gis_sheet : Kn l.prog w K mg base "is_sheet" _ ["thing"] _ := ⟨⟨f3, _, ok_issheet F3 M Gis_triangle Gmany_ties GB, PySem.W.mg_of X G a3, k3, b3⟩⟩
  have G_law_is_sheet : Kn l.prog w K mg base "_law_is_sheet" _ ["_law_thing"] _ := ⟨⟨f8, _, ok_lsheet F8 M GB, PySem.W.mg_of X G a8, k8, b8⟩⟩
  have G_law_bent : Kn l.prog w K mg base "_law_bent" _ ["_law_sheet_here", "_law_rest"] _ := ⟨⟨f9, _, ok_bent F9 M G_law_digit, PySem.W.mg_of X G a9, k9, b9⟩⟩
  exact ok_law F10 M G_law_big G_law_sheet Gis_sheet G_law_bent G_law_is_sheet GB
theorem walk {l : PySem.W.OpenLaw} {q : Program} {loose : List Str} {XP : (Str → Option Value) → Heap → Prop} {YP : World → Heap → Prop} {d : DefRec} {K : Params → PySem.W.Frag} (hn : l.most = some 63) (hdf : d.params.defaults = [])
    (hY : ∀ (w : World) (h : Heap), YP w h → (K w.params).In h)
    (F : ∀ (w : World) (mg : Str → Option Value) (fa : Addr) (h : Heap), (K w.params).In h → h.Ns mainGlobals mg → mg d.name = some (.ref fa) →
      ∃ fd : FuncData, (∀ (s : Shared) (u : Value), BindsTo s fd ⟨[u], []⟩ [("_law_script", u)]) ∧ ∀ base : Heap, (K w.params).In base → base.Ns mainGlobals mg → FnOk l.prog w (K w.params) mg base CX0 6 fa fd ["_law_script"] (spLaw (K w.params))) :
    PySem.W.WalkO q loose XP YP l.row.toRowW d [] (fun f vs => PySem.call f vs) :=
  L2.walk_of (n := 63) (k := 6) (x := "_law_script") (CX := fun _ => CX0) (sp := fun w => spLaw (K w.params)) hn (by decide) hdf ⟨rfl, by decide, by decide, rfl⟩ hY F (fun _ _ a ns hl _ hS => ⟨a, ns, rfl, hS, hl, fun _ => rfl⟩) fun _ _ _ _ _ z => z
end Toy
open PySem PySem.W PyProof.Rows
set_option maxRecDepth 100000 in
set_option maxHeartbeats 0 in
theorem PySem.Challenge.cw_farcords_k43_what_is_a_sheet_holds : PySem.Challenge.rw_farcords_k43_what_is_a_sheet.Holds := by
  w_on; o_law; k_head; (case hw => w_witness2)
  k_fill
  refine Toy.walk (l := PySem.Challenge.rw_farcords_k43_what_is_a_sheet) rfl rfl (fun w h Y => PySem.W.kIn_of Y) ?F
  case F =>
    intro w mg fa h KX G hmg
    refine' Toy.all_mk KX G hmg ?a0 ?l0 ?c0 ?k0 ?a1 ?l1 ?c1 ?k1 ?a2 ?l2 ?c2 ?k2 ?a3 ?l3 ?c3 ?k3 ?a4 ?l4 ?c4 ?k4 ?a5 ?l5 ?c5 ?k5 ?a6 ?l6 ?c6 ?k6 ?a7 ?l7 ?c7 ?k7 ?a8 ?l8 ?c8 ?k8 ?a9 ?l9 ?c9 ?k9 ?a10 ?l10 ?c10 ?k10 ?g_abs ?g_repr ?g_MOST_TRIANGLES ?z_len ?z_range ?z_min ?z_max ?z_isinstance ?z_bool ?z_int ?z_tuple ?z_list ?z_str ?z_all ?z_sum ?z_sorted
    (case a0 => k_is)
    (case l0 => k_is)
    (case c0 => k_is)
    (case k0 => k_is)
    (case a1 => k_is)
    (case l1 => k_is)
    (case c1 => k_is)
    (case k1 => k_is)
    (case a2 => k_is)
    (case l2 => k_is)
    (case c2 => k_is)
    (case k2 => k_is)
    (case a3 => k_is)
    (case l3 => k_is)
    (case c3 => k_is)
    (case k3 => k_is)
    (case a4 => k_is)
    (case l4 => k_is)
    (case c4 => k_is)
    (case k4 => k_is)
    (case a5 => k_is)
    (case l5 => k_is)
    (case c5 => k_is)
    (case k5 => k_is)
    (case a6 => k_is)
    (case l6 => k_is)
    (case c6 => k_is)
    (case k6 => k_is)
    (case a7 => k_is)
    (case l7 => k_is)
    (case c7 => k_is)
    (case k7 => k_is)
    (case a8 => k_is)
    (case l8 => k_is)
    (case c8 => k_is)
    (case k8 => k_is)
    (case a9 => k_is)
    (case l9 => k_is)
    (case c9 => k_is)
    (case k9 => k_is)
    (case a10 => k_is)
    (case l10 => k_is)
    (case c10 => k_is)
    (case k10 => k_is)
    (case g_abs => k_is)
    (case g_repr => k_is)
    (case g_MOST_TRIANGLES => k_is)
    (case z_len => k_is)
    (case z_range => k_is)
    (case z_min => k_is)
    (case z_max => k_is)
    (case z_isinstance => k_is)
    (case z_bool => k_is)
    (case z_int => k_is)
    (case z_tuple => k_is)
    (case z_list => k_is)
    (case z_str => k_is)
    (case z_all => k_is)
    (case z_sum => k_is)
    (case z_sorted => k_is)
#print axioms PySem.Challenge.cw_farcords_k43_what_is_a_sheet_holds

