import PyProof.Rows.All
import Wide.All
import OpenK.AllK
import Wide.FinOn
import Lean
import PyProof.EqAt
import PyProof.EqKinds
import PyProof.TupleCall
import PyProof.NeData
import PyProof.SumAny
import PyProof.ReprRoads
import PyProof.CallStr
import PyProof.ReprLen
import PyProof.Rows.StrDigitsNeg
import PyProof.Rows.StrJoinMade
import PyProof.Rows.ZipGen
import PyProof.ListRange
import PyProof.TupleOfSeq
import PyProof.SetScanFacts
import PyProof.SetKind
import PyProof.Rows.SetFrom
import PyProof.SetRoads
import PyProof.Rows.SortShell
import PyProof.ListMulRoad
import PyProof.ListMulAny
import PyProof.FactsAll.tuple
import PyProof.RulesAssignMore
import PyProof.ZipIter
import PyProof.TupleIter
import PyProof.EnumFor
import PyProof.EnumMake
import PyProof.FitsBits
import KE.KDictList
import PyProof.Rows.SortShellK
import PyProof.TupleKey
import KE.KItemsList
import KE.KSortTup
import PyProof.Rows.ListMulR
import PyProof.FactsAll.list_2
import PyProof.FactsAll.list_4
import PyProof.Rows.BitMore
import PyProof.ExcArgsOwn
import PyProof.ExcAttrAll.ValueError
import PyProof.ExcBaseAll.ValueError
import PyProof.WalkInts
import PyProof.ListIndex
import PyProof.P3Eq
import PyProof.DictIter
import PyProof.MeetsDict
import PyProof.DictList
import PySem.Challenge.RW_farcords_k52_arcs_that_meet_or_not
set_option Elab.async false
set_option linter.all false
set_option maxRecDepth 100000
namespace L2
open PySem PySem.Spec PyProof.Rows
abbrev Key := Sum Int Str
def keyIs : Key → Value → Bool
  | .inl k, v => Value.isInt k v
  | .inr x, v => Value.isStrOf x v
def keyH (w : World) : Key → Int
  | .inl k => hashInt k
  | .inr x => hashStr w x
theorem keyIs_shape : ∀ {k : Key} {v : Value}, keyIs k v = true → (∃ i t, k = Sum.inl i ∧ v = Value.int i t) ∨ (∃ x t, k = Sum.inr x ∧ v = Value.str x t)
  | .inl i, v, h => by
    obtain ⟨t, e⟩ := Value.isInt_shape (k := i) (v := v) h
    exact .inl ⟨i, t, rfl, e⟩
  | .inr x, v, h => by
    obtain ⟨t, e⟩ := Value.isStrOf_shape (x := x) (v := v) h
    exact .inr ⟨x, t, rfl, e⟩
theorem keyIs_int (i : Int) (t : Tok) : keyIs (.inl i) (.int i t) = true := by simp [keyIs, Value.isInt]
theorem keyIs_str (x : Str) (t : Tok) : keyIs (.inr x) (.str x t) = true := by simp [keyIs, Value.isStrOf]
theorem key_ll (a b : Int) : decide ((Sum.inl a : Key) = Sum.inl b) = (a == b) := by
  by_cases e : a = b
  · subst e; simp
  · have h : ¬ (Sum.inl a : Key) = Sum.inl b := fun q => e (Sum.inl.inj q)
    rw [decide_eq_false h]
    exact (beq_eq_false_iff_ne.mpr e).symm
theorem key_rr (a b : Str) : decide ((Sum.inr a : Key) = Sum.inr b) = decide (a = b) := by
  by_cases e : a = b
  · subst e; simp
  · have h : ¬ (Sum.inr a : Key) = Sum.inr b := fun q => e (Sum.inr.inj q)
    rw [decide_eq_false h, decide_eq_false e]
theorem key_lr (a : Int) (b : Str) : decide ((Sum.inl a : Key) = Sum.inr b) = false := decide_eq_false (fun q => nomatch q)
theorem key_rl (a : Str) (b : Int) : decide ((Sum.inr a : Key) = Sum.inl b) = false := decide_eq_false (fun q => nomatch q)
def mixKind (prog : Program) (w : World) : PySem.KeyKind prog w Key where
  is := keyIs
  hash := keyH w
  inj := fun v a b ha hb => by
    rcases keyIs_shape ha with ⟨i, t, rfl, rfl⟩ | ⟨x, t, rfl, rfl⟩
    · rcases keyIs_shape hb with ⟨j, u, rfl, e⟩ | ⟨y, u, rfl, e⟩
      · injection e with e1 _; rw [e1]
      · exact nomatch e
    · rcases keyIs_shape hb with ⟨j, u, rfl, e⟩ | ⟨y, u, rfl, e⟩
      · exact nomatch e
      · injection e with e1 _; rw [e1]
  byValue := fun k v h => by
    rcases keyIs_shape h with ⟨i, t, rfl, rfl⟩ | ⟨x, t, rfl, rfl⟩ <;> rfl
  pyHash := fun hv h => by
    rcases keyIs_shape hv with ⟨i, t, rfl, rfl⟩ | ⟨x, t, rfl, rfl⟩
    · exact wpAny_pyHash_int h
    · exact wpAny_pyHash_str h
  eqBool := fun hu hv h => by
    rcases keyIs_shape hu with ⟨i, t, rfl, rfl⟩ | ⟨x, t, rfl, rfl⟩
    · rcases keyIs_shape hv with ⟨j, u, rfl, rfl⟩ | ⟨y, u, rfl, rfl⟩
      · rw [key_ll] at h; exact wpAny_eqBool_int h
      · rw [key_lr] at h; exact SeqAt.EqAt.int_str i t y u _ _ _ _ h
    · rcases keyIs_shape hv with ⟨j, u, rfl, rfl⟩ | ⟨y, u, rfl, rfl⟩
      · rw [key_rl] at h; exact SeqAt.EqAt.str_int x t j u _ _ _ _ h
      · rw [key_rr] at h; exact wpAny_eqBool_str h
  «strs» := fun k x t v h => by
    rcases keyIs_shape h with ⟨i, u, rfl, e⟩ | ⟨y, u, rfl, e⟩
    · exact nomatch e
    · injection e with e1 _
      subst e1
      cases v <;> rfl
theorem mixKind_int (prog : Program) (w : World) (i : Int) (t : Tok) : (mixKind prog w).is (.inl i) (.int i t) = true := keyIs_int i t
theorem mixKind_str (prog : Program) (w : World) (x : Str) (t : Tok) : (mixKind prog w).is (.inr x) (.str x t) = true := keyIs_str x t
end L2
namespace L2
open PySem PySem.Spec PyProof.Rows
inductive V where
  | non | bl (b : Bool) | int (i : Int) | str (x : Str) | byt (b : Array UInt8) | flt (b : UInt64) | ref (a : Addr) | ty (n : String)
  deriving DecidableEq
def RelV : V → Value → Prop
  | .non, u => u = Value.none
  | .bl b, u => u = Value.bool b
  | .int i, u => ∃ t, u = Value.int i t
  | .str x, u => ∃ t, u = Value.str x t
  | .byt b, u => ∃ t, u = Value.bytes b t
  | .flt b, u => ∃ t, u = Value.float b t
  | .ref a, u => u = Value.ref a
  | .ty n, u => u = Value.type n
abbrev Vals : List V → List Value → Prop := Paired RelV
theorem Vals.length {xs : List V} {us : List Value} (r : Vals xs us) : xs.length = us.length := Paired.length r
theorem Vals.get : ∀ {xs : List V} {us : List Value} {i : Nat} {x : V}, Vals xs us → xs[i]? = some x → ∃ u, us[i]? = some u ∧ RelV x u
  | _, _, _, _, .nil, e => by simp at e
  | _, _, 0, _, .cons r _, e => by simp at e; subst e; exact ⟨_, rfl, r⟩
  | _, _, i + 1, x, .cons _ t, e => by
    obtain ⟨u, h1, h2⟩ := Vals.get (i := i) (x := x) t (by simpa using e)
    exact ⟨u, by simpa using h1, h2⟩
theorem Vals.set {x : V} {u : Value} (r : RelV x u) : ∀ {xs : List V} {us : List Value} (i : Nat), Vals xs us → Vals (xs.set i x) (us.set i u)
  | _, _, _, .nil => .nil
  | _, _, 0, .cons _ t => .cons r t
  | _, _, i + 1, .cons q t => .cons q (Vals.set r i t)
theorem Vals.append : ∀ {xs ys : List V} {us ws : List Value}, Vals xs us → Vals ys ws → Vals (xs ++ ys) (us ++ ws)
  | _, _, _, _, .nil, s => s
  | _, _, _, _, .cons r t, s => .cons r (Vals.append t s)
theorem Vals.take : ∀ {xs : List V} {us : List Value} (n : Nat), Vals xs us → Vals (xs.take n) (us.take n)
  | _, _, 0, _ => .nil
  | _, _, _ + 1, .nil => .nil
  | _, _, n + 1, .cons r t => .cons r (Vals.take n t)
theorem Vals.drop : ∀ {xs : List V} {us : List Value} (n : Nat), Vals xs us → Vals (xs.drop n) (us.drop n)
  | _, _, 0, r => r
  | _, _, _ + 1, .nil => .nil
  | _, _, n + 1, .cons _ t => Vals.drop n t
def RelO : Option V → Option Value → Prop
  | some v, some u => RelV v u
  | none, none => True
  | _, _ => False
def KV {κ : Type} : List (κ × V) → List (κ × Value) → Prop := Paired fun (p : κ × V) (q : κ × Value) => p.1 = q.1 ∧ RelV p.2 q.2
def kV : Key → V
  | .inl i => .int i
  | .inr x => .str x
inductive HO where
  | lst (xs : List V)
  | tup (xs : List V)
  | dK (kvs : List (Key × V)) | dT (kvs : List (List Key × V))
  | set (S : Int → Bool) (n : Nat)
  | ins (C dx : Addr) (fs : List (Str × V))
  | own (x : Addr)
  | xd (fs : List (Str × V))
  | met (f x : Addr)
  | rng (lo hi : Int)
  | frz (o : Obj) (u : HO)
  | tbl (ps : Array Value)
  | ext (φ : Heap → Prop)
abbrev Hp := Addr → Option HO
def upd (H : Hp) (a : Addr) (o : HO) : Hp := fun b => if b = a then some o else H b
theorem upd_same {H : Hp} {a : Addr} {o : HO} : upd H a o a = some o := by unfold upd; rw [if_pos rfl]
theorem upd_ne {H : Hp} {a b : Addr} {o : HO} (h : b ≠ a) : upd H a o b = H b := by unfold upd; rw [if_neg h]
theorem ne_of_none {H : Hp} {a b : Addr} {o : HO} (h : H a = some o) (h' : H b = none) : a ≠ b := by
  intro e; subst e; rw [h] at h'; cases h'
section
variable (P : Program) (w : World)
def ObjOk (H : Hp) (h : Heap) (a : Addr) : HO → Prop
  | .lst xs => xs.length ≤ sizeLine ∧ ∃ (its : List Value) (n : Nat), Vals xs its ∧ h.get? a = some { cls := .type "list", data := .seq its.toArray n }
  | .tup xs => xs.length ≤ sizeLine ∧ ∃ its : List Value, Vals xs its ∧ IsTup h a its.toArray
  | .dK kvs => kvs.length ≤ sizeLine ∧ (a == sysModules) = false ∧ ∃ vs, KV kvs vs ∧ h.DictOf (mixKind P w) a vs
  | .dT kvs => kvs.length ≤ sizeLine ∧ (a == sysModules) = false ∧ ∃ xs : List (List Key × Addr × Value),
      Paired (fun (p : List Key × V) (q : List Key × Addr × Value) => p.1 = q.1 ∧ H q.2.1 = some (.tup (p.1.map kV)) ∧ RelV p.2 q.2.2) kvs xs ∧
      ∃ o es ep, h.get? a = some o ∧ o.ExactDict ∧ o.data = .dict es ep ∧ es.toList = xs.map (entryOfKey (tupleKind (mixKind P w))) ∧ (xs.map (·.1)).Nodup
  | .set S n => h.SetOf (intKind P w) a S n
  | .ins C dx fs => H dx = some (.own a) ∧ fs.length ≤ 1000 ∧ dx ≠ a ∧ h.get? a = some (PySem.W.instObj C dx) ∧
      ∃ mA, h.Ns1 dx mA ∧ (∀ f, RelO (fs.lookup f) (mA f)) ∧ PySem.Within mA (fs.map (·.1))
  | .own _ => ∃ o, h.get? a = some o
  | .xd fs => ∃ mA, h.Ns1 a mA ∧ ∀ f, RelO (fs.lookup f) (mA f)
  | .rng lo hi => ∃ t u v, h.get? a = some { cls := .type "range", data := .fields #[.int lo t, .int hi u, .int 1 v] }
  | .frz o u => h.get? a = some o ∧ ObjOk H h a u
  | .tbl ps => h.get? a = some { cls := .none, data := .fields ps }
  | .met f x => h.get? a = some (PySem.W.methodObj (.ref f) (.ref x))
  | .ext φ => φ h ∧ (∃ o, h.get? a = some o) ∧ ∀ h1 h2 : Heap, φ h1 → (∀ o, h1.get? a = some o → h2.get? a = some o) → φ h2
def HOk (H : Hp) (h : Heap) : Prop := ∀ a o, H a = some o → ObjOk P w H h a o
end
section
variable {P : Program} {w : World} {H H' : Hp} {h h' : Heap} {a : Addr} {o : HO}
theorem ObjOk.lt (x : ObjOk P w H h a o) : a < h.objs.size := by
  cases o with
  | lst xs => obtain ⟨_, _, _, _, e⟩ := x; exact Heap.lt_size e
  | tup xs => obtain ⟨_, _, _, p⟩ := x; exact p.lt
  | dK kvs => obtain ⟨_, _, _, _, o, _, _, e, _⟩ := x; exact Heap.lt_size e
  | dT kvs => obtain ⟨_, _, _, _, o, _, _, e, _⟩ := x; exact Heap.lt_size e
  | set S n => obtain ⟨o, _, _, _, e, _⟩ := x; exact Heap.lt_size e
  | ins C dx fs => obtain ⟨_, _, _, e, _⟩ := x; exact Heap.lt_size e
  | own y => obtain ⟨_, e⟩ := x; exact Heap.lt_size e
  | xd fs => obtain ⟨_, ⟨_, _, _, e, _⟩, _⟩ := x; exact Heap.lt_size e
  | rng lo hi => obtain ⟨_, _, _, e⟩ := x; exact Heap.lt_size e
  | frz ob u => obtain ⟨e, _⟩ := x; exact Heap.lt_size e
  | tbl ps => exact Heap.lt_size (show h.get? a = some _ from x)
  | met f y => exact Heap.lt_size (show h.get? a = some _ from x)
  | ext φ => obtain ⟨_, ⟨_, e⟩, _⟩ := x; exact Heap.lt_size e
theorem Paired.mapP {α β : Type} {F G : α → β → Prop} : ∀ {l₁ : List α} {l₂ : List β}, Paired F l₁ l₂ → (∀ a b, F a b → G a b) → Paired G l₁ l₂
  | _, _, .nil, _ => .nil
  | _, _, .cons r t, f => .cons (f _ _ r) (Paired.mapP t f)
theorem ObjOk.stay (x : ObjOk P w H h a o) (k : ∀ b u, (b = a ∨ H b = some (.own a)) → h.get? b = some u → h'.get? b = some u)
    (ho : ∀ b, H b = some (.own a) → H' b = some (.own a)) (ht : ∀ b xs, H b = some (.tup xs) → H' b = some (.tup xs)) : ObjOk P w H' h' a o := by
  induction o with
  | lst xs => obtain ⟨z, its, n, r, e⟩ := x; exact ⟨z, its, n, r, k _ _ (.inl rfl) e⟩
  | tup xs => obtain ⟨z, its, r, ob, e, c⟩ := x; exact ⟨z, its, r, ob, k _ _ (.inl rfl) e, c⟩
  | dK kvs => obtain ⟨z, y, vs, r, ob, es, ep, e, c⟩ := x; exact ⟨z, y, vs, r, ob, es, ep, k _ _ (.inl rfl) e, c⟩
  | dT kvs =>
    obtain ⟨z, y, xs, r, ob, es, ep, e, c⟩ := x
    exact ⟨z, y, xs, Paired.mapP r fun p q z => ⟨z.1, ht _ _ z.2.1, z.2.2⟩, ob, es, ep, k _ _ (.inl rfl) e, c⟩
  | set S n => obtain ⟨ob, es, ep, t, e, c⟩ := x; exact ⟨ob, es, ep, t, k _ _ (.inl rfl) e, c⟩
  | ins C dx fs =>
    obtain ⟨d, z, ne, e, mA, ⟨od, es, ep, e2, c⟩, r⟩ := x
    exact ⟨ho _ d, z, ne, k _ _ (.inl rfl) e, mA, ⟨od, es, ep, k _ _ (.inr d) e2, c⟩, r⟩
  | own y => obtain ⟨ob, e⟩ := x; exact ⟨ob, k _ _ (.inl rfl) e⟩
  | xd fs => obtain ⟨mA, ⟨od, es, ep, e, c⟩, r⟩ := x; exact ⟨mA, ⟨od, es, ep, k _ _ (.inl rfl) e, c⟩, r⟩
  | rng lo hi => obtain ⟨t, u, v, e⟩ := x; exact ⟨t, u, v, k _ _ (.inl rfl) e⟩
  | frz ob u ih => obtain ⟨e, q⟩ := x; exact ⟨k _ _ (.inl rfl) e, ih q⟩
  | tbl ps =>
    have e : h.get? a = some { cls := .none, data := .fields ps } := x
    show h'.get? a = some { cls := .none, data := .fields ps }
    exact k a _ (.inl rfl) e
  | met f y =>
    have e : h.get? a = some (PySem.W.methodObj (.ref f) (.ref y)) := x
    show h'.get? a = some (PySem.W.methodObj (.ref f) (.ref y))
    exact k a _ (.inl rfl) e
  | ext φ => obtain ⟨p, ⟨o, e⟩, st⟩ := x; exact ⟨st _ _ p fun o q => k _ _ (.inl rfl) q, ⟨o, k _ _ (.inl rfl) e⟩, st⟩
theorem HOk.lt (x : HOk P w H h) (e : H a = some o) : a < h.objs.size := (x a o e).lt
theorem HOk.fresh (x : HOk P w H h) (e : h.objs.size ≤ a) : H a = none := by
  cases q : H a with
  | none => rfl
  | some u => exact absurd (Nat.lt_of_lt_of_le (x.lt q) e) (Nat.lt_irrefl _)
theorem HOk.kept (x : HOk P w H h) (k : ∀ b u, h.get? b = some u → h'.get? b = some u) : HOk P w H h' := fun a o e =>
  (x a o e).stay (fun b u _ q => k b u q) (fun _ q => q) fun _ _ q => q
theorem HOk.laid (x : HOk P w H h) (k : ∀ b u, h.get? b = some u → h'.get? b = some u) (hp : h.objs.size ≤ a) (new : ObjOk P w (upd H a o) h' a o) : HOk P w (upd H a o) h' := fun b u e => by
  have hn := x.fresh hp
  by_cases hb : b = a
  · subst hb; rw [upd_same] at e; cases e; exact new
  · rw [upd_ne hb] at e
    exact (x b u e).stay (fun c v _ q => k c v q) (fun c q => by rw [upd_ne (ne_of_none q hn)]; exact q) fun c xs q => by rw [upd_ne (ne_of_none q hn)]; exact q
end
def Rd (H : Hp) (a : Addr) (u : HO) : Prop := H a = some u ∨ ∃ o, H a = some (.frz o u)
theorem Rd.ok {P : Program} {w : World} {H : Hp} {h : Heap} {a : Addr} {u : HO} (r : Rd H a u) (x : HOk P w H h) : ObjOk P w H h a u := by
  rcases r with r | ⟨o, r⟩
  · exact x a u r
  · obtain ⟨_, q⟩ := x a _ r
    exact q
def Mut : Option HO → Prop
  | some (.lst _) => True
  | some (.dK _) => True
  | some (.dT _) => True
  | some (.set _ _) => True
  | some (.ins _ _ _) => True
  | some (.ext _) => True
  | _ => False
section
variable {P : Program} {w : World} {H : Hp} {h h' : Heap} {x e : Addr} {o' : HO}
theorem HOk.write (ok : HOk P w H h) (mu : Mut (H x)) (he : e = x ∨ H e = some (.own x)) (k : ∀ b u, b ≠ e → h.get? b = some u → h'.get? b = some u) (heo : ∃ u, h'.get? e = some u)
    (new : ObjOk P w (upd H x o') h' x o') : HOk P w (upd H x o') h' := fun b u q => by
  have nown : ∀ c y, H c = some (.own y) → c ≠ x := fun c y r z => by subst z; rw [r] at mu; exact mu
  have ntup : ∀ c xs, H c = some (.tup xs) → c ≠ x := fun c xs r z => by subst z; rw [r] at mu; exact mu
  by_cases hb : b = x
  · subst hb; rw [upd_same] at q; cases q; exact new
  · rw [upd_ne hb] at q
    by_cases hbe : b = e
    · have q' : H b = some (.own x) := by
        rcases he with z | z
        · exact absurd (hbe.trans z) hb
        · rw [hbe]; exact z
      rw [q] at q'; cases q'
      obtain ⟨v, hv⟩ := heo
      exact ⟨v, by rw [hbe]; exact hv⟩
    · refine (ok b u q).stay (fun c v hc r => k c v ?_ r) (fun c r => by rw [upd_ne (nown c b r)]; exact r) fun c xs r => by rw [upd_ne (ntup c xs r)]; exact r
      rcases hc with rfl | hc
      · exact hbe
      · rintro rfl
        rcases he with z | z
        · exact nown c b hc z
        · rw [hc] at z; cases z; exact hb rfl
end
structure Un (fs ex : List Addr) (H H' : Hp) (h h' : Heap) : Prop where
  keep : ∀ b o, h.get? b = some o → H b = none → b ∉ fs → b ∉ ex → h'.get? b = some o
  slot : ∀ b o, h.get? b = some o → H b = none → b ∈ fs → b ∉ ex → ∃ sl, h'.get? b = some { o with slots := sl }
  free : ∀ b o, h.get? b = some o → H b = none → b ∉ ex → H' b = none
  there : ∀ b o, h.get? b = some o → b ∉ ex → ∃ o', h'.get? b = some o'
  tups : ∀ b xs, H b = some (.tup xs) → H' b = some (.tup xs)
  frzs : ∀ b o u, H b = some (.frz o u) → H' b = some (.frz o u)
  tbls : ∀ b ps, H b = some (.tbl ps) → ∃ more, H' b = some (.tbl (ps ++ more))
section
variable {fs fs' ex ex' : List Addr} {H H1 H2 : Hp} {h h1 h2 h' : Heap} {a x e : Addr} {o : HO}
theorem Un.any (u : Un fs ex H H1 h h1) {b : Addr} {ob : Obj} (q : h.get? b = some ob) (n : H b = none) (hx : b ∉ ex) : ∃ sl, h1.get? b = some { ob with slots := sl } := by
  by_cases hb : b ∈ fs
  · exact u.slot b ob q n hb hx
  · exact ⟨ob.slots, u.keep b ob q n hb hx⟩
theorem Un.kept (k : ∀ b u, h.get? b = some u → h'.get? b = some u) : Un fs ex H H h h' :=
  ⟨fun b ob q _ _ _ => k b ob q, fun b ob q _ _ _ => ⟨ob.slots, k b ob q⟩, fun _ _ _ n _ => n, fun b ob q _ => ⟨ob, k b ob q⟩, fun _ _ q => q, fun _ _ _ q => q, fun _ ps q => ⟨#[], by rw [q]; simp⟩⟩
theorem Un.refl : Un fs ex H H h h := Un.kept fun _ _ q => q
theorem Un.laid (k : ∀ b u, h.get? b = some u → h'.get? b = some u) (hp : h.objs.size ≤ a) (hn : H a = none) : Un fs ex H (upd H a o) h h' where
  keep := fun b u q _ _ _ => k b u q
  slot := fun b u q _ _ _ => ⟨u.slots, k b u q⟩
  free := fun b u q n _ => by rw [upd_ne (Nat.ne_of_lt (Nat.lt_of_lt_of_le (Heap.lt_size q) hp))]; exact n
  there := fun b u q _ => ⟨u, k b u q⟩
  tups := fun b xs q => by rw [upd_ne (ne_of_none q hn)]; exact q
  frzs := fun b u xs q => by rw [upd_ne (ne_of_none q hn)]; exact q
  tbls := fun b ps q => ⟨#[], by rw [upd_ne (ne_of_none q hn), q]; simp⟩
theorem Un.write (mu : Mut (H x)) (he : e = x ∨ H e = some (.own x)) (k : ∀ b u, b ≠ e → h.get? b = some u → h'.get? b = some u) (heo : ∃ u, h'.get? e = some u) : Un fs ex H (upd H x o) h h' := by
  have hx : ∀ b, H b = none → b ≠ x := fun b n z => by subst z; rw [n] at mu; exact mu
  have hb : ∀ b, H b = none → b ≠ e := fun b n z => by
    subst z
    rcases he with r | r
    · exact hx b n r
    · rw [n] at r; cases r
  have hm : ∀ b u, H b = some u → ¬ Mut (some u) → b ≠ x := fun b u q nm z => by subst z; rw [q] at mu; exact nm mu
  refine ⟨fun b u q n _ _ => k b u (hb b n) q, fun b u q n _ _ => ⟨u.slots, k b u (hb b n) q⟩, fun b u q n _ => by rw [upd_ne (hx b n)]; exact n, fun b u q _ => ?_,
    fun b xs q => by rw [upd_ne (hm b _ q fun z => z)]; exact q, fun b u xs q => by rw [upd_ne (hm b _ q fun z => z)]; exact q, fun b ps q => ⟨#[], by rw [upd_ne (hm b _ q fun z => z), q]; simp⟩⟩
  by_cases hbe : b = e
  · subst hbe; exact heo
  · exact ⟨u, k b u hbe q⟩
end
def trk (h : Heap) (H : Hp) : List Addr := (List.range h.objs.size).filter fun a => (H a).isSome
def hidT (h : Heap) (H : Hp) : Heap := PySem.W.hideAll h (trk h H)
theorem hidT_size (h : Heap) (H : Hp) : (hidT h H).objs.size = h.objs.size := PySem.W.hideAll_size _ _
theorem hidT_get {h : Heap} {H : Hp} {b : Addr} {o : Obj} (e : h.get? b = some o) (n : H b = none) : (hidT h H).get? b = some o :=
  PySem.W.hideAll_get _ e fun hm => by
    have q : (H b).isSome = true := (List.mem_filter.mp hm).2
    rw [n] at q; simp at q
theorem of_hidT {h : Heap} {H : Hp} {b : Addr} {o : Obj} (e : (hidT h H).get? b = some o) : h.get? b = some o ∧ H b = none := by
  have e' : h.get? b = some o := PySem.W.of_hideAll (trk h H) e
  refine ⟨e', ?_⟩
  cases q : H b with
  | none => rfl
  | some x =>
    have hm : b ∈ trk h H := List.mem_filter.mpr ⟨List.mem_range.mpr (Heap.lt_size e'), by simp [q]⟩
    have z : (hidT h H).get? b = none := PySem.W.hideAll_none (trk h H) hm
    rw [z] at e; cases e
def allNews (g h : Heap) (L : Addr) : List (Addr × Obj) := (List.range h.objs.size).filterMap fun a => if a = L ∨ (g.get? a).isSome = true then none else (h.get? a).map fun o => (a, o)
def rest (g h : Heap) (L d : Addr) : List (Addr × Obj) := (allNews g h L).filter fun p => decide (p.1 ≠ d)
end L2
namespace L2
open PySem PySem.Spec PyProof.Rows
structure Mod (K : PySem.W.Frag) (mg : Str → Option Value) (base : Heap) : Prop where
  kin : K.In base
  glob : base.Ns mainGlobals mg
  blt : ∃ mb, base.Ns builtinsNs mb ∧ ∀ x : Str, x ≠ "__name__" → mb x = bootBuiltins x
  nolimit : base.NoLimit
structure Cx where
  prog : Program
  w : World
  K : PySem.W.Frag
  mg : Str → Option Value
  base : Heap
  A : Around
  N : List Str
  s₀ : Shared
  H₀ : Hp
  env : Env
  outer : List Env
  stack : List Env
  ex : List Addr
  fn : Str → Bool
  calm : Bool
  pn : List (Addr × Obj)
  xe : Value → Shared → Prop
def frs (l : List Env) : List Addr := l.filterMap (·.frame)
abbrev Cx.fs (X : Cx) : List Addr := frs X.outer
def Vis (sc : Scope) (x : Str) : Prop := sc.names.lookup x = some .local ∨ sc.names.lookup x = some .cell ∨ sc.names.lookup x = some .free
def Loc (sc : Scope) (x : Str) : Prop := sc.names.lookup x = some .local ∨ sc.names.lookup x = some .cell
def Look (env : Env) (h : Heap) (m : Str → Option Value) (x : Str) (u : Value) : Prop :=
  (env.kindOf x = some .local ∧ m x = some u) ∨ ((env.kindOf x = some .cell ∨ env.kindOf x = some .free) ∧ ∃ c, env.cells.lookup x = some c ∧ h.IsCell c (some u))
structure Cx.Ok (X : Cx) : Prop where
  mod : Mod X.K X.mg X.base
  kind : X.env.scope.kind = .function
  glob : X.env.globals = mainGlobals
  blt : X.env.builtins = builtinsNs
  above : X.s₀.heap.objs.size ≤ X.env.locals
  inj : ∀ x y c, X.env.cells.lookup x = some c → X.env.cells.lookup y = some c → x = y
  has : ∀ x, (X.env.kindOf x = some .cell ∨ X.env.kindOf x = some .free) → ∃ c, X.env.cells.lookup x = some c
  cab : ∀ x c, X.fn x = true → X.env.cells.lookup x = some c → X.s₀.heap.objs.size ≤ c
  hd : X.calm = true → X.A.handled = none
  frames : X.A.frames = some X.stack
  stk : X.stack = X.outer ∨ (X.stack = X.env :: X.outer ∧ X.env.frame = some X.env.locals)
  exf : ∀ b ∈ X.ex, b ≠ X.env.locals ∧ ∀ x c, X.env.cells.lookup x = some c → c ≠ b
  bs : ∀ b o, X.base.get? b = some o → X.s₀.heap.get? b = some o ∧ X.H₀ b = none
  bsz : X.base.objs.size ≤ X.s₀.heap.objs.size
  noex : ∀ b o, X.base.get? b = some o → b ∉ X.ex
  exfs : ∀ b ∈ X.ex, b ∉ X.fs
  funs : X.s₀.heap.FunFrames X.base X.outer
  frf : ∀ b ∈ X.fs, X.H₀ b = none
structure Inv (X : Cx) (pins : List (Addr × Obj)) (σ : List (Option V)) (H : Hp) (s : Shared) : Prop where
  ok : X.Ok
  os : s.os = X.s₀.os
  bare : AllBare s.gens
  base : Un X.fs X.ex X.H₀ H X.s₀.heap s.heap
  loc : ∃ m, s.heap.Ns X.env.locals m ∧ ∀ (i : Nat) (x : Str) (v : V), X.N[i]? = some x → σ[i]? = some (some v) → Vis X.env.scope x → ∃ u, RelV v u ∧ Look X.env s.heap m x u
  cell : ∀ x c, X.env.cells.lookup x = some c → ∃ v, s.heap.IsCell c v
  free : H X.env.locals = none
  freeC : ∀ x c, X.env.cells.lookup x = some c → H c = none
  pin : ∀ p ∈ X.pn ++ pins, s.heap.get? p.1 = some p.2 ∧ H p.1 = none ∧ p.1 ≠ X.env.locals ∧ p.1 ∉ X.fs ∧ ∀ v, p.2.data ≠ .cell v
  hok : HOk X.prog X.w H s.heap
  len : σ.length = X.N.length
section
variable {X : Cx} {pins : List (Addr × Obj)} {σ : List (Option V)} {H H' : Hp} {s : Shared} {h' : Heap}
theorem Cx.Ok.nofr (ok : X.Ok) {b : Addr} {o : Obj} (e : X.base.get? b = some o) : b ∉ X.fs := fun hb => by
  have := (ok.funs.mem hb).1
  rw [e] at this; cases this
theorem Inv.bs (I : Inv X pins σ H s) : ∀ b o, X.base.get? b = some o → s.heap.get? b = some o ∧ H b = none := fun b o e =>
  ⟨I.base.keep b o (I.ok.bs b o e).1 (I.ok.bs b o e).2 (I.ok.nofr e) (I.ok.noex b o e), I.base.free b o (I.ok.bs b o e).1 (I.ok.bs b o e).2 (I.ok.noex b o e)⟩
theorem Inv.bk (I : Inv X pins σ H s) : ∀ b o, X.base.get? b = some o → s.heap.get? b = some o := fun b o e => (I.bs b o e).1
theorem Inv.mod (I : Inv X pins σ H s) : Mod X.K X.mg X.base := I.ok.mod
theorem Inv.kIn (I : Inv X pins σ H s) : X.K.In s.heap := I.ok.mod.kin.keeps I.bk
theorem Inv.lt (I : Inv X pins σ H s) : X.env.locals < s.heap.objs.size := let ⟨_, hn, _⟩ := I.loc; hn.lt
theorem Inv.sz (I : Inv X pins σ H s) : X.s₀.heap.objs.size ≤ s.heap.objs.size := Nat.le_trans I.ok.above (Nat.le_of_lt I.lt)
theorem Inv.nofs (I : Inv X pins σ H s) {a : Addr} (h : s.heap.objs.size ≤ a) : a ∉ X.fs := fun hb => by
  obtain ⟨_, o, ho, _⟩ := I.ok.funs.mem hb
  exact absurd (Nat.lt_of_lt_of_le (Heap.lt_size ho) (Nat.le_trans I.sz h)) (Nat.lt_irrefl _)
theorem Inv.cne (I : Inv X pins σ H s) : ∀ x c, X.env.cells.lookup x = some c → c ≠ X.env.locals := fun x c e z => by
  obtain ⟨v, o, ho, hd⟩ := I.cell x c e
  obtain ⟨m, ⟨o', es, ep, ho', hd', _⟩, _⟩ := I.loc
  rw [z, ho'] at ho; cases ho; rw [hd'] at hd; cases hd
theorem Inv.funs (I : Inv X pins σ H s) : s.heap.FunFrames X.base X.outer := by
  have all : ∀ (l : List Env), (∀ b ∈ frs l, b ∈ X.fs) → X.s₀.heap.FunFrames X.base l → s.heap.FunFrames X.base l := by
    intro l
    induction l with
    | nil => intro _ _; trivial
    | cons env r ih =>
      intro hs hl
      obtain ⟨hk, ⟨L, o, hf, hn, ho, hd⟩, hr⟩ := hl
      have hL : L ∈ X.fs := hs L (by unfold frs; rw [List.filterMap_cons, hf]; exact List.mem_cons_self)
      obtain ⟨sl, e⟩ := I.base.slot L o ho (I.ok.frf L hL) hL fun z => I.ok.exfs L z hL
      exact ⟨hk, ⟨L, _, hf, hn, e, hd⟩, ih (fun b hb => hs b (by unfold frs; rw [List.filterMap_cons, hf]; exact List.mem_cons_of_mem _ hb)) hr⟩
  exact all X.outer (fun _ hb => hb) I.ok.funs
theorem Inv.stack (I : Inv X pins σ H s) : s.heap.FunFrames X.base X.stack := by
  rcases I.ok.stk with e | ⟨e, hf⟩
  · rw [e]; exact I.funs
  · rw [e]
    obtain ⟨m, hn, _⟩ := I.loc
    refine .cons (by rw [I.ok.kind]; decide) hf hn ?_ I.funs
    exact Heap.get?_none_of_le (Nat.le_trans I.ok.bsz I.ok.above)
theorem Inv.stkSub (I : Inv X pins σ H s) : ∀ b ∈ frs X.stack, b ∈ X.env.locals :: X.fs := fun b hb => by
  rcases I.ok.stk with e | ⟨e, hf⟩
  · rw [e] at hb; exact List.mem_cons_of_mem _ hb
  · rw [e] at hb
    unfold frs at hb
    rw [List.filterMap_cons, hf] at hb
    exact hb
theorem Inv.stkFree (I : Inv X pins σ H s) : ∀ b ∈ frs X.stack, H b = none := fun b hb => by
  rcases List.mem_cons.mp (I.stkSub b hb) with e | hb
  · rw [e]; exact I.free
  · obtain ⟨_, o, ho, _⟩ := I.ok.funs.mem hb
    exact I.base.free b o ho (I.ok.frf b hb) fun z => I.ok.exfs b z hb
theorem Inv.step {g' : Array GenState} {t' : Nat} {d' : Drawn} {ch : List Addr} (I : Inv X pins σ H s)
    (hch : ∀ b ∈ ch, (b ∈ X.ex ∨ X.s₀.heap.objs.size ≤ b) ∧ b ≠ X.env.locals ∧ (∀ x c, X.env.cells.lookup x = some c → c ≠ b) ∧ ∀ p ∈ X.pn ++ pins, p.1 ≠ b)
    (keep : ∀ b o, b ≠ X.env.locals → b ∉ X.fs → b ∉ ch → s.heap.get? b = some o → H b = none → h'.get? b = some o)
    (slot : ∀ b o, b ≠ X.env.locals → b ∈ X.fs → b ∉ ch → s.heap.get? b = some o → H b = none → ∃ sl, h'.get? b = some { o with slots := sl }) (free : ∀ b o, b ∉ ch → s.heap.get? b = some o → H b = none → H' b = none)
    (there : ∀ b o, b ∉ ch → s.heap.get? b = some o → ∃ o', h'.get? b = some o')
    (tups : ∀ b xs, H b = some (.tup xs) → H' b = some (.tup xs)) (frzs : ∀ b o u, H b = some (.frz o u) → H' b = some (.frz o u)) (tbls : ∀ b ps, H b = some (.tbl ps) → ∃ more, H' b = some (.tbl (ps ++ more)))
    (ns : ∀ m, s.heap.Ns X.env.locals m → h'.Ns X.env.locals m) (hok : HOk X.prog X.w H' h') (hg : AllBare g') :
    Inv X pins σ H' { s with heap := h', gens := g', drawn := d', toks := t' } := by
  have neL : ∀ b o, X.s₀.heap.get? b = some o → b ≠ X.env.locals := fun b o e => Nat.ne_of_lt (Nat.lt_of_lt_of_le (Heap.lt_size e) I.ok.above)
  have neC : ∀ b o, X.s₀.heap.get? b = some o → b ∉ X.ex → b ∉ ch := fun b o e hx hb => by
    rcases (hch b hb).1 with z | z
    · exact hx z
    · exact absurd (Nat.lt_of_lt_of_le (Heap.lt_size e) z) (Nat.lt_irrefl _)
  have cellK : ∀ x c, X.env.cells.lookup x = some c → ∀ v, s.heap.IsCell c v → h'.IsCell c v := fun x c e v ⟨o, ho, hd⟩ => by
    have nch : c ∉ ch := fun z => (hch c z).2.2.1 x c e rfl
    by_cases hc : c ∈ X.fs
    · obtain ⟨sl, q⟩ := slot c o (I.cne x c e) hc nch ho (I.freeC x c e)
      exact ⟨_, q, hd⟩
    · exact ⟨o, keep c o (I.cne x c e) hc nch ho (I.freeC x c e), hd⟩
  refine ⟨I.ok, I.os, hg, ⟨fun b o e n hb hx => ?_, fun b o e n hb hx => ?_, fun b o e n hx => ?_, fun b o e hx => ?_, fun b xs e => tups b xs (I.base.tups b xs e), fun b o xs e => frzs b o xs (I.base.frzs b o xs e), fun b ps e => ?_⟩, ?_, fun x c e => ?_, ?_, fun x c e => ?_, fun p hp => ?_, hok, I.len⟩
  · exact keep b o (neL b o e) hb (neC b o e hx) (I.base.keep b o e n hb hx) (I.base.free b o e n hx)
  · obtain ⟨sl, e1⟩ := I.base.slot b o e n hb hx
    obtain ⟨sl', e2⟩ := slot b _ (neL b o e) hb (neC b o e hx) e1 (I.base.free b o e n hx)
    exact ⟨sl', e2⟩
  · obtain ⟨o', e1⟩ := I.base.there b o e hx
    exact free b o' (neC b o e hx) e1 (I.base.free b o e n hx)
  · obtain ⟨o', e1⟩ := I.base.there b o e hx
    exact there b o' (neC b o e hx) e1
  · obtain ⟨m1, e1⟩ := I.base.tbls b ps e
    obtain ⟨m2, e2⟩ := tbls b _ e1
    exact ⟨m1 ++ m2, by rw [e2, Array.append_assoc]⟩
  · obtain ⟨m, hn, hl⟩ := I.loc
    refine ⟨m, ns m hn, fun i x v e1 e2 e3 => ?_⟩
    obtain ⟨u, r, l⟩ := hl i x v e1 e2 e3
    refine ⟨u, r, ?_⟩
    rcases l with l | ⟨k, c, e, z⟩
    · exact .inl l
    · exact .inr ⟨k, c, e, cellK x c e _ z⟩
  · obtain ⟨v, z⟩ := I.cell x c e
    exact ⟨v, cellK x c e v z⟩
  · obtain ⟨m, ⟨o, _, _, ho, _⟩, _⟩ := I.loc
    exact free _ o (fun z => (hch _ z).2.1 rfl) ho I.free
  · obtain ⟨v, o, ho, hd⟩ := I.cell x c e
    exact free c o (fun z => (hch c z).2.2.1 x c e rfl) ho (I.freeC x c e)
  · obtain ⟨e, n, ne, nf, d⟩ := I.pin p hp
    have nch : p.1 ∉ ch := fun z => (hch p.1 z).2.2.2 p hp rfl
    exact ⟨keep p.1 p.2 ne nf nch e n, free p.1 p.2 nch e n, ne, nf, d⟩
theorem Inv.un {t' : Nat} (I : Inv X pins σ H s) (u : Un X.fs [] H H' s.heap h') (hok : HOk X.prog X.w H' h') : Inv X pins σ H' { s with heap := h', toks := t' } := by
  obtain ⟨m, ⟨o, es, ep, ho, r⟩, _⟩ := id I.loc
  obtain ⟨sl, hL⟩ := u.any ho I.free (by simp)
  exact I.step (g' := s.gens) (d' := s.drawn) (ch := []) (fun _ z => nomatch z) (fun b o _ hb _ e n => u.keep b o e n hb (by simp)) (fun b o _ hb _ e n => u.slot b o e n hb (by simp)) (fun b o _ e n => u.free b o e n (by simp)) (fun b o _ e => u.there b o e (by simp)) u.tups u.frzs u.tbls (fun m' hm => by
    obtain ⟨o', es', ep', ho', r'⟩ := hm
    rw [ho] at ho'; cases ho'
    exact ⟨_, es', ep', hL, r'⟩) hok I.bare
theorem Inv.call {g' : Array GenState} {t' : Nat} {d' : Drawn} {ch : List Addr} (I : Inv X pins σ H s) (u : Un (frs X.stack) ch H H' s.heap h') (hok : HOk X.prog X.w H' h') (hg : AllBare g')
    (hch : ∀ b ∈ ch, (b ∈ X.ex ∨ X.s₀.heap.objs.size ≤ b) ∧ b ≠ X.env.locals ∧ (∀ x c, X.env.cells.lookup x = some c → c ≠ b) ∧ ∀ p ∈ X.pn ++ pins, p.1 ≠ b) :
    Inv X pins σ H' { s with heap := h', gens := g', drawn := d', toks := t' } := by
  obtain ⟨m, ⟨o, es, ep, ho, r⟩, _⟩ := id I.loc
  obtain ⟨sl, hL⟩ := u.any ho I.free fun z => (hch _ z).2.1 rfl
  exact I.step (ch := ch) hch (fun b o hL hb hc e n => u.keep b o e n (fun z => (List.mem_cons.mp (I.stkSub b z)).elim hL hb) hc) (fun b o _ _ hc e n => u.any e n hc) (fun b o hc e n => u.free b o e n hc) (fun b o hc e => u.there b o e hc) u.tups u.frzs u.tbls (fun m' hm => by
    obtain ⟨o', es', ep', ho', r'⟩ := hm
    rw [ho] at ho'; cases ho'
    exact ⟨_, es', ep', hL, r'⟩) hok hg
theorem Inv.turned {t' : Nat} {it : Addr} (I : Inv X pins σ H s) (k : ∀ b o, b ≠ it → s.heap.get? b = some o → h'.get? b = some o) (hn : H it = none) (hL : it ≠ X.env.locals)
    (h1 : it ∈ X.ex ∨ X.s₀.heap.objs.size ≤ it) (h2 : ∀ x c, X.env.cells.lookup x = some c → c ≠ it) (h3 : ∀ p ∈ X.pn ++ pins, p.1 ≠ it) : Inv X pins σ H { s with heap := h', toks := t' } := by
  have nit : ∀ b u, H b = some u → b ≠ it := fun b u e z => by rw [z, hn] at e; cases e
  refine I.step (g' := s.gens) (d' := s.drawn) (ch := [it]) (fun b hb => ?_) (fun b o _ _ hc e _ => k b o (fun z => hc (by simp [z])) e) (fun b o _ _ hc e _ => ⟨o.slots, k b o (fun z => hc (by simp [z])) e⟩) (fun _ _ _ _ n => n)
    (fun b o hc e => ⟨o, k b o (fun z => hc (by simp [z])) e⟩) (fun _ _ e => e) (fun _ _ _ e => e) (fun b ps e => ⟨#[], by rw [e]; simp⟩) (fun m hm => ?_) (fun b u e => ?_) I.bare
  · have e : b = it := by simpa using hb
    subst e
    exact ⟨h1, hL, h2, h3⟩
  · obtain ⟨o, es, ep, ho, r⟩ := hm
    exact ⟨o, es, ep, k _ o (Ne.symm hL) ho, r⟩
  · refine (I.hok b u e).stay (fun c v hc q => k c v ?_ q) (fun _ q => q) fun _ _ q => q
    rcases hc with z | z
    · rw [z]; exact nit b u e
    · exact nit c _ z
theorem Inv.tok (I : Inv X pins σ H s) (t : Nat) : Inv X pins σ H { s with toks := t } := I.un (h' := s.heap) (t' := t) Un.refl I.hok
theorem Inv.kept {t' : Nat} (I : Inv X pins σ H s) (k : ∀ b u, s.heap.get? b = some u → h'.get? b = some u) : Inv X pins σ H { s with heap := h', toks := t' } := I.un (Un.kept k) (I.hok.kept k)
theorem Inv.laid {a : Addr} {o : HO} {t' : Nat} (I : Inv X pins σ H s) (k : ∀ b u, s.heap.get? b = some u → h'.get? b = some u) (hp : s.heap.objs.size ≤ a) (new : ObjOk X.prog X.w (upd H a o) h' a o) :
    Inv X pins σ (upd H a o) { s with heap := h', toks := t' } := I.un (Un.laid k hp (I.hok.fresh hp)) (I.hok.laid k hp new)
theorem Inv.write {x e : Addr} {o : HO} {t' : Nat} (I : Inv X pins σ H s) (mu : Mut (H x)) (he : e = x ∨ H e = some (.own x)) (k : ∀ b u, b ≠ e → s.heap.get? b = some u → h'.get? b = some u) (heo : ∃ u, h'.get? e = some u)
    (new : ObjOk X.prog X.w (upd H x o) h' x o) : Inv X pins σ (upd H x o) { s with heap := h', toks := t' } := I.un (Un.write mu he k heo) (I.hok.write mu he k heo new)
theorem Inv.pins_of {pins' : List (Addr × Obj)} (I : Inv X pins σ H s) (h : ∀ p ∈ pins', s.heap.get? p.1 = some p.2 ∧ H p.1 = none ∧ p.1 ≠ X.env.locals ∧ p.1 ∉ X.fs ∧ ∀ v, p.2.data ≠ .cell v) : Inv X pins' σ H s :=
  ⟨I.ok, I.os, I.bare, I.base, I.loc, I.cell, I.free, I.freeC, fun p hp => (List.mem_append.mp hp).elim (fun z => I.pin p (List.mem_append_left _ z)) (h p), I.hok, I.len⟩
theorem nodup_ix {N : List Str} (hN : N.Nodup) {i j : Nat} {x : Str} (a : N[i]? = some x) (b : N[j]? = some x) : i = j := by
  obtain ⟨h1, e1⟩ := List.getElem?_eq_some_iff.mp a
  obtain ⟨h2, e2⟩ := List.getElem?_eq_some_iff.mp b
  exact (List.getElem_inj hN).mp (e1.trans e2.symm)
theorem store_ok2 {M : Model} {A : Around} {E : Value → Shared → Prop} {i : Nat} {x : Str} {v : V} {u : Value} {Q : Unit → Shared → Prop} (I : Inv X pins σ H s) (hN : X.N.Nodup) (hi : X.N[i]? = some x) (hx : Loc X.env.scope x) (r : RelV v u)
    (h : ∀ s', Inv X pins (σ.set i (some v)) H s' → (∃ a, Heap.SameBut a s.heap s'.heap ∧ (a = X.env.locals ∨ X.env.cells.lookup x = some a)) → Q () s') (hf : X.fn x = true ∨ X.env.scope.names.lookup x = some .local := by first | exact .inl rfl | exact .inr rfl | assumption) : wpAny M A (storeName X.env x u) Q E s := by
  obtain ⟨m, hn, hl⟩ := id I.loc
  have hcls : (X.env.scope.kind == .class || (X.env.scope.kind == .module && X.env.locals != X.env.globals)) = false := by rw [I.ok.kind]; rfl
  have hiσ : i < σ.length := by rw [I.len]; exact (List.getElem?_eq_some_iff.mp hi).1
  have cne := I.cne
  have tracked : ∀ {a : Addr} {h' : Heap}, (∃ o, s.heap.get? a = some o ∧ H a = none) → Heap.SameBut a s.heap h' → HOk X.prog X.w H h' := fun {a h'} ha hs b ob e => by
    obtain ⟨_, _, hfree⟩ := ha
    refine (I.hok b ob e).stay (fun c w' hc q => (hs.2 c ?_).trans q) (fun _ q => q) fun _ _ q => q
    rintro rfl
    rcases hc with rfl | hc
    · rw [hfree] at e; cases e
    · rw [hfree] at hc; cases hc
  rcases hx with hk | hk
  · refine wpAny_storeName_local hk hn (fun h' hn' hs => ?_) hcls
    obtain ⟨oL, _, _, hoL, _⟩ := id hn
    refine h _ ⟨I.ok, I.os, I.bare, ⟨fun b o e n hb hx => ?_, fun b o e n hb hx => ?_, I.base.free, fun b o e hx => ?_, I.base.tups, I.base.frzs, I.base.tbls⟩, ⟨_, hn', fun j y v' e1 e2 e3 => ?_⟩, fun y c e => ?_, I.free, I.freeC, fun p hp => ?_, tracked ⟨oL, hoL, I.free⟩ hs, by simpa using I.len⟩ ⟨_, hs, .inl rfl⟩
    · exact (hs.2 b (Nat.ne_of_lt (Nat.lt_of_lt_of_le (Heap.lt_size e) I.ok.above))).trans (I.base.keep b o e n hb hx)
    · obtain ⟨sl, e1⟩ := I.base.slot b o e n hb hx
      exact ⟨sl, (hs.2 b (Nat.ne_of_lt (Nat.lt_of_lt_of_le (Heap.lt_size e) I.ok.above))).trans e1⟩
    · obtain ⟨o', e1⟩ := I.base.there b o e hx
      exact ⟨o', (hs.2 b (Nat.ne_of_lt (Nat.lt_of_lt_of_le (Heap.lt_size e) I.ok.above))).trans e1⟩
    · by_cases hj : j = i
      · subst hj
        rw [hi] at e1; cases e1
        rw [List.getElem?_set_self hiσ] at e2
        cases e2
        exact ⟨u, r, .inl ⟨hk, by simp⟩⟩
      · rw [List.getElem?_set_ne (Ne.symm hj)] at e2
        obtain ⟨u', r', q⟩ := hl j y v' e1 e2 e3
        refine ⟨u', r', ?_⟩
        rcases q with ⟨k, e⟩ | ⟨k, c, e, z⟩
        · refine .inl ⟨k, ?_⟩
          have : y ≠ x := fun e => hj (nodup_ix hN e1 (e ▸ hi))
          simp [this, e]
        · exact .inr ⟨k, c, e, z.sameBut hs (cne y c e)⟩
    · obtain ⟨w', z⟩ := I.cell y c e
      exact ⟨w', z.sameBut hs (cne y c e)⟩
    · obtain ⟨e, n, ne, nf, d⟩ := I.pin p hp
      exact ⟨(hs.2 p.1 ne).trans e, n, ne, nf, d⟩
  · have hfn : X.fn x = true := by
      rcases hf with z | z
      · exact z
      · rw [z] at hk; cases hk
    obtain ⟨c, hc⟩ := I.ok.has x (.inl hk)
    obtain ⟨w', z⟩ := I.cell x c hc
    refine wpAny_storeName_cell I.ok.kind hk hc z (fun h' hc' hs => ?_)
    obtain ⟨oc, hoc, hocd⟩ := id z
    refine h { s with heap := h' } ⟨I.ok, I.os, I.bare, ⟨fun b o e n hb hx => ?_, fun b o e n hb hx => ?_, I.base.free, fun b o e hx => ?_, I.base.tups, I.base.frzs, I.base.tbls⟩, ⟨m, hn.sameBut hs (Ne.symm (cne x c hc)), fun j y v' e1 e2 e3 => ?_⟩, fun y c' e => ?_, I.free, I.freeC, fun p hp => ?_, tracked ⟨oc, hoc, I.freeC x c hc⟩ hs, by simpa using I.len⟩ ⟨c, hs, .inr hc⟩
    · exact (hs.2 b (Nat.ne_of_lt (Nat.lt_of_lt_of_le (Heap.lt_size e) (I.ok.cab x c hfn hc)))).trans (I.base.keep b o e n hb hx)
    · obtain ⟨sl, e1⟩ := I.base.slot b o e n hb hx
      exact ⟨sl, (hs.2 b (Nat.ne_of_lt (Nat.lt_of_lt_of_le (Heap.lt_size e) (I.ok.cab x c hfn hc)))).trans e1⟩
    · obtain ⟨o', e1⟩ := I.base.there b o e hx
      exact ⟨o', (hs.2 b (Nat.ne_of_lt (Nat.lt_of_lt_of_le (Heap.lt_size e) (I.ok.cab x c hfn hc)))).trans e1⟩
    · by_cases hj : j = i
      · subst hj
        rw [hi] at e1; cases e1
        rw [List.getElem?_set_self hiσ] at e2
        cases e2
        exact ⟨u, r, .inr ⟨.inl hk, c, hc, hc'⟩⟩
      · rw [List.getElem?_set_ne (Ne.symm hj)] at e2
        obtain ⟨u', r', q⟩ := hl j y v' e1 e2 e3
        refine ⟨u', r', ?_⟩
        rcases q with q | ⟨k, c', e, z'⟩
        · exact .inl q
        · refine .inr ⟨k, c', e, z'.sameBut hs ?_⟩
          rintro rfl
          exact hj (nodup_ix hN e1 (I.ok.inj _ _ _ e hc ▸ hi))
    · by_cases hcc : c' = c
      · subst hcc; exact ⟨_, hc'⟩
      · obtain ⟨w2, z2⟩ := I.cell y c' e
        exact ⟨w2, z2.sameBut hs hcc⟩
    · obtain ⟨e, n, ne, nf, d⟩ := I.pin p hp
      refine ⟨(hs.2 p.1 ?_).trans e, n, ne, nf, d⟩
      intro q
      rw [q, hoc] at e
      have q' : oc = p.2 := Option.some.inj e
      exact d w' (by rw [← q']; exact hocd)
theorem store_ok {M : Model} {A : Around} {E : Value → Shared → Prop} {i : Nat} {x : Str} {v : V} {u : Value} {Q : Unit → Shared → Prop} (I : Inv X pins σ H s) (hN : X.N.Nodup) (hi : X.N[i]? = some x) (hx : Loc X.env.scope x) (r : RelV v u)
    (h : ∀ s', Inv X pins (σ.set i (some v)) H s' → Q () s') (hf : X.fn x = true ∨ X.env.scope.names.lookup x = some .local := by first | exact .inl rfl | exact .inr rfl | assumption) : wpAny M A (storeName X.env x u) Q E s :=
  store_ok2 I hN hi hx r (fun s' I' _ => h s' I') hf
theorem Inv.call' {s' : Shared} {ch : List Addr} (I : Inv X pins σ H s) (ho : s'.os = s.os) (u : Un (frs X.stack) ch H H' s.heap s'.heap) (hok : HOk X.prog X.w H' s'.heap) (hg : AllBare s'.gens)
    (hch : ∀ b ∈ ch, (b ∈ X.ex ∨ X.s₀.heap.objs.size ≤ b) ∧ b ≠ X.env.locals ∧ (∀ x c, X.env.cells.lookup x = some c → c ≠ b) ∧ ∀ p ∈ X.pn ++ pins, p.1 ≠ b) : Inv X pins σ H' s' := by
  obtain ⟨h', g', d', t', o'⟩ := s'
  have e : o' = s.os := ho
  subst e
  exact I.call (g' := g') (t' := t') (d' := d') u hok hg hch
end
abbrev XK := Value → Option Addr → Hp → Prop
abbrev St := List (Option V)
abbrev VK := V → Hp → Prop
abbrev TE := St → Hp → VK → Prop
abbrev TT := St → Hp → (Bool → Hp → Prop) → Prop
abbrev TA := St → Hp → (List V → Hp → Prop) → Prop
structure Ends where
  nx : St → Hp → Prop
  rt : VK
  bk : St → Hp → Prop := fun _ _ => False
  ct : St → Hp → Prop := fun _ _ => False
abbrev TS := Ends → St → Hp → Prop
def EP (X : Cx) (pins : List (Addr × Obj)) (σ : St) (Q : VK) (u : Value) (s' : Shared) : Prop := ∃ v H', Inv X pins σ H' s' ∧ RelV v u ∧ Q v H'
def TP (X : Cx) (pins : List (Addr × Obj)) (σ : St) (Q : Bool → Hp → Prop) (b : Bool) (s' : Shared) : Prop := ∃ H', Inv X pins σ H' s' ∧ Q b H'
def AP (X : Cx) (pins : List (Addr × Obj)) (σ : St) (Q : List V → Hp → Prop) (us : List Value) (s' : Shared) : Prop := ∃ vs H', Inv X pins σ H' s' ∧ Vals vs us ∧ Q vs H'
def SP (X : Cx) (pins : List (Addr × Obj)) (D : Ends) (f : Flow) (s' : Shared) : Prop :=
  match f with
  | .next => ∃ σ' H', Inv X pins σ' H' s' ∧ D.nx σ' H'
  | .brk => ∃ σ' H', Inv X pins σ' H' s' ∧ D.bk σ' H'
  | .cont => ∃ σ' H', Inv X pins σ' H' s' ∧ D.ct σ' H'
  | .ret u => ∃ v σ' H', Inv X pins σ' H' s' ∧ RelV v u ∧ D.rt v H'
def PE (X : Cx) (e : Expr) (t : TE) : Prop :=
  ∀ (pins : List (Addr × Obj)) (s : Shared) (σ : St) (H : Hp) (Q : VK), Inv X pins σ H s → t σ H Q → wpAny (model X.prog X.w) X.A (eval e X.env) (EP X pins σ Q) X.xe s
def PT (X : Cx) (e : Expr) (t : TT) : Prop :=
  ∀ (pins : List (Addr × Obj)) (s : Shared) (σ : St) (H : Hp) (Q : Bool → Hp → Prop), Inv X pins σ H s → t σ H Q → wpAny (model X.prog X.w) X.A (isTrue e X.env (eval e X.env)) (TP X pins σ Q) X.xe s
def PW (X : Cx) (e : Expr) (t : TT) : Prop :=
  ∀ (whole : Sem Value) (pins : List (Addr × Obj)) (s : Shared) (σ : St) (H : Hp) (Q : Bool → Hp → Prop), Inv X pins σ H s → t σ H Q → wpAny (model X.prog X.w) X.A (isTrue e X.env whole) (TP X pins σ Q) X.xe s
theorem PW.pt {X : Cx} {e : Expr} {t : TT} (h : PW X e t) : PT X e t := h _
def PA (X : Cx) (es : List Expr) (t : TA) : Prop :=
  ∀ (pos : PySem.Pos) (pins : List (Addr × Obj)) (s : Shared) (σ : St) (H : Hp) (Q : List V → Hp → Prop), Inv X pins σ H s → t σ H Q → wpAny (model X.prog X.w) X.A (spliced (backTo pos (starEach es X.env))) (AP X pins σ Q) X.xe s
def PS (X : Cx) (st : Stmt) (t : TS) : Prop :=
  ∀ (pins : List (Addr × Obj)) (s : Shared) (σ : St) (H : Hp) (D : Ends), Inv X pins σ H s → t D σ H → wpAny (model X.prog X.w) X.A (exec st X.env) (SP X pins D) X.xe s
def PSs (X : Cx) (st : List Stmt) (t : TS) : Prop :=
  ∀ (pins : List (Addr × Obj)) (s : Shared) (σ : St) (H : Hp) (D : Ends), Inv X pins σ H s → t D σ H → wpAny (model X.prog X.w) X.A (execs st X.env) (SP X pins D) X.xe s
theorem thn {α : Type} {t : Sem α} {Q Q' : α → Shared → Prop} {M : Model} {A : Around} {E : Value → Shared → Prop} {s : Shared} (h : wpAny M A t Q E s) (hQ : ∀ a s, Q a s → Q' a s) : wpAny M A t Q' E s := wpAny_mono h hQ fun _ _ x => x
end L2
namespace L2
open PySem PySem.Spec PyProof.Rows
section
variable {X : Cx}
def tVar (i : Nat) : TE := fun σ H Q => ∃ v, σ[i]? = some (some v) ∧ Q v H
def tC (v : V) : TE := fun _ H Q => Q v H
theorem pe_var {i : Nat} {x : Str} {pos : PySem.Pos} (hN : X.N[i]? = some x) (hv : Vis X.env.scope x) (hd : (x == ("__debug__" : Str)) = false := by decide) (hcd : (x == ("__classdict__" : Str)) = false := by decide) : PE X (.Name x pos) (tVar i) := by
  intro pins s σ H Q I h
  obtain ⟨v, e, h⟩ := h
  obtain ⟨m, hn, hl⟩ := I.loc
  obtain ⟨u, r, l⟩ := hl i x v hN e hv
  have fin : EP X pins σ Q u s := ⟨v, H, I, r, h⟩
  rcases l with ⟨hk, hm⟩ | ⟨hk, c, hc, hcell⟩
  · exact wpAny_Name (wpAny_loadName_local I.ok.kind hk hn hm fin) hd
  · rcases hk with hk | hk
    · exact wpAny_Name (wpAny_loadName_cell I.ok.kind hk hc hcell fin) hd
    · exact wpAny_Name (wpAny_loadName_free I.ok.kind hk hc hcell fin hcd) hd
theorem pe_int {i j pos} : PE X (.Constant (.int i) j pos) (tC (.int i)) := fun _ _ _ H _ I h => wpAny_Constant_int ⟨.int i, H, I.tok _, ⟨_, rfl⟩, h⟩
theorem pe_bl {b j pos} : PE X (.Constant (.bool b) j pos) (tC (.bl b)) := fun _ _ _ H _ I h => Constant_bool ⟨.bl b, H, I, rfl, h⟩
theorem pe_str {x j pos} : PE X (.Constant (.str x) j pos) (tC (.str x)) := fun _ _ _ H _ I h => Calls.Constant_str ⟨.str x, H, I.tok _, ⟨_, rfl⟩, h⟩
def Gl (X : Cx) (x : Str) : Prop := X.env.kindOf x = some .globalImplicit
theorem ld_glob {E : Value → Shared → Prop} {pins : List (Addr × Obj)} {s : Shared} {σ : St} {H : Hp} {x : Str} {u : Value} {pos : PySem.Pos} {Q : Value → Shared → Prop} (I : Inv X pins σ H s) (hg : Gl X x) (hm : X.mg x = some u) (h : Q u s)
    (hd : (x == ("__debug__" : Str)) = false := by decide) : wpAny (model X.prog X.w) X.A (eval (.Name x pos) X.env) Q E s :=
  Calls.Name_function_global I.ok.kind hg (Calls.loadGlobal_global (by rw [I.ok.glob]; exact I.mod.glob.keeps I.bk) hm h) hd
theorem ld_blt {E : Value → Shared → Prop} {pins : List (Addr × Obj)} {s : Shared} {σ : St} {H : Hp} {x : Str} {u : Value} {pos : PySem.Pos} {Q : Value → Shared → Prop} (I : Inv X pins σ H s) (hg : Gl X x) (hm : X.mg x = none) (hv : bootBuiltins x = some u) (h : Q u s)
    (hn : x ≠ "__name__" := by decide) (hd : (x == ("__debug__" : Str)) = false := by decide) : wpAny (model X.prog X.w) X.A (eval (.Name x pos) X.env) Q E s := by
  obtain ⟨mb, h1, h2⟩ := I.mod.blt
  exact Calls.Name_function_global I.ok.kind hg (Calls.loadGlobal_builtin (by rw [I.ok.glob]; exact I.mod.glob.keeps I.bk) hm (by rw [I.ok.blt]; exact h1.keeps I.bk) ((h2 x hn).trans hv) h) hd
theorem pe_glob {x : Str} {v : V} {u : Value} {pos : PySem.Pos} (hg : Gl X x) (hm : X.mg x = some u) (r : RelV v u) (hd : (x == ("__debug__" : Str)) = false := by decide) : PE X (.Name x pos) (tC v) :=
  fun _ _ _ H _ I h => ld_glob I hg hm ⟨v, H, I, r, h⟩ hd
theorem pe_bltn {x : Str} {v : V} {u : Value} {pos : PySem.Pos} (hg : Gl X x) (hm : X.mg x = none) (hv : bootBuiltins x = some u) (r : RelV v u) (hn : x ≠ "__name__" := by decide) (hd : (x == ("__debug__" : Str)) = false := by decide) : PE X (.Name x pos) (tC v) :=
  fun _ _ _ H _ I h => ld_blt I hg hm hv ⟨v, H, I, r, h⟩ hn hd
variable {a b : Expr} {ta tb : TE} {pos : PySem.Pos}
def tB (t : TE) : TT := fun σ H Q => t σ H fun x H1 => ∃ c, x = .bl c ∧ Q c H1
theorem pt_val {e : Expr} {t : TE} (h : PE X e t) (he : ∀ whole, isTrue e X.env whole = (do let v ← whole; standAt e.pos; holding [v] (truthy v)) := by intro _; rfl) : PT X e (tB t) := by
  intro pins s σ H Q I hw
  refine isTrue_plain (thn (h pins s σ H _ I hw) fun v s1 ⟨x, H1, I1, r1, q1⟩ => ?_) (he _)
  obtain ⟨d, rfl, q⟩ := q1
  cases r1
  exact wpAny_truthy_bool ⟨H1, I1, q⟩
variable {tA tB' : TT} {rest : List Expr}
def tAnd (t u : TT) : TT := fun σ H Q => t σ H fun c H1 => if c = true then u σ H1 Q else Q false H1
def tOr (t u : TT) : TT := fun σ H Q => t σ H fun c H1 => if c = true then Q true H1 else u σ H1 Q
def tNot (t : TT) : TT := fun σ H Q => t σ H fun c H1 => Q (!c) H1
theorem pw_and1 (ha : PT X a tA) : PW X (.BoolOp .And [a] pos) tA := by
  intro wh pins s σ H Q I h
  refine isTrue_and (thn (ha pins s σ H Q I h) fun c s1 e => ?_)
  cases c with
  | true => exact isTrue_and_nil e
  | false => exact e
theorem pw_or1 (ha : PT X a tA) : PW X (.BoolOp .Or [a] pos) tA := by
  intro wh pins s σ H Q I h
  refine isTrue_or (thn (ha pins s σ H Q I h) fun c s1 e => ?_)
  cases c with
  | false => exact isTrue_or_nil e
  | true => exact e
theorem pw_and (ha : PT X a tA) (hb : PW X (.BoolOp .And (b :: rest) pos) tB') : PW X (.BoolOp .And (a :: b :: rest) pos) (tAnd tA tB') := by
  intro wh pins s σ H Q I h
  refine isTrue_and (thn (ha pins s σ H _ I h) fun c s1 ⟨H1, I1, q1⟩ => ?_)
  cases c with
  | true => exact hb wh pins s1 σ H1 Q I1 q1
  | false => exact ⟨H1, I1, q1⟩
theorem pw_or (ha : PT X a tA) (hb : PW X (.BoolOp .Or (b :: rest) pos) tB') : PW X (.BoolOp .Or (a :: b :: rest) pos) (tOr tA tB') := by
  intro wh pins s σ H Q I h
  refine isTrue_or (thn (ha pins s σ H _ I h) fun c s1 ⟨H1, I1, q1⟩ => ?_)
  cases c with
  | true => exact ⟨H1, I1, q1⟩
  | false => exact hb wh pins s1 σ H1 Q I1 q1
theorem pt_not (ha : PT X a tA) : PT X (.UnaryOp .Not a pos) (tNot tA) := by
  intro pins s σ H Q I h
  exact isTrue_not (ha pins s σ H (fun c H1 => Q (!c) H1) I h)
def tAndV (ta tb : TE) : TE := fun σ H Q => ta σ H fun x H1 => ∃ c, x = .bl c ∧ if c = true then tb σ H1 Q else Q (.bl false) H1
def tNotV (ta : TE) : TE := fun σ H Q => ta σ H fun x H1 => ∃ c, x = .bl c ∧ Q (.bl (!c)) H1
theorem pe_one {op} {t : TE} (h : PE X a t) : PE X (.BoolOp op [a] pos) t := fun pins s σ H Q I hw => BoolOp_one (h pins s σ H Q I hw)
theorem pe_and (ha : PE X a ta) (hb : PE X (.BoolOp .And (b :: rest) pos) tb) : PE X (.BoolOp .And (a :: b :: rest) pos) (tAndV ta tb) := by
  intro pins s σ H Q I h
  refine BoolOp_and (thn (ha pins s σ H _ I h) fun v s1 ⟨x, H1, I1, r1, q1⟩ => ?_)
  obtain ⟨c, rfl, q1⟩ := q1
  cases r1
  refine wpAny_truthy_bool ?_
  cases c with
  | true => exact hb pins s1 σ H1 Q I1 q1
  | false => exact ⟨.bl false, H1, I1, rfl, q1⟩
theorem pe_not (ha : PE X a ta) : PE X (.UnaryOp .Not a pos) (tNotV ta) := by
  intro pins s σ H Q I h
  refine UnaryOp_ (thn (ha pins s σ H _ I h) fun v s1 ⟨x, H1, I1, r1, q1⟩ => ?_)
  obtain ⟨c, rfl, q1⟩ := q1
  cases r1
  exact not_of (wpAny_truthy_bool ⟨.bl (!c), H1, I1, rfl, q1⟩)
end
end L2
namespace L2
open PySem PySem.Spec PyProof.Rows
def SqL (K : PySem.W.Frag) (H : Hp) (a : Addr) (xs : List V) : Prop :=
  Rd H a (.lst xs) ∨
    ∃ (o : Obj) (its : Array Value) (n : Nat), K.lookup a = some o ∧ o.cls = .type "list" ∧ o.dict = none ∧ o.data = .seq its n ∧ its.size ≤ sizeLine ∧ Vals xs its.toList
def SqT (K : PySem.W.Frag) (H : Hp) (a : Addr) (xs : List V) : Prop :=
  Rd H a (.tup xs) ∨
    ∃ (o : Obj) (its : Array Value) (n : Nat), K.lookup a = some o ∧ o.cls = .type "tuple" ∧ o.data = .seq its n ∧ its.size ≤ sizeLine ∧ Vals xs its.toList
def absV : Value → Option V
  | .none => some .non
  | .bool b => some (.bl b)
  | .int i _ => some (.int i)
  | .str x _ => some (.str x)
  | .bytes b _ => some (.byt b)
  | .float b _ => some (.flt b)
  | .ref a => some (.ref a)
  | .type n => some (.ty n)
  | _ => none
theorem RelV.abs {x : V} {u : Value} (r : RelV x u) : absV u = some x := by
  cases x with
  | non => cases r; rfl
  | bl _ => cases r; rfl
  | int _ => obtain ⟨t, rfl⟩ := r; rfl
  | str _ => obtain ⟨t, rfl⟩ := r; rfl
  | byt _ => obtain ⟨t, rfl⟩ := r; rfl
  | flt _ => obtain ⟨t, rfl⟩ := r; rfl
  | ref _ => cases r; rfl
  | ty _ => cases r; rfl
theorem RelV.inj {x y : V} {u : Value} (r : RelV x u) (q : RelV y u) : x = y := Option.some.inj (r.abs.symm.trans q.abs)
theorem Vals.inj : ∀ {xs ys : List V} {us : List Value}, Vals xs us → Vals ys us → xs = ys
  | _, _, _, .nil, .nil => rfl
  | _, _, _, .cons r t, .cons r' t' => by rw [r.inj r', Vals.inj t t']
section
variable {X : Cx} {pins : List (Addr × Obj)} {σ : St} {H : Hp} {s : Shared} {a : Addr} {xs ys : List V}
theorem SqL.of {K : PySem.W.Frag} (h : H a = some (.lst xs)) : SqL K H a xs := .inl (.inl h)
theorem SqT.of {K : PySem.W.Frag} (h : H a = some (.tup xs)) : SqT K H a xs := .inl (.inl h)
theorem Inv.list (I : Inv X pins σ H s) (h : SqL X.K H a xs) : ∃ its : List Value, Vals xs its ∧ PlainL s.heap a its.toArray ∧ xs.length ≤ sizeLine := by
  rcases h with h | ⟨o, its, n, hk, hc, hd, hs, hz, r⟩
  · obtain ⟨z, its, n, r, e⟩ := h.ok I.hok
    exact ⟨its, r, ⟨_, n, e, rfl, rfl, rfl⟩, z⟩
  · refine ⟨its.toList, r, ⟨o, n, I.kIn a o hk, hc, hd, by simpa using hs⟩, ?_⟩
    have e := r.length
    simp only [Array.length_toList] at e
    omega
theorem Inv.tuple (I : Inv X pins σ H s) (h : SqT X.K H a xs) : ∃ its : List Value, Vals xs its ∧ IsTup s.heap a its.toArray ∧ xs.length ≤ sizeLine := by
  rcases h with h | ⟨o, its, n, hk, hc, hs, hz, r⟩
  · obtain ⟨z, its, r, p⟩ := h.ok I.hok
    exact ⟨its, r, p, z⟩
  · refine ⟨its.toList, r, ⟨o, I.kIn a o hk, hc, n, by simpa using hs⟩, ?_⟩
    have e := r.length
    simp only [Array.length_toList] at e
    omega
theorem Inv.list_inj (I : Inv X pins σ H s) (h : SqL X.K H a xs) (h' : SqL X.K H a ys) : xs = ys := by
  obtain ⟨its, r, ⟨o, n, e, _, _, d⟩, _⟩ := I.list h
  obtain ⟨its', r', ⟨o', n', e', _, _, d'⟩, _⟩ := I.list h'
  rw [e] at e'; cases e'
  rw [d] at d'
  injection d' with d1 _
  have : its = its' := by simpa using congrArg Array.toList d1
  subst this
  exact r.inj r'
theorem Inv.tuple_inj (I : Inv X pins σ H s) (h : SqT X.K H a xs) (h' : SqT X.K H a ys) : xs = ys := by
  obtain ⟨its, r, ⟨o, e, _, n, d⟩, _⟩ := I.tuple h
  obtain ⟨its', r', ⟨o', e', _, n', d'⟩, _⟩ := I.tuple h'
  rw [e] at e'; cases e'
  rw [d] at d'
  injection d' with d1 _
  have : its = its' := by simpa using congrArg Array.toList d1
  subst this
  exact r.inj r'
end
abbrev Cx.wish (X : Cx) (E : Value → Shared → Prop) : Cx := { X with xe := E }
abbrev Cx.nox (X : Cx) : Cx := X.wish fun _ _ => False
theorem Cx.Ok.wish {X : Cx} (ok : X.Ok) (E : Value → Shared → Prop) : (X.wish E).Ok :=
  ⟨ok.mod, ok.kind, ok.glob, ok.blt, ok.above, ok.inj, ok.has, ok.cab, ok.hd, ok.frames, ok.stk, ok.exf, ok.bs, ok.bsz, ok.noex, ok.exfs, ok.funs, ok.frf⟩
theorem Cx.Ok.unwish {X : Cx} {E : Value → Shared → Prop} (ok : (X.wish E).Ok) : X.Ok :=
  ⟨ok.mod, ok.kind, ok.glob, ok.blt, ok.above, ok.inj, ok.has, ok.cab, ok.hd, ok.frames, ok.stk, ok.exf, ok.bs, ok.bsz, ok.noex, ok.exfs, ok.funs, ok.frf⟩
section
variable {X : Cx} {pins : List (Addr × Obj)} {σ : St} {H : Hp} {s : Shared} {E : Value → Shared → Prop}
theorem Inv.wish (I : Inv X pins σ H s) (E : Value → Shared → Prop) : Inv (X.wish E) pins σ H s := ⟨I.ok.wish E, I.os, I.bare, I.base, I.loc, I.cell, I.free, I.freeC, I.pin, I.hok, I.len⟩
theorem Inv.unwish (I : Inv (X.wish E) pins σ H s) : Inv X pins σ H s := ⟨I.ok.unwish, I.os, I.bare, I.base, I.loc, I.cell, I.free, I.freeC, I.pin, I.hok, I.len⟩
theorem SP.unwish {D : Ends} {f : Flow} {s' : Shared} (h : SP (X.wish E) pins D f s') : SP X pins D f s' := by
  cases f with
  | next => obtain ⟨σ', H', I, q⟩ := h; exact ⟨σ', H', I.unwish, q⟩
  | brk => obtain ⟨σ', H', I, q⟩ := h; exact ⟨σ', H', I.unwish, q⟩
  | cont => obtain ⟨σ', H', I, q⟩ := h; exact ⟨σ', H', I.unwish, q⟩
  | ret u => obtain ⟨v, σ', H', I, r, q⟩ := h; exact ⟨v, σ', H', I.unwish, r, q⟩
theorem PE.nox {e : Expr} {t : TE} (h : PE X.nox e t) : PE X e t := fun pins s σ H Q I hw =>
  wpAny_mono (h pins s σ H Q (I.wish _) hw) (fun _ _ ⟨v, H', I', r, q⟩ => ⟨v, H', I'.unwish, r, q⟩) fun _ _ z => False.elim z
theorem PT.nox {e : Expr} {t : TT} (h : PT X.nox e t) : PT X e t := fun pins s σ H Q I hw =>
  wpAny_mono (h pins s σ H Q (I.wish _) hw) (fun _ _ ⟨H', I', q⟩ => ⟨H', I'.unwish, q⟩) fun _ _ z => False.elim z
theorem PSs.nox {st : List Stmt} {t : TS} (h : PSs X.nox st t) : PSs X st t := fun pins s σ H D I hw =>
  wpAny_mono (h pins s σ H D (I.wish _) hw) (fun _ _ q => q.unwish) fun _ _ z => False.elim z
end
section
variable {X : Cx} {st : Stmt} {rest : List Stmt} {t u : TS} {e : Expr} {te : TE} {pos : PySem.Pos}
def tNext : TS := fun D σ H => D.nx σ H
def tSeq (t u : TS) : TS := fun D σ H => t { D with nx := u D } σ H
theorem pss_nil : PSs X [] tNext := fun _ _ σ H _ I h => wpAny_execs_nil ⟨σ, H, I, h⟩
theorem pss_cons (h1 : PS X st t) (h2 : PSs X rest u) : PSs X (st :: rest) (tSeq t u) := by
  intro pins s σ H D I h
  refine wpAny_execs_cons (thn (h1 pins s σ H { D with nx := u D } I h) fun f s1 q => ?_)
  cases f with
  | next =>
    obtain ⟨σ', H', I', q⟩ := q
    exact h2 pins s1 σ' H' D I' q
  | ret v => exact q
  | brk => exact q
  | cont => exact q
theorem pss_one (h1 : PS X st t) : PSs X [st] t := by
  intro pins s σ H D I h
  refine wpAny_execs_cons (thn (h1 pins s σ H D I h) fun f s1 q => ?_)
  cases f with
  | next => exact wpAny_execs_nil q
  | ret v => exact q
  | brk => exact q
  | cont => exact q
theorem Inv.quiet {pins : List (Addr × Obj)} {σ : St} {H : Hp} {s : Shared} (I : Inv X pins σ H s) : interactive X.env = false := by simp [interactive, I.ok.kind]
def tDrop (te : TE) : TS := fun D σ H => te σ H fun _ H1 => D.nx σ H1
theorem ps_expr (he : PE X e te) (hs : swapsWith e none pos.line X.env = pure false := by rfl) : PS X (.Expr e pos) (tDrop te) := by
  intro pins s σ H D I h
  exact wpAny_Expr_any (thn (he pins s σ H _ I h) fun v s1 ⟨x, H1, I1, r1, q1⟩ => ⟨σ, H1, I1, q1⟩) I.quiet hs
def tRet (te : TE) : TS := fun D σ H => te σ H D.rt
theorem ps_ret (he : PE X e te) : PS X (.Return (some e) pos) (tRet te) := by
  intro pins s σ H D I h
  exact wpAny_Return_some (thn (he pins s σ H _ I h) fun v s1 ⟨x, H1, I1, r1, q1⟩ => ⟨x, σ, H1, I1, r1, q1⟩)
def tIfS (c : TT) (t u : TS) : TS := fun D σ H => c σ H fun b H1 => if b = true then t D σ H1 else u D σ H1
theorem ps_if {c : Expr} {a b : List Stmt} {tc : TT} (hc : PT X c tc) (ha : PSs X a t) (hb : PSs X b u) : PS X (.If c a b pos) (tIfS tc t u) := by
  intro pins s σ H D I h
  refine wpAny_If (thn (hc pins s σ H _ I h) fun d s1 ⟨H1, I1, q1⟩ => ?_)
  cases d with
  | true => exact ha pins s1 σ H1 D I1 q1
  | false => exact hb pins s1 σ H1 D I1 q1
end
abbrev TG := V → St → Hp → (St → Hp → Prop) → Prop
abbrev TGs := List V → St → Hp → (St → Hp → Prop) → Prop
def PG (X : Cx) (target : Expr) (t : TG) : Prop :=
  ∀ (pins : List (Addr × Obj)) (s : Shared) (σ : St) (H : Hp) (v : V) (u : Value) (Q : St → Hp → Prop), Inv X pins σ H s → RelV v u → t v σ H Q →
    wpAny (model X.prog X.w) X.A (assign target X.env u) (fun _ s' => ∃ σ' H', Inv X pins σ' H' s' ∧ Q σ' H') X.xe s
def PGs (X : Cx) (ts : List Expr) (t : TGs) : Prop :=
  ∀ (pins : List (Addr × Obj)) (s : Shared) (σ : St) (H : Hp) (vs : List V) (us : List Value) (Q : St → Hp → Prop), Inv X pins σ H s → Vals vs us → t vs σ H Q →
    wpAny (model X.prog X.w) X.A (assignInOrder ((assignEach ts X.env).map (·.2)) us) (fun _ s' => ∃ σ' H', Inv X pins σ' H' s' ∧ Q σ' H') X.xe s
abbrev TSet := V → V → V → Hp → (Hp → Prop) → Prop
def PSet (X : Cx) (t : TSet) : Prop :=
  ∀ (pins : List (Addr × Obj)) (s : Shared) (σ : St) (H : Hp) (o i v : V) (ov iv u : Value) (Q : Hp → Prop), Inv X pins σ H s → RelV o ov → RelV i iv → RelV v u → t o i v H Q →
    wpAny (model X.prog X.w) X.A (setItem ov iv u) (fun _ s' => ∃ H', Inv X pins σ H' s' ∧ Q H') X.xe s
section
variable {X : Cx} {pos : PySem.Pos}
def gName (i : Nat) : TG := fun v σ H Q => Q (σ.set i (some v)) H
theorem pg_name {i : Nat} {x : Str} (hN : X.N.Nodup) (hi : X.N[i]? = some x) (hx : Loc X.env.scope x) (hf : X.fn x = true ∨ X.env.scope.names.lookup x = some .local := by first | exact .inl rfl | exact .inr rfl | assumption) : PG X (.Name x pos) (gName i) := by
  intro pins s σ H v u Q I r h
  exact wpAny_assign_Name (store_ok I hN hi hx r (fun s' I' => ⟨_, H, I', h⟩) hf)
def gNil : TGs := fun vs σ H Q => vs = [] ∧ Q σ H
def gCons (t : TG) (u : TGs) : TGs := fun vs σ H Q => ∃ v r, vs = v :: r ∧ t v σ H fun σ' H' => u r σ' H' Q
theorem pgs_nil : PGs X [] gNil := by
  intro pins s σ H vs us Q I r h
  obtain ⟨e, h⟩ := h
  subst e
  cases r
  exact assignInOrder_nil ⟨σ, H, I, h⟩
theorem pgs_cons {e : Expr} {es : List Expr} {t : TG} {u : TGs} (h1 : PG X e t) (h2 : PGs X es u)
    (hs : (assignEach (e :: es) X.env).map (·.2) = assign e X.env :: (assignEach es X.env).map (·.2) := by rfl) : PGs X (e :: es) (gCons t u) := by
  intro pins s σ H vs us Q I r h
  obtain ⟨v, vr, e1, h⟩ := h
  subst e1
  cases r with
  | cons r rr =>
    rw [hs]
    refine assignInOrder_cons (thn (h1 pins s σ H _ _ _ I r h) fun _ s1 ⟨σ1, H1, I1, q1⟩ => ?_)
    exact h2 pins s1 σ1 H1 _ _ Q I1 rr q1
def gTup (K : PySem.W.Frag) (n : Nat) (t : TGs) : TG := fun v σ H Q => ∃ a xs, v = .ref a ∧ SqT K H a xs ∧ xs.length = n ∧ t xs σ H Q
theorem pg_tup {es : List Expr} {k : Nat} {t : TGs} {n : Nat} (hc : X.calm = true) (h : PGs X es t)
    (hn : (assignEach es X.env).length = n := by rfl) (hst : (assignEach es X.env).findIdx? (·.1) = none := by rfl) : PG X (.Tuple es k pos) (gTup X.K n t) := by
  intro pins s σ H v u Q I r hw
  obtain ⟨a, xs, e1, hq, hl, hw⟩ := hw
  subst e1
  cases r
  obtain ⟨its, rv, ht, hz⟩ := I.tuple hq
  refine assign_Tuple_tuple (I.ok.hd hc) ht (by simp [hn, ← hl, rv.length]) hst fun h' hx => ?_
  have I1 : Inv X pins σ H { s with heap := h' } := I.kept (t' := s.toks) fun b o e => hx b o (Nat.ne_of_lt (Heap.lt_size e)) e
  exact h pins _ σ H xs _ Q I1 (by simpa using rv) hw
def gSub (to ti : TE) (t : TSet) : TG := fun v σ H Q => to σ H fun o H1 => ti σ H1 fun i H2 => t o i v H2 fun H3 => Q σ H3
theorem pg_sub {o i : Expr} {to ti : TE} {t : TSet} (ho : PE X o to) (hi : PE X i ti) (hs : PSet X t)
    (ha : ∀ v, assign (.Subscript o i pos) X.env v = (do
      let ov ← holding [v] (eval o X.env)
      let iv ← holding [v, ov] (eval i X.env)
      standAt pos
      holding [v, ov, iv] (setItem ov iv v)
      release [v, ov, iv] []) := by intro _; rfl) : PG X (.Subscript o i pos) (gSub to ti t) := by
  intro pins s σ H v u Q I r h
  rw [ha]
  refine wpAny_bind (wpAny_holding (thn (ho pins s σ H _ I h) fun ov s1 ⟨x, H1, I1, r1, q1⟩ => ?_))
  refine wpAny_bind (wpAny_holding (thn (hi pins s1 σ H1 _ I1 q1) fun iv s2 ⟨y, H2, I2, r2, q2⟩ => ?_))
  refine wpAny_bind (wpAny_standAt (wpAny_bind (wpAny_holding (thn (hs pins s2 σ H2 x y v ov iv u _ I2 r1 r2 r q2) fun _ s3 ⟨H3, I3, q3⟩ => ?_))))
  exact wpAny_release ⟨σ, H3, I3, q3⟩
def tAsg (te : TE) (g : TG) : TS := fun D σ H => te σ H fun x H1 => g x σ H1 D.nx
theorem ps_asg {tg e : Expr} {te : TE} {g : TG} (he : PE X e te) (hg : PG X tg g) (hs : swapsWithSole [tg] e pos.line X.env = pure false := by rfl) (hw : swappedStores [tg] e X.env = pure none := by rfl)
    (h1 : (assignEach [tg] X.env).map (·.2) = [assign tg X.env] := by rfl) : PS X (.Assign [tg] e pos) (tAsg te g) := by
  intro pins s σ H D I h
  refine wpAny_Assign_stores (thn (he pins s σ H _ I h) fun v s1 ⟨x, H1, I1, r1, q1⟩ => ?_) hs hw
  rw [h1]
  exact thn (hg pins s1 σ H1 x v _ I1 r1 q1) fun _ s2 q => q
theorem ps_set {i : Nat} {x : Str} {e : Expr} {te : TE} {pos' : PySem.Pos} (hN : X.N.Nodup) (hi : X.N[i]? = some x) (hx : Loc X.env.scope x) (he : PE X e te) (hs : swapsWith e (some (.Name x pos')) pos.line X.env = pure false := by rfl) (hf : X.fn x = true ∨ X.env.scope.names.lookup x = some .local := by first | exact .inl rfl | exact .inr rfl | assumption) :
    PS X (.Assign [.Name x pos'] e pos) (tAsg te (gName i)) := by
  intro pins s σ H D I h
  refine wpAny_Assign_Name (thn (he pins s σ H _ I h) fun v s1 ⟨y, H1, I1, r1, q1⟩ => ?_) hs
  exact store_ok I1 hN hi hx r1 (fun s2 I2 => ⟨_, H1, I2, q1⟩) hf
end
section
variable {X : Cx} {pos : PySem.Pos}
def tWhile (c : TT) (tb : TS) : TS := fun D σ H => ∃ W : Nat → St → Hp → Prop, (∃ m, W m σ H) ∧ ∀ m σ H, W m σ H →
  c σ H fun b H1 => if b = true then ∃ N : St → Hp → Prop, (∀ σ' H', N σ' H' → ∃ m', m' < m ∧ W m' σ' H') ∧ tb { D with nx := N, ct := N, bk := D.nx } σ H1 else D.nx σ H1
theorem ps_while {c : Expr} {body : List Stmt} {tc : TT} {tb : TS} (hp : PassesOwn (model X.prog X.w) X.A X.env X.xe) (hc : PT X c tc) (hb : PSs X body tb) : PS X (.While c body [] pos) (tWhile tc tb) := by
  intro pins s σ H D I h
  obtain ⟨W, ⟨m0, w0⟩, turn⟩ := h
  refine wpAny_While (codeAny_whileLoop (fun n s' => ∃ σ' H', Inv X pins σ' H' s' ∧ W n σ' H') ?_ m0 ⟨σ, H, I, w0⟩)
  rintro n s1 ⟨σ1, H1, I1, w1⟩
  refine wpAny_passesOwn hp (thn (hc pins s1 σ1 H1 _ I1 (turn n σ1 H1 w1)) fun b s2 ⟨H2, I2, q2⟩ => ?_)
  cases b with
  | true =>
    obtain ⟨N, hN, q2⟩ := q2
    rw [if_pos rfl]
    refine wpAny_passesOwn hp (thn (hb pins s2 σ1 H2 _ I2 q2) fun f s3 q3 => ?_)
    cases f with
    | next =>
      obtain ⟨σ3, H3, I3, n3⟩ := q3
      obtain ⟨m', hm, w3⟩ := hN σ3 H3 n3
      exact ⟨m', hm, σ3, H3, I3, w3⟩
    | cont =>
      obtain ⟨σ3, H3, I3, n3⟩ := q3
      obtain ⟨m', hm, w3⟩ := hN σ3 H3 n3
      exact ⟨m', hm, σ3, H3, I3, w3⟩
    | brk => exact q3
    | ret v => exact q3
  | false =>
    rw [if_neg Bool.false_ne_true]
    exact wpAny_execs_nil ⟨σ1, H2, I2, q2⟩
end
structure It where
  go : Nat → Hp → Prop
  yld : Nat → Hp → V → Hp → Prop
  stop : Nat → Hp → Prop
def FpOk (X : Cx) (pins : List (Addr × Obj)) (H : Hp) (b : Addr) : Prop :=
  H b = none ∧ b ≠ X.env.locals ∧ b ∉ X.fs ∧ (b ∈ X.ex ∨ X.s₀.heap.objs.size ≤ b) ∧ (∀ x c, X.env.cells.lookup x = some c → c ≠ b) ∧ ∀ p ∈ X.pn ++ pins, p.1 ≠ b
theorem Inv.fpOk {X : Cx} {pins : List (Addr × Obj)} {σ : St} {H H' : Hp} {s : Shared} {b : Addr} (I : Inv X pins σ H s) (hb : s.heap.objs.size ≤ b) (hn : H' b = none) : FpOk X pins H' b := by
  refine ⟨hn, Nat.ne_of_gt (Nat.lt_of_lt_of_le I.lt hb), I.nofs hb, .inr (Nat.le_trans I.sz hb), fun x c e z => ?_, fun p hp z => ?_⟩
  · obtain ⟨v, q⟩ := I.cell x c e
    exact absurd (Nat.lt_of_lt_of_le q.lt (by rw [z]; exact hb)) (Nat.lt_irrefl _)
  · exact absurd (Nat.lt_of_lt_of_le (Heap.lt_size (I.pin p hp).1) (by rw [z]; exact hb)) (Nat.lt_irrefl _)
structure Turn (P : Program) (w : World) (K : PySem.W.Frag) (tg : Expr) (J : It) (fp : List Addr) (it : Addr) (tn : Nat → Heap → Prop) : Prop where
  mem : it ∈ fp
  obj : ∀ i h, tn i h → ∀ b ∈ fp, ∃ o, h.get? b = some o ∧ ∀ v, o.data ≠ .cell v
  keep : ∀ i h h', tn i h → (∀ b ∈ fp, ∀ o, h.get? b = some o → h'.get? b = some o) → tn i h'
  item : ∀ (X : Cx), X.prog = P → X.w = w → X.K = K → X.calm = true → ∀ (i : Nat) (pins : List (Addr × Obj)) (s : Shared) (σ : St) (H : Hp) (E : Value → Shared → Prop), Inv X pins σ H s → (∀ b ∈ fp, FpOk X pins H b) → tn i s.heap → J.go i H →
    wpAny (model P w) X.A (pyNext (.ref it)) (fun r s1 => ∃ u, r = some u ∧
      wpAny (model P w) X.A (letOwnedTupleGo tg (.ref it) u) (fun _ s2 => ∃ x H', Inv X pins σ H' s2 ∧ RelV x u ∧ J.yld i H x H' ∧ tn (i + 1) s2.heap ∧ ∀ b ∈ fp, H' b = none) E s1) E s
  done : ∀ (X : Cx), X.prog = P → X.w = w → X.K = K → X.calm = true → ∀ (i : Nat) (pins : List (Addr × Obj)) (s : Shared) (σ : St) (H : Hp) (E : Value → Shared → Prop), Inv X pins σ H s → (∀ b ∈ fp, FpOk X pins H b) → tn i s.heap → J.stop i H →
    wpAny (model P w) X.A (pyNext (.ref it)) (fun r s1 => r = none ∧ Inv X pins σ H s1) E s
  self : ∀ (A : Around) (i : Nat) (s : Shared) (Q : Value → Shared → Prop) (E : Value → Shared → Prop), tn i s.heap → Q (.ref it) s → wpAny (model P w) A (pyIter (.ref it)) Q E s
abbrev TI := St → Hp → (It → Hp → Prop) → Prop
def PIE (X : Cx) (pins : List (Addr × Obj)) (σ : St) (tg : Expr) (R : It → Hp → Prop) (itv : Value) (s2 : Shared) : Prop :=
  ∃ (it : Addr) (fp : List Addr) (tn : Nat → Heap → Prop) (J : It) (H' : Hp), itv = .ref it ∧ Inv X pins σ H' s2 ∧ Turn X.prog X.w X.K tg J fp it tn ∧ tn 0 s2.heap ∧ (∀ b ∈ fp, FpOk X pins H' b) ∧ R J H'
def PI (X : Cx) (tg iter : Expr) (wi : TI) : Prop :=
  ∀ (pins : List (Addr × Obj)) (s : Shared) (σ : St) (H : Hp) (R : It → Hp → Prop), Inv X pins σ H s → wi σ H R →
    wpAny (model X.prog X.w) X.A (eval iter X.env) (fun v s1 => wpAny (model X.prog X.w) X.A (pyIter v) (PIE X pins σ tg R) X.xe s1) X.xe s
theorem go_of {M : Model} {A : Around} {E : Value → Shared → Prop} {s : Shared} {tg : Expr} {it : Addr} {u : Value} {o : Obj} {n : String} {vs : Array Value} {Q : Unit → Shared → Prop} (ho : s.heap.get? it = some o) (hc : o.cls = .type n) (hd : o.data = .fields vs)
    (hn : ["enumerate", "zip", "dict_itemiterator", "dict_reverseitemiterator", "odict_iterator", "itertools.zip_longest", "itertools.pairwise"].contains n = false) (hQ : Q () s) : wpAny M A (letOwnedTupleGo tg (.ref it) u) Q E s := by
  unfold letOwnedTupleGo
  cases tg <;> first
    | exact wpAny_pure hQ
    | (cases u <;> first
        | exact wpAny_pure hQ
        | (refine wpAny_bind (wpAny_load ho ?_)
           rw [hc, hd]
           show wpAny M A (if (["enumerate", "zip", "dict_itemiterator", "dict_reverseitemiterator", "odict_iterator", "itertools.zip_longest", "itertools.pairwise"].contains n && vs[0]? == some (rawInt _)) = true then _ else _) Q E s
           rw [if_neg (by intro h; rw [hn, Bool.false_and] at h; cases h)]
           exact wpAny_pure hQ))
def Itl (K : PySem.W.Frag) (a : Addr) : It :=
  ⟨fun i H => ∃ xs x, SqL K H a xs ∧ xs[i]? = some x, fun i H x H' => H' = H ∧ ∀ xs, SqL K H a xs → xs[i]? = some x, fun i H => ∃ xs, SqL K H a xs ∧ xs.length ≤ i⟩
def Itt (K : PySem.W.Frag) (a : Addr) : It :=
  ⟨fun i H => ∃ xs x, SqT K H a xs ∧ xs[i]? = some x, fun i H x H' => H' = H ∧ ∀ xs, SqT K H a xs → xs[i]? = some x, fun i H => ∃ xs, SqT K H a xs ∧ xs.length ≤ i⟩
def Itr (lo : Int) (n : Nat) : It := ⟨fun i _ => i < n, fun i H x H' => H' = H ∧ x = .int (lo + i), fun i _ => n ≤ i⟩
theorem turn_list {P : Program} {w : World} {K : PySem.W.Frag} {tg : Expr} (a it : Addr) : Turn P w K tg (Itl K a) [it] it (fun i h => h.IsListIter it a i) where
  mem := by simp
  obj := fun i h st b hb => by
    have e : b = it := by simpa using hb
    subst e
    obtain ⟨o, e, c, d⟩ := st
    exact ⟨o, e, fun v z => by rw [d] at z; cases z⟩
  keep := fun i h h' st k => st.at fun o e => k it (by simp) o e
  item := by
    intro X hP hw hK hc i pins s σ H E I hf st hg
    subst hP hw hK
    obtain ⟨xs, x, hq, hx⟩ := hg
    obtain ⟨its, rv, p, hz⟩ := I.list hq
    obtain ⟨u, hu, ru⟩ := rv.get hx
    obtain ⟨f0, f1, f2, f3, f4, f5⟩ := hf it (by simp)
    refine wpAny_pyNext_list_item st p.isList (x := u) (by simpa using hu) fun h' st' sb => ?_
    have I1 : Inv X pins σ H { s with heap := h' } := I.turned (t' := s.toks) (fun b o hb e => (sb.2 b hb).trans e) f0 f1 f3 f4 f5
    obtain ⟨o, e, c, d⟩ := id st'
    exact ⟨u, rfl, go_of (s := { s with heap := h' }) e c d (by decide) ⟨x, H, I1, ru, ⟨rfl, fun ys hy => by rw [I.list_inj hy hq]; exact hx⟩, st', fun b hb => (hf b hb).1⟩⟩
  done := by
    intro X hP hw hK hc i pins s σ H E I hf st hg
    subst hP hw hK
    obtain ⟨xs, hq, hx⟩ := hg
    obtain ⟨its, rv, p, hz⟩ := I.list hq
    obtain ⟨f0, f1, f2, f3, f4, f5⟩ := hf it (by simp)
    have hl := rv.length
    exact wpAny_pyNext_list_end (I.ok.hd hc) st p.isList (by simp; omega) fun h' eb => ⟨rfl, I.turned (t' := s.toks) (fun b o hb e => eb b o hb e) f0 f1 f3 f4 f5⟩
  self := fun _ _ _ _ _ st h => wpAny_pyIter_listiter st h
theorem turn_tuple {P : Program} {w : World} {K : PySem.W.Frag} {tg : Expr} (a it : Addr) : Turn P w K tg (Itt K a) [it] it (fun i h => h.IsTupleIter it a i) where
  mem := by simp
  obj := fun i h st b hb => by
    have e : b = it := by simpa using hb
    subst e
    obtain ⟨o, e, c, d⟩ := st
    exact ⟨o, e, fun v z => by rw [d] at z; cases z⟩
  keep := fun i h h' st k => st.at fun o e => k it (by simp) o e
  item := by
    intro X hP hw hK hc i pins s σ H E I hf st hg
    subst hP hw hK
    obtain ⟨xs, x, hq, hx⟩ := hg
    obtain ⟨its, rv, p, hz⟩ := I.tuple hq
    obtain ⟨u, hu, ru⟩ := rv.get hx
    obtain ⟨f0, f1, f2, f3, f4, f5⟩ := hf it (by simp)
    refine wpAny_pyNext_tuple_item st (show s.heap.IsTuple a its.toArray from p) (x := u) (by simpa using hu) fun h' st' sb => ?_
    have I1 : Inv X pins σ H { s with heap := h' } := I.turned (t' := s.toks) (fun b o hb e => (sb.2 b hb).trans e) f0 f1 f3 f4 f5
    obtain ⟨o, e, c, d⟩ := id st'
    exact ⟨u, rfl, go_of (s := { s with heap := h' }) e c d (by decide) ⟨x, H, I1, ru, ⟨rfl, fun ys hy => by rw [I.tuple_inj hy hq]; exact hx⟩, st', fun b hb => (hf b hb).1⟩⟩
  done := by
    intro X hP hw hK hc i pins s σ H E I hf st hg
    subst hP hw hK
    obtain ⟨xs, hq, hx⟩ := hg
    obtain ⟨its, rv, p, hz⟩ := I.tuple hq
    obtain ⟨f0, f1, f2, f3, f4, f5⟩ := hf it (by simp)
    have hl := rv.length
    exact wpAny_pyNext_tuple_end (I.ok.hd hc) st (show s.heap.IsTuple a its.toArray from p) (by simp; omega) fun h' eb => ⟨rfl, I.turned (t' := s.toks) (fun b o hb e => eb b o hb e) f0 f1 f3 f4 f5⟩
  self := fun _ _ _ _ _ st h => wpAny_pyIter_tupleiter st h
theorem turn_range {P : Program} {w : World} {K : PySem.W.Frag} {tg : Expr} (it : Addr) (lo : Int) (n : Nat) : Turn P w K tg (Itr lo n) [it] it (fun i h => IsRangeIter h it (lo + (i : Nat) * 1) ((n : Int) - (i : Nat)) 1) where
  mem := by simp
  obj := fun i h st b hb => by
    have e : b = it := by simpa using hb
    subst e
    exact ⟨_, st, fun v z => by
      have z' : Data.fields _ = Data.cell v := z
      cases z'⟩
  keep := fun i h h' st k => k it (by simp) _ st
  item := by
    intro X hP hw hK hc i pins s σ H E I hf st hg
    subst hP hw hK
    obtain ⟨f0, f1, f2, f3, f4, f5⟩ := hf it (by simp)
    have W := Walks.range (prog := X.prog) (w := X.w) (I.ok.hd hc) it lo 1 n
    refine W.item i s _ _ hg st fun v h' tk hv st' kk => ?_
    obtain ⟨t, rfl⟩ := hv
    have I1 : Inv X pins σ H { s with heap := h', toks := tk } := I.turned (fun b o hb e => kk b o (by simpa using hb) e) f0 f1 f3 f4 f5
    refine ⟨_, rfl, go_of (s := { s with heap := h', toks := tk }) (n := "range_iterator") st' rfl rfl (by decide) ⟨.int (lo + i), H, I1, ⟨t, ?_⟩, ⟨rfl, rfl⟩, st', fun b hb => (hf b hb).1⟩⟩
    rw [Int.mul_one]
  done := by
    intro X hP hw hK hc i pins s σ H E I hf st hg
    subst hP hw hK
    obtain ⟨f0, f1, f2, f3, f4, f5⟩ := hf it (by simp)
    exact wpAny_pyNext_range_end (I.ok.hd hc) st (by have : n ≤ i := hg; omega) fun h' eb => ⟨rfl, I.turned (t' := s.toks) (fun b o hb e => eb b o hb e) f0 f1 f3 f4 f5⟩
  self := fun _ _ _ _ _ st h => wpAny_pyIter_rangeiter st h
end L2
namespace L2
open PySem PySem.Spec PyProof.Rows
section
variable {X : Cx} {tg : Expr}
def iList (K : PySem.W.Frag) (tl : TE) : TI := fun σ H R => tl σ H fun x H1 => ∃ a, x = .ref a ∧ (∃ xs, SqL K H1 a xs) ∧ R (Itl K a) H1
def iTup (K : PySem.W.Frag) (tl : TE) : TI := fun σ H R => tl σ H fun x H1 => ∃ a, x = .ref a ∧ (∃ xs, SqT K H1 a xs) ∧ R (Itt K a) H1
theorem pi_list {l : Expr} {tl : TE} (hl : PE X l tl) : PI X tg l (iList X.K tl) := by
  intro pins s σ H R I h
  refine thn (hl pins s σ H _ I h) fun v s1 ⟨x, H1, I1, r1, q1⟩ => ?_
  obtain ⟨a, e, ⟨xs, hq⟩, q⟩ := q1
  subst e
  cases r1
  obtain ⟨its, rv, p, hz⟩ := I1.list hq
  refine wpAny_pyIter_list p.isList ?_
  refine ⟨s1.heap.objs.size, [s1.heap.objs.size], _, _, H1, rfl, I1.kept (t' := s1.toks) fun b o e => Heap.get?_push_of_some _ e, turn_list a _, ⟨_, Heap.get?_push_size _ rfl, rfl, rfl⟩, fun b hb => ?_, q⟩
  have e : b = s1.heap.objs.size := by simpa using hb
  subst e
  exact I1.fpOk (Nat.le_refl _) (I1.hok.fresh (Nat.le_refl _))
theorem pi_tup {l : Expr} {tl : TE} (hl : PE X l tl) : PI X tg l (iTup X.K tl) := by
  intro pins s σ H R I h
  refine thn (hl pins s σ H _ I h) fun v s1 ⟨x, H1, I1, r1, q1⟩ => ?_
  obtain ⟨a, e, ⟨xs, hq⟩, q⟩ := q1
  subst e
  cases r1
  obtain ⟨its, rv, p, hz⟩ := I1.tuple hq
  refine wpAny_pyIter_tuple (show s1.heap.IsTuple a its.toArray from p) ?_
  refine ⟨s1.heap.objs.size, [s1.heap.objs.size], _, _, H1, rfl, I1.kept (t' := s1.toks) fun b o e => Heap.get?_push_of_some _ e, turn_tuple a _, ⟨_, Heap.get?_push_size _ rfl, rfl, rfl⟩, fun b hb => ?_, q⟩
  have e : b = s1.heap.objs.size := by simpa using hb
  subst e
  exact I1.fpOk (Nat.le_refl _) (I1.hok.fresh (Nat.le_refl _))
theorem range_it {pins : List (Addr × Obj)} {σ : St} {H : Hp} {s : Shared} {R : It → Hp → Prop} {E : Value → Shared → Prop} {lo hi : Int} {t u v : Tok} {tk : Nat} (I : Inv X pins σ H s) (h1 : -(2 ^ 62) ≤ lo) (h2 : lo < 2 ^ 62) (h3 : -(2 ^ 62) ≤ hi) (h4 : hi < 2 ^ 62)
    (q : R (Itr lo (hi - lo).toNat) H) : wpAny (model X.prog X.w) X.A (pyIter (.ref s.heap.objs.size)) (PIE X pins σ tg R) E { s with heap := s.heap.push { cls := .type "range", data := .fields #[.int lo t, .int hi u, .int 1 v] }, toks := tk } := by
  refine wpAny_pyIter_range (IsRange.new ..) (small_one h1 h2 h3 h4) ?_
  have I1 : Inv X pins σ H { s with heap := s.heap.push { cls := .type "range", data := .fields #[.int lo t, .int hi u, .int 1 v] }, toks := tk } := I.kept fun b o e => Heap.get?_push_of_some _ e
  refine ⟨(s.heap.push { cls := .type "range", data := .fields #[.int lo t, .int hi u, .int 1 v] }).objs.size, [(s.heap.push { cls := .type "range", data := .fields #[.int lo t, .int hi u, .int 1 v] }).objs.size], _, _, H, rfl,
    I1.kept (t' := tk) fun b o e => Heap.get?_push_of_some _ e, turn_range _ lo (hi - lo).toNat, ?_, fun b hb => ?_, q⟩
  · have e1 : lo + ((0 : Nat) : Int) * 1 = lo := by simp
    have e2 : (((hi - lo).toNat : Nat) : Int) - ((0 : Nat) : Int) = Builtin.Range.rangeSize lo hi 1 := by rw [rangeSize_one]; split <;> omega
    show IsRangeIter _ _ (lo + ((0 : Nat) : Int) * 1) ((((hi - lo).toNat : Nat) : Int) - ((0 : Nat) : Int)) 1
    rw [e1, e2]
    exact Heap.get?_push_size _ rfl
  · have e : b = (s.heap.push { cls := .type "range", data := .fields #[.int lo t, .int hi u, .int 1 v] }).objs.size := by simpa using hb
    subst e
    exact I1.fpOk (Nat.le_refl _) (I1.hok.fresh (Nat.le_refl _))
def iRng1 (ta : TA) : TI := fun σ H R => ta σ H fun vs H1 => ∃ j : Int, vs = [.int j] ∧ -(2 ^ 62) ≤ j ∧ j < 2 ^ 62 ∧ R (Itr 0 j.toNat) H1
def iRng2 (ta : TA) : TI := fun σ H R => ta σ H fun vs H1 => ∃ i j : Int, vs = [.int i, .int j] ∧ (-(2 ^ 62) ≤ i ∧ i < 2 ^ 62 ∧ -(2 ^ 62) ≤ j ∧ j < 2 ^ 62) ∧ R (Itr i (j - i).toNat) H1
theorem pi_range1 {a : Expr} {ta : TA} {p pos : PySem.Pos} (hg : Gl X "range") (hm : X.mg "range" = none) (ha : PA X [a] ta) (hs : starEach [a] X.env = [(false, eval a X.env)] := by rfl) : PI X tg (.Call (.Name "range" p) [a] [] pos) (iRng1 ta) := by
  intro pins s σ H R I h
  refine Call_ (ld_blt I hg hm boot_range (PyProof.Rows.callWith_type1 (thn (ha pos pins s σ H _ I h) fun us s1 ⟨vs, H1, I1, r1, q1⟩ => ?_) hs rfl))
  obtain ⟨j, e, q1, q2, q⟩ := q1
  subst e
  cases r1 with
  | cons r rr =>
    cases rr
    obtain ⟨t, rfl⟩ := r
    exact call_range_1 (range_it I1 (by omega) (by omega) q1 q2 (by simpa using q))
theorem pi_range2 {a b : Expr} {ta : TA} {p pos : PySem.Pos} (hg : Gl X "range") (hm : X.mg "range" = none) (ha : PA X [a, b] ta) (hs : starEach [a, b] X.env = [(false, eval a X.env), (false, eval b X.env)] := by rfl) (hs2 : starEach [b] X.env = [(false, eval b X.env)] := by rfl) :
    PI X tg (.Call (.Name "range" p) [a, b] [] pos) (iRng2 ta) := by
  intro pins s σ H R I h
  refine Call_ (ld_blt I hg hm boot_range (PyProof.Rows.callWith_type1 (thn (ha pos pins s σ H _ I h) fun us s1 ⟨vs, H1, I1, r1, q1⟩ => ?_) (by rw [hs, hs2]) (by rw [hs2]; rfl)))
  obtain ⟨i, j, e, ⟨q1, q2, q3, q4⟩, q⟩ := q1
  subst e
  cases r1 with
  | cons r rr =>
    cases rr with
    | cons r' rr =>
      cases rr
      obtain ⟨t, rfl⟩ := r
      obtain ⟨t', rfl⟩ := r'
      exact call_range_2 (range_it I1 q1 q2 q3 q4 q)
def tFor (wi : TI) (g : TG) (tb : TS) : TS := fun D σ H => wi σ H fun J H1 => ∃ W : Nat → Nat → St → Hp → Prop, (∃ m, W 0 m σ H1) ∧ ∀ i m σ H, W i m σ H →
  (J.stop i H ∧ D.nx σ H) ∨ (J.go i H ∧ ∃ N : St → Hp → Prop, (∀ σ' H', N σ' H' → ∃ m', m' < m ∧ W (i + 1) m' σ' H') ∧ ∀ x H', J.yld i H x H' → g x σ H' fun σ2 H2 => tb { D with nx := N, ct := N, bk := D.nx } σ2 H2)
def pinsAt (fp : List Addr) (h : Heap) : List (Addr × Obj) := fp.filterMap fun b => (h.get? b).map fun o => (b, o)
theorem mem_pinsAt {fp : List Addr} {h : Heap} {b : Addr} {o : Obj} (hb : b ∈ fp) (e : h.get? b = some o) : (b, o) ∈ pinsAt fp h := List.mem_filterMap.mpr ⟨b, hb, by rw [e]; rfl⟩
theorem of_pinsAt {fp : List Addr} {h : Heap} {p : Addr × Obj} (hp : p ∈ pinsAt fp h) : p.1 ∈ fp ∧ h.get? p.1 = some p.2 := by
  obtain ⟨b, hb, e⟩ := List.mem_filterMap.mp hp
  cases q : h.get? b with
  | none => rw [q] at e; cases e
  | some o =>
    rw [q] at e
    have e' : (b, o) = p := Option.some.inj e
    subst e'
    exact ⟨hb, q⟩
theorem Inv.pinned {pins : List (Addr × Obj)} {σ : St} {H : Hp} {s : Shared} {fp : List Addr} (I : Inv X pins σ H s) (hf : ∀ b ∈ fp, FpOk X pins H b) (ho : ∀ b ∈ fp, ∃ o, s.heap.get? b = some o ∧ ∀ v, o.data ≠ .cell v) : Inv X (pins ++ pinsAt fp s.heap) σ H s :=
  I.pins_of fun p hp => (List.mem_append.mp hp).elim (fun z => I.pin p (List.mem_append_right _ z)) fun z => by
    obtain ⟨hb, e⟩ := of_pinsAt z
    obtain ⟨f0, f1, f2, _⟩ := hf p.1 hb
    obtain ⟨o, e', d⟩ := ho p.1 hb
    rw [e] at e'; cases e'
    exact ⟨e, f0, f1, f2, d⟩
theorem Inv.unpinned {pins pl : List (Addr × Obj)} {σ : St} {H : Hp} {s : Shared} (I : Inv X (pins ++ pl) σ H s) : Inv X pins σ H s := I.pins_of fun p hp => I.pin p (List.mem_append_right _ (List.mem_append_left _ hp))
theorem ps_for {iter : Expr} {body : List Stmt} {wi : TI} {g : TG} {tb : TS} {pos : PySem.Pos} (hp : PassesOwn (model X.prog X.w) X.A X.env X.xe) (hc : X.calm = true) (hi : PI X tg iter wi) (hg : PG X tg g) (hb : PSs X body tb)
    (hs : ∀ x, foldedSetIterable iter X.env x = pure x := by intro _; rfl) : PS X (.For tg iter body [] pos) (tFor wi g tb) := by
  intro pins s σ H D I h
  refine wpAny_For (thn (hi pins s σ H _ I h) fun v s1 h1 => thn h1 fun itv s2 h2 => ?_) hs
  obtain ⟨it, fp, tn, J, H2, e, I2, T, st2, f2, W, ⟨m0, w0⟩, turn⟩ := h2
  subst e
  have stat : ∀ {H' : Hp}, (∀ b ∈ fp, H' b = none) → ∀ b ∈ fp, FpOk X pins H' b := fun hn b hb => ⟨hn b hb, (f2 b hb).2⟩
  refine codeAny_forLoop_any (fun n s' => ∃ i σ' H', Inv X pins σ' H' s' ∧ tn i s'.heap ∧ (∀ b ∈ fp, H' b = none) ∧ W i n σ' H') ?_ m0 ⟨0, σ, H2, I2, st2, fun b hb => (f2 b hb).1, w0⟩
  rintro n s3 ⟨i, σ3, H3, I3, st3, fr3, w3⟩
  rcases turn i n σ3 H3 w3 with ⟨stop, qn⟩ | ⟨go, N, hN, step⟩
  · refine wpAny_passesOwn hp (thn (T.done X rfl rfl rfl hc i pins s3 σ3 H3 X.xe I3 (stat fr3) st3 stop) fun r s4 ⟨hr, I4⟩ => ?_)
    subst hr
    exact wpAny_execs_nil ⟨σ3, H3, I4, qn⟩
  · refine wpAny_passesOwn hp (thn (T.item X rfl rfl rfl hc i pins s3 σ3 H3 X.xe I3 (stat fr3) st3 go) fun r s4 ⟨u, hr, h4⟩ => ?_)
    subst hr
    refine wpAny_passesOwn hp (thn h4 fun _ s5 ⟨x, H5, I5, r5, y5, st5, fr5⟩ => ?_)
    have I5' := I5.pinned (stat fr5) (T.obj _ _ st5)
    refine wpAny_passesOwn hp (thn (hg _ s5 σ3 H5 x u _ I5' r5 (step x H5 y5)) fun _ s6 ⟨σ6, H6, I6, q6⟩ => ?_)
    refine wpAny_passesOwn hp (thn (hb _ s6 σ6 H6 _ I6 q6) fun f s7 q7 => ?_)
    have again : ∀ {σ7 : St} {H7 : Hp}, Inv X (pins ++ pinsAt fp s5.heap) σ7 H7 s7 → N σ7 H7 → ∃ m, m < n ∧ ∃ i σ' H', Inv X pins σ' H' s7 ∧ tn i s7.heap ∧ (∀ b ∈ fp, H' b = none) ∧ W i m σ' H' := fun {σ7 H7} I7 n7 => by
      obtain ⟨m', hm, w7⟩ := hN σ7 H7 n7
      refine ⟨m', hm, i + 1, σ7, H7, I7.unpinned, T.keep _ _ _ st5 fun b hb o e => (I7.pin (b, o) (List.mem_append_right _ (List.mem_append_right _ (mem_pinsAt hb e)))).1, fun b hb => ?_, w7⟩
      obtain ⟨o, e, d⟩ := T.obj _ _ st5 b hb
      exact (I7.pin (b, o) (List.mem_append_right _ (List.mem_append_right _ (mem_pinsAt hb e)))).2.1
    cases f with
    | next => obtain ⟨σ7, H7, I7, n7⟩ := q7; exact again I7 n7
    | cont => obtain ⟨σ7, H7, I7, n7⟩ := q7; exact again I7 n7
    | brk => obtain ⟨σ7, H7, I7, q7⟩ := q7; exact ⟨σ7, H7, I7.unpinned, q7⟩
    | ret v => obtain ⟨x7, σ7, H7, I7, r7, q7⟩ := q7; exact ⟨x7, σ7, H7, I7.unpinned, r7, q7⟩
end
theorem for_list {K : PySem.W.Frag} {a : Addr} {xs : List V} {g : TG} {tb : TS} {D : Ends} {σ : St} {H : Hp} (Pv : Nat → St → Hp → Prop) (h0 : Pv 0 σ H) (hl : ∀ i σ H, i ≤ xs.length → Pv i σ H → SqL K H a xs)
    (hs : ∀ i x σ H, xs[i]? = some x → Pv i σ H → g x σ H fun σ2 H2 => tb { D with nx := Pv (i + 1), ct := Pv (i + 1), bk := D.nx } σ2 H2) (hd : ∀ σ H, Pv xs.length σ H → D.nx σ H) :
    ∃ W : Nat → Nat → St → Hp → Prop, (∃ m, W 0 m σ H) ∧ ∀ i m σ H, W i m σ H →
      ((Itl K a).stop i H ∧ D.nx σ H) ∨ ((Itl K a).go i H ∧ ∃ N : St → Hp → Prop, (∀ σ' H', N σ' H' → ∃ m', m' < m ∧ W (i + 1) m' σ' H') ∧ ∀ x H', (Itl K a).yld i H x H' → g x σ H' fun σ2 H2 => tb { D with nx := N, ct := N, bk := D.nx } σ2 H2) := by
  refine ⟨fun i m σ H => m = xs.length - i ∧ i ≤ xs.length ∧ Pv i σ H, ⟨xs.length, by simp, Nat.zero_le _, h0⟩, ?_⟩
  rintro i m σ H ⟨rfl, hi, p⟩
  have q := hl i σ H hi p
  by_cases hlt : i < xs.length
  · refine .inr ⟨⟨xs, xs[i], q, by simp [hlt]⟩, Pv (i + 1), fun σ' H' p' => ⟨xs.length - (i + 1), by omega, rfl, hlt, p'⟩, fun x H' y => ?_⟩
    obtain ⟨e, y⟩ := y
    subst e
    exact hs i x σ _ (y xs q) p
  · have e : i = xs.length := by omega
    subst e
    exact .inl ⟨⟨xs, q, Nat.le_refl _⟩, hd σ H p⟩
theorem for_range {lo : Int} {n : Nat} {g : TG} {tb : TS} {D : Ends} {σ : St} {H : Hp} (Pv : Nat → St → Hp → Prop) (h0 : Pv 0 σ H)
    (hs : ∀ i σ H, i < n → Pv i σ H → g (.int (lo + i)) σ H fun σ2 H2 => tb { D with nx := Pv (i + 1), ct := Pv (i + 1), bk := D.nx } σ2 H2) (hd : ∀ σ H, Pv n σ H → D.nx σ H) :
    ∃ W : Nat → Nat → St → Hp → Prop, (∃ m, W 0 m σ H) ∧ ∀ i m σ H, W i m σ H →
      ((Itr lo n).stop i H ∧ D.nx σ H) ∨ ((Itr lo n).go i H ∧ ∃ N : St → Hp → Prop, (∀ σ' H', N σ' H' → ∃ m', m' < m ∧ W (i + 1) m' σ' H') ∧ ∀ x H', (Itr lo n).yld i H x H' → g x σ H' fun σ2 H2 => tb { D with nx := N, ct := N, bk := D.nx } σ2 H2) := by
  refine ⟨fun i m σ H => m = n - i ∧ i ≤ n ∧ Pv i σ H, ⟨n, by simp, Nat.zero_le _, h0⟩, ?_⟩
  rintro i m σ H ⟨rfl, hi, p⟩
  by_cases hlt : i < n
  · refine .inr ⟨hlt, Pv (i + 1), fun σ' H' p' => ⟨n - (i + 1), by omega, rfl, hlt, p'⟩, fun x H' y => ?_⟩
    obtain ⟨e, y⟩ := y
    subst e y
    exact hs i σ _ hlt p
  · have e : i = n := by omega
    subst e
    exact .inl ⟨Nat.le_refl _, hd σ H p⟩
theorem while_by {c : TT} {tb : TS} {D : Ends} {σ : St} {H : Hp} (Pv : St → Hp → Prop) (μ : St → Hp → Nat) (h0 : Pv σ H)
    (hs : ∀ σ H, Pv σ H → c σ H fun b H1 => if b = true then tb { D with nx := fun σ' H' => Pv σ' H' ∧ μ σ' H' < μ σ H, ct := fun σ' H' => Pv σ' H' ∧ μ σ' H' < μ σ H, bk := D.nx } σ H1 else D.nx σ H1)
    (mono : ∀ σ H Q Q', (∀ b H1, Q b H1 → Q' b H1) → c σ H Q → c σ H Q') : tWhile c tb D σ H := by
  refine ⟨fun m σ H => m = μ σ H ∧ Pv σ H, ⟨_, rfl, h0⟩, ?_⟩
  rintro m σ H ⟨rfl, p⟩
  refine mono σ H _ _ (fun b H1 q => ?_) (hs σ H p)
  cases b with
  | true => exact ⟨_, fun σ' H' ⟨p', l⟩ => ⟨_, l, rfl, p'⟩, q⟩
  | false => exact q
end L2
namespace L2
open PySem PySem.Spec PyProof.Rows
abbrev R2 := V → V → Hp → VK → Prop
def OpR (X : Cx) (f : Value → Value → Sem Value) (r : R2) : Prop :=
  ∀ (pins : List (Addr × Obj)) (s : Shared) (σ : St) (H : Hp) (x y : V) (v u : Value) (Q : VK), Inv X pins σ H s → RelV x v → RelV y u → r x y H Q →
    wpAny (model X.prog X.w) X.A (f v u) (EP X pins σ Q) X.xe s
def UnR (X : Cx) (f : Value → Sem Value) (r : V → Hp → VK → Prop) : Prop :=
  ∀ (pins : List (Addr × Obj)) (s : Shared) (σ : St) (H : Hp) (x : V) (v : Value) (Q : VK), Inv X pins σ H s → RelV x v → r x H Q →
    wpAny (model X.prog X.w) X.A (f v) (EP X pins σ Q) X.xe s
def CallR (X : Cx) (f : Value) (r : List V → Hp → VK → Prop) : Prop :=
  ∀ (pins : List (Addr × Obj)) (s : Shared) (σ : St) (H : Hp) (xs : List V) (us : List Value) (Q : VK), Inv X pins σ H s → Vals xs us → r xs H Q →
    wpAny (model X.prog X.w) X.A (call f us) (EP X pins σ Q) X.xe s
def tOp (r : R2) (ta tb : TE) : TE := fun σ H Q => ta σ H fun x H1 => tb σ H1 fun y H2 => r x y H2 Q
def tUn (r : V → Hp → VK → Prop) (ta : TE) : TE := fun σ H Q => ta σ H fun x H1 => r x H1 Q
def rI (C : Int → Int → Prop) (g : Int → Int → V) : R2 := fun x y H Q => ∃ i j, x = .int i ∧ y = .int j ∧ C i j ∧ Q (g i j) H
def rI0 (g : Int → Int → V) : R2 := fun x y H Q => ∃ i j, x = .int i ∧ y = .int j ∧ Q (g i j) H
def rU (g : Int → V) : V → Hp → VK → Prop := fun x H Q => ∃ i, x = .int i ∧ Q (g i) H
section
variable {X : Cx} {a b c : Expr} {ta tb tc : TE} {pos : PySem.Pos}
theorem binT (ha : PE X a ta) (hb : PE X b tb) {pins : List (Addr × Obj)} {s : Shared} {σ : St} {H : Hp} {R : V → V → Hp → Prop} (I : Inv X pins σ H s)
    (h : ta σ H fun x H1 => tb σ H1 fun y H2 => R x y H2) {Q : Value → Shared → Prop} {f : Value → Value → Sem Value}
    (hf : ∀ v u s2 x y H2, Inv X pins σ H2 s2 → RelV x v → RelV y u → R x y H2 → wpAny (model X.prog X.w) X.A (f v u) Q X.xe s2) :
    wpAny (model X.prog X.w) X.A (eval a X.env) (fun v s₁ => wpAny (model X.prog X.w) X.A (eval b X.env) (fun u s₂ => wpAny (model X.prog X.w) X.A (f v u) Q X.xe s₂) X.xe s₁) X.xe s := by
  refine thn (ha pins s σ H _ I h) fun v s1 ⟨x, H1, I1, r1, q1⟩ => ?_
  refine thn (hb pins s1 σ H1 _ I1 q1) fun u s2 ⟨y, H2, I2, r2, q2⟩ => ?_
  exact hf v u s2 x y H2 I2 r1 r2 q2
theorem pe_op {op : Operator} {r : R2} (ho : OpR X (binaryOp op) r) (ha : PE X a ta) (hb : PE X b tb) : PE X (.BinOp a op b pos) (tOp r ta tb) := by
  intro pins s σ H Q I h
  exact wpAny_BinOp (binT ha hb I h fun v u s2 x y H2 I2 rx ry q => ho pins s2 σ H2 x y v u Q I2 rx ry q)
theorem pe_un {op : UnaryOp} {r : V → Hp → VK → Prop} (ho : UnR X (unaryOp op) r) (ha : PE X a ta) : PE X (.UnaryOp op a pos) (tUn r ta) := by
  intro pins s σ H Q I h
  exact UnaryOp_ (thn (ha pins s σ H _ I h) fun v s1 ⟨x, H1, I1, r1, q1⟩ => ho pins s1 σ H1 x v Q I1 r1 q1)
theorem opI {f : Value → Value → Sem Value} {C : Int → Int → Prop} {g : Int → Int → Int}
    (rule : ∀ (i j : Int) (t u : Tok) (s : Shared) (Q : Value → Shared → Prop) (E : Value → Shared → Prop), C i j → Q (.int (g i j) s.toks) { s with toks := s.toks + 1 } → wpAny (model X.prog X.w) X.A (f (.int i t) (.int j u)) Q E s) :
    OpR X f (rI C fun i j => .int (g i j)) := by
  intro pins s σ H x y v u Q I rx ry h
  obtain ⟨i, j, rfl, rfl, hc, q⟩ := h
  obtain ⟨t, rfl⟩ := rx
  obtain ⟨t', rfl⟩ := ry
  exact rule i j t t' s _ _ hc ⟨.int (g i j), H, I.tok _, ⟨_, rfl⟩, q⟩
theorem opI0 {f : Value → Value → Sem Value} {g : Int → Int → Int}
    (rule : ∀ (i j : Int) (t u : Tok) (s : Shared) (Q : Value → Shared → Prop) (E : Value → Shared → Prop), Q (.int (g i j) s.toks) { s with toks := s.toks + 1 } → wpAny (model X.prog X.w) X.A (f (.int i t) (.int j u)) Q E s) :
    OpR X f (rI0 fun i j => .int (g i j)) := by
  intro pins s σ H x y v u Q I rx ry h
  obtain ⟨i, j, rfl, rfl, q⟩ := h
  obtain ⟨t, rfl⟩ := rx
  obtain ⟨t', rfl⟩ := ry
  exact rule i j t t' s _ _ ⟨.int (g i j), H, I.tok _, ⟨_, rfl⟩, q⟩
theorem opB0 {f : Value → Value → Sem Value} {g : Int → Int → Bool}
    (rule : ∀ (i j : Int) (t u : Tok) (s : Shared) (Q : Value → Shared → Prop) (E : Value → Shared → Prop), Q (.bool (g i j)) s → wpAny (model X.prog X.w) X.A (f (.int i t) (.int j u)) Q E s) :
    OpR X f (rI0 fun i j => .bl (g i j)) := by
  intro pins s σ H x y v u Q I rx ry h
  obtain ⟨i, j, rfl, rfl, q⟩ := h
  obtain ⟨t, rfl⟩ := rx
  obtain ⟨t', rfl⟩ := ry
  exact rule i j t t' s _ _ ⟨.bl (g i j), H, I, rfl, q⟩
def CPow (i j : Int) : Prop := 0 ≤ j ∧ j ≤ 1000000 ∧ i.natAbs < 2 ^ 64
def CMul (i j : Int) : Prop := (-(2 ^ 64) < i ∧ i < 2 ^ 64) ∨ (-(2 ^ 64) < j ∧ j < 2 ^ 64)
theorem CMul.ok {i j : Int} (h : CMul i j) : IntMulOk i j := by
  rcases h with ⟨h1, h2⟩ | ⟨h1, h2⟩
  · exact .of_left (intBits_le_64 h1 h2)
  · exact .of_right (intBits_le_64 h1 h2)
theorem two_pow_nn (k : Nat) : (0 : Int) ≤ 2 ^ k := by
  rw [two_pow_cast]
  exact Int.natCast_nonneg _
theorem op_add : OpR X (binaryOp .Add) (rI0 fun i j => .int (i + j)) := opI0 fun _ _ _ _ _ _ _ q => add_int q
theorem op_sub : OpR X (binaryOp .Sub) (rI0 fun i j => .int (i - j)) := opI0 fun _ _ _ _ _ _ _ q => sub_int q
theorem op_mul : OpR X (binaryOp .Mult) (rI CMul fun i j => .int (i * j)) := opI fun _ _ _ _ _ _ _ hc q => mul_int q hc.ok
theorem op_mod : OpR X (binaryOp .Mod) (rI (fun _ j => 0 < j) fun i j => .int (i % j)) := opI fun i j _ _ _ _ _ hc q => by
  have h1 : (0 : Int) < j := hc
  exact mod_int' (by omega) (by rw [Int.fmod_eq_emod_of_nonneg i (by omega)]; exact q)
theorem op_pow : OpR X (binaryOp .Pow) (rI CPow fun i j => .int (i ^ j.toNat)) := opI fun _ _ _ _ _ _ _ hc q => pow_int_small hc.1 hc.2.1 hc.2.2 q
theorem op_shl : OpR X (binaryOp .LShift) (rI CPow fun i j => .int (i * 2 ^ j.toNat)) := opI fun _ _ _ _ _ _ _ hc q => lshift_int_small hc.1 hc.2.1 hc.2.2 q
theorem op_shr : OpR X (binaryOp .RShift) (rI (fun _ j => 0 ≤ j) fun i j => .int (i / 2 ^ j.toNat)) := opI fun i j _ _ _ _ _ hc q =>
  rshift_int hc (by rw [Int.fdiv_eq_ediv_of_nonneg i (two_pow_nn _)]; exact q)
theorem op_and : OpR X (binaryOp .BitAnd) (rI0 fun i j => .int (Builtin.bitAnd i j)) := opI0 fun _ _ _ _ _ _ _ q => and_int q
theorem op_xor : OpR X (binaryOp .BitXor) (rI0 fun i j => .int (Builtin.bitXor i j)) := opI0 fun _ _ _ _ _ _ _ q => xor_int q
theorem unI {f : Value → Sem Value} {g : Int → Int}
    (rule : ∀ (i : Int) (t : Tok) (s : Shared) (Q : Value → Shared → Prop) (E : Value → Shared → Prop), Q (.int (g i) s.toks) { s with toks := s.toks + 1 } → wpAny (model X.prog X.w) X.A (f (.int i t)) Q E s) :
    UnR X f (rU fun i => .int (g i)) := by
  intro pins s σ H x v Q I rx h
  obtain ⟨i, rfl, q⟩ := h
  obtain ⟨t, rfl⟩ := rx
  exact rule i t s _ _ ⟨.int (g i), H, I.tok _, ⟨_, rfl⟩, q⟩
theorem un_neg : UnR X (unaryOp .USub) (rU fun i => .int (-i)) := unI fun _ _ _ _ _ q => neg_int q
end
def scal : V → V → Bool
  | .non, .non => true | .non, .int _ => true | .int _, .non => true | .non, .bl _ => true | .bl _, .non => true | .non, .str _ => true | .str _, .non => true
  | .int _, .int _ => true | .bl _, .bl _ => true | .str _, .str _ => true | .byt _, .byt _ => true
  | .int _, .str _ => true | .str _, .int _ => true | .bl _, .str _ => true | .str _, .bl _ => true
  | _, _ => false
def rEq : R2 := fun x y H Q => scal x y = true ∧ Q (.bl (decide (x = y))) H
def rNe : R2 := fun x y H Q => scal x y = true ∧ Q (.bl (!decide (x = y))) H
theorem dec_int {i j : Int} : decide (V.int i = V.int j) = (i == j) := by
  rw [Bool.eq_iff_iff]
  simp
theorem dec_bl {i j : Bool} : decide (V.bl i = V.bl j) = (i == j) := by
  rw [Bool.eq_iff_iff]
  simp
theorem dec_str {i j : Str} : decide (V.str i = V.str j) = (i == j) := by
  rw [Bool.eq_iff_iff]
  simp
theorem dec_byt {i j : Array UInt8} : decide (V.byt i = V.byt j) = (i.toList == j.toList) := by
  rw [Bool.eq_iff_iff]
  cases i
  cases j
  simp
section
variable {X : Cx} {a b c : Expr} {ta tb tc : TE} {pos : PySem.Pos}
theorem fin_bl {pins : List (Addr × Obj)} {σ : St} {H : Hp} {s : Shared} {Q : VK} {k k' : Bool} (I : Inv X pins σ H s) (q : Q (.bl k) H) (e : k = k') : EP X pins σ Q (.bool k') s := by
  subst e
  exact ⟨.bl k, H, I, rfl, q⟩
theorem op_eq : OpR X (compareOp .Eq) rEq := by
  intro pins s σ H x y v u Q I rx ry h
  obtain ⟨hs, q⟩ := h
  cases x with
  | non =>
    cases rx
    cases y with
    | non => cases ry; exact PySem.EqNone.eq_none_none (fin_bl I q (by simp))
    | bl j => cases ry; exact PySem.EqNone.eq_none_bool (fin_bl I q (by simp))
    | int j => obtain ⟨t', rfl⟩ := ry; exact PySem.EqNone.eq_none_int (fin_bl I q (by simp))
    | str j => obtain ⟨t', rfl⟩ := ry; exact PySem.EqNone.eq_none_str (fin_bl I q (by simp))
    | _ => exact absurd (show false = true from hs) Bool.false_ne_true
  | bl i =>
    cases rx
    cases y with
    | non => cases ry; exact PySem.EqNone.eq_bool_none (fin_bl I q (by simp))
    | bl j => cases ry; exact eq_bool (fin_bl I q dec_bl)
    | str j => obtain ⟨t', rfl⟩ := ry; exact PySem.EqMixed.eq_bool_str (fin_bl I q (by simp))
    | _ => exact absurd (show false = true from hs) Bool.false_ne_true
  | int i =>
    obtain ⟨t, rfl⟩ := rx
    cases y with
    | non => cases ry; exact PySem.EqNone.eq_int_none (fin_bl I q (by simp))
    | int j => obtain ⟨t', rfl⟩ := ry; exact eq_int (fin_bl I q dec_int)
    | str j => obtain ⟨t', rfl⟩ := ry; exact PySem.EqMixed.eq_int_str (fin_bl I q (by simp))
    | _ => exact absurd (show false = true from hs) Bool.false_ne_true
  | str i =>
    obtain ⟨t, rfl⟩ := rx
    cases y with
    | non => cases ry; exact PySem.EqNone.eq_str_none (fin_bl I q (by simp))
    | bl j => cases ry; exact PySem.EqMixed.eq_str_bool (fin_bl I q (by simp))
    | int j => obtain ⟨t', rfl⟩ := ry; exact PySem.EqMixed.eq_str_int (fin_bl I q (by simp))
    | str j => obtain ⟨t', rfl⟩ := ry; exact eq_str (fin_bl I q dec_str)
    | _ => exact absurd (show false = true from hs) Bool.false_ne_true
  | byt i =>
    obtain ⟨t, rfl⟩ := rx
    cases y with
    | byt j => obtain ⟨t', rfl⟩ := ry; exact PySem.W.eq_bytes (fin_bl I q dec_byt)
    | _ => exact absurd (show false = true from hs) Bool.false_ne_true
  | _ => cases y <;> exact absurd (show false = true from hs) Bool.false_ne_true
theorem op_ne : OpR X (compareOp .NotEq) rNe := by
  intro pins s σ H x y v u Q I rx ry h
  obtain ⟨hs, q⟩ := h
  cases x with
  | non =>
    cases rx
    cases y with
    | non => cases ry; exact PySem.EqNone.ne_none_none (fin_bl I q (by simp))
    | bl j => cases ry; exact PySem.EqNone.ne_none_bool (fin_bl I q (by simp))
    | int j => obtain ⟨t', rfl⟩ := ry; exact PySem.EqNone.ne_none_int (fin_bl I q (by simp))
    | str j => obtain ⟨t', rfl⟩ := ry; exact PySem.EqNone.ne_none_str (fin_bl I q (by simp))
    | _ => exact absurd (show false = true from hs) Bool.false_ne_true
  | bl i =>
    cases rx
    cases y with
    | non => cases ry; exact PySem.EqNone.ne_bool_none (fin_bl I q (by simp))
    | bl j => cases ry; exact ne_bool (fin_bl I q (congrArg not dec_bl))
    | str j => obtain ⟨t', rfl⟩ := ry; exact PySem.EqMixed.ne_bool_str (fin_bl I q (by simp))
    | _ => exact absurd (show false = true from hs) Bool.false_ne_true
  | int i =>
    obtain ⟨t, rfl⟩ := rx
    cases y with
    | non => cases ry; exact PySem.EqNone.ne_int_none (fin_bl I q (by simp))
    | int j => obtain ⟨t', rfl⟩ := ry; exact ne_int (fin_bl I q (congrArg not dec_int))
    | str j => obtain ⟨t', rfl⟩ := ry; exact PySem.EqMixed.ne_int_str (fin_bl I q (by simp))
    | _ => exact absurd (show false = true from hs) Bool.false_ne_true
  | str i =>
    obtain ⟨t, rfl⟩ := rx
    cases y with
    | non => cases ry; exact PySem.EqNone.ne_str_none (fin_bl I q (by simp))
    | bl j => cases ry; exact PySem.EqMixed.ne_str_bool (fin_bl I q (by simp))
    | int j => obtain ⟨t', rfl⟩ := ry; exact PySem.EqMixed.ne_str_int (fin_bl I q (by simp))
    | str j => obtain ⟨t', rfl⟩ := ry; exact ne_str (fin_bl I q (congrArg not dec_str))
    | _ => exact absurd (show false = true from hs) Bool.false_ne_true
  | byt i =>
    obtain ⟨t, rfl⟩ := rx
    cases y with
    | byt j => obtain ⟨t', rfl⟩ := ry; exact PySem.W.ne_bytes (fin_bl I q (congrArg not dec_byt))
    | _ => exact absurd (show false = true from hs) Bool.false_ne_true
  | _ => cases y <;> exact absurd (show false = true from hs) Bool.false_ne_true
theorem op_lt : OpR X (compareOp .Lt) (rI0 fun i j => .bl (decide (i < j))) := opB0 fun _ _ _ _ _ _ _ q => lt_int q
theorem op_ge : OpR X (compareOp .GtE) (rI0 fun i j => .bl (decide (j ≤ i))) := opB0 fun _ _ _ _ _ _ _ q => ge_int q
theorem nomark (b : Expr) {op : CmpOp} (h : op ≠ .In := by decide) (h2 : op ≠ .NotIn := by decide) : behindInMarks op b = false := by
  have e1 : (op == CmpOp.In) = false := by cases op <;> first | rfl | exact absurd rfl h
  have e2 : (op == CmpOp.NotIn) = false := by cases op <;> first | rfl | exact absurd rfl h2
  cases b <;> simp [behindInMarks, e1, e2]
theorem pe_cmpR {op : CmpOp} {r : R2} (ho : OpR X (compareOp op) r) (ha : PE X a ta) (hb : PE X b tb) (hm : behindInMarks op b = false) : PE X (.Compare a [op] [b] pos) (tOp r ta tb) := by
  intro pins s σ H Q I h
  exact wpAny_Compare1 (binT ha hb I h fun v u s2 x y H2 I2 rx ry q => ho pins s2 σ H2 x y v u Q I2 rx ry q) hm
def tTest (t : TE) : TT := fun σ H Q => t σ H fun x H' => ∃ k, x = .bl k ∧ Q k H'
theorem pt_cmpR {op : CmpOp} {r : R2} (ho : OpR X (compareOp op) r) (ha : PE X a ta) (hb : PE X b tb) (hm : behindInMarks op b = false) : PT X (.Compare a [op] [b] pos) (tTest (tOp r ta tb)) := by
  intro pins s σ H Q I h
  refine wpAny_isTrue_Compare1 (thn (ha pins s σ H _ I h) fun v s1 ⟨x, H1, I1, r1, q1⟩ => thn (hb pins s1 σ H1 _ I1 q1) fun u s2 ⟨y, H2, I2, r2, q2⟩ =>
    thn (ho pins s2 σ H2 x y v u _ I2 r1 r2 q2) fun c s3 ⟨z, H3, I3, r3, k, e, q3⟩ => ?_) hm
  subst e
  cases r3
  exact wpAny_truthy_bool ⟨H3, I3, q3⟩
theorem line63 : (sizeLine : Nat) < 2 ^ 63 := by rw [sizeLine_eq]; decide
theorem vals1 {x : V} {us : List Value} (r : Vals [x] us) : ∃ u, us = [u] ∧ RelV x u := by
  cases r with
  | cons r1 r2 => cases r2; exact ⟨_, rfl, r1⟩
theorem vals2 {x y : V} {us : List Value} (r : Vals [x, y] us) : ∃ u w', us = [u, w'] ∧ RelV x u ∧ RelV y w' := by
  cases r with
  | cons r1 r2 =>
    cases r2 with
    | cons r3 r4 => cases r4; exact ⟨_, _, rfl, r1, r3⟩
theorem call_abs : CallR X (.builtin "abs") (fun xs H Q => ∃ i, xs = [.int i] ∧ Q (.int (if i < 0 then -i else i)) H) := by
  intro pins s σ H xs us Q I r h
  obtain ⟨i, rfl, q⟩ := h
  obtain ⟨u, rfl, t, rfl⟩ := vals1 r
  exact call_abs_int fun u tk => ⟨.int (if i < 0 then -i else i), H, I.tok _, ⟨_, rfl⟩, q⟩
end
end L2
namespace L2
open PySem PySem.Spec PyProof.Rows
structure ObjM (h : Heap) (x dx C : Addr) (mA : Str → Option Value) : Prop where
  obj : h.get? x = some (PySem.W.instObj C dx)
  ns : h.Ns1 dx mA
  ne : dx ≠ x
theorem lookIn_ns {h : Heap} {dx : Addr} {mA : Str → Option Value} (n : h.Ns1 dx mA) : ∃ od, h.get? dx = some od ∧ ∀ name, PySem.W.lookIn name od = some (mA name) := by
  obtain ⟨o, es, ep, ho, hd, hk, _, hm⟩ := n
  refine ⟨o, ho, fun name => ?_⟩
  have e := hm name
  unfold nsFind findBy at e
  rw [← Array.find?_toList] at e
  unfold PySem.W.lookIn
  rw [hd]
  dsimp only
  split
  · rename_i y q
    rw [q] at e
    exact congrArg some e
  · rename_i q
    rw [q] at e
    have a : es.toList.any (·.refKey) = false := by
      rw [List.any_eq_false]
      intro y hy
      obtain ⟨z, t, hkey⟩ := hk y (Array.mem_toList_iff.mp hy)
      simp [DictEntry.refKey, hkey]
    have a' : ¬ es.toList.any (·.refKey) = true := by rw [a]; exact Bool.false_ne_true
    rw [if_neg a']
    exact congrArg some e
theorem ObjM.look {h : Heap} {x dx C : Addr} {mA : Str → Option Value} (I : ObjM h x dx C mA) : ∃ od, PySem.W.InstAt h x (PySem.W.instObj C dx) C (some od) ∧ ∀ name, PySem.W.lookIn name od = some (mA name) :=
  let ⟨od, ho, hl⟩ := lookIn_ns I.ns
  ⟨od, ⟨I.obj, rfl, rfl, ho⟩, hl⟩
theorem RelO.some_of {v : V} {o : Option Value} (r : RelO (some v) o) : ∃ u, o = some u ∧ RelV v u := by
  cases o with
  | none => exact (show False from r).elim
  | some u => exact ⟨u, rfl, r⟩
section
variable {P : Program} {w : World} {H H' : Hp} {h h' : Heap} {a C dx : Addr} {fs fs' : List (Str × V)}
theorem ins_get (hok : HOk P w H h) (e : H a = some (.ins C dx fs)) : ∃ mA, ObjM h a dx C mA ∧ (∀ f, RelO (fs.lookup f) (mA f)) ∧ PySem.Within mA (fs.map (·.1)) ∧ fs.length ≤ 1000 ∧ H dx = some (.own a) := by
  obtain ⟨d, z, ne, ob, mA, n, r, q⟩ := (show ObjOk P w H h a (.ins C dx fs) from hok a _ e)
  exact ⟨mA, ⟨ob, n, ne⟩, r, q, z, d⟩
end
structure Cls (K : PySem.W.Frag) (C : Addr) : Prop where
  pg : PySem.W.plainGet K C Str.empty = true
  hd : PySem.W.hasDictIn K C = true
  po : PySem.W.plainOver K C = true
  sa : PySem.W.findIn K (.ref C) "__setattr__" = some (some (.builtin "object.__setattr__"))
theorem Cls.get {K : PySem.W.Frag} {C : Addr} (c : Cls K C) (f : Str) : PySem.W.plainGet K C f = true := c.pg
section
variable {X : Cx} {pins : List (Addr × Obj)} {σ : St} {H : Hp} {s : Shared} {A : Around} {E : Value → Shared → Prop} {Q : Value → Shared → Prop} {c : Value} {b : Bool}
inductive TyOf (K : PySem.W.Frag) (H : Hp) : V → Value → Prop where
  | non : TyOf K H .non (.type "NoneType")
  | bl (x : Bool) : TyOf K H (.bl x) (.type "bool")
  | int (i : Int) : TyOf K H (.int i) (.type "int")
  | str (x : Str) : TyOf K H (.str x) (.type "str")
  | flt (x : UInt64) : TyOf K H (.flt x) (.type "float")
  | lst {a : Addr} {xs : List V} (e : H a = some (.lst xs)) : TyOf K H (.ref a) (.type "list")
  | frz {a : Addr} {o : Obj} {xs : List V} (e : H a = some (.frz o (.lst xs))) : TyOf K H (.ref a) (.type "list")
  | tup {a : Addr} {xs : List V} (e : H a = some (.tup xs)) : TyOf K H (.ref a) (.type "tuple")
  | dK {a : Addr} {kvs : List (Key × V)} (e : H a = some (.dK kvs)) : TyOf K H (.ref a) (.type "dict")
  | dT {a : Addr} {kvs : List (List Key × V)} (e : H a = some (.dT kvs)) : TyOf K H (.ref a) (.type "dict")
  | ins {a C dx : Addr} {fs : List (Str × V)} (e : H a = some (.ins C dx fs)) (cl : Cls K C) (ha : PySem.W.findIn K (.ref C) "__class__" = some (some (.builtin "object.__class__")))
      (hn : PySem.W.specialIn K (.builtin "object.__class__") "__get__" = some (some (.builtin "getset_descriptor.__get__"))) (htk : PySem.W.takesIn K (.builtin "object.__class__") = some true)
      (hm : PySem.W.mroIn K C (.type "object") = some true) : TyOf K H (.ref a) (.ref C)
theorem isinst_ok {x : V} {u t : Value} (I : Inv X pins σ H s) (rx : RelV x u) (ty : TyOf X.K H x t) (e : PySem.W.kitOne X.K t c = some b) (h : ∀ tk, Q (.bool b) { s with toks := tk }) :
    wpAny (model X.prog X.w) A (call (.builtin "isinstance") [u, c]) Q E s := by
  cases ty with
  | non => cases (show u = Value.none from rx); exact PySem.W.kia_one PySem.W.kitx_none I.kIn True.intro e (fun z => nomatch z) h
  | bl y => cases (show u = Value.bool y from rx); exact PySem.W.kia_one PySem.W.kitx_bool I.kIn True.intro e (fun z => nomatch z) h
  | int i => obtain ⟨t, q⟩ := (show ∃ t, u = Value.int i t from rx); cases q; exact PySem.W.kia_one PySem.W.kitx_int I.kIn True.intro e (fun z => nomatch z) h
  | str y => obtain ⟨t, q⟩ := (show ∃ t, u = Value.str y t from rx); cases q; exact PySem.W.kia_one PySem.W.kitx_str I.kIn True.intro e (fun z => nomatch z) h
  | flt y => obtain ⟨t, q⟩ := (show ∃ t, u = Value.float y t from rx); cases q; exact PySem.W.kia_one PySem.W.kitx_float I.kIn True.intro e (fun z => nomatch z) h
  | @lst a xs ea =>
    cases (show u = Value.ref a from rx)
    obtain ⟨_, _, n, _, h1⟩ := (show ObjOk X.prog X.w H s.heap a (.lst xs) from I.hok a _ ea)
    exact PySem.W.kia_one PySem.W.kitx_list I.kIn ⟨_, h1, rfl⟩ e (fun z => nomatch z) h
  | @frz a ob xs ea =>
    cases (show u = Value.ref a from rx)
    obtain ⟨_, _, _, n, _, h1⟩ := (show ObjOk X.prog X.w H s.heap a (.frz ob (.lst xs)) from I.hok a _ ea)
    exact PySem.W.kia_one PySem.W.kitx_list I.kIn ⟨_, h1, rfl⟩ e (fun z => nomatch z) h
  | @tup a xs ea =>
    cases (show u = Value.ref a from rx)
    obtain ⟨_, _, _, p⟩ := (show ObjOk X.prog X.w H s.heap a (.tup xs) from I.hok a _ ea)
    obtain ⟨o, h1, h2, _⟩ := p
    exact PySem.W.kia_one PySem.W.kitx_tuple I.kIn ⟨o, h1, h2⟩ e (fun z => nomatch z) h
  | @dK a kvs ea =>
    cases (show u = Value.ref a from rx)
    obtain ⟨_, _, vs, _, p⟩ := (show ObjOk X.prog X.w H s.heap a (.dK kvs) from I.hok a _ ea)
    obtain ⟨o, es, ep, h1, h2, _⟩ := p
    exact PySem.W.kia_one PySem.W.kitx_dict I.kIn ⟨o, h1, h2.1⟩ e (fun z => nomatch z) h
  | @dT a kvs ea =>
    cases (show u = Value.ref a from rx)
    obtain ⟨_, _, xs, _, o, es, ep, h1, h2, _⟩ := (show ObjOk X.prog X.w H s.heap a (.dT kvs) from I.hok a _ ea)
    exact PySem.W.kia_one PySem.W.kitx_dict I.kIn ⟨o, h1, h2.1⟩ e (fun z => nomatch z) h
  | @ins a C dx fs ea cl ha hn htk hm =>
    cases (show u = Value.ref a from rx)
    obtain ⟨mA, O, _⟩ := ins_get I.hok ea
    obtain ⟨od, J, _⟩ := O.look
    exact PySem.W.kia_one (PySem.W.kitx_own (cl.get _) cl.hd ha hn htk hm) I.kIn J e (fun z => nomatch z) h
end
end L2
namespace L2
open PySem PySem.Spec PyProof.Rows
structure Room (k : Nat) (A : Around) : Prop where
  hd : A.handled = none
  dp : A.depth + 3 * k + 5 < recursionLimit
  un : A.units + 16 * k + 200 < cLine
  gd : A.guards = some []
theorem Room.mono {j k : Nat} {A : Around} (r : Room k A) (h : j ≤ k) : Room j A := ⟨r.hd, by have := r.dp; omega, by have := r.un; omega, r.gd⟩
theorem Room.deeper {k : Nat} {A : Around} (r : Room (k + 1) A) (env : Env) : Room k (A.deeper env) :=
  ⟨r.hd, by have := r.dp; show A.depth + 1 + 3 * k + 5 < _; omega, by have := r.un; show A.units + 3 + 16 * k + 200 < _; omega, r.gd⟩
theorem Room.depth {k : Nat} {A : Around} (r : Room k A) : A.depth < recursionLimit := by have := r.dp; omega
theorem Room.units {k : Nat} {A : Around} (r : Room k A) : A.units + 64 < cLine := by have := r.un; omega
def tNil : TA := fun _ H Q => Q [] H
def tCons (ta : TE) (tr : TA) : TA := fun σ H Q => ta σ H fun x H1 => tr σ H1 fun xs H2 => Q (x :: xs) H2
section
variable {X : Cx} {e : Expr} {es : List Expr} {te : TE} {t : TA} {pos : PySem.Pos}
theorem pa_nil : PA X [] tNil := fun _ _ _ _ H Q I h => Calls.spliced_nil ⟨[], H, I, .nil, h⟩
theorem pa_cons (ha : PE X e te) (hr : PA X es t) (hs : starEach (e :: es) X.env = (false, eval e X.env) :: starEach es X.env := by rfl) : PA X (e :: es) (tCons te t) := by
  intro pos pins s σ H Q I h
  rw [hs]
  show wpAny _ _ (spliced ((false, eval e X.env) :: backTo pos (starEach es X.env))) _ _ s
  refine Calls.spliced_cons (thn (ha pins s σ H _ I h) fun u s1 ⟨x, H1, I1, r1, q1⟩ => ?_)
  exact thn (hr pos pins s1 σ H1 _ I1 q1) fun us s2 ⟨xs, H2, I2, r2, q2⟩ => ⟨x :: xs, H2, I2, .cons r1 r2, q2⟩
def tTup (t : TA) : TE := fun σ H Q => t σ H fun xs H1 => xs.length ≤ sizeLine ∧ ∀ p, H1 p = none → Q (.ref p) (upd H1 p (.tup xs))
def tLst (t : TA) : TE := fun σ H Q => t σ H fun xs H1 => xs.length ≤ sizeLine ∧ ∀ p, H1 p = none → Q (.ref p) (upd H1 p (.lst xs))
theorem pe_tup {x1} (h : PA X es t) : PE X (.Tuple es x1 pos) (tTup t) := by
  intro pins s σ H Q I hq
  refine wpAny_Tuple_spliced (thn (h pos pins s σ H _ I hq) fun us s1 ⟨xs, H1, I1, r, z, q⟩ => ⟨by rw [← r.length]; exact z, ?_⟩)
  have hf : H1 s1.heap.objs.size = none := I1.hok.fresh (Nat.le_refl _)
  refine ⟨.ref s1.heap.objs.size, upd H1 s1.heap.objs.size (.tup xs), I1.laid (t' := s1.toks) (fun b u e => Heap.get?_push_of_some _ e) (Nat.le_refl _) ?_, rfl, q _ hf⟩
  exact ⟨z, us, r, ⟨_, Heap.get?_push_size _ rfl, rfl, _, rfl⟩⟩
theorem pe_lst (h : PA X es t) : PE X (.List es pos) (tLst t) := by
  intro pins s σ H Q I hq
  refine wpAny_List_spliced (thn (h pos pins s σ H _ I hq) fun us s1 ⟨xs, H1, I1, r, z, q⟩ => ⟨by rw [← r.length]; exact z, ?_⟩)
  have hf : H1 s1.heap.objs.size = none := I1.hok.fresh (Nat.le_refl _)
  refine ⟨.ref s1.heap.objs.size, upd H1 s1.heap.objs.size (.lst xs), I1.laid (t' := s1.toks) (fun b u e => Heap.get?_push_of_some _ e) (Nat.le_refl _) ?_, rfl, q _ hf⟩
  exact ⟨z, us, 0, r, Heap.get?_push_size _ rfl⟩
end
abbrev Sp := List V → Hp → VK → XK → Prop
abbrev CXT := List Env → Hp → Shared → XK → Value → Shared → Prop
structure Env0 (P : Program) (w : World) (K : PySem.W.Frag) (mg : Str → Option Value) (base : Heap) (A : Around) (outer : List Env) (s : Shared) (H : Hp) : Prop where
  frames : A.frames = some outer
  mod : Mod K mg base
  bs : ∀ b o, base.get? b = some o → s.heap.get? b = some o ∧ H b = none
  bsz : base.objs.size ≤ s.heap.objs.size
  funs : s.heap.FunFrames base outer
  frf : ∀ b ∈ frs outer, H b = none
  hok : HOk P w H s.heap
  bare : AllBare s.gens
def CE (outer : List Env) (P : Program) (w : World) (H : Hp) (s : Shared) (Q : VK) (u : Value) (s' : Shared) : Prop :=
  ∃ v H', s'.os = s.os ∧ AllBare s'.gens ∧ Un (frs outer) [] H H' s.heap s'.heap ∧ HOk P w H' s'.heap ∧ RelV v u ∧ Q v H'
def CR (CX : CXT) (outer : List Env) (P : Program) (w : World) (H : Hp) (s : Shared) (Q : VK) (E : XK) (r : Result) (s' : Shared) : Prop :=
  match r with
  | .ok (.ret u) => CE outer P w H s Q u s'
  | .ok _ => False
  | .error e => CX outer H s E e s'
structure FnOk (P : Program) (w : World) (K : PySem.W.Frag) (mg : Str → Option Value) (base : Heap) (CX : CXT) (k : Nat) (f : Addr) (fd : FuncData) (ps : List Str) (sp : Sp) : Prop where
  len : ∀ vs H Q E, sp vs H Q E → vs.length = ps.length
  run : ∀ (A : Around) (outer : List Env) (s : Shared) (H : Hp) (args : Args) (us : List Value) (vs : List V) (Q : VK) (E : XK), Room k A → Env0 P w K mg base A outer s H → BindsTo s fd args (ps.zip us) → Vals vs us → sp vs H Q E →
    codeAny (model P w) A (.call (.ref f) args) (CR CX outer P w H s Q E) s
section
variable {X : Cx} {pins : List (Addr × Obj)} {σ : St} {H : Hp} {s s' : Shared}
theorem Inv.env0 (I : Inv X pins σ H s) : Env0 X.prog X.w X.K X.mg X.base X.A X.stack s H :=
  ⟨I.ok.frames, I.ok.mod, I.bs, Nat.le_trans I.ok.bsz I.sz, I.stack, I.stkFree, I.hok, I.bare⟩
theorem Inv.after {Q : VK} {u : Value} (I : Inv X pins σ H s) (h : CE X.stack X.prog X.w H s Q u s') : EP X pins σ Q u s' := by
  obtain ⟨v, H', os, bare, un, hok, r, q⟩ := h
  obtain ⟨hh, g, d, t, os'⟩ := s'
  obtain rfl : os' = s.os := os
  exact ⟨v, H', I.call (h' := hh) (g' := g) (d' := d) (t' := t) (ch := []) un hok bare (fun b z => absurd z (by simp)), r, q⟩
end
def tCall (sp : Sp) (dvs : List V) (E : XK) (t : TA) : TE := fun σ H Q => t σ H fun vs H1 => sp (vs ++ dvs) H1 Q E
def Binds (K : PySem.W.Frag) (fd : FuncData) (ps : List Str) (ds : List Value) : Prop :=
  ∀ (s : Shared) (us : List Value), K.In s.heap → (us ++ ds).length = ps.length → BindsTo s fd ⟨us, []⟩ (ps.zip (us ++ ds))
theorem Binds.all {K : PySem.W.Frag} {fd : FuncData} {ps : List Str} (h : ∀ us : List Value, us.length = ps.length → bindArgs fd ⟨us, []⟩ = pure (ps.zip us)) : Binds K fd ps [] := fun s us _ hl => by
  rw [List.append_nil] at hl ⊢
  exact .of_eq (h us hl)
def Passes (CX : CXT) (X : Cx) (E : XK) : Prop := ∀ (pins : List (Addr × Obj)) (σ : St) (H : Hp) (s : Shared) (e : Value) (s' : Shared), Inv X pins σ H s → CX X.stack H s E e s' → X.xe e s'
section
variable {X : Cx} {CX : CXT} {k : Nat} {f C : Addr} {fd : FuncData} {ps : List Str} {sp : Sp} {dvs : List V} {ds : List Value} {E : XK} {x m : Str} {p pos apos : PySem.Pos} {e o : Expr} {es : List Expr} {ta : TE} {t : TA}
theorem run_fn {pins : List (Addr × Obj)} {σ : St} {H : Hp} {s : Shared} {Q : VK} {us : List Value} {vs : List V} (F : FnOk X.prog X.w X.K X.mg X.base CX k f fd ps sp) (hr : Room k X.A) (hb : Binds X.K fd ps ds) (hd : Vals dvs ds) (hx : Passes CX X E)
    (I : Inv X pins σ H s) (r : Vals vs us) (h : sp (vs ++ dvs) H Q E) : wpAny (model X.prog X.w) X.A (call (.ref f) us) (EP X pins σ Q) X.xe s := by
  have r2 : Vals (vs ++ dvs) (us ++ ds) := r.append hd
  have hl : (us ++ ds).length = ps.length := by rw [← r2.length]; exact F.len _ _ _ _ h
  refine wpAny_call (codeAny_mono (F.run X.A X.stack s H ⟨us, []⟩ (us ++ ds) (vs ++ dvs) Q E hr I.env0 (hb s us I.kIn hl) r2 h) fun r s' hq => ?_)
  cases r with
  | error e => exact hx pins σ H s e s' I hq
  | ok fl =>
    cases fl with
    | ret u => exact I.after hq
    | next => exact False.elim hq
    | brk => exact False.elim hq
    | cont => exact False.elim hq
theorem pe_call (F : FnOk X.prog X.w X.K X.mg X.base CX k f fd ps sp) (hr : Room k X.A) (hg : Gl X x) (hm : X.mg x = some (.ref f)) (hk : PySem.W.keepIn X.K (.ref f) = true) (hb : Binds X.K fd ps ds) (hd : Vals dvs ds) (hx : Passes CX X E)
    (ha : PA X (e :: es) t) (hdb : (x == ("__debug__" : Str)) = false := by decide) (he : starEach (e :: es) X.env = (false, eval e X.env) :: starEach es X.env := by rfl) (hpl : (backTo pos (starEach es X.env)).any (·.1) = false := by rfl) :
    PE X (.Call (.Name x p) (e :: es) [] pos) (tCall sp dvs E t) := by
  intro pins s σ H Q I h
  refine wpAny_Call_Name_kw (ld_glob I hg hm ?_ hdb)
  refine PySem.W.callWith_K (h₀ := X.base) I.ok.mod.kin hk (thn (ha pos pins s σ H _ I h) fun us s1 ⟨vs, H1, I1, r, q⟩ => ⟨I1.kIn, ?_⟩) he hpl
  exact run_fn F hr hb hd hx I1 r q
end
structure FnScope (N P : List Str) (sc : Scope) : Prop where
  kind : sc.kind = .function
  co : sc.isCoroutine = false
  gen : sc.isGenerator = false
  nd : N.Nodup
  pre : N.take P.length = P
  par : ∀ x ∈ P, sc.names.lookup x = some .local ∨ sc.names.lookup x = some .cell
  nofree : ∀ y ∈ sc.names, y.2 ≠ .free
theorem bindL_out {kindOf : Str → Option NameKind} {x : Str} : ∀ {binds : List (Str × Value)} {m : Str → Option Value}, (∀ v, (x, v) ∉ binds) → bindL kindOf binds m x = m x
  | [], _, _ => rfl
  | (n, v) :: r, m, h => by
    unfold bindL
    rw [bindL_out fun w hw => h w (List.mem_cons_of_mem _ hw)]
    split
    · have : x ≠ n := by rintro rfl; exact h v List.mem_cons_self
      simp [this]
    · rfl
theorem bindC_out {kindOf : Str → Option NameKind} {x : Str} : ∀ {binds : List (Str × Value)} {m : Str → Option Value}, (∀ v, (x, v) ∉ binds) → bindC kindOf binds m x = m x
  | [], _, _ => rfl
  | (n, v) :: r, m, h => by
    unfold bindC
    rw [bindC_out fun w hw => h w (List.mem_cons_of_mem _ hw)]
    split
    · rfl
    · have : x ≠ n := by rintro rfl; exact h v List.mem_cons_self
      simp [this]
theorem bindL_get {kindOf : Str → Option NameKind} {x : Str} {v : Value} : ∀ {P : List Str} {vs : List Value} {i : Nat} {m : Str → Option Value}, P.Nodup → P[i]? = some x → vs[i]? = some v → kindOf x = some .local →
    bindL kindOf (P.zip vs) m x = some v
  | [], _, _, _, _, h, _, _ => by simp at h
  | _ :: _, [], _, _, _, _, h, _ => by simp at h
  | p :: P, w :: vs, 0, m, nd, h1, h2, hk => by
    simp at h1 h2; subst h1; subst h2
    show bindL kindOf ((p, w) :: P.zip vs) m p = _
    unfold bindL
    rw [bindL_out fun v hv => (List.nodup_cons.mp nd).1 (List.of_mem_zip hv).1, if_pos hk]
    simp
  | p :: P, w :: vs, i + 1, m, nd, h1, h2, hk => by
    show bindL kindOf ((p, w) :: P.zip vs) m x = _
    unfold bindL
    exact bindL_get (i := i) (List.nodup_cons.mp nd).2 (by simpa using h1) (by simpa using h2) hk
theorem bindC_get {kindOf : Str → Option NameKind} {x : Str} {v : Value} : ∀ {P : List Str} {vs : List Value} {i : Nat} {m : Str → Option Value}, P.Nodup → P[i]? = some x → vs[i]? = some v → kindOf x ≠ some .local →
    bindC kindOf (P.zip vs) m x = some v
  | [], _, _, _, _, h, _, _ => by simp at h
  | _ :: _, [], _, _, _, _, h, _ => by simp at h
  | p :: P, w :: vs, 0, m, nd, h1, h2, hk => by
    simp at h1 h2; subst h1; subst h2
    show bindC kindOf ((p, w) :: P.zip vs) m p = _
    unfold bindC
    rw [bindC_out fun v hv => (List.nodup_cons.mp nd).1 (List.of_mem_zip hv).1, if_neg hk]
    simp
  | p :: P, w :: vs, i + 1, m, nd, h1, h2, hk => by
    show bindC kindOf ((p, w) :: P.zip vs) m x = _
    unfold bindC
    exact bindC_get (i := i) (List.nodup_cons.mp nd).2 (by simpa using h1) (by simpa using h2) hk
def start (N : List Str) (vs : List V) : St := vs.map some ++ List.replicate (N.length - vs.length) none
def cxOf (CX : CXT) (P : Program) (w : World) (K : PySem.W.Frag) (mg : Str → Option Value) (base : Heap) (N : List Str) (qual : Str) (scope : Scope) (f : Addr) (cd : Value) (A : Around) (outer : List Env) (s : Shared) (H : Hp) (E : XK) : Cx where
  prog := P
  w := w
  K := K
  mg := mg
  base := base
  A := A.deeper (envOfC qual scope s.heap.objs.size f cd)
  N := N
  s₀ := s
  H₀ := H
  env := envOfC qual scope s.heap.objs.size f cd
  outer := outer
  stack := envOfC qual scope s.heap.objs.size f cd :: outer
  ex := []
  calm := true
  fn := fun _ => true
  pn := []
  xe := fun e s' => wpAny (model P w) (A.deeper (envOfC qual scope s.heap.objs.size f cd)) (leaving (envOfC qual scope s.heap.objs.size f cd) e) (fun _ s'' => CX outer H s E e s'') (fun e' s'' => CX outer H s E e' s'') s'
theorem cell_has {sc : Scope} {n : Nat} {x : Str} (h : sc.names.lookup x = some .cell) : ∃ c, (cellsFrom n sc.names []).lookup x = some c := by
  have q := PySem.W.cellsFrom_some sc.names n [] (.inl h)
  exact Option.isSome_iff_exists.mp q
theorem inv_start {CX : CXT} {P : Program} {w : World} {K : PySem.W.Frag} {mg : Str → Option Value} {base : Heap} {N ps : List Str} {qual : Str} {scope : Scope} {f : Addr} {cd : Value} {A : Around} {outer : List Env} {s s1 : Shared} {H : Hp} {E : XK} {us : List Value} {vs : List V}
    (S : FnScope N ps scope) (hd : A.handled = none) (e0 : Env0 P w K mg base A outer s H) (hl : vs.length = ps.length) (r : Vals vs us)
    (x : InCallC s s.heap.objs.size (bindL (envOfC qual scope s.heap.objs.size f cd).kindOf (ps.zip us) fun _ => none) (cellsFrom (s.heap.objs.size + 1) scope.names []) (bindC (envOfC qual scope s.heap.objs.size f cd).kindOf (ps.zip us) fun _ => none) s1) :
    Inv (cxOf CX P w K mg base N qual scope f cd A outer s H E) [] (start N vs) H s1 := by
  have hpl : ps.length ≤ N.length := by have := congrArg List.length S.pre; rw [List.length_take] at this; omega
  obtain ⟨h1, tk, rfl, hk⟩ := x.done
  have noA : ∀ b : Addr, b ∉ (cxOf CX P w K mg base N qual scope f cd A outer s H E).ex := fun b z => absurd (show b ∈ ([] : List Addr) from z) (by simp)
  refine ⟨⟨e0.mod, S.kind, rfl, rfl, Nat.le_refl _, fun y z c h1 h2 => ?_, fun y hy => ?_, fun y c _ h => ?_, fun _ => hd, Around.frames_deeper e0.frames, .inr ⟨rfl, rfl⟩, fun b z => absurd z (noA b), e0.bs, e0.bsz, fun b _ _ => noA b, fun b z => absurd z (noA b), e0.funs, e0.frf⟩,
    rfl, e0.bare, Un.kept hk, ⟨_, x.toInCall.ns, fun i y v h1 h2 h3 => ?_⟩, fun y c h => ⟨_, x.cell y c h⟩, e0.hok.fresh (Nat.le_refl _), fun y c h => ?_, fun p hp => absurd (show p ∈ ([] : List (Addr × Obj)) from hp) (by simp), e0.hok.kept hk, ?_⟩
  · exact name_of_addr x.apart (PySem.mem_of_lookup h1) (PySem.mem_of_lookup h2)
  · have hy : scope.names.lookup y = some .cell ∨ scope.names.lookup y = some .free := hy
    rcases hy with hy | hy
    · exact cell_has hy
    · exact absurd rfl (S.nofree _ (PySem.mem_of_lookup hy))
  · exact Nat.le_of_lt (x.above y c (PySem.mem_of_lookup h))
  · have hi : i < vs.length := by
      unfold start at h2
      by_cases hi : i < vs.length
      · exact hi
      · rw [List.getElem?_append_right (by simpa using hi)] at h2
        rw [List.getElem?_replicate] at h2
        split at h2 <;> cases h2
    have ha : vs[i]? = some v := by
      unfold start at h2
      rw [List.getElem?_append_left (by simpa using hi), List.getElem?_map] at h2
      cases e : vs[i]? with
      | none => rw [e] at h2; cases h2
      | some a => rw [e] at h2; cases h2; rfl
    obtain ⟨u, hu, rv⟩ := r.get ha
    have hp : ps[i]? = some y := by
      rw [← S.pre, List.getElem?_take_of_lt (by omega)]; exact h1
    have ndP : ps.Nodup := by rw [← S.pre]; exact S.nd.sublist (List.take_sublist _ _)
    refine ⟨u, rv, ?_⟩
    rcases S.par y (List.mem_of_getElem? hp) with k | k
    · exact .inl ⟨k, bindL_get ndP hp hu k⟩
    · obtain ⟨c, e⟩ := cell_has (n := s.heap.objs.size + 1) k
      refine .inr ⟨.inl k, c, e, ?_⟩
      have q := x.cell y c e
      rw [bindC_get ndP hp hu (by show scope.names.lookup y ≠ _; rw [k]; decide)] at q
      exact q
  · exact e0.hok.fresh (Nat.le_of_lt (x.above y c (PySem.mem_of_lookup h)))
  · unfold start
    show _ = N.length
    rw [List.length_append, List.length_map, List.length_replicate]
    omega
theorem fn_of {CX : CXT} {P : Program} {w : World} {K : PySem.W.Frag} {mg : Str → Option Value} {base : Heap} {k : Nat} {f : Addr} {name qual : Str} {params : Arguments} {body : List Stmt} {scope : Scope} {dV kV doc pm cdv ct oc : Value} {an od : Option Addr}
    {osl : Array (Option Value)} {N ps : List Str} {sp : Sp} (lk : K.lookup f = some ⟨oc, od, .func (PySem.W.fnOf name qual params body scope dV kV doc pm an cdv ct), osl⟩) (hcd : PySem.W.codeIn K cdv qual = true) (S : FnScope N ps scope)
    (len : ∀ vs H Q E, sp vs H Q E → vs.length = ps.length)
    (hbody : ∀ (A : Around) (outer : List Env) (s : Shared) (H : Hp) (vs : List V) (Q : VK) (E : XK), Room k (A.deeper (envOfC qual scope s.heap.objs.size f cdv)) → sp vs H Q E →
      ∃ t, PSs (cxOf CX P w K mg base N qual scope f cdv A outer s H E) body t ∧ t { nx := fun _ H' => Q .non H', rt := Q } (start N vs) H) :
    FnOk P w K mg base CX (k + 1) f (PySem.W.fnOf name qual params body scope dV kV doc pm an cdv ct) ps sp := by
  refine ⟨len, fun A outer s H args us vs Q E hr e0 hb r hsp => ?_⟩
  have hl := len _ _ _ _ hsp
  have KX : K.In s.heap := e0.mod.kin.keeps fun b o e => (e0.bs b o e).1
  have lim : s.heap.NoLimit := e0.mod.nolimit.keeps fun b o e => (e0.bs b o e).1
  have hkind : ∀ y ∈ ps.zip us, scope.names.lookup y.1 = some .local ∨ (scope.names.lookup y.1 = some .cell ∧ ((cellsFrom (s.heap.objs.size + 1) scope.names []).lookup y.1).isSome = true) := fun ⟨n, v⟩ hy => by
    rcases S.par n (List.of_mem_zip hy).1 with q | q
    · exact .inl q
    · exact .inr ⟨q, PySem.W.cellsFrom_some _ _ _ (.inl q)⟩
  refine codeAny_call_function hr.depth (KX _ _ lk) rfl S.co S.gen rfl (PySem.W.codeRec_of KX hcd) (hb _ _ _ _ ?_)
  refine wpAny_newFunctionEnv_cells S.kind hkind fun env he s1 x => ?_
  subst he
  refine ⟨lim.keeps x.toInCall.keep, codeAny_func ?_⟩
  obtain ⟨t, ht, hq⟩ := hbody A outer s H vs Q E (hr.deeper _) hsp
  have I : Inv (cxOf CX P w K mg base N qual scope f cdv A outer s H E) [] (start N vs) H s1 := inv_start S hr.hd e0 hl r x
  refine wpAny_mono (ht [] s1 (start N vs) H _ I hq) (fun fl s' hs => ?_) fun e s' hs => hs
  have fin : ∀ {σ' : St} {H' : Hp} {v : V} {u : Value}, Inv (cxOf CX P w K mg base N qual scope f cdv A outer s H E) [] σ' H' s' → RelV v u → Q v H' → CE outer P w H s Q u s' :=
    fun {σ' H' v u} J rv q => ⟨v, H', J.os, J.bare, J.base, J.hok, rv, q⟩
  cases fl with
  | ret u =>
    obtain ⟨v, σ', H', J, rv, q⟩ := hs
    exact fin J rv q
  | next =>
    obtain ⟨σ', H', J, q⟩ := hs
    exact fin (v := V.non) (u := Value.none) J rfl q
  | brk =>
    obtain ⟨_, _, _, q⟩ := hs
    exact False.elim q
  | cont =>
    obtain ⟨_, _, _, q⟩ := hs
    exact False.elim q
end L2
namespace L2
open PySem PySem.Spec PyProof.Rows
section
variable {X : Cx} {x : Str} {p pos : PySem.Pos} {e : Expr} {es : List Expr} {t : TA} {id T : String} {r : List V → Hp → VK → Prop}
def tCB (r : List V → Hp → VK → Prop) (t : TA) : TE := fun σ H Q => t σ H fun vs H1 => r vs H1 Q
theorem pe_callB (hc : CallR X (.builtin id) r) (hg : Gl X x) (hm : X.mg x = none) (hv : bootBuiltins x = some (.builtin id)) (ha : PA X (e :: es) t) (hn : x ≠ "__name__" := by decide) (hdb : (x == ("__debug__" : Str)) = false := by decide)
    (he : starEach (e :: es) X.env = (false, eval e X.env) :: starEach es X.env := by rfl) (hpl : (backTo pos (starEach es X.env)).any (·.1) = false := by rfl) : PE X (.Call (.Name x p) (e :: es) [] pos) (tCB r t) := by
  intro pins s σ H Q I h
  refine wpAny_Call_Name_kw (ld_blt I hg hm hv ?_ hn hdb)
  exact PyProof.Rows.callWith_builtin1 (thn (ha pos pins s σ H _ I h) fun us s1 ⟨vs, H1, I1, r1, q1⟩ => hc pins s1 σ H1 vs us Q I1 r1 q1) he hpl
theorem pe_callTy (hc : CallR X (.type T) r) (hg : Gl X x) (hm : X.mg x = none) (hv : bootBuiltins x = some (.type T)) (ha : PA X (e :: es) t) (hn : x ≠ "__name__" := by decide) (hdb : (x == ("__debug__" : Str)) = false := by decide)
    (he : starEach (e :: es) X.env = (false, eval e X.env) :: starEach es X.env := by rfl) (hpl : (backTo pos (starEach es X.env)).any (·.1) = false := by rfl) : PE X (.Call (.Name x p) (e :: es) [] pos) (tCB r t) := by
  intro pins s σ H Q I h
  refine wpAny_Call_Name_kw (ld_blt I hg hm hv ?_ hn hdb)
  exact PyProof.Rows.callWith_type1 (thn (ha pos pins s σ H _ I h) fun us s1 ⟨vs, H1, I1, r1, q1⟩ => hc pins s1 σ H1 vs us Q I1 r1 q1) he hpl
end
end L2
namespace HT
open PySem PyProof.Rows
section
variable {prog : Program} {w : World} {A : Around} {E : Value → Shared → Prop} {s : Shared}
def sIx (n d : Nat) : Option Int → Nat
  | none => d
  | some v => if v < 0 then (v + (n : Int)).toNat else min v.toNat n
theorem sIx_nat (n d k : Nat) : sIx n d (some (k : Int)) = min k n := by
  show (if (k : Int) < 0 then ((k : Int) + (n : Int)).toNat else min (k : Int).toNat n) = min k n
  rw [if_neg (by omega), Int.toNat_natCast]
end
end HT
namespace L2
open PySem PySem.Spec PyProof.Rows
abbrev TO := St → Hp → (Option Int → Hp → Prop) → Prop
def PO (X : Cx) (e : Option Expr) (t : TO) : Prop :=
  ∀ (pins : List (Addr × Obj)) (s : Shared) (σ : St) (H : Hp) (Q : Option Int → Hp → Prop), Inv X pins σ H s → t σ H Q →
    wpAny (model X.prog X.w) X.A (evalPart e X.env) (fun u s' => ∃ o H', Inv X pins σ H' s' ∧ IsPart u o ∧ Q o H') X.xe s
def tNoPart : TO := fun _ H Q => Q none H
def tPart (t : TE) : TO := fun σ H Q => t σ H fun x H1 => ∃ i, x = .int i ∧ Q (some i) H1
section
variable {X : Cx} {e : Expr} {te : TE} {lo hi : Option Expr} {tl th : TO} {pos p2 : PySem.Pos}
theorem po_none : PO X none tNoPart := by
  intro pins s σ H Q I h
  rw [evalPart_none]
  exact wpAny_pure ⟨none, H, I, .none, h⟩
theorem po_some (h : PE X e te) : PO X (some e) (tPart te) := by
  intro pins s σ H Q I hw
  rw [evalPart_some]
  refine thn (h pins s σ H _ I hw) fun u s1 ⟨x, H1, I1, r1, q1⟩ => ?_
  obtain ⟨i, rfl, q⟩ := q1
  obtain ⟨t, rfl⟩ := r1
  exact ⟨some i, H1, I1, .int i t, q⟩
def SlR (X : Cx) (r : V → Option Int → Option Int → Hp → VK → Prop) : Prop :=
  ∀ (pins : List (Addr × Obj)) (s : Shared) (σ : St) (H : Hp) (x : V) (v vl vu : Value) (lo hi : Option Int) (sl : Addr) (Q : VK), Inv X pins σ H s → RelV x v → s.heap.IsSliceOf sl vl vu .none → IsPart vl lo → IsPart vu hi → r x lo hi H Q →
    ∃ T id, typeLookup (.type T) "__getitem__" = pure (some (.builtin id)) ∧ s.TypeIs v T ∧ wpAny (model X.prog X.w) X.A (getItem v (.ref sl)) (EP X pins σ Q) X.xe s
def tSl (r : V → Option Int → Option Int → Hp → VK → Prop) (te : TE) (tl th : TO) : TE := fun σ H Q => te σ H fun x H1 => tl σ H1 fun l H2 => th σ H2 fun u H3 => r x l u H3 Q
theorem pe_slice {r : V → Option Int → Option Int → Hp → VK → Prop} (hr : SlR X r) (he : PE X e te) (hl : PO X lo tl) (hu : PO X hi th) : PE X (.Subscript e (.Slice lo hi none p2) pos) (tSl r te tl th) := by
  intro pins s σ H Q I h
  refine Subscript_ (thn (he pins s σ H _ I h) fun v s1 ⟨x, H1, I1, r1, q1⟩ => ?_)
  refine wpAny_Slice (thn (hl pins s1 σ H1 _ I1 q1) fun vl s2 ⟨l, H2, I2, pl, q2⟩ => thn (hu pins s2 σ H2 _ I2 q2) fun vu s3 ⟨u, H3, I3, pu, q3⟩ => ?_)
  rw [evalPart_none]
  refine wpAny_pure ?_
  have I4 : Inv X pins σ H3 { s3 with heap := s3.heap.push { cls := .type "slice", data := .fields #[vl, vu, .none] } } := I3.kept (t' := s3.toks) fun b ob q => Heap.get?_push_of_some _ q
  obtain ⟨T, id, hT, ht, hg⟩ := hr pins { s3 with heap := s3.heap.push { cls := .type "slice", data := .fields #[vl, vu, .none] } } σ H3 x v vl vu l u s3.heap.objs.size Q I4 r1 (Heap.IsSliceOf.new ..) pl pu q3
  show wpAny (model X.prog X.w) X.A (subscriptTail e (.Slice lo hi none p2) v (.ref s3.heap.objs.size)) (EP X pins σ Q) X.xe { s3 with heap := s3.heap.push { cls := .type "slice", data := .fields #[vl, vu, .none] } }
  exact tail_any (ops := [.ref s3.heap.objs.size, v]) ht hT hg (by with_unfolding_all rfl)
def cutV (xs : List V) (lo hi : Option Int) : List V := (xs.drop (HT.sIx xs.length 0 lo)).take (HT.sIx xs.length xs.length hi - HT.sIx xs.length 0 lo)
theorem cutV_length (xs : List V) (lo hi : Option Int) : (cutV xs lo hi).length ≤ xs.length := by
  unfold cutV
  rw [List.length_take, List.length_drop]
  omega
end
end L2
namespace L2
open PySem PySem.Spec PyProof.Rows
def ixN (n : Nat) (i : Int) : Option Nat := if 0 ≤ i then (if i < n then some i.toNat else none) else if -(n : Int) ≤ i then some (i + n).toNat else none
def atI {α : Type} (xs : List α) (i : Int) : Option α := (ixN xs.length i).bind fun j => xs[j]?
theorem ixN_seq {n : Nat} {i : Int} {j : Nat} (h : ixN n i = some j) : seqIndex? i n = some j ∧ j < n ∧ -(n : Int) ≤ i ∧ i < n := by
  unfold ixN at h
  by_cases h0 : 0 ≤ i
  · rw [if_pos h0] at h
    by_cases h1 : i < n
    · rw [if_pos h1] at h
      have e : i.toNat = j := Option.some.inj h
      exact ⟨by rw [seqIndex_of h0 h1, e], by omega, by omega, h1⟩
    · rw [if_neg h1] at h; cases h
  · rw [if_neg h0] at h
    by_cases h1 : -(n : Int) ≤ i
    · rw [if_pos h1] at h
      have e : (i + n).toNat = j := Option.some.inj h
      exact ⟨by rw [seqIndex_neg (by omega) h1, e], by omega, h1, by omega⟩
    · rw [if_neg h1] at h; cases h
theorem atI_get {α : Type} {xs : List α} {i : Int} {v : α} (h : atI xs i = some v) : ∃ j, seqIndex? i xs.length = some j ∧ xs[j]? = some v ∧ j < xs.length ∧ -(xs.length : Int) ≤ i ∧ i < xs.length := by
  unfold atI at h
  cases e : ixN xs.length i with
  | none => rw [e] at h; cases h
  | some j =>
    rw [e] at h
    obtain ⟨h1, h2, h3, h4⟩ := ixN_seq e
    exact ⟨j, h1, h, h2, h3, h4⟩
theorem atI_nat {α : Type} {xs : List α} {j : Nat} {v : α} (h : xs[j]? = some v) : atI xs (j : Int) = some v := by
  have hj : j < xs.length := (List.getElem?_eq_some_iff.mp h).1
  have e : ixN xs.length (j : Int) = some j := by
    unfold ixN
    rw [if_pos (by omega), if_pos (by omega)]; simp
  unfold atI; rw [e]; exact h
def PlainIx (b : Expr) : Prop := ∀ o i, subscripted b false o i = operate [o, i] (getItem o i)
def IxR (X : Cx) (r : R2) : Prop :=
  ∀ (value slice : Expr) (pins : List (Addr × Obj)) (s : Shared) (σ : St) (H : Hp) (x y : V) (v u : Value) (Q : VK), Inv X pins σ H s → RelV x v → RelV y u → r x y H Q →
    subscripted slice false v u = operate [v, u] (getItem v u) → wpAny (model X.prog X.w) X.A (subscriptTail value slice v u) (EP X pins σ Q) X.xe s
def MtR (X : Cx) (id : String) (r : V → List V → Hp → VK → Prop) : Prop :=
  ∀ (pins : List (Addr × Obj)) (s : Shared) (σ : St) (H : Hp) (x : V) (xs : List V) (v : Value) (us : List Value) (Q : VK), Inv X pins σ H s → RelV x v → Vals xs us → r x xs H Q →
    wpAny (model X.prog X.w) X.A (call (.builtin id) (v :: us)) (EP X pins σ Q) X.xe s
section
variable {X : Cx} {a b : Expr} {ta tb : TE} {pos : PySem.Pos}
theorem pe_ix {r : R2} (hr : IxR X r) (ha : PE X a ta) (hb : PE X b tb) (hs : PlainIx b) : PE X (.Subscript a b pos) (tOp r ta tb) := by
  intro pins s σ H Q I h
  exact Subscript_ (binT ha hb I h fun v u s2 x y H2 I2 rx ry q => hr a b pins s2 σ H2 x y v u Q I2 rx ry q (hs _ _))
def rIxL (K : PySem.W.Frag) : R2 := fun x y H Q => ∃ p xs i v, x = .ref p ∧ y = .int i ∧ SqL K H p xs ∧ atI xs i = some v ∧ Q v H
def rIxT (K : PySem.W.Frag) : R2 := fun x y H Q => ∃ p xs i v, x = .ref p ∧ y = .int i ∧ SqT K H p xs ∧ atI xs i = some v ∧ Q v H
theorem ix_list : IxR X (rIxL X.K) := by
  intro value slice pins s σ H x y v u Q I rx ry h hs
  obtain ⟨p, xs, i, z, rfl, rfl, hq, he, q⟩ := h
  cases rx
  obtain ⟨t, rfl⟩ := ry
  obtain ⟨its, r, pl, hz⟩ := I.list hq
  obtain ⟨j, h1, h2, h3, h4, h5⟩ := atI_get he
  obtain ⟨w, ew, rw'⟩ := r.get h2
  have hl := r.length
  have hn := line63
  have fin : EP X pins σ Q w s := ⟨z, H, I, rw', q⟩
  by_cases h0 : 0 ≤ i
  · have hj : i.toNat = j := by
      rw [seqIndex_of h0 h5] at h1
      exact Option.some.inj h1
    exact item_listR pl.isList h0 (by omega) (by rw [hj]; simpa using ew) fin hs
  · have hj : (i + (its.toArray.size : Int)).toNat = j := by
      rw [seqIndex_neg (by omega) h4] at h1
      rw [List.size_toArray, ← hl]
      exact Option.some.inj h1
    exact subscriptTail_builtinR (x := w) pl.isList.typeIs slot_list_getitem.lookup
      (wpAny_getItem_list_neg (Q := fun r s' => r = w ∧ EP X pins σ Q r s') pl.isList (by omega) (by rw [List.size_toArray] <;> omega) (by omega) (by rw [hj]; simpa using ew) ⟨rfl, fin⟩) hs
theorem ix_tup : IxR X (rIxT X.K) := by
  intro value slice pins s σ H x y v u Q I rx ry h hs
  obtain ⟨p, xs, i, z, rfl, rfl, hq, he, q⟩ := h
  cases rx
  obtain ⟨t, rfl⟩ := ry
  obtain ⟨its, r, pl, hz⟩ := I.tuple hq
  obtain ⟨j, h1, h2, h3, h4, h5⟩ := atI_get he
  obtain ⟨w, ew, rw'⟩ := r.get h2
  have hl := r.length
  have hn := line63
  have fin : EP X pins σ Q w s := ⟨z, H, I, rw', q⟩
  exact subscriptTail_builtinR (x := w) pl.typeIs slot_tuple_getitem.lookup
    (getItem_tuple (j := j) (Q := fun r s' => r = w ∧ EP X pins σ Q r s') pl (by omega) (by omega) (by rw [List.size_toArray, ← hl]; exact h1) (by simpa using ew) ⟨rfl, fin⟩) hs
theorem mapSeq_set (its : List Value) (n j : Nat) (u : Value) : Obj.mapSeq (·.setIfInBounds j u) { cls := .type "list", data := .seq its.toArray n } = { cls := .type "list", data := .seq (its.set j u).toArray n } := by
  simp [Obj.mapSeq]
theorem Inv.lst {pins : List (Addr × Obj)} {σ : St} {H : Hp} {s : Shared} {p : Addr} {xs : List V} (I : Inv X pins σ H s) (h : H p = some (.lst xs)) :
    ∃ (its : List Value) (n : Nat), Vals xs its ∧ s.heap.get? p = some { cls := .type "list", data := .seq its.toArray n } ∧ xs.length ≤ sizeLine := by
  obtain ⟨z, its, n, r, e⟩ := I.hok p _ h
  exact ⟨its, n, r, e, z⟩
theorem Inv.lstUpd {pins : List (Addr × Obj)} {σ : St} {H : Hp} {s : Shared} {p : Addr} {xs ys : List V} {its its' : List Value} {n n' : Nat} {f : Obj → Obj} (I : Inv X pins σ H s) (h : H p = some (.lst xs))
    (ho : s.heap.get? p = some { cls := .type "list", data := .seq its.toArray n }) (hf : f { cls := .type "list", data := .seq its.toArray n } = { cls := .type "list", data := .seq its'.toArray n' }) (r : Vals ys its') (hz : ys.length ≤ sizeLine) (t : Nat) :
    Inv X pins σ (upd H p (.lst ys)) { s with heap := s.heap.update p f, toks := t } := by
  have e : (s.heap.update p f).get? p = some { cls := .type "list", data := .seq its'.toArray n' } := by
    rw [Heap.get?_update_self f ho (by rw [hf] <;> rfl), hf]
  refine I.write (x := p) (e := p) (by rw [h]; trivial) (.inl rfl) (fun b u hb q => (Heap.get?_update_other _ _ (Ne.symm hb)).trans q) ⟨_, e⟩ ?_
  exact ⟨hz, its', n', r, e⟩
def rSetL : V → V → V → Hp → (Hp → Prop) → Prop := fun o i v H Q => ∃ p xs k j, o = .ref p ∧ i = .int k ∧ H p = some (.lst xs) ∧ ixN xs.length k = some j ∧ Q (upd H p (.lst (xs.set j v)))
theorem set_list : PSet X rSetL := by
  intro pins s σ H o i v ov iv u Q I ro ri rv h
  obtain ⟨p, xs, k, j, rfl, rfl, hp, hj, q⟩ := h
  cases ro
  obtain ⟨t, rfl⟩ := ri
  obtain ⟨its, n, r, ho, hz⟩ := I.lst hp
  obtain ⟨h1, h2, h3, h4⟩ := ixN_seq hj
  have hl := r.length
  have hn := line63
  have I' : Inv X pins σ (upd H p (.lst (xs.set j v))) { s with heap := s.heap.update p (Obj.mapSeq (·.setIfInBounds j u)) } :=
    I.lstUpd hp ho (mapSeq_set its n j u) (r.set rv j) (by rw [List.length_set]; exact hz) s.toks
  by_cases h0 : 0 ≤ k
  · have hk : k.toNat = j := by
      rw [seqIndex_of h0 h4] at h1
      exact Option.some.inj h1
    exact PySem.W.ki_setAt ho h0 (by omega) (by rw [List.size_toArray, ← hl]; exact h4) (by rw [hk]; exact ⟨_, I', q⟩)
  · have hk : (k + (its.toArray.size : Int)).toNat = j := by
      rw [seqIndex_neg (by omega) h3] at h1
      rw [List.size_toArray, ← hl]
      exact Option.some.inj h1
    exact PySem.W.ki_setBack ho (by omega) (by rw [List.size_toArray, ← hl]; exact h3) (by omega) (by rw [hk]; exact ⟨_, I', q⟩)
theorem slice_bounds (lo hi : Option Int) (n : Nat) : (sliceBounds lo hi none n).1 = ((HT.sIx n 0 lo : Nat) : Int) ∧ (sliceBounds lo hi none n).2.1 = ((HT.sIx n n hi : Nat) : Int) ∧ (sliceBounds lo hi none n).2.2 = 1 := by
  refine ⟨?_, ?_, rfl⟩
  · cases lo with
    | none => simp [sliceBounds, HT.sIx]
    | some i =>
      simp only [sliceBounds, HT.sIx, Option.getD_none, show (1 : Int) > 0 by decide, if_true]
      by_cases h : i < 0
      · simp only [h, if_true] <;> omega
      · simp only [h, if_false] <;> omega
  · cases hi with
    | none => simp [sliceBounds, HT.sIx]
    | some i =>
      simp only [sliceBounds, HT.sIx, Option.getD_none, show (1 : Int) > 0 by decide, if_true]
      by_cases h : i < 0
      · simp only [h, if_true] <;> omega
      · simp only [h, if_false] <;> omega
theorem slicePick_cut (its : List Value) (lo hi : Option Int) : slicePick its.toArray lo hi none = ((its.drop (HT.sIx its.length 0 lo)).take (HT.sIx its.length its.length hi - HT.sIx its.length 0 lo)).toArray := by
  obtain ⟨h1, h2, h3⟩ := slice_bounds lo hi its.toArray.size
  unfold slicePick
  rw [h1, h2, h3]
  simp only [sliceRange_one, pick_run, List.size_toArray] <;> rfl
def rSlL (K : PySem.W.Frag) : V → Option Int → Option Int → Hp → VK → Prop := fun x lo hi H Q => ∃ a xs, x = .ref a ∧ SqL K H a xs ∧ ∀ p, H p = none → Q (.ref p) (upd H p (.lst (cutV xs lo hi)))
theorem sl_list : SlR X (rSlL X.K) := by
  intro pins s σ H x v vl vu lo hi sl Q I rx hs pl pu h
  obtain ⟨a, xs, rfl, hx, q⟩ := h
  cases rx
  obtain ⟨its, r, ht, hz⟩ := I.list hx
  have hlen := r.length
  refine ⟨"list", _, slot_list_getitem.lookup, ht.isList.typeIs, ?_⟩
  refine wpAny_getItem_list_slice ht.isList hs pl pu .none (by simp) ?_ (by rw [List.size_toArray] <;> omega)
  rw [slicePick_cut, ← hlen]
  refine ⟨.ref s.heap.objs.size, _, I.laid (t' := s.toks) (o := .lst (cutV xs lo hi)) (fun b ob q => Heap.get?_push_of_some _ q) (Nat.le_refl _) ?_, rfl, q _ (I.hok.fresh (Nat.le_refl _))⟩
  exact ⟨Nat.le_trans (cutV_length xs lo hi) hz, _, 0, (r.drop (HT.sIx xs.length 0 lo)).take (HT.sIx xs.length xs.length hi - HT.sIx xs.length 0 lo), Heap.get?_push_size _ rfl⟩
theorem call_len_seq : CallR X (.builtin "len") (fun xs H Q => ∃ p ys, xs = [.ref p] ∧ (SqL X.K H p ys ∨ SqT X.K H p ys) ∧ Q (.int ys.length) H) := by
  intro pins s σ H xs us Q I r h
  obtain ⟨p, ys, rfl, hq, q⟩ := h
  obtain ⟨u, rfl, rx⟩ := vals1 r
  cases rx
  have hn := line63
  rcases hq with hq | hq
  · obtain ⟨its, r', pl, hz⟩ := I.list hq
    have hlen := r'.length
    exact Calls.call_len_list pl.isList (by simp only [List.size_toArray] <;> omega) ⟨.int ys.length, H, I.tok _, ⟨s.toks + 1, by rw [List.size_toArray, hlen]⟩, q⟩
  · obtain ⟨its, r', pl, hz⟩ := I.tuple hq
    have hlen := r'.length
    exact len_tuple pl (by simp only [List.size_toArray] <;> omega) ⟨.int ys.length, H, I.tok _, ⟨s.toks + 1, by rw [List.size_toArray, hlen]⟩, q⟩
theorem call_list_of : CallR X (.type "list") (fun xs H Q => ∃ p ys, xs = [.ref p] ∧ (SqL X.K H p ys ∨ SqT X.K H p ys) ∧ ∀ l, H l = none → Q (.ref l) (upd H l (.lst ys))) := by
  intro pins s σ H xs us Q I r h
  obtain ⟨p, ys, rfl, hq, q⟩ := h
  obtain ⟨u, rfl, rx⟩ := vals1 r
  cases rx
  have fin : ∀ (its : List Value), Vals ys its → ys.length ≤ sizeLine → ∀ (h' : Heap) (c' : Nat), (∀ b o', s.heap.get? b = some o' → h'.get? b = some o') →
      h'.get? s.heap.objs.size = some { cls := .type "list", dict := none, data := .seq its.toArray c', slots := #[] } → EP X pins σ Q (.ref s.heap.objs.size) { s with heap := h' } := fun its r' hz h' c' kp e =>
    ⟨.ref s.heap.objs.size, _, I.laid (t' := s.toks) kp (Nat.le_refl _) (show ObjOk X.prog X.w _ h' _ (.lst ys) from ⟨hz, its, c', r', e⟩), rfl, q _ (I.hok.fresh (Nat.le_refl _))⟩
  rcases hq with hq | hq
  · obtain ⟨its, r', pl, hz⟩ := I.list hq
    have hlen := r'.length
    obtain ⟨o, ho, hc, n, hd⟩ := pl.isList
    exact call_list_seq p (.inl rfl) ho hc hd (fun h' c' kp e => fin its r' hz h' c' kp e) (by simp only [List.size_toArray] <;> omega)
  · obtain ⟨its, r', pl, hz⟩ := I.tuple hq
    have hlen := r'.length
    obtain ⟨o, ho, hc, n, hd⟩ := pl
    exact call_list_seq p (.inr rfl) ho hc hd (fun h' c' kp e => fin its r' hz h' c' kp e) (by simp only [List.size_toArray] <;> omega)
theorem call_tuple_of : CallR X (.type "tuple") (fun xs H Q => ∃ p ys, xs = [.ref p] ∧ ((SqL X.K H p ys ∧ ∀ l, H l = none → Q (.ref l) (upd H l (.tup ys))) ∨ (SqT X.K H p ys ∧ Q (.ref p) H))) := by
  intro pins s σ H xs us Q I r h
  obtain ⟨p, ys, rfl, h⟩ := h
  obtain ⟨u, rfl, rx⟩ := vals1 r
  cases rx
  rcases h with ⟨hq, q⟩ | ⟨hq, q⟩
  · obtain ⟨its, r', pl, hz⟩ := I.list hq
    have hlen := r'.length
    refine call_tuple_list pl.isList (fun h' kp => ?_) (by simp only [List.size_toArray] <;> omega)
    have I1 : Inv X pins σ H { s with heap := h' } := I.kept (t' := s.toks) kp
    have I2 : Inv X pins σ (upd H h'.objs.size (.tup ys)) { s with heap := h'.push { cls := .type "tuple", data := .seq its.toArray } } :=
      I1.laid (t' := s.toks) (fun b o e => Heap.get?_push_of_some _ e) (Nat.le_refl _) (show ObjOk X.prog X.w _ _ _ (.tup ys) from ⟨hz, its, r', IsTup.new _ _⟩)
    exact ⟨.ref h'.objs.size, _, I2, rfl, q _ (I1.hok.fresh (Nat.le_refl _))⟩
  · obtain ⟨its, r', pl, hz⟩ := I.tuple hq
    exact call_tuple_same pl ⟨.ref p, H, I, rfl, q⟩
def tyV (K : PySem.W.Frag) (T : String) (x : V) (H : Hp) : Prop := match x with
  | .str _ => T = "str"
  | .int _ => T = "int"
  | .ref p => (T = "list" ∧ ∃ xs, SqL K H p xs) ∨ (T = "tuple" ∧ ∃ o, K.lookup p = some o ∧ o.cls = .type "tuple" ∧ o.dict = none) ∨
      (T = "dict" ∧ ((∃ kvs, H p = some (.dK kvs)) ∨ ∃ kvs, H p = some (.dT kvs))) ∨ (T = "set" ∧ ∃ S n, H p = some (.set S n))
  | _ => False
theorem tyV_is {pins : List (Addr × Obj)} {σ : St} {H : Hp} {s : Shared} {T : String} {x : V} {v : Value} (I : Inv X pins σ H s) (r : RelV x v) (ty : tyV X.K T x H) :
    s.TypeIs v T ∧ ∀ a, v = .ref a → ∃ ob, s.heap.get? a = some ob ∧ ob.dict = none := by
  cases x with
  | str z =>
    obtain ⟨t, rfl⟩ := r
    cases (show T = "str" from ty)
    exact ⟨typeIs_str s z t, fun _ e => nomatch e⟩
  | int i =>
    obtain ⟨t, rfl⟩ := r
    cases (show T = "int" from ty)
    exact ⟨typeIs_int s i t, fun _ e => nomatch e⟩
  | ref p =>
    cases r
    rcases ty with ⟨rfl, xs, hq⟩ | ⟨rfl, o, hk, hc, hd⟩ | ⟨rfl, hk⟩ | ⟨rfl, S, n, hk⟩
    · obtain ⟨its, _, pl, _⟩ := I.list hq
      refine ⟨pl.isList.typeIs, fun a e => ?_⟩
      cases e
      obtain ⟨o, n, e, c, hd, _⟩ := pl
      exact ⟨o, e, hd⟩
    · refine ⟨⟨o, I.kIn p o hk, hc⟩, fun a e => ?_⟩
      cases e
      exact ⟨o, I.kIn _ o hk, hd⟩
    · have z : ∃ o, s.heap.get? p = some o ∧ o.ExactDict := by
        rcases hk with ⟨kvs, hk⟩ | ⟨kvs, hk⟩
        · obtain ⟨_, _, _, _, o, _, _, e, ex, _⟩ := I.hok p _ hk
          exact ⟨o, e, ex⟩
        · obtain ⟨_, _, _, _, o, _, _, e, ex, _⟩ := I.hok p _ hk
          exact ⟨o, e, ex⟩
      obtain ⟨o, e, ex⟩ := z
      refine ⟨⟨o, e, ex.1⟩, fun a e2 => ?_⟩
      cases e2
      exact ⟨o, e, ex.2.1⟩
    · obtain ⟨o, _, _, _, e, ex, _⟩ := I.hok p _ hk
      refine ⟨⟨o, e, ex.1⟩, fun a e2 => ?_⟩
      cases e2
      exact ⟨o, e, ex.2.1⟩
  | _ => exact False.elim ty
def tBM (K : PySem.W.Frag) (T : String) (r : V → List V → Hp → VK → Prop) (to : TE) (t : TA) : TE := fun σ H Q => to σ H fun x H1 => tyV K T x H1 ∧ t σ H1 fun xs H2 => r x xs H2 Q
variable {o e : Expr} {es : List Expr} {to : TE} {t : TA} {name : Str} {apos cpos : PySem.Pos} {T id : String} {r : V → List V → Hp → VK → Prop}
theorem pe_bm (pa : PlainAttrs T) (slot : Slot T name id) (hty : typeOf (.builtin id) = pure (.type "method_descriptor")) (hm : MtR X id r) (ho : PE X o to) (ha : PA X (e :: es) t)
    (hbase : attributeBase o name X.env (eval o X.env) = eval o X.env := by rfl)
    (hfew : ((backTo cpos (starEach (e :: es) X.env)).all (fun x => !x.1) && (backToKw cpos (keywordEach [] X.env)).all (fun x => x.1.isSome)
      && decide ((e :: es).length + ([] : List Keyword).length + (if ([] : List Keyword).isEmpty then 0 else 1) < 30)) = true := by rfl)
    (hline : (apos.endLine == cpos.line) = true := by rfl) (hs : starEach (e :: es) X.env = (false, eval e X.env) :: starEach es X.env := by rfl) (hplain : (backTo cpos (starEach es X.env)).any (·.1) = false := by rfl) :
    PE X (.Call (.Attribute o name apos) (e :: es) [] cpos) (tBM X.K T r to t) := by
  intro pins s σ H Q I h
  refine wpAny_Call_method_late hbase hfew hline rfl (thn (ho pins s σ H _ I h) fun v s1 ⟨x, H1, I1, r1, ty, q1⟩ => ?_)
  obtain ⟨h1, h2⟩ := tyV_is I1 r1 ty
  refine ⟨T, id, pa, slot, hty, h1, h2, ?_⟩
  have hA := ha cpos pins s1 σ H1 _ I1 q1
  rw [hs] at hA ⊢
  refine Calls.callWith_builtin (by show (false || (backTo cpos (starEach es X.env)).any (·.1)) = false; rw [hplain] <;> rfl) (Calls.evalArgs_plain ?_)
  exact thn hA fun us s2 ⟨vs, H2, I2, r2, q2⟩ => hm pins s2 σ H2 x vs v us Q I2 r1 r2 q2
end
end L2
namespace L2
open PySem PySem.Spec PyProof.Rows
def MtM (X : Cx) (id : String) (r : V → List V → Hp → VK → Prop) : Prop :=
  ∀ (pins : List (Addr × Obj)) (s : Shared) (σ : St) (H : Hp) (x : V) (xs : List V) (v : Value) (us : List Value) (Q : VK), Inv X pins σ H s → RelV x v → Vals xs us → r x xs H Q →
    wpAny (model X.prog X.w) X.A (call (.builtin id) (v :: us)) (EP X pins σ Q) X.xe s
theorem Vals.one : ∀ {x : V} {us : List Value}, Vals [x] us → ∃ u, us = [u] ∧ RelV x u
  | _, _, .cons r .nil => ⟨_, rfl, r⟩
theorem Vals.two : ∀ {x y : V} {us : List Value}, Vals [x, y] us → ∃ u v, us = [u, v] ∧ RelV x u ∧ RelV y v
  | _, _, _, .cons r (.cons q .nil) => ⟨_, _, rfl, r, q⟩
theorem Vals.eraseIdx : ∀ {xs : List V} {us : List Value} (i : Nat), Vals xs us → Vals (xs.eraseIdx i) (us.eraseIdx i)
  | _, _, _, .nil => .nil
  | _, _, 0, .cons _ t => t
  | _, _, i + 1, .cons r t => .cons r (Vals.eraseIdx i t)
theorem Vals.rep {xs : List V} {us : List Value} (h : Vals xs us) : ∀ k : Nat, Vals (List.replicate k xs).flatten (List.replicate k us).flatten
  | 0 => .nil
  | k + 1 => by
    rw [List.replicate_succ, List.replicate_succ, List.flatten_cons, List.flatten_cons]
    exact Vals.append h (Vals.rep h k)
theorem len_erase {α : Type} : ∀ (l : List α) (i : Nat), (l.eraseIdx i).length ≤ l.length
  | [], _ => Nat.le_refl _
  | _ :: _, 0 => Nat.le_succ _
  | _ :: r, i + 1 => Nat.succ_le_succ (len_erase r i)
theorem foldl_rep (its : List Value) : ∀ (k : Nat) (acc : List Value),
    List.foldl (fun x1 x2 => x1 ++ x2) acc.toArray (List.replicate k its.toArray) = (acc ++ (List.replicate k its).flatten).toArray
  | 0, acc => by simp
  | k + 1, acc => by
    have e : acc.toArray ++ its.toArray = (acc ++ its).toArray := by simp
    have e2 : (acc ++ its) ++ (List.replicate k its).flatten = acc ++ (List.replicate (k + 1) its).flatten := by
      rw [List.replicate_succ, List.flatten_cons, List.append_assoc]
    rw [← e2, ← foldl_rep its k (acc ++ its), ← e, List.replicate_succ, List.foldl_cons]
section
variable {X : Cx} {pins : List (Addr × Obj)} {σ : St} {H : Hp} {s : Shared} {l b : Addr} {xs ys zs : List V}
theorem Inv.lset {its its' : List Value} {n : Nat} {f : Array Value → Array Value} {t' : Nat} (I : Inv X pins σ H s) (hH : H l = some (.lst xs))
    (e : s.heap.get? l = some { cls := .type "list", data := .seq its.toArray n }) (hf : f its.toArray = its'.toArray) (hv : Vals ys its') (hz : ys.length ≤ sizeLine) :
    Inv X pins σ (upd H l (.lst ys)) { s with heap := s.heap.update l (Obj.mapSeq f), toks := t' } := by
  have q := PySem.IsL.update e f
  rw [hf] at q
  refine I.write (x := l) (e := l) (by rw [hH]; exact trivial) (.inl rfl) (fun b' u hb hu => (Heap.get?_update_other s.heap (Obj.mapSeq f) (Ne.symm hb)).trans hu) ⟨_, q⟩ ?_
  exact ⟨hz, its', _, hv, q⟩
theorem Inv.lnew {its : List Value} {t' : Nat} (I : Inv X pins σ H s) (hv : Vals ys its) (hz : ys.length ≤ sizeLine) :
    Inv X pins σ (upd H s.heap.objs.size (.lst ys)) { s with heap := s.heap.push { cls := .type "list", data := .seq its.toArray }, toks := t' } :=
  I.laid (fun _ _ q => Heap.get?_push_of_some _ q) (Nat.le_refl _) ⟨hz, its, 0, hv, Heap.get?_push_size _ rfl⟩
theorem Inv.fresh (I : Inv X pins σ H s) : H s.heap.objs.size = none := I.hok.fresh (Nat.le_refl _)
theorem Inv.lstM (I : Inv X pins σ H s) (hH : H l = some (.lst xs)) : xs.length ≤ sizeLine ∧ ∃ (its : List Value) (n : Nat), Vals xs its ∧ xs.length = its.length ∧ s.heap.get? l = some { cls := .type "list", data := .seq its.toArray n } := by
  obtain ⟨z, its, n, r, e⟩ := I.hok l _ hH
  exact ⟨z, its, n, r, r.length, e⟩
theorem notLongL {n : Nat} (h : n ≤ sizeLine) : Builtin.List.listTooLong n = false := by
  unfold Builtin.List.listTooLong
  exact decide_eq_false (by omega)
end
section
variable {X : Cx}
def rAppend : V → List V → Hp → VK → Prop := fun x vs H Q => ∃ l xs y, x = .ref l ∧ vs = [y] ∧ H l = some (.lst xs) ∧ xs.length < sizeLine ∧ Q .non (upd H l (.lst (xs ++ [y])))
theorem mt_append : MtM X "list.append" rAppend := by
  intro pins s σ H x vs v us Q I rx rv h
  obtain ⟨l, xs, y, rfl, rfl, hH, hz, q⟩ := h
  cases rx
  obtain ⟨u, rfl, ru⟩ := rv.one
  obtain ⟨z, its, n, r, hl, e⟩ := I.lstM hH
  refine call_meets F.slot_list_append ⟨_, e, rfl⟩ F.entry_list_append (F.args_list_append_2 _ _) (PySem.list_append l its.toArray n u (by rw [List.size_toArray]; omega)) ⟨e, ?_⟩
  refine ⟨.non, _, I.lset (its' := its ++ [u]) hH e (by simp) (r.append (.cons ru .nil)) ?_, rfl, q⟩
  rw [List.length_append, List.length_singleton]
  omega
def rExtend : V → List V → Hp → VK → Prop := fun x vs H Q => ∃ l b xs zs, x = .ref l ∧ vs = [.ref b] ∧ H l = some (.lst xs) ∧ H b = some (.lst zs) ∧ xs.length + zs.length ≤ sizeLine ∧ Q .non (upd H l (.lst (xs ++ zs)))
theorem mt_extend : MtM X "list.extend" rExtend := by
  intro pins s σ H x vs v us Q I rx rv h
  obtain ⟨l, b, xs, zs, rfl, rfl, hH, hB, hz, q⟩ := h
  cases rx
  obtain ⟨u, rfl, ru⟩ := rv.one
  cases ru
  obtain ⟨z, its, n, r, hl, e⟩ := I.lstM hH
  obtain ⟨z2, its2, n2, r2, hl2, e2⟩ := I.lstM hB
  have hsz : its.toArray.size + its2.toArray.size ≤ sizeLine := by rw [List.size_toArray, List.size_toArray]; omega
  have hlong : ¬ (!its.toArray.isEmpty && Builtin.List.listTooLong (its.toArray.size + its2.toArray.size)) = true := by
    rw [notLongL hsz, Bool.and_false]
    exact Bool.false_ne_true
  refine call_meets F.slot_list_extend ⟨_, e, rfl⟩ F.entry_list_extend (F.args_list_extend_2 _ _)
    (AutoSeq1.list_extend_list_list_0 l its.toArray n b its2.toArray n2 hlong (by rw [List.size_toArray]; omega) (by omega)) ⟨e, e2, ?_⟩
  refine ⟨.non, _, I.lset (its' := its ++ its2) hH e (by simp) (r.append r2) ?_, rfl, q⟩
  rw [List.length_append]
  omega
def rPopAt : V → List V → Hp → VK → Prop := fun x vs H Q => ∃ l xs i k y, x = .ref l ∧ vs = [.int i] ∧ H l = some (.lst xs) ∧ -(2 ^ 63) ≤ i ∧ i < 2 ^ 63 ∧ seqIndex? i xs.length = some k ∧ xs[k]? = some y ∧ Q y (upd H l (.lst (xs.eraseIdx k)))
theorem mt_popAt : MtM X "list.pop" rPopAt := by
  intro pins s σ H x vs v us Q I rx rv h
  obtain ⟨l, xs, i, k, y, rfl, rfl, hH, h1, h2, hk, hy, q⟩ := h
  cases rx
  obtain ⟨u, rfl, ru⟩ := rv.one
  obtain ⟨t, rfl⟩ := ru
  obtain ⟨z, its, n, r, hl, e⟩ := I.lstM hH
  obtain ⟨w, hw, rw'⟩ := r.get hy
  refine call_meets F.slot_list_pop ⟨_, e, rfl⟩ F.entry_list_pop (F.args_list_pop_2 _ _)
    (MeetsSeq.list_pop_at l its.toArray n i t k w (fitsIndex_both h1 h2) (by rw [List.size_toArray, ← hl]; exact hk) (by rw [← Array.getElem?_toList]; exact hw) (by rw [List.size_toArray]; omega)) ⟨e, ?_⟩
  refine ⟨y, _, I.lset (its' := its.eraseIdx k) hH e ?_ (r.eraseIdx k) ?_, rw', q⟩
  · show its.toArray.eraseIdxIfInBounds k = (its.eraseIdx k).toArray
    rw [List.eraseIdxIfInBounds_toArray]
  · have := len_erase xs k
    omega
def rCat : R2 := fun x y H Q => ∃ l b xs zs, x = .ref l ∧ y = .ref b ∧ H l = some (.lst xs) ∧ H b = some (.lst zs) ∧ xs.length + zs.length ≤ sizeLine ∧ ∀ p, H p = none → Q (.ref p) (upd H p (.lst (xs ++ zs)))
theorem op_cat : OpR X (binaryOp .Add) rCat := by
  intro pins s σ H x y v u Q I rx ry h
  obtain ⟨l, b, xs, zs, rfl, rfl, hH, hB, hz, q⟩ := h
  cases rx
  cases ry
  obtain ⟨z, its, n, r, hl, e⟩ := I.lstM hH
  obtain ⟨z2, its2, n2, r2, hl2, e2⟩ := I.lstM hB
  refine PySem.P.add_list e e2 ?_ (by rw [List.size_toArray, List.size_toArray]; omega)
  have ea : its.toArray ++ its2.toArray = (its ++ its2).toArray := by simp
  rw [ea]
  exact ⟨.ref _, _, I.lnew (t' := s.toks) (r.append r2) (by rw [List.length_append]; omega), rfl, q _ I.fresh⟩
theorem len_rep {α : Type} (xs : List α) (k : Nat) : (List.replicate k xs).flatten.length = k * xs.length := by
  induction k with
  | zero => simp
  | succ k ih => rw [List.replicate_succ, List.flatten_cons, List.length_append, ih, Nat.succ_mul, Nat.add_comm]
end
end L2
namespace Att
open PySem PySem.W PySem.Calls PyProof.Rows
theorem ints_of_wellAll {P : Params} {h : Heap} : ∀ (ns : List Int) (vs : List Value), WellAll P h vs (ns.map WData.int) → IntsAre vs ns := by
  intro ns
  induction ns with
  | nil =>
    intro vs w
    rw [List.map_nil] at w
    cases w
    exact .nil
  | cons n ns ih =>
    intro vs w
    rw [List.map_cons] at w
    cases w with
    | cons a b =>
      cases a
      exact .cons _ _ (ih _ b)
theorem script_of {l : OpenLaw} {n : Nat} (hn : l.most = some n) {P : Params} {h : Heap} {args : List WData} {vals : List Value}
    (hpre : l.row.toRowW.claim.pre args = true) (hwl : WellAll P h vals args) :
    ∃ a vs ns, vals = [Value.ref a] ∧ args = [WData.list (ns.map WData.int)] ∧ h.get? a = some { cls := .type "list", data := .seq vs.toArray } ∧ IntsAre vs ns ∧ ns.length ≤ n := by
  have hsh : WShape.hasAll [] args [.list .int] = true := (pre_splitW hpre).1
  have hc : l.pre.holds [] { args := args } = true := (pre_splitW hpre).2
  obtain ⟨d, r, rfl, h1, h2⟩ := hasAllW_cons hsh
  obtain rfl := hasAllW_nil h2
  obtain ⟨xs, rfl, h3⟩ := hasW_list h1
  obtain ⟨ns, rfl⟩ := items_int h3
  have hlen : ns.length ≤ n := by
    unfold OpenLaw.pre at hc
    have h4 : (WTm.not (.lt (.lit (.int (n : Int))) (.len (.arg 0)))).holds [] { args := [.list (ns.map .int)] } = true := by
      have h4 := (holds_andW hc).1
      rw [hn] at h4
      exact h4
    have h5 := condW_of h4 (w_not (w_lt w_lit (w_len_list (w_arg rfl))))
    rw [List.length_map] at h5
    refine Nat.le_of_not_lt fun q => ?_
    have q' : (n : Int) < ((ns.length : Nat) : Int) := by omega
    first
      | (rw [decide_eq_true q'] at h5; exact absurd h5 (by decide))
      | (simp at h5; omega)
  cases hwl with
  | cons w1 w2 =>
    cases w2
    cases w1 with
    | list ho hall => exact ⟨_, _, ns, rfl, rfl, ho, ints_of_wellAll ns _ hall, hlen⟩
theorem post_true (l : OpenLaw) (args : List WData) : l.row.toRowW.claim.post args (.bool true) args = true :=
  postW_of (r := l.row.toRowW) (X := (true == true))
    (show WShape.has [] (.bool true) .bool = true by first | rfl | decide | simp [WShape.has, WShape.arms, WShape.armsAll])
    (show (WTm.eq .res (.lit (.bool true))).value [] { args := args, res := some (.bool true), after := args } = some (.bool (true == true)) from w_eq_bool (w_res rfl) w_lit) rfl
theorem attach_call {l : OpenLaw} {n : Nat} {q : Program} {loose : List Str} {XP : (Str → Option Value) → Heap → Prop} {YP : World → Heap → Prop} {d : DefRec}
    (hn : l.most = some n) (hdf : d.params.defaults = [])
    (call : ∀ (w : World) (s₀ s₁ : Shared) (mg mb : Str → Option Value) (fa : Addr) (o : Obj) (pm cd doc : Value) (a : Addr) (vs : List Value) (ns : List Int),
      Ground q loose [] XP w s₀ mg mb s₁.heap → YP w s₁.heap →
      s₁.heap.get? fa = some o → o.data = .func (docDef d.name d.params d.body d.scope pm cd doc) → s₁.heap.CodeRec cd d.name → mg d.name = some (.ref fa) →
      s₁.heap.get? a = some { cls := .type "list", data := .seq vs.toArray } → IntsAre vs ns → ns.length ≤ n → s₁.gens = #[] →
      codeAny (model l.prog w) callerA (.call (.ref fa) ⟨[.ref a], []⟩) (fun r s' => r = .ok (.ret (.bool true)) ∧ OldK s₁.heap s'.heap ∧ s'.os = s₁.os ∧ AllBare s'.gens) s₁) :
    WalkO q loose XP YP l.row.toRowW d [] (fun f vs => PySem.call f vs) := by
  intro w s₀ s₁ mg mb G Y fa o pm cd doc dV kV ho hd hcd hD hmg hg args vals as hpre hlay hrd hwl hlo
  obtain rfl : dV = .none := Dflts.none hD hdf
  obtain rfl : kV = .none := Dflts.noKw hD
  obtain ⟨a, vs, ns, rfl, rfl, hobj, hints, hlen⟩ := script_of hn hpre hwl
  refine enter_call (codeAny_mono (call w s₀ s₁ mg mb fa o pm cd doc a vs ns G Y ho (fd_plain hd) hcd hmg hobj hints hlen hg) fun r s' hq => ?_)
  obtain ⟨rfl, h2, h3, h4⟩ := hq
  exact ⟨.inl ⟨.bool true, .bool true, [], rfl, fun _ => rfl, .bool true, post_true l _, fun _ => ⟨List.Pairwise.nil, fun _ hm => (nomatch hm)⟩⟩, h2, h3, h4⟩
end Att
namespace L2
open PySem PySem.Spec PyProof.Rows
theorem vals_ints : ∀ {vs : List Value} {ns : List Int}, IntsAre vs ns → Vals (ns.map V.int) vs
  | _, _, .nil => .nil
  | _, _, .cons n t h => .cons ⟨t, rfl⟩ (vals_ints h)
def Only (H : Hp) : Prop := ∀ b, H b = none ∨ ∃ o xs, H b = some (.frz o (.lst xs))
theorem law_call {P : Program} {w : World} {K : PySem.W.Frag} {mg mb : Str → Option Value} {CX : CXT} {k : Nat} {fa a : Addr} {fd : FuncData} {x : Str} {sp : Sp} {s₁ : Shared} {vs : List Value} {ns : List Int}
    (KX : K.In s₁.heap) (hns : s₁.heap.Ns mainGlobals mg) (hb : s₁.heap.Ns builtinsNs mb) (hbb : ∀ x : Str, x ≠ "__name__" → mb x = bootBuiltins x) (hlim : s₁.heap.NoLimit) (hg : s₁.gens = #[])
    (ha : s₁.heap.get? a = some { cls := .type "list", data := .seq vs.toArray }) (hi : IntsAre vs ns) (hl : ns.length ≤ sizeLine) (hr : Room k callerA)
    (F : ∀ base : Heap, K.In base → base.Ns mainGlobals mg → FnOk P w K mg base CX k fa fd [x] sp) (hbind : ∀ (s : Shared) (u : Value), BindsTo s fd ⟨[u], []⟩ [(x, u)])
    (hsp : ∀ H : Hp, Only H → SqL K H a (ns.map V.int) → sp [.ref a] H (fun v _ => v = .bl true) fun _ _ _ => False)
    (hCX : ∀ H e s', CX [] H s₁ (fun _ _ _ => False) e s' → False) :
    codeAny (model P w) callerA (.call (.ref fa) ⟨[.ref a], []⟩) (fun r s' => r = .ok (.ret (.bool true)) ∧ OldK s₁.heap s'.heap ∧ s'.os = s₁.os ∧ AllBare s'.gens) s₁ := by
  have rv := vals_ints hi
  have lenV := hi.length
  have core : ∀ H : Hp, Only H → SqL K H a (ns.map V.int) → HOk P w H s₁.heap → (∀ b, H b ≠ none → b = a) → (H a ≠ none → K.lookup a = none) →
      codeAny (model P w) callerA (.call (.ref fa) ⟨[.ref a], []⟩) (fun r s' => r = .ok (.ret (.bool true)) ∧ OldK s₁.heap s'.heap ∧ s'.os = s₁.os ∧ AllBare s'.gens) s₁ := by
    intro H hO hS hok hA hK
    have base_of : ∀ {b : Addr} {o : Obj}, s₁.heap.get? b = some o → H b = none → (hidT s₁.heap H).get? b = some o := fun e n => hidT_get e n
    have noA : ∀ {b : Addr} {o : Obj} {es : Array DictEntry} {ep : Nat}, s₁.heap.get? b = some o → o.data = .dict es ep → H b = none := fun {b o es ep} e d => by
      cases q : H b with
      | none => rfl
      | some u =>
        have e' : b = a := hA b (by rw [q]; simp)
        subst e'
        rw [ha] at e; cases e
        have d' : Data.seq vs.toArray _ = Data.dict es ep := d
        cases d'
    have nsK : ∀ {b : Addr} {m : Str → Option Value}, s₁.heap.Ns b m → (hidT s₁.heap H).Ns b m := fun {b m} ⟨o, es, ep, e, d, r⟩ => ⟨o, es, ep, base_of e (noA e d), d, r⟩
    have hKb : K.In (hidT s₁.heap H) := fun b o e => base_of (KX b o e) (by
      cases q : H b with
      | none => rfl
      | some u =>
        have e' : b = a := hA b (by rw [q]; simp)
        subst e'
        rw [hK (by rw [q]; simp)] at e; cases e)
    have hM : Mod K mg (hidT s₁.heap H) := ⟨hKb, nsK hns, ⟨mb, nsK hb, hbb⟩, let ⟨mc, h1, h2⟩ := hlim; ⟨mc, nsK h1, h2⟩⟩
    have e0 : Env0 P w K mg (hidT s₁.heap H) callerA [] s₁ H := ⟨rfl, hM, fun b o e => of_hidT e, Nat.le_of_eq (hidT_size _ _), trivial, fun b hb => absurd (show b ∈ ([] : List Addr) from hb) (by simp), hok, .of_eq hg⟩
    refine codeAny_mono ((F _ hKb (nsK hns)).run callerA [] s₁ H ⟨[.ref a], []⟩ [.ref a] [.ref a] _ _ hr e0 (hbind s₁ (.ref a)) (.cons rfl .nil) (hsp H hO hS)) fun r s' h => ?_
    cases r with
    | error e => exact (hCX H e s' h).elim
    | ok fl =>
      cases fl with
      | next => exact False.elim h
      | brk => exact False.elim h
      | cont => exact False.elim h
      | ret u =>
        obtain ⟨v, H', os, bare, un, hok', r', q⟩ := h
        have q' : v = .bl true := q
        subst q'
        obtain rfl : u = Value.bool true := r'
        refine ⟨rfl, OldK.of_keep fun b o e => ?_, os, bare⟩
        cases q : H b with
        | none => exact un.keep b o e q (by intro z; exact absurd (show b ∈ ([] : List Addr) from z) (by simp)) (by simp)
        | some u =>
          rcases hO b with z | ⟨ob, xs, z⟩
          · rw [q] at z; cases z
          · have z2 := un.frzs b ob _ z
            obtain ⟨e1, _⟩ := hok b _ z
            obtain ⟨e2, _⟩ := hok' b _ z2
            rw [e] at e1; cases e1
            exact e2
  cases hk : K.lookup a with
  | some o =>
    have e := KX a o hk
    rw [ha] at e
    cases e
    refine core (fun _ => none) (fun _ => .inl rfl) (.inr ⟨_, vs.toArray, _, hk, rfl, rfl, rfl, by rw [List.size_toArray, lenV]; exact hl, by simpa using rv⟩) (fun b u z => by have z' : (none : Option HO) = some u := z; cases z') (fun b z => absurd rfl z) fun z => absurd rfl z
  | none =>
    refine core (fun b => if b = a then some (.frz { cls := .type "list", data := .seq vs.toArray } (.lst (ns.map V.int))) else none) (fun b => ?_) (.inl (.inr ⟨{ cls := .type "list", data := .seq vs.toArray }, if_pos rfl⟩)) (fun b u z => ?_) (fun b z => ?_) fun _ => hk
    · by_cases hb : b = a
      · exact .inr ⟨_, _, if_pos hb⟩
      · exact .inl (if_neg hb)
    · by_cases hb : b = a
      · have z' := (if_pos hb).symm.trans z
        cases z'
        subst hb
        exact ⟨ha, by rw [List.length_map]; exact hl, vs, _, rv, ha⟩
      · have z' := (if_neg hb).symm.trans z
        cases z'
    · by_cases hb : b = a
      · exact hb
      · exact absurd (if_neg hb) z
end L2
namespace L2
open PySem PySem.Spec PyProof.Rows
theorem walk_of {l : PySem.W.OpenLaw} {n k : Nat} {q : Program} {loose : List Str} {XP : (Str → Option Value) → Heap → Prop} {YP : World → Heap → Prop} {d : DefRec} {K : Params → PySem.W.Frag} {CX : World → CXT} {sp : World → Sp} {x : Str}
    (hn : l.most = some n) (hn2 : n ≤ sizeLine) (hdf : d.params.defaults = []) (hr : Room k callerA)
    (hY : ∀ (w : World) (h : Heap), YP w h → (K w.params).In h)
    (F : ∀ (w : World) (mg : Str → Option Value) (fa : Addr) (h : Heap), (K w.params).In h → h.Ns mainGlobals mg → mg d.name = some (.ref fa) →
      ∃ fd : FuncData, (∀ (s : Shared) (u : Value), BindsTo s fd ⟨[u], []⟩ [(x, u)]) ∧
        ∀ base : Heap, (K w.params).In base → base.Ns mainGlobals mg → FnOk l.prog w (K w.params) mg base (CX w) k fa fd [x] (sp w))
    (hsp : ∀ (w : World) (H : Hp) (a : Addr) (ns : List Int), ns.length ≤ n → Only H → SqL (K w.params) H a (ns.map V.int) → sp w [.ref a] H (fun v _ => v = .bl true) fun _ _ _ => False)
    (hCX : ∀ (w : World) (H : Hp) (s : Shared) (e : Value) (s' : Shared), CX w [] H s (fun _ _ _ => False) e s' → False) :
    PySem.W.WalkO q loose XP YP l.row.toRowW d [] (fun f vs => PySem.call f vs) := by
  refine Att.attach_call hn hdf fun w s₀ s₁ mg mb fa o pm cd doc a vs ns G Y ho hd hcd hmg hobj hints hlen hg => ?_
  have KX := hY w _ Y
  obtain ⟨fd, hb, hF⟩ := F w mg fa _ KX G.T.g hmg
  exact law_call KX G.T.g G.T.b G.T.builtins G.T.nolimit hg hobj hints (Nat.le_trans hlen hn2) hr hF hb (fun H hO hS => hsp w H a ns hlen hO hS) fun H e s' => hCX w H s₁ e s'
end L2
namespace L2
open PySem PySem.Spec PyProof.Rows
def defArgs (s : Stmt) : Arguments := match s with
  | .FunctionDef _ a _ _ _ _ _ _ _ _ => a
  | _ => { posonlyargs := [], args := [], vararg := none, kwonlyargs := [], kw_defaults := [], kwarg := none, defaults := [] }
def defBody (s : Stmt) : List Stmt := match s with
  | .FunctionDef _ _ b _ _ _ _ _ _ _ => b
  | _ => []
def defScope (s : Stmt) : Scope := match s with
  | .FunctionDef _ _ _ _ _ _ sc _ _ _ => sc
  | _ => { kind := .function, names := [], isGenerator := false, isCoroutine := false }
abbrev CX0 : CXT := fun _ _ _ _ _ _ => False
abbrev E0 : XK := fun _ _ _ => False
theorem pass0 {X : Cx} : Passes CX0 X E0 := fun _ _ _ _ _ _ _ h => h.elim
structure Fun (K : PySem.W.Frag) (x qual : Str) (st : Stmt) (f : Addr) (fd : FuncData) : Prop where
  ex : ∃ (oc : Value) (od : Option Addr) (kV doc pm : Value) (an : Option Addr) (cdv ct : Value) (osl : Array (Option Value)),
    fd = PySem.W.fnOf x qual (defArgs st) (defBody st) (defScope st) .none kV doc pm an cdv ct ∧ K.lookup f = some ⟨oc, od, .func fd, osl⟩ ∧ PySem.W.codeIn K cdv qual = true
  kp : PySem.W.keepIn K (.ref f) = true
section
variable {P : Program} {w : World} {K : PySem.W.Frag} {mg : Str → Option Value} {base : Heap}
theorem Fun.ok {x qual : Str} {st : Stmt} {f : Addr} {fd : FuncData} {N ps : List Str} {k : Nat} {sp : Sp} (F : Fun K x qual st f fd) (S : FnScope N ps (defScope st)) (len : ∀ vs H Q E, sp vs H Q E → vs.length = ps.length)
    (hbody : ∀ (cdv : Value) (A : Around) (outer : List Env) (s : Shared) (H : Hp) (vs : List V) (Q : VK) (E : XK), Room k (A.deeper (envOfC qual (defScope st) s.heap.objs.size f cdv)) → sp vs H Q E →
      ∃ t, PSs (cxOf CX0 P w K mg base N qual (defScope st) f cdv A outer s H E).nox (defBody st) t ∧ t { nx := fun _ H' => Q .non H', rt := Q } (start N vs) H) : FnOk P w K mg base CX0 (k + 1) f fd ps sp := by
  obtain ⟨oc, od, kV, doc, pm, an, cdv, ct, osl, rfl, lk, hcd⟩ := F.ex
  refine fn_of lk hcd S len fun A outer s H vs Q E hr hsp => ?_
  obtain ⟨t, h, q⟩ := hbody cdv A outer s H vs Q E hr hsp
  exact ⟨t, h.nox, q⟩
theorem Fun.binds {x qual : Str} {st : Stmt} {f : Addr} {fd : FuncData} {ps : List Str} (F : Fun K x qual st f fd)
    (h : ∀ (kV doc pm : Value) (an : Option Addr) (cdv ct : Value) (us : List Value), us.length = ps.length → bindArgs (PySem.W.fnOf x qual (defArgs st) (defBody st) (defScope st) .none kV doc pm an cdv ct) ⟨us, []⟩ = pure (ps.zip us)) : Binds K fd ps [] := by
  obtain ⟨oc, od, kV, doc, pm, an, cdv, ct, osl, rfl, lk, hcd⟩ := F.ex
  exact .all (h kV doc pm an cdv ct)
theorem fun_mk {x qual : Str} {st : Stmt} {f : Addr} {oc : Value} {od an : Option Addr} {osl : Array (Option Value)} {kV doc pm cdv ct : Value} (l : K.lookup f = some ⟨oc, od, .func (PySem.W.fnOf x qual (defArgs st) (defBody st) (defScope st) .none kV doc pm an cdv ct), osl⟩)
    (c : PySem.W.codeIn K cdv qual = true) (k : PySem.W.keepIn K (.ref f) = true) : Fun K x qual st f (PySem.W.fnOf x qual (defArgs st) (defBody st) (defScope st) .none kV doc pm an cdv ct) := ⟨⟨oc, od, kV, doc, pm, an, cdv, ct, osl, rfl, l, c⟩, k⟩
end
theorem hu_of {A : Around} {k : Nat} (hr : Room k A) : A.units + 1 < cLine := Nat.lt_of_le_of_lt (Nat.add_le_add_left (by decide : 1 ≤ 64) _) hr.units
theorem small1000 {n : Nat} (h : n ≤ 1000) : n < sizeLine := Nat.lt_of_le_of_lt h (by decide)
section
variable {X : Cx}
theorem pv (i : Nat) {x : Str} {pos : PySem.Pos} (hN : X.N[i]? = some x := by rfl) (hv : Vis X.env.scope x := by first | exact Or.inl rfl | exact Or.inr (Or.inl rfl) | exact Or.inr (Or.inr rfl)) (hd : (x == ("__debug__" : Str)) = false := by decide)
    (hcd : (x == ("__classdict__" : Str)) = false := by decide) : PE X (.Name x pos) (tVar i) := pe_var hN hv hd hcd
end
theorem iteF {A B : Prop} (h : B) : if false = true then A else B := by
  rw [if_neg Bool.false_ne_true]
  exact h
theorem iteT {A B : Prop} (h : A) : if true = true then A else B := by
  rw [if_pos rfl]
  exact h
theorem ite2 {c A B : Prop} [Decidable c] (h1 : c → A) (h2 : ¬ c → B) : if c then A else B := by
  by_cases h : c
  · rw [if_pos h]
    exact h1 h
  · rw [if_neg h]
    exact h2 h
def Same (H H' : Hp) : Prop := ∀ b o, H b = some o → H' b = some o
theorem Same.refl (H : Hp) : Same H H := fun _ _ h => h
theorem Same.trans {H H1 H2 : Hp} (a : Same H H1) (b : Same H1 H2) : Same H H2 := fun c o h => b c o (a c o h)
theorem Same.free {H H' : Hp} (e : Same H H') {l : Addr} (h : H' l = Option.none) : H l = Option.none := by
  cases q : H l with
  | none => rfl
  | some o =>
    rw [e l o q] at h
    cases h
theorem Same.seq {K : PySem.W.Frag} {H H' : Hp} {a : Addr} {xs : List V} (e : Same H H') (h : SqL K H a xs) : SqL K H' a xs := by
  rcases h with (h | ⟨o, h⟩) | h
  · exact .inl (.inl (e _ _ h))
  · exact .inl (.inr ⟨o, e _ _ h⟩)
  · exact .inr h
end L2
set_option Elab.async false
set_option linter.all false
set_option maxRecDepth 100000
set_option maxHeartbeats 4000000
namespace L2
open PySem PySem.Spec PyProof.Rows
section
variable {X : Cx}
def CDivL (i j : Int) : Prop := 0 < j ∧ j.natAbs.log2 < 9000
theorem op_fdivL : OpR X (binaryOp .FloorDiv) (rI CDivL fun i j => .int (i / j)) := opI fun i j _ _ _ _ _ hc q => by
  have h1 : (0 : Int) < j := hc.1
  exact floordiv_int (by omega) (by rw [Int.fdiv_eq_ediv_of_nonneg i (by omega)]; exact q) (.inl (PyProof.noPylong_of_log2 hc.2))
theorem call_isinst {T : String} : CallR X (.builtin "isinstance") (fun xs H Q => ∃ x t b, xs = [x, .ty T] ∧ TyOf X.K H x t ∧ PySem.W.kitOne X.K t (.type T) = some b ∧ Q (.bl b) H) := by
  intro pins s σ H xs us Q I r h
  obtain ⟨x, t, b, rfl, ty, e, q⟩ := h
  obtain ⟨u, w', rfl, r1, r2⟩ := vals2 r
  cases (show w' = .type T from r2)
  exact isinst_ok I r1 ty e fun tk => ⟨.bl b, H, I.tok _, rfl, q⟩
end
end L2
set_option Elab.async false
set_option linter.all false
set_option maxRecDepth 100000
set_option maxHeartbeats 4000000
namespace L2
open PySem PySem.Spec PyProof.Rows
section
variable {X : Cx}
theorem clos_go (env : Env) : ∀ (names : List (Str × NameKind)) (acc : List (Str × Addr)), (∀ y ∈ names, y.2 = .free → ∃ c, env.cells.lookup y.1 = some c) → (∀ y c, acc.lookup y = some c → env.cells.lookup y = some c) →
    ∃ cl, (forIn names acc fun (x : Str × NameKind) (r : List (Str × Addr)) => if (x.2 == NameKind.free) = true then (do let c ← cellOf env x.1; pure (ForInStep.yield ((x.1, c) :: r))) else pure (ForInStep.yield r) : Sem _) = pure cl ∧
      (∀ y c, cl.lookup y = some c → env.cells.lookup y = some c) ∧ (∀ y, (y, NameKind.free) ∈ names → (cl.lookup y).isSome = true) ∧ (∀ y, (acc.lookup y).isSome = true → (cl.lookup y).isSome = true)
  | [], acc, _, h => ⟨acc, by simp, h, fun y z => absurd z (by simp), fun _ z => z⟩
  | (n, k) :: r, acc, hf, h => by
    by_cases hk : k = .free
    · subst hk
      obtain ⟨c, hc⟩ := hf (n, .free) List.mem_cons_self rfl
      obtain ⟨cl, e, h1, h2, h3⟩ := clos_go env r ((n, c) :: acc) (fun y hy => hf y (List.mem_cons_of_mem _ hy)) (fun y d hd => by
        rw [List.lookup_cons] at hd
        cases z : y == n with
        | true =>
          rw [z] at hd
          have : y = n := by simpa using z
          subst this
          cases hd
          exact hc
        | false => rw [z] at hd; exact h y d hd)
      have hin : ∀ y, (((n, c) :: acc).lookup y).isSome = true ∨ True := fun _ => .inr trivial
      refine ⟨cl, ?_, h1, fun y hy => ?_, fun y hy => h3 y ?_⟩
      · rw [List.forIn_cons]
        have e0 : cellOf env n = pure c := by unfold cellOf; rw [hc]
        simp only [beq_self_eq_true, if_true, e0, pure_bind]
        exact e
      · rcases List.mem_cons.mp hy with z | z
        · cases z
          exact h3 _ (by rw [List.lookup_cons]; simp)
        · exact h2 y z
      · rw [List.lookup_cons]
        cases y == n with
        | true => rfl
        | false => exact hy
    · obtain ⟨cl, e, h1, h2, h3⟩ := clos_go env r acc (fun y hy => hf y (List.mem_cons_of_mem _ hy)) h
      refine ⟨cl, ?_, h1, fun y hy => ?_, h3⟩
      · rw [List.forIn_cons]
        have hb : (k == NameKind.free) = false := by simpa using hk
        simp only [hb, Bool.false_eq_true, if_false, pure_bind]
        exact e
      · rcases List.mem_cons.mp hy with z | z
        · cases z; exact absurd rfl hk
        · exact h2 y z
theorem clos_ok {scope : Scope} {env : Env} (hf : ∀ y ∈ scope.names, y.2 = .free → ∃ c, env.cells.lookup y.1 = some c) : ∃ cl, closureFor scope env = pure cl ∧ (∀ y c, cl.lookup y = some c → env.cells.lookup y = some c) ∧ (∀ y, (y, NameKind.free) ∈ scope.names → (cl.lookup y).isSome = true) := by
  obtain ⟨cl, e, h1, h2, _⟩ := clos_go env scope.names [] hf (fun y c h => by cases h)
  refine ⟨cl, ?_, h1, h2⟩
  unfold closureFor
  simp only [bind_pure]
  exact e
end
end L2
namespace L2
open PySem PySem.Spec PyProof.Rows
section
variable {X : Cx}
def tYes : TT := fun _ H Q => Q true H
def PIf (X : Cx) (ifs : List Expr) (t : TT) : Prop :=
  ∀ (pins : List (Addr × Obj)) (s : Shared) (σ : St) (H : Hp) (Q : Bool → Hp → Prop), Inv X pins σ H s → t σ H Q →
    wpAny (model X.prog X.w) X.A (forIn ifs true fun c r => if r = true then do let ok ← isTrue c X.env (eval c X.env); pure (ForInStep.yield ok) else pure (ForInStep.yield r)) (TP X pins σ Q) X.xe s
theorem pif_nil : PIf X [] tYes := fun pins s σ H Q I h => wpAny_tests_nil ⟨H, I, h⟩
theorem pif_one {c : Expr} {t : TT} (hc : PT X c t) : PIf X [c] t := fun pins s σ H Q I h => wpAny_tests_one (hc pins s σ H Q I h)
theorem relabel_kind {names : List (Str × NameKind)} {env : Env} {x : Str} {k : NameKind} (hc : ∀ y ∈ names, y.2 ≠ .cell) (h : (names.map fun (n, k) => if (k == NameKind.free && env.scope.kind == .function && env.kindOf n == some .cell) then (n, NameKind.cell) else (n, k)).lookup x = some k) :
    (k = .cell ∨ k = .free) → names.lookup x = some .free ∧ (k = .cell → env.kindOf x = some .cell) := by
  induction names with
  | nil => cases h
  | cons p r ih =>
    obtain ⟨n, k0⟩ := p
    intro hk
    have h : List.lookup x ((if (k0 == NameKind.free && env.scope.kind == .function && env.kindOf n == some .cell) = true then (n, NameKind.cell) else (n, k0)) :: _) = some k := h
    by_cases c : (k0 == NameKind.free && env.scope.kind == .function && env.kindOf n == some .cell) = true
    · rw [if_pos c] at h
      rw [List.lookup_cons] at h ⊢
      cases z : x == n with
      | true =>
        have e : x = n := by simpa using z
        subst e
        simp only [Bool.and_eq_true, beq_iff_eq] at c
        exact ⟨by rw [c.1.1], fun _ => c.2⟩
      | false => rw [z] at h; exact ih (fun y hy => hc y (List.mem_cons_of_mem _ hy)) h hk
    · rw [if_neg c] at h
      rw [List.lookup_cons] at h ⊢
      cases z : x == n with
      | true =>
        rw [z] at h
        have e : k0 = k := Option.some.inj h
        subst e
        rcases hk with rfl | rfl
        · exact absurd rfl (hc (n, .cell) List.mem_cons_self)
        · exact ⟨rfl, fun z => by cases z⟩
      | false => rw [z] at h; exact ih (fun y hy => hc y (List.mem_cons_of_mem _ hy)) h hk
end
end L2
set_option Elab.async false
set_option linter.all false
set_option maxRecDepth 100000
set_option maxHeartbeats 4000000
namespace L2
open PySem PySem.Spec PyProof.Rows
section
variable {X : Cx}
theorem relabel_local {names : List (Str × NameKind)} {env : Env} {x : Str} (h : (names.map fun (n, k) => if (k == NameKind.free && env.scope.kind == .function && env.kindOf n == some .cell) then (n, NameKind.cell) else (n, k)).lookup x = some .local) :
    names.lookup x = some .local := by
  induction names with
  | nil => cases h
  | cons p r ih =>
    obtain ⟨n, k0⟩ := p
    have h : List.lookup x ((if (k0 == NameKind.free && env.scope.kind == .function && env.kindOf n == some .cell) = true then (n, NameKind.cell) else (n, k0)) :: _) = some .local := h
    by_cases c : (k0 == NameKind.free && env.scope.kind == .function && env.kindOf n == some .cell) = true
    · rw [if_pos c] at h
      rw [List.lookup_cons] at h ⊢
      cases z : x == n with
      | true => rw [z] at h; cases h
      | false => rw [z] at h; exact ih h
    · rw [if_neg c] at h
      rw [List.lookup_cons] at h ⊢
      cases z : x == n with
      | true => rw [z] at h; exact h
      | false => rw [z] at h; exact ih h
end
end L2
set_option Elab.async false
set_option linter.all false
set_option maxRecDepth 100000
set_option maxHeartbeats 4000000
namespace L2
open PySem PySem.Spec PyProof.Rows
inductive DI (K : PySem.W.Frag) (H : Hp) : V → PyData → Prop where
  | non : DI K H .non .none
  | bl (b : Bool) : DI K H (.bl b) (.bool b)
  | int (i : Int) : DI K H (.int i) (.int i)
  | str (x : Str) : DI K H (.str x) (.str x)
  | tup {a : Addr} {xs : List V} {ds : List PyData} : SqT K H a xs → xs.length = ds.length → (∀ (i : Nat) (x : V) (d : PyData), xs[i]? = some x → ds[i]? = some d → DI K H x d) → DI K H (.ref a) (.tuple ds)
  | lst {a : Addr} {xs : List V} {ds : List PyData} : SqL K H a xs → xs.length = ds.length → (∀ (i : Nat) (x : V) (d : PyData), xs[i]? = some x → ds[i]? = some d → DI K H x d) → DI K H (.ref a) (.list ds)
section
variable {X : Cx} {pins : List (Addr × Obj)} {σ : St} {H : Hp} {s : Shared}
theorem readsAll_of : ∀ {us : List Value} {ds : List PyData} {xs : List V}, Vals xs us → xs.length = ds.length → (∀ (i : Nat) (x : V) (d : PyData) (u : Value), xs[i]? = some x → ds[i]? = some d → RelV x u → ∃ as, Reads s.heap u d as) → ∃ as, ReadsAll s.heap us ds as
  | _, ds, _, .nil, hl, _ => by
    cases ds with
    | nil => exact ⟨_, .nil⟩
    | cons d r => cases hl
  | _, ds, _, .cons (a := x) r t, hl, h => by
    cases ds with
    | nil => cases hl
    | cons d rest =>
      obtain ⟨as, ra⟩ := h 0 x d _ rfl rfl r
      obtain ⟨bs, rb⟩ := readsAll_of t (by simpa using hl) (fun i y e u h1 h2 h3 => h (i + 1) y e u (by simpa using h1) (by simpa using h2) h3)
      exact ⟨_, .cons ra rb⟩
theorem DI.reads (I : Inv X pins σ H s) {x : V} {d : PyData} (h : DI X.K H x d) : ∀ {u : Value}, RelV x u → ∃ as, Reads s.heap u d as := by
  induction h with
  | non => intro u r; cases r; exact ⟨_, .none⟩
  | bl b => intro u r; cases r; exact ⟨_, .bool b⟩
  | int i => intro u r; obtain ⟨t, rfl⟩ := r; exact ⟨_, .int i t⟩
  | str x => intro u r; obtain ⟨t, rfl⟩ := r; exact ⟨_, .str x t⟩
  | tup hq hl _ ih =>
    intro u r
    cases r
    obtain ⟨its, rv, ⟨o, e, c, n, hd⟩, _⟩ := I.tuple hq
    obtain ⟨as, ra⟩ := readsAll_of (s := s) rv hl (fun i y d u h1 h2 h3 => ih i y d h1 h2 h3)
    exact ⟨_, .tuple e c hd (by simpa using ra)⟩
  | lst hq hl _ ih =>
    intro u r
    cases r
    obtain ⟨its, rv, pl, _⟩ := I.list hq
    obtain ⟨o, e, c, n, hd⟩ := pl.isList
    obtain ⟨as, ra⟩ := readsAll_of (s := s) rv hl (fun i y d u h1 h2 h3 => ih i y d h1 h2 h3)
    exact ⟨_, .list e c hd (by simpa using ra)⟩
def rEqD (K : PySem.W.Frag) (g : Bool → Bool) : R2 := fun x y H Q => ∃ dx dy, DI K H x dx ∧ DI K H y dy ∧ dx.canLay0 = true ∧ dy.canLay0 = true ∧ dx.depth ≤ 60 ∧ Q (.bl (g (PyData.eqv dx dy))) H
theorem op_eqD {k : Nat} (hr : Room k X.A) : OpR X (compareOp .Eq) (rEqD X.K fun b => b) := by
  intro pins s σ H x y v u Q I rx ry h
  obtain ⟨dx, dy, hx, hy, cx, cy, hd, q⟩ := h
  obtain ⟨as, ra⟩ := hx.reads I rx
  obtain ⟨bs, rb⟩ := hy.reads I ry
  have hu := hr.units
  exact SeqAt.compareEq_reads ra rb cx cy (by omega) ⟨.bl _, H, I, rfl, q⟩
theorem op_neD {k : Nat} (hr : Room k X.A) : OpR X (compareOp .NotEq) (rEqD X.K fun b => !b) := by
  intro pins s σ H x y v u Q I rx ry h
  obtain ⟨dx, dy, hx, hy, cx, cy, hd, q⟩ := h
  obtain ⟨as, ra⟩ := hx.reads I rx
  obtain ⟨bs, rb⟩ := hy.reads I ry
  have hu := hr.units
  exact SeqAt.compareNe_reads ra rb cx cy (by omega) ⟨.bl _, H, I, rfl, q⟩
end
end L2
set_option Elab.async false
set_option linter.all false
set_option maxRecDepth 100000
set_option maxHeartbeats 4000000
namespace L2
open PySem PySem.Spec PyProof.Rows
section
variable {X : Cx}
theorem range_all_get (bs : List Bool) : (List.range bs.length).all (fun i => bs.getD i true) = bs.all id := by
  induction bs with
  | nil => rfl
  | cons b r ih =>
    rw [List.length_cons, List.range_succ_eq_map, List.all_cons, List.all_map, List.all_cons]
    have : (List.range r.length).all ((fun i => (b :: r).getD i true) ∘ Nat.succ) = (List.range r.length).all (fun i => r.getD i true) := by
      congr 1
    rw [this, ih]
    rfl
theorem call_all (hc : X.calm = true) : CallR X (.builtin "all") (fun xs H Q => ∃ (p : Addr) (bs : List Bool), xs = [.ref p] ∧ SqL X.K H p (bs.map V.bl) ∧ Q (.bl (bs.all id)) H) := by
  intro pins s σ H xs us Q I r h
  obtain ⟨p, bs, rfl, hq, q⟩ := h
  obtain ⟨u, rfl, rx⟩ := vals1 r
  cases rx
  obtain ⟨its, rv, pl, hz⟩ := I.list hq
  have hlt : p < s.heap.objs.size := by
    obtain ⟨o, e, _⟩ := pl.isList
    exact Heap.lt_size e
  have hlen : its.length = bs.length := by have := rv.length; rw [List.length_map] at this; exact this.symm
  refine call_all_walk (wpAny_pyIter_list pl.isList ?_)
  refine ⟨_, _, _, _, _, _, fun i => bs.getD i true, rfl, Walks.list (A := X.A.in1) (I.ok.hd hc) s.heap.objs.size p (Nat.ne_of_lt hlt) its.toArray, ?_, ?_, fun h' tk hk => ?_⟩
  · exact ⟨⟨_, Heap.get?_push_size _ rfl, rfl, rfl⟩, (let ⟨o, e, c⟩ := pl.isList; ⟨o, Heap.get?_push_of_some _ e, c⟩)⟩
  · intro i v s' Q' E' hP hQ
    have hv : its[i]? = some v := by simpa using hP
    have hil : i < bs.length := by rw [← hlen]; exact (List.getElem?_eq_some_iff.mp hv).1
    obtain ⟨u, e, ru⟩ := rv.get (x := V.bl (bs.getD i true)) (i := i) (by rw [List.getElem?_map, List.getElem?_eq_getElem hil, List.getD_eq_getElem?_getD, List.getElem?_eq_getElem hil]; rfl)
    rw [hv] at e
    cases e
    cases ru
    exact wpAny_truthy_bool hQ
  · have e : (List.range its.toArray.size).all (fun i => bs.getD i true) = bs.all id := by
      rw [List.size_toArray, hlen]; exact range_all_get bs
    rw [e]
    refine ⟨.bl _, H, ?_, rfl, q⟩
    exact I.kept fun b o eb => hk b o (by simp; exact Nat.ne_of_lt (Heap.lt_size eb)) (Heap.get?_push_of_some _ eb)
theorem call_isinstK {K : PySem.W.Frag} {T : String} (hK : X.K = K := by rfl) : CallR X (.builtin "isinstance") (fun xs H Q => ∃ x t b, xs = [x, .ty T] ∧ TyOf K H x t ∧ PySem.W.kitOne K t (.type T) = some b ∧ Q (.bl b) H) := by
  subst hK; exact call_isinst
theorem ix_listK {K : PySem.W.Frag} (hK : X.K = K := by rfl) : IxR X (rIxL K) := by subst hK; exact ix_list
theorem ix_tupK {K : PySem.W.Frag} (hK : X.K = K := by rfl) : IxR X (rIxT K) := by subst hK; exact ix_tup
theorem call_lenK {K : PySem.W.Frag} (hK : X.K = K := by rfl) : CallR X (.builtin "len") (fun xs H Q => ∃ p ys, xs = [.ref p] ∧ (SqL K H p ys ∨ SqT K H p ys) ∧ Q (.int ys.length) H) := by subst hK; exact call_len_seq
end
end L2
set_option Elab.async false
set_option linter.all false
set_option maxRecDepth 100000
set_option maxHeartbeats 4000000
namespace L2
open PySem PySem.Spec PyProof.Rows
section
variable {X : Cx}
theorem Vals.of_get : ∀ {xs : List V} {us : List Value}, xs.length = us.length → (∀ (i : Nat) (x : V) (u : Value), xs[i]? = some x → us[i]? = some u → RelV x u) → Vals xs us
  | [], [], _, _ => .nil
  | [], _ :: _, h, _ => by cases h
  | _ :: _, [], h, _ => by cases h
  | x :: xs, u :: us, h, k => .cons (k 0 x u rfl rfl) (Vals.of_get (by simpa using h) fun i y v h1 h2 => k (i + 1) y v (by simpa using h1) (by simpa using h2))
end
end L2
set_option Elab.async false
set_option linter.all false
set_option maxRecDepth 100000
set_option maxHeartbeats 4000000
namespace L2
open PySem PySem.Spec PyProof.Rows
section
variable {X : Cx}
section
variable {prog : Program} {w : World} {A : Around} {R : Result → Shared → Prop} {s : Shared}
theorem loop_turns {elt tg iter : Expr} {ifs : List Expr} {scope : Scope} {pos : PySem.Pos} {it acc : Value} {env : Env} {EE : Value → Shared → Prop} (hE : EE = notedBy (model prog w) A env fun e s' => R (.error e) s') (I : Nat → Shared → Prop)
    (turn : ∀ n s, I n s → wpAny (model prog w) A (pyNext it) (fun r z1 => match r with
      | none => R (.ok .next) z1
      | some v => wpAny (model prog w) A (letOwnedTupleGo tg it v) (fun _ y1 => wpAny (model prog w) A (assign tg env v) (fun _ z2 =>
          wpAny (model prog w) A (forIn ifs true fun c r => if r = true then do let ok ← isTrue c env (eval c env); pure (ForInStep.yield ok) else pure (ForInStep.yield r)) (fun ok z3 =>
            if ok = true then wpAny (model prog w) A (eval elt env) (fun x z4 => wpAny (model prog w) A (call (.builtin "list.append") [acc, x]) (fun _ z5 => ∃ m, m < n ∧ I m z5) EE z4) EE z3 else ∃ m, m < n ∧ I m z3) EE z2) EE y1) EE z1) EE s)
    (n : Nat) (h : I n s) : codeAny (model prog w) A (.compLoop (.ListComp elt [⟨tg, iter, ifs, 0⟩] scope pos) 0 it acc env) R s := by
  subst hE
  refine codeAny_loop rfl I (fun n s hI => ?_) n h
  show wpAny _ A ((compTurn (.ListComp elt [⟨tg, iter, ifs, 0⟩] scope pos) 0 it acc env).onRaise (fun x => do noteFrame x env; theTreesLotGoes x)) _ _ s
  refine wpAny_noted ?_
  rw [compTurn_list]
  refine wpAny_bind (wpAny_standAt (wpAny_bind (wpAny_mono (turn n s hI) (fun r z1 q1 => ?_) fun _ _ z => z)))
  cases r with
  | none => exact wpAny_pure q1
  | some v =>
    refine wpAny_bind (wpAny_mono q1 (fun _ y1 q1 => ?_) fun _ _ z => z)
    refine wpAny_bind (wpAny_mono q1 (fun _ z2 q2 => wpAny_bind (wpAny_mono q2 (fun ok z3 q3 => ?_) fun _ _ z => z)) fun _ _ z => z)
    cases ok with
    | false => exact wpAny_pure ⟨rfl, q3⟩
    | true => exact wpAny_bind (wpAny_bind (wpAny_mono q3 (fun x z4 q4 => wpAny_bind (wpAny_mono q4 (fun _ z5 q5 => wpAny_pure (wpAny_pure ⟨rfl, q5⟩)) fun _ _ z => z)) fun _ _ z => z))
end
def cxC (X : Cx) (xs Nb : List Str) (scope : Scope) (cl : List (Str × Addr)) (C : Addr) (s₂ : Shared) (H₂ : Hp) (fp : List Addr) : Cx :=
  { X with N := xs ++ Nb, s₀ := s₂, H₀ := H₂, env := compEnvC scope cl C X.env, outer := X.stack, stack := X.stack, ex := fp, fn := fun _ => false, pn := [], xe := fun _ _ => False }
def InB (X : Cx) (xs Nb : List Str) (scope : Scope) (φ : Cx → Prop) : Prop := ∀ (cl : List (Str × Addr)) (C : Addr) (s₂ : Shared) (H₂ : Hp) (fp : List Addr), φ (cxC X xs Nb scope cl C s₂ H₂ fp)
def CGo (k : Nat) (J : It) (g : TG) (tt : TT) (te : TE) (Q : VK) (σ : St) (H1 : Hp) : Prop := ∃ W : Nat → Nat → List V → Hp → Prop, (∃ m, W 0 m [] H1) ∧ ∀ i m ys H, W i m ys H →
  (J.stop i H ∧ ∀ D, H D = none → Q (.ref D) (upd H D (.lst ys))) ∨ (J.go i H ∧ ys.length < sizeLine ∧ ∃ N : List V → Hp → Prop, (∀ zs H', N zs H' → ∃ m', m' < m ∧ W (i + 1) m' zs H') ∧ ∀ v H' (pre : St), pre.length = k → J.yld i H v H' → g v (pre ++ σ) H' fun σ' H2 => (∃ pre' : St, σ' = pre' ++ σ ∧ pre'.length = k) ∧ tt σ' H2 fun ok H3 => if ok = true then te σ' H3 fun y H4 => N (ys ++ [y]) H4 else N ys H3)
def tCompG (k : Nat) (wi : TI) (g : TG) (tt : TT) (te : TE) : TE := fun σ H Q => wi σ H fun J H1 => CGo k J g tt te Q σ H1
theorem comp_core {elt iter tg : Expr} {xs Nb : List Str} {ifs : List Expr} {scope : Scope} {pos : PySem.Pos} {wi : TI} {g : TG} {tt : TT} {te : TE}
    (hc : X.calm = true) (hi : PI X tg iter wi) (hlen : Nb.length = X.N.length) (hNb : ∀ p ∈ Nb.zip X.N, p.1 = p.2 ∨ scope.names.lookup p.1 = none) (hxN : ∀ y ∈ Nb, scope.names.lookup y ≠ some .local)
    (hg : InB X xs Nb scope fun Y => PG Y tg g) (ht : InB X xs Nb scope fun Y => PIf Y ifs tt) (he : InB X xs Nb scope fun Y => PE Y elt te)
    (hcell : ∀ y ∈ scope.names, y.2 ≠ .cell) (hkind : scope.kind = .function) (hnames : ∀ y ∈ scope.names, y.2 = .local → scope.names.lookup y.1 = some .local)
    (hfree : ∀ y ∈ scope.names, y.2 = .free → X.env.kindOf y.1 = some .cell)
    (hs : ∀ x, foldedSetIterable iter X.env x = pure x) {pos2 : PySem.Pos} {use : Option (Value → Sem Unit)} {QQ : Value → Shared → Prop} {pins : List (Addr × Obj)} {s : Shared} {σ : St} {H : Hp} {Q : VK} (I : Inv X pins σ H s) (h : tCompG xs.length wi g tt te σ H Q)
    (post : ∀ (s2 s4 : Shared) (H2 H4 : Hp) (C D : Addr) (m4 : Str → Option Value), Inv X pins σ H2 s2 → s2.heap.objs.size ≤ C → s4.heap.Ns C m4 → H4 C = none → (∀ h', Heap.SameBut C s4.heap h' → Inv X pins σ H4 { s4 with heap := h' }) → Q (.ref D) H4 → compPost (model X.prog X.w) X.A X.xe use QQ (.ref D) C (.ok .next) s4) :
    wpAny (model X.prog X.w) X.A (comprehension (.ListComp elt [⟨tg, iter, ifs, 0⟩] scope pos) scope X.env pos2 (newList []) false (eval iter X.env) use) QQ X.xe s := by
  obtain ⟨cl, hcl, cl1, cl2⟩ := clos_ok (scope := scope) (env := X.env) (fun y hy hf => I.ok.has y.1 (.inl (hfree y hy hf)))
  refine wpAny_comprehension_free rfl hs hcl hkind hnames (thn (hi pins s σ H _ I h) fun v s1 h1 => thn h1 fun itv s2 h2 => ?_)
  obtain ⟨it, fp, tn, J, H2, e, I2, T, st2, f2, W, ⟨m0, w0⟩, turn⟩ := h2
  subst e
  refine wpAny_newObj_type (wpAny_newFunctionEnv hcell (by intro y hy; simp at hy) (fun h₁ hns₁ hsb₁ => ?_) hkind)
  dsimp only at hns₁ hsb₁ ⊢
  generalize hHp : s2.heap.push { cls := .type "list", dict := none, data := .seq ([] : List Value).toArray } = Hp2 at hns₁ hsb₁ ⊢
  have hC : Hp2.objs.size = s2.heap.objs.size + 1 := by rw [← hHp, Heap.size_push]
  have hDC : s2.heap.objs.size ≠ Hp2.objs.size := by rw [hC]; exact Nat.ne_of_lt (Nat.lt_succ_self _)
  have below : ∀ b, b < s2.heap.objs.size → b ≠ Hp2.objs.size ∧ b ≠ s2.heap.objs.size := fun b hb => ⟨by rw [hC]; exact Nat.ne_of_lt (Nat.lt_succ_of_lt hb), Nat.ne_of_lt hb⟩
  have old : ∀ b o, s2.heap.get? b = some o → h₁.get? b = some o := fun b o e => hsb₁.extBut b o (below b (Heap.lt_size e)).1 (Heap.get?_push_of_some _ (hHp ▸ Heap.get?_push_of_some _ e))
  have hacc : h₁.PlainList s2.heap.objs.size #[] := ⟨_, hsb₁.extBut _ _ hDC (Heap.get?_push_of_some _ (hHp ▸ Heap.get?_push_size _ rfl))⟩
  generalize hY : cxC X xs Nb scope cl Hp2.objs.size s2 H2 fp = Y
  have Yprog : Y.prog = X.prog := by rw [← hY]; rfl
  have fpLt : ∀ b ∈ fp, b < s2.heap.objs.size := fun b hb => by
    obtain ⟨o, e, _⟩ := T.obj _ _ st2 b hb
    exact Heap.lt_size e
  have cellLt : ∀ y c, cl.lookup y = some c → c < s2.heap.objs.size := fun y c hc => by
    obtain ⟨v, q⟩ := I2.cell y c (cl1 y c hc)
    exact q.lt
  have frSub : ∀ b ∈ frs X.stack, b < s2.heap.objs.size := fun b hb => by
    rcases List.mem_cons.mp (I2.stkSub b hb) with z | z
    · rw [z]; exact I2.lt
    · by_cases hlt : b < s2.heap.objs.size
      · exact hlt
      · exact absurd z (I2.nofs (Nat.le_of_not_lt hlt))
  have ok : (cxC X xs Nb scope cl Hp2.objs.size s2 H2 fp).Ok := by
    refine ⟨I2.ok.mod, hkind, I2.ok.glob, I2.ok.blt, (by show s2.heap.objs.size ≤ Hp2.objs.size; omega), fun y z c h1 h2 => I2.ok.inj y z c (cl1 y c h1) (cl1 z c h2), fun y hy => ?_, fun y c hf _ => absurd hf (by intro z; cases z), I2.ok.hd, I2.ok.frames, .inl rfl, fun b hb => ⟨?_, fun y c h1 h2 => ?_⟩, I2.bs, Nat.le_trans I2.ok.bsz I2.sz, fun b o e hb => ?_, fun b hb hm => ?_, I2.stack, I2.stkFree⟩
    · have hy : (scope.names.map fun (n, k) => if (k == NameKind.free && X.env.scope.kind == .function && X.env.kindOf n == some .cell) then (n, NameKind.cell) else (n, k)).lookup y = some .cell ∨ (scope.names.map fun (n, k) => if (k == NameKind.free && X.env.scope.kind == .function && X.env.kindOf n == some .cell) then (n, NameKind.cell) else (n, k)).lookup y = some .free := hy
      have q : scope.names.lookup y = some .free := by
        rcases hy with z | z
        · exact (relabel_kind hcell z (.inl rfl)).1
        · exact (relabel_kind hcell z (.inr rfl)).1
      exact Option.isSome_iff_exists.mp (cl2 y (PySem.mem_of_lookup q))
    · exact (below b (fpLt b hb)).1
    · exact (f2 b hb).2.2.2.2.1 y c (cl1 y c h1) h2
    · rcases (f2 b hb).2.2.2.1 with z | z
      · exact I2.ok.noex b o e z
      · exact absurd (Nat.lt_of_lt_of_le (Heap.lt_size e) (Nat.le_trans I2.ok.bsz z)) (Nat.lt_irrefl _)
    · rcases List.mem_cons.mp (I2.stkSub b hm) with z | z
      · exact (f2 b hb).2.1 z
      · exact (f2 b hb).2.2.1 z
  have fpY : ∀ {H' : Hp} {pl : List (Addr × Obj)}, (∀ b ∈ fp, H' b = none) → (∀ p ∈ pl, p.1 = s2.heap.objs.size) → ∀ b ∈ fp, FpOk Y pl H' b := fun {H' pl} hn hp b hb => by
    rw [← hY]
    refine ⟨hn b hb, (below b (fpLt b hb)).1, fun hm => ?_, .inl hb, fun y c h1 h2 => (f2 b hb).2.2.2.2.1 y c (cl1 y c h1) h2, fun p hm z => ?_⟩
    · rcases List.mem_cons.mp (I2.stkSub b hm) with z | z
      · exact (f2 b hb).2.1 z
      · exact (f2 b hb).2.2.1 z
    · have hm : p ∈ pl := hm
      rw [hp p hm] at z
      exact (below b (fpLt b hb)).2 z.symm
  have HD : H2 s2.heap.objs.size = none := I2.hok.fresh (Nat.le_refl _)
  have HC : H2 Hp2.objs.size = none := I2.hok.fresh (by omega)
  obtain ⟨m2, hns2, hloc2⟩ := I2.loc
  have IY : ∀ tk, Inv (cxC X xs Nb scope cl Hp2.objs.size s2 H2 fp) [] (List.replicate xs.length none ++ σ) H2 { s2 with heap := h₁, toks := tk } := fun tk => by
    refine ⟨ok, rfl, I2.bare, Un.kept old, ⟨_, hns₁, fun i y v h1 h2 h3 => ?_⟩, fun y c h1 => ?_, HC, fun y c h1 => I2.freeC y c (cl1 y c h1), fun p hp => absurd (show p ∈ ([] : List (Addr × Obj)) from hp) (by simp), I2.hok.kept old, (by show (List.replicate xs.length (none : Option V) ++ σ).length = (xs ++ Nb).length; rw [List.length_append, List.length_append, List.length_replicate, hlen, I2.len])⟩
    · have h1 : (xs ++ Nb)[i]? = some y := h1
      by_cases hik : i < xs.length
      · rw [List.getElem?_append_left (by rw [List.length_replicate]; exact hik), List.getElem?_replicate, if_pos hik] at h2
        cases h2
      · rw [List.getElem?_append_right (by omega)] at h1
        rw [List.getElem?_append_right (by rw [List.length_replicate]; omega), List.length_replicate] at h2
        generalize i - xs.length = i at h1 h2
        have h3 : Vis (relabel scope X.env) y := h3
        have key : ∀ k, (k = NameKind.cell ∨ k = NameKind.free) → (relabel scope X.env).names.lookup y = some k → ∃ u, RelV v u ∧ Look (compEnvC scope cl Hp2.objs.size X.env) h₁ (fun x => ([] : List (Str × Value)).reverse.lookup x) y u := fun k hk hl => by
          obtain ⟨q1, _⟩ := relabel_kind hcell hl hk
          have q2 := hfree (y, .free) (PySem.mem_of_lookup q1) rfl
          have h1' : X.N[i]? = some y := by
            have hi' : i < X.N.length := by rw [← hlen]; exact (List.getElem?_eq_some_iff.mp h1).1
            have hz : (Nb.zip X.N)[i]? = some (y, X.N[i]) := by rw [List.getElem?_zip_eq_some]; exact ⟨h1, List.getElem?_eq_getElem hi'⟩
            rcases hNb _ (List.mem_of_getElem? hz) with z | z
            · have z : y = X.N[i] := z
              rw [z]; exact List.getElem?_eq_getElem hi'
            · have z : scope.names.lookup y = none := z
              rw [q1] at z; cases z
          obtain ⟨u, r, l⟩ := hloc2 i y v h1' h2 (.inr (.inl q2))
          refine ⟨u, r, .inr ⟨?_, ?_⟩⟩
          · rcases hk with rfl | rfl
            · exact .inl hl
            · exact .inr hl
          · rcases l with ⟨k1, _⟩ | ⟨_, c, e1, z⟩
            · rw [q2] at k1; cases k1
            · obtain ⟨c', e2⟩ := Option.isSome_iff_exists.mp (cl2 y (PySem.mem_of_lookup q1))
              have e3 := cl1 y c' e2
              rw [e1] at e3
              cases e3
              obtain ⟨o, ho, hd⟩ := z
              exact ⟨c, e2, o, old c o ho, hd⟩
        rcases h3 with h3 | h3 | h3
        ·
          exfalso
          exact hxN y (List.mem_of_getElem? h1) (relabel_local h3)
        · exact key _ (.inl rfl) h3
        · exact key _ (.inr rfl) h3
    · obtain ⟨v, o, ho, hd⟩ := I2.cell y c (cl1 y c h1)
      exact ⟨v, o, old c o ho, hd⟩
  have noErr : ∀ {α : Type} {m : Sem α} {G : α → Shared → Prop} {E' : Value → Shared → Prop} {s' : Shared}, wpAny (model X.prog X.w) X.A m G (fun _ _ => False) s' → wpAny (model X.prog X.w) X.A m G E' s' := fun h => wpAny_mono h (fun _ _ q => q) fun _ _ q => q.elim
  have loop : ∀ (tk : Nat) (R : Result → Shared → Prop), R = compPost (model X.prog X.w) X.A X.xe use QQ (.ref s2.heap.objs.size) Hp2.objs.size →
      codeAny (model X.prog X.w) X.A (.compLoop (.ListComp elt [⟨tg, iter, ifs, 0⟩] scope pos) 0 (.ref it) (.ref s2.heap.objs.size) (compEnvC scope cl Hp2.objs.size X.env)) R { s2 with heap := h₁, toks := tk } := by
    rintro tk R rfl
    refine loop_turns rfl (fun n s' => ∃ i σv H' ys its, σv.length = xs.length ∧ Inv Y [] (σv ++ σ) H' s' ∧ tn i s'.heap ∧ (∀ b ∈ fp, H' b = none) ∧ Vals ys its ∧ ys.length ≤ sizeLine ∧ s'.heap.PlainList s2.heap.objs.size its.toArray ∧ H' s2.heap.objs.size = none ∧ W i n ys H') ?_ m0
      ⟨0, List.replicate xs.length none, H2, [], [], List.length_replicate, hY ▸ IY tk, T.keep _ _ _ st2 fun b _ o e => old b o e, fun b hb => (f2 b hb).1, .nil, Nat.zero_le _, hacc, HD, w0⟩
    rintro n s3 ⟨i, σv, H3, ys, its, lv, I3, st3, fr3, rv, hz, ⟨nn, pl3⟩, HD3, w3⟩
    have I3p : Inv Y [(s2.heap.objs.size, { cls := .type "list", data := .seq its.toArray nn })] (σv ++ σ) H3 s3 := I3.pins_of fun p hp => by
      rw [List.mem_singleton] at hp
      subst hp
      refine ⟨pl3, HD3, ?_, fun hm => ?_, fun v z => by cases z⟩
      · rw [← hY]; exact hDC
      · rw [← hY] at hm
        exact absurd (frSub _ hm) (Nat.lt_irrefl _)
    have pinD : ∀ p ∈ [((s2.heap.objs.size : Addr), ({ cls := .type "list", data := .seq its.toArray nn } : Obj))], p.1 = s2.heap.objs.size := fun p hp => by
      rw [List.mem_singleton] at hp
      rw [hp]
    subst hY
    rcases turn i n ys H3 w3 with ⟨stop, qn⟩ | ⟨go, hlt, NN, hNN, step⟩
    · refine noErr (thn (T.done (cxC X xs Nb scope cl Hp2.objs.size s2 H2 fp) rfl rfl rfl hc i _ s3 _ H3 (fun _ _ => False) I3p (fpY fr3 pinD) st3 stop) fun r s4 ⟨hr, I4⟩ => ?_)
      subst hr
      obtain ⟨m4, hns4, _⟩ := I4.loc
      refine post s2 s4 H2 (upd H3 s2.heap.objs.size (.lst ys)) Hp2.objs.size s2.heap.objs.size m4 I2 (by omega) hns4 (by rw [upd_ne (Ne.symm hDC)]; exact I4.free) (fun h' sb => ?_) (qn _ HD3)
      have pl4 := (I4.pin _ (List.mem_append_right _ List.mem_cons_self)).1
      have up : ∀ b o, b ≠ Hp2.objs.size → s4.heap.get? b = some o → h'.get? b = some o := fun b o hb e => sb.extBut b o hb e
      have base := I4.base
      have HC4 : H3 Hp2.objs.size = none := I4.free
      have neC : ∀ b o, s2.heap.get? b = some o → b ≠ Hp2.objs.size := fun b o e => (below b (Heap.lt_size e)).1
      have neD : ∀ b o, s2.heap.get? b = some o → b ≠ s2.heap.objs.size := fun b o e => (below b (Heap.lt_size e)).2
      have hokN : HOk X.prog X.w (upd H3 s2.heap.objs.size (.lst ys)) h' := fun b u e => by
        by_cases hb : b = s2.heap.objs.size
        · subst hb
          rw [upd_same] at e
          cases e
          exact ⟨hz, its, nn, rv, up _ _ hDC pl4⟩
        · rw [upd_ne hb] at e
          refine (I4.hok b u e).stay (fun c v hc q => up c v ?_ q) (fun c q => by rw [upd_ne (ne_of_none q HD3)]; exact q) fun c xs q => by rw [upd_ne (ne_of_none q HD3)]; exact q
          rcases hc with z | z
          · rw [z]; exact ne_of_none e HC4
          · exact ne_of_none z HC4
      refine I2.call' (s' := { s4 with heap := h' }) (ch := fp) I4.os ⟨fun b o e n hb hx' => up b o (neC b o e) (base.keep b o e n hb hx'), fun b o e n hb hx' => ?_, fun b o e n hx' => ?_, fun b o e hx' => ?_, fun b xs e => ?_, fun b o u e => ?_, fun b ps e => ?_⟩ hokN I4.bare (fun b hb => ?_)
      · obtain ⟨sl, q⟩ := base.slot b o e n hb hx'
        exact ⟨sl, up b _ (neC b o e) q⟩
      · rw [upd_ne (neD b o e)]
        exact base.free b o e n hx'
      · obtain ⟨o', q⟩ := base.there b o e hx'
        exact ⟨o', up b o' (neC b o e) q⟩
      · have q := base.tups b xs e
        rw [upd_ne (ne_of_none q HD3)]; exact q
      · have q := base.frzs b o u e
        rw [upd_ne (ne_of_none q HD3)]; exact q
      · obtain ⟨more, q⟩ := base.tbls b ps e
        exact ⟨more, by rw [upd_ne (ne_of_none q HD3)]; exact q⟩
      · obtain ⟨_, g1, _, g3, g4, g5⟩ := f2 b hb
        exact ⟨g3, g1, g4, g5⟩
    · refine noErr (thn (T.item (cxC X xs Nb scope cl Hp2.objs.size s2 H2 fp) rfl rfl rfl hc i _ s3 _ H3 (fun _ _ => False) I3p (fpY fr3 pinD) st3 go) fun r s4 ⟨u, hr, h4⟩ => ?_)
      subst hr
      refine noErr (thn h4 fun _ s5 ⟨v, H5, I5, r5, y5, st5, fr5⟩ => ?_)
      have I5' := I5.pinned (fpY fr5 pinD) (T.obj _ _ st5)
      have stp := step v H5 σv lv y5
      refine noErr (thn (hg cl Hp2.objs.size s2 H2 fp _ s5 _ H5 v u _ I5' r5 stp) fun _ s6 ⟨σ6, H6, I6, ⟨pre', e6, l6⟩, stp⟩ => ?_)
      subst e6
      have again : ∀ {s7 s8 : Shared} {H7 : Hp} {zs : List V} {ws : List Value} {m' : Nat}, Inv (cxC X xs Nb scope cl Hp2.objs.size s2 H2 fp) ([((s2.heap.objs.size : Addr), ({ cls := .type "list", data := .seq its.toArray nn } : Obj))] ++ pinsAt fp s5.heap) (pre' ++ σ) H7 s7 →
          (∃ h', s8 = { s7 with heap := h' } ∧ (∀ b o, b ≠ s2.heap.objs.size → s7.heap.get? b = some o → h'.get? b = some o) ∧ h'.PlainList s2.heap.objs.size ws.toArray) → Vals zs ws → zs.length ≤ sizeLine → m' < n → W (i + 1) m' zs H7 →
          ∃ m, m < n ∧ ∃ i σv H' ys its, σv.length = xs.length ∧ Inv (cxC X xs Nb scope cl Hp2.objs.size s2 H2 fp) [] (σv ++ σ) H' s8 ∧ tn i s8.heap ∧ (∀ b ∈ fp, H' b = none) ∧ Vals ys its ∧ ys.length ≤ sizeLine ∧ s8.heap.PlainList s2.heap.objs.size its.toArray ∧ H' s2.heap.objs.size = none ∧ W i m ys H' := by
        rintro s7 s8 H7 zs ws m' I7 ⟨h', rfl, up, plw⟩ rz hzz hm w7
        have HD7 : H7 s2.heap.objs.size = none := (I7.pin _ (List.mem_append_right _ (List.mem_append_left _ List.mem_cons_self))).2.1
        have fr7 : ∀ b ∈ fp, H7 b = none := fun b hb => by
          obtain ⟨o, e, d⟩ := T.obj _ _ st5 b hb
          exact (I7.pin (b, o) (List.mem_append_right _ (List.mem_append_right _ (mem_pinsAt hb e)))).2.1
        have I7' : Inv (cxC X xs Nb scope cl Hp2.objs.size s2 H2 fp) [] (pre' ++ σ) H7 s7 := I7.pins_of fun p hp => absurd hp (by simp)
        refine ⟨m', hm, i + 1, pre', H7, zs, ws, l6, ?_, ?_, fr7, rz, hzz, plw, HD7, w7⟩
        · have := I7'.turned (it := s2.heap.objs.size) (h' := h') (t' := s7.toks) up HD7 hDC (.inr (Nat.le_refl _)) (fun y c h1 h2 => absurd (cellLt y c h1) (by rw [h2]; exact Nat.lt_irrefl _)) (fun p hp => absurd (show p ∈ ([] : List (Addr × Obj)) from hp) (by simp))
          exact this
        · refine T.keep _ _ _ st5 fun b hb o e => up b o (below b (fpLt b hb)).2 ?_
          exact (I7.pin (b, o) (List.mem_append_right _ (List.mem_append_right _ (mem_pinsAt hb e)))).1
      refine noErr (thn (ht cl Hp2.objs.size s2 H2 fp _ s6 _ H6 _ I6 stp) fun okb s7 ⟨H7, I7, q7⟩ => ?_)
      have pl7 := (I7.pin _ (List.mem_append_right _ (List.mem_append_left _ List.mem_cons_self))).1
      cases okb with
      | false =>
        rw [if_neg Bool.false_ne_true] at q7 ⊢
        obtain ⟨m', hm, w7⟩ := hNN _ _ q7
        exact again I7 ⟨s7.heap, rfl, fun _ _ _ e => e, nn, pl7⟩ rv hz hm w7
      | true =>
        rw [if_pos rfl] at q7 ⊢
        refine noErr (thn (he cl Hp2.objs.size s2 H2 fp _ s7 _ H7 _ I7 q7) fun w' s8 ⟨y, H8, I8, r8, q8⟩ => ?_)
        obtain ⟨m', hm, w8⟩ := hNN _ _ q8
        have pl8 := (I8.pin _ (List.mem_append_right _ (List.mem_append_left _ List.mem_cons_self))).1
        refine wpAny_list_append_plain (hsz := by have := rv.length; simp only [List.size_toArray]; omega) ⟨nn, pl8⟩ fun h9 pl9 sb9 => ?_
        refine again I8 ⟨h9, rfl, fun b o hb e => sb9.extBut b o hb e, ?_⟩ (rv.append (.cons r8 .nil)) (by rw [List.length_append, List.length_singleton]; omega) hm w8
        have e9 : its.toArray.push w' = (its ++ [w']).toArray := by simp
        rw [← e9]
        exact pl9
  refine codeAny_compStart_list (loop _ _ rfl) (noErr (T.self _ 0 _ _ _ (T.keep _ _ _ st2 fun b _ o e => old b o e) (loop _ _ rfl)))
theorem pe_compG {elt iter tg : Expr} {xs Nb : List Str} {ifs : List Expr} {scope : Scope} {pos : PySem.Pos} {wi : TI} {g : TG} {tt : TT} {te : TE}
    (hc : X.calm = true) (hi : PI X tg iter wi) (hlen : Nb.length = X.N.length) (hNb : ∀ p ∈ Nb.zip X.N, p.1 = p.2 ∨ scope.names.lookup p.1 = none) (hxN : ∀ y ∈ Nb, scope.names.lookup y ≠ some .local)
    (hg : InB X xs Nb scope fun Y => PG Y tg g) (ht : InB X xs Nb scope fun Y => PIf Y ifs tt) (he : InB X xs Nb scope fun Y => PE Y elt te)
    (hcell : ∀ y ∈ scope.names, y.2 ≠ .cell) (hkind : scope.kind = .function) (hnames : ∀ y ∈ scope.names, y.2 = .local → scope.names.lookup y.1 = some .local)
    (hfree : ∀ y ∈ scope.names, y.2 = .free → X.env.kindOf y.1 = some .cell)
    (hs : ∀ x, foldedSetIterable iter X.env x = pure x := by intro _; rfl) :
    PE X (.ListComp elt [⟨tg, iter, ifs, 0⟩] scope pos) (tCompG xs.length wi g tt te) := by
  intro pins s σ H Q I h
  rw [eval_ListComp]
  exact comp_core (use := none) (QQ := EP X pins σ Q) hc hi hlen hNb hxN hg ht he hcell hkind hnames hfree hs I h fun s2 s4 H2 H4 C D m4 _ _ hn _ IX q => ⟨m4, hn, fun h' sb => ⟨.ref D, H4, IX h' sb, rfl, q⟩⟩
theorem ps_compG {elt iter tg : Expr} {xs Nb : List Str} {ifs : List Expr} {scope : Scope} {pos spos py : PySem.Pos} {wi : TI} {g g2 : TG} {tt : TT} {te : TE} {y : Str}
    (hg2 : PG X (.Name y py) g2) (hsw : swapsWith (.ListComp elt [⟨tg, iter, ifs, 0⟩] scope pos) (some (.Name y py)) spos.line X.env = pure true)
    (hc : X.calm = true) (hi : PI X tg iter wi) (hlen : Nb.length = X.N.length) (hNb : ∀ p ∈ Nb.zip X.N, p.1 = p.2 ∨ scope.names.lookup p.1 = none) (hxN : ∀ y ∈ Nb, scope.names.lookup y ≠ some .local)
    (hg : InB X xs Nb scope fun Y => PG Y tg g) (ht : InB X xs Nb scope fun Y => PIf Y ifs tt) (he : InB X xs Nb scope fun Y => PE Y elt te)
    (hcell : ∀ y ∈ scope.names, y.2 ≠ .cell) (hkind : scope.kind = .function) (hnames : ∀ y ∈ scope.names, y.2 = .local → scope.names.lookup y.1 = some .local)
    (hfree : ∀ y ∈ scope.names, y.2 = .free → X.env.kindOf y.1 = some .cell)
    (hs : ∀ x, foldedSetIterable iter X.env x = pure x := by intro _; rfl) :
    PS X (.Assign [.Name y py] (.ListComp elt [⟨tg, iter, ifs, 0⟩] scope pos) spos) (tAsg (tCompG xs.length wi g tt te) g2) := by
  intro pins s σ H D I h
  rw [exec_Assign_Name_used _ _ _ _ hsw]
  refine wpAny_bind (wpAny_standAt (wpAny_bind ?_))
  show wpAny (model X.prog X.w) X.A (comprehension (.ListComp elt [⟨tg, iter, ifs, 0⟩] scope pos) scope X.env _ (newList []) false (eval iter X.env) (some (assign (.Name y py) X.env)) >>= fun _ => pure ()) _ _ s
  refine wpAny_bind (wpAny_mono (comp_core (use := some (assign (.Name y py) X.env)) (QQ := fun _ s' => SP X pins D .next s') hc hi hlen hNb hxN hg ht he hcell hkind hnames hfree hs I h ?_) (fun _ s' hq => wpAny_pure (wpAny_pure hq)) fun _ _ e => e)
  intro s2 s4 H2 H4 C R m4 I2 hC hn HC IX q
  have I4 : Inv X pins σ H4 s4 := IX s4.heap (Heap.SameBut.refl _ _)
  obtain ⟨o, es, ep, ho, hd, hn'⟩ := id hn
  have hLC : C ≠ X.env.locals := fun z => absurd (Nat.lt_of_lt_of_le I2.lt hC) (by rw [z]; exact Nat.lt_irrefl _)
  have hfsC : C ∉ X.fs := I2.nofs hC
  have I4p : Inv X ((C, o) :: pins) σ H4 s4 := I4.pins_of fun p hp => by
    rcases List.mem_cons.mp hp with rfl | z
    · exact ⟨ho, HC, hLC, hfsC, fun v z => by rw [hd] at z; cases z⟩
    · exact I4.pin p (List.mem_append_right _ z)
  show wpAny _ X.A (assign (.Name y py) X.env (.ref R)) _ _ s4
  refine thn (hg2 _ s4 σ H4 (.ref R) (.ref R) _ I4p rfl q) fun _ s5 ⟨σ5, H5, I5, q5⟩ => ?_
  have pC := I5.pin (C, o) (List.mem_append_right _ List.mem_cons_self)
  refine ⟨m4, ⟨o, es, ep, pC.1, hd, hn'⟩, fun h' sb => ⟨σ5, H5, ?_, q5⟩⟩
  have I6 : Inv X pins σ5 H5 s5 := I5.pins_of fun p hp => I5.pin p (List.mem_append_right _ (List.mem_cons_of_mem _ hp))
  exact I6.turned (it := C) (h' := h') (t' := s5.toks) (fun b o hb e => sb.extBut b o hb e) pC.2.1 hLC (.inr (Nat.le_trans I2.sz hC)) (fun y c e z => by
      obtain ⟨v, qq⟩ := I2.cell y c e
      exact absurd (Nat.lt_of_lt_of_le qq.lt hC) (by rw [z]; exact Nat.lt_irrefl _)) (fun p hp z => by
      exact absurd (Nat.lt_of_lt_of_le (Heap.lt_size (I2.pin p hp).1) hC) (by rw [z]; exact Nat.lt_irrefl _))
theorem compL {K : PySem.W.Frag} {k : Nat} {a : Addr} {xs : List V} {g : TG} {tt : TT} {te : TE} {Q : VK} {σ : St} {H : Hp} (Pv : Nat → List V → Hp → Prop) (h0 : Pv 0 [] H) (hb : xs.length ≤ 1000) (hz : ∀ i ys H, Pv i ys H → ys.length ≤ i) (hl : ∀ i ys H, i ≤ xs.length → Pv i ys H → SqL K H a xs)
    (hs : ∀ i x ys H (pre : St), pre.length = k → xs[i]? = some x → Pv i ys H → g x (pre ++ σ) H fun σ' H2 => (∃ pre' : St, σ' = pre' ++ σ ∧ pre'.length = k) ∧ tt σ' H2 fun ok H3 => if ok = true then te σ' H3 fun y H4 => Pv (i + 1) (ys ++ [y]) H4 else Pv (i + 1) ys H3) (hd : ∀ ys H, Pv xs.length ys H → ∀ D, H D = none → Q (.ref D) (upd H D (.lst ys))) : CGo k (Itl K a) g tt te Q σ H := by
  refine ⟨fun i m ys H => m = xs.length - i ∧ i ≤ xs.length ∧ Pv i ys H, ⟨xs.length, by simp, Nat.zero_le _, h0⟩, ?_⟩
  rintro i m ys H ⟨rfl, hi, p⟩
  have q := hl i ys H hi p
  by_cases hlt : i < xs.length
  · refine .inr ⟨⟨xs, xs[i], q, by simp [hlt]⟩, Nat.lt_of_le_of_lt (hz i ys H p) (small1000 (by omega)), Pv (i + 1), fun zs H' p' => ⟨xs.length - (i + 1), by omega, rfl, hlt, p'⟩, fun x H' pre hp y => ?_⟩
    obtain ⟨e, y⟩ := y
    subst e
    exact hs i x ys _ pre hp (y xs q) p
  · have e : i = xs.length := by omega
    subst e
    exact .inl ⟨⟨xs, q, Nat.le_refl _⟩, hd ys H p⟩
theorem compT {K : PySem.W.Frag} {k : Nat} {a : Addr} {xs : List V} {g : TG} {tt : TT} {te : TE} {Q : VK} {σ : St} {H : Hp} (Pv : Nat → List V → Hp → Prop) (h0 : Pv 0 [] H) (hb : xs.length ≤ 1000) (hz : ∀ i ys H, Pv i ys H → ys.length ≤ i) (hl : ∀ i ys H, i ≤ xs.length → Pv i ys H → SqT K H a xs)
    (hs : ∀ i x ys H (pre : St), pre.length = k → xs[i]? = some x → Pv i ys H → g x (pre ++ σ) H fun σ' H2 => (∃ pre' : St, σ' = pre' ++ σ ∧ pre'.length = k) ∧ tt σ' H2 fun ok H3 => if ok = true then te σ' H3 fun y H4 => Pv (i + 1) (ys ++ [y]) H4 else Pv (i + 1) ys H3) (hd : ∀ ys H, Pv xs.length ys H → ∀ D, H D = none → Q (.ref D) (upd H D (.lst ys))) : CGo k (Itt K a) g tt te Q σ H := by
  refine ⟨fun i m ys H => m = xs.length - i ∧ i ≤ xs.length ∧ Pv i ys H, ⟨xs.length, by simp, Nat.zero_le _, h0⟩, ?_⟩
  rintro i m ys H ⟨rfl, hi, p⟩
  have q := hl i ys H hi p
  by_cases hlt : i < xs.length
  · refine .inr ⟨⟨xs, xs[i], q, by simp [hlt]⟩, Nat.lt_of_le_of_lt (hz i ys H p) (small1000 (by omega)), Pv (i + 1), fun zs H' p' => ⟨xs.length - (i + 1), by omega, rfl, hlt, p'⟩, fun x H' pre hp y => ?_⟩
    obtain ⟨e, y⟩ := y
    subst e
    exact hs i x ys _ pre hp (y xs q) p
  · have e : i = xs.length := by omega
    subst e
    exact .inl ⟨⟨xs, q, Nat.le_refl _⟩, hd ys H p⟩
theorem compR {k : Nat} {lo : Int} {n : Nat} {g : TG} {tt : TT} {te : TE} {Q : VK} {σ : St} {H : Hp} (Pv : Nat → List V → Hp → Prop) (h0 : Pv 0 [] H) (hb : n ≤ 1000) (hz : ∀ i ys H, Pv i ys H → ys.length ≤ i)
    (hs : ∀ (i : Nat) ys H (pre : St), pre.length = k → i < n → Pv i ys H → g (.int (lo + i)) (pre ++ σ) H fun σ' H2 => (∃ pre' : St, σ' = pre' ++ σ ∧ pre'.length = k) ∧ tt σ' H2 fun ok H3 => if ok = true then te σ' H3 fun y H4 => Pv (i + 1) (ys ++ [y]) H4 else Pv (i + 1) ys H3) (hd : ∀ ys H, Pv n ys H → ∀ D, H D = none → Q (.ref D) (upd H D (.lst ys))) : CGo k (Itr lo n) g tt te Q σ H := by
  refine ⟨fun i m ys H => m = n - i ∧ i ≤ n ∧ Pv i ys H, ⟨n, by simp, Nat.zero_le _, h0⟩, ?_⟩
  rintro i m ys H ⟨rfl, hi, p⟩
  by_cases hlt : i < n
  · refine .inr ⟨hlt, Nat.lt_of_le_of_lt (hz i ys H p) (small1000 (by omega)), Pv (i + 1), fun zs H' p' => ⟨n - (i + 1), by omega, rfl, hlt, p'⟩, fun x H' pre hp y => ?_⟩
    obtain ⟨e, y⟩ := y
    subst e y
    exact hs i ys _ pre hp hlt p
  · have e : i = n := by omega
    subst e
    exact .inl ⟨Nat.le_refl _, hd ys H p⟩
end
end L2
set_option Elab.async false
set_option linter.all false
set_option maxRecDepth 100000
set_option maxHeartbeats 4000000
namespace L2
open PySem PySem.Spec PyProof.Rows
section
variable {X : Cx}
section
variable {prog : Program} {w : World} {A : Around} {R : Result → Shared → Prop} {s : Shared}
abbrev e2 (elt tg iter : Expr) (ifs : List Expr) (tg2 iter2 : Expr) (ifs2 : List Expr) (scope : Scope) (pos : PySem.Pos) : Expr := .ListComp elt [⟨tg, iter, ifs, 0⟩, ⟨tg2, iter2, ifs2, 0⟩] scope pos
end
end
end L2
set_option Elab.async false
set_option linter.all false
set_option maxRecDepth 100000
set_option maxHeartbeats 4000000
namespace L2
open PySem PySem.Spec PyProof.Rows
section
variable {X : Cx}
theorem pg_tupK {K : PySem.W.Frag} {es : List Expr} {k : Nat} {t : TGs} {n : Nat} {pos : PySem.Pos} (hc : X.calm = true) (h : PGs X es t) (hK : X.K = K := by rfl)
    (hn : (assignEach es X.env).length = n := by rfl) (hst : (assignEach es X.env).findIdx? (·.1) = none := by rfl) : PG X (.Tuple es k pos) (gTup K n t) := by
  subst hK; exact pg_tup hc h hn hst
theorem sl_listK {K : PySem.W.Frag} (hK : X.K = K := by rfl) : SlR X (rSlL K) := by subst hK; exact sl_list
end
def dT (ns : List Int) : PyData := .tuple (ns.map .int)
theorem eqvAll_ints : ∀ ns ms : List Int, PyData.eqvAll (ns.map .int) (ms.map .int) = decide (ns = ms)
  | [], [] => rfl
  | [], _ :: _ => rfl
  | _ :: _, [] => rfl
  | n :: ns, m :: ms => by
    show (PyData.eqv (.int n) (.int m) && PyData.eqvAll (ns.map .int) (ms.map .int)) = _
    rw [eqvAll_ints ns ms]
    show ((n == m) && _) = _
    by_cases h : n = m
    · subst h; by_cases h2 : ns = ms <;> simp [h2]
    · simp [h]
theorem lay_ints : ∀ ns : List Int, PyData.canLayAll0 (ns.map .int) = true
  | [] => rfl
  | _ :: ns => by show (true && _) = true; rw [lay_ints ns]; rfl
theorem lay_dT (ns : List Int) : (dT ns).canLay0 = true := lay_ints ns
theorem dep_ints : ∀ ns : List Int, PyData.depthAll (ns.map .int) = 0
  | [] => rfl
  | _ :: ns => by show max 0 _ = 0; rw [dep_ints ns]; rfl
def Tups (H H' : Hp) : Prop := ∀ b ys, H b = some (.tup ys) → H' b = some (.tup ys)
theorem Tups.refl (H : Hp) : Tups H H := fun _ _ h => h
theorem Tups.trans {H H1 H2 : Hp} (a : Tups H H1) (b : Tups H1 H2) : Tups H H2 := fun c y h => b c y (a c y h)
theorem Tups.lst {H H1 : Hp} {p : Addr} {xs ys : List V} (a : Tups H H1) (h : H1 p = some (.lst xs)) : Tups H (upd H1 p (.lst ys)) := fun c y e => by
  have := a c y e
  have hn : c ≠ p := fun z => by rw [z, h] at this; cases this
  rw [upd_ne hn]; exact this
theorem Same.tups {H H' : Hp} (s : Same H H') : Tups H H' := fun b ys e => s b _ e
theorem take_succ' {α : Type} {L : List α} {i : Nat} {e : α} (h : L[i]? = some e) : L.take (i + 1) = L.take i ++ [e] := by
  rw [List.take_add_one, h]; rfl
end L2
set_option Elab.async false
set_option linter.all false
set_option maxRecDepth 100000
set_option maxHeartbeats 4000000
namespace L2
open PySem PySem.Spec PyProof.Rows
section
variable {X : Cx}
theorem preSum_take (ns : List Int) : ∀ n, preSum (fun i => ns.getD i 0) n = (ns.take n).sum
  | 0 => rfl
  | n + 1 => by
    show preSum _ n + ns.getD n 0 = _
    rw [preSum_take ns n, List.take_add_one, List.getD_eq_getElem?_getD]
    cases ns[n]? with
    | none => simp
    | some z => simp
theorem call_sum (hc : X.calm = true) : CallR X (.builtin "sum") (fun xs H Q => ∃ (p : Addr) (ns : List Int), xs = [.ref p] ∧ SqL X.K H p (ns.map V.int) ∧ Q (.int ns.sum) H) := by
  intro pins s σ H xs us Q I r h
  obtain ⟨p, ns, rfl, hq, q⟩ := h
  obtain ⟨u, rfl, rx⟩ := vals1 r
  cases rx
  obtain ⟨its, rv, pl, hz⟩ := I.list hq
  have hlt : p < s.heap.objs.size := by
    obtain ⟨o, e, _⟩ := pl.isList
    exact Heap.lt_size e
  have hlen : its.length = ns.length := by have := rv.length; rw [List.length_map] at this; exact this.symm
  refine call_sum_walkAnyS (wpAny_pyIter_list pl.isList ?_)
  refine ⟨_, _, _, _, _, _, _, fun i => ns.getD i 0, rfl, (Walks.list (A := X.A.in1) (I.ok.hd hc) s.heap.objs.size p (Nat.ne_of_lt hlt) its.toArray).toS, ?_, ?_, ?_, fun s' t' hm => ?_⟩
  · exact ⟨⟨_, Heap.get?_push_size _ rfl, rfl, rfl⟩, (let ⟨o, e, c⟩ := pl.isList; ⟨o, Heap.get?_push_of_some _ e, c⟩)⟩
  · intro b hb
    simp at hb
    rcases hb with rfl | rfl
    · simp [Heap.size_push]
    · rw [Heap.size_push]; exact Nat.lt_succ_of_lt hlt
  · intro i v hP
    have hv : its[i]? = some v := by simpa using hP
    have hil : i < ns.length := by rw [← hlen]; exact (List.getElem?_eq_some_iff.mp hv).1
    obtain ⟨u, e, ru⟩ := rv.get (x := V.int (ns.getD i 0)) (i := i) (by rw [List.getElem?_map, List.getElem?_eq_getElem hil, List.getD_eq_getElem?_getD, List.getElem?_eq_getElem hil]; rfl)
    rw [hv] at e
    cases e
    exact ru
  · have e : preSum (fun i => ns.getD i 0) its.toArray.size = ns.sum := by
      rw [List.size_toArray, hlen, preSum_take, List.take_length]
    rw [e]
    obtain ⟨hk, hg, hd, ho, ht⟩ := hm
    refine ⟨.int _, H, ?_, ⟨t', rfl⟩, q⟩
    have es : s' = { s with heap := s'.heap, toks := s'.toks } := by
      cases s'; simp_all
    rw [es]
    exact I.kept fun b o eb => hk b o (by simp; exact Nat.ne_of_lt (Heap.lt_size eb)) (Heap.get?_push_of_some _ eb)
end
end L2
set_option Elab.async false
set_option linter.all false
set_option maxRecDepth 100000
set_option maxHeartbeats 4000000
namespace L2
open PySem PySem.Spec PyProof.Rows
section
variable {X : Cx}
section
variable {prog : Program} {w : World} {A : Around} {E : Value → Shared → Prop} {s : Shared}
theorem draw_lst {it t : Addr} {items : Array Value} (hne : t ≠ it) (n : Nat) : ∀ (i : Nat) (s : Shared) (Q : List Value → Shared → Prop), s.heap.IsListIter it t i → s.heap.IsList t items → i + n ≤ items.size →
    (∀ h', h'.IsListIter it t (i + n) → Heap.SameBut it s.heap h' → Q ((items.toList.drop i).take n) { s with heap := h' }) → wpAny (model prog w) A (draw (.ref it) n) Q E s := by
  induction n with
  | zero =>
    intro i s Q a _ _ hQ
    refine wpAny_pure ?_
    have := hQ s.heap a (Heap.SameBut.refl ..)
    simpa using this
  | succ n ih =>
    intro i s Q a b hle hQ
    have lt : i < items.size := by omega
    refine wpAny_bind (m := pyNext (.ref it)) (wpAny_pyNext_list_item a b (x := items[i]) (by simp [lt]) fun h1 a1 s1 => ?_)
    refine wpAny_bind (wpAny_holding (ih (i + 1) _ _ a1 (b.extBut s1.extBut hne) (by omega) fun h2 a2 s2 => wpAny_pure ?_))
    have := hQ h2 (by rw [show i + (n + 1) = i + 1 + n by omega]; exact a2) (s1.trans s2)
    rw [show items.toList.drop i = items[i] :: items.toList.drop (i + 1) by simp [List.drop_eq_getElem_cons, lt], List.take_succ_cons] at this
    exact this
theorem unpack_lst {t : Addr} {items : Array Value} {Q : List Value → Shared → Prop} (hh : A.handled = none) (ht : s.heap.IsList t items)
    (hQ : ∀ h', Heap.ExtBut s.heap.objs.size s.heap h' → Q items.toList { s with heap := h' }) : wpAny (model prog w) A (unpackItems (.ref t) items.size none) Q E s := by
  have ne : t ≠ s.heap.objs.size := by obtain ⟨o, ho, _⟩ := ht; exact Nat.ne_of_lt (Heap.lt_size ho)
  unfold unpackItems notIterableAtAll
  refine wpAny_bind (wpAny_bind (wpAny_specialOf ht.typeIs slot_list_iter.lookup (wpAny_pure ?_)))
  simp only [Bool.false_eq_true, if_false]
  refine wpAny_bind (wpAny_holding (wpAny_pyIter_list ht ?_))
  refine wpAny_bind (wpAny_holding (draw_lst ne items.size 0 _ _ ⟨_, Heap.get?_push_size _ rfl, rfl, rfl⟩ (ht.push _) (by omega) fun h1 a1 s1 => ?_))
  rw [show List.take items.size (List.drop 0 items.toList) = items.toList by rw [List.drop_zero]; exact List.take_of_length_le (by simp), if_neg (by simp)]
  have t1 : h1.IsList t items := (ht.push _).extBut s1.extBut ne
  refine wpAny_bind (wpAny_holding (wpAny_pyNext_list_end hh a1 t1 (by simp) fun h2 e2 => ?_))
  simp only [Option.isSome_none, Bool.false_eq_true, if_false]
  exact wpAny_pure (hQ h2 fun b o hb e => e2 b o hb (s1.extBut b o hb (Heap.get?_push_of_some _ e)))
end
def gLst (K : PySem.W.Frag) (n : Nat) (t : TGs) : TG := fun v σ H Q => ∃ a xs, v = .ref a ∧ SqL K H a xs ∧ xs.length = n ∧ t xs σ H Q
theorem pg_lst {es : List Expr} {k : Nat} {t : TGs} {n : Nat} {pos : PySem.Pos} (hc : X.calm = true) (h : PGs X es t)
    (hn : (assignEach es X.env).length = n := by rfl) (hst : (assignEach es X.env).findIdx? (·.1) = none := by rfl) : PG X (.Tuple es k pos) (gLst X.K n t) := by
  intro pins s σ H v u Q I r hw
  obtain ⟨a, xs, rfl, hq, hl, hw⟩ := hw
  cases r
  obtain ⟨its, rv, pl, hz⟩ := I.list hq
  rw [arm_assign_Tuple]
  refine wpAny_bind (wpAny_standAt ?_)
  unfold unpack
  rw [hst, show (assignEach es X.env).length = its.toArray.size by simp [hn, ← hl, rv.length]]
  refine wpAny_bind (wpAny_holding (unpack_lst (I.ok.hd hc) pl.isList fun h' hx => ?_))
  have I1 : Inv X pins σ H { s with heap := h' } := I.kept (t' := s.toks) fun b o e => hx b o (Nat.ne_of_lt (Heap.lt_size e)) e
  exact h pins _ σ H xs _ Q I1 (by simpa using rv) hw
end
end L2
set_option Elab.async false
set_option linter.all false
set_option maxRecDepth 100000
set_option maxHeartbeats 4000000
namespace L2
abbrev WL := List (Int × List Int)
def Pos (L : WL) : Prop := ∀ e ∈ L, 0 < e.1
end L2
set_option Elab.async false
set_option linter.all false
set_option maxRecDepth 100000
set_option maxHeartbeats 4000000
namespace L2
open PySem PySem.Spec PyProof.Rows
inductive Th (H : Hp) : V → PyData → Prop where
  | non : Th H .non .none
  | bl (b : Bool) : Th H (.bl b) (.bool b)
  | int (i : Int) : Th H (.int i) (.int i)
  | str (x : Str) : Th H (.str x) (.str x)
  | tup {a : Addr} {xs : List V} {ds : List PyData} : H a = some (.tup xs) → xs.length = ds.length → (∀ (i : Nat) (x : V) (d : PyData), xs[i]? = some x → ds[i]? = some d → Th H x d) → Th H (.ref a) (.tuple ds)
  | lst {a : Addr} {xs : List V} {ds : List PyData} : H a = some (.lst xs) → xs.length = ds.length → (∀ (i : Nat) (x : V) (d : PyData), xs[i]? = some x → ds[i]? = some d → Th H x d) → Th H (.ref a) (.list ds)
theorem Th.di {K : PySem.W.Frag} {H : Hp} {x : V} {d : PyData} (h : Th H x d) : DI K H x d := by
  induction h with
  | non => exact .non
  | bl b => exact .bl b
  | int i => exact .int i
  | str x => exact .str x
  | tup a b _ ih => exact .tup (SqT.of a) b ih
  | lst a b _ ih => exact .lst (SqL.of a) b ih
def tyName : PyData → String
  | .none => "NoneType"
  | .bool _ => "bool"
  | .int _ => "int"
  | .str _ => "str"
  | .list _ => "list"
  | .tuple _ => "tuple"
  | .dict _ => "dict"
theorem Th.ty {K : PySem.W.Frag} {H : Hp} {x : V} {d : PyData} (h : Th H x d) : TyOf K H x (.type (tyName d)) := by
  cases h with
  | non => exact .non
  | bl b => exact .bl b
  | int i => exact .int i
  | str x => exact .str x
  | tup a _ _ => exact .tup a
  | lst a _ _ => exact .lst a
def isInt : PyData → Bool
  | .int _ | .bool _ => true
  | _ => false
def isBool : PyData → Bool
  | .bool _ => true
  | _ => false
def isTup : PyData → Bool
  | .tuple _ => true
  | _ => false
theorem kit_int {K : PySem.W.Frag} (d : PyData) : PySem.W.kitOne K (.type (tyName d)) (.type "int") = some (isInt d) := by
  cases d <;> with_unfolding_all rfl
theorem kit_bool {K : PySem.W.Frag} (d : PyData) : PySem.W.kitOne K (.type (tyName d)) (.type "bool") = some (isBool d) := by
  cases d <;> with_unfolding_all rfl
theorem kit_tup {K : PySem.W.Frag} (d : PyData) : PySem.W.kitOne K (.type (tyName d)) (.type "tuple") = some (isTup d) := by
  cases d <;> with_unfolding_all rfl
section
variable {X : Cx} {es : List Expr} {te : TE} {t : TA}
theorem pa_Constant {c : Const} {j : Nat} {p : PySem.Pos} (ha : PE X (.Constant c j p) te) (hr : PA X es t) : PA X (.Constant c j p :: es) (tCons te t) := pa_cons ha hr rfl
theorem pa_Name {x : Str} {p : PySem.Pos} (ha : PE X (.Name x p) te) (hr : PA X es t) : PA X (.Name x p :: es) (tCons te t) := pa_cons ha hr rfl
theorem pa_Tuple {l : List Expr} {k : Nat} {p : PySem.Pos} (ha : PE X (.Tuple l k p) te) (hr : PA X es t) : PA X (.Tuple l k p :: es) (tCons te t) := pa_cons ha hr rfl
theorem pa_List {l : List Expr} {p : PySem.Pos} (ha : PE X (.List l p) te) (hr : PA X es t) : PA X (.List l p :: es) (tCons te t) := pa_cons ha hr rfl
theorem pa_BinOp {a b : Expr} {o : Operator} {p : PySem.Pos} (ha : PE X (.BinOp a o b p) te) (hr : PA X es t) : PA X (.BinOp a o b p :: es) (tCons te t) := pa_cons ha hr rfl
theorem pa_Subscript {a b : Expr} {p : PySem.Pos} (ha : PE X (.Subscript a b p) te) (hr : PA X es t) : PA X (.Subscript a b p :: es) (tCons te t) := pa_cons ha hr rfl
theorem pa_Call {f : Expr} {l : List Expr} {kw : List Keyword} {p : PySem.Pos} (ha : PE X (.Call f l kw p) te) (hr : PA X es t) : PA X (.Call f l kw p :: es) (tCons te t) := pa_cons ha hr rfl
end
theorem pa_o2 {X : Cx} {e1 e2 : Expr} {t1 t2 : TE} {es : List Expr} {t : TA} (h1 : PE X e1 t1) (h2 : PE X e2 t2) (hr : PA X es t) (s1 : ∀ l, starEach (e1 :: l) X.env = (false, eval e1 X.env) :: starEach l X.env := by intro _; rfl) (s2 : ∀ l, starEach (e2 :: l) X.env = (false, eval e2 X.env) :: starEach l X.env := by intro _; rfl) : PA X (e1 :: e2 :: es) (tCons t1 (tCons t2 t)) := (pa_cons h1 (pa_cons h2 hr (s2 _)) (s1 _))
theorem pa_o3 {X : Cx} {e1 e2 e3 : Expr} {t1 t2 t3 : TE} {es : List Expr} {t : TA} (h1 : PE X e1 t1) (h2 : PE X e2 t2) (h3 : PE X e3 t3) (hr : PA X es t) (s1 : ∀ l, starEach (e1 :: l) X.env = (false, eval e1 X.env) :: starEach l X.env := by intro _; rfl) (s2 : ∀ l, starEach (e2 :: l) X.env = (false, eval e2 X.env) :: starEach l X.env := by intro _; rfl) (s3 : ∀ l, starEach (e3 :: l) X.env = (false, eval e3 X.env) :: starEach l X.env := by intro _; rfl) : PA X (e1 :: e2 :: e3 :: es) (tCons t1 (tCons t2 (tCons t3 t))) := (pa_cons h1 (pa_cons h2 (pa_cons h3 hr (s3 _)) (s2 _)) (s1 _))
theorem pa_o4 {X : Cx} {e1 e2 e3 e4 : Expr} {t1 t2 t3 t4 : TE} {es : List Expr} {t : TA} (h1 : PE X e1 t1) (h2 : PE X e2 t2) (h3 : PE X e3 t3) (h4 : PE X e4 t4) (hr : PA X es t) (s1 : ∀ l, starEach (e1 :: l) X.env = (false, eval e1 X.env) :: starEach l X.env := by intro _; rfl) (s2 : ∀ l, starEach (e2 :: l) X.env = (false, eval e2 X.env) :: starEach l X.env := by intro _; rfl) (s3 : ∀ l, starEach (e3 :: l) X.env = (false, eval e3 X.env) :: starEach l X.env := by intro _; rfl) (s4 : ∀ l, starEach (e4 :: l) X.env = (false, eval e4 X.env) :: starEach l X.env := by intro _; rfl) : PA X (e1 :: e2 :: e3 :: e4 :: es) (tCons t1 (tCons t2 (tCons t3 (tCons t4 t)))) := (pa_cons h1 (pa_cons h2 (pa_cons h3 (pa_cons h4 hr (s4 _)) (s3 _)) (s2 _)) (s1 _))
end L2
set_option Elab.async false
set_option linter.all false
set_option maxRecDepth 100000
set_option maxHeartbeats 1000000
namespace L2
open PySem PySem.Spec PyProof.Rows
section
variable {X : Cx} {pins : List (Addr × Obj)} {σ : St} {H : Hp} {s : Shared} {h' : Heap}
theorem Inv.turnedNew {t' : Nat} {ch : List Addr} {p : Addr} {xs : List V} (I : Inv X pins σ H s) (k : ∀ b o, b ∉ ch → s.heap.get? b = some o → h'.get? b = some o) (hf : ∀ b ∈ ch, FpOk X pins H b) (hp : s.heap.objs.size ≤ p)
    (new : ObjOk X.prog X.w (upd H p (.tup xs)) h' p (.tup xs)) : Inv X pins σ (upd H p (.tup xs)) { s with heap := h', toks := t' } := by
  have hn : H p = none := I.hok.fresh hp
  have nit : ∀ b u, H b = some u → b ∉ ch := fun b u e z => by rw [(hf b z).1] at e; cases e
  have nL : X.env.locals ∉ ch := fun z => (hf _ z).2.1 rfl
  refine I.step (g' := s.gens) (d' := s.drawn) (ch := ch) (fun b hb => ?_) (fun b o _ _ hc e _ => k b o hc e) (fun b o _ _ hc e _ => ⟨o.slots, k b o hc e⟩) (fun b o _ e n => ?_)
    (fun b o hc e => ⟨o, k b o hc e⟩) (fun b xs e => ?_) (fun b o u e => ?_) (fun b ps e => ⟨#[], ?_⟩) (fun m hm => ?_) (fun b u e => ?_) I.bare
  · obtain ⟨f0, f1, f2, f3, f4, f5⟩ := hf b hb
    exact ⟨f3, f1, f4, f5⟩
  · rw [upd_ne (fun z => by rw [z] at e; exact absurd (Nat.lt_of_lt_of_le (Heap.lt_size e) hp) (Nat.lt_irrefl _))]
    exact n
  · rw [upd_ne (ne_of_none e hn)]; exact e
  · rw [upd_ne (ne_of_none e hn)]; exact e
  · rw [upd_ne (ne_of_none e hn), e]; simp
  · obtain ⟨o, es, ep, ho, r⟩ := hm
    exact ⟨o, es, ep, k _ o nL ho, r⟩
  · by_cases hb : b = p
    · subst hb; rw [upd_same] at e; cases e; exact new
    · rw [upd_ne hb] at e
      refine (I.hok b u e).stay (fun c v hc q => k c v ?_ q) (fun c q => by rw [upd_ne (ne_of_none q hn)]; exact q) fun c xs q => by rw [upd_ne (ne_of_none q hn)]; exact q
      rcases hc with z | z
      · rw [z]; exact nit b u e
      · exact nit c _ z
theorem Inv.turnedL {t' : Nat} {ch : List Addr} (I : Inv X pins σ H s) (k : ∀ b o, b ∉ ch → s.heap.get? b = some o → h'.get? b = some o) (hf : ∀ b ∈ ch, FpOk X pins H b) : Inv X pins σ H { s with heap := h', toks := t' } := by
  have nit : ∀ b u, H b = some u → b ∉ ch := fun b u e z => by rw [(hf b z).1] at e; cases e
  have nL : X.env.locals ∉ ch := fun z => (hf _ z).2.1 rfl
  refine I.step (g' := s.gens) (d' := s.drawn) (ch := ch) (fun b hb => ?_) (fun b o _ _ hc e _ => k b o hc e) (fun b o _ _ hc e _ => ⟨o.slots, k b o hc e⟩) (fun b o _ e n => n)
    (fun b o hc e => ⟨o, k b o hc e⟩) (fun b xs e => e) (fun b o u e => e) (fun b ps e => ⟨#[], by rw [e]; simp⟩) (fun m hm => ?_) (fun b u e => ?_) I.bare
  · obtain ⟨f0, f1, f2, f3, f4, f5⟩ := hf b hb
    exact ⟨f3, f1, f4, f5⟩
  · obtain ⟨o, es, ep, ho, r⟩ := hm
    exact ⟨o, es, ep, k _ o nL ho, r⟩
  · refine (I.hok b u e).stay (fun c v hc q => k c v ?_ q) (fun _ q => q) fun _ _ q => q
    rcases hc with z | z
    · rw [z]; exact nit b u e
    · exact nit c _ z
end
def Itz (K : PySem.W.Frag) (a b : Addr) : It :=
  ⟨fun i H => ∃ xs ys x y, SqL K H a xs ∧ SqL K H b ys ∧ xs[i]? = some x ∧ ys[i]? = some y,
   fun i H v H' => ∃ p x y, v = .ref p ∧ H p = none ∧ H' = upd H p (.tup [x, y]) ∧ (∀ xs, SqL K H a xs → xs[i]? = some x) ∧ (∀ ys, SqL K H b ys → ys[i]? = some y),
   fun i H => ∃ xs ys, SqL K H a xs ∧ SqL K H b ys ∧ (xs[i]? = none ∨ ys[i]? = none)⟩
def ZipAt (z TI TO i1 i2 a b : Addr) (i : Nat) (h : Heap) : Prop := IsZip h z TI TO .none ∧ IsPair h TI (.ref i1) (.ref i2) ∧ (∃ u v, IsPair h TO u v) ∧ h.IsListIter i1 a i ∧ h.IsListIter i2 b i
theorem turn_zip {P : Program} {w : World} {K : PySem.W.Frag} {es : List Expr} {k : Nat} {pos : PySem.Pos} (a b z TI TO i1 i2 : Addr) (D : ZipApart z TI TO i1 i2 a b) : Turn P w K (.Tuple es k pos) (Itz K a b) [z, TI, TO, i1, i2] z (ZipAt z TI TO i1 i2 a b) where
  mem := by simp
  obj := fun i h st c hc => by
    obtain ⟨hz, hTI, ⟨u, v, hTO⟩, ⟨o1, e1, c1, d1⟩, ⟨o2, e2, c2, d2⟩⟩ := st
    simp only [List.mem_cons, List.not_mem_nil, or_false] at hc
    rcases hc with rfl | rfl | rfl | rfl | rfl
    · exact ⟨_, hz, fun v q => by cases q⟩
    · exact ⟨_, hTI, fun v q => by cases q⟩
    · exact ⟨_, hTO, fun v q => by cases q⟩
    · exact ⟨o1, e1, fun v q => by rw [d1] at q; cases q⟩
    · exact ⟨o2, e2, fun v q => by rw [d2] at q; cases q⟩
  keep := fun i h h' st q => by
    obtain ⟨hz, hTI, ⟨u, v, hTO⟩, l1, l2⟩ := st
    exact ⟨q _ (by simp) _ hz, q _ (by simp) _ hTI, ⟨u, v, q _ (by simp) _ hTO⟩, l1.at fun o e => q _ (by simp) o e, l2.at fun o e => q _ (by simp) o e⟩
  item := by
    intro X hP hw hK hc i pins s σ H E I hf st hg
    subst hP hw hK
    obtain ⟨xs, ys, x, y, hq1, hq2, hx, hy⟩ := hg
    obtain ⟨hz, hTI, ⟨u, v, hTO⟩, l1, l2⟩ := st
    obtain ⟨its1, rv1, p1, _⟩ := I.list hq1
    obtain ⟨its2, rv2, p2, _⟩ := I.list hq2
    obtain ⟨ux, hux, rux⟩ := rv1.get hx
    obtain ⟨uy, huy, ruy⟩ := rv2.get hy
    refine wpAny_pyNext_zip_item D hz hTI hTO l1 l2 p1.isList p2.isList (x := ux) (y := uy) (by simpa using hux) (by simpa using huy) fun h' z1 TO1 j1 j2 T1 sz kp => ?_
    refine ⟨_, rfl, wpAny_letOwnedTupleGo_zip z1 fun h2 z2 sb => ?_⟩
    have hzlt : z < s.heap.objs.size := Heap.lt_size hz
    have hpz : s.heap.objs.size ≠ z := Nat.ne_of_gt hzlt
    have T2 : IsPair h2 s.heap.objs.size ux uy := sb.extBut _ _ hpz T1
    have kp2 : ∀ c o, c ∉ [z, TI, TO, i1, i2] → s.heap.get? c = some o → h2.get? c = some o := fun c o hc e => by
      simp only [List.mem_cons, List.not_mem_nil, or_false, not_or] at hc
      exact sb.extBut _ _ hc.1 (kp c o hc.1 hc.2.2.1 hc.2.2.2.1 hc.2.2.2.2 e)
    have I2 : Inv X pins σ (upd H s.heap.objs.size (.tup [x, y])) { s with heap := h2, toks := s.toks } := I.turnedNew kp2 hf (Nat.le_refl _) ⟨by show 2 ≤ sizeLine; decide, [ux, uy], .cons rux (.cons ruy .nil), ⟨_, T2, rfl, _, rfl⟩⟩
    refine ⟨.ref s.heap.objs.size, _, I2, rfl, ⟨_, x, y, rfl, I.hok.fresh (Nat.le_refl _), rfl, fun xs' h => ?_, fun ys' h => ?_⟩, ⟨z2, ?_, ⟨ux, uy, ?_⟩, ?_, ?_⟩, fun c hc => ?_⟩
    · rw [I.list_inj h hq1]; exact hx
    · rw [I.list_inj h hq2]; exact hy
    · exact sb.extBut _ _ D.TIz (kp _ _ D.TIz D.TITO D.TIi1 D.TIi2 hTI)
    · exact sb.extBut _ _ D.TOz TO1
    · exact j1.at fun o e => sb.extBut _ _ D.i1z e
    · exact j2.at fun o e => sb.extBut _ _ D.i2z e
    · have hlt : c < s.heap.objs.size := by
        simp only [List.mem_cons, List.not_mem_nil, or_false] at hc
        rcases hc with rfl | rfl | rfl | rfl | rfl
        · exact hzlt
        · exact Heap.lt_size hTI
        · exact Heap.lt_size hTO
        · obtain ⟨_, e, _⟩ := l1; exact Heap.lt_size e
        · obtain ⟨_, e, _⟩ := l2; exact Heap.lt_size e
      rw [upd_ne (Nat.ne_of_lt hlt)]
      exact (hf c hc).1
  done := by
    intro X hP hw hK hc i pins s σ H E I hf st hg
    subst hP hw hK
    obtain ⟨xs, ys, hq1, hq2, hend⟩ := hg
    obtain ⟨hz, hTI, ⟨u, v, hTO⟩, l1, l2⟩ := st
    obtain ⟨its1, rv1, p1, _⟩ := I.list hq1
    obtain ⟨its2, rv2, p2, _⟩ := I.list hq2
    have e1 := rv1.length
    have e2 := rv2.length
    refine wpAny_pyNext_zip_end (I.ok.hd hc) D hz hTI hTO l1 l2 p1.isList p2.isList (hend.imp (fun q => ?_) (fun q => ?_)) fun h' kp => ⟨rfl, I.turnedL (t' := s.toks) (ch := [z, TI, TO, i1, i2]) (fun c o hc e => ?_) hf⟩
    · rw [List.getElem?_eq_none_iff] at q
      simp
      omega
    · rw [List.getElem?_eq_none_iff] at q
      simp
      omega
    · simp only [List.mem_cons, List.not_mem_nil, or_false, not_or] at hc
      exact kp c o hc.1 hc.2.2.1 hc.2.2.2.1 hc.2.2.2.2 e
  self := fun _ _ _ _ _ st h => wpAny_pyIter_zip st.1 h
section
variable {X : Cx}
def iZip (K : PySem.W.Frag) (ta : TA) : TI := fun σ H R => ta σ H fun vs H1 => ∃ a b, vs = [.ref a, .ref b] ∧ (∃ xs, SqL K H1 a xs) ∧ (∃ ys, SqL K H1 b ys) ∧ R (Itz K a b) H1
theorem pi_zip {tes : List Expr} {tk : Nat} {tpos p pos : PySem.Pos} {a b : Expr} {ta : TA} (hg : Gl X "zip") (hm : X.mg "zip" = none) (ha : PA X [a, b] ta)
    (hs : starEach [a, b] X.env = [(false, eval a X.env), (false, eval b X.env)] := by rfl) (hs2 : starEach [b] X.env = [(false, eval b X.env)] := by rfl) : PI X (.Tuple tes tk tpos) (.Call (.Name "zip" p) [a, b] [] pos) (iZip X.K ta) := by
  intro pins s σ H R I h
  refine wpAny_Call_Name_kw (ld_blt I hg hm boot_zip ?_)
  refine PyProof.Rows.callWith_type1 (thn (ha pos pins s σ H _ I h) fun us s1 ⟨vs, H1, I1, r1, l1, l2, e, ⟨xs, hx⟩, ⟨ys, hy⟩, q⟩ => ?_) (by rw [hs, hs2]) (by rw [hs2]; rfl)
  subst e
  obtain ⟨u1, u2, rfl, rfl, rfl⟩ := vals2 r1
  obtain ⟨its1, rv1, p1, _⟩ := I1.list hx
  obtain ⟨its2, rv2, p2, _⟩ := I1.list hy
  have a1 : l1 < s1.heap.objs.size := by obtain ⟨_, e, _⟩ := p1.isList; exact Heap.lt_size e
  have a2 : l2 < s1.heap.objs.size := by obtain ⟨_, e, _⟩ := p2.isList; exact Heap.lt_size e
  refine call_zip_2 p1.isList p2.isList fun h' hz hTI hTO hi1 hi2 sz kp => ?_
  refine wpAny_pyIter_zip hz ?_
  refine ⟨_, [_, _, _, _, _], _, _, H1, rfl, I1.kept (t' := s1.toks) kp, turn_zip l1 l2 _ _ _ _ _ (zipApart_new a1 a2), ⟨hz, hTI, ⟨_, _, hTO⟩, hi1, hi2⟩, fun c hc => ?_, q⟩
  have hge : s1.heap.objs.size ≤ c := by
    simp only [List.mem_cons, List.not_mem_nil, or_false] at hc
    rcases hc with rfl | rfl | rfl | rfl | rfl
    · exact Nat.le_add_right _ _
    · exact Nat.le_add_right _ _
    · exact Nat.le_add_right _ _
    · exact Nat.le_refl _
    · exact Nat.le_add_right _ _
  exact I1.fpOk hge (I1.hok.fresh hge)
end
end L2
set_option Elab.async false
set_option linter.all false
set_option maxRecDepth 100000
set_option maxHeartbeats 1000000
namespace L2
open PySem PySem.Spec PyProof.Rows
def ThL (H : Hp) (xs : List V) (ds : List PyData) : Prop := xs.length = ds.length ∧ ∀ (i : Nat) (x : V) (d : PyData), xs[i]? = some x → ds[i]? = some d → Th H x d
theorem ThL.nil {H : Hp} : ThL H [] [] := ⟨rfl, fun i x d h => by simp at h⟩
theorem ThL.cons {H : Hp} {x : V} {d : PyData} {xs : List V} {ds : List PyData} (h : Th H x d) (k : ThL H xs ds) : ThL H (x :: xs) (d :: ds) := by
  refine ⟨by rw [List.length_cons, List.length_cons, k.1], fun i y e h1 h2 => ?_⟩
  cases i with
  | zero => cases h1; cases h2; exact h
  | succ i => exact k.2 i y e h1 h2
theorem ThL.tup {H : Hp} {a : Addr} {xs : List V} {ds : List PyData} (k : ThL H xs ds) (h : H a = some (.tup xs)) : Th H (.ref a) (.tuple ds) := .tup h k.1 k.2
theorem ThL.lst {H : Hp} {a : Addr} {xs : List V} {ds : List PyData} (k : ThL H xs ds) (h : H a = some (.lst xs)) : Th H (.ref a) (.list ds) := .lst h k.1 k.2
theorem ThL.ints {H : Hp} (ns : List Int) : ThL H (ns.map V.int) (ns.map .int) := by
  refine ⟨by simp, fun i x d h1 h2 => ?_⟩
  rw [List.getElem?_map] at h1 h2
  cases z : ns[i]? with
  | none => rw [z] at h1; cases h1
  | some n => rw [z] at h1 h2; cases h1; cases h2; exact .int n
theorem sIx_nat {n m d : Nat} (h : m ≤ n) : HT.sIx n d (some (m : Int)) = m := by
  rw [HT.sIx_nat]
  exact Nat.min_eq_left h
theorem cutV_drop {xs : List V} {n : Nat} (h : n ≤ xs.length) : cutV xs (some (n : Int)) none = xs.drop n := by
  unfold cutV
  rw [sIx_nat h]
  show (xs.drop n).take (xs.length - n) = _
  rw [List.take_of_length_le (by simp)]
end L2
set_option Elab.async false
set_option linter.all false
set_option maxRecDepth 100000
set_option maxHeartbeats 1000000
set_option Elab.async false
set_option linter.all false
set_option maxRecDepth 100000
set_option maxHeartbeats 1000000
set_option Elab.async false
set_option linter.all false
set_option maxRecDepth 100000
set_option maxHeartbeats 1000000
set_option Elab.async false
set_option linter.all false
set_option maxRecDepth 100000
set_option maxHeartbeats 2000000
set_option Elab.async false
set_option linter.all false
set_option maxRecDepth 100000
set_option maxHeartbeats 4000000
namespace L2
open PySem PySem.Spec PyProof.Rows
def ddStep (acc : List Int) (k : Int) : List Int := if k ∈ acc then acc else acc ++ [k]
def dd (ns : List Int) : List Int := ns.foldl ddStep []
end L2
set_option Elab.async false
set_option linter.all false
set_option maxRecDepth 100000
set_option maxHeartbeats 4000000
set_option Elab.async false
set_option linter.all false
set_option maxRecDepth 100000
set_option maxHeartbeats 4000000
set_option Elab.async false
set_option linter.all false
set_option maxRecDepth 100000
set_option maxHeartbeats 4000000
set_option Elab.async false
set_option linter.all false
set_option maxRecDepth 100000
set_option maxHeartbeats 4000000
set_option Elab.async false
set_option linter.all false
set_option maxRecDepth 100000
set_option maxHeartbeats 1000000
set_option Elab.async false
set_option linter.all false
set_option maxRecDepth 100000
set_option maxHeartbeats 1000000
set_option Elab.async false
set_option linter.all false
set_option maxRecDepth 100000
set_option maxHeartbeats 1000000
set_option Elab.async false
set_option linter.all false
set_option maxRecDepth 100000
set_option maxHeartbeats 1000000
namespace L2
open PySem PySem.Spec PyProof.Rows
section
variable {prog : Program} {w : World} {A : Around} {E : Value → Shared → Prop} {s : Shared}
theorem nxT {it t : Addr} {i : Nat} {its : Array Value} {x : Value} {Q : Value → Shared → Prop} (st : s.heap.IsTupleIter it t i) (ht : s.heap.IsTuple t its) (hx : its[i]? = some x)
    (k : ∀ h', h'.IsTupleIter it t (i + 1) → Heap.SameBut it s.heap h' → Q x { s with heap := h' }) : wpAny (model prog w) A (Builtin.SmallTypes.nextOf (.ref it)) Q E s := by
  obtain ⟨o, e, c, d⟩ := id st
  obtain ⟨ot, et, _, m, dt⟩ := ht
  unfold Builtin.SmallTypes.nextOf
  refine wpAny_bind (wpAny_callSpecial?_slot (name := Str.ofString "__next__") st.typeIs F.slot_tuple_iterator_next (wpAny_call_entry F.slot_tuple_iterator_next st.typeIs F.entry_tuple_iterator_next (show wpAny _ _ (field (.ref it) 0 >>= _) _ _ s from wpAny_bind (wpAny_field e d (x := .ref t) rfl ?_)) (F.args_tuple_iterator_next_1 _)))
  show wpAny _ _ (if (Value.ref t == Value.none) = true then _ else _) _ _ s
  rw [if_neg (show ¬ (Value.ref t == Value.none) = true by intro z; exact Bool.false_ne_true z)]
  refine (show wpAny _ _ (field (.ref it) 1 >>= _) _ _ s from wpAny_bind (wpAny_field e d (x := .int i 0) rfl (show wpAny _ _ (seqItems? (.ref t) >>= _) _ _ s from wpAny_bind (wpAny_seqItems et dt ?_))))
  simp only [Int.toNat_natCast, hx]
  refine wpAny_bind (wpAny_setField e d (by simp) (wpAny_pure ⟨x, rfl, wpAny_pure (k _ ⟨_, Heap.get?_update_self _ e (Obj.isFreed_of_fields (Obj.data_mapFields d _)), (Obj.cls_mapFields ..).trans c, ?_⟩ (Heap.SameBut.update ..))⟩))
  rw [Obj.data_mapFields d]
  simp [rawInt]
theorem nxTe {it t : Addr} {i : Nat} {its : Array Value} {Q : Value → Shared → Prop} (hh : A.handled = none) (st : s.heap.IsTupleIter it t i) (ht : s.heap.IsTuple t its) (hx : its[i]? = none)
    (k : ∀ h' e, Heap.ExtBut it s.heap h' → (∃ o, h'.get? e = some o ∧ o.cls = .type "StopIteration") → E (.ref e) { s with heap := h' }) : wpAny (model prog w) A (Builtin.SmallTypes.nextOf (.ref it)) Q E s := by
  obtain ⟨o, e, c, d⟩ := id st
  obtain ⟨ot, et, _, m, dt⟩ := ht
  unfold Builtin.SmallTypes.nextOf
  refine wpAny_bind (wpAny_callSpecial?_slot (name := Str.ofString "__next__") st.typeIs F.slot_tuple_iterator_next (wpAny_call_entry F.slot_tuple_iterator_next st.typeIs F.entry_tuple_iterator_next (show wpAny _ _ (field (.ref it) 0 >>= _) _ _ s from wpAny_bind (wpAny_field e d (x := .ref t) rfl ?_)) (F.args_tuple_iterator_next_1 _)))
  show wpAny _ _ (if (Value.ref t == Value.none) = true then _ else _) _ _ s
  rw [if_neg (show ¬ (Value.ref t == Value.none) = true by intro z; exact Bool.false_ne_true z)]
  refine (show wpAny _ _ (field (.ref it) 1 >>= _) _ _ s from wpAny_bind (wpAny_field e d (x := .int i 0) rfl (show wpAny _ _ (seqItems? (.ref t) >>= _) _ _ s from wpAny_bind (wpAny_seqItems et dt ?_))))
  simp only [Int.toNat_natCast, hx]
  refine wpAny_bind (wpAny_rule (wpAny_bind (wpAny_setField e d (by simp) (show wpAny _ _ (newExc (.type "StopIteration") [] >>= _) _ _ _ from wpAny_bind ?_))))
  simp only [newExc, newTuple]
  refine wpAny_bind (wpAny_newObj_type (wpAny_bind (m := firstArgMember _ _) (wpAny_of_eq (a := Value.none) (by first | rfl | (simp only [firstArgMember]; rfl)) (wpAny_newObj_type ?_ (by size_fits)))) (by size_fits))
  simp only [raiseNew]
  refine wpAny_bind (wpAny_handled ?_)
  first | rw [show A.in1.handled = none from hh] | rw [hh]
  exact wpAny_bind (wpAny_pure (wpAny_throw (k _ _ (((Heap.SameBut.update ..).extBut.push _).push _) ⟨_, Heap.get?_push_size _ rfl, rfl⟩)))
end
def Itzt (K : PySem.W.Frag) (a b : Addr) : It :=
  ⟨fun i H => ∃ xs ys x y, SqT K H a xs ∧ SqT K H b ys ∧ xs[i]? = some x ∧ ys[i]? = some y,
   fun i H v H' => ∃ p x y, v = .ref p ∧ H p = none ∧ H' = upd H p (.tup [x, y]) ∧ (∀ xs, SqT K H a xs → xs[i]? = some x) ∧ (∀ ys, SqT K H b ys → ys[i]? = some y),
   fun i H => ∃ xs ys, SqT K H a xs ∧ SqT K H b ys ∧ (xs[i]? = none ∨ ys[i]? = none)⟩
section
variable {X : Cx}
theorem compZT {K : PySem.W.Frag} {k n : Nat} {a b : Addr} {xs ys : List V} {g : TG} {tt : TT} {te : TE} {Q : VK} {σ : St} {H : Hp} (Pv : Nat → List V → Hp → Prop) (h0 : Pv 0 [] H) (hn : n = min xs.length ys.length) (hb : n ≤ 1000) (hz : ∀ i zs H, Pv i zs H → zs.length ≤ i) (hl : ∀ i zs H, i ≤ n → Pv i zs H → SqT K H a xs ∧ SqT K H b ys)
    (hs : ∀ i x y zs H (pre : St) (p : Addr), pre.length = k → xs[i]? = some x → ys[i]? = some y → Pv i zs H → H p = none → g (.ref p) (pre ++ σ) (upd H p (.tup [x, y])) fun σ' H2 => (∃ pre' : St, σ' = pre' ++ σ ∧ pre'.length = k) ∧ tt σ' H2 fun ok H3 => if ok = true then te σ' H3 fun y H4 => Pv (i + 1) (zs ++ [y]) H4 else Pv (i + 1) zs H3) (hd : ∀ zs H, Pv n zs H → ∀ D, H D = none → Q (.ref D) (upd H D (.lst zs))) : CGo k (Itzt K a b) g tt te Q σ H := by
  refine ⟨fun i m zs H => m = n - i ∧ i ≤ n ∧ Pv i zs H, ⟨n, by simp, Nat.zero_le _, h0⟩, ?_⟩
  rintro i m zs H ⟨rfl, hi, p⟩
  obtain ⟨q1, q2⟩ := hl i zs H hi p
  by_cases hlt : i < n
  · have h1 : i < xs.length := by omega
    have h2 : i < ys.length := by omega
    refine .inr ⟨⟨xs, ys, xs[i], ys[i], q1, q2, by simp [h1], by simp [h2]⟩, Nat.lt_of_le_of_lt (hz i zs H p) (small1000 (by omega)), Pv (i + 1), fun zs H' p' => ⟨n - (i + 1), by omega, rfl, hlt, p'⟩, fun x H' pre hp y => ?_⟩
    obtain ⟨q, x1, y1, rfl, hq, rfl, e1, e2⟩ := y
    exact hs i x1 y1 zs _ pre q hp (e1 xs q1) (e2 ys q2) p hq
  · have e : i = n := by omega
    subst e
    refine .inl ⟨⟨xs, ys, q1, q2, ?_⟩, hd zs H p⟩
    by_cases hx : xs.length ≤ ys.length
    · exact .inl (List.getElem?_eq_none (by omega))
    · exact .inr (List.getElem?_eq_none (by omega))
theorem for_zip {K : PySem.W.Frag} {a b : Addr} {n : Nat} {xs ys : List V} {g : TG} {tb : TS} {D : Ends} {σ : St} {H : Hp} (Pv : Nat → St → Hp → Prop) (h0 : Pv 0 σ H) (hn : n = min xs.length ys.length) (hl : ∀ i σ H, i ≤ n → Pv i σ H → SqL K H a xs ∧ SqL K H b ys)
    (hs : ∀ i x y σ H (p : Addr), xs[i]? = some x → ys[i]? = some y → Pv i σ H → H p = none → g (.ref p) σ (upd H p (.tup [x, y])) fun σ2 H2 => tb { D with nx := Pv (i + 1), ct := Pv (i + 1), bk := D.nx } σ2 H2) (hd : ∀ σ H, Pv n σ H → D.nx σ H) :
    ∃ W : Nat → Nat → St → Hp → Prop, (∃ m, W 0 m σ H) ∧ ∀ i m σ H, W i m σ H →
      ((Itz K a b).stop i H ∧ D.nx σ H) ∨ ((Itz K a b).go i H ∧ ∃ N : St → Hp → Prop, (∀ σ' H', N σ' H' → ∃ m', m' < m ∧ W (i + 1) m' σ' H') ∧ ∀ x H', (Itz K a b).yld i H x H' → g x σ H' fun σ2 H2 => tb { D with nx := N, ct := N, bk := D.nx } σ2 H2) := by
  refine ⟨fun i m σ H => m = n - i ∧ i ≤ n ∧ Pv i σ H, ⟨n, by simp, Nat.zero_le _, h0⟩, ?_⟩
  rintro i m σ H ⟨rfl, hi, p⟩
  obtain ⟨q1, q2⟩ := hl i σ H hi p
  by_cases hlt : i < n
  · have h1 : i < xs.length := by omega
    have h2 : i < ys.length := by omega
    refine .inr ⟨⟨xs, ys, xs[i], ys[i], q1, q2, by simp [h1], by simp [h2]⟩, Pv (i + 1), fun σ' H' p' => ⟨n - (i + 1), by omega, rfl, hlt, p'⟩, fun x H' y => ?_⟩
    obtain ⟨q, x1, y1, rfl, hq, rfl, e1, e2⟩ := y
    exact hs i x1 y1 σ _ q (e1 xs q1) (e2 ys q2) p hq
  · have e : i = n := by omega
    subst e
    refine .inl ⟨⟨xs, ys, q1, q2, ?_⟩, hd σ H p⟩
    by_cases hx : xs.length ≤ ys.length
    · exact .inl (List.getElem?_eq_none (by omega))
    · exact .inr (List.getElem?_eq_none (by omega))
end
end L2
set_option Elab.async false
set_option linter.all false
set_option maxRecDepth 100000
namespace L2
open PySem PySem.Spec PyProof.Rows
section
variable {κ : Type} [DecidableEq κ]
def valV (kvs : List (κ × V)) (k : κ) : Option V := (kvs.find? fun kv => decide (kv.1 = k)).map (·.2)
def putK (kvs : List (κ × V)) (k : κ) (v : V) : List (κ × V) :=
  if (kvs.any fun kv => decide (kv.1 = k)) = true then kvs.map (fun kv => if kv.1 = k then (kv.1, v) else kv) else kvs ++ [(k, v)]
theorem valV_pos {p : κ × V} {r : List (κ × V)} {k : κ} (e : p.1 = k) : valV (p :: r) k = some p.2 := by simp [valV, List.find?_cons, e]
theorem valV_neg {p : κ × V} {r : List (κ × V)} {k : κ} (e : ¬ p.1 = k) : valV (p :: r) k = valV r k := by simp [valV, List.find?_cons, e]
theorem valV_any (k : κ) : ∀ kvs : List (κ × V), (kvs.any fun kv => decide (kv.1 = k)) = (valV kvs k).isSome
  | [] => rfl
  | p :: r => by
    rw [List.any_cons]
    by_cases e : p.1 = k
    · simp only [valV_pos e, decide_eq_true e, Bool.true_or, Option.isSome_some]
    · rw [valV_neg e, decide_eq_false e, Bool.false_or]; exact valV_any k r
theorem valV_map (k j : κ) (y : V) : ∀ kvs : List (κ × V), valV (kvs.map fun kv => if kv.1 = k then (kv.1, y) else kv) j = (valV kvs j).map fun x => if j = k then y else x
  | [] => rfl
  | p :: r => by
    have ih := valV_map k j y r
    rw [List.map_cons]
    by_cases h : p.1 = k
    · rw [if_pos h]
      by_cases e : p.1 = j
      · rw [valV_pos (p := (p.1, y)) e, valV_pos e, Option.map_some, if_pos (e.symm.trans h)]
      · rw [valV_neg (p := (p.1, y)) e, valV_neg e, ih]
    · rw [if_neg h]
      by_cases e : p.1 = j
      · rw [valV_pos (p := p) e, valV_pos e, Option.map_some, if_neg (fun z => h (e.trans z))]
      · rw [valV_neg (p := p) e, valV_neg e, ih]
theorem valV_snoc (k j : κ) (y : V) : ∀ kvs : List (κ × V), valV kvs k = none → valV (kvs ++ [(k, y)]) j = if j = k then some y else valV kvs j
  | [], _ => by
    by_cases e : k = j
    · rw [if_pos e.symm]; exact valV_pos (p := (k, y)) e
    · rw [if_neg (fun z => e z.symm)]; exact valV_neg (p := (k, y)) e
  | p :: r, hn => by
    rw [List.cons_append]
    have hk : ¬ p.1 = k := fun z => by rw [valV_pos z] at hn; cases hn
    rw [valV_neg hk] at hn
    have ih := valV_snoc k j y r hn
    by_cases e : p.1 = j
    · rw [valV_pos e, valV_pos e, if_neg (fun z => hk (e.trans z))]
    · rw [valV_neg e, valV_neg e, ih]
theorem valV_put (kvs : List (κ × V)) (k j : κ) (y : V) : valV (putK kvs k y) j = if j = k then some y else valV kvs j := by
  unfold putK
  by_cases a : (kvs.any fun kv => decide (kv.1 = k)) = true
  · rw [if_pos a, valV_map]
    rw [valV_any] at a
    by_cases e : j = k
    · obtain ⟨x, hx⟩ := Option.isSome_iff_exists.mp a
      rw [if_pos e, e, hx, Option.map_some, if_pos rfl]
    · rw [if_neg e]
      cases valV kvs j with
      | none => rfl
      | some x => rw [Option.map_some, if_neg e]
  · rw [if_neg a]
    refine valV_snoc k j y kvs ?_
    rw [valV_any] at a
    cases q : valV kvs k with
    | none => rfl
    | some x => rw [q] at a; exact (a rfl).elim
theorem length_putK (kvs : List (κ × V)) (k : κ) (v : V) : (putK kvs k v).length ≤ kvs.length + 1 := by
  unfold putK
  split
  · rw [List.length_map]; omega
  · rw [List.length_append, List.length_cons, List.length_nil]; omega
theorem KV.val {kvs : List (κ × V)} {vs : List (κ × Value)} (r : KV kvs vs) (k : κ) : RelO (valV kvs k) (valueAt vs k) := by
  unfold KV at r
  induction r with
  | nil => exact True.intro
  | @cons p q ps qs h t ih =>
    obtain ⟨h1, h2⟩ := h
    by_cases e : p.1 = k
    · have e' : q.1 = k := h1.symm.trans e
      have b : valueAt (q :: qs) k = some q.2 := by simp [valueAt, List.find?_cons, e']
      rw [valV_pos e, b]; exact h2
    · have e' : ¬ q.1 = k := fun z => e (h1.trans z)
      have b : valueAt (q :: qs) k = valueAt qs k := by simp [valueAt, List.find?_cons, e']
      rw [valV_neg e, b]; exact ih
theorem KV.any {kvs : List (κ × V)} {vs : List (κ × Value)} (r : KV kvs vs) (k : κ) : (kvs.any fun kv => decide (kv.1 = k)) = vs.any fun kv => decide (kv.1 = k) := by
  unfold KV at r
  induction r with
  | nil => rfl
  | cons h t ih => rw [List.any_cons, List.any_cons, ih, h.1]
theorem KV.repl {kvs : List (κ × V)} {vs : List (κ × Value)} (r : KV kvs vs) (k : κ) {y : V} {u : Value} (ry : RelV y u) :
    KV (kvs.map fun kv => if kv.1 = k then (kv.1, y) else kv) (vs.map fun kv => if kv.1 = k then (kv.1, u) else kv) := by
  unfold KV at r ⊢
  induction r with
  | nil => exact .nil
  | @cons p q ps qs h t ih =>
    rw [List.map_cons, List.map_cons]
    refine .cons ?_ ih
    obtain ⟨h1, h2⟩ := h
    by_cases e : p.1 = k
    · rw [if_pos e, if_pos (h1.symm.trans e)]; exact ⟨h1, ry⟩
    · rw [if_neg e, if_neg (fun z => e (h1.trans z))]; exact ⟨h1, h2⟩
theorem KV.put {kvs : List (κ × V)} {vs : List (κ × Value)} (r : KV kvs vs) (k : κ) {y : V} {u : Value} (ry : RelV y u) : KV (putK kvs k y) (stored vs k u) := by
  unfold putK stored
  rw [r.any k]
  by_cases e : (vs.any fun kv => decide (kv.1 = k)) = true
  · rw [if_pos e, if_pos e]; exact r.repl k ry
  · rw [if_neg e, if_neg e]; exact Paired.snoc r ⟨rfl, ry⟩
theorem KV.length {kvs : List (κ × V)} {vs : List (κ × Value)} (r : KV kvs vs) : kvs.length = vs.length := Paired.length r
end
theorem kV_is {P : Program} {w : World} {k : Key} {u : Value} (r : RelV (kV k) u) : (mixKind P w).is k u = true := by
  cases k with
  | inl i => obtain ⟨t, e⟩ := (show ∃ t, u = Value.int i t from r); subst e; exact mixKind_int P w i t
  | inr x => obtain ⟨t, e⟩ := (show ∃ t, u = Value.str x t from r); subst e; exact mixKind_str P w x t
theorem items_are {P : Program} {w : World} : ∀ {ks : List Key} {us : List Value}, Vals (ks.map kV) us → ItemsAre (mixKind P w) ks us
  | [], _, r => by rw [List.map_nil] at r; cases r; exact .nil
  | k :: ks, _, r => by
    rw [List.map_cons] at r
    cases r with
    | cons h t => exact .cons (kV_is h) (items_are t)
abbrev KT (H : Hp) : List (List Key × V) → List (List Key × Addr × Value) → Prop := Paired fun p q => p.1 = q.1 ∧ H q.2.1 = some (.tup (p.1.map kV)) ∧ RelV p.2 q.2.2
theorem KT.val {H : Hp} {kvs : List (List Key × V)} {xs : List (List Key × Addr × Value)} (r : KT H kvs xs) (k : List Key) : RelO (valV kvs k) ((atKey xs k).map (·.2)) := by
  induction r with
  | nil => exact True.intro
  | @cons p q ps qs h t ih =>
    obtain ⟨h1, _, h2⟩ := h
    by_cases e : p.1 = k
    · have e' : q.1 = k := h1.symm.trans e
      have b : atKey (q :: qs) k = some q.2 := by simp [atKey, List.find?_cons, e']
      rw [valV_pos e, b]; exact h2
    · have e' : ¬ q.1 = k := fun z => e (h1.trans z)
      have b : atKey (q :: qs) k = atKey qs k := by simp [atKey, List.find?_cons, e']
      rw [valV_neg e, b]; exact ih
section
variable {P : Program} {w : World} {H : Hp} {h : Heap} {a : Addr}
theorem rd_of {u : HO} (ok : HOk P w H h) (e : Rd H a u) : ObjOk P w H h a u := e.ok ok
theorem dk_rd {kvs : List (Key × V)} (ok : HOk P w H h) (e : Rd H a (.dK kvs)) : kvs.length ≤ sizeLine ∧ (a == sysModules) = false ∧ ∃ vs, KV kvs vs ∧ h.DictOf (mixKind P w) a vs :=
  show ObjOk P w H h a (.dK kvs) from rd_of ok e
theorem dk_of {kvs : List (Key × V)} (ok : HOk P w H h) (e : H a = some (.dK kvs)) : kvs.length ≤ sizeLine ∧ (a == sysModules) = false ∧ ∃ vs, KV kvs vs ∧ h.DictOf (mixKind P w) a vs := dk_rd ok (.inl e)
theorem key_of {ks : List Key} (ok : HOk P w H h) (e : H a = some (.tup (ks.map kV))) : (tupleKind (mixKind P w)).is h ks a := by
  obtain ⟨_, its, r, o, h1, h2, n, h3⟩ := (show ObjOk P w H h a (.tup (ks.map kV)) from ok a _ e)
  exact ⟨o, its.toArray, n, h1, h2, h3, by simpa using items_are r⟩
theorem dt_rd {kvs : List (List Key × V)} (ok : HOk P w H h) (e : Rd H a (.dT kvs)) : kvs.length ≤ sizeLine ∧ (a == sysModules) = false ∧
    ∃ xs, KT H kvs xs ∧ h.DictOfH (tupleKind (mixKind P w)) a xs := by
  obtain ⟨z, y, xs, r, o, es, ep, h1, h2, h3, h4, h5⟩ := (show ObjOk P w H h a (.dT kvs) from rd_of ok e)
  refine ⟨z, y, xs, r, o, es, ep, h1, h2, h3, h4, fun x hx => ?_, h5⟩
  have all : ∀ {l : List (List Key × V)} {m : List (List Key × Addr × Value)}, KT H l m → ∀ x ∈ m, (tupleKind (mixKind P w)).is h x.1 x.2.1 := by
    intro l m q
    induction q with
    | nil => intro x hx; exact nomatch hx
    | @cons p q ps qs hq t ih =>
      intro x hx
      rcases List.mem_cons.mp hx with e | hx
      · subst e
        exact key_of ok (by rw [← hq.1]; exact hq.2.1)
      · exact ih x hx
  exact all r x hx
end
def DGet (H : Hp) (a : Addr) (y : V) (r : Option V) : Prop :=
  (∃ kvs k, Rd H a (.dK kvs) ∧ y = kV k ∧ r = valV kvs k) ∨ ∃ kvs k b, Rd H a (.dT kvs) ∧ y = .ref b ∧ H b = some (.tup (k.map kV)) ∧ r = valV kvs k
section
variable {X : Cx} {pins : List (Addr × Obj)} {σ : St} {H : Hp} {s : Shared} {a : Addr} {y v : V} {u r : Value} {o : Option V} {A : Around} {E : Value → Shared → Prop}
theorem Inv.big (I : Inv X pins σ H s) : sysModules < s.heap.objs.size := by
  have h : mainGlobals < s.heap.objs.size := (I.mod.glob.keeps I.bk).lt
  exact Nat.lt_trans (by decide) h
theorem d_getItem {Q : Value → Shared → Prop} (hu : A.units + 1 < cLine) (I : Inv X pins σ H s) (g : DGet H a y (some v)) (ry : RelV y u) (h : ∀ w' s', Inv X pins σ H s' → RelV v w' → Q w' s') :
    wpAny (model X.prog X.w) A (getItem (.ref a) u) Q E s := by
  rcases g with ⟨kvs, k, e, ey, l⟩ | ⟨kvs, k, b, e, ey, eb, l⟩
  · subst ey
    obtain ⟨z, hd, vs, rel, dd⟩ := dk_rd I.hok e
    obtain ⟨w', hw, rw'⟩ := RelO.some_of (v := v) (o := valueAt vs k) (by rw [l]; exact rel.val k)
    exact wpAny_getItem_of (kV_is ry) dd.mapOf hw (h w' _ (I.tok _) rw')
  · subst ey
    cases (show u = Value.ref b from ry)
    obtain ⟨z, hd, xs, rel, dd⟩ := dt_rd I.hok e
    obtain ⟨w', hw, rw'⟩ := RelO.some_of (v := v) (o := (atKey xs k).map (·.2)) (by rw [l]; exact rel.val k)
    obtain ⟨p, hp, hp2⟩ := Option.map_eq_some_iff.mp hw
    refine wpAny_getItem_heap (tupleKind_room_in1 hu) (key_of I.hok eb) dd hp ?_
    rw [hp2]
    exact h w' _ (I.tok _) rw'
theorem d_write {h' : Heap} {t' : Nat} {ob : HO} (I : Inv X pins σ H s) (mu : Mut (H a)) (hs : Heap.SameBut a s.heap h') (he : ∃ q, h'.get? a = some q) (new : ObjOk X.prog X.w (upd H a ob) h' a ob) :
    Inv X pins σ (upd H a ob) { s with heap := h', toks := t' } :=
  I.write (x := a) (e := a) mu (.inl rfl) (fun b q hb z => (hs.2 b hb).trans z) he new
theorem dk_new {P : Program} {w : World} {H' : Hp} {h' : Heap} {kvs : List (Key × V)} {vs : List (Key × Value)} (z : kvs.length ≤ sizeLine) (hd : (a == sysModules) = false) (rel : KV kvs vs) (dd : h'.DictOf (mixKind P w) a vs) :
    ObjOk P w H' h' a (.dK kvs) := ⟨z, hd, vs, rel, dd⟩
end
def NoSl (i : Expr) : Prop := ∀ ov iv, subscripted i false ov iv = operate [ov, iv] (getItem ov iv)
theorem subD_of {prog : Program} {w : World} {A : Around} {E : Value → Shared → Prop} {s : Shared} {env : Env} {value slice : Expr} {pos : PySem.Pos} {T id : String} {Q : Value → Shared → Prop}
    (hl : typeLookup (.type T) "__getitem__" = pure (some (.builtin id))) (hs : NoSl slice)
    (h : wpAny (model prog w) A (eval value env) (fun o s₁ => wpAny (model prog w) A (eval slice env) (fun i s₂ => s₂.TypeIs o T ∧ wpAny (model prog w) A (getItem o i) Q E s₂) E s₁) E s) :
    wpAny (model prog w) A (eval (.Subscript value slice pos) env) Q E s := by
  refine Subscript_ (wpAny_mono h (fun o s₁ h₁ => wpAny_mono h₁ (fun i s₂ h₂ => ?_) fun _ _ x => x) fun _ _ x => x)
  obtain ⟨hT, h₂⟩ := h₂
  unfold subscriptTail
  refine wpAny_bind ?_
  rw [getitemInPython_of_ne hT.not_modules]
  refine wpAny_bind (wpAny_specialOf hT hl ?_)
  have fin : wpAny (model prog w) A (subscripted slice false o i) (fun r s₃ => wpAny (model prog w) A (letTemporaryGo value o r >>= fun _ => pure r) Q E s₃) E s₂ := by
    rw [hs o i]
    exact wpAny_operating (wpAny_mono h₂ (fun r s₃ h₃ => wpAny_bind (wpAny_letTemporaryGo (wpAny_pure h₃))) fun _ _ x => x)
  first
    | exact wpAny_pure (wpAny_bind fin)
    | exact wpAny_bind (wpAny_pure (wpAny_bind fin))
    | exact wpAny_bind fin
theorem dict_typeIs {X : Cx} {pins : List (Addr × Obj)} {σ : St} {H : Hp} {s : Shared} {a : Addr} {y : V} {o : Option V} (I : Inv X pins σ H s) (g : DGet H a y o) : s.TypeIs (.ref a) "dict" := by
  rcases g with ⟨kvs, k, e, _, _⟩ | ⟨kvs, k, b, e, _, _, _⟩
  · obtain ⟨_, _, vs, _, dd⟩ := dk_rd I.hok e
    exact dd.typeIs
  · obtain ⟨_, _, xs, _, dd⟩ := dt_rd I.hok e
    exact dd.typeIs
def tDGet (td ty : TE) : TE := fun σ H Q => td σ H fun x H1 => ty σ H1 fun y H2 => ∃ a v, x = .ref a ∧ DGet H2 a y (some v) ∧ Q v H2
section
variable {X : Cx} {o i e value : Expr} {pos pos' tpos : PySem.Pos} {td ty tv : TE}
theorem pe_dget (hu : X.A.units + 1 < cLine) (ho : PE X o td) (hi : PE X i ty) (hs : NoSl i) : PE X (.Subscript o i pos) (tDGet td ty) := by
  intro pins s σ H Q I h
  refine subD_of PySem.F.slot_dict_getitem.lookup hs (thn (ho pins s σ H _ I h) fun u s1 ⟨x, H1, I1, rx, q1⟩ => thn (hi pins s1 σ H1 _ I1 q1) fun iv s2 ⟨y, H2, I2, ry, a, v, ex, g, q2⟩ => ?_)
  subst ex
  obtain rfl : u = Value.ref a := rx
  exact ⟨dict_typeIs I2 g, d_getItem hu I2 g ry fun w' s3 I3 rw' => ⟨v, H2, I3, rw', q2⟩⟩
end
theorem dk_empty {P : Program} {w : World} {H : Hp} (h : Heap) (hb : sysModules < h.objs.size) : ObjOk P w H (h.push { cls := .type "dict", data := .dict #[] }) h.objs.size (.dK []) :=
  ⟨Nat.zero_le _, beq_eq_false_iff_ne.mpr (Ne.symm (Nat.ne_of_lt hb)), [], .nil, Heap.DictOf.new h⟩
def tDNewK : TE := fun _ H Q => ∀ p, H p = none → Q (.ref p) (upd H p (.dK []))
section
variable {X : Cx} {pos : PySem.Pos}
theorem pe_dnewK : PE X (.Dict [] [] pos) tDNewK := fun pins s σ H Q I h =>
  wpAny_Dict_empty ⟨.ref s.heap.objs.size, _, I.laid (a := s.heap.objs.size) (o := .dK []) (t' := s.toks) (fun _ _ q => Heap.get?_push_of_some _ q) (Nat.le_refl _) (dk_empty s.heap I.big), rfl, h _ (I.hok.fresh (Nat.le_refl _))⟩
end
end L2
set_option Elab.async false
set_option linter.all false
set_option maxRecDepth 100000
set_option maxHeartbeats 1000000
namespace L2
open PySem PySem.Spec PyProof.Rows
def Ite (K : PySem.W.Frag) (a : Addr) : It :=
  ⟨fun i H => ∃ xs x, SqL K H a xs ∧ xs[i]? = some x,
   fun i H v H' => ∃ p x, v = .ref p ∧ H p = none ∧ H' = upd H p (.tup [.int (i : Int), x]) ∧ ∀ xs, SqL K H a xs → xs[i]? = some x,
   fun i H => ∃ xs, SqL K H a xs ∧ xs[i]? = none⟩
def EnumAt (e it a : Addr) (i : Nat) (h : Heap) : Prop := (∃ old, IsEnum h e it (i : Int) old) ∧ h.IsListIter it a i
theorem turn_enum {P : Program} {w : World} {K : PySem.W.Frag} {es : List Expr} {k : Nat} {pos : PySem.Pos} (a e it : Addr) (hei : e ≠ it) (hle : a ≠ e) (hli : a ≠ it) : Turn P w K (.Tuple es k pos) (Ite K a) [e, it] e (EnumAt e it a) where
  mem := by simp
  obj := fun i h st c hc => by
    obtain ⟨⟨old, he⟩, ⟨o1, e1, c1, d1⟩⟩ := st
    simp only [List.mem_cons, List.not_mem_nil, or_false] at hc
    rcases hc with rfl | rfl
    · exact ⟨_, he, fun v q => by cases q⟩
    · exact ⟨o1, e1, fun v q => by rw [d1] at q; cases q⟩
  keep := fun i h h' st q => by
    obtain ⟨⟨old, he⟩, l1⟩ := st
    exact ⟨⟨old, q _ (by simp) _ he⟩, l1.at fun o x => q _ (by simp) o x⟩
  item := by
    intro X hP hw hK hc i pins s σ H E I hf st hg
    subst hP hw hK
    obtain ⟨xs, x, hq1, hx⟩ := hg
    obtain ⟨⟨old, he⟩, l1⟩ := st
    obtain ⟨its1, rv1, p1, _⟩ := I.list hq1
    obtain ⟨ux, hux, rux⟩ := rv1.get hx
    refine wpAny_pyNext_enum_item he l1 p1.isList (x := ux) (by simpa using hux) hei fun h' z1 j1 T1 sz kp => ?_
    refine ⟨_, rfl, wpAny_letOwnedTupleGo_enum z1 fun h2 z2 sb => ?_⟩
    have helt : e < s.heap.objs.size := Heap.lt_size he
    have hpe : s.heap.objs.size ≠ e := Nat.ne_of_gt helt
    have T2 := sb.extBut _ _ hpe T1
    have kp2 : ∀ c o, c ∉ [e, it] → s.heap.get? c = some o → h2.get? c = some o := fun c o hc x => by
      simp only [List.mem_cons, List.not_mem_nil, or_false, not_or] at hc
      exact sb.extBut _ _ hc.1 (kp c o hc.1 hc.2 x)
    have I2 : Inv X pins σ (upd H s.heap.objs.size (.tup [.int (i : Int), x])) { s with heap := h2, toks := s.toks + 1 } := I.turnedNew kp2 hf (Nat.le_refl _) ⟨by show 2 ≤ sizeLine; decide, [.int (i : Int) s.toks, ux], .cons ⟨_, rfl⟩ (.cons rux .nil), ⟨_, T2, rfl, _, rfl⟩⟩
    refine ⟨.ref s.heap.objs.size, _, I2, rfl, ⟨_, x, rfl, I.hok.fresh (Nat.le_refl _), rfl, fun xs' h => ?_⟩, ⟨⟨ux, by simpa using z2⟩, ?_⟩, fun c hc => ?_⟩
    · rw [I.list_inj h hq1]; exact hx
    · exact j1.at fun o x => sb.extBut _ _ (Ne.symm hei) x
    · have hlt : c < s.heap.objs.size := by
        simp only [List.mem_cons, List.not_mem_nil, or_false] at hc
        rcases hc with rfl | rfl
        · exact helt
        · obtain ⟨_, x, _⟩ := l1; exact Heap.lt_size x
      rw [upd_ne (Nat.ne_of_lt hlt)]
      exact (hf c hc).1
  done := by
    intro X hP hw hK hc i pins s σ H E I hf st hg
    subst hP hw hK
    obtain ⟨xs, hq1, hend⟩ := hg
    obtain ⟨⟨old, he⟩, l1⟩ := st
    obtain ⟨its1, rv1, p1, _⟩ := I.list hq1
    have e1 := rv1.length
    rw [List.getElem?_eq_none_iff] at hend
    refine wpAny_pyNext_enum_end (I.ok.hd hc) he l1 p1.isList (by simp; omega) fun h' kp => ⟨rfl, I.turnedL (t' := s.toks) (ch := [e, it]) (fun c o hc x => ?_) hf⟩
    simp only [List.mem_cons, List.not_mem_nil, or_false, not_or] at hc
    exact kp c o hc.2 x
  self := fun _ _ _ _ _ st h => by
    obtain ⟨⟨old, he⟩, _⟩ := st
    exact wpAny_pyIter_enum he h
theorem boot_enumerate : bootBuiltins "enumerate" = some (.type "enumerate") := by decide +kernel
section
variable {X : Cx}
def iEnum (K : PySem.W.Frag) (ta : TA) : TI := fun σ H R => ta σ H fun vs H1 => ∃ a, vs = [.ref a] ∧ (∃ xs, SqL K H1 a xs) ∧ R (Ite K a) H1
theorem pi_enum {tes : List Expr} {tk : Nat} {tpos p pos : PySem.Pos} {a : Expr} {ta : TA} (hg : Gl X "enumerate") (hm : X.mg "enumerate" = none) (ha : PA X [a] ta)
    (hs : starEach [a] X.env = [(false, eval a X.env)] := by rfl) : PI X (.Tuple tes tk tpos) (.Call (.Name "enumerate" p) [a] [] pos) (iEnum X.K ta) := by
  intro pins s σ H R I h
  refine wpAny_Call_Name_kw (ld_blt I hg hm boot_enumerate ?_)
  refine PyProof.Rows.callWith_type1 (rest := []) (thn (ha pos pins s σ H _ I h) fun us s1 ⟨vs, H1, I1, r1, l1, e, ⟨xs, hx⟩, q⟩ => ?_) hs rfl
  subst e
  obtain ⟨u1, rfl, rfl⟩ := vals1 r1
  obtain ⟨its1, rv1, p1, _⟩ := I1.list hx
  have a1 : l1 < s1.heap.objs.size := by obtain ⟨_, e, _⟩ := p1.isList; exact Heap.lt_size e
  refine call_enumerate_list p1.isList fun h' he hit sz kp => ?_
  refine wpAny_pyIter_enum he ?_
  refine ⟨_, [_, _], _, _, H1, rfl, I1.kept (t' := s1.toks) kp, turn_enum l1 _ _ (Nat.succ_ne_self _) (Nat.ne_of_lt (Nat.lt_succ_of_lt a1)) (Nat.ne_of_lt a1), ⟨⟨_, he⟩, hit⟩, fun c hc => ?_, q⟩
  have hge : s1.heap.objs.size ≤ c := by
    simp only [List.mem_cons, List.not_mem_nil, or_false] at hc
    rcases hc with rfl | rfl
    · exact Nat.le_succ _
    · exact Nat.le_refl _
  exact I1.fpOk hge (I1.hok.fresh hge)
theorem for_enum {K : PySem.W.Frag} {a : Addr} {xs : List V} {g : TG} {tb : TS} {D : Ends} {σ : St} {H : Hp} (Pv : Nat → St → Hp → Prop) (h0 : Pv 0 σ H) (hl : ∀ i σ H, i ≤ xs.length → Pv i σ H → SqL K H a xs)
    (hs : ∀ i x σ H (p : Addr), xs[i]? = some x → Pv i σ H → H p = none → g (.ref p) σ (upd H p (.tup [.int (i : Int), x])) fun σ2 H2 => tb { D with nx := Pv (i + 1), ct := Pv (i + 1), bk := D.nx } σ2 H2) (hd : ∀ σ H, Pv xs.length σ H → D.nx σ H) :
    ∃ W : Nat → Nat → St → Hp → Prop, (∃ m, W 0 m σ H) ∧ ∀ i m σ H, W i m σ H →
      ((Ite K a).stop i H ∧ D.nx σ H) ∨ ((Ite K a).go i H ∧ ∃ N : St → Hp → Prop, (∀ σ' H', N σ' H' → ∃ m', m' < m ∧ W (i + 1) m' σ' H') ∧ ∀ x H', (Ite K a).yld i H x H' → g x σ H' fun σ2 H2 => tb { D with nx := N, ct := N, bk := D.nx } σ2 H2) := by
  refine ⟨fun i m σ H => m = xs.length - i ∧ i ≤ xs.length ∧ Pv i σ H, ⟨xs.length, by simp, Nat.zero_le _, h0⟩, ?_⟩
  rintro i m σ H ⟨rfl, hi, p⟩
  have q1 := hl i σ H hi p
  by_cases hlt : i < xs.length
  · refine .inr ⟨⟨xs, xs[i], q1, by simp [hlt]⟩, Pv (i + 1), fun σ' H' p' => ⟨xs.length - (i + 1), by omega, rfl, hlt, p'⟩, fun x H' y => ?_⟩
    obtain ⟨q, x1, rfl, hq, rfl, e1⟩ := y
    exact hs i x1 σ _ q (e1 xs q1) p hq
  · have e : i = xs.length := by omega
    subst e
    exact .inl ⟨⟨xs, q1, List.getElem?_eq_none (Nat.le_refl _)⟩, hd σ H p⟩
end
end L2
set_option Elab.async false
set_option linter.all false
set_option maxRecDepth 100000
set_option maxHeartbeats 1000000
set_option Elab.async false
set_option linter.all false
set_option maxRecDepth 100000
set_option maxHeartbeats 1000000
set_option Elab.async false
set_option linter.all false
set_option maxRecDepth 100000
set_option maxHeartbeats 1000000
set_option Elab.async false
set_option linter.all false
set_option maxRecDepth 100000
set_option maxHeartbeats 1000000
set_option Elab.async false
set_option linter.all false
set_option maxRecDepth 100000
set_option maxHeartbeats 1000000
set_option Elab.async false
set_option linter.all false
set_option maxRecDepth 100000
set_option maxHeartbeats 1000000
set_option Elab.async false
set_option linter.all false
set_option maxRecDepth 100000
set_option maxHeartbeats 1000000
set_option Elab.async false
set_option linter.all false
set_option maxRecDepth 100000
set_option maxHeartbeats 1000000
set_option Elab.async false
set_option linter.all false
set_option maxRecDepth 100000
set_option maxHeartbeats 1000000
set_option Elab.async false
set_option linter.all false
set_option maxRecDepth 100000
set_option maxHeartbeats 1000000
set_option Elab.async false
set_option linter.all false
set_option maxRecDepth 100000
set_option maxHeartbeats 1000000
namespace L2
open PySem PySem.Spec PyProof.Rows
def hsh (prog : Program) (w : World) (u : List Int) : Int := tupleKeyHash (intKind prog w) u
end L2
set_option Elab.async false
set_option linter.all false
set_option maxRecDepth 100000
set_option maxHeartbeats 1000000
set_option Elab.async false
set_option linter.all false
set_option maxRecDepth 100000
set_option maxHeartbeats 4000000
set_option Elab.async false
set_option linter.all false
set_option maxRecDepth 100000
set_option maxHeartbeats 4000000
set_option Elab.async false
set_option linter.all false
set_option maxRecDepth 100000
set_option maxHeartbeats 1000000
namespace L2
open PySem PySem.Spec PyProof.Rows
def TuL (H : Hp) (xs : List V) (us : List (List Int)) : Prop := xs.length = us.length ∧ ∀ (i : Nat) (x : V) (u : List Int), xs[i]? = some x → us[i]? = some u → ∃ a : Addr, x = .ref a ∧ H a = some (.tup (u.map V.int))
theorem TuL.nil (H : Hp) : TuL H [] [] := ⟨rfl, fun i x u h => by cases h⟩
theorem TuL.up {H H' : Hp} {xs : List V} {us : List (List Int)} (h : TuL H xs us) (t : Tups H H') : TuL H' xs us := ⟨h.1, fun i x u h1 h2 => by
  obtain ⟨a, b, c⟩ := h.2 i x u h1 h2
  exact ⟨a, b, t _ _ c⟩⟩
theorem TuL.snoc {H : Hp} {xs : List V} {us : List (List Int)} {a : Addr} {u : List Int} (h : TuL H xs us) (ha : H a = some (.tup (u.map V.int))) : TuL H (xs ++ [.ref a]) (us ++ [u]) := by
  refine ⟨by rw [List.length_append, List.length_append, h.1]; rfl, fun i y r h1 h2 => ?_⟩
  by_cases z : i < xs.length
  · rw [List.getElem?_append_left z] at h1
    rw [List.getElem?_append_left (h.1 ▸ z)] at h2
    exact h.2 i y r h1 h2
  · rw [List.getElem?_append_right (by omega)] at h1
    rw [List.getElem?_append_right (by have := h.1; omega), ← h.1] at h2
    cases w : i - xs.length with
    | zero => rw [w] at h1 h2; cases h1; cases h2; exact ⟨a, rfl, ha⟩
    | succ m => rw [w] at h1; cases h1
def dTs (us : List (List Int)) : PyData := .list (us.map dT)
theorem lay_dTs : ∀ us : List (List Int), (dTs us).canLay0 = true := by
  have : ∀ us : List (List Int), PyData.canLayAll0 (us.map dT) = true := by
    intro us
    induction us with
    | nil => rfl
    | cons u us ih => show ((dT u).canLay0 && PyData.canLayAll0 (us.map dT)) = true; rw [lay_dT, ih]; rfl
  exact this
section
variable {X : Cx} {pins : List (Addr × Obj)} {σ : St} {H : Hp} {s : Shared}
theorem call_tuple_ofKK {K : PySem.W.Frag} (hK : X.K = K := by rfl) : CallR X (.type "tuple") (fun xs H Q => ∃ p ys, xs = [.ref p] ∧ ((SqL K H p ys ∧ ∀ l, H l = none → Q (.ref l) (upd H l (.tup ys))) ∨ (SqT K H p ys ∧ Q (.ref p) H))) := by subst hK; exact call_tuple_of
end
end L2
set_option Elab.async false
set_option linter.all false
set_option maxRecDepth 100000
set_option maxHeartbeats 1000000
set_option Elab.async false
set_option linter.all false
set_option maxRecDepth 100000
set_option maxHeartbeats 1000000
set_option Elab.async false
set_option linter.all false
set_option maxRecDepth 100000
set_option maxHeartbeats 1000000
namespace L2
open PySem PySem.Spec PyProof.Rows
def cont (h : Heap) (b : Addr) : Option HO := match h.get? b with
  | some o => match o.data with
    | .seq its _ => match its.toList with
      | [.ref ka, .int m _] => some (.tup [.ref ka, .int m])
      | _ => none
    | _ => none
  | none => none
end L2
set_option Elab.async false
set_option linter.all false
set_option maxRecDepth 100000
set_option maxHeartbeats 1000000
set_option Elab.async false
set_option linter.all false
set_option maxRecDepth 100000
set_option maxHeartbeats 1000000
namespace L2
open PySem PySem.Spec PyProof.Rows
section
variable {X : Cx}
theorem call_range2 : CallR X (.type "range") (fun xs H Q => ∃ i j : Int, xs = [.int i, .int j] ∧ ∀ p, H p = none → Q (.ref p) (upd H p (.rng i j))) := by
  intro pins s σ H xs us Q I r h
  obtain ⟨i, j, rfl, q⟩ := h
  obtain ⟨u1, u2, rfl, ⟨t1, rfl⟩, ⟨t2, rfl⟩⟩ := vals2 r
  refine call_range_2 ?_
  exact ⟨.ref _, upd H s.heap.objs.size (.rng i j), I.laid (fun b u e => Heap.get?_push_of_some _ e) (Nat.le_refl _) ⟨_, _, _, Heap.get?_push_size _ rfl⟩, rfl, q _ (I.hok.fresh (Nat.le_refl _))⟩
def upto (lo : Int) (n : Nat) : List Int := (List.range n).map fun (i : Nat) => lo + (i : Int)
theorem call_list_rng2 (hc : X.calm = true) : CallR X (.type "list") (fun xs H Q => ∃ (p : Addr) (i j : Int), xs = [.ref p] ∧ H p = some (.rng i j) ∧ -1000 ≤ i ∧ i ≤ j ∧ j ≤ 1000 ∧ ∀ l, H l = none → Q (.ref l) (upd H l (.lst ((upto i (j - i).toNat).map V.int)))) := by
  intro pins s σ H xs us Q I r h
  obtain ⟨p, lo, j, rfl, hp, h0, h1, h2, q⟩ := h
  obtain ⟨u, rfl, rx⟩ := vals1 r
  cases rx
  obtain ⟨t, u, v, e⟩ := I.hok p _ hp
  refine call_list_range (n := (j - lo).toNat) (I.ok.hd hc) e (small_one (by omega) (by omega) (by omega) (by omega)) (by rw [rangeSize_one]; split <;> omega) (by omega) fun h' tk acc' c' hk hS hacc => ?_
  have hln : ((upto lo (j - lo).toNat).map V.int).length = acc'.toList.length := by unfold upto; simp [hacc.1]
  refine ⟨.ref _, _, I.laid (o := .lst ((upto lo (j - lo).toNat).map V.int)) hk (Nat.le_refl _) ⟨?_, acc'.toList, c', Vals.of_get hln fun i x w' e1 e2 => ?_, by simpa using hS⟩, rfl, q _ (I.hok.fresh (Nat.le_refl _))⟩
  · unfold upto
    rw [List.length_map, List.length_map, List.length_range]
    exact Nat.le_trans (show (j - lo).toNat ≤ 2000 by omega) (by decide)
  · have hi : i < (j - lo).toNat := by
      have := (List.getElem?_eq_some_iff.mp e1).1
      unfold upto at this
      rw [List.length_map, List.length_map, List.length_range] at this
      exact this
    unfold upto at e1
    rw [List.getElem?_map, List.getElem?_map, List.getElem?_range hi] at e1
    cases e1
    obtain ⟨tk', z⟩ := hacc.2 i w' (by simpa using e2)
    rw [z]
    exact ⟨tk', by simp⟩
def rRepR : R2 := fun x y H Q => ∃ l k xs, y = .ref l ∧ x = .int k ∧ H l = some (.lst xs) ∧ -(2 ^ 63) ≤ k ∧ k < 2 ^ 63 ∧ xs.length * k.toNat ≤ sizeLine ∧
  ∀ p, H p = none → Q (.ref p) (upd H p (.lst (List.replicate k.toNat xs).flatten))
theorem op_repR : OpR X (binaryOp .Mult) rRepR := by
  intro pins s σ H x y v u Q I rx ry h
  obtain ⟨l, k, xs, rfl, rfl, hH, h1, h2, hz, q⟩ := h
  cases ry
  obtain ⟨t, rfl⟩ := rx
  obtain ⟨z, its, n, r, hl, e⟩ := I.lstM hH
  have hlen : its.toArray.size * k.toNat ≤ sizeLine := by rw [List.size_toArray, ← hl]; exact hz
  have hcap : ¬ its.toArray.size * k.toNat > (2 ^ 63 - 1) / 8 := by
    have : (sizeLine : Nat) ≤ (2 ^ 63 - 1) / 8 := by decide
    omega
  have hfit : ¬ (!Builtin.List.listFitsIndex k) = true := by
    rw [fitsIndex_both h1 h2]
    exact Bool.false_ne_true
  have hlong : ¬ Builtin.List.listTooLong (its.toArray.size * k.toNat) = true := by
    rw [notLongL hlen]
    exact Bool.false_ne_true
  have hnew : List.foldl (fun x1 x2 => x1 ++ x2) #[] (List.replicate (if its.toArray.isEmpty = true then 0 else k.toNat) its.toArray) = (List.replicate k.toNat its).flatten.toArray := by
    have f0 : ∀ m : Nat, List.foldl (fun x1 x2 => x1 ++ x2) #[] (List.replicate m its.toArray) = (List.replicate m its).flatten.toArray := fun m => by
      have := foldl_rep its m []
      rw [List.nil_append] at this
      exact this
    rw [f0]
    cases its with
    | nil => simp
    | cons a r' => rw [if_neg (by simp)]
  refine lm_binaryOp_repeat_right (T := "list") (U := "int") (by decide) (fun s' => typeIs_int s' k t) ⟨_, e, rfl⟩ F.fills_int_mul noFill_list_mul F.slot_int_mul lm_noRepeat_int repeat_list F.slot_int_index.lookup
    (call_meets F.slot_int_mul (typeIs_int s k t) F.entry_int_mul (F.args_int_mul_2 _ _) (int___mul___int_list k t l its.toArray n)
      ⟨e, rfl, ⟨_, e, rfl⟩, call_meets F.slot_list_mul ⟨_, e, rfl⟩ F.entry_list_mul (F.args_list_mul_2 _ _) (AutoListH.list___mul___list_int_3 l its.toArray n k t hfit hcap hlong) ⟨e, ?_⟩⟩)
  rw [hnew]
  exact ⟨.ref _, _, I.lnew (t' := s.toks) (r.rep k.toNat) (by rw [len_rep, Nat.mul_comm]; exact hz), rfl, q _ I.fresh⟩
end
end L2
set_option Elab.async false
set_option linter.all false
set_option maxRecDepth 100000
set_option maxHeartbeats 1000000
namespace L2
open PySem PySem.Spec PyProof.Rows
def absI (i : Int) : Int := if i < 0 then -i else i
def pool (n : Nat) : List Int := upto 1 n ++ upto 1 n
structure ShOk (S : List (List Int)) : Prop where
  even : ∃ m : Nat, S.length = 2 * m ∧ 1 ≤ m ∧ m ≤ 6
  three : ∀ t ∈ S, t.length = 3
  ties : (S.flatten.map absI).Perm (pool (S.length / 2 * 3))
theorem mem_upto {lo : Int} {n : Nat} {i : Int} : i ∈ upto lo n ↔ lo ≤ i ∧ i < lo + (n : Int) := by
  unfold upto
  rw [List.mem_map]
  constructor
  · rintro ⟨k, hk, rfl⟩
    have := List.mem_range.mp hk
    omega
  · rintro ⟨h1, h2⟩
    exact ⟨(i - lo).toNat, List.mem_range.mpr (by omega), by omega⟩
theorem upto_len (lo : Int) (n : Nat) : (upto lo n).length = n := by unfold upto; rw [List.length_map, List.length_range]
theorem chunks (os : List Int) : ∀ n : Nat, ((List.range n).map fun k => (os.drop (3 * k)).take 3).flatten = os.take (3 * n)
  | 0 => by simp
  | n + 1 => by
    rw [List.range_succ, List.map_append, List.flatten_append, chunks os n]
    simp only [List.map_cons, List.map_nil, List.flatten_cons, List.flatten_nil, List.append_nil]
    rw [show 3 * (n + 1) = 3 * n + 3 by omega, List.take_add]
theorem rep2 (xs : List V) : (List.replicate (2 : Int).toNat xs).flatten = xs ++ xs := by
  show xs ++ (xs ++ []) = xs ++ xs
  rw [List.append_nil]
def dI (ns : List Int) : PyData := .list (ns.map .int)
theorem di_lst {K : PySem.W.Frag} {H : Hp} {a : Addr} {ns : List Int} (h : SqL K H a (ns.map V.int)) : DI K H (.ref a) (dI ns) := by
  refine .lst h (by rw [List.length_map, List.length_map]) fun i x d h1 h2 => ?_
  rw [List.getElem?_map] at h1 h2
  cases z : ns[i]? with
  | none => rw [z] at h1; cases h1
  | some m => rw [z] at h1 h2; cases h1; cases h2; exact .int m
theorem eqv_dI (ns ms : List Int) : PyData.eqv (dI ns) (dI ms) = decide (ns = ms) := eqvAll_ints ns ms
theorem lay_dI (ns : List Int) : (dI ns).canLay0 = true := lay_ints ns
theorem dep_dI (ns : List Int) : (dI ns).depth ≤ 60 := by show PyData.depthAll _ + 1 ≤ 60; rw [dep_ints]; decide
theorem erase_permK {α : Type} : ∀ {l : List α} {k : Nat} {y : α}, l[k]? = some y → l.Perm (y :: l.eraseIdx k)
  | [], k, y, h => by cases h
  | a :: l, 0, y, h => by cases h; exact List.Perm.refl _
  | a :: l, k + 1, y, h => by
    have ih := erase_permK (l := l) (k := k) (y := y) (by simpa using h)
    exact (List.Perm.cons a ih).trans (List.Perm.swap y a _)
theorem map_erase {α β : Type} (f : α → β) : ∀ (l : List α) (k : Nat), (l.map f).eraseIdx k = (l.eraseIdx k).map f
  | [], _ => rfl
  | _ :: _, 0 => rfl
  | a :: l, k + 1 => by
    show f a :: (l.map f).eraseIdx k = f a :: (l.eraseIdx k).map f
    rw [map_erase f l k]
theorem cut_midL (xs : List V) {u m : Int} (u0 : 0 ≤ u) (m1 : 0 ≤ m) (h : u + m ≤ (xs.length : Int)) : cutV xs (some u) (some (u + m)) = (xs.drop u.toNat).take m.toNat := by
  unfold cutV
  have a1 : HT.sIx xs.length 0 (some u) = u.toNat := by
    show (if u < 0 then _ else min u.toNat xs.length) = _
    rw [if_neg (by omega)]
    omega
  have a2 : HT.sIx xs.length xs.length (some (u + m)) = u.toNat + m.toNat := by
    show (if u + m < 0 then _ else min (u + m).toNat xs.length) = _
    rw [if_neg (by omega)]
    omega
  rw [a1, a2, Nat.add_sub_cancel_left]
theorem abs_sign {y r : Int} (hy : 0 ≤ y) (h0 : 0 ≤ r) (h1 : r < 2) : absI (y * (1 - 2 * r)) = y := by
  have : r = 0 ∨ r = 1 := by omega
  unfold absI
  rcases this with rfl | rfl
  · rw [show y * (1 - 2 * 0) = y by omega, if_neg (by omega)]
  · rw [show y * (1 - 2 * 1) = -y by omega]
    split <;> omega
theorem pool_len (n : Nat) : (pool n).length = 2 * n := by unfold pool; rw [List.length_append, upto_len]; omega
theorem mem_pool {n : Nat} {i : Int} (h : i ∈ pool n) : 1 ≤ i ∧ i ≤ (n : Int) := by
  unfold pool at h
  rcases List.mem_append.mp h with h | h <;> (have := mem_upto.mp h; omega)
theorem sheet_ok {m : Nat} {os : List Int} (m1 : 1 ≤ m) (m6 : m ≤ 6) (h : (os.map absI).Perm (pool (3 * m))) : ShOk ((List.range (2 * m)).map fun k => (os.drop (3 * k)).take 3) := by
  have hl : os.length = 6 * m := by
    have := h.length_eq
    rw [List.length_map, pool_len] at this
    omega
  have lS : ((List.range (2 * m)).map fun k => (os.drop (3 * k)).take 3).length = 2 * m := by rw [List.length_map, List.length_range]
  refine ⟨⟨m, lS, m1, m6⟩, fun t ht => ?_, ?_⟩
  · obtain ⟨k, hk, rfl⟩ := List.mem_map.mp ht
    have hk := List.mem_range.mp hk
    rw [List.length_take, List.length_drop]
    omega
  · rw [chunks, List.take_of_length_le (by omega), lS]
    rw [show 2 * m / 2 * 3 = 3 * m by omega]
    exact h
end L2
set_option Elab.async false
set_option linter.all false
set_option maxRecDepth 100000
set_option maxHeartbeats 1000000
namespace L2
open PySem PySem.Spec PyProof.Rows
def wholeD : PyData → Bool
  | .int _ => true
  | _ => false
theorem whole_ib (d : PyData) : wholeD d = (isInt d && !isBool d) := by cases d <;> rfl
def isLst : PyData → Bool
  | .list _ => true
  | _ => false
theorem kit_lst {K : PySem.W.Frag} (d : PyData) : PySem.W.kitOne K (.type (tyName d)) (.type "list") = some (isLst d) := by cases d <;> rfl
theorem three3 {α : Type} {xs : List α} (h : xs.length = 3) : ∃ a b c, xs = [a, b, c] := by
  match xs, h with
  | [a, b, c], _ => exact ⟨a, b, c, rfl⟩
theorem upto_succ (lo : Int) (n : Nat) : upto lo (n + 1) = upto lo n ++ [lo + (n : Int)] := by unfold upto; rw [List.range_succ, List.map_append]; rfl
theorem count_upto (t : Int) : ∀ n : Nat, (upto 1 n).countP (fun z => decide (z = t)) = if 1 ≤ t ∧ t ≤ (n : Int) then 1 else 0
  | 0 => by rw [if_neg (by omega)]; rfl
  | n + 1 => by
    rw [upto_succ, List.countP_append, count_upto t n]
    by_cases h : (1 : Int) + (n : Int) = t
    · rw [if_neg (by omega), if_pos (by omega)]
      simp [h]
    · have e : List.countP (fun z => decide (z = t)) [(1 : Int) + (n : Int)] = 0 := by simp [h]
      rw [e]
      by_cases q : 1 ≤ t ∧ t ≤ (n : Int)
      · rw [if_pos q, if_pos (by omega)]
      · rw [if_neg q, if_neg (by omega)]
theorem count_pool (t : Int) (n : Nat) : (pool n).countP (fun z => decide (z = t)) = if 1 ≤ t ∧ t ≤ (n : Int) then 2 else 0 := by
  unfold pool
  rw [List.countP_append, count_upto]
  split <;> rfl
theorem TuL.th {H : Hp} {xs : List V} {us : List (List Int)} (h : TuL H xs us) : ThL H xs (us.map dT) := by
  refine ⟨by rw [List.length_map]; exact h.1, fun i x d h1 h2 => ?_⟩
  rw [List.getElem?_map] at h2
  cases z : us[i]? with
  | none => rw [z] at h2; cases h2
  | some u =>
    rw [z] at h2
    cases h2
    obtain ⟨a, rfl, ha⟩ := h.2 i x u h1 z
    exact (ThL.ints u).tup ha
end L2
set_option Elab.async false
set_option linter.all false
set_option maxRecDepth 100000
set_option maxHeartbeats 1000000
namespace L2
open PySem PySem.Spec PyProof.Rows
theorem ShOk.side {S : List (List Int)} (h : ShOk S) {t : List Int} (ht : t ∈ S) {i : Int} (hi : i ∈ t) : 1 ≤ absI i ∧ absI i ≤ ((S.length / 2 * 3 : Nat) : Int) := by
  have : absI i ∈ pool (S.length / 2 * 3) := h.ties.subset (List.mem_map_of_mem (List.mem_flatten.mpr ⟨t, ht, hi⟩))
  exact mem_pool this
theorem ShOk.len {S : List (List Int)} (h : ShOk S) : 2 ≤ S.length ∧ S.length ≤ 12 ∧ S.length % 2 = 0 := by
  obtain ⟨m, a, b, c⟩ := h.even
  omega
end L2
set_option linter.all false
set_option Elab.async false
set_option linter.all false
set_option maxRecDepth 100000
set_option maxHeartbeats 1000000
namespace L2
open PySem PySem.Spec PyProof.Rows
inductive Itm (H : Hp) : Bool → V → List Int → Prop where
  | int (i : Int) : Itm H false (.int i) [i]
  | tup {a : Addr} {u : List Int} : H a = some (.tup (u.map V.int)) → Itm H true (.ref a) u
def ItL (H : Hp) (tp : Bool) (xs : List V) (us : List (List Int)) : Prop := xs.length = us.length ∧ ∀ (i : Nat) (x : V) (u : List Int), xs[i]? = some x → us[i]? = some u → Itm H tp x u
theorem Itm.up {H H' : Hp} {tp : Bool} {x : V} {u : List Int} (h : Itm H tp x u) (t : Tups H H') : Itm H' tp x u := by
  cases h with
  | int i => exact .int i
  | tup e => exact .tup (t _ _ e)
theorem ItL.up {H H' : Hp} {tp : Bool} {xs : List V} {us : List (List Int)} (h : ItL H tp xs us) (t : Tups H H') : ItL H' tp xs us := ⟨h.1, fun i x u h1 h2 => (h.2 i x u h1 h2).up t⟩
theorem ItL.nil (H : Hp) (tp : Bool) : ItL H tp [] [] := ⟨rfl, fun i x u h => by cases h⟩
theorem ItL.cons {H : Hp} {tp : Bool} {x : V} {u : List Int} {xs : List V} {us : List (List Int)} (a : Itm H tp x u) (h : ItL H tp xs us) : ItL H tp (x :: xs) (u :: us) := by
  refine ⟨by simp [h.1], fun i y v h1 h2 => ?_⟩
  cases i with
  | zero => cases h1; cases h2; exact a
  | succ i => exact h.2 i y v (by simpa using h1) (by simpa using h2)
theorem ItL.append {H : Hp} {tp : Bool} {xs ys : List V} {us vs : List (List Int)} (h : ItL H tp xs us) (k : ItL H tp ys vs) : ItL H tp (xs ++ ys) (us ++ vs) := by
  refine ⟨by simp [h.1, k.1], fun i x u h1 h2 => ?_⟩
  by_cases c : i < xs.length
  · rw [List.getElem?_append_left c] at h1
    rw [List.getElem?_append_left (h.1 ▸ c)] at h2
    exact h.2 i x u h1 h2
  · rw [List.getElem?_append_right (by omega)] at h1
    rw [List.getElem?_append_right (by rw [← h.1]; omega), ← h.1] at h2
    exact k.2 _ x u h1 h2
theorem ItL.at {H : Hp} {tp : Bool} {xs : List V} {us : List (List Int)} (h : ItL H tp xs us) {i : Nat} {u : List Int} (e : us[i]? = some u) : ∃ x, xs[i]? = some x ∧ Itm H tp x u := by
  have il : i < xs.length := by rw [h.1]; exact (List.getElem?_eq_some_iff.mp e).1
  exact ⟨xs[i], List.getElem?_eq_getElem il, h.2 i _ u (List.getElem?_eq_getElem il) e⟩
theorem TuL.it {H : Hp} {xs : List V} {us : List (List Int)} (h : TuL H xs us) : ItL H true xs us := ⟨h.1, fun i x u h1 h2 => by
  obtain ⟨a, rfl, e⟩ := h.2 i x u h1 h2
  exact .tup e⟩
end L2
set_option Elab.async false
set_option linter.all false
set_option maxRecDepth 100000
set_option maxHeartbeats 1000000
set_option Elab.async false
set_option linter.all false
set_option maxRecDepth 100000
set_option maxHeartbeats 1000000
namespace L2
open PySem PySem.Spec PyProof.Rows
def LsL (H : Hp) (tp : Bool) (ys : List V) (uss : List (List (List Int))) : Prop := ys.length = uss.length ∧ ∀ (i : Nat) (y : V) (us : List (List Int)), ys[i]? = some y → uss[i]? = some us → ∃ (a : Addr) (xs : List V), y = .ref a ∧ H a = some (.lst xs) ∧ ItL H tp xs us
theorem LsL.up {H H' : Hp} {tp : Bool} {ys : List V} {uss : List (List (List Int))} (h : LsL H tp ys uss) (s : Same H H') : LsL H' tp ys uss := ⟨h.1, fun i y us h1 h2 => by
  obtain ⟨a, xs, rfl, e, k⟩ := h.2 i y us h1 h2
  exact ⟨a, xs, rfl, s _ _ e, k.up s.tups⟩⟩
theorem LsL.nil (H : Hp) (tp : Bool) : LsL H tp [] [] := ⟨rfl, fun i x u h => by cases h⟩
theorem LsL.snoc {H : Hp} {tp : Bool} {ys xs : List V} {uss : List (List (List Int))} {us : List (List Int)} {a : Addr} (h : LsL H tp ys uss) (ha : H a = some (.lst xs)) (k : ItL H tp xs us) : LsL H tp (ys ++ [.ref a]) (uss ++ [us]) := by
  refine ⟨by simp [h.1], fun i y vs h1 h2 => ?_⟩
  by_cases il : i < ys.length
  · rw [List.getElem?_append_left il] at h1
    rw [List.getElem?_append_left (h.1 ▸ il)] at h2
    exact h.2 i y vs h1 h2
  · rw [List.getElem?_append_right (by omega)] at h1
    rw [List.getElem?_append_right (by rw [← h.1]; omega), ← h.1] at h2
    cases e : i - ys.length with
    | zero =>
      rw [e] at h1 h2
      cases h1
      cases h2
      exact ⟨a, xs, rfl, ha, k⟩
    | succ j => rw [e] at h1; cases h1
end L2
set_option Elab.async false
set_option linter.all false
set_option maxRecDepth 100000
set_option maxHeartbeats 1000000
namespace L2
open PySem PySem.Spec PyProof.Rows
def datC (tp : Bool) (u : List Int) : PyData := if tp then dT u else .int (u.headD 0)
theorem dep_C (tp : Bool) (u : List Int) : (datC tp u).depth ≤ 1 := by
  cases tp with
  | false => exact Nat.zero_le _
  | true => show PyData.depthAll _ + 1 ≤ 1; rw [dep_ints]; decide
theorem dep_CL (tp : Bool) : ∀ us : List (List Int), PyData.depthAll (us.map (datC tp)) ≤ 1
  | [] => Nat.zero_le _
  | u :: us => by show max (datC tp u).depth (PyData.depthAll (us.map (datC tp))) ≤ 1; have := dep_C tp u; have := dep_CL tp us; omega
end L2
set_option Elab.async false
set_option linter.all false
set_option maxRecDepth 100000
set_option maxHeartbeats 1000000
namespace L2
open PySem PySem.Spec PyProof.Rows
theorem Same.nw {p : Addr} {H H' : Hp} {o : HO} (a : Same H H') (h : H' p = none) : Same H (upd H' p o) := fun c u e => by
  have := a c u e
  rw [upd_ne (ne_of_none this h)]; exact this
theorem Same.ow {p : Addr} {H H' : Hp} {o : HO} (a : Same H H') (h : H p = none) : Same H (upd H' p o) := fun c u e => by
  rw [upd_ne (ne_of_none e h)]; exact a c u e
end L2
set_option Elab.async false
set_option linter.all false
set_option maxRecDepth 100000
set_option maxHeartbeats 1000000
namespace L2
open PySem PySem.Spec PyProof.Rows
theorem TuL.take {H : Hp} {xs : List V} {us : List (List Int)} (h : TuL H xs us) {i : Nat} {x : V} (e : xs[i]? = some x) : ∃ u a, us[i]? = some u ∧ x = .ref a ∧ H a = some (.tup (u.map V.int)) := by
  have il : i < us.length := by rw [← h.1]; exact (List.getElem?_eq_some_iff.mp e).1
  obtain ⟨a, ea, ha⟩ := h.2 i x _ e (List.getElem?_eq_getElem il)
  exact ⟨us[i], a, List.getElem?_eq_getElem il, ea, ha⟩
end L2
set_option Elab.async false
set_option linter.all false
set_option maxRecDepth 100000
set_option maxHeartbeats 1000000
namespace L2
open PySem PySem.Spec PyProof.Rows
section
variable {prog : Program} {w : World} {A : Around} {E : Value → Shared → Prop} {s : Shared}
theorem eT_next {e it l : Addr} {i : Nat} {its : Array Value} {x old : Value} {Q : Value → Shared → Prop} (ge : IsEnum s.heap e it i old) (gi : s.heap.IsTupleIter it l i) (gt : s.heap.IsTuple l its) (gx : its[i]? = some x) (ne : e ≠ it)
    (k : ∀ h', IsEnumOut h' e it ((i : Int) + 1) x s.heap.objs.size → h'.IsTupleIter it l (i + 1) → h'.get? s.heap.objs.size = some { cls := .type "tuple", data := .seq #[.int i s.toks, x] } → h'.objs.size = s.heap.objs.size + 1 →
      (∀ b o, b ≠ e → b ≠ it → s.heap.get? b = some o → h'.get? b = some o) → Q (.ref s.heap.objs.size) { s with heap := h', toks := s.toks + 1 }) :
    wpAny (model prog w) A (Builtin.«enumerate.__next__» ⟨[.ref e], []⟩) (fun fin s' => ∃ v, fin = .done (.ret v) ∧ Q v s') E s := by
  obtain ⟨m0, G, D, T, O⟩ := s
  show wpAny _ _ (field (.ref e) 2 >>= _) _ _ _
  refine wpAny_bind (wpAny_field ge rfl (x := .ref it) rfl (wpAny_bind (nxT gi gt gx fun m1 j1 b1 => ?_)))
  have b1 : Heap.SameBut it m0 m1 := b1
  have g1 : IsEnum m1 e it i old := (b1.2 e ne).trans ge
  show wpAny _ _ (field (.ref e) 3 >>= _) _ _ ⟨m1, G, D, T, O⟩
  refine wpAny_bind (wpAny_field g1 rfl (x := rawInt i) rfl ?_)
  show wpAny _ _ (field (.ref e) 4 >>= _) _ _ ⟨m1, G, D, T, O⟩
  refine wpAny_bind (wpAny_field g1 rfl (x := .none) rfl ?_)
  show wpAny _ _ (mkInt i >>= _) _ _ ⟨m1, G, D, T, O⟩
  refine wpAny_bind (wpAny_mkInt ?_)
  show wpAny _ _ (setField (.ref e) 3 (rawInt ((i : Int) + 1)) >>= _) _ _ ⟨m1, G, D, T + 1, O⟩
  refine wpAny_bind (wpAny_setField_rec g1 (by simp) fun m2 g2 b2 => ?_)
  have b2 : Heap.SameBut e m1 m2 := b2
  have g2 : IsEnum m2 e it ((i : Int) + 1) old := g2
  show wpAny _ _ (setField (.ref e) 4 .none >>= _) _ _ ⟨m2, G, D, T + 1, O⟩
  refine wpAny_bind (wpAny_setField_rec g2 (by simp) fun m3 g3 b3 => ?_)
  have b3 : Heap.SameBut e m2 m3 := b3
  have g3 : IsEnum m3 e it ((i : Int) + 1) old := g3
  show wpAny _ _ (newTuple [.int i T, x] >>= _) _ _ ⟨m3, G, D, T + 1, O⟩
  refine wpAny_bind (wpAny_newTuple ?_)
  have g4 : IsEnum (m3.push { cls := .type "tuple", data := .seq #[.int i T, x] }) e it ((i : Int) + 1) old := Heap.get?_push_of_some _ g3
  generalize q4 : m3.push { cls := .type "tuple", data := .seq #[.int i T, x] } = m4 at g4
  have z3 : m3.objs.size = m0.objs.size := by rw [b3.1, b2.1, b1.1]
  have le : e < m0.objs.size := Heap.lt_size ge
  have t4 : m4.get? m0.objs.size = some { cls := .type "tuple", data := .seq #[.int i T, x] } := by rw [← q4, ← z3]; exact Heap.get?_push_size _ rfl
  have z4 : m4.objs.size = m0.objs.size + 1 := by rw [← q4, Heap.size_push, z3]
  have kp : ∀ b o, b ≠ e → b ≠ it → m0.get? b = some o → m4.get? b = some o := fun b o n1 n2 q => by
    rw [← q4]
    exact Heap.get?_push_of_some _ (b3.extBut b o n1 (b2.extBut b o n1 (b1.extBut b o n2 q)))
  have j4 : m4.IsTupleIter it l (i + 1) := by
    obtain ⟨o, ho, c, d⟩ := j1
    rw [← q4]
    exact ⟨o, Heap.get?_push_of_some _ (b3.extBut _ _ (Ne.symm ne) (b2.extBut _ _ (Ne.symm ne) ho)), c, d⟩
  show wpAny _ _ (Builtin.SmallTypes.ownedTupleIsFree (.ref e) >>= _) _ _ ⟨m4, G, D, T + 1, O⟩
  rw [z3]
  refine wpAny_bind ?_
  unfold Builtin.SmallTypes.ownedTupleIsFree
  refine wpAny_bind (wpAny_field g4 rfl (x := .none) rfl (wpAny_pure ?_))
  simp only [if_true]
  refine wpAny_bind (wpAny_rule (wpAny_bind (wpAny_field g4 rfl (x := old) rfl (wpAny_bind (wpAny_setField_rec g4 (by simp) fun m5 g5 b5 => ?_)))))
  have b5 : Heap.SameBut e m4 m5 := b5
  have g5 : IsEnum m5 e it ((i : Int) + 1) x := g5
  show wpAny _ _ (Builtin.SmallTypes.ownedTupleHandOut (.ref e) (.ref m0.objs.size) >>= _) _ _ ⟨m5, G, D, T + 1, O⟩
  refine wpAny_bind ?_
  unfold Builtin.SmallTypes.ownedTupleHandOut
  refine wpAny_bind (wpAny_setField_rec g5 (by simp) fun m6 g6 b6 => ?_)
  have b6 : Heap.SameBut e m5 m6 := b6
  have g6 : IsEnumOut m6 e it ((i : Int) + 1) x m0.objs.size := g6
  refine wpAny_setField_rec g6 (by simp) fun m7 g7 b7 => ?_
  have b7 : Heap.SameBut e m6 m7 := b7
  have g7 : IsEnumOut m7 e it ((i : Int) + 1) x m0.objs.size := g7
  refine wpAny_bind (wpAny_letGo (wpAny_pure ⟨_, rfl, k m7 g7 ?_ ?_ ?_ ?_⟩))
  · obtain ⟨o, ho, c, d⟩ := j4
    exact ⟨o, b7.extBut _ _ (Ne.symm ne) (b6.extBut _ _ (Ne.symm ne) (b5.extBut _ _ (Ne.symm ne) ho)), c, d⟩
  · exact b7.extBut _ _ (Nat.ne_of_gt le) (b6.extBut _ _ (Nat.ne_of_gt le) (b5.extBut _ _ (Nat.ne_of_gt le) t4))
  · rw [b7.1, b6.1, b5.1, z4]
  · exact fun b o n1 n2 q => b7.extBut b o n1 (b6.extBut b o n1 (b5.extBut b o n1 (kp b o n1 n2 q)))
theorem eT_item {e it l : Addr} {i : Nat} {its : Array Value} {x old : Value} {Q : Option Value → Shared → Prop} (ge : IsEnum s.heap e it i old) (gi : s.heap.IsTupleIter it l i) (gt : s.heap.IsTuple l its) (gx : its[i]? = some x) (ne : e ≠ it)
    (k : ∀ h', IsEnumOut h' e it ((i : Int) + 1) x s.heap.objs.size → h'.IsTupleIter it l (i + 1) → h'.get? s.heap.objs.size = some { cls := .type "tuple", data := .seq #[.int i s.toks, x] } → h'.objs.size = s.heap.objs.size + 1 →
      (∀ b o, b ≠ e → b ≠ it → s.heap.get? b = some o → h'.get? b = some o) → Q (some (.ref s.heap.objs.size)) { s with heap := h', toks := s.toks + 1 }) : wpAny (model prog w) A (pyNext (.ref e)) Q E s := by
  have ty : s.TypeIs (.ref e) "enumerate" := ⟨_, ge, rfl⟩
  unfold pyNext
  exact wpAny_bind (wpAny_attempt (wpAny_callSpecial?_slot (name := Str.ofString "__next__") ty F.slot_enumerate_next (wpAny_call_entry F.slot_enumerate_next ty F.entry_enumerate_next (eT_next ge gi gt gx ne fun h' a b c d q => wpAny_pure (k h' a b c d q)) (F.args_enumerate_next_1 _))))
theorem eT_end {e it l : Addr} {i : Nat} {its : Array Value} {old : Value} {Q : Option Value → Shared → Prop} (hh : A.handled = none) (ge : IsEnum s.heap e it i old) (gi : s.heap.IsTupleIter it l i) (gt : s.heap.IsTuple l its) (gx : its[i]? = none)
    (k : ∀ h', Heap.ExtBut it s.heap h' → Q none { s with heap := h' }) : wpAny (model prog w) A (pyNext (.ref e)) Q E s := by
  have ty : s.TypeIs (.ref e) "enumerate" := ⟨_, ge, rfl⟩
  unfold pyNext
  refine wpAny_bind (wpAny_attempt (wpAny_callSpecial?_slot (name := Str.ofString "__next__") ty F.slot_enumerate_next (wpAny_call_entry F.slot_enumerate_next ty F.entry_enumerate_next ?_ (F.args_enumerate_next_1 _))))
  show wpAny _ _ (field (.ref e) 2 >>= _) _ _ _
  refine wpAny_bind (wpAny_field ge rfl (x := .ref it) rfl (wpAny_bind (nxTe hh gi gt gx fun h' x he' hx' => ?_)))
  obtain ⟨o, ho, hc⟩ := hx'
  exact wpAny_bind (wpAny_isInstance (T := "StopIteration") (b := true) ⟨o, ho, hc⟩ isSubtype_stop (wpAny_pure (k _ he')))
open PySem.AutoSeq1 (wpAny_loadPart') in
theorem new_enT (l : Addr) (its : Array Value) (n : Nat) (dct : Option Addr) (sl : Array (Option Value)) :
    Meets (Builtin.«enumerate.__new__» ⟨[.type "enumerate", .ref l], []⟩) (fun _ R s => s.heap.get? l = some { cls := .type "tuple", dict := dct, data := .seq its n, slots := sl } ∧
      R (.ok (.ret (.ref (s.heap.push { cls := .type "tuple_iterator", data := .fields #[.ref l, .int 0 0] }).objs.size))) { s with heap := (s.heap.push { cls := .type "tuple_iterator", data := .fields #[.ref l, .int 0 0] }).push { cls := .type "enumerate", data := .fields #[.none, .bool false, .ref s.heap.objs.size, rawInt 0, .none, .none] } }) :=
  .of_wp fun prog w A R st hh => by
    obtain ⟨m0, G, D, T, O⟩ := st
    obtain ⟨hl, hR⟩ := hh
    have hsub := sub_enumerate
    have hT : Heap.IsTuple (Shared.heap ⟨m0, G, D, T, O⟩) l its := ⟨_, hl, rfl, n, rfl⟩
    wp_walk using wpAny_loadPart' hl
    refine wpAny_stack_any fun st => wpAny_pure ?_
    split
    · rename_i c _ _ _ _ _
      cases (c == Value.type "enumerate")
      · wp_walk using wpAny_loadPart' hl, wpAny_pyIter_tuple hT
        exact ⟨_, rfl, hR⟩
      · wp_walk using wpAny_loadPart' hl, wpAny_pyIter_tuple hT
        exact ⟨_, rfl, hR⟩
    · wp_walk using wpAny_loadPart' hl, wpAny_pyIter_tuple hT
      exact ⟨_, rfl, hR⟩
theorem call_enT {l : Addr} {its : Array Value} {Q : Value → Shared → Prop} (ht : s.heap.IsTuple l its)
    (k : ∀ h', IsEnum h' (s.heap.objs.size + 1) s.heap.objs.size 0 .none → h'.IsTupleIter s.heap.objs.size l 0 → h'.objs.size = s.heap.objs.size + 2 → (∀ b o, s.heap.get? b = some o → h'.get? b = some o) → Q (.ref (s.heap.objs.size + 1)) { s with heap := h' }) :
    wpAny (model prog w) A (call (.type "enumerate") [.ref l]) Q E s := by
  obtain ⟨⟨c, dct, dt, sl⟩, hl, hc, n, hd⟩ := ht
  simp only at hc hd
  subst hc hd
  refine callType_new F.called_enumerate (by decide) (F.typeCall_enumerate_1 _) (F.newCall_enumerate_1 _) (fun obj => F.args_object_init_2 obj _) F.entry_enumerate_new (new_enT l its n dct sl) ⟨hl, ?_⟩
  have hz : (s.heap.push { cls := .type "tuple_iterator", data := .fields #[.ref l, .int 0 0] }).objs.size = s.heap.objs.size + 1 := Heap.size_push ..
  show _ ∧ _
  rw [hz]
  have ge : IsEnum ((s.heap.push { cls := .type "tuple_iterator", data := .fields #[.ref l, .int 0 0] }).push { cls := .type "enumerate", data := .fields #[.none, .bool false, .ref s.heap.objs.size, rawInt 0, .none, .none] }) (s.heap.objs.size + 1) s.heap.objs.size 0 .none := by
    have := Heap.get?_push_size (s.heap.push { cls := .type "tuple_iterator", data := .fields #[.ref l, .int 0 0] }) (o := { cls := .type "enumerate", data := .fields #[.none, .bool false, .ref s.heap.objs.size, rawInt 0, .none, .none] }) rfl
    rw [hz] at this
    exact this
  exact ⟨⟨_, ge, rfl⟩, k _ ge ⟨_, Heap.get?_push_of_some _ (Heap.get?_push_size _ rfl), rfl, rfl⟩ (by rw [Heap.size_push, hz]) fun b o q => Heap.get?_push_of_some _ (Heap.get?_push_of_some _ q)⟩
end
def Iteu (K : PySem.W.Frag) (a : Addr) : It :=
  ⟨fun i H => ∃ xs x, SqT K H a xs ∧ xs[i]? = some x,
   fun i H v H' => ∃ p x, v = .ref p ∧ H p = none ∧ H' = upd H p (.tup [.int (i : Int), x]) ∧ ∀ xs, SqT K H a xs → xs[i]? = some x,
   fun i H => ∃ xs, SqT K H a xs ∧ xs[i]? = none⟩
def EnuAt (e it a : Addr) (i : Nat) (h : Heap) : Prop := (∃ old, IsEnum h e it (i : Int) old) ∧ h.IsTupleIter it a i
theorem turn_enu {P : Program} {w : World} {K : PySem.W.Frag} {es : List Expr} {k : Nat} {pos : PySem.Pos} (a e it : Addr) (hei : e ≠ it) (hle : a ≠ e) (hli : a ≠ it) : Turn P w K (.Tuple es k pos) (Iteu K a) [e, it] e (EnuAt e it a) where
  mem := by simp
  obj := fun i h st c hc => by
    obtain ⟨⟨old, he⟩, ⟨o1, e1, c1, d1⟩⟩ := st
    simp only [List.mem_cons, List.not_mem_nil, or_false] at hc
    rcases hc with rfl | rfl
    · exact ⟨_, he, fun v q => by cases q⟩
    · exact ⟨o1, e1, fun v q => by rw [d1] at q; cases q⟩
  keep := fun i h h' st q => by
    obtain ⟨⟨old, he⟩, ⟨o1, e1, c1, d1⟩⟩ := st
    exact ⟨⟨old, q _ (by simp) _ he⟩, ⟨o1, q _ (by simp) o1 e1, c1, d1⟩⟩
  item := by
    intro X hP hw hK hc i pins s σ H E I hf st hg
    subst hP hw hK
    obtain ⟨xs, x, hq1, hx⟩ := hg
    obtain ⟨⟨old, he⟩, l1⟩ := st
    obtain ⟨its1, rv1, p1, _⟩ := I.tuple hq1
    obtain ⟨ux, hux, rux⟩ := rv1.get hx
    refine eT_item he l1 p1 (x := ux) (by simpa using hux) hei fun h' z1 j1 T1 sz kp => ?_
    refine ⟨_, rfl, wpAny_letOwnedTupleGo_enum z1 fun h2 z2 sb => ?_⟩
    have helt : e < s.heap.objs.size := Heap.lt_size he
    have T2 := sb.extBut _ _ (Nat.ne_of_gt helt) T1
    have kp2 : ∀ c o, c ∉ [e, it] → s.heap.get? c = some o → h2.get? c = some o := fun c o hc x => by
      simp only [List.mem_cons, List.not_mem_nil, or_false, not_or] at hc
      exact sb.extBut _ _ hc.1 (kp c o hc.1 hc.2 x)
    have I2 : Inv X pins σ (upd H s.heap.objs.size (.tup [.int (i : Int), x])) { s with heap := h2, toks := s.toks + 1 } := I.turnedNew kp2 hf (Nat.le_refl _) ⟨by show 2 ≤ sizeLine; decide, [.int (i : Int) s.toks, ux], .cons ⟨_, rfl⟩ (.cons rux .nil), ⟨_, T2, rfl, _, rfl⟩⟩
    refine ⟨.ref s.heap.objs.size, _, I2, rfl, ⟨_, x, rfl, I.hok.fresh (Nat.le_refl _), rfl, fun xs' h => ?_⟩, ⟨⟨ux, by simpa using z2⟩, ?_⟩, fun c hc => ?_⟩
    · rw [I.tuple_inj h hq1]; exact hx
    · obtain ⟨o, ho, c', d'⟩ := j1
      exact ⟨o, sb.extBut _ _ (Ne.symm hei) ho, c', d'⟩
    · have hlt : c < s.heap.objs.size := by
        simp only [List.mem_cons, List.not_mem_nil, or_false] at hc
        rcases hc with rfl | rfl
        · exact helt
        · obtain ⟨_, x, _⟩ := l1; exact Heap.lt_size x
      rw [upd_ne (Nat.ne_of_lt hlt)]
      exact (hf c hc).1
  done := by
    intro X hP hw hK hc i pins s σ H E I hf st hg
    subst hP hw hK
    obtain ⟨xs, hq1, hend⟩ := hg
    obtain ⟨⟨old, he⟩, l1⟩ := st
    obtain ⟨its1, rv1, p1, _⟩ := I.tuple hq1
    have e1 := rv1.length
    rw [List.getElem?_eq_none_iff] at hend
    refine eT_end (I.ok.hd hc) he l1 p1 (by simp; omega) fun h' kp => ⟨rfl, I.turnedL (t' := s.toks) (ch := [e, it]) (fun c o hc x => ?_) hf⟩
    simp only [List.mem_cons, List.not_mem_nil, or_false, not_or] at hc
    exact kp c o hc.2 x
  self := fun _ _ _ _ _ st h => by
    obtain ⟨⟨old, he⟩, _⟩ := st
    exact wpAny_pyIter_enum he h
section
variable {X : Cx}
def iEnumT (K : PySem.W.Frag) (ta : TA) : TI := fun σ H R => ta σ H fun vs H1 => ∃ a, vs = [.ref a] ∧ (∃ xs, SqT K H1 a xs) ∧ R (Iteu K a) H1
theorem pi_enumT {tes : List Expr} {tk : Nat} {tpos p pos : PySem.Pos} {a : Expr} {ta : TA} (hg : Gl X "enumerate") (hm : X.mg "enumerate" = none) (ha : PA X [a] ta)
    (hs : starEach [a] X.env = [(false, eval a X.env)] := by rfl) : PI X (.Tuple tes tk tpos) (.Call (.Name "enumerate" p) [a] [] pos) (iEnumT X.K ta) := by
  intro pins s σ H R I h
  refine wpAny_Call_Name_kw (ld_blt I hg hm boot_enumerate ?_)
  refine PyProof.Rows.callWith_type1 (rest := []) (thn (ha pos pins s σ H _ I h) fun us s1 ⟨vs, H1, I1, r1, l1, e, ⟨xs, hx⟩, q⟩ => ?_) hs rfl
  subst e
  obtain ⟨u1, rfl, rfl⟩ := vals1 r1
  obtain ⟨its1, rv1, p1, _⟩ := I1.tuple hx
  have a1 : l1 < s1.heap.objs.size := by obtain ⟨_, e, _⟩ := p1; exact Heap.lt_size e
  refine call_enT p1 fun h' he hit sz kp => ?_
  refine wpAny_pyIter_enum he ?_
  refine ⟨_, [_, _], _, _, H1, rfl, I1.kept (t' := s1.toks) kp, turn_enu l1 _ _ (Nat.succ_ne_self _) (Nat.ne_of_lt (Nat.lt_succ_of_lt a1)) (Nat.ne_of_lt a1), ⟨⟨_, he⟩, hit⟩, fun c hc => ?_, q⟩
  have hge : s1.heap.objs.size ≤ c := by
    simp only [List.mem_cons, List.not_mem_nil, or_false] at hc
    rcases hc with rfl | rfl
    · exact Nat.le_succ _
    · exact Nat.le_refl _
  exact I1.fpOk hge (I1.hok.fresh hge)
theorem for_enumT {K : PySem.W.Frag} {a : Addr} {xs : List V} {g : TG} {tb : TS} {D : Ends} {σ : L2.St} {H : Hp} (Pv : Nat → L2.St → Hp → Prop) (h0 : Pv 0 σ H) (hl : ∀ i σ H, i ≤ xs.length → Pv i σ H → SqT K H a xs)
    (hs : ∀ i x σ H (p : Addr), xs[i]? = some x → Pv i σ H → H p = none → g (.ref p) σ (upd H p (.tup [.int (i : Int), x])) fun σ2 H2 => tb { D with nx := Pv (i + 1), ct := Pv (i + 1), bk := D.nx } σ2 H2) (hd : ∀ σ H, Pv xs.length σ H → D.nx σ H) :
    ∃ W : Nat → Nat → L2.St → Hp → Prop, (∃ m, W 0 m σ H) ∧ ∀ i m σ H, W i m σ H →
      ((Iteu K a).stop i H ∧ D.nx σ H) ∨ ((Iteu K a).go i H ∧ ∃ N : L2.St → Hp → Prop, (∀ σ' H', N σ' H' → ∃ m', m' < m ∧ W (i + 1) m' σ' H') ∧ ∀ x H', (Iteu K a).yld i H x H' → g x σ H' fun σ2 H2 => tb { D with nx := N, ct := N, bk := D.nx } σ2 H2) := by
  refine ⟨fun i m σ H => m = xs.length - i ∧ i ≤ xs.length ∧ Pv i σ H, ⟨xs.length, by simp, Nat.zero_le _, h0⟩, ?_⟩
  rintro i m σ H ⟨rfl, hi, p⟩
  have q1 := hl i σ H hi p
  by_cases hlt : i < xs.length
  · refine .inr ⟨⟨xs, xs[i], q1, by simp [hlt]⟩, Pv (i + 1), fun σ' H' p' => ⟨xs.length - (i + 1), by omega, rfl, hlt, p'⟩, fun x H' y => ?_⟩
    obtain ⟨q, x1, rfl, hq, rfl, e1⟩ := y
    exact hs i x1 σ _ q (e1 xs q1) p hq
  · have e : i = xs.length := by omega
    subst e
    exact .inl ⟨⟨xs, q1, List.getElem?_eq_none (Nat.le_refl _)⟩, hd σ H p⟩
end
end L2
set_option Elab.async false
set_option linter.all false
set_option maxRecDepth 100000
set_option maxHeartbeats 1000000
namespace Toy
open PySem L2 PyProof.Rows
def top (i : Nat) : Stmt := PySem.Challenge.pw_farcords_k52_arcs_that_meet_or_not.main.body.getD i (.Pass ⟨0, 0, 0, 0⟩)
structure Kn (P : Program) (w : World) (K : PySem.W.Frag) (mg : Str → Option Value) (base : Heap) (x : Str) (k : Nat) (ps : List Str) (sp : Sp) : Prop where
  ex : ∃ (f : Addr) (fd : FuncData), FnOk P w K mg base CX0 k f fd ps sp ∧ mg x = some (.ref f) ∧ PySem.W.keepIn K (.ref f) = true ∧ Binds K fd ps []
theorem pe_callD {X : Cx} {x : Str} {k j : Nat} {ps : List Str} {sp : Sp} {e : Expr} {es : List Expr} {t : TA} {p pos : PySem.Pos} (G : Kn X.prog X.w X.K X.mg X.base x k ps sp) (hr : Room j X.A) (hg : Gl X x) (ha : PA X (e :: es) t) (hle : k ≤ j := by decide)
    (hdb : (x == ("__debug__" : Str)) = false := by decide)
    (he : starEach (e :: es) X.env = (false, eval e X.env) :: starEach es X.env := by rfl) (hpl : (backTo pos (starEach es X.env)).any (·.1) = false := by rfl) : PE X (.Call (.Name x p) (e :: es) [] pos) (tCall sp [] E0 t) := by
  obtain ⟨f, fd, F, hm, hk, hb⟩ := G.ex
  exact pe_call F (hr.mono hle) hg hm hk hb .nil pass0 ha hdb he hpl
structure Txt (mg : Str → Option Value) : Prop where
  len : mg "len" = none
  range : mg "range" = none
  min : mg "min" = none
  max : mg "max" = none
  isinstance : mg "isinstance" = none
  bool : mg "bool" = none
  int : mg "int" = none
  tuple : mg "tuple" = none
  list : mg "list" = none
  str : mg "str" = none
  all : mg "all" = none
  sum : mg "sum" = none
  sorted : mg "sorted" = none
def But (d : Addr) (H H' : Hp) : Prop := ∀ c o, H c = some o → c ≠ d → H' c = some o
theorem But.refl (d : Addr) (H : Hp) : But d H H := fun _ _ e _ => e
theorem But.trans {d : Addr} {H H1 H2 : Hp} (a : But d H H1) (b : But d H1 H2) : But d H H2 := fun c o e n => b c o (a c o e n) n
theorem But.upd {d : Addr} {H H' : Hp} {o : HO} (a : But d H H') : But d H (upd H' d o) := fun c u e n => by rw [upd_ne n]; exact a c u e n
theorem But.new {d p : Addr} {H H' : Hp} {o : HO} (a : But d H H') (h : H' p = none) : But d H (L2.upd H' p o) := fun c u e n => by
  have := a c u e n
  rw [upd_ne (ne_of_none this h)]; exact this
theorem Same.new {p : Addr} {H H' : Hp} {o : HO} (a : Same H H') (h : H' p = none) : Same H (L2.upd H' p o) := fun c u e => by
  have := a c u e
  rw [upd_ne (ne_of_none this h)]; exact this
theorem log_ok {m : Int} (h0 : 0 < m) (h : m < 10 ^ 100) : m.natAbs.log2 < 9000 := by
  have h2 : m.natAbs < 2 ^ 400 := by
    have : (10 : Int) ^ 100 ≤ 2 ^ 400 := by decide +kernel
    omega
  have := (Nat.log2_lt (n := m.natAbs) (k := 400) (by omega)).mpr h2
  omega
section
variable {P : Program} {w : World} {K : PySem.W.Frag} {mg : Str → Option Value} {base : Heap}
abbrev s__law_cell_at : Stmt := top 17
theorem sc__law_cell_at : FnScope ["_law_script", "_law_k"] ["_law_script", "_law_k"] (defScope s__law_cell_at) := ⟨rfl, rfl, rfl, by decide +kernel, rfl, by decide +kernel, by decide +kernel⟩
def spCell (K : PySem.W.Frag) : Sp := fun vs H Q _ => ∃ (a : Addr) (ns : List Int) (k : Int), vs = [.ref a, .int k] ∧ SqL K H a (ns.map V.int) ∧ 0 ≤ k ∧ ∀ n : Int, Q (.int n) H
theorem ok_cell {f : Addr} {fd : FuncData} (F : Fun K "_law_cell_at" "_law_cell_at" s__law_cell_at f fd) (M : Txt mg) : FnOk P w K mg base CX0 1 f fd ["_law_script", "_law_k"] (spCell K) := by
  have sc := sc__law_cell_at
  refine F.ok sc (fun vs H Q E h => ?_) (fun cdv A outer s H vs Q E hr h => ?_)
  · obtain ⟨a, ns, k, rfl, _⟩ := h
    rfl
  · obtain ⟨a, ns, i, rfl, hS, h0, k⟩ := h
    refine ⟨_, (pss_cons (ps_if (pt_cmpR op_lt (pv 1) (pe_callB (call_lenK (K := K)) (by rfl) M.len PySem.boot_len (pa_Name (pv 0) pa_nil)) (nomark _)) (pss_one (ps_ret (pe_ix (ix_listK (K := K)) (pv 0) (pv 1) (fun _ _ => rfl)))) pss_nil)
      (pss_one (ps_ret pe_int))), ?_⟩
    refine ⟨_, rfl, _, rfl, a, _, rfl, .inl hS, _, _, rfl, rfl, _, rfl, ?_⟩
    refine ite2 (fun e => ?_) (fun e => ?_)
    · have e := of_decide_eq_true e
      rw [List.length_map] at e
      have hlt : i.toNat < ns.length := by omega
      refine ⟨_, rfl, _, rfl, a, _, _, V.int (ns[i.toNat]), rfl, rfl, hS, ?_, k _⟩
      have := atI_nat (xs := ns.map V.int) (j := i.toNat) (v := V.int (ns[i.toNat])) (by rw [List.getElem?_map, List.getElem?_eq_getElem hlt]; rfl)
      rw [Int.toNat_of_nonneg h0] at this
      exact this
    · exact k 0
end
end Toy
namespace Toy
open PySem L2 PyProof.Rows
def Dgt (m : Int) : Prop := m ≤ 10 ^ 60
theorem dg {m : Int} (h : m ≤ 1000) : Dgt m := Int.le_trans h (by decide +kernel)
theorem Dgt.log {m : Int} (h : Dgt m) (h0 : 0 < m) : m.natAbs.log2 < 9000 := log_ok h0 (Int.lt_of_le_of_lt h (by decide +kernel))
def Rest (H : Hp) (d : Addr) : Prop := ∃ n : Int, H d = some (.lst [.int n])
theorem Rest.new {d p : Addr} {H : Hp} {o : HO} (a : Rest H d) (h : H p = none) : Rest (L2.upd H p o) d := by
  obtain ⟨n, e⟩ := a
  exact ⟨n, by rw [upd_ne (ne_of_none e h)]; exact e⟩
theorem Rest.ne {d p : Addr} {H : Hp} (a : Rest H d) (h : H p = none) : p ≠ d := by
  obtain ⟨n, e⟩ := a
  exact fun z => by rw [z, e] at h; cases h
theorem Rest.same {d : Addr} {H H' : Hp} (a : Rest H d) (s : Same H H') : Rest H' d := let ⟨n, e⟩ := a; ⟨n, s _ _ e⟩
theorem But.tupsR {d : Addr} {H H' : Hp} (b : But d H H') (r : Rest H d) : Tups H H' := fun c xs e => b c _ e fun z => by
  obtain ⟨n, q⟩ := r
  rw [z, q] at e
  cases e
theorem But.same {d : Addr} {H H' : Hp} (s : Same H H') : But d H H' := fun c o e _ => s c o e
theorem But.fr {d p : Addr} {H H' : Hp} (b : But d H H') (h : H' p = none) (n : p ≠ d) : H p = none := by
  cases e : H p with
  | none => rfl
  | some o => rw [b p o e n] at h; cases h
theorem at8 {a0 a1 a2 a3 a4 a5 a6 a7 r : Int} (r0 : 0 ≤ r) (r1 : r < 8) (h : ∀ z ∈ [a0, a1, a2, a3, a4, a5, a6, a7], 0 < z ∧ z < 100000) : ∃ z : Int, atI [V.int a0, V.int a1, V.int a2, V.int a3, V.int a4, V.int a5, V.int a6, V.int a7] r = some (V.int z) ∧ 0 < z ∧ z < 100000 := by
  have hc : r = 0 ∨ r = 1 ∨ r = 2 ∨ r = 3 ∨ r = 4 ∨ r = 5 ∨ r = 6 ∨ r = 7 := by omega
  rcases hc with rfl | rfl | rfl | rfl | rfl | rfl | rfl | rfl
  · exact ⟨a0, rfl, h a0 (by simp)⟩
  · exact ⟨a1, rfl, h a1 (by simp)⟩
  · exact ⟨a2, rfl, h a2 (by simp)⟩
  · exact ⟨a3, rfl, h a3 (by simp)⟩
  · exact ⟨a4, rfl, h a4 (by simp)⟩
  · exact ⟨a5, rfl, h a5 (by simp)⟩
  · exact ⟨a6, rfl, h a6 (by simp)⟩
  · exact ⟨a7, rfl, h a7 (by simp)⟩
section
variable {P : Program} {w : World} {K : PySem.W.Frag} {mg : Str → Option Value} {base : Heap}
abbrev s__law_big : Stmt := top 18
theorem sc__law_big : FnScope ["_law_script", "_law_at", "_law_by", "_law_prime", "_law_cell", "_law_big_here", "_law_k", "_law_one"] ["_law_script", "_law_at"] (defScope s__law_big) := ⟨rfl, rfl, rfl, by decide +kernel, rfl, by decide +kernel, by decide +kernel⟩
def spBig (K : PySem.W.Frag) : Sp := fun vs H Q _ => ∃ (a : Addr) (ns : List Int) (k : Int), vs = [.ref a, .int k] ∧ SqL K H a (ns.map V.int) ∧ 0 ≤ k ∧ ∀ (n : Int) H', Same H H' → Q (.int n) H'
theorem ok_big {f : Addr} {fd : FuncData} (F : Fun K "_law_big" "_law_big" s__law_big f fd) (M : Txt mg) (G_law_cell_at : Kn P w K mg base "_law_cell_at" 1 ["_law_script", "_law_k"] (spCell K)) : FnOk P w K mg base CX0 2 f fd ["_law_script", "_law_at"] (spBig K) := by
  have sc := sc__law_big
  refine F.ok sc (fun vs H Q E h => ?_) (fun cdv A outer s H vs Q E hr h => ?_)
  · obtain ⟨a, ns, k, rfl, _⟩ := h
    rfl
  · obtain ⟨a, ns, i, rfl, hS, h0, k⟩ := h
    refine ⟨_, (pss_cons (ps_set (i := 2) sc.nd rfl (Or.inl rfl) (pe_tup (pa_o4 pe_int pe_int pe_int pe_int (pa_o4 pe_int pe_int pe_int pe_int pa_nil))))
      (pss_cons (ps_set (i := 3) sc.nd rfl (Or.inl rfl) (pe_tup (pa_o4 pe_int pe_int pe_int pe_int (pa_o4 pe_int pe_int pe_int pe_int pa_nil))))
      (pss_cons (ps_set (i := 4) sc.nd rfl (Or.inl rfl) (pe_callD G_law_cell_at hr rfl (pa_Name (pv 0) (pa_Name (pv 1) pa_nil))))
      (pss_cons (ps_if (pt_cmpR op_ge (pv 4) (pe_op op_pow pe_int pe_int) (nomark _)) (pss_one (ps_ret (pv 4))) pss_nil)
      (pss_cons (ps_set (i := 5) sc.nd rfl (Or.inl rfl) pe_int)
      (pss_cons (ps_for PassesOwn.never rfl (pi_range1 rfl M.range (pa_Constant pe_int pa_nil)) (pg_name (i := 6) sc.nd rfl (Or.inl rfl))
      (pss_cons (ps_set (i := 7) sc.nd rfl (Or.inl rfl) (pe_op op_add (pe_op op_add (pe_op op_mod (pe_callD G_law_cell_at hr rfl (pa_Name (pv 0) (pa_BinOp (pe_op op_add (pv 1) (pe_op op_mod (pv 6) pe_int)) pa_nil))) (pe_op op_pow pe_int pe_int)) pe_int) (pe_op op_mul (pv 6) (pv 6))))
      (pss_one (ps_set (i := 5) sc.nd rfl (Or.inl rfl) (pe_op op_add (pe_op op_mul (pv 5) pe_int) (pe_op op_mod (pe_op op_mod (pe_op op_mul (pv 7) (pe_ix (ix_tupK (K := K)) (pv 2) (pe_op op_mod (pv 6) pe_int) (fun _ _ => rfl))) (pe_ix (ix_tupK (K := K)) (pv 3) (pe_op op_mod (pv 6) pe_int) (fun _ _ => rfl))) pe_int))))))
      (pss_one (ps_ret (pv 5))))))))), ?_⟩
    refine ⟨(by show 8 ≤ sizeLine; decide), fun t1 ht1 => ?_⟩
    have s1 := Same.new (o := .tup [.int 48271, .int 69621, .int 16807, .int 39373, .int 21401, .int 60493, .int 87721, .int 31337]) (Same.refl H) ht1
    have h1 : (upd H t1 (.tup [.int 48271, .int 69621, .int 16807, .int 39373, .int 21401, .int 60493, .int 87721, .int 31337])) t1 = some (.tup [.int 48271, .int 69621, .int 16807, .int 39373, .int 21401, .int 60493, .int 87721, .int 31337]) := upd_same
    generalize upd H t1 (.tup [.int 48271, .int 69621, .int 16807, .int 39373, .int 21401, .int 60493, .int 87721, .int 31337]) = H1 at s1 h1 ⊢
    refine ⟨(by show 8 ≤ sizeLine; decide), fun t2 ht2 => ?_⟩
    have s2 := Same.new (o := .tup [.int 99991, .int 99989, .int 99971, .int 99961, .int 99929, .int 99923, .int 99907, .int 99901]) (Same.refl H1) ht2
    have h2 : (upd H1 t2 (.tup [.int 99991, .int 99989, .int 99971, .int 99961, .int 99929, .int 99923, .int 99907, .int 99901])) t2 = some (.tup [.int 99991, .int 99989, .int 99971, .int 99961, .int 99929, .int 99923, .int 99907, .int 99901]) := upd_same
    generalize upd H1 t2 (.tup [.int 99991, .int 99989, .int 99971, .int 99961, .int 99929, .int 99923, .int 99907, .int 99901]) = H2 at s2 h2 ⊢
    have h1' := s2 _ _ h1
    have s02 := s1.trans s2
    refine ⟨_, rfl, _, rfl, a, ns, i, rfl, s02.seq hS, h0, fun cell => ?_⟩
    refine ⟨_, rfl, _, _, rfl, rfl, ⟨by decide, by decide, by decide⟩, _, _, rfl, rfl, _, rfl, ite2 (fun _ => ?_) (fun _ => ?_)⟩
    · exact ⟨_, rfl, k cell H2 s02⟩
    refine ⟨60, rfl, by decide, by decide, for_range (n := 60) (fun j σ H' => ∃ (x6 x7 : Option V) (b : Int), σ = [some (.ref a), some (.int i), some (.ref t1), some (.ref t2), some (.int cell), some (.int b), x6, x7] ∧ H2 = H') ⟨_, _, 0, rfl, rfl⟩ ?_ ?_⟩
    · rintro j σ H' hj ⟨x6, x7, b, rfl, rfl⟩
      have j9 : 0 ≤ (0 + (j : Int)) % 9 := Int.emod_nonneg _ (by decide)
      refine ⟨_, rfl, _, rfl, _, rfl, _, _, rfl, rfl, (by show (0 : Int) < 9; decide), _, _, rfl, rfl, a, ns, _, rfl, s02.seq hS, by omega, fun c2 => ?_⟩
      refine ⟨_, _, rfl, rfl, ⟨by decide, by decide, by decide⟩, _, _, rfl, rfl, (by show (0 : Int) < 10 ^ 18; decide), _, _, rfl, rfl, _, rfl, _, rfl, _, _, rfl, rfl, .inl ⟨by omega, by omega⟩, _, _, rfl, rfl, ?_⟩
      obtain ⟨z1, e1, p1, q1⟩ := at8 (a0 := 48271) (a1 := 69621) (a2 := 16807) (a3 := 39373) (a4 := 21401) (a5 := 60493) (a6 := 87721) (a7 := 31337) (r := (0 + (j : Int)) % 8) (Int.emod_nonneg _ (by decide)) (Int.emod_lt_of_pos _ (by decide)) (by decide)
      obtain ⟨z2, e2, p2, q2⟩ := at8 (a0 := 99991) (a1 := 99989) (a2 := 99971) (a3 := 99961) (a4 := 99929) (a5 := 99923) (a6 := 99907) (a7 := 99901) (r := (0 + (j : Int)) % 8) (Int.emod_nonneg _ (by decide)) (Int.emod_lt_of_pos _ (by decide)) (by decide)
      refine ⟨_, rfl, _, _, rfl, rfl, .inr ⟨by decide, by decide⟩, _, rfl, _, rfl, _, rfl, _, _, rfl, rfl, (by show (0 : Int) < 8; decide), t1, _, _, _, rfl, rfl, SqT.of h1', e1, _, z1, rfl, rfl, .inr ⟨by omega, by omega⟩, _, rfl, _, rfl, _, _, rfl, rfl, (by show (0 : Int) < 8; decide), t2, _, _, _, rfl, rfl, SqT.of h2, e2, _, z2, rfl, rfl, p2, _, _, rfl, rfl, (by show (0 : Int) < 7919; decide), _, _, rfl, rfl, ?_⟩
      exact ⟨_, _, _, rfl, rfl⟩
    · rintro σ H' ⟨x6, x7, b, rfl, rfl⟩
      exact ⟨_, rfl, k b _ s02⟩
abbrev s__law_digit : Stmt := top 19
theorem sc__law_digit : FnScope ["_law_rest", "_law_many", "_law_found"] ["_law_rest", "_law_many"] (defScope s__law_digit) := ⟨rfl, rfl, rfl, by decide +kernel, rfl, by decide +kernel, by decide +kernel⟩
def spDigit : Sp := fun vs H Q _ => ∃ (d : Addr) (m : Int), vs = [.ref d, .int m] ∧ Rest H d ∧ 0 < m ∧ Dgt m ∧ ∀ (r : Int) (H' : Hp), 0 ≤ r → r < m → Rest H' d → But d H H' → Q (.int r) H'
theorem ok_digit {f : Addr} {fd : FuncData} (F : Fun K "_law_digit" "_law_digit" s__law_digit f fd) (M : Txt mg) : FnOk P w K mg base CX0 1 f fd ["_law_rest", "_law_many"] spDigit := by
  have sc := sc__law_digit
  refine F.ok sc (fun vs H Q E h => ?_) (fun cdv A outer s H vs Q E hr h => ?_)
  · obtain ⟨d, m, rfl, _⟩ := h
    rfl
  · obtain ⟨d, m, rfl, ⟨n, hd⟩, m0, m1, k⟩ := h
    refine ⟨_, (pss_cons (ps_set (i := 2) sc.nd rfl (Or.inl rfl) (pe_op op_mod (pe_ix (ix_listK (K := K)) (pv 0) pe_int (fun _ _ => rfl)) (pv 1)))
      (pss_cons (ps_asg (pe_op op_fdivL (pe_ix (ix_listK (K := K)) (pv 0) pe_int (fun _ _ => rfl)) (pv 1)) (pg_sub (pv 0) pe_int set_list))
      (pss_one (ps_ret (pv 2))))), ?_⟩
    refine ⟨_, rfl, d, _, _, _, rfl, rfl, SqL.of hd, rfl, _, rfl, _, _, rfl, rfl, m0, ?_⟩
    refine ⟨_, rfl, d, _, _, _, rfl, rfl, SqL.of hd, rfl, _, rfl, _, _, rfl, rfl, ⟨m0, m1.log m0⟩, _, rfl, d, _, _, _, rfl, rfl, hd, rfl, ?_⟩
    exact ⟨_, rfl, k _ _ (Int.emod_nonneg _ (by omega)) (Int.emod_lt_of_pos _ m0) ⟨_, upd_same⟩ (But.upd (But.refl _ _))⟩
abbrev s__law_sheet : Stmt := top 20
theorem sc__law_sheet : FnScope ["_law_rest", "_law_many", "_law_pool", "_law_order"] ["_law_rest"] (defScope s__law_sheet) := ⟨rfl, rfl, rfl, by decide +kernel, rfl, by decide +kernel, by decide +kernel⟩
def spSheet : Sp := fun vs H Q _ => ∃ (d : Addr), vs = [.ref d] ∧ Rest H d ∧ ∀ (b : Addr) (xs : List V) (S : List (List Int)) (H' : Hp), H b = none → H' b = some (.lst xs) → TuL H' xs S → ShOk S → Rest H' d → But d H H' → Q (.ref b) H'
theorem ok_sheet {f : Addr} {fd : FuncData} (F : Fun K "_law_sheet" "_law_sheet" s__law_sheet f fd) (M : Txt mg) (G_law_digit : Kn P w K mg base "_law_digit" 1 ["_law_rest", "_law_many"] spDigit) : FnOk P w K mg base CX0 2 f fd ["_law_rest"] spSheet := by
  have sc := sc__law_sheet
  refine F.ok sc (fun vs H Q E h => ?_) (fun cdv A outer s H vs Q E hr h => ?_)
  · obtain ⟨d, rfl, _⟩ := h
    rfl
  · obtain ⟨d, rfl, R0, k⟩ := h
    refine ⟨_, (pss_cons (ps_set (i := 1) sc.nd rfl (Or.inl rfl) (pe_op op_add pe_int (pe_op op_mul pe_int (pe_callD G_law_digit hr rfl (pa_Name (pv 0) (pa_Constant pe_int pa_nil))))))
      (pss_cons (ps_if (pt_cmpR op_eq (pe_callD G_law_digit hr rfl (pa_Name (pv 0) (pa_Constant pe_int pa_nil))) pe_int (nomark _)) (pss_one (ps_set (i := 1) sc.nd rfl (Or.inl rfl) (pe_op op_add pe_int (pe_op op_mul pe_int (pe_callD G_law_digit hr rfl (pa_Name (pv 0) (pa_Constant pe_int pa_nil))))))) pss_nil)
      (pss_cons (ps_set (i := 2) sc.nd rfl (Or.inl rfl) (pe_op op_repR pe_int (pe_callTy (call_list_rng2 rfl) (by rfl) M.list boot_list (pa_Call (pe_callTy call_range2 (by rfl) M.range boot_range (pa_Constant pe_int (pa_BinOp (pe_op op_add (pe_op op_fdivL (pe_op op_mul (pv 1) pe_int) pe_int) pe_int) pa_nil))) pa_nil))))
      (pss_cons (ps_set (i := 3) sc.nd rfl (Or.inr rfl) (pe_lst pa_nil))
      (pss_cons (ps_while PassesOwn.never (pt_cmpR (op_neD hr) (pv 2) (pe_lst pa_nil) (nomark _)) (pss_one (ps_expr (pe_bm PySem.F.plainAttrs_list PySem.F.slot_list_append PySem.F.type_list_append mt_append (pv 3) (pa_BinOp (pe_op op_mul (pe_bm PySem.F.plainAttrs_list PySem.F.slot_list_pop PySem.F.type_list_pop mt_popAt (pv 2) (pa_Call (pe_callD G_law_digit hr rfl (pa_Name (pv 0) (pa_Call (pe_callB (call_lenK (K := K)) (by rfl) M.len PySem.boot_len (pa_Name (pv 2) pa_nil)) pa_nil))) pa_nil)) (pe_op op_sub pe_int (pe_op op_mul pe_int (pe_callD G_law_digit hr rfl (pa_Name (pv 0) (pa_Constant pe_int pa_nil)))))) pa_nil)))))
      (pss_one (ps_ret (pe_compG (xs := ["_law_k"]) (Nb := ["_law_rest", "_law_many", "_law_pool", "_law_order"]) rfl (pi_range1 rfl M.range (pa_Name (pv 1) pa_nil)) rfl (by show ∀ p ∈ (List.zip ["_law_rest", "_law_many", "_law_pool", "_law_order"] ["_law_rest", "_law_many", "_law_pool", "_law_order"] : List (Str × Str)), _; decide +kernel) (by decide +kernel) (fun cl C s₂ H₂ fp => (pg_name (i := 0) (by show List.Nodup (["_law_k", "_law_rest", "_law_many", "_law_pool", "_law_order"] : List Str); decide +kernel) rfl (Or.inl (lookup_relabel_local rfl)) (Or.inr (lookup_relabel_local rfl)))) (fun cl C s₂ H₂ fp => pif_nil) (fun cl C s₂ H₂ fp => (pe_callTy (call_tuple_ofKK (K := K)) (by rfl) M.tuple boot_tuple (pa_Subscript (pe_slice (sl_listK (K := K)) (pv 4) (po_some (pe_op op_mul pe_int (pv 0))) (po_some (pe_op op_add (pe_op op_mul pe_int (pv 0)) pe_int))) pa_nil))) (by decide +kernel) rfl (by decide +kernel) (by show ∀ y ∈ (_ : List (Str × NameKind)), y.2 = NameKind.free → (defScope s__law_sheet).names.lookup y.1 = some .cell; decide +kernel))))))))), ?_⟩
    refine ⟨_, rfl, d, 4, rfl, R0, by decide, dg (by decide), fun r1 H1 r10 r11 R1 B1 => ⟨2, r1, rfl, rfl, .inl ⟨by decide, by decide⟩, 2, 2 * r1, rfl, rfl, ?_⟩⟩
    refine ⟨_, rfl, d, 8, rfl, R1, by decide, dg (by decide), fun r2 H2 _ _ R2 B2 => ⟨rfl, _, rfl, ite2 (fun e => ?_) (fun e => ?_)⟩⟩
    · refine ⟨_, rfl, d, 2, rfl, R2, by decide, dg (by decide), fun r3 H3 r30 r31 R3 B3 => ⟨2, r3, rfl, rfl, .inl ⟨by decide, by decide⟩, 10, 2 * r3, rfl, rfl, ?_⟩⟩
      have B03 := (B1.trans B2).trans B3
      obtain ⟨m, hm, m1, m6⟩ : ∃ m : Nat, (10 + 2 * r3) = 2 * (m : Int) ∧ 1 ≤ m ∧ m ≤ 6 := ⟨(10 + 2 * r3).toNat / 2, by omega, by omega, by omega⟩
      refine ⟨_, rfl, (10 + 2 * r3), 3, rfl, rfl, .inr ⟨by decide, by decide⟩, (10 + 2 * r3) * 3, 2, rfl, rfl, ⟨by decide, by decide⟩, _, _, rfl, rfl, 1, (10 + 2 * r3) * 3 / 2 + 1, rfl, fun p1 hp1 => ⟨p1, 1, (10 + 2 * r3) * 3 / 2 + 1, rfl, upd_same, by decide, by omega, by omega, fun l1 hl1 => ⟨l1, 2, _, rfl, rfl, upd_same, by decide, by decide, ?_, fun pl hpl => ?_⟩⟩⟩
      · rw [List.length_map, upto_len]
        exact Nat.le_trans (show ((10 + 2 * r3) * 3 / 2 + 1 - 1).toNat * (2 : Int).toNat ≤ 1000 by show _ * 2 ≤ 1000; omega) (by decide)
      have e3 : ((10 + 2 * r3) * 3 / 2 + 1 - 1).toNat = 3 * m := by omega
      rw [rep2, e3, ← List.map_append]
      have npd : pl ≠ d := ((R3.new hp1).new hl1).ne hpl
      have plfree : H pl = none := ((B03.new hp1).new hl1).fr hpl npd
      have B4 : But d H (upd (upd (upd H3 p1 (.rng 1 ((10 + 2 * r3) * 3 / 2 + 1))) l1 (.lst ((upto 1 (3 * m)).map V.int))) pl (.lst ((upto 1 (3 * m) ++ upto 1 (3 * m)).map V.int))) := by
        rw [e3] at hpl
        exact ((B03.new hp1).new hl1).new hpl
      have R4 : Rest (upd (upd (upd H3 p1 (.rng 1 ((10 + 2 * r3) * 3 / 2 + 1))) l1 (.lst ((upto 1 (3 * m)).map V.int))) pl (.lst ((upto 1 (3 * m) ++ upto 1 (3 * m)).map V.int))) d := by
        rw [e3] at hpl
        exact ((R3.new hp1).new hl1).new hpl
      have hpl4 : (upd (upd (upd H3 p1 (.rng 1 ((10 + 2 * r3) * 3 / 2 + 1))) l1 (.lst ((upto 1 (3 * m)).map V.int))) pl (.lst ((upto 1 (3 * m) ++ upto 1 (3 * m)).map V.int))) pl = some (.lst ((pool (3 * m)).map V.int)) := upd_same
      generalize upd (upd (upd H3 p1 (.rng 1 ((10 + 2 * r3) * 3 / 2 + 1))) l1 (.lst ((upto 1 (3 * m)).map V.int))) pl (.lst ((upto 1 (3 * m) ++ upto 1 (3 * m)).map V.int)) = H4 at B4 R4 hpl4 ⊢
      refine ⟨(by show 0 ≤ sizeLine; decide), fun od hod => ?_⟩
      have B5 := B4.new (o := .lst []) hod
      have R5 := R4.new (o := .lst []) hod
      have hod5 : (upd H4 od (.lst [])) od = some (.lst (([] : List Int).map V.int)) := upd_same
      have hpl5 : (upd H4 od (.lst [])) pl = some (.lst ((pool (3 * m)).map V.int)) := by rw [upd_ne (ne_of_none hpl4 hod)]; exact hpl4
      have nod : od ≠ d := R4.ne hod
      have odfree : H od = none := B4.fr hod nod
      have npo : pl ≠ od := ne_of_none hpl4 hod
      generalize upd H4 od (.lst []) = H5 at B5 R5 hod5 hpl5 ⊢
      refine while_by (fun σ H' => ∃ (ps os : List Int), σ = [some (.ref d), some (.int (10 + 2 * r3)), some (.ref pl), some (.ref od)] ∧ H' pl = some (.lst (ps.map V.int)) ∧ H' od = some (.lst (os.map V.int)) ∧ (os.map absI ++ ps).Perm (pool (3 * m)) ∧ Rest H' d ∧ But d H H') (fun σ H' => match H' pl with | some (.lst xs) => xs.length | _ => 0) ⟨pool (3 * m), [], rfl, hpl5, hod5, List.Perm.refl _, R5, B5⟩ ?_ (fun σ H Q Q' h hc => by obtain ⟨v, e, z, k⟩ := hc; exact ⟨v, e, z, fun p hp => by obtain ⟨d1, d2, a1, a2, a3, a4, a5, b, eb, q⟩ := k p hp; exact ⟨d1, d2, a1, a2, a3, a4, a5, b, eb, h _ _ q⟩⟩)
      rintro σ H6 ⟨ps, os, rfl, hpl6, hod6, pm, R6, B6⟩
      have len6 : os.length + ps.length = 6 * m := by
        have := pm.length_eq
        rw [List.length_append, List.length_map, pool_len] at this
        omega
      refine ⟨_, rfl, (by show 0 ≤ sizeLine; decide), fun z hz => ?_⟩
      have s7 := Same.new (o := .lst []) (Same.refl H6) hz
      have hz7 : (upd H6 z (.lst [])) z = some (.lst (([] : List Int).map V.int)) := upd_same
      generalize upd H6 z (.lst []) = H7 at s7 hz7 ⊢
      have hpl7 := s7 _ _ hpl6
      have hod7 := s7 _ _ hod6
      have R7 := R6.same s7
      have B7 : But d H H7 := B6.trans (But.same s7)
      refine ⟨_, _, di_lst (SqL.of hpl7), di_lst (SqL.of hz7), lay_dI _, lay_dI _, dep_dI _, _, rfl, ?_⟩
      rw [eqv_dI]
      by_cases pe : ps = []
      · rw [decide_eq_true pe]
        refine iteF ?_
        subst pe
        rw [List.append_nil] at pm
        have ol : os.length = 6 * m := by simpa using len6
        refine ⟨_, rfl, (10 + 2 * r3), rfl, by omega, by omega, compR (lo := 0) (n := (10 + 2 * r3).toNat) (fun i ys H' => TuL H' ys ((List.range i).map fun k => (os.drop (3 * k)).take 3) ∧ Same H7 H') ⟨TuL.nil _, Same.refl H7⟩ (by omega) (fun i ys H' h => by rw [h.1.1, List.length_map, List.length_range]; exact Nat.le_refl _) ?_ ?_⟩
        · rintro i ys H8 pre hpre hi ⟨tz, s8⟩
          rcases pre with _ | ⟨q0, _ | ⟨q1, pre⟩⟩
          · cases hpre
          · refine ⟨⟨[some _], rfl, rfl⟩, ?_⟩
            unfold tYes
            dsimp only
            rw [if_pos (rfl : true = true)]
            refine ⟨_, rfl, _, rfl, 3, (0 + (i : Int)), rfl, rfl, .inl ⟨by decide, by decide⟩, 3 * (0 + (i : Int)), rfl, _, rfl, 3, (0 + (i : Int)), rfl, rfl, .inl ⟨by decide, by decide⟩, _, _, rfl, rfl, 3 * (0 + (i : Int)) + 3, rfl, od, _, rfl, SqL.of (s8 _ _ hod7), fun q hq => ?_⟩
            rw [cut_midL _ (by omega) (by decide) (by rw [List.length_map]; omega)]
            have e4 : (3 * (0 + (i : Int))).toNat = 3 * i := by omega
            rw [e4]
            have e5 : (((os.map V.int).drop (3 * i)).take (3 : Int).toNat) = ((os.drop (3 * i)).take 3).map V.int := by rw [← List.map_drop, ← List.map_take]; rfl
            rw [e5]
            have s9 := Same.new (o := .lst (((os.drop (3 * i)).take 3).map V.int)) (Same.refl H8) hq
            refine ⟨q, _, rfl, .inl ⟨SqL.of upd_same, fun t ht => ?_⟩⟩
            have s10 := Same.new (o := .tup (((os.drop (3 * i)).take 3).map V.int)) s9 ht
            rw [List.range_succ, List.map_append]
            exact ⟨TuL.snoc (TuL.up tz s10.tups) upd_same, s8.trans s10⟩
          · cases hpre
        · rintro ys H8 ⟨tz, s8⟩ D hD
          have s9 := Same.new (o := .lst ys) s8 hD
          have B9 : But d H (upd H8 D (.lst ys)) := B7.trans (But.same s9)
          have nD : D ≠ d := (R7.same s8).ne hD
          have e6 : (10 + 2 * r3).toNat = 2 * m := by omega
          rw [e6] at tz
          exact k D ys _ _ (B7.fr (s8.free hD) nD) upd_same (TuL.up tz (Same.new (o := .lst ys) (Same.refl H8) hD).tups) (sheet_ok m1 m6 pm) (R7.same s9) B9
      · rw [decide_eq_false pe]
        refine iteT ?_
        have psl : 0 < ps.length := List.length_pos_iff.mpr pe
        refine ⟨_, rfl, .inl ⟨rfl, _, SqL.of hod7⟩, _, rfl, .inl ⟨rfl, _, SqL.of hpl7⟩, _, rfl, _, rfl, pl, _, rfl, .inl (SqL.of hpl7), d, ((ps.map V.int).length : Nat), rfl, R7, by rw [List.length_map]; omega, dg (by rw [List.length_map]; omega), fun r1 H8 r10 r11 R8 B8 => ?_⟩
        rw [List.length_map] at r11
        have hpl8 := B8 _ _ hpl7 npd
        have hod8 := B8 _ _ hod7 nod
        obtain ⟨y, hy⟩ : ∃ y, ps[r1.toNat]? = some y := ⟨_, List.getElem?_eq_getElem (by omega)⟩
        have si : seqIndex? r1 (ps.map V.int).length = some r1.toNat := seqIndex_of r10 (by rw [List.length_map]; exact r11)
        refine ⟨pl, _, r1, r1.toNat, V.int y, rfl, rfl, hpl8, by omega, by omega, si, by rw [List.getElem?_map, hy]; rfl, ?_⟩
        rw [map_erase]
        have R9 : Rest (upd H8 pl (.lst ((ps.eraseIdx r1.toNat).map V.int))) d := by
          obtain ⟨n, e⟩ := R8
          exact ⟨n, by rw [upd_ne (Ne.symm npd)]; exact e⟩
        have hod9 : (upd H8 pl (.lst ((ps.eraseIdx r1.toNat).map V.int))) od = some (.lst (os.map V.int)) := by rw [upd_ne (Ne.symm npo)]; exact hod8
        have hpl9 : (upd H8 pl (.lst ((ps.eraseIdx r1.toNat).map V.int))) pl = some (.lst ((ps.eraseIdx r1.toNat).map V.int)) := upd_same
        have B9 : But d H (upd H8 pl (.lst ((ps.eraseIdx r1.toNat).map V.int))) := fun c o e n => by
          by_cases z : c = pl
          · subst z
            rw [plfree] at e
            cases e
          · rw [upd_ne z]
            exact B8 c o (B7 c o e n) n
        generalize upd H8 pl (.lst ((ps.eraseIdx r1.toNat).map V.int)) = H9 at R9 hod9 hpl9 B9 ⊢
        refine ⟨_, rfl, d, 2, rfl, R9, by decide, dg (by decide), fun r2 HA r20 r21 RA BA => ⟨2, r2, rfl, rfl, .inl ⟨by decide, by decide⟩, 1, 2 * r2, rfl, rfl, y, 1 - 2 * r2, rfl, rfl, .inr ⟨by omega, by omega⟩, ?_⟩⟩
        have hodA := BA _ _ hod9 nod
        have hplA := BA _ _ hpl9 npd
        refine ⟨od, _, _, rfl, rfl, hodA, Nat.lt_of_le_of_lt (show (os.map V.int).length ≤ 1000 by rw [List.length_map]; omega) (by decide), ?_⟩
        have my : y ∈ pool (3 * m) := pm.subset (List.mem_append_right _ (List.mem_of_getElem? hy))
        have yb := mem_pool my
        have RB : Rest (upd HA od (.lst (os.map V.int ++ [(fun i j => V.int (i * j)) y (1 - 2 * r2)]))) d := by
          obtain ⟨n, e⟩ := RA
          exact ⟨n, by rw [upd_ne (Ne.symm nod)]; exact e⟩
        have BB' : But d H (upd HA od (.lst (os.map V.int ++ [(fun i j => V.int (i * j)) y (1 - 2 * r2)]))) := fun c o e n => by
          by_cases z : c = od
          · subst z
            rw [odfree] at e
            cases e
          · rw [upd_ne z]
            exact BA c o (B9 c o e n) n
        have hplB : (upd HA od (.lst (os.map V.int ++ [(fun i j => V.int (i * j)) y (1 - 2 * r2)]))) pl = some (.lst ((ps.eraseIdx r1.toNat).map V.int)) := by rw [upd_ne npo]; exact hplA
        refine ⟨⟨ps.eraseIdx r1.toNat, os ++ [y * (1 - 2 * r2)], rfl, hplB, ?_, ?_, RB, BB'⟩, ?_⟩
        · rw [upd_same, List.map_append]
          rfl
        · rw [List.map_append, List.append_assoc]
          refine List.Perm.trans (List.Perm.append_left _ ?_) pm
          show (absI (y * (1 - 2 * r2)) :: ps.eraseIdx r1.toNat).Perm ps
          rw [abs_sign (by omega) r20 r21]
          exact (erase_permK hy).symm
        · dsimp only
          rw [hplB, hpl6]
          dsimp only
          rw [List.length_map, List.length_map]
          have := (erase_permK hy).length_eq
          simp only [List.length_cons] at this
          omega
    · have B02 := B1.trans B2
      obtain ⟨m, hm, m1, m6⟩ : ∃ m : Nat, (2 + 2 * r1) = 2 * (m : Int) ∧ 1 ≤ m ∧ m ≤ 6 := ⟨(2 + 2 * r1).toNat / 2, by omega, by omega, by omega⟩
      refine ⟨_, rfl, (2 + 2 * r1), 3, rfl, rfl, .inr ⟨by decide, by decide⟩, (2 + 2 * r1) * 3, 2, rfl, rfl, ⟨by decide, by decide⟩, _, _, rfl, rfl, 1, (2 + 2 * r1) * 3 / 2 + 1, rfl, fun p1 hp1 => ⟨p1, 1, (2 + 2 * r1) * 3 / 2 + 1, rfl, upd_same, by decide, by omega, by omega, fun l1 hl1 => ⟨l1, 2, _, rfl, rfl, upd_same, by decide, by decide, ?_, fun pl hpl => ?_⟩⟩⟩
      · rw [List.length_map, upto_len]
        exact Nat.le_trans (show ((2 + 2 * r1) * 3 / 2 + 1 - 1).toNat * (2 : Int).toNat ≤ 1000 by show _ * 2 ≤ 1000; omega) (by decide)
      have e3 : ((2 + 2 * r1) * 3 / 2 + 1 - 1).toNat = 3 * m := by omega
      rw [rep2, e3, ← List.map_append]
      have npd : pl ≠ d := ((R2.new hp1).new hl1).ne hpl
      have plfree : H pl = none := ((B02.new hp1).new hl1).fr hpl npd
      have B4 : But d H (upd (upd (upd H2 p1 (.rng 1 ((2 + 2 * r1) * 3 / 2 + 1))) l1 (.lst ((upto 1 (3 * m)).map V.int))) pl (.lst ((upto 1 (3 * m) ++ upto 1 (3 * m)).map V.int))) := by
        rw [e3] at hpl
        exact ((B02.new hp1).new hl1).new hpl
      have R4 : Rest (upd (upd (upd H2 p1 (.rng 1 ((2 + 2 * r1) * 3 / 2 + 1))) l1 (.lst ((upto 1 (3 * m)).map V.int))) pl (.lst ((upto 1 (3 * m) ++ upto 1 (3 * m)).map V.int))) d := by
        rw [e3] at hpl
        exact ((R2.new hp1).new hl1).new hpl
      have hpl4 : (upd (upd (upd H2 p1 (.rng 1 ((2 + 2 * r1) * 3 / 2 + 1))) l1 (.lst ((upto 1 (3 * m)).map V.int))) pl (.lst ((upto 1 (3 * m) ++ upto 1 (3 * m)).map V.int))) pl = some (.lst ((pool (3 * m)).map V.int)) := upd_same
      generalize upd (upd (upd H2 p1 (.rng 1 ((2 + 2 * r1) * 3 / 2 + 1))) l1 (.lst ((upto 1 (3 * m)).map V.int))) pl (.lst ((upto 1 (3 * m) ++ upto 1 (3 * m)).map V.int)) = H4 at B4 R4 hpl4 ⊢
      refine ⟨(by show 0 ≤ sizeLine; decide), fun od hod => ?_⟩
      have B5 := B4.new (o := .lst []) hod
      have R5 := R4.new (o := .lst []) hod
      have hod5 : (upd H4 od (.lst [])) od = some (.lst (([] : List Int).map V.int)) := upd_same
      have hpl5 : (upd H4 od (.lst [])) pl = some (.lst ((pool (3 * m)).map V.int)) := by rw [upd_ne (ne_of_none hpl4 hod)]; exact hpl4
      have nod : od ≠ d := R4.ne hod
      have odfree : H od = none := B4.fr hod nod
      have npo : pl ≠ od := ne_of_none hpl4 hod
      generalize upd H4 od (.lst []) = H5 at B5 R5 hod5 hpl5 ⊢
      refine while_by (fun σ H' => ∃ (ps os : List Int), σ = [some (.ref d), some (.int (2 + 2 * r1)), some (.ref pl), some (.ref od)] ∧ H' pl = some (.lst (ps.map V.int)) ∧ H' od = some (.lst (os.map V.int)) ∧ (os.map absI ++ ps).Perm (pool (3 * m)) ∧ Rest H' d ∧ But d H H') (fun σ H' => match H' pl with | some (.lst xs) => xs.length | _ => 0) ⟨pool (3 * m), [], rfl, hpl5, hod5, List.Perm.refl _, R5, B5⟩ ?_ (fun σ H Q Q' h hc => by obtain ⟨v, e, z, k⟩ := hc; exact ⟨v, e, z, fun p hp => by obtain ⟨d1, d2, a1, a2, a3, a4, a5, b, eb, q⟩ := k p hp; exact ⟨d1, d2, a1, a2, a3, a4, a5, b, eb, h _ _ q⟩⟩)
      rintro σ H6 ⟨ps, os, rfl, hpl6, hod6, pm, R6, B6⟩
      have len6 : os.length + ps.length = 6 * m := by
        have := pm.length_eq
        rw [List.length_append, List.length_map, pool_len] at this
        omega
      refine ⟨_, rfl, (by show 0 ≤ sizeLine; decide), fun z hz => ?_⟩
      have s7 := Same.new (o := .lst []) (Same.refl H6) hz
      have hz7 : (upd H6 z (.lst [])) z = some (.lst (([] : List Int).map V.int)) := upd_same
      generalize upd H6 z (.lst []) = H7 at s7 hz7 ⊢
      have hpl7 := s7 _ _ hpl6
      have hod7 := s7 _ _ hod6
      have R7 := R6.same s7
      have B7 : But d H H7 := B6.trans (But.same s7)
      refine ⟨_, _, di_lst (SqL.of hpl7), di_lst (SqL.of hz7), lay_dI _, lay_dI _, dep_dI _, _, rfl, ?_⟩
      rw [eqv_dI]
      by_cases pe : ps = []
      · rw [decide_eq_true pe]
        refine iteF ?_
        subst pe
        rw [List.append_nil] at pm
        have ol : os.length = 6 * m := by simpa using len6
        refine ⟨_, rfl, (2 + 2 * r1), rfl, by omega, by omega, compR (lo := 0) (n := (2 + 2 * r1).toNat) (fun i ys H' => TuL H' ys ((List.range i).map fun k => (os.drop (3 * k)).take 3) ∧ Same H7 H') ⟨TuL.nil _, Same.refl H7⟩ (by omega) (fun i ys H' h => by rw [h.1.1, List.length_map, List.length_range]; exact Nat.le_refl _) ?_ ?_⟩
        · rintro i ys H8 pre hpre hi ⟨tz, s8⟩
          rcases pre with _ | ⟨q0, _ | ⟨q1, pre⟩⟩
          · cases hpre
          · refine ⟨⟨[some _], rfl, rfl⟩, ?_⟩
            unfold tYes
            dsimp only
            rw [if_pos (rfl : true = true)]
            refine ⟨_, rfl, _, rfl, 3, (0 + (i : Int)), rfl, rfl, .inl ⟨by decide, by decide⟩, 3 * (0 + (i : Int)), rfl, _, rfl, 3, (0 + (i : Int)), rfl, rfl, .inl ⟨by decide, by decide⟩, _, _, rfl, rfl, 3 * (0 + (i : Int)) + 3, rfl, od, _, rfl, SqL.of (s8 _ _ hod7), fun q hq => ?_⟩
            rw [cut_midL _ (by omega) (by decide) (by rw [List.length_map]; omega)]
            have e4 : (3 * (0 + (i : Int))).toNat = 3 * i := by omega
            rw [e4]
            have e5 : (((os.map V.int).drop (3 * i)).take (3 : Int).toNat) = ((os.drop (3 * i)).take 3).map V.int := by rw [← List.map_drop, ← List.map_take]; rfl
            rw [e5]
            have s9 := Same.new (o := .lst (((os.drop (3 * i)).take 3).map V.int)) (Same.refl H8) hq
            refine ⟨q, _, rfl, .inl ⟨SqL.of upd_same, fun t ht => ?_⟩⟩
            have s10 := Same.new (o := .tup (((os.drop (3 * i)).take 3).map V.int)) s9 ht
            rw [List.range_succ, List.map_append]
            exact ⟨TuL.snoc (TuL.up tz s10.tups) upd_same, s8.trans s10⟩
          · cases hpre
        · rintro ys H8 ⟨tz, s8⟩ D hD
          have s9 := Same.new (o := .lst ys) s8 hD
          have B9 : But d H (upd H8 D (.lst ys)) := B7.trans (But.same s9)
          have nD : D ≠ d := (R7.same s8).ne hD
          have e6 : (2 + 2 * r1).toNat = 2 * m := by omega
          rw [e6] at tz
          exact k D ys _ _ (B7.fr (s8.free hD) nD) upd_same (TuL.up tz (Same.new (o := .lst ys) (Same.refl H8) hD).tups) (sheet_ok m1 m6 pm) (R7.same s9) B9
      · rw [decide_eq_false pe]
        refine iteT ?_
        have psl : 0 < ps.length := List.length_pos_iff.mpr pe
        refine ⟨_, rfl, .inl ⟨rfl, _, SqL.of hod7⟩, _, rfl, .inl ⟨rfl, _, SqL.of hpl7⟩, _, rfl, _, rfl, pl, _, rfl, .inl (SqL.of hpl7), d, ((ps.map V.int).length : Nat), rfl, R7, by rw [List.length_map]; omega, dg (by rw [List.length_map]; omega), fun r1 H8 r10 r11 R8 B8 => ?_⟩
        rw [List.length_map] at r11
        have hpl8 := B8 _ _ hpl7 npd
        have hod8 := B8 _ _ hod7 nod
        obtain ⟨y, hy⟩ : ∃ y, ps[r1.toNat]? = some y := ⟨_, List.getElem?_eq_getElem (by omega)⟩
        have si : seqIndex? r1 (ps.map V.int).length = some r1.toNat := seqIndex_of r10 (by rw [List.length_map]; exact r11)
        refine ⟨pl, _, r1, r1.toNat, V.int y, rfl, rfl, hpl8, by omega, by omega, si, by rw [List.getElem?_map, hy]; rfl, ?_⟩
        rw [map_erase]
        have R9 : Rest (upd H8 pl (.lst ((ps.eraseIdx r1.toNat).map V.int))) d := by
          obtain ⟨n, e⟩ := R8
          exact ⟨n, by rw [upd_ne (Ne.symm npd)]; exact e⟩
        have hod9 : (upd H8 pl (.lst ((ps.eraseIdx r1.toNat).map V.int))) od = some (.lst (os.map V.int)) := by rw [upd_ne (Ne.symm npo)]; exact hod8
        have hpl9 : (upd H8 pl (.lst ((ps.eraseIdx r1.toNat).map V.int))) pl = some (.lst ((ps.eraseIdx r1.toNat).map V.int)) := upd_same
        have B9 : But d H (upd H8 pl (.lst ((ps.eraseIdx r1.toNat).map V.int))) := fun c o e n => by
          by_cases z : c = pl
          · subst z
            rw [plfree] at e
            cases e
          · rw [upd_ne z]
            exact B8 c o (B7 c o e n) n
        generalize upd H8 pl (.lst ((ps.eraseIdx r1.toNat).map V.int)) = H9 at R9 hod9 hpl9 B9 ⊢
        refine ⟨_, rfl, d, 2, rfl, R9, by decide, dg (by decide), fun r2 HA r20 r21 RA BA => ⟨2, r2, rfl, rfl, .inl ⟨by decide, by decide⟩, 1, 2 * r2, rfl, rfl, y, 1 - 2 * r2, rfl, rfl, .inr ⟨by omega, by omega⟩, ?_⟩⟩
        have hodA := BA _ _ hod9 nod
        have hplA := BA _ _ hpl9 npd
        refine ⟨od, _, _, rfl, rfl, hodA, Nat.lt_of_le_of_lt (show (os.map V.int).length ≤ 1000 by rw [List.length_map]; omega) (by decide), ?_⟩
        have my : y ∈ pool (3 * m) := pm.subset (List.mem_append_right _ (List.mem_of_getElem? hy))
        have yb := mem_pool my
        have RB : Rest (upd HA od (.lst (os.map V.int ++ [(fun i j => V.int (i * j)) y (1 - 2 * r2)]))) d := by
          obtain ⟨n, e⟩ := RA
          exact ⟨n, by rw [upd_ne (Ne.symm nod)]; exact e⟩
        have BB' : But d H (upd HA od (.lst (os.map V.int ++ [(fun i j => V.int (i * j)) y (1 - 2 * r2)]))) := fun c o e n => by
          by_cases z : c = od
          · subst z
            rw [odfree] at e
            cases e
          · rw [upd_ne z]
            exact BA c o (B9 c o e n) n
        have hplB : (upd HA od (.lst (os.map V.int ++ [(fun i j => V.int (i * j)) y (1 - 2 * r2)]))) pl = some (.lst ((ps.eraseIdx r1.toNat).map V.int)) := by rw [upd_ne npo]; exact hplA
        refine ⟨⟨ps.eraseIdx r1.toNat, os ++ [y * (1 - 2 * r2)], rfl, hplB, ?_, ?_, RB, BB'⟩, ?_⟩
        · rw [upd_same, List.map_append]
          rfl
        · rw [List.map_append, List.append_assoc]
          refine List.Perm.trans (List.Perm.append_left _ ?_) pm
          show (absI (y * (1 - 2 * r2)) :: ps.eraseIdx r1.toNat).Perm ps
          rw [abs_sign (by omega) r20 r21]
          exact (erase_permK hy).symm
        · dsimp only
          rw [hplB, hpl6]
          dsimp only
          rw [List.length_map, List.length_map]
          have := (erase_permK hy).length_eq
          simp only [List.length_cons] at this
          omega
end
end Toy
set_option Elab.async false
set_option linter.all false
set_option maxRecDepth 100000
set_option maxHeartbeats 1000000
namespace L2
open PySem PySem.Spec PyProof.Rows
theorem xor_and : ∀ (n x y : Nat), x + y < n → x + y = (x ^^^ y) + 2 * (x &&& y)
  | 0, _, _, h => absurd h (Nat.not_lt_zero _)
  | n + 1, x, y, h => by
    by_cases z : x + y = 0
    · have hx : x = 0 := by omega
      have hy : y = 0 := by omega
      subst hx hy
      rfl
    · have ih := xor_and n (x / 2) (y / 2) (by omega)
      have a1 : (x ^^^ y) / 2 = x / 2 ^^^ y / 2 := by have := Nat.xor_div_two_pow (a := x) (b := y) (n := 1); simpa using this
      have a2 : (x &&& y) / 2 = x / 2 &&& y / 2 := by have := Nat.and_div_two_pow (a := x) (b := y) (n := 1); simpa using this
      have a3 : (x ^^^ y) % 2 = (x % 2) ^^^ (y % 2) := by have := Nat.xor_mod_two_pow (a := x) (b := y) (n := 1); simpa using this
      have a4 : (x &&& y) % 2 = (x % 2) &&& (y % 2) := by have := Nat.and_mod_two_pow (a := x) (b := y) (n := 1); simpa using this
      have h1 : x % 2 = 0 ∨ x % 2 = 1 := by omega
      have h2 : y % 2 = 0 ∨ y % 2 = 1 := by omega
      rcases h1 with h1 | h1 <;> rcases h2 with h2 | h2 <;> rw [h1, h2] at a3 a4
      · replace a3 : (x ^^^ y) % 2 = 0 := a3
        replace a4 : (x &&& y) % 2 = 0 := a4
        omega
      · replace a3 : (x ^^^ y) % 2 = 1 := a3
        replace a4 : (x &&& y) % 2 = 0 := a4
        omega
      · replace a3 : (x ^^^ y) % 2 = 1 := a3
        replace a4 : (x &&& y) % 2 = 0 := a4
        omega
      · replace a3 : (x ^^^ y) % 2 = 0 := a3
        replace a4 : (x &&& y) % 2 = 1 := a4
        omega
theorem xor_pp {x y : Int} (hx : 0 ≤ x) (hy : 0 ≤ y) : Builtin.bitXor x y = ((x.toNat ^^^ y.toNat : Nat) : Int) := by
  have e : Builtin.bitXor x y = Builtin.bitOr x y - Builtin.bitAnd x y := rfl
  rw [e, bitOr_and, bitAnd_pp hx hy]
  have := xor_and _ x.toNat y.toNat (Nat.lt_succ_self _)
  omega
def bitI (x : Int) (k : Nat) : Int := x / 2 ^ k % 2
theorem bit_and {x : Int} (hx : 0 ≤ x) (k : Nat) : Builtin.bitAnd (x / 2 ^ k) 1 = bitI x k := by
  have h0 : 0 ≤ x / 2 ^ k := Int.ediv_nonneg hx (Int.le_of_lt (Int.pow_pos (by decide)))
  rw [bitAnd_pp h0 (by decide)]
  have e1 : (1 : Int).toNat = 1 := rfl
  rw [e1, Nat.and_one_is_mod]
  unfold bitI
  omega
theorem bit_nat (x : Int) (hx : 0 ≤ x) (k : Nat) : bitI x k = ((x.toNat / 2 ^ k % 2 : Nat) : Int) := by
  unfold bitI
  obtain ⟨n, rfl⟩ : ∃ n : Nat, x = n := ⟨x.toNat, by omega⟩
  simp
theorem bit_xor {x y : Int} (hx : 0 ≤ x) (hy : 0 ≤ y) (k : Nat) : (bitI (Builtin.bitXor x y) k - (bitI x k + bitI y k)) % 2 = 0 := by
  have h0 : 0 ≤ Builtin.bitXor x y := by rw [xor_pp hx hy]; omega
  rw [bit_nat _ h0, bit_nat x hx, bit_nat y hy, xor_pp hx hy]
  simp only [Int.toNat_natCast]
  have a1 := Nat.xor_div_two_pow (a := x.toNat) (b := y.toNat) (n := k)
  have a3 := Nat.xor_mod_two_pow (a := x.toNat / 2 ^ k) (b := y.toNat / 2 ^ k) (n := 1)
  rw [a1]
  have h1 : x.toNat / 2 ^ k % 2 = 0 ∨ x.toNat / 2 ^ k % 2 = 1 := by omega
  have h2 : y.toNat / 2 ^ k % 2 = 0 ∨ y.toNat / 2 ^ k % 2 = 1 := by omega
  simp only [Nat.pow_one] at a3
  rw [a3]
  rcases h1 with h1 | h1 <;> rcases h2 with h2 | h2 <;> rw [h1, h2] <;> rfl
theorem bit_01 (x : Int) (k : Nat) : 0 ≤ bitI x k ∧ bitI x k ≤ 1 := by unfold bitI; omega
def parT (x : Int) (t : List Int) : Int := (t.map fun s => bitI x (absI s - 1).toNat).sum
def Even2 (x : Int) (t : List Int) : Prop := parT x t % 2 = 0
theorem par_xor {x y : Int} (hx : 0 ≤ x) (hy : 0 ≤ y) : ∀ t : List Int, (parT (Builtin.bitXor x y) t - (parT x t + parT y t)) % 2 = 0
  | [] => rfl
  | s :: t => by
    have a := bit_xor hx hy (absI s - 1).toNat
    have b := par_xor hx hy t
    unfold parT at b ⊢
    simp only [List.map_cons, List.sum_cons]
    omega
theorem xor_nn {x y : Int} (hx : 0 ≤ x) (hy : 0 ≤ y) : 0 ≤ Builtin.bitXor x y := by rw [xor_pp hx hy]; omega
def crs (r : List Int) (s : Int) : Int := r.getD (absI s - 1).toNat 0
structure EvRow (S : List (List Int)) (r : List Int) : Prop where
  len : r.length = S.length / 2 * 3
  nn : ∀ x ∈ r, 0 ≤ x
  tri : ∀ a b c : Int, [a, b, c] ∈ S → (crs r a + crs r b + crs r c) % 2 = 0 ∧ crs r a ≤ crs r b + crs r c ∧ crs r b ≤ crs r a + crs r c ∧ crs r c ≤ crs r a + crs r b
theorem crs_at {S : List (List Int)} {r : List Int} (oS : ShOk S) (l : r.length = S.length / 2 * 3) {t : List Int} (ht : t ∈ S) {s : Int} (hs : s ∈ t) : r[(absI s - 1).toNat]? = some (crs r s) := by
  have := oS.side ht hs
  have il : (absI s - 1).toNat < r.length := by omega
  unfold crs
  rw [List.getD_eq_getElem?_getD, List.getElem?_eq_getElem il]
  rfl
theorem ev_wide {S : List (List Int)} {r : List Int} {b m : Int} (oS : ShOk S) (l : r.length = S.length / 2 * 3) (hb : 1 ≤ b) (hm : 0 ≤ m) (hr : ∀ (k : Nat) (x : Int), r[k]? = some x → ∃ d, 0 ≤ d ∧ d < b ∧ x = 2 * (b + d) + bitI m k) (ev : ∀ t ∈ S, Even2 m t) : EvRow S r := by
  refine ⟨l, fun x hx => ?_, fun a b' c ht => ?_⟩
  · obtain ⟨k, hk⟩ := List.mem_iff_getElem?.mp hx
    obtain ⟨d, d0, d1, rfl⟩ := hr k x hk
    have := bit_01 m k
    omega
  · obtain ⟨d1, p1, q1, e1⟩ := hr _ _ (crs_at oS l ht (s := a) (by simp))
    obtain ⟨d2, p2, q2, e2⟩ := hr _ _ (crs_at oS l ht (s := b') (by simp))
    obtain ⟨d3, p3, q3, e3⟩ := hr _ _ (crs_at oS l ht (s := c) (by simp))
    have ev := ev _ ht
    unfold Even2 parT at ev
    simp only [List.map_cons, List.map_nil, List.sum_cons, List.sum_nil] at ev
    have b1 := bit_01 m (absI a - 1).toNat
    have b2 := bit_01 m (absI b' - 1).toNat
    have b3 := bit_01 m (absI c - 1).toNat
    rw [e1, e2, e3]
    refine ⟨?_, ?_, ?_, ?_⟩ <;> omega
end L2
set_option Elab.async false
set_option linter.all false
set_option maxRecDepth 100000
set_option maxHeartbeats 1000000
namespace L2
open PySem PySem.Spec PyProof.Rows
def sideT (i : Nat) (t : List Int) : List (List Int × Int) := (List.range t.length).map fun (p : Nat) => ([(i : Int), (p : Int)], absI (t.getD p 0))
def sidesF (S : List (List Int)) : List (List Int × Int) := ((List.range S.length).map fun i => sideT i (S.getD i [])).flatten
def glueOf (P : List (List Int × Int)) (k : Nat) : List (List Int) := (P.filter fun q => decide (q.2 = (k : Int) + 1)).map (·.1)
theorem sidesF_snoc (S : List (List Int)) (t : List Int) : sidesF (S ++ [t]) = sidesF S ++ sideT S.length t := by
  unfold sidesF
  rw [List.length_append, List.length_cons, List.length_nil, List.range_succ, List.map_append, List.flatten_append]
  congr 1
  · congr 1
    refine List.map_congr_left fun i hi => ?_
    have := List.mem_range.mp hi
    rw [List.getD_eq_getElem?_getD, List.getD_eq_getElem?_getD, List.getElem?_append_left this]
  · simp [List.getD_eq_getElem?_getD]
theorem sideT_len (i : Nat) (t : List Int) : (sideT i t).length = t.length := by unfold sideT; rw [List.length_map, List.length_range]
theorem sideT_at {i p : Nat} {t : List Int} {s : Int} (h : t[p]? = some s) : (sideT i t)[p]? = some ([(i : Int), (p : Int)], absI s) := by
  unfold sideT
  have pl := (List.getElem?_eq_some_iff.mp h).1
  rw [List.getElem?_map, List.getElem?_range pl]
  show some ([(i : Int), (p : Int)], absI (t.getD p 0)) = _
  rw [List.getD_eq_getElem?_getD, h]
  rfl
theorem glue_snoc (P : List (List Int × Int)) (q : List Int × Int) (k : Nat) : glueOf (P ++ [q]) k = if q.2 = (k : Int) + 1 then glueOf P k ++ [q.1] else glueOf P k := by
  unfold glueOf
  rw [List.filter_append, List.map_append]
  by_cases h : q.2 = (k : Int) + 1
  · rw [if_pos h]
    simp [h]
  · rw [if_neg h]
    simp [h]
structure GlInv (n : Nat) (P : List (List Int × Int)) (gs : List (List (List Int))) : Prop where
  len : gs.length = n
  val : ∀ k, k < n → gs[k]? = some (glueOf P k)
theorem GlInv.put {n : Nat} {P : List (List Int × Int)} {gs : List (List (List Int))} (h : GlInv n P gs) {u : List Int} {k : Nat} (hk : k < n) : GlInv n (P ++ [(u, (k : Int) + 1)]) (gs.set k (glueOf P k ++ [u])) := by
  refine ⟨by rw [List.length_set]; exact h.len, fun j hj => ?_⟩
  rw [List.getElem?_set, glue_snoc]
  by_cases e : k = j
  · subst e
    rw [if_pos rfl, if_pos (by rw [h.len]; exact hk), if_pos rfl]
  · rw [if_neg e, if_neg (by show ¬ ((k : Int) + 1 = (j : Int) + 1); omega)]
    exact h.val j hj
theorem sidesF_ties : ∀ (n : Nat) (S : List (List Int)), S.length = n → (sidesF S).map (·.2) = S.flatten.map absI
  | 0, S, h => by
    cases S with
    | nil => rfl
    | cons _ _ => cases h
  | n + 1, S, h => by
    have ne : S ≠ [] := fun z => by rw [z] at h; cases h
    obtain ⟨S', t, rfl⟩ : ∃ S' t, S = S' ++ [t] := ⟨S.dropLast, S.getLast ne, (List.dropLast_concat_getLast ne).symm⟩
    have h' : S'.length = n := by simpa using h
    rw [sidesF_snoc, List.map_append, sidesF_ties n S' h', List.flatten_append, List.map_append]
    congr 1
    simp only [List.flatten_cons, List.flatten_nil, List.append_nil]
    unfold sideT
    rw [List.map_map]
    apply List.ext_getElem?
    intro p
    rw [List.getElem?_map, List.getElem?_map]
    by_cases pl : p < t.length
    · rw [List.getElem?_range pl, List.getElem?_eq_getElem pl]
      show some (absI (t.getD p 0)) = some (absI t[p])
      rw [List.getD_eq_getElem?_getD, List.getElem?_eq_getElem pl]
      rfl
    · rw [List.getElem?_eq_none (by simpa using pl), List.getElem?_eq_none (by omega)]
      rfl
theorem mem_sides {S : List (List Int)} {q : List Int × Int} (h : q ∈ sidesF S) : ∃ (i p : Nat) (t : List Int) (s : Int), S[i]? = some t ∧ t[p]? = some s ∧ q = ([(i : Int), (p : Int)], absI s) := by
  unfold sidesF at h
  obtain ⟨l, hl, hq⟩ := List.mem_flatten.mp h
  obtain ⟨i, hi, rfl⟩ := List.mem_map.mp hl
  have il := List.mem_range.mp hi
  unfold sideT at hq
  obtain ⟨p, hp, rfl⟩ := List.mem_map.mp hq
  have pl := List.mem_range.mp hp
  have ei : S[i]? = some (S.getD i []) := by rw [List.getD_eq_getElem?_getD, List.getElem?_eq_getElem il]; rfl
  refine ⟨i, p, S.getD i [], (S.getD i []).getD p 0, ei, ?_, rfl⟩
  rw [List.getD_eq_getElem?_getD (l := S.getD i []), List.getElem?_eq_getElem pl]
  rfl
theorem glue_two {S : List (List Int)} (oS : ShOk S) {k : Nat} (hk : k < S.length / 2 * 3) : (glueOf (sidesF S) k).length = 2 := by
  unfold glueOf
  rw [List.length_map, ← List.countP_eq_length_filter]
  have e : (sidesF S).countP (fun q => decide (q.2 = (k : Int) + 1)) = ((sidesF S).map (·.2)).countP fun z => decide (z = (k : Int) + 1) := by
    rw [List.countP_map]
    rfl
  rw [e, sidesF_ties _ S rfl, oS.ties.countP_eq, count_pool, if_pos (by omega)]
theorem glue_mem {S : List (List Int)} {k : Nat} {u : List Int} (h : u ∈ glueOf (sidesF S) k) : ∃ (i p : Nat) (t : List Int) (s : Int), S[i]? = some t ∧ t[p]? = some s ∧ u = [(i : Int), (p : Int)] ∧ absI s = (k : Int) + 1 := by
  unfold glueOf at h
  obtain ⟨q, hq, rfl⟩ := List.mem_map.mp h
  obtain ⟨h1, h2⟩ := List.mem_filter.mp hq
  obtain ⟨i, p, t, s, e1, e2, rfl⟩ := mem_sides h1
  exact ⟨i, p, t, s, e1, e2, rfl, of_decide_eq_true h2⟩
theorem LsL.put {H : Hp} {tp : Bool} {ys xs : List V} {uss : List (List (List Int))} {a : Addr} {k : Nat} {x : V} {u : List Int} {us : List (List Int)} (h : LsL H tp ys uss) (nd : ys.Nodup) (ek : ys[k]? = some (.ref a)) (eu : uss[k]? = some us) (ha : H a = some (.lst xs)) (i : Itm H tp x u) : LsL (upd H a (.lst (xs ++ [x]))) tp ys (uss.set k (us ++ [u])) := by
  have t : Tups H (upd H a (.lst (xs ++ [x]))) := Tups.lst (Tups.refl H) ha
  have kl : k < uss.length := (List.getElem?_eq_some_iff.mp eu).1
  refine ⟨by rw [List.length_set]; exact h.1, fun j y vs h1 h2 => ?_⟩
  rw [List.getElem?_set] at h2
  by_cases e : k = j
  · subst e
    rw [if_pos rfl, if_pos kl] at h2
    cases h2
    rw [ek] at h1
    cases h1
    obtain ⟨a', xs', ea, ha', it⟩ := h.2 k _ us ek eu
    cases ea
    rw [ha] at ha'
    cases ha'
    exact ⟨a, xs ++ [x], rfl, upd_same, (it.append (ItL.cons i (ItL.nil _ _))).up t⟩
  · rw [if_neg e] at h2
    obtain ⟨a', xs', ea, ha', it⟩ := h.2 j y vs h1 h2
    have na : a' ≠ a := fun z => by
      rw [ea, z] at h1
      have l1 := (List.getElem?_eq_some_iff.mp ek)
      have l2 := (List.getElem?_eq_some_iff.mp h1)
      exact e ((List.getElem_inj nd).mp (l1.2.trans l2.2.symm))
    exact ⟨a', xs', ea, by rw [upd_ne na]; exact ha', it.up t⟩
def arc3 (r : List Int) : List Int → List Int
  | [a, b, c] => [(crs r a + crs r b - crs r c) / 2, (crs r b + crs r c - crs r a) / 2, (crs r c + crs r a - crs r b) / 2]
  | _ => []
end L2
set_option Elab.async false
set_option linter.all false
set_option maxRecDepth 100000
set_option maxHeartbeats 1000000
set_option Elab.async false
set_option linter.all false
set_option maxRecDepth 100000
set_option maxHeartbeats 1000000
namespace L2
open PySem PySem.Spec PyProof.Rows
theorem TuL.set {H : Hp} {xs : List V} {S : List (List Int)} (h : TuL H xs S) {q : Addr} {w : List Int} (hq : H q = some (.tup (w.map V.int))) (n : Nat) : TuL H (xs.set n (.ref q)) (S.set n w) := by
  refine ⟨by rw [List.length_set, List.length_set]; exact h.1, fun m y v h1 h2 => ?_⟩
  rw [List.getElem?_set] at h1 h2
  by_cases e : n = m
  · subst e
    rw [if_pos rfl] at h1 h2
    split at h1
    · cases h1
      split at h2
      · cases h2; exact ⟨q, rfl, hq⟩
      · cases h2
    · cases h1
  · rw [if_neg e] at h1 h2
    exact h.2 m y v h1 h2
end L2
set_option Elab.async false
set_option linter.all false
set_option maxRecDepth 100000
set_option maxHeartbeats 1000000
namespace L2
open PySem PySem.Spec PyProof.Rows
structure XCls (K : PySem.W.Frag) (C : Addr) : Prop where
  ga : PySem.W.findIn K (.ref C) "__getattribute__" = some (some (.builtin "BaseException.__getattribute__"))
  na : PySem.W.findIn K (.ref C) "__getattr__" = some none
  cl : PySem.W.findIn K (.ref C) "__class__" = some (some (.builtin "object.__class__"))
  be : PySem.W.subIn K (.ref C) (.type "BaseException") = some true
  ob : PySem.W.subIn K (.ref C) (.type "object") = some true
  ty : PySem.W.typeIn K (.ref C) = some (.type "type")
  co : (PySem.W.clsIn K C).isSome = true
  rf : PySem.W.subIn K (.ref C) (.ref C) = some true
section
variable {prog : Program} {w : World} {A : Around} {E : Value → Shared → Prop} {h : Heap} {g : Array GenState} {d : Drawn} {t : Nat} {os : OsState} {a C : Addr} {o : Obj} {K : PySem.W.Frag}
theorem xc_get {R : Result → Shared → Prop} (X : K.In h) (c : XCls K C) (hx : h.get? a = some o) (hc : o.cls = .ref C) (hq : R (.ok (.ret (.ref C))) ⟨h, g, d, t, os⟩) :
    codeAny (model prog w) A (.call (.builtin "getset_descriptor.__get__") ⟨[.builtin "object.__class__", .ref a, .ref C], []⟩) R ⟨h, g, d, t, os⟩ := by
  have hT5 : (⟨h, g, d, t, os⟩ : Shared).TypeIs (.builtin "object.__class__") "getset_descriptor" := F.typeOf_object_class
  have hs : PySem.W.Looks (model prog w) h (isSubtype (.ref C) (.type (".".intercalate ("object.__class__".cutAt '.').dropLast))) true := by
    rw [F.owner_object_class]
    exact PySem.W.looks_subIn X c.ob
  refine codeAny_call_builtin F.slot_gs_get.plain F.entry_gs_get (F.slot_gs_get.check _ _ _ _ _ _ _ _ hT5 (F.args_gs_get _ _ _) ?_)
  repeat (any_goals (first | assumption | (with_reducible refine wpAny_loadPart_at hx ?_; rw [hc]) | with_reducible refine hs.at ?_ | wp_step))
  refine ⟨Code.quiet_builtin _ (by decide +kernel), codeAny_builtin F.entry_object_class ?_⟩
  repeat (any_goals (first | assumption | (with_reducible refine wpAny_loadPart_at hx ?_; rw [hc]) | wp_step))
theorem xc_entry {tk : Tok} {Q : Fin → Shared → Prop} (X : K.In h) (c : XCls K C) (hx : h.get? a = some o) (hc : o.cls = .ref C) (hq : Q (.done (.ret (.ref C))) ⟨h, g, d, t, os⟩) :
    wpAny (model prog w) A (Builtin.«object.__getattribute__» ⟨[.ref a, .str "__class__" tk], []⟩) Q E ⟨h, g, d, t, os⟩ := by
  have hT5 : (⟨h, g, d, t, os⟩ : Shared).TypeIs (.builtin "object.__class__") "getset_descriptor" := F.typeOf_object_class
  have f4 : PySem.W.Looks (model prog w) h (typeLookup (.ref C) "__class__") _ := PySem.W.looks_findIn X c.cl
  have f5 := F.typeOf_object_class
  have f6 := F.slot_gs_get.lookup
  have f7 := F.slot_gs_set.lookup
  repeat (any_goals (first | assumption | (with_reducible refine wpAny_loadPart_at hx ?_; rw [hc]) | with_reducible refine f4.at ?_ | wp_step))
  refine xc_get X c hx hc ?_
  repeat (any_goals (first | assumption | wp_step))
theorem xc_check {M : Model} {nameV : Value} {Q : Unit → Shared → Prop} (X : K.In h) (c : XCls K C) (hx : h.get? a = some o) (hc : o.cls = .ref C) (hq : Q () ⟨h, g, d, t, os⟩) : wpAny M A (checkBuiltinCall "BaseException.__getattribute__" ⟨[.ref a, nameV], []⟩) Q E ⟨h, g, d, t, os⟩ := by
  have hk : builtinKind "BaseException.__getattribute__" = some .slot := by decide +kernel
  have hsplit : splitId "BaseException.__getattribute__" = some ("BaseException", "__getattribute__") := by decide +kernel
  have hs : PySem.W.Looks M h (isSubtype (.ref C) (.type "BaseException")) true := PySem.W.looks_subIn X c.be
  have ha := F.args_bexc_ga (.ref a) nameV
  simp only [checkBuiltinCall, hk, hsplit]
  refine wpAny_bind ?_
  · unfold isInstance
    repeat (first | (with_reducible refine wpAny_loadPart_at hx ?_; rw [hc]) | with_reducible refine hs.at ?_ | wp_step)
    exact hq
theorem xc_call {tk : Tok} {R : Result → Shared → Prop} (X : K.In h) (c : XCls K C) (hx : h.get? a = some o) (hc : o.cls = .ref C) (hq : R (.ok (.ret (.ref C))) ⟨h, g, d, t, os⟩) :
    codeAny (model prog w) A (.call (.builtin "BaseException.__getattribute__") ⟨[.ref a, .str "__class__" tk], []⟩) R ⟨h, g, d, t, os⟩ :=
  codeAny_call_builtin (PySem.F.attr_ValueError).ga.plain F.entry_bexc_ga (xc_check X c hx hc (xc_entry X c hx hc hq))
theorem xc_by {tk : Tok} {Q : Value → Shared → Prop} (X : K.In h) (c : XCls K C) (hx : h.get? a = some o) (hc : o.cls = .ref C) (hq : Q (.ref C) ⟨h, g, d, t, os⟩) :
    wpAny (model prog w) A (getAttrBy (.ref a) (.str "__class__" tk) false) Q E ⟨h, g, d, t, os⟩ := by
  have f3 := (PySem.F.attr_ValueError).ga.bind (.ref a)
  have hx2 : (Value.builtin "BaseException.__getattribute__" == Value.builtin "object.__getattribute__") = false := by decide +kernel
  have hx1 : (onTheHeap (Value.ref C) && Value.builtin "BaseException.__getattribute__" == Value.builtin "object.__getattribute__") = false := by rw [hx2]; rfl
  have f1 : PySem.W.Looks (model prog w) h (typeLookup (.ref C) "__getattribute__") _ := PySem.W.looks_findIn X c.ga
  have f2 : PySem.W.Looks (model prog w) h (typeLookup (.ref C) "__getattr__") _ := PySem.W.looks_findIn X c.na
  repeat (any_goals (first | assumption | (with_reducible refine wpAny_loadPart_at hx ?_; rw [hc]) | with_reducible refine f1.at ?_ | with_reducible refine f2.at ?_ | wp_step))
  refine xc_call X c hx hc ?_
  repeat (any_goals (first | assumption | wp_step))
theorem xc_attr {Q : Option Value → Shared → Prop} (X : K.In h) (c : XCls K C) (hx : h.get? a = some o) (hc : o.cls = .ref C) (hq : Q (some (.ref C)) ⟨h, g, d, t + 1, os⟩) : wpAny (model prog w) A (getAttr? (.ref a) "__class__") Q E ⟨h, g, d, t, os⟩ := by
  unfold getAttr? getAttrBy?
  repeat (any_goals (first | assumption | with_reducible apply xc_by X c hx hc | wp_step))
end
theorem kitx_exc {K : PySem.W.Frag} {a C : Addr} (c : XCls K C) : PySem.W.KitX K (.ref a) (.ref C) (fun h => ∃ o, h.get? a = some o ∧ o.cls = .ref C) where
  ty := fun M h _ ⟨o, h1, h2⟩ => h2 ▸ (PySem.W.Looks.ld h1).andThen .now
  it := fun M h X _ => by
    have z := c.co
    unfold PySem.W.clsIn at z
    split at z
    · rename_i c' d' cd' sl' ho
      intro A' Q' E' s' k q
      unfold isType loadHead
      exact wpAny_bind (wpAny_loadPart (k _ _ (X _ _ ho)) (wpAny_pure q))
    · cases z
  ne := fun h tp dd its n sl X htp => by
    have z := c.co
    refine Bool.eq_false_iff.mpr fun q => ?_
    have e : C = tp := Value.ref.inj (beq_iff_eq.mp q)
    subst e
    unfold PySem.W.clsIn at z
    split at z
    · rename_i c' d' cd' sl' ho
      have z := (X _ _ ho).symm.trans htp
      cases z
    · cases z
  ca := fun {_ _ _ _ _ s} X ⟨o, h1, h2⟩ k => by
    obtain ⟨h, g, d, t, os⟩ := s
    exact xc_attr X c h1 h2 k
end L2
set_option Elab.async false
set_option linter.all false
set_option maxRecDepth 100000
set_option maxHeartbeats 1000000
namespace L2
open PySem PySem.Spec PyProof.Rows
def CXE (P : Program) (w : World) : CXT := fun outer H s E e s' => ∃ (a C : Addr) (a0 : Value) (B : Heap) (H' : Hp), e = .ref a ∧ s'.os = s.os ∧ AllBare s'.gens ∧ Un (frs outer) [] H H' s.heap s'.heap ∧ HOk P w H' s'.heap ∧
  Heap.FlyingW B outer a (.ref C) a0 s'.heap ∧ (∀ b o, s.heap.get? b = some o → b ∉ frs outer → ∃ o', B.get? b = some o') ∧ (∀ b o, H' b = some o → ∃ o', B.get? b = some o') ∧ E (.ref C) none H'
theorem ObjOk.there {P : Program} {w : World} {H : Hp} {h : Heap} {a : Addr} {o : HO} (x : ObjOk P w H h a o) : ∃ ob, h.get? a = some ob := by
  cases o with
  | lst xs => obtain ⟨_, _, _, _, e⟩ := x; exact ⟨_, e⟩
  | tup xs => obtain ⟨_, _, _, o, e, _⟩ := x; exact ⟨_, e⟩
  | dK kvs => obtain ⟨_, _, _, _, o, _, _, e, _⟩ := x; exact ⟨_, e⟩
  | dT kvs => obtain ⟨_, _, _, _, o, _, _, e, _⟩ := x; exact ⟨_, e⟩
  | set S n => obtain ⟨o, _, _, _, e, _⟩ := x; exact ⟨_, e⟩
  | ins C dx fs => obtain ⟨_, _, _, e, _⟩ := x; exact ⟨_, e⟩
  | own y => exact x
  | xd fs => obtain ⟨_, ⟨_, _, _, e, _⟩, _⟩ := x; exact ⟨_, e⟩
  | rng lo hi => obtain ⟨_, _, _, e⟩ := x; exact ⟨_, e⟩
  | frz ob u => exact ⟨_, x.1⟩
  | tbl ps => exact ⟨_, x⟩
  | met f y => exact ⟨_, x⟩
  | ext φ => exact x.2.1
section
variable {X : Cx} {pins : List (Addr × Obj)} {σ : St} {H1 H' : Hp} {s1 : Shared} {h1 h' B : Heap}
theorem leave_un (I : Inv X pins σ H1 s1) (hex : X.ex = []) (u : Un (frs X.stack) [] H1 H' s1.heap h1) (hok : HOk X.prog X.w H' h1) (b1 : B.StaysIn h1) (b2 : B.StaysIn h') (sm : h1.UpToSlots h')
    (c1 : ∀ b o, s1.heap.get? b = some o → b ∉ frs X.stack → ∃ o', B.get? b = some o') (c2 : ∀ b o, H' b = some o → ∃ o', B.get? b = some o') :
    Un X.fs [] X.H₀ H' X.s₀.heap h' ∧ HOk X.prog X.w H' h' ∧ ∀ b o, X.s₀.heap.get? b = some o → b ∉ X.fs → ∃ o', B.get? b = some o' := by
  have nex : ∀ b : Addr, b ∉ X.ex := fun b z => by rw [hex] at z; cases z
  have c0 : ∀ b o, X.s₀.heap.get? b = some o → b ∉ X.fs → ∃ o', B.get? b = some o' := fun b o e hb => by
    obtain ⟨o1, e1⟩ := I.base.there b o e (nex b)
    refine c1 b o1 e1 fun z => ?_
    rcases List.mem_cons.mp (I.stkSub b z) with q | q
    · exact absurd (Nat.lt_of_lt_of_le (Heap.lt_size e) I.ok.above) (by rw [q]; exact Nat.lt_irrefl _)
    · exact hb q
  have J := (I.call (g' := s1.gens) (t' := s1.toks) (d' := s1.drawn) (ch := []) u hok I.bare (fun b z => nomatch z)).base
  rw [hex] at J
  have same : ∀ b o, h1.get? b = some o → (∃ o', B.get? b = some o') → h'.get? b = some o := fun b o e ⟨o', q⟩ => by
    have := b1 b o' q
    rw [e] at this
    cases this
    exact b2 b _ q
  have frm : ∀ b ∈ X.fs, ∀ o, h1.get? b = some o → ∃ sl, h'.get? b = some { o with slots := sl } := fun b hb o e => by
    obtain ⟨_, o0, e0, hd⟩ := I.ok.funs.mem hb
    obtain ⟨sl, e1⟩ := J.slot b o0 e0 (I.ok.frf b hb) hb (by simp)
    have e1 : h1.get? b = some _ := e1
    rw [e] at e1
    cases e1
    exact sm b _ e hd
  refine ⟨⟨fun b o e n hb _ => ?_, fun b o e n hb _ => ?_, J.free, fun b o e _ => ?_, J.tups, J.frzs, J.tbls⟩, fun b u' e => ?_, c0⟩
  · exact same b o (J.keep b o e n hb (by simp)) (c0 b o e hb)
  · obtain ⟨sl, e1⟩ := J.slot b o e n hb (by simp)
    obtain ⟨sl', e2⟩ := frm b hb _ e1
    exact ⟨sl', e2⟩
  · obtain ⟨o1, e1⟩ := J.there b o e (by simp)
    by_cases hb : b ∈ X.fs
    · obtain ⟨sl, e2⟩ := frm b hb _ e1
      exact ⟨_, e2⟩
    · exact ⟨o1, same b o1 e1 (c0 b o e hb)⟩
  · refine (hok b u' e).stay (fun c v hc r => same c v r ?_) (fun _ q => q) fun _ _ q => q
    rcases hc with rfl | hc
    · exact c2 _ _ e
    · exact c2 _ _ hc
end
section
variable {P : Program} {w : World} {K : PySem.W.Frag} {mg : Str → Option Value} {base : Heap} {N : List Str} {qual : Str} {scope : Scope} {f : Addr} {cd : Value} {A : Around} {outer : List Env} {s : Shared} {H : Hp} {E : XK}
def PassesX (X : Cx) (Ex : Value → St → Hp → Prop) : Prop := ∀ (pins : List (Addr × Obj)) (σ : St) (H : Hp) (s : Shared) (e : Value) (s' : Shared), Inv X pins σ H s → CXE X.prog X.w X.stack H s (fun c _ H' => Ex c σ H') e s' → X.xe e s'
def tRaise (E : XK) (C : Addr) : TS := fun _ _ H => E (.ref C) none H
theorem own_of {K : PySem.W.Frag} {h : Heap} {C : Addr} {bmB : List Value} {newId : String} (X : K.In h) (q : PySem.W.excIn K C bmB newId = true) :
    ∃ bm N nm q bs hdct sn sub ab col dd k0 k1 k2 k3 k5 mN, h.get? C = some (excClassObj nm q C N bs bm hdct sn sub ab col dd k0 k1 k2 k3 k5 newId) ∧ h.Ns N mN ∧ mN "__init__" = none ∧ OwnTail h bmB bm := by
  unfold PySem.W.excIn at q
  split at q
  · rename_i dd cd sl ho
    split at q
    · rename_i C' bm k0 k1 k2 k3 n k5 hm hs
      simp only [Bool.and_eq_true, beq_iff_eq, Bool.not_eq_true'] at q
      obtain ⟨⟨⟨⟨⟨rfl, rfl⟩, hdel⟩, ht⟩, hok⟩, hni⟩ := q
      obtain ⟨nm, bs, mro, ns, qn, hd, sn, sub, ab, col, del⟩ := cd
      dsimp only at hm hdel hok hni
      subst hm hdel
      have hsl : sl = #[k0, k1, k2, k3, some (.builtin n), k5] := by
        obtain ⟨l⟩ := sl
        simp only at hs
        rw [hs]
      subst hsl
      exact ⟨bm, ns, nm, qn, bs, hd, sn, sub, ab, col, dd, k0, k1, k2, k3, k5, _, X _ _ ho, .of_isNs (PySem.W.isNs_of_in X hok), PySem.W.nsMap_none_of_in X hok hni, PySem.W.tail_of_in X ht⟩
    · cases q
  · cases q
abbrev bmV : List Value := [.type "ValueError", .type "Exception", .type "BaseException", .type "object"]
theorem funs_hide {base h : Heap} {as : List Addr} {l : List Env} (hl : h.FunFrames base l) (hin : ∀ b ∈ frs l, b ∈ as) : h.FunFrames (PySem.W.hideAll h as) l := by
  refine PySem.W.funFrames_hide hl fun env he a hf => hin a ?_
  exact List.mem_filterMap.mpr ⟨env, he, hf⟩
theorem ps_raise {C : Addr} {x : Str} {np cpos pos : PySem.Pos} {e₀ : Expr} {v : V} (hc : PySem.W.excIn K C bmV "ValueError.__new__" = true) (hd : A.handled = none) (hm : mg x = some (.ref C)) (he₀ : PE (cxOf (CXE P w) P w K mg base N qual scope f cd A outer s H E) e₀ (tC v))
    (hg : Gl (cxOf (CXE P w) P w K mg base N qual scope f cd A outer s H E) x)
    (he : starEach [e₀] (cxOf (CXE P w) P w K mg base N qual scope f cd A outer s H E).env = (false, eval e₀ (cxOf (CXE P w) P w K mg base N qual scope f cd A outer s H E).env) :: starEach [] (cxOf (CXE P w) P w K mg base N qual scope f cd A outer s H E).env := by rfl) (hdb : (x == ("__debug__" : Str)) = false := by decide) :
    PS (cxOf (CXE P w) P w K mg base N qual scope f cd A outer s H E) (.Raise (some (.Call (.Name x np) [e₀] [] cpos)) none pos) (tRaise E C) := by
  intro pins s1 σ H1 D I h
  obtain ⟨tl, NN, nm, q, bs, hdct, sn, sub, ab, col, dd, k0, k1, k2, k3, k5, mN, hC, hN, hni, T⟩ := own_of I.ok.mod.kin hc
  refine wpAny_Raise_call_subU (C := C) (nm := nm) (q := q) (N := NN) (bs := bs) (bm := tl) (hdct := hdct) (sn := sn) (sub := sub) (ab := ab) (col := col) (dd := dd) (k0 := k0) (k1 := k1) (k2 := k2) (k3 := k3) (k5 := k5)
    PySem.F.excBase_ValueError (by decide) PySem.F.excBase_ValueError (mN := mN) (T.hasType PySem.F.excBase_ValueError.hasBase) hd (by rw [he]; rfl) hni (ld_glob I hg hm ⟨rfl, ?_⟩ hdb)
  have hp : PA (cxOf (CXE P w) P w K mg base N qual scope f cd A outer s H E) [e₀] (tCons (tC v) tNil) := pa_cons he₀ pa_nil he
  have hs := hp cpos pins s1 σ H1 (fun vs H' => vs.length = 1 ∧ E (.ref C) none H') I ⟨rfl, h⟩
  rw [he] at hs ⊢
  refine Calls.evalArgs_plain (wpAny_mono hs (fun us s2 h2 => ?_) fun _ _ y => y)
  obtain ⟨vs, H2, I2, rv, l1, q2⟩ := h2
  have lu : us.length = 1 := by rw [← rv.length]; exact l1
  refine ⟨rfl, by rw [lu]; decide, I2.bk _ _ hC, hN.keeps I2.bk, T.keeps I2.bk, fun h3 e mk => ?_⟩
  have hin : ∀ b ∈ frs (cxOf (CXE P w) P w K mg base N qual scope f cd A outer s H E).stack, b ∈ frs (cxOf (CXE P w) P w K mg base N qual scope f cd A outer s H E).stack := fun b z => z
  refine wpAny_leaves_madeW (h := s2.heap) (base := PySem.W.hideAll s2.heap (frs (cxOf (CXE P w) P w K mg base N qual scope f cd A outer s H E).stack)) I2.ok.frames rfl (fun b o z => PySem.W.of_hideAll _ z) (funs_hide I2.stack hin) mk fun h' t fl _ _ sm => ?_
  have c1 : ∀ b o, s2.heap.get? b = some o → b ∉ frs (cxOf (CXE P w) P w K mg base N qual scope f cd A outer s H E).stack → ∃ o', (PySem.W.hideAll s2.heap (frs (cxOf (CXE P w) P w K mg base N qual scope f cd A outer s H E).stack)).get? b = some o' := fun b o z n => ⟨o, PySem.W.hideAll_get _ z n⟩
  have c2 : ∀ b o, H2 b = some o → ∃ o', (PySem.W.hideAll s2.heap (frs (cxOf (CXE P w) P w K mg base N qual scope f cd A outer s H E).stack)).get? b = some o' := fun b o z => by
    obtain ⟨o', e'⟩ := ObjOk.there (I2.hok b o z)
    exact c1 b o' e' fun n => by rw [I2.stkFree b n] at z; cases z
  obtain ⟨u2, hok2, c0⟩ := leave_un I2 rfl (Un.kept mk.keeps) (I2.hok.kept mk.keeps) (fun b o z => mk.keeps b o (PySem.W.of_hideAll _ z)) fl.1 sm c1 c2
  exact ⟨e, C, _, _, H2, rfl, I2.os, I2.bare, u2, hok2, fl, c0, c2, q2⟩
end
end L2
set_option Elab.async false
set_option linter.all false
set_option maxRecDepth 100000
set_option maxHeartbeats 1000000
namespace L2
open PySem PySem.Spec PyProof.Rows
structure KnX (P : Program) (w : World) (K : PySem.W.Frag) (mg : Str → Option Value) (base : Heap) (x : Str) (k : Nat) (ps : List Str) (sp : Sp) : Prop where
  ex : ∃ (f : Addr) (fd : FuncData), FnOk P w K mg base (CXE P w) k f fd ps sp ∧ mg x = some (.ref f) ∧ PySem.W.keepIn K (.ref f) = true ∧ Binds K fd ps []
def tCallX (sp : Sp) (Ex : Value → St → Hp → Prop) (t : TA) : TE := fun σ H Q => t σ H fun vs H1 => sp vs H1 Q (fun c _ H' => Ex c σ H')
theorem pe_callX {X : Cx} {x : Str} {k j : Nat} {ps : List Str} {sp : Sp} {e : Expr} {es : List Expr} {t : TA} {p pos : PySem.Pos} {Ex : Value → St → Hp → Prop} (G : KnX X.prog X.w X.K X.mg X.base x k ps sp) (px : PassesX X Ex) (hr : Room j X.A) (hg : Gl X x) (ha : PA X (e :: es) t) (hle : k ≤ j := by decide)
    (hdb : (x == ("__debug__" : Str)) = false := by decide)
    (he : starEach (e :: es) X.env = (false, eval e X.env) :: starEach es X.env := by rfl) (hpl : (backTo pos (starEach es X.env)).any (·.1) = false := by rfl) : PE X (.Call (.Name x p) (e :: es) [] pos) (tCallX sp Ex t) := by
  obtain ⟨f, fd, F, hm, hk, hb⟩ := G.ex
  intro pins s σ H Q I h
  refine wpAny_Call_Name_kw (ld_glob I hg hm ?_ hdb)
  refine PySem.W.callWith_K (h₀ := X.base) I.ok.mod.kin hk (thn (ha pos pins s σ H _ I h) fun us s1 ⟨vs, H1, I1, r, q⟩ => ⟨I1.kIn, ?_⟩) he hpl
  have hl : us.length = ps.length := by rw [← r.length]; exact F.len _ _ _ _ q
  have hb1 := hb s1 us I1.kIn (by rw [List.append_nil]; exact hl)
  rw [List.append_nil] at hb1
  refine wpAny_call (codeAny_mono (F.run X.A X.stack s1 H1 ⟨us, []⟩ us vs Q (fun c _ H' => Ex c σ H') (hr.mono hle) I1.env0 hb1 r q) fun r s' hq => ?_)
  cases r with
  | error e => exact px pins σ H1 s1 e s' I1 hq
  | ok fl =>
    cases fl with
    | ret u => exact I1.after hq
    | next => exact False.elim hq
    | brk => exact False.elim hq
    | cont => exact False.elim hq
theorem Fun.okX {P : Program} {w : World} {K : PySem.W.Frag} {mg : Str → Option Value} {base : Heap} {x qual : Str} {st : Stmt} {f : Addr} {fd : FuncData} {N ps : List Str} {k : Nat} {sp : Sp} (F : Fun K x qual st f fd) (S : FnScope N ps (defScope st)) (len : ∀ vs H Q E, sp vs H Q E → vs.length = ps.length)
    (hbody : ∀ (cdv : Value) (A : Around) (outer : List Env) (s : Shared) (H : Hp) (vs : List V) (Q : VK) (E : XK), A.handled = none → Room k (A.deeper (envOfC qual (defScope st) s.heap.objs.size f cdv)) → sp vs H Q E →
      ∃ t, PSs (cxOf (CXE P w) P w K mg base N qual (defScope st) f cdv A outer s H E) (defBody st) t ∧ t { nx := fun _ H' => Q .non H', rt := Q } (start N vs) H) : FnOk P w K mg base (CXE P w) (k + 1) f fd ps sp := by
  obtain ⟨oc, od, kV, doc, pm, an, cdv, ct, osl, rfl, lk, hcd⟩ := F.ex
  exact fn_of lk hcd S len fun A outer s H vs Q E hr hsp => hbody cdv A outer s H vs Q E hr.hd hr hsp
theorem PS.nox {X : Cx} {st : Stmt} {t : TS} (h : PS X.nox st t) : PS X st t := fun pins s σ H D I hw =>
  wpAny_mono (h pins s σ H D (I.wish _) hw) (fun _ _ q => q.unwish) fun _ _ z => False.elim z
theorem flown {P : Program} {w : World} {fs : List Addr} {H1 H' : Hp} {h1 hs h' B : Heap} (un : Un fs [] H1 H' h1 hs) (hok : HOk P w H' hs) (b1 : B.StaysIn hs) (b2 : B.StaysIn h') (sm : hs.UpToSlots h')
    (c1 : ∀ b o, h1.get? b = some o → b ∉ fs → ∃ o', B.get? b = some o') (c2 : ∀ b o, H' b = some o → ∃ o', B.get? b = some o') (ff : ∀ b ∈ fs, H1 b = none ∧ ∃ o, h1.get? b = some o ∧ ∀ vs, o.data ≠ .fields vs) : Un fs [] H1 H' h1 h' ∧ HOk P w H' h' := by
  have same : ∀ b o, hs.get? b = some o → (∃ o', B.get? b = some o') → h'.get? b = some o := fun b o e ⟨o', q⟩ => by
    have := b1 b o' q
    rw [e] at this
    cases this
    exact b2 b _ q
  have frm : ∀ b ∈ fs, ∀ o, hs.get? b = some o → ∃ sl, h'.get? b = some { o with slots := sl } := fun b hb o e => by
    obtain ⟨hn, o0, e0, hd⟩ := ff b hb
    obtain ⟨sl, e1⟩ := un.slot b o0 e0 hn hb (by simp)
    rw [e] at e1
    cases e1
    exact sm b _ e hd
  refine ⟨⟨fun b o e n hb _ => ?_, fun b o e n hb _ => ?_, un.free, fun b o e _ => ?_, un.tups, un.frzs, un.tbls⟩, fun b u' e => ?_⟩
  · exact same b o (un.keep b o e n hb (by simp)) (c1 b o e hb)
  · obtain ⟨sl, e1⟩ := un.slot b o e n hb (by simp)
    obtain ⟨sl', e2⟩ := frm b hb _ e1
    exact ⟨sl', e2⟩
  · obtain ⟨o1, e1⟩ := un.there b o e (by simp)
    by_cases hb : b ∈ fs
    · obtain ⟨sl, e2⟩ := frm b hb _ e1
      exact ⟨_, e2⟩
    · exact ⟨o1, same b o1 e1 (c1 b o e hb)⟩
  · refine (hok b u' e).stay (fun c v hc r => same c v r ?_) (fun _ q => q) fun _ _ q => q
    rcases hc with rfl | hc
    · exact c2 _ _ e
    · exact c2 _ _ hc
abbrev Cx.tried (X : Cx) (pins : List (Addr × Obj)) (xe : Value → Shared → Prop) : Cx := { X with pn := X.pn ++ pins, xe := xe }
abbrev Cx.suite (X : Cx) (a : Addr) (oe : Obj) : Cx := { X with A := X.A.mark (some (.ref a)), calm := false, pn := X.pn ++ [(a, oe)], xe := fun _ _ => False }
section
variable {X : Cx} {pins : List (Addr × Obj)} {σ : St} {H : Hp} {s : Shared} {xe : Value → Shared → Prop}
theorem Cx.Ok.tried (ok : X.Ok) : (X.tried pins xe).Ok := ⟨ok.mod, ok.kind, ok.glob, ok.blt, ok.above, ok.inj, ok.has, ok.cab, ok.hd, ok.frames, ok.stk, ok.exf, ok.bs, ok.bsz, ok.noex, ok.exfs, ok.funs, ok.frf⟩
theorem Cx.Ok.untried (ok : (X.tried pins xe).Ok) : X.Ok := ⟨ok.mod, ok.kind, ok.glob, ok.blt, ok.above, ok.inj, ok.has, ok.cab, ok.hd, ok.frames, ok.stk, ok.exf, ok.bs, ok.bsz, ok.noex, ok.exfs, ok.funs, ok.frf⟩
theorem Inv.tried (I : Inv X pins σ H s) : Inv (X.tried pins xe) [] σ H s := ⟨I.ok.tried, I.os, I.bare, I.base, I.loc, I.cell, I.free, I.freeC, fun p hp => I.pin p (by simpa using hp), I.hok, I.len⟩
theorem Inv.untried {pins' : List (Addr × Obj)} (I : Inv (X.tried pins xe) pins' σ H s) : Inv X pins σ H s := ⟨I.ok.untried, I.os, I.bare, I.base, I.loc, I.cell, I.free, I.freeC, fun p hp => I.pin p (List.mem_append_left _ hp), I.hok, I.len⟩
theorem SP.untried {D : Ends} {f : Flow} {s' : Shared} {pins' : List (Addr × Obj)} (h : SP (X.tried pins xe) pins' D f s') : SP X pins D f s' := by
  cases f with
  | next => obtain ⟨σ', H', I, q⟩ := h; exact ⟨σ', H', I.untried, q⟩
  | brk => obtain ⟨σ', H', I, q⟩ := h; exact ⟨σ', H', I.untried, q⟩
  | cont => obtain ⟨σ', H', I, q⟩ := h; exact ⟨σ', H', I.untried, q⟩
  | ret u => obtain ⟨v, σ', H', I, r, q⟩ := h; exact ⟨v, σ', H', I.untried, r, q⟩
theorem Cx.Ok.suite {a : Addr} {oe : Obj} (ok : X.Ok) : (X.suite a oe).Ok := ⟨ok.mod, ok.kind, ok.glob, ok.blt, ok.above, ok.inj, ok.has, ok.cab, fun z => (nomatch z), ok.frames, ok.stk, ok.exf, ok.bs, ok.bsz, ok.noex, ok.exfs, ok.funs, ok.frf⟩
theorem Inv.suite {a : Addr} {oe : Obj} (I : Inv X pins σ H s) (ha : s.heap.get? a = some oe) (hn : H a = none) (hl : a ≠ X.env.locals) (hf : a ∉ X.fs) (hc : ∀ v, oe.data ≠ .cell v) : Inv (X.suite a oe) pins σ H s :=
  ⟨I.ok.suite, I.os, I.bare, I.base, I.loc, I.cell, I.free, I.freeC, fun p hp => by
    have hp : p ∈ X.pn ++ [(a, oe)] ++ pins := hp
    rcases List.mem_append.mp hp with hp | hp
    · rcases List.mem_append.mp hp with hp | hp
      · exact I.pin p (List.mem_append_left _ hp)
      · rcases List.mem_singleton.mp hp with rfl
        exact ⟨ha, hn, hl, hf, hc⟩
    · exact I.pin p (List.mem_append_right _ hp), I.hok, I.len⟩
theorem Inv.unsuite {a : Addr} {oe : Obj} (ok : X.Ok) (I : Inv (X.suite a oe) pins σ H s) : Inv X pins σ H s :=
  ⟨ok, I.os, I.bare, I.base, I.loc, I.cell, I.free, I.freeC, fun p hp => I.pin p (by
    rcases List.mem_append.mp hp with hp | hp
    · exact List.mem_append_left _ (List.mem_append_left _ hp)
    · exact List.mem_append_right _ hp), I.hok, I.len⟩
theorem Inv.gone {h' : Heap} {m' : Str → Option Value} {t' : Nat} (I : Inv X pins σ H s) (hn : h'.Ns X.env.locals m') (hs : Heap.SameBut X.env.locals s.heap h') : Inv X pins (List.replicate X.N.length none) H { s with heap := h', toks := t' } := by
  obtain ⟨m, hm, _⟩ := id I.loc
  obtain ⟨oL, _, _, hoL, _⟩ := id hm
  have cne := I.cne
  refine ⟨I.ok, I.os, I.bare, ⟨fun b o e n hb hx => ?_, fun b o e n hb hx => ?_, I.base.free, fun b o e hx => ?_, I.base.tups, I.base.frzs, I.base.tbls⟩, ⟨m', hn, fun j y v' e1 e2 e3 => ?_⟩, fun y c e => ?_, I.free, I.freeC, fun p hp => ?_, fun b ob e => ?_, by simp⟩
  · exact (hs.2 b (Nat.ne_of_lt (Nat.lt_of_lt_of_le (Heap.lt_size e) I.ok.above))).trans (I.base.keep b o e n hb hx)
  · obtain ⟨sl, e1⟩ := I.base.slot b o e n hb hx
    exact ⟨sl, (hs.2 b (Nat.ne_of_lt (Nat.lt_of_lt_of_le (Heap.lt_size e) I.ok.above))).trans e1⟩
  · obtain ⟨o', e1⟩ := I.base.there b o e hx
    exact ⟨o', (hs.2 b (Nat.ne_of_lt (Nat.lt_of_lt_of_le (Heap.lt_size e) I.ok.above))).trans e1⟩
  · rw [List.getElem?_replicate] at e2
    split at e2 <;> cases e2
  · obtain ⟨w', z⟩ := I.cell y c e
    exact ⟨w', z.sameBut hs (cne y c e)⟩
  · obtain ⟨e, n, ne, nf, d⟩ := I.pin p hp
    exact ⟨(hs.2 p.1 ne).trans e, n, ne, nf, d⟩
  · refine (I.hok b ob e).stay (fun c w' hc q => (hs.2 c ?_).trans q) (fun _ q => q) fun _ _ q => q
    rintro rfl
    rcases hc with rfl | hc
    · rw [I.free] at e; cases e
    · rw [I.free] at hc; cases hc
end
end L2
set_option Elab.async false
set_option linter.all false
set_option maxRecDepth 100000
set_option maxHeartbeats 1000000
namespace L2
open PySem PySem.Spec PyProof.Rows
theorem x_matches {M : Model} {A : Around} {E : Value → Shared → Prop} {K : PySem.W.Frag} {h : Heap} {g : Array GenState} {d : Drawn} {t : Nat} {os : OsState} {a C C' : Addr} {oe : Obj} {Q : Bool → Shared → Prop} (X : K.In h) (c : XCls K C') (he : h.get? a = some oe) (hcls : oe.cls = .ref C)
    (hsub : PySem.W.subIn K (.ref C) (.ref C') = some true) (hq : Q true ⟨h, g, d, t, os⟩) : wpAny M A (excMatches (.ref a) (.ref C')) Q E ⟨h, g, d, t, os⟩ := by
  have l1 : PySem.W.Looks M h (typeOf (.ref C')) (.type "type") := PySem.W.looks_typeIn X c.ty
  have l2 : PySem.W.Looks M h (isSubtype (.ref C') (.type "BaseException")) true := PySem.W.looks_subIn X c.be
  have l3 : PySem.W.Looks M h (typeOf (.ref a)) (.ref C) := hcls ▸ (PySem.W.Looks.ld he).andThen .now
  have l4 : PySem.W.Looks M h (isSubtype (.ref C) (.ref C')) true := PySem.W.looks_subIn X hsub
  have f := tc_notTuple
  have z := c.co
  unfold PySem.W.clsIn at z
  split at z
  · rename_i c' d' cd' sl' ho
    have hC := X _ _ ho
    unfold excMatches isInstance isExcClass
    repeat (first | with_reducible refine l1.at ?_ | with_reducible refine l2.at ?_ | with_reducible refine l3.at ?_ | with_reducible refine l4.at ?_ | with_reducible refine wpAny_loadPart_at hC ?_ | wp_step)
    exact hq
  · cases z
def endsAs (n : Nat) (D : Ends) : Ends := { nx := fun _ H => D.nx (List.replicate n none) H, rt := D.rt, bk := fun _ H => D.bk (List.replicate n none) H, ct := fun _ H => D.ct (List.replicate n none) H }
def tTry (K : PySem.W.Frag) (n i : Nat) (C' : Addr) (tb : (Value → St → Hp → Prop) → TS) (ts : Addr → Addr → TS) : TS := fun D σ H =>
  tb (fun c σ' H' => ∃ C, c = .ref C ∧ PySem.W.subIn K (.ref C) (.ref C') = some true ∧ ∀ a, H' a = none → ts C a (endsAs n D) (σ'.set i (some (.ref a))) H') D σ H
theorem frs_mem {X : Cx} {pins : List (Addr × Obj)} {σ : St} {H : Hp} {s : Shared} (I : Inv X pins σ H s) : ∀ b ∈ frs X.stack, H b = none ∧ ∃ o, s.heap.get? b = some o ∧ ∀ vs, o.data ≠ .fields vs := fun b hb => ⟨I.stkFree b hb, (I.stack.mem hb).2⟩
theorem ps_try {X : Cx} {x n : Str} {i : Nat} {C' : Addr} {np hp pos : PySem.Pos} {body : List Stmt} {b₀ : Stmt} {suite : List Stmt} {tb : (Value → St → Hp → Prop) → TS} {ts : Addr → Addr → TS} (hN : X.N.Nodup) (hi : X.N[i]? = some n) (hloc : X.env.scope.names.lookup n = some .local)
    (hst : X.stack = X.env :: X.outer) (hfr : X.env.frame = some X.env.locals) (hm : X.mg x = some (.ref C')) (hg : Gl X x) (hcl : XCls X.K C')
    (hb : ∀ pins xe Ex, PassesX (X.tried pins xe) Ex → PSs (X.tried pins xe) body (tb Ex))
    (hs : ∀ (C a : Addr) (oe : Obj), oe.cls = .ref C → PSs (X.suite a oe) (b₀ :: suite) (ts C a)) (hdb : (x == ("__debug__" : Str)) = false := by decide) :
    PS X (.Try body [.ExceptHandler (some (.Name x np)) (some n) (b₀ :: suite) hp] [] [] pos) (tTry X.K X.N.length i C' tb ts) := by
  intro pins s σ H D I h
  refine wpAny_Try_except ?_
  refine wpAny_mono (hb pins _ _ ?_ [] s σ H D I.tried h) (fun f s1 q => ?_) fun e s1 q => q
  · rintro pins' σ1 H1 s1 e s' I1 ⟨a, C, a0, B, H', rfl, ho, hbare, un, hok, fl, c1, c2, C0, ec, hsub, q⟩
    cases ec
    have ff := frs_mem I1
    refine wpAny_looks_onW (by rw [← hst]; exact I1.ok.frames) hfr (by rw [← hst]; exact fl) fun h4 held4 sm4 => ?_
    refine wpAny_landsW held4 fun h5 fl5 sm5 => ?_
    obtain ⟨u5, hok5⟩ := flown un hok fl.1 fl5.1 (sm4.trans sm5) c1 c2 ff
    have J5 : Inv X pins σ1 H' { s' with heap := h5 } := (I1.call' (s' := { s' with heap := h5 }) ho u5 hok5 hbare (fun b z => nomatch z)).untried
    obtain ⟨oe5, he5, hc5⟩ := fl5.there
    refine wpAny_handleBy_cons (codeAny_handlers_test ?_) (by intro q; cases q)
    refine Calls.Name_function_global J5.ok.kind hg (Calls.loadGlobal_global (by rw [J5.ok.glob]; exact J5.mod.glob.keeps J5.bk) hm ?_) hdb
    refine x_matches J5.kIn hcl he5 hc5 hsub (codeAny_handlers_suite_as ?_)
    refine lands_againW fl5 fun h6 fl6 sm6 => ?_
    obtain ⟨u6, hok6⟩ := flown un hok fl.1 fl6.1 ((sm4.trans sm5).trans sm6) c1 c2 ff
    have J6 : Inv X pins σ1 H' { s' with heap := h6 } := (I1.call' (s' := { s' with heap := h6 }) ho u6 hok6 hbare (fun b z => nomatch z)).untried
    obtain ⟨oe, vs, T, oT, tss, he, ⟨hc, h0⟩, hd, _⟩ := fl6.2.2.2
    have hna : H' a = none := by
      cases z : H' a with
      | none => rfl
      | some o =>
        obtain ⟨o', e'⟩ := c2 a o z
        rw [fl.2.1] at e'
        cases e'
    have nfr : a ∉ frs X.stack := fun z => by
      obtain ⟨_, o, e, nd⟩ := frs_mem J6 a z
      rw [he] at e
      cases e
      exact nd _ hd
    have nl : a ≠ X.env.locals := fun z => nfr (by rw [hst]; unfold frs; rw [List.filterMap_cons, hfr, z]; exact List.mem_cons_self)
    have nfs : a ∉ X.fs := fun z => nfr (by
      rw [hst]; unfold frs; rw [List.filterMap_cons, hfr]; exact List.mem_cons_of_mem _ z)
    have J7 : Inv (X.suite a oe) pins σ1 H' { s' with heap := h6 } := J6.suite he hna nl nfs (fun v z => by rw [hd] at z; cases z)
    refine store_ok (X := X.suite a oe) (i := i) (v := .ref a) J7 hN hi (.inl hloc) rfl (fun s7 J8 => ?_) (.inr hloc)
    refine wpAny_mono (hs C a oe hc pins s7 (σ1.set i (some (.ref a))) H' (endsAs X.N.length D) J8 (q a hna)) (fun f s8 r8 => ?_) fun e s8 z => False.elim z
    have fin : ∀ {σ8 : St} {H8 : Hp}, Inv (X.suite a oe) pins σ8 H8 s8 → (∀ s9, Inv X pins (List.replicate X.N.length none) H8 s9 → SP X pins D f s9) → wpAny (model X.prog X.w) X.A (do bindName X.env n .none; unbindBehindTheSuite X.env n hp) (fun _ s9 => SP X pins D f s9) X.xe s8 := fun {σ8 H8} J k => by
      obtain ⟨m, hn, _⟩ := J.loc
      refine wpAny_nameGoes hloc hn (by rw [show X.env.scope.kind = .function from J.ok.kind]; rfl) fun h' m' hn' hs' => k _ ?_
      exact (J.unsuite J6.ok).gone hn' hs'
    cases f with
    | next => obtain ⟨σ8, H8, J, r⟩ := r8; exact fin J fun s9 J9 => ⟨_, _, J9, r⟩
    | brk => obtain ⟨σ8, H8, J, r⟩ := r8; exact fin J fun s9 J9 => ⟨_, _, J9, r⟩
    | cont => obtain ⟨σ8, H8, J, r⟩ := r8; exact fin J fun s9 J9 => ⟨_, _, J9, r⟩
    | ret u => obtain ⟨v, σ8, H8, J, rv, r⟩ := r8; exact fin J fun s9 J9 => ⟨v, _, _, J9, rv, r⟩
  · cases f with
    | next => exact wpAny_execs_nil (SP.untried q)
    | brk => exact SP.untried q
    | cont => exact SP.untried q
    | ret u => exact SP.untried q
end L2
set_option Elab.async false
set_option linter.all false
set_option maxRecDepth 100000
set_option maxHeartbeats 1000000
namespace L2
open PySem PySem.Spec PyProof.Rows
def rIsi (K : PySem.W.Frag) (C a : Addr) : List V → Hp → VK → Prop := fun xs H Q => XCls K C ∧ ∃ b, ((∃ C2, xs = [.ref a, .ref C2] ∧ XCls K C2 ∧ PySem.W.subIn K (.ref C) (.ref C2) = some b) ∨ (∃ T, xs = [.ref a, .ty T] ∧ PySem.W.kitMeta T = true ∧ PySem.W.subIn K (.ref C) (.type T) = some b) ∨
  (∃ (tp : Addr) (Cs : List Addr), xs = [.ref a, .ref tp] ∧ H tp = some (.tup (Cs.map V.ref)) ∧ (∀ c ∈ Cs, XCls K c) ∧ (∀ c ∈ Cs, PySem.W.subIn K (.ref C) (.ref c) = some false) ∧ b = false)) ∧ Q (.bl b) H
theorem kitOne_own {K : PySem.W.Frag} {C C2 : Addr} {b : Bool} (c : XCls K C) (c2 : XCls K C2) (h : PySem.W.subIn K (.ref C) (.ref C2) = some b) : PySem.W.kitOne K (.ref C) (.ref C2) = some b := by
  unfold PySem.W.kitOne
  by_cases q : C = C2
  · subst q
    rw [c.rf] at h
    cases h
    rw [if_pos (by simp)]
  · rw [if_neg (by simpa using q)]
    unfold PySem.W.kitCls
    dsimp only
    rw [if_pos (by rw [c2.co, c2.ty]; rfl)]
    exact h
theorem kitAny_own {K : PySem.W.Frag} {C : Addr} (c : XCls K C) : ∀ {Cs : List Addr}, (∀ x ∈ Cs, XCls K x) → (∀ x ∈ Cs, PySem.W.subIn K (.ref C) (.ref x) = some false) → PySem.W.kitAny K (.ref C) (Cs.map Value.ref) = some false
  | [], _, _ => rfl
  | x :: r, h1, h2 => by
    show PySem.W.kitAny K (.ref C) (Value.ref x :: r.map Value.ref) = some false
    unfold PySem.W.kitAny
    rw [kitOne_own c (h1 x List.mem_cons_self) (h2 x List.mem_cons_self)]
    exact kitAny_own c (fun y hy => h1 y (List.mem_cons_of_mem _ hy)) fun y hy => h2 y (List.mem_cons_of_mem _ hy)
theorem vals_cls : ∀ {Cs : List Addr} {us : List Value}, Vals (Cs.map V.ref) us → us = Cs.map Value.ref
  | [], us, h => by cases h; rfl
  | c :: r, us, h => by
    cases h with
    | cons r1 r2 =>
      cases (show _ = Value.ref c from r1)
      rw [vals_cls r2]
      rfl
theorem call_isiX {X : Cx} {a C : Addr} {oe : Obj} {K : PySem.W.Frag} (hoe : oe.cls = .ref C) (hK : X.K = K := by rfl) : CallR (X.suite a oe) (.builtin "isinstance") (rIsi K C a) := by
  subst hK
  intro pins s σ H xs us Q I r h
  obtain ⟨c, b, h, q⟩ := h
  have he : s.heap.get? a = some oe := (I.pin (a, oe) (List.mem_append_left _ (List.mem_append_right _ (List.mem_singleton.mpr rfl)))).1
  have hx : Value.ref a ≠ .builtin "__main__.__loader__#opaque" := fun z => nomatch z
  have fin : ∀ tk, EP (X.suite a oe) pins σ Q (.bool b) { s with toks := tk } := fun tk => ⟨.bl b, H, I.tok _, rfl, q⟩
  rcases h with ⟨C2, rfl, c2, e⟩ | ⟨T, rfl, hm, e⟩ | ⟨tp, Cs, rfl, ht, h1, h2, rfl⟩
  · obtain ⟨u, v, rfl, r1, r2⟩ := vals2 r
    cases (show u = Value.ref a from r1)
    cases (show v = Value.ref C2 from r2)
    exact PySem.W.kia_one (kitx_exc c) I.kIn ⟨oe, he, hoe⟩ (kitOne_own c c2 e) hx fin
  · obtain ⟨u, v, rfl, r1, r2⟩ := vals2 r
    cases (show u = Value.ref a from r1)
    cases (show v = Value.type T from r2)
    refine PySem.W.kia_one (kitx_exc c) I.kIn ⟨oe, he, hoe⟩ ?_ hx fin
    unfold PySem.W.kitOne PySem.W.kitCls
    rw [if_neg (by simp)]
    dsimp only
    rw [if_pos hm]
    exact e
  · obtain ⟨u, v, rfl, r1, r2⟩ := vals2 r
    cases (show u = Value.ref a from r1)
    cases (show v = Value.ref tp from r2)
    obtain ⟨_, its, rv, ob, h3, h4, n, h5⟩ := (show ObjOk X.prog X.w H s.heap tp (.tup (Cs.map V.ref)) from I.hok tp _ ht)
    obtain rfl := vals_cls rv
    obtain ⟨oc, od, odt, osl⟩ := ob
    cases h4
    cases h5
    exact PySem.W.kia_tup (kitx_exc c) I.kIn ⟨oe, he, hoe⟩ h3 (kitAny_own c h1 h2) hx fin
end L2
set_option Elab.async false
set_option linter.all false
set_option maxRecDepth 100000
set_option maxHeartbeats 1000000
set_option Elab.async false
set_option linter.all false
set_option maxRecDepth 100000
set_option maxHeartbeats 1000000
set_option Elab.async false
set_option linter.all false
set_option maxRecDepth 100000
set_option maxHeartbeats 1000000
set_option Elab.async false
set_option linter.all false
set_option maxRecDepth 100000
set_option maxHeartbeats 1000000
set_option Elab.async false
set_option linter.all false
set_option maxRecDepth 100000
set_option maxHeartbeats 1000000
namespace L2
open PySem PySem.Spec PyProof.Rows
theorem ixN_nat {n j : Nat} (h : j < n) : ixN n (j : Int) = some j := by
  unfold ixN
  rw [if_pos (by omega)]
  first
    | (rw [if_pos (by omega)]; simp)
    | (simp; omega)
end L2
set_option Elab.async false
set_option linter.all false
set_option maxRecDepth 100000
set_option maxHeartbeats 1000000
set_option Elab.async false
set_option linter.all false
set_option maxRecDepth 100000
set_option maxHeartbeats 1000000
namespace L2
open PySem PySem.Spec PyProof.Rows
def spTiesZ (K : PySem.W.Frag) : Sp := fun vs H Q _ => ∃ (a : Addr) (xs : List V), vs = [.ref a] ∧ SqL K H a xs ∧ Q (.int ((xs.length / 2 * 3 : Nat) : Int)) H
end L2
set_option Elab.async false
set_option linter.all false
set_option maxRecDepth 100000
set_option maxHeartbeats 1000000
set_option Elab.async false
set_option linter.all false
set_option maxRecDepth 100000
set_option maxHeartbeats 1000000
set_option Elab.async false
set_option linter.all false
set_option maxRecDepth 100000
set_option maxHeartbeats 1000000
set_option Elab.async false
set_option linter.all false
set_option maxRecDepth 100000
set_option maxHeartbeats 1000000
set_option Elab.async false
set_option linter.all false
set_option maxRecDepth 100000
set_option maxHeartbeats 1000000
set_option Elab.async false
set_option linter.all false
set_option maxRecDepth 100000
set_option maxHeartbeats 1000000
namespace L2
open PySem PySem.Spec PyProof.Rows
theorem TuL.get {H : Hp} {xs : List V} {us : List (List Int)} (h : TuL H xs us) {i : Nat} {u : List Int} (e : us[i]? = some u) : ∃ a : Addr, H a = some (.tup (u.map V.int)) ∧ xs[i]? = some (.ref a) := by
  have il : i < xs.length := by rw [h.1]; exact (List.getElem?_eq_some_iff.mp e).1
  obtain ⟨a, ea, ha⟩ := h.2 i _ u (List.getElem?_eq_getElem il) e
  exact ⟨a, ha, by rw [List.getElem?_eq_getElem il, ea]⟩
def spFromI : Sp := fun vs H Q _ => ∃ i l : Int, vs = [.int i, .int l] ∧ Q (.bl (decide (l ≤ i))) H
def spGluedI : Sp := fun vs H Q _ => ∃ (b : Addr) (xs : List V) (S : List (List Int)), vs = [.ref b] ∧ H b = some (.lst xs) ∧ TuL H xs S ∧ ShOk S ∧ ∀ (c : Addr) (zs : List V) (gs : List (List (List Int))) (H' : Hp), Same H H' → H c = none → H' c = some (.lst zs) → LsL H' true zs gs → GlInv (S.length / 2 * 3) (sidesF S) gs → Q (.ref c) H'
end L2
set_option Elab.async false
set_option linter.all false
set_option maxRecDepth 100000
set_option maxHeartbeats 1000000
set_option Elab.async false
set_option linter.all false
set_option maxRecDepth 100000
set_option maxHeartbeats 1000000
namespace L2
open PySem PySem.Spec PyProof.Rows
theorem meta_ve : PySem.W.kitMeta "ValueError" = true := by decide +kernel
end L2
set_option Elab.async false
set_option linter.all false
set_option maxRecDepth 100000
set_option maxHeartbeats 1000000
set_option Elab.async false
set_option linter.all false
set_option maxRecDepth 100000
set_option maxHeartbeats 1000000
namespace L2
open PySem PySem.Spec PyProof.Rows
section
variable {X : Cx} {pins : List (Addr × Obj)} {σ : St} {H : Hp} {s : Shared}
theorem Inv.freeze {d : Addr} {o : Obj} {kvs : List (Key × V)} (I : Inv X pins σ H s) (e : H d = some (.dK kvs)) (ho : s.heap.get? d = some o) : Inv X pins σ (upd H d (.frz o (.dK kvs))) s := by
  have nd : ∀ b u, H b = some u → u ≠ .dK kvs → b ≠ d := fun b u q n z => by subst z; rw [e] at q; cases q; exact n rfl
  have h0 := I.hok d _ e
  refine I.step (g' := s.gens) (d' := s.drawn) (t' := s.toks) (h' := s.heap) (ch := []) (fun _ z => nomatch z) (fun b ob _ _ _ q _ => q) (fun b ob _ _ _ q _ => ⟨ob.slots, q⟩) (fun b ob _ _ q => by rw [upd_ne (fun z => by subst z; rw [e] at q; cases q)]; exact q) (fun b ob _ q => ⟨ob, q⟩) (fun b xs q => by rw [upd_ne (nd b _ q (fun z => nomatch z))]; exact q) (fun b ob u q => by rw [upd_ne (nd b _ q (fun z => nomatch z))]; exact q) (fun b ps q => ⟨#[], by rw [upd_ne (nd b _ q (fun z => nomatch z)), Array.append_empty]; exact q⟩) (fun m q => q) ?_ I.bare
  refine HOk.write (h' := s.heap) I.hok (x := d) (e := d) (by rw [e]; trivial) (.inl rfl) (fun b u _ q => q) ⟨o, ho⟩ ⟨ho, ?_⟩
  obtain ⟨z, y, vs, r, dd⟩ := h0
  exact ⟨z, y, vs, r, dd⟩
theorem kv_at : ∀ {kvs : List (Key × V)} {vs : List (Key × Value)} {i : Nat} {k : Key} {v : V}, KV kvs vs → kvs[i]? = some (k, v) → ∃ x, vs[i]? = some (k, x)
  | _, _, i, k, v, .nil, h => by simp at h
  | _, _, 0, k, v, .cons r t, h => by
    simp only [List.getElem?_cons_zero, Option.some.injEq] at h
    subst h
    exact ⟨_, by rw [List.getElem?_cons_zero]; exact congrArg some (Prod.ext r.1.symm rfl)⟩
  | _, _, i + 1, k, v, .cons r t, h => by
    obtain ⟨x, hx⟩ := kv_at (i := i) t (by simpa using h)
    exact ⟨x, by simpa using hx⟩
theorem kv_len {kvs : List (Key × V)} {vs : List (Key × Value)} (h : KV kvs vs) : kvs.length = vs.length := by
  induction h with
  | nil => rfl
  | cons r t ih => rw [List.length_cons, List.length_cons, ih]
theorem kV_rel {P : Program} {w : World} {k : Key} {u : Value} (h : (mixKind P w).is k u = true) : RelV (kV k) u := by
  rcases keyIs_shape h with ⟨i, t, rfl, rfl⟩ | ⟨x, t, rfl, rfl⟩
  · exact ⟨t, rfl⟩
  · exact ⟨t, rfl⟩
def Itd (d : Addr) (o : Obj) (kvs : List (Key × V)) : It :=
  ⟨fun i H => H d = some (.frz o (.dK kvs)) ∧ i < kvs.length, fun i H x H' => H' = H ∧ ∃ k v, kvs[i]? = some (k, v) ∧ x = kV k, fun i H => H d = some (.frz o (.dK kvs)) ∧ kvs.length ≤ i⟩
theorem turn_dict {P : Program} {w : World} {K : PySem.W.Frag} {tg : Expr} {h1 : Heap} {o : Obj} {kvs : List (Key × V)} {vs : List (Key × Value)} {ep : Nat} (d it : Addr) (ho : h1.get? d = some o) (hd : h1.DictAt (mixKind P w) d vs ep) (rel : KV kvs vs) :
    Turn P w K tg (Itd d o kvs) [it] it (fun i h => h.IsKeyIter it d i vs.length ep) where
  mem := by simp
  obj := fun i h st b hb => by
    have e : b = it := by simpa using hb
    subst e
    obtain ⟨ob, e, c, dt⟩ := st
    exact ⟨ob, e, fun v z => by rw [dt] at z; cases z⟩
  keep := fun i h h' st k => by
    obtain ⟨ob, e, r⟩ := st
    exact ⟨ob, k it (by simp) ob e, r⟩
  item := by
    intro X hP hw hK hc i pins s σ H E I hf st hg
    subst hP hw hK
    obtain ⟨hH, il⟩ := hg
    have hod := (I.hok d _ hH).1
    have dA : s.heap.DictAt (mixKind X.prog X.w) d vs ep := by
      obtain ⟨ob, es, e, r⟩ := hd
      rw [ho] at e
      cases e
      exact ⟨o, es, hod, r⟩
    obtain ⟨⟨k, v⟩, hkv⟩ : ∃ p, kvs[i]? = some p := ⟨_, List.getElem?_eq_getElem il⟩
    obtain ⟨x, hx⟩ := kv_at rel hkv
    obtain ⟨f0, f1, f2, f3, f4, f5⟩ := hf it (by simp)
    refine wpAny_pyNext_dict_item st dA hx fun key h' hkey st' sb => ?_
    have I1 : Inv X pins σ H { s with heap := h' } := I.turned (t' := s.toks) (fun b ob hb e => (sb.2 b hb).trans e) f0 f1 f3 f4 f5
    obtain ⟨ob, e, c, dt⟩ := id st'
    exact ⟨key, rfl, go_of (s := { s with heap := h' }) e c dt (by decide) ⟨kV k, H, I1, kV_rel hkey, ⟨rfl, k, v, hkv, rfl⟩, st', fun b hb => (hf b hb).1⟩⟩
  done := by
    intro X hP hw hK hc i pins s σ H E I hf st hg
    subst hP hw hK
    obtain ⟨hH, il⟩ := hg
    have hod := (I.hok d _ hH).1
    have dA : s.heap.DictAt (mixKind X.prog X.w) d vs ep := by
      obtain ⟨ob, es, e, r⟩ := hd
      rw [ho] at e
      cases e
      exact ⟨o, es, hod, r⟩
    obtain ⟨f0, f1, f2, f3, f4, f5⟩ := hf it (by simp)
    exact wpAny_pyNext_dict_end (I.ok.hd hc) st dA (List.getElem?_eq_none (by have := kv_len rel; omega)) fun h' eb => ⟨rfl, I.turned (t' := s.toks) (fun b ob hb e => eb b ob hb e) f0 f1 f3 f4 f5⟩
  self := fun _ _ _ _ _ st h => wpAny_pyIter_keyiter st h
def iDict (td : TE) : TI := fun σ H R => td σ H fun x H1 => ∃ d kvs, x = .ref d ∧ H1 d = some (.dK kvs) ∧ ∀ o, R (Itd d o kvs) (upd H1 d (.frz o (.dK kvs)))
theorem pi_dict {tg l : Expr} {td : TE} (hl : PE X l td) : PI X tg l (iDict td) := by
  intro pins s σ H R I h
  refine thn (hl pins s σ H _ I h) fun v s1 ⟨x, H1, I1, r1, q1⟩ => ?_
  obtain ⟨d, kvs, e, hd, q⟩ := q1
  subst e
  cases r1
  obtain ⟨z, sm, vs, rel, dd⟩ := I1.hok d _ hd
  obtain ⟨ep, dA⟩ := dd.dictAt
  obtain ⟨o, es, ho, r⟩ := id dA
  have I2 := I1.freeze hd ho
  refine wpAny_pyIter_dict sm dA ?_
  refine ⟨s1.heap.objs.size, [s1.heap.objs.size], _, _, _, rfl, I2.kept (t' := s1.toks) fun b o e => Heap.get?_push_of_some _ e, turn_dict d _ ho dA rel, ⟨_, Heap.get?_push_size _ rfl, rfl, rfl⟩, fun b hb => ?_, q o⟩
  have e : b = s1.heap.objs.size := by simpa using hb
  subst e
  exact I2.fpOk (Nat.le_refl _) (I2.hok.fresh (Nat.le_refl _))
end
end L2
set_option Elab.async false
set_option linter.all false
set_option maxRecDepth 100000
set_option maxHeartbeats 1000000
namespace PySem
section
variable {prog : Program} {w : World} {K : Type} [DecidableEq K] {knd : KeyKind prog w K} {A : Around} {E : Value → Shared → Prop} {s : Shared}
theorem wpAny_dictSetDefault_pairs {d : Addr} {kvs : List (K × Value)} {k : K} {key dflt : Value} {Q : Value → Shared → Prop} (hkey : knd.is k key = true) (hm : s.heap.DictOf knd d kvs)
    (hthere : ∀ v, valueAt kvs k = some v → Q v { s with toks := s.toks + 1 })
    (hnew : valueAt kvs k = none → ∀ h', h'.DictOf knd d (stored kvs k dflt) → Heap.SameBut d s.heap h' → Q dflt { s with heap := h', toks := s.toks + 1 })
    (hsz : kvs.length ≤ sizeLine) : wpAny (model prog w) A (dictSetDefault d key dflt) Q E s := by
  obtain ⟨o, es, ep, ho, hc, hd, hk, hf⟩ := hm.mapOf
  obtain ⟨o2, es2, ep2, ho2, hc2, hd2, hk2, hp, hn⟩ := id hm
  rw [ho] at ho2
  cases ho2
  rw [hd] at hd2
  cases hd2
  have hes : es.size ≤ sizeLine := by
    have e1 := hp.length
    have e2 : es.toList.length = es.size := by simp
    omega
  unfold dictSetDefault
  try with_reducible refine wpAny_holding ?_
  refine wpAny_bind (knd.pyHash hkey ?_)
  refine wpAny_bind (wpAny_dictFind_of (s := { s with toks := s.toks + 1 }) hkey ho hd hk ?_)
  have hidx : (es.findIdx? fun e => knd.is k e.key) = kvs.findIdx? fun kv => decide (kv.1 = k) := by
    rw [← hp.findIdx k]; obtain ⟨l⟩ := es; simp
  cases hi : es.findIdx? fun e => knd.is k e.key with
  | some i =>
    have hfk : valueAt kvs k = (es[i]?).map (·.val) := by rw [← hf k, findBy_of_findIdx?, hi]
    refine wpAny_bind (wpAny_dictEntries (s := { s with toks := s.toks + 1 }) ho hd ?_)
    cases he : es[i]? with
    | none =>
      exfalso
      have := Array.findIdx?_eq_some_iff_findIdx_eq.mp hi
      have hlt : i < es.size := this.1
      rw [Array.getElem?_eq_getElem hlt] at he
      exact nomatch he
    | some e =>
      rw [he] at hfk
      exact wpAny_bind (wpAny_rule (wpAny_pure (hthere e.val hfk)))
  | none =>
    have hfk : valueAt kvs k = none := by rw [← hf k, findBy_of_findIdx?, hi]
    have hnot : k ∉ kvs.map (·.1) := not_mem_of_findIdx_none (hidx ▸ hi)
    have hany : ¬ (kvs.any fun kv => decide (kv.1 = k)) = true := by
      rw [List.any_eq_true]; rintro ⟨kv, hkv, he⟩
      exact hnot (List.mem_map.mpr ⟨kv, hkv, of_decide_eq_true he⟩)
    refine wpAny_bind (wpAny_rule (wpAny_bind (wpAny_updateDictKeys (hz := hes) (s := { s with toks := s.toks + 1 }) ho hd (wpAny_pure (hnew hfk _ ⟨_, _, ep + 1, Heap.get?_update_self _ ho (Obj.isFreed_of_dict (Obj.data_mapDictKeys hd _)),
      hc.mapDictKeys _, Obj.data_mapDictKeys hd _, hk.push hkey _, ?_, ?_⟩ (Heap.SameBut.update ..))))))
    · rw [stored, if_neg hany]
      have := hp.append hkey (knd.hash k) dflt
      obtain ⟨l⟩ := es
      simpa using this
    · rw [stored, if_neg hany, List.map_append, List.nodup_append]
      refine ⟨hn, by simp, ?_⟩
      intro a ha b hb
      simp only [List.map_cons, List.map_nil, List.mem_singleton] at hb
      subst hb
      exact fun e => hnot (e ▸ ha)
variable {d : Addr} {k : K} {key : Value}
theorem meets_setdefault_pairs (hkey : knd.is k key = true) (hd : (d == sysModules) = false) (dflt : Value) :
    MeetsIn prog w (Builtin.«dict.setdefault» ⟨[.ref d, key, dflt], []⟩) (fun _ R s => ∃ kvs, s.heap.DictOf knd d kvs ∧ kvs.length ≤ sizeLine ∧
      (∀ v, valueAt kvs k = some v → R (.ok (.ret v)) { s with toks := s.toks + 1 }) ∧
      (valueAt kvs k = none → ∀ h', h'.DictOf knd d (stored kvs k dflt) → Heap.SameBut d s.heap h' → R (.ok (.ret dflt)) { s with heap := h', toks := s.toks + 1 })) :=
  .of_wp fun A R s ⟨kvs, hm, hz, h1, h2⟩ => by
    unfold Builtin.«dict.setdefault»
    refine wpAny_bind ?_
    unfold Builtin.Dict.keyAndDefault
    refine wpAny_bind (wpAny_notOrdered_dict hm.typeIs ?_)
    show wpAny _ _ (pure (d, key, some dflt)) _ _ s
    refine wpAny_pure ?_
    show wpAny _ _ (if (d == sysModules) = true then _ else (dictSetDefault d key dflt >>= _)) _ _ s
    rw [if_neg (by rw [hd]; exact Bool.false_ne_true)]
    exact wpAny_bind (wpAny_dictSetDefault_pairs hkey hm (fun v hv => wpAny_pure ⟨v, rfl, h1 v hv⟩) (fun hn h' hm' hs' => wpAny_pure ⟨dflt, rfl, h2 hn h' hm' hs'⟩) hz)
end
end PySem
namespace L2
open PySem PySem.Spec PyProof.Rows
section
variable {X : Cx}
def rSetD : V → List V → Hp → VK → Prop := fun x vs H Q => ∃ (a : Addr) (kvs : List (Key × V)) (k : Key) (z : V), x = .ref a ∧ vs = [kV k, z] ∧ H a = some (.dK kvs) ∧ kvs.length < 1000 ∧ (∀ v, valV kvs k = some v → Q v H) ∧ (valV kvs k = none → Q z (upd H a (.dK (putK kvs k z))))
theorem mt_setdef : MtM X "dict.setdefault" rSetD := by
  intro pins s σ H x vs v us Q I rx rv h
  obtain ⟨a, kvs, k, z, rfl, rfl, hH, hl, h1, h2⟩ := h
  obtain rfl : v = Value.ref a := rx
  obtain ⟨u1, u2, rfl, r1, r2⟩ := Vals.two rv
  obtain ⟨zl, hd, ws, rel, dd⟩ := dk_of I.hok hH
  have hz : ws.length ≤ sizeLine := by rw [← rel.length]; exact zl
  refine call_meetsIn PySem.F.slot_dict_setdefault dd.typeIs PySem.F.entry_dict_setdefault (PySem.F.args_dict_setdefault_3 _ _ _) (meets_setdefault_pairs (kV_is r1) hd u2) ⟨ws, dd, hz, fun w' hw => ?_, fun hn h' dd' hs => ?_⟩
  · have rl := rel.val k
    rw [hw] at rl
    cases hv : valV kvs k with
    | none => rw [hv] at rl; cases rl
    | some v0 =>
      rw [hv] at rl
      exact ⟨v0, H, I.tok _, rl, h1 v0 hv⟩
  · have rl := rel.val k
    rw [hn] at rl
    have hv : valV kvs k = none := by
      cases hv : valV kvs k with
      | none => rfl
      | some v0 => rw [hv] at rl; cases rl
    have hl2 : (putK kvs k z).length ≤ sizeLine := by have := length_putK kvs k z; have := small1000 (n := kvs.length) (by omega); omega
    have he : ∃ q, h'.get? a = some q := let ⟨q, _, _, hq, _⟩ := dd'; ⟨q, hq⟩
    exact ⟨z, _, d_write I (by rw [hH]; exact True.intro) hs he (dk_new hl2 hd (rel.put k r2) dd'), r2, h2 hv⟩
end
end L2
set_option Elab.async false
set_option linter.all false
set_option maxRecDepth 100000
set_option maxHeartbeats 1000000
namespace L2
open PySem PySem.Spec PyProof.Rows
def cs3 (t : List Int) (p : Nat) : Int := t.getD ((p + 2) % 3) 0 + t.getD p 0
def gsm (A : List (List Int)) (u : List Int) : Int := cs3 (A.getD (u.getD 0 0).toNat []) (u.getD 1 0).toNat
def smo (S A : List (List Int)) (k : Nat) : List Int := (glueOf (sidesF S) k).map (gsm A)
def sm0 (S A : List (List Int)) (k : Nat) : Int := (smo S A k).getD 0 0
def sm1 (S A : List (List Int)) (k : Nat) : Int := (smo S A k).getD 1 0
def okA (S A : List (List Int)) : Prop := ∀ k, k < S.length / 2 * 3 → sm0 S A k = sm1 S A k
def rowA (S A : List (List Int)) : List Int := (List.range (S.length / 2 * 3)).map (sm0 S A)
structure ArOk (S A : List (List Int)) : Prop where
  len : A.length = S.length
  all : ∀ u ∈ A, u.length = 3 ∧ ∀ x ∈ u, 0 ≤ x
theorem cs_at {t : List Int} {p : Nat} (h : t.length = 3) (hp : p < 3) : ∃ v1 v2 : Int, atI (t.map V.int) ((p : Int) - 1) = some (V.int v1) ∧ atI (t.map V.int) (p : Int) = some (V.int v2) ∧ v1 + v2 = cs3 t p := by
  obtain ⟨a, b, c, rfl⟩ := three3 h
  have hc : p = 0 ∨ p = 1 ∨ p = 2 := by omega
  rcases hc with rfl | rfl | rfl
  · exact ⟨c, a, rfl, rfl, rfl⟩
  · exact ⟨a, b, rfl, rfl, rfl⟩
  · exact ⟨b, c, rfl, rfl, rfl⟩
theorem smo_two {S A : List (List Int)} (oS : ShOk S) {k : Nat} (hk : k < S.length / 2 * 3) : smo S A k = [sm0 S A k, sm1 S A k] := by
  have h2 : (smo S A k).length = 2 := by unfold smo; rw [List.length_map]; exact glue_two oS hk
  unfold sm0 sm1
  generalize smo S A k = l at h2
  rcases l with _ | ⟨a, _ | ⟨b, _ | ⟨c, l⟩⟩⟩
  · cases h2
  · cases h2
  · rfl
  · cases h2
def spArcsA : Sp := fun vs H Q _ => ∃ (b c : Addr) (xs ys : List V) (us : List (List Int)), vs = [.ref b, .ref c] ∧ H b = some (.lst xs) ∧ H c = some (.lst ys) ∧ ys.length = xs.length ∧ ys.length ≤ 1000 ∧ TuL H ys us ∧ (∀ u ∈ us, u.length = 3 ∧ ∀ x ∈ u, 0 ≤ x) ∧ ∀ H', Same H H' → Q (.bl true) H'
def spRowX (cN : Addr) : Sp := fun vs H Q E => ∃ (b c : Addr) (xs ys : List V) (S A : List (List Int)), vs = [.ref b, .ref c] ∧ H b = some (.lst xs) ∧ TuL H xs S ∧ ShOk S ∧ H c = some (.lst ys) ∧ TuL H ys A ∧ ArOk S A ∧
  (¬ okA S A → ∀ H', Same H H' → E (.ref cN) none H') ∧ (okA S A → ∀ (p : Addr) (H' : Hp), Same H H' → H p = none → H' p = some (.lst ((rowA S A).map V.int)) → Q (.ref p) H')
def tRowX (K : PySem.W.Frag) (E : XK) (cN : Addr) : TS := tSeq (tIfS (tNot (tB (tCall spArcsA [] E0 (tCons (tVar 0) (tCons (tVar 1) tNil))))) (tRaise E cN) tNext) (tSeq (tAsg (tLst tNil) (gName 2)) (tSeq (tFor (iList K (tCall spGluedI [] E0 (tCons (tVar 0) tNil))) (gName 3) (tSeq (tAsg (tCompG 2 (iList K (tVar 3)) (gTup K 2 (gCons (gName 0) (gCons (gName 1) gNil))) tYes (tOp (rI0 fun i j => V.int (i + j)) (tOp (rIxT K) (tOp (rIxL K) (tVar 3) (tVar 0)) (tOp (rI0 fun i j => V.int (i - j)) (tVar 1) (tC (V.int 1)))) (tOp (rIxT K) (tOp (rIxL K) (tVar 3) (tVar 0)) (tVar 1)))) (gLst K 2 (gCons (gName 4) (gCons (gName 5) gNil)))) (tSeq (tIfS (tTest (tOp rNe (tVar 4) (tVar 5))) (tRaise E cN) tNext) (tDrop (tBM K "list" rAppend (tVar 2) (tCons (tVar 4) tNil)))))) (tRet (tVar 2))))
theorem lsl_neX {H : Hp} {zs : List V} {gs : List (List (List Int))} {q : Addr} (lz : LsL H true zs gs) (hne : ∀ g ∈ gs, g ≠ []) (hq : H q = some (.lst ([] : List V))) : ∀ y ∈ zs, y ≠ .ref q := by
  intro y hy e
  obtain ⟨i, hi⟩ := List.mem_iff_getElem?.mp hy
  have il : i < gs.length := by rw [← lz.1]; exact (List.getElem?_eq_some_iff.mp hi).1
  obtain ⟨a, ax, rfl, ha, ia⟩ := lz.2 i y _ hi (List.getElem?_eq_getElem il)
  cases e
  rw [hq] at ha
  cases ha
  have := ia.1
  exact hne _ (List.getElem_mem il) (List.length_eq_zero_iff.mp this.symm)
set_option maxHeartbeats 8000000 in
theorem rowX_reads {K : PySem.W.Frag} {H : Hp} {Q : VK} {E : XK} {Z : L2.St → Hp → Prop} {cN b c : Addr} {xs ys : List V} {S A : List (List Int)} (hb : H b = some (.lst xs)) (tS : TuL H xs S) (oS : ShOk S) (hc : H c = some (.lst ys)) (tA : TuL H ys A) (oA : ArOk S A)
    (k1 : ¬ okA S A → ∀ H', Same H H' → E (.ref cN) none H') (k2 : okA S A → ∀ (p : Addr) (H' : Hp), Same H H' → H p = none → H' p = some (.lst ((rowA S A).map V.int)) → Q (.ref p) H') :
    tRowX K E cN { nx := Z, rt := Q } [some (.ref b), some (.ref c), none, none, none, none] H := by
  have lS := oS.len
  have lx : xs.length = S.length := tS.1
  have ly : ys.length = S.length := by rw [tA.1]; exact oA.len
  refine ⟨_, rfl, _, rfl, b, c, xs, ys, _, rfl, hb, hc, by omega, by omega, tA, oA.all, fun H1 s1 => ⟨_, rfl, iteF ?_⟩⟩
  refine ⟨(by show 0 ≤ sizeLine; decide), fun q hq => ?_⟩
  have s2 := Same.nw (o := .lst []) s1 hq
  have fq : (upd H1 q (.lst [])) q = some (.lst (((rowA S A).take 0).map V.int)) := upd_same
  have qf : H q = none := s1.free hq
  generalize upd H1 q (.lst []) = H2 at s2 fq ⊢
  refine ⟨_, rfl, b, xs, S, rfl, s2 _ _ hb, tS.up s2.tups, oS, fun g zs gs H3 s3 gf hg lz gi => ?_⟩
  have zl : zs.length = S.length / 2 * 3 := by rw [lz.1, gi.len]
  have rl : (rowA S A).length = S.length / 2 * 3 := by unfold rowA; rw [List.length_map, List.length_range]
  have nqz : ∀ y ∈ zs, y ≠ .ref q := lsl_neX lz (fun g' hg' z => by
    obtain ⟨j, hj⟩ := List.mem_iff_getElem?.mp hg'
    have jl := (List.getElem?_eq_some_iff.mp hj).1
    have e := gi.val j (by rw [← gi.len]; exact jl)
    rw [hj] at e
    have := glue_two oS (k := j) (by rw [← gi.len]; exact jl)
    rw [← Option.some.inj e, z] at this
    cases this) (s3 _ _ fq)
  have nqg : g ≠ q := fun z => by rw [z, fq] at gf; cases gf
  refine ⟨g, rfl, ⟨_, SqL.of hg⟩, for_list (K := K) (a := g) (xs := zs) (fun i σ H' => ∃ (x3 x4 x5 : Option V), σ = [some (.ref b), some (.ref c), some (.ref q), x3, x4, x5] ∧ (∀ a o, H3 a = some o → a ≠ q → H' a = some o) ∧ H' q = some (.lst (((rowA S A).take i).map V.int)) ∧ ∀ j, j < i → sm0 S A j = sm1 S A j) ⟨_, _, _, rfl, fun a o e _ => e, s3 _ _ fq, fun j hj => absurd hj (Nat.not_lt_zero _)⟩ (fun i σ H' _ h => by obtain ⟨_, _, _, _, kp, _⟩ := h; exact SqL.of (kp _ _ hg nqg)) ?_ ?_⟩
  · rintro i y σ H4 hy ⟨x3, x4, x5, rfl, kp4, hq4, okj⟩
    have il : i < S.length / 2 * 3 := by rw [← zl]; exact (List.getElem?_eq_some_iff.mp hy).1
    have eg := gi.val i il
    obtain ⟨a, ax, rfl, ha, ia⟩ := lz.2 i y _ hy eg
    have naq : a ≠ q := fun z => nqz _ (List.mem_of_getElem? hy) (by rw [z])
    have ha4 := kp4 _ _ ha naq
    have a2 : ax.length = 2 := by rw [ia.1]; exact glue_two oS il
    have er : (rowA S A)[i]? = some (sm0 S A i) := by
      unfold rowA
      rw [List.getElem?_map, List.getElem?_range il]
      rfl
    have t34 : Tups H3 H4 := fun p xs' e => kp4 p _ e fun z => by rw [z, s3 _ _ fq] at e; cases e
    have s03 := s2.trans s3
    have tA4 : TuL H4 ys A := (tA.up s03.tups).up t34
    have hc4 : H4 c = some (.lst ys) := kp4 _ _ (s03 _ _ hc) (ne_of_none hc qf)
    refine ⟨_, rfl, a, rfl, ⟨_, SqL.of ha4⟩, compL (K := K) (a := a) (xs := ax) (fun m ws H' => ws = ((smo S A i).take m).map V.int ∧ H4 = H') ⟨rfl, rfl⟩ (by omega) (fun m ws H' h => by rw [h.1, List.length_map, List.length_take]; exact Nat.min_le_left _ _) (fun m ws H' _ h => by rw [← h.2]; exact SqL.of ha4) ?_ ?_⟩
    · rintro m z ws H' pre hpl hz ⟨rfl, rfl⟩
      have ml : m < (glueOf (sidesF S) i).length := by rw [← ia.1]; exact (List.getElem?_eq_some_iff.mp hz).1
      have eu0 := List.getElem?_eq_getElem ml
      have itm := ia.2 m z _ hz eu0
      obtain ⟨at', pl, t, sd, et, es, eu, ab⟩ := glue_mem (List.getElem_mem ml)
      have esm : (smo S A i)[m]? = some (gsm A [(at' : Int), (pl : Int)]) := by unfold smo; rw [List.getElem?_map, eu0, eu]; rfl
      rw [eu] at itm
      have mt : t ∈ S := List.mem_of_getElem? et
      have atl : at' < A.length := by rw [oA.len]; exact (List.getElem?_eq_some_iff.mp et).1
      have eA : A[at']? = some A[at'] := List.getElem?_eq_getElem atl
      have a3 := (oA.all _ (List.getElem_mem atl)).1
      have pl3 : pl < 3 := by have := (List.getElem?_eq_some_iff.mp es).1; rw [oS.three t mt] at this; exact this
      obtain ⟨v1, v2, e1, e2, sm⟩ := cs_at a3 pl3
      have egs : gsm A [(at' : Int), (pl : Int)] = cs3 A[at'] pl := by
        show cs3 (A.getD ((at' : Int)).toNat []) ((pl : Int)).toNat = _
        rw [Int.toNat_natCast, Int.toNat_natCast, List.getD_eq_getElem?_getD, eA]
        rfl
      cases itm with
      | tup hu =>
        rename_i pp
        have hu4 := t34 _ _ hu
        obtain ⟨yv, ey, iy⟩ := (tA4.it).at eA
        cases iy with
        | tup hy4 =>
          rename_i pq
          rcases pre with _ | ⟨q0, _ | ⟨q1, _ | ⟨q2, pre⟩⟩⟩
          · cases hpl
          · cases hpl
          · refine ⟨pp, _, rfl, SqT.of hu4, rfl, _, _, rfl, _, _, rfl, rfl, ⟨[some _, some _], rfl, rfl⟩, ?_⟩
            unfold tYes
            dsimp only
            rw [if_pos (rfl : true = true)]
            refine ⟨_, rfl, _, rfl, c, _, _, _, rfl, rfl, SqL.of hc4, atI_nat ey, _, rfl, _, _, rfl, rfl, pq, _, _, _, rfl, rfl, SqT.of hy4, e1, _, rfl, _, rfl, c, _, _, _, rfl, rfl, SqL.of hc4, atI_nat ey, _, rfl, pq, _, _, _, rfl, rfl, SqT.of hy4, e2, _, _, rfl, rfl, ?_, rfl⟩
            rw [take_succ' esm, List.map_append]
            show _ ++ [V.int (v1 + v2)] = _
            rw [sm, egs]
            rfl
          · cases hpl
    rintro ws H' ⟨rfl, rfl⟩ D hD
    rw [a2, smo_two oS il]
    have s5 := Same.nw (o := .lst [V.int (sm0 S A i), V.int (sm1 S A i)]) (Same.refl H4) hD
    have fD : (upd H4 D (.lst [V.int (sm0 S A i), V.int (sm1 S A i)])) D = some (.lst [V.int (sm0 S A i), V.int (sm1 S A i)]) := upd_same
    change gLst K 2 _ _ _ (upd H4 D (.lst [V.int (sm0 S A i), V.int (sm1 S A i)])) _
    generalize upd H4 D (.lst [V.int (sm0 S A i), V.int (sm1 S A i)]) = H5 at s5 fD ⊢
    refine ⟨D, _, rfl, SqL.of fD, rfl, _, _, rfl, _, _, rfl, rfl, ?_⟩
    have hq5 := s5 _ _ hq4
    refine ⟨_, rfl, _, rfl, rfl, _, rfl, ?_⟩
    have same5 : Same H H5 := fun a' o e => s5 _ _ (kp4 a' o (s03 _ _ e) (ne_of_none e qf))
    by_cases eq : sm0 S A i = sm1 S A i
    · rw [show (!decide (V.int (sm0 S A i) = V.int (sm1 S A i))) = false by rw [eq]; simp]
      refine iteF ⟨_, rfl, .inl ⟨rfl, _, SqL.of hq5⟩, _, rfl, q, _, _, rfl, rfl, hq5, (by rw [List.length_map, List.length_take]; exact Nat.lt_of_le_of_lt (show _ ≤ 1000 by omega) (by decide)), ?_⟩
      refine ⟨_, _, _, rfl, fun a' o e n => by rw [upd_ne n]; exact s5 _ _ (kp4 a' o e n), ?_, fun j hj => ?_⟩
      · rw [upd_same, take_succ' er, List.map_append]
        rfl
      · by_cases ej : j < i
        · exact okj j ej
        · have : j = i := by omega
          rw [this]; exact eq
    · rw [show (!decide (V.int (sm0 S A i) = V.int (sm1 S A i))) = true by rw [decide_eq_false (fun z => eq (V.int.inj z))]; rfl]
      exact iteT (k1 (fun z => eq (z i il)) H5 same5)
  · rintro σ H4 ⟨x3, x4, x5, rfl, kp4, hq4, okj⟩
    rw [List.take_of_length_le (by omega)] at hq4
    exact ⟨_, rfl, k2 (fun j hj => okj j (by omega)) q H4 (fun a o e => kp4 a o ((s2.trans s3) _ _ e) (ne_of_none e qf)) qf hq4⟩
def spToldR : Sp := fun vs H Q _ => ∃ (b c : Addr) (xs ys : List V) (S A : List (List Int)), vs = [.ref b, .ref c] ∧ H b = some (.lst xs) ∧ TuL H xs S ∧ ShOk S ∧ H c = some (.lst ys) ∧ TuL H ys A ∧ ArOk S A ∧
  (¬ okA S A → ∀ H', Same H H' → Q (.str "no row") H') ∧ (okA S A → ∀ (p : Addr) (H' : Hp), Same H H' → H p = none → H' p = some (.lst ((rowA S A).map V.int)) → Q (.ref p) H')
def tToldR (K : PySem.W.Frag) (cE cN cC cS cT : Addr) : TS := tSeq (tTry K 3 2 cE (fun Ex => tRet (tCallX (spRowX cN) Ex (tCons (tVar 0) (tCons (tVar 1) tNil)))) fun C ea => tIfS (tAnd (tB (tCB (rIsi K C ea) (tCons (tVar 2) (tCons (tC (V.ref cN)) tNil)))) (tAnd (tB (tCB (rIsi K C ea) (tCons (tVar 2) (tCons (tC (V.ty "ValueError")) tNil)))) (tNot (tB (tCB (rIsi K C ea) (tCons (tVar 2) (tCons (tTup (tCons (tC (V.ref cC)) (tCons (tC (V.ref cS)) (tCons (tC (V.ref cT)) tNil)))) tNil))))))) (tRet (tC (V.str "no row"))) tNext) (tRet (tC (V.str "other")))
theorem toldR_reads {K : PySem.W.Frag} {H : Hp} {Q : VK} {Z : L2.St → Hp → Prop} {cE cN cC cS cT b c : Addr} {xs ys : List V} {S A : List (List Int)} (x1 : XCls K cN) (x2 : XCls K cC) (x3 : XCls K cS) (x4 : XCls K cT) (e1 : PySem.W.subIn K (.ref cN) (.ref cE) = some true) (e2 : PySem.W.subIn K (.ref cN) (.type "ValueError") = some true)
    (e3 : PySem.W.subIn K (.ref cN) (.ref cC) = some false) (e4 : PySem.W.subIn K (.ref cN) (.ref cS) = some false) (e5 : PySem.W.subIn K (.ref cN) (.ref cT) = some false) (hb : H b = some (.lst xs)) (tS : TuL H xs S) (oS : ShOk S) (hc : H c = some (.lst ys)) (tA : TuL H ys A) (oA : ArOk S A)
    (k1 : ¬ okA S A → ∀ H', Same H H' → Q (.str "no row") H') (k2 : okA S A → ∀ (p : Addr) (H' : Hp), Same H H' → H p = none → H' p = some (.lst ((rowA S A).map V.int)) → Q (.ref p) H') :
    tToldR K cE cN cC cS cT { nx := Z, rt := Q } [some (.ref b), some (.ref c), none] H := by
  refine ⟨_, rfl, _, rfl, b, c, xs, ys, S, A, rfl, hb, tS, oS, hc, tA, oA, fun hbad H' s' => ⟨cN, rfl, e1, fun a ha => ?_⟩, k2⟩
  refine ⟨_, rfl, x1, true, .inl ⟨cN, rfl, x1, x1.rf⟩, _, rfl, iteT ?_⟩
  refine ⟨_, rfl, x1, true, .inr (.inl ⟨_, rfl, meta_ve, e2⟩), _, rfl, iteT ?_⟩
  refine ⟨_, rfl, (by show 3 ≤ sizeLine; decide), fun tp htp => ?_⟩
  refine ⟨x1, false, .inr (.inr ⟨tp, [cC, cS, cT], rfl, upd_same, fun c hc => ?_, fun c hc => ?_, rfl⟩), _, rfl, ?_⟩
  · simp only [List.mem_cons, List.not_mem_nil, or_false] at hc
    rcases hc with rfl | rfl | rfl <;> assumption
  · simp only [List.mem_cons, List.not_mem_nil, or_false] at hc
    rcases hc with rfl | rfl | rfl <;> assumption
  · exact iteT (k1 hbad _ (Same.nw s' htp))
end L2
set_option Elab.async false
set_option linter.all false
set_option maxRecDepth 100000
set_option maxHeartbeats 1000000
namespace L2
open PySem PySem.Spec PyProof.Rows
theorem compD {k : Nat} {d : Addr} {o : Obj} {kvs : List (Key × V)} {g : TG} {tt : TT} {te : TE} {Q : VK} {σ : St} {H : Hp} (Pv : Nat → List V → Hp → Prop) (h0 : Pv 0 [] H) (hb : kvs.length ≤ 1000) (hz : ∀ i ys H, Pv i ys H → ys.length ≤ i) (hl : ∀ i ys H, i ≤ kvs.length → Pv i ys H → H d = some (.frz o (.dK kvs)))
    (hs : ∀ i k0 v ys H (pre : St), pre.length = k → kvs[i]? = some (k0, v) → Pv i ys H → g (kV k0) (pre ++ σ) H fun σ' H2 => (∃ pre' : St, σ' = pre' ++ σ ∧ pre'.length = k) ∧ tt σ' H2 fun ok H3 => if ok = true then te σ' H3 fun y H4 => Pv (i + 1) (ys ++ [y]) H4 else Pv (i + 1) ys H3) (hd : ∀ ys H, Pv kvs.length ys H → ∀ D, H D = none → Q (.ref D) (upd H D (.lst ys))) : CGo k (Itd d o kvs) g tt te Q σ H := by
  refine ⟨fun i m ys H => m = kvs.length - i ∧ i ≤ kvs.length ∧ Pv i ys H, ⟨kvs.length, by simp, Nat.zero_le _, h0⟩, ?_⟩
  rintro i m ys H ⟨rfl, hi, p⟩
  have q := hl i ys H hi p
  by_cases hlt : i < kvs.length
  · refine .inr ⟨⟨q, hlt⟩, Nat.lt_of_le_of_lt (hz i ys H p) (small1000 (by omega)), Pv (i + 1), fun zs H' p' => ⟨kvs.length - (i + 1), by omega, rfl, hlt, p'⟩, fun x H' pre hp y => ?_⟩
    obtain ⟨e, k0, v, ek, ex⟩ := y
    subst e ex
    exact hs i k0 v ys _ pre hp ek p
  · have e : i = kvs.length := by omega
    subst e
    exact .inl ⟨⟨q, Nat.le_refl _⟩, hd ys H p⟩
def cnt (A : List (List Int)) (P : List (List Int × Int)) (t : Int) : List Int := (P.filter fun q => decide (q.2 = t)).map fun q => gsm A q.1
theorem cnt_snoc (A : List (List Int)) (P : List (List Int × Int)) (q : List Int × Int) (t : Int) : cnt A (P ++ [q]) t = cnt A P t ++ if q.2 = t then [gsm A q.1] else [] := by
  unfold cnt
  rw [List.filter_append, List.map_append]
  by_cases h : q.2 = t
  · rw [if_pos h]; simp [h]
  · rw [if_neg h]; simp [h]
theorem cnt_smo (S A : List (List Int)) (k : Nat) : cnt A (sidesF S) ((k : Int) + 1) = smo S A k := by
  unfold cnt smo glueOf
  rw [List.map_map]
  rfl
structure CtI (H0 H : Hp) (dc : Addr) (A : List (List Int)) (n : Nat) (P : List (List Int × Int)) (kvs : List (Key × V)) : Prop where
  hd : H dc = some (.dK kvs)
  df : H0 dc = none
  len : kvs.length ≤ P.length
  key : ∀ (t : Int) (v : V), valV kvs (.inl t) = some v → ∃ p, v = .ref p ∧ H0 p = none ∧ p ≠ dc ∧ H p = some (.lst ((cnt A P t).map V.int))
  non : ∀ t : Int, valV kvs (.inl t) = none → cnt A P t = []
  inj : ∀ (t t' : Int) (p : Addr), valV kvs (.inl t) = some (.ref p) → valV kvs (.inl t') = some (.ref p) → t = t'
  rng : ∀ kv ∈ kvs, ∃ k : Nat, k < n ∧ kv.1 = .inl ((k : Int) + 1)
theorem putK_mem {kvs : List (Key × V)} {k : Key} {v : V} {kv : Key × V} (h : kv ∈ putK kvs k v) : kv.1 = k ∨ kv ∈ kvs := by
  unfold putK at h
  split at h
  · obtain ⟨x, hx, rfl⟩ := List.mem_map.mp h
    by_cases c : x.1 = k
    · rw [if_pos c]; exact .inl c
    · rw [if_neg c]; exact .inr hx
  · rcases List.mem_append.mp h with z | z
    · exact .inr z
    · rw [List.mem_singleton] at z
      rw [z]; exact .inl rfl
theorem CtI.step {H0 H : Hp} {dc e : Addr} {A : List (List Int)} {n : Nat} {P : List (List Int × Int)} {kvs : List (Key × V)} (I : CtI H0 H dc A n P kvs) (S0 : Same H0 H) {u : List Int} {k : Nat} (hk : k < n) (he : H e = none) (pl : P.length ≤ 100) {R : V → Hp → Prop}
    (kk : ∀ (l : Addr) (zs : List V) (H2 : Hp), Same H0 H2 → Tups H H2 → H2 l = some (.lst zs) → zs.length ≤ 100 → (∃ kvs', CtI H0 (upd H2 l (.lst (zs ++ [.int (gsm A u)]))) dc A n (P ++ [(u, (k : Int) + 1)]) kvs') → Same H0 (upd H2 l (.lst (zs ++ [.int (gsm A u)]))) → R (.ref l) H2) :
    rSetD (.ref dc) [.int ((k : Int) + 1), .ref e] (upd H e (.lst [])) R := by
  have nde : dc ≠ e := fun z => by rw [z] at I; have := I.hd; rw [he] at this; cases this
  have ef : H0 e = none := S0.free he
  have cl : ∀ t, (cnt A P t).length ≤ 100 := fun t => by unfold cnt; rw [List.length_map]; exact Nat.le_trans (List.length_filter_le _ _) pl
  refine ⟨dc, kvs, .inl ((k : Int) + 1), .ref e, rfl, rfl, (upd_ne nde).trans I.hd, by have := I.len; omega, fun v hv => ?_, fun hv => ?_⟩
  · obtain ⟨p, rfl, pf, pd, hp⟩ := I.key _ v hv
    have npe : p ≠ e := fun z => by rw [z, he] at hp; cases hp
    have s1 : Same H0 (upd H e (.lst [])) := Same.nw S0 he
    refine kk p _ _ s1 (Same.nw (o := .lst []) (Same.refl H) he).tups ((upd_ne npe).trans hp) (by rw [List.length_map]; exact cl _) ⟨kvs, ⟨?_, I.df, by rw [List.length_append]; have := I.len; omega, fun t v' hv' => ?_, fun t ht => ?_, I.inj, I.rng⟩⟩ (Same.ow s1 pf)
    · rw [upd_ne (fun z => pd z.symm), upd_ne nde]; exact I.hd
    · obtain ⟨p', rfl, pf', pd', hp'⟩ := I.key t v' hv'
      refine ⟨p', rfl, pf', pd', ?_⟩
      rw [cnt_snoc]
      by_cases c : p' = p
      · have et : t = (k : Int) + 1 := I.inj t _ p (by rw [← c]; exact hv') hv
        rw [c, upd_same, et, if_pos rfl, List.map_append]
        rfl
      · rw [upd_ne c, upd_ne (fun z => by rw [z, he] at hp'; cases hp'), hp', if_neg (fun z => c (by
          have z : (k : Int) + 1 = t := z
          rw [← z, hv] at hv'
          cases hv'; rfl)), List.append_nil]
    · rw [cnt_snoc, I.non t ht, if_neg (fun z => by
        have z : (k : Int) + 1 = t := z
        rw [← z, hv] at ht; cases ht)]
      rfl
  · have s1 : Same H0 (upd H e (.lst [])) := Same.nw S0 he
    have s2 : Same H0 (upd (upd H e (.lst [])) dc (.dK (putK kvs (.inl ((k : Int) + 1)) (.ref e)))) := Same.ow s1 I.df
    refine kk e [] _ s2 (fun a ts ha => by
      have n1 : a ≠ dc := fun z => by rw [z, I.hd] at ha; cases ha
      have n2 : a ≠ e := fun z => by rw [z, he] at ha; cases ha
      rw [upd_ne n1, upd_ne n2]; exact ha) (by rw [upd_ne (Ne.symm nde)]; exact upd_same) (Nat.zero_le _) ⟨putK kvs (.inl ((k : Int) + 1)) (.ref e), ⟨?_, I.df, ?_, fun t v' hv' => ?_, fun t ht => ?_, fun t t' p h1 h2 => ?_, fun kv hkv => ?_⟩⟩ (Same.ow s2 ef)
    · rw [upd_ne nde]; exact upd_same
    · rw [List.length_append]
      have := length_putK kvs (.inl ((k : Int) + 1)) (V.ref e)
      have := I.len
      simp only [List.length_cons, List.length_nil]
      omega
    · rw [valV_put] at hv'
      rw [cnt_snoc]
      by_cases c : (Sum.inl t : Key) = .inl ((k : Int) + 1)
      · rw [if_pos c] at hv'
        cases hv'
        have et : t = (k : Int) + 1 := Sum.inl.inj c
        refine ⟨e, rfl, ef, Ne.symm nde, ?_⟩
        rw [upd_same, et, I.non _ hv, if_pos rfl]
        rfl
      · rw [if_neg c] at hv'
        obtain ⟨p', rfl, pf', pd', hp'⟩ := I.key t v' hv'
        have npe : p' ≠ e := fun z => by rw [z, he] at hp'; cases hp'
        refine ⟨p', rfl, pf', pd', ?_⟩
        rw [upd_ne npe, upd_ne pd', upd_ne npe, hp', if_neg (fun z => c (by
          have z : (k : Int) + 1 = t := z
          rw [z])), List.append_nil]
    · rw [valV_put] at ht
      by_cases c : (Sum.inl t : Key) = .inl ((k : Int) + 1)
      · rw [if_pos c] at ht; cases ht
      · rw [if_neg c] at ht
        rw [cnt_snoc, I.non t ht, if_neg (fun z => c (by
          have z : (k : Int) + 1 = t := z
          rw [z]))]
        rfl
    · rw [valV_put] at h1 h2
      by_cases c1 : (Sum.inl t : Key) = .inl ((k : Int) + 1)
      · by_cases c2 : (Sum.inl t' : Key) = .inl ((k : Int) + 1)
        · rw [Sum.inl.inj c1, Sum.inl.inj c2]
        · rw [if_pos c1] at h1; cases h1
          rw [if_neg c2] at h2
          obtain ⟨p', ep, _, _, hp'⟩ := I.key t' _ h2
          cases ep
          rw [he] at hp'; cases hp'
      · rw [if_neg c1] at h1
        by_cases c2 : (Sum.inl t' : Key) = .inl ((k : Int) + 1)
        · rw [if_pos c2] at h2; cases h2
          obtain ⟨p', ep, _, _, hp'⟩ := I.key t _ h1
          cases ep
          rw [he] at hp'; cases hp'
        · rw [if_neg c2] at h2
          exact I.inj t t' p h1 h2
    · rcases putK_mem hkv with z | z
      · exact ⟨k, hk, z⟩
      · exact I.rng kv z
end L2
set_option Elab.async false
set_option linter.all false
set_option maxRecDepth 100000
set_option maxHeartbeats 1000000
namespace L2
open PySem PySem.Spec PyProof.Rows
theorem CtI.up {H0 H H1 : Hp} {dc : Addr} {A : List (List Int)} {n : Nat} {P : List (List Int × Int)} {kvs : List (Key × V)} (I : CtI H0 H dc A n P kvs) (s : Same H H1) : CtI H0 H1 dc A n P kvs :=
  ⟨s _ _ I.hd, I.df, I.len, fun t v hv => by obtain ⟨p, e, pf, pd, hp⟩ := I.key t v hv; exact ⟨p, e, pf, pd, s _ _ hp⟩, I.non, I.inj, I.rng⟩
theorem th_sh {H : Hp} {l : Addr} {ys : List V} {S : List (List Int)} (hl : H l = some (.lst ys)) (t : TuL H ys S) : Th H (.ref l) (dTs S) := .lst hl t.th.1 t.th.2
theorem lay_two (S A : List (List Int)) : (PyData.list [dTs S, dTs A]).canLay0 = true := by
  show ((dTs S).canLay0 && ((dTs A).canLay0 && true)) = true
  rw [lay_dTs, lay_dTs]
  rfl
theorem dep_two (S A : List (List Int)) : (PyData.list [dTs S, dTs A]).depth ≤ 60 := by
  show max (dTs S).depth (max (dTs A).depth 0) + 1 ≤ 60
  have h1 : ∀ S : List (List Int), (dTs S).depth ≤ 2 := fun S => by
    show PyData.depthAll (S.map dT) + 1 ≤ 2
    have := dep_CL true S
    have e : S.map (datC true) = S.map dT := rfl
    rw [e] at this
    omega
  have := h1 S
  have := h1 A
  omega
theorem lay_nr : (PyData.str "no row").canLay0 = true := by decide +kernel
inductive DueR (H : Hp) (S A : List (List Int)) : V → Prop where
  | no : ¬ okA S A → DueR H S A (.str "no row")
  | yes {c : Addr} : okA S A → H c = some (.lst ((rowA S A).map V.int)) → DueR H S A (.ref c)
theorem DueR.up {H H' : Hp} {S A : List (List Int)} {x : V} (h : DueR H S A x) (s : Same H H') : DueR H' S A x := by
  cases h with
  | no h => exact .no h
  | yes h e => exact .yes h (s _ _ e)
def tFin52 (K : PySem.W.Frag) : TS := (tSeq (tAsg (tLst (tCons (tCB (fun xs H_1 Q => ∃ p ys, xs = [V.ref p] ∧ (SqL K H_1 p ys ∨ SqT K H_1 p ys) ∧ ∀ (l : Addr), H_1 l = none → Q (V.ref l) (upd H_1 l (HO.lst ys))) (tCons (tVar 2) tNil)) (tCons (tCB (fun xs H_1 Q => ∃ p ys, xs = [V.ref p] ∧ (SqL K H_1 p ys ∨ SqT K H_1 p ys) ∧ ∀ (l : Addr), H_1 l = none → Q (V.ref l) (upd H_1 l (HO.lst ys))) (tCons (tVar 3) tNil)) tNil))) (gName 15)) (tSeq (tFor (iRng1 (tCons (tC (V.int 2)) tNil)) (gName 16) (tSeq (tAsg (tCall spToldR [] E0 (tCons (tOp (rIxL K) (tVar 15) (tC (V.int 0))) (tCons (tOp (rIxL K) (tVar 15) (tC (V.int 1))) tNil))) (gName 17)) (tIfS (tOr (tTest (tOp (rEqD K fun b => !b) (tVar 17) (tVar 14))) (tTest (tOp (rEqD K fun b => !b) (tVar 15) (tLst (tCons (tVar 2) (tCons (tVar 3) tNil)))))) (tRet (tC (V.bl false))) tNext))) (tRet (tC (V.bl true)))))
set_option maxHeartbeats 4000000 in
theorem fin52_reads {K : PySem.W.Frag} {H : Hp} {Q : VK} {Z : L2.St → Hp → Prop} {b p : Addr} {xs ys : List V} {S A : List (List Int)} {du : V} {x0 x1 x4 x5 x6 x7 x8 x9 x10 x11 x12 x13 x15 x16 x17 : Option V} (hb : H b = some (.lst xs)) (tS : TuL H xs S) (oS : ShOk S) (hp : H p = some (.lst ys)) (tA : TuL H ys A) (oA : ArOk S A) (hd : DueR H S A du) (k : ∀ H', Q (.bl true) H') :
    tFin52 K { nx := Z, rt := Q } [x0, x1, some (.ref b), some (.ref p), x4, x5, x6, x7, x8, x9, x10, x11, x12, x13, some du, x15, x16, x17] H := by
  refine ⟨_, rfl, b, xs, rfl, .inl (SqL.of hb), fun l1 hl1 => ?_⟩
  have s1 := Same.nw (o := .lst xs) (Same.refl H) hl1
  have f1 : (upd H l1 (.lst xs)) l1 = some (.lst xs) := upd_same
  generalize upd H l1 (.lst xs) = H1 at s1 f1 ⊢
  refine ⟨_, rfl, p, ys, rfl, .inl (SqL.of (s1 _ _ hp)), fun l2 hl2 => ?_⟩
  have s2 := Same.nw (o := .lst ys) (Same.refl H1) hl2
  have f2 : (upd H1 l2 (.lst ys)) l2 = some (.lst ys) := upd_same
  generalize upd H1 l2 (.lst ys) = H2 at s2 f2 ⊢
  refine ⟨(by show 2 ≤ sizeLine; decide), fun hh hhh => ?_⟩
  have s3 := Same.nw (o := .lst [.ref l1, .ref l2]) (Same.refl H2) hhh
  have fh : (upd H2 hh (.lst [.ref l1, .ref l2])) hh = some (.lst [.ref l1, .ref l2]) := upd_same
  generalize upd H2 hh (.lst [.ref l1, .ref l2]) = H3 at s3 fh ⊢
  have g1 := s3 _ _ (s2 _ _ f1)
  have g2 := s3 _ _ f2
  have s03 := (s1.trans s2).trans s3
  have hb3 := s03 _ _ hb
  have hp3 := s03 _ _ hp
  have tS3 := tS.up s03.tups
  have tA3 := tA.up s03.tups
  have hd3 := hd.up s03
  refine ⟨2, rfl, by decide, by decide, for_range (n := 2) (fun i σ H' => ∃ (x16 x17 : Option V), σ = [x0, x1, some (.ref b), some (.ref p), x4, x5, x6, x7, x8, x9, x10, x11, x12, x13, some du, some (.ref hh), x16, x17] ∧ Same H3 H') ⟨_, _, rfl, Same.refl _⟩ ?_ ?_⟩
  · rintro i σ H4 hi ⟨x16, x17, rfl, s4⟩
    have tail : ∀ H5, Same H4 H5 → ∀ tv : V, (tTest (tOp (rEqD K fun b => !b) (tVar 15) (tLst (tCons (tVar 2) (tCons (tVar 3) tNil))))) [x0, x1, some (.ref b), some (.ref p), x4, x5, x6, x7, x8, x9, x10, x11, x12, x13, some du, some (.ref hh), some (.int (0 + (i : Int))), some tv] H5 fun c H6 => c = false ∧ Same H4 H6 := fun H5 s5 tv => by
      refine ⟨_, rfl, _, rfl, _, rfl, (by show 2 ≤ sizeLine; decide), fun e he => ?_⟩
      have s6 := Same.nw (o := .lst [.ref b, .ref p]) (Same.refl H5) he
      have fe : (upd H5 e (.lst [.ref b, .ref p])) e = some (.lst [.ref b, .ref p]) := upd_same
      change rEqD K _ _ _ (upd H5 e (.lst [.ref b, .ref p])) _
      generalize upd H5 e (.lst [.ref b, .ref p]) = H6 at s6 fe ⊢
      have s36 := s4.trans (s5.trans s6)
      have tS6 := tS3.up s36.tups
      have tA6 := tA3.up s36.tups
      refine ⟨_, _, ((ThL.cons (th_sh (s36 _ _ g1) tS6) (ThL.cons (th_sh (s36 _ _ g2) tA6) ThL.nil)).lst (s36 _ _ fh)).di, ((ThL.cons (th_sh (s36 _ _ hb3) tS6) (ThL.cons (th_sh (s36 _ _ hp3) tA6) ThL.nil)).lst fe).di, lay_two S A, lay_two S A, dep_two S A, _, rfl, ?_⟩
      rw [SeqAt.eqv_refl _ (lay_two S A)]
      exact ⟨rfl, s5.trans s6⟩
    refine ⟨_, rfl, hh, _, _, _, rfl, rfl, SqL.of (s4 _ _ fh), rfl, _, rfl, hh, _, _, _, rfl, rfl, SqL.of (s4 _ _ fh), rfl, l1, l2, xs, ys, S, A, rfl, s4 _ _ g1, tS3.up s4.tups, oS, s4 _ _ g2, tA3.up s4.tups, oA, fun nok H5 s5 => ?_, fun yok q H5 s5 qf hq => ?_⟩
    · cases hd3 with
      | yes y _ => exact absurd y nok
      | no _ =>
        refine ⟨_, rfl, _, rfl, _, _, .str _, .str _, lay_nr, lay_nr, (by show 0 ≤ 60; decide), _, rfl, ?_⟩
        rw [SeqAt.eqv_refl _ lay_nr]
        refine iteF ?_
        have key := tail H5 s5 (.str "no row")
        obtain ⟨v1, e1, v2, e2, v3, e3, sz, kk⟩ := key
        exact ⟨v1, e1, v2, e2, v3, e3, sz, fun e he => by
          obtain ⟨d1, d2, a1, a2, a3, a4, a5, c, e4, e5, e6⟩ := kk e he
          refine ⟨d1, d2, a1, a2, a3, a4, a5, c, e4, ?_⟩
          rw [e5]
          exact iteF ⟨_, _, rfl, s4.trans e6⟩⟩
    · cases hd3 with
      | no n => exact absurd yok n
      | yes y hc =>
        rename_i cc
        refine ⟨_, rfl, _, rfl, _, _, di_lst (SqL.of hq), di_lst (SqL.of ((s4.trans s5) _ _ hc)), lay_dI _, lay_dI _, dep_dI _, _, rfl, ?_⟩
        rw [eqv_dI, decide_eq_true rfl]
        refine iteF ?_
        have key := tail H5 s5 (.ref q)
        obtain ⟨v1, e1, v2, e2, v3, e3, sz, kk⟩ := key
        exact ⟨v1, e1, v2, e2, v3, e3, sz, fun e he => by
          obtain ⟨d1, d2, a1, a2, a3, a4, a5, c, e4, e5, e6⟩ := kk e he
          refine ⟨d1, d2, a1, a2, a3, a4, a5, c, e4, ?_⟩
          rw [e5]
          exact iteF ⟨_, _, rfl, s4.trans e6⟩⟩
  · rintro σ H4 ⟨x16, x17, rfl, s4⟩
    exact k _
def tDue52 (K : PySem.W.Frag) : TS := (tSeq (tAsg (tCompG 1 (iRng2 (tCons (tC (V.int 1)) (tCons (tOp (rI0 fun i j => V.int (i + j)) (tOp (rI CDivL fun i j => V.int (i / j)) (tOp (rI CMul fun i j => V.int (i * j)) (tCB (fun xs H Q => ∃ p ys, xs = [V.ref p] ∧ (SqL K H p ys ∨ SqT K H p ys) ∧ Q (V.int ys.length) H) (tCons (tVar 2) tNil)) (tC (V.int 3))) (tC (V.int 2))) (tC (V.int 1))) tNil))) (gName 0) tYes (tOp (rIxL K) (tDGet (tVar 13) (tVar 0)) (tC (V.int 0)))) (gName 14)) (tSeq (tIfS (tTest (tOp (rEqD K fun b => !b) (tCompG 1 (iDict (tVar 12)) (gName 0) (tTest (tOp rNe (tOp (rIxL K) (tDGet (tVar 13) (tVar 0)) (tC (V.int 0))) (tOp (rIxL K) (tDGet (tVar 13) (tVar 0)) (tC (V.int 1))))) (tVar 0)) (tLst tNil))) (tAsg (tC (V.str "no row")) (gName 14)) tNext) (tFin52 K)))
theorem CtI.at {H0 H : Hp} {dc : Addr} {S A : List (List Int)} {kvs : List (Key × V)} (I : CtI H0 H dc A (S.length / 2 * 3) (sidesF S) kvs) (oS : ShOk S) {k : Nat} (hk : k < S.length / 2 * 3) : ∃ p, valV kvs (.inl ((k : Int) + 1)) = some (.ref p) ∧ H0 p = none ∧ p ≠ dc ∧ H p = some (.lst [.int (sm0 S A k), .int (sm1 S A k)]) := by
  cases hv : valV kvs (.inl ((k : Int) + 1)) with
  | none =>
    have := I.non _ hv
    rw [cnt_smo, smo_two oS hk] at this
    cases this
  | some v =>
    obtain ⟨p, rfl, pf, pd, hp⟩ := I.key _ v hv
    rw [cnt_smo, smo_two oS hk] at hp
    exact ⟨p, rfl, pf, pd, hp⟩
set_option maxHeartbeats 4000000 in
theorem due52_reads {K : PySem.W.Frag} {H0 H : Hp} {Q : VK} {Z : L2.St → Hp → Prop} {b p dc : Addr} {xs ys : List V} {S A : List (List Int)} {kvs : List (Key × V)} {x0 x1 x4 x5 x6 x7 x8 x9 x10 x11 x13 x14 x15 x16 x17 : Option V} (hb : H0 b = some (.lst xs)) (tS : TuL H0 xs S) (oS : ShOk S) (hp : H0 p = some (.lst ys)) (tA : TuL H0 ys A) (oA : ArOk S A) (s0 : Same H0 H) (I : CtI H0 H dc A (S.length / 2 * 3) (sidesF S) kvs) (kl : kvs.length ≤ 100) (k : ∀ H', Q (.bl true) H') :
    tDue52 K { nx := Z, rt := Q } [x0, x1, some (.ref b), some (.ref p), x4, x5, x6, x7, x8, x9, x10, x11, some (.ref dc), x13, x14, x15, x16, x17] H := by
  have lS := oS.len
  have lx : xs.length = S.length := tS.1
  obtain ⟨mm, em, _, _⟩ := oS.even
  have eN : ((xs.length : Int) * 3 / 2 + 1 - 1).toNat = S.length / 2 * 3 := by rw [lx, em]; omega
  refine ⟨_, rfl, b, xs, rfl, .inl (SqL.of (s0 _ _ hb)), _, _, rfl, rfl, .inr ⟨by decide, by decide⟩, _, _, rfl, rfl, ⟨by decide, by decide⟩, _, _, rfl, rfl, 1, (xs.length : Int) * 3 / 2 + 1, rfl, ⟨by decide, by decide, by omega, by omega⟩, ?_⟩
  rw [eN]
  refine compR (lo := 1) (n := S.length / 2 * 3) (fun m zs H' => zs = ((rowA S A).take m).map V.int ∧ H = H') ⟨rfl, rfl⟩ (by omega) (fun m zs H' h => by rw [h.1, List.length_map, List.length_take]; exact Nat.min_le_left _ _) ?_ ?_
  · rintro m zs H' pre hpl hm ⟨rfl, rfl⟩
    obtain ⟨q, hv, _, _, hq⟩ := I.at oS hm
    have er : (rowA S A)[m]? = some (sm0 S A m) := by
      unfold rowA
      rw [List.getElem?_map, List.getElem?_range hm]
      rfl
    rcases pre with _ | ⟨q0, _ | ⟨q1, pre⟩⟩
    · cases hpl
    · refine ⟨⟨[some _], rfl, rfl⟩, ?_⟩
      unfold tYes
      dsimp only
      rw [if_pos (rfl : true = true)]
      refine ⟨_, rfl, _, rfl, dc, .ref q, rfl, .inl ⟨kvs, .inl ((m : Int) + 1), .inl I.hd, ?_, hv.symm⟩, q, _, _, _, rfl, rfl, SqL.of hq, rfl, ?_, rfl⟩
      · show V.int (1 + (m : Int)) = V.int ((m : Int) + 1)
        rw [Int.add_comm]
      · rw [take_succ' er, List.map_append]
        rfl
    · cases hpl
  rintro zs H' ⟨rfl, rfl⟩ D hD
  have rl : (rowA S A).length = S.length / 2 * 3 := by unfold rowA; rw [List.length_map, List.length_range]
  rw [List.take_of_length_le (by omega)]
  have s1 := Same.nw (o := .lst ((rowA S A).map V.int)) (Same.refl H) hD
  have fD : (upd H D (.lst ((rowA S A).map V.int))) D = some (.lst ((rowA S A).map V.int)) := upd_same
  show tSeq _ _ _ [x0, x1, some (.ref b), some (.ref p), x4, x5, x6, x7, x8, x9, x10, x11, some (.ref dc), x13, some (.ref D), x15, x16, x17] (upd H D (.lst ((rowA S A).map V.int)))
  generalize upd H D (.lst ((rowA S A).map V.int)) = H1 at s1 fD ⊢
  have I1 := I.up s1
  have s01 := s0.trans s1
  refine ⟨_, rfl, dc, kvs, rfl, I1.hd, fun o => ?_⟩
  have nD : D ≠ dc := fun z => by rw [z, I1.hd] at fD; cases fD
  have hfz : (upd H1 dc (.frz o (.dK kvs))) dc = some (.frz o (.dK kvs)) := upd_same
  have fD2 : (upd H1 dc (.frz o (.dK kvs))) D = some (.lst ((rowA S A).map V.int)) := (upd_ne nD).trans fD
  have s02 : Same H0 (upd H1 dc (.frz o (.dK kvs))) := Same.ow s01 I.df
  have at2 : ∀ {k : Nat}, k < S.length / 2 * 3 → ∃ q, valV kvs (.inl ((k : Int) + 1)) = some (.ref q) ∧ (upd H1 dc (.frz o (.dK kvs))) q = some (.lst [.int (sm0 S A k), .int (sm1 S A k)]) := fun hk => by
    obtain ⟨q, hv, _, qd, hq⟩ := I1.at oS hk
    exact ⟨q, hv, (upd_ne qd).trans hq⟩
  generalize upd H1 dc (.frz o (.dK kvs)) = H2 at hfz fD2 s02 at2 ⊢
  refine compD (d := dc) (o := o) (kvs := kvs) (fun m zs H' => (∃ ts : List Int, zs = ts.map V.int ∧ ts.length ≤ m ∧ (ts = [] ↔ ∀ (j k : Nat) (v : V), j < m → kvs[j]? = some (.inl ((k : Int) + 1), v) → sm0 S A k = sm1 S A k)) ∧ H2 = H') ⟨⟨[], rfl, Nat.le_refl _, ⟨fun _ j k v hj => absurd hj (Nat.not_lt_zero _), fun _ => rfl⟩⟩, rfl⟩ (by omega) (fun m zs H' h => by obtain ⟨⟨ts, rfl, l, _⟩, _⟩ := h; rw [List.length_map]; exact l) (fun m zs H' _ h => by rw [← h.2]; exact hfz) ?_ ?_
  · rintro m k0 v zs H' pre hpl hkv ⟨⟨ts, rfl, tl, tiff⟩, rfl⟩
    obtain ⟨kk, hk, ek⟩ := I.rng _ (List.mem_of_getElem? hkv)
    have ek : k0 = .inl ((kk : Int) + 1) := ek
    subst ek
    obtain ⟨q, hv, hq⟩ := at2 hk
    rcases pre with _ | ⟨q0, _ | ⟨q1, pre⟩⟩
    · cases hpl
    · refine ⟨⟨[some _], rfl, rfl⟩, ?_⟩
      refine ⟨_, rfl, _, rfl, dc, .ref q, rfl, .inl ⟨kvs, .inl ((kk : Int) + 1), .inr ⟨o, hfz⟩, rfl, hv.symm⟩, q, _, _, _, rfl, rfl, SqL.of hq, rfl, _, rfl, _, rfl, dc, .ref q, rfl, .inl ⟨kvs, .inl ((kk : Int) + 1), .inr ⟨o, hfz⟩, rfl, hv.symm⟩, q, _, _, _, rfl, rfl, SqL.of hq, rfl, rfl, _, rfl, ?_⟩
      by_cases eq : sm0 S A kk = sm1 S A kk
      · rw [show (!decide (V.int (sm0 S A kk) = V.int (sm1 S A kk))) = false by rw [eq]; simp]
        refine iteF ⟨⟨ts, rfl, by omega, ⟨fun e j k v hj hkv' => ?_, fun h => tiff.mpr fun j k v hj hkv' => h j k v (by omega) hkv'⟩⟩, rfl⟩
        by_cases ej : j < m
        · exact tiff.mp e j k v ej hkv'
        · have : j = m := by omega
          subst this
          rw [hkv] at hkv'
          have e1 : (Sum.inl ((kk : Int) + 1) : Key) = .inl ((k : Int) + 1) := congrArg Prod.fst (Option.some.inj hkv')
          have e2 : kk = k := by have := Sum.inl.inj e1; omega
          rw [← e2]; exact eq
      · rw [show (!decide (V.int (sm0 S A kk) = V.int (sm1 S A kk))) = true by rw [decide_eq_false (fun z => eq (V.int.inj z))]; rfl]
        refine iteT ⟨_, rfl, ⟨ts ++ [(kk : Int) + 1], ?_, by rw [List.length_append, List.length_singleton]; omega, ⟨fun e => by simp at e, fun h => absurd (h m kk v (by omega) hkv) eq⟩⟩, rfl⟩
        rw [List.map_append]
        rfl
    · cases hpl
  rintro zs H' ⟨⟨ts, rfl, tl, tiff⟩, rfl⟩ L hL
  have s3 := Same.nw (o := .lst (ts.map V.int)) (Same.refl H2) hL
  have fL : (upd H2 L (.lst (ts.map V.int))) L = some (.lst (ts.map V.int)) := upd_same
  generalize upd H2 L (.lst (ts.map V.int)) = H3 at s3 fL ⊢
  refine ⟨(by show 0 ≤ sizeLine; decide), fun e he => ?_⟩
  have s4 := Same.nw (o := .lst ([] : List V)) (Same.refl H3) he
  have fe : (upd H3 e (.lst [])) e = some (.lst (([] : List Int).map V.int)) := upd_same
  change rEqD K _ _ _ (upd H3 e (.lst [])) _
  generalize upd H3 e (.lst []) = H4 at s4 fe ⊢
  have s24 := s3.trans s4
  have s04 := s02.trans s24
  refine ⟨_, _, di_lst (SqL.of (s4 _ _ fL)), di_lst (SqL.of fe), lay_dI _, lay_dI _, dep_dI _, _, rfl, ?_⟩
  rw [eqv_dI]
  have hok : ts = [] → okA S A := fun e kx hkx => by
    obtain ⟨q, hv, _⟩ := at2 hkx
    have hv' : (kvs.find? fun kv => decide (kv.1 = (Sum.inl ((kx : Int) + 1) : Key))).map (·.2) = some (.ref q) := hv
    obtain ⟨kv, hf, ev⟩ := Option.map_eq_some_iff.mp hv'
    obtain ⟨j, hj⟩ := List.mem_iff_getElem?.mp (List.mem_of_find?_eq_some hf)
    have hk := List.find?_some hf
    have hk := of_decide_eq_true hk
    have jl := (List.getElem?_eq_some_iff.mp hj).1
    exact tiff.mp e j kx kv.2 jl (by rw [hj, ← hk])
  have hno : ts ≠ [] → ¬ okA S A := fun n y => n (tiff.mpr fun j kx v hj hkv => by
    obtain ⟨kk, hk, ek⟩ := I.rng _ (List.mem_of_getElem? hkv)
    have ek : (Sum.inl ((kx : Int) + 1) : Key) = .inl ((kk : Int) + 1) := ek
    have : kx = kk := by have := Sum.inl.inj ek; omega
    rw [this]
    exact y kk hk)
  by_cases c : ts = []
  · rw [decide_eq_true c]
    exact iteF (fin52_reads (s04 _ _ hb) (tS.up s04.tups) oS (s04 _ _ hp) (tA.up s04.tups) oA (.yes (hok c) (s24 _ _ fD2)) k)
  · rw [decide_eq_false c]
    exact iteT (fin52_reads (s04 _ _ hb) (tS.up s04.tups) oS (s04 _ _ hp) (tA.up s04.tups) oA (.no (hno c)) k)
end L2
set_option Elab.async false
set_option linter.all false
set_option maxRecDepth 100000
set_option maxHeartbeats 1000000
namespace L2
open PySem PySem.Spec PyProof.Rows
def tCnt52 (K : PySem.W.Frag) : TS := (tSeq (tAsg tDNewK (gName 12)) (tSeq (tFor (iZip K (tCons (tVar 2) (tCons (tVar 3) tNil))) (gTup K 2 (gCons (gName 6) (gCons (gName 9) gNil))) (tFor (iRng1 (tCons (tC (V.int 3)) tNil)) (gName 13) (tDrop (tBM K "list" rAppend (tBM K "dict" rSetD (tVar 12) (tCons (tCB (fun xs H Q => ∃ i, xs = [V.int i] ∧ Q (V.int (if i < 0 then -i else i)) H) (tCons (tOp (rIxT K) (tVar 6) (tVar 13)) tNil)) (tCons (tLst tNil) tNil))) (tCons (tOp (rI0 fun i j => V.int (i + j)) (tOp (rIxT K) (tVar 9) (tVar 13)) (tOp (rIxT K) (tVar 9) (tOp (rI0 fun i j => V.int (i - j)) (tVar 13) (tC (V.int 1))))) tNil))))) (tDue52 K)))
theorem sidesF_len (S : List (List Int)) (h : ∀ t ∈ S, t.length = 3) : (sidesF S).length = 3 * S.length := by
  unfold sidesF
  rw [List.length_flatten, List.map_map]
  have e : ∀ i ∈ List.range S.length, (List.length ∘ fun i => sideT i (S.getD i [])) i = 3 := fun i hi => by
    have hi := List.mem_range.mp hi
    show (sideT i (S.getD i [])).length = 3
    rw [sideT_len, List.getD_eq_getElem?_getD, List.getElem?_eq_getElem hi]
    exact h _ (List.getElem_mem hi)
  rw [List.map_congr_left e, List.map_const', List.sum_replicate_nat, List.length_range]
  omega
set_option maxHeartbeats 8000000 in
theorem cnt52_reads {K : PySem.W.Frag} {H : Hp} {Q : VK} {Z : L2.St → Hp → Prop} {b p : Addr} {xs ys : List V} {S A : List (List Int)} {x0 x1 x4 x5 x6 x7 x8 x9 x10 x11 x12 x13 x14 x15 x16 x17 : Option V} (hb : H b = some (.lst xs)) (tS : TuL H xs S) (oS : ShOk S) (hp : H p = some (.lst ys)) (tA : TuL H ys A) (oA : ArOk S A) (k : ∀ H', Q (.bl true) H') :
    tCnt52 K { nx := Z, rt := Q } [x0, x1, some (.ref b), some (.ref p), x4, x5, x6, x7, x8, x9, x10, x11, x12, x13, x14, x15, x16, x17] H := by
  have lS := oS.len
  have lx : xs.length = S.length := tS.1
  have ly : ys.length = S.length := by rw [tA.1]; exact oA.len
  refine fun dc hdc => ?_
  have s1 := Same.nw (o := .dK []) (Same.refl H) hdc
  have fd : (upd H dc (.dK [])) dc = some (.dK []) := upd_same
  show tSeq _ _ _ [x0, x1, some (.ref b), some (.ref p), x4, x5, x6, x7, x8, x9, x10, x11, some (.ref dc), x13, x14, x15, x16, x17] (upd H dc (.dK []))
  generalize upd H dc (.dK []) = H1 at s1 fd ⊢
  have I0 : CtI H H1 dc A (S.length / 2 * 3) (sidesF (S.take 0)) [] := ⟨fd, hdc, Nat.zero_le _, (fun t v hv => by cases hv), (fun t _ => rfl), (fun t t' p h1 => by cases h1), (fun kv h => by cases h)⟩
  refine ⟨_, rfl, _, rfl, b, p, rfl, ⟨_, SqL.of (s1 _ _ hb)⟩, ⟨_, SqL.of (s1 _ _ hp)⟩, for_zip (K := K) (a := b) (b := p) (xs := xs) (ys := ys) (n := S.length) (fun i σ H' => ∃ (x6 x9 x13 : Option V) (kvs : List (Key × V)), σ = [x0, x1, some (.ref b), some (.ref p), x4, x5, x6, x7, x8, x9, x10, x11, some (.ref dc), x13, x14, x15, x16, x17] ∧ Same H H' ∧ CtI H H' dc A (S.length / 2 * 3) (sidesF (S.take i)) kvs) ⟨_, _, _, _, rfl, s1, I0⟩ (by rw [lx, ly, Nat.min_self]) (fun i σ H' _ h => by obtain ⟨_, _, _, _, _, s, _⟩ := h; exact ⟨SqL.of (s _ _ hb), SqL.of (s _ _ hp)⟩) ?_ ?_⟩
  · rintro i x y σ H2 pp hx hy ⟨x6, x9, x13, kvs, rfl, s2, I2⟩ hpp
    obtain ⟨t, q, et, rfl, hq⟩ := (tS.up s2.tups).take hx
    obtain ⟨a, r, ea, rfl, hr⟩ := (tA.up s2.tups).take hy
    have mt : t ∈ S := List.mem_of_getElem? et
    have il : i < S.length := (List.getElem?_eq_some_iff.mp et).1
    have t3 := oS.three t mt
    have a3 := (oA.all a (List.mem_of_getElem? ea)).1
    have s3 := Same.nw (o := .tup [.ref q, .ref r]) (Same.refl H2) hpp
    have fp : (upd H2 pp (.tup [.ref q, .ref r])) pp = some (.tup [.ref q, .ref r]) := upd_same
    change gTup K 2 _ _ _ (upd H2 pp (.tup [.ref q, .ref r])) _
    generalize upd H2 pp (.tup [.ref q, .ref r]) = H3 at s3 fp ⊢
    refine ⟨pp, _, rfl, SqT.of fp, rfl, _, _, rfl, _, _, rfl, rfl, ?_⟩
    have tl : (S.take i).length = i := by rw [List.length_take]; omega
    have s03 := s2.trans s3
    have q3 := s3 _ _ hq
    have r3 := s3 _ _ hr
    refine ⟨3, rfl, by decide, by decide, for_range (n := 3) (fun j σ H' => ∃ (x13 : Option V) (kvs : List (Key × V)), σ = [x0, x1, some (.ref b), some (.ref p), x4, x5, some (.ref q), x7, x8, some (.ref r), x10, x11, some (.ref dc), x13, x14, x15, x16, x17] ∧ Same H H' ∧ H' q = some (.tup (t.map V.int)) ∧ H' r = some (.tup (a.map V.int)) ∧ CtI H H' dc A (S.length / 2 * 3) (sidesF (S.take i) ++ (sideT i t).take j) kvs) ⟨_, kvs, rfl, s03, q3, r3, by rw [List.take_zero, List.append_nil]; exact I2.up s3⟩ ?_ ?_⟩
    · rintro j σ H4 hj ⟨x13, kvs4, rfl, s4, q4, r4, I4⟩
      obtain ⟨sd, es⟩ : ∃ sd, t[j]? = some sd := ⟨_, List.getElem?_eq_getElem (by omega)⟩
      have sb := oS.side mt (List.mem_of_getElem? es)
      obtain ⟨v1, v2, e1, e2, sm⟩ := cs_at a3 hj
      obtain ⟨kk, ekk⟩ : ∃ kk : Nat, absI sd = (kk : Int) + 1 := ⟨(absI sd - 1).toNat, by omega⟩
      have kn : kk < S.length / 2 * 3 := by omega
      have egs : gsm A [(i : Int), (j : Int)] = v2 + v1 := by
        show cs3 (A.getD ((i : Int)).toNat []) ((j : Int)).toNat = _
        rw [Int.toNat_natCast, Int.toNat_natCast, List.getD_eq_getElem?_getD, ea]
        show cs3 a j = v2 + v1
        rw [← sm, Int.add_comm]
      have at1 : atI (t.map V.int) (0 + (j : Int)) = some (V.int sd) := by
        rw [Int.zero_add]
        exact atI_nat (by rw [List.getElem?_map, es]; rfl)
      have pl : (sidesF (S.take i) ++ (sideT i t).take j).length ≤ 100 := by
        rw [List.length_append, sidesF_len _ (fun u hu => oS.three u (List.mem_of_mem_take hu)), tl, List.length_take]
        omega
      have et4 : (sideT i t).take (j + 1) = (sideT i t).take j ++ [([(i : Int), (j : Int)], (kk : Int) + 1)] := by
        rw [take_succ' (sideT_at es), ekk]
      refine ⟨_, rfl, .inr (.inr (.inl ⟨rfl, .inl ⟨_, I4.hd⟩⟩)), _, rfl, _, rfl, q, _, _, _, rfl, rfl, SqT.of q4, at1, sd, rfl, (by show 0 ≤ sizeLine; decide), fun e he => ?_⟩
      have eab : (if sd < 0 then -sd else sd) = (kk : Int) + 1 := ekk
      rw [eab]
      dsimp only [tNil]
      refine I4.step s4 (u := [(i : Int), (j : Int)]) kn he pl fun l zs H5 s5 t5 hl lz hI hS => ?_
      have q5 : H5 q = some (.tup (t.map V.int)) := t5 _ _ q4
      have r5 : H5 r = some (.tup (a.map V.int)) := t5 _ _ r4
      · refine ⟨.inl ⟨rfl, _, SqL.of hl⟩, _, rfl, _, rfl, r, _, _, _, rfl, rfl, SqT.of r5, (by rw [Int.zero_add]; exact e2), _, rfl, _, rfl, _, _, rfl, rfl, r, _, _, _, rfl, rfl, SqT.of r5, (by rw [Int.zero_add]; exact e1), _, _, rfl, rfl, l, zs, _, rfl, rfl, hl, Nat.lt_of_le_of_lt (show zs.length ≤ 1000 by omega) (by decide), ?_⟩
        obtain ⟨kvs5, I5⟩ := hI
        rw [egs] at I5 hS
        have nlq : q ≠ l := fun z => by rw [z, hl] at q5; cases q5
        have nlr : r ≠ l := fun z => by rw [z, hl] at r5; cases r5
        refine ⟨_, kvs5, rfl, hS, (upd_ne nlq).trans q5, (upd_ne nlr).trans r5, ?_⟩
        rw [et4, ← List.append_assoc]
        exact I5
    · rintro σ H4 ⟨x13, kvs4, rfl, s4, q4, r4, I4⟩
      refine ⟨_, _, _, kvs4, rfl, s4, ?_⟩
      rw [take_succ' et, sidesF_snoc, tl]
      rw [List.take_of_length_le (l := sideT i t) (by rw [sideT_len]; omega)] at I4
      exact I4
  · rintro σ H2 ⟨x6, x9, x13, kvs, rfl, s2, I2⟩
    rw [List.take_of_length_le (Nat.le_refl _)] at I2
    have kl : kvs.length ≤ 100 := by have := I2.len; rw [sidesF_len S oS.three] at this; omega
    exact due52_reads hb tS oS hp tA oA s2 I2 kl k
end L2
set_option Elab.async false
set_option linter.all false
set_option maxRecDepth 100000
set_option maxHeartbeats 1000000
namespace Toy
open PySem L2 PyProof.Rows
structure Gb (mg : Str → Option Value) : Prop where
  ab : mg "abs" = none
  en : mg "enumerate" = none
  zp : mg "zip" = none
  ve : mg "ValueError" = none
structure Exs (K : PySem.W.Frag) (mg : Str → Option Value) (c_CordError c_NoRow c_NoCord c_NoTurn c_NoSheet : Addr) : Prop where
  m_CordError : mg "CordError" = some (.ref c_CordError)
  m_NoRow : mg "NoRow" = some (.ref c_NoRow)
  m_NoCord : mg "NoCord" = some (.ref c_NoCord)
  m_NoTurn : mg "NoTurn" = some (.ref c_NoTurn)
  m_NoSheet : mg "NoSheet" = some (.ref c_NoSheet)
  x_CordError : XCls K c_CordError
  x_NoRow : XCls K c_NoRow
  x_NoCord : XCls K c_NoCord
  x_NoTurn : XCls K c_NoTurn
  x_NoSheet : XCls K c_NoSheet
  e_NoRow : PySem.W.excIn K c_NoRow bmV "ValueError.__new__" = true
  v_NoRow : PySem.W.subIn K (.ref c_NoRow) (.type "ValueError") = some true
  s_NoRow_CordError : PySem.W.subIn K (.ref c_NoRow) (.ref c_CordError) = some true
  s_NoRow_NoRow : PySem.W.subIn K (.ref c_NoRow) (.ref c_NoRow) = some true
  s_NoRow_NoCord : PySem.W.subIn K (.ref c_NoRow) (.ref c_NoCord) = some false
  s_NoRow_NoTurn : PySem.W.subIn K (.ref c_NoRow) (.ref c_NoTurn) = some false
  s_NoRow_NoSheet : PySem.W.subIn K (.ref c_NoRow) (.ref c_NoSheet) = some false
end Toy
namespace Toy
open PySem L2 PyProof.Rows
section
variable {P : Program} {w : World} {K : PySem.W.Frag} {mg : Str → Option Value} {base : Heap}
abbrev s_is_whole : Stmt := top 7
theorem sc_is_whole : FnScope ["thing"] ["thing"] (defScope s_is_whole) := ⟨rfl, rfl, rfl, by decide +kernel, rfl, by decide +kernel, by decide +kernel⟩
def spWhole : Sp := fun vs H Q _ => ∃ x d, vs = [x] ∧ Th H x d ∧ Q (.bl (wholeD d)) H
theorem ok_whole {f : Addr} {fd : FuncData} (F : Fun K "is_whole" "is_whole" s_is_whole f fd) (M : Txt mg) : FnOk P w K mg base CX0 1 f fd ["thing"] spWhole := by
  have sc := sc_is_whole
  refine F.ok sc (fun vs H Q E h => ?_) (fun cdv A outer s H vs Q E hr h => ?_)
  · obtain ⟨x, d, rfl, _⟩ := h
    rfl
  · obtain ⟨x, d, rfl, t, k⟩ := h
    refine ⟨_, (pss_one (ps_ret (pe_and (pe_callB (call_isinstK (T := "int") (K := K)) (by rfl) M.isinstance boot_isinstance (pa_Name (pv 0) (pa_Name (pe_bltn (v := .ty "int") rfl M.int boot_int rfl) pa_nil))) (pe_one (pe_not (pe_callB (call_isinstK (T := "bool") (K := K)) (by rfl) M.isinstance boot_isinstance (pa_Name (pv 0) (pa_Name (pe_bltn (v := .ty "bool") rfl M.bool boot_bool rfl) pa_nil)))))))), ?_⟩
    rw [whole_ib] at k
    refine ⟨_, rfl, x, _, _, rfl, t.ty, kit_int d, _, rfl, ?_⟩
    cases hi : isInt d with
    | false => rw [hi] at k; exact iteF k
    | true => rw [hi] at k; exact iteT ⟨_, rfl, x, _, _, rfl, t.ty, kit_bool d, _, rfl, k⟩
abbrev s_is_whole_from : Stmt := top 8
theorem sc_is_whole_from : FnScope ["thing", "least"] ["thing", "least"] (defScope s_is_whole_from) := ⟨rfl, rfl, rfl, by decide +kernel, rfl, by decide +kernel, by decide +kernel⟩
theorem ok_from {f : Addr} {fd : FuncData} (F : Fun K "is_whole_from" "is_whole_from" s_is_whole_from f fd) (M : Txt mg) (Gis_whole : Kn P w K mg base "is_whole" 1 ["thing"] spWhole) : FnOk P w K mg base CX0 2 f fd ["thing", "least"] spFromI := by
  have sc := sc_is_whole_from
  refine F.ok sc (fun vs H Q E h => ?_) (fun cdv A outer s H vs Q E hr h => ?_)
  · obtain ⟨i, l, rfl, _⟩ := h
    rfl
  · obtain ⟨i, l, rfl, k⟩ := h
    refine ⟨_, (pss_one (ps_ret (pe_and (pe_callD Gis_whole hr rfl (pa_Name (pv 0) pa_nil)) (pe_one (pe_cmpR op_ge (pv 0) (pv 1) (nomark _)))))), ?_⟩
    exact ⟨_, rfl, .int i, .int i, rfl, .int i, _, rfl, iteT ⟨_, rfl, _, rfl, _, _, rfl, rfl, k⟩⟩
abbrev s_many_ties : Stmt := top 10
theorem sc_many_ties : FnScope ["sheet"] ["sheet"] (defScope s_many_ties) := ⟨rfl, rfl, rfl, by decide +kernel, rfl, by decide +kernel, by decide +kernel⟩
theorem ok_ties {f : Addr} {fd : FuncData} (F : Fun K "many_ties" "many_ties" s_many_ties f fd) (M : Txt mg) : FnOk P w K mg base CX0 1 f fd ["sheet"] (spTiesZ K) := by
  have sc := sc_many_ties
  refine F.ok sc (fun vs H Q E h => ?_) (fun cdv A outer s H vs Q E hr h => ?_)
  · obtain ⟨a, xs, rfl, _⟩ := h
    rfl
  · obtain ⟨a, xs, rfl, ha, k⟩ := h
    refine ⟨_, (pss_one (ps_ret (pe_op op_mul (pe_op op_fdivL (pe_callB (call_lenK (K := K)) (by rfl) M.len PySem.boot_len (pa_Name (pv 0) pa_nil)) pe_int) pe_int))), ?_⟩
    refine ⟨_, rfl, a, _, rfl, .inl ha, _, _, rfl, rfl, ⟨by decide, by decide⟩, ((xs.length : Nat) : Int) / 2, 3, rfl, rfl, .inr ⟨by decide, by decide⟩, ?_⟩
    have e : ((xs.length : Nat) : Int) / 2 * 3 = ((xs.length / 2 * 3 : Nat) : Int) := by omega
    show Q (V.int (((xs.length : Nat) : Int) / 2 * 3)) H
    rw [e]
    exact k
abbrev s_are_three : Stmt := top 13
theorem sc_are_three : FnScope ["thing"] ["thing"] (defScope s_are_three) := ⟨rfl, rfl, rfl, by decide +kernel, rfl, by decide +kernel, by decide +kernel⟩
def spThree : Sp := fun vs H Q _ => ∃ (p : Addr) (u : List Int), vs = [.ref p] ∧ H p = some (.tup (u.map V.int)) ∧ u.length = 3 ∧ (∀ x ∈ u, 0 ≤ x) ∧ ∀ H', Same H H' → Q (.bl true) H'
theorem ok_three {f : Addr} {fd : FuncData} (F : Fun K "are_three" "are_three" s_are_three f fd) (M : Txt mg) (Gis_whole_from : Kn P w K mg base "is_whole_from" 2 ["thing", "least"] spFromI) : FnOk P w K mg base CX0 3 f fd ["thing"] spThree := by
  have sc := sc_are_three
  refine F.ok sc (fun vs H Q E h => ?_) (fun cdv A outer s H vs Q E hr h => ?_)
  · obtain ⟨p, u, rfl, _⟩ := h
    rfl
  · obtain ⟨p, u, rfl, hp, ul, nn, k⟩ := h
    refine ⟨_, (pss_one (ps_ret (pe_and (pe_callB (call_isinstK (T := "tuple") (K := K)) (by rfl) M.isinstance boot_isinstance (pa_Name (pv 0) (pa_Name (pe_bltn (v := .ty "tuple") rfl M.tuple boot_tuple rfl) pa_nil))) (pe_and (pe_cmpR op_eq (pe_callB (call_lenK (K := K)) (by rfl) M.len PySem.boot_len (pa_Name (pv 0) pa_nil)) pe_int (nomark _)) (pe_one (pe_callB (call_all rfl) (by rfl) M.all boot_all (pa_cons (pe_compG (xs := ["many"]) (Nb := ["thing"]) rfl (pi_tup (pv 0)) rfl (by show ∀ p ∈ (List.zip ["thing"] ["thing"] : List (Str × Str)), _; decide +kernel) (by decide +kernel) (fun cl C s₂ H₂ fp => (pg_name (i := 0) (by show List.Nodup (["many", "thing"] : List Str); decide +kernel) rfl (Or.inl (lookup_relabel_local rfl)) (Or.inr (lookup_relabel_local rfl)))) (fun cl C s₂ H₂ fp => pif_nil) (fun cl C s₂ H₂ fp => (pe_callD Gis_whole_from hr rfl (pa_Name (pv 0) (pa_Constant pe_int pa_nil)))) (by decide +kernel) rfl (by decide +kernel) (by show ∀ y ∈ (_ : List (Str × NameKind)), y.2 = NameKind.free → (defScope s_are_three).names.lookup y.1 = some .cell; decide +kernel)) pa_nil))))))), ?_⟩
    have th : Th H (.ref p) (dT u) := (ThL.ints u).tup hp
    have ev : decide (V.int (((u.map V.int).length : Nat) : Int) = V.int 3) = true := by rw [List.length_map, ul]; rfl
    refine ⟨_, rfl, .ref p, _, _, rfl, th.ty, kit_tup (dT u), _, rfl, iteT ⟨_, rfl, p, _, rfl, .inr (SqT.of hp), rfl, _, rfl, ?_⟩⟩
    rw [ev]
    refine iteT ⟨_, rfl, p, rfl, ⟨_, SqT.of hp⟩, compT (K := K) (a := p) (xs := u.map V.int) (fun i ys H' => ys = (List.replicate i true).map V.bl ∧ H = H') ⟨rfl, rfl⟩ (by rw [List.length_map]; omega) (fun m ys H' h => by rw [h.1, List.length_map, List.length_replicate]; exact Nat.le_refl _) (fun m ys H' _ h => by rw [← h.2]; exact SqT.of hp) ?_ ?_⟩
    · rintro m z ys' H' pre hpl hz ⟨rfl, rfl⟩
      rw [List.getElem?_map] at hz
      cases ez : u[m]? with
      | none => rw [ez] at hz; cases hz
      | some i =>
        rw [ez] at hz
        cases hz
        have i0 := nn i (List.mem_of_getElem? ez)
        rcases pre with _ | ⟨q0, _ | ⟨q1, pre⟩⟩
        · cases hpl
        · refine ⟨⟨[some _], rfl, rfl⟩, ?_⟩
          unfold tYes
          dsimp only
          rw [if_pos (rfl : true = true)]
          refine ⟨_, rfl, i, 0, rfl, ?_, rfl⟩
          rw [decide_eq_true i0, List.replicate_succ', List.map_append]
          rfl
        · cases hpl
    · rintro ys' H' ⟨rfl, rfl⟩ D hD
      refine ⟨D, _, rfl, SqL.of upd_same, ?_⟩
      have e : (List.replicate (u.map V.int).length true).all id = true := by
        rw [List.all_eq_true]
        intro x hx
        exact (List.eq_of_mem_replicate hx)
      rw [e]
      exact k _ (Same.nw (Same.refl H) hD)
abbrev s_are_arcs : Stmt := top 14
theorem sc_are_arcs : FnScope ["sheet", "thing"] ["sheet", "thing"] (defScope s_are_arcs) := ⟨rfl, rfl, rfl, by decide +kernel, rfl, by decide +kernel, by decide +kernel⟩
theorem ok_arearcs {f : Addr} {fd : FuncData} (F : Fun K "are_arcs" "are_arcs" s_are_arcs f fd) (M : Txt mg) (Gare_three : Kn P w K mg base "are_three" 3 ["thing"] spThree) : FnOk P w K mg base CX0 4 f fd ["sheet", "thing"] spArcsA := by
  have sc := sc_are_arcs
  refine F.ok sc (fun vs H Q E h => ?_) (fun cdv A outer s H vs Q E hr h => ?_)
  · obtain ⟨b, c, xs, ys, us, rfl, _⟩ := h
    rfl
  · obtain ⟨b, c, xs, ys, us, rfl, hb, hc, yl, ys1, tU, ok, k⟩ := h
    refine ⟨_, (pss_one (ps_ret (pe_and (pe_callB (call_isinstK (T := "list") (K := K)) (by rfl) M.isinstance boot_isinstance (pa_Name (pv 1) (pa_Name (pe_bltn (v := .ty "list") rfl M.list boot_list rfl) pa_nil))) (pe_and (pe_cmpR op_eq (pe_callB (call_lenK (K := K)) (by rfl) M.len PySem.boot_len (pa_Name (pv 1) pa_nil)) (pe_callB (call_lenK (K := K)) (by rfl) M.len PySem.boot_len (pa_Name (pv 0) pa_nil)) (nomark _)) (pe_one (pe_callB (call_all rfl) (by rfl) M.all boot_all (pa_cons (pe_compG (xs := ["told"]) (Nb := ["sheet", "thing"]) rfl (pi_list (pv 1)) rfl (by show ∀ p ∈ (List.zip ["sheet", "thing"] ["sheet", "thing"] : List (Str × Str)), _; decide +kernel) (by decide +kernel) (fun cl C s₂ H₂ fp => (pg_name (i := 0) (by show List.Nodup (["told", "sheet", "thing"] : List Str); decide +kernel) rfl (Or.inl (lookup_relabel_local rfl)) (Or.inr (lookup_relabel_local rfl)))) (fun cl C s₂ H₂ fp => pif_nil) (fun cl C s₂ H₂ fp => (pe_callD Gare_three hr rfl (pa_Name (pv 0) pa_nil))) (by decide +kernel) rfl (by decide +kernel) (by show ∀ y ∈ (_ : List (Str × NameKind)), y.2 = NameKind.free → (defScope s_are_arcs).names.lookup y.1 = some .cell; decide +kernel)) pa_nil))))))), ?_⟩
    have th : Th H (.ref c) (dTs us) := (TuL.th tU).lst hc
    have ev : decide (V.int ((ys.length : Nat) : Int) = V.int ((xs.length : Nat) : Int)) = true := by rw [yl]; simp
    refine ⟨_, rfl, .ref c, _, _, rfl, th.ty, kit_lst (dTs us), _, rfl, iteT ⟨_, rfl, c, _, rfl, .inl (SqL.of hc), _, rfl, b, _, rfl, .inl (SqL.of hb), rfl, _, rfl, ?_⟩⟩
    rw [ev]
    refine iteT ⟨_, rfl, c, rfl, ⟨_, SqL.of hc⟩, compL (K := K) (a := c) (xs := ys) (fun i zs H' => zs = (List.replicate i true).map V.bl ∧ Same H H') ⟨rfl, Same.refl H⟩ ys1 (fun m zs H' h => by rw [h.1, List.length_map, List.length_replicate]; exact Nat.le_refl _) (fun m zs H' _ h => SqL.of (h.2 _ _ hc)) ?_ ?_⟩
    · rintro m z ys' H1 pre hpl hz ⟨rfl, s1⟩
      obtain ⟨u, a, eu, rfl, ha⟩ := (tU.up s1.tups).take hz
      obtain ⟨u3, un⟩ := ok u (List.mem_of_getElem? eu)
      rcases pre with _ | ⟨q0, _ | ⟨q1, pre⟩⟩
      · cases hpl
      · refine ⟨⟨[some _], rfl, rfl⟩, ?_⟩
        unfold tYes
        dsimp only
        rw [if_pos (rfl : true = true)]
        refine ⟨_, rfl, a, u, rfl, ha, u3, un, fun H2 s2 => ⟨?_, s1.trans s2⟩⟩
        rw [List.replicate_succ', List.map_append]
        rfl
      · cases hpl
    · rintro ys' H1 ⟨rfl, s1⟩ D hD
      refine ⟨D, _, rfl, SqL.of upd_same, ?_⟩
      have e : (List.replicate ys.length true).all id = true := by
        rw [List.all_eq_true]
        intro x hx
        exact (List.eq_of_mem_replicate hx)
      rw [e]
      exact k _ (Same.nw s1 hD)
abbrev s_glued_sides : Stmt := top 11
theorem sc_glued_sides : FnScope ["sheet", "glued", "at", "triangle", "place", "side"] ["sheet"] (defScope s_glued_sides) := ⟨rfl, rfl, rfl, by decide +kernel, rfl, by decide +kernel, by decide +kernel⟩
theorem ok_glued {f : Addr} {fd : FuncData} (F : Fun K "glued_sides" "glued_sides" s_glued_sides f fd) (M : Txt mg) (Gmany_ties : Kn P w K mg base "many_ties" 1 ["sheet"] (spTiesZ K)) (B : Gb mg) : FnOk P w K mg base CX0 2 f fd ["sheet"] spGluedI := by
  have sc := sc_glued_sides
  refine F.ok sc (fun vs H Q E h => ?_) (fun cdv A outer s H vs Q E hr h => ?_)
  · obtain ⟨b, xs, S, rfl, _⟩ := h
    rfl
  · obtain ⟨b, xs, S, rfl, hb, tS, oS, k⟩ := h
    refine ⟨_, (pss_cons (ps_compG (xs := ["tie"]) (Nb := ["sheet", "glued", "at", "triangle", "place", "side"]) (pg_name (i := 1) sc.nd rfl (Or.inl rfl)) rfl rfl (pi_range1 rfl M.range (pa_Call (pe_callD Gmany_ties hr rfl (pa_Name (pv 0) pa_nil)) pa_nil)) rfl (by show ∀ p ∈ (List.zip ["sheet", "glued", "at", "triangle", "place", "side"] ["sheet", "glued", "at", "triangle", "place", "side"] : List (Str × Str)), _; decide +kernel) (by decide +kernel) (fun cl C s₂ H₂ fp => (pg_name (i := 0) (by show List.Nodup (["tie", "sheet", "glued", "at", "triangle", "place", "side"] : List Str); decide +kernel) rfl (Or.inl (lookup_relabel_local rfl)) (Or.inr (lookup_relabel_local rfl)))) (fun cl C s₂ H₂ fp => pif_nil) (fun cl C s₂ H₂ fp => (pe_lst pa_nil)) (by decide +kernel) rfl (by decide +kernel) (by show ∀ y ∈ (_ : List (Str × NameKind)), y.2 = NameKind.free → (defScope s_glued_sides).names.lookup y.1 = some .cell; decide +kernel))
      (pss_cons (ps_for PassesOwn.never rfl (pi_enum rfl B.en (pa_Name (pv 0) pa_nil)) (pg_tup rfl (pgs_cons (pg_name (i := 2) sc.nd rfl (Or.inl rfl)) (pgs_cons (pg_name (i := 3) sc.nd rfl (Or.inl rfl)) pgs_nil)))
      (pss_one (ps_for PassesOwn.never rfl (pi_enumT rfl B.en (pa_Name (pv 3) pa_nil)) (pg_tup rfl (pgs_cons (pg_name (i := 4) sc.nd rfl (Or.inl rfl)) (pgs_cons (pg_name (i := 5) sc.nd rfl (Or.inl rfl)) pgs_nil)))
      (pss_one (ps_expr (pe_bm PySem.F.plainAttrs_list PySem.F.slot_list_append PySem.F.type_list_append mt_append (pe_ix (ix_listK (K := K)) (pv 1) (pe_op op_sub (pe_callB call_abs (by rfl) B.ab boot_abs (pa_Name (pv 5) pa_nil)) pe_int) (fun _ _ => rfl)) (pa_Tuple (pe_tup (pa_o2 (pv 2) (pv 4) pa_nil)) pa_nil)))))))
      (pss_one (ps_ret (pv 1))))), ?_⟩
    have lS := oS.len
    have lx : xs.length = S.length := tS.1
    have e7 : (((xs.length / 2 * 3 : Nat) : Int)).toNat = S.length / 2 * 3 := by rw [lx]; omega
    refine ⟨_, rfl, b, xs, rfl, SqL.of hb, ((xs.length / 2 * 3 : Nat) : Int), rfl, by omega, by omega, compR (lo := 0) (n := (((xs.length / 2 * 3 : Nat) : Int)).toNat) (fun i ys H' => LsL H' true ys (List.replicate i []) ∧ ys.Nodup ∧ Same H H' ∧ ∀ y ∈ ys, ∀ a, y = .ref a → H a = none) ⟨LsL.nil _ _, List.nodup_nil, Same.refl H, fun y hy => (by cases hy)⟩ (by omega) (fun i ys H' h => by rw [h.1.1, List.length_replicate]; exact Nat.le_refl _) ?_ ?_⟩
    · rintro i ys H1 pre hpre hi ⟨l1, nd1, s1, f1⟩
      rcases pre with _ | ⟨q0, _ | ⟨q1, pre⟩⟩
      · cases hpre
      · refine ⟨⟨[some _], rfl, rfl⟩, ?_⟩
        unfold tYes
        dsimp only
        rw [if_pos (rfl : true = true)]
        refine ⟨(by show 0 ≤ sizeLine; decide), fun p hp => ?_⟩
        have s2 := Same.nw (o := .lst []) (Same.refl H1) hp
        refine ⟨?_, ?_, s1.trans s2, fun y hy a e => ?_⟩
        · rw [List.replicate_succ']
          exact LsL.snoc (l1.up s2) upd_same (ItL.nil _ _)
        · rw [List.nodup_append]
          refine ⟨nd1, by simp, fun y hy z hz e => ?_⟩
          rw [List.mem_singleton.mp hz] at e
          obtain ⟨j, hj⟩ := List.mem_iff_getElem?.mp hy
          have jl := (List.getElem?_eq_some_iff.mp hj).1
          obtain ⟨a, xs', ea, ha, _⟩ := l1.2 j y _ hj (List.getElem?_eq_getElem (by rw [← l1.1]; exact jl))
          rw [ea] at e
          cases e
          rw [hp] at ha
          cases ha
        · rcases List.mem_append.mp hy with z | z
          · exact f1 y z a e
          · rw [List.mem_singleton.mp z] at e
            cases e
            exact s1.free hp
      · cases hpre
    rintro zs H1 ⟨l1, nd1, s1, f1⟩ c hc
    rw [e7] at l1
    have s2 := Same.nw (o := .lst zs) (Same.refl H1) hc
    have fc : (upd H1 c (.lst zs)) c = some (.lst zs) := upd_same
    have cf : H c = none := s1.free hc
    have zc : ∀ y ∈ zs, y ≠ .ref c := fun y hy e => by
      obtain ⟨j, hj⟩ := List.mem_iff_getElem?.mp hy
      have jl := (List.getElem?_eq_some_iff.mp hj).1
      obtain ⟨a, xs', ea, ha, _⟩ := l1.2 j y _ hj (List.getElem?_eq_getElem (by rw [← l1.1]; exact jl))
      rw [ea] at e
      cases e
      rw [hc] at ha
      cases ha
    generalize upd H1 c (.lst zs) = H2 at s2 fc ⊢
    have zl : zs.length = S.length / 2 * 3 := by rw [l1.1, List.length_replicate]
    have step : ∀ (H' : Hp) (gs : List (List (List Int))) (P : List (List Int × Int)) (at' pl : Nat) (sd : Int), 1 ≤ absI sd → absI sd ≤ ((S.length / 2 * 3 : Nat) : Int) → GlInv (S.length / 2 * 3) P gs → GlInv (S.length / 2 * 3) (P ++ [([(at' : Int), (pl : Int)], absI sd)]) (gs.set (absI sd - 1).toNat (glueOf P (absI sd - 1).toNat ++ [[(at' : Int), (pl : Int)]])) := fun H' gs P at' pl sd h1 h2 g => by
      have := g.put (u := [(at' : Int), (pl : Int)]) (k := (absI sd - 1).toNat) (by omega)
      rw [show (((absI sd - 1).toNat : Nat) : Int) + 1 = absI sd by omega] at this
      exact this
    refine ⟨_, rfl, b, rfl, ⟨_, SqL.of ((s1.trans s2) _ _ hb)⟩, for_enum (K := K) (a := b) (xs := xs) (fun i σ H' => ∃ (x2 x3 x4 x5 : Option V) (gs : List (List (List Int))), σ = [some (.ref b), some (.ref c), x2, x3, x4, x5] ∧ Same H H' ∧ H' c = some (.lst zs) ∧ LsL H' true zs gs ∧ GlInv (S.length / 2 * 3) (sidesF (S.take i)) gs) ⟨_, _, _, _, _, rfl, s1.trans s2, fc, l1.up s2, ⟨by rw [List.length_replicate], fun j hj => by rw [List.getElem?_replicate, if_pos hj]; rfl⟩⟩ (fun i σ H' _ h => by obtain ⟨_, _, _, _, _, _, s', _⟩ := h; exact SqL.of (s' _ _ hb)) ?_ ?_⟩
    · rintro i y σ H3 p hy ⟨x2, x3, x4, x5, gs, rfl, s3, hc3, l3, g3⟩ hp
      have s4 := Same.nw (o := .tup [.int (i : Int), y]) (Same.refl H3) hp
      have fp : (upd H3 p (.tup [.int (i : Int), y])) p = some (.tup [.int (i : Int), y]) := upd_same
      generalize upd H3 p (.tup [.int (i : Int), y]) = H4 at s4 fp ⊢
      have s04 := s3.trans s4
      obtain ⟨t, q, et, rfl, hq⟩ := (tS.up s04.tups).take hy
      have mt : t ∈ S := List.mem_of_getElem? et
      have t3 := oS.three t mt
      have il : i < S.length := (List.getElem?_eq_some_iff.mp et).1
      refine ⟨p, _, rfl, SqT.of fp, rfl, _, _, rfl, _, _, rfl, rfl, ?_⟩
      have pl36 : (sidesF (S.take i)).length ≤ 36 := by
        have h1 := congrArg List.length (sidesF_ties _ (S.take i) rfl)
        rw [List.length_map, List.length_map] at h1
        have h2 : ((S.take i).flatten).length ≤ S.flatten.length := by
          have := congrArg (fun l => (List.flatten l).length) (List.take_append_drop i S)
          simp only [List.flatten_append, List.length_append] at this
          omega
        have h3 := oS.ties.length_eq
        rw [List.length_map, pool_len] at h3
        omega
      refine ⟨_, rfl, q, rfl, ⟨_, SqT.of hq⟩, for_enumT (K := K) (a := q) (xs := t.map V.int) (fun j σ H' => ∃ (x4 x5 : Option V) (gs : List (List (List Int))), σ = [some (.ref b), some (.ref c), some (.int (i : Int)), some (.ref q), x4, x5] ∧ Same H H' ∧ Tups H4 H' ∧ H' c = some (.lst zs) ∧ LsL H' true zs gs ∧ GlInv (S.length / 2 * 3) (sidesF (S.take i) ++ (sideT i t).take j) gs) ⟨_, _, gs, rfl, s04, Tups.refl _, s4 _ _ hc3, l3.up s4, by rw [List.take_zero, List.append_nil]; exact g3⟩ (fun j σ H' _ h => by obtain ⟨_, _, _, _, _, t', _⟩ := h; exact SqT.of (t' _ _ hq)) ?_ ?_⟩
      · rintro j y' σ H5 p2 hy' ⟨x4, x5, gs, rfl, s5, t5, hc5, l5, g5⟩ hp2
        rw [List.getElem?_map] at hy'
        cases es : t[j]? with
        | none => rw [es] at hy'; cases hy'
        | some sd =>
          rw [es] at hy'
          cases hy'
          have sb := oS.side mt (List.mem_of_getElem? es)
          have s6 := Same.nw (o := .tup [.int (j : Int), .int sd]) (Same.refl H5) hp2
          have fp2 : (upd H5 p2 (.tup [.int (j : Int), .int sd])) p2 = some (.tup [.int (j : Int), .int sd]) := upd_same
          generalize upd H5 p2 (.tup [.int (j : Int), .int sd]) = H6 at s6 fp2 ⊢
          refine ⟨p2, _, rfl, SqT.of fp2, rfl, _, _, rfl, _, _, rfl, rfl, ?_⟩
          obtain ⟨kk, hkk⟩ : ∃ kk : Nat, absI sd - 1 = (kk : Int) := ⟨(absI sd - 1).toNat, by omega⟩
          have kz : kk < zs.length := by omega
          have ez : zs[kk]? = some zs[kk] := List.getElem?_eq_getElem kz
          have eg := g5.val kk (by omega)
          have l6 := l5.up s6
          obtain ⟨a, ax, ea, ha, ia⟩ := l6.2 kk _ _ ez eg
          rw [ea] at ez
          have nac : a ≠ c := fun z => zc _ (List.mem_of_getElem? ez) (by rw [z])
          have af : H a = none := f1 _ (List.mem_of_getElem? ez) a rfl
          have hc6 := s6 _ _ hc5
          have a1 : atI zs (absI sd - 1) = some (.ref a) := by rw [hkk]; exact atI_nat ez
          refine ⟨_, rfl, _, rfl, sd, rfl, _, _, rfl, rfl, c, zs, _, .ref a, rfl, rfl, SqL.of hc6, a1, .inl ⟨rfl, _, SqL.of ha⟩, _, rfl, _, rfl, (by show 2 ≤ sizeLine; decide), fun p3 hp3 => ?_⟩
          have s7 := Same.nw (o := .tup [.int (i : Int), .int (j : Int)]) (Same.refl H6) hp3
          have fp3 : (upd H6 p3 (.tup [.int (i : Int), .int (j : Int)])) p3 = some (.tup ([(i : Int), (j : Int)].map V.int)) := upd_same
          generalize upd H6 p3 (.tup [.int (i : Int), .int (j : Int)]) = H7 at s7 fp3 ⊢
          have ha7 := s7 _ _ ha
          have alen : ax.length ≤ 1000 := by
            rw [ia.1]
            unfold glueOf
            rw [List.length_map]
            refine Nat.le_trans (List.length_filter_le _ _) ?_
            rw [List.length_append, List.length_take, sideT_len]
            omega
          refine ⟨a, ax, _, rfl, rfl, ha7, Nat.lt_of_le_of_lt alen (by decide), ?_⟩
          have t67 : Tups H5 (upd H7 a (.lst (ax ++ [.ref p3]))) := (s6.trans s7).tups.trans (Tups.lst (Tups.refl H7) ha7)
          refine ⟨_, _, gs.set kk (glueOf (sidesF (S.take i) ++ (sideT i t).take j) kk ++ [[(i : Int), (j : Int)]]), rfl, (s5.trans (s6.trans s7)).ow af, t5.trans t67, by rw [upd_ne (Ne.symm nac)]; exact s7 _ _ hc6, LsL.put (l6.up s7) nd1 ez eg ha7 (.tup fp3), ?_⟩
          rw [take_succ' (sideT_at (i := i) es), ← List.append_assoc]
          have := step H7 gs _ i j sd sb.1 sb.2 g5
          rw [show (absI sd - 1).toNat = kk by omega] at this
          exact this
      · rintro σ H5 ⟨x4, x5, gs, rfl, s5, t5, hc5, l5, g5⟩
        refine ⟨_, _, _, _, gs, rfl, s5, hc5, l5, ?_⟩
        rw [take_succ' et, sidesF_snoc, List.length_take, Nat.min_eq_left (by omega)]
        rw [List.length_map, List.take_of_length_le (l := sideT i t) (by rw [sideT_len]; exact Nat.le_refl _)] at g5
        exact g5
    · rintro σ H3 ⟨x2, x3, x4, x5, gs, rfl, s3, hc3, l3, g3⟩
      rw [List.take_of_length_le (by omega)] at g3
      exact ⟨_, rfl, k c zs gs H3 s3 cf hc3 l3 g3⟩
end
end Toy
set_option Elab.async false
set_option linter.all false
set_option maxRecDepth 100000
set_option maxHeartbeats 1000000
namespace Toy
open PySem L2 PyProof.Rows
theorem Rest.set {d l : Addr} {H : Hp} {o : HO} (a : Rest H d) (n : l ≠ d) : Rest (L2.upd H l o) d := by
  obtain ⟨m, e⟩ := a
  exact ⟨m, by rw [upd_ne (Ne.symm n)]; exact e⟩
section
variable {P : Program} {w : World} {K : PySem.W.Frag} {mg : Str → Option Value} {base : Heap}
def spRings : Sp := fun vs H Q _ => ∃ (b d : Addr) (m : Int) (xs : List V) (S : List (List Int)), vs = [.ref b, .ref d, .int m] ∧ H b = some (.lst xs) ∧ TuL H xs S ∧ ShOk S ∧ Rest H d ∧ b ≠ d ∧ 0 < m ∧ Dgt m ∧ ∀ (c : Addr) (r : List Int) (H' : Hp), But d H H' → Rest H' d → H c = none → H' c = some (.lst (r.map V.int)) → EvRow S r → Q (.ref c) H'
abbrev s__law_even_ones : Stmt := top 25
theorem sc__law_even_ones : FnScope ["_law_sheet_here", "_law_found", "_law_triangle", "_law_odd", "_law_kept", "_law_one"] ["_law_sheet_here"] (defScope s__law_even_ones) := ⟨rfl, rfl, rfl, by decide +kernel, rfl, by decide +kernel, by decide +kernel⟩
def spEven : Sp := fun vs H Q _ => ∃ (b : Addr) (xs : List V) (S : List (List Int)), vs = [.ref b] ∧ H b = some (.lst xs) ∧ TuL H xs S ∧ ShOk S ∧ ∀ (c : Addr) (ns : List Int) (H' : Hp), Same H H' → H c = none → H' c = some (.lst (ns.map V.int)) → (∀ v ∈ ns, 0 ≤ v ∧ ∀ t ∈ S, Even2 v t) → Q (.ref c) H'
theorem ok_even {f : Addr} {fd : FuncData} (F : Fun K "_law_even_ones" "_law_even_ones" s__law_even_ones f fd) (M : Txt mg) (B : Gb mg) : FnOk P w K mg base CX0 2 f fd ["_law_sheet_here"] spEven := by
  have sc := sc__law_even_ones
  refine F.ok sc (fun vs H Q E h => ?_) (fun cdv A outer s H vs Q E hr h => ?_)
  · obtain ⟨b, xs, S, rfl, _⟩ := h
    rfl
  · obtain ⟨b, xs, S, rfl, hb, tS, oS, k⟩ := h
    refine ⟨_, (pss_cons (ps_compG (xs := ["_law_k"]) (Nb := ["_law_sheet_here", "_law_found", "_law_triangle", "_law_odd", "_law_kept", "_law_one"]) (pg_name (i := 1) sc.nd rfl (Or.inl rfl)) rfl rfl (pi_range1 rfl M.range (pa_BinOp (pe_op op_fdivL (pe_op op_mul (pe_callB (call_lenK (K := K)) (by rfl) M.len PySem.boot_len (pa_Name (pv 0) pa_nil)) pe_int) pe_int) pa_nil)) rfl (by show ∀ p ∈ (List.zip ["_law_sheet_here", "_law_found", "_law_triangle", "_law_odd", "_law_kept", "_law_one"] ["_law_sheet_here", "_law_found", "_law_triangle", "_law_odd", "_law_kept", "_law_one"] : List (Str × Str)), _; decide +kernel) (by decide +kernel) (fun cl C s₂ H₂ fp => (pg_name (i := 0) (by show List.Nodup (["_law_k", "_law_sheet_here", "_law_found", "_law_triangle", "_law_odd", "_law_kept", "_law_one"] : List Str); decide +kernel) rfl (Or.inl (lookup_relabel_local rfl)) (Or.inr (lookup_relabel_local rfl)))) (fun cl C s₂ H₂ fp => pif_nil) (fun cl C s₂ H₂ fp => (pe_op op_shl pe_int (pv 0))) (by decide +kernel) rfl (by decide +kernel) (by show ∀ y ∈ (_ : List (Str × NameKind)), y.2 = NameKind.free → (defScope s__law_even_ones).names.lookup y.1 = some .cell; decide +kernel))
      (pss_cons (ps_for PassesOwn.never rfl (pi_list (pv 0)) (pg_name (i := 2) sc.nd rfl (Or.inl rfl))
      (pss_cons (ps_set (i := 3) sc.nd rfl (Or.inr rfl) (pe_lst pa_nil))
      (pss_cons (ps_set (i := 4) sc.nd rfl (Or.inl rfl) (pe_lst pa_nil))
      (pss_cons (ps_for PassesOwn.never rfl (pi_list (pv 1)) (pg_name (i := 5) sc.nd rfl (Or.inr rfl))
      (pss_one (ps_if (pt_cmpR op_eq (pe_op op_mod (pe_callB (call_sum rfl) (by rfl) M.sum boot_sum (pa_cons (pe_compG (xs := ["_law_side"]) (Nb := ["_law_sheet_here", "_law_found", "_law_triangle", "_law_odd", "_law_kept", "_law_one"]) rfl (pi_tup (pv 2)) rfl (by show ∀ p ∈ (List.zip ["_law_sheet_here", "_law_found", "_law_triangle", "_law_odd", "_law_kept", "_law_one"] ["_law_sheet_here", "_law_found", "_law_triangle", "_law_odd", "_law_kept", "_law_one"] : List (Str × Str)), _; decide +kernel) (by decide +kernel) (fun cl C s₂ H₂ fp => (pg_name (i := 0) (by show List.Nodup (["_law_side", "_law_sheet_here", "_law_found", "_law_triangle", "_law_odd", "_law_kept", "_law_one"] : List Str); decide +kernel) rfl (Or.inl (lookup_relabel_local rfl)) (Or.inr (lookup_relabel_local rfl)))) (fun cl C s₂ H₂ fp => pif_nil) (fun cl C s₂ H₂ fp => (pe_op op_and (pe_op op_shr (pv 6) (pe_op op_sub (pe_callB call_abs (by rfl) B.ab boot_abs (pa_Name (pv 0) pa_nil)) pe_int)) pe_int)) (by decide +kernel) rfl (by decide +kernel) (by show ∀ y ∈ (_ : List (Str × NameKind)), y.2 = NameKind.free → (defScope s__law_even_ones).names.lookup y.1 = some .cell; decide +kernel)) pa_nil)) pe_int) pe_int (nomark _)) (pss_one (ps_expr (pe_bm PySem.F.plainAttrs_list PySem.F.slot_list_append PySem.F.type_list_append mt_append (pv 3) (pa_Name (pv 5) pa_nil)))) (pss_one (ps_expr (pe_bm PySem.F.plainAttrs_list PySem.F.slot_list_append PySem.F.type_list_append mt_append (pv 4) (pa_Name (pv 5) pa_nil)))))))
      (pss_one (ps_set (i := 1) sc.nd rfl (Or.inl rfl) (pe_op op_cat (pv 4) (pe_compG (xs := ["_law_one"]) (Nb := ["_law_sheet_here", "_law_found", "_law_triangle", "_law_odd", "_law_kept", ""]) rfl (pi_list (pe_slice sl_list (pv 3) (po_some pe_int) po_none)) rfl (by show ∀ p ∈ (List.zip ["_law_sheet_here", "_law_found", "_law_triangle", "_law_odd", "_law_kept", ""] ["_law_sheet_here", "_law_found", "_law_triangle", "_law_odd", "_law_kept", "_law_one"] : List (Str × Str)), _; decide +kernel) (by decide +kernel) (fun cl C s₂ H₂ fp => (pg_name (i := 0) (by show List.Nodup (["_law_one", "_law_sheet_here", "_law_found", "_law_triangle", "_law_odd", "_law_kept", ""] : List Str); decide +kernel) rfl (Or.inl (lookup_relabel_local rfl)) (Or.inr (lookup_relabel_local rfl)))) (fun cl C s₂ H₂ fp => pif_nil) (fun cl C s₂ H₂ fp => (pe_op op_xor (pv 0) (pe_ix (ix_listK (K := K)) (pv 4) pe_int (fun _ _ => rfl)))) (by decide +kernel) rfl (by decide +kernel) (by show ∀ y ∈ (_ : List (Str × NameKind)), y.2 = NameKind.free → (defScope s__law_even_ones).names.lookup y.1 = some .cell; decide +kernel)))))))))
      (pss_one (ps_ret (pv 1))))), ?_⟩
    have lS := oS.len
    have lx : xs.length = S.length := tS.1
    refine ⟨_, rfl, b, xs, rfl, .inl (SqL.of hb), ((xs.length : Nat) : Int), 3, rfl, rfl, .inr ⟨by decide, by decide⟩, ((xs.length : Nat) : Int) * 3, 2, rfl, rfl, ⟨by decide, by decide⟩, ((xs.length : Nat) : Int) * 3 / 2, rfl, by omega, by omega, compR (lo := 0) (n := (((xs.length : Nat) : Int) * 3 / 2).toNat) (fun i ys H' => ∃ ns : List Int, ys = ns.map V.int ∧ ns.length = i ∧ (∀ v ∈ ns, 0 ≤ v) ∧ H = H') ⟨[], rfl, rfl, fun v hv => (by cases hv), rfl⟩ (by omega) (fun i ys H' h => by obtain ⟨ns, rfl, l, _⟩ := h; rw [List.length_map, l]; exact Nat.le_refl _) ?_ ?_⟩
    · rintro i ys H' pre hpre hi ⟨ns, rfl, nl, nn, rfl⟩
      rcases pre with _ | ⟨q0, _ | ⟨q1, pre⟩⟩
      · cases hpre
      · refine ⟨⟨[some _], rfl, rfl⟩, ?_⟩
        unfold tYes
        dsimp only
        rw [if_pos (rfl : true = true)]
        refine ⟨_, rfl, _, _, rfl, rfl, ⟨by omega, by omega, by first | decide | omega⟩, ns ++ [1 * 2 ^ (0 + (i : Int)).toNat], ?_, by simp [nl], fun v hv => ?_, rfl⟩
        · rw [List.map_append]
          rfl
        · rcases List.mem_append.mp hv with hv | hv
          · exact nn v hv
          · rw [List.mem_singleton.mp hv]
            have := Int.pow_pos (n := 2) (m := (0 + (i : Int)).toNat) (by decide)
            omega
      · cases hpre
    rintro ys H' ⟨ns, rfl, nl, nn, rfl⟩ c hc
    have s1 := Same.nw (o := .lst (ns.map V.int)) (Same.refl H) hc
    have fc : (upd H c (.lst (ns.map V.int))) c = some (.lst (ns.map V.int)) := upd_same
    generalize upd H c (.lst (ns.map V.int)) = H1 at s1 fc ⊢
    have nl1 : ns.length ≤ 18 := by omega
    refine ⟨_, rfl, b, rfl, ⟨_, SqL.of (s1 _ _ hb)⟩, for_list (K := K) (a := b) (xs := xs) (fun i σ H' => ∃ (c : Addr) (x2 x3 x4 x5 : Option V) (ns : List Int), σ = [some (.ref b), some (.ref c), x2, x3, x4, x5] ∧ Same H H' ∧ H c = none ∧ H' c = some (.lst (ns.map V.int)) ∧ ns.length ≤ 18 ∧ ∀ v ∈ ns, 0 ≤ v ∧ ∀ t ∈ S.take i, Even2 v t) ⟨c, _, _, _, _, ns, rfl, s1, hc, fc, nl1, fun v hv => ⟨nn v hv, fun t ht => (by rw [List.take_zero] at ht; cases ht)⟩⟩ (fun i σ H' _ h => by obtain ⟨_, _, _, _, _, _, _, s', _⟩ := h; exact SqL.of (s' _ _ hb)) ?_ ?_⟩
    · rintro i y σ H2 hy ⟨c, x2, x3, x4, x5, ns, rfl, s2, cf, hc2, nl2, ok2⟩
      obtain ⟨t, q, et, rfl, hq⟩ := (tS.up s2.tups).take hy
      have mt : t ∈ S := List.mem_of_getElem? et
      have t3 := oS.three t mt
      refine ⟨(by show 0 ≤ sizeLine; decide), fun o ho => ?_⟩
      have s3 := Same.nw (o := .lst []) (Same.refl H2) ho
      have fo : (upd H2 o (.lst [])) o = some (.lst (([] : List Int).map V.int)) := upd_same
      generalize upd H2 o (.lst []) = H3 at s3 fo ⊢
      refine ⟨(by show 0 ≤ sizeLine; decide), fun ke hke => ?_⟩
      have s4 := Same.nw (o := .lst []) (Same.refl H3) hke
      have fk : (upd H3 ke (.lst [])) ke = some (.lst (([] : List Int).map V.int)) := upd_same
      have nok : o ≠ ke := ne_of_none fo hke
      generalize upd H3 ke (.lst []) = H4 at s4 fk ⊢
      have of : H2 o = none := ho
      have kf : H2 ke = none := s3.free hke
      have s24 := s3.trans s4
      refine ⟨_, rfl, c, rfl, ⟨_, SqL.of (s24 _ _ hc2)⟩, for_list (K := K) (a := c) (xs := ns.map V.int) (fun j σ H' => ∃ (x5 : Option V) (os ks : List Int), σ = [some (.ref b), some (.ref c), some (.ref q), some (.ref o), some (.ref ke), x5] ∧ Same H2 H' ∧ H' o = some (.lst (os.map V.int)) ∧ H' ke = some (.lst (ks.map V.int)) ∧ os.length + ks.length = j ∧ (∀ v ∈ os, v ∈ ns ∧ parT v t % 2 = 1) ∧ (∀ v ∈ ks, v ∈ ns ∧ parT v t % 2 = 0)) ⟨_, [], [], rfl, s24, s4 _ _ fo, fk, rfl, fun v hv => (by cases hv), fun v hv => (by cases hv)⟩ (fun j σ H' _ h => by obtain ⟨_, _, _, _, s', _⟩ := h; exact SqL.of (s' _ _ hc2)) ?_ ?_⟩
      · rintro j y' σ H5 hy' ⟨x5, os, ks, rfl, s5, ho5, hk5, ol, oo, kk⟩
        rw [List.getElem?_map] at hy'
        cases en : ns[j]? with
        | none => rw [en] at hy'; cases hy'
        | some v =>
          rw [en] at hy'
          cases hy'
          have mv : v ∈ ns := List.mem_of_getElem? en
          have v0 := (ok2 v mv).1
          have jl := (List.getElem?_eq_some_iff.mp en).1
          refine ⟨_, rfl, q, rfl, ⟨_, SqT.of (s5 _ _ hq)⟩, compT (K := K) (a := q) (xs := t.map V.int) (fun m ys H' => ys = ((t.take m).map fun s => bitI v (absI s - 1).toNat).map V.int ∧ H5 = H') ⟨rfl, rfl⟩ (by rw [List.length_map]; omega) (fun m ys H' h => by rw [h.1, List.length_map, List.length_map, List.length_take]; exact Nat.min_le_left _ _) (fun m ys H' _ h => by rw [← h.2]; exact SqT.of (s5 _ _ hq)) ?_ ?_⟩
          · rintro m z ys' H' pre hpl hz ⟨rfl, rfl⟩
            rw [List.getElem?_map] at hz
            cases ez : t[m]? with
            | none => rw [ez] at hz; cases hz
            | some sd =>
              rw [ez] at hz
              cases hz
              have sb := oS.side mt (List.mem_of_getElem? ez)
              rcases pre with _ | ⟨q0, _ | ⟨q1, pre⟩⟩
              · cases hpl
              · refine ⟨⟨[some _], rfl, rfl⟩, ?_⟩
                unfold tYes
                dsimp only
                rw [if_pos (rfl : true = true)]
                refine ⟨_, rfl, _, rfl, sd, rfl, _, _, rfl, rfl, _, _, rfl, rfl, (show 0 ≤ absI sd - 1 by omega), _, _, rfl, rfl, ?_, rfl⟩
                rw [take_succ' ez, List.map_append, List.map_append]
                have := bit_and v0 (absI sd - 1).toNat
                show _ ++ [V.int (Builtin.bitAnd (v / 2 ^ (absI sd - 1).toNat) 1)] = _
                rw [this]
                rfl
              · cases hpl
          rintro ys' H' ⟨rfl, rfl⟩ D hD
          rw [List.length_map, List.take_length]
          have s6 := Same.nw (o := .lst ((t.map fun s => bitI v (absI s - 1).toNat).map V.int)) (Same.refl H5) hD
          have fD : (upd H5 D (.lst ((t.map fun s => bitI v (absI s - 1).toNat).map V.int))) D = some (.lst ((t.map fun s => bitI v (absI s - 1).toNat).map V.int)) := upd_same
          generalize upd H5 D (.lst ((t.map fun s => bitI v (absI s - 1).toNat).map V.int)) = H6 at s6 fD ⊢
          have ho6 := s6 _ _ ho5
          have hk6 := s6 _ _ hk5
          refine ⟨D, _, rfl, SqL.of fD, _, _, rfl, rfl, (by show (0 : Int) < 2; decide), rfl, _, rfl, ?_⟩
          have sm : os.length ≤ 1000 ∧ ks.length ≤ 1000 := by omega
          by_cases pv : parT v t % 2 = 1
          · have ev : decide ((fun i j => V.int (i % j)) (t.map fun s => bitI v (absI s - 1).toNat).sum 2 = V.int 1) = true := decide_eq_true (by show V.int (parT v t % 2) = V.int 1; rw [pv])
            rw [ev]
            refine iteT ⟨_, rfl, .inl ⟨rfl, _, SqL.of ho6⟩, _, rfl, o, _, _, rfl, rfl, ho6, (by rw [List.length_map]; exact Nat.lt_of_le_of_lt sm.1 (by decide)), ?_⟩
            refine ⟨_, os ++ [v], ks, rfl, (s5.trans s6).ow of, by rw [upd_same, List.map_append]; rfl, by rw [upd_ne (Ne.symm nok)]; exact hk6, by simp only [List.length_append, List.length_cons, List.length_nil]; omega, fun x hx => ?_, kk⟩
            rcases List.mem_append.mp hx with hx | hx
            · exact oo x hx
            · rw [List.mem_singleton.mp hx]; exact ⟨mv, pv⟩
          · have ev : decide ((fun i j => V.int (i % j)) (t.map fun s => bitI v (absI s - 1).toNat).sum 2 = V.int 1) = false := decide_eq_false fun z => pv (V.int.inj z)
            rw [ev]
            refine iteF ⟨_, rfl, .inl ⟨rfl, _, SqL.of hk6⟩, _, rfl, ke, _, _, rfl, rfl, hk6, (by rw [List.length_map]; exact Nat.lt_of_le_of_lt sm.2 (by decide)), ?_⟩
            refine ⟨_, os, ks ++ [v], rfl, (s5.trans s6).ow kf, by rw [upd_ne nok]; exact ho6, by rw [upd_same, List.map_append]; rfl, by simp only [List.length_append, List.length_cons, List.length_nil]; omega, oo, fun x hx => ?_⟩
            rcases List.mem_append.mp hx with hx | hx
            · exact kk x hx
            · rw [List.mem_singleton.mp hx]
              exact ⟨mv, by omega⟩
      · rintro σ H5 ⟨x5, os, ks, rfl, s5, ho5, hk5, ol, oo, kk⟩
        rw [List.length_map] at ol
        have cut1 : cutV (os.map V.int) (some 1) none = (os.drop 1).map V.int := by
          cases os with
          | nil => rfl
          | cons o0 os' => exact (cutV_drop (xs := (o0 :: os').map V.int) (n := 1) (by simp)).trans (by simp)
        refine ⟨_, rfl, _, rfl, 1, rfl, o, _, rfl, SqL.of ho5, fun sl hsl => ?_⟩
        rw [cut1]
        have s6 := Same.nw (o := .lst ((os.drop 1).map V.int)) (Same.refl H5) hsl
        have fs : (upd H5 sl (.lst ((os.drop 1).map V.int))) sl = some (.lst ((os.drop 1).map V.int)) := upd_same
        generalize upd H5 sl (.lst ((os.drop 1).map V.int)) = H6 at s6 fs ⊢
        have ho6 := s6 _ _ ho5
        refine ⟨sl, rfl, ⟨_, SqL.of fs⟩, compL (K := K) (a := sl) (xs := (os.drop 1).map V.int) (fun m ys H' => ys = (((os.drop 1).take m).map fun v => Builtin.bitXor v (os.headD 0)).map V.int ∧ H6 = H') ⟨rfl, rfl⟩ (by rw [List.length_map, List.length_drop]; omega) (fun m ys H' h => by rw [h.1, List.length_map, List.length_map, List.length_take]; exact Nat.min_le_left _ _) (fun m ys H' _ h => by rw [← h.2]; exact SqL.of fs) ?_ ?_⟩
        · rintro m z ys' H' pre hpl hz ⟨rfl, rfl⟩
          rw [List.getElem?_map] at hz
          cases ez : (os.drop 1)[m]? with
          | none => rw [ez] at hz; cases hz
          | some v =>
            rw [ez] at hz
            cases hz
            have a0 : atI (os.map V.int) 0 = some (V.int (os.headD 0)) := by
              cases os with
              | nil => cases ez
              | cons o0 os' => exact atI_nat (j := 0) rfl
            rcases pre with _ | ⟨q0, _ | ⟨q1, pre⟩⟩
            · cases hpl
            · refine ⟨⟨[some _], rfl, rfl⟩, ?_⟩
              unfold tYes
              dsimp only
              rw [if_pos (rfl : true = true)]
              refine ⟨_, rfl, _, rfl, o, _, _, _, rfl, rfl, SqL.of ho6, a0, _, _, rfl, rfl, ?_, rfl⟩
              rw [take_succ' ez, List.map_append, List.map_append]
              rfl
            · cases hpl
        rintro ys' H' ⟨rfl, rfl⟩ D hD
        rw [List.length_map, List.take_length]
        have s7 := Same.nw (o := .lst (((os.drop 1).map fun v => Builtin.bitXor v (os.headD 0)).map V.int)) (Same.refl H6) hD
        have fD : (upd H6 D (.lst (((os.drop 1).map fun v => Builtin.bitXor v (os.headD 0)).map V.int))) D = some (.lst (((os.drop 1).map fun v => Builtin.bitXor v (os.headD 0)).map V.int)) := upd_same
        generalize upd H6 D (.lst (((os.drop 1).map fun v => Builtin.bitXor v (os.headD 0)).map V.int)) = H7 at s7 fD ⊢
        have s57 := s6.trans s7
        refine ⟨ke, D, _, _, rfl, rfl, s57 _ _ hk5, fD, ?_, fun c2 hc2' => ?_⟩
        · simp only [List.length_map, List.length_drop]
          exact Nat.le_trans (show _ ≤ 1000 by omega) (by decide)
        rw [← List.map_append]
        have s8 := Same.nw (o := .lst ((ks ++ (os.drop 1).map fun v => Builtin.bitXor v (os.headD 0)).map V.int)) s57 hc2'
        refine ⟨c2, _, _, _, _, ks ++ (os.drop 1).map fun v => Builtin.bitXor v (os.headD 0), rfl, (s2.trans s5).trans s8, (s2.trans (s5.trans s57)).free hc2', upd_same, ?_, fun v hv => ?_⟩
        · simp only [List.length_append, List.length_map, List.length_drop]
          omega
        · have eT : S.take (i + 1) = S.take i ++ [t] := take_succ' et
          rcases List.mem_append.mp hv with hv | hv
          · obtain ⟨m1, p1⟩ := kk v hv
            obtain ⟨v0, ev⟩ := ok2 v m1
            refine ⟨v0, fun t' ht' => ?_⟩
            rw [eT] at ht'
            rcases List.mem_append.mp ht' with z | z
            · exact ev t' z
            · rw [List.mem_singleton.mp z]; exact p1
          · obtain ⟨u, hu, rfl⟩ := List.mem_map.mp hv
            cases os with
            | nil => cases hu
            | cons o0 os' =>
              have hu : u ∈ os' := by simpa using hu
              show 0 ≤ Builtin.bitXor u o0 ∧ _
              obtain ⟨mu1, pu⟩ := oo u (List.mem_cons_of_mem _ hu)
              obtain ⟨mo1, po⟩ := oo o0 List.mem_cons_self
              obtain ⟨u0, eu⟩ := ok2 u mu1
              obtain ⟨oo0, eo⟩ := ok2 o0 mo1
              refine ⟨xor_nn u0 oo0, fun t' ht' => ?_⟩
              have px := par_xor u0 oo0 t'
              show Even2 (Builtin.bitXor u o0) t'
              unfold Even2
              rw [eT] at ht'
              rcases List.mem_append.mp ht' with z | z
              · have e1 : parT u t' % 2 = 0 := eu t' z
                have e2 : parT o0 t' % 2 = 0 := eo t' z
                omega
              · rw [List.mem_singleton.mp z] at px ⊢
                omega
    · rintro σ H2 ⟨c, x2, x3, x4, x5, ns, rfl, s2, cf, hc2, nl2, ok2⟩
      rw [List.take_of_length_le (by omega)] at ok2
      exact ⟨_, rfl, k c ns H2 s2 cf hc2 ok2⟩
abbrev s__law_wide_row : Stmt := top 26
theorem sc__law_wide_row : FnScope ["_law_sheet_here", "_law_rest", "_law_most", "_law_b", "_law_mask", "_law_one"] ["_law_sheet_here", "_law_rest", "_law_most"] (defScope s__law_wide_row) := ⟨rfl, rfl, rfl, by decide +kernel, rfl, by decide +kernel, by decide +kernel⟩
theorem ok_wide {f : Addr} {fd : FuncData} (F : Fun K "_law_wide_row" "_law_wide_row" s__law_wide_row f fd) (M : Txt mg) (G_law_digit : Kn P w K mg base "_law_digit" 1 ["_law_rest", "_law_many"] spDigit) (G_law_even_ones : Kn P w K mg base "_law_even_ones" 2 ["_law_sheet_here"] spEven) : FnOk P w K mg base CX0 3 f fd ["_law_sheet_here", "_law_rest", "_law_most"] spRings := by
  have sc := sc__law_wide_row
  refine F.ok sc (fun vs H Q E h => ?_) (fun cdv A outer s H vs Q E hr h => ?_)
  · obtain ⟨b, d, m, xs, S, rfl, _⟩ := h
    rfl
  · obtain ⟨b, d, m, xs, S, rfl, hb, tS, oS, R0, nbd, m0, m1, k⟩ := h
    refine ⟨_, (pss_cons (ps_set (i := 3) sc.nd rfl (Or.inr rfl) (pe_op op_add pe_int (pe_callD G_law_digit hr rfl (pa_Name (pv 1) (pa_Name (pv 2) pa_nil)))))
      (pss_cons (ps_set (i := 4) sc.nd rfl (Or.inr rfl) pe_int)
      (pss_cons (ps_for PassesOwn.never rfl (pi_list (pe_callD G_law_even_ones hr rfl (pa_Name (pv 0) pa_nil))) (pg_name (i := 5) sc.nd rfl (Or.inl rfl))
      (pss_one (ps_if (pt_cmpR op_eq (pe_callD G_law_digit hr rfl (pa_Name (pv 1) (pa_Constant pe_int pa_nil))) pe_int (nomark _)) (pss_one (ps_set (i := 4) sc.nd rfl (Or.inr rfl) (pe_op op_xor (pv 4) (pv 5)))) pss_nil)))
      (pss_one (ps_ret (pe_compG (xs := ["_law_k"]) (Nb := ["_law_sheet_here", "_law_rest", "_law_most", "_law_b", "_law_mask", "_law_one"]) rfl (pi_range1 rfl M.range (pa_BinOp (pe_op op_fdivL (pe_op op_mul (pe_callB (call_lenK (K := K)) (by rfl) M.len PySem.boot_len (pa_Name (pv 0) pa_nil)) pe_int) pe_int) pa_nil)) rfl (by show ∀ p ∈ (List.zip ["_law_sheet_here", "_law_rest", "_law_most", "_law_b", "_law_mask", "_law_one"] ["_law_sheet_here", "_law_rest", "_law_most", "_law_b", "_law_mask", "_law_one"] : List (Str × Str)), _; decide +kernel) (by decide +kernel) (fun cl C s₂ H₂ fp => (pg_name (i := 0) (by show List.Nodup (["_law_k", "_law_sheet_here", "_law_rest", "_law_most", "_law_b", "_law_mask", "_law_one"] : List Str); decide +kernel) rfl (Or.inl (lookup_relabel_local rfl)) (Or.inr (lookup_relabel_local rfl)))) (fun cl C s₂ H₂ fp => pif_nil) (fun cl C s₂ H₂ fp => (pe_op op_add (pe_op op_mul pe_int (pe_op op_add (pv 4) (pe_callD G_law_digit hr rfl (pa_Name (pv 2) (pa_Name (pv 4) pa_nil))))) (pe_op op_and (pe_op op_shr (pv 5) (pv 0)) pe_int))) (by decide +kernel) rfl (by decide +kernel) (by show ∀ y ∈ (_ : List (Str × NameKind)), y.2 = NameKind.free → (defScope s__law_wide_row).names.lookup y.1 = some .cell; decide +kernel))))))), ?_⟩
    have lS := oS.len
    have lx : xs.length = S.length := tS.1
    refine ⟨_, rfl, _, rfl, d, m, rfl, R0, m0, m1, fun b1 H1 b10 b11 R1 B1 => ⟨1, b1, rfl, rfl, ?_⟩⟩
    have hb1 := B1 _ _ hb nbd
    refine ⟨_, rfl, b, xs, S, rfl, hb1, tS.up (But.tupsR B1 R0), oS, fun c ns H2 s2 cf hc2 ok2 => ?_⟩
    have R2 := R1.same s2
    have ncd : c ≠ d := fun z => by obtain ⟨n, e⟩ := R1; rw [z, e] at cf; cases cf
    have B2 : But d H H2 := B1.trans (But.same s2)
    refine ⟨c, rfl, ⟨_, SqL.of hc2⟩, for_list (K := K) (a := c) (xs := ns.map V.int) (fun j σ H' => ∃ (x5 : Option V) (mk : Int), σ = [some (.ref b), some (.ref d), some (.int m), some (.int (1 + b1)), some (.int mk), x5] ∧ Rest H' d ∧ But d H2 H' ∧ 0 ≤ mk ∧ ∀ t ∈ S, Even2 mk t) ⟨_, 0, rfl, R2, But.refl _ _, Int.le_refl _, fun t ht => ?_⟩ (fun j σ H' _ h => by obtain ⟨_, _, _, _, b', _⟩ := h; exact SqL.of (b' _ _ hc2 ncd)) ?_ ?_⟩
    · have z : ∀ t : List Int, parT 0 t = 0 := fun t => by
        induction t with
        | nil => rfl
        | cons s t ih =>
          unfold parT at ih ⊢
          rw [List.map_cons, List.sum_cons, ih]
          unfold bitI
          simp
      unfold Even2
      rw [z t]
      rfl
    · rintro j y' σ H3 hy' ⟨x5, mk, rfl, R3, B3, mk0, em⟩
      rw [List.getElem?_map] at hy'
      cases en : ns[j]? with
      | none => rw [en] at hy'; cases hy'
      | some v =>
        rw [en] at hy'
        cases hy'
        obtain ⟨v0, ev⟩ := ok2 v (List.mem_of_getElem? en)
        refine ⟨_, rfl, d, 2, rfl, R3, by decide, dg (by decide), fun r H4 r0 r1 R4 B4 => ⟨rfl, _, rfl, ite2 (fun _ => ?_) (fun _ => ?_)⟩⟩
        · refine ⟨_, rfl, _, rfl, _, _, rfl, rfl, _, Builtin.bitXor mk v, rfl, R4, B3.trans B4, xor_nn mk0 v0, fun t ht => ?_⟩
          have px := par_xor mk0 v0 t
          have e1 : parT mk t % 2 = 0 := em t ht
          have e2 : parT v t % 2 = 0 := ev t ht
          show parT (Builtin.bitXor mk v) t % 2 = 0
          omega
        · exact ⟨_, mk, rfl, R4, B3.trans B4, mk0, em⟩
    rintro σ H3 ⟨x5, mk, rfl, R3, B3, mk0, em⟩
    have hb3 := B3 _ _ (s2 _ _ hb1) nbd
    have B03 := B2.trans B3
    refine ⟨_, rfl, b, xs, rfl, .inl (SqL.of hb3), ((xs.length : Nat) : Int), 3, rfl, rfl, .inr ⟨by decide, by decide⟩, ((xs.length : Nat) : Int) * 3, 2, rfl, rfl, ⟨by decide, by decide⟩, ((xs.length : Nat) : Int) * 3 / 2, rfl, by omega, by omega, compR (lo := 0) (n := (((xs.length : Nat) : Int) * 3 / 2).toNat) (fun i ys H' => ∃ r : List Int, ys = r.map V.int ∧ r.length = i ∧ (∀ (q : Nat) (x : Int), r[q]? = some x → ∃ dd, 0 ≤ dd ∧ dd < 1 + b1 ∧ x = 2 * (1 + b1 + dd) + bitI mk q) ∧ Rest H' d ∧ But d H3 H') ⟨[], rfl, rfl, fun q x h => (by cases h), R3, But.refl _ _⟩ (by omega) (fun i ys H' h => by obtain ⟨r, rfl, l, _⟩ := h; rw [List.length_map, l]; exact Nat.le_refl _) ?_ ?_⟩
    · rintro i ys H4 pre hpre hi ⟨r, rfl, rl, ro, R4, B4⟩
      rcases pre with _ | ⟨q0, _ | ⟨q1, pre⟩⟩
      · cases hpre
      · refine ⟨⟨[some _], rfl, rfl⟩, ?_⟩
        unfold tYes
        dsimp only
        rw [if_pos (rfl : true = true)]
        refine ⟨_, rfl, _, rfl, _, rfl, d, 1 + b1, rfl, R4, by omega, Int.le_trans (by omega) m1, fun dd H5 dd0 dd1 R5 B5 => ?_⟩
        have bz := bit_and mk0 (0 + (i : Int)).toNat
        refine ⟨1 + b1, dd, rfl, rfl, 2, 1 + b1 + dd, rfl, rfl, .inl ⟨by decide, by decide⟩, _, rfl, _, rfl, _, _, rfl, rfl, (show (0 : Int) ≤ 0 + (i : Int) by omega), _, _, rfl, rfl, _, _, rfl, rfl, r ++ [2 * (1 + b1 + dd) + bitI mk i], ?_, by simp [rl], fun q x hq => ?_, R5, B4.trans B5⟩
        · rw [List.map_append]
          show _ ++ [V.int (2 * (1 + b1 + dd) + Builtin.bitAnd (mk / 2 ^ (0 + (i : Int)).toNat) 1)] = _
          rw [bz, show (0 + (i : Int)).toNat = i by omega]
          rfl
        · by_cases ql : q < r.length
          · rw [List.getElem?_append_left ql] at hq
            exact ro q x hq
          · rw [List.getElem?_append_right (by omega)] at hq
            cases e : q - r.length with
            | zero =>
              rw [e] at hq
              cases hq
              have : q = i := by omega
              subst this
              exact ⟨dd, dd0, dd1, rfl⟩
            | succ n => rw [e] at hq; cases hq
      · cases hpre
    rintro ys H4 ⟨r, rfl, rl, ro, R4, B4⟩ D hD
    have nD : D ≠ d := R4.ne hD
    have B04 := B03.trans B4
    refine k D r _ (B04.new hD) (R4.new hD) (B04.fr hD nD) upd_same (ev_wide (b := 1 + b1) (m := mk) oS (by omega) (by omega) mk0 ro em)
end
end Toy
namespace Toy
open PySem L2 PyProof.Rows
section
variable {P : Program} {w : World} {K : PySem.W.Frag} {mg : Str → Option Value} {base : Heap} {c_CordError c_NoRow c_NoCord c_NoTurn c_NoSheet : Addr}
abbrev s_row_of : Stmt := top 15
theorem sc_row_of : FnScope ["sheet", "corners", "row", "both", "one", "other"] ["sheet", "corners"] (defScope s_row_of) := ⟨rfl, rfl, rfl, by decide +kernel, rfl, by decide +kernel, by decide +kernel⟩
set_option maxHeartbeats 4000000 in
theorem ok_rowof {f : Addr} {fd : FuncData} (F : Fun K "row_of" "row_of" s_row_of f fd) (M : Txt mg) (Gare_arcs : Kn P w K mg base "are_arcs" 4 ["sheet", "thing"] spArcsA) (Gglued_sides : Kn P w K mg base "glued_sides" 2 ["sheet"] spGluedI) (Z : Exs K mg c_CordError c_NoRow c_NoCord c_NoTurn c_NoSheet) : FnOk P w K mg base (CXE P w) 5 f fd ["sheet", "corners"] (spRowX c_NoRow) := by
  have sc := sc_row_of
  refine F.okX sc (fun vs H Q E h => ?_) (fun cdv A outer s H vs Q E hd0 hr h => ?_)
  · obtain ⟨b, c, xs, ys, S, A', rfl, _⟩ := h
    rfl
  · obtain ⟨b, c, xs, ys, S, A', rfl, h1, h2, h3, h4, h5, h6, k1, k2⟩ := h
    refine ⟨_, (pss_cons (ps_if (PT.nox (pt_not (pt_val (pe_callD Gare_arcs hr rfl (pa_Name (pv 0) (pa_Name (pv 1) pa_nil)))))) (pss_one (ps_raise Z.e_NoRow hd0 Z.m_NoRow pe_str rfl)) pss_nil)
      (pss_cons (PS.nox (ps_set (i := 2) sc.nd rfl (Or.inl rfl) (pe_lst pa_nil)))
      (pss_cons (ps_for PassesOwn.leaving rfl (pi_list (PE.nox (pe_callD Gglued_sides hr rfl (pa_Name (pv 0) pa_nil)))) (pg_name (i := 3) sc.nd rfl (Or.inl rfl))
      (pss_cons (PS.nox (ps_asg (pe_compG (xs := ["at", "place"]) (Nb := ["sheet", "corners", "row", "both", "one", "other"]) rfl (pi_list (pv 3)) rfl (by show ∀ p ∈ (List.zip ["sheet", "corners", "row", "both", "one", "other"] ["sheet", "corners", "row", "both", "one", "other"] : List (Str × Str)), _; decide +kernel) (by decide +kernel) (fun cl C s₂ H₂ fp => (pg_tupK (K := K) (n := 2) rfl (pgs_cons (pg_name (i := 0) (by show List.Nodup (["at", "place", "sheet", "corners", "row", "both", "one", "other"] : List Str); decide +kernel) rfl (Or.inl (lookup_relabel_local rfl)) (Or.inr (lookup_relabel_local rfl))) (pgs_cons (pg_name (i := 1) (by show List.Nodup (["at", "place", "sheet", "corners", "row", "both", "one", "other"] : List Str); decide +kernel) rfl (Or.inl (lookup_relabel_local rfl)) (Or.inr (lookup_relabel_local rfl))) pgs_nil)))) (fun cl C s₂ H₂ fp => pif_nil) (fun cl C s₂ H₂ fp => (pe_op op_add (pe_ix (ix_tupK (K := K)) (pe_ix (ix_listK (K := K)) (pv 3) (pv 0) (fun _ _ => rfl)) (pe_op op_sub (pv 1) pe_int) (fun _ _ => rfl)) (pe_ix (ix_tupK (K := K)) (pe_ix (ix_listK (K := K)) (pv 3) (pv 0) (fun _ _ => rfl)) (pv 1) (fun _ _ => rfl)))) (by decide +kernel) rfl (by decide +kernel) (by show ∀ y ∈ (_ : List (Str × NameKind)), y.2 = NameKind.free → (defScope s_row_of).names.lookup y.1 = some .cell; decide +kernel)) (pg_lst rfl (pgs_cons (pg_name (i := 4) sc.nd rfl (Or.inl rfl)) (pgs_cons (pg_name (i := 5) sc.nd rfl (Or.inl rfl)) pgs_nil)))))
      (pss_cons (ps_if (PT.nox (pt_cmpR op_ne (pv 4) (pv 5) (nomark _))) (pss_one (ps_raise Z.e_NoRow hd0 Z.m_NoRow pe_str rfl)) pss_nil)
      (pss_one (PS.nox (ps_expr (pe_bm PySem.F.plainAttrs_list PySem.F.slot_list_append PySem.F.type_list_append mt_append (pv 2) (pa_Name (pv 4) pa_nil))))))))
      (pss_one (PS.nox (ps_ret (pv 2))))))), ?_⟩
    exact rowX_reads (K := K) h1 h2 h3 h4 h5 h6 k1 k2
abbrev s__law_told : Stmt := top 28
theorem sc__law_told : FnScope ["_law_sheet_here", "_law_some", "e"] ["_law_sheet_here", "_law_some"] (defScope s__law_told) := ⟨rfl, rfl, rfl, by decide +kernel, rfl, by decide +kernel, by decide +kernel⟩
set_option maxHeartbeats 4000000 in
theorem ok_told {f : Addr} {fd : FuncData} (F : Fun K "_law_told" "_law_told" s__law_told f fd) (M : Txt mg) (Grow_of : KnX P w K mg base "row_of" 5 ["sheet", "corners"] (spRowX c_NoRow)) (Z : Exs K mg c_CordError c_NoRow c_NoCord c_NoTurn c_NoSheet) (B : Gb mg) : FnOk P w K mg base CX0 6 f fd ["_law_sheet_here", "_law_some"] spToldR := by
  have sc := sc__law_told
  refine F.ok sc (fun vs H Q E h => ?_) (fun cdv A outer s H vs Q E hr h => ?_)
  · obtain ⟨b, c, xs, ys, S, A', rfl, _⟩ := h
    rfl
  · obtain ⟨b, c, xs, ys, S, A', rfl, h1, h2, h3, h4, h5, h6, k1, k2⟩ := h
    refine ⟨_, (pss_cons (ps_try (i := 2) sc.nd rfl rfl rfl rfl Z.m_CordError rfl Z.x_CordError (fun pins xe Ex px => (pss_one (ps_ret (pe_callX Grow_of px hr rfl (pa_Name (PE.nox (pv 0)) (pa_Name (PE.nox (pv 1)) pa_nil)))))) (fun C ea oe ho => (pss_one (ps_if (PW.pt (pw_and (pt_val (pe_callB (call_isiX (K := K) ho) (by rfl) M.isinstance boot_isinstance (pa_Name (pv 2) (pa_Name (pe_glob (v := .ref _) rfl Z.m_NoRow rfl) pa_nil)))) (pw_and (pt_val (pe_callB (call_isiX (K := K) ho) (by rfl) M.isinstance boot_isinstance (pa_Name (pv 2) (pa_Name (pe_bltn (v := .ty "ValueError") rfl B.ve PyProof.Rows.Boot.«ValueError» rfl) pa_nil)))) (pw_and1 (pt_not (pt_val (pe_callB (call_isiX (K := K) ho) (by rfl) M.isinstance boot_isinstance (pa_Name (pv 2) (pa_Tuple (pe_tup (pa_o3 (pe_glob (v := .ref _) rfl Z.m_NoCord rfl) (pe_glob (v := .ref _) rfl Z.m_NoSheet rfl) (pe_glob (v := .ref _) rfl Z.m_NoTurn rfl) pa_nil)) pa_nil))))))))) (pss_one (ps_ret pe_str)) pss_nil))))
      (pss_one (ps_ret pe_str))), ?_⟩
    exact toldR_reads (K := K) Z.x_NoRow Z.x_NoCord Z.x_NoSheet Z.x_NoTurn Z.s_NoRow_CordError Z.v_NoRow Z.s_NoRow_NoCord Z.s_NoRow_NoSheet Z.s_NoRow_NoTurn h1 h2 h3 h4 h5 h6 k1 k2
end
end Toy
set_option Elab.async false
set_option linter.all false
set_option maxRecDepth 100000
set_option maxHeartbeats 1000000
namespace Toy
open PySem L2 PyProof.Rows
def tBent52 (K : PySem.W.Frag) : TS := (tSeq (tIfS (tTest (tOp rEq (tCall spDigit [] E0 (tCons (tVar 1) (tCons (tC (V.int 2)) tNil))) (tC (V.int 1)))) (tSeq (tAsg (tCall spDigit [] E0 (tCons (tVar 1) (tCons (tCB (fun xs H Q => ∃ p ys, xs = [V.ref p] ∧ (SqL K H p ys ∨ SqT K H p ys) ∧ Q (V.int ys.length) H) (tCons (tVar 2) tNil)) tNil))) (gName 10)) (tSeq (tAsg (tCB (fun xs H_1 Q => ∃ p ys, xs = [V.ref p] ∧ (SqL K H_1 p ys ∨ SqT K H_1 p ys) ∧ ∀ (l : Addr), H_1 l = none → Q (V.ref l) (upd H_1 l (HO.lst ys))) (tCons (tOp (rIxL K) (tVar 3) (tVar 10)) tNil)) (gName 11)) (tSeq (tAsg (tCall spDigit [] E0 (tCons (tVar 1) (tCons (tC (V.int 5)) tNil))) (gSub (tVar 11) (tCall spDigit [] E0 (tCons (tVar 1) (tCons (tC (V.int 3)) tNil))) rSetL)) (tAsg (tCB (fun xs H_1 Q => ∃ p ys, xs = [V.ref p] ∧ ((SqL K H_1 p ys ∧ ∀ (l : Addr), H_1 l = none → Q (V.ref l) (upd H_1 l (HO.tup ys))) ∨ SqT K H_1 p ys ∧ Q (V.ref p) H_1)) (tCons (tVar 11) tNil)) (gSub (tVar 3) (tVar 10) rSetL))))) tNext) (tCnt52 K))
theorem ArOk.set {S A : List (List Int)} {w : List Int} (h : ArOk S A) (h3 : w.length = 3) (hn : ∀ x ∈ w, 0 ≤ x) (n : Nat) : ArOk S (A.set n w) :=
  ⟨by rw [List.length_set]; exact h.len, fun u hu => by
    rcases List.mem_or_eq_of_mem_set hu with h' | h'
    · exact h.all u h'
    · rw [h']; exact ⟨h3, hn⟩⟩
set_option maxHeartbeats 4000000 in
theorem bent52_reads {K : PySem.W.Frag} {H : Hp} {Q : VK} {Z : L2.St → Hp → Prop} {b p d : Addr} {xs ys : List V} {S A : List (List Int)} {x0 x4 x5 x6 x7 x8 x9 x10 x11 x12 x13 x14 x15 x16 x17 : Option V} (hb : H b = some (.lst xs)) (tS : TuL H xs S) (oS : ShOk S) (hp : H p = some (.lst ys)) (tA : TuL H ys A) (oA : ArOk S A) (R : Rest H d) (nb : b ≠ d) (np : p ≠ d) (nbp : b ≠ p) (k : ∀ H', Q (.bl true) H') :
    tBent52 K { nx := Z, rt := Q } [x0, some (.ref d), some (.ref b), some (.ref p), x4, x5, x6, x7, x8, x9, x10, x11, x12, x13, x14, x15, x16, x17] H := by
  have lS := oS.len
  have lx : xs.length = S.length := tS.1
  have ly : ys.length = S.length := by rw [tA.1]; exact oA.len
  refine ⟨_, rfl, d, 2, rfl, R, by decide, dg (by decide), fun r1 H1 r10 r11 R1 B1 => ⟨rfl, _, rfl, ite2 (fun _ => ?_) (fun _ => ?_)⟩⟩
  · have hb1 := B1 _ _ hb nb
    refine ⟨_, rfl, _, rfl, b, xs, rfl, .inl (SqL.of hb1), d, _, rfl, R1, by omega, dg (by omega), fun r2 H2 r20 r21 R2 B2 => ?_⟩
    have B02 := B1.trans B2
    have T02 := (But.tupsR B1 R).trans (But.tupsR B2 R1)
    have hp2 := B02 _ _ hp np
    have tA2 := tA.up T02
    obtain ⟨j, rfl⟩ : ∃ j : Nat, r2 = (j : Int) := ⟨r2.toNat, by omega⟩
    have jl : j < A.length := by rw [oA.len]; omega
    obtain ⟨q, hq, ey⟩ := tA2.get (List.getElem?_eq_getElem jl)
    obtain ⟨a3, an⟩ := oA.all _ (List.getElem_mem jl)
    generalize A[j] = a at hq a3 an
    refine ⟨_, rfl, _, rfl, p, ys, _, _, rfl, rfl, SqL.of hp2, atI_nat ey, q, _, rfl, .inr (SqT.of hq), fun l hl => ?_⟩
    have s3 := Same.nw (o := .lst (a.map V.int)) (Same.refl H2) hl
    have f3 : (upd H2 l (.lst (a.map V.int))) l = some (.lst (a.map V.int)) := upd_same
    generalize upd H2 l (.lst (a.map V.int)) = H3 at s3 f3 ⊢
    have R3 := R2.same s3
    have nl : l ≠ d := R2.ne hl
    have nlp : p ≠ l := fun z => by rw [← z, hp2] at hl; cases hl
    have nlb : b ≠ l := fun z => by rw [← z, B02 _ _ hb nb] at hl; cases hl
    refine ⟨_, rfl, d, 5, rfl, R3, by decide, dg (by decide), fun r3 H4 r30 r31 R4 B4 => ?_⟩
    refine ⟨_, rfl, _, rfl, d, 3, rfl, R4, by decide, dg (by decide), fun r4 H5 r40 r41 R5 B5 => ?_⟩
    have B35 := B4.trans B5
    have f5 := B35 _ _ f3 nl
    obtain ⟨m, rfl⟩ : ∃ m : Nat, r4 = (m : Int) := ⟨r4.toNat, by omega⟩
    refine ⟨l, _, _, m, rfl, rfl, f5, ixN_nat (by rw [List.length_map, a3]; omega), ?_⟩
    rw [show (a.map V.int).set m (.int r3) = (a.set m r3).map V.int by rw [List.map_set]]
    have T05 : Tups H H5 := (T02.trans s3.tups).trans ((But.tupsR B4 R3).trans (But.tupsR B5 R4))
    have hp5 := B35 _ _ (s3 _ _ hp2) np
    have hb5 := B35 _ _ (s3 _ _ (B02 _ _ hb nb)) nb
    have f6 : (upd H5 l (.lst ((a.set m r3).map V.int))) l = some (.lst ((a.set m r3).map V.int)) := upd_same
    have hp6 : (upd H5 l (.lst ((a.set m r3).map V.int))) p = some (.lst ys) := (upd_ne nlp).trans hp5
    have hb6 : (upd H5 l (.lst ((a.set m r3).map V.int))) b = some (.lst xs) := (upd_ne nlb).trans hb5
    have T06 : Tups H (upd H5 l (.lst ((a.set m r3).map V.int))) := T05.trans (Tups.lst (Tups.refl _) f5)
    generalize upd H5 l (.lst ((a.set m r3).map V.int)) = H6 at f6 hp6 hb6 T06 ⊢
    refine ⟨_, rfl, l, _, rfl, .inl ⟨SqL.of f6, fun t ht => ?_⟩⟩
    have s7 := Same.nw (o := .tup ((a.set m r3).map V.int)) (Same.refl H6) ht
    have f7 : (upd H6 t (.tup ((a.set m r3).map V.int))) t = some (.tup ((a.set m r3).map V.int)) := upd_same
    change gSub _ _ _ _ _ (upd H6 t (.tup ((a.set m r3).map V.int))) _
    generalize upd H6 t (.tup ((a.set m r3).map V.int)) = H7 at s7 f7 ⊢
    have hp7 := s7 _ _ hp6
    refine ⟨_, rfl, _, rfl, p, ys, _, j, rfl, rfl, hp7, ixN_nat (by omega), ?_⟩
    have t8 : Tups H7 (upd H7 p (.lst (ys.set j (.ref t)))) := Tups.lst (Tups.refl _) hp7
    have T08 := (T06.trans s7.tups).trans t8
    refine cnt52_reads (K := K) (S := S) (A := A.set j (a.set m r3)) ((upd_ne nbp).trans (s7 _ _ hb6)) (tS.up T08) oS upd_same (TuL.set (tA.up T08) (t8 _ _ f7) j) (ArOk.set oA (by rw [List.length_set, a3]) (fun x hx => ?_) j) k
    rcases List.mem_or_eq_of_mem_set hx with h' | h'
    · exact an x h'
    · rw [h']; exact r30
  · have T1 := But.tupsR B1 R
    exact cnt52_reads (K := K) (B1 _ _ hb nb) (tS.up T1) oS (B1 _ _ hp np) (tA.up T1) oA k
def tStep52 (K : PySem.W.Frag) : TS := (tSeq (tAsg (tCompG 1 (iTup K (tVar 6)) (gName 0) tYes (tOp (rIxL K) (tVar 5) (tOp (rI0 fun i j => V.int (i - j)) (tCB (fun xs H Q => ∃ i, xs = [V.int i] ∧ Q (V.int (if i < 0 then -i else i)) H) (tCons (tVar 0) tNil)) (tC (V.int 1))))) (gLst K 3 (gCons (gName 7) (gCons (gName 8) (gCons (gName 9) gNil))))) (tSeq (tDrop (tBM K "list" rAppend (tVar 3) (tCons (tTup (tCons (tOp (rI CDivL fun i j => V.int (i / j)) (tOp (rI0 fun i j => V.int (i - j)) (tOp (rI0 fun i j => V.int (i + j)) (tVar 7) (tVar 8)) (tVar 9)) (tC (V.int 2))) (tCons (tOp (rI CDivL fun i j => V.int (i / j)) (tOp (rI0 fun i j => V.int (i - j)) (tOp (rI0 fun i j => V.int (i + j)) (tVar 8) (tVar 9)) (tVar 7)) (tC (V.int 2))) (tCons (tOp (rI CDivL fun i j => V.int (i / j)) (tOp (rI0 fun i j => V.int (i - j)) (tOp (rI0 fun i j => V.int (i + j)) (tVar 9) (tVar 7)) (tVar 8)) (tC (V.int 2))) tNil)))) tNil))) (tIfS (tNot (tB (tVar 5))) (tAsg (tTup (tCons (tCall spDigit [] E0 (tCons (tVar 1) (tCons (tC (V.int 4)) tNil))) (tCons (tCall spDigit [] E0 (tCons (tVar 1) (tCons (tC (V.int 4)) tNil))) (tCons (tCall spDigit [] E0 (tCons (tVar 1) (tCons (tC (V.int 4)) tNil))) tNil)))) (gSub (tVar 3) (tUn (rU fun i => V.int (-i)) (tC (V.int 1))) rSetL)) tNext)))
def Kp (d p : Addr) (H H' : Hp) : Prop := ∀ c o, H c = some o → c ≠ d → c ≠ p → H' c = some o
theorem Kp.but {d p : Addr} {H H1 H2 : Hp} (a : Kp d p H H1) (b : But d H1 H2) : Kp d p H H2 := fun c o e n m => b c o (a c o e n m) n
theorem Kp.same {d p : Addr} {H H1 H2 : Hp} (a : Kp d p H H1) (b : Same H1 H2) : Kp d p H H2 := fun c o e n m => b c o (a c o e n m)
theorem Kp.set {d p : Addr} {H H1 : Hp} {o : HO} (a : Kp d p H H1) : Kp d p H (upd H1 p o) := fun c o' e n m => by rw [upd_ne m]; exact a c o' e n m
set_option maxHeartbeats 8000000 in
theorem step52_reads {K : PySem.W.Frag} {H : Hp} {D : Ends} {b p d c q : Addr} {ys : List V} {S A : List (List Int)} {t r : List Int} {ev5 : Bool} {x0 x7 x8 x9 x10 x11 x12 x13 x14 x15 x16 x17 : Option V} (oS : ShOk S) (mt : t ∈ S) (hq : H q = some (.tup (t.map V.int))) (hc : H c = some (.lst (r.map V.int))) (ev : EvRow S r) (hp : H p = some (.lst ys)) (tA : TuL H ys A) (yl : ys.length ≤ 100) (R : Rest H d) (np : p ≠ d)
    (k : ∀ (y7 y8 y9 : Option V) (u : List Int) (ys' : List V) (H' : Hp), u.length = 3 → (∀ x ∈ u, 0 ≤ x) → Rest H' d → Kp d p H H' → Tups H H' → H' p = some (.lst ys') → TuL H' ys' (A ++ [u]) → D.nx [x0, some (.ref d), some (.ref b), some (.ref p), some (.ref c), some (.bl ev5), some (.ref q), y7, y8, y9, x10, x11, x12, x13, x14, x15, x16, x17] H') :
    tStep52 K D [x0, some (.ref d), some (.ref b), some (.ref p), some (.ref c), some (.bl ev5), some (.ref q), x7, x8, x9, x10, x11, x12, x13, x14, x15, x16, x17] H := by
  have t3 := oS.three t mt
  refine ⟨_, rfl, q, rfl, ⟨_, SqT.of hq⟩, compT (K := K) (a := q) (xs := t.map V.int) (fun i zs H' => zs = ((t.take i).map (crs r)).map V.int ∧ H = H') ⟨rfl, rfl⟩ (by rw [List.length_map]; omega) (fun m zs H' h => by rw [h.1, List.length_map, List.length_map, List.length_take]; exact Nat.min_le_left _ _) (fun m zs H' _ h => by rw [← h.2]; exact SqT.of hq) ?_ ?_⟩
  · rintro n z ys' H' pre hpl hz ⟨rfl, rfl⟩
    rw [List.getElem?_map] at hz
    cases ez : t[n]? with
    | none => rw [ez] at hz; cases hz
    | some sd =>
      rw [ez] at hz
      cases hz
      have sb := oS.side mt (List.mem_of_getElem? ez)
      have er := crs_at oS ev.len mt (List.mem_of_getElem? ez)
      have a1 : atI (r.map V.int) (absI sd - 1) = some (V.int (crs r sd)) := by
        rw [show absI sd - 1 = (((absI sd - 1).toNat : Nat) : Int) by omega]
        exact atI_nat (by rw [List.getElem?_map, er]; rfl)
      rcases pre with _ | ⟨q0, _ | ⟨q1, pre⟩⟩
      · cases hpl
      · refine ⟨⟨[some _], rfl, rfl⟩, ?_⟩
        unfold tYes
        dsimp only
        rw [if_pos (rfl : true = true)]
        refine ⟨_, rfl, _, rfl, sd, rfl, _, _, rfl, rfl, c, _, _, _, rfl, rfl, SqL.of hc, a1, ?_, rfl⟩
        rw [take_succ' ez, List.map_append, List.map_append]
        rfl
      · cases hpl
  rintro ys' H' ⟨rfl, rfl⟩ L hL
  rw [List.length_map, List.take_length]
  obtain ⟨o1, o2, o3, rfl⟩ := three3 t3
  have nnu : (∀ x ∈ arc3 r [o1, o2, o3], 0 ≤ x) := by
    obtain ⟨_, h1, h2, h3⟩ := ev.tri o1 o2 o3 mt
    intro x hx
    simp [arc3] at hx
    rcases hx with rfl | rfl | rfl <;> omega
  have s3 := Same.nw (o := .lst (([o1, o2, o3].map (crs r)).map V.int)) (Same.refl H) hL
  have fL : (upd H L (.lst (([o1, o2, o3].map (crs r)).map V.int))) L = some (.lst [.int (crs r o1), .int (crs r o2), .int (crs r o3)]) := upd_same
  generalize upd H L (.lst (([o1, o2, o3].map (crs r)).map V.int)) = H3 at s3 fL ⊢
  refine ⟨L, _, rfl, SqL.of fL, rfl, _, _, rfl, _, _, rfl, _, _, rfl, rfl, ?_⟩
  have hp3 := s3 _ _ hp
  refine ⟨_, rfl, .inl ⟨rfl, _, SqL.of hp3⟩, _, rfl, _, rfl, _, _, rfl, rfl, _, rfl, _, _, rfl, rfl, _, 2, rfl, rfl, ⟨by decide, by decide⟩, _, rfl, _, rfl, _, _, rfl, rfl, _, rfl, _, _, rfl, rfl, _, 2, rfl, rfl, ⟨by decide, by decide⟩, _, rfl, _, rfl, _, _, rfl, rfl, _, rfl, _, _, rfl, rfl, _, 2, rfl, rfl, ⟨by decide, by decide⟩, (by show 3 ≤ sizeLine; decide), fun p2 hp2' => ?_⟩
  have s4 := Same.nw (o := .tup ((arc3 r [o1, o2, o3]).map V.int)) (Same.refl H3) hp2'
  have f4 : (upd H3 p2 (.tup ((arc3 r [o1, o2, o3]).map V.int))) p2 = some (.tup ((arc3 r [o1, o2, o3]).map V.int)) := upd_same
  dsimp only [tNil]
  change rAppend _ _ (upd H3 p2 (.tup ((arc3 r [o1, o2, o3]).map V.int))) _
  generalize upd H3 p2 (.tup ((arc3 r [o1, o2, o3]).map V.int)) = H4 at s4 f4 ⊢
  have hp4 := s4 _ _ hp3
  refine ⟨p, ys, .ref p2, rfl, rfl, hp4, Nat.lt_of_le_of_lt (show _ ≤ 1000 by omega) (by decide), ?_⟩
  have s04 := s3.trans s4
  have t5 : Tups H4 (upd H4 p (.lst (ys ++ [.ref p2]))) := Tups.lst (Tups.refl _) hp4
  have T5 := s04.tups.trans t5
  have tu5 : TuL (upd H4 p (.lst (ys ++ [.ref p2]))) (ys ++ [.ref p2]) (A ++ [arc3 r [o1, o2, o3]]) := TuL.up (TuL.snoc (tA.up s04.tups) f4) t5
  have hp5 : (upd H4 p (.lst (ys ++ [.ref p2]))) p = some (.lst (ys ++ [.ref p2])) := upd_same
  have K5 : Kp d p H (upd H4 p (.lst (ys ++ [.ref p2]))) := Kp.set fun c' o e _ _ => s04 _ _ e
  have R5 : Rest (upd H4 p (.lst (ys ++ [.ref p2]))) d := Rest.set (R.same s04) np
  generalize upd H4 p (.lst (ys ++ [.ref p2])) = H5 at T5 tu5 hp5 K5 R5 ⊢
  refine ⟨_, rfl, _, rfl, ite2 (fun _ => ?_) (fun _ => k _ _ _ _ _ H5 rfl nnu R5 K5 T5 hp5 tu5)⟩
  refine ⟨_, rfl, d, 4, rfl, R5, by decide, dg (by decide), fun r1 H6 r10 r11 R6 B6 => ?_⟩
  refine ⟨_, rfl, d, 4, rfl, R6, by decide, dg (by decide), fun r2 H7 r20 r21 R7 B7 => ?_⟩
  refine ⟨_, rfl, d, 4, rfl, R7, by decide, dg (by decide), fun r3 H8 r30 r31 R8 B8 => ?_⟩
  refine ⟨(by show 3 ≤ sizeLine; decide), fun p3 hp3' => ?_⟩
  have B58 := (B6.trans B7).trans B8
  have T58 : Tups H5 H8 := ((But.tupsR B6 R5).trans (But.tupsR B7 R6)).trans (But.tupsR B8 R7)
  have hp8 := B58 _ _ hp5 np
  have s9 := Same.nw (o := .tup ([r1, r2, r3].map V.int)) (Same.refl H8) hp3'
  have f9 : (upd H8 p3 (.tup ([r1, r2, r3].map V.int))) p3 = some (.tup ([r1, r2, r3].map V.int)) := upd_same
  change gSub _ _ _ _ _ (upd H8 p3 (.tup ([r1, r2, r3].map V.int))) _
  generalize upd H8 p3 (.tup ([r1, r2, r3].map V.int)) = H9 at s9 f9 ⊢
  have hp9 := s9 _ _ hp8
  have ix : ixN (ys ++ [V.ref p2]).length (-1) = some ys.length := by
    unfold ixN
    rw [if_neg (by decide), List.length_append, List.length_singleton, if_pos (by omega)]
    congr 1
    omega
  refine ⟨_, rfl, 1, rfl, p, _, _, ys.length, rfl, rfl, hp9, ix, ?_⟩
  have tA' : Tups H9 (upd H9 p (.lst ((ys ++ [V.ref p2]).set ys.length (V.ref p3)))) := Tups.lst (Tups.refl _) hp9
  have T5A := (T58.trans s9.tups).trans tA'
  have e1 : (A ++ [arc3 r [o1, o2, o3]]).set ys.length [r1, r2, r3] = A ++ [[r1, r2, r3]] := by
    rw [tA.1, List.set_append_right _ _ (Nat.le_refl _), Nat.sub_self]
    rfl
  have tu := TuL.set (tu5.up T5A) (tA' _ _ f9) ys.length
  rw [e1] at tu
  refine k _ _ _ [r1, r2, r3] _ _ rfl (fun x hx => ?_) (Rest.set (R8.same s9) np) (Kp.set ((K5.but B58).same s9)) (T5.trans T5A) upd_same tu
  simp only [List.mem_cons, List.not_mem_nil, or_false] at hx
  rcases hx with rfl | rfl | rfl <;> assumption
def tLaw52 (K : PySem.W.Frag) : TS := tSeq (tAsg (tLst (tCons (tCall (spBig K) [] E0 (tCons (tVar 0) (tCons (tC (V.int 0)) tNil))) tNil)) (gName 1)) (tSeq (tAsg (tCall spSheet [] E0 (tCons (tVar 1) tNil)) (gName 2)) (tSeq (tAsg (tLst tNil) (gName 3)) (tSeq (tAsg (tCall spRings [] E0 (tCons (tVar 2) (tCons (tVar 1) (tCons (tC (V.int 3)) tNil)))) (gName 4)) (tSeq (tAsg (tOp rEq (tCall spDigit [] E0 (tCons (tVar 1) (tCons (tC (V.int 2)) tNil))) (tC (V.int 1))) (gName 5)) (tSeq (tFor (iList K (tVar 2)) (gName 6) (tStep52 K)) (tBent52 K))))))
set_option maxHeartbeats 4000000 in
theorem law_reads {K : PySem.W.Frag} {H : Hp} {Q : VK} {Z : L2.St → Hp → Prop} {a : Addr} {ns : List Int} (hS : SqL K H a (ns.map V.int)) (k : ∀ H', Q (.bl true) H') :
    tLaw52 K { nx := Z, rt := Q } [some (.ref a), none, none, none, none, none, none, none, none, none, none, none, none, none, none, none, none, none] H := by
  refine ⟨_, rfl, a, ns, 0, rfl, hS, by decide, fun n H1 S1 => ⟨(by show 1 ≤ sizeLine; decide), fun d hd => ?_⟩⟩
  have R2 : Rest (upd H1 d (.lst [.int n])) d := ⟨n, upd_same⟩
  generalize upd H1 d (.lst [.int n]) = H2 at R2 ⊢
  refine ⟨_, rfl, d, rfl, R2, fun b xs S H3 bf hb tS oS R3 B3 => ?_⟩
  have nbd : b ≠ d := fun z => by
    obtain ⟨m, e⟩ := R2
    rw [z, e] at bf
    cases bf
  have lS := oS.len
  have lx : xs.length = S.length := tS.1
  refine ⟨(by show 0 ≤ sizeLine; decide), fun p hp => ?_⟩
  have npd : p ≠ d := R3.ne hp
  have nbp : b ≠ p := fun z => by rw [← z, hb] at hp; cases hp
  have s4 := Same.nw (o := .lst []) (Same.refl H3) hp
  have f4 : (upd H3 p (.lst [])) p = some (.lst []) := upd_same
  change tSeq _ _ _ _ (upd H3 p (.lst []))
  generalize upd H3 p (.lst []) = H4 at s4 f4 ⊢
  have R4 := R3.same s4
  have hb4 := s4 _ _ hb
  have tS4 := tS.up s4.tups
  refine ⟨_, rfl, _, rfl, b, d, 3, xs, S, rfl, hb4, tS4, oS, R4, nbd, by decide, dg (by decide), fun c r H5 B5 R5 cf hc ev => ?_⟩
  have ncd : c ≠ d := fun z => by obtain ⟨n, e⟩ := R4; rw [z, e] at cf; cases cf
  have ncp : c ≠ p := fun z => by rw [z, f4] at cf; cases cf
  refine ⟨_, rfl, d, 2, rfl, R5, by decide, dg (by decide), fun r1 H6 r10 r11 R6 B6 => ?_⟩
  have B46 := B5.trans B6
  have T46 := (But.tupsR B5 R4).trans (But.tupsR B6 R5)
  have hb6 := B46 _ _ hb4 nbd
  have tS6 := tS4.up T46
  have hp6 := B46 _ _ f4 npd
  have hc6 := B6 _ _ hc ncd
  refine ⟨rfl, ?_⟩
  refine ⟨_, rfl, b, rfl, ⟨_, SqL.of hb6⟩, for_list (K := K) (D := { nx := tBent52 K { nx := Z, rt := Q }, rt := Q }) (a := b) (xs := xs) (fun i σ H' => ∃ (x6 x7 x8 x9 : Option V) (ys : List V) (A : List (List Int)), σ = [some (.ref a), some (.ref d), some (.ref b), some (.ref p), some (.ref c), some (.bl (decide (V.int r1 = V.int 1))), x6, x7, x8, x9, none, none, none, none, none, none, none, none] ∧ Rest H' d ∧ Kp d p H6 H' ∧ Tups H6 H' ∧ H' p = some (.lst ys) ∧ TuL H' ys A ∧ A.length = i ∧ ∀ u ∈ A, u.length = 3 ∧ ∀ x ∈ u, 0 ≤ x) ⟨_, _, _, _, [], [], rfl, R6, fun _ _ e _ _ => e, Tups.refl _, hp6, TuL.nil _, rfl, fun u hu => by cases hu⟩ (fun i σ H' _ h => by obtain ⟨_, _, _, _, _, _, _, _, kp, _⟩ := h; exact SqL.of (kp _ _ hb6 nbd nbp)) ?_ ?_⟩
  · rintro i y σ H7 hy ⟨x6, x7, x8, x9, ys, A, rfl, R7, K7, T7, hp7, tA7, lA, oA⟩
    obtain ⟨t, q, et, rfl, hq⟩ := (tS6.up T7).take hy
    have il : i < S.length := (List.getElem?_eq_some_iff.mp et).1
    exact step52_reads (K := K) (S := S) (A := A) oS (List.mem_of_getElem? et) hq (K7 _ _ hc6 ncd ncp) ev hp7 tA7 (by rw [tA7.1]; omega) R7 npd fun y7 y8 y9 u ys' H8 u3 un R8 K8 T8 hp8 tA8 => ⟨_, _, _, _, ys', A ++ [u], rfl, R8, fun c' o e n m => K8 _ _ (K7 _ _ e n m) n m, T7.trans T8, hp8, tA8, by rw [List.length_append, lA]; rfl, fun v hv => by
      rcases List.mem_append.mp hv with h' | h'
      · exact oA v h'
      · rw [List.mem_singleton] at h'
        rw [h']; exact ⟨u3, un⟩⟩
  · rintro σ H7 ⟨x6, x7, x8, x9, ys, A, rfl, R7, K7, T7, hp7, tA7, lA, oA⟩
    exact bent52_reads (K := K) (K7 _ _ hb6 nbd nbp) (tS6.up T7) oS hp7 tA7 ⟨by rw [lA, lx], oA⟩ R7 nbd npd nbp k
end Toy
set_option Elab.async false
set_option linter.all false
set_option maxRecDepth 100000
set_option maxHeartbeats 1000000
namespace Toy
open PySem L2 PyProof.Rows
section
variable {P : Program} {w : World} {K : PySem.W.Frag} {mg : Str → Option Value} {base : Heap}
def spLaw (K : PySem.W.Frag) : Sp := fun vs H Q _ => ∃ (a : Addr) (ns : List Int), vs = [.ref a] ∧ SqL K H a (ns.map V.int) ∧ ns.length ≤ 63 ∧ ∀ H', Q (.bl true) H'
abbrev s_law : Stmt := top 29
theorem sc_law : FnScope ["_law_script", "_law_rest", "_law_sheet_here", "_law_some", "_law_row", "_law_even", "_law_triangle", "_law_one", "_law_two", "_law_three", "_law_at", "_law_bent", "_law_counts", "_law_i", "_law_due", "_law_handed", "_law_turn", "_law_told_here"] ["_law_script"] (defScope s_law) := ⟨rfl, rfl, rfl, by decide +kernel, rfl, by decide +kernel, by decide +kernel⟩
set_option maxHeartbeats 8000000 in
theorem ok_law {f : Addr} {fd : FuncData} (F : Fun K "law" "law" s_law f fd) (M : Txt mg) (G_law_big : Kn P w K mg base "_law_big" 2 ["_law_script", "_law_at"] (spBig K)) (G_law_sheet : Kn P w K mg base "_law_sheet" 2 ["_law_rest"] spSheet) (G_law_wide_row : Kn P w K mg base "_law_wide_row" 3 ["_law_sheet_here", "_law_rest", "_law_most"] spRings) (G_law_digit : Kn P w K mg base "_law_digit" 1 ["_law_rest", "_law_many"] spDigit) (G_law_told : Kn P w K mg base "_law_told" 6 ["_law_sheet_here", "_law_some"] spToldR) (B : Gb mg) : FnOk P w K mg base CX0 7 f fd ["_law_script"] (spLaw K) := by
  have sc := sc_law
  refine F.ok sc (fun vs H Q E h => ?_) (fun cdv A outer s H vs Q E hr h => ?_)
  · obtain ⟨a, ns, rfl, _⟩ := h
    rfl
  · obtain ⟨a, ns, rfl, hS, hl, k⟩ := h
    refine ⟨_, (pss_cons (ps_set (i := 1) sc.nd rfl (Or.inl rfl) (pe_lst (pa_Call (pe_callD G_law_big hr rfl (pa_Name (pv 0) (pa_Constant pe_int pa_nil))) pa_nil)))
      (pss_cons (ps_set (i := 2) sc.nd rfl (Or.inl rfl) (pe_callD G_law_sheet hr rfl (pa_Name (pv 1) pa_nil)))
      (pss_cons (ps_set (i := 3) sc.nd rfl (Or.inl rfl) (pe_lst pa_nil))
      (pss_cons (ps_set (i := 4) sc.nd rfl (Or.inr rfl) (pe_callD G_law_wide_row hr rfl (pa_Name (pv 2) (pa_Name (pv 1) (pa_Constant pe_int pa_nil)))))
      (pss_cons (ps_set (i := 5) sc.nd rfl (Or.inl rfl) (pe_cmpR op_eq (pe_callD G_law_digit hr rfl (pa_Name (pv 1) (pa_Constant pe_int pa_nil))) pe_int (nomark _)))
      (pss_cons (ps_for PassesOwn.never rfl (pi_list (pv 2)) (pg_name (i := 6) sc.nd rfl (Or.inl rfl))
      (pss_cons (ps_asg (pe_compG (xs := ["_law_side"]) (Nb := ["_law_script", "_law_rest", "_law_sheet_here", "_law_some", "_law_row", "_law_even", "_law_triangle", "_law_one", "_law_two", "_law_three", "_law_at", "_law_bent", "_law_counts", "_law_i", "_law_due", "_law_handed", "_law_turn", "_law_told_here"]) rfl (pi_tup (pv 6)) rfl (by show ∀ p ∈ (List.zip ["_law_script", "_law_rest", "_law_sheet_here", "_law_some", "_law_row", "_law_even", "_law_triangle", "_law_one", "_law_two", "_law_three", "_law_at", "_law_bent", "_law_counts", "_law_i", "_law_due", "_law_handed", "_law_turn", "_law_told_here"] ["_law_script", "_law_rest", "_law_sheet_here", "_law_some", "_law_row", "_law_even", "_law_triangle", "_law_one", "_law_two", "_law_three", "_law_at", "_law_bent", "_law_counts", "_law_i", "_law_due", "_law_handed", "_law_turn", "_law_told_here"] : List (Str × Str)), _; decide +kernel) (by decide +kernel) (fun cl C s₂ H₂ fp => (pg_name (i := 0) (by show List.Nodup (["_law_side", "_law_script", "_law_rest", "_law_sheet_here", "_law_some", "_law_row", "_law_even", "_law_triangle", "_law_one", "_law_two", "_law_three", "_law_at", "_law_bent", "_law_counts", "_law_i", "_law_due", "_law_handed", "_law_turn", "_law_told_here"] : List Str); decide +kernel) rfl (Or.inl (lookup_relabel_local rfl)) (Or.inr (lookup_relabel_local rfl)))) (fun cl C s₂ H₂ fp => pif_nil) (fun cl C s₂ H₂ fp => (pe_ix (ix_listK (K := K)) (pv 5) (pe_op op_sub (pe_callB call_abs (by rfl) B.ab boot_abs (pa_Name (pv 0) pa_nil)) pe_int) (fun _ _ => rfl))) (by decide +kernel) rfl (by decide +kernel) (by show ∀ y ∈ (_ : List (Str × NameKind)), y.2 = NameKind.free → (defScope s_law).names.lookup y.1 = some .cell; decide +kernel)) (pg_lst rfl (pgs_cons (pg_name (i := 7) sc.nd rfl (Or.inl rfl)) (pgs_cons (pg_name (i := 8) sc.nd rfl (Or.inl rfl)) (pgs_cons (pg_name (i := 9) sc.nd rfl (Or.inl rfl)) pgs_nil)))))
      (pss_cons (ps_expr (pe_bm PySem.F.plainAttrs_list PySem.F.slot_list_append PySem.F.type_list_append mt_append (pv 3) (pa_Tuple (pe_tup (pa_o3 (pe_op op_fdivL (pe_op op_sub (pe_op op_add (pv 7) (pv 8)) (pv 9)) pe_int) (pe_op op_fdivL (pe_op op_sub (pe_op op_add (pv 8) (pv 9)) (pv 7)) pe_int) (pe_op op_fdivL (pe_op op_sub (pe_op op_add (pv 9) (pv 7)) (pv 8)) pe_int) pa_nil)) pa_nil)))
      (pss_one (ps_if (pt_not (pt_val (pv 5))) (pss_one (ps_asg (pe_tup (pa_o3 (pe_callD G_law_digit hr rfl (pa_Name (pv 1) (pa_Constant pe_int pa_nil))) (pe_callD G_law_digit hr rfl (pa_Name (pv 1) (pa_Constant pe_int pa_nil))) (pe_callD G_law_digit hr rfl (pa_Name (pv 1) (pa_Constant pe_int pa_nil))) pa_nil)) (pg_sub (pv 3) (pe_un un_neg pe_int) set_list))) pss_nil)))))
      (pss_cons (ps_if (pt_cmpR op_eq (pe_callD G_law_digit hr rfl (pa_Name (pv 1) (pa_Constant pe_int pa_nil))) pe_int (nomark _)) (pss_cons (ps_set (i := 10) sc.nd rfl (Or.inl rfl) (pe_callD G_law_digit hr rfl (pa_Name (pv 1) (pa_Call (pe_callB (call_lenK (K := K)) (by rfl) M.len PySem.boot_len (pa_Name (pv 2) pa_nil)) pa_nil))))
      (pss_cons (ps_set (i := 11) sc.nd rfl (Or.inl rfl) (pe_callTy call_list_of (by rfl) M.list boot_list (pa_Subscript (pe_ix (ix_listK (K := K)) (pv 3) (pv 10) (fun _ _ => rfl)) pa_nil)))
      (pss_cons (ps_asg (pe_callD G_law_digit hr rfl (pa_Name (pv 1) (pa_Constant pe_int pa_nil))) (pg_sub (pv 11) (pe_callD G_law_digit hr rfl (pa_Name (pv 1) (pa_Constant pe_int pa_nil))) set_list))
      (pss_one (ps_asg (pe_callTy call_tuple_of (by rfl) M.tuple boot_tuple (pa_Name (pv 11) pa_nil)) (pg_sub (pv 3) (pv 10) set_list)))))) pss_nil)
      (pss_cons (ps_set (i := 12) sc.nd rfl (Or.inr rfl) pe_dnewK)
      (pss_cons (ps_for PassesOwn.never rfl (pi_zip rfl B.zp (pa_Name (pv 2) (pa_Name (pv 3) pa_nil))) (pg_tup rfl (pgs_cons (pg_name (i := 6) sc.nd rfl (Or.inl rfl)) (pgs_cons (pg_name (i := 9) sc.nd rfl (Or.inl rfl)) pgs_nil)))
      (pss_one (ps_for PassesOwn.never rfl (pi_range1 rfl M.range (pa_Constant pe_int pa_nil)) (pg_name (i := 13) sc.nd rfl (Or.inl rfl))
      (pss_one (ps_expr (pe_bm PySem.F.plainAttrs_list PySem.F.slot_list_append PySem.F.type_list_append mt_append (pe_bm PySem.F.plainAttrs_dict PySem.F.slot_dict_setdefault PySem.F.type_dict_setdefault mt_setdef (pv 12) (pa_Call (pe_callB call_abs (by rfl) B.ab boot_abs (pa_Subscript (pe_ix (ix_tupK (K := K)) (pv 6) (pv 13) (fun _ _ => rfl)) pa_nil)) (pa_List (pe_lst pa_nil) pa_nil))) (pa_BinOp (pe_op op_add (pe_ix (ix_tupK (K := K)) (pv 9) (pv 13) (fun _ _ => rfl)) (pe_ix (ix_tupK (K := K)) (pv 9) (pe_op op_sub (pv 13) pe_int) (fun _ _ => rfl))) pa_nil)))))))
      (pss_cons (ps_compG (xs := ["_law_tie"]) (Nb := ["_law_script", "_law_rest", "_law_sheet_here", "_law_some", "_law_row", "_law_even", "_law_triangle", "_law_one", "_law_two", "_law_three", "_law_at", "_law_bent", "_law_counts", "_law_i", "_law_due", "_law_handed", "_law_turn", "_law_told_here"]) (pg_name (i := 14) sc.nd rfl (Or.inl rfl)) rfl rfl (pi_range2 rfl M.range (pa_Constant pe_int (pa_BinOp (pe_op op_add (pe_op op_fdivL (pe_op op_mul (pe_callB (call_lenK (K := K)) (by rfl) M.len PySem.boot_len (pa_Name (pv 2) pa_nil)) pe_int) pe_int) pe_int) pa_nil))) rfl (by show ∀ p ∈ (List.zip ["_law_script", "_law_rest", "_law_sheet_here", "_law_some", "_law_row", "_law_even", "_law_triangle", "_law_one", "_law_two", "_law_three", "_law_at", "_law_bent", "_law_counts", "_law_i", "_law_due", "_law_handed", "_law_turn", "_law_told_here"] ["_law_script", "_law_rest", "_law_sheet_here", "_law_some", "_law_row", "_law_even", "_law_triangle", "_law_one", "_law_two", "_law_three", "_law_at", "_law_bent", "_law_counts", "_law_i", "_law_due", "_law_handed", "_law_turn", "_law_told_here"] : List (Str × Str)), _; decide +kernel) (by decide +kernel) (fun cl C s₂ H₂ fp => (pg_name (i := 0) (by show List.Nodup (["_law_tie", "_law_script", "_law_rest", "_law_sheet_here", "_law_some", "_law_row", "_law_even", "_law_triangle", "_law_one", "_law_two", "_law_three", "_law_at", "_law_bent", "_law_counts", "_law_i", "_law_due", "_law_handed", "_law_turn", "_law_told_here"] : List Str); decide +kernel) rfl (Or.inl (lookup_relabel_local rfl)) (Or.inr (lookup_relabel_local rfl)))) (fun cl C s₂ H₂ fp => pif_nil) (fun cl C s₂ H₂ fp => (pe_ix (ix_listK (K := K)) (pe_dget (hu_of hr) (pv 13) (pv 0) (fun _ _ => rfl)) pe_int (fun _ _ => rfl))) (by decide +kernel) rfl (by decide +kernel) (by show ∀ y ∈ (_ : List (Str × NameKind)), y.2 = NameKind.free → (defScope s_law).names.lookup y.1 = some .cell; decide +kernel))
      (pss_cons (ps_if (pt_cmpR (op_neD hr) (pe_compG (xs := ["_law_tie"]) (Nb := ["_law_script", "_law_rest", "_law_sheet_here", "_law_some", "_law_row", "_law_even", "_law_triangle", "_law_one", "_law_two", "_law_three", "_law_at", "_law_bent", "_law_counts", "_law_i", "_law_due", "_law_handed", "_law_turn", "_law_told_here"]) rfl (pi_dict (pv 12)) rfl (by show ∀ p ∈ (List.zip ["_law_script", "_law_rest", "_law_sheet_here", "_law_some", "_law_row", "_law_even", "_law_triangle", "_law_one", "_law_two", "_law_three", "_law_at", "_law_bent", "_law_counts", "_law_i", "_law_due", "_law_handed", "_law_turn", "_law_told_here"] ["_law_script", "_law_rest", "_law_sheet_here", "_law_some", "_law_row", "_law_even", "_law_triangle", "_law_one", "_law_two", "_law_three", "_law_at", "_law_bent", "_law_counts", "_law_i", "_law_due", "_law_handed", "_law_turn", "_law_told_here"] : List (Str × Str)), _; decide +kernel) (by decide +kernel) (fun cl C s₂ H₂ fp => (pg_name (i := 0) (by show List.Nodup (["_law_tie", "_law_script", "_law_rest", "_law_sheet_here", "_law_some", "_law_row", "_law_even", "_law_triangle", "_law_one", "_law_two", "_law_three", "_law_at", "_law_bent", "_law_counts", "_law_i", "_law_due", "_law_handed", "_law_turn", "_law_told_here"] : List Str); decide +kernel) rfl (Or.inl (lookup_relabel_local rfl)) (Or.inr (lookup_relabel_local rfl)))) (fun cl C s₂ H₂ fp => (pif_one (pt_cmpR op_ne (pe_ix (ix_listK (K := K)) (pe_dget (hu_of hr) (pv 13) (pv 0) (fun _ _ => rfl)) pe_int (fun _ _ => rfl)) (pe_ix (ix_listK (K := K)) (pe_dget (hu_of hr) (pv 13) (pv 0) (fun _ _ => rfl)) pe_int (fun _ _ => rfl)) (nomark _)))) (fun cl C s₂ H₂ fp => (pv 0)) (by decide +kernel) rfl (by decide +kernel) (by show ∀ y ∈ (_ : List (Str × NameKind)), y.2 = NameKind.free → (defScope s_law).names.lookup y.1 = some .cell; decide +kernel)) (pe_lst pa_nil) (nomark _)) (pss_one (ps_set (i := 14) sc.nd rfl (Or.inl rfl) pe_str)) pss_nil)
      (pss_cons (ps_set (i := 15) sc.nd rfl (Or.inl rfl) (pe_lst (pa_o2 (pe_callTy call_list_of (by rfl) M.list boot_list (pa_Name (pv 2) pa_nil)) (pe_callTy call_list_of (by rfl) M.list boot_list (pa_Name (pv 3) pa_nil)) pa_nil)))
      (pss_cons (ps_for PassesOwn.never rfl (pi_range1 rfl M.range (pa_Constant pe_int pa_nil)) (pg_name (i := 16) sc.nd rfl (Or.inl rfl))
      (pss_cons (ps_set (i := 17) sc.nd rfl (Or.inl rfl) (pe_callD G_law_told hr rfl (pa_Subscript (pe_ix (ix_listK (K := K)) (pv 15) pe_int (fun _ _ => rfl)) (pa_Subscript (pe_ix (ix_listK (K := K)) (pv 15) pe_int (fun _ _ => rfl)) pa_nil))))
      (pss_one (ps_if (PW.pt (pw_or (pt_cmpR (op_neD hr) (pv 17) (pv 14) (nomark _)) (pw_or1 (pt_cmpR (op_neD hr) (pv 15) (pe_lst (pa_o2 (pv 2) (pv 3) pa_nil)) (nomark _))))) (pss_one (ps_ret pe_bl)) pss_nil))))
      (pss_one (ps_ret pe_bl))))))))))))))), ?_⟩
    exact law_reads hS k
end
theorem all_mk {l : PySem.W.OpenLaw} {w : World} {K : PySem.W.Frag} {h : Heap} {mg : Str → Option Value} {fa f0 f1 f2 f3 f4 f5 f6 f7 f8 f9 f10 f11 f12 f13 f14 : Addr} {c_CordError c_NoRow c_NoCord c_NoTurn c_NoSheet : Addr} (X : K.In h) (G : h.Ns mainGlobals mg) (hfa : mg "law" = some (.ref fa))
    {od0 an0 od1 an1 od2 an2 od3 an3 od4 an4 od5 an5 od6 an6 od7 an7 od8 an8 od9 an9 od10 an10 od11 an11 od12 an12 od13 an13 od14 an14 : Option Addr} {sl0 sl1 sl2 sl3 sl4 sl5 sl6 sl7 sl8 sl9 sl10 sl11 sl12 sl13 sl14 : Array (Option Value)} {oc0 kV0 dc0 pm0 cd0 ct0 oc1 kV1 dc1 pm1 cd1 ct1 oc2 kV2 dc2 pm2 cd2 ct2 oc3 kV3 dc3 pm3 cd3 ct3 oc4 kV4 dc4 pm4 cd4 ct4 oc5 kV5 dc5 pm5 cd5 ct5 oc6 kV6 dc6 pm6 cd6 ct6 oc7 kV7 dc7 pm7 cd7 ct7 oc8 kV8 dc8 pm8 cd8 ct8 oc9 kV9 dc9 pm9 cd9 ct9 oc10 kV10 dc10 pm10 cd10 ct10 oc11 kV11 dc11 pm11 cd11 ct11 oc12 kV12 dc12 pm12 cd12 ct12 oc13 kV13 dc13 pm13 cd13 ct13 oc14 kV14 dc14 pm14 cd14 ct14 : Value}
    (a0 : PySem.W.nsIn K mainGlobals "is_whole" = some (some (.ref f0))) (l0 : K.lookup f0 = some ⟨oc0, od0, .func (PySem.W.fnOf "is_whole" "is_whole" (defArgs s_is_whole) (defBody s_is_whole) (defScope s_is_whole) .none kV0 dc0 pm0 an0 cd0 ct0), sl0⟩) (c0 : PySem.W.codeIn K cd0 "is_whole" = true) (k0 : PySem.W.keepIn K (.ref f0) = true)
    (a1 : PySem.W.nsIn K mainGlobals "is_whole_from" = some (some (.ref f1))) (l1 : K.lookup f1 = some ⟨oc1, od1, .func (PySem.W.fnOf "is_whole_from" "is_whole_from" (defArgs s_is_whole_from) (defBody s_is_whole_from) (defScope s_is_whole_from) .none kV1 dc1 pm1 an1 cd1 ct1), sl1⟩) (c1 : PySem.W.codeIn K cd1 "is_whole_from" = true) (k1 : PySem.W.keepIn K (.ref f1) = true)
    (a2 : PySem.W.nsIn K mainGlobals "many_ties" = some (some (.ref f2))) (l2 : K.lookup f2 = some ⟨oc2, od2, .func (PySem.W.fnOf "many_ties" "many_ties" (defArgs s_many_ties) (defBody s_many_ties) (defScope s_many_ties) .none kV2 dc2 pm2 an2 cd2 ct2), sl2⟩) (c2 : PySem.W.codeIn K cd2 "many_ties" = true) (k2 : PySem.W.keepIn K (.ref f2) = true)
    (a3 : PySem.W.nsIn K mainGlobals "glued_sides" = some (some (.ref f3))) (l3 : K.lookup f3 = some ⟨oc3, od3, .func (PySem.W.fnOf "glued_sides" "glued_sides" (defArgs s_glued_sides) (defBody s_glued_sides) (defScope s_glued_sides) .none kV3 dc3 pm3 an3 cd3 ct3), sl3⟩) (c3 : PySem.W.codeIn K cd3 "glued_sides" = true) (k3 : PySem.W.keepIn K (.ref f3) = true)
    (a4 : PySem.W.nsIn K mainGlobals "are_three" = some (some (.ref f4))) (l4 : K.lookup f4 = some ⟨oc4, od4, .func (PySem.W.fnOf "are_three" "are_three" (defArgs s_are_three) (defBody s_are_three) (defScope s_are_three) .none kV4 dc4 pm4 an4 cd4 ct4), sl4⟩) (c4 : PySem.W.codeIn K cd4 "are_three" = true) (k4 : PySem.W.keepIn K (.ref f4) = true)
    (a5 : PySem.W.nsIn K mainGlobals "are_arcs" = some (some (.ref f5))) (l5 : K.lookup f5 = some ⟨oc5, od5, .func (PySem.W.fnOf "are_arcs" "are_arcs" (defArgs s_are_arcs) (defBody s_are_arcs) (defScope s_are_arcs) .none kV5 dc5 pm5 an5 cd5 ct5), sl5⟩) (c5 : PySem.W.codeIn K cd5 "are_arcs" = true) (k5 : PySem.W.keepIn K (.ref f5) = true)
    (a6 : PySem.W.nsIn K mainGlobals "row_of" = some (some (.ref f6))) (l6 : K.lookup f6 = some ⟨oc6, od6, .func (PySem.W.fnOf "row_of" "row_of" (defArgs s_row_of) (defBody s_row_of) (defScope s_row_of) .none kV6 dc6 pm6 an6 cd6 ct6), sl6⟩) (c6 : PySem.W.codeIn K cd6 "row_of" = true) (k6 : PySem.W.keepIn K (.ref f6) = true)
    (a7 : PySem.W.nsIn K mainGlobals "_law_cell_at" = some (some (.ref f7))) (l7 : K.lookup f7 = some ⟨oc7, od7, .func (PySem.W.fnOf "_law_cell_at" "_law_cell_at" (defArgs s__law_cell_at) (defBody s__law_cell_at) (defScope s__law_cell_at) .none kV7 dc7 pm7 an7 cd7 ct7), sl7⟩) (c7 : PySem.W.codeIn K cd7 "_law_cell_at" = true) (k7 : PySem.W.keepIn K (.ref f7) = true)
    (a8 : PySem.W.nsIn K mainGlobals "_law_big" = some (some (.ref f8))) (l8 : K.lookup f8 = some ⟨oc8, od8, .func (PySem.W.fnOf "_law_big" "_law_big" (defArgs s__law_big) (defBody s__law_big) (defScope s__law_big) .none kV8 dc8 pm8 an8 cd8 ct8), sl8⟩) (c8 : PySem.W.codeIn K cd8 "_law_big" = true) (k8 : PySem.W.keepIn K (.ref f8) = true)
    (a9 : PySem.W.nsIn K mainGlobals "_law_digit" = some (some (.ref f9))) (l9 : K.lookup f9 = some ⟨oc9, od9, .func (PySem.W.fnOf "_law_digit" "_law_digit" (defArgs s__law_digit) (defBody s__law_digit) (defScope s__law_digit) .none kV9 dc9 pm9 an9 cd9 ct9), sl9⟩) (c9 : PySem.W.codeIn K cd9 "_law_digit" = true) (k9 : PySem.W.keepIn K (.ref f9) = true)
    (a10 : PySem.W.nsIn K mainGlobals "_law_sheet" = some (some (.ref f10))) (l10 : K.lookup f10 = some ⟨oc10, od10, .func (PySem.W.fnOf "_law_sheet" "_law_sheet" (defArgs s__law_sheet) (defBody s__law_sheet) (defScope s__law_sheet) .none kV10 dc10 pm10 an10 cd10 ct10), sl10⟩) (c10 : PySem.W.codeIn K cd10 "_law_sheet" = true) (k10 : PySem.W.keepIn K (.ref f10) = true)
    (a11 : PySem.W.nsIn K mainGlobals "_law_even_ones" = some (some (.ref f11))) (l11 : K.lookup f11 = some ⟨oc11, od11, .func (PySem.W.fnOf "_law_even_ones" "_law_even_ones" (defArgs s__law_even_ones) (defBody s__law_even_ones) (defScope s__law_even_ones) .none kV11 dc11 pm11 an11 cd11 ct11), sl11⟩) (c11 : PySem.W.codeIn K cd11 "_law_even_ones" = true) (k11 : PySem.W.keepIn K (.ref f11) = true)
    (a12 : PySem.W.nsIn K mainGlobals "_law_wide_row" = some (some (.ref f12))) (l12 : K.lookup f12 = some ⟨oc12, od12, .func (PySem.W.fnOf "_law_wide_row" "_law_wide_row" (defArgs s__law_wide_row) (defBody s__law_wide_row) (defScope s__law_wide_row) .none kV12 dc12 pm12 an12 cd12 ct12), sl12⟩) (c12 : PySem.W.codeIn K cd12 "_law_wide_row" = true) (k12 : PySem.W.keepIn K (.ref f12) = true)
    (a13 : PySem.W.nsIn K mainGlobals "_law_told" = some (some (.ref f13))) (l13 : K.lookup f13 = some ⟨oc13, od13, .func (PySem.W.fnOf "_law_told" "_law_told" (defArgs s__law_told) (defBody s__law_told) (defScope s__law_told) .none kV13 dc13 pm13 an13 cd13 ct13), sl13⟩) (c13 : PySem.W.codeIn K cd13 "_law_told" = true) (k13 : PySem.W.keepIn K (.ref f13) = true)
    (a14 : PySem.W.nsIn K mainGlobals "law" = some (some (.ref f14))) (l14 : K.lookup f14 = some ⟨oc14, od14, .func (PySem.W.fnOf "law" "law" (defArgs s_law) (defBody s_law) (defScope s_law) .none kV14 dc14 pm14 an14 cd14 ct14), sl14⟩) (c14 : PySem.W.codeIn K cd14 "law" = true) (k14 : PySem.W.keepIn K (.ref f14) = true)
    (n_CordError : PySem.W.nsIn K mainGlobals "CordError" = some (some (.ref c_CordError)))
    (xa_CordError : PySem.W.findIn K (.ref c_CordError) "__getattribute__" = some (some (.builtin "BaseException.__getattribute__"))) (xb_CordError : PySem.W.findIn K (.ref c_CordError) "__getattr__" = some none) (xc_CordError : PySem.W.findIn K (.ref c_CordError) "__class__" = some (some (.builtin "object.__class__"))) (xd_CordError : PySem.W.subIn K (.ref c_CordError) (.type "BaseException") = some true) (xe_CordError : PySem.W.subIn K (.ref c_CordError) (.type "object") = some true) (xf_CordError : PySem.W.typeIn K (.ref c_CordError) = some (.type "type")) (xg_CordError : PySem.W.isClsIn K c_CordError = true) (xh_CordError : PySem.W.subIn K (.ref c_CordError) (.ref c_CordError) = some true)
    (n_NoRow : PySem.W.nsIn K mainGlobals "NoRow" = some (some (.ref c_NoRow)))
    (xa_NoRow : PySem.W.findIn K (.ref c_NoRow) "__getattribute__" = some (some (.builtin "BaseException.__getattribute__"))) (xb_NoRow : PySem.W.findIn K (.ref c_NoRow) "__getattr__" = some none) (xc_NoRow : PySem.W.findIn K (.ref c_NoRow) "__class__" = some (some (.builtin "object.__class__"))) (xd_NoRow : PySem.W.subIn K (.ref c_NoRow) (.type "BaseException") = some true) (xe_NoRow : PySem.W.subIn K (.ref c_NoRow) (.type "object") = some true) (xf_NoRow : PySem.W.typeIn K (.ref c_NoRow) = some (.type "type")) (xg_NoRow : PySem.W.isClsIn K c_NoRow = true) (xh_NoRow : PySem.W.subIn K (.ref c_NoRow) (.ref c_NoRow) = some true)
    (n_NoCord : PySem.W.nsIn K mainGlobals "NoCord" = some (some (.ref c_NoCord)))
    (xa_NoCord : PySem.W.findIn K (.ref c_NoCord) "__getattribute__" = some (some (.builtin "BaseException.__getattribute__"))) (xb_NoCord : PySem.W.findIn K (.ref c_NoCord) "__getattr__" = some none) (xc_NoCord : PySem.W.findIn K (.ref c_NoCord) "__class__" = some (some (.builtin "object.__class__"))) (xd_NoCord : PySem.W.subIn K (.ref c_NoCord) (.type "BaseException") = some true) (xe_NoCord : PySem.W.subIn K (.ref c_NoCord) (.type "object") = some true) (xf_NoCord : PySem.W.typeIn K (.ref c_NoCord) = some (.type "type")) (xg_NoCord : PySem.W.isClsIn K c_NoCord = true) (xh_NoCord : PySem.W.subIn K (.ref c_NoCord) (.ref c_NoCord) = some true)
    (n_NoTurn : PySem.W.nsIn K mainGlobals "NoTurn" = some (some (.ref c_NoTurn)))
    (xa_NoTurn : PySem.W.findIn K (.ref c_NoTurn) "__getattribute__" = some (some (.builtin "BaseException.__getattribute__"))) (xb_NoTurn : PySem.W.findIn K (.ref c_NoTurn) "__getattr__" = some none) (xc_NoTurn : PySem.W.findIn K (.ref c_NoTurn) "__class__" = some (some (.builtin "object.__class__"))) (xd_NoTurn : PySem.W.subIn K (.ref c_NoTurn) (.type "BaseException") = some true) (xe_NoTurn : PySem.W.subIn K (.ref c_NoTurn) (.type "object") = some true) (xf_NoTurn : PySem.W.typeIn K (.ref c_NoTurn) = some (.type "type")) (xg_NoTurn : PySem.W.isClsIn K c_NoTurn = true) (xh_NoTurn : PySem.W.subIn K (.ref c_NoTurn) (.ref c_NoTurn) = some true)
    (n_NoSheet : PySem.W.nsIn K mainGlobals "NoSheet" = some (some (.ref c_NoSheet)))
    (xa_NoSheet : PySem.W.findIn K (.ref c_NoSheet) "__getattribute__" = some (some (.builtin "BaseException.__getattribute__"))) (xb_NoSheet : PySem.W.findIn K (.ref c_NoSheet) "__getattr__" = some none) (xc_NoSheet : PySem.W.findIn K (.ref c_NoSheet) "__class__" = some (some (.builtin "object.__class__"))) (xd_NoSheet : PySem.W.subIn K (.ref c_NoSheet) (.type "BaseException") = some true) (xe_NoSheet : PySem.W.subIn K (.ref c_NoSheet) (.type "object") = some true) (xf_NoSheet : PySem.W.typeIn K (.ref c_NoSheet) = some (.type "type")) (xg_NoSheet : PySem.W.isClsIn K c_NoSheet = true) (xh_NoSheet : PySem.W.subIn K (.ref c_NoSheet) (.ref c_NoSheet) = some true)
    (e_NoRow : PySem.W.excIn K c_NoRow bmV "ValueError.__new__" = true) (v_NoRow : PySem.W.subIn K (.ref c_NoRow) (.type "ValueError") = some true)
    (s_NoRow_CordError : PySem.W.subIn K (.ref c_NoRow) (.ref c_CordError) = some true)
    (s_NoRow_NoRow : PySem.W.subIn K (.ref c_NoRow) (.ref c_NoRow) = some true)
    (s_NoRow_NoCord : PySem.W.subIn K (.ref c_NoRow) (.ref c_NoCord) = some false)
    (s_NoRow_NoTurn : PySem.W.subIn K (.ref c_NoRow) (.ref c_NoTurn) = some false)
    (s_NoRow_NoSheet : PySem.W.subIn K (.ref c_NoRow) (.ref c_NoSheet) = some false)
    (g_abs : PySem.W.nsIn K mainGlobals "abs" = some none)
    (g_enumerate : PySem.W.nsIn K mainGlobals "enumerate" = some none)
    (g_zip : PySem.W.nsIn K mainGlobals "zip" = some none)
    (g_ValueError : PySem.W.nsIn K mainGlobals "ValueError" = some none)
    (z_len : PySem.W.nsIn K mainGlobals "len" = some none) (z_range : PySem.W.nsIn K mainGlobals "range" = some none) (z_min : PySem.W.nsIn K mainGlobals "min" = some none) (z_max : PySem.W.nsIn K mainGlobals "max" = some none) (z_isinstance : PySem.W.nsIn K mainGlobals "isinstance" = some none) (z_bool : PySem.W.nsIn K mainGlobals "bool" = some none) (z_int : PySem.W.nsIn K mainGlobals "int" = some none) (z_tuple : PySem.W.nsIn K mainGlobals "tuple" = some none) (z_list : PySem.W.nsIn K mainGlobals "list" = some none) (z_str : PySem.W.nsIn K mainGlobals "str" = some none) (z_all : PySem.W.nsIn K mainGlobals "all" = some none) (z_sum : PySem.W.nsIn K mainGlobals "sum" = some none) (z_sorted : PySem.W.nsIn K mainGlobals "sorted" = some none) :
    ∃ fd : FuncData, (∀ (s : Shared) (v : Value), BindsTo s fd ⟨[v], []⟩ [("_law_script", v)]) ∧ ∀ base : Heap, K.In base → base.Ns mainGlobals mg → FnOk l.prog w K mg base CX0 7 fa fd ["_law_script"] (spLaw K) := by
  have e := hfa.symm.trans (PySem.W.mg_of X G a14)
  cases e
  have M : Txt mg := ⟨PySem.W.mg_none_of X G z_len, PySem.W.mg_none_of X G z_range, PySem.W.mg_none_of X G z_min, PySem.W.mg_none_of X G z_max, PySem.W.mg_none_of X G z_isinstance, PySem.W.mg_none_of X G z_bool, PySem.W.mg_none_of X G z_int, PySem.W.mg_none_of X G z_tuple, PySem.W.mg_none_of X G z_list, PySem.W.mg_none_of X G z_str, PySem.W.mg_none_of X G z_all, PySem.W.mg_none_of X G z_sum, PySem.W.mg_none_of X G z_sorted⟩
  have GB : Gb mg := ⟨PySem.W.mg_none_of X G g_abs, PySem.W.mg_none_of X G g_enumerate, PySem.W.mg_none_of X G g_zip, PySem.W.mg_none_of X G g_ValueError⟩
  have Z : Exs K mg c_CordError c_NoRow c_NoCord c_NoTurn c_NoSheet := ⟨PySem.W.mg_of X G n_CordError, PySem.W.mg_of X G n_NoRow, PySem.W.mg_of X G n_NoCord, PySem.W.mg_of X G n_NoTurn, PySem.W.mg_of X G n_NoSheet, ⟨xa_CordError, xb_CordError, xc_CordError, xd_CordError, xe_CordError, xf_CordError, xg_CordError, xh_CordError⟩, ⟨xa_NoRow, xb_NoRow, xc_NoRow, xd_NoRow, xe_NoRow, xf_NoRow, xg_NoRow, xh_NoRow⟩, ⟨xa_NoCord, xb_NoCord, xc_NoCord, xd_NoCord, xe_NoCord, xf_NoCord, xg_NoCord, xh_NoCord⟩, ⟨xa_NoTurn, xb_NoTurn, xc_NoTurn, xd_NoTurn, xe_NoTurn, xf_NoTurn, xg_NoTurn, xh_NoTurn⟩, ⟨xa_NoSheet, xb_NoSheet, xc_NoSheet, xd_NoSheet, xe_NoSheet, xf_NoSheet, xg_NoSheet, xh_NoSheet⟩, e_NoRow, v_NoRow, s_NoRow_CordError, s_NoRow_NoRow, s_NoRow_NoCord, s_NoRow_NoTurn, s_NoRow_NoSheet⟩
  have F0 := fun_mk (st := s_is_whole) l0 c0 k0
  have b0 := F0.binds (ps := ["thing"]) fun _ _ _ _ _ _ us hl => match us, hl with | [_], _ => rfl
  have F1 := fun_mk (st := s_is_whole_from) l1 c1 k1
  have b1 := F1.binds (ps := ["thing", "least"]) fun _ _ _ _ _ _ us hl => match us, hl with | [_, _], _ => rfl
  have F2 := fun_mk (st := s_many_ties) l2 c2 k2
  have b2 := F2.binds (ps := ["sheet"]) fun _ _ _ _ _ _ us hl => match us, hl with | [_], _ => rfl
  have F3 := fun_mk (st := s_glued_sides) l3 c3 k3
  have b3 := F3.binds (ps := ["sheet"]) fun _ _ _ _ _ _ us hl => match us, hl with | [_], _ => rfl
  have F4 := fun_mk (st := s_are_three) l4 c4 k4
  have b4 := F4.binds (ps := ["thing"]) fun _ _ _ _ _ _ us hl => match us, hl with | [_], _ => rfl
  have F5 := fun_mk (st := s_are_arcs) l5 c5 k5
  have b5 := F5.binds (ps := ["sheet", "thing"]) fun _ _ _ _ _ _ us hl => match us, hl with | [_, _], _ => rfl
  have F6 := fun_mk (st := s_row_of) l6 c6 k6
  have b6 := F6.binds (ps := ["sheet", "corners"]) fun _ _ _ _ _ _ us hl => match us, hl with | [_, _], _ => rfl
  have F7 := fun_mk (st := s__law_cell_at) l7 c7 k7
  have b7 := F7.binds (ps := ["_law_script", "_law_k"]) fun _ _ _ _ _ _ us hl => match us, hl with | [_, _], _ => rfl
  have F8 := fun_mk (st := s__law_big) l8 c8 k8
  have b8 := F8.binds (ps := ["_law_script", "_law_at"]) fun _ _ _ _ _ _ us hl => match us, hl with | [_, _], _ => rfl
  have F9 := fun_mk (st := s__law_digit) l9 c9 k9
  have b9 := F9.binds (ps := ["_law_rest", "_law_many"]) fun _ _ _ _ _ _ us hl => match us, hl with | [_, _], _ => rfl
  have F10 := fun_mk (st := s__law_sheet) l10 c10 k10
  have b10 := F10.binds (ps := ["_law_rest"]) fun _ _ _ _ _ _ us hl => match us, hl with | [_], _ => rfl
  have F11 := fun_mk (st := s__law_even_ones) l11 c11 k11
  have b11 := F11.binds (ps := ["_law_sheet_here"]) fun _ _ _ _ _ _ us hl => match us, hl with | [_], _ => rfl
  have F12 := fun_mk (st := s__law_wide_row) l12 c12 k12
  have b12 := F12.binds (ps := ["_law_sheet_here", "_law_rest", "_law_most"]) fun _ _ _ _ _ _ us hl => match us, hl with | [_, _, _], _ => rfl
  have F13 := fun_mk (st := s__law_told) l13 c13 k13
  have b13 := F13.binds (ps := ["_law_sheet_here", "_law_some"]) fun _ _ _ _ _ _ us hl => match us, hl with | [_, _], _ => rfl
  have F14 := fun_mk (st := s_law) l14 c14 k14
  refine ⟨PySem.W.fnOf "law" "law" (defArgs s_law) (defBody s_law) (defScope s_law) .none kV14 dc14 pm14 an14 cd14 ct14, fun s v => .of_eq rfl, fun base _ _ => ?_⟩
  have G_law_cell_at : Kn l.prog w K mg base "_law_cell_at" _ ["_law_script", "_law_k"] _ := ⟨⟨f7, _, ok_cell F7 M , PySem.W.mg_of X G a7, k7, b7⟩⟩
  have G_law_big : Kn l.prog w K mg base "_law_big" _ ["_law_script", "_law_at"] _ := ⟨⟨f8, _, ok_big F8 M G_law_cell_at, PySem.W.mg_of X G a8, k8, b8⟩⟩
  have G_law_digit : Kn l.prog w K mg base "_law_digit" _ ["_law_rest", "_law_many"] _ := ⟨⟨f9, _, ok_digit F9 M , PySem.W.mg_of X G a9, k9, b9⟩⟩
  have G_law_sheet : Kn l.prog w K mg base "_law_sheet" _ ["_law_rest"] _ := ⟨⟨f10, _, ok_sheet F10 M G_law_digit, PySem.W.mg_of X G a10, k10, b10⟩⟩
  have G_law_even_ones : Kn l.prog w K mg base "_law_even_ones" _ ["_law_sheet_here"] _ := ⟨⟨f11, _, ok_even F11 M GB, PySem.W.mg_of X G a11, k11, b11⟩⟩
  have G_law_wide_row : Kn l.prog w K mg base "_law_wide_row" _ ["_law_sheet_here", "_law_rest", "_law_most"] _ := ⟨⟨f12, _, ok_wide F12 M G_law_digit G_law_even_ones, PySem.W.mg_of X G a12, k12, b12⟩⟩
  have Gis_whole : Kn l.prog w K mg base "is_whole" _ ["thing"] _ := ⟨⟨f0, _, ok_whole F0 M , PySem.W.mg_of X G a0, k0, b0⟩⟩
  have Gis_whole_from : Kn l.prog w K mg base "is_whole_from" _ ["thing", "least"] _ := ⟨⟨f1, _, ok_from F1 M Gis_whole, PySem.W.mg_of X G a1, k1, b1⟩⟩
  have Gmany_ties : Kn l.prog w K mg base "many_ties" _ ["sheet"] _ := ⟨⟨f2, _, ok_ties F2 M , PySem.W.mg_of X G a2, k2, b2⟩⟩
  have Gglued_sides : Kn l.prog w K mg base "glued_sides" _ ["sheet"] _ := ⟨⟨f3, _, ok_glued F3 M Gmany_ties GB, PySem.W.mg_of X G a3, k3, b3⟩⟩
  have Gare_three : Kn l.prog w K mg base "are_three" _ ["thing"] _ := ⟨⟨f4, _, ok_three F4 M Gis_whole_from, PySem.W.mg_of X G a4, k4, b4⟩⟩
  have Gare_arcs : Kn l.prog w K mg base "are_arcs" _ ["sheet", "thing"] _ := ⟨⟨f5, _, ok_arearcs F5 M Gare_three, PySem.W.mg_of X G a5, k5, b5⟩⟩
  have Grow_of : KnX l.prog w K mg base "row_of" _ ["sheet", "corners"] _ := ⟨⟨f6, _, ok_rowof F6 M Gare_arcs Gglued_sides Z, PySem.W.mg_of X G a6, k6, b6⟩⟩
  have G_law_told : Kn l.prog w K mg base "_law_told" _ ["_law_sheet_here", "_law_some"] _ := ⟨⟨f13, _, ok_told F13 M Grow_of Z GB, PySem.W.mg_of X G a13, k13, b13⟩⟩
  exact ok_law F14 M G_law_big G_law_sheet G_law_wide_row G_law_digit G_law_told GB
theorem walk {l : PySem.W.OpenLaw} {q : Program} {loose : List Str} {XP : (Str → Option Value) → Heap → Prop} {YP : World → Heap → Prop} {d : DefRec} {K : Params → PySem.W.Frag} (hn : l.most = some 63) (hdf : d.params.defaults = [])
    (hY : ∀ (w : World) (h : Heap), YP w h → (K w.params).In h)
    (F : ∀ (w : World) (mg : Str → Option Value) (fa : Addr) (h : Heap), (K w.params).In h → h.Ns mainGlobals mg → mg d.name = some (.ref fa) →
      ∃ fd : FuncData, (∀ (s : Shared) (u : Value), BindsTo s fd ⟨[u], []⟩ [("_law_script", u)]) ∧ ∀ base : Heap, (K w.params).In base → base.Ns mainGlobals mg → FnOk l.prog w (K w.params) mg base CX0 7 fa fd ["_law_script"] (spLaw (K w.params))) :
    PySem.W.WalkO q loose XP YP l.row.toRowW d [] (fun f vs => PySem.call f vs) :=
  L2.walk_of (n := 63) (k := 7) (x := "_law_script") (CX := fun _ => CX0) (sp := fun w => spLaw (K w.params)) hn (by decide) hdf ⟨rfl, by decide, by decide, rfl⟩ hY F (fun _ _ a ns hl _ hS => ⟨a, ns, rfl, hS, hl, fun _ => rfl⟩) fun _ _ _ _ _ z => z
end Toy
open PySem PySem.W PyProof.Rows
set_option maxRecDepth 100000 in
set_option maxHeartbeats 0 in
theorem PySem.Challenge.cw_farcords_k52_arcs_that_meet_or_not_holds : PySem.Challenge.rw_farcords_k52_arcs_that_meet_or_not.Holds := by
  w_on; o_law; k_head; (case hw => w_witness2)
  k_fill
  refine Toy.walk (l := PySem.Challenge.rw_farcords_k52_arcs_that_meet_or_not) rfl rfl (fun w h Y => PySem.W.kIn_of Y) ?F
  case F =>
    intro w mg fa h KX G hmg
    refine' Toy.all_mk KX G hmg ?a0 ?l0 ?c0 ?k0 ?a1 ?l1 ?c1 ?k1 ?a2 ?l2 ?c2 ?k2 ?a3 ?l3 ?c3 ?k3 ?a4 ?l4 ?c4 ?k4 ?a5 ?l5 ?c5 ?k5 ?a6 ?l6 ?c6 ?k6 ?a7 ?l7 ?c7 ?k7 ?a8 ?l8 ?c8 ?k8 ?a9 ?l9 ?c9 ?k9 ?a10 ?l10 ?c10 ?k10 ?a11 ?l11 ?c11 ?k11 ?a12 ?l12 ?c12 ?k12 ?a13 ?l13 ?c13 ?k13 ?a14 ?l14 ?c14 ?k14 ?n_CordError ?xa_CordError ?xb_CordError ?xc_CordError ?xd_CordError ?xe_CordError ?xf_CordError ?xg_CordError ?xh_CordError ?n_NoRow ?xa_NoRow ?xb_NoRow ?xc_NoRow ?xd_NoRow ?xe_NoRow ?xf_NoRow ?xg_NoRow ?xh_NoRow ?n_NoCord ?xa_NoCord ?xb_NoCord ?xc_NoCord ?xd_NoCord ?xe_NoCord ?xf_NoCord ?xg_NoCord ?xh_NoCord ?n_NoTurn ?xa_NoTurn ?xb_NoTurn ?xc_NoTurn ?xd_NoTurn ?xe_NoTurn ?xf_NoTurn ?xg_NoTurn ?xh_NoTurn ?n_NoSheet ?xa_NoSheet ?xb_NoSheet ?xc_NoSheet ?xd_NoSheet ?xe_NoSheet ?xf_NoSheet ?xg_NoSheet ?xh_NoSheet ?e_NoRow ?v_NoRow ?s_NoRow_CordError ?s_NoRow_NoRow ?s_NoRow_NoCord ?s_NoRow_NoTurn ?s_NoRow_NoSheet ?g_abs ?g_enumerate ?g_zip ?g_ValueError ?z_len ?z_range ?z_min ?z_max ?z_isinstance ?z_bool ?z_int ?z_tuple ?z_list ?z_str ?z_all ?z_sum ?z_sorted
    (case a0 => k_is)
    (case l0 => k_is)
    (case c0 => k_is)
    (case k0 => k_is)
    (case a1 => k_is)
    (case l1 => k_is)
    (case c1 => k_is)
    (case k1 => k_is)
    (case a2 => k_is)
    (case l2 => k_is)
    (case c2 => k_is)
    (case k2 => k_is)
    (case a3 => k_is)
    (case l3 => k_is)
    (case c3 => k_is)
    (case k3 => k_is)
    (case a4 => k_is)
    (case l4 => k_is)
    (case c4 => k_is)
    (case k4 => k_is)
    (case a5 => k_is)
    (case l5 => k_is)
    (case c5 => k_is)
    (case k5 => k_is)
    (case a6 => k_is)
    (case l6 => k_is)
    (case c6 => k_is)
    (case k6 => k_is)
    (case a7 => k_is)
    (case l7 => k_is)
    (case c7 => k_is)
    (case k7 => k_is)
    (case a8 => k_is)
    (case l8 => k_is)
    (case c8 => k_is)
    (case k8 => k_is)
    (case a9 => k_is)
    (case l9 => k_is)
    (case c9 => k_is)
    (case k9 => k_is)
    (case a10 => k_is)
    (case l10 => k_is)
    (case c10 => k_is)
    (case k10 => k_is)
    (case a11 => k_is)
    (case l11 => k_is)
    (case c11 => k_is)
    (case k11 => k_is)
    (case a12 => k_is)
    (case l12 => k_is)
    (case c12 => k_is)
    (case k12 => k_is)
    (case a13 => k_is)
    (case l13 => k_is)
    (case c13 => k_is)
    (case k13 => k_is)
    (case a14 => k_is)
    (case l14 => k_is)
    (case c14 => k_is)
    (case k14 => k_is)
    (case n_CordError => k_is)
    (case xa_CordError => k_is)
    (case xb_CordError => k_is)
    (case xc_CordError => k_is)
    (case xd_CordError => k_is)
    (case xe_CordError => k_is)
    (case xf_CordError => k_is)
    (case xg_CordError => k_is)
    (case xh_CordError => k_is)
    (case n_NoRow => k_is)
    (case xa_NoRow => k_is)
    (case xb_NoRow => k_is)
    (case xc_NoRow => k_is)
    (case xd_NoRow => k_is)
    (case xe_NoRow => k_is)
    (case xf_NoRow => k_is)
    (case xg_NoRow => k_is)
    (case xh_NoRow => k_is)
    (case n_NoCord => k_is)
    (case xa_NoCord => k_is)
    (case xb_NoCord => k_is)
    (case xc_NoCord => k_is)
    (case xd_NoCord => k_is)
    (case xe_NoCord => k_is)
    (case xf_NoCord => k_is)
    (case xg_NoCord => k_is)
    (case xh_NoCord => k_is)
    (case n_NoTurn => k_is)
    (case xa_NoTurn => k_is)
    (case xb_NoTurn => k_is)
    (case xc_NoTurn => k_is)
    (case xd_NoTurn => k_is)
    (case xe_NoTurn => k_is)
    (case xf_NoTurn => k_is)
    (case xg_NoTurn => k_is)
    (case xh_NoTurn => k_is)
    (case n_NoSheet => k_is)
    (case xa_NoSheet => k_is)
    (case xb_NoSheet => k_is)
    (case xc_NoSheet => k_is)
    (case xd_NoSheet => k_is)
    (case xe_NoSheet => k_is)
    (case xf_NoSheet => k_is)
    (case xg_NoSheet => k_is)
    (case xh_NoSheet => k_is)
    (case e_NoRow => k_exc)
    (case v_NoRow => k_is)
    (case s_NoRow_CordError => k_is)
    (case s_NoRow_NoRow => k_is)
    (case s_NoRow_NoCord => k_is)
    (case s_NoRow_NoTurn => k_is)
    (case s_NoRow_NoSheet => k_is)
    (case g_abs => k_is)
    (case g_enumerate => k_is)
    (case g_zip => k_is)
    (case g_ValueError => k_is)
    (case z_len => k_is)
    (case z_range => k_is)
    (case z_min => k_is)
    (case z_max => k_is)
    (case z_isinstance => k_is)
    (case z_bool => k_is)
    (case z_int => k_is)
    (case z_tuple => k_is)
    (case z_list => k_is)
    (case z_str => k_is)
    (case z_all => k_is)
    (case z_sum => k_is)
    (case z_sorted => k_is)
#print axioms PySem.Challenge.cw_farcords_k52_arcs_that_meet_or_not_holds
