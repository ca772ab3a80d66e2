import PyProof.Rows.All
import Wide.All
import OpenK.AllK
import Wide.FinOn
import Lean
import PyProof.EqAt
import PyProof.EqKinds
import PyProof.TupleCall
import PyProof.NeData
import PyProof.SumAny
import PyProof.ReprRoads
import PyProof.CallStr
import PyProof.ReprLen
import PyProof.Rows.StrDigitsNeg
import PyProof.Rows.StrJoinMade
import KE.KRevIter
import PyProof.JoinWalk
import PyProof.CollectIter
import PyProof.SliceStr2
import PyProof.Rows.FStr
import PyProof.Rows.RuleDivmod
import PyProof.Rows.StrWeight2
import PyProof.StrBlock2
import KE.KxWritten
import PyProof.Rows.ZipGen
import KE.KIntText
import PyProof.ListRange
import PyProof.TupleOfSeq
import PyProof.SetScanFacts
import PyProof.SetKind
import PyProof.Rows.SetFrom
import PyProof.SetRoads
import PyProof.Rows.SortShell
import PyProof.ListMulRoad
import PyProof.ListMulAny
import PyProof.FactsAll.tuple
import PyProof.RulesAssignMore
import PyProof.ZipIter
import PyProof.TupleIter
import PyProof.EnumFor
import PyProof.EnumMake
import PyProof.FitsBits
import KE.KDictList
import PyProof.Rows.SortShellK
import PyProof.TupleKey
import KE.KItemsList
import KE.KSortTup
import PyProof.Rows.ListMulR
import PyProof.FactsAll.list_2
import PyProof.FactsAll.list_4
import PyProof.Rows.BitMore
import PyProof.WalkInts
import PyProof.ListIndex
import PyProof.ExcArgsOwn
import PyProof.ExcAttrAll.ValueError
import PyProof.ExcBaseAll.ValueError
import PyProof.P3Eq
import PyProof.P3In
import PyProof.Rows.FinIter
import PySem.Challenge.RW_farcords_k82_sheets_read
set_option Elab.async false
set_option linter.all false
set_option maxRecDepth 100000
namespace L2
open PySem PySem.Spec PyProof.Rows
abbrev Key := Sum Int Str
def keyIs : Key → Value → Bool
  | .inl k, v => Value.isInt k v
  | .inr x, v => Value.isStrOf x v
def keyH (w : World) : Key → Int
  | .inl k => hashInt k
  | .inr x => hashStr w x
theorem keyIs_shape : ∀ {k : Key} {v : Value}, keyIs k v = true → (∃ i t, k = Sum.inl i ∧ v = Value.int i t) ∨ (∃ x t, k = Sum.inr x ∧ v = Value.str x t)
  | .inl i, v, h => by
    obtain ⟨t, e⟩ := Value.isInt_shape (k := i) (v := v) h
    exact .inl ⟨i, t, rfl, e⟩
  | .inr x, v, h => by
    obtain ⟨t, e⟩ := Value.isStrOf_shape (x := x) (v := v) h
    exact .inr ⟨x, t, rfl, e⟩
theorem key_ll (a b : Int) : decide ((Sum.inl a : Key) = Sum.inl b) = (a == b) := by
  by_cases e : a = b
  · subst e; simp
  · have h : ¬ (Sum.inl a : Key) = Sum.inl b := fun q => e (Sum.inl.inj q)
    rw [decide_eq_false h]
    exact (beq_eq_false_iff_ne.mpr e).symm
theorem key_rr (a b : Str) : decide ((Sum.inr a : Key) = Sum.inr b) = decide (a = b) := by
  by_cases e : a = b
  · subst e; simp
  · have h : ¬ (Sum.inr a : Key) = Sum.inr b := fun q => e (Sum.inr.inj q)
    rw [decide_eq_false h, decide_eq_false e]
theorem key_lr (a : Int) (b : Str) : decide ((Sum.inl a : Key) = Sum.inr b) = false := decide_eq_false (fun q => nomatch q)
theorem key_rl (a : Str) (b : Int) : decide ((Sum.inr a : Key) = Sum.inl b) = false := decide_eq_false (fun q => nomatch q)
def mixKind (prog : Program) (w : World) : PySem.KeyKind prog w Key where
  is := keyIs
  hash := keyH w
  inj := fun v a b ha hb => by
    rcases keyIs_shape ha with ⟨i, t, rfl, rfl⟩ | ⟨x, t, rfl, rfl⟩
    · rcases keyIs_shape hb with ⟨j, u, rfl, e⟩ | ⟨y, u, rfl, e⟩
      · injection e with e1 _; rw [e1]
      · exact nomatch e
    · rcases keyIs_shape hb with ⟨j, u, rfl, e⟩ | ⟨y, u, rfl, e⟩
      · exact nomatch e
      · injection e with e1 _; rw [e1]
  byValue := fun k v h => by
    rcases keyIs_shape h with ⟨i, t, rfl, rfl⟩ | ⟨x, t, rfl, rfl⟩ <;> rfl
  pyHash := fun hv h => by
    rcases keyIs_shape hv with ⟨i, t, rfl, rfl⟩ | ⟨x, t, rfl, rfl⟩
    · exact wpAny_pyHash_int h
    · exact wpAny_pyHash_str h
  eqBool := fun hu hv h => by
    rcases keyIs_shape hu with ⟨i, t, rfl, rfl⟩ | ⟨x, t, rfl, rfl⟩
    · rcases keyIs_shape hv with ⟨j, u, rfl, rfl⟩ | ⟨y, u, rfl, rfl⟩
      · rw [key_ll] at h; exact wpAny_eqBool_int h
      · rw [key_lr] at h; exact SeqAt.EqAt.int_str i t y u _ _ _ _ h
    · rcases keyIs_shape hv with ⟨j, u, rfl, rfl⟩ | ⟨y, u, rfl, rfl⟩
      · rw [key_rl] at h; exact SeqAt.EqAt.str_int x t j u _ _ _ _ h
      · rw [key_rr] at h; exact wpAny_eqBool_str h
  «strs» := fun k x t v h => by
    rcases keyIs_shape h with ⟨i, u, rfl, e⟩ | ⟨y, u, rfl, e⟩
    · exact nomatch e
    · injection e with e1 _
      subst e1
      cases v <;> rfl
end L2
namespace L2
open PySem PySem.Spec PyProof.Rows
inductive V where
  | non | bl (b : Bool) | int (i : Int) | str (x : Str) | byt (b : Array UInt8) | flt (b : UInt64) | ref (a : Addr) | ty (n : String)
  deriving DecidableEq
def RelV : V → Value → Prop
  | .non, u => u = Value.none
  | .bl b, u => u = Value.bool b
  | .int i, u => ∃ t, u = Value.int i t
  | .str x, u => ∃ t, u = Value.str x t
  | .byt b, u => ∃ t, u = Value.bytes b t
  | .flt b, u => ∃ t, u = Value.float b t
  | .ref a, u => u = Value.ref a
  | .ty n, u => u = Value.type n
abbrev Vals : List V → List Value → Prop := Paired RelV
theorem Vals.length {xs : List V} {us : List Value} (r : Vals xs us) : xs.length = us.length := Paired.length r
theorem Vals.get : ∀ {xs : List V} {us : List Value} {i : Nat} {x : V}, Vals xs us → xs[i]? = some x → ∃ u, us[i]? = some u ∧ RelV x u
  | _, _, _, _, .nil, e => by simp at e
  | _, _, 0, _, .cons r _, e => by simp at e; subst e; exact ⟨_, rfl, r⟩
  | _, _, i + 1, x, .cons _ t, e => by
    obtain ⟨u, h1, h2⟩ := Vals.get (i := i) (x := x) t (by simpa using e)
    exact ⟨u, by simpa using h1, h2⟩
theorem Vals.set {x : V} {u : Value} (r : RelV x u) : ∀ {xs : List V} {us : List Value} (i : Nat), Vals xs us → Vals (xs.set i x) (us.set i u)
  | _, _, _, .nil => .nil
  | _, _, 0, .cons _ t => .cons r t
  | _, _, i + 1, .cons q t => .cons q (Vals.set r i t)
theorem Vals.append : ∀ {xs ys : List V} {us ws : List Value}, Vals xs us → Vals ys ws → Vals (xs ++ ys) (us ++ ws)
  | _, _, _, _, .nil, s => s
  | _, _, _, _, .cons r t, s => .cons r (Vals.append t s)
theorem Vals.take : ∀ {xs : List V} {us : List Value} (n : Nat), Vals xs us → Vals (xs.take n) (us.take n)
  | _, _, 0, _ => .nil
  | _, _, _ + 1, .nil => .nil
  | _, _, n + 1, .cons r t => .cons r (Vals.take n t)
theorem Vals.drop : ∀ {xs : List V} {us : List Value} (n : Nat), Vals xs us → Vals (xs.drop n) (us.drop n)
  | _, _, 0, r => r
  | _, _, _ + 1, .nil => .nil
  | _, _, n + 1, .cons _ t => Vals.drop n t
def RelO : Option V → Option Value → Prop
  | some v, some u => RelV v u
  | none, none => True
  | _, _ => False
def KV {κ : Type} : List (κ × V) → List (κ × Value) → Prop := Paired fun (p : κ × V) (q : κ × Value) => p.1 = q.1 ∧ RelV p.2 q.2
def kV : Key → V
  | .inl i => .int i
  | .inr x => .str x
inductive HO where
  | lst (xs : List V)
  | tup (xs : List V)
  | dK (kvs : List (Key × V)) | dT (kvs : List (List Key × V))
  | set (S : Int → Bool) (n : Nat)
  | ins (C dx : Addr) (fs : List (Str × V))
  | own (x : Addr)
  | xd (fs : List (Str × V))
  | met (f x : Addr)
  | rng (lo hi : Int)
  | frz (o : Obj) (u : HO)
  | tbl (ps : Array Value)
  | ext (φ : Heap → Prop)
abbrev Hp := Addr → Option HO
def upd (H : Hp) (a : Addr) (o : HO) : Hp := fun b => if b = a then some o else H b
theorem upd_same {H : Hp} {a : Addr} {o : HO} : upd H a o a = some o := by unfold upd; rw [if_pos rfl]
theorem upd_ne {H : Hp} {a b : Addr} {o : HO} (h : b ≠ a) : upd H a o b = H b := by unfold upd; rw [if_neg h]
theorem ne_of_none {H : Hp} {a b : Addr} {o : HO} (h : H a = some o) (h' : H b = none) : a ≠ b := by
  intro e; subst e; rw [h] at h'; cases h'
section
variable (P : Program) (w : World)
def ObjOk (H : Hp) (h : Heap) (a : Addr) : HO → Prop
  | .lst xs => xs.length ≤ sizeLine ∧ ∃ (its : List Value) (n : Nat), Vals xs its ∧ h.get? a = some { cls := .type "list", data := .seq its.toArray n }
  | .tup xs => xs.length ≤ sizeLine ∧ ∃ its : List Value, Vals xs its ∧ IsTup h a its.toArray
  | .dK kvs => kvs.length ≤ sizeLine ∧ (a == sysModules) = false ∧ ∃ vs, KV kvs vs ∧ h.DictOf (mixKind P w) a vs
  | .dT kvs => kvs.length ≤ sizeLine ∧ (a == sysModules) = false ∧ ∃ xs : List (List Key × Addr × Value),
      Paired (fun (p : List Key × V) (q : List Key × Addr × Value) => p.1 = q.1 ∧ H q.2.1 = some (.tup (p.1.map kV)) ∧ RelV p.2 q.2.2) kvs xs ∧
      ∃ o es ep, h.get? a = some o ∧ o.ExactDict ∧ o.data = .dict es ep ∧ es.toList = xs.map (entryOfKey (tupleKind (mixKind P w))) ∧ (xs.map (·.1)).Nodup
  | .set S n => h.SetOf (intKind P w) a S n
  | .ins C dx fs => H dx = some (.own a) ∧ fs.length ≤ 1000 ∧ dx ≠ a ∧ h.get? a = some (PySem.W.instObj C dx) ∧
      ∃ mA, h.Ns1 dx mA ∧ (∀ f, RelO (fs.lookup f) (mA f)) ∧ PySem.Within mA (fs.map (·.1))
  | .own _ => ∃ o, h.get? a = some o
  | .xd fs => ∃ mA, h.Ns1 a mA ∧ ∀ f, RelO (fs.lookup f) (mA f)
  | .rng lo hi => ∃ t u v, h.get? a = some { cls := .type "range", data := .fields #[.int lo t, .int hi u, .int 1 v] }
  | .frz o u => h.get? a = some o ∧ ObjOk H h a u
  | .tbl ps => h.get? a = some { cls := .none, data := .fields ps }
  | .met f x => h.get? a = some (PySem.W.methodObj (.ref f) (.ref x))
  | .ext φ => φ h ∧ (∃ o, h.get? a = some o) ∧ ∀ h1 h2 : Heap, φ h1 → (∀ o, h1.get? a = some o → h2.get? a = some o) → φ h2
def HOk (H : Hp) (h : Heap) : Prop := ∀ a o, H a = some o → ObjOk P w H h a o
end
section
variable {P : Program} {w : World} {H H' : Hp} {h h' : Heap} {a : Addr} {o : HO}
theorem ObjOk.lt (x : ObjOk P w H h a o) : a < h.objs.size := by
  cases o with
  | lst xs => obtain ⟨_, _, _, _, e⟩ := x; exact Heap.lt_size e
  | tup xs => obtain ⟨_, _, _, p⟩ := x; exact p.lt
  | dK kvs => obtain ⟨_, _, _, _, o, _, _, e, _⟩ := x; exact Heap.lt_size e
  | dT kvs => obtain ⟨_, _, _, _, o, _, _, e, _⟩ := x; exact Heap.lt_size e
  | set S n => obtain ⟨o, _, _, _, e, _⟩ := x; exact Heap.lt_size e
  | ins C dx fs => obtain ⟨_, _, _, e, _⟩ := x; exact Heap.lt_size e
  | own y => obtain ⟨_, e⟩ := x; exact Heap.lt_size e
  | xd fs => obtain ⟨_, ⟨_, _, _, e, _⟩, _⟩ := x; exact Heap.lt_size e
  | rng lo hi => obtain ⟨_, _, _, e⟩ := x; exact Heap.lt_size e
  | frz ob u => obtain ⟨e, _⟩ := x; exact Heap.lt_size e
  | tbl ps => exact Heap.lt_size (show h.get? a = some _ from x)
  | met f y => exact Heap.lt_size (show h.get? a = some _ from x)
  | ext φ => obtain ⟨_, ⟨_, e⟩, _⟩ := x; exact Heap.lt_size e
theorem Paired.mapP {α β : Type} {F G : α → β → Prop} : ∀ {l₁ : List α} {l₂ : List β}, Paired F l₁ l₂ → (∀ a b, F a b → G a b) → Paired G l₁ l₂
  | _, _, .nil, _ => .nil
  | _, _, .cons r t, f => .cons (f _ _ r) (Paired.mapP t f)
theorem ObjOk.stay (x : ObjOk P w H h a o) (k : ∀ b u, (b = a ∨ H b = some (.own a)) → h.get? b = some u → h'.get? b = some u)
    (ho : ∀ b, H b = some (.own a) → H' b = some (.own a)) (ht : ∀ b xs, H b = some (.tup xs) → H' b = some (.tup xs)) : ObjOk P w H' h' a o := by
  induction o with
  | lst xs => obtain ⟨z, its, n, r, e⟩ := x; exact ⟨z, its, n, r, k _ _ (.inl rfl) e⟩
  | tup xs => obtain ⟨z, its, r, ob, e, c⟩ := x; exact ⟨z, its, r, ob, k _ _ (.inl rfl) e, c⟩
  | dK kvs => obtain ⟨z, y, vs, r, ob, es, ep, e, c⟩ := x; exact ⟨z, y, vs, r, ob, es, ep, k _ _ (.inl rfl) e, c⟩
  | dT kvs =>
    obtain ⟨z, y, xs, r, ob, es, ep, e, c⟩ := x
    exact ⟨z, y, xs, Paired.mapP r fun p q z => ⟨z.1, ht _ _ z.2.1, z.2.2⟩, ob, es, ep, k _ _ (.inl rfl) e, c⟩
  | set S n => obtain ⟨ob, es, ep, t, e, c⟩ := x; exact ⟨ob, es, ep, t, k _ _ (.inl rfl) e, c⟩
  | ins C dx fs =>
    obtain ⟨d, z, ne, e, mA, ⟨od, es, ep, e2, c⟩, r⟩ := x
    exact ⟨ho _ d, z, ne, k _ _ (.inl rfl) e, mA, ⟨od, es, ep, k _ _ (.inr d) e2, c⟩, r⟩
  | own y => obtain ⟨ob, e⟩ := x; exact ⟨ob, k _ _ (.inl rfl) e⟩
  | xd fs => obtain ⟨mA, ⟨od, es, ep, e, c⟩, r⟩ := x; exact ⟨mA, ⟨od, es, ep, k _ _ (.inl rfl) e, c⟩, r⟩
  | rng lo hi => obtain ⟨t, u, v, e⟩ := x; exact ⟨t, u, v, k _ _ (.inl rfl) e⟩
  | frz ob u ih => obtain ⟨e, q⟩ := x; exact ⟨k _ _ (.inl rfl) e, ih q⟩
  | tbl ps =>
    have e : h.get? a = some { cls := .none, data := .fields ps } := x
    show h'.get? a = some { cls := .none, data := .fields ps }
    exact k a _ (.inl rfl) e
  | met f y =>
    have e : h.get? a = some (PySem.W.methodObj (.ref f) (.ref y)) := x
    show h'.get? a = some (PySem.W.methodObj (.ref f) (.ref y))
    exact k a _ (.inl rfl) e
  | ext φ => obtain ⟨p, ⟨o, e⟩, st⟩ := x; exact ⟨st _ _ p fun o q => k _ _ (.inl rfl) q, ⟨o, k _ _ (.inl rfl) e⟩, st⟩
theorem HOk.lt (x : HOk P w H h) (e : H a = some o) : a < h.objs.size := (x a o e).lt
theorem HOk.fresh (x : HOk P w H h) (e : h.objs.size ≤ a) : H a = none := by
  cases q : H a with
  | none => rfl
  | some u => exact absurd (Nat.lt_of_lt_of_le (x.lt q) e) (Nat.lt_irrefl _)
theorem HOk.kept (x : HOk P w H h) (k : ∀ b u, h.get? b = some u → h'.get? b = some u) : HOk P w H h' := fun a o e =>
  (x a o e).stay (fun b u _ q => k b u q) (fun _ q => q) fun _ _ q => q
theorem HOk.laid (x : HOk P w H h) (k : ∀ b u, h.get? b = some u → h'.get? b = some u) (hp : h.objs.size ≤ a) (new : ObjOk P w (upd H a o) h' a o) : HOk P w (upd H a o) h' := fun b u e => by
  have hn := x.fresh hp
  by_cases hb : b = a
  · subst hb; rw [upd_same] at e; cases e; exact new
  · rw [upd_ne hb] at e
    exact (x b u e).stay (fun c v _ q => k c v q) (fun c q => by rw [upd_ne (ne_of_none q hn)]; exact q) fun c xs q => by rw [upd_ne (ne_of_none q hn)]; exact q
end
def Rd (H : Hp) (a : Addr) (u : HO) : Prop := H a = some u ∨ ∃ o, H a = some (.frz o u)
theorem Rd.ok {P : Program} {w : World} {H : Hp} {h : Heap} {a : Addr} {u : HO} (r : Rd H a u) (x : HOk P w H h) : ObjOk P w H h a u := by
  rcases r with r | ⟨o, r⟩
  · exact x a u r
  · obtain ⟨_, q⟩ := x a _ r
    exact q
def Mut : Option HO → Prop
  | some (.lst _) => True
  | some (.dK _) => True
  | some (.dT _) => True
  | some (.set _ _) => True
  | some (.ins _ _ _) => True
  | some (.ext _) => True
  | _ => False
section
variable {P : Program} {w : World} {H : Hp} {h h' : Heap} {x e : Addr} {o' : HO}
theorem HOk.write (ok : HOk P w H h) (mu : Mut (H x)) (he : e = x ∨ H e = some (.own x)) (k : ∀ b u, b ≠ e → h.get? b = some u → h'.get? b = some u) (heo : ∃ u, h'.get? e = some u)
    (new : ObjOk P w (upd H x o') h' x o') : HOk P w (upd H x o') h' := fun b u q => by
  have nown : ∀ c y, H c = some (.own y) → c ≠ x := fun c y r z => by subst z; rw [r] at mu; exact mu
  have ntup : ∀ c xs, H c = some (.tup xs) → c ≠ x := fun c xs r z => by subst z; rw [r] at mu; exact mu
  by_cases hb : b = x
  · subst hb; rw [upd_same] at q; cases q; exact new
  · rw [upd_ne hb] at q
    by_cases hbe : b = e
    · have q' : H b = some (.own x) := by
        rcases he with z | z
        · exact absurd (hbe.trans z) hb
        · rw [hbe]; exact z
      rw [q] at q'; cases q'
      obtain ⟨v, hv⟩ := heo
      exact ⟨v, by rw [hbe]; exact hv⟩
    · refine (ok b u q).stay (fun c v hc r => k c v ?_ r) (fun c r => by rw [upd_ne (nown c b r)]; exact r) fun c xs r => by rw [upd_ne (ntup c xs r)]; exact r
      rcases hc with rfl | hc
      · exact hbe
      · rintro rfl
        rcases he with z | z
        · exact nown c b hc z
        · rw [hc] at z; cases z; exact hb rfl
end
structure Un (fs ex : List Addr) (H H' : Hp) (h h' : Heap) : Prop where
  keep : ∀ b o, h.get? b = some o → H b = none → b ∉ fs → b ∉ ex → h'.get? b = some o
  slot : ∀ b o, h.get? b = some o → H b = none → b ∈ fs → b ∉ ex → ∃ sl, h'.get? b = some { o with slots := sl }
  free : ∀ b o, h.get? b = some o → H b = none → b ∉ ex → H' b = none
  there : ∀ b o, h.get? b = some o → b ∉ ex → ∃ o', h'.get? b = some o'
  tups : ∀ b xs, H b = some (.tup xs) → H' b = some (.tup xs)
  frzs : ∀ b o u, H b = some (.frz o u) → H' b = some (.frz o u)
  tbls : ∀ b ps, H b = some (.tbl ps) → ∃ more, H' b = some (.tbl (ps ++ more))
section
variable {fs fs' ex ex' : List Addr} {H H1 H2 : Hp} {h h1 h2 h' : Heap} {a x e : Addr} {o : HO}
theorem Un.any (u : Un fs ex H H1 h h1) {b : Addr} {ob : Obj} (q : h.get? b = some ob) (n : H b = none) (hx : b ∉ ex) : ∃ sl, h1.get? b = some { ob with slots := sl } := by
  by_cases hb : b ∈ fs
  · exact u.slot b ob q n hb hx
  · exact ⟨ob.slots, u.keep b ob q n hb hx⟩
theorem Un.trans (a : Un fs ex H H1 h h1) (b : Un fs ex H1 H2 h1 h2) : Un fs ex H H2 h h2 where
  keep := fun c ob q n hc hx => b.keep c ob (a.keep c ob q n hc hx) (a.free c ob q n hx) hc hx
  slot := fun c ob q n hc hx => by
    obtain ⟨sl, e1⟩ := a.slot c ob q n hc hx
    obtain ⟨sl', e2⟩ := b.slot c _ e1 (a.free c ob q n hx) hc hx
    exact ⟨sl', e2⟩
  free := fun c ob q n hx => by
    obtain ⟨o', e1⟩ := a.there c ob q hx
    exact b.free c o' e1 (a.free c ob q n hx) hx
  there := fun c ob q hx => by
    obtain ⟨o', e1⟩ := a.there c ob q hx
    exact b.there c o' e1 hx
  tups := fun c xs q => b.tups c xs (a.tups c xs q)
  frzs := fun c ob xs q => b.frzs c ob xs (a.frzs c ob xs q)
  tbls := fun c ps q => by
    obtain ⟨m1, e1⟩ := a.tbls c ps q
    obtain ⟨m2, e2⟩ := b.tbls c _ e1
    exact ⟨m1 ++ m2, by rw [e2, Array.append_assoc]⟩
theorem Un.kept (k : ∀ b u, h.get? b = some u → h'.get? b = some u) : Un fs ex H H h h' :=
  ⟨fun b ob q _ _ _ => k b ob q, fun b ob q _ _ _ => ⟨ob.slots, k b ob q⟩, fun _ _ _ n _ => n, fun b ob q _ => ⟨ob, k b ob q⟩, fun _ _ q => q, fun _ _ _ q => q, fun _ ps q => ⟨#[], by rw [q]; simp⟩⟩
theorem Un.refl : Un fs ex H H h h := Un.kept fun _ _ q => q
theorem Un.laid (k : ∀ b u, h.get? b = some u → h'.get? b = some u) (hp : h.objs.size ≤ a) (hn : H a = none) : Un fs ex H (upd H a o) h h' where
  keep := fun b u q _ _ _ => k b u q
  slot := fun b u q _ _ _ => ⟨u.slots, k b u q⟩
  free := fun b u q n _ => by rw [upd_ne (Nat.ne_of_lt (Nat.lt_of_lt_of_le (Heap.lt_size q) hp))]; exact n
  there := fun b u q _ => ⟨u, k b u q⟩
  tups := fun b xs q => by rw [upd_ne (ne_of_none q hn)]; exact q
  frzs := fun b u xs q => by rw [upd_ne (ne_of_none q hn)]; exact q
  tbls := fun b ps q => ⟨#[], by rw [upd_ne (ne_of_none q hn), q]; simp⟩
theorem Un.write (mu : Mut (H x)) (he : e = x ∨ H e = some (.own x)) (k : ∀ b u, b ≠ e → h.get? b = some u → h'.get? b = some u) (heo : ∃ u, h'.get? e = some u) : Un fs ex H (upd H x o) h h' := by
  have hx : ∀ b, H b = none → b ≠ x := fun b n z => by subst z; rw [n] at mu; exact mu
  have hb : ∀ b, H b = none → b ≠ e := fun b n z => by
    subst z
    rcases he with r | r
    · exact hx b n r
    · rw [n] at r; cases r
  have hm : ∀ b u, H b = some u → ¬ Mut (some u) → b ≠ x := fun b u q nm z => by subst z; rw [q] at mu; exact nm mu
  refine ⟨fun b u q n _ _ => k b u (hb b n) q, fun b u q n _ _ => ⟨u.slots, k b u (hb b n) q⟩, fun b u q n _ => by rw [upd_ne (hx b n)]; exact n, fun b u q _ => ?_,
    fun b xs q => by rw [upd_ne (hm b _ q fun z => z)]; exact q, fun b u xs q => by rw [upd_ne (hm b _ q fun z => z)]; exact q, fun b ps q => ⟨#[], by rw [upd_ne (hm b _ q fun z => z), q]; simp⟩⟩
  by_cases hbe : b = e
  · subst hbe; exact heo
  · exact ⟨u, k b u hbe q⟩
theorem Un.mono (u : Un fs ex H H1 h h1) (hs : ∀ b ∈ fs, b ∈ fs') (hx : ∀ b ∈ ex, b ∈ ex') : Un fs' ex' H H1 h h1 :=
  ⟨fun b ob q n hb he => u.keep b ob q n (fun z => hb (hs b z)) fun z => he (hx b z), fun _ _ q n _ he => u.any q n fun z => he (hx _ z), fun b ob q n he => u.free b ob q n fun z => he (hx b z), fun b ob q he => u.there b ob q fun z => he (hx b z), u.tups, u.frzs, u.tbls⟩
end
def trk (h : Heap) (H : Hp) : List Addr := (List.range h.objs.size).filter fun a => (H a).isSome
def hidT (h : Heap) (H : Hp) : Heap := PySem.W.hideAll h (trk h H)
theorem hidT_size (h : Heap) (H : Hp) : (hidT h H).objs.size = h.objs.size := PySem.W.hideAll_size _ _
theorem hidT_get {h : Heap} {H : Hp} {b : Addr} {o : Obj} (e : h.get? b = some o) (n : H b = none) : (hidT h H).get? b = some o :=
  PySem.W.hideAll_get _ e fun hm => by
    have q : (H b).isSome = true := (List.mem_filter.mp hm).2
    rw [n] at q; simp at q
theorem of_hidT {h : Heap} {H : Hp} {b : Addr} {o : Obj} (e : (hidT h H).get? b = some o) : h.get? b = some o ∧ H b = none := by
  have e' : h.get? b = some o := PySem.W.of_hideAll (trk h H) e
  refine ⟨e', ?_⟩
  cases q : H b with
  | none => rfl
  | some x =>
    have hm : b ∈ trk h H := List.mem_filter.mpr ⟨List.mem_range.mpr (Heap.lt_size e'), by simp [q]⟩
    have z : (hidT h H).get? b = none := PySem.W.hideAll_none (trk h H) hm
    rw [z] at e; cases e
def allNews (g h : Heap) (L : Addr) : List (Addr × Obj) := (List.range h.objs.size).filterMap fun a => if a = L ∨ (g.get? a).isSome = true then none else (h.get? a).map fun o => (a, o)
def rest (g h : Heap) (L d : Addr) : List (Addr × Obj) := (allNews g h L).filter fun p => decide (p.1 ≠ d)
end L2
namespace L2
open PySem PySem.Spec PyProof.Rows
structure Mod (K : PySem.W.Frag) (mg : Str → Option Value) (base : Heap) : Prop where
  kin : K.In base
  glob : base.Ns mainGlobals mg
  blt : ∃ mb, base.Ns builtinsNs mb ∧ ∀ x : Str, x ≠ "__name__" → mb x = bootBuiltins x
  nolimit : base.NoLimit
structure Cx where
  prog : Program
  w : World
  K : PySem.W.Frag
  mg : Str → Option Value
  base : Heap
  A : Around
  N : List Str
  s₀ : Shared
  H₀ : Hp
  env : Env
  outer : List Env
  stack : List Env
  ex : List Addr
  fn : Str → Bool
  calm : Bool
  pn : List (Addr × Obj)
  xe : Value → Shared → Prop
def frs (l : List Env) : List Addr := l.filterMap (·.frame)
abbrev Cx.fs (X : Cx) : List Addr := frs X.outer
def Vis (sc : Scope) (x : Str) : Prop := sc.names.lookup x = some .local ∨ sc.names.lookup x = some .cell ∨ sc.names.lookup x = some .free
def Loc (sc : Scope) (x : Str) : Prop := sc.names.lookup x = some .local ∨ sc.names.lookup x = some .cell
def Look (env : Env) (h : Heap) (m : Str → Option Value) (x : Str) (u : Value) : Prop :=
  (env.kindOf x = some .local ∧ m x = some u) ∨ ((env.kindOf x = some .cell ∨ env.kindOf x = some .free) ∧ ∃ c, env.cells.lookup x = some c ∧ h.IsCell c (some u))
structure Cx.Ok (X : Cx) : Prop where
  mod : Mod X.K X.mg X.base
  kind : X.env.scope.kind = .function
  glob : X.env.globals = mainGlobals
  blt : X.env.builtins = builtinsNs
  above : X.s₀.heap.objs.size ≤ X.env.locals
  inj : ∀ x y c, X.env.cells.lookup x = some c → X.env.cells.lookup y = some c → x = y
  has : ∀ x, (X.env.kindOf x = some .cell ∨ X.env.kindOf x = some .free) → ∃ c, X.env.cells.lookup x = some c
  cab : ∀ x c, X.fn x = true → X.env.cells.lookup x = some c → X.s₀.heap.objs.size ≤ c
  hd : X.calm = true → X.A.handled = none
  frames : X.A.frames = some X.stack
  stk : X.stack = X.outer ∨ (X.stack = X.env :: X.outer ∧ X.env.frame = some X.env.locals)
  exf : ∀ b ∈ X.ex, b ≠ X.env.locals ∧ ∀ x c, X.env.cells.lookup x = some c → c ≠ b
  bs : ∀ b o, X.base.get? b = some o → X.s₀.heap.get? b = some o ∧ X.H₀ b = none
  bsz : X.base.objs.size ≤ X.s₀.heap.objs.size
  noex : ∀ b o, X.base.get? b = some o → b ∉ X.ex
  exfs : ∀ b ∈ X.ex, b ∉ X.fs
  funs : X.s₀.heap.FunFrames X.base X.outer
  frf : ∀ b ∈ X.fs, X.H₀ b = none
structure Inv (X : Cx) (pins : List (Addr × Obj)) (σ : List (Option V)) (H : Hp) (s : Shared) : Prop where
  ok : X.Ok
  os : s.os = X.s₀.os
  bare : AllBare s.gens
  base : Un X.fs X.ex X.H₀ H X.s₀.heap s.heap
  loc : ∃ m, s.heap.Ns X.env.locals m ∧ ∀ (i : Nat) (x : Str) (v : V), X.N[i]? = some x → σ[i]? = some (some v) → Vis X.env.scope x → ∃ u, RelV v u ∧ Look X.env s.heap m x u
  cell : ∀ x c, X.env.cells.lookup x = some c → ∃ v, s.heap.IsCell c v
  free : H X.env.locals = none
  freeC : ∀ x c, X.env.cells.lookup x = some c → H c = none
  pin : ∀ p ∈ X.pn ++ pins, s.heap.get? p.1 = some p.2 ∧ H p.1 = none ∧ p.1 ≠ X.env.locals ∧ p.1 ∉ X.fs ∧ ∀ v, p.2.data ≠ .cell v
  hok : HOk X.prog X.w H s.heap
  len : σ.length = X.N.length
section
variable {X : Cx} {pins : List (Addr × Obj)} {σ : List (Option V)} {H H' : Hp} {s : Shared} {h' : Heap}
theorem Cx.Ok.nofr (ok : X.Ok) {b : Addr} {o : Obj} (e : X.base.get? b = some o) : b ∉ X.fs := fun hb => by
  have := (ok.funs.mem hb).1
  rw [e] at this; cases this
theorem Inv.bs (I : Inv X pins σ H s) : ∀ b o, X.base.get? b = some o → s.heap.get? b = some o ∧ H b = none := fun b o e =>
  ⟨I.base.keep b o (I.ok.bs b o e).1 (I.ok.bs b o e).2 (I.ok.nofr e) (I.ok.noex b o e), I.base.free b o (I.ok.bs b o e).1 (I.ok.bs b o e).2 (I.ok.noex b o e)⟩
theorem Inv.bk (I : Inv X pins σ H s) : ∀ b o, X.base.get? b = some o → s.heap.get? b = some o := fun b o e => (I.bs b o e).1
theorem Inv.mod (I : Inv X pins σ H s) : Mod X.K X.mg X.base := I.ok.mod
theorem Inv.kIn (I : Inv X pins σ H s) : X.K.In s.heap := I.ok.mod.kin.keeps I.bk
theorem Inv.lt (I : Inv X pins σ H s) : X.env.locals < s.heap.objs.size := let ⟨_, hn, _⟩ := I.loc; hn.lt
theorem Inv.sz (I : Inv X pins σ H s) : X.s₀.heap.objs.size ≤ s.heap.objs.size := Nat.le_trans I.ok.above (Nat.le_of_lt I.lt)
theorem Inv.nofs (I : Inv X pins σ H s) {a : Addr} (h : s.heap.objs.size ≤ a) : a ∉ X.fs := fun hb => by
  obtain ⟨_, o, ho, _⟩ := I.ok.funs.mem hb
  exact absurd (Nat.lt_of_lt_of_le (Heap.lt_size ho) (Nat.le_trans I.sz h)) (Nat.lt_irrefl _)
theorem Inv.cne (I : Inv X pins σ H s) : ∀ x c, X.env.cells.lookup x = some c → c ≠ X.env.locals := fun x c e z => by
  obtain ⟨v, o, ho, hd⟩ := I.cell x c e
  obtain ⟨m, ⟨o', es, ep, ho', hd', _⟩, _⟩ := I.loc
  rw [z, ho'] at ho; cases ho; rw [hd'] at hd; cases hd
theorem Inv.funs (I : Inv X pins σ H s) : s.heap.FunFrames X.base X.outer := by
  have all : ∀ (l : List Env), (∀ b ∈ frs l, b ∈ X.fs) → X.s₀.heap.FunFrames X.base l → s.heap.FunFrames X.base l := by
    intro l
    induction l with
    | nil => intro _ _; trivial
    | cons env r ih =>
      intro hs hl
      obtain ⟨hk, ⟨L, o, hf, hn, ho, hd⟩, hr⟩ := hl
      have hL : L ∈ X.fs := hs L (by unfold frs; rw [List.filterMap_cons, hf]; exact List.mem_cons_self)
      obtain ⟨sl, e⟩ := I.base.slot L o ho (I.ok.frf L hL) hL fun z => I.ok.exfs L z hL
      exact ⟨hk, ⟨L, _, hf, hn, e, hd⟩, ih (fun b hb => hs b (by unfold frs; rw [List.filterMap_cons, hf]; exact List.mem_cons_of_mem _ hb)) hr⟩
  exact all X.outer (fun _ hb => hb) I.ok.funs
theorem Inv.stack (I : Inv X pins σ H s) : s.heap.FunFrames X.base X.stack := by
  rcases I.ok.stk with e | ⟨e, hf⟩
  · rw [e]; exact I.funs
  · rw [e]
    obtain ⟨m, hn, _⟩ := I.loc
    refine .cons (by rw [I.ok.kind]; decide) hf hn ?_ I.funs
    exact Heap.get?_none_of_le (Nat.le_trans I.ok.bsz I.ok.above)
theorem Inv.stkSub (I : Inv X pins σ H s) : ∀ b ∈ frs X.stack, b ∈ X.env.locals :: X.fs := fun b hb => by
  rcases I.ok.stk with e | ⟨e, hf⟩
  · rw [e] at hb; exact List.mem_cons_of_mem _ hb
  · rw [e] at hb
    unfold frs at hb
    rw [List.filterMap_cons, hf] at hb
    exact hb
theorem Inv.stkFree (I : Inv X pins σ H s) : ∀ b ∈ frs X.stack, H b = none := fun b hb => by
  rcases List.mem_cons.mp (I.stkSub b hb) with e | hb
  · rw [e]; exact I.free
  · obtain ⟨_, o, ho, _⟩ := I.ok.funs.mem hb
    exact I.base.free b o ho (I.ok.frf b hb) fun z => I.ok.exfs b z hb
theorem Inv.step {g' : Array GenState} {t' : Nat} {d' : Drawn} {ch : List Addr} (I : Inv X pins σ H s)
    (hch : ∀ b ∈ ch, (b ∈ X.ex ∨ X.s₀.heap.objs.size ≤ b) ∧ b ≠ X.env.locals ∧ (∀ x c, X.env.cells.lookup x = some c → c ≠ b) ∧ ∀ p ∈ X.pn ++ pins, p.1 ≠ b)
    (keep : ∀ b o, b ≠ X.env.locals → b ∉ X.fs → b ∉ ch → s.heap.get? b = some o → H b = none → h'.get? b = some o)
    (slot : ∀ b o, b ≠ X.env.locals → b ∈ X.fs → b ∉ ch → s.heap.get? b = some o → H b = none → ∃ sl, h'.get? b = some { o with slots := sl }) (free : ∀ b o, b ∉ ch → s.heap.get? b = some o → H b = none → H' b = none)
    (there : ∀ b o, b ∉ ch → s.heap.get? b = some o → ∃ o', h'.get? b = some o')
    (tups : ∀ b xs, H b = some (.tup xs) → H' b = some (.tup xs)) (frzs : ∀ b o u, H b = some (.frz o u) → H' b = some (.frz o u)) (tbls : ∀ b ps, H b = some (.tbl ps) → ∃ more, H' b = some (.tbl (ps ++ more)))
    (ns : ∀ m, s.heap.Ns X.env.locals m → h'.Ns X.env.locals m) (hok : HOk X.prog X.w H' h') (hg : AllBare g') :
    Inv X pins σ H' { s with heap := h', gens := g', drawn := d', toks := t' } := by
  have neL : ∀ b o, X.s₀.heap.get? b = some o → b ≠ X.env.locals := fun b o e => Nat.ne_of_lt (Nat.lt_of_lt_of_le (Heap.lt_size e) I.ok.above)
  have neC : ∀ b o, X.s₀.heap.get? b = some o → b ∉ X.ex → b ∉ ch := fun b o e hx hb => by
    rcases (hch b hb).1 with z | z
    · exact hx z
    · exact absurd (Nat.lt_of_lt_of_le (Heap.lt_size e) z) (Nat.lt_irrefl _)
  have cellK : ∀ x c, X.env.cells.lookup x = some c → ∀ v, s.heap.IsCell c v → h'.IsCell c v := fun x c e v ⟨o, ho, hd⟩ => by
    have nch : c ∉ ch := fun z => (hch c z).2.2.1 x c e rfl
    by_cases hc : c ∈ X.fs
    · obtain ⟨sl, q⟩ := slot c o (I.cne x c e) hc nch ho (I.freeC x c e)
      exact ⟨_, q, hd⟩
    · exact ⟨o, keep c o (I.cne x c e) hc nch ho (I.freeC x c e), hd⟩
  refine ⟨I.ok, I.os, hg, ⟨fun b o e n hb hx => ?_, fun b o e n hb hx => ?_, fun b o e n hx => ?_, fun b o e hx => ?_, fun b xs e => tups b xs (I.base.tups b xs e), fun b o xs e => frzs b o xs (I.base.frzs b o xs e), fun b ps e => ?_⟩, ?_, fun x c e => ?_, ?_, fun x c e => ?_, fun p hp => ?_, hok, I.len⟩
  · exact keep b o (neL b o e) hb (neC b o e hx) (I.base.keep b o e n hb hx) (I.base.free b o e n hx)
  · obtain ⟨sl, e1⟩ := I.base.slot b o e n hb hx
    obtain ⟨sl', e2⟩ := slot b _ (neL b o e) hb (neC b o e hx) e1 (I.base.free b o e n hx)
    exact ⟨sl', e2⟩
  · obtain ⟨o', e1⟩ := I.base.there b o e hx
    exact free b o' (neC b o e hx) e1 (I.base.free b o e n hx)
  · obtain ⟨o', e1⟩ := I.base.there b o e hx
    exact there b o' (neC b o e hx) e1
  · obtain ⟨m1, e1⟩ := I.base.tbls b ps e
    obtain ⟨m2, e2⟩ := tbls b _ e1
    exact ⟨m1 ++ m2, by rw [e2, Array.append_assoc]⟩
  · obtain ⟨m, hn, hl⟩ := I.loc
    refine ⟨m, ns m hn, fun i x v e1 e2 e3 => ?_⟩
    obtain ⟨u, r, l⟩ := hl i x v e1 e2 e3
    refine ⟨u, r, ?_⟩
    rcases l with l | ⟨k, c, e, z⟩
    · exact .inl l
    · exact .inr ⟨k, c, e, cellK x c e _ z⟩
  · obtain ⟨v, z⟩ := I.cell x c e
    exact ⟨v, cellK x c e v z⟩
  · obtain ⟨m, ⟨o, _, _, ho, _⟩, _⟩ := I.loc
    exact free _ o (fun z => (hch _ z).2.1 rfl) ho I.free
  · obtain ⟨v, o, ho, hd⟩ := I.cell x c e
    exact free c o (fun z => (hch c z).2.2.1 x c e rfl) ho (I.freeC x c e)
  · obtain ⟨e, n, ne, nf, d⟩ := I.pin p hp
    have nch : p.1 ∉ ch := fun z => (hch p.1 z).2.2.2 p hp rfl
    exact ⟨keep p.1 p.2 ne nf nch e n, free p.1 p.2 nch e n, ne, nf, d⟩
theorem Inv.un {t' : Nat} (I : Inv X pins σ H s) (u : Un X.fs [] H H' s.heap h') (hok : HOk X.prog X.w H' h') : Inv X pins σ H' { s with heap := h', toks := t' } := by
  obtain ⟨m, ⟨o, es, ep, ho, r⟩, _⟩ := id I.loc
  obtain ⟨sl, hL⟩ := u.any ho I.free (by simp)
  exact I.step (g' := s.gens) (d' := s.drawn) (ch := []) (fun _ z => nomatch z) (fun b o _ hb _ e n => u.keep b o e n hb (by simp)) (fun b o _ hb _ e n => u.slot b o e n hb (by simp)) (fun b o _ e n => u.free b o e n (by simp)) (fun b o _ e => u.there b o e (by simp)) u.tups u.frzs u.tbls (fun m' hm => by
    obtain ⟨o', es', ep', ho', r'⟩ := hm
    rw [ho] at ho'; cases ho'
    exact ⟨_, es', ep', hL, r'⟩) hok I.bare
theorem Inv.call {g' : Array GenState} {t' : Nat} {d' : Drawn} {ch : List Addr} (I : Inv X pins σ H s) (u : Un (frs X.stack) ch H H' s.heap h') (hok : HOk X.prog X.w H' h') (hg : AllBare g')
    (hch : ∀ b ∈ ch, (b ∈ X.ex ∨ X.s₀.heap.objs.size ≤ b) ∧ b ≠ X.env.locals ∧ (∀ x c, X.env.cells.lookup x = some c → c ≠ b) ∧ ∀ p ∈ X.pn ++ pins, p.1 ≠ b) :
    Inv X pins σ H' { s with heap := h', gens := g', drawn := d', toks := t' } := by
  obtain ⟨m, ⟨o, es, ep, ho, r⟩, _⟩ := id I.loc
  obtain ⟨sl, hL⟩ := u.any ho I.free fun z => (hch _ z).2.1 rfl
  exact I.step (ch := ch) hch (fun b o hL hb hc e n => u.keep b o e n (fun z => (List.mem_cons.mp (I.stkSub b z)).elim hL hb) hc) (fun b o _ _ hc e n => u.any e n hc) (fun b o hc e n => u.free b o e n hc) (fun b o hc e => u.there b o e hc) u.tups u.frzs u.tbls (fun m' hm => by
    obtain ⟨o', es', ep', ho', r'⟩ := hm
    rw [ho] at ho'; cases ho'
    exact ⟨_, es', ep', hL, r'⟩) hok hg
theorem Inv.turned {t' : Nat} {it : Addr} (I : Inv X pins σ H s) (k : ∀ b o, b ≠ it → s.heap.get? b = some o → h'.get? b = some o) (hn : H it = none) (hL : it ≠ X.env.locals)
    (h1 : it ∈ X.ex ∨ X.s₀.heap.objs.size ≤ it) (h2 : ∀ x c, X.env.cells.lookup x = some c → c ≠ it) (h3 : ∀ p ∈ X.pn ++ pins, p.1 ≠ it) : Inv X pins σ H { s with heap := h', toks := t' } := by
  have nit : ∀ b u, H b = some u → b ≠ it := fun b u e z => by rw [z, hn] at e; cases e
  refine I.step (g' := s.gens) (d' := s.drawn) (ch := [it]) (fun b hb => ?_) (fun b o _ _ hc e _ => k b o (fun z => hc (by simp [z])) e) (fun b o _ _ hc e _ => ⟨o.slots, k b o (fun z => hc (by simp [z])) e⟩) (fun _ _ _ _ n => n)
    (fun b o hc e => ⟨o, k b o (fun z => hc (by simp [z])) e⟩) (fun _ _ e => e) (fun _ _ _ e => e) (fun b ps e => ⟨#[], by rw [e]; simp⟩) (fun m hm => ?_) (fun b u e => ?_) I.bare
  · have e : b = it := by simpa using hb
    subst e
    exact ⟨h1, hL, h2, h3⟩
  · obtain ⟨o, es, ep, ho, r⟩ := hm
    exact ⟨o, es, ep, k _ o (Ne.symm hL) ho, r⟩
  · refine (I.hok b u e).stay (fun c v hc q => k c v ?_ q) (fun _ q => q) fun _ _ q => q
    rcases hc with z | z
    · rw [z]; exact nit b u e
    · exact nit c _ z
theorem Inv.tok (I : Inv X pins σ H s) (t : Nat) : Inv X pins σ H { s with toks := t } := I.un (h' := s.heap) (t' := t) Un.refl I.hok
theorem Inv.kept {t' : Nat} (I : Inv X pins σ H s) (k : ∀ b u, s.heap.get? b = some u → h'.get? b = some u) : Inv X pins σ H { s with heap := h', toks := t' } := I.un (Un.kept k) (I.hok.kept k)
theorem Inv.laid {a : Addr} {o : HO} {t' : Nat} (I : Inv X pins σ H s) (k : ∀ b u, s.heap.get? b = some u → h'.get? b = some u) (hp : s.heap.objs.size ≤ a) (new : ObjOk X.prog X.w (upd H a o) h' a o) :
    Inv X pins σ (upd H a o) { s with heap := h', toks := t' } := I.un (Un.laid k hp (I.hok.fresh hp)) (I.hok.laid k hp new)
theorem Inv.write {x e : Addr} {o : HO} {t' : Nat} (I : Inv X pins σ H s) (mu : Mut (H x)) (he : e = x ∨ H e = some (.own x)) (k : ∀ b u, b ≠ e → s.heap.get? b = some u → h'.get? b = some u) (heo : ∃ u, h'.get? e = some u)
    (new : ObjOk X.prog X.w (upd H x o) h' x o) : Inv X pins σ (upd H x o) { s with heap := h', toks := t' } := I.un (Un.write mu he k heo) (I.hok.write mu he k heo new)
theorem Inv.pins_of {pins' : List (Addr × Obj)} (I : Inv X pins σ H s) (h : ∀ p ∈ pins', s.heap.get? p.1 = some p.2 ∧ H p.1 = none ∧ p.1 ≠ X.env.locals ∧ p.1 ∉ X.fs ∧ ∀ v, p.2.data ≠ .cell v) : Inv X pins' σ H s :=
  ⟨I.ok, I.os, I.bare, I.base, I.loc, I.cell, I.free, I.freeC, fun p hp => (List.mem_append.mp hp).elim (fun z => I.pin p (List.mem_append_left _ z)) (h p), I.hok, I.len⟩
theorem nodup_ix {N : List Str} (hN : N.Nodup) {i j : Nat} {x : Str} (a : N[i]? = some x) (b : N[j]? = some x) : i = j := by
  obtain ⟨h1, e1⟩ := List.getElem?_eq_some_iff.mp a
  obtain ⟨h2, e2⟩ := List.getElem?_eq_some_iff.mp b
  exact (List.getElem_inj hN).mp (e1.trans e2.symm)
theorem store_ok2 {M : Model} {A : Around} {E : Value → Shared → Prop} {i : Nat} {x : Str} {v : V} {u : Value} {Q : Unit → Shared → Prop} (I : Inv X pins σ H s) (hN : X.N.Nodup) (hi : X.N[i]? = some x) (hx : Loc X.env.scope x) (r : RelV v u)
    (h : ∀ s', Inv X pins (σ.set i (some v)) H s' → (∃ a, Heap.SameBut a s.heap s'.heap ∧ (a = X.env.locals ∨ X.env.cells.lookup x = some a)) → Q () s') (hf : X.fn x = true ∨ X.env.scope.names.lookup x = some .local := by first | exact .inl rfl | exact .inr rfl | assumption) : wpAny M A (storeName X.env x u) Q E s := by
  obtain ⟨m, hn, hl⟩ := id I.loc
  have hcls : (X.env.scope.kind == .class || (X.env.scope.kind == .module && X.env.locals != X.env.globals)) = false := by rw [I.ok.kind]; rfl
  have hiσ : i < σ.length := by rw [I.len]; exact (List.getElem?_eq_some_iff.mp hi).1
  have cne := I.cne
  have tracked : ∀ {a : Addr} {h' : Heap}, (∃ o, s.heap.get? a = some o ∧ H a = none) → Heap.SameBut a s.heap h' → HOk X.prog X.w H h' := fun {a h'} ha hs b ob e => by
    obtain ⟨_, _, hfree⟩ := ha
    refine (I.hok b ob e).stay (fun c w' hc q => (hs.2 c ?_).trans q) (fun _ q => q) fun _ _ q => q
    rintro rfl
    rcases hc with rfl | hc
    · rw [hfree] at e; cases e
    · rw [hfree] at hc; cases hc
  rcases hx with hk | hk
  · refine wpAny_storeName_local hk hn (fun h' hn' hs => ?_) hcls
    obtain ⟨oL, _, _, hoL, _⟩ := id hn
    refine h _ ⟨I.ok, I.os, I.bare, ⟨fun b o e n hb hx => ?_, fun b o e n hb hx => ?_, I.base.free, fun b o e hx => ?_, I.base.tups, I.base.frzs, I.base.tbls⟩, ⟨_, hn', fun j y v' e1 e2 e3 => ?_⟩, fun y c e => ?_, I.free, I.freeC, fun p hp => ?_, tracked ⟨oL, hoL, I.free⟩ hs, by simpa using I.len⟩ ⟨_, hs, .inl rfl⟩
    · exact (hs.2 b (Nat.ne_of_lt (Nat.lt_of_lt_of_le (Heap.lt_size e) I.ok.above))).trans (I.base.keep b o e n hb hx)
    · obtain ⟨sl, e1⟩ := I.base.slot b o e n hb hx
      exact ⟨sl, (hs.2 b (Nat.ne_of_lt (Nat.lt_of_lt_of_le (Heap.lt_size e) I.ok.above))).trans e1⟩
    · obtain ⟨o', e1⟩ := I.base.there b o e hx
      exact ⟨o', (hs.2 b (Nat.ne_of_lt (Nat.lt_of_lt_of_le (Heap.lt_size e) I.ok.above))).trans e1⟩
    · by_cases hj : j = i
      · subst hj
        rw [hi] at e1; cases e1
        rw [List.getElem?_set_self hiσ] at e2
        cases e2
        exact ⟨u, r, .inl ⟨hk, by simp⟩⟩
      · rw [List.getElem?_set_ne (Ne.symm hj)] at e2
        obtain ⟨u', r', q⟩ := hl j y v' e1 e2 e3
        refine ⟨u', r', ?_⟩
        rcases q with ⟨k, e⟩ | ⟨k, c, e, z⟩
        · refine .inl ⟨k, ?_⟩
          have : y ≠ x := fun e => hj (nodup_ix hN e1 (e ▸ hi))
          simp [this, e]
        · exact .inr ⟨k, c, e, z.sameBut hs (cne y c e)⟩
    · obtain ⟨w', z⟩ := I.cell y c e
      exact ⟨w', z.sameBut hs (cne y c e)⟩
    · obtain ⟨e, n, ne, nf, d⟩ := I.pin p hp
      exact ⟨(hs.2 p.1 ne).trans e, n, ne, nf, d⟩
  · have hfn : X.fn x = true := by
      rcases hf with z | z
      · exact z
      · rw [z] at hk; cases hk
    obtain ⟨c, hc⟩ := I.ok.has x (.inl hk)
    obtain ⟨w', z⟩ := I.cell x c hc
    refine wpAny_storeName_cell I.ok.kind hk hc z (fun h' hc' hs => ?_)
    obtain ⟨oc, hoc, hocd⟩ := id z
    refine h { s with heap := h' } ⟨I.ok, I.os, I.bare, ⟨fun b o e n hb hx => ?_, fun b o e n hb hx => ?_, I.base.free, fun b o e hx => ?_, I.base.tups, I.base.frzs, I.base.tbls⟩, ⟨m, hn.sameBut hs (Ne.symm (cne x c hc)), fun j y v' e1 e2 e3 => ?_⟩, fun y c' e => ?_, I.free, I.freeC, fun p hp => ?_, tracked ⟨oc, hoc, I.freeC x c hc⟩ hs, by simpa using I.len⟩ ⟨c, hs, .inr hc⟩
    · exact (hs.2 b (Nat.ne_of_lt (Nat.lt_of_lt_of_le (Heap.lt_size e) (I.ok.cab x c hfn hc)))).trans (I.base.keep b o e n hb hx)
    · obtain ⟨sl, e1⟩ := I.base.slot b o e n hb hx
      exact ⟨sl, (hs.2 b (Nat.ne_of_lt (Nat.lt_of_lt_of_le (Heap.lt_size e) (I.ok.cab x c hfn hc)))).trans e1⟩
    · obtain ⟨o', e1⟩ := I.base.there b o e hx
      exact ⟨o', (hs.2 b (Nat.ne_of_lt (Nat.lt_of_lt_of_le (Heap.lt_size e) (I.ok.cab x c hfn hc)))).trans e1⟩
    · by_cases hj : j = i
      · subst hj
        rw [hi] at e1; cases e1
        rw [List.getElem?_set_self hiσ] at e2
        cases e2
        exact ⟨u, r, .inr ⟨.inl hk, c, hc, hc'⟩⟩
      · rw [List.getElem?_set_ne (Ne.symm hj)] at e2
        obtain ⟨u', r', q⟩ := hl j y v' e1 e2 e3
        refine ⟨u', r', ?_⟩
        rcases q with q | ⟨k, c', e, z'⟩
        · exact .inl q
        · refine .inr ⟨k, c', e, z'.sameBut hs ?_⟩
          rintro rfl
          exact hj (nodup_ix hN e1 (I.ok.inj _ _ _ e hc ▸ hi))
    · by_cases hcc : c' = c
      · subst hcc; exact ⟨_, hc'⟩
      · obtain ⟨w2, z2⟩ := I.cell y c' e
        exact ⟨w2, z2.sameBut hs hcc⟩
    · obtain ⟨e, n, ne, nf, d⟩ := I.pin p hp
      refine ⟨(hs.2 p.1 ?_).trans e, n, ne, nf, d⟩
      intro q
      rw [q, hoc] at e
      have q' : oc = p.2 := Option.some.inj e
      exact d w' (by rw [← q']; exact hocd)
theorem store_ok {M : Model} {A : Around} {E : Value → Shared → Prop} {i : Nat} {x : Str} {v : V} {u : Value} {Q : Unit → Shared → Prop} (I : Inv X pins σ H s) (hN : X.N.Nodup) (hi : X.N[i]? = some x) (hx : Loc X.env.scope x) (r : RelV v u)
    (h : ∀ s', Inv X pins (σ.set i (some v)) H s' → Q () s') (hf : X.fn x = true ∨ X.env.scope.names.lookup x = some .local := by first | exact .inl rfl | exact .inr rfl | assumption) : wpAny M A (storeName X.env x u) Q E s :=
  store_ok2 I hN hi hx r (fun s' I' _ => h s' I') hf
theorem Inv.call' {s' : Shared} {ch : List Addr} (I : Inv X pins σ H s) (ho : s'.os = s.os) (u : Un (frs X.stack) ch H H' s.heap s'.heap) (hok : HOk X.prog X.w H' s'.heap) (hg : AllBare s'.gens)
    (hch : ∀ b ∈ ch, (b ∈ X.ex ∨ X.s₀.heap.objs.size ≤ b) ∧ b ≠ X.env.locals ∧ (∀ x c, X.env.cells.lookup x = some c → c ≠ b) ∧ ∀ p ∈ X.pn ++ pins, p.1 ≠ b) : Inv X pins σ H' s' := by
  obtain ⟨h', g', d', t', o'⟩ := s'
  have e : o' = s.os := ho
  subst e
  exact I.call (g' := g') (t' := t') (d' := d') u hok hg hch
end
abbrev XK := Value → Option Addr → Hp → Prop
abbrev St := List (Option V)
abbrev VK := V → Hp → Prop
abbrev TE := St → Hp → VK → Prop
abbrev TT := St → Hp → (Bool → Hp → Prop) → Prop
abbrev TA := St → Hp → (List V → Hp → Prop) → Prop
structure Ends where
  nx : St → Hp → Prop
  rt : VK
  bk : St → Hp → Prop := fun _ _ => False
  ct : St → Hp → Prop := fun _ _ => False
abbrev TS := Ends → St → Hp → Prop
def EP (X : Cx) (pins : List (Addr × Obj)) (σ : St) (Q : VK) (u : Value) (s' : Shared) : Prop := ∃ v H', Inv X pins σ H' s' ∧ RelV v u ∧ Q v H'
def TP (X : Cx) (pins : List (Addr × Obj)) (σ : St) (Q : Bool → Hp → Prop) (b : Bool) (s' : Shared) : Prop := ∃ H', Inv X pins σ H' s' ∧ Q b H'
def AP (X : Cx) (pins : List (Addr × Obj)) (σ : St) (Q : List V → Hp → Prop) (us : List Value) (s' : Shared) : Prop := ∃ vs H', Inv X pins σ H' s' ∧ Vals vs us ∧ Q vs H'
def SP (X : Cx) (pins : List (Addr × Obj)) (D : Ends) (f : Flow) (s' : Shared) : Prop :=
  match f with
  | .next => ∃ σ' H', Inv X pins σ' H' s' ∧ D.nx σ' H'
  | .brk => ∃ σ' H', Inv X pins σ' H' s' ∧ D.bk σ' H'
  | .cont => ∃ σ' H', Inv X pins σ' H' s' ∧ D.ct σ' H'
  | .ret u => ∃ v σ' H', Inv X pins σ' H' s' ∧ RelV v u ∧ D.rt v H'
def PE (X : Cx) (e : Expr) (t : TE) : Prop :=
  ∀ (pins : List (Addr × Obj)) (s : Shared) (σ : St) (H : Hp) (Q : VK), Inv X pins σ H s → t σ H Q → wpAny (model X.prog X.w) X.A (eval e X.env) (EP X pins σ Q) X.xe s
def PT (X : Cx) (e : Expr) (t : TT) : Prop :=
  ∀ (pins : List (Addr × Obj)) (s : Shared) (σ : St) (H : Hp) (Q : Bool → Hp → Prop), Inv X pins σ H s → t σ H Q → wpAny (model X.prog X.w) X.A (isTrue e X.env (eval e X.env)) (TP X pins σ Q) X.xe s
def PW (X : Cx) (e : Expr) (t : TT) : Prop :=
  ∀ (whole : Sem Value) (pins : List (Addr × Obj)) (s : Shared) (σ : St) (H : Hp) (Q : Bool → Hp → Prop), Inv X pins σ H s → t σ H Q → wpAny (model X.prog X.w) X.A (isTrue e X.env whole) (TP X pins σ Q) X.xe s
theorem PW.pt {X : Cx} {e : Expr} {t : TT} (h : PW X e t) : PT X e t := h _
def PA (X : Cx) (es : List Expr) (t : TA) : Prop :=
  ∀ (pos : PySem.Pos) (pins : List (Addr × Obj)) (s : Shared) (σ : St) (H : Hp) (Q : List V → Hp → Prop), Inv X pins σ H s → t σ H Q → wpAny (model X.prog X.w) X.A (spliced (backTo pos (starEach es X.env))) (AP X pins σ Q) X.xe s
def PS (X : Cx) (st : Stmt) (t : TS) : Prop :=
  ∀ (pins : List (Addr × Obj)) (s : Shared) (σ : St) (H : Hp) (D : Ends), Inv X pins σ H s → t D σ H → wpAny (model X.prog X.w) X.A (exec st X.env) (SP X pins D) X.xe s
def PSs (X : Cx) (st : List Stmt) (t : TS) : Prop :=
  ∀ (pins : List (Addr × Obj)) (s : Shared) (σ : St) (H : Hp) (D : Ends), Inv X pins σ H s → t D σ H → wpAny (model X.prog X.w) X.A (execs st X.env) (SP X pins D) X.xe s
theorem thn {α : Type} {t : Sem α} {Q Q' : α → Shared → Prop} {M : Model} {A : Around} {E : Value → Shared → Prop} {s : Shared} (h : wpAny M A t Q E s) (hQ : ∀ a s, Q a s → Q' a s) : wpAny M A t Q' E s := wpAny_mono h hQ fun _ _ x => x
end L2
namespace L2
open PySem PySem.Spec PyProof.Rows
section
variable {X : Cx}
def tVar (i : Nat) : TE := fun σ H Q => ∃ v, σ[i]? = some (some v) ∧ Q v H
def tC (v : V) : TE := fun _ H Q => Q v H
theorem pe_var {i : Nat} {x : Str} {pos : PySem.Pos} (hN : X.N[i]? = some x) (hv : Vis X.env.scope x) (hd : (x == ("__debug__" : Str)) = false := by decide) (hcd : (x == ("__classdict__" : Str)) = false := by decide) : PE X (.Name x pos) (tVar i) := by
  intro pins s σ H Q I h
  obtain ⟨v, e, h⟩ := h
  obtain ⟨m, hn, hl⟩ := I.loc
  obtain ⟨u, r, l⟩ := hl i x v hN e hv
  have fin : EP X pins σ Q u s := ⟨v, H, I, r, h⟩
  rcases l with ⟨hk, hm⟩ | ⟨hk, c, hc, hcell⟩
  · exact wpAny_Name (wpAny_loadName_local I.ok.kind hk hn hm fin) hd
  · rcases hk with hk | hk
    · exact wpAny_Name (wpAny_loadName_cell I.ok.kind hk hc hcell fin) hd
    · exact wpAny_Name (wpAny_loadName_free I.ok.kind hk hc hcell fin hcd) hd
theorem pe_int {i j pos} : PE X (.Constant (.int i) j pos) (tC (.int i)) := fun _ _ _ H _ I h => wpAny_Constant_int ⟨.int i, H, I.tok _, ⟨_, rfl⟩, h⟩
theorem pe_bl {b j pos} : PE X (.Constant (.bool b) j pos) (tC (.bl b)) := fun _ _ _ H _ I h => Constant_bool ⟨.bl b, H, I, rfl, h⟩
theorem pe_non {j pos} : PE X (.Constant .none j pos) (tC .non) := fun _ _ _ H _ I h => Constant_none ⟨.non, H, I, rfl, h⟩
theorem pe_str {x j pos} : PE X (.Constant (.str x) j pos) (tC (.str x)) := fun _ _ _ H _ I h => Calls.Constant_str ⟨.str x, H, I.tok _, ⟨_, rfl⟩, h⟩
def Gl (X : Cx) (x : Str) : Prop := X.env.kindOf x = some .globalImplicit
theorem ld_glob {E : Value → Shared → Prop} {pins : List (Addr × Obj)} {s : Shared} {σ : St} {H : Hp} {x : Str} {u : Value} {pos : PySem.Pos} {Q : Value → Shared → Prop} (I : Inv X pins σ H s) (hg : Gl X x) (hm : X.mg x = some u) (h : Q u s)
    (hd : (x == ("__debug__" : Str)) = false := by decide) : wpAny (model X.prog X.w) X.A (eval (.Name x pos) X.env) Q E s :=
  Calls.Name_function_global I.ok.kind hg (Calls.loadGlobal_global (by rw [I.ok.glob]; exact I.mod.glob.keeps I.bk) hm h) hd
theorem ld_blt {E : Value → Shared → Prop} {pins : List (Addr × Obj)} {s : Shared} {σ : St} {H : Hp} {x : Str} {u : Value} {pos : PySem.Pos} {Q : Value → Shared → Prop} (I : Inv X pins σ H s) (hg : Gl X x) (hm : X.mg x = none) (hv : bootBuiltins x = some u) (h : Q u s)
    (hn : x ≠ "__name__" := by decide) (hd : (x == ("__debug__" : Str)) = false := by decide) : wpAny (model X.prog X.w) X.A (eval (.Name x pos) X.env) Q E s := by
  obtain ⟨mb, h1, h2⟩ := I.mod.blt
  exact Calls.Name_function_global I.ok.kind hg (Calls.loadGlobal_builtin (by rw [I.ok.glob]; exact I.mod.glob.keeps I.bk) hm (by rw [I.ok.blt]; exact h1.keeps I.bk) ((h2 x hn).trans hv) h) hd
theorem pe_glob {x : Str} {v : V} {u : Value} {pos : PySem.Pos} (hg : Gl X x) (hm : X.mg x = some u) (r : RelV v u) (hd : (x == ("__debug__" : Str)) = false := by decide) : PE X (.Name x pos) (tC v) :=
  fun _ _ _ H _ I h => ld_glob I hg hm ⟨v, H, I, r, h⟩ hd
theorem pe_bltn {x : Str} {v : V} {u : Value} {pos : PySem.Pos} (hg : Gl X x) (hm : X.mg x = none) (hv : bootBuiltins x = some u) (r : RelV v u) (hn : x ≠ "__name__" := by decide) (hd : (x == ("__debug__" : Str)) = false := by decide) : PE X (.Name x pos) (tC v) :=
  fun _ _ _ H _ I h => ld_blt I hg hm hv ⟨v, H, I, r, h⟩ hn hd
variable {a b : Expr} {ta tb : TE} {pos : PySem.Pos}
def tB (t : TE) : TT := fun σ H Q => t σ H fun x H1 => ∃ c, x = .bl c ∧ Q c H1
theorem pt_val {e : Expr} {t : TE} (h : PE X e t) (he : ∀ whole, isTrue e X.env whole = (do let v ← whole; standAt e.pos; holding [v] (truthy v)) := by intro _; rfl) : PT X e (tB t) := by
  intro pins s σ H Q I hw
  refine isTrue_plain (thn (h pins s σ H _ I hw) fun v s1 ⟨x, H1, I1, r1, q1⟩ => ?_) (he _)
  obtain ⟨d, rfl, q⟩ := q1
  cases r1
  exact wpAny_truthy_bool ⟨H1, I1, q⟩
variable {tA tB' : TT} {rest : List Expr}
def tAnd (t u : TT) : TT := fun σ H Q => t σ H fun c H1 => if c = true then u σ H1 Q else Q false H1
def tOr (t u : TT) : TT := fun σ H Q => t σ H fun c H1 => if c = true then Q true H1 else u σ H1 Q
def tNot (t : TT) : TT := fun σ H Q => t σ H fun c H1 => Q (!c) H1
theorem pw_and1 (ha : PT X a tA) : PW X (.BoolOp .And [a] pos) tA := by
  intro wh pins s σ H Q I h
  refine isTrue_and (thn (ha pins s σ H Q I h) fun c s1 e => ?_)
  cases c with
  | true => exact isTrue_and_nil e
  | false => exact e
theorem pw_or1 (ha : PT X a tA) : PW X (.BoolOp .Or [a] pos) tA := by
  intro wh pins s σ H Q I h
  refine isTrue_or (thn (ha pins s σ H Q I h) fun c s1 e => ?_)
  cases c with
  | false => exact isTrue_or_nil e
  | true => exact e
theorem pw_and (ha : PT X a tA) (hb : PW X (.BoolOp .And (b :: rest) pos) tB') : PW X (.BoolOp .And (a :: b :: rest) pos) (tAnd tA tB') := by
  intro wh pins s σ H Q I h
  refine isTrue_and (thn (ha pins s σ H _ I h) fun c s1 ⟨H1, I1, q1⟩ => ?_)
  cases c with
  | true => exact hb wh pins s1 σ H1 Q I1 q1
  | false => exact ⟨H1, I1, q1⟩
theorem pw_or (ha : PT X a tA) (hb : PW X (.BoolOp .Or (b :: rest) pos) tB') : PW X (.BoolOp .Or (a :: b :: rest) pos) (tOr tA tB') := by
  intro wh pins s σ H Q I h
  refine isTrue_or (thn (ha pins s σ H _ I h) fun c s1 ⟨H1, I1, q1⟩ => ?_)
  cases c with
  | true => exact ⟨H1, I1, q1⟩
  | false => exact hb wh pins s1 σ H1 Q I1 q1
theorem pt_not (ha : PT X a tA) : PT X (.UnaryOp .Not a pos) (tNot tA) := by
  intro pins s σ H Q I h
  exact isTrue_not (ha pins s σ H (fun c H1 => Q (!c) H1) I h)
def tAndV (ta tb : TE) : TE := fun σ H Q => ta σ H fun x H1 => ∃ c, x = .bl c ∧ if c = true then tb σ H1 Q else Q (.bl false) H1
def tOrV (ta tb : TE) : TE := fun σ H Q => ta σ H fun x H1 => ∃ c, x = .bl c ∧ if c = true then Q (.bl true) H1 else tb σ H1 Q
def tNotV (ta : TE) : TE := fun σ H Q => ta σ H fun x H1 => ∃ c, x = .bl c ∧ Q (.bl (!c)) H1
theorem pe_one {op} {t : TE} (h : PE X a t) : PE X (.BoolOp op [a] pos) t := fun pins s σ H Q I hw => BoolOp_one (h pins s σ H Q I hw)
theorem pe_and (ha : PE X a ta) (hb : PE X (.BoolOp .And (b :: rest) pos) tb) : PE X (.BoolOp .And (a :: b :: rest) pos) (tAndV ta tb) := by
  intro pins s σ H Q I h
  refine BoolOp_and (thn (ha pins s σ H _ I h) fun v s1 ⟨x, H1, I1, r1, q1⟩ => ?_)
  obtain ⟨c, rfl, q1⟩ := q1
  cases r1
  refine wpAny_truthy_bool ?_
  cases c with
  | true => exact hb pins s1 σ H1 Q I1 q1
  | false => exact ⟨.bl false, H1, I1, rfl, q1⟩
theorem pe_or (ha : PE X a ta) (hb : PE X (.BoolOp .Or (b :: rest) pos) tb) : PE X (.BoolOp .Or (a :: b :: rest) pos) (tOrV ta tb) := by
  intro pins s σ H Q I h
  refine BoolOp_or (thn (ha pins s σ H _ I h) fun v s1 ⟨x, H1, I1, r1, q1⟩ => ?_)
  obtain ⟨c, rfl, q1⟩ := q1
  cases r1
  refine wpAny_truthy_bool ?_
  cases c with
  | false => exact hb pins s1 σ H1 Q I1 q1
  | true => exact ⟨.bl true, H1, I1, rfl, q1⟩
theorem pe_not (ha : PE X a ta) : PE X (.UnaryOp .Not a pos) (tNotV ta) := by
  intro pins s σ H Q I h
  refine UnaryOp_ (thn (ha pins s σ H _ I h) fun v s1 ⟨x, H1, I1, r1, q1⟩ => ?_)
  obtain ⟨c, rfl, q1⟩ := q1
  cases r1
  exact not_of (wpAny_truthy_bool ⟨.bl (!c), H1, I1, rfl, q1⟩)
def tIf (t : TT) (ta tb : TE) : TE := fun σ H Q => t σ H fun c H1 => if c = true then ta σ H1 Q else tb σ H1 Q
theorem pe_ifExp {c : Expr} (hc : PT X c tA) (ha : PE X a ta) (hb : PE X b tb) : PE X (.IfExp c a b pos) (tIf tA ta tb) := by
  intro pins s σ H Q I h
  refine wpAny_IfExp (thn (hc pins s σ H _ I h) fun d s1 ⟨H1, I1, q1⟩ => ?_)
  cases d with
  | true => exact ha pins s1 σ H1 Q I1 q1
  | false => exact hb pins s1 σ H1 Q I1 q1
end
end L2
namespace L2
open PySem PySem.Spec PyProof.Rows
def SqL (K : PySem.W.Frag) (H : Hp) (a : Addr) (xs : List V) : Prop :=
  Rd H a (.lst xs) ∨
    ∃ (o : Obj) (its : Array Value) (n : Nat), K.lookup a = some o ∧ o.cls = .type "list" ∧ o.dict = none ∧ o.data = .seq its n ∧ its.size ≤ sizeLine ∧ Vals xs its.toList
def SqT (K : PySem.W.Frag) (H : Hp) (a : Addr) (xs : List V) : Prop :=
  Rd H a (.tup xs) ∨
    ∃ (o : Obj) (its : Array Value) (n : Nat), K.lookup a = some o ∧ o.cls = .type "tuple" ∧ o.data = .seq its n ∧ its.size ≤ sizeLine ∧ Vals xs its.toList
def absV : Value → Option V
  | .none => some .non
  | .bool b => some (.bl b)
  | .int i _ => some (.int i)
  | .str x _ => some (.str x)
  | .bytes b _ => some (.byt b)
  | .float b _ => some (.flt b)
  | .ref a => some (.ref a)
  | .type n => some (.ty n)
  | _ => none
theorem RelV.abs {x : V} {u : Value} (r : RelV x u) : absV u = some x := by
  cases x with
  | non => cases r; rfl
  | bl _ => cases r; rfl
  | int _ => obtain ⟨t, rfl⟩ := r; rfl
  | str _ => obtain ⟨t, rfl⟩ := r; rfl
  | byt _ => obtain ⟨t, rfl⟩ := r; rfl
  | flt _ => obtain ⟨t, rfl⟩ := r; rfl
  | ref _ => cases r; rfl
  | ty _ => cases r; rfl
theorem RelV.inj {x y : V} {u : Value} (r : RelV x u) (q : RelV y u) : x = y := Option.some.inj (r.abs.symm.trans q.abs)
theorem Vals.inj : ∀ {xs ys : List V} {us : List Value}, Vals xs us → Vals ys us → xs = ys
  | _, _, _, .nil, .nil => rfl
  | _, _, _, .cons r t, .cons r' t' => by rw [r.inj r', Vals.inj t t']
section
variable {X : Cx} {pins : List (Addr × Obj)} {σ : St} {H : Hp} {s : Shared} {a : Addr} {xs ys : List V}
theorem SqL.of {K : PySem.W.Frag} (h : H a = some (.lst xs)) : SqL K H a xs := .inl (.inl h)
theorem SqT.of {K : PySem.W.Frag} (h : H a = some (.tup xs)) : SqT K H a xs := .inl (.inl h)
theorem Inv.list (I : Inv X pins σ H s) (h : SqL X.K H a xs) : ∃ its : List Value, Vals xs its ∧ PlainL s.heap a its.toArray ∧ xs.length ≤ sizeLine := by
  rcases h with h | ⟨o, its, n, hk, hc, hd, hs, hz, r⟩
  · obtain ⟨z, its, n, r, e⟩ := h.ok I.hok
    exact ⟨its, r, ⟨_, n, e, rfl, rfl, rfl⟩, z⟩
  · refine ⟨its.toList, r, ⟨o, n, I.kIn a o hk, hc, hd, by simpa using hs⟩, ?_⟩
    have e := r.length
    simp only [Array.length_toList] at e
    omega
theorem Inv.tuple (I : Inv X pins σ H s) (h : SqT X.K H a xs) : ∃ its : List Value, Vals xs its ∧ IsTup s.heap a its.toArray ∧ xs.length ≤ sizeLine := by
  rcases h with h | ⟨o, its, n, hk, hc, hs, hz, r⟩
  · obtain ⟨z, its, r, p⟩ := h.ok I.hok
    exact ⟨its, r, p, z⟩
  · refine ⟨its.toList, r, ⟨o, I.kIn a o hk, hc, n, by simpa using hs⟩, ?_⟩
    have e := r.length
    simp only [Array.length_toList] at e
    omega
theorem Inv.list_inj (I : Inv X pins σ H s) (h : SqL X.K H a xs) (h' : SqL X.K H a ys) : xs = ys := by
  obtain ⟨its, r, ⟨o, n, e, _, _, d⟩, _⟩ := I.list h
  obtain ⟨its', r', ⟨o', n', e', _, _, d'⟩, _⟩ := I.list h'
  rw [e] at e'; cases e'
  rw [d] at d'
  injection d' with d1 _
  have : its = its' := by simpa using congrArg Array.toList d1
  subst this
  exact r.inj r'
theorem Inv.tuple_inj (I : Inv X pins σ H s) (h : SqT X.K H a xs) (h' : SqT X.K H a ys) : xs = ys := by
  obtain ⟨its, r, ⟨o, e, _, n, d⟩, _⟩ := I.tuple h
  obtain ⟨its', r', ⟨o', e', _, n', d'⟩, _⟩ := I.tuple h'
  rw [e] at e'; cases e'
  rw [d] at d'
  injection d' with d1 _
  have : its = its' := by simpa using congrArg Array.toList d1
  subst this
  exact r.inj r'
end
abbrev Cx.wish (X : Cx) (E : Value → Shared → Prop) : Cx := { X with xe := E }
abbrev Cx.nox (X : Cx) : Cx := X.wish fun _ _ => False
theorem Cx.Ok.wish {X : Cx} (ok : X.Ok) (E : Value → Shared → Prop) : (X.wish E).Ok :=
  ⟨ok.mod, ok.kind, ok.glob, ok.blt, ok.above, ok.inj, ok.has, ok.cab, ok.hd, ok.frames, ok.stk, ok.exf, ok.bs, ok.bsz, ok.noex, ok.exfs, ok.funs, ok.frf⟩
theorem Cx.Ok.unwish {X : Cx} {E : Value → Shared → Prop} (ok : (X.wish E).Ok) : X.Ok :=
  ⟨ok.mod, ok.kind, ok.glob, ok.blt, ok.above, ok.inj, ok.has, ok.cab, ok.hd, ok.frames, ok.stk, ok.exf, ok.bs, ok.bsz, ok.noex, ok.exfs, ok.funs, ok.frf⟩
section
variable {X : Cx} {pins : List (Addr × Obj)} {σ : St} {H : Hp} {s : Shared} {E : Value → Shared → Prop}
theorem Inv.wish (I : Inv X pins σ H s) (E : Value → Shared → Prop) : Inv (X.wish E) pins σ H s := ⟨I.ok.wish E, I.os, I.bare, I.base, I.loc, I.cell, I.free, I.freeC, I.pin, I.hok, I.len⟩
theorem Inv.unwish (I : Inv (X.wish E) pins σ H s) : Inv X pins σ H s := ⟨I.ok.unwish, I.os, I.bare, I.base, I.loc, I.cell, I.free, I.freeC, I.pin, I.hok, I.len⟩
theorem SP.unwish {D : Ends} {f : Flow} {s' : Shared} (h : SP (X.wish E) pins D f s') : SP X pins D f s' := by
  cases f with
  | next => obtain ⟨σ', H', I, q⟩ := h; exact ⟨σ', H', I.unwish, q⟩
  | brk => obtain ⟨σ', H', I, q⟩ := h; exact ⟨σ', H', I.unwish, q⟩
  | cont => obtain ⟨σ', H', I, q⟩ := h; exact ⟨σ', H', I.unwish, q⟩
  | ret u => obtain ⟨v, σ', H', I, r, q⟩ := h; exact ⟨v, σ', H', I.unwish, r, q⟩
theorem PE.nox {e : Expr} {t : TE} (h : PE X.nox e t) : PE X e t := fun pins s σ H Q I hw =>
  wpAny_mono (h pins s σ H Q (I.wish _) hw) (fun _ _ ⟨v, H', I', r, q⟩ => ⟨v, H', I'.unwish, r, q⟩) fun _ _ z => False.elim z
theorem PT.nox {e : Expr} {t : TT} (h : PT X.nox e t) : PT X e t := fun pins s σ H Q I hw =>
  wpAny_mono (h pins s σ H Q (I.wish _) hw) (fun _ _ ⟨H', I', q⟩ => ⟨H', I'.unwish, q⟩) fun _ _ z => False.elim z
theorem PSs.nox {st : List Stmt} {t : TS} (h : PSs X.nox st t) : PSs X st t := fun pins s σ H D I hw =>
  wpAny_mono (h pins s σ H D (I.wish _) hw) (fun _ _ q => q.unwish) fun _ _ z => False.elim z
end
section
variable {X : Cx} {st : Stmt} {rest : List Stmt} {t u : TS} {e : Expr} {te : TE} {pos : PySem.Pos}
def tNext : TS := fun D σ H => D.nx σ H
def tSeq (t u : TS) : TS := fun D σ H => t { D with nx := u D } σ H
theorem pss_nil : PSs X [] tNext := fun _ _ σ H _ I h => wpAny_execs_nil ⟨σ, H, I, h⟩
theorem pss_cons (h1 : PS X st t) (h2 : PSs X rest u) : PSs X (st :: rest) (tSeq t u) := by
  intro pins s σ H D I h
  refine wpAny_execs_cons (thn (h1 pins s σ H { D with nx := u D } I h) fun f s1 q => ?_)
  cases f with
  | next =>
    obtain ⟨σ', H', I', q⟩ := q
    exact h2 pins s1 σ' H' D I' q
  | ret v => exact q
  | brk => exact q
  | cont => exact q
theorem pss_one (h1 : PS X st t) : PSs X [st] t := by
  intro pins s σ H D I h
  refine wpAny_execs_cons (thn (h1 pins s σ H D I h) fun f s1 q => ?_)
  cases f with
  | next => exact wpAny_execs_nil q
  | ret v => exact q
  | brk => exact q
  | cont => exact q
def tRet (te : TE) : TS := fun D σ H => te σ H D.rt
theorem ps_ret (he : PE X e te) : PS X (.Return (some e) pos) (tRet te) := by
  intro pins s σ H D I h
  exact wpAny_Return_some (thn (he pins s σ H _ I h) fun v s1 ⟨x, H1, I1, r1, q1⟩ => ⟨x, σ, H1, I1, r1, q1⟩)
def tIfS (c : TT) (t u : TS) : TS := fun D σ H => c σ H fun b H1 => if b = true then t D σ H1 else u D σ H1
theorem ps_if {c : Expr} {a b : List Stmt} {tc : TT} (hc : PT X c tc) (ha : PSs X a t) (hb : PSs X b u) : PS X (.If c a b pos) (tIfS tc t u) := by
  intro pins s σ H D I h
  refine wpAny_If (thn (hc pins s σ H _ I h) fun d s1 ⟨H1, I1, q1⟩ => ?_)
  cases d with
  | true => exact ha pins s1 σ H1 D I1 q1
  | false => exact hb pins s1 σ H1 D I1 q1
end
abbrev TG := V → St → Hp → (St → Hp → Prop) → Prop
def PG (X : Cx) (target : Expr) (t : TG) : Prop :=
  ∀ (pins : List (Addr × Obj)) (s : Shared) (σ : St) (H : Hp) (v : V) (u : Value) (Q : St → Hp → Prop), Inv X pins σ H s → RelV v u → t v σ H Q →
    wpAny (model X.prog X.w) X.A (assign target X.env u) (fun _ s' => ∃ σ' H', Inv X pins σ' H' s' ∧ Q σ' H') X.xe s
abbrev TSet := V → V → V → Hp → (Hp → Prop) → Prop
def PSet (X : Cx) (t : TSet) : Prop :=
  ∀ (pins : List (Addr × Obj)) (s : Shared) (σ : St) (H : Hp) (o i v : V) (ov iv u : Value) (Q : Hp → Prop), Inv X pins σ H s → RelV o ov → RelV i iv → RelV v u → t o i v H Q →
    wpAny (model X.prog X.w) X.A (setItem ov iv u) (fun _ s' => ∃ H', Inv X pins σ H' s' ∧ Q H') X.xe s
section
variable {X : Cx} {pos : PySem.Pos}
def gName (i : Nat) : TG := fun v σ H Q => Q (σ.set i (some v)) H
theorem pg_name {i : Nat} {x : Str} (hN : X.N.Nodup) (hi : X.N[i]? = some x) (hx : Loc X.env.scope x) (hf : X.fn x = true ∨ X.env.scope.names.lookup x = some .local := by first | exact .inl rfl | exact .inr rfl | assumption) : PG X (.Name x pos) (gName i) := by
  intro pins s σ H v u Q I r h
  exact wpAny_assign_Name (store_ok I hN hi hx r (fun s' I' => ⟨_, H, I', h⟩) hf)
def gSub (to ti : TE) (t : TSet) : TG := fun v σ H Q => to σ H fun o H1 => ti σ H1 fun i H2 => t o i v H2 fun H3 => Q σ H3
theorem pg_sub {o i : Expr} {to ti : TE} {t : TSet} (ho : PE X o to) (hi : PE X i ti) (hs : PSet X t)
    (ha : ∀ v, assign (.Subscript o i pos) X.env v = (do
      let ov ← holding [v] (eval o X.env)
      let iv ← holding [v, ov] (eval i X.env)
      standAt pos
      holding [v, ov, iv] (setItem ov iv v)
      release [v, ov, iv] []) := by intro _; rfl) : PG X (.Subscript o i pos) (gSub to ti t) := by
  intro pins s σ H v u Q I r h
  rw [ha]
  refine wpAny_bind (wpAny_holding (thn (ho pins s σ H _ I h) fun ov s1 ⟨x, H1, I1, r1, q1⟩ => ?_))
  refine wpAny_bind (wpAny_holding (thn (hi pins s1 σ H1 _ I1 q1) fun iv s2 ⟨y, H2, I2, r2, q2⟩ => ?_))
  refine wpAny_bind (wpAny_standAt (wpAny_bind (wpAny_holding (thn (hs pins s2 σ H2 x y v ov iv u _ I2 r1 r2 r q2) fun _ s3 ⟨H3, I3, q3⟩ => ?_))))
  exact wpAny_release ⟨σ, H3, I3, q3⟩
def tAsg (te : TE) (g : TG) : TS := fun D σ H => te σ H fun x H1 => g x σ H1 D.nx
theorem ps_asg {tg e : Expr} {te : TE} {g : TG} (he : PE X e te) (hg : PG X tg g) (hs : swapsWithSole [tg] e pos.line X.env = pure false := by rfl) (hw : swappedStores [tg] e X.env = pure none := by rfl)
    (h1 : (assignEach [tg] X.env).map (·.2) = [assign tg X.env] := by rfl) : PS X (.Assign [tg] e pos) (tAsg te g) := by
  intro pins s σ H D I h
  refine wpAny_Assign_stores (thn (he pins s σ H _ I h) fun v s1 ⟨x, H1, I1, r1, q1⟩ => ?_) hs hw
  rw [h1]
  exact thn (hg pins s1 σ H1 x v _ I1 r1 q1) fun _ s2 q => q
theorem ps_set {i : Nat} {x : Str} {e : Expr} {te : TE} {pos' : PySem.Pos} (hN : X.N.Nodup) (hi : X.N[i]? = some x) (hx : Loc X.env.scope x) (he : PE X e te) (hs : swapsWith e (some (.Name x pos')) pos.line X.env = pure false := by rfl) (hf : X.fn x = true ∨ X.env.scope.names.lookup x = some .local := by first | exact .inl rfl | exact .inr rfl | assumption) :
    PS X (.Assign [.Name x pos'] e pos) (tAsg te (gName i)) := by
  intro pins s σ H D I h
  refine wpAny_Assign_Name (thn (he pins s σ H _ I h) fun v s1 ⟨y, H1, I1, r1, q1⟩ => ?_) hs
  exact store_ok I1 hN hi hx r1 (fun s2 I2 => ⟨_, H1, I2, q1⟩) hf
end
structure It where
  go : Nat → Hp → Prop
  yld : Nat → Hp → V → Hp → Prop
  stop : Nat → Hp → Prop
def FpOk (X : Cx) (pins : List (Addr × Obj)) (H : Hp) (b : Addr) : Prop :=
  H b = none ∧ b ≠ X.env.locals ∧ b ∉ X.fs ∧ (b ∈ X.ex ∨ X.s₀.heap.objs.size ≤ b) ∧ (∀ x c, X.env.cells.lookup x = some c → c ≠ b) ∧ ∀ p ∈ X.pn ++ pins, p.1 ≠ b
theorem Inv.fpOk {X : Cx} {pins : List (Addr × Obj)} {σ : St} {H H' : Hp} {s : Shared} {b : Addr} (I : Inv X pins σ H s) (hb : s.heap.objs.size ≤ b) (hn : H' b = none) : FpOk X pins H' b := by
  refine ⟨hn, Nat.ne_of_gt (Nat.lt_of_lt_of_le I.lt hb), I.nofs hb, .inr (Nat.le_trans I.sz hb), fun x c e z => ?_, fun p hp z => ?_⟩
  · obtain ⟨v, q⟩ := I.cell x c e
    exact absurd (Nat.lt_of_lt_of_le q.lt (by rw [z]; exact hb)) (Nat.lt_irrefl _)
  · exact absurd (Nat.lt_of_lt_of_le (Heap.lt_size (I.pin p hp).1) (by rw [z]; exact hb)) (Nat.lt_irrefl _)
structure Turn (P : Program) (w : World) (K : PySem.W.Frag) (tg : Expr) (J : It) (fp : List Addr) (it : Addr) (tn : Nat → Heap → Prop) : Prop where
  mem : it ∈ fp
  obj : ∀ i h, tn i h → ∀ b ∈ fp, ∃ o, h.get? b = some o ∧ ∀ v, o.data ≠ .cell v
  keep : ∀ i h h', tn i h → (∀ b ∈ fp, ∀ o, h.get? b = some o → h'.get? b = some o) → tn i h'
  item : ∀ (X : Cx), X.prog = P → X.w = w → X.K = K → X.calm = true → ∀ (i : Nat) (pins : List (Addr × Obj)) (s : Shared) (σ : St) (H : Hp) (E : Value → Shared → Prop), Inv X pins σ H s → (∀ b ∈ fp, FpOk X pins H b) → tn i s.heap → J.go i H →
    wpAny (model P w) X.A (pyNext (.ref it)) (fun r s1 => ∃ u, r = some u ∧
      wpAny (model P w) X.A (letOwnedTupleGo tg (.ref it) u) (fun _ s2 => ∃ x H', Inv X pins σ H' s2 ∧ RelV x u ∧ J.yld i H x H' ∧ tn (i + 1) s2.heap ∧ ∀ b ∈ fp, H' b = none) E s1) E s
  done : ∀ (X : Cx), X.prog = P → X.w = w → X.K = K → X.calm = true → ∀ (i : Nat) (pins : List (Addr × Obj)) (s : Shared) (σ : St) (H : Hp) (E : Value → Shared → Prop), Inv X pins σ H s → (∀ b ∈ fp, FpOk X pins H b) → tn i s.heap → J.stop i H →
    wpAny (model P w) X.A (pyNext (.ref it)) (fun r s1 => r = none ∧ Inv X pins σ H s1) E s
  self : ∀ (A : Around) (i : Nat) (s : Shared) (Q : Value → Shared → Prop) (E : Value → Shared → Prop), tn i s.heap → Q (.ref it) s → wpAny (model P w) A (pyIter (.ref it)) Q E s
abbrev TI := St → Hp → (It → Hp → Prop) → Prop
def PIE (X : Cx) (pins : List (Addr × Obj)) (σ : St) (tg : Expr) (R : It → Hp → Prop) (itv : Value) (s2 : Shared) : Prop :=
  ∃ (it : Addr) (fp : List Addr) (tn : Nat → Heap → Prop) (J : It) (H' : Hp), itv = .ref it ∧ Inv X pins σ H' s2 ∧ Turn X.prog X.w X.K tg J fp it tn ∧ tn 0 s2.heap ∧ (∀ b ∈ fp, FpOk X pins H' b) ∧ R J H'
def PI (X : Cx) (tg iter : Expr) (wi : TI) : Prop :=
  ∀ (pins : List (Addr × Obj)) (s : Shared) (σ : St) (H : Hp) (R : It → Hp → Prop), Inv X pins σ H s → wi σ H R →
    wpAny (model X.prog X.w) X.A (eval iter X.env) (fun v s1 => wpAny (model X.prog X.w) X.A (pyIter v) (PIE X pins σ tg R) X.xe s1) X.xe s
theorem go_of {M : Model} {A : Around} {E : Value → Shared → Prop} {s : Shared} {tg : Expr} {it : Addr} {u : Value} {o : Obj} {n : String} {vs : Array Value} {Q : Unit → Shared → Prop} (ho : s.heap.get? it = some o) (hc : o.cls = .type n) (hd : o.data = .fields vs)
    (hn : ["enumerate", "zip", "dict_itemiterator", "dict_reverseitemiterator", "odict_iterator", "itertools.zip_longest", "itertools.pairwise"].contains n = false) (hQ : Q () s) : wpAny M A (letOwnedTupleGo tg (.ref it) u) Q E s := by
  unfold letOwnedTupleGo
  cases tg <;> first
    | exact wpAny_pure hQ
    | (cases u <;> first
        | exact wpAny_pure hQ
        | (refine wpAny_bind (wpAny_load ho ?_)
           rw [hc, hd]
           show wpAny M A (if (["enumerate", "zip", "dict_itemiterator", "dict_reverseitemiterator", "odict_iterator", "itertools.zip_longest", "itertools.pairwise"].contains n && vs[0]? == some (rawInt _)) = true then _ else _) Q E s
           rw [if_neg (by intro h; rw [hn, Bool.false_and] at h; cases h)]
           exact wpAny_pure hQ))
def Itl (K : PySem.W.Frag) (a : Addr) : It :=
  ⟨fun i H => ∃ xs x, SqL K H a xs ∧ xs[i]? = some x, fun i H x H' => H' = H ∧ ∀ xs, SqL K H a xs → xs[i]? = some x, fun i H => ∃ xs, SqL K H a xs ∧ xs.length ≤ i⟩
def Itt (K : PySem.W.Frag) (a : Addr) : It :=
  ⟨fun i H => ∃ xs x, SqT K H a xs ∧ xs[i]? = some x, fun i H x H' => H' = H ∧ ∀ xs, SqT K H a xs → xs[i]? = some x, fun i H => ∃ xs, SqT K H a xs ∧ xs.length ≤ i⟩
def Itr (lo : Int) (n : Nat) : It := ⟨fun i _ => i < n, fun i H x H' => H' = H ∧ x = .int (lo + i), fun i _ => n ≤ i⟩
theorem turn_list {P : Program} {w : World} {K : PySem.W.Frag} {tg : Expr} (a it : Addr) : Turn P w K tg (Itl K a) [it] it (fun i h => h.IsListIter it a i) where
  mem := by simp
  obj := fun i h st b hb => by
    have e : b = it := by simpa using hb
    subst e
    obtain ⟨o, e, c, d⟩ := st
    exact ⟨o, e, fun v z => by rw [d] at z; cases z⟩
  keep := fun i h h' st k => st.at fun o e => k it (by simp) o e
  item := by
    intro X hP hw hK hc i pins s σ H E I hf st hg
    subst hP hw hK
    obtain ⟨xs, x, hq, hx⟩ := hg
    obtain ⟨its, rv, p, hz⟩ := I.list hq
    obtain ⟨u, hu, ru⟩ := rv.get hx
    obtain ⟨f0, f1, f2, f3, f4, f5⟩ := hf it (by simp)
    refine wpAny_pyNext_list_item st p.isList (x := u) (by simpa using hu) fun h' st' sb => ?_
    have I1 : Inv X pins σ H { s with heap := h' } := I.turned (t' := s.toks) (fun b o hb e => (sb.2 b hb).trans e) f0 f1 f3 f4 f5
    obtain ⟨o, e, c, d⟩ := id st'
    exact ⟨u, rfl, go_of (s := { s with heap := h' }) e c d (by decide) ⟨x, H, I1, ru, ⟨rfl, fun ys hy => by rw [I.list_inj hy hq]; exact hx⟩, st', fun b hb => (hf b hb).1⟩⟩
  done := by
    intro X hP hw hK hc i pins s σ H E I hf st hg
    subst hP hw hK
    obtain ⟨xs, hq, hx⟩ := hg
    obtain ⟨its, rv, p, hz⟩ := I.list hq
    obtain ⟨f0, f1, f2, f3, f4, f5⟩ := hf it (by simp)
    have hl := rv.length
    exact wpAny_pyNext_list_end (I.ok.hd hc) st p.isList (by simp; omega) fun h' eb => ⟨rfl, I.turned (t' := s.toks) (fun b o hb e => eb b o hb e) f0 f1 f3 f4 f5⟩
  self := fun _ _ _ _ _ st h => wpAny_pyIter_listiter st h
theorem turn_tuple {P : Program} {w : World} {K : PySem.W.Frag} {tg : Expr} (a it : Addr) : Turn P w K tg (Itt K a) [it] it (fun i h => h.IsTupleIter it a i) where
  mem := by simp
  obj := fun i h st b hb => by
    have e : b = it := by simpa using hb
    subst e
    obtain ⟨o, e, c, d⟩ := st
    exact ⟨o, e, fun v z => by rw [d] at z; cases z⟩
  keep := fun i h h' st k => st.at fun o e => k it (by simp) o e
  item := by
    intro X hP hw hK hc i pins s σ H E I hf st hg
    subst hP hw hK
    obtain ⟨xs, x, hq, hx⟩ := hg
    obtain ⟨its, rv, p, hz⟩ := I.tuple hq
    obtain ⟨u, hu, ru⟩ := rv.get hx
    obtain ⟨f0, f1, f2, f3, f4, f5⟩ := hf it (by simp)
    refine wpAny_pyNext_tuple_item st (show s.heap.IsTuple a its.toArray from p) (x := u) (by simpa using hu) fun h' st' sb => ?_
    have I1 : Inv X pins σ H { s with heap := h' } := I.turned (t' := s.toks) (fun b o hb e => (sb.2 b hb).trans e) f0 f1 f3 f4 f5
    obtain ⟨o, e, c, d⟩ := id st'
    exact ⟨u, rfl, go_of (s := { s with heap := h' }) e c d (by decide) ⟨x, H, I1, ru, ⟨rfl, fun ys hy => by rw [I.tuple_inj hy hq]; exact hx⟩, st', fun b hb => (hf b hb).1⟩⟩
  done := by
    intro X hP hw hK hc i pins s σ H E I hf st hg
    subst hP hw hK
    obtain ⟨xs, hq, hx⟩ := hg
    obtain ⟨its, rv, p, hz⟩ := I.tuple hq
    obtain ⟨f0, f1, f2, f3, f4, f5⟩ := hf it (by simp)
    have hl := rv.length
    exact wpAny_pyNext_tuple_end (I.ok.hd hc) st (show s.heap.IsTuple a its.toArray from p) (by simp; omega) fun h' eb => ⟨rfl, I.turned (t' := s.toks) (fun b o hb e => eb b o hb e) f0 f1 f3 f4 f5⟩
  self := fun _ _ _ _ _ st h => wpAny_pyIter_tupleiter st h
theorem turn_range {P : Program} {w : World} {K : PySem.W.Frag} {tg : Expr} (it : Addr) (lo : Int) (n : Nat) : Turn P w K tg (Itr lo n) [it] it (fun i h => IsRangeIter h it (lo + (i : Nat) * 1) ((n : Int) - (i : Nat)) 1) where
  mem := by simp
  obj := fun i h st b hb => by
    have e : b = it := by simpa using hb
    subst e
    exact ⟨_, st, fun v z => by
      have z' : Data.fields _ = Data.cell v := z
      cases z'⟩
  keep := fun i h h' st k => k it (by simp) _ st
  item := by
    intro X hP hw hK hc i pins s σ H E I hf st hg
    subst hP hw hK
    obtain ⟨f0, f1, f2, f3, f4, f5⟩ := hf it (by simp)
    have W := Walks.range (prog := X.prog) (w := X.w) (I.ok.hd hc) it lo 1 n
    refine W.item i s _ _ hg st fun v h' tk hv st' kk => ?_
    obtain ⟨t, rfl⟩ := hv
    have I1 : Inv X pins σ H { s with heap := h', toks := tk } := I.turned (fun b o hb e => kk b o (by simpa using hb) e) f0 f1 f3 f4 f5
    refine ⟨_, rfl, go_of (s := { s with heap := h', toks := tk }) (n := "range_iterator") st' rfl rfl (by decide) ⟨.int (lo + i), H, I1, ⟨t, ?_⟩, ⟨rfl, rfl⟩, st', fun b hb => (hf b hb).1⟩⟩
    rw [Int.mul_one]
  done := by
    intro X hP hw hK hc i pins s σ H E I hf st hg
    subst hP hw hK
    obtain ⟨f0, f1, f2, f3, f4, f5⟩ := hf it (by simp)
    exact wpAny_pyNext_range_end (I.ok.hd hc) st (by have : n ≤ i := hg; omega) fun h' eb => ⟨rfl, I.turned (t' := s.toks) (fun b o hb e => eb b o hb e) f0 f1 f3 f4 f5⟩
  self := fun _ _ _ _ _ st h => wpAny_pyIter_rangeiter st h
end L2
namespace L2
open PySem PySem.Spec PyProof.Rows
section
variable {X : Cx} {tg : Expr}
def iList (K : PySem.W.Frag) (tl : TE) : TI := fun σ H R => tl σ H fun x H1 => ∃ a, x = .ref a ∧ (∃ xs, SqL K H1 a xs) ∧ R (Itl K a) H1
def iTup (K : PySem.W.Frag) (tl : TE) : TI := fun σ H R => tl σ H fun x H1 => ∃ a, x = .ref a ∧ (∃ xs, SqT K H1 a xs) ∧ R (Itt K a) H1
theorem pi_list {l : Expr} {tl : TE} (hl : PE X l tl) : PI X tg l (iList X.K tl) := by
  intro pins s σ H R I h
  refine thn (hl pins s σ H _ I h) fun v s1 ⟨x, H1, I1, r1, q1⟩ => ?_
  obtain ⟨a, e, ⟨xs, hq⟩, q⟩ := q1
  subst e
  cases r1
  obtain ⟨its, rv, p, hz⟩ := I1.list hq
  refine wpAny_pyIter_list p.isList ?_
  refine ⟨s1.heap.objs.size, [s1.heap.objs.size], _, _, H1, rfl, I1.kept (t' := s1.toks) fun b o e => Heap.get?_push_of_some _ e, turn_list a _, ⟨_, Heap.get?_push_size _ rfl, rfl, rfl⟩, fun b hb => ?_, q⟩
  have e : b = s1.heap.objs.size := by simpa using hb
  subst e
  exact I1.fpOk (Nat.le_refl _) (I1.hok.fresh (Nat.le_refl _))
theorem pi_tup {l : Expr} {tl : TE} (hl : PE X l tl) : PI X tg l (iTup X.K tl) := by
  intro pins s σ H R I h
  refine thn (hl pins s σ H _ I h) fun v s1 ⟨x, H1, I1, r1, q1⟩ => ?_
  obtain ⟨a, e, ⟨xs, hq⟩, q⟩ := q1
  subst e
  cases r1
  obtain ⟨its, rv, p, hz⟩ := I1.tuple hq
  refine wpAny_pyIter_tuple (show s1.heap.IsTuple a its.toArray from p) ?_
  refine ⟨s1.heap.objs.size, [s1.heap.objs.size], _, _, H1, rfl, I1.kept (t' := s1.toks) fun b o e => Heap.get?_push_of_some _ e, turn_tuple a _, ⟨_, Heap.get?_push_size _ rfl, rfl, rfl⟩, fun b hb => ?_, q⟩
  have e : b = s1.heap.objs.size := by simpa using hb
  subst e
  exact I1.fpOk (Nat.le_refl _) (I1.hok.fresh (Nat.le_refl _))
theorem range_it {pins : List (Addr × Obj)} {σ : St} {H : Hp} {s : Shared} {R : It → Hp → Prop} {E : Value → Shared → Prop} {lo hi : Int} {t u v : Tok} {tk : Nat} (I : Inv X pins σ H s) (h1 : -(2 ^ 62) ≤ lo) (h2 : lo < 2 ^ 62) (h3 : -(2 ^ 62) ≤ hi) (h4 : hi < 2 ^ 62)
    (q : R (Itr lo (hi - lo).toNat) H) : wpAny (model X.prog X.w) X.A (pyIter (.ref s.heap.objs.size)) (PIE X pins σ tg R) E { s with heap := s.heap.push { cls := .type "range", data := .fields #[.int lo t, .int hi u, .int 1 v] }, toks := tk } := by
  refine wpAny_pyIter_range (IsRange.new ..) (small_one h1 h2 h3 h4) ?_
  have I1 : Inv X pins σ H { s with heap := s.heap.push { cls := .type "range", data := .fields #[.int lo t, .int hi u, .int 1 v] }, toks := tk } := I.kept fun b o e => Heap.get?_push_of_some _ e
  refine ⟨(s.heap.push { cls := .type "range", data := .fields #[.int lo t, .int hi u, .int 1 v] }).objs.size, [(s.heap.push { cls := .type "range", data := .fields #[.int lo t, .int hi u, .int 1 v] }).objs.size], _, _, H, rfl,
    I1.kept (t' := tk) fun b o e => Heap.get?_push_of_some _ e, turn_range _ lo (hi - lo).toNat, ?_, fun b hb => ?_, q⟩
  · have e1 : lo + ((0 : Nat) : Int) * 1 = lo := by simp
    have e2 : (((hi - lo).toNat : Nat) : Int) - ((0 : Nat) : Int) = Builtin.Range.rangeSize lo hi 1 := by rw [rangeSize_one]; split <;> omega
    show IsRangeIter _ _ (lo + ((0 : Nat) : Int) * 1) ((((hi - lo).toNat : Nat) : Int) - ((0 : Nat) : Int)) 1
    rw [e1, e2]
    exact Heap.get?_push_size _ rfl
  · have e : b = (s.heap.push { cls := .type "range", data := .fields #[.int lo t, .int hi u, .int 1 v] }).objs.size := by simpa using hb
    subst e
    exact I1.fpOk (Nat.le_refl _) (I1.hok.fresh (Nat.le_refl _))
def iRng1 (ta : TA) : TI := fun σ H R => ta σ H fun vs H1 => ∃ j : Int, vs = [.int j] ∧ -(2 ^ 62) ≤ j ∧ j < 2 ^ 62 ∧ R (Itr 0 j.toNat) H1
def iRng2 (ta : TA) : TI := fun σ H R => ta σ H fun vs H1 => ∃ i j : Int, vs = [.int i, .int j] ∧ (-(2 ^ 62) ≤ i ∧ i < 2 ^ 62 ∧ -(2 ^ 62) ≤ j ∧ j < 2 ^ 62) ∧ R (Itr i (j - i).toNat) H1
theorem pi_range1 {a : Expr} {ta : TA} {p pos : PySem.Pos} (hg : Gl X "range") (hm : X.mg "range" = none) (ha : PA X [a] ta) (hs : starEach [a] X.env = [(false, eval a X.env)] := by rfl) : PI X tg (.Call (.Name "range" p) [a] [] pos) (iRng1 ta) := by
  intro pins s σ H R I h
  refine Call_ (ld_blt I hg hm boot_range (PyProof.Rows.callWith_type1 (thn (ha pos pins s σ H _ I h) fun us s1 ⟨vs, H1, I1, r1, q1⟩ => ?_) hs rfl))
  obtain ⟨j, e, q1, q2, q⟩ := q1
  subst e
  cases r1 with
  | cons r rr =>
    cases rr
    obtain ⟨t, rfl⟩ := r
    exact call_range_1 (range_it I1 (by omega) (by omega) q1 q2 (by simpa using q))
theorem pi_range2 {a b : Expr} {ta : TA} {p pos : PySem.Pos} (hg : Gl X "range") (hm : X.mg "range" = none) (ha : PA X [a, b] ta) (hs : starEach [a, b] X.env = [(false, eval a X.env), (false, eval b X.env)] := by rfl) (hs2 : starEach [b] X.env = [(false, eval b X.env)] := by rfl) :
    PI X tg (.Call (.Name "range" p) [a, b] [] pos) (iRng2 ta) := by
  intro pins s σ H R I h
  refine Call_ (ld_blt I hg hm boot_range (PyProof.Rows.callWith_type1 (thn (ha pos pins s σ H _ I h) fun us s1 ⟨vs, H1, I1, r1, q1⟩ => ?_) (by rw [hs, hs2]) (by rw [hs2]; rfl)))
  obtain ⟨i, j, e, ⟨q1, q2, q3, q4⟩, q⟩ := q1
  subst e
  cases r1 with
  | cons r rr =>
    cases rr with
    | cons r' rr =>
      cases rr
      obtain ⟨t, rfl⟩ := r
      obtain ⟨t', rfl⟩ := r'
      exact call_range_2 (range_it I1 q1 q2 q3 q4 q)
def tFor (wi : TI) (g : TG) (tb : TS) : TS := fun D σ H => wi σ H fun J H1 => ∃ W : Nat → Nat → St → Hp → Prop, (∃ m, W 0 m σ H1) ∧ ∀ i m σ H, W i m σ H →
  (J.stop i H ∧ D.nx σ H) ∨ (J.go i H ∧ ∃ N : St → Hp → Prop, (∀ σ' H', N σ' H' → ∃ m', m' < m ∧ W (i + 1) m' σ' H') ∧ ∀ x H', J.yld i H x H' → g x σ H' fun σ2 H2 => tb { D with nx := N, ct := N, bk := D.nx } σ2 H2)
def pinsAt (fp : List Addr) (h : Heap) : List (Addr × Obj) := fp.filterMap fun b => (h.get? b).map fun o => (b, o)
theorem mem_pinsAt {fp : List Addr} {h : Heap} {b : Addr} {o : Obj} (hb : b ∈ fp) (e : h.get? b = some o) : (b, o) ∈ pinsAt fp h := List.mem_filterMap.mpr ⟨b, hb, by rw [e]; rfl⟩
theorem of_pinsAt {fp : List Addr} {h : Heap} {p : Addr × Obj} (hp : p ∈ pinsAt fp h) : p.1 ∈ fp ∧ h.get? p.1 = some p.2 := by
  obtain ⟨b, hb, e⟩ := List.mem_filterMap.mp hp
  cases q : h.get? b with
  | none => rw [q] at e; cases e
  | some o =>
    rw [q] at e
    have e' : (b, o) = p := Option.some.inj e
    subst e'
    exact ⟨hb, q⟩
theorem Inv.pinned {pins : List (Addr × Obj)} {σ : St} {H : Hp} {s : Shared} {fp : List Addr} (I : Inv X pins σ H s) (hf : ∀ b ∈ fp, FpOk X pins H b) (ho : ∀ b ∈ fp, ∃ o, s.heap.get? b = some o ∧ ∀ v, o.data ≠ .cell v) : Inv X (pins ++ pinsAt fp s.heap) σ H s :=
  I.pins_of fun p hp => (List.mem_append.mp hp).elim (fun z => I.pin p (List.mem_append_right _ z)) fun z => by
    obtain ⟨hb, e⟩ := of_pinsAt z
    obtain ⟨f0, f1, f2, _⟩ := hf p.1 hb
    obtain ⟨o, e', d⟩ := ho p.1 hb
    rw [e] at e'; cases e'
    exact ⟨e, f0, f1, f2, d⟩
theorem Inv.unpinned {pins pl : List (Addr × Obj)} {σ : St} {H : Hp} {s : Shared} (I : Inv X (pins ++ pl) σ H s) : Inv X pins σ H s := I.pins_of fun p hp => I.pin p (List.mem_append_right _ (List.mem_append_left _ hp))
theorem ps_for {iter : Expr} {body : List Stmt} {wi : TI} {g : TG} {tb : TS} {pos : PySem.Pos} (hp : PassesOwn (model X.prog X.w) X.A X.env X.xe) (hc : X.calm = true) (hi : PI X tg iter wi) (hg : PG X tg g) (hb : PSs X body tb)
    (hs : ∀ x, foldedSetIterable iter X.env x = pure x := by intro _; rfl) : PS X (.For tg iter body [] pos) (tFor wi g tb) := by
  intro pins s σ H D I h
  refine wpAny_For (thn (hi pins s σ H _ I h) fun v s1 h1 => thn h1 fun itv s2 h2 => ?_) hs
  obtain ⟨it, fp, tn, J, H2, e, I2, T, st2, f2, W, ⟨m0, w0⟩, turn⟩ := h2
  subst e
  have stat : ∀ {H' : Hp}, (∀ b ∈ fp, H' b = none) → ∀ b ∈ fp, FpOk X pins H' b := fun hn b hb => ⟨hn b hb, (f2 b hb).2⟩
  refine codeAny_forLoop_any (fun n s' => ∃ i σ' H', Inv X pins σ' H' s' ∧ tn i s'.heap ∧ (∀ b ∈ fp, H' b = none) ∧ W i n σ' H') ?_ m0 ⟨0, σ, H2, I2, st2, fun b hb => (f2 b hb).1, w0⟩
  rintro n s3 ⟨i, σ3, H3, I3, st3, fr3, w3⟩
  rcases turn i n σ3 H3 w3 with ⟨stop, qn⟩ | ⟨go, N, hN, step⟩
  · refine wpAny_passesOwn hp (thn (T.done X rfl rfl rfl hc i pins s3 σ3 H3 X.xe I3 (stat fr3) st3 stop) fun r s4 ⟨hr, I4⟩ => ?_)
    subst hr
    exact wpAny_execs_nil ⟨σ3, H3, I4, qn⟩
  · refine wpAny_passesOwn hp (thn (T.item X rfl rfl rfl hc i pins s3 σ3 H3 X.xe I3 (stat fr3) st3 go) fun r s4 ⟨u, hr, h4⟩ => ?_)
    subst hr
    refine wpAny_passesOwn hp (thn h4 fun _ s5 ⟨x, H5, I5, r5, y5, st5, fr5⟩ => ?_)
    have I5' := I5.pinned (stat fr5) (T.obj _ _ st5)
    refine wpAny_passesOwn hp (thn (hg _ s5 σ3 H5 x u _ I5' r5 (step x H5 y5)) fun _ s6 ⟨σ6, H6, I6, q6⟩ => ?_)
    refine wpAny_passesOwn hp (thn (hb _ s6 σ6 H6 _ I6 q6) fun f s7 q7 => ?_)
    have again : ∀ {σ7 : St} {H7 : Hp}, Inv X (pins ++ pinsAt fp s5.heap) σ7 H7 s7 → N σ7 H7 → ∃ m, m < n ∧ ∃ i σ' H', Inv X pins σ' H' s7 ∧ tn i s7.heap ∧ (∀ b ∈ fp, H' b = none) ∧ W i m σ' H' := fun {σ7 H7} I7 n7 => by
      obtain ⟨m', hm, w7⟩ := hN σ7 H7 n7
      refine ⟨m', hm, i + 1, σ7, H7, I7.unpinned, T.keep _ _ _ st5 fun b hb o e => (I7.pin (b, o) (List.mem_append_right _ (List.mem_append_right _ (mem_pinsAt hb e)))).1, fun b hb => ?_, w7⟩
      obtain ⟨o, e, d⟩ := T.obj _ _ st5 b hb
      exact (I7.pin (b, o) (List.mem_append_right _ (List.mem_append_right _ (mem_pinsAt hb e)))).2.1
    cases f with
    | next => obtain ⟨σ7, H7, I7, n7⟩ := q7; exact again I7 n7
    | cont => obtain ⟨σ7, H7, I7, n7⟩ := q7; exact again I7 n7
    | brk => obtain ⟨σ7, H7, I7, q7⟩ := q7; exact ⟨σ7, H7, I7.unpinned, q7⟩
    | ret v => obtain ⟨x7, σ7, H7, I7, r7, q7⟩ := q7; exact ⟨x7, σ7, H7, I7.unpinned, r7, q7⟩
end
theorem for_list {K : PySem.W.Frag} {a : Addr} {xs : List V} {g : TG} {tb : TS} {D : Ends} {σ : St} {H : Hp} (Pv : Nat → St → Hp → Prop) (h0 : Pv 0 σ H) (hl : ∀ i σ H, i ≤ xs.length → Pv i σ H → SqL K H a xs)
    (hs : ∀ i x σ H, xs[i]? = some x → Pv i σ H → g x σ H fun σ2 H2 => tb { D with nx := Pv (i + 1), ct := Pv (i + 1), bk := D.nx } σ2 H2) (hd : ∀ σ H, Pv xs.length σ H → D.nx σ H) :
    ∃ W : Nat → Nat → St → Hp → Prop, (∃ m, W 0 m σ H) ∧ ∀ i m σ H, W i m σ H →
      ((Itl K a).stop i H ∧ D.nx σ H) ∨ ((Itl K a).go i H ∧ ∃ N : St → Hp → Prop, (∀ σ' H', N σ' H' → ∃ m', m' < m ∧ W (i + 1) m' σ' H') ∧ ∀ x H', (Itl K a).yld i H x H' → g x σ H' fun σ2 H2 => tb { D with nx := N, ct := N, bk := D.nx } σ2 H2) := by
  refine ⟨fun i m σ H => m = xs.length - i ∧ i ≤ xs.length ∧ Pv i σ H, ⟨xs.length, by simp, Nat.zero_le _, h0⟩, ?_⟩
  rintro i m σ H ⟨rfl, hi, p⟩
  have q := hl i σ H hi p
  by_cases hlt : i < xs.length
  · refine .inr ⟨⟨xs, xs[i], q, by simp [hlt]⟩, Pv (i + 1), fun σ' H' p' => ⟨xs.length - (i + 1), by omega, rfl, hlt, p'⟩, fun x H' y => ?_⟩
    obtain ⟨e, y⟩ := y
    subst e
    exact hs i x σ _ (y xs q) p
  · have e : i = xs.length := by omega
    subst e
    exact .inl ⟨⟨xs, q, Nat.le_refl _⟩, hd σ H p⟩
theorem for_range {lo : Int} {n : Nat} {g : TG} {tb : TS} {D : Ends} {σ : St} {H : Hp} (Pv : Nat → St → Hp → Prop) (h0 : Pv 0 σ H)
    (hs : ∀ i σ H, i < n → Pv i σ H → g (.int (lo + i)) σ H fun σ2 H2 => tb { D with nx := Pv (i + 1), ct := Pv (i + 1), bk := D.nx } σ2 H2) (hd : ∀ σ H, Pv n σ H → D.nx σ H) :
    ∃ W : Nat → Nat → St → Hp → Prop, (∃ m, W 0 m σ H) ∧ ∀ i m σ H, W i m σ H →
      ((Itr lo n).stop i H ∧ D.nx σ H) ∨ ((Itr lo n).go i H ∧ ∃ N : St → Hp → Prop, (∀ σ' H', N σ' H' → ∃ m', m' < m ∧ W (i + 1) m' σ' H') ∧ ∀ x H', (Itr lo n).yld i H x H' → g x σ H' fun σ2 H2 => tb { D with nx := N, ct := N, bk := D.nx } σ2 H2) := by
  refine ⟨fun i m σ H => m = n - i ∧ i ≤ n ∧ Pv i σ H, ⟨n, by simp, Nat.zero_le _, h0⟩, ?_⟩
  rintro i m σ H ⟨rfl, hi, p⟩
  by_cases hlt : i < n
  · refine .inr ⟨hlt, Pv (i + 1), fun σ' H' p' => ⟨n - (i + 1), by omega, rfl, hlt, p'⟩, fun x H' y => ?_⟩
    obtain ⟨e, y⟩ := y
    subst e y
    exact hs i σ _ hlt p
  · have e : i = n := by omega
    subst e
    exact .inl ⟨Nat.le_refl _, hd σ H p⟩
end L2
namespace L2
open PySem PySem.Spec PyProof.Rows
abbrev R2 := V → V → Hp → VK → Prop
def OpR (X : Cx) (f : Value → Value → Sem Value) (r : R2) : Prop :=
  ∀ (pins : List (Addr × Obj)) (s : Shared) (σ : St) (H : Hp) (x y : V) (v u : Value) (Q : VK), Inv X pins σ H s → RelV x v → RelV y u → r x y H Q →
    wpAny (model X.prog X.w) X.A (f v u) (EP X pins σ Q) X.xe s
def CallR (X : Cx) (f : Value) (r : List V → Hp → VK → Prop) : Prop :=
  ∀ (pins : List (Addr × Obj)) (s : Shared) (σ : St) (H : Hp) (xs : List V) (us : List Value) (Q : VK), Inv X pins σ H s → Vals xs us → r xs H Q →
    wpAny (model X.prog X.w) X.A (call f us) (EP X pins σ Q) X.xe s
def tOp (r : R2) (ta tb : TE) : TE := fun σ H Q => ta σ H fun x H1 => tb σ H1 fun y H2 => r x y H2 Q
def rI (C : Int → Int → Prop) (g : Int → Int → V) : R2 := fun x y H Q => ∃ i j, x = .int i ∧ y = .int j ∧ C i j ∧ Q (g i j) H
def rI0 (g : Int → Int → V) : R2 := fun x y H Q => ∃ i j, x = .int i ∧ y = .int j ∧ Q (g i j) H
section
variable {X : Cx} {a b c : Expr} {ta tb tc : TE} {pos : PySem.Pos}
theorem binT (ha : PE X a ta) (hb : PE X b tb) {pins : List (Addr × Obj)} {s : Shared} {σ : St} {H : Hp} {R : V → V → Hp → Prop} (I : Inv X pins σ H s)
    (h : ta σ H fun x H1 => tb σ H1 fun y H2 => R x y H2) {Q : Value → Shared → Prop} {f : Value → Value → Sem Value}
    (hf : ∀ v u s2 x y H2, Inv X pins σ H2 s2 → RelV x v → RelV y u → R x y H2 → wpAny (model X.prog X.w) X.A (f v u) Q X.xe s2) :
    wpAny (model X.prog X.w) X.A (eval a X.env) (fun v s₁ => wpAny (model X.prog X.w) X.A (eval b X.env) (fun u s₂ => wpAny (model X.prog X.w) X.A (f v u) Q X.xe s₂) X.xe s₁) X.xe s := by
  refine thn (ha pins s σ H _ I h) fun v s1 ⟨x, H1, I1, r1, q1⟩ => ?_
  refine thn (hb pins s1 σ H1 _ I1 q1) fun u s2 ⟨y, H2, I2, r2, q2⟩ => ?_
  exact hf v u s2 x y H2 I2 r1 r2 q2
theorem pe_op {op : Operator} {r : R2} (ho : OpR X (binaryOp op) r) (ha : PE X a ta) (hb : PE X b tb) : PE X (.BinOp a op b pos) (tOp r ta tb) := by
  intro pins s σ H Q I h
  exact wpAny_BinOp (binT ha hb I h fun v u s2 x y H2 I2 rx ry q => ho pins s2 σ H2 x y v u Q I2 rx ry q)
theorem opI {f : Value → Value → Sem Value} {C : Int → Int → Prop} {g : Int → Int → Int}
    (rule : ∀ (i j : Int) (t u : Tok) (s : Shared) (Q : Value → Shared → Prop) (E : Value → Shared → Prop), C i j → Q (.int (g i j) s.toks) { s with toks := s.toks + 1 } → wpAny (model X.prog X.w) X.A (f (.int i t) (.int j u)) Q E s) :
    OpR X f (rI C fun i j => .int (g i j)) := by
  intro pins s σ H x y v u Q I rx ry h
  obtain ⟨i, j, rfl, rfl, hc, q⟩ := h
  obtain ⟨t, rfl⟩ := rx
  obtain ⟨t', rfl⟩ := ry
  exact rule i j t t' s _ _ hc ⟨.int (g i j), H, I.tok _, ⟨_, rfl⟩, q⟩
theorem opI0 {f : Value → Value → Sem Value} {g : Int → Int → Int}
    (rule : ∀ (i j : Int) (t u : Tok) (s : Shared) (Q : Value → Shared → Prop) (E : Value → Shared → Prop), Q (.int (g i j) s.toks) { s with toks := s.toks + 1 } → wpAny (model X.prog X.w) X.A (f (.int i t) (.int j u)) Q E s) :
    OpR X f (rI0 fun i j => .int (g i j)) := by
  intro pins s σ H x y v u Q I rx ry h
  obtain ⟨i, j, rfl, rfl, q⟩ := h
  obtain ⟨t, rfl⟩ := rx
  obtain ⟨t', rfl⟩ := ry
  exact rule i j t t' s _ _ ⟨.int (g i j), H, I.tok _, ⟨_, rfl⟩, q⟩
theorem opB0 {f : Value → Value → Sem Value} {g : Int → Int → Bool}
    (rule : ∀ (i j : Int) (t u : Tok) (s : Shared) (Q : Value → Shared → Prop) (E : Value → Shared → Prop), Q (.bool (g i j)) s → wpAny (model X.prog X.w) X.A (f (.int i t) (.int j u)) Q E s) :
    OpR X f (rI0 fun i j => .bl (g i j)) := by
  intro pins s σ H x y v u Q I rx ry h
  obtain ⟨i, j, rfl, rfl, q⟩ := h
  obtain ⟨t, rfl⟩ := rx
  obtain ⟨t', rfl⟩ := ry
  exact rule i j t t' s _ _ ⟨.bl (g i j), H, I, rfl, q⟩
def CPow (i j : Int) : Prop := 0 ≤ j ∧ j ≤ 1000000 ∧ i.natAbs < 2 ^ 64
def CMul (i j : Int) : Prop := (-(2 ^ 64) < i ∧ i < 2 ^ 64) ∨ (-(2 ^ 64) < j ∧ j < 2 ^ 64)
theorem CMul.ok {i j : Int} (h : CMul i j) : IntMulOk i j := by
  rcases h with ⟨h1, h2⟩ | ⟨h1, h2⟩
  · exact .of_left (intBits_le_64 h1 h2)
  · exact .of_right (intBits_le_64 h1 h2)
theorem op_add : OpR X (binaryOp .Add) (rI0 fun i j => .int (i + j)) := opI0 fun _ _ _ _ _ _ _ q => add_int q
theorem op_sub : OpR X (binaryOp .Sub) (rI0 fun i j => .int (i - j)) := opI0 fun _ _ _ _ _ _ _ q => sub_int q
theorem op_mul : OpR X (binaryOp .Mult) (rI CMul fun i j => .int (i * j)) := opI fun _ _ _ _ _ _ _ hc q => mul_int q hc.ok
theorem op_mod : OpR X (binaryOp .Mod) (rI (fun _ j => 0 < j) fun i j => .int (i % j)) := opI fun i j _ _ _ _ _ hc q => by
  have h1 : (0 : Int) < j := hc
  exact mod_int' (by omega) (by rw [Int.fmod_eq_emod_of_nonneg i (by omega)]; exact q)
theorem op_pow : OpR X (binaryOp .Pow) (rI CPow fun i j => .int (i ^ j.toNat)) := opI fun _ _ _ _ _ _ _ hc q => pow_int_small hc.1 hc.2.1 hc.2.2 q
end
def scal : V → V → Bool
  | .non, .non => true | .non, .int _ => true | .int _, .non => true | .non, .bl _ => true | .bl _, .non => true | .non, .str _ => true | .str _, .non => true
  | .int _, .int _ => true | .bl _, .bl _ => true | .str _, .str _ => true | .byt _, .byt _ => true
  | .int _, .str _ => true | .str _, .int _ => true | .bl _, .str _ => true | .str _, .bl _ => true
  | _, _ => false
def rEq : R2 := fun x y H Q => scal x y = true ∧ Q (.bl (decide (x = y))) H
def rNe : R2 := fun x y H Q => scal x y = true ∧ Q (.bl (!decide (x = y))) H
theorem dec_int {i j : Int} : decide (V.int i = V.int j) = (i == j) := by
  rw [Bool.eq_iff_iff]
  simp
theorem dec_bl {i j : Bool} : decide (V.bl i = V.bl j) = (i == j) := by
  rw [Bool.eq_iff_iff]
  simp
theorem dec_str {i j : Str} : decide (V.str i = V.str j) = (i == j) := by
  rw [Bool.eq_iff_iff]
  simp
theorem dec_byt {i j : Array UInt8} : decide (V.byt i = V.byt j) = (i.toList == j.toList) := by
  rw [Bool.eq_iff_iff]
  cases i
  cases j
  simp
section
variable {X : Cx} {a b c : Expr} {ta tb tc : TE} {pos : PySem.Pos}
theorem fin_bl {pins : List (Addr × Obj)} {σ : St} {H : Hp} {s : Shared} {Q : VK} {k k' : Bool} (I : Inv X pins σ H s) (q : Q (.bl k) H) (e : k = k') : EP X pins σ Q (.bool k') s := by
  subst e
  exact ⟨.bl k, H, I, rfl, q⟩
theorem op_eq : OpR X (compareOp .Eq) rEq := by
  intro pins s σ H x y v u Q I rx ry h
  obtain ⟨hs, q⟩ := h
  cases x with
  | non =>
    cases rx
    cases y with
    | non => cases ry; exact PySem.EqNone.eq_none_none (fin_bl I q (by simp))
    | bl j => cases ry; exact PySem.EqNone.eq_none_bool (fin_bl I q (by simp))
    | int j => obtain ⟨t', rfl⟩ := ry; exact PySem.EqNone.eq_none_int (fin_bl I q (by simp))
    | str j => obtain ⟨t', rfl⟩ := ry; exact PySem.EqNone.eq_none_str (fin_bl I q (by simp))
    | _ => exact absurd (show false = true from hs) Bool.false_ne_true
  | bl i =>
    cases rx
    cases y with
    | non => cases ry; exact PySem.EqNone.eq_bool_none (fin_bl I q (by simp))
    | bl j => cases ry; exact eq_bool (fin_bl I q dec_bl)
    | str j => obtain ⟨t', rfl⟩ := ry; exact PySem.EqMixed.eq_bool_str (fin_bl I q (by simp))
    | _ => exact absurd (show false = true from hs) Bool.false_ne_true
  | int i =>
    obtain ⟨t, rfl⟩ := rx
    cases y with
    | non => cases ry; exact PySem.EqNone.eq_int_none (fin_bl I q (by simp))
    | int j => obtain ⟨t', rfl⟩ := ry; exact eq_int (fin_bl I q dec_int)
    | str j => obtain ⟨t', rfl⟩ := ry; exact PySem.EqMixed.eq_int_str (fin_bl I q (by simp))
    | _ => exact absurd (show false = true from hs) Bool.false_ne_true
  | str i =>
    obtain ⟨t, rfl⟩ := rx
    cases y with
    | non => cases ry; exact PySem.EqNone.eq_str_none (fin_bl I q (by simp))
    | bl j => cases ry; exact PySem.EqMixed.eq_str_bool (fin_bl I q (by simp))
    | int j => obtain ⟨t', rfl⟩ := ry; exact PySem.EqMixed.eq_str_int (fin_bl I q (by simp))
    | str j => obtain ⟨t', rfl⟩ := ry; exact eq_str (fin_bl I q dec_str)
    | _ => exact absurd (show false = true from hs) Bool.false_ne_true
  | byt i =>
    obtain ⟨t, rfl⟩ := rx
    cases y with
    | byt j => obtain ⟨t', rfl⟩ := ry; exact PySem.W.eq_bytes (fin_bl I q dec_byt)
    | _ => exact absurd (show false = true from hs) Bool.false_ne_true
  | _ => cases y <;> exact absurd (show false = true from hs) Bool.false_ne_true
theorem op_ne : OpR X (compareOp .NotEq) rNe := by
  intro pins s σ H x y v u Q I rx ry h
  obtain ⟨hs, q⟩ := h
  cases x with
  | non =>
    cases rx
    cases y with
    | non => cases ry; exact PySem.EqNone.ne_none_none (fin_bl I q (by simp))
    | bl j => cases ry; exact PySem.EqNone.ne_none_bool (fin_bl I q (by simp))
    | int j => obtain ⟨t', rfl⟩ := ry; exact PySem.EqNone.ne_none_int (fin_bl I q (by simp))
    | str j => obtain ⟨t', rfl⟩ := ry; exact PySem.EqNone.ne_none_str (fin_bl I q (by simp))
    | _ => exact absurd (show false = true from hs) Bool.false_ne_true
  | bl i =>
    cases rx
    cases y with
    | non => cases ry; exact PySem.EqNone.ne_bool_none (fin_bl I q (by simp))
    | bl j => cases ry; exact ne_bool (fin_bl I q (congrArg not dec_bl))
    | str j => obtain ⟨t', rfl⟩ := ry; exact PySem.EqMixed.ne_bool_str (fin_bl I q (by simp))
    | _ => exact absurd (show false = true from hs) Bool.false_ne_true
  | int i =>
    obtain ⟨t, rfl⟩ := rx
    cases y with
    | non => cases ry; exact PySem.EqNone.ne_int_none (fin_bl I q (by simp))
    | int j => obtain ⟨t', rfl⟩ := ry; exact ne_int (fin_bl I q (congrArg not dec_int))
    | str j => obtain ⟨t', rfl⟩ := ry; exact PySem.EqMixed.ne_int_str (fin_bl I q (by simp))
    | _ => exact absurd (show false = true from hs) Bool.false_ne_true
  | str i =>
    obtain ⟨t, rfl⟩ := rx
    cases y with
    | non => cases ry; exact PySem.EqNone.ne_str_none (fin_bl I q (by simp))
    | bl j => cases ry; exact PySem.EqMixed.ne_str_bool (fin_bl I q (by simp))
    | int j => obtain ⟨t', rfl⟩ := ry; exact PySem.EqMixed.ne_str_int (fin_bl I q (by simp))
    | str j => obtain ⟨t', rfl⟩ := ry; exact ne_str (fin_bl I q (congrArg not dec_str))
    | _ => exact absurd (show false = true from hs) Bool.false_ne_true
  | byt i =>
    obtain ⟨t, rfl⟩ := rx
    cases y with
    | byt j => obtain ⟨t', rfl⟩ := ry; exact PySem.W.ne_bytes (fin_bl I q (congrArg not dec_byt))
    | _ => exact absurd (show false = true from hs) Bool.false_ne_true
  | _ => cases y <;> exact absurd (show false = true from hs) Bool.false_ne_true
theorem op_lt : OpR X (compareOp .Lt) (rI0 fun i j => .bl (decide (i < j))) := opB0 fun _ _ _ _ _ _ _ q => lt_int q
theorem op_le : OpR X (compareOp .LtE) (rI0 fun i j => .bl (decide (i ≤ j))) := opB0 fun _ _ _ _ _ _ _ q => le_int q
theorem op_ge : OpR X (compareOp .GtE) (rI0 fun i j => .bl (decide (j ≤ i))) := opB0 fun _ _ _ _ _ _ _ q => ge_int q
theorem op_in_str : OpR X (compareOp .In) (fun x y H Q => ∃ i j, x = .str i ∧ y = .str j ∧ Q (.bl (!(Builtin.Str.occurrences j i 0 j.length 1).isEmpty)) H) := by
  intro pins s σ H x y v u Q I rx ry h
  obtain ⟨i, j, rfl, rfl, q⟩ := h
  obtain ⟨t, rfl⟩ := rx
  obtain ⟨t', rfl⟩ := ry
  exact in_str (fin_bl I q rfl)
theorem nomark (b : Expr) {op : CmpOp} (h : op ≠ .In := by decide) (h2 : op ≠ .NotIn := by decide) : behindInMarks op b = false := by
  have e1 : (op == CmpOp.In) = false := by cases op <;> first | rfl | exact absurd rfl h
  have e2 : (op == CmpOp.NotIn) = false := by cases op <;> first | rfl | exact absurd rfl h2
  cases b <;> simp [behindInMarks, e1, e2]
theorem pe_cmpR {op : CmpOp} {r : R2} (ho : OpR X (compareOp op) r) (ha : PE X a ta) (hb : PE X b tb) (hm : behindInMarks op b = false) : PE X (.Compare a [op] [b] pos) (tOp r ta tb) := by
  intro pins s σ H Q I h
  exact wpAny_Compare1 (binT ha hb I h fun v u s2 x y H2 I2 rx ry q => ho pins s2 σ H2 x y v u Q I2 rx ry q) hm
def tTest (t : TE) : TT := fun σ H Q => t σ H fun x H' => ∃ k, x = .bl k ∧ Q k H'
theorem pt_cmpR {op : CmpOp} {r : R2} (ho : OpR X (compareOp op) r) (ha : PE X a ta) (hb : PE X b tb) (hm : behindInMarks op b = false) : PT X (.Compare a [op] [b] pos) (tTest (tOp r ta tb)) := by
  intro pins s σ H Q I h
  refine wpAny_isTrue_Compare1 (thn (ha pins s σ H _ I h) fun v s1 ⟨x, H1, I1, r1, q1⟩ => thn (hb pins s1 σ H1 _ I1 q1) fun u s2 ⟨y, H2, I2, r2, q2⟩ =>
    thn (ho pins s2 σ H2 x y v u _ I2 r1 r2 q2) fun c s3 ⟨z, H3, I3, r3, k, e, q3⟩ => ?_) hm
  subst e
  cases r3
  exact wpAny_truthy_bool ⟨H3, I3, q3⟩
def tChain (r r' : R2) (ta tb tc : TE) : TE := fun σ H Q => ta σ H fun x H1 => tb σ H1 fun y H2 => r x y H2 fun z H3 => ∃ k, z = .bl k ∧
  (if k = true then tc σ H3 fun w' H4 => r' y w' H4 Q else Q (.bl false) H3)
theorem pt_chain {op op' : CmpOp} {r r' : R2} (ho : OpR X (compareOp op) r) (ho' : OpR X (compareOp op') r') (ha : PE X a ta) (hb : PE X b tb) (hc : PE X c tc)
    (hm : lastMarks [op, op'] [b, c] = false := by with_unfolding_all rfl) : PT X (.Compare a [op, op'] [b, c] pos) (tTest (tChain r r' ta tb tc)) := by
  intro pins s σ H Q I h
  refine isTrue_chain (thn (ha pins s σ H _ I h) fun v s1 ⟨x, H1, I1, r1, q1⟩ => test_link (thn (hb pins s1 σ H1 _ I1 q1) fun u s2 ⟨y, H2, I2, r2, q2⟩ =>
    thn (ho pins s2 σ H2 x y v u _ I2 r1 r2 q2) fun d s3 ⟨z, H3, I3, r3, k, e, q3⟩ => ?_)) hm
  subst e
  cases r3
  refine wpAny_truthy_bool ?_
  cases k with
  | false =>
    obtain ⟨k', e', q'⟩ := q3
    cases e'
    exact ite_ff ⟨H3, I3, q'⟩
  | true =>
    refine ite_tt (test_last (thn (hc pins s3 σ H3 _ I3 q3) fun w' s4 ⟨z', H4, I4, r4, q4⟩ => thn (ho' pins s4 σ H4 y z' u w' _ I4 r2 r4 q4) fun d' s5 ⟨z2, H5, I5, r5, k2, e2, q5⟩ => ?_))
    subst e2
    cases r5
    exact wpAny_truthy_bool ⟨H5, I5, q5⟩
theorem line63 : (sizeLine : Nat) < 2 ^ 63 := by rw [sizeLine_eq]; decide
theorem op_add_str : OpR X (binaryOp .Add) (fun x y H Q => ∃ i j, x = .str i ∧ y = .str j ∧ i.length + j.length ≤ sizeLine ∧ Q (.str (i ++ j)) H) := by
  intro pins s σ H x y v u Q I rx ry h
  obtain ⟨i, j, rfl, rfl, hz, q⟩ := h
  obtain ⟨t, rfl⟩ := rx
  obtain ⟨t', rfl⟩ := ry
  exact add_str (fun t' tk => ⟨.str (i ++ j), H, I.tok _, ⟨_, rfl⟩, q⟩) hz
theorem vals1 {x : V} {us : List Value} (r : Vals [x] us) : ∃ u, us = [u] ∧ RelV x u := by
  cases r with
  | cons r1 r2 => cases r2; exact ⟨_, rfl, r1⟩
theorem vals2 {x y : V} {us : List Value} (r : Vals [x, y] us) : ∃ u w', us = [u, w'] ∧ RelV x u ∧ RelV y w' := by
  cases r with
  | cons r1 r2 =>
    cases r2 with
    | cons r3 r4 => cases r4; exact ⟨_, _, rfl, r1, r3⟩
theorem call_abs : CallR X (.builtin "abs") (fun xs H Q => ∃ i, xs = [.int i] ∧ Q (.int (if i < 0 then -i else i)) H) := by
  intro pins s σ H xs us Q I r h
  obtain ⟨i, rfl, q⟩ := h
  obtain ⟨u, rfl, t, rfl⟩ := vals1 r
  exact call_abs_int fun u tk => ⟨.int (if i < 0 then -i else i), H, I.tok _, ⟨_, rfl⟩, q⟩
theorem call_min2 (hc : X.calm = true) : CallR X (.builtin "min") (fun xs H Q => ∃ i j, xs = [.int i, .int j] ∧ Q (.int (if j < i then j else i)) H) := by
  intro pins s σ H xs us Q I r h
  obtain ⟨i, j, rfl, q⟩ := h
  obtain ⟨u, w', rfl, ⟨t, rfl⟩, ⟨t', rfl⟩⟩ := vals2 r
  refine min_two_ints (I.ok.hd hc) fun h' tk k => ⟨_, H, I.kept k, ?_, q⟩
  by_cases hj : j < i
  · rw [if_pos hj, if_pos hj]; exact ⟨_, rfl⟩
  · rw [if_neg hj, if_neg hj]; exact ⟨_, rfl⟩
theorem call_int1 : CallR X (.type "int") (fun xs H Q => (∃ i, xs = [.int i] ∧ Q (.int i) H) ∨ ∃ k, xs = [.bl k] ∧ Q (.int (if k then 1 else 0)) H) := by
  intro pins s σ H xs us Q I r h
  rcases h with ⟨i, rfl, q⟩ | ⟨k, rfl, q⟩
  · obtain ⟨u, rfl, t, rfl⟩ := vals1 r
    exact call_int_int ⟨.int i, H, I, ⟨_, rfl⟩, q⟩
  · obtain ⟨u, rfl, r1⟩ := vals1 r
    cases r1
    exact call_int_bool ⟨.int (if k then 1 else 0), H, I.tok _, ⟨_, rfl⟩, q⟩
theorem call_str_int : CallR X (.type "str") (fun xs H Q => ∃ i, xs = [.int i] ∧ i.natAbs.log2 < 1920 ∧ Q (.str (toString i)) H) := by
  intro pins s σ H xs us Q I r h
  obtain ⟨i, rfl, hz, q⟩ := h
  obtain ⟨u, rfl, t, rfl⟩ := vals1 r
  exact PySem.P.str_of_int hz ⟨.str _, H, I.tok _, ⟨_, rfl⟩, q⟩
end
end L2
namespace L2
open PySem PySem.Spec PyProof.Rows
structure ObjM (h : Heap) (x dx C : Addr) (mA : Str → Option Value) : Prop where
  obj : h.get? x = some (PySem.W.instObj C dx)
  ns : h.Ns1 dx mA
  ne : dx ≠ x
theorem lookIn_ns {h : Heap} {dx : Addr} {mA : Str → Option Value} (n : h.Ns1 dx mA) : ∃ od, h.get? dx = some od ∧ ∀ name, PySem.W.lookIn name od = some (mA name) := by
  obtain ⟨o, es, ep, ho, hd, hk, _, hm⟩ := n
  refine ⟨o, ho, fun name => ?_⟩
  have e := hm name
  unfold nsFind findBy at e
  rw [← Array.find?_toList] at e
  unfold PySem.W.lookIn
  rw [hd]
  dsimp only
  split
  · rename_i y q
    rw [q] at e
    exact congrArg some e
  · rename_i q
    rw [q] at e
    have a : es.toList.any (·.refKey) = false := by
      rw [List.any_eq_false]
      intro y hy
      obtain ⟨z, t, hkey⟩ := hk y (Array.mem_toList_iff.mp hy)
      simp [DictEntry.refKey, hkey]
    have a' : ¬ es.toList.any (·.refKey) = true := by rw [a]; exact Bool.false_ne_true
    rw [if_neg a']
    exact congrArg some e
theorem ObjM.look {h : Heap} {x dx C : Addr} {mA : Str → Option Value} (I : ObjM h x dx C mA) : ∃ od, PySem.W.InstAt h x (PySem.W.instObj C dx) C (some od) ∧ ∀ name, PySem.W.lookIn name od = some (mA name) :=
  let ⟨od, ho, hl⟩ := lookIn_ns I.ns
  ⟨od, ⟨I.obj, rfl, rfl, ho⟩, hl⟩
section
variable {P : Program} {w : World} {H H' : Hp} {h h' : Heap} {a C dx : Addr} {fs fs' : List (Str × V)}
theorem ins_get (hok : HOk P w H h) (e : H a = some (.ins C dx fs)) : ∃ mA, ObjM h a dx C mA ∧ (∀ f, RelO (fs.lookup f) (mA f)) ∧ PySem.Within mA (fs.map (·.1)) ∧ fs.length ≤ 1000 ∧ H dx = some (.own a) := by
  obtain ⟨d, z, ne, ob, mA, n, r, q⟩ := (show ObjOk P w H h a (.ins C dx fs) from hok a _ e)
  exact ⟨mA, ⟨ob, n, ne⟩, r, q, z, d⟩
end
structure Cls (K : PySem.W.Frag) (C : Addr) : Prop where
  pg : PySem.W.plainGet K C Str.empty = true
  hd : PySem.W.hasDictIn K C = true
  po : PySem.W.plainOver K C = true
  sa : PySem.W.findIn K (.ref C) "__setattr__" = some (some (.builtin "object.__setattr__"))
theorem Cls.get {K : PySem.W.Frag} {C : Addr} (c : Cls K C) (f : Str) : PySem.W.plainGet K C f = true := c.pg
section
variable {X : Cx} {pins : List (Addr × Obj)} {σ : St} {H : Hp} {s : Shared} {A : Around} {E : Value → Shared → Prop} {Q : Value → Shared → Prop} {c : Value} {b : Bool}
inductive TyOf (K : PySem.W.Frag) (H : Hp) : V → Value → Prop where
  | non : TyOf K H .non (.type "NoneType")
  | bl (x : Bool) : TyOf K H (.bl x) (.type "bool")
  | int (i : Int) : TyOf K H (.int i) (.type "int")
  | str (x : Str) : TyOf K H (.str x) (.type "str")
  | flt (x : UInt64) : TyOf K H (.flt x) (.type "float")
  | lst {a : Addr} {xs : List V} (e : H a = some (.lst xs)) : TyOf K H (.ref a) (.type "list")
  | frz {a : Addr} {o : Obj} {xs : List V} (e : H a = some (.frz o (.lst xs))) : TyOf K H (.ref a) (.type "list")
  | tup {a : Addr} {xs : List V} (e : H a = some (.tup xs)) : TyOf K H (.ref a) (.type "tuple")
  | dK {a : Addr} {kvs : List (Key × V)} (e : H a = some (.dK kvs)) : TyOf K H (.ref a) (.type "dict")
  | dT {a : Addr} {kvs : List (List Key × V)} (e : H a = some (.dT kvs)) : TyOf K H (.ref a) (.type "dict")
  | ins {a C dx : Addr} {fs : List (Str × V)} (e : H a = some (.ins C dx fs)) (cl : Cls K C) (ha : PySem.W.findIn K (.ref C) "__class__" = some (some (.builtin "object.__class__")))
      (hn : PySem.W.specialIn K (.builtin "object.__class__") "__get__" = some (some (.builtin "getset_descriptor.__get__"))) (htk : PySem.W.takesIn K (.builtin "object.__class__") = some true)
      (hm : PySem.W.mroIn K C (.type "object") = some true) : TyOf K H (.ref a) (.ref C)
theorem isinst_ok {x : V} {u t : Value} (I : Inv X pins σ H s) (rx : RelV x u) (ty : TyOf X.K H x t) (e : PySem.W.kitOne X.K t c = some b) (h : ∀ tk, Q (.bool b) { s with toks := tk }) :
    wpAny (model X.prog X.w) A (call (.builtin "isinstance") [u, c]) Q E s := by
  cases ty with
  | non => cases (show u = Value.none from rx); exact PySem.W.kia_one PySem.W.kitx_none I.kIn True.intro e (fun z => nomatch z) h
  | bl y => cases (show u = Value.bool y from rx); exact PySem.W.kia_one PySem.W.kitx_bool I.kIn True.intro e (fun z => nomatch z) h
  | int i => obtain ⟨t, q⟩ := (show ∃ t, u = Value.int i t from rx); cases q; exact PySem.W.kia_one PySem.W.kitx_int I.kIn True.intro e (fun z => nomatch z) h
  | str y => obtain ⟨t, q⟩ := (show ∃ t, u = Value.str y t from rx); cases q; exact PySem.W.kia_one PySem.W.kitx_str I.kIn True.intro e (fun z => nomatch z) h
  | flt y => obtain ⟨t, q⟩ := (show ∃ t, u = Value.float y t from rx); cases q; exact PySem.W.kia_one PySem.W.kitx_float I.kIn True.intro e (fun z => nomatch z) h
  | @lst a xs ea =>
    cases (show u = Value.ref a from rx)
    obtain ⟨_, _, n, _, h1⟩ := (show ObjOk X.prog X.w H s.heap a (.lst xs) from I.hok a _ ea)
    exact PySem.W.kia_one PySem.W.kitx_list I.kIn ⟨_, h1, rfl⟩ e (fun z => nomatch z) h
  | @frz a ob xs ea =>
    cases (show u = Value.ref a from rx)
    obtain ⟨_, _, _, n, _, h1⟩ := (show ObjOk X.prog X.w H s.heap a (.frz ob (.lst xs)) from I.hok a _ ea)
    exact PySem.W.kia_one PySem.W.kitx_list I.kIn ⟨_, h1, rfl⟩ e (fun z => nomatch z) h
  | @tup a xs ea =>
    cases (show u = Value.ref a from rx)
    obtain ⟨_, _, _, p⟩ := (show ObjOk X.prog X.w H s.heap a (.tup xs) from I.hok a _ ea)
    obtain ⟨o, h1, h2, _⟩ := p
    exact PySem.W.kia_one PySem.W.kitx_tuple I.kIn ⟨o, h1, h2⟩ e (fun z => nomatch z) h
  | @dK a kvs ea =>
    cases (show u = Value.ref a from rx)
    obtain ⟨_, _, vs, _, p⟩ := (show ObjOk X.prog X.w H s.heap a (.dK kvs) from I.hok a _ ea)
    obtain ⟨o, es, ep, h1, h2, _⟩ := p
    exact PySem.W.kia_one PySem.W.kitx_dict I.kIn ⟨o, h1, h2.1⟩ e (fun z => nomatch z) h
  | @dT a kvs ea =>
    cases (show u = Value.ref a from rx)
    obtain ⟨_, _, xs, _, o, es, ep, h1, h2, _⟩ := (show ObjOk X.prog X.w H s.heap a (.dT kvs) from I.hok a _ ea)
    exact PySem.W.kia_one PySem.W.kitx_dict I.kIn ⟨o, h1, h2.1⟩ e (fun z => nomatch z) h
  | @ins a C dx fs ea cl ha hn htk hm =>
    cases (show u = Value.ref a from rx)
    obtain ⟨mA, O, _⟩ := ins_get I.hok ea
    obtain ⟨od, J, _⟩ := O.look
    exact PySem.W.kia_one (PySem.W.kitx_own (cl.get _) cl.hd ha hn htk hm) I.kIn J e (fun z => nomatch z) h
end
end L2
namespace L2
open PySem PySem.Spec PyProof.Rows
structure Room (k : Nat) (A : Around) : Prop where
  hd : A.handled = none
  dp : A.depth + 3 * k + 5 < recursionLimit
  un : A.units + 16 * k + 200 < cLine
  gd : A.guards = some []
theorem Room.mono {j k : Nat} {A : Around} (r : Room k A) (h : j ≤ k) : Room j A := ⟨r.hd, by have := r.dp; omega, by have := r.un; omega, r.gd⟩
theorem Room.deeper {k : Nat} {A : Around} (r : Room (k + 1) A) (env : Env) : Room k (A.deeper env) :=
  ⟨r.hd, by have := r.dp; show A.depth + 1 + 3 * k + 5 < _; omega, by have := r.un; show A.units + 3 + 16 * k + 200 < _; omega, r.gd⟩
theorem Room.depth {k : Nat} {A : Around} (r : Room k A) : A.depth < recursionLimit := by have := r.dp; omega
theorem Room.units {k : Nat} {A : Around} (r : Room k A) : A.units + 64 < cLine := by have := r.un; omega
def tNil : TA := fun _ H Q => Q [] H
def tCons (ta : TE) (tr : TA) : TA := fun σ H Q => ta σ H fun x H1 => tr σ H1 fun xs H2 => Q (x :: xs) H2
section
variable {X : Cx} {e : Expr} {es : List Expr} {te : TE} {t : TA} {pos : PySem.Pos}
theorem pa_nil : PA X [] tNil := fun _ _ _ _ H Q I h => Calls.spliced_nil ⟨[], H, I, .nil, h⟩
theorem pa_cons (ha : PE X e te) (hr : PA X es t) (hs : starEach (e :: es) X.env = (false, eval e X.env) :: starEach es X.env := by rfl) : PA X (e :: es) (tCons te t) := by
  intro pos pins s σ H Q I h
  rw [hs]
  show wpAny _ _ (spliced ((false, eval e X.env) :: backTo pos (starEach es X.env))) _ _ s
  refine Calls.spliced_cons (thn (ha pins s σ H _ I h) fun u s1 ⟨x, H1, I1, r1, q1⟩ => ?_)
  exact thn (hr pos pins s1 σ H1 _ I1 q1) fun us s2 ⟨xs, H2, I2, r2, q2⟩ => ⟨x :: xs, H2, I2, .cons r1 r2, q2⟩
def tTup (t : TA) : TE := fun σ H Q => t σ H fun xs H1 => xs.length ≤ sizeLine ∧ ∀ p, H1 p = none → Q (.ref p) (upd H1 p (.tup xs))
def tLst (t : TA) : TE := fun σ H Q => t σ H fun xs H1 => xs.length ≤ sizeLine ∧ ∀ p, H1 p = none → Q (.ref p) (upd H1 p (.lst xs))
theorem pe_tup {x1} (h : PA X es t) : PE X (.Tuple es x1 pos) (tTup t) := by
  intro pins s σ H Q I hq
  refine wpAny_Tuple_spliced (thn (h pos pins s σ H _ I hq) fun us s1 ⟨xs, H1, I1, r, z, q⟩ => ⟨by rw [← r.length]; exact z, ?_⟩)
  have hf : H1 s1.heap.objs.size = none := I1.hok.fresh (Nat.le_refl _)
  refine ⟨.ref s1.heap.objs.size, upd H1 s1.heap.objs.size (.tup xs), I1.laid (t' := s1.toks) (fun b u e => Heap.get?_push_of_some _ e) (Nat.le_refl _) ?_, rfl, q _ hf⟩
  exact ⟨z, us, r, ⟨_, Heap.get?_push_size _ rfl, rfl, _, rfl⟩⟩
theorem pe_lst (h : PA X es t) : PE X (.List es pos) (tLst t) := by
  intro pins s σ H Q I hq
  refine wpAny_List_spliced (thn (h pos pins s σ H _ I hq) fun us s1 ⟨xs, H1, I1, r, z, q⟩ => ⟨by rw [← r.length]; exact z, ?_⟩)
  have hf : H1 s1.heap.objs.size = none := I1.hok.fresh (Nat.le_refl _)
  refine ⟨.ref s1.heap.objs.size, upd H1 s1.heap.objs.size (.lst xs), I1.laid (t' := s1.toks) (fun b u e => Heap.get?_push_of_some _ e) (Nat.le_refl _) ?_, rfl, q _ hf⟩
  exact ⟨z, us, 0, r, Heap.get?_push_size _ rfl⟩
end
abbrev Sp := List V → Hp → VK → XK → Prop
abbrev CXT := List Env → Hp → Shared → XK → Value → Shared → Prop
structure Env0 (P : Program) (w : World) (K : PySem.W.Frag) (mg : Str → Option Value) (base : Heap) (A : Around) (outer : List Env) (s : Shared) (H : Hp) : Prop where
  frames : A.frames = some outer
  mod : Mod K mg base
  bs : ∀ b o, base.get? b = some o → s.heap.get? b = some o ∧ H b = none
  bsz : base.objs.size ≤ s.heap.objs.size
  funs : s.heap.FunFrames base outer
  frf : ∀ b ∈ frs outer, H b = none
  hok : HOk P w H s.heap
  bare : AllBare s.gens
def CE (outer : List Env) (P : Program) (w : World) (H : Hp) (s : Shared) (Q : VK) (u : Value) (s' : Shared) : Prop :=
  ∃ v H', s'.os = s.os ∧ AllBare s'.gens ∧ Un (frs outer) [] H H' s.heap s'.heap ∧ HOk P w H' s'.heap ∧ RelV v u ∧ Q v H'
def CR (CX : CXT) (outer : List Env) (P : Program) (w : World) (H : Hp) (s : Shared) (Q : VK) (E : XK) (r : Result) (s' : Shared) : Prop :=
  match r with
  | .ok (.ret u) => CE outer P w H s Q u s'
  | .ok _ => False
  | .error e => CX outer H s E e s'
structure FnOk (P : Program) (w : World) (K : PySem.W.Frag) (mg : Str → Option Value) (base : Heap) (CX : CXT) (k : Nat) (f : Addr) (fd : FuncData) (ps : List Str) (sp : Sp) : Prop where
  len : ∀ vs H Q E, sp vs H Q E → vs.length = ps.length
  run : ∀ (A : Around) (outer : List Env) (s : Shared) (H : Hp) (args : Args) (us : List Value) (vs : List V) (Q : VK) (E : XK), Room k A → Env0 P w K mg base A outer s H → BindsTo s fd args (ps.zip us) → Vals vs us → sp vs H Q E →
    codeAny (model P w) A (.call (.ref f) args) (CR CX outer P w H s Q E) s
section
variable {X : Cx} {pins : List (Addr × Obj)} {σ : St} {H : Hp} {s s' : Shared}
theorem Inv.env0 (I : Inv X pins σ H s) : Env0 X.prog X.w X.K X.mg X.base X.A X.stack s H :=
  ⟨I.ok.frames, I.ok.mod, I.bs, Nat.le_trans I.ok.bsz I.sz, I.stack, I.stkFree, I.hok, I.bare⟩
theorem Inv.after {Q : VK} {u : Value} (I : Inv X pins σ H s) (h : CE X.stack X.prog X.w H s Q u s') : EP X pins σ Q u s' := by
  obtain ⟨v, H', os, bare, un, hok, r, q⟩ := h
  obtain ⟨hh, g, d, t, os'⟩ := s'
  obtain rfl : os' = s.os := os
  exact ⟨v, H', I.call (h' := hh) (g' := g) (d' := d) (t' := t) (ch := []) un hok bare (fun b z => absurd z (by simp)), r, q⟩
end
def tCall (sp : Sp) (dvs : List V) (E : XK) (t : TA) : TE := fun σ H Q => t σ H fun vs H1 => sp (vs ++ dvs) H1 Q E
def Binds (K : PySem.W.Frag) (fd : FuncData) (ps : List Str) (ds : List Value) : Prop :=
  ∀ (s : Shared) (us : List Value), K.In s.heap → (us ++ ds).length = ps.length → BindsTo s fd ⟨us, []⟩ (ps.zip (us ++ ds))
theorem Binds.all {K : PySem.W.Frag} {fd : FuncData} {ps : List Str} (h : ∀ us : List Value, us.length = ps.length → bindArgs fd ⟨us, []⟩ = pure (ps.zip us)) : Binds K fd ps [] := fun s us _ hl => by
  rw [List.append_nil] at hl ⊢
  exact .of_eq (h us hl)
def Passes (CX : CXT) (X : Cx) (E : XK) : Prop := ∀ (pins : List (Addr × Obj)) (σ : St) (H : Hp) (s : Shared) (e : Value) (s' : Shared), Inv X pins σ H s → CX X.stack H s E e s' → X.xe e s'
section
variable {X : Cx} {CX : CXT} {k : Nat} {f C : Addr} {fd : FuncData} {ps : List Str} {sp : Sp} {dvs : List V} {ds : List Value} {E : XK} {x m : Str} {p pos apos : PySem.Pos} {e o : Expr} {es : List Expr} {ta : TE} {t : TA}
theorem run_fn {pins : List (Addr × Obj)} {σ : St} {H : Hp} {s : Shared} {Q : VK} {us : List Value} {vs : List V} (F : FnOk X.prog X.w X.K X.mg X.base CX k f fd ps sp) (hr : Room k X.A) (hb : Binds X.K fd ps ds) (hd : Vals dvs ds) (hx : Passes CX X E)
    (I : Inv X pins σ H s) (r : Vals vs us) (h : sp (vs ++ dvs) H Q E) : wpAny (model X.prog X.w) X.A (call (.ref f) us) (EP X pins σ Q) X.xe s := by
  have r2 : Vals (vs ++ dvs) (us ++ ds) := r.append hd
  have hl : (us ++ ds).length = ps.length := by rw [← r2.length]; exact F.len _ _ _ _ h
  refine wpAny_call (codeAny_mono (F.run X.A X.stack s H ⟨us, []⟩ (us ++ ds) (vs ++ dvs) Q E hr I.env0 (hb s us I.kIn hl) r2 h) fun r s' hq => ?_)
  cases r with
  | error e => exact hx pins σ H s e s' I hq
  | ok fl =>
    cases fl with
    | ret u => exact I.after hq
    | next => exact False.elim hq
    | brk => exact False.elim hq
    | cont => exact False.elim hq
theorem pe_call (F : FnOk X.prog X.w X.K X.mg X.base CX k f fd ps sp) (hr : Room k X.A) (hg : Gl X x) (hm : X.mg x = some (.ref f)) (hk : PySem.W.keepIn X.K (.ref f) = true) (hb : Binds X.K fd ps ds) (hd : Vals dvs ds) (hx : Passes CX X E)
    (ha : PA X (e :: es) t) (hdb : (x == ("__debug__" : Str)) = false := by decide) (he : starEach (e :: es) X.env = (false, eval e X.env) :: starEach es X.env := by rfl) (hpl : (backTo pos (starEach es X.env)).any (·.1) = false := by rfl) :
    PE X (.Call (.Name x p) (e :: es) [] pos) (tCall sp dvs E t) := by
  intro pins s σ H Q I h
  refine wpAny_Call_Name_kw (ld_glob I hg hm ?_ hdb)
  refine PySem.W.callWith_K (h₀ := X.base) I.ok.mod.kin hk (thn (ha pos pins s σ H _ I h) fun us s1 ⟨vs, H1, I1, r, q⟩ => ⟨I1.kIn, ?_⟩) he hpl
  exact run_fn F hr hb hd hx I1 r q
theorem pe_call0 (F : FnOk X.prog X.w X.K X.mg X.base CX k f fd ps sp) (hr : Room k X.A) (hg : Gl X x) (hm : X.mg x = some (.ref f)) (hk : PySem.W.keepIn X.K (.ref f) = true) (hb : Binds X.K fd ps ds) (hd : Vals dvs ds) (hx : Passes CX X E)
    (hdb : (x == ("__debug__" : Str)) = false := by decide) : PE X (.Call (.Name x p) [] [] pos) (tCall sp dvs E tNil) := by
  intro pins s σ H Q I h
  refine wpAny_Call_Name_kw (ld_glob I hg hm ?_ hdb)
  exact PySem.W.callWith_K0 I.kIn hk (run_fn (us := []) F hr hb hd hx I .nil h)
end
structure FnScope (N P : List Str) (sc : Scope) : Prop where
  kind : sc.kind = .function
  co : sc.isCoroutine = false
  gen : sc.isGenerator = false
  nd : N.Nodup
  pre : N.take P.length = P
  par : ∀ x ∈ P, sc.names.lookup x = some .local ∨ sc.names.lookup x = some .cell
  nofree : ∀ y ∈ sc.names, y.2 ≠ .free
theorem bindL_out {kindOf : Str → Option NameKind} {x : Str} : ∀ {binds : List (Str × Value)} {m : Str → Option Value}, (∀ v, (x, v) ∉ binds) → bindL kindOf binds m x = m x
  | [], _, _ => rfl
  | (n, v) :: r, m, h => by
    unfold bindL
    rw [bindL_out fun w hw => h w (List.mem_cons_of_mem _ hw)]
    split
    · have : x ≠ n := by rintro rfl; exact h v List.mem_cons_self
      simp [this]
    · rfl
theorem bindC_out {kindOf : Str → Option NameKind} {x : Str} : ∀ {binds : List (Str × Value)} {m : Str → Option Value}, (∀ v, (x, v) ∉ binds) → bindC kindOf binds m x = m x
  | [], _, _ => rfl
  | (n, v) :: r, m, h => by
    unfold bindC
    rw [bindC_out fun w hw => h w (List.mem_cons_of_mem _ hw)]
    split
    · rfl
    · have : x ≠ n := by rintro rfl; exact h v List.mem_cons_self
      simp [this]
theorem bindL_get {kindOf : Str → Option NameKind} {x : Str} {v : Value} : ∀ {P : List Str} {vs : List Value} {i : Nat} {m : Str → Option Value}, P.Nodup → P[i]? = some x → vs[i]? = some v → kindOf x = some .local →
    bindL kindOf (P.zip vs) m x = some v
  | [], _, _, _, _, h, _, _ => by simp at h
  | _ :: _, [], _, _, _, _, h, _ => by simp at h
  | p :: P, w :: vs, 0, m, nd, h1, h2, hk => by
    simp at h1 h2; subst h1; subst h2
    show bindL kindOf ((p, w) :: P.zip vs) m p = _
    unfold bindL
    rw [bindL_out fun v hv => (List.nodup_cons.mp nd).1 (List.of_mem_zip hv).1, if_pos hk]
    simp
  | p :: P, w :: vs, i + 1, m, nd, h1, h2, hk => by
    show bindL kindOf ((p, w) :: P.zip vs) m x = _
    unfold bindL
    exact bindL_get (i := i) (List.nodup_cons.mp nd).2 (by simpa using h1) (by simpa using h2) hk
theorem bindC_get {kindOf : Str → Option NameKind} {x : Str} {v : Value} : ∀ {P : List Str} {vs : List Value} {i : Nat} {m : Str → Option Value}, P.Nodup → P[i]? = some x → vs[i]? = some v → kindOf x ≠ some .local →
    bindC kindOf (P.zip vs) m x = some v
  | [], _, _, _, _, h, _, _ => by simp at h
  | _ :: _, [], _, _, _, _, h, _ => by simp at h
  | p :: P, w :: vs, 0, m, nd, h1, h2, hk => by
    simp at h1 h2; subst h1; subst h2
    show bindC kindOf ((p, w) :: P.zip vs) m p = _
    unfold bindC
    rw [bindC_out fun v hv => (List.nodup_cons.mp nd).1 (List.of_mem_zip hv).1, if_neg hk]
    simp
  | p :: P, w :: vs, i + 1, m, nd, h1, h2, hk => by
    show bindC kindOf ((p, w) :: P.zip vs) m x = _
    unfold bindC
    exact bindC_get (i := i) (List.nodup_cons.mp nd).2 (by simpa using h1) (by simpa using h2) hk
def start (N : List Str) (vs : List V) : St := vs.map some ++ List.replicate (N.length - vs.length) none
def cxOf (CX : CXT) (P : Program) (w : World) (K : PySem.W.Frag) (mg : Str → Option Value) (base : Heap) (N : List Str) (qual : Str) (scope : Scope) (f : Addr) (cd : Value) (A : Around) (outer : List Env) (s : Shared) (H : Hp) (E : XK) : Cx where
  prog := P
  w := w
  K := K
  mg := mg
  base := base
  A := A.deeper (envOfC qual scope s.heap.objs.size f cd)
  N := N
  s₀ := s
  H₀ := H
  env := envOfC qual scope s.heap.objs.size f cd
  outer := outer
  stack := envOfC qual scope s.heap.objs.size f cd :: outer
  ex := []
  calm := true
  fn := fun _ => true
  pn := []
  xe := fun e s' => wpAny (model P w) (A.deeper (envOfC qual scope s.heap.objs.size f cd)) (leaving (envOfC qual scope s.heap.objs.size f cd) e) (fun _ s'' => CX outer H s E e s'') (fun e' s'' => CX outer H s E e' s'') s'
theorem cell_has {sc : Scope} {n : Nat} {x : Str} (h : sc.names.lookup x = some .cell) : ∃ c, (cellsFrom n sc.names []).lookup x = some c := by
  have q := PySem.W.cellsFrom_some sc.names n [] (.inl h)
  exact Option.isSome_iff_exists.mp q
theorem inv_start {CX : CXT} {P : Program} {w : World} {K : PySem.W.Frag} {mg : Str → Option Value} {base : Heap} {N ps : List Str} {qual : Str} {scope : Scope} {f : Addr} {cd : Value} {A : Around} {outer : List Env} {s s1 : Shared} {H : Hp} {E : XK} {us : List Value} {vs : List V}
    (S : FnScope N ps scope) (hd : A.handled = none) (e0 : Env0 P w K mg base A outer s H) (hl : vs.length = ps.length) (r : Vals vs us)
    (x : InCallC s s.heap.objs.size (bindL (envOfC qual scope s.heap.objs.size f cd).kindOf (ps.zip us) fun _ => none) (cellsFrom (s.heap.objs.size + 1) scope.names []) (bindC (envOfC qual scope s.heap.objs.size f cd).kindOf (ps.zip us) fun _ => none) s1) :
    Inv (cxOf CX P w K mg base N qual scope f cd A outer s H E) [] (start N vs) H s1 := by
  have hpl : ps.length ≤ N.length := by have := congrArg List.length S.pre; rw [List.length_take] at this; omega
  obtain ⟨h1, tk, rfl, hk⟩ := x.done
  have noA : ∀ b : Addr, b ∉ (cxOf CX P w K mg base N qual scope f cd A outer s H E).ex := fun b z => absurd (show b ∈ ([] : List Addr) from z) (by simp)
  refine ⟨⟨e0.mod, S.kind, rfl, rfl, Nat.le_refl _, fun y z c h1 h2 => ?_, fun y hy => ?_, fun y c _ h => ?_, fun _ => hd, Around.frames_deeper e0.frames, .inr ⟨rfl, rfl⟩, fun b z => absurd z (noA b), e0.bs, e0.bsz, fun b _ _ => noA b, fun b z => absurd z (noA b), e0.funs, e0.frf⟩,
    rfl, e0.bare, Un.kept hk, ⟨_, x.toInCall.ns, fun i y v h1 h2 h3 => ?_⟩, fun y c h => ⟨_, x.cell y c h⟩, e0.hok.fresh (Nat.le_refl _), fun y c h => ?_, fun p hp => absurd (show p ∈ ([] : List (Addr × Obj)) from hp) (by simp), e0.hok.kept hk, ?_⟩
  · exact name_of_addr x.apart (PySem.mem_of_lookup h1) (PySem.mem_of_lookup h2)
  · have hy : scope.names.lookup y = some .cell ∨ scope.names.lookup y = some .free := hy
    rcases hy with hy | hy
    · exact cell_has hy
    · exact absurd rfl (S.nofree _ (PySem.mem_of_lookup hy))
  · exact Nat.le_of_lt (x.above y c (PySem.mem_of_lookup h))
  · have hi : i < vs.length := by
      unfold start at h2
      by_cases hi : i < vs.length
      · exact hi
      · rw [List.getElem?_append_right (by simpa using hi)] at h2
        rw [List.getElem?_replicate] at h2
        split at h2 <;> cases h2
    have ha : vs[i]? = some v := by
      unfold start at h2
      rw [List.getElem?_append_left (by simpa using hi), List.getElem?_map] at h2
      cases e : vs[i]? with
      | none => rw [e] at h2; cases h2
      | some a => rw [e] at h2; cases h2; rfl
    obtain ⟨u, hu, rv⟩ := r.get ha
    have hp : ps[i]? = some y := by
      rw [← S.pre, List.getElem?_take_of_lt (by omega)]; exact h1
    have ndP : ps.Nodup := by rw [← S.pre]; exact S.nd.sublist (List.take_sublist _ _)
    refine ⟨u, rv, ?_⟩
    rcases S.par y (List.mem_of_getElem? hp) with k | k
    · exact .inl ⟨k, bindL_get ndP hp hu k⟩
    · obtain ⟨c, e⟩ := cell_has (n := s.heap.objs.size + 1) k
      refine .inr ⟨.inl k, c, e, ?_⟩
      have q := x.cell y c e
      rw [bindC_get ndP hp hu (by show scope.names.lookup y ≠ _; rw [k]; decide)] at q
      exact q
  · exact e0.hok.fresh (Nat.le_of_lt (x.above y c (PySem.mem_of_lookup h)))
  · unfold start
    show _ = N.length
    rw [List.length_append, List.length_map, List.length_replicate]
    omega
theorem fn_of {CX : CXT} {P : Program} {w : World} {K : PySem.W.Frag} {mg : Str → Option Value} {base : Heap} {k : Nat} {f : Addr} {name qual : Str} {params : Arguments} {body : List Stmt} {scope : Scope} {dV kV doc pm cdv ct oc : Value} {an od : Option Addr}
    {osl : Array (Option Value)} {N ps : List Str} {sp : Sp} (lk : K.lookup f = some ⟨oc, od, .func (PySem.W.fnOf name qual params body scope dV kV doc pm an cdv ct), osl⟩) (hcd : PySem.W.codeIn K cdv qual = true) (S : FnScope N ps scope)
    (len : ∀ vs H Q E, sp vs H Q E → vs.length = ps.length)
    (hbody : ∀ (A : Around) (outer : List Env) (s : Shared) (H : Hp) (vs : List V) (Q : VK) (E : XK), Room k (A.deeper (envOfC qual scope s.heap.objs.size f cdv)) → sp vs H Q E →
      ∃ t, PSs (cxOf CX P w K mg base N qual scope f cdv A outer s H E) body t ∧ t { nx := fun _ H' => Q .non H', rt := Q } (start N vs) H) :
    FnOk P w K mg base CX (k + 1) f (PySem.W.fnOf name qual params body scope dV kV doc pm an cdv ct) ps sp := by
  refine ⟨len, fun A outer s H args us vs Q E hr e0 hb r hsp => ?_⟩
  have hl := len _ _ _ _ hsp
  have KX : K.In s.heap := e0.mod.kin.keeps fun b o e => (e0.bs b o e).1
  have lim : s.heap.NoLimit := e0.mod.nolimit.keeps fun b o e => (e0.bs b o e).1
  have hkind : ∀ y ∈ ps.zip us, scope.names.lookup y.1 = some .local ∨ (scope.names.lookup y.1 = some .cell ∧ ((cellsFrom (s.heap.objs.size + 1) scope.names []).lookup y.1).isSome = true) := fun ⟨n, v⟩ hy => by
    rcases S.par n (List.of_mem_zip hy).1 with q | q
    · exact .inl q
    · exact .inr ⟨q, PySem.W.cellsFrom_some _ _ _ (.inl q)⟩
  refine codeAny_call_function hr.depth (KX _ _ lk) rfl S.co S.gen rfl (PySem.W.codeRec_of KX hcd) (hb _ _ _ _ ?_)
  refine wpAny_newFunctionEnv_cells S.kind hkind fun env he s1 x => ?_
  subst he
  refine ⟨lim.keeps x.toInCall.keep, codeAny_func ?_⟩
  obtain ⟨t, ht, hq⟩ := hbody A outer s H vs Q E (hr.deeper _) hsp
  have I : Inv (cxOf CX P w K mg base N qual scope f cdv A outer s H E) [] (start N vs) H s1 := inv_start S hr.hd e0 hl r x
  refine wpAny_mono (ht [] s1 (start N vs) H _ I hq) (fun fl s' hs => ?_) fun e s' hs => hs
  have fin : ∀ {σ' : St} {H' : Hp} {v : V} {u : Value}, Inv (cxOf CX P w K mg base N qual scope f cdv A outer s H E) [] σ' H' s' → RelV v u → Q v H' → CE outer P w H s Q u s' :=
    fun {σ' H' v u} J rv q => ⟨v, H', J.os, J.bare, J.base, J.hok, rv, q⟩
  cases fl with
  | ret u =>
    obtain ⟨v, σ', H', J, rv, q⟩ := hs
    exact fin J rv q
  | next =>
    obtain ⟨σ', H', J, q⟩ := hs
    exact fin (v := V.non) (u := Value.none) J rfl q
  | brk =>
    obtain ⟨_, _, _, q⟩ := hs
    exact False.elim q
  | cont =>
    obtain ⟨_, _, _, q⟩ := hs
    exact False.elim q
end L2
namespace L2
open PySem PySem.Spec PyProof.Rows
section
variable {X : Cx} {x : Str} {p pos : PySem.Pos} {e : Expr} {es : List Expr} {t : TA} {id T : String} {r : List V → Hp → VK → Prop}
def tCB (r : List V → Hp → VK → Prop) (t : TA) : TE := fun σ H Q => t σ H fun vs H1 => r vs H1 Q
theorem pe_callB (hc : CallR X (.builtin id) r) (hg : Gl X x) (hm : X.mg x = none) (hv : bootBuiltins x = some (.builtin id)) (ha : PA X (e :: es) t) (hn : x ≠ "__name__" := by decide) (hdb : (x == ("__debug__" : Str)) = false := by decide)
    (he : starEach (e :: es) X.env = (false, eval e X.env) :: starEach es X.env := by rfl) (hpl : (backTo pos (starEach es X.env)).any (·.1) = false := by rfl) : PE X (.Call (.Name x p) (e :: es) [] pos) (tCB r t) := by
  intro pins s σ H Q I h
  refine wpAny_Call_Name_kw (ld_blt I hg hm hv ?_ hn hdb)
  exact PyProof.Rows.callWith_builtin1 (thn (ha pos pins s σ H _ I h) fun us s1 ⟨vs, H1, I1, r1, q1⟩ => hc pins s1 σ H1 vs us Q I1 r1 q1) he hpl
theorem pe_callTy (hc : CallR X (.type T) r) (hg : Gl X x) (hm : X.mg x = none) (hv : bootBuiltins x = some (.type T)) (ha : PA X (e :: es) t) (hn : x ≠ "__name__" := by decide) (hdb : (x == ("__debug__" : Str)) = false := by decide)
    (he : starEach (e :: es) X.env = (false, eval e X.env) :: starEach es X.env := by rfl) (hpl : (backTo pos (starEach es X.env)).any (·.1) = false := by rfl) : PE X (.Call (.Name x p) (e :: es) [] pos) (tCB r t) := by
  intro pins s σ H Q I h
  refine wpAny_Call_Name_kw (ld_blt I hg hm hv ?_ hn hdb)
  exact PyProof.Rows.callWith_type1 (thn (ha pos pins s σ H _ I h) fun us s1 ⟨vs, H1, I1, r1, q1⟩ => hc pins s1 σ H1 vs us Q I1 r1 q1) he hpl
end
end L2
namespace HT
open PySem PyProof.Rows
section
variable {prog : Program} {w : World} {A : Around} {E : Value → Shared → Prop} {s : Shared}
def sIx (n d : Nat) : Option Int → Nat
  | none => d
  | some v => if v < 0 then (v + (n : Int)).toNat else min v.toNat n
theorem sIx_nat (n d k : Nat) : sIx n d (some (k : Int)) = min k n := by
  show (if (k : Int) < 0 then ((k : Int) + (n : Int)).toNat else min (k : Int).toNat n) = min k n
  rw [if_neg (by omega), Int.toNat_natCast]
end
end HT
namespace L2
open PySem PySem.Spec PyProof.Rows
abbrev TO := St → Hp → (Option Int → Hp → Prop) → Prop
def PO (X : Cx) (e : Option Expr) (t : TO) : Prop :=
  ∀ (pins : List (Addr × Obj)) (s : Shared) (σ : St) (H : Hp) (Q : Option Int → Hp → Prop), Inv X pins σ H s → t σ H Q →
    wpAny (model X.prog X.w) X.A (evalPart e X.env) (fun u s' => ∃ o H', Inv X pins σ H' s' ∧ IsPart u o ∧ Q o H') X.xe s
def tNoPart : TO := fun _ H Q => Q none H
def tPart (t : TE) : TO := fun σ H Q => t σ H fun x H1 => ∃ i, x = .int i ∧ Q (some i) H1
theorem intsAre_of {ns : List Int} : ∀ {us : List Value}, Vals (ns.map V.int) us → IntsAre us ns := by
  induction ns with
  | nil => intro us r; rw [List.map_nil] at r; cases r; exact .nil
  | cons n ns ih =>
    intro us r
    rw [List.map_cons] at r
    cases r with
    | cons r1 r2 =>
      obtain ⟨t, e⟩ := r1
      subst e
      exact .cons n t (ih r2)
section
variable {X : Cx} {e : Expr} {te : TE} {lo hi : Option Expr} {tl th : TO} {pos p2 : PySem.Pos}
theorem po_none : PO X none tNoPart := by
  intro pins s σ H Q I h
  rw [evalPart_none]
  exact wpAny_pure ⟨none, H, I, .none, h⟩
theorem po_some (h : PE X e te) : PO X (some e) (tPart te) := by
  intro pins s σ H Q I hw
  rw [evalPart_some]
  refine thn (h pins s σ H _ I hw) fun u s1 ⟨x, H1, I1, r1, q1⟩ => ?_
  obtain ⟨i, rfl, q⟩ := q1
  obtain ⟨t, rfl⟩ := r1
  exact ⟨some i, H1, I1, .int i t, q⟩
def SlR (X : Cx) (r : V → Option Int → Option Int → Hp → VK → Prop) : Prop :=
  ∀ (pins : List (Addr × Obj)) (s : Shared) (σ : St) (H : Hp) (x : V) (v vl vu : Value) (lo hi : Option Int) (sl : Addr) (Q : VK), Inv X pins σ H s → RelV x v → s.heap.IsSliceOf sl vl vu .none → IsPart vl lo → IsPart vu hi → r x lo hi H Q →
    ∃ T id, typeLookup (.type T) "__getitem__" = pure (some (.builtin id)) ∧ s.TypeIs v T ∧ wpAny (model X.prog X.w) X.A (getItem v (.ref sl)) (EP X pins σ Q) X.xe s
def tSl (r : V → Option Int → Option Int → Hp → VK → Prop) (te : TE) (tl th : TO) : TE := fun σ H Q => te σ H fun x H1 => tl σ H1 fun l H2 => th σ H2 fun u H3 => r x l u H3 Q
theorem pe_slice {r : V → Option Int → Option Int → Hp → VK → Prop} (hr : SlR X r) (he : PE X e te) (hl : PO X lo tl) (hu : PO X hi th) : PE X (.Subscript e (.Slice lo hi none p2) pos) (tSl r te tl th) := by
  intro pins s σ H Q I h
  refine Subscript_ (thn (he pins s σ H _ I h) fun v s1 ⟨x, H1, I1, r1, q1⟩ => ?_)
  refine wpAny_Slice (thn (hl pins s1 σ H1 _ I1 q1) fun vl s2 ⟨l, H2, I2, pl, q2⟩ => thn (hu pins s2 σ H2 _ I2 q2) fun vu s3 ⟨u, H3, I3, pu, q3⟩ => ?_)
  rw [evalPart_none]
  refine wpAny_pure ?_
  have I4 : Inv X pins σ H3 { s3 with heap := s3.heap.push { cls := .type "slice", data := .fields #[vl, vu, .none] } } := I3.kept (t' := s3.toks) fun b ob q => Heap.get?_push_of_some _ q
  obtain ⟨T, id, hT, ht, hg⟩ := hr pins { s3 with heap := s3.heap.push { cls := .type "slice", data := .fields #[vl, vu, .none] } } σ H3 x v vl vu l u s3.heap.objs.size Q I4 r1 (Heap.IsSliceOf.new ..) pl pu q3
  show wpAny (model X.prog X.w) X.A (subscriptTail e (.Slice lo hi none p2) v (.ref s3.heap.objs.size)) (EP X pins σ Q) X.xe { s3 with heap := s3.heap.push { cls := .type "slice", data := .fields #[vl, vu, .none] } }
  exact tail_any (ops := [.ref s3.heap.objs.size, v]) ht hT hg (by with_unfolding_all rfl)
def cutV (xs : List V) (lo hi : Option Int) : List V := (xs.drop (HT.sIx xs.length 0 lo)).take (HT.sIx xs.length xs.length hi - HT.sIx xs.length 0 lo)
theorem cutV_length (xs : List V) (lo hi : Option Int) : (cutV xs lo hi).length ≤ xs.length := by
  unfold cutV
  rw [List.length_take, List.length_drop]
  omega
end
end L2
namespace L2
open PySem PySem.Spec PyProof.Rows
def ixN (n : Nat) (i : Int) : Option Nat := if 0 ≤ i then (if i < n then some i.toNat else none) else if -(n : Int) ≤ i then some (i + n).toNat else none
def atI {α : Type} (xs : List α) (i : Int) : Option α := (ixN xs.length i).bind fun j => xs[j]?
theorem ixN_seq {n : Nat} {i : Int} {j : Nat} (h : ixN n i = some j) : seqIndex? i n = some j ∧ j < n ∧ -(n : Int) ≤ i ∧ i < n := by
  unfold ixN at h
  by_cases h0 : 0 ≤ i
  · rw [if_pos h0] at h
    by_cases h1 : i < n
    · rw [if_pos h1] at h
      have e : i.toNat = j := Option.some.inj h
      exact ⟨by rw [seqIndex_of h0 h1, e], by omega, by omega, h1⟩
    · rw [if_neg h1] at h; cases h
  · rw [if_neg h0] at h
    by_cases h1 : -(n : Int) ≤ i
    · rw [if_pos h1] at h
      have e : (i + n).toNat = j := Option.some.inj h
      exact ⟨by rw [seqIndex_neg (by omega) h1, e], by omega, h1, by omega⟩
    · rw [if_neg h1] at h; cases h
theorem atI_get {α : Type} {xs : List α} {i : Int} {v : α} (h : atI xs i = some v) : ∃ j, seqIndex? i xs.length = some j ∧ xs[j]? = some v ∧ j < xs.length ∧ -(xs.length : Int) ≤ i ∧ i < xs.length := by
  unfold atI at h
  cases e : ixN xs.length i with
  | none => rw [e] at h; cases h
  | some j =>
    rw [e] at h
    obtain ⟨h1, h2, h3, h4⟩ := ixN_seq e
    exact ⟨j, h1, h, h2, h3, h4⟩
theorem atI_nat {α : Type} {xs : List α} {j : Nat} {v : α} (h : xs[j]? = some v) : atI xs (j : Int) = some v := by
  have hj : j < xs.length := (List.getElem?_eq_some_iff.mp h).1
  have e : ixN xs.length (j : Int) = some j := by
    unfold ixN
    rw [if_pos (by omega), if_pos (by omega)]; simp
  unfold atI; rw [e]; exact h
def PlainIx (b : Expr) : Prop := ∀ o i, subscripted b false o i = operate [o, i] (getItem o i)
def IxR (X : Cx) (r : R2) : Prop :=
  ∀ (value slice : Expr) (pins : List (Addr × Obj)) (s : Shared) (σ : St) (H : Hp) (x y : V) (v u : Value) (Q : VK), Inv X pins σ H s → RelV x v → RelV y u → r x y H Q →
    subscripted slice false v u = operate [v, u] (getItem v u) → wpAny (model X.prog X.w) X.A (subscriptTail value slice v u) (EP X pins σ Q) X.xe s
def MtR (X : Cx) (id : String) (r : V → List V → Hp → VK → Prop) : Prop :=
  ∀ (pins : List (Addr × Obj)) (s : Shared) (σ : St) (H : Hp) (x : V) (xs : List V) (v : Value) (us : List Value) (Q : VK), Inv X pins σ H s → RelV x v → Vals xs us → r x xs H Q →
    wpAny (model X.prog X.w) X.A (call (.builtin id) (v :: us)) (EP X pins σ Q) X.xe s
section
variable {X : Cx} {a b : Expr} {ta tb : TE} {pos : PySem.Pos}
theorem pe_ix {r : R2} (hr : IxR X r) (ha : PE X a ta) (hb : PE X b tb) (hs : PlainIx b) : PE X (.Subscript a b pos) (tOp r ta tb) := by
  intro pins s σ H Q I h
  exact Subscript_ (binT ha hb I h fun v u s2 x y H2 I2 rx ry q => hr a b pins s2 σ H2 x y v u Q I2 rx ry q (hs _ _))
def rIxL (K : PySem.W.Frag) : R2 := fun x y H Q => ∃ p xs i v, x = .ref p ∧ y = .int i ∧ SqL K H p xs ∧ atI xs i = some v ∧ Q v H
def rIxS : R2 := fun x y H Q => ∃ z i c, x = .str z ∧ y = .int i ∧ z.length ≤ sizeLine ∧ atI z.cps.toList i = some c ∧ Q (.str ⟨#[c]⟩) H
theorem ix_list : IxR X (rIxL X.K) := by
  intro value slice pins s σ H x y v u Q I rx ry h hs
  obtain ⟨p, xs, i, z, rfl, rfl, hq, he, q⟩ := h
  cases rx
  obtain ⟨t, rfl⟩ := ry
  obtain ⟨its, r, pl, hz⟩ := I.list hq
  obtain ⟨j, h1, h2, h3, h4, h5⟩ := atI_get he
  obtain ⟨w, ew, rw'⟩ := r.get h2
  have hl := r.length
  have hn := line63
  have fin : EP X pins σ Q w s := ⟨z, H, I, rw', q⟩
  by_cases h0 : 0 ≤ i
  · have hj : i.toNat = j := by
      rw [seqIndex_of h0 h5] at h1
      exact Option.some.inj h1
    exact item_listR pl.isList h0 (by omega) (by rw [hj]; simpa using ew) fin hs
  · have hj : (i + (its.toArray.size : Int)).toNat = j := by
      rw [seqIndex_neg (by omega) h4] at h1
      rw [List.size_toArray, ← hl]
      exact Option.some.inj h1
    exact subscriptTail_builtinR (x := w) pl.isList.typeIs slot_list_getitem.lookup
      (wpAny_getItem_list_neg (Q := fun r s' => r = w ∧ EP X pins σ Q r s') pl.isList (by omega) (by rw [List.size_toArray] <;> omega) (by omega) (by rw [hj]; simpa using ew) ⟨rfl, fin⟩) hs
theorem ix_str : IxR X rIxS := by
  intro value slice pins s σ H x y v u Q I rx ry h hs
  obtain ⟨z, i, c, rfl, rfl, hz, he, q⟩ := h
  obtain ⟨t, rfl⟩ := rx
  obtain ⟨t', rfl⟩ := ry
  obtain ⟨j, h1, h2, h3, h4, h5⟩ := atI_get he
  have hl : z.cps.toList.length = z.length := by simp [Str.length]
  rw [hl] at h1 h4 h5
  have hn := line63
  exact tail_any (typeIs_str s z t) slot_str_getitem.lookup (getItem_str (c := c) (by
    have e1 : decide (i < -(2 ^ 63 : Int)) = false := decide_eq_false (by omega)
    have e2 : decide (i ≥ 2 ^ 63) = false := decide_eq_false (by omega)
    rw [e1, e2, Bool.or_false]) (by rw [h1]; simpa using h2) ⟨.str ⟨#[c]⟩, H, I.tok _, ⟨_, rfl⟩, q⟩) hs
theorem mapSeq_set (its : List Value) (n j : Nat) (u : Value) : Obj.mapSeq (·.setIfInBounds j u) { cls := .type "list", data := .seq its.toArray n } = { cls := .type "list", data := .seq (its.set j u).toArray n } := by
  simp [Obj.mapSeq]
theorem Inv.lst {pins : List (Addr × Obj)} {σ : St} {H : Hp} {s : Shared} {p : Addr} {xs : List V} (I : Inv X pins σ H s) (h : H p = some (.lst xs)) :
    ∃ (its : List Value) (n : Nat), Vals xs its ∧ s.heap.get? p = some { cls := .type "list", data := .seq its.toArray n } ∧ xs.length ≤ sizeLine := by
  obtain ⟨z, its, n, r, e⟩ := I.hok p _ h
  exact ⟨its, n, r, e, z⟩
theorem Inv.lstUpd {pins : List (Addr × Obj)} {σ : St} {H : Hp} {s : Shared} {p : Addr} {xs ys : List V} {its its' : List Value} {n n' : Nat} {f : Obj → Obj} (I : Inv X pins σ H s) (h : H p = some (.lst xs))
    (ho : s.heap.get? p = some { cls := .type "list", data := .seq its.toArray n }) (hf : f { cls := .type "list", data := .seq its.toArray n } = { cls := .type "list", data := .seq its'.toArray n' }) (r : Vals ys its') (hz : ys.length ≤ sizeLine) (t : Nat) :
    Inv X pins σ (upd H p (.lst ys)) { s with heap := s.heap.update p f, toks := t } := by
  have e : (s.heap.update p f).get? p = some { cls := .type "list", data := .seq its'.toArray n' } := by
    rw [Heap.get?_update_self f ho (by rw [hf] <;> rfl), hf]
  refine I.write (x := p) (e := p) (by rw [h]; trivial) (.inl rfl) (fun b u hb q => (Heap.get?_update_other _ _ (Ne.symm hb)).trans q) ⟨_, e⟩ ?_
  exact ⟨hz, its', n', r, e⟩
def rSetL : V → V → V → Hp → (Hp → Prop) → Prop := fun o i v H Q => ∃ p xs k j, o = .ref p ∧ i = .int k ∧ H p = some (.lst xs) ∧ ixN xs.length k = some j ∧ Q (upd H p (.lst (xs.set j v)))
theorem set_list : PSet X rSetL := by
  intro pins s σ H o i v ov iv u Q I ro ri rv h
  obtain ⟨p, xs, k, j, rfl, rfl, hp, hj, q⟩ := h
  cases ro
  obtain ⟨t, rfl⟩ := ri
  obtain ⟨its, n, r, ho, hz⟩ := I.lst hp
  obtain ⟨h1, h2, h3, h4⟩ := ixN_seq hj
  have hl := r.length
  have hn := line63
  have I' : Inv X pins σ (upd H p (.lst (xs.set j v))) { s with heap := s.heap.update p (Obj.mapSeq (·.setIfInBounds j u)) } :=
    I.lstUpd hp ho (mapSeq_set its n j u) (r.set rv j) (by rw [List.length_set]; exact hz) s.toks
  by_cases h0 : 0 ≤ k
  · have hk : k.toNat = j := by
      rw [seqIndex_of h0 h4] at h1
      exact Option.some.inj h1
    exact PySem.W.ki_setAt ho h0 (by omega) (by rw [List.size_toArray, ← hl]; exact h4) (by rw [hk]; exact ⟨_, I', q⟩)
  · have hk : (k + (its.toArray.size : Int)).toNat = j := by
      rw [seqIndex_neg (by omega) h3] at h1
      rw [List.size_toArray, ← hl]
      exact Option.some.inj h1
    exact PySem.W.ki_setBack ho (by omega) (by rw [List.size_toArray, ← hl]; exact h3) (by omega) (by rw [hk]; exact ⟨_, I', q⟩)
theorem slice_bounds (lo hi : Option Int) (n : Nat) : (sliceBounds lo hi none n).1 = ((HT.sIx n 0 lo : Nat) : Int) ∧ (sliceBounds lo hi none n).2.1 = ((HT.sIx n n hi : Nat) : Int) ∧ (sliceBounds lo hi none n).2.2 = 1 := by
  refine ⟨?_, ?_, rfl⟩
  · cases lo with
    | none => simp [sliceBounds, HT.sIx]
    | some i =>
      simp only [sliceBounds, HT.sIx, Option.getD_none, show (1 : Int) > 0 by decide, if_true]
      by_cases h : i < 0
      · simp only [h, if_true] <;> omega
      · simp only [h, if_false] <;> omega
  · cases hi with
    | none => simp [sliceBounds, HT.sIx]
    | some i =>
      simp only [sliceBounds, HT.sIx, Option.getD_none, show (1 : Int) > 0 by decide, if_true]
      by_cases h : i < 0
      · simp only [h, if_true] <;> omega
      · simp only [h, if_false] <;> omega
theorem slicePick_cut (its : List Value) (lo hi : Option Int) : slicePick its.toArray lo hi none = ((its.drop (HT.sIx its.length 0 lo)).take (HT.sIx its.length its.length hi - HT.sIx its.length 0 lo)).toArray := by
  obtain ⟨h1, h2, h3⟩ := slice_bounds lo hi its.toArray.size
  unfold slicePick
  rw [h1, h2, h3]
  simp only [sliceRange_one, pick_run, List.size_toArray] <;> rfl
def rSlL (K : PySem.W.Frag) : V → Option Int → Option Int → Hp → VK → Prop := fun x lo hi H Q => ∃ a xs, x = .ref a ∧ SqL K H a xs ∧ ∀ p, H p = none → Q (.ref p) (upd H p (.lst (cutV xs lo hi)))
theorem sl_list : SlR X (rSlL X.K) := by
  intro pins s σ H x v vl vu lo hi sl Q I rx hs pl pu h
  obtain ⟨a, xs, rfl, hx, q⟩ := h
  cases rx
  obtain ⟨its, r, ht, hz⟩ := I.list hx
  have hlen := r.length
  refine ⟨"list", _, slot_list_getitem.lookup, ht.isList.typeIs, ?_⟩
  refine wpAny_getItem_list_slice ht.isList hs pl pu .none (by simp) ?_ (by rw [List.size_toArray] <;> omega)
  rw [slicePick_cut, ← hlen]
  refine ⟨.ref s.heap.objs.size, _, I.laid (t' := s.toks) (o := .lst (cutV xs lo hi)) (fun b ob q => Heap.get?_push_of_some _ q) (Nat.le_refl _) ?_, rfl, q _ (I.hok.fresh (Nat.le_refl _))⟩
  exact ⟨Nat.le_trans (cutV_length xs lo hi) hz, _, 0, (r.drop (HT.sIx xs.length 0 lo)).take (HT.sIx xs.length xs.length hi - HT.sIx xs.length 0 lo), Heap.get?_push_size _ rfl⟩
def flatV : V → Bool
  | .non => true
  | .bl _ => true
  | .int _ => true
  | .str _ => true
  | _ => false
def eqV : V → V → Bool
  | .non, .non => true
  | .bl a, .bl b => a == b
  | .bl a, .int b => (if a then 1 else 0) == b
  | .int a, .bl b => a == (if b then 1 else 0)
  | .int a, .int b => a == b
  | .str a, .str b => a == b
  | _, _ => false
theorem eqAt_V {A : Around} {s : Shared} {y x : V} {u v : Value} (ry : RelV y u) (rx : RelV x v) (fy : flatV y = true) (fx : flatV x = true) : SeqAt.EqAt A s u v (eqV y x) := by
  cases y with
  | non =>
    cases ry
    cases x with
    | non => cases rx; exact SeqAt.EqAt.same _
    | bl b => cases rx; exact SeqAt.EqAt.none_bool b
    | int b => obtain ⟨t, rfl⟩ := rx; exact SeqAt.EqAt.none_int b t
    | str b => obtain ⟨t, rfl⟩ := rx; exact SeqAt.EqAt.none_str b t
    | _ => exact absurd (show false = true from fx) Bool.false_ne_true
  | bl a =>
    cases ry
    cases x with
    | non => cases rx; exact SeqAt.EqAt.bool_none a
    | bl b => cases rx; exact SeqAt.EqAt.bool_bool a b
    | int b => obtain ⟨t, rfl⟩ := rx; exact SeqAt.EqAt.bool_int a b t
    | str b => obtain ⟨t, rfl⟩ := rx; exact SeqAt.EqAt.bool_str a b t
    | _ => exact absurd (show false = true from fx) Bool.false_ne_true
  | int a =>
    obtain ⟨t', rfl⟩ := ry
    cases x with
    | non => cases rx; exact SeqAt.EqAt.int_none a t'
    | bl b => cases rx; exact SeqAt.EqAt.int_bool a t' b
    | int b => obtain ⟨t, rfl⟩ := rx; exact SeqAt.EqAt.int_int a t' b t
    | str b => obtain ⟨t, rfl⟩ := rx; exact SeqAt.EqAt.int_str a t' b t
    | _ => exact absurd (show false = true from fx) Bool.false_ne_true
  | str a =>
    obtain ⟨t', rfl⟩ := ry
    cases x with
    | non => cases rx; exact SeqAt.EqAt.str_none a t'
    | bl b => cases rx; exact SeqAt.EqAt.str_bool a t' b
    | int b => obtain ⟨t, rfl⟩ := rx; exact SeqAt.EqAt.str_int a t' b t
    | str b => obtain ⟨t, rfl⟩ := rx; exact SeqAt.EqAt.str_str a t' b t
    | _ => exact absurd (show false = true from fx) Bool.false_ne_true
  | _ => exact absurd (show false = true from fy) Bool.false_ne_true
def eqU (x : V) (u : Value) : Bool := match u with
  | .none => eqV .non x
  | .bool b => eqV (.bl b) x
  | .int i _ => eqV (.int i) x
  | .str z _ => eqV (.str z) x
  | _ => false
theorem eqU_of {x y : V} {u : Value} (r : RelV y u) (f : flatV y = true) : eqU x u = eqV y x := by
  cases y with
  | non => cases r; rfl
  | bl b => cases r; rfl
  | int i => obtain ⟨t, rfl⟩ := r; rfl
  | str z => obtain ⟨t, rfl⟩ := r; rfl
  | _ => exact absurd (show false = true from f) Bool.false_ne_true
theorem any_eqU {x : V} : ∀ {xs : List V} {us : List Value}, Vals xs us → xs.all flatV = true → us.any (eqU x) = xs.any fun y => eqV y x
  | _, _, .nil, _ => rfl
  | y :: xs, u :: us, .cons r t, f => by
    rw [List.all_cons, Bool.and_eq_true] at f
    rw [List.any_cons, List.any_cons, eqU_of r f.1, any_eqU t f.2]
theorem mem_eqAt {A : Around} {s : Shared} {x : V} {v : Value} (rx : RelV x v) (fx : flatV x = true) : ∀ {xs : List V} {us : List Value}, Vals xs us → xs.all flatV = true → ∀ u ∈ us, SeqAt.EqAt A s u v (eqU x u)
  | _, _, .nil, _ => fun u hu => by cases hu
  | y :: xs, u :: us, .cons r t, f => fun u' hu => by
    rw [List.all_cons, Bool.and_eq_true] at f
    rcases List.mem_cons.mp hu with rfl | hu
    · rw [eqU_of r f.1]; exact eqAt_V r rx f.1 fx
    · exact mem_eqAt rx fx t f.2 u' hu
def inV (x : V) (xs : List V) : Bool := xs.any fun y => eqV y x
def rIn (K : PySem.W.Frag) (neg : Bool) : R2 := fun x y H Q => ∃ p xs, y = .ref p ∧ (SqL K H p xs ∨ SqT K H p xs) ∧ flatV x = true ∧ xs.all flatV = true ∧ Q (.bl (if neg then !inV x xs else inV x xs)) H
theorem op_in_seq : OpR X (compareOp .In) (rIn X.K false) := by
  intro pins s σ H x y v u Q I rx ry h
  obtain ⟨p, xs, rfl, hq, fx, fs, q⟩ := h
  cases ry
  rcases hq with hq | hq
  · obtain ⟨its, r, pl, hz⟩ := I.list hq
    refine SeqAt.in_listAt (eqU x) pl.isList (fun w hw => mem_eqAt rx fx r fs w (by simpa using hw)) ⟨.bl _, H, I, rfl, ?_⟩
    rw [show its.toArray.any (eqU x) = its.any (eqU x) by simp, any_eqU r fs]
    exact q
  · obtain ⟨its, r, pl, hz⟩ := I.tuple hq
    refine SeqAt.in_tupleAt (eqU x) pl (fun w hw => mem_eqAt rx fx r fs w (by simpa using hw)) ⟨.bl _, H, I, rfl, ?_⟩
    rw [show its.toArray.any (eqU x) = its.any (eqU x) by simp, any_eqU r fs]
    exact q
theorem call_len_seq : CallR X (.builtin "len") (fun xs H Q => ∃ p ys, xs = [.ref p] ∧ (SqL X.K H p ys ∨ SqT X.K H p ys) ∧ Q (.int ys.length) H) := by
  intro pins s σ H xs us Q I r h
  obtain ⟨p, ys, rfl, hq, q⟩ := h
  obtain ⟨u, rfl, rx⟩ := vals1 r
  cases rx
  have hn := line63
  rcases hq with hq | hq
  · obtain ⟨its, r', pl, hz⟩ := I.list hq
    have hlen := r'.length
    exact Calls.call_len_list pl.isList (by simp only [List.size_toArray] <;> omega) ⟨.int ys.length, H, I.tok _, ⟨s.toks + 1, by rw [List.size_toArray, hlen]⟩, q⟩
  · obtain ⟨its, r', pl, hz⟩ := I.tuple hq
    have hlen := r'.length
    exact len_tuple pl (by simp only [List.size_toArray] <;> omega) ⟨.int ys.length, H, I.tok _, ⟨s.toks + 1, by rw [List.size_toArray, hlen]⟩, q⟩
theorem call_len_str : CallR X (.builtin "len") (fun xs H Q => ∃ z, xs = [.str z] ∧ z.length ≤ sizeLine ∧ Q (.int z.length) H) := by
  intro pins s σ H xs us Q I r h
  obtain ⟨z, rfl, hz, q⟩ := h
  obtain ⟨u, rfl, t, rfl⟩ := vals1 r
  have hn := line63
  exact len_str (by omega) ⟨.int z.length, H, I.tok _, ⟨_, rfl⟩, q⟩
theorem call_tuple_of : CallR X (.type "tuple") (fun xs H Q => ∃ p ys, xs = [.ref p] ∧ ((SqL X.K H p ys ∧ ∀ l, H l = none → Q (.ref l) (upd H l (.tup ys))) ∨ (SqT X.K H p ys ∧ Q (.ref p) H))) := by
  intro pins s σ H xs us Q I r h
  obtain ⟨p, ys, rfl, h⟩ := h
  obtain ⟨u, rfl, rx⟩ := vals1 r
  cases rx
  rcases h with ⟨hq, q⟩ | ⟨hq, q⟩
  · obtain ⟨its, r', pl, hz⟩ := I.list hq
    have hlen := r'.length
    refine call_tuple_list pl.isList (fun h' kp => ?_) (by simp only [List.size_toArray] <;> omega)
    have I1 : Inv X pins σ H { s with heap := h' } := I.kept (t' := s.toks) kp
    have I2 : Inv X pins σ (upd H h'.objs.size (.tup ys)) { s with heap := h'.push { cls := .type "tuple", data := .seq its.toArray } } :=
      I1.laid (t' := s.toks) (fun b o e => Heap.get?_push_of_some _ e) (Nat.le_refl _) (show ObjOk X.prog X.w _ _ _ (.tup ys) from ⟨hz, its, r', IsTup.new _ _⟩)
    exact ⟨.ref h'.objs.size, _, I2, rfl, q _ (I1.hok.fresh (Nat.le_refl _))⟩
  · obtain ⟨its, r', pl, hz⟩ := I.tuple hq
    exact call_tuple_same pl ⟨.ref p, H, I, rfl, q⟩
def tyV (K : PySem.W.Frag) (T : String) (x : V) (H : Hp) : Prop := match x with
  | .str _ => T = "str"
  | .int _ => T = "int"
  | .ref p => (T = "list" ∧ ∃ xs, SqL K H p xs) ∨ (T = "tuple" ∧ ∃ o, K.lookup p = some o ∧ o.cls = .type "tuple" ∧ o.dict = none) ∨
      (T = "dict" ∧ ((∃ kvs, H p = some (.dK kvs)) ∨ ∃ kvs, H p = some (.dT kvs))) ∨ (T = "set" ∧ ∃ S n, H p = some (.set S n))
  | _ => False
theorem tyV_is {pins : List (Addr × Obj)} {σ : St} {H : Hp} {s : Shared} {T : String} {x : V} {v : Value} (I : Inv X pins σ H s) (r : RelV x v) (ty : tyV X.K T x H) :
    s.TypeIs v T ∧ ∀ a, v = .ref a → ∃ ob, s.heap.get? a = some ob ∧ ob.dict = none := by
  cases x with
  | str z =>
    obtain ⟨t, rfl⟩ := r
    cases (show T = "str" from ty)
    exact ⟨typeIs_str s z t, fun _ e => nomatch e⟩
  | int i =>
    obtain ⟨t, rfl⟩ := r
    cases (show T = "int" from ty)
    exact ⟨typeIs_int s i t, fun _ e => nomatch e⟩
  | ref p =>
    cases r
    rcases ty with ⟨rfl, xs, hq⟩ | ⟨rfl, o, hk, hc, hd⟩ | ⟨rfl, hk⟩ | ⟨rfl, S, n, hk⟩
    · obtain ⟨its, _, pl, _⟩ := I.list hq
      refine ⟨pl.isList.typeIs, fun a e => ?_⟩
      cases e
      obtain ⟨o, n, e, c, hd, _⟩ := pl
      exact ⟨o, e, hd⟩
    · refine ⟨⟨o, I.kIn p o hk, hc⟩, fun a e => ?_⟩
      cases e
      exact ⟨o, I.kIn _ o hk, hd⟩
    · have z : ∃ o, s.heap.get? p = some o ∧ o.ExactDict := by
        rcases hk with ⟨kvs, hk⟩ | ⟨kvs, hk⟩
        · obtain ⟨_, _, _, _, o, _, _, e, ex, _⟩ := I.hok p _ hk
          exact ⟨o, e, ex⟩
        · obtain ⟨_, _, _, _, o, _, _, e, ex, _⟩ := I.hok p _ hk
          exact ⟨o, e, ex⟩
      obtain ⟨o, e, ex⟩ := z
      refine ⟨⟨o, e, ex.1⟩, fun a e2 => ?_⟩
      cases e2
      exact ⟨o, e, ex.2.1⟩
    · obtain ⟨o, _, _, _, e, ex, _⟩ := I.hok p _ hk
      refine ⟨⟨o, e, ex.1⟩, fun a e2 => ?_⟩
      cases e2
      exact ⟨o, e, ex.2.1⟩
  | _ => exact False.elim ty
def tBM0 (K : PySem.W.Frag) (T : String) (r : V → List V → Hp → VK → Prop) (to : TE) : TE := fun σ H Q => to σ H fun x H1 => tyV K T x H1 ∧ r x [] H1 Q
def tBM (K : PySem.W.Frag) (T : String) (r : V → List V → Hp → VK → Prop) (to : TE) (t : TA) : TE := fun σ H Q => to σ H fun x H1 => tyV K T x H1 ∧ t σ H1 fun xs H2 => r x xs H2 Q
variable {o e : Expr} {es : List Expr} {to : TE} {t : TA} {name : Str} {apos cpos : PySem.Pos} {T id : String} {r : V → List V → Hp → VK → Prop}
theorem pe_bm0 (pa : PlainAttrs T) (slot : Slot T name id) (hty : typeOf (.builtin id) = pure (.type "method_descriptor")) (hm : MtR X id r) (ho : PE X o to)
    (hbase : attributeBase o name X.env (eval o X.env) = eval o X.env := by rfl) (hline : (apos.endLine == cpos.line) = true := by rfl) : PE X (.Call (.Attribute o name apos) [] [] cpos) (tBM0 X.K T r to) := by
  intro pins s σ H Q I h
  refine wpAny_Call_method0_late hbase hline (thn (ho pins s σ H _ I h) fun v s1 ⟨x, H1, I1, r1, ty, q1⟩ => ?_)
  obtain ⟨h1, h2⟩ := tyV_is I1 r1 ty
  exact ⟨T, id, pa, slot, hty, h1, h2, Calls.callWith_builtin rfl (PySem.evalArgs_none (hm pins s1 σ H1 x [] v [] Q I1 r1 .nil q1))⟩
theorem pe_bm (pa : PlainAttrs T) (slot : Slot T name id) (hty : typeOf (.builtin id) = pure (.type "method_descriptor")) (hm : MtR X id r) (ho : PE X o to) (ha : PA X (e :: es) t)
    (hbase : attributeBase o name X.env (eval o X.env) = eval o X.env := by rfl)
    (hfew : ((backTo cpos (starEach (e :: es) X.env)).all (fun x => !x.1) && (backToKw cpos (keywordEach [] X.env)).all (fun x => x.1.isSome)
      && decide ((e :: es).length + ([] : List Keyword).length + (if ([] : List Keyword).isEmpty then 0 else 1) < 30)) = true := by rfl)
    (hline : (apos.endLine == cpos.line) = true := by rfl) (hs : starEach (e :: es) X.env = (false, eval e X.env) :: starEach es X.env := by rfl) (hplain : (backTo cpos (starEach es X.env)).any (·.1) = false := by rfl) :
    PE X (.Call (.Attribute o name apos) (e :: es) [] cpos) (tBM X.K T r to t) := by
  intro pins s σ H Q I h
  refine wpAny_Call_method_late hbase hfew hline rfl (thn (ho pins s σ H _ I h) fun v s1 ⟨x, H1, I1, r1, ty, q1⟩ => ?_)
  obtain ⟨h1, h2⟩ := tyV_is I1 r1 ty
  refine ⟨T, id, pa, slot, hty, h1, h2, ?_⟩
  have hA := ha cpos pins s1 σ H1 _ I1 q1
  rw [hs] at hA ⊢
  refine Calls.callWith_builtin (by show (false || (backTo cpos (starEach es X.env)).any (·.1)) = false; rw [hplain] <;> rfl) (Calls.evalArgs_plain ?_)
  exact thn hA fun us s2 ⟨vs, H2, I2, r2, q2⟩ => hm pins s2 σ H2 x vs v us Q I2 r1 r2 q2
end
end L2
namespace L2
open PySem PySem.Spec PyProof.Rows
def MtM (X : Cx) (id : String) (r : V → List V → Hp → VK → Prop) : Prop :=
  ∀ (pins : List (Addr × Obj)) (s : Shared) (σ : St) (H : Hp) (x : V) (xs : List V) (v : Value) (us : List Value) (Q : VK), Inv X pins σ H s → RelV x v → Vals xs us → r x xs H Q →
    wpAny (model X.prog X.w) X.A (call (.builtin id) (v :: us)) (EP X pins σ Q) X.xe s
theorem Vals.one : ∀ {x : V} {us : List Value}, Vals [x] us → ∃ u, us = [u] ∧ RelV x u
  | _, _, .cons r .nil => ⟨_, rfl, r⟩
theorem Vals.zero : ∀ {us : List Value}, Vals [] us → us = []
  | _, .nil => rfl
theorem Vals.eraseIdx : ∀ {xs : List V} {us : List Value} (i : Nat), Vals xs us → Vals (xs.eraseIdx i) (us.eraseIdx i)
  | _, _, _, .nil => .nil
  | _, _, 0, .cons _ t => t
  | _, _, i + 1, .cons r t => .cons r (Vals.eraseIdx i t)
theorem Vals.rep {xs : List V} {us : List Value} (h : Vals xs us) : ∀ k : Nat, Vals (List.replicate k xs).flatten (List.replicate k us).flatten
  | 0 => .nil
  | k + 1 => by
    rw [List.replicate_succ, List.replicate_succ, List.flatten_cons, List.flatten_cons]
    exact Vals.append h (Vals.rep h k)
theorem len_erase {α : Type} : ∀ (l : List α) (i : Nat), (l.eraseIdx i).length ≤ l.length
  | [], _ => Nat.le_refl _
  | _ :: _, 0 => Nat.le_succ _
  | _ :: r, i + 1 => Nat.succ_le_succ (len_erase r i)
theorem foldl_rep (its : List Value) : ∀ (k : Nat) (acc : List Value),
    List.foldl (fun x1 x2 => x1 ++ x2) acc.toArray (List.replicate k its.toArray) = (acc ++ (List.replicate k its).flatten).toArray
  | 0, acc => by simp
  | k + 1, acc => by
    have e : acc.toArray ++ its.toArray = (acc ++ its).toArray := by simp
    have e2 : (acc ++ its) ++ (List.replicate k its).flatten = acc ++ (List.replicate (k + 1) its).flatten := by
      rw [List.replicate_succ, List.flatten_cons, List.append_assoc]
    rw [← e2, ← foldl_rep its k (acc ++ its), ← e, List.replicate_succ, List.foldl_cons]
section
variable {X : Cx} {pins : List (Addr × Obj)} {σ : St} {H : Hp} {s : Shared} {l b : Addr} {xs ys zs : List V}
theorem Inv.lset {its its' : List Value} {n : Nat} {f : Array Value → Array Value} {t' : Nat} (I : Inv X pins σ H s) (hH : H l = some (.lst xs))
    (e : s.heap.get? l = some { cls := .type "list", data := .seq its.toArray n }) (hf : f its.toArray = its'.toArray) (hv : Vals ys its') (hz : ys.length ≤ sizeLine) :
    Inv X pins σ (upd H l (.lst ys)) { s with heap := s.heap.update l (Obj.mapSeq f), toks := t' } := by
  have q := PySem.IsL.update e f
  rw [hf] at q
  refine I.write (x := l) (e := l) (by rw [hH]; exact trivial) (.inl rfl) (fun b' u hb hu => (Heap.get?_update_other s.heap (Obj.mapSeq f) (Ne.symm hb)).trans hu) ⟨_, q⟩ ?_
  exact ⟨hz, its', _, hv, q⟩
theorem Inv.lnew {its : List Value} {t' : Nat} (I : Inv X pins σ H s) (hv : Vals ys its) (hz : ys.length ≤ sizeLine) :
    Inv X pins σ (upd H s.heap.objs.size (.lst ys)) { s with heap := s.heap.push { cls := .type "list", data := .seq its.toArray }, toks := t' } :=
  I.laid (fun _ _ q => Heap.get?_push_of_some _ q) (Nat.le_refl _) ⟨hz, its, 0, hv, Heap.get?_push_size _ rfl⟩
theorem Inv.fresh (I : Inv X pins σ H s) : H s.heap.objs.size = none := I.hok.fresh (Nat.le_refl _)
theorem Inv.lstM (I : Inv X pins σ H s) (hH : H l = some (.lst xs)) : xs.length ≤ sizeLine ∧ ∃ (its : List Value) (n : Nat), Vals xs its ∧ xs.length = its.length ∧ s.heap.get? l = some { cls := .type "list", data := .seq its.toArray n } := by
  obtain ⟨z, its, n, r, e⟩ := I.hok l _ hH
  exact ⟨z, its, n, r, r.length, e⟩
theorem notLongL {n : Nat} (h : n ≤ sizeLine) : Builtin.List.listTooLong n = false := by
  unfold Builtin.List.listTooLong
  exact decide_eq_false (by omega)
end
section
variable {X : Cx}
def rPopAt : V → List V → Hp → VK → Prop := fun x vs H Q => ∃ l xs i k y, x = .ref l ∧ vs = [.int i] ∧ H l = some (.lst xs) ∧ -(2 ^ 63) ≤ i ∧ i < 2 ^ 63 ∧ seqIndex? i xs.length = some k ∧ xs[k]? = some y ∧ Q y (upd H l (.lst (xs.eraseIdx k)))
theorem mt_popAt : MtM X "list.pop" rPopAt := by
  intro pins s σ H x vs v us Q I rx rv h
  obtain ⟨l, xs, i, k, y, rfl, rfl, hH, h1, h2, hk, hy, q⟩ := h
  cases rx
  obtain ⟨u, rfl, ru⟩ := rv.one
  obtain ⟨t, rfl⟩ := ru
  obtain ⟨z, its, n, r, hl, e⟩ := I.lstM hH
  obtain ⟨w, hw, rw'⟩ := r.get hy
  refine call_meets F.slot_list_pop ⟨_, e, rfl⟩ F.entry_list_pop (F.args_list_pop_2 _ _)
    (MeetsSeq.list_pop_at l its.toArray n i t k w (fitsIndex_both h1 h2) (by rw [List.size_toArray, ← hl]; exact hk) (by rw [← Array.getElem?_toList]; exact hw) (by rw [List.size_toArray]; omega)) ⟨e, ?_⟩
  refine ⟨y, _, I.lset (its' := its.eraseIdx k) hH e ?_ (r.eraseIdx k) ?_, rw', q⟩
  · show its.toArray.eraseIdxIfInBounds k = (its.eraseIdx k).toArray
    rw [List.eraseIdxIfInBounds_toArray]
  · have := len_erase xs k
    omega
def rCat : R2 := fun x y H Q => ∃ l b xs zs, x = .ref l ∧ y = .ref b ∧ H l = some (.lst xs) ∧ H b = some (.lst zs) ∧ xs.length + zs.length ≤ sizeLine ∧ ∀ p, H p = none → Q (.ref p) (upd H p (.lst (xs ++ zs)))
theorem op_cat : OpR X (binaryOp .Add) rCat := by
  intro pins s σ H x y v u Q I rx ry h
  obtain ⟨l, b, xs, zs, rfl, rfl, hH, hB, hz, q⟩ := h
  cases rx
  cases ry
  obtain ⟨z, its, n, r, hl, e⟩ := I.lstM hH
  obtain ⟨z2, its2, n2, r2, hl2, e2⟩ := I.lstM hB
  refine PySem.P.add_list e e2 ?_ (by rw [List.size_toArray, List.size_toArray]; omega)
  have ea : its.toArray ++ its2.toArray = (its ++ its2).toArray := by simp
  rw [ea]
  exact ⟨.ref _, _, I.lnew (t' := s.toks) (r.append r2) (by rw [List.length_append]; omega), rfl, q _ I.fresh⟩
def rRep : R2 := fun x y H Q => ∃ l k xs, x = .ref l ∧ y = .int k ∧ H l = some (.lst xs) ∧ -(2 ^ 63) ≤ k ∧ k < 2 ^ 63 ∧ xs.length * k.toNat ≤ sizeLine ∧
  ∀ p, H p = none → Q (.ref p) (upd H p (.lst (List.replicate k.toNat xs).flatten))
theorem len_rep {α : Type} (xs : List α) (k : Nat) : (List.replicate k xs).flatten.length = k * xs.length := by
  induction k with
  | zero => simp
  | succ k ih => rw [List.replicate_succ, List.flatten_cons, List.length_append, ih, Nat.succ_mul, Nat.add_comm]
theorem op_rep : OpR X (binaryOp .Mult) rRep := by
  intro pins s σ H x y v u Q I rx ry h
  obtain ⟨l, k, xs, rfl, rfl, hH, h1, h2, hz, q⟩ := h
  cases rx
  obtain ⟨t, rfl⟩ := ry
  obtain ⟨z, its, n, r, hl, e⟩ := I.lstM hH
  have hlen : its.toArray.size * k.toNat ≤ sizeLine := by rw [List.size_toArray, ← hl]; exact hz
  have hcap : ¬ its.toArray.size * k.toNat > (2 ^ 63 - 1) / 8 := by
    have : (sizeLine : Nat) ≤ (2 ^ 63 - 1) / 8 := by decide
    omega
  have hfit : ¬ (!Builtin.List.listFitsIndex k) = true := by
    rw [fitsIndex_both h1 h2]
    exact Bool.false_ne_true
  have hlong : ¬ Builtin.List.listTooLong (its.toArray.size * k.toNat) = true := by
    rw [notLongL hlen]
    exact Bool.false_ne_true
  have hnew : List.foldl (fun x1 x2 => x1 ++ x2) #[] (List.replicate (if its.toArray.isEmpty = true then 0 else k.toNat) its.toArray) = (List.replicate k.toNat its).flatten.toArray := by
    have f0 : ∀ m : Nat, List.foldl (fun x1 x2 => x1 ++ x2) #[] (List.replicate m its.toArray) = (List.replicate m its).flatten.toArray := fun m => by
      have := foldl_rep its m []
      rw [List.nil_append] at this
      exact this
    rw [f0]
    cases its with
    | nil => simp
    | cons a r' => rw [if_neg (by simp)]
  refine wpAny_binaryOp_repeat_ref (T := "list") (U := "int") (by decide) ⟨_, e, rfl⟩ (fun s' => typeIs_int s' k t) noFill_list_mul F.fills_int_mul F.slot_int_rmul repeat_list F.slot_int_index.lookup
    (call_meets F.slot_int_rmul (typeIs_int s k t) F.entry_int_rmul (F.args_int_rmul_2 _ _) (int___rmul___int_list k t l its.toArray n)
      ⟨e, rfl, ⟨_, e, rfl⟩, call_meets F.slot_list_mul ⟨_, e, rfl⟩ F.entry_list_mul (F.args_list_mul_2 _ _) (AutoListH.list___mul___list_int_3 l its.toArray n k t hfit hcap hlong) ⟨e, ?_⟩⟩)
  rw [hnew]
  exact ⟨.ref _, _, I.lnew (t' := s.toks) (r.rep k.toNat) (by rw [len_rep, Nat.mul_comm]; exact hz), rfl, q _ I.fresh⟩
end
end L2
namespace Att
open PySem PySem.W PySem.Calls PyProof.Rows
theorem ints_of_wellAll {P : Params} {h : Heap} : ∀ (ns : List Int) (vs : List Value), WellAll P h vs (ns.map WData.int) → IntsAre vs ns := by
  intro ns
  induction ns with
  | nil =>
    intro vs w
    rw [List.map_nil] at w
    cases w
    exact .nil
  | cons n ns ih =>
    intro vs w
    rw [List.map_cons] at w
    cases w with
    | cons a b =>
      cases a
      exact .cons _ _ (ih _ b)
theorem script_of {l : OpenLaw} {n : Nat} (hn : l.most = some n) {P : Params} {h : Heap} {args : List WData} {vals : List Value}
    (hpre : l.row.toRowW.claim.pre args = true) (hwl : WellAll P h vals args) :
    ∃ a vs ns, vals = [Value.ref a] ∧ args = [WData.list (ns.map WData.int)] ∧ h.get? a = some { cls := .type "list", data := .seq vs.toArray } ∧ IntsAre vs ns ∧ ns.length ≤ n := by
  have hsh : WShape.hasAll [] args [.list .int] = true := (pre_splitW hpre).1
  have hc : l.pre.holds [] { args := args } = true := (pre_splitW hpre).2
  obtain ⟨d, r, rfl, h1, h2⟩ := hasAllW_cons hsh
  obtain rfl := hasAllW_nil h2
  obtain ⟨xs, rfl, h3⟩ := hasW_list h1
  obtain ⟨ns, rfl⟩ := items_int h3
  have hlen : ns.length ≤ n := by
    unfold OpenLaw.pre at hc
    have h4 : (WTm.not (.lt (.lit (.int (n : Int))) (.len (.arg 0)))).holds [] { args := [.list (ns.map .int)] } = true := by
      have h4 := (holds_andW hc).1
      rw [hn] at h4
      exact h4
    have h5 := condW_of h4 (w_not (w_lt w_lit (w_len_list (w_arg rfl))))
    rw [List.length_map] at h5
    refine Nat.le_of_not_lt fun q => ?_
    have q' : (n : Int) < ((ns.length : Nat) : Int) := by omega
    first
      | (rw [decide_eq_true q'] at h5; exact absurd h5 (by decide))
      | (simp at h5; omega)
  cases hwl with
  | cons w1 w2 =>
    cases w2
    cases w1 with
    | list ho hall => exact ⟨_, _, ns, rfl, rfl, ho, ints_of_wellAll ns _ hall, hlen⟩
theorem post_true (l : OpenLaw) (args : List WData) : l.row.toRowW.claim.post args (.bool true) args = true :=
  postW_of (r := l.row.toRowW) (X := (true == true))
    (show WShape.has [] (.bool true) .bool = true by first | rfl | decide | simp [WShape.has, WShape.arms, WShape.armsAll])
    (show (WTm.eq .res (.lit (.bool true))).value [] { args := args, res := some (.bool true), after := args } = some (.bool (true == true)) from w_eq_bool (w_res rfl) w_lit) rfl
theorem attach_call {l : OpenLaw} {n : Nat} {q : Program} {loose : List Str} {XP : (Str → Option Value) → Heap → Prop} {YP : World → Heap → Prop} {d : DefRec}
    (hn : l.most = some n) (hdf : d.params.defaults = [])
    (call : ∀ (w : World) (s₀ s₁ : Shared) (mg mb : Str → Option Value) (fa : Addr) (o : Obj) (pm cd doc : Value) (a : Addr) (vs : List Value) (ns : List Int),
      Ground q loose [] XP w s₀ mg mb s₁.heap → YP w s₁.heap →
      s₁.heap.get? fa = some o → o.data = .func (docDef d.name d.params d.body d.scope pm cd doc) → s₁.heap.CodeRec cd d.name → mg d.name = some (.ref fa) →
      s₁.heap.get? a = some { cls := .type "list", data := .seq vs.toArray } → IntsAre vs ns → ns.length ≤ n → s₁.gens = #[] →
      codeAny (model l.prog w) callerA (.call (.ref fa) ⟨[.ref a], []⟩) (fun r s' => r = .ok (.ret (.bool true)) ∧ OldK s₁.heap s'.heap ∧ s'.os = s₁.os ∧ AllBare s'.gens) s₁) :
    WalkO q loose XP YP l.row.toRowW d [] (fun f vs => PySem.call f vs) := by
  intro w s₀ s₁ mg mb G Y fa o pm cd doc dV kV ho hd hcd hD hmg hg args vals as hpre hlay hrd hwl hlo
  obtain rfl : dV = .none := Dflts.none hD hdf
  obtain rfl : kV = .none := Dflts.noKw hD
  obtain ⟨a, vs, ns, rfl, rfl, hobj, hints, hlen⟩ := script_of hn hpre hwl
  refine enter_call (codeAny_mono (call w s₀ s₁ mg mb fa o pm cd doc a vs ns G Y ho (fd_plain hd) hcd hmg hobj hints hlen hg) fun r s' hq => ?_)
  obtain ⟨rfl, h2, h3, h4⟩ := hq
  exact ⟨.inl ⟨.bool true, .bool true, [], rfl, fun _ => rfl, .bool true, post_true l _, fun _ => ⟨List.Pairwise.nil, fun _ hm => (nomatch hm)⟩⟩, h2, h3, h4⟩
end Att
namespace L2
open PySem PySem.Spec PyProof.Rows
theorem vals_ints : ∀ {vs : List Value} {ns : List Int}, IntsAre vs ns → Vals (ns.map V.int) vs
  | _, _, .nil => .nil
  | _, _, .cons n t h => .cons ⟨t, rfl⟩ (vals_ints h)
def Only (H : Hp) : Prop := ∀ b, H b = none ∨ ∃ o xs, H b = some (.frz o (.lst xs))
theorem law_call {P : Program} {w : World} {K : PySem.W.Frag} {mg mb : Str → Option Value} {CX : CXT} {k : Nat} {fa a : Addr} {fd : FuncData} {x : Str} {sp : Sp} {s₁ : Shared} {vs : List Value} {ns : List Int}
    (KX : K.In s₁.heap) (hns : s₁.heap.Ns mainGlobals mg) (hb : s₁.heap.Ns builtinsNs mb) (hbb : ∀ x : Str, x ≠ "__name__" → mb x = bootBuiltins x) (hlim : s₁.heap.NoLimit) (hg : s₁.gens = #[])
    (ha : s₁.heap.get? a = some { cls := .type "list", data := .seq vs.toArray }) (hi : IntsAre vs ns) (hl : ns.length ≤ sizeLine) (hr : Room k callerA)
    (F : ∀ base : Heap, K.In base → base.Ns mainGlobals mg → FnOk P w K mg base CX k fa fd [x] sp) (hbind : ∀ (s : Shared) (u : Value), BindsTo s fd ⟨[u], []⟩ [(x, u)])
    (hsp : ∀ H : Hp, Only H → SqL K H a (ns.map V.int) → sp [.ref a] H (fun v _ => v = .bl true) fun _ _ _ => False)
    (hCX : ∀ H e s', CX [] H s₁ (fun _ _ _ => False) e s' → False) :
    codeAny (model P w) callerA (.call (.ref fa) ⟨[.ref a], []⟩) (fun r s' => r = .ok (.ret (.bool true)) ∧ OldK s₁.heap s'.heap ∧ s'.os = s₁.os ∧ AllBare s'.gens) s₁ := by
  have rv := vals_ints hi
  have lenV := hi.length
  have core : ∀ H : Hp, Only H → SqL K H a (ns.map V.int) → HOk P w H s₁.heap → (∀ b, H b ≠ none → b = a) → (H a ≠ none → K.lookup a = none) →
      codeAny (model P w) callerA (.call (.ref fa) ⟨[.ref a], []⟩) (fun r s' => r = .ok (.ret (.bool true)) ∧ OldK s₁.heap s'.heap ∧ s'.os = s₁.os ∧ AllBare s'.gens) s₁ := by
    intro H hO hS hok hA hK
    have base_of : ∀ {b : Addr} {o : Obj}, s₁.heap.get? b = some o → H b = none → (hidT s₁.heap H).get? b = some o := fun e n => hidT_get e n
    have noA : ∀ {b : Addr} {o : Obj} {es : Array DictEntry} {ep : Nat}, s₁.heap.get? b = some o → o.data = .dict es ep → H b = none := fun {b o es ep} e d => by
      cases q : H b with
      | none => rfl
      | some u =>
        have e' : b = a := hA b (by rw [q]; simp)
        subst e'
        rw [ha] at e; cases e
        have d' : Data.seq vs.toArray _ = Data.dict es ep := d
        cases d'
    have nsK : ∀ {b : Addr} {m : Str → Option Value}, s₁.heap.Ns b m → (hidT s₁.heap H).Ns b m := fun {b m} ⟨o, es, ep, e, d, r⟩ => ⟨o, es, ep, base_of e (noA e d), d, r⟩
    have hKb : K.In (hidT s₁.heap H) := fun b o e => base_of (KX b o e) (by
      cases q : H b with
      | none => rfl
      | some u =>
        have e' : b = a := hA b (by rw [q]; simp)
        subst e'
        rw [hK (by rw [q]; simp)] at e; cases e)
    have hM : Mod K mg (hidT s₁.heap H) := ⟨hKb, nsK hns, ⟨mb, nsK hb, hbb⟩, let ⟨mc, h1, h2⟩ := hlim; ⟨mc, nsK h1, h2⟩⟩
    have e0 : Env0 P w K mg (hidT s₁.heap H) callerA [] s₁ H := ⟨rfl, hM, fun b o e => of_hidT e, Nat.le_of_eq (hidT_size _ _), trivial, fun b hb => absurd (show b ∈ ([] : List Addr) from hb) (by simp), hok, .of_eq hg⟩
    refine codeAny_mono ((F _ hKb (nsK hns)).run callerA [] s₁ H ⟨[.ref a], []⟩ [.ref a] [.ref a] _ _ hr e0 (hbind s₁ (.ref a)) (.cons rfl .nil) (hsp H hO hS)) fun r s' h => ?_
    cases r with
    | error e => exact (hCX H e s' h).elim
    | ok fl =>
      cases fl with
      | next => exact False.elim h
      | brk => exact False.elim h
      | cont => exact False.elim h
      | ret u =>
        obtain ⟨v, H', os, bare, un, hok', r', q⟩ := h
        have q' : v = .bl true := q
        subst q'
        obtain rfl : u = Value.bool true := r'
        refine ⟨rfl, OldK.of_keep fun b o e => ?_, os, bare⟩
        cases q : H b with
        | none => exact un.keep b o e q (by intro z; exact absurd (show b ∈ ([] : List Addr) from z) (by simp)) (by simp)
        | some u =>
          rcases hO b with z | ⟨ob, xs, z⟩
          · rw [q] at z; cases z
          · have z2 := un.frzs b ob _ z
            obtain ⟨e1, _⟩ := hok b _ z
            obtain ⟨e2, _⟩ := hok' b _ z2
            rw [e] at e1; cases e1
            exact e2
  cases hk : K.lookup a with
  | some o =>
    have e := KX a o hk
    rw [ha] at e
    cases e
    refine core (fun _ => none) (fun _ => .inl rfl) (.inr ⟨_, vs.toArray, _, hk, rfl, rfl, rfl, by rw [List.size_toArray, lenV]; exact hl, by simpa using rv⟩) (fun b u z => by have z' : (none : Option HO) = some u := z; cases z') (fun b z => absurd rfl z) fun z => absurd rfl z
  | none =>
    refine core (fun b => if b = a then some (.frz { cls := .type "list", data := .seq vs.toArray } (.lst (ns.map V.int))) else none) (fun b => ?_) (.inl (.inr ⟨{ cls := .type "list", data := .seq vs.toArray }, if_pos rfl⟩)) (fun b u z => ?_) (fun b z => ?_) fun _ => hk
    · by_cases hb : b = a
      · exact .inr ⟨_, _, if_pos hb⟩
      · exact .inl (if_neg hb)
    · by_cases hb : b = a
      · have z' := (if_pos hb).symm.trans z
        cases z'
        subst hb
        exact ⟨ha, by rw [List.length_map]; exact hl, vs, _, rv, ha⟩
      · have z' := (if_neg hb).symm.trans z
        cases z'
    · by_cases hb : b = a
      · exact hb
      · exact absurd (if_neg hb) z
end L2
namespace L2
open PySem PySem.Spec PyProof.Rows
theorem walk_of {l : PySem.W.OpenLaw} {n k : Nat} {q : Program} {loose : List Str} {XP : (Str → Option Value) → Heap → Prop} {YP : World → Heap → Prop} {d : DefRec} {K : Params → PySem.W.Frag} {CX : World → CXT} {sp : World → Sp} {x : Str}
    (hn : l.most = some n) (hn2 : n ≤ sizeLine) (hdf : d.params.defaults = []) (hr : Room k callerA)
    (hY : ∀ (w : World) (h : Heap), YP w h → (K w.params).In h)
    (F : ∀ (w : World) (mg : Str → Option Value) (fa : Addr) (h : Heap), (K w.params).In h → h.Ns mainGlobals mg → mg d.name = some (.ref fa) →
      ∃ fd : FuncData, (∀ (s : Shared) (u : Value), BindsTo s fd ⟨[u], []⟩ [(x, u)]) ∧
        ∀ base : Heap, (K w.params).In base → base.Ns mainGlobals mg → FnOk l.prog w (K w.params) mg base (CX w) k fa fd [x] (sp w))
    (hsp : ∀ (w : World) (H : Hp) (a : Addr) (ns : List Int), ns.length ≤ n → Only H → SqL (K w.params) H a (ns.map V.int) → sp w [.ref a] H (fun v _ => v = .bl true) fun _ _ _ => False)
    (hCX : ∀ (w : World) (H : Hp) (s : Shared) (e : Value) (s' : Shared), CX w [] H s (fun _ _ _ => False) e s' → False) :
    PySem.W.WalkO q loose XP YP l.row.toRowW d [] (fun f vs => PySem.call f vs) := by
  refine Att.attach_call hn hdf fun w s₀ s₁ mg mb fa o pm cd doc a vs ns G Y ho hd hcd hmg hobj hints hlen hg => ?_
  have KX := hY w _ Y
  obtain ⟨fd, hb, hF⟩ := F w mg fa _ KX G.T.g hmg
  exact law_call KX G.T.g G.T.b G.T.builtins G.T.nolimit hg hobj hints (Nat.le_trans hlen hn2) hr hF hb (fun H hO hS => hsp w H a ns hlen hO hS) fun H e s' => hCX w H s₁ e s'
end L2
namespace L2
open PySem PySem.Spec PyProof.Rows
def defArgs (s : Stmt) : Arguments := match s with
  | .FunctionDef _ a _ _ _ _ _ _ _ _ => a
  | _ => { posonlyargs := [], args := [], vararg := none, kwonlyargs := [], kw_defaults := [], kwarg := none, defaults := [] }
def defBody (s : Stmt) : List Stmt := match s with
  | .FunctionDef _ _ b _ _ _ _ _ _ _ => b
  | _ => []
def defScope (s : Stmt) : Scope := match s with
  | .FunctionDef _ _ _ _ _ _ sc _ _ _ => sc
  | _ => { kind := .function, names := [], isGenerator := false, isCoroutine := false }
abbrev CX0 : CXT := fun _ _ _ _ _ _ => False
abbrev E0 : XK := fun _ _ _ => False
theorem pass0 {X : Cx} : Passes CX0 X E0 := fun _ _ _ _ _ _ _ h => h.elim
structure Fun (K : PySem.W.Frag) (x qual : Str) (st : Stmt) (f : Addr) (fd : FuncData) : Prop where
  ex : ∃ (oc : Value) (od : Option Addr) (kV doc pm : Value) (an : Option Addr) (cdv ct : Value) (osl : Array (Option Value)),
    fd = PySem.W.fnOf x qual (defArgs st) (defBody st) (defScope st) .none kV doc pm an cdv ct ∧ K.lookup f = some ⟨oc, od, .func fd, osl⟩ ∧ PySem.W.codeIn K cdv qual = true
  kp : PySem.W.keepIn K (.ref f) = true
section
variable {P : Program} {w : World} {K : PySem.W.Frag} {mg : Str → Option Value} {base : Heap}
theorem Fun.ok {x qual : Str} {st : Stmt} {f : Addr} {fd : FuncData} {N ps : List Str} {k : Nat} {sp : Sp} (F : Fun K x qual st f fd) (S : FnScope N ps (defScope st)) (len : ∀ vs H Q E, sp vs H Q E → vs.length = ps.length)
    (hbody : ∀ (cdv : Value) (A : Around) (outer : List Env) (s : Shared) (H : Hp) (vs : List V) (Q : VK) (E : XK), Room k (A.deeper (envOfC qual (defScope st) s.heap.objs.size f cdv)) → sp vs H Q E →
      ∃ t, PSs (cxOf CX0 P w K mg base N qual (defScope st) f cdv A outer s H E).nox (defBody st) t ∧ t { nx := fun _ H' => Q .non H', rt := Q } (start N vs) H) : FnOk P w K mg base CX0 (k + 1) f fd ps sp := by
  obtain ⟨oc, od, kV, doc, pm, an, cdv, ct, osl, rfl, lk, hcd⟩ := F.ex
  refine fn_of lk hcd S len fun A outer s H vs Q E hr hsp => ?_
  obtain ⟨t, h, q⟩ := hbody cdv A outer s H vs Q E hr hsp
  exact ⟨t, h.nox, q⟩
theorem Fun.binds {x qual : Str} {st : Stmt} {f : Addr} {fd : FuncData} {ps : List Str} (F : Fun K x qual st f fd)
    (h : ∀ (kV doc pm : Value) (an : Option Addr) (cdv ct : Value) (us : List Value), us.length = ps.length → bindArgs (PySem.W.fnOf x qual (defArgs st) (defBody st) (defScope st) .none kV doc pm an cdv ct) ⟨us, []⟩ = pure (ps.zip us)) : Binds K fd ps [] := by
  obtain ⟨oc, od, kV, doc, pm, an, cdv, ct, osl, rfl, lk, hcd⟩ := F.ex
  exact .all (h kV doc pm an cdv ct)
theorem fun_mk {x qual : Str} {st : Stmt} {f : Addr} {oc : Value} {od an : Option Addr} {osl : Array (Option Value)} {kV doc pm cdv ct : Value} (l : K.lookup f = some ⟨oc, od, .func (PySem.W.fnOf x qual (defArgs st) (defBody st) (defScope st) .none kV doc pm an cdv ct), osl⟩)
    (c : PySem.W.codeIn K cdv qual = true) (k : PySem.W.keepIn K (.ref f) = true) : Fun K x qual st f (PySem.W.fnOf x qual (defArgs st) (defBody st) (defScope st) .none kV doc pm an cdv ct) := ⟨⟨oc, od, kV, doc, pm, an, cdv, ct, osl, rfl, l, c⟩, k⟩
end
theorem small1000 {n : Nat} (h : n ≤ 1000) : n < sizeLine := Nat.lt_of_le_of_lt h (by decide)
section
variable {X : Cx}
theorem pv (i : Nat) {x : Str} {pos : PySem.Pos} (hN : X.N[i]? = some x := by rfl) (hv : Vis X.env.scope x := by first | exact Or.inl rfl | exact Or.inr (Or.inl rfl) | exact Or.inr (Or.inr rfl)) (hd : (x == ("__debug__" : Str)) = false := by decide)
    (hcd : (x == ("__classdict__" : Str)) = false := by decide) : PE X (.Name x pos) (tVar i) := pe_var hN hv hd hcd
end
theorem iteF {A B : Prop} (h : B) : if false = true then A else B := by
  rw [if_neg Bool.false_ne_true]
  exact h
theorem iteT {A B : Prop} (h : A) : if true = true then A else B := by
  rw [if_pos rfl]
  exact h
theorem ite2 {c A B : Prop} [Decidable c] (h1 : c → A) (h2 : ¬ c → B) : if c then A else B := by
  by_cases h : c
  · rw [if_pos h]
    exact h1 h
  · rw [if_neg h]
    exact h2 h
def Same (H H' : Hp) : Prop := ∀ b o, H b = some o → H' b = some o
theorem Same.refl (H : Hp) : Same H H := fun _ _ h => h
theorem Same.trans {H H1 H2 : Hp} (a : Same H H1) (b : Same H1 H2) : Same H H2 := fun c o h => b c o (a c o h)
theorem Same.free {H H' : Hp} (e : Same H H') {l : Addr} (h : H' l = Option.none) : H l = Option.none := by
  cases q : H l with
  | none => rfl
  | some o =>
    rw [e l o q] at h
    cases h
theorem Same.seq {K : PySem.W.Frag} {H H' : Hp} {a : Addr} {xs : List V} (e : Same H H') (h : SqL K H a xs) : SqL K H' a xs := by
  rcases h with (h | ⟨o, h⟩) | h
  · exact .inl (.inl (e _ _ h))
  · exact .inl (.inr ⟨o, e _ _ h⟩)
  · exact .inr h
end L2
set_option Elab.async false
set_option linter.all false
set_option maxRecDepth 100000
set_option maxHeartbeats 4000000
namespace L2
open PySem PySem.Spec PyProof.Rows
section
variable {X : Cx}
def CDivL (i j : Int) : Prop := 0 < j ∧ j.natAbs.log2 < 9000
theorem op_fdivL : OpR X (binaryOp .FloorDiv) (rI CDivL fun i j => .int (i / j)) := opI fun i j _ _ _ _ _ hc q => by
  have h1 : (0 : Int) < j := hc.1
  exact floordiv_int (by omega) (by rw [Int.fdiv_eq_ediv_of_nonneg i (by omega)]; exact q) (.inl (PyProof.noPylong_of_log2 hc.2))
theorem call_isinst {T : String} : CallR X (.builtin "isinstance") (fun xs H Q => ∃ x t b, xs = [x, .ty T] ∧ TyOf X.K H x t ∧ PySem.W.kitOne X.K t (.type T) = some b ∧ Q (.bl b) H) := by
  intro pins s σ H xs us Q I r h
  obtain ⟨x, t, b, rfl, ty, e, q⟩ := h
  obtain ⟨u, w', rfl, r1, r2⟩ := vals2 r
  cases (show w' = .type T from r2)
  exact isinst_ok I r1 ty e fun tk => ⟨.bl b, H, I.tok _, rfl, q⟩
theorem mt_bits : MtR X "int.bit_length" (fun x vs H Q => ∃ i, x = .int i ∧ vs = [] ∧ Q (.int (Builtin.Int.intBits i : Nat)) H) := by
  intro pins s σ H x xs v us Q I r rv h
  obtain ⟨i, rfl, rfl, q⟩ := h
  obtain ⟨t, rfl⟩ := r
  cases rv.zero
  exact call_gives F.slot_int_bit_length (typeIs_int _ _ _) F.entry_int_bit_length (F.args_int_bit_length_1 _) (AutoIntG2.int_bit_length_int_0 _ _) (show EP X pins σ Q _ _ from ⟨.int _, H, I.tok _, ⟨_, rfl⟩, q⟩)
end
end L2
set_option Elab.async false
set_option linter.all false
set_option maxRecDepth 100000
set_option maxHeartbeats 4000000
namespace L2
open PySem PySem.Spec PyProof.Rows
section
variable {X : Cx}
theorem clos_go (env : Env) : ∀ (names : List (Str × NameKind)) (acc : List (Str × Addr)), (∀ y ∈ names, y.2 = .free → ∃ c, env.cells.lookup y.1 = some c) → (∀ y c, acc.lookup y = some c → env.cells.lookup y = some c) →
    ∃ cl, (forIn names acc fun (x : Str × NameKind) (r : List (Str × Addr)) => if (x.2 == NameKind.free) = true then (do let c ← cellOf env x.1; pure (ForInStep.yield ((x.1, c) :: r))) else pure (ForInStep.yield r) : Sem _) = pure cl ∧
      (∀ y c, cl.lookup y = some c → env.cells.lookup y = some c) ∧ (∀ y, (y, NameKind.free) ∈ names → (cl.lookup y).isSome = true) ∧ (∀ y, (acc.lookup y).isSome = true → (cl.lookup y).isSome = true)
  | [], acc, _, h => ⟨acc, by simp, h, fun y z => absurd z (by simp), fun _ z => z⟩
  | (n, k) :: r, acc, hf, h => by
    by_cases hk : k = .free
    · subst hk
      obtain ⟨c, hc⟩ := hf (n, .free) List.mem_cons_self rfl
      obtain ⟨cl, e, h1, h2, h3⟩ := clos_go env r ((n, c) :: acc) (fun y hy => hf y (List.mem_cons_of_mem _ hy)) (fun y d hd => by
        rw [List.lookup_cons] at hd
        cases z : y == n with
        | true =>
          rw [z] at hd
          have : y = n := by simpa using z
          subst this
          cases hd
          exact hc
        | false => rw [z] at hd; exact h y d hd)
      have hin : ∀ y, (((n, c) :: acc).lookup y).isSome = true ∨ True := fun _ => .inr trivial
      refine ⟨cl, ?_, h1, fun y hy => ?_, fun y hy => h3 y ?_⟩
      · rw [List.forIn_cons]
        have e0 : cellOf env n = pure c := by unfold cellOf; rw [hc]
        simp only [beq_self_eq_true, if_true, e0, pure_bind]
        exact e
      · rcases List.mem_cons.mp hy with z | z
        · cases z
          exact h3 _ (by rw [List.lookup_cons]; simp)
        · exact h2 y z
      · rw [List.lookup_cons]
        cases y == n with
        | true => rfl
        | false => exact hy
    · obtain ⟨cl, e, h1, h2, h3⟩ := clos_go env r acc (fun y hy => hf y (List.mem_cons_of_mem _ hy)) h
      refine ⟨cl, ?_, h1, fun y hy => ?_, h3⟩
      · rw [List.forIn_cons]
        have hb : (k == NameKind.free) = false := by simpa using hk
        simp only [hb, Bool.false_eq_true, if_false, pure_bind]
        exact e
      · rcases List.mem_cons.mp hy with z | z
        · cases z; exact absurd rfl hk
        · exact h2 y z
theorem clos_ok {scope : Scope} {env : Env} (hf : ∀ y ∈ scope.names, y.2 = .free → ∃ c, env.cells.lookup y.1 = some c) : ∃ cl, closureFor scope env = pure cl ∧ (∀ y c, cl.lookup y = some c → env.cells.lookup y = some c) ∧ (∀ y, (y, NameKind.free) ∈ scope.names → (cl.lookup y).isSome = true) := by
  obtain ⟨cl, e, h1, h2, _⟩ := clos_go env scope.names [] hf (fun y c h => by cases h)
  refine ⟨cl, ?_, h1, h2⟩
  unfold closureFor
  simp only [bind_pure]
  exact e
end
end L2
namespace L2
open PySem PySem.Spec PyProof.Rows
section
variable {X : Cx}
def tYes : TT := fun _ H Q => Q true H
def PIf (X : Cx) (ifs : List Expr) (t : TT) : Prop :=
  ∀ (pins : List (Addr × Obj)) (s : Shared) (σ : St) (H : Hp) (Q : Bool → Hp → Prop), Inv X pins σ H s → t σ H Q →
    wpAny (model X.prog X.w) X.A (forIn ifs true fun c r => if r = true then do let ok ← isTrue c X.env (eval c X.env); pure (ForInStep.yield ok) else pure (ForInStep.yield r)) (TP X pins σ Q) X.xe s
theorem pif_nil : PIf X [] tYes := fun pins s σ H Q I h => wpAny_tests_nil ⟨H, I, h⟩
theorem relabel_kind {names : List (Str × NameKind)} {env : Env} {x : Str} {k : NameKind} (hc : ∀ y ∈ names, y.2 ≠ .cell) (h : (names.map fun (n, k) => if (k == NameKind.free && env.scope.kind == .function && env.kindOf n == some .cell) then (n, NameKind.cell) else (n, k)).lookup x = some k) :
    (k = .cell ∨ k = .free) → names.lookup x = some .free ∧ (k = .cell → env.kindOf x = some .cell) := by
  induction names with
  | nil => cases h
  | cons p r ih =>
    obtain ⟨n, k0⟩ := p
    intro hk
    have h : List.lookup x ((if (k0 == NameKind.free && env.scope.kind == .function && env.kindOf n == some .cell) = true then (n, NameKind.cell) else (n, k0)) :: _) = some k := h
    by_cases c : (k0 == NameKind.free && env.scope.kind == .function && env.kindOf n == some .cell) = true
    · rw [if_pos c] at h
      rw [List.lookup_cons] at h ⊢
      cases z : x == n with
      | true =>
        have e : x = n := by simpa using z
        subst e
        simp only [Bool.and_eq_true, beq_iff_eq] at c
        exact ⟨by rw [c.1.1], fun _ => c.2⟩
      | false => rw [z] at h; exact ih (fun y hy => hc y (List.mem_cons_of_mem _ hy)) h hk
    · rw [if_neg c] at h
      rw [List.lookup_cons] at h ⊢
      cases z : x == n with
      | true =>
        rw [z] at h
        have e : k0 = k := Option.some.inj h
        subst e
        rcases hk with rfl | rfl
        · exact absurd rfl (hc (n, .cell) List.mem_cons_self)
        · exact ⟨rfl, fun z => by cases z⟩
      | false => rw [z] at h; exact ih (fun y hy => hc y (List.mem_cons_of_mem _ hy)) h hk
end
end L2
set_option Elab.async false
set_option linter.all false
set_option maxRecDepth 100000
set_option maxHeartbeats 4000000
namespace L2
open PySem PySem.Spec PyProof.Rows
section
variable {X : Cx}
theorem relabel_local {names : List (Str × NameKind)} {env : Env} {x : Str} (h : (names.map fun (n, k) => if (k == NameKind.free && env.scope.kind == .function && env.kindOf n == some .cell) then (n, NameKind.cell) else (n, k)).lookup x = some .local) :
    names.lookup x = some .local := by
  induction names with
  | nil => cases h
  | cons p r ih =>
    obtain ⟨n, k0⟩ := p
    have h : List.lookup x ((if (k0 == NameKind.free && env.scope.kind == .function && env.kindOf n == some .cell) = true then (n, NameKind.cell) else (n, k0)) :: _) = some .local := h
    by_cases c : (k0 == NameKind.free && env.scope.kind == .function && env.kindOf n == some .cell) = true
    · rw [if_pos c] at h
      rw [List.lookup_cons] at h ⊢
      cases z : x == n with
      | true => rw [z] at h; cases h
      | false => rw [z] at h; exact ih h
    · rw [if_neg c] at h
      rw [List.lookup_cons] at h ⊢
      cases z : x == n with
      | true => rw [z] at h; exact h
      | false => rw [z] at h; exact ih h
end
end L2
set_option Elab.async false
set_option linter.all false
set_option maxRecDepth 100000
set_option maxHeartbeats 4000000
namespace L2
open PySem PySem.Spec PyProof.Rows
inductive DI (K : PySem.W.Frag) (H : Hp) : V → PyData → Prop where
  | non : DI K H .non .none
  | bl (b : Bool) : DI K H (.bl b) (.bool b)
  | int (i : Int) : DI K H (.int i) (.int i)
  | str (x : Str) : DI K H (.str x) (.str x)
  | tup {a : Addr} {xs : List V} {ds : List PyData} : SqT K H a xs → xs.length = ds.length → (∀ (i : Nat) (x : V) (d : PyData), xs[i]? = some x → ds[i]? = some d → DI K H x d) → DI K H (.ref a) (.tuple ds)
  | lst {a : Addr} {xs : List V} {ds : List PyData} : SqL K H a xs → xs.length = ds.length → (∀ (i : Nat) (x : V) (d : PyData), xs[i]? = some x → ds[i]? = some d → DI K H x d) → DI K H (.ref a) (.list ds)
section
variable {X : Cx} {pins : List (Addr × Obj)} {σ : St} {H : Hp} {s : Shared}
theorem readsAll_of : ∀ {us : List Value} {ds : List PyData} {xs : List V}, Vals xs us → xs.length = ds.length → (∀ (i : Nat) (x : V) (d : PyData) (u : Value), xs[i]? = some x → ds[i]? = some d → RelV x u → ∃ as, Reads s.heap u d as) → ∃ as, ReadsAll s.heap us ds as
  | _, ds, _, .nil, hl, _ => by
    cases ds with
    | nil => exact ⟨_, .nil⟩
    | cons d r => cases hl
  | _, ds, _, .cons (a := x) r t, hl, h => by
    cases ds with
    | nil => cases hl
    | cons d rest =>
      obtain ⟨as, ra⟩ := h 0 x d _ rfl rfl r
      obtain ⟨bs, rb⟩ := readsAll_of t (by simpa using hl) (fun i y e u h1 h2 h3 => h (i + 1) y e u (by simpa using h1) (by simpa using h2) h3)
      exact ⟨_, .cons ra rb⟩
theorem DI.reads (I : Inv X pins σ H s) {x : V} {d : PyData} (h : DI X.K H x d) : ∀ {u : Value}, RelV x u → ∃ as, Reads s.heap u d as := by
  induction h with
  | non => intro u r; cases r; exact ⟨_, .none⟩
  | bl b => intro u r; cases r; exact ⟨_, .bool b⟩
  | int i => intro u r; obtain ⟨t, rfl⟩ := r; exact ⟨_, .int i t⟩
  | str x => intro u r; obtain ⟨t, rfl⟩ := r; exact ⟨_, .str x t⟩
  | tup hq hl _ ih =>
    intro u r
    cases r
    obtain ⟨its, rv, ⟨o, e, c, n, hd⟩, _⟩ := I.tuple hq
    obtain ⟨as, ra⟩ := readsAll_of (s := s) rv hl (fun i y d u h1 h2 h3 => ih i y d h1 h2 h3)
    exact ⟨_, .tuple e c hd (by simpa using ra)⟩
  | lst hq hl _ ih =>
    intro u r
    cases r
    obtain ⟨its, rv, pl, _⟩ := I.list hq
    obtain ⟨o, e, c, n, hd⟩ := pl.isList
    obtain ⟨as, ra⟩ := readsAll_of (s := s) rv hl (fun i y d u h1 h2 h3 => ih i y d h1 h2 h3)
    exact ⟨_, .list e c hd (by simpa using ra)⟩
def rEqD (K : PySem.W.Frag) (g : Bool → Bool) : R2 := fun x y H Q => ∃ dx dy, DI K H x dx ∧ DI K H y dy ∧ dx.canLay0 = true ∧ dy.canLay0 = true ∧ dx.depth ≤ 60 ∧ Q (.bl (g (PyData.eqv dx dy))) H
theorem op_eqD {k : Nat} (hr : Room k X.A) : OpR X (compareOp .Eq) (rEqD X.K fun b => b) := by
  intro pins s σ H x y v u Q I rx ry h
  obtain ⟨dx, dy, hx, hy, cx, cy, hd, q⟩ := h
  obtain ⟨as, ra⟩ := hx.reads I rx
  obtain ⟨bs, rb⟩ := hy.reads I ry
  have hu := hr.units
  exact SeqAt.compareEq_reads ra rb cx cy (by omega) ⟨.bl _, H, I, rfl, q⟩
theorem op_neD {k : Nat} (hr : Room k X.A) : OpR X (compareOp .NotEq) (rEqD X.K fun b => !b) := by
  intro pins s σ H x y v u Q I rx ry h
  obtain ⟨dx, dy, hx, hy, cx, cy, hd, q⟩ := h
  obtain ⟨as, ra⟩ := hx.reads I rx
  obtain ⟨bs, rb⟩ := hy.reads I ry
  have hu := hr.units
  exact SeqAt.compareNe_reads ra rb cx cy (by omega) ⟨.bl _, H, I, rfl, q⟩
end
end L2
set_option Elab.async false
set_option linter.all false
set_option maxRecDepth 100000
set_option maxHeartbeats 4000000
namespace L2
open PySem PySem.Spec PyProof.Rows
section
variable {X : Cx}
theorem range_all_get (bs : List Bool) : (List.range bs.length).all (fun i => bs.getD i true) = bs.all id := by
  induction bs with
  | nil => rfl
  | cons b r ih =>
    rw [List.length_cons, List.range_succ_eq_map, List.all_cons, List.all_map, List.all_cons]
    have : (List.range r.length).all ((fun i => (b :: r).getD i true) ∘ Nat.succ) = (List.range r.length).all (fun i => r.getD i true) := by
      congr 1
    rw [this, ih]
    rfl
theorem call_all (hc : X.calm = true) : CallR X (.builtin "all") (fun xs H Q => ∃ (p : Addr) (bs : List Bool), xs = [.ref p] ∧ SqL X.K H p (bs.map V.bl) ∧ Q (.bl (bs.all id)) H) := by
  intro pins s σ H xs us Q I r h
  obtain ⟨p, bs, rfl, hq, q⟩ := h
  obtain ⟨u, rfl, rx⟩ := vals1 r
  cases rx
  obtain ⟨its, rv, pl, hz⟩ := I.list hq
  have hlt : p < s.heap.objs.size := by
    obtain ⟨o, e, _⟩ := pl.isList
    exact Heap.lt_size e
  have hlen : its.length = bs.length := by have := rv.length; rw [List.length_map] at this; exact this.symm
  refine call_all_walk (wpAny_pyIter_list pl.isList ?_)
  refine ⟨_, _, _, _, _, _, fun i => bs.getD i true, rfl, Walks.list (A := X.A.in1) (I.ok.hd hc) s.heap.objs.size p (Nat.ne_of_lt hlt) its.toArray, ?_, ?_, fun h' tk hk => ?_⟩
  · exact ⟨⟨_, Heap.get?_push_size _ rfl, rfl, rfl⟩, (let ⟨o, e, c⟩ := pl.isList; ⟨o, Heap.get?_push_of_some _ e, c⟩)⟩
  · intro i v s' Q' E' hP hQ
    have hv : its[i]? = some v := by simpa using hP
    have hil : i < bs.length := by rw [← hlen]; exact (List.getElem?_eq_some_iff.mp hv).1
    obtain ⟨u, e, ru⟩ := rv.get (x := V.bl (bs.getD i true)) (i := i) (by rw [List.getElem?_map, List.getElem?_eq_getElem hil, List.getD_eq_getElem?_getD, List.getElem?_eq_getElem hil]; rfl)
    rw [hv] at e
    cases e
    cases ru
    exact wpAny_truthy_bool hQ
  · have e : (List.range its.toArray.size).all (fun i => bs.getD i true) = bs.all id := by
      rw [List.size_toArray, hlen]; exact range_all_get bs
    rw [e]
    refine ⟨.bl _, H, ?_, rfl, q⟩
    exact I.kept fun b o eb => hk b o (by simp; exact Nat.ne_of_lt (Heap.lt_size eb)) (Heap.get?_push_of_some _ eb)
theorem call_isinstK {K : PySem.W.Frag} {T : String} (hK : X.K = K := by rfl) : CallR X (.builtin "isinstance") (fun xs H Q => ∃ x t b, xs = [x, .ty T] ∧ TyOf K H x t ∧ PySem.W.kitOne K t (.type T) = some b ∧ Q (.bl b) H) := by
  subst hK; exact call_isinst
theorem ix_listK {K : PySem.W.Frag} (hK : X.K = K := by rfl) : IxR X (rIxL K) := by subst hK; exact ix_list
theorem call_lenK {K : PySem.W.Frag} (hK : X.K = K := by rfl) : CallR X (.builtin "len") (fun xs H Q => ∃ p ys, xs = [.ref p] ∧ (SqL K H p ys ∨ SqT K H p ys) ∧ Q (.int ys.length) H) := by subst hK; exact call_len_seq
end
end L2
set_option Elab.async false
set_option linter.all false
set_option maxRecDepth 100000
set_option maxHeartbeats 4000000
namespace L2
open PySem PySem.Spec PyProof.Rows
section
variable {X : Cx}
theorem Vals.of_get : ∀ {xs : List V} {us : List Value}, xs.length = us.length → (∀ (i : Nat) (x : V) (u : Value), xs[i]? = some x → us[i]? = some u → RelV x u) → Vals xs us
  | [], [], _, _ => .nil
  | [], _ :: _, h, _ => by cases h
  | _ :: _, [], h, _ => by cases h
  | x :: xs, u :: us, h, k => .cons (k 0 x u rfl rfl) (Vals.of_get (by simpa using h) fun i y v h1 h2 => k (i + 1) y v (by simpa using h1) (by simpa using h2))
theorem call_range1 : CallR X (.type "range") (fun xs H Q => ∃ j : Int, xs = [.int j] ∧ -(2 ^ 62) ≤ j ∧ j < 2 ^ 62 ∧ ∀ p, H p = none → Q (.ref p) (upd H p (.rng 0 j))) := by
  intro pins s σ H xs us Q I r h
  obtain ⟨j, rfl, h1, h2, q⟩ := h
  obtain ⟨u, rfl, t, rfl⟩ := vals1 r
  refine call_range_1 ?_
  exact ⟨.ref _, upd H s.heap.objs.size (.rng 0 j), I.laid (fun b u e => Heap.get?_push_of_some _ e) (Nat.le_refl _) ⟨_, _, _, Heap.get?_push_size _ rfl⟩, rfl, q _ (I.hok.fresh (Nat.le_refl _))⟩
end
end L2
set_option Elab.async false
set_option linter.all false
set_option maxRecDepth 100000
set_option maxHeartbeats 4000000
namespace L2
open PySem PySem.Spec PyProof.Rows
section
variable {X : Cx}
section
variable {prog : Program} {w : World} {A : Around} {R : Result → Shared → Prop} {s : Shared}
theorem loop_turns {elt tg iter : Expr} {ifs : List Expr} {scope : Scope} {pos : PySem.Pos} {it acc : Value} {env : Env} {EE : Value → Shared → Prop} (hE : EE = notedBy (model prog w) A env fun e s' => R (.error e) s') (I : Nat → Shared → Prop)
    (turn : ∀ n s, I n s → wpAny (model prog w) A (pyNext it) (fun r z1 => match r with
      | none => R (.ok .next) z1
      | some v => wpAny (model prog w) A (letOwnedTupleGo tg it v) (fun _ y1 => wpAny (model prog w) A (assign tg env v) (fun _ z2 =>
          wpAny (model prog w) A (forIn ifs true fun c r => if r = true then do let ok ← isTrue c env (eval c env); pure (ForInStep.yield ok) else pure (ForInStep.yield r)) (fun ok z3 =>
            if ok = true then wpAny (model prog w) A (eval elt env) (fun x z4 => wpAny (model prog w) A (call (.builtin "list.append") [acc, x]) (fun _ z5 => ∃ m, m < n ∧ I m z5) EE z4) EE z3 else ∃ m, m < n ∧ I m z3) EE z2) EE y1) EE z1) EE s)
    (n : Nat) (h : I n s) : codeAny (model prog w) A (.compLoop (.ListComp elt [⟨tg, iter, ifs, 0⟩] scope pos) 0 it acc env) R s := by
  subst hE
  refine codeAny_loop rfl I (fun n s hI => ?_) n h
  show wpAny _ A ((compTurn (.ListComp elt [⟨tg, iter, ifs, 0⟩] scope pos) 0 it acc env).onRaise (fun x => do noteFrame x env; theTreesLotGoes x)) _ _ s
  refine wpAny_noted ?_
  rw [compTurn_list]
  refine wpAny_bind (wpAny_standAt (wpAny_bind (wpAny_mono (turn n s hI) (fun r z1 q1 => ?_) fun _ _ z => z)))
  cases r with
  | none => exact wpAny_pure q1
  | some v =>
    refine wpAny_bind (wpAny_mono q1 (fun _ y1 q1 => ?_) fun _ _ z => z)
    refine wpAny_bind (wpAny_mono q1 (fun _ z2 q2 => wpAny_bind (wpAny_mono q2 (fun ok z3 q3 => ?_) fun _ _ z => z)) fun _ _ z => z)
    cases ok with
    | false => exact wpAny_pure ⟨rfl, q3⟩
    | true => exact wpAny_bind (wpAny_bind (wpAny_mono q3 (fun x z4 q4 => wpAny_bind (wpAny_mono q4 (fun _ z5 q5 => wpAny_pure (wpAny_pure ⟨rfl, q5⟩)) fun _ _ z => z)) fun _ _ z => z))
end
def cxC (X : Cx) (xs Nb : List Str) (scope : Scope) (cl : List (Str × Addr)) (C : Addr) (s₂ : Shared) (H₂ : Hp) (fp : List Addr) : Cx :=
  { X with N := xs ++ Nb, s₀ := s₂, H₀ := H₂, env := compEnvC scope cl C X.env, outer := X.stack, stack := X.stack, ex := fp, fn := fun _ => false, pn := [], xe := fun _ _ => False }
def InB (X : Cx) (xs Nb : List Str) (scope : Scope) (φ : Cx → Prop) : Prop := ∀ (cl : List (Str × Addr)) (C : Addr) (s₂ : Shared) (H₂ : Hp) (fp : List Addr), φ (cxC X xs Nb scope cl C s₂ H₂ fp)
def CGo (k : Nat) (J : It) (g : TG) (tt : TT) (te : TE) (Q : VK) (σ : St) (H1 : Hp) : Prop := ∃ W : Nat → Nat → List V → Hp → Prop, (∃ m, W 0 m [] H1) ∧ ∀ i m ys H, W i m ys H →
  (J.stop i H ∧ ∀ D, H D = none → Q (.ref D) (upd H D (.lst ys))) ∨ (J.go i H ∧ ys.length < sizeLine ∧ ∃ N : List V → Hp → Prop, (∀ zs H', N zs H' → ∃ m', m' < m ∧ W (i + 1) m' zs H') ∧ ∀ v H' (pre : St), pre.length = k → J.yld i H v H' → g v (pre ++ σ) H' fun σ' H2 => (∃ pre' : St, σ' = pre' ++ σ ∧ pre'.length = k) ∧ tt σ' H2 fun ok H3 => if ok = true then te σ' H3 fun y H4 => N (ys ++ [y]) H4 else N ys H3)
def tCompG (k : Nat) (wi : TI) (g : TG) (tt : TT) (te : TE) : TE := fun σ H Q => wi σ H fun J H1 => CGo k J g tt te Q σ H1
theorem comp_core {elt iter tg : Expr} {xs Nb : List Str} {ifs : List Expr} {scope : Scope} {pos : PySem.Pos} {wi : TI} {g : TG} {tt : TT} {te : TE}
    (hc : X.calm = true) (hi : PI X tg iter wi) (hlen : Nb.length = X.N.length) (hNb : ∀ p ∈ Nb.zip X.N, p.1 = p.2 ∨ scope.names.lookup p.1 = none) (hxN : ∀ y ∈ Nb, scope.names.lookup y ≠ some .local)
    (hg : InB X xs Nb scope fun Y => PG Y tg g) (ht : InB X xs Nb scope fun Y => PIf Y ifs tt) (he : InB X xs Nb scope fun Y => PE Y elt te)
    (hcell : ∀ y ∈ scope.names, y.2 ≠ .cell) (hkind : scope.kind = .function) (hnames : ∀ y ∈ scope.names, y.2 = .local → scope.names.lookup y.1 = some .local)
    (hfree : ∀ y ∈ scope.names, y.2 = .free → X.env.kindOf y.1 = some .cell)
    (hs : ∀ x, foldedSetIterable iter X.env x = pure x) {pos2 : PySem.Pos} {use : Option (Value → Sem Unit)} {QQ : Value → Shared → Prop} {pins : List (Addr × Obj)} {s : Shared} {σ : St} {H : Hp} {Q : VK} (I : Inv X pins σ H s) (h : tCompG xs.length wi g tt te σ H Q)
    (post : ∀ (s2 s4 : Shared) (H2 H4 : Hp) (C D : Addr) (m4 : Str → Option Value), Inv X pins σ H2 s2 → s2.heap.objs.size ≤ C → s4.heap.Ns C m4 → H4 C = none → (∀ h', Heap.SameBut C s4.heap h' → Inv X pins σ H4 { s4 with heap := h' }) → Q (.ref D) H4 → compPost (model X.prog X.w) X.A X.xe use QQ (.ref D) C (.ok .next) s4) :
    wpAny (model X.prog X.w) X.A (comprehension (.ListComp elt [⟨tg, iter, ifs, 0⟩] scope pos) scope X.env pos2 (newList []) false (eval iter X.env) use) QQ X.xe s := by
  obtain ⟨cl, hcl, cl1, cl2⟩ := clos_ok (scope := scope) (env := X.env) (fun y hy hf => I.ok.has y.1 (.inl (hfree y hy hf)))
  refine wpAny_comprehension_free rfl hs hcl hkind hnames (thn (hi pins s σ H _ I h) fun v s1 h1 => thn h1 fun itv s2 h2 => ?_)
  obtain ⟨it, fp, tn, J, H2, e, I2, T, st2, f2, W, ⟨m0, w0⟩, turn⟩ := h2
  subst e
  refine wpAny_newObj_type (wpAny_newFunctionEnv hcell (by intro y hy; simp at hy) (fun h₁ hns₁ hsb₁ => ?_) hkind)
  dsimp only at hns₁ hsb₁ ⊢
  generalize hHp : s2.heap.push { cls := .type "list", dict := none, data := .seq ([] : List Value).toArray } = Hp2 at hns₁ hsb₁ ⊢
  have hC : Hp2.objs.size = s2.heap.objs.size + 1 := by rw [← hHp, Heap.size_push]
  have hDC : s2.heap.objs.size ≠ Hp2.objs.size := by rw [hC]; exact Nat.ne_of_lt (Nat.lt_succ_self _)
  have below : ∀ b, b < s2.heap.objs.size → b ≠ Hp2.objs.size ∧ b ≠ s2.heap.objs.size := fun b hb => ⟨by rw [hC]; exact Nat.ne_of_lt (Nat.lt_succ_of_lt hb), Nat.ne_of_lt hb⟩
  have old : ∀ b o, s2.heap.get? b = some o → h₁.get? b = some o := fun b o e => hsb₁.extBut b o (below b (Heap.lt_size e)).1 (Heap.get?_push_of_some _ (hHp ▸ Heap.get?_push_of_some _ e))
  have hacc : h₁.PlainList s2.heap.objs.size #[] := ⟨_, hsb₁.extBut _ _ hDC (Heap.get?_push_of_some _ (hHp ▸ Heap.get?_push_size _ rfl))⟩
  generalize hY : cxC X xs Nb scope cl Hp2.objs.size s2 H2 fp = Y
  have Yprog : Y.prog = X.prog := by rw [← hY]; rfl
  have fpLt : ∀ b ∈ fp, b < s2.heap.objs.size := fun b hb => by
    obtain ⟨o, e, _⟩ := T.obj _ _ st2 b hb
    exact Heap.lt_size e
  have cellLt : ∀ y c, cl.lookup y = some c → c < s2.heap.objs.size := fun y c hc => by
    obtain ⟨v, q⟩ := I2.cell y c (cl1 y c hc)
    exact q.lt
  have frSub : ∀ b ∈ frs X.stack, b < s2.heap.objs.size := fun b hb => by
    rcases List.mem_cons.mp (I2.stkSub b hb) with z | z
    · rw [z]; exact I2.lt
    · by_cases hlt : b < s2.heap.objs.size
      · exact hlt
      · exact absurd z (I2.nofs (Nat.le_of_not_lt hlt))
  have ok : (cxC X xs Nb scope cl Hp2.objs.size s2 H2 fp).Ok := by
    refine ⟨I2.ok.mod, hkind, I2.ok.glob, I2.ok.blt, (by show s2.heap.objs.size ≤ Hp2.objs.size; omega), fun y z c h1 h2 => I2.ok.inj y z c (cl1 y c h1) (cl1 z c h2), fun y hy => ?_, fun y c hf _ => absurd hf (by intro z; cases z), I2.ok.hd, I2.ok.frames, .inl rfl, fun b hb => ⟨?_, fun y c h1 h2 => ?_⟩, I2.bs, Nat.le_trans I2.ok.bsz I2.sz, fun b o e hb => ?_, fun b hb hm => ?_, I2.stack, I2.stkFree⟩
    · have hy : (scope.names.map fun (n, k) => if (k == NameKind.free && X.env.scope.kind == .function && X.env.kindOf n == some .cell) then (n, NameKind.cell) else (n, k)).lookup y = some .cell ∨ (scope.names.map fun (n, k) => if (k == NameKind.free && X.env.scope.kind == .function && X.env.kindOf n == some .cell) then (n, NameKind.cell) else (n, k)).lookup y = some .free := hy
      have q : scope.names.lookup y = some .free := by
        rcases hy with z | z
        · exact (relabel_kind hcell z (.inl rfl)).1
        · exact (relabel_kind hcell z (.inr rfl)).1
      exact Option.isSome_iff_exists.mp (cl2 y (PySem.mem_of_lookup q))
    · exact (below b (fpLt b hb)).1
    · exact (f2 b hb).2.2.2.2.1 y c (cl1 y c h1) h2
    · rcases (f2 b hb).2.2.2.1 with z | z
      · exact I2.ok.noex b o e z
      · exact absurd (Nat.lt_of_lt_of_le (Heap.lt_size e) (Nat.le_trans I2.ok.bsz z)) (Nat.lt_irrefl _)
    · rcases List.mem_cons.mp (I2.stkSub b hm) with z | z
      · exact (f2 b hb).2.1 z
      · exact (f2 b hb).2.2.1 z
  have fpY : ∀ {H' : Hp} {pl : List (Addr × Obj)}, (∀ b ∈ fp, H' b = none) → (∀ p ∈ pl, p.1 = s2.heap.objs.size) → ∀ b ∈ fp, FpOk Y pl H' b := fun {H' pl} hn hp b hb => by
    rw [← hY]
    refine ⟨hn b hb, (below b (fpLt b hb)).1, fun hm => ?_, .inl hb, fun y c h1 h2 => (f2 b hb).2.2.2.2.1 y c (cl1 y c h1) h2, fun p hm z => ?_⟩
    · rcases List.mem_cons.mp (I2.stkSub b hm) with z | z
      · exact (f2 b hb).2.1 z
      · exact (f2 b hb).2.2.1 z
    · have hm : p ∈ pl := hm
      rw [hp p hm] at z
      exact (below b (fpLt b hb)).2 z.symm
  have HD : H2 s2.heap.objs.size = none := I2.hok.fresh (Nat.le_refl _)
  have HC : H2 Hp2.objs.size = none := I2.hok.fresh (by omega)
  obtain ⟨m2, hns2, hloc2⟩ := I2.loc
  have IY : ∀ tk, Inv (cxC X xs Nb scope cl Hp2.objs.size s2 H2 fp) [] (List.replicate xs.length none ++ σ) H2 { s2 with heap := h₁, toks := tk } := fun tk => by
    refine ⟨ok, rfl, I2.bare, Un.kept old, ⟨_, hns₁, fun i y v h1 h2 h3 => ?_⟩, fun y c h1 => ?_, HC, fun y c h1 => I2.freeC y c (cl1 y c h1), fun p hp => absurd (show p ∈ ([] : List (Addr × Obj)) from hp) (by simp), I2.hok.kept old, (by show (List.replicate xs.length (none : Option V) ++ σ).length = (xs ++ Nb).length; rw [List.length_append, List.length_append, List.length_replicate, hlen, I2.len])⟩
    · have h1 : (xs ++ Nb)[i]? = some y := h1
      by_cases hik : i < xs.length
      · rw [List.getElem?_append_left (by rw [List.length_replicate]; exact hik), List.getElem?_replicate, if_pos hik] at h2
        cases h2
      · rw [List.getElem?_append_right (by omega)] at h1
        rw [List.getElem?_append_right (by rw [List.length_replicate]; omega), List.length_replicate] at h2
        generalize i - xs.length = i at h1 h2
        have h3 : Vis (relabel scope X.env) y := h3
        have key : ∀ k, (k = NameKind.cell ∨ k = NameKind.free) → (relabel scope X.env).names.lookup y = some k → ∃ u, RelV v u ∧ Look (compEnvC scope cl Hp2.objs.size X.env) h₁ (fun x => ([] : List (Str × Value)).reverse.lookup x) y u := fun k hk hl => by
          obtain ⟨q1, _⟩ := relabel_kind hcell hl hk
          have q2 := hfree (y, .free) (PySem.mem_of_lookup q1) rfl
          have h1' : X.N[i]? = some y := by
            have hi' : i < X.N.length := by rw [← hlen]; exact (List.getElem?_eq_some_iff.mp h1).1
            have hz : (Nb.zip X.N)[i]? = some (y, X.N[i]) := by rw [List.getElem?_zip_eq_some]; exact ⟨h1, List.getElem?_eq_getElem hi'⟩
            rcases hNb _ (List.mem_of_getElem? hz) with z | z
            · have z : y = X.N[i] := z
              rw [z]; exact List.getElem?_eq_getElem hi'
            · have z : scope.names.lookup y = none := z
              rw [q1] at z; cases z
          obtain ⟨u, r, l⟩ := hloc2 i y v h1' h2 (.inr (.inl q2))
          refine ⟨u, r, .inr ⟨?_, ?_⟩⟩
          · rcases hk with rfl | rfl
            · exact .inl hl
            · exact .inr hl
          · rcases l with ⟨k1, _⟩ | ⟨_, c, e1, z⟩
            · rw [q2] at k1; cases k1
            · obtain ⟨c', e2⟩ := Option.isSome_iff_exists.mp (cl2 y (PySem.mem_of_lookup q1))
              have e3 := cl1 y c' e2
              rw [e1] at e3
              cases e3
              obtain ⟨o, ho, hd⟩ := z
              exact ⟨c, e2, o, old c o ho, hd⟩
        rcases h3 with h3 | h3 | h3
        ·
          exfalso
          exact hxN y (List.mem_of_getElem? h1) (relabel_local h3)
        · exact key _ (.inl rfl) h3
        · exact key _ (.inr rfl) h3
    · obtain ⟨v, o, ho, hd⟩ := I2.cell y c (cl1 y c h1)
      exact ⟨v, o, old c o ho, hd⟩
  have noErr : ∀ {α : Type} {m : Sem α} {G : α → Shared → Prop} {E' : Value → Shared → Prop} {s' : Shared}, wpAny (model X.prog X.w) X.A m G (fun _ _ => False) s' → wpAny (model X.prog X.w) X.A m G E' s' := fun h => wpAny_mono h (fun _ _ q => q) fun _ _ q => q.elim
  have loop : ∀ (tk : Nat) (R : Result → Shared → Prop), R = compPost (model X.prog X.w) X.A X.xe use QQ (.ref s2.heap.objs.size) Hp2.objs.size →
      codeAny (model X.prog X.w) X.A (.compLoop (.ListComp elt [⟨tg, iter, ifs, 0⟩] scope pos) 0 (.ref it) (.ref s2.heap.objs.size) (compEnvC scope cl Hp2.objs.size X.env)) R { s2 with heap := h₁, toks := tk } := by
    rintro tk R rfl
    refine loop_turns rfl (fun n s' => ∃ i σv H' ys its, σv.length = xs.length ∧ Inv Y [] (σv ++ σ) H' s' ∧ tn i s'.heap ∧ (∀ b ∈ fp, H' b = none) ∧ Vals ys its ∧ ys.length ≤ sizeLine ∧ s'.heap.PlainList s2.heap.objs.size its.toArray ∧ H' s2.heap.objs.size = none ∧ W i n ys H') ?_ m0
      ⟨0, List.replicate xs.length none, H2, [], [], List.length_replicate, hY ▸ IY tk, T.keep _ _ _ st2 fun b _ o e => old b o e, fun b hb => (f2 b hb).1, .nil, Nat.zero_le _, hacc, HD, w0⟩
    rintro n s3 ⟨i, σv, H3, ys, its, lv, I3, st3, fr3, rv, hz, ⟨nn, pl3⟩, HD3, w3⟩
    have I3p : Inv Y [(s2.heap.objs.size, { cls := .type "list", data := .seq its.toArray nn })] (σv ++ σ) H3 s3 := I3.pins_of fun p hp => by
      rw [List.mem_singleton] at hp
      subst hp
      refine ⟨pl3, HD3, ?_, fun hm => ?_, fun v z => by cases z⟩
      · rw [← hY]; exact hDC
      · rw [← hY] at hm
        exact absurd (frSub _ hm) (Nat.lt_irrefl _)
    have pinD : ∀ p ∈ [((s2.heap.objs.size : Addr), ({ cls := .type "list", data := .seq its.toArray nn } : Obj))], p.1 = s2.heap.objs.size := fun p hp => by
      rw [List.mem_singleton] at hp
      rw [hp]
    subst hY
    rcases turn i n ys H3 w3 with ⟨stop, qn⟩ | ⟨go, hlt, NN, hNN, step⟩
    · refine noErr (thn (T.done (cxC X xs Nb scope cl Hp2.objs.size s2 H2 fp) rfl rfl rfl hc i _ s3 _ H3 (fun _ _ => False) I3p (fpY fr3 pinD) st3 stop) fun r s4 ⟨hr, I4⟩ => ?_)
      subst hr
      obtain ⟨m4, hns4, _⟩ := I4.loc
      refine post s2 s4 H2 (upd H3 s2.heap.objs.size (.lst ys)) Hp2.objs.size s2.heap.objs.size m4 I2 (by omega) hns4 (by rw [upd_ne (Ne.symm hDC)]; exact I4.free) (fun h' sb => ?_) (qn _ HD3)
      have pl4 := (I4.pin _ (List.mem_append_right _ List.mem_cons_self)).1
      have up : ∀ b o, b ≠ Hp2.objs.size → s4.heap.get? b = some o → h'.get? b = some o := fun b o hb e => sb.extBut b o hb e
      have base := I4.base
      have HC4 : H3 Hp2.objs.size = none := I4.free
      have neC : ∀ b o, s2.heap.get? b = some o → b ≠ Hp2.objs.size := fun b o e => (below b (Heap.lt_size e)).1
      have neD : ∀ b o, s2.heap.get? b = some o → b ≠ s2.heap.objs.size := fun b o e => (below b (Heap.lt_size e)).2
      have hokN : HOk X.prog X.w (upd H3 s2.heap.objs.size (.lst ys)) h' := fun b u e => by
        by_cases hb : b = s2.heap.objs.size
        · subst hb
          rw [upd_same] at e
          cases e
          exact ⟨hz, its, nn, rv, up _ _ hDC pl4⟩
        · rw [upd_ne hb] at e
          refine (I4.hok b u e).stay (fun c v hc q => up c v ?_ q) (fun c q => by rw [upd_ne (ne_of_none q HD3)]; exact q) fun c xs q => by rw [upd_ne (ne_of_none q HD3)]; exact q
          rcases hc with z | z
          · rw [z]; exact ne_of_none e HC4
          · exact ne_of_none z HC4
      refine I2.call' (s' := { s4 with heap := h' }) (ch := fp) I4.os ⟨fun b o e n hb hx' => up b o (neC b o e) (base.keep b o e n hb hx'), fun b o e n hb hx' => ?_, fun b o e n hx' => ?_, fun b o e hx' => ?_, fun b xs e => ?_, fun b o u e => ?_, fun b ps e => ?_⟩ hokN I4.bare (fun b hb => ?_)
      · obtain ⟨sl, q⟩ := base.slot b o e n hb hx'
        exact ⟨sl, up b _ (neC b o e) q⟩
      · rw [upd_ne (neD b o e)]
        exact base.free b o e n hx'
      · obtain ⟨o', q⟩ := base.there b o e hx'
        exact ⟨o', up b o' (neC b o e) q⟩
      · have q := base.tups b xs e
        rw [upd_ne (ne_of_none q HD3)]; exact q
      · have q := base.frzs b o u e
        rw [upd_ne (ne_of_none q HD3)]; exact q
      · obtain ⟨more, q⟩ := base.tbls b ps e
        exact ⟨more, by rw [upd_ne (ne_of_none q HD3)]; exact q⟩
      · obtain ⟨_, g1, _, g3, g4, g5⟩ := f2 b hb
        exact ⟨g3, g1, g4, g5⟩
    · refine noErr (thn (T.item (cxC X xs Nb scope cl Hp2.objs.size s2 H2 fp) rfl rfl rfl hc i _ s3 _ H3 (fun _ _ => False) I3p (fpY fr3 pinD) st3 go) fun r s4 ⟨u, hr, h4⟩ => ?_)
      subst hr
      refine noErr (thn h4 fun _ s5 ⟨v, H5, I5, r5, y5, st5, fr5⟩ => ?_)
      have I5' := I5.pinned (fpY fr5 pinD) (T.obj _ _ st5)
      have stp := step v H5 σv lv y5
      refine noErr (thn (hg cl Hp2.objs.size s2 H2 fp _ s5 _ H5 v u _ I5' r5 stp) fun _ s6 ⟨σ6, H6, I6, ⟨pre', e6, l6⟩, stp⟩ => ?_)
      subst e6
      have again : ∀ {s7 s8 : Shared} {H7 : Hp} {zs : List V} {ws : List Value} {m' : Nat}, Inv (cxC X xs Nb scope cl Hp2.objs.size s2 H2 fp) ([((s2.heap.objs.size : Addr), ({ cls := .type "list", data := .seq its.toArray nn } : Obj))] ++ pinsAt fp s5.heap) (pre' ++ σ) H7 s7 →
          (∃ h', s8 = { s7 with heap := h' } ∧ (∀ b o, b ≠ s2.heap.objs.size → s7.heap.get? b = some o → h'.get? b = some o) ∧ h'.PlainList s2.heap.objs.size ws.toArray) → Vals zs ws → zs.length ≤ sizeLine → m' < n → W (i + 1) m' zs H7 →
          ∃ m, m < n ∧ ∃ i σv H' ys its, σv.length = xs.length ∧ Inv (cxC X xs Nb scope cl Hp2.objs.size s2 H2 fp) [] (σv ++ σ) H' s8 ∧ tn i s8.heap ∧ (∀ b ∈ fp, H' b = none) ∧ Vals ys its ∧ ys.length ≤ sizeLine ∧ s8.heap.PlainList s2.heap.objs.size its.toArray ∧ H' s2.heap.objs.size = none ∧ W i m ys H' := by
        rintro s7 s8 H7 zs ws m' I7 ⟨h', rfl, up, plw⟩ rz hzz hm w7
        have HD7 : H7 s2.heap.objs.size = none := (I7.pin _ (List.mem_append_right _ (List.mem_append_left _ List.mem_cons_self))).2.1
        have fr7 : ∀ b ∈ fp, H7 b = none := fun b hb => by
          obtain ⟨o, e, d⟩ := T.obj _ _ st5 b hb
          exact (I7.pin (b, o) (List.mem_append_right _ (List.mem_append_right _ (mem_pinsAt hb e)))).2.1
        have I7' : Inv (cxC X xs Nb scope cl Hp2.objs.size s2 H2 fp) [] (pre' ++ σ) H7 s7 := I7.pins_of fun p hp => absurd hp (by simp)
        refine ⟨m', hm, i + 1, pre', H7, zs, ws, l6, ?_, ?_, fr7, rz, hzz, plw, HD7, w7⟩
        · have := I7'.turned (it := s2.heap.objs.size) (h' := h') (t' := s7.toks) up HD7 hDC (.inr (Nat.le_refl _)) (fun y c h1 h2 => absurd (cellLt y c h1) (by rw [h2]; exact Nat.lt_irrefl _)) (fun p hp => absurd (show p ∈ ([] : List (Addr × Obj)) from hp) (by simp))
          exact this
        · refine T.keep _ _ _ st5 fun b hb o e => up b o (below b (fpLt b hb)).2 ?_
          exact (I7.pin (b, o) (List.mem_append_right _ (List.mem_append_right _ (mem_pinsAt hb e)))).1
      refine noErr (thn (ht cl Hp2.objs.size s2 H2 fp _ s6 _ H6 _ I6 stp) fun okb s7 ⟨H7, I7, q7⟩ => ?_)
      have pl7 := (I7.pin _ (List.mem_append_right _ (List.mem_append_left _ List.mem_cons_self))).1
      cases okb with
      | false =>
        rw [if_neg Bool.false_ne_true] at q7 ⊢
        obtain ⟨m', hm, w7⟩ := hNN _ _ q7
        exact again I7 ⟨s7.heap, rfl, fun _ _ _ e => e, nn, pl7⟩ rv hz hm w7
      | true =>
        rw [if_pos rfl] at q7 ⊢
        refine noErr (thn (he cl Hp2.objs.size s2 H2 fp _ s7 _ H7 _ I7 q7) fun w' s8 ⟨y, H8, I8, r8, q8⟩ => ?_)
        obtain ⟨m', hm, w8⟩ := hNN _ _ q8
        have pl8 := (I8.pin _ (List.mem_append_right _ (List.mem_append_left _ List.mem_cons_self))).1
        refine wpAny_list_append_plain (hsz := by have := rv.length; simp only [List.size_toArray]; omega) ⟨nn, pl8⟩ fun h9 pl9 sb9 => ?_
        refine again I8 ⟨h9, rfl, fun b o hb e => sb9.extBut b o hb e, ?_⟩ (rv.append (.cons r8 .nil)) (by rw [List.length_append, List.length_singleton]; omega) hm w8
        have e9 : its.toArray.push w' = (its ++ [w']).toArray := by simp
        rw [← e9]
        exact pl9
  refine codeAny_compStart_list (loop _ _ rfl) (noErr (T.self _ 0 _ _ _ (T.keep _ _ _ st2 fun b _ o e => old b o e) (loop _ _ rfl)))
theorem pe_compG {elt iter tg : Expr} {xs Nb : List Str} {ifs : List Expr} {scope : Scope} {pos : PySem.Pos} {wi : TI} {g : TG} {tt : TT} {te : TE}
    (hc : X.calm = true) (hi : PI X tg iter wi) (hlen : Nb.length = X.N.length) (hNb : ∀ p ∈ Nb.zip X.N, p.1 = p.2 ∨ scope.names.lookup p.1 = none) (hxN : ∀ y ∈ Nb, scope.names.lookup y ≠ some .local)
    (hg : InB X xs Nb scope fun Y => PG Y tg g) (ht : InB X xs Nb scope fun Y => PIf Y ifs tt) (he : InB X xs Nb scope fun Y => PE Y elt te)
    (hcell : ∀ y ∈ scope.names, y.2 ≠ .cell) (hkind : scope.kind = .function) (hnames : ∀ y ∈ scope.names, y.2 = .local → scope.names.lookup y.1 = some .local)
    (hfree : ∀ y ∈ scope.names, y.2 = .free → X.env.kindOf y.1 = some .cell)
    (hs : ∀ x, foldedSetIterable iter X.env x = pure x := by intro _; rfl) :
    PE X (.ListComp elt [⟨tg, iter, ifs, 0⟩] scope pos) (tCompG xs.length wi g tt te) := by
  intro pins s σ H Q I h
  rw [eval_ListComp]
  exact comp_core (use := none) (QQ := EP X pins σ Q) hc hi hlen hNb hxN hg ht he hcell hkind hnames hfree hs I h fun s2 s4 H2 H4 C D m4 _ _ hn _ IX q => ⟨m4, hn, fun h' sb => ⟨.ref D, H4, IX h' sb, rfl, q⟩⟩
theorem ps_compG {elt iter tg : Expr} {xs Nb : List Str} {ifs : List Expr} {scope : Scope} {pos spos py : PySem.Pos} {wi : TI} {g g2 : TG} {tt : TT} {te : TE} {y : Str}
    (hg2 : PG X (.Name y py) g2) (hsw : swapsWith (.ListComp elt [⟨tg, iter, ifs, 0⟩] scope pos) (some (.Name y py)) spos.line X.env = pure true)
    (hc : X.calm = true) (hi : PI X tg iter wi) (hlen : Nb.length = X.N.length) (hNb : ∀ p ∈ Nb.zip X.N, p.1 = p.2 ∨ scope.names.lookup p.1 = none) (hxN : ∀ y ∈ Nb, scope.names.lookup y ≠ some .local)
    (hg : InB X xs Nb scope fun Y => PG Y tg g) (ht : InB X xs Nb scope fun Y => PIf Y ifs tt) (he : InB X xs Nb scope fun Y => PE Y elt te)
    (hcell : ∀ y ∈ scope.names, y.2 ≠ .cell) (hkind : scope.kind = .function) (hnames : ∀ y ∈ scope.names, y.2 = .local → scope.names.lookup y.1 = some .local)
    (hfree : ∀ y ∈ scope.names, y.2 = .free → X.env.kindOf y.1 = some .cell)
    (hs : ∀ x, foldedSetIterable iter X.env x = pure x := by intro _; rfl) :
    PS X (.Assign [.Name y py] (.ListComp elt [⟨tg, iter, ifs, 0⟩] scope pos) spos) (tAsg (tCompG xs.length wi g tt te) g2) := by
  intro pins s σ H D I h
  rw [exec_Assign_Name_used _ _ _ _ hsw]
  refine wpAny_bind (wpAny_standAt (wpAny_bind ?_))
  show wpAny (model X.prog X.w) X.A (comprehension (.ListComp elt [⟨tg, iter, ifs, 0⟩] scope pos) scope X.env _ (newList []) false (eval iter X.env) (some (assign (.Name y py) X.env)) >>= fun _ => pure ()) _ _ s
  refine wpAny_bind (wpAny_mono (comp_core (use := some (assign (.Name y py) X.env)) (QQ := fun _ s' => SP X pins D .next s') hc hi hlen hNb hxN hg ht he hcell hkind hnames hfree hs I h ?_) (fun _ s' hq => wpAny_pure (wpAny_pure hq)) fun _ _ e => e)
  intro s2 s4 H2 H4 C R m4 I2 hC hn HC IX q
  have I4 : Inv X pins σ H4 s4 := IX s4.heap (Heap.SameBut.refl _ _)
  obtain ⟨o, es, ep, ho, hd, hn'⟩ := id hn
  have hLC : C ≠ X.env.locals := fun z => absurd (Nat.lt_of_lt_of_le I2.lt hC) (by rw [z]; exact Nat.lt_irrefl _)
  have hfsC : C ∉ X.fs := I2.nofs hC
  have I4p : Inv X ((C, o) :: pins) σ H4 s4 := I4.pins_of fun p hp => by
    rcases List.mem_cons.mp hp with rfl | z
    · exact ⟨ho, HC, hLC, hfsC, fun v z => by rw [hd] at z; cases z⟩
    · exact I4.pin p (List.mem_append_right _ z)
  show wpAny _ X.A (assign (.Name y py) X.env (.ref R)) _ _ s4
  refine thn (hg2 _ s4 σ H4 (.ref R) (.ref R) _ I4p rfl q) fun _ s5 ⟨σ5, H5, I5, q5⟩ => ?_
  have pC := I5.pin (C, o) (List.mem_append_right _ List.mem_cons_self)
  refine ⟨m4, ⟨o, es, ep, pC.1, hd, hn'⟩, fun h' sb => ⟨σ5, H5, ?_, q5⟩⟩
  have I6 : Inv X pins σ5 H5 s5 := I5.pins_of fun p hp => I5.pin p (List.mem_append_right _ (List.mem_cons_of_mem _ hp))
  exact I6.turned (it := C) (h' := h') (t' := s5.toks) (fun b o hb e => sb.extBut b o hb e) pC.2.1 hLC (.inr (Nat.le_trans I2.sz hC)) (fun y c e z => by
      obtain ⟨v, qq⟩ := I2.cell y c e
      exact absurd (Nat.lt_of_lt_of_le qq.lt hC) (by rw [z]; exact Nat.lt_irrefl _)) (fun p hp z => by
      exact absurd (Nat.lt_of_lt_of_le (Heap.lt_size (I2.pin p hp).1) hC) (by rw [z]; exact Nat.lt_irrefl _))
theorem compL {K : PySem.W.Frag} {k : Nat} {a : Addr} {xs : List V} {g : TG} {tt : TT} {te : TE} {Q : VK} {σ : St} {H : Hp} (Pv : Nat → List V → Hp → Prop) (h0 : Pv 0 [] H) (hb : xs.length ≤ 1000) (hz : ∀ i ys H, Pv i ys H → ys.length ≤ i) (hl : ∀ i ys H, i ≤ xs.length → Pv i ys H → SqL K H a xs)
    (hs : ∀ i x ys H (pre : St), pre.length = k → xs[i]? = some x → Pv i ys H → g x (pre ++ σ) H fun σ' H2 => (∃ pre' : St, σ' = pre' ++ σ ∧ pre'.length = k) ∧ tt σ' H2 fun ok H3 => if ok = true then te σ' H3 fun y H4 => Pv (i + 1) (ys ++ [y]) H4 else Pv (i + 1) ys H3) (hd : ∀ ys H, Pv xs.length ys H → ∀ D, H D = none → Q (.ref D) (upd H D (.lst ys))) : CGo k (Itl K a) g tt te Q σ H := by
  refine ⟨fun i m ys H => m = xs.length - i ∧ i ≤ xs.length ∧ Pv i ys H, ⟨xs.length, by simp, Nat.zero_le _, h0⟩, ?_⟩
  rintro i m ys H ⟨rfl, hi, p⟩
  have q := hl i ys H hi p
  by_cases hlt : i < xs.length
  · refine .inr ⟨⟨xs, xs[i], q, by simp [hlt]⟩, Nat.lt_of_le_of_lt (hz i ys H p) (small1000 (by omega)), Pv (i + 1), fun zs H' p' => ⟨xs.length - (i + 1), by omega, rfl, hlt, p'⟩, fun x H' pre hp y => ?_⟩
    obtain ⟨e, y⟩ := y
    subst e
    exact hs i x ys _ pre hp (y xs q) p
  · have e : i = xs.length := by omega
    subst e
    exact .inl ⟨⟨xs, q, Nat.le_refl _⟩, hd ys H p⟩
theorem compT {K : PySem.W.Frag} {k : Nat} {a : Addr} {xs : List V} {g : TG} {tt : TT} {te : TE} {Q : VK} {σ : St} {H : Hp} (Pv : Nat → List V → Hp → Prop) (h0 : Pv 0 [] H) (hb : xs.length ≤ 1000) (hz : ∀ i ys H, Pv i ys H → ys.length ≤ i) (hl : ∀ i ys H, i ≤ xs.length → Pv i ys H → SqT K H a xs)
    (hs : ∀ i x ys H (pre : St), pre.length = k → xs[i]? = some x → Pv i ys H → g x (pre ++ σ) H fun σ' H2 => (∃ pre' : St, σ' = pre' ++ σ ∧ pre'.length = k) ∧ tt σ' H2 fun ok H3 => if ok = true then te σ' H3 fun y H4 => Pv (i + 1) (ys ++ [y]) H4 else Pv (i + 1) ys H3) (hd : ∀ ys H, Pv xs.length ys H → ∀ D, H D = none → Q (.ref D) (upd H D (.lst ys))) : CGo k (Itt K a) g tt te Q σ H := by
  refine ⟨fun i m ys H => m = xs.length - i ∧ i ≤ xs.length ∧ Pv i ys H, ⟨xs.length, by simp, Nat.zero_le _, h0⟩, ?_⟩
  rintro i m ys H ⟨rfl, hi, p⟩
  have q := hl i ys H hi p
  by_cases hlt : i < xs.length
  · refine .inr ⟨⟨xs, xs[i], q, by simp [hlt]⟩, Nat.lt_of_le_of_lt (hz i ys H p) (small1000 (by omega)), Pv (i + 1), fun zs H' p' => ⟨xs.length - (i + 1), by omega, rfl, hlt, p'⟩, fun x H' pre hp y => ?_⟩
    obtain ⟨e, y⟩ := y
    subst e
    exact hs i x ys _ pre hp (y xs q) p
  · have e : i = xs.length := by omega
    subst e
    exact .inl ⟨⟨xs, q, Nat.le_refl _⟩, hd ys H p⟩
theorem compR {k : Nat} {lo : Int} {n : Nat} {g : TG} {tt : TT} {te : TE} {Q : VK} {σ : St} {H : Hp} (Pv : Nat → List V → Hp → Prop) (h0 : Pv 0 [] H) (hb : n ≤ 1000) (hz : ∀ i ys H, Pv i ys H → ys.length ≤ i)
    (hs : ∀ (i : Nat) ys H (pre : St), pre.length = k → i < n → Pv i ys H → g (.int (lo + i)) (pre ++ σ) H fun σ' H2 => (∃ pre' : St, σ' = pre' ++ σ ∧ pre'.length = k) ∧ tt σ' H2 fun ok H3 => if ok = true then te σ' H3 fun y H4 => Pv (i + 1) (ys ++ [y]) H4 else Pv (i + 1) ys H3) (hd : ∀ ys H, Pv n ys H → ∀ D, H D = none → Q (.ref D) (upd H D (.lst ys))) : CGo k (Itr lo n) g tt te Q σ H := by
  refine ⟨fun i m ys H => m = n - i ∧ i ≤ n ∧ Pv i ys H, ⟨n, by simp, Nat.zero_le _, h0⟩, ?_⟩
  rintro i m ys H ⟨rfl, hi, p⟩
  by_cases hlt : i < n
  · refine .inr ⟨hlt, Nat.lt_of_le_of_lt (hz i ys H p) (small1000 (by omega)), Pv (i + 1), fun zs H' p' => ⟨n - (i + 1), by omega, rfl, hlt, p'⟩, fun x H' pre hp y => ?_⟩
    obtain ⟨e, y⟩ := y
    subst e y
    exact hs i ys _ pre hp hlt p
  · have e : i = n := by omega
    subst e
    exact .inl ⟨Nat.le_refl _, hd ys H p⟩
end
end L2
set_option Elab.async false
set_option linter.all false
set_option maxRecDepth 100000
set_option maxHeartbeats 4000000
namespace L2
open PySem PySem.Spec PyProof.Rows
section
variable {X : Cx}
theorem sl_listK {K : PySem.W.Frag} (hK : X.K = K := by rfl) : SlR X (rSlL K) := by subst hK; exact sl_list
end
def dT (ns : List Int) : PyData := .tuple (ns.map .int)
theorem eqvAll_ints : ∀ ns ms : List Int, PyData.eqvAll (ns.map .int) (ms.map .int) = decide (ns = ms)
  | [], [] => rfl
  | [], _ :: _ => rfl
  | _ :: _, [] => rfl
  | n :: ns, m :: ms => by
    show (PyData.eqv (.int n) (.int m) && PyData.eqvAll (ns.map .int) (ms.map .int)) = _
    rw [eqvAll_ints ns ms]
    show ((n == m) && _) = _
    by_cases h : n = m
    · subst h; by_cases h2 : ns = ms <;> simp [h2]
    · simp [h]
theorem eqv_dT (ns ms : List Int) : PyData.eqv (dT ns) (dT ms) = decide (ns = ms) := eqvAll_ints ns ms
theorem lay_ints : ∀ ns : List Int, PyData.canLayAll0 (ns.map .int) = true
  | [] => rfl
  | _ :: ns => by show (true && _) = true; rw [lay_ints ns]; rfl
theorem lay_dT (ns : List Int) : (dT ns).canLay0 = true := lay_ints ns
theorem dep_ints : ∀ ns : List Int, PyData.depthAll (ns.map .int) = 0
  | [] => rfl
  | _ :: ns => by show max 0 _ = 0; rw [dep_ints ns]; rfl
theorem dep_dT (ns : List Int) : (dT ns).depth = 1 := by show PyData.depthAll _ + 1 = 1; rw [dep_ints]
def Tups (H H' : Hp) : Prop := ∀ b ys, H b = some (.tup ys) → H' b = some (.tup ys)
theorem Same.tups {H H' : Hp} (s : Same H H') : Tups H H' := fun b ys e => s b _ e
def tot (L : List (Int × List Int)) : Int := (L.map (·.1)).sum
theorem take_succ' {α : Type} {L : List α} {i : Nat} {e : α} (h : L[i]? = some e) : L.take (i + 1) = L.take i ++ [e] := by
  rw [List.take_add_one, h]; rfl
end L2
set_option Elab.async false
set_option linter.all false
set_option maxRecDepth 100000
set_option maxHeartbeats 4000000
set_option Elab.async false
set_option linter.all false
set_option maxRecDepth 100000
set_option maxHeartbeats 4000000
namespace L2
open PySem PySem.Spec PyProof.Rows
section
variable {X : Cx}
theorem call_sorted : CallR X (.builtin "sorted") (fun xs H Q => ∃ (p : Addr) (ns : List Int), xs = [.ref p] ∧ SqL X.K H p (ns.map V.int) ∧ ns.length < 64 ∧ ∀ (l : Addr) (ms : List Int), H l = none → ms.Perm ns → ms.Pairwise (· ≤ ·) → Q (.ref l) (upd H l (.lst (ms.map V.int)))) := by
  intro pins s σ H xs us Q I r h
  obtain ⟨p, ns, rfl, hq, h64, q⟩ := h
  obtain ⟨u, rfl, rx⟩ := vals1 r
  cases rx
  obtain ⟨its, rv, pl, hz⟩ := I.list hq
  have hlen : its.length = ns.length := by have := rv.length; rw [List.length_map] at this; exact this.symm
  refine sorted_ints (vs := its) pl.isList (intsAre_of rv) (by omega) fun out ms hI hp hw => ?_
  obtain ⟨e, he⟩ := sortedAll_at s.heap its out
  have hl : ms.length = ns.length := hp.length_eq
  refine ⟨.ref _, upd H (s.heap.objs.size + 1) (.lst (ms.map V.int)), I.laid (t' := s.toks) (fun b ob z => sortedAll_old z) (Nat.le_succ _) ⟨?_, out.toList, e, vals_ints hI, ?_⟩, rfl, q _ ms (I.hok.fresh (Nat.le_succ _)) hp hw⟩
  · rw [List.length_map, hl]
    exact Nat.le_of_lt (small1000 (by omega))
  · rw [he]
end
end L2
set_option Elab.async false
set_option linter.all false
set_option maxRecDepth 100000
set_option maxHeartbeats 4000000
namespace L2
abbrev WL := List (Int × List Int)
def Pos (L : WL) : Prop := ∀ e ∈ L, 0 < e.1
end L2
set_option Elab.async false
set_option linter.all false
set_option maxRecDepth 100000
set_option maxHeartbeats 4000000
namespace L2
open PySem PySem.Spec PyProof.Rows
inductive Th (H : Hp) : V → PyData → Prop where
  | non : Th H .non .none
  | bl (b : Bool) : Th H (.bl b) (.bool b)
  | int (i : Int) : Th H (.int i) (.int i)
  | str (x : Str) : Th H (.str x) (.str x)
  | tup {a : Addr} {xs : List V} {ds : List PyData} : H a = some (.tup xs) → xs.length = ds.length → (∀ (i : Nat) (x : V) (d : PyData), xs[i]? = some x → ds[i]? = some d → Th H x d) → Th H (.ref a) (.tuple ds)
  | lst {a : Addr} {xs : List V} {ds : List PyData} : H a = some (.lst xs) → xs.length = ds.length → (∀ (i : Nat) (x : V) (d : PyData), xs[i]? = some x → ds[i]? = some d → Th H x d) → Th H (.ref a) (.list ds)
theorem Th.di {K : PySem.W.Frag} {H : Hp} {x : V} {d : PyData} (h : Th H x d) : DI K H x d := by
  induction h with
  | non => exact .non
  | bl b => exact .bl b
  | int i => exact .int i
  | str x => exact .str x
  | tup a b _ ih => exact .tup (SqT.of a) b ih
  | lst a b _ ih => exact .lst (SqL.of a) b ih
theorem Th.up {H H' : Hp} {x : V} {d : PyData} (h : Th H x d) (s : Same H H') : Th H' x d := by
  induction h with
  | non => exact .non
  | bl b => exact .bl b
  | int i => exact .int i
  | str x => exact .str x
  | tup a b _ ih => exact .tup (s _ _ a) b ih
  | lst a b _ ih => exact .lst (s _ _ a) b ih
def tyName : PyData → String
  | .none => "NoneType"
  | .bool _ => "bool"
  | .int _ => "int"
  | .str _ => "str"
  | .list _ => "list"
  | .tuple _ => "tuple"
  | .dict _ => "dict"
theorem Th.ty {K : PySem.W.Frag} {H : Hp} {x : V} {d : PyData} (h : Th H x d) : TyOf K H x (.type (tyName d)) := by
  cases h with
  | non => exact .non
  | bl b => exact .bl b
  | int i => exact .int i
  | str x => exact .str x
  | tup a _ _ => exact .tup a
  | lst a _ _ => exact .lst a
def isInt : PyData → Bool
  | .int _ | .bool _ => true
  | _ => false
def isBool : PyData → Bool
  | .bool _ => true
  | _ => false
def isTup : PyData → Bool
  | .tuple _ => true
  | _ => false
theorem kit_int {K : PySem.W.Frag} (d : PyData) : PySem.W.kitOne K (.type (tyName d)) (.type "int") = some (isInt d) := by
  cases d <;> with_unfolding_all rfl
theorem kit_bool {K : PySem.W.Frag} (d : PyData) : PySem.W.kitOne K (.type (tyName d)) (.type "bool") = some (isBool d) := by
  cases d <;> with_unfolding_all rfl
theorem kit_tup {K : PySem.W.Frag} (d : PyData) : PySem.W.kitOne K (.type (tyName d)) (.type "tuple") = some (isTup d) := by
  cases d <;> with_unfolding_all rfl
section
variable {X : Cx} {es : List Expr} {te : TE} {t : TA}
theorem pa_Constant {c : Const} {j : Nat} {p : PySem.Pos} (ha : PE X (.Constant c j p) te) (hr : PA X es t) : PA X (.Constant c j p :: es) (tCons te t) := pa_cons ha hr rfl
theorem pa_Name {x : Str} {p : PySem.Pos} (ha : PE X (.Name x p) te) (hr : PA X es t) : PA X (.Name x p :: es) (tCons te t) := pa_cons ha hr rfl
theorem pa_Tuple {l : List Expr} {k : Nat} {p : PySem.Pos} (ha : PE X (.Tuple l k p) te) (hr : PA X es t) : PA X (.Tuple l k p :: es) (tCons te t) := pa_cons ha hr rfl
theorem pa_BinOp {a b : Expr} {o : Operator} {p : PySem.Pos} (ha : PE X (.BinOp a o b p) te) (hr : PA X es t) : PA X (.BinOp a o b p :: es) (tCons te t) := pa_cons ha hr rfl
theorem pa_Subscript {a b : Expr} {p : PySem.Pos} (ha : PE X (.Subscript a b p) te) (hr : PA X es t) : PA X (.Subscript a b p :: es) (tCons te t) := pa_cons ha hr rfl
theorem pa_Call {f : Expr} {l : List Expr} {kw : List Keyword} {p : PySem.Pos} (ha : PE X (.Call f l kw p) te) (hr : PA X es t) : PA X (.Call f l kw p :: es) (tCons te t) := pa_cons ha hr rfl
end
theorem pa_o2 {X : Cx} {e1 e2 : Expr} {t1 t2 : TE} {es : List Expr} {t : TA} (h1 : PE X e1 t1) (h2 : PE X e2 t2) (hr : PA X es t) (s1 : ∀ l, starEach (e1 :: l) X.env = (false, eval e1 X.env) :: starEach l X.env := by intro _; rfl) (s2 : ∀ l, starEach (e2 :: l) X.env = (false, eval e2 X.env) :: starEach l X.env := by intro _; rfl) : PA X (e1 :: e2 :: es) (tCons t1 (tCons t2 t)) := (pa_cons h1 (pa_cons h2 hr (s2 _)) (s1 _))
theorem pa_o4 {X : Cx} {e1 e2 e3 e4 : Expr} {t1 t2 t3 t4 : TE} {es : List Expr} {t : TA} (h1 : PE X e1 t1) (h2 : PE X e2 t2) (h3 : PE X e3 t3) (h4 : PE X e4 t4) (hr : PA X es t) (s1 : ∀ l, starEach (e1 :: l) X.env = (false, eval e1 X.env) :: starEach l X.env := by intro _; rfl) (s2 : ∀ l, starEach (e2 :: l) X.env = (false, eval e2 X.env) :: starEach l X.env := by intro _; rfl) (s3 : ∀ l, starEach (e3 :: l) X.env = (false, eval e3 X.env) :: starEach l X.env := by intro _; rfl) (s4 : ∀ l, starEach (e4 :: l) X.env = (false, eval e4 X.env) :: starEach l X.env := by intro _; rfl) : PA X (e1 :: e2 :: e3 :: e4 :: es) (tCons t1 (tCons t2 (tCons t3 (tCons t4 t)))) := (pa_cons h1 (pa_cons h2 (pa_cons h3 (pa_cons h4 hr (s4 _)) (s3 _)) (s2 _)) (s1 _))
theorem sw_sub {a b : Expr} {p : PySem.Pos} {t : Option Expr} {l : Nat} {env : Env} : swapsWith (.Subscript a b p) t l env = pure false := rfl
end L2
set_option Elab.async false
set_option linter.all false
set_option maxRecDepth 100000
set_option maxHeartbeats 1000000
namespace L2
open PySem PySem.Spec PyProof.Rows
section
variable {X : Cx}
theorem strsAre_of {ss : List Str} : ∀ {us : List Value}, Vals (ss.map V.str) us → StrsAre us ss := by
  induction ss with
  | nil => intro us r; cases r; exact .nil
  | cons a l ih =>
    intro us r
    cases r with
    | cons ra rl => obtain ⟨t, rfl⟩ := ra; exact .cons a t (ih rl)
theorem mt_join : MtR X "str.join" (fun x vs H Q => ∃ (sep : Str) (p : Addr) (ss : List Str), x = .str sep ∧ vs = [.ref p] ∧ SqL X.K H p (ss.map V.str) ∧ sep.length ≤ 16 ∧ (ss.map (·.length)).sum + ss.length ≤ 1048576 ∧ Q (.str (Str.join sep ss)) H) := by
  intro pins s σ H x xs v us Q I rx rv h
  obtain ⟨sep, p, ss, rfl, rfl, hq, hs, hw, q⟩ := h
  obtain ⟨t, rfl⟩ := rx
  obtain ⟨u, rfl, ru⟩ := vals1 rv
  cases ru
  obtain ⟨its, r, pl, hz⟩ := I.list hq
  exact join_listW pl.isList (strsAre_of r) hs hw fun t' k => ⟨.str _, H, I.tok _, ⟨_, rfl⟩, by show Q (.str (Builtin.Str.glued sep ss)) H; rw [StrLaws.glued_eq_join]; exact q⟩
theorem op_mul_str : OpR X (binaryOp .Mult) (fun x y H Q => ∃ (z : Str) (i : Int), x = .str z ∧ y = .int i ∧ MulOk z i ∧ Q (.str (Txt.mul z i)) H) := by
  intro pins s σ H x y v u Q I rx ry h
  obtain ⟨z, i, rfl, rfl, hm, q⟩ := h
  obtain ⟨t, rfl⟩ := rx
  obtain ⟨t2, rfl⟩ := ry
  exact SB.mul hm fun t' k => ⟨.str _, H, I.tok _, ⟨_, rfl⟩, q⟩
end
end L2
set_option Elab.async false
set_option linter.all false
set_option maxRecDepth 100000
set_option maxHeartbeats 1000000
set_option Elab.async false
set_option linter.all false
set_option maxRecDepth 100000
set_option maxHeartbeats 1000000
namespace L2
open PySem PySem.Spec PyProof.Rows
def ThL (H : Hp) (xs : List V) (ds : List PyData) : Prop := xs.length = ds.length ∧ ∀ (i : Nat) (x : V) (d : PyData), xs[i]? = some x → ds[i]? = some d → Th H x d
theorem ThL.tup {H : Hp} {a : Addr} {xs : List V} {ds : List PyData} (k : ThL H xs ds) (h : H a = some (.tup xs)) : Th H (.ref a) (.tuple ds) := .tup h k.1 k.2
theorem ThL.ints {H : Hp} (ns : List Int) : ThL H (ns.map V.int) (ns.map .int) := by
  refine ⟨by simp, fun i x d h1 h2 => ?_⟩
  rw [List.getElem?_map] at h1 h2
  cases z : ns[i]? with
  | none => rw [z] at h1; cases h1
  | some n => rw [z] at h1 h2; cases h1; cases h2; exact .int n
end L2
set_option Elab.async false
set_option linter.all false
set_option maxRecDepth 100000
set_option maxHeartbeats 1000000
namespace L2
open PySem PySem.Spec PyProof.Rows
section
variable {prog : Program} {w : World} {A : Around} {E : Value → Shared → Prop} {s : Shared}
open Builtin Builtin.Str in
theorem split_raw {x y : Str} {t u : Tok} {Q : Value → Shared → Prop} (hy : (y.length == 0) = false)
    (h : ∀ l k, l.map (·.1) = Txt.split x y → Q (.ref s.heap.objs.size) { s with heap := s.heap.push { cls := .type "list", data := .seq (strValues l).toArray }, toks := k }) (hsz : x.length + 2 ≤ sizeLine) :
    wpAny (model prog w) A (call (.builtin "str.split") [.str x t, .str y u]) Q E s := by
  have hn : (partsBetween x (occurrences x y 0 x.length (x.length + 1)) y.length).length ≤ sizeLine := by
    have e1 := StrLaws.occ_length_le x y 0 x.length (x.length + 1)
    rw [length_partsBetween]; omega
  cases h1 : (decide (x.length < y.length) || decide (strKind x < strKind y))
  · cases hf : (occurrences x y 0 x.length (x.length + 1)).isEmpty
    · refine call_meets F.slot_str_split (typeIs_str _ _ _) F.entry_str_split (F.args_str_split_2 _ _) (meets_str_split_sep x y t u h1 hy hf (by omega) hn) ?_
      show wants Q E _ { s with toks := _, heap := s.heap.push { cls := .type "list", data := .seq (strsFrom s.toks (partsBetween x (occurrences x y 0 x.length (x.length + 1)) y.length)).toArray } }
      rw [strsFrom_eq]
      exact h (numbered s.toks _) _ ((numbered_texts _ _).trans ((if_neg (ne_true_of_eq_false h1)).trans (if_neg (ne_true_of_eq_false hf))).symm)
    · exact call_meets F.slot_str_split (typeIs_str _ _ _) F.entry_str_split (F.args_str_split_2 _ _) (meets_str_split_not_found x y t u h1 hy hf)
        (h [(x, t)] s.toks ((if_neg (ne_true_of_eq_false h1)).trans (if_pos hf)).symm)
  · exact call_meets F.slot_str_split (typeIs_str _ _ _) F.entry_str_split (F.args_str_split_2 _ _) (meets_str_split_cannot_occur x y t u h1)
      (h [(x, t)] s.toks (if_pos h1).symm)
end
theorem vals_strs : ∀ l : List (Str × Tok), Vals ((l.map (·.1)).map V.str) (strValues l)
  | [] => .nil
  | p :: l => .cons ⟨_, rfl⟩ (vals_strs l)
open Builtin Builtin.Str in
theorem split_len (x y : Str) : (Txt.split x y).length ≤ x.length + 2 := by
  unfold Txt.split
  split
  · simp
  · split
    · simp
    · have e1 := StrLaws.occ_length_le x y 0 x.length (x.length + 1)
      rw [length_partsBetween]; omega
theorem split_ne (x y : Str) : Txt.split x y ≠ [] := by
  unfold Txt.split
  split
  · simp
  · split
    · simp
    · intro z
      have := length_partsBetween x (Builtin.Str.occurrences x y 0 x.length (x.length + 1)) y.length
      rw [z] at this
      cases this
section
variable {X : Cx}
theorem mt_split : MtR X "str.split" (fun x vs H Q => ∃ z y : Str, x = .str z ∧ vs = [.str y] ∧ (y.length == 0) = false ∧ z.length ≤ 100000 ∧ ∀ l, H l = none → Q (.ref l) (upd H l (.lst ((Txt.split z y).map V.str)))) := by
  intro pins s σ H x xs v us Q I rx rv h
  obtain ⟨z, y, rfl, rfl, hy, hz, q⟩ := h
  obtain ⟨t, rfl⟩ := rx
  obtain ⟨u, rfl, ru⟩ := vals1 rv
  obtain ⟨t2, rfl⟩ := ru
  have big : 100002 ≤ sizeLine := by decide
  refine split_raw hy (fun l k e => ?_) (by omega)
  refine ⟨.ref s.heap.objs.size, _, I.laid (t' := k) (o := .lst ((Txt.split z y).map V.str)) (fun b ob e => Heap.get?_push_of_some _ e) (Nat.le_refl _) ⟨?_, strValues l, 0, ?_, ?_⟩, rfl, q _ (I.hok.fresh (Nat.le_refl _))⟩
  · rw [List.length_map]
    have := split_len z y
    omega
  · rw [← e]
    exact vals_strs l
  · exact Heap.get?_push_size _ rfl
theorem mt_starts : MtR X "str.startswith" (fun x vs H Q => ∃ z y : Str, x = .str z ∧ vs = [.str y] ∧ Q (.bl (Txt.startswith z y)) H) := by
  intro pins s σ H x xs v us Q I rx rv h
  obtain ⟨z, y, rfl, rfl, q⟩ := h
  obtain ⟨t, rfl⟩ := rx
  obtain ⟨u, rfl, ru⟩ := vals1 rv
  obtain ⟨t2, rfl⟩ := ru
  exact SC.startswith ⟨.bl _, H, I, rfl, q⟩
theorem call_int_text : CallR X (.type "int") (fun xs H Q => ∃ (z : Str) (n : Int), xs = [.str z] ∧ PySem.intText? z = some n ∧ z.length ≤ 640 ∧ Q (.int n) H) := by
  intro pins s σ H xs us Q I r h
  obtain ⟨z, n, rfl, hn, hl, q⟩ := h
  obtain ⟨u, rfl, ru⟩ := vals1 r
  obtain ⟨t, rfl⟩ := ru
  exact PySem.W.KIN.call_text hn hl ⟨.int n, H, I.tok _, ⟨_, rfl⟩, q⟩
end
end L2
set_option Elab.async false
set_option linter.all false
set_option maxRecDepth 100000
set_option maxHeartbeats 1000000
namespace L2
open PySem PySem.Spec PyProof.Rows
def subS (z : Str) (a b : Nat) : Str := ⟨((z.cps.toList.drop a).take (b - a)).toArray⟩
def ClipLo (lo : Option Int) (n a : Nat) : Prop := (lo = none ∧ a = 0) ∨ ∃ k : Nat, lo = some (k : Int) ∧ a = min k n
def ClipHi (hi : Option Int) (n b : Nat) : Prop := (hi = none ∧ b = n) ∨ ∃ k : Nat, hi = some (k : Int) ∧ b = min k n
theorem clip_eq {lo hi : Option Int} {n a b : Nat} (h1 : ClipLo lo n a) (h2 : ClipHi hi n b) : Builtin.Str.strSliceIndices lo hi 1 n = Builtin.Str.strSliceIndices (some (a : Int)) (some (b : Int)) 1 n := by
  have an : a ≤ n := by rcases h1 with ⟨_, rfl⟩ | ⟨k, _, rfl⟩ <;> omega
  have bn : b ≤ n := by rcases h2 with ⟨_, rfl⟩ | ⟨k, _, rfl⟩ <;> omega
  have key : ∀ k : Nat, (max 0 (min (if ((k : Int)) < 0 then (k : Int) + (n : Int) else (k : Int)) (n : Int))) = ((min k n : Nat) : Int) := fun k => by rw [if_neg (by omega)]; omega
  have ka : min a n = a := by omega
  have kb : min b n = b := by omega
  unfold Builtin.Str.strSliceIndices
  rcases h1 with ⟨rfl, rfl⟩ | ⟨k, rfl, rfl⟩ <;> rcases h2 with ⟨rfl, rfl⟩ | ⟨k2, rfl, rfl⟩ <;> simp only [gt_iff_lt, Int.zero_lt_one, Int.one_pos, if_true, key] <;> congr 1 <;> omega
def rSlS : V → Option Int → Option Int → Hp → VK → Prop := fun x lo hi H Q => ∃ (z : Str) (a b : Nat), x = .str z ∧ ClipLo lo z.length a ∧ ClipHi hi z.length b ∧ a ≤ b ∧ z.length ≤ sizeLine ∧ Q (.str (subS z a b)) H
section
variable {X : Cx}
theorem sl_str : SlR X rSlS := by
  intro pins s σ H x v vl vu lo hi sl Q I rx hs pl pu h
  obtain ⟨z, a, b, rfl, h1, h2, hab, hz, q⟩ := h
  obtain ⟨t, rfl⟩ := rx
  have bn : b ≤ z.length := by rcases h2 with ⟨_, rfl⟩ | ⟨k, _, rfl⟩ <;> omega
  have fin : ∀ (l u : Option (Int × Tok)), l.map (·.1) = lo → u.map (·.1) = hi → (sliceMade z t l u none).post (EP X pins σ Q) s := fun l u el eu => by
    have e : slicePicked z l u none = Builtin.Str.strSliceIndices (some (a : Int)) (some (b : Int)) 1 z.length := by
      show Builtin.Str.strSliceIndices (l.map (·.1)) (u.map (·.1)) 1 z.length = _
      rw [el, eu]
      exact clip_eq h1 h2
    have e2 : (slicePicked z l u none).filterMap (z.cps[·]?) = (z.cps.toList.drop a).take (b - a) := by
      rw [e, StrLaws.sliced_plain z hab bn]
    have e3 : (slicePicked z l u none).length = b - a := by
      rw [e, StrLaws.strSliceIndices_plain hab bn]
      simp
    unfold sliceMade
    by_cases hl : b - a = z.length
    · rw [if_pos (by rw [e3]; simp [hl])]
      refine ⟨.str z, H, I, ⟨t, rfl⟩, ?_⟩
      have ea : a = 0 := by omega
      have eb : b = z.length := by omega
      have : subS z a b = z := by
        unfold subS
        rw [ea, eb, List.drop_zero, List.take_of_length_le (by simp [Str.length])]
      rw [this] at q
      exact q
    · rw [if_neg (by rw [e3]; simpa using hl), e2]
      refine ⟨?_, .str _, H, I.tok _, ⟨_, rfl⟩, q⟩
      show ((z.cps.toList.drop a).take (b - a)).toArray.size ≤ sizeLine
      have : z.cps.size ≤ sizeLine := hz
      simp
      omega
  have hsl : ∃ o, s.heap.get? sl = some o ∧ o.cls = .type "slice" ∧ o.data = .fields #[vl, vu, .none] := by obtain ⟨o, ho, hc, hd⟩ := hs; exact ⟨o, ho, hc, hd⟩
  cases pl with
  | none =>
    cases pu with
    | none => exact ⟨"str", _, F.slot_str_getitem.lookup, typeIs_str _ _ _, wpAny_getItem_str_slice (l := none) (u := none) (st := none) hsl rfl (fin none none rfl rfl)⟩
    | int i ti => exact ⟨"str", _, F.slot_str_getitem.lookup, typeIs_str _ _ _, wpAny_getItem_str_slice (l := none) (u := some (_, ti)) (st := none) hsl rfl (fin none (some (_, ti)) rfl rfl)⟩
  | int i ti =>
    cases pu with
    | none => exact ⟨"str", _, F.slot_str_getitem.lookup, typeIs_str _ _ _, wpAny_getItem_str_slice (l := some (_, ti)) (u := none) (st := none) hsl rfl (fin (some (_, ti)) none rfl rfl)⟩
    | int j tj => exact ⟨"str", _, F.slot_str_getitem.lookup, typeIs_str _ _ _, wpAny_getItem_str_slice (l := some (_, ti)) (u := some (_, tj)) (st := none) hsl rfl (fin (some (_, ti)) (some (_, tj)) rfl rfl)⟩
def Itx (x : Str) : It := ⟨fun i H => i < x.cps.size, fun i H v H' => H' = H ∧ ∃ c, x.cps[i]? = some c ∧ v = .str ⟨#[c]⟩, fun i H => i = x.cps.size⟩
theorem turn_ascii {P : Program} {w : World} {K : PySem.W.Frag} {tg : Expr} (x : Str) (t : Tok) (it : Addr) : Turn P w K tg (Itx x) [it] it (fun i h => h.IsStrIter it "str_ascii_iterator" x t i) where
  mem := by simp
  obj := fun i h st b hb => by
    have e : b = it := by simpa using hb
    subst e
    obtain ⟨o, e, c, d⟩ := st
    exact ⟨o, e, fun v z => by rw [d] at z; cases z⟩
  keep := fun i h h' st k => by
    obtain ⟨o, e, c, d⟩ := st
    exact ⟨o, k it (by simp) o e, c, d⟩
  item := by
    intro X hP hw hK hc i pins s σ H E I hf st hg
    subst hP hw hK
    obtain ⟨f0, f1, f2, f3, f4, f5⟩ := hf it (by simp)
    have hlt : i < x.cps.size := hg
    have hx : x.cps[i]? = some (x.cps[i]'hlt) := Array.getElem?_eq_getElem hlt
    refine wpAny_pyNext_ascii_item st hx fun h' st' sb => ?_
    have I1 : Inv X pins σ H { s with heap := h', toks := s.toks + 1 } := I.turned (t' := s.toks + 1) (fun b o hb e => (sb.2 b hb).trans e) f0 f1 f3 f4 f5
    obtain ⟨o, e, c, d⟩ := id st'
    exact ⟨_, rfl, go_of (s := { s with heap := h', toks := s.toks + 1 }) e c d (by decide) ⟨.str _, H, I1, ⟨_, rfl⟩, ⟨rfl, _, hx, rfl⟩, st', fun b hb => (hf b hb).1⟩⟩
  done := by
    intro X hP hw hK hc i pins s σ H E I hf st hg
    subst hP hw hK
    obtain ⟨f0, f1, f2, f3, f4, f5⟩ := hf it (by simp)
    exact wpAny_pyNext_ascii_end (I.ok.hd hc) st (by simp [show i = x.cps.size from hg]) fun h' eb => ⟨rfl, I.turned (t' := s.toks) (fun b o hb e => eb b o hb e) f0 f1 f3 f4 f5⟩
  self := fun _ _ _ _ _ st h => wpAny_pyIter_striter_ascii st h
theorem turn_wide {P : Program} {w : World} {K : PySem.W.Frag} {tg : Expr} (x : Str) (t : Tok) (it : Addr) : Turn P w K tg (Itx x) [it] it (fun i h => h.IsStrIter it "str_iterator" x t i) where
  mem := by simp
  obj := fun i h st b hb => by
    have e : b = it := by simpa using hb
    subst e
    obtain ⟨o, e, c, d⟩ := st
    exact ⟨o, e, fun v z => by rw [d] at z; cases z⟩
  keep := fun i h h' st k => by
    obtain ⟨o, e, c, d⟩ := st
    exact ⟨o, k it (by simp) o e, c, d⟩
  item := by
    intro X hP hw hK hc i pins s σ H E I hf st hg
    subst hP hw hK
    obtain ⟨f0, f1, f2, f3, f4, f5⟩ := hf it (by simp)
    have hlt : i < x.cps.size := hg
    have hx : x.cps[i]? = some (x.cps[i]'hlt) := Array.getElem?_eq_getElem hlt
    refine wpAny_pyNext_wide_item st hx fun h' st' sb => ?_
    have I1 : Inv X pins σ H { s with heap := h', toks := s.toks + 1 } := I.turned (t' := s.toks + 1) (fun b o hb e => (sb.2 b hb).trans e) f0 f1 f3 f4 f5
    obtain ⟨o, e, c, d⟩ := id st'
    exact ⟨_, rfl, go_of (s := { s with heap := h', toks := s.toks + 1 }) e c d (by decide) ⟨.str _, H, I1, ⟨_, rfl⟩, ⟨rfl, _, hx, rfl⟩, st', fun b hb => (hf b hb).1⟩⟩
  done := by
    intro X hP hw hK hc i pins s σ H E I hf st hg
    subst hP hw hK
    obtain ⟨f0, f1, f2, f3, f4, f5⟩ := hf it (by simp)
    exact wpAny_pyNext_wide_end (I.ok.hd hc) st (by simp [show i = x.cps.size from hg]) fun h' eb => ⟨rfl, I.turned (t' := s.toks) (fun b o hb e => eb b o hb e) f0 f1 f3 f4 f5⟩
  self := fun _ _ _ _ _ st h => wpAny_pyIter_striter_wide st h
def iStr (ta : TE) : TI := fun σ H R => ta σ H fun x H1 => ∃ z, x = .str z ∧ R (Itx z) H1
theorem pi_str {tg l : Expr} {tl : TE} (hl : PE X l tl) : PI X tg l (iStr tl) := by
  intro pins s σ H R I h
  refine thn (hl pins s σ H _ I h) fun v s1 ⟨x, H1, I1, r1, z, e, q⟩ => ?_
  subst e
  obtain ⟨t, rfl⟩ := r1
  have fo : ∀ b ∈ [s1.heap.objs.size], _ := fun b hb => by
    have e : b = s1.heap.objs.size := by simpa using hb
    subst e
    exact I1.fpOk (Nat.le_refl _) (I1.hok.fresh (Nat.le_refl _))
  cases ha : z.cps.all (· < 128)
  · refine wpAny_pyIter_wide ha ?_
    exact ⟨s1.heap.objs.size, [s1.heap.objs.size], _, _, H1, rfl, I1.kept (t' := s1.toks) fun b o e => Heap.get?_push_of_some _ e, turn_wide z t _, ⟨_, Heap.get?_push_size _ rfl, rfl, rfl⟩, fo, q⟩
  · refine wpAny_pyIter_ascii ha ?_
    exact ⟨s1.heap.objs.size, [s1.heap.objs.size], _, _, H1, rfl, I1.kept (t' := s1.toks) fun b o e => Heap.get?_push_of_some _ e, turn_ascii z t _, ⟨_, Heap.get?_push_size _ rfl, rfl, rfl⟩, fo, q⟩
end
theorem compX {k : Nat} {x : Str} {g : TG} {tt : TT} {te : TE} {Q : VK} {σ : St} {H : Hp} (Pv : Nat → List V → Hp → Prop) (h0 : Pv 0 [] H) (hb : x.cps.size ≤ 1000) (hz : ∀ i ys H, Pv i ys H → ys.length ≤ i)
    (hs : ∀ i c ys H (pre : St), pre.length = k → x.cps[i]? = some c → Pv i ys H → g (.str ⟨#[c]⟩) (pre ++ σ) H fun σ' H2 => (∃ pre' : St, σ' = pre' ++ σ ∧ pre'.length = k) ∧ tt σ' H2 fun ok H3 => if ok = true then te σ' H3 fun y H4 => Pv (i + 1) (ys ++ [y]) H4 else Pv (i + 1) ys H3) (hd : ∀ ys H, Pv x.cps.size ys H → ∀ D, H D = none → Q (.ref D) (upd H D (.lst ys))) : CGo k (Itx x) g tt te Q σ H := by
  refine ⟨fun i m ys H => m = x.cps.size - i ∧ i ≤ x.cps.size ∧ Pv i ys H, ⟨x.cps.size, by simp, Nat.zero_le _, h0⟩, ?_⟩
  rintro i m ys H ⟨rfl, hi, p⟩
  by_cases hlt : i < x.cps.size
  · refine .inr ⟨hlt, Nat.lt_of_le_of_lt (hz i ys H p) (small1000 (by omega)), Pv (i + 1), fun zs H' p' => ⟨x.cps.size - (i + 1), by omega, rfl, hlt, p'⟩, fun v H' pre hp y => ?_⟩
    obtain ⟨rfl, c, hc, rfl⟩ := y
    exact hs i c ys _ pre hp hc p
  · have e : i = x.cps.size := by omega
    subst e
    exact .inl ⟨rfl, hd ys H p⟩
end L2
set_option Elab.async false
set_option linter.all false
set_option maxRecDepth 100000
set_option maxHeartbeats 4000000
namespace L2
open PySem PySem.Spec PyProof.Rows
section
variable {X : Cx}
section
variable {prog : Program} {w : World} {A : Around} {R : Result → Shared → Prop} {s : Shared}
abbrev e2 (elt tg iter : Expr) (ifs : List Expr) (tg2 iter2 : Expr) (ifs2 : List Expr) (scope : Scope) (pos : PySem.Pos) : Expr := .ListComp elt [⟨tg, iter, ifs, 0⟩, ⟨tg2, iter2, ifs2, 0⟩] scope pos
theorem turn_two0 (elt tg iter : Expr) (ifs : List Expr) (tg2 iter2 : Expr) (ifs2 : List Expr) (scope : Scope) (pos : PySem.Pos) (it acc : Value) (env : Env) : compTurn (e2 elt tg iter ifs tg2 iter2 ifs2 scope pos) 0 it acc env = (do
    standAt iter.pos
    match ← pyNext it with
    | none => pure (.done .next)
    | some v =>
      letOwnedTupleGo tg it v
      assign tg env v
      let mut ok := true
      for c in ifs do
        if ok then ok ← isTrue c env (eval c env)
      if ok then
        let x ← eval iter2 env
        standAt iter2.pos
        let x ← foldedSetIterable iter2 env x
        let _ ← runOwn (.compStart (e2 elt tg iter ifs tg2 iter2 ifs2 scope pos) 1 (← holding [x] (pyIter x)) acc env) env
      again (.compLoop (e2 elt tg iter ifs tg2 iter2 ifs2 scope pos) 0 it acc env)) := rfl
theorem turn_two1 (elt tg iter : Expr) (ifs : List Expr) (tg2 iter2 : Expr) (ifs2 : List Expr) (scope : Scope) (pos : PySem.Pos) (it acc : Value) (env : Env) : compTurn (e2 elt tg iter ifs tg2 iter2 ifs2 scope pos) 1 it acc env = (do
    standAt iter2.pos
    match ← pyNext it with
    | none => pure (.done .next)
    | some v =>
      letOwnedTupleGo tg2 it v
      assign tg2 env v
      let mut ok := true
      for c in ifs2 do
        if ok then ok ← isTrue c env (eval c env)
      if ok then (eval elt env >>= fun x => call (.builtin "list.append") [acc, x] >>= fun _ => pure () : Sem Unit)
      again (.compLoop (e2 elt tg iter ifs tg2 iter2 ifs2 scope pos) 1 it acc env)) := rfl
theorem loop_two1 {elt tg iter tg2 iter2 : Expr} {ifs ifs2 : List Expr} {scope : Scope} {pos : PySem.Pos} {it acc : Value} {env : Env} {EE : Value → Shared → Prop} (hE : EE = notedBy (model prog w) A env fun e s' => R (.error e) s') (I : Nat → Shared → Prop)
    (turn : ∀ n s, I n s → wpAny (model prog w) A (pyNext it) (fun r z1 => match r with
      | none => R (.ok .next) z1
      | some v => wpAny (model prog w) A (letOwnedTupleGo tg2 it v) (fun _ y1 => wpAny (model prog w) A (assign tg2 env v) (fun _ z2 =>
          wpAny (model prog w) A (forIn ifs2 true fun c r => if r = true then do let ok ← isTrue c env (eval c env); pure (ForInStep.yield ok) else pure (ForInStep.yield r)) (fun ok z3 =>
            if ok = true then wpAny (model prog w) A (eval elt env) (fun x z4 => wpAny (model prog w) A (call (.builtin "list.append") [acc, x]) (fun _ z5 => ∃ m, m < n ∧ I m z5) EE z4) EE z3 else ∃ m, m < n ∧ I m z3) EE z2) EE y1) EE z1) EE s)
    (n : Nat) (h : I n s) : codeAny (model prog w) A (.compLoop (e2 elt tg iter ifs tg2 iter2 ifs2 scope pos) 1 it acc env) R s := by
  subst hE
  refine codeAny_loop rfl I (fun n s hI => ?_) n h
  show wpAny _ A ((compTurn (e2 elt tg iter ifs tg2 iter2 ifs2 scope pos) 1 it acc env).onRaise (fun x => do noteFrame x env; theTreesLotGoes x)) _ _ s
  refine wpAny_noted ?_
  rw [turn_two1]
  refine wpAny_bind (wpAny_standAt (wpAny_bind (wpAny_mono (turn n s hI) (fun r z1 q1 => ?_) fun _ _ z => z)))
  cases r with
  | none => exact wpAny_pure q1
  | some v =>
    refine wpAny_bind (wpAny_mono q1 (fun _ y1 q1 => ?_) fun _ _ z => z)
    refine wpAny_bind (wpAny_mono q1 (fun _ z2 q2 => wpAny_bind (wpAny_mono q2 (fun ok z3 q3 => ?_) fun _ _ z => z)) fun _ _ z => z)
    cases ok with
    | false => exact wpAny_pure ⟨rfl, q3⟩
    | true => exact wpAny_bind (wpAny_bind (wpAny_mono q3 (fun x z4 q4 => wpAny_bind (wpAny_mono q4 (fun _ z5 q5 => wpAny_pure (wpAny_pure ⟨rfl, q5⟩)) fun _ _ z => z)) fun _ _ z => z))
theorem loop_two0 {elt tg iter tg2 iter2 : Expr} {ifs ifs2 : List Expr} {scope : Scope} {pos : PySem.Pos} {it acc : Value} {env : Env} (hs2 : ∀ x, foldedSetIterable iter2 env x = pure x) (I : Nat → Shared → Prop)
    (turn : ∀ n s, I n s → wpAny (model prog w) A (pyNext it) (fun r z1 => match r with
      | none => R (.ok .next) z1
      | some v => wpAny (model prog w) A (letOwnedTupleGo tg it v) (fun _ y1 => wpAny (model prog w) A (assign tg env v) (fun _ z2 =>
          wpAny (model prog w) A (forIn ifs true fun c r => if r = true then do let ok ← isTrue c env (eval c env); pure (ForInStep.yield ok) else pure (ForInStep.yield r)) (fun ok z3 =>
            if ok = true then wpAny (model prog w) A (eval iter2 env) (fun x z4 => wpAny (model prog w) A (pyIter x) (fun i2 z5 => codeAny (model prog w) A (.compStart (e2 elt tg iter ifs tg2 iter2 ifs2 scope pos) 1 i2 acc env) (fun r s' => match r with | .ok _ => ∃ m, m < n ∧ I m s' | .error _ => False) z5) (fun _ _ => False) z4) (fun _ _ => False) z3 else ∃ m, m < n ∧ I m z3) (fun _ _ => False) z2) (fun _ _ => False) y1) (fun _ _ => False) z1) (fun _ _ => False) s)
    (n : Nat) (h : I n s) : codeAny (model prog w) A (.compLoop (e2 elt tg iter ifs tg2 iter2 ifs2 scope pos) 0 it acc env) R s := by
  refine codeAny_loop rfl I (fun n s hI => ?_) n h
  show wpAny _ A ((compTurn (e2 elt tg iter ifs tg2 iter2 ifs2 scope pos) 0 it acc env).onRaise (fun x => do noteFrame x env; theTreesLotGoes x)) _ _ s
  refine wpAny_noted ?_
  rw [turn_two0]
  refine wpAny_bind (wpAny_standAt (wpAny_bind (wpAny_mono (turn n s hI) (fun r z1 q1 => ?_) fun _ _ z => z.elim)))
  cases r with
  | none => exact wpAny_pure q1
  | some v =>
    refine wpAny_bind (wpAny_mono q1 (fun _ y1 q1 => ?_) fun _ _ z => z.elim)
    refine wpAny_bind (wpAny_mono q1 (fun _ z2 q2 => wpAny_bind (wpAny_mono q2 (fun ok z3 q3 => ?_) fun _ _ z => z.elim)) fun _ _ z => z.elim)
    cases ok with
    | false => exact wpAny_pure ⟨rfl, q3⟩
    | true =>
      refine wpAny_bind (wpAny_mono q3 (fun x z4 q4 => wpAny_bind (wpAny_standAt (wpAny_bind (wpAny_of_eq (hs2 x) (wpAny_bind (wpAny_holding (wpAny_mono q4 (fun i2 z5 q5 => ?_) fun _ _ z => z.elim))))))) fun _ _ z => z.elim)
      refine wpAny_bind (wpAny_runOwn (codeAny_mono q5 fun r s' q => ?_))
      cases r with
      | ok f => exact wpAny_pure ⟨rfl, q⟩
      | error e => exact q.elim
theorem start_two1 {elt tg iter tg2 iter2 : Expr} {ifs ifs2 : List Expr} {scope : Scope} {pos : PySem.Pos} {it acc : Value} {env : Env}
    (h0 : codeAny (model prog w) A (.compLoop (e2 elt tg iter ifs tg2 iter2 ifs2 scope pos) 1 it acc env) R s)
    (h : wpAny (model prog w) A (pyIter it) (fun it' s' => codeAny (model prog w) A (.compLoop (e2 elt tg iter ifs tg2 iter2 ifs2 scope pos) 1 it' acc env) R s') (fun _ _ => False) s) :
    codeAny (model prog w) A (.compStart (e2 elt tg iter ifs tg2 iter2 ifs2 scope pos) 1 it acc env) R s := by
  refine codeAny_of_tree ?_
  show wpAny _ _ ((compStart (e2 elt tg iter ifs tg2 iter2 ifs2 scope pos) 1 it acc env).onRaise (fun x => do noteFrame x env; standAt theWindowsPlace)) _ _ s
  refine wpAny_notedAt ?_
  unfold compStart
  show wpAny _ _ (ask >>= _) _ _ s
  refine wpAny_bind (wpAny_askSetting (wpAny_ite ?_))
  split
  · exact wpAny_pure ⟨rfl, h0⟩
  · refine wpAny_bind (wpAny_rule ?_)
    show wpAny _ _ (standAt iter2.pos >>= _) _ _ s
    exact wpAny_bind (wpAny_standAt (wpAny_bind (wpAny_mono h (fun it' s' q => wpAny_pure ⟨rfl, q⟩) fun _ _ z => z.elim)))
end
def CGi (k : Nat) (J : It) (g : TG) (tt : TT) (te : TE) (N : List V → Hp → Prop) (σ : St) (ys : List V) (σ1 : St) (H1 : Hp) : Prop := ∃ W : Nat → Nat → List V → St → Hp → Prop, (∃ m, W 0 m ys σ1 H1) ∧ ∀ j m zs σ' H, W j m zs σ' H →
  (J.stop j H ∧ N zs H) ∨ (J.go j H ∧ zs.length < sizeLine ∧ ∃ N2 : List V → St → Hp → Prop, (∀ ws σ2 H', N2 ws σ2 H' → ∃ m', m' < m ∧ W (j + 1) m' ws σ2 H') ∧ ∀ v H', J.yld j H v H' → g v σ' H' fun σ2 H2 => (∃ pre' : St, σ2 = pre' ++ σ ∧ pre'.length = k) ∧ tt σ2 H2 fun ok H3 => if ok = true then te σ2 H3 fun y H4 => N2 (zs ++ [y]) σ2 H4 else N2 zs σ2 H3)
def CGo2 (k : Nat) (J : It) (g : TG) (tt : TT) (wi2 : TI) (g2 : TG) (tt2 : TT) (te : TE) (Q : VK) (σ : St) (H1 : Hp) : Prop := ∃ W : Nat → Nat → List V → Hp → Prop, (∃ m, W 0 m [] H1) ∧ ∀ i m ys H, W i m ys H →
  (J.stop i H ∧ ∀ D, H D = none → Q (.ref D) (upd H D (.lst ys))) ∨ (J.go i H ∧ ∃ N : List V → Hp → Prop, (∀ zs H', N zs H' → ∃ m', m' < m ∧ W (i + 1) m' zs H') ∧ ∀ v H' (pre : St), pre.length = k → J.yld i H v H' → g v (pre ++ σ) H' fun σ' H2 => (∃ pre' : St, σ' = pre' ++ σ ∧ pre'.length = k) ∧ tt σ' H2 fun ok H3 => if ok = true then wi2 σ' H3 fun J2 H4 => CGi k J2 g2 tt2 te N σ ys σ' H4 else N ys H3)
def tComp2 (k : Nat) (wi : TI) (g : TG) (tt : TT) (wi2 : TI) (g2 : TG) (tt2 : TT) (te : TE) : TE := fun σ H Q => wi σ H fun J H1 => CGo2 k J g tt wi2 g2 tt2 te Q σ H1
theorem comp_core2 {elt iter tg iter2 tg2 : Expr} {xs Nb : List Str} {ifs ifs2 : List Expr} {scope : Scope} {pos : PySem.Pos} {wi wi2 : TI} {g g2 : TG} {tt tt2 : TT} {te : TE}
    (hc : X.calm = true) (hi : PI X tg iter wi) (hlen : Nb.length = X.N.length) (hNb : ∀ p ∈ Nb.zip X.N, p.1 = p.2 ∨ scope.names.lookup p.1 = none) (hxN : ∀ y ∈ Nb, scope.names.lookup y ≠ some .local)
    (hg : InB X xs Nb scope fun Y => PG Y tg g) (ht : InB X xs Nb scope fun Y => PIf Y ifs tt) (hi2 : InB X xs Nb scope fun Y => PI Y tg2 iter2 wi2) (hg2 : InB X xs Nb scope fun Y => PG Y tg2 g2) (ht2 : InB X xs Nb scope fun Y => PIf Y ifs2 tt2) (hs2 : ∀ env x, foldedSetIterable iter2 env x = pure x) (he : InB X xs Nb scope fun Y => PE Y elt te)
    (hcell : ∀ y ∈ scope.names, y.2 ≠ .cell) (hkind : scope.kind = .function) (hnames : ∀ y ∈ scope.names, y.2 = .local → scope.names.lookup y.1 = some .local)
    (hfree : ∀ y ∈ scope.names, y.2 = .free → X.env.kindOf y.1 = some .cell)
    (hs : ∀ x, foldedSetIterable iter X.env x = pure x) {pos2 : PySem.Pos} {use : Option (Value → Sem Unit)} {QQ : Value → Shared → Prop} {pins : List (Addr × Obj)} {s : Shared} {σ : St} {H : Hp} {Q : VK} (I : Inv X pins σ H s) (h : tComp2 xs.length wi g tt wi2 g2 tt2 te σ H Q)
    (post : ∀ (s2 s4 : Shared) (H2 H4 : Hp) (C D : Addr) (m4 : Str → Option Value), Inv X pins σ H2 s2 → s2.heap.objs.size ≤ C → s4.heap.Ns C m4 → H4 C = none → (∀ h', Heap.SameBut C s4.heap h' → Inv X pins σ H4 { s4 with heap := h' }) → Q (.ref D) H4 → compPost (model X.prog X.w) X.A X.xe use QQ (.ref D) C (.ok .next) s4) :
    wpAny (model X.prog X.w) X.A (comprehension (.ListComp elt [⟨tg, iter, ifs, 0⟩, ⟨tg2, iter2, ifs2, 0⟩] scope pos) scope X.env pos2 (newList []) false (eval iter X.env) use) QQ X.xe s := by
  obtain ⟨cl, hcl, cl1, cl2⟩ := clos_ok (scope := scope) (env := X.env) (fun y hy hf => I.ok.has y.1 (.inl (hfree y hy hf)))
  refine wpAny_comprehension_free rfl hs hcl hkind hnames (thn (hi pins s σ H _ I h) fun v s1 h1 => thn h1 fun itv s2 h2 => ?_)
  obtain ⟨it, fp, tn, J, H2, e, I2, T, st2, f2, W, ⟨m0, w0⟩, turn⟩ := h2
  subst e
  refine wpAny_newObj_type (wpAny_newFunctionEnv hcell (by intro y hy; simp at hy) (fun h₁ hns₁ hsb₁ => ?_) hkind)
  dsimp only at hns₁ hsb₁ ⊢
  generalize hHp : s2.heap.push { cls := .type "list", dict := none, data := .seq ([] : List Value).toArray } = Hp2 at hns₁ hsb₁ ⊢
  have hC : Hp2.objs.size = s2.heap.objs.size + 1 := by rw [← hHp, Heap.size_push]
  have hDC : s2.heap.objs.size ≠ Hp2.objs.size := by rw [hC]; exact Nat.ne_of_lt (Nat.lt_succ_self _)
  have below : ∀ b, b < s2.heap.objs.size → b ≠ Hp2.objs.size ∧ b ≠ s2.heap.objs.size := fun b hb => ⟨by rw [hC]; exact Nat.ne_of_lt (Nat.lt_succ_of_lt hb), Nat.ne_of_lt hb⟩
  have old : ∀ b o, s2.heap.get? b = some o → h₁.get? b = some o := fun b o e => hsb₁.extBut b o (below b (Heap.lt_size e)).1 (Heap.get?_push_of_some _ (hHp ▸ Heap.get?_push_of_some _ e))
  have hacc : h₁.PlainList s2.heap.objs.size #[] := ⟨_, hsb₁.extBut _ _ hDC (Heap.get?_push_of_some _ (hHp ▸ Heap.get?_push_size _ rfl))⟩
  generalize hY : cxC X xs Nb scope cl Hp2.objs.size s2 H2 fp = Y
  have Yprog : Y.prog = X.prog := by rw [← hY]; rfl
  have fpLt : ∀ b ∈ fp, b < s2.heap.objs.size := fun b hb => by
    obtain ⟨o, e, _⟩ := T.obj _ _ st2 b hb
    exact Heap.lt_size e
  have cellLt : ∀ y c, cl.lookup y = some c → c < s2.heap.objs.size := fun y c hc => by
    obtain ⟨v, q⟩ := I2.cell y c (cl1 y c hc)
    exact q.lt
  have frSub : ∀ b ∈ frs X.stack, b < s2.heap.objs.size := fun b hb => by
    rcases List.mem_cons.mp (I2.stkSub b hb) with z | z
    · rw [z]; exact I2.lt
    · by_cases hlt : b < s2.heap.objs.size
      · exact hlt
      · exact absurd z (I2.nofs (Nat.le_of_not_lt hlt))
  have ok : (cxC X xs Nb scope cl Hp2.objs.size s2 H2 fp).Ok := by
    refine ⟨I2.ok.mod, hkind, I2.ok.glob, I2.ok.blt, (by show s2.heap.objs.size ≤ Hp2.objs.size; omega), fun y z c h1 h2 => I2.ok.inj y z c (cl1 y c h1) (cl1 z c h2), fun y hy => ?_, fun y c hf _ => absurd hf (by intro z; cases z), I2.ok.hd, I2.ok.frames, .inl rfl, fun b hb => ⟨?_, fun y c h1 h2 => ?_⟩, I2.bs, Nat.le_trans I2.ok.bsz I2.sz, fun b o e hb => ?_, fun b hb hm => ?_, I2.stack, I2.stkFree⟩
    · have hy : (scope.names.map fun (n, k) => if (k == NameKind.free && X.env.scope.kind == .function && X.env.kindOf n == some .cell) then (n, NameKind.cell) else (n, k)).lookup y = some .cell ∨ (scope.names.map fun (n, k) => if (k == NameKind.free && X.env.scope.kind == .function && X.env.kindOf n == some .cell) then (n, NameKind.cell) else (n, k)).lookup y = some .free := hy
      have q : scope.names.lookup y = some .free := by
        rcases hy with z | z
        · exact (relabel_kind hcell z (.inl rfl)).1
        · exact (relabel_kind hcell z (.inr rfl)).1
      exact Option.isSome_iff_exists.mp (cl2 y (PySem.mem_of_lookup q))
    · exact (below b (fpLt b hb)).1
    · exact (f2 b hb).2.2.2.2.1 y c (cl1 y c h1) h2
    · rcases (f2 b hb).2.2.2.1 with z | z
      · exact I2.ok.noex b o e z
      · exact absurd (Nat.lt_of_lt_of_le (Heap.lt_size e) (Nat.le_trans I2.ok.bsz z)) (Nat.lt_irrefl _)
    · rcases List.mem_cons.mp (I2.stkSub b hm) with z | z
      · exact (f2 b hb).2.1 z
      · exact (f2 b hb).2.2.1 z
  have fpY : ∀ {H' : Hp} {pl : List (Addr × Obj)}, (∀ b ∈ fp, H' b = none) → (∀ p ∈ pl, p.1 = s2.heap.objs.size) → ∀ b ∈ fp, FpOk Y pl H' b := fun {H' pl} hn hp b hb => by
    rw [← hY]
    refine ⟨hn b hb, (below b (fpLt b hb)).1, fun hm => ?_, .inl hb, fun y c h1 h2 => (f2 b hb).2.2.2.2.1 y c (cl1 y c h1) h2, fun p hm z => ?_⟩
    · rcases List.mem_cons.mp (I2.stkSub b hm) with z | z
      · exact (f2 b hb).2.1 z
      · exact (f2 b hb).2.2.1 z
    · have hm : p ∈ pl := hm
      rw [hp p hm] at z
      exact (below b (fpLt b hb)).2 z.symm
  have HD : H2 s2.heap.objs.size = none := I2.hok.fresh (Nat.le_refl _)
  have HC : H2 Hp2.objs.size = none := I2.hok.fresh (by omega)
  obtain ⟨m2, hns2, hloc2⟩ := I2.loc
  have IY : ∀ tk, Inv (cxC X xs Nb scope cl Hp2.objs.size s2 H2 fp) [] (List.replicate xs.length none ++ σ) H2 { s2 with heap := h₁, toks := tk } := fun tk => by
    refine ⟨ok, rfl, I2.bare, Un.kept old, ⟨_, hns₁, fun i y v h1 h2 h3 => ?_⟩, fun y c h1 => ?_, HC, fun y c h1 => I2.freeC y c (cl1 y c h1), fun p hp => absurd (show p ∈ ([] : List (Addr × Obj)) from hp) (by simp), I2.hok.kept old, (by show (List.replicate xs.length (none : Option V) ++ σ).length = (xs ++ Nb).length; rw [List.length_append, List.length_append, List.length_replicate, hlen, I2.len])⟩
    · have h1 : (xs ++ Nb)[i]? = some y := h1
      by_cases hik : i < xs.length
      · rw [List.getElem?_append_left (by rw [List.length_replicate]; exact hik), List.getElem?_replicate, if_pos hik] at h2
        cases h2
      · rw [List.getElem?_append_right (by omega)] at h1
        rw [List.getElem?_append_right (by rw [List.length_replicate]; omega), List.length_replicate] at h2
        generalize i - xs.length = i at h1 h2
        have h3 : Vis (relabel scope X.env) y := h3
        have key : ∀ k, (k = NameKind.cell ∨ k = NameKind.free) → (relabel scope X.env).names.lookup y = some k → ∃ u, RelV v u ∧ Look (compEnvC scope cl Hp2.objs.size X.env) h₁ (fun x => ([] : List (Str × Value)).reverse.lookup x) y u := fun k hk hl => by
          obtain ⟨q1, _⟩ := relabel_kind hcell hl hk
          have q2 := hfree (y, .free) (PySem.mem_of_lookup q1) rfl
          have h1' : X.N[i]? = some y := by
            have hi' : i < X.N.length := by rw [← hlen]; exact (List.getElem?_eq_some_iff.mp h1).1
            have hz : (Nb.zip X.N)[i]? = some (y, X.N[i]) := by rw [List.getElem?_zip_eq_some]; exact ⟨h1, List.getElem?_eq_getElem hi'⟩
            rcases hNb _ (List.mem_of_getElem? hz) with z | z
            · have z : y = X.N[i] := z
              rw [z]; exact List.getElem?_eq_getElem hi'
            · have z : scope.names.lookup y = none := z
              rw [q1] at z; cases z
          obtain ⟨u, r, l⟩ := hloc2 i y v h1' h2 (.inr (.inl q2))
          refine ⟨u, r, .inr ⟨?_, ?_⟩⟩
          · rcases hk with rfl | rfl
            · exact .inl hl
            · exact .inr hl
          · rcases l with ⟨k1, _⟩ | ⟨_, c, e1, z⟩
            · rw [q2] at k1; cases k1
            · obtain ⟨c', e2⟩ := Option.isSome_iff_exists.mp (cl2 y (PySem.mem_of_lookup q1))
              have e3 := cl1 y c' e2
              rw [e1] at e3
              cases e3
              obtain ⟨o, ho, hd⟩ := z
              exact ⟨c, e2, o, old c o ho, hd⟩
        rcases h3 with h3 | h3 | h3
        ·
          exfalso
          exact hxN y (List.mem_of_getElem? h1) (relabel_local h3)
        · exact key _ (.inl rfl) h3
        · exact key _ (.inr rfl) h3
    · obtain ⟨v, o, ho, hd⟩ := I2.cell y c (cl1 y c h1)
      exact ⟨v, o, old c o ho, hd⟩
  have noErr : ∀ {α : Type} {m : Sem α} {G : α → Shared → Prop} {E' : Value → Shared → Prop} {s' : Shared}, wpAny (model X.prog X.w) X.A m G (fun _ _ => False) s' → wpAny (model X.prog X.w) X.A m G E' s' := fun h => wpAny_mono h (fun _ _ q => q) fun _ _ q => q.elim
  have loop : ∀ (tk : Nat) (R : Result → Shared → Prop), R = compPost (model X.prog X.w) X.A X.xe use QQ (.ref s2.heap.objs.size) Hp2.objs.size →
      codeAny (model X.prog X.w) X.A (.compLoop (.ListComp elt [⟨tg, iter, ifs, 0⟩, ⟨tg2, iter2, ifs2, 0⟩] scope pos) 0 (.ref it) (.ref s2.heap.objs.size) (compEnvC scope cl Hp2.objs.size X.env)) R { s2 with heap := h₁, toks := tk } := by
    rintro tk R rfl
    refine loop_two0 (fun x => hs2 _ x) (fun n s' => ∃ i σv H' ys its, σv.length = xs.length ∧ Inv Y [] (σv ++ σ) H' s' ∧ tn i s'.heap ∧ (∀ b ∈ fp, H' b = none) ∧ Vals ys its ∧ ys.length ≤ sizeLine ∧ s'.heap.PlainList s2.heap.objs.size its.toArray ∧ H' s2.heap.objs.size = none ∧ W i n ys H') ?_ m0
      ⟨0, List.replicate xs.length none, H2, [], [], List.length_replicate, hY ▸ IY tk, T.keep _ _ _ st2 fun b _ o e => old b o e, fun b hb => (f2 b hb).1, .nil, Nat.zero_le _, hacc, HD, w0⟩
    rintro n s3 ⟨i, σv, H3, ys, its, lv, I3, st3, fr3, rv, hz, ⟨nn, pl3⟩, HD3, w3⟩
    have I3p : Inv Y [(s2.heap.objs.size, { cls := .type "list", data := .seq its.toArray nn })] (σv ++ σ) H3 s3 := I3.pins_of fun p hp => by
      rw [List.mem_singleton] at hp
      subst hp
      refine ⟨pl3, HD3, ?_, fun hm => ?_, fun v z => by cases z⟩
      · rw [← hY]; exact hDC
      · rw [← hY] at hm
        exact absurd (frSub _ hm) (Nat.lt_irrefl _)
    have pinD : ∀ p ∈ [((s2.heap.objs.size : Addr), ({ cls := .type "list", data := .seq its.toArray nn } : Obj))], p.1 = s2.heap.objs.size := fun p hp => by
      rw [List.mem_singleton] at hp
      rw [hp]
    subst hY
    rcases turn i n ys H3 w3 with ⟨stop, qn⟩ | ⟨go, NN, hNN, step⟩
    · refine noErr (thn (T.done (cxC X xs Nb scope cl Hp2.objs.size s2 H2 fp) rfl rfl rfl hc i _ s3 _ H3 (fun _ _ => False) I3p (fpY fr3 pinD) st3 stop) fun r s4 ⟨hr, I4⟩ => ?_)
      subst hr
      obtain ⟨m4, hns4, _⟩ := I4.loc
      refine post s2 s4 H2 (upd H3 s2.heap.objs.size (.lst ys)) Hp2.objs.size s2.heap.objs.size m4 I2 (by omega) hns4 (by rw [upd_ne (Ne.symm hDC)]; exact I4.free) (fun h' sb => ?_) (qn _ HD3)
      have pl4 := (I4.pin _ (List.mem_append_right _ List.mem_cons_self)).1
      have up : ∀ b o, b ≠ Hp2.objs.size → s4.heap.get? b = some o → h'.get? b = some o := fun b o hb e => sb.extBut b o hb e
      have base := I4.base
      have HC4 : H3 Hp2.objs.size = none := I4.free
      have neC : ∀ b o, s2.heap.get? b = some o → b ≠ Hp2.objs.size := fun b o e => (below b (Heap.lt_size e)).1
      have neD : ∀ b o, s2.heap.get? b = some o → b ≠ s2.heap.objs.size := fun b o e => (below b (Heap.lt_size e)).2
      have hokN : HOk X.prog X.w (upd H3 s2.heap.objs.size (.lst ys)) h' := fun b u e => by
        by_cases hb : b = s2.heap.objs.size
        · subst hb
          rw [upd_same] at e
          cases e
          exact ⟨hz, its, nn, rv, up _ _ hDC pl4⟩
        · rw [upd_ne hb] at e
          refine (I4.hok b u e).stay (fun c v hc q => up c v ?_ q) (fun c q => by rw [upd_ne (ne_of_none q HD3)]; exact q) fun c xs q => by rw [upd_ne (ne_of_none q HD3)]; exact q
          rcases hc with z | z
          · rw [z]; exact ne_of_none e HC4
          · exact ne_of_none z HC4
      refine I2.call' (s' := { s4 with heap := h' }) (ch := fp) I4.os ⟨fun b o e n hb hx' => up b o (neC b o e) (base.keep b o e n hb hx'), fun b o e n hb hx' => ?_, fun b o e n hx' => ?_, fun b o e hx' => ?_, fun b xs e => ?_, fun b o u e => ?_, fun b ps e => ?_⟩ hokN I4.bare (fun b hb => ?_)
      · obtain ⟨sl, q⟩ := base.slot b o e n hb hx'
        exact ⟨sl, up b _ (neC b o e) q⟩
      · rw [upd_ne (neD b o e)]
        exact base.free b o e n hx'
      · obtain ⟨o', q⟩ := base.there b o e hx'
        exact ⟨o', up b o' (neC b o e) q⟩
      · have q := base.tups b xs e
        rw [upd_ne (ne_of_none q HD3)]; exact q
      · have q := base.frzs b o u e
        rw [upd_ne (ne_of_none q HD3)]; exact q
      · obtain ⟨more, q⟩ := base.tbls b ps e
        exact ⟨more, by rw [upd_ne (ne_of_none q HD3)]; exact q⟩
      · obtain ⟨_, g1, _, g3, g4, g5⟩ := f2 b hb
        exact ⟨g3, g1, g4, g5⟩
    · refine noErr (thn (T.item (cxC X xs Nb scope cl Hp2.objs.size s2 H2 fp) rfl rfl rfl hc i _ s3 _ H3 (fun _ _ => False) I3p (fpY fr3 pinD) st3 go) fun r s4 ⟨u, hr, h4⟩ => ?_)
      subst hr
      refine noErr (thn h4 fun _ s5 ⟨v, H5, I5, r5, y5, st5, fr5⟩ => ?_)
      have I5' := I5.pinned (fpY fr5 pinD) (T.obj _ _ st5)
      have stp := step v H5 σv lv y5
      refine noErr (thn (hg cl Hp2.objs.size s2 H2 fp _ s5 _ H5 v u _ I5' r5 stp) fun _ s6 ⟨σ6, H6, I6, ⟨pre', e6, l6⟩, stp⟩ => ?_)
      subst e6
      generalize hpo : pinsAt fp s5.heap = po at I5' I6
      have poA : ∀ p ∈ po, p.1 ∈ fp := fun p hp => by rw [← hpo] at hp; exact (of_pinsAt hp).1
      have poD : ∀ p ∈ po, p.1 ≠ s2.heap.objs.size := fun p hp => (below _ (fpLt _ (poA p hp))).2
      have again : ∀ {s7 : Shared} {H7 : Hp} {pre7 : St} {zs : List V} {ws : List Value} {m' : Nat}, pre7.length = xs.length → Inv (cxC X xs Nb scope cl Hp2.objs.size s2 H2 fp) po (pre7 ++ σ) H7 s7 → s7.heap.PlainList s2.heap.objs.size ws.toArray → H7 s2.heap.objs.size = none → Vals zs ws → zs.length ≤ sizeLine → m' < n → W (i + 1) m' zs H7 →
          ∃ m, m < n ∧ ∃ i σv H' ys its, σv.length = xs.length ∧ Inv (cxC X xs Nb scope cl Hp2.objs.size s2 H2 fp) [] (σv ++ σ) H' s7 ∧ tn i s7.heap ∧ (∀ b ∈ fp, H' b = none) ∧ Vals ys its ∧ ys.length ≤ sizeLine ∧ s7.heap.PlainList s2.heap.objs.size its.toArray ∧ H' s2.heap.objs.size = none ∧ W i m ys H' := by
        intro s7 H7 pre7 zs ws m' l7 I7 plw HD7 rz hzz hm w7
        have fr7 : ∀ b ∈ fp, H7 b = none := fun b hb => by
          obtain ⟨o, e, d⟩ := T.obj _ _ st5 b hb
          exact (I7.pin (b, o) (List.mem_append_right _ (by rw [← hpo]; exact mem_pinsAt hb e))).2.1
        refine ⟨m', hm, i + 1, pre7, H7, zs, ws, l7, I7.pins_of fun p hp => absurd hp (by simp), ?_, fr7, rz, hzz, plw, HD7, w7⟩
        refine T.keep _ _ _ st5 fun b hb o e => ?_
        exact (I7.pin (b, o) (List.mem_append_right _ (by rw [← hpo]; exact mem_pinsAt hb e))).1
      refine noErr (thn (ht cl Hp2.objs.size s2 H2 fp _ s6 _ H6 _ I6 stp) fun okb s7 ⟨H7, I7, q7⟩ => ?_)
      have pl7 := (I7.pin _ (List.mem_append_right _ (List.mem_append_left _ List.mem_cons_self)))
      have I7o : Inv (cxC X xs Nb scope cl Hp2.objs.size s2 H2 fp) po (pre' ++ σ) H7 s7 := I7.pins_of fun p hp => I7.pin p (List.mem_append_right _ (List.mem_append_right _ hp))
      cases okb with
      | false =>
        rw [if_neg Bool.false_ne_true] at q7 ⊢
        obtain ⟨m', hm, w7⟩ := hNN _ _ q7
        exact again l6 I7o ⟨nn, pl7.1⟩ pl7.2.1 rv hz hm w7
      | true =>
        rw [if_pos rfl] at q7 ⊢
        refine noErr (thn (hi2 cl Hp2.objs.size s2 H2 fp _ s7 _ H7 _ I7 q7) fun x s8 h8 => noErr (thn h8 fun itv s9 h9 => ?_))
        obtain ⟨it2, fp2, tn2, J2, H9, e9, I9, T2, st9, f9, W2, ⟨m2, w2⟩, turn2⟩ := h9
        subst e9
        have pl9 := (I9.pin _ (List.mem_append_right _ (List.mem_append_left _ List.mem_cons_self)))
        have I9o : Inv (cxC X xs Nb scope cl Hp2.objs.size s2 H2 fp) po (pre' ++ σ) H9 s9 := I9.pins_of fun p hp => I9.pin p (List.mem_append_right _ (List.mem_append_right _ hp))
        have fp2D : ∀ b ∈ fp2, b ≠ s2.heap.objs.size := fun b hb z => (f9 b hb).2.2.2.2.2 _ (List.mem_append_right _ (List.mem_append_left _ List.mem_cons_self)) z.symm
        have inner : codeAny (model X.prog X.w) X.A (.compLoop (e2 elt tg iter ifs tg2 iter2 ifs2 scope pos) 1 (.ref it2) (.ref s2.heap.objs.size) (compEnvC scope cl Hp2.objs.size X.env)) (fun r s' => match r with | .ok _ => ∃ m, m < n ∧ ∃ i σv H' ys its, σv.length = xs.length ∧ Inv (cxC X xs Nb scope cl Hp2.objs.size s2 H2 fp) [] (σv ++ σ) H' s' ∧ tn i s'.heap ∧ (∀ b ∈ fp, H' b = none) ∧ Vals ys its ∧ ys.length ≤ sizeLine ∧ s'.heap.PlainList s2.heap.objs.size its.toArray ∧ H' s2.heap.objs.size = none ∧ W i m ys H' | .error _ => False) s9 := by
          refine loop_two1 rfl (fun n' s' => ∃ (j : Nat) (pv : St) (H' : Hp) (zs : List V) (ws : List Value), pv.length = xs.length ∧ Inv (cxC X xs Nb scope cl Hp2.objs.size s2 H2 fp) po (pv ++ σ) H' s' ∧ tn2 j s'.heap ∧ (∀ b ∈ fp2, H' b = none) ∧ Vals zs ws ∧ zs.length ≤ sizeLine ∧ s'.heap.PlainList s2.heap.objs.size ws.toArray ∧ H' s2.heap.objs.size = none ∧ W2 j n' zs (pv ++ σ) H') ?_ m2 ⟨0, pre', H9, ys, its, l6, I9o, st9, fun b hb => (f9 b hb).1, rv, hz, ⟨nn, pl9.1⟩, pl9.2.1, w2⟩
          rintro n' t0 ⟨j, pv, K0, zs, ws, lpv, J0, tst, tfr, rz, hzz, ⟨nz, plz⟩, KD, ww⟩
          have J0p : Inv (cxC X xs Nb scope cl Hp2.objs.size s2 H2 fp) ([((s2.heap.objs.size : Addr), ({ cls := .type "list", data := .seq ws.toArray nz } : Obj))] ++ po) (pv ++ σ) K0 t0 := J0.pins_of fun p hp => by
            rcases List.mem_append.mp hp with hp | hp
            · rw [List.mem_singleton] at hp
              subst hp
              exact ⟨plz, KD, hDC, fun hm => absurd (frSub _ hm) (Nat.lt_irrefl _), fun v z => by cases z⟩
            · exact J0.pin p (List.mem_append_right _ hp)
          have fpI : ∀ {K' : Hp}, (∀ b ∈ fp2, K' b = none) → ∀ b ∈ fp2, FpOk (cxC X xs Nb scope cl Hp2.objs.size s2 H2 fp) ([((s2.heap.objs.size : Addr), ({ cls := .type "list", data := .seq ws.toArray nz } : Obj))] ++ po) K' b := fun {K'} hn b hb => by
            obtain ⟨_, a1, a2, a3, a4, a5⟩ := f9 b hb
            refine ⟨hn b hb, a1, a2, a3, a4, fun p hp => ?_⟩
            have hp : p ∈ [((s2.heap.objs.size : Addr), ({ cls := .type "list", data := .seq ws.toArray nz } : Obj))] ++ po := hp
            rcases List.mem_append.mp hp with hp | hp
            · rw [List.mem_singleton] at hp
              subst hp
              exact fun z => fp2D b hb z.symm
            · exact a5 p (List.mem_append_right _ (List.mem_append_right _ hp))
          rcases turn2 j n' zs _ K0 ww with ⟨stop2, qn2⟩ | ⟨go2, hlt2, N2, hN2, step2⟩
          · refine noErr (thn (T2.done (cxC X xs Nb scope cl Hp2.objs.size s2 H2 fp) rfl rfl rfl hc j _ t0 _ K0 (fun _ _ => False) J0p (fpI tfr) tst stop2) fun r t1 ⟨hr, J1⟩ => ?_)
            subst hr
            obtain ⟨m', hm, w7⟩ := hNN _ _ qn2
            have p1 := J1.pin _ (List.mem_append_right _ (List.mem_append_left _ List.mem_cons_self))
            exact again lpv (J1.pins_of fun p hp => J1.pin p (List.mem_append_right _ (List.mem_append_right _ hp))) ⟨nz, p1.1⟩ p1.2.1 rz hzz hm w7
          · refine noErr (thn (T2.item (cxC X xs Nb scope cl Hp2.objs.size s2 H2 fp) rfl rfl rfl hc j _ t0 _ K0 (fun _ _ => False) J0p (fpI tfr) tst go2) fun r t1 ⟨u2, hr, h4⟩ => ?_)
            subst hr
            refine noErr (thn h4 fun _ t2 ⟨v2, K2, J2', r2, y2, ts2, tf2⟩ => ?_)
            have J2p := J2'.pinned (fpI tf2) (T2.obj _ _ ts2)
            have stp2 := step2 v2 K2 y2
            refine noErr (thn (hg2 cl Hp2.objs.size s2 H2 fp _ t2 _ K2 v2 u2 _ J2p r2 stp2) fun _ t3 ⟨σ7, K3, J3, ⟨pv', e7, l7⟩, stp2⟩ => ?_)
            subst e7
            have again2 : ∀ {t7 t8 : Shared} {K7 : Hp} {zs' : List V} {ws' : List Value} {m' : Nat}, Inv (cxC X xs Nb scope cl Hp2.objs.size s2 H2 fp) (([((s2.heap.objs.size : Addr), ({ cls := .type "list", data := .seq ws.toArray nz } : Obj))] ++ po) ++ pinsAt fp2 t2.heap) (pv' ++ σ) K7 t7 →
                (∃ h', t8 = { t7 with heap := h' } ∧ (∀ b o, b ≠ s2.heap.objs.size → t7.heap.get? b = some o → h'.get? b = some o) ∧ h'.PlainList s2.heap.objs.size ws'.toArray) → Vals zs' ws' → zs'.length ≤ sizeLine → m' < n' → W2 (j + 1) m' zs' (pv' ++ σ) K7 →
                ∃ m, m < n' ∧ ∃ (j : Nat) (pv : St) (H' : Hp) (zs : List V) (ws : List Value), pv.length = xs.length ∧ Inv (cxC X xs Nb scope cl Hp2.objs.size s2 H2 fp) po (pv ++ σ) H' t8 ∧ tn2 j t8.heap ∧ (∀ b ∈ fp2, H' b = none) ∧ Vals zs ws ∧ zs.length ≤ sizeLine ∧ t8.heap.PlainList s2.heap.objs.size ws.toArray ∧ H' s2.heap.objs.size = none ∧ W2 j m zs (pv ++ σ) H' := by
              rintro t7 t8 K7 zs' ws' m' J7 ⟨h', rfl, up, plw⟩ rz' hzz' hm w7
              have KD7 : K7 s2.heap.objs.size = none := (J7.pin _ (List.mem_append_right _ (List.mem_append_left _ (List.mem_append_left _ List.mem_cons_self)))).2.1
              have p2 : ∀ b ∈ fp2, ∃ o, t2.heap.get? b = some o ∧ t7.heap.get? b = some o ∧ K7 b = none := fun b hb => by
                obtain ⟨o, e, d⟩ := T2.obj _ _ ts2 b hb
                have := J7.pin (b, o) (List.mem_append_right _ (List.mem_append_right _ (mem_pinsAt hb e)))
                exact ⟨o, e, this.1, this.2.1⟩
              have J7' : Inv (cxC X xs Nb scope cl Hp2.objs.size s2 H2 fp) po (pv' ++ σ) K7 t7 := J7.pins_of fun p hp => J7.pin p (List.mem_append_right _ (List.mem_append_left _ (List.mem_append_right _ hp)))
              refine ⟨m', hm, j + 1, pv', K7, zs', ws', l7, ?_, ?_, fun b hb => (p2 b hb).choose_spec.2.2, rz', hzz', plw, KD7, w7⟩
              · have := J7'.turned (it := s2.heap.objs.size) (h' := h') (t' := t7.toks) up KD7 hDC (.inr (Nat.le_refl _)) (fun y c h1 h2 => absurd (cellLt y c h1) (by rw [h2]; exact Nat.lt_irrefl _)) (fun p hp => poD p hp)
                exact this
              · refine T2.keep _ _ _ ts2 fun b hb o e => up b o (fp2D b hb) ?_
                obtain ⟨o', e1, e2, _⟩ := p2 b hb
                rw [e] at e1
                cases e1
                exact e2
            refine noErr (thn (ht2 cl Hp2.objs.size s2 H2 fp _ t3 _ K3 _ J3 stp2) fun okb t7 ⟨K7, J7, q7⟩ => ?_)
            have pl7 := (J7.pin _ (List.mem_append_right _ (List.mem_append_left _ (List.mem_append_left _ List.mem_cons_self)))).1
            cases okb with
            | false =>
              rw [if_neg Bool.false_ne_true] at q7 ⊢
              obtain ⟨m', hm, w7⟩ := hN2 _ _ _ q7
              exact again2 J7 ⟨t7.heap, rfl, fun _ _ _ e => e, nz, pl7⟩ rz hzz hm w7
            | true =>
              rw [if_pos rfl] at q7 ⊢
              refine noErr (thn (he cl Hp2.objs.size s2 H2 fp _ t7 _ K7 _ J7 q7) fun w' t8 ⟨y, K8, J8, r8, q8⟩ => ?_)
              obtain ⟨m', hm, w8⟩ := hN2 _ _ _ q8
              have pl8 := (J8.pin _ (List.mem_append_right _ (List.mem_append_left _ (List.mem_append_left _ List.mem_cons_self)))).1
              refine wpAny_list_append_plain (hsz := by have := rz.length; simp only [List.size_toArray]; omega) ⟨nz, pl8⟩ fun h9 pl9 sb9 => ?_
              refine again2 J8 ⟨h9, rfl, fun b o hb e => sb9.extBut b o hb e, ?_⟩ (rz.append (.cons r8 .nil)) (by rw [List.length_append, List.length_singleton]; omega) hm w8
              have e9 : ws.toArray.push w' = (ws ++ [w']).toArray := by simp
              rw [← e9]
              exact pl9
        exact start_two1 inner (T2.self _ 0 _ _ _ st9 inner)
  refine codeAny_compStart_list (loop _ _ rfl) (noErr (T.self _ 0 _ _ _ (T.keep _ _ _ st2 fun b _ o e => old b o e) (loop _ _ rfl)))
theorem pe_comp2 {elt iter tg iter2 tg2 : Expr} {xs Nb : List Str} {ifs ifs2 : List Expr} {scope : Scope} {pos : PySem.Pos} {wi wi2 : TI} {g g2 : TG} {tt tt2 : TT} {te : TE}
    (hc : X.calm = true) (hi : PI X tg iter wi) (hlen : Nb.length = X.N.length) (hNb : ∀ p ∈ Nb.zip X.N, p.1 = p.2 ∨ scope.names.lookup p.1 = none) (hxN : ∀ y ∈ Nb, scope.names.lookup y ≠ some .local)
    (hg : InB X xs Nb scope fun Y => PG Y tg g) (ht : InB X xs Nb scope fun Y => PIf Y ifs tt) (hi2 : InB X xs Nb scope fun Y => PI Y tg2 iter2 wi2) (hg2 : InB X xs Nb scope fun Y => PG Y tg2 g2) (ht2 : InB X xs Nb scope fun Y => PIf Y ifs2 tt2) (he : InB X xs Nb scope fun Y => PE Y elt te)
    (hcell : ∀ y ∈ scope.names, y.2 ≠ .cell) (hkind : scope.kind = .function) (hnames : ∀ y ∈ scope.names, y.2 = .local → scope.names.lookup y.1 = some .local)
    (hfree : ∀ y ∈ scope.names, y.2 = .free → X.env.kindOf y.1 = some .cell)
    (hs : ∀ x, foldedSetIterable iter X.env x = pure x := by intro _; rfl) (hs2 : ∀ env x, foldedSetIterable iter2 env x = pure x := by intro _ _; rfl) :
    PE X (.ListComp elt [⟨tg, iter, ifs, 0⟩, ⟨tg2, iter2, ifs2, 0⟩] scope pos) (tComp2 xs.length wi g tt wi2 g2 tt2 te) := by
  intro pins s σ H Q I h
  rw [eval_ListComp]
  exact comp_core2 (use := none) (QQ := EP X pins σ Q) hc hi hlen hNb hxN hg ht hi2 hg2 ht2 hs2 he hcell hkind hnames hfree hs I h fun s2 s4 H2 H4 C D m4 _ _ hn _ IX q => ⟨m4, hn, fun h' sb => ⟨.ref D, H4, IX h' sb, rfl, q⟩⟩
theorem comp2LT {K : PySem.W.Frag} {k : Nat} {a : Addr} {xs : List V} {g : TG} {tt : TT} {wi2 : TI} {g2 : TG} {tt2 : TT} {te : TE} {Q : VK} {σ : St} {H : Hp} (Pv : Nat → List V → Hp → Prop) (h0 : Pv 0 [] H) (hl : ∀ i ys H, i ≤ xs.length → Pv i ys H → SqL K H a xs)
    (hs : ∀ i x ys H (pre : St), pre.length = k → xs[i]? = some x → Pv i ys H → g x (pre ++ σ) H fun σ' H2 => (∃ pre' : St, σ' = pre' ++ σ ∧ pre'.length = k) ∧ tt σ' H2 fun ok H3 => if ok = true then wi2 σ' H3 fun J2 H4 => CGi k J2 g2 tt2 te (Pv (i + 1)) σ ys σ' H4 else Pv (i + 1) ys H3)
    (hd : ∀ ys H, Pv xs.length ys H → ∀ D, H D = none → Q (.ref D) (upd H D (.lst ys))) : CGo2 k (Itl K a) g tt wi2 g2 tt2 te Q σ H := by
  refine ⟨fun i m ys H => m = xs.length - i ∧ i ≤ xs.length ∧ Pv i ys H, ⟨xs.length, by simp, Nat.zero_le _, h0⟩, ?_⟩
  rintro i m ys H ⟨rfl, hi, p⟩
  have q := hl i ys H hi p
  by_cases hlt : i < xs.length
  · refine .inr ⟨⟨xs, xs[i], q, by simp [hlt]⟩, Pv (i + 1), fun zs H' p' => ⟨xs.length - (i + 1), by omega, rfl, hlt, p'⟩, fun x H' pre hp y => ?_⟩
    obtain ⟨e, y⟩ := y
    subst e
    exact hs i x ys _ pre hp (y xs q) p
  · have e : i = xs.length := by omega
    subst e
    exact .inl ⟨⟨xs, q, Nat.le_refl _⟩, hd ys H p⟩
theorem compIT {K : PySem.W.Frag} {k : Nat} {a : Addr} {xs : List V} {g : TG} {tt : TT} {te : TE} {N : List V → Hp → Prop} {σ σ1 : St} {ys : List V} {H : Hp} (Pv : Nat → List V → St → Hp → Prop) (h0 : Pv 0 ys σ1 H) (hz : ∀ i ys σ' H, Pv i ys σ' H → ys.length ≤ 1000) (hl : ∀ i ys σ' H, i ≤ xs.length → Pv i ys σ' H → SqT K H a xs)
    (hs : ∀ i x ys σ' H, xs[i]? = some x → Pv i ys σ' H → g x σ' H fun σ2 H2 => (∃ pre' : St, σ2 = pre' ++ σ ∧ pre'.length = k) ∧ tt σ2 H2 fun ok H3 => if ok = true then te σ2 H3 fun y H4 => Pv (i + 1) (ys ++ [y]) σ2 H4 else Pv (i + 1) ys σ2 H3) (hd : ∀ ys σ' H, Pv xs.length ys σ' H → N ys H) : CGi k (Itt K a) g tt te N σ ys σ1 H := by
  refine ⟨fun i m ys σ' H => m = xs.length - i ∧ i ≤ xs.length ∧ Pv i ys σ' H, ⟨xs.length, by simp, Nat.zero_le _, h0⟩, ?_⟩
  rintro i m ys σ' H ⟨rfl, hi, p⟩
  have q := hl i ys σ' H hi p
  by_cases hlt : i < xs.length
  · refine .inr ⟨⟨xs, xs[i], q, by simp [hlt]⟩, Nat.lt_of_le_of_lt (hz i ys σ' H p) (by decide), Pv (i + 1), fun zs σ2 H' p' => ⟨xs.length - (i + 1), by omega, rfl, hlt, p'⟩, fun x H' y => ?_⟩
    obtain ⟨e, y⟩ := y
    subst e
    exact hs i x ys σ' _ (y xs q) p
  · have e : i = xs.length := by omega
    subst e
    exact .inl ⟨⟨xs, q, Nat.le_refl _⟩, hd ys σ' H p⟩
end
end L2
set_option Elab.async false
set_option linter.all false
set_option maxRecDepth 100000
set_option maxHeartbeats 1000000
set_option Elab.async false
set_option linter.all false
set_option maxRecDepth 100000
set_option maxHeartbeats 1000000
set_option Elab.async false
set_option linter.all false
set_option maxRecDepth 100000
set_option maxHeartbeats 1000000
set_option Elab.async false
set_option linter.all false
set_option maxRecDepth 100000
set_option maxHeartbeats 2000000
set_option Elab.async false
set_option linter.all false
set_option maxRecDepth 100000
set_option maxHeartbeats 4000000
namespace L2
open PySem PySem.Spec PyProof.Rows
def ddStep (acc : List Int) (k : Int) : List Int := if k ∈ acc then acc else acc ++ [k]
def dd (ns : List Int) : List Int := ns.foldl ddStep []
end L2
set_option Elab.async false
set_option linter.all false
set_option maxRecDepth 100000
set_option maxHeartbeats 4000000
set_option Elab.async false
set_option linter.all false
set_option maxRecDepth 100000
set_option maxHeartbeats 4000000
set_option Elab.async false
set_option linter.all false
set_option maxRecDepth 100000
set_option maxHeartbeats 4000000
set_option Elab.async false
set_option linter.all false
set_option maxRecDepth 100000
set_option maxHeartbeats 4000000
set_option Elab.async false
set_option linter.all false
set_option maxRecDepth 100000
set_option maxHeartbeats 1000000
set_option Elab.async false
set_option linter.all false
set_option maxRecDepth 100000
set_option maxHeartbeats 1000000
set_option Elab.async false
set_option linter.all false
set_option maxRecDepth 100000
set_option maxHeartbeats 1000000
set_option Elab.async false
set_option linter.all false
set_option maxRecDepth 100000
set_option maxHeartbeats 1000000
set_option Elab.async false
set_option linter.all false
set_option maxRecDepth 100000
set_option Elab.async false
set_option linter.all false
set_option maxRecDepth 100000
set_option maxHeartbeats 1000000
set_option Elab.async false
set_option linter.all false
set_option maxRecDepth 100000
set_option maxHeartbeats 1000000
set_option Elab.async false
set_option linter.all false
set_option maxRecDepth 100000
set_option maxHeartbeats 1000000
namespace L2
open PySem PySem.Spec PyProof.Rows
structure SB (k0 : SortKind) (a0 : Array Keyed) (st : SortSt) : Prop where
  pm : (arrOf st).Perm a0
  kd : kindOf st = k0
  fl : failedOf st = none
  pn : pendingOf st = #[]
end L2
set_option Elab.async false
set_option linter.all false
set_option maxRecDepth 100000
set_option maxHeartbeats 1000000
set_option Elab.async false
set_option linter.all false
set_option maxRecDepth 100000
set_option maxHeartbeats 1000000
set_option Elab.async false
set_option linter.all false
set_option maxRecDepth 100000
set_option maxHeartbeats 1000000
set_option Elab.async false
set_option linter.all false
set_option maxRecDepth 100000
set_option maxHeartbeats 1000000
set_option Elab.async false
set_option linter.all false
set_option maxRecDepth 100000
set_option maxHeartbeats 1000000
set_option Elab.async false
set_option linter.all false
set_option maxRecDepth 100000
set_option maxHeartbeats 1000000
set_option Elab.async false
set_option linter.all false
set_option maxRecDepth 100000
set_option maxHeartbeats 1000000
set_option Elab.async false
set_option linter.all false
set_option maxRecDepth 100000
set_option maxHeartbeats 1000000
set_option Elab.async false
set_option linter.all false
set_option maxRecDepth 100000
set_option maxHeartbeats 1000000
namespace L2
open PySem PySem.Spec PyProof.Rows
def hsh (prog : Program) (w : World) (u : List Int) : Int := tupleKeyHash (intKind prog w) u
end L2
set_option Elab.async false
set_option linter.all false
set_option maxRecDepth 100000
set_option maxHeartbeats 1000000
set_option Elab.async false
set_option linter.all false
set_option maxRecDepth 100000
set_option maxHeartbeats 4000000
set_option Elab.async false
set_option linter.all false
set_option maxRecDepth 100000
set_option maxHeartbeats 4000000
set_option Elab.async false
set_option linter.all false
set_option maxRecDepth 100000
set_option maxHeartbeats 1000000
namespace L2
open PySem PySem.Spec PyProof.Rows
def TuL (H : Hp) (xs : List V) (us : List (List Int)) : Prop := xs.length = us.length ∧ ∀ (i : Nat) (x : V) (u : List Int), xs[i]? = some x → us[i]? = some u → ∃ a : Addr, x = .ref a ∧ H a = some (.tup (u.map V.int))
theorem TuL.nil (H : Hp) : TuL H [] [] := ⟨rfl, fun i x u h => by cases h⟩
theorem TuL.up {H H' : Hp} {xs : List V} {us : List (List Int)} (h : TuL H xs us) (t : Tups H H') : TuL H' xs us := ⟨h.1, fun i x u h1 h2 => by
  obtain ⟨a, b, c⟩ := h.2 i x u h1 h2
  exact ⟨a, b, t _ _ c⟩⟩
theorem TuL.snoc {H : Hp} {xs : List V} {us : List (List Int)} {a : Addr} {u : List Int} (h : TuL H xs us) (ha : H a = some (.tup (u.map V.int))) : TuL H (xs ++ [.ref a]) (us ++ [u]) := by
  refine ⟨by rw [List.length_append, List.length_append, h.1]; rfl, fun i y r h1 h2 => ?_⟩
  by_cases z : i < xs.length
  · rw [List.getElem?_append_left z] at h1
    rw [List.getElem?_append_left (h.1 ▸ z)] at h2
    exact h.2 i y r h1 h2
  · rw [List.getElem?_append_right (by omega)] at h1
    rw [List.getElem?_append_right (by have := h.1; omega), ← h.1] at h2
    cases w : i - xs.length with
    | zero => rw [w] at h1 h2; cases h1; cases h2; exact ⟨a, rfl, ha⟩
    | succ m => rw [w] at h1; cases h1
def dTs (us : List (List Int)) : PyData := .list (us.map dT)
theorem lay_dTs : ∀ us : List (List Int), (dTs us).canLay0 = true := by
  have : ∀ us : List (List Int), PyData.canLayAll0 (us.map dT) = true := by
    intro us
    induction us with
    | nil => rfl
    | cons u us ih => show ((dT u).canLay0 && PyData.canLayAll0 (us.map dT)) = true; rw [lay_dT, ih]; rfl
  exact this
theorem dep_dTs (us : List (List Int)) : (dTs us).depth ≤ 60 := by
  have : ∀ us : List (List Int), PyData.depthAll (us.map dT) ≤ 1 := by
    intro us
    induction us with
    | nil => exact Nat.zero_le _
    | cons u us ih => show max (dT u).depth _ ≤ 1; rw [dep_dT]; omega
  show PyData.depthAll _ + 1 ≤ 60
  have := this us
  omega
theorem eqv_dTs (us vs : List (List Int)) : PyData.eqv (dTs us) (dTs vs) = decide (us = vs) := by
  have : ∀ us vs : List (List Int), PyData.eqvAll (us.map dT) (vs.map dT) = decide (us = vs) := by
    intro us
    induction us with
    | nil => intro vs; cases vs <;> rfl
    | cons u us ih =>
      intro vs
      cases vs with
      | nil => rfl
      | cons v vs =>
        show (PyData.eqv (dT u) (dT v) && PyData.eqvAll (us.map dT) (vs.map dT)) = _
        rw [ih, eqv_dT]
        by_cases h : u = v
        · subst h; by_cases h2 : us = vs <;> simp [h2]
        · simp [h]
  exact this us vs
section
variable {X : Cx} {pins : List (Addr × Obj)} {σ : St} {H : Hp} {s : Shared}
theorem call_tuple_ofKK {K : PySem.W.Frag} (hK : X.K = K := by rfl) : CallR X (.type "tuple") (fun xs H Q => ∃ p ys, xs = [.ref p] ∧ ((SqL K H p ys ∧ ∀ l, H l = none → Q (.ref l) (upd H l (.tup ys))) ∨ (SqT K H p ys ∧ Q (.ref p) H))) := by subst hK; exact call_tuple_of
end
end L2
set_option Elab.async false
set_option linter.all false
set_option maxRecDepth 100000
set_option maxHeartbeats 1000000
set_option Elab.async false
set_option linter.all false
set_option maxRecDepth 100000
set_option maxHeartbeats 1000000
set_option Elab.async false
set_option linter.all false
set_option maxRecDepth 100000
set_option maxHeartbeats 1000000
namespace L2
open PySem PySem.Spec PyProof.Rows
def cont (h : Heap) (b : Addr) : Option HO := match h.get? b with
  | some o => match o.data with
    | .seq its _ => match its.toList with
      | [.ref ka, .int m _] => some (.tup [.ref ka, .int m])
      | _ => none
    | _ => none
  | none => none
end L2
set_option Elab.async false
set_option linter.all false
set_option maxRecDepth 100000
set_option maxHeartbeats 1000000
set_option Elab.async false
set_option linter.all false
set_option maxRecDepth 100000
set_option maxHeartbeats 1000000
namespace L2
open PySem PySem.Spec PyProof.Rows
section
variable {X : Cx}
theorem call_range2 : CallR X (.type "range") (fun xs H Q => ∃ i j : Int, xs = [.int i, .int j] ∧ ∀ p, H p = none → Q (.ref p) (upd H p (.rng i j))) := by
  intro pins s σ H xs us Q I r h
  obtain ⟨i, j, rfl, q⟩ := h
  obtain ⟨u1, u2, rfl, ⟨t1, rfl⟩, ⟨t2, rfl⟩⟩ := vals2 r
  refine call_range_2 ?_
  exact ⟨.ref _, upd H s.heap.objs.size (.rng i j), I.laid (fun b u e => Heap.get?_push_of_some _ e) (Nat.le_refl _) ⟨_, _, _, Heap.get?_push_size _ rfl⟩, rfl, q _ (I.hok.fresh (Nat.le_refl _))⟩
def upto (lo : Int) (n : Nat) : List Int := (List.range n).map fun (i : Nat) => lo + (i : Int)
theorem call_list_rng2 (hc : X.calm = true) : CallR X (.type "list") (fun xs H Q => ∃ (p : Addr) (i j : Int), xs = [.ref p] ∧ H p = some (.rng i j) ∧ -1000 ≤ i ∧ i ≤ j ∧ j ≤ 1000 ∧ ∀ l, H l = none → Q (.ref l) (upd H l (.lst ((upto i (j - i).toNat).map V.int)))) := by
  intro pins s σ H xs us Q I r h
  obtain ⟨p, lo, j, rfl, hp, h0, h1, h2, q⟩ := h
  obtain ⟨u, rfl, rx⟩ := vals1 r
  cases rx
  obtain ⟨t, u, v, e⟩ := I.hok p _ hp
  refine call_list_range (n := (j - lo).toNat) (I.ok.hd hc) e (small_one (by omega) (by omega) (by omega) (by omega)) (by rw [rangeSize_one]; split <;> omega) (by omega) fun h' tk acc' c' hk hS hacc => ?_
  have hln : ((upto lo (j - lo).toNat).map V.int).length = acc'.toList.length := by unfold upto; simp [hacc.1]
  refine ⟨.ref _, _, I.laid (o := .lst ((upto lo (j - lo).toNat).map V.int)) hk (Nat.le_refl _) ⟨?_, acc'.toList, c', Vals.of_get hln fun i x w' e1 e2 => ?_, by simpa using hS⟩, rfl, q _ (I.hok.fresh (Nat.le_refl _))⟩
  · unfold upto
    rw [List.length_map, List.length_map, List.length_range]
    exact Nat.le_trans (show (j - lo).toNat ≤ 2000 by omega) (by decide)
  · have hi : i < (j - lo).toNat := by
      have := (List.getElem?_eq_some_iff.mp e1).1
      unfold upto at this
      rw [List.length_map, List.length_map, List.length_range] at this
      exact this
    unfold upto at e1
    rw [List.getElem?_map, List.getElem?_map, List.getElem?_range hi] at e1
    cases e1
    obtain ⟨tk', z⟩ := hacc.2 i w' (by simpa using e2)
    rw [z]
    exact ⟨tk', by simp⟩
theorem pi_tupK {K : PySem.W.Frag} {tg l : Expr} {tl : TE} (hl : PE X l tl) (hK : X.K = K := by rfl) : PI X tg l (iTup K tl) := by subst hK; exact pi_tup hl
end
end L2
set_option Elab.async false
set_option linter.all false
set_option maxRecDepth 100000
set_option maxHeartbeats 1000000
namespace L2
open PySem PySem.Spec PyProof.Rows
def absI (i : Int) : Int := if i < 0 then -i else i
def pool (n : Nat) : List Int := upto 1 n ++ upto 1 n
theorem mem_upto {lo : Int} {n : Nat} {i : Int} : i ∈ upto lo n ↔ lo ≤ i ∧ i < lo + (n : Int) := by
  unfold upto
  rw [List.mem_map]
  constructor
  · rintro ⟨k, hk, rfl⟩
    have := List.mem_range.mp hk
    omega
  · rintro ⟨h1, h2⟩
    exact ⟨(i - lo).toNat, List.mem_range.mpr (by omega), by omega⟩
theorem upto_len (lo : Int) (n : Nat) : (upto lo n).length = n := by unfold upto; rw [List.length_map, List.length_range]
theorem rep2 (xs : List V) : (List.replicate (2 : Int).toNat xs).flatten = xs ++ xs := by
  show xs ++ (xs ++ []) = xs ++ xs
  rw [List.append_nil]
def dI (ns : List Int) : PyData := .list (ns.map .int)
theorem di_lst {K : PySem.W.Frag} {H : Hp} {a : Addr} {ns : List Int} (h : SqL K H a (ns.map V.int)) : DI K H (.ref a) (dI ns) := by
  refine .lst h (by rw [List.length_map, List.length_map]) fun i x d h1 h2 => ?_
  rw [List.getElem?_map] at h1 h2
  cases z : ns[i]? with
  | none => rw [z] at h1; cases h1
  | some m => rw [z] at h1 h2; cases h1; cases h2; exact .int m
theorem eqv_dI (ns ms : List Int) : PyData.eqv (dI ns) (dI ms) = decide (ns = ms) := eqvAll_ints ns ms
theorem lay_dI (ns : List Int) : (dI ns).canLay0 = true := lay_ints ns
theorem dep_dI (ns : List Int) : (dI ns).depth ≤ 60 := by show PyData.depthAll _ + 1 ≤ 60; rw [dep_ints]; decide
theorem map_erase {α β : Type} (f : α → β) : ∀ (l : List α) (k : Nat), (l.map f).eraseIdx k = (l.eraseIdx k).map f
  | [], _ => rfl
  | _ :: _, 0 => rfl
  | a :: l, k + 1 => by
    show f a :: (l.map f).eraseIdx k = f a :: (l.eraseIdx k).map f
    rw [map_erase f l k]
theorem pool_len (n : Nat) : (pool n).length = 2 * n := by unfold pool; rw [List.length_append, upto_len]; omega
end L2
set_option Elab.async false
set_option linter.all false
set_option maxRecDepth 100000
set_option maxHeartbeats 1000000
namespace L2
open PySem PySem.Spec PyProof.Rows
def wholeD : PyData → Bool
  | .int _ => true
  | _ => false
theorem whole_ib (d : PyData) : wholeD d = (isInt d && !isBool d) := by cases d <;> rfl
def isLst : PyData → Bool
  | .list _ => true
  | _ => false
theorem kit_lst {K : PySem.W.Frag} (d : PyData) : PySem.W.kitOne K (.type (tyName d)) (.type "list") = some (isLst d) := by cases d <;> rfl
theorem tup_parts {H : Hp} {x : V} {d : PyData} (t : Th H x d) (h : isTup d = true) : ∃ p ds xs, x = .ref p ∧ d = .tuple ds ∧ H p = some (.tup xs) ∧ ThL H xs ds := by
  cases t with
  | tup a b c => exact ⟨_, _, _, rfl, rfl, a, b, c⟩
  | _ => cases h
theorem lst_parts {H : Hp} {x : V} {d : PyData} (t : Th H x d) (h : isLst d = true) : ∃ p ds xs, x = .ref p ∧ d = .list ds ∧ H p = some (.lst xs) ∧ ThL H xs ds := by
  cases t with
  | lst a b c => exact ⟨_, _, _, rfl, rfl, a, b, c⟩
  | _ => cases h
theorem thl_at {H : Hp} {xs : List V} {ds : List PyData} (k : ThL H xs ds) {i : Nat} {x : V} (e : xs[i]? = some x) : ∃ d, ds[i]? = some d ∧ Th H x d := by
  have hi : i < ds.length := by rw [← k.1]; exact (List.getElem?_eq_some_iff.mp e).1
  exact ⟨ds[i], List.getElem?_eq_getElem hi, k.2 i x _ e (List.getElem?_eq_getElem hi)⟩
theorem three3 {α : Type} {xs : List α} (h : xs.length = 3) : ∃ a b c, xs = [a, b, c] := by
  match xs, h with
  | [a, b, c], _ => exact ⟨a, b, c, rfl⟩
def isTri : PyData → Bool
  | .tuple ds => decide (ds.length = 3) && ds.all wholeD
  | _ => false
def intD : PyData → Int
  | .int i => i
  | _ => 0
def sidesD : PyData → List Int
  | .tuple ds => ds.map intD
  | _ => []
def tiesD (ts : List PyData) : List Int := (ts.map fun t => (sidesD t).map absI).flatten
def isS : PyData → Bool
  | .list ts => (decide (2 ≤ ts.length ∧ ts.length ≤ 12 ∧ ts.length % 2 = 0) && ts.all isTri) && (upto 1 (ts.length / 2 * 3)).all fun t => decide ((tiesD ts).countP (fun z => decide (z = t)) = 2)
  | _ => false
theorem isS_not {d : PyData} (h : isLst d = false) : isS d = false := by cases d <;> first | rfl | cases h
theorem isTri_not {d : PyData} (h : isTup d = false) : isTri d = false := by cases d <;> first | rfl | cases h
theorem isTri_ints {d : PyData} (h : isTri d = true) : ∃ a b c : Int, d = .tuple [.int a, .int b, .int c] := by
  cases d with
  | tuple ds =>
    have h' : (decide (ds.length = 3) && ds.all wholeD) = true := h
    rw [Bool.and_eq_true] at h'
    obtain ⟨h1, h2⟩ := h'
    obtain ⟨a, b, c, rfl⟩ := three3 (of_decide_eq_true h1)
    have w := List.all_eq_true.mp h2
    have wa := w a (by simp)
    have wb := w b (by simp)
    have wc := w c (by simp)
    cases a <;> first | cases wa | skip
    cases b <;> first | cases wb | skip
    cases c <;> first | cases wc | skip
    exact ⟨_, _, _, rfl⟩
  | _ => cases h
theorem tiesD_snoc (ts : List PyData) (t : PyData) : tiesD (ts ++ [t]) = tiesD ts ++ (sidesD t).map absI := by
  unfold tiesD
  rw [List.map_append, List.flatten_append]
  simp
theorem ties_len : ∀ {ts : List PyData}, ts.all isTri = true → (tiesD ts).length = 3 * ts.length
  | [], _ => rfl
  | t :: ts, h => by
    rw [List.all_cons, Bool.and_eq_true] at h
    obtain ⟨a, b, c, rfl⟩ := isTri_ints h.1
    have ih := ties_len h.2
    unfold tiesD at ih ⊢
    rw [List.map_cons, List.flatten_cons, List.length_append, ih]
    simp only [sidesD, List.map_cons, List.map_nil, List.length_cons, List.length_nil]
    omega
theorem upto_succ (lo : Int) (n : Nat) : upto lo (n + 1) = upto lo n ++ [lo + (n : Int)] := by unfold upto; rw [List.range_succ, List.map_append]; rfl
theorem count_upto (t : Int) : ∀ n : Nat, (upto 1 n).countP (fun z => decide (z = t)) = if 1 ≤ t ∧ t ≤ (n : Int) then 1 else 0
  | 0 => by rw [if_neg (by omega)]; rfl
  | n + 1 => by
    rw [upto_succ, List.countP_append, count_upto t n]
    by_cases h : (1 : Int) + (n : Int) = t
    · rw [if_neg (by omega), if_pos (by omega)]
      simp [h]
    · have e : List.countP (fun z => decide (z = t)) [(1 : Int) + (n : Int)] = 0 := by simp [h]
      rw [e]
      by_cases q : 1 ≤ t ∧ t ≤ (n : Int)
      · rw [if_pos q, if_pos (by omega)]
      · rw [if_neg q, if_neg (by omega)]
theorem count_pool (t : Int) (n : Nat) : (pool n).countP (fun z => decide (z = t)) = if 1 ≤ t ∧ t ≤ (n : Int) then 2 else 0 := by
  unfold pool
  rw [List.countP_append, count_upto]
  split <;> rfl
theorem filt_len (A : List Int) : ∀ n : Nat, (∀ t ∈ upto 1 n, A.countP (fun z => decide (z = t)) = 2) → (A.countP fun z => decide (1 ≤ z ∧ z ≤ (n : Int))) = 2 * n
  | 0, _ => by
    rw [List.countP_eq_zero.mpr]
    intro z _
    simp
    omega
  | n + 1, h => by
    have ih := filt_len A n fun t ht => h t (by rw [upto_succ]; exact List.mem_append_left _ ht)
    have hl := h (1 + (n : Int)) (by rw [upto_succ]; exact List.mem_append_right _ (by simp))
    have key : ∀ B : List Int, (B.countP fun z => decide (1 ≤ z ∧ z ≤ ((n + 1 : Nat) : Int))) = (B.countP fun z => decide (1 ≤ z ∧ z ≤ (n : Int))) + B.countP (fun z => decide (z = 1 + (n : Int))) := by
      intro B
      induction B with
      | nil => rfl
      | cons b B ihB =>
        rw [List.countP_cons, List.countP_cons, List.countP_cons, ihB]
        by_cases q1 : 1 ≤ b ∧ b ≤ (n : Int)
        · have q2 : 1 ≤ b ∧ b ≤ ((n + 1 : Nat) : Int) := by omega
          have q3 : ¬ b = 1 + (n : Int) := by omega
          simp only [q1, q2, q3, decide_true, decide_false, if_true, and_self]
          simp
          omega
        · by_cases q3 : b = 1 + (n : Int)
          · have q2 : 1 ≤ b ∧ b ≤ ((n + 1 : Nat) : Int) := by omega
            rw [decide_eq_true q2, decide_eq_false q1, decide_eq_true q3]
            simp
            omega
          · have q2 : ¬ (1 ≤ b ∧ b ≤ ((n + 1 : Nat) : Int)) := by omega
            rw [decide_eq_false q2, decide_eq_false q1, decide_eq_false q3]
            simp
    rw [key, ih, hl]
    omega
theorem perm_pool {A : List Int} {n : Nat} (hl : A.length = 2 * n) : A.Perm (pool n) ↔ ∀ t ∈ upto 1 n, A.countP (fun z => decide (z = t)) = 2 := by
  constructor
  · intro p t ht
    have := mem_upto.mp ht
    rw [p.countP_eq, count_pool, if_pos (by omega)]
  · intro h
    have fl := filt_len A n h
    rw [← hl] at fl
    have all := List.countP_eq_length.mp fl
    rw [List.perm_iff_count]
    intro a
    have c1 : ∀ l : List Int, List.count a l = l.countP fun z => decide (z = a) := fun l => by
      unfold List.count
      congr 1
    rw [c1, c1, count_pool]
    by_cases q : 1 ≤ a ∧ a ≤ (n : Int)
    · rw [if_pos q]
      exact h a (mem_upto.mpr (by omega))
    · rw [if_neg q]
      refine List.countP_eq_zero.mpr fun z hz => ?_
      have := of_decide_eq_true (all z hz)
      intro e
      rw [of_decide_eq_true e] at this
      exact q this
theorem isS_eq (ts : List PyData) : isS (.list ts) = ((decide (2 ≤ ts.length ∧ ts.length ≤ 12 ∧ ts.length % 2 = 0) && ts.all isTri) && (upto 1 (ts.length / 2 * 3)).all fun t => decide ((tiesD ts).countP (fun z => decide (z = t)) = 2)) := rfl
theorem isS_len {ts : List PyData} (h : ¬ (2 ≤ ts.length ∧ ts.length ≤ 12 ∧ ts.length % 2 = 0)) : isS (.list ts) = false := by
  rw [isS_eq, decide_eq_false h]; rfl
theorem isS_tri {ts : List PyData} (h : ts.all isTri = false) : isS (.list ts) = false := by
  rw [isS_eq, h, Bool.and_false]; rfl
theorem isS_full {ts : List PyData} (h : 2 ≤ ts.length ∧ ts.length ≤ 12 ∧ ts.length % 2 = 0) (h2 : ts.all isTri = true) : isS (.list ts) = (upto 1 (ts.length / 2 * 3)).all fun t => decide ((tiesD ts).countP (fun z => decide (z = t)) = 2) := by
  rw [isS_eq, decide_eq_true h, h2]; rfl
theorem isS_perm {ts : List PyData} (h : 2 ≤ ts.length ∧ ts.length ≤ 12 ∧ ts.length % 2 = 0) (h2 : ts.all isTri = true) : isS (.list ts) = true ↔ (tiesD ts).Perm (pool (ts.length / 2 * 3)) := by
  rw [isS_full h h2, perm_pool (by rw [ties_len h2]; omega), List.all_eq_true]
  constructor
  · exact fun q t ht => of_decide_eq_true (q t ht)
  · exact fun q t ht => decide_eq_true (q t ht)
theorem tri_dT {t : List Int} (h : t.length = 3) : isTri (dT t) = true := by
  show (decide ((t.map PyData.int).length = 3) && (t.map PyData.int).all wholeD) = true
  rw [List.length_map, decide_eq_true h, Bool.true_and, List.all_eq_true]
  intro x hx
  obtain ⟨i, _, rfl⟩ := List.mem_map.mp hx
  rfl
theorem ties_dT : ∀ S : List (List Int), tiesD (S.map dT) = S.flatten.map absI
  | [] => rfl
  | t :: S => by
    have ih := ties_dT S
    unfold tiesD at ih ⊢
    rw [List.map_cons, List.map_cons, List.flatten_cons, List.flatten_cons, List.map_append, ih]
    congr 1
    show ((t.map PyData.int).map intD).map absI = t.map absI
    rw [List.map_map, List.map_map]
    rfl
theorem TuL.th {H : Hp} {xs : List V} {us : List (List Int)} (h : TuL H xs us) : ThL H xs (us.map dT) := by
  refine ⟨by rw [List.length_map]; exact h.1, fun i x d h1 h2 => ?_⟩
  rw [List.getElem?_map] at h2
  cases z : us[i]? with
  | none => rw [z] at h2; cases h2
  | some u =>
    rw [z] at h2
    cases h2
    obtain ⟨a, rfl, ha⟩ := h.2 i x u h1 z
    exact (ThL.ints u).tup ha
end L2
set_option Elab.async false
set_option linter.all false
set_option maxRecDepth 100000
set_option maxHeartbeats 1000000
set_option linter.all false
set_option Elab.async false
set_option linter.all false
set_option maxRecDepth 100000
set_option maxHeartbeats 1000000
set_option Elab.async false
set_option linter.all false
set_option maxRecDepth 100000
set_option maxHeartbeats 1000000
set_option Elab.async false
set_option linter.all false
set_option maxRecDepth 100000
set_option maxHeartbeats 1000000
set_option Elab.async false
set_option linter.all false
set_option maxRecDepth 100000
set_option maxHeartbeats 1000000
set_option Elab.async false
set_option linter.all false
set_option maxRecDepth 100000
set_option maxHeartbeats 1000000
namespace L2
open PySem PySem.Spec PyProof.Rows
theorem Same.nw {p : Addr} {H H' : Hp} {o : HO} (a : Same H H') (h : H' p = none) : Same H (upd H' p o) := fun c u e => by
  have := a c u e
  rw [upd_ne (ne_of_none this h)]; exact this
end L2
set_option Elab.async false
set_option linter.all false
set_option maxRecDepth 100000
set_option maxHeartbeats 1000000
namespace L2
open PySem PySem.Spec PyProof.Rows
theorem TuL.take {H : Hp} {xs : List V} {us : List (List Int)} (h : TuL H xs us) {i : Nat} {x : V} (e : xs[i]? = some x) : ∃ u a, us[i]? = some u ∧ x = .ref a ∧ H a = some (.tup (u.map V.int)) := by
  have il : i < us.length := by rw [← h.1]; exact (List.getElem?_eq_some_iff.mp e).1
  obtain ⟨a, ea, ha⟩ := h.2 i x _ e (List.getElem?_eq_getElem il)
  exact ⟨us[i], a, List.getElem?_eq_getElem il, ea, ha⟩
end L2
set_option Elab.async false
set_option linter.all false
set_option maxRecDepth 100000
set_option maxHeartbeats 1000000
set_option Elab.async false
set_option linter.all false
set_option maxRecDepth 100000
set_option maxHeartbeats 1000000
set_option Elab.async false
set_option linter.all false
set_option maxRecDepth 100000
set_option maxHeartbeats 1000000
set_option Elab.async false
set_option linter.all false
set_option maxRecDepth 100000
set_option maxHeartbeats 1000000
set_option Elab.async false
set_option linter.all false
set_option maxRecDepth 100000
set_option maxHeartbeats 1000000
set_option Elab.async false
set_option linter.all false
set_option maxRecDepth 100000
set_option maxHeartbeats 1000000
namespace L2
open PySem PySem.Spec PyProof.Rows
theorem perm_uniB {α : Type} {lt : α → α → Bool} (tot : ∀ {x y : α}, lt x y = false → lt y x = false → x = y) : ∀ (a b : List α), a.Perm b → a.Pairwise (fun x y => lt y x = false) → b.Pairwise (fun x y => lt y x = false) → a = b
  | [], b, p, _, _ => p.nil_eq
  | x :: a, [], p, _, _ => absurd p.length_eq (by simp)
  | x :: a, y :: b, p, h1, h2 => by
    obtain ⟨u1, u2⟩ := List.pairwise_cons.mp h1
    obtain ⟨v1, v2⟩ := List.pairwise_cons.mp h2
    have e : x = y := by
      have m1 : x ∈ y :: b := p.subset List.mem_cons_self
      have m2 : y ∈ x :: a := p.symm.subset List.mem_cons_self
      rcases List.mem_cons.mp m1 with q | q
      · exact q
      rcases List.mem_cons.mp m2 with r | r
      · exact r.symm
      exact tot (v1 x q) (u1 y r)
    subst e
    rw [perm_uniB tot a b p.cons_inv u2 v2]
end L2
set_option Elab.async false
set_option linter.all false
set_option maxRecDepth 100000
set_option maxHeartbeats 1000000
set_option Elab.async false
set_option linter.all false
set_option maxRecDepth 100000
set_option maxHeartbeats 1000000
namespace L2
open PySem PySem.Spec PyProof.Rows
theorem ixN_nat {n j : Nat} (h : j < n) : ixN n (j : Int) = some j := by
  unfold ixN
  rw [if_pos (by omega)]
  first
    | (rw [if_pos (by omega)]; simp)
    | (simp; omega)
end L2
set_option Elab.async false
set_option linter.all false
set_option maxRecDepth 100000
set_option maxHeartbeats 1000000
set_option Elab.async false
set_option linter.all false
set_option maxRecDepth 100000
set_option maxHeartbeats 1000000
namespace L2
open PySem PySem.Spec PyProof.Rows
def spTiesZ (K : PySem.W.Frag) : Sp := fun vs H Q _ => ∃ (a : Addr) (xs : List V), vs = [.ref a] ∧ SqL K H a xs ∧ Q (.int ((xs.length / 2 * 3 : Nat) : Int)) H
end L2
set_option Elab.async false
set_option linter.all false
set_option maxRecDepth 100000
set_option maxHeartbeats 1000000
set_option Elab.async false
set_option linter.all false
set_option maxRecDepth 100000
set_option maxHeartbeats 1000000
namespace L2
open PySem PySem.Spec PyProof.Rows
def isDg (c : Nat) : Bool := decide (c ∈ ("0123456789" : Str).cps.toList)
def bareS (w : Str) : Str := if Txt.startswith w "-" = true then subS w 1 w.length else w
def digsB (b : Str) : Bool := decide (1 ≤ b.length ∧ b.length ≤ 60) && b.cps.toList.all isDg
def isNum (w : Str) : Bool := digsB (bareS w) && ((bareS w).cps.toList.head? != some 48 || decide (w = "0"))
def numI (w : Str) : Int := (PySem.intText? w).getD 0
theorem dg_of {c : Nat} (h : isDg c = true) : 48 ≤ c ∧ c ≤ 57 := by
  have h := of_decide_eq_true h
  have e : ("0123456789" : Str).cps.toList = [48, 49, 50, 51, 52, 53, 54, 55, 56, 57] := by decide +kernel
  rw [e] at h
  simp only [List.mem_cons, List.not_mem_nil, or_false] at h
  omega
theorem str_ext {a b : Str} (h : a.cps.toList = b.cps.toList) : a = b := by
  obtain ⟨⟨a⟩⟩ := a
  obtain ⟨⟨b⟩⟩ := b
  simp at h
  rw [h]
theorem len_list (w : Str) : w.length = w.cps.toList.length := by simp [Str.length]
theorem minus_cps : ("-" : Str).cps.toList = [45] := by decide +kernel
theorem starts_minus (w : Str) : Txt.startswith w "-" = decide (w.cps.toList.head? = some 45) := by
  have e1 : ("-" : Str).length = 1 := by decide +kernel
  have e2 : ("-" : Str).cps = #[45] := by decide +kernel
  unfold Txt.startswith Builtin.Str.subAt
  rw [e1, e2]
  obtain ⟨⟨l⟩⟩ := w
  cases l with
  | nil => rfl
  | cons c l =>
    have : decide (0 + 1 ≤ Str.length ⟨⟨c :: l⟩⟩) = true := decide_eq_true (by simp [Str.length])
    rw [this]
    simp
    exact Bool.beq_eq_decide_eq _ _
theorem bare_pos {w : Str} (h : Txt.startswith w "-" = true) : 1 ≤ w.length ∧ ∃ cs, w.cps.toList = 45 :: cs ∧ (subS w 1 w.length).cps.toList = cs := by
  rw [starts_minus] at h
  have h := of_decide_eq_true h
  cases e : w.cps.toList with
  | nil => rw [e] at h; cases h
  | cons c cs =>
    rw [e] at h
    cases h
    refine ⟨by rw [len_list, e]; simp, cs, rfl, ?_⟩
    unfold subS
    rw [List.toList_toArray, e, len_list, e]
    simp
theorem num_val {w : Str} (h : isNum w = true) (hl : w.length ≤ 4000) : PySem.intText? w = some (numI w) ∧ w.length ≤ 61 := by
  unfold isNum digsB at h
  rw [Bool.and_eq_true, Bool.and_eq_true] at h
  obtain ⟨⟨h1, h2⟩, _⟩ := h
  have h1 := of_decide_eq_true h1
  have ad : PySem.NumText.AllDigits (bareS w).cps.toList := fun d hd => dg_of (List.all_eq_true.mp h2 d hd)
  have ne : (bareS w).cps.toList ≠ [] := fun z => by rw [len_list, z] at h1; exact absurd h1.1 (by decide)
  have key : ∃ n, PySem.intText? w = some n := by
    by_cases hs : Txt.startswith w "-" = true
    · obtain ⟨hp, cs, e1, e2⟩ := bare_pos hs
      have eb : bareS w = subS w 1 w.length := by unfold bareS; rw [if_pos hs]
      rw [eb, e2] at ad ne
      exact ⟨_, PySem.intText_neg e1 ad ne (by omega)⟩
    · have eb : bareS w = w := by unfold bareS; rw [if_neg hs]
      rw [eb] at ad ne
      exact ⟨_, PySem.intText_digits ad ne (by omega)⟩
  obtain ⟨n, hn⟩ := key
  refine ⟨by unfold numI; rw [hn]; rfl, ?_⟩
  by_cases hs : Txt.startswith w "-" = true
  · obtain ⟨hp, cs, e1, e2⟩ := bare_pos hs
    have eb : bareS w = subS w 1 w.length := by unfold bareS; rw [if_pos hs]
    rw [eb, len_list, e2] at h1
    rw [len_list, e1, List.length_cons]
    omega
  · have eb : bareS w = w := by unfold bareS; rw [if_neg hs]
    rw [eb] at h1
    omega
def tDigs (K : PySem.W.Frag) : TT := (tOr (tNot (tTest (tChain (rI0 fun i j => V.bl (decide (i ≤ j))) (rI0 fun i j => V.bl (decide (i ≤ j))) (tC (V.int 1)) (tCB (fun xs H Q => ∃ z, xs = [V.str z] ∧ z.length ≤ sizeLine ∧ Q (V.int (z.length : Int)) H) (tCons (tVar 1) tNil)) (tC (V.int 60))))) (tNot (tB (tCB (fun xs H_1 Q => ∃ p bs, xs = [V.ref p] ∧ SqL K H_1 p (List.map V.bl bs) ∧ Q (V.bl (bs.all id)) H_1) (tCons (tCompG 1 (iStr (tVar 1)) (gName 0) tYes (tOp (fun x y H Q => ∃ i j, x = V.str i ∧ y = V.str j ∧ Q (V.bl (!(Builtin.Str.occurrences j i 0 j.length 1).isEmpty)) H) (tVar 0) (tC (V.str ("0123456789"))))) tNil)))))
theorem digs_reads {K : PySem.W.Frag} {H : Hp} {Q : Bool → Hp → Prop} {b : Str} {σ : L2.St} (e1 : σ[1]? = some (some (.str b))) (bl : b.length ≤ 1000) (k : ∀ H', Same H H' → Q (!digsB b) H') : tDigs K σ H Q := by
  have bs : b.length ≤ sizeLine := Nat.le_trans bl (by decide)
  have cs : b.cps.size = b.length := rfl
  refine ⟨_, e1, b, rfl, bs, 1, (b.length : Int), rfl, rfl, ?_⟩
  refine ⟨_, rfl, ?_⟩
  have rest : ∀ (h1 : 1 ≤ b.length ∧ b.length ≤ 60), tNot (tB (tCB (fun xs H_1 Q => ∃ p bs, xs = [V.ref p] ∧ SqL K H_1 p (List.map V.bl bs) ∧ Q (V.bl (bs.all id)) H_1) (tCons (tCompG 1 (iStr (tVar 1)) (gName 0) tYes (tOp (fun x y H Q => ∃ i j, x = V.str i ∧ y = V.str j ∧ Q (V.bl (!(Builtin.Str.occurrences j i 0 j.length 1).isEmpty)) H) (tVar 0) (tC (V.str "0123456789")))) tNil))) σ H Q := fun h1 => by
    refine ⟨_, e1, b, rfl, compX (x := b) (fun n ys H' => ys = ((b.cps.toList.take n).map isDg).map V.bl ∧ H = H') ⟨rfl, rfl⟩ (by omega) (fun n ys H' h => by rw [h.1, List.length_map, List.length_map, List.length_take]; exact Nat.min_le_left _ _) ?_ ?_⟩
    · rintro n c ys H' pre hpl hc ⟨rfl, rfl⟩
      have hc' : b.cps.toList[n]? = some c := by rw [Array.getElem?_toList]; exact hc
      rcases pre with _ | ⟨q0, _ | ⟨q1, pre⟩⟩
      · cases hpl
      · refine ⟨⟨[some _], rfl, rfl⟩, ?_⟩
        unfold tYes
        dsimp only
        rw [if_pos (rfl : true = true)]
        refine ⟨_, rfl, _, _, rfl, rfl, ?_, rfl⟩
        rw [StrLaws.found_one, take_succ' hc', List.map_append, List.map_append]
        rfl
      · cases hpl
    · rintro ys H' ⟨rfl, rfl⟩ D hD
      have e : b.cps.toList.take b.cps.size = b.cps.toList := List.take_of_length_le (by simp)
      rw [e]
      refine ⟨D, _, rfl, SqL.of upd_same, _, rfl, ?_⟩
      have := k _ (Same.nw (o := .lst ((b.cps.toList.map isDg).map V.bl)) (Same.refl H) hD)
      unfold digsB at this
      rw [decide_eq_true h1, Bool.true_and] at this
      show Q (!((b.cps.toList.map isDg).all id)) _
      rw [show ((b.cps.toList.map isDg).all id) = b.cps.toList.all isDg by rw [List.all_map]; rfl]
      exact this
  by_cases c1 : 1 ≤ b.length
  · rw [decide_eq_true (show (1 : Int) ≤ (b.length : Int) by omega)]
    refine iteT ⟨(b.length : Int), 60, rfl, rfl, _, rfl, ?_⟩
    by_cases c2 : b.length ≤ 60
    · rw [decide_eq_true (show (b.length : Int) ≤ 60 by omega)]
      exact iteF (rest ⟨c1, c2⟩)
    · rw [decide_eq_false (show ¬ (b.length : Int) ≤ 60 by omega)]
      have := k H (Same.refl H)
      unfold digsB at this
      rw [decide_eq_false (fun z => c2 z.2)] at this
      exact iteT this
  · rw [decide_eq_false (show ¬ (1 : Int) ≤ (b.length : Int) by omega)]
    have := k H (Same.refl H)
    unfold digsB at this
    rw [decide_eq_false (fun z => c1 z.1)] at this
    exact iteF ⟨_, rfl, iteT this⟩
def spIsNum : Sp := fun vs H Q _ => ∃ w : Str, vs = [.str w] ∧ w.length ≤ 1000 ∧ ∀ H', Same H H' → Q (.bl (isNum w)) H'
def tIsNum (K : PySem.W.Frag) : TS := tSeq (tAsg (tIf (tB (tBM K "str" (fun x vs H Q => ∃ z y, x = V.str z ∧ vs = [V.str y] ∧ Q (V.bl (Txt.startswith z y)) H) (tVar 0) (tCons (tC (V.str ("-"))) tNil))) (tSl rSlS (tVar 0) (tPart (tC (V.int 1))) tNoPart) (tVar 0)) (gName 1)) (tSeq (tIfS (tDigs K) (tRet (tC (V.bl false))) tNext) (tRet (tOrV (tOp rNe (tOp rIxS (tVar 1) (tC (V.int 0))) (tC (V.str ("0")))) (tOp rEq (tVar 0) (tC (V.str ("0")))))))
theorem zero_cps : ("0" : Str) = ⟨#[48]⟩ := by decide +kernel
theorem first_is {b : Str} {c : Nat} (h : b.cps.toList.head? = some c) : atI b.cps.toList 0 = some c := atI_nat (j := 0) (by rw [← List.head?_eq_getElem?]; exact h)
theorem one_ne {c : Nat} : decide (V.str ⟨#[c]⟩ = V.str "0") = decide (c = 48) := by
  rw [zero_cps]
  by_cases h : c = 48
  · subst h; rw [decide_eq_true rfl, decide_eq_true rfl]
  · rw [decide_eq_false h, decide_eq_false (fun z => h (by injection z with z; injection z with z; simpa using z))]
theorem head_of {b : Str} (h : digsB b = true) : ∃ c, b.cps.toList.head? = some c := by
  unfold digsB at h
  rw [Bool.and_eq_true] at h
  have h1 := of_decide_eq_true h.1
  cases e : b.cps.toList with
  | nil => rw [len_list, e] at h1; exact absurd h1.1 (by decide)
  | cons c cs => exact ⟨c, rfl⟩
theorem bare_len (w : Str) : (bareS w).length ≤ w.length := by
  unfold bareS
  split
  · unfold subS
    rw [len_list, List.toList_toArray, List.length_take, List.length_drop, ← len_list]
    omega
  · exact Nat.le_refl _
theorem isnum_reads {K : PySem.W.Frag} {H : Hp} {Q : VK} {Z : L2.St → Hp → Prop} {w : Str} (wl : w.length ≤ 1000) (k : ∀ H', Same H H' → Q (.bl (isNum w)) H') : tIsNum K { nx := Z, rt := Q } [some (.str w), none] H := by
  have ws : w.length ≤ sizeLine := Nat.le_trans wl (by decide)
  have rest : tSeq (tIfS (tDigs K) (tRet (tC (V.bl false))) tNext) (tRet (tOrV (tOp rNe (tOp rIxS (tVar 1) (tC (V.int 0))) (tC (V.str "0"))) (tOp rEq (tVar 0) (tC (V.str "0"))))) { nx := Z, rt := Q } [some (.str w), some (.str (bareS w))] H := by
    refine digs_reads (K := K) (b := bareS w) rfl (Nat.le_trans (bare_len w) wl) fun H1 s1 => ?_
    have := k H1 s1
    unfold isNum at this
    cases hd : digsB (bareS w) with
    | false => rw [hd] at this; exact iteT this
    | true =>
      rw [hd, Bool.true_and] at this
      obtain ⟨c, hc⟩ := head_of hd
      refine iteF ?_
      refine ⟨_, rfl, bareS w, 0, c, rfl, rfl, Nat.le_trans (bare_len w) ws, first_is hc, rfl, _, rfl, ?_⟩
      rw [one_ne]
      rw [hc] at this
      by_cases c0 : c = 48
      · subst c0
        rw [decide_eq_true rfl]
        refine iteF ⟨_, rfl, rfl, ?_⟩
        rw [show (some 48 != some (48 : Nat)) = false from rfl, Bool.false_or] at this
        rw [show decide (V.str w = V.str "0") = decide (w = "0") by by_cases z : w = "0" <;> simp [z]]
        exact this
      · rw [decide_eq_false c0]
        rw [show (some c != some 48) = true by simpa using c0, Bool.true_or] at this
        exact iteT this
  refine ⟨_, rfl, rfl, w, "-", rfl, rfl, _, rfl, ?_⟩
  by_cases hs : Txt.startswith w "-" = true
  · rw [hs]
    obtain ⟨hp, _⟩ := bare_pos hs
    refine iteT ⟨_, rfl, 1, rfl, w, 1, w.length, rfl, .inr ⟨1, rfl, by omega⟩, .inl ⟨rfl, rfl⟩, hp, ws, ?_⟩
    have eb : bareS w = subS w 1 w.length := by unfold bareS; rw [if_pos hs]
    rw [eb] at rest
    exact rest
  · rw [Bool.eq_false_iff.mpr hs]
    have eb : bareS w = w := by unfold bareS; rw [if_neg hs]
    rw [eb] at rest
    exact iteF ⟨_, rfl, rest⟩
def figV (w : Str) : V := if isNum w = true then .int (numI w) else .non
def spFig : Sp := fun vs H Q _ => ∃ w : Str, vs = [.str w] ∧ w.length ≤ 1000 ∧ ∀ H', Same H H' → Q (figV w) H'
def tFig (K : PySem.W.Frag) : TS := tSeq (tAsg (tSl rSlS (tVar 0) (tPart (tCB (fun xs H Q => (∃ i, xs = [V.int i] ∧ Q (V.int i) H) ∨ ∃ k, xs = [V.bl k] ∧ Q (V.int (if k = true then 1 else 0)) H) (tCons (tOp rEq (tSl rSlS (tVar 0) tNoPart (tPart (tC (V.int 1)))) (tC (V.str ("-")))) tNil))) tNoPart) (gName 1)) (tSeq (tIfS (tDigs K) (tRet (tC V.non)) tNext) (tSeq (tIfS (tAnd (tTest (tOp rEq (tOp rIxS (tVar 1) (tC (V.int 0))) (tC (V.str ("0"))))) (tTest (tOp rNe (tVar 0) (tC (V.str ("0")))))) (tRet (tC V.non)) tNext) (tRet (tCB (fun xs H Q => ∃ z n, xs = [V.str z] ∧ intText? z = some n ∧ z.length ≤ 640 ∧ Q (V.int n) H) (tCons (tVar 0) tNil)))))
theorem sub_one (w : Str) : decide (V.str (subS w 0 (min 1 w.length)) = V.str "-") = Txt.startswith w "-" := by
  rw [starts_minus]
  have key : (V.str (subS w 0 (min 1 w.length)) = V.str "-") ↔ w.cps.toList.head? = some 45 := by
    constructor
    · intro h
      injection h with h
      have h2 := congrArg (fun s : Str => s.cps.toList) h
      have e : (subS w 0 (min 1 w.length)).cps.toList = w.cps.toList.take (min 1 w.length) := by unfold subS; rw [List.toList_toArray]; simp
      have h2 : (subS w 0 (min 1 w.length)).cps.toList = ("-" : Str).cps.toList := h2
      rw [e, minus_cps] at h2
      cases e3 : w.cps.toList with
      | nil => rw [e3] at h2; simp at h2
      | cons c cs =>
        rw [e3, len_list, e3] at h2
        simp at h2
        rw [h2]; rfl
    · intro h
      congr 1
      refine str_ext ?_
      have e : (subS w 0 (min 1 w.length)).cps.toList = w.cps.toList.take (min 1 w.length) := by unfold subS; rw [List.toList_toArray]; simp
      rw [e, minus_cps]
      cases e3 : w.cps.toList with
      | nil => rw [e3] at h; cases h
      | cons c cs =>
        rw [e3] at h
        cases h
        rw [len_list, e3]
        simp
  by_cases h : w.cps.toList.head? = some 45
  · rw [decide_eq_true h, decide_eq_true (key.mpr h)]
  · rw [decide_eq_false h, decide_eq_false (fun z => h (key.mp z))]
theorem fig_reads {K : PySem.W.Frag} {H : Hp} {Q : VK} {Z : L2.St → Hp → Prop} {w : Str} (wl : w.length ≤ 1000) (k : ∀ H', Same H H' → Q (figV w) H') : tFig K { nx := Z, rt := Q } [some (.str w), none] H := by
  have ws : w.length ≤ sizeLine := Nat.le_trans wl (by decide)
  have rest : tSeq (tIfS (tDigs K) (tRet (tC V.non)) tNext) (tSeq (tIfS (tAnd (tTest (tOp rEq (tOp rIxS (tVar 1) (tC (V.int 0))) (tC (V.str "0")))) (tTest (tOp rNe (tVar 0) (tC (V.str "0"))))) (tRet (tC V.non)) tNext) (tRet (tCB (fun xs H Q => ∃ z n, xs = [V.str z] ∧ intText? z = some n ∧ z.length ≤ 640 ∧ Q (V.int n) H) (tCons (tVar 0) tNil)))) { nx := Z, rt := Q } [some (.str w), some (.str (bareS w))] H := by
    refine digs_reads (K := K) (b := bareS w) rfl (Nat.le_trans (bare_len w) wl) fun H1 s1 => ?_
    have := k H1 s1
    unfold figV at this
    cases hd : digsB (bareS w) with
    | false =>
      have en : isNum w = false := by unfold isNum; rw [hd]; rfl
      rw [en] at this
      exact iteT this
    | true =>
      obtain ⟨c, hc⟩ := head_of hd
      refine iteF ?_
      refine ⟨_, rfl, bareS w, 0, c, rfl, rfl, Nat.le_trans (bare_len w) ws, first_is hc, rfl, _, rfl, ?_⟩
      rw [one_ne]
      have fin : isNum w = true → tRet (tCB (fun xs H Q => ∃ z n, xs = [V.str z] ∧ intText? z = some n ∧ z.length ≤ 640 ∧ Q (V.int n) H) (tCons (tVar 0) tNil)) { nx := Z, rt := Q } [some (.str w), some (.str (bareS w))] H1 := fun en => by
        rw [en, if_pos rfl] at this
        obtain ⟨v1, v2⟩ := num_val en (by omega)
        exact ⟨_, rfl, w, numI w, rfl, v1, by omega, this⟩
      by_cases c0 : c = 48
      · subst c0
        rw [decide_eq_true rfl]
        refine iteT ⟨_, rfl, rfl, _, rfl, ?_⟩
        rw [show decide (V.str w = V.str "0") = decide (w = "0") by by_cases z : w = "0" <;> simp [z]]
        by_cases z : w = "0"
        · rw [decide_eq_true z]
          refine iteF (fin ?_)
          unfold isNum
          rw [hd, decide_eq_true z]
          simp
        · rw [decide_eq_false z]
          have en : isNum w = false := by unfold isNum; rw [hd, hc, decide_eq_false z]; rfl
          rw [en] at this
          exact iteT this
      · rw [decide_eq_false c0]
        refine iteF (iteF (fin ?_))
        unfold isNum
        rw [hd, hc, show (some c != some 48) = true by simpa using c0]
        rfl
  refine ⟨_, rfl, _, rfl, 1, rfl, w, 0, min 1 w.length, rfl, .inl ⟨rfl, rfl⟩, .inr ⟨1, rfl, rfl⟩, Nat.zero_le _, ws, rfl, .inr ⟨_, rfl, _, rfl, w, if Txt.startswith w "-" = true then 1 else 0, w.length, rfl, .inr ⟨if Txt.startswith w "-" = true then 1 else 0, ?_, ?_⟩, .inl ⟨rfl, rfl⟩, ?_, ws, ?_⟩⟩
  · rw [sub_one]
    split <;> rfl
  · split
    · have := (bare_pos (by assumption)).1; omega
    · omega
  · split
    · exact (bare_pos (by assumption)).1
    · exact Nat.zero_le _
  · have eb : subS w (if Txt.startswith w "-" = true then 1 else 0) w.length = bareS w := by
      unfold bareS
      split
      · rfl
      · refine str_ext ?_
        unfold subS
        rw [List.toList_toArray, List.drop_zero, Nat.sub_zero]
        exact List.take_of_length_le (by rw [len_list]; exact Nat.le_refl _)
    rw [eb]
    exact rest
end L2
set_option Elab.async false
set_option linter.all false
set_option maxRecDepth 100000
set_option maxHeartbeats 1000000
namespace L2
open PySem PySem.Spec PyProof.Rows
structure XCls (K : PySem.W.Frag) (C : Addr) : Prop where
  ga : PySem.W.findIn K (.ref C) "__getattribute__" = some (some (.builtin "BaseException.__getattribute__"))
  na : PySem.W.findIn K (.ref C) "__getattr__" = some none
  cl : PySem.W.findIn K (.ref C) "__class__" = some (some (.builtin "object.__class__"))
  be : PySem.W.subIn K (.ref C) (.type "BaseException") = some true
  ob : PySem.W.subIn K (.ref C) (.type "object") = some true
  ty : PySem.W.typeIn K (.ref C) = some (.type "type")
  co : (PySem.W.clsIn K C).isSome = true
  rf : PySem.W.subIn K (.ref C) (.ref C) = some true
section
variable {prog : Program} {w : World} {A : Around} {E : Value → Shared → Prop} {h : Heap} {g : Array GenState} {d : Drawn} {t : Nat} {os : OsState} {a C : Addr} {o : Obj} {K : PySem.W.Frag}
theorem xc_get {R : Result → Shared → Prop} (X : K.In h) (c : XCls K C) (hx : h.get? a = some o) (hc : o.cls = .ref C) (hq : R (.ok (.ret (.ref C))) ⟨h, g, d, t, os⟩) :
    codeAny (model prog w) A (.call (.builtin "getset_descriptor.__get__") ⟨[.builtin "object.__class__", .ref a, .ref C], []⟩) R ⟨h, g, d, t, os⟩ := by
  have hT5 : (⟨h, g, d, t, os⟩ : Shared).TypeIs (.builtin "object.__class__") "getset_descriptor" := F.typeOf_object_class
  have hs : PySem.W.Looks (model prog w) h (isSubtype (.ref C) (.type (".".intercalate ("object.__class__".cutAt '.').dropLast))) true := by
    rw [F.owner_object_class]
    exact PySem.W.looks_subIn X c.ob
  refine codeAny_call_builtin F.slot_gs_get.plain F.entry_gs_get (F.slot_gs_get.check _ _ _ _ _ _ _ _ hT5 (F.args_gs_get _ _ _) ?_)
  repeat (any_goals (first | assumption | (with_reducible refine wpAny_loadPart_at hx ?_; rw [hc]) | with_reducible refine hs.at ?_ | wp_step))
  refine ⟨Code.quiet_builtin _ (by decide +kernel), codeAny_builtin F.entry_object_class ?_⟩
  repeat (any_goals (first | assumption | (with_reducible refine wpAny_loadPart_at hx ?_; rw [hc]) | wp_step))
theorem xc_entry {tk : Tok} {Q : Fin → Shared → Prop} (X : K.In h) (c : XCls K C) (hx : h.get? a = some o) (hc : o.cls = .ref C) (hq : Q (.done (.ret (.ref C))) ⟨h, g, d, t, os⟩) :
    wpAny (model prog w) A (Builtin.«object.__getattribute__» ⟨[.ref a, .str "__class__" tk], []⟩) Q E ⟨h, g, d, t, os⟩ := by
  have hT5 : (⟨h, g, d, t, os⟩ : Shared).TypeIs (.builtin "object.__class__") "getset_descriptor" := F.typeOf_object_class
  have f4 : PySem.W.Looks (model prog w) h (typeLookup (.ref C) "__class__") _ := PySem.W.looks_findIn X c.cl
  have f5 := F.typeOf_object_class
  have f6 := F.slot_gs_get.lookup
  have f7 := F.slot_gs_set.lookup
  repeat (any_goals (first | assumption | (with_reducible refine wpAny_loadPart_at hx ?_; rw [hc]) | with_reducible refine f4.at ?_ | wp_step))
  refine xc_get X c hx hc ?_
  repeat (any_goals (first | assumption | wp_step))
theorem xc_check {M : Model} {nameV : Value} {Q : Unit → Shared → Prop} (X : K.In h) (c : XCls K C) (hx : h.get? a = some o) (hc : o.cls = .ref C) (hq : Q () ⟨h, g, d, t, os⟩) : wpAny M A (checkBuiltinCall "BaseException.__getattribute__" ⟨[.ref a, nameV], []⟩) Q E ⟨h, g, d, t, os⟩ := by
  have hk : builtinKind "BaseException.__getattribute__" = some .slot := by decide +kernel
  have hsplit : splitId "BaseException.__getattribute__" = some ("BaseException", "__getattribute__") := by decide +kernel
  have hs : PySem.W.Looks M h (isSubtype (.ref C) (.type "BaseException")) true := PySem.W.looks_subIn X c.be
  have ha := F.args_bexc_ga (.ref a) nameV
  simp only [checkBuiltinCall, hk, hsplit]
  refine wpAny_bind ?_
  · unfold isInstance
    repeat (first | (with_reducible refine wpAny_loadPart_at hx ?_; rw [hc]) | with_reducible refine hs.at ?_ | wp_step)
    exact hq
theorem xc_call {tk : Tok} {R : Result → Shared → Prop} (X : K.In h) (c : XCls K C) (hx : h.get? a = some o) (hc : o.cls = .ref C) (hq : R (.ok (.ret (.ref C))) ⟨h, g, d, t, os⟩) :
    codeAny (model prog w) A (.call (.builtin "BaseException.__getattribute__") ⟨[.ref a, .str "__class__" tk], []⟩) R ⟨h, g, d, t, os⟩ :=
  codeAny_call_builtin (PySem.F.attr_ValueError).ga.plain F.entry_bexc_ga (xc_check X c hx hc (xc_entry X c hx hc hq))
theorem xc_by {tk : Tok} {Q : Value → Shared → Prop} (X : K.In h) (c : XCls K C) (hx : h.get? a = some o) (hc : o.cls = .ref C) (hq : Q (.ref C) ⟨h, g, d, t, os⟩) :
    wpAny (model prog w) A (getAttrBy (.ref a) (.str "__class__" tk) false) Q E ⟨h, g, d, t, os⟩ := by
  have f3 := (PySem.F.attr_ValueError).ga.bind (.ref a)
  have hx2 : (Value.builtin "BaseException.__getattribute__" == Value.builtin "object.__getattribute__") = false := by decide +kernel
  have hx1 : (onTheHeap (Value.ref C) && Value.builtin "BaseException.__getattribute__" == Value.builtin "object.__getattribute__") = false := by rw [hx2]; rfl
  have f1 : PySem.W.Looks (model prog w) h (typeLookup (.ref C) "__getattribute__") _ := PySem.W.looks_findIn X c.ga
  have f2 : PySem.W.Looks (model prog w) h (typeLookup (.ref C) "__getattr__") _ := PySem.W.looks_findIn X c.na
  repeat (any_goals (first | assumption | (with_reducible refine wpAny_loadPart_at hx ?_; rw [hc]) | with_reducible refine f1.at ?_ | with_reducible refine f2.at ?_ | wp_step))
  refine xc_call X c hx hc ?_
  repeat (any_goals (first | assumption | wp_step))
theorem xc_attr {Q : Option Value → Shared → Prop} (X : K.In h) (c : XCls K C) (hx : h.get? a = some o) (hc : o.cls = .ref C) (hq : Q (some (.ref C)) ⟨h, g, d, t + 1, os⟩) : wpAny (model prog w) A (getAttr? (.ref a) "__class__") Q E ⟨h, g, d, t, os⟩ := by
  unfold getAttr? getAttrBy?
  repeat (any_goals (first | assumption | with_reducible apply xc_by X c hx hc | wp_step))
end
theorem kitx_exc {K : PySem.W.Frag} {a C : Addr} (c : XCls K C) : PySem.W.KitX K (.ref a) (.ref C) (fun h => ∃ o, h.get? a = some o ∧ o.cls = .ref C) where
  ty := fun M h _ ⟨o, h1, h2⟩ => h2 ▸ (PySem.W.Looks.ld h1).andThen .now
  it := fun M h X _ => by
    have z := c.co
    unfold PySem.W.clsIn at z
    split at z
    · rename_i c' d' cd' sl' ho
      intro A' Q' E' s' k q
      unfold isType loadHead
      exact wpAny_bind (wpAny_loadPart (k _ _ (X _ _ ho)) (wpAny_pure q))
    · cases z
  ne := fun h tp dd its n sl X htp => by
    have z := c.co
    refine Bool.eq_false_iff.mpr fun q => ?_
    have e : C = tp := Value.ref.inj (beq_iff_eq.mp q)
    subst e
    unfold PySem.W.clsIn at z
    split at z
    · rename_i c' d' cd' sl' ho
      have z := (X _ _ ho).symm.trans htp
      cases z
    · cases z
  ca := fun {_ _ _ _ _ s} X ⟨o, h1, h2⟩ k => by
    obtain ⟨h, g, d, t, os⟩ := s
    exact xc_attr X c h1 h2 k
end L2
set_option Elab.async false
set_option linter.all false
set_option maxRecDepth 100000
set_option maxHeartbeats 1000000
namespace L2
open PySem PySem.Spec PyProof.Rows
def CXE (P : Program) (w : World) : CXT := fun outer H s E e s' => ∃ (a C : Addr) (a0 : Value) (B : Heap) (H' : Hp), e = .ref a ∧ s'.os = s.os ∧ AllBare s'.gens ∧ Un (frs outer) [] H H' s.heap s'.heap ∧ HOk P w H' s'.heap ∧
  Heap.FlyingW B outer a (.ref C) a0 s'.heap ∧ (∀ b o, s.heap.get? b = some o → b ∉ frs outer → ∃ o', B.get? b = some o') ∧ (∀ b o, H' b = some o → ∃ o', B.get? b = some o') ∧ E (.ref C) none H'
theorem ObjOk.there {P : Program} {w : World} {H : Hp} {h : Heap} {a : Addr} {o : HO} (x : ObjOk P w H h a o) : ∃ ob, h.get? a = some ob := by
  cases o with
  | lst xs => obtain ⟨_, _, _, _, e⟩ := x; exact ⟨_, e⟩
  | tup xs => obtain ⟨_, _, _, o, e, _⟩ := x; exact ⟨_, e⟩
  | dK kvs => obtain ⟨_, _, _, _, o, _, _, e, _⟩ := x; exact ⟨_, e⟩
  | dT kvs => obtain ⟨_, _, _, _, o, _, _, e, _⟩ := x; exact ⟨_, e⟩
  | set S n => obtain ⟨o, _, _, _, e, _⟩ := x; exact ⟨_, e⟩
  | ins C dx fs => obtain ⟨_, _, _, e, _⟩ := x; exact ⟨_, e⟩
  | own y => exact x
  | xd fs => obtain ⟨_, ⟨_, _, _, e, _⟩, _⟩ := x; exact ⟨_, e⟩
  | rng lo hi => obtain ⟨_, _, _, e⟩ := x; exact ⟨_, e⟩
  | frz ob u => exact ⟨_, x.1⟩
  | tbl ps => exact ⟨_, x⟩
  | met f y => exact ⟨_, x⟩
  | ext φ => exact x.2.1
section
variable {X : Cx} {pins : List (Addr × Obj)} {σ : St} {H1 H' : Hp} {s1 : Shared} {h1 h' B : Heap}
theorem leave_un (I : Inv X pins σ H1 s1) (hex : X.ex = []) (u : Un (frs X.stack) [] H1 H' s1.heap h1) (hok : HOk X.prog X.w H' h1) (b1 : B.StaysIn h1) (b2 : B.StaysIn h') (sm : h1.UpToSlots h')
    (c1 : ∀ b o, s1.heap.get? b = some o → b ∉ frs X.stack → ∃ o', B.get? b = some o') (c2 : ∀ b o, H' b = some o → ∃ o', B.get? b = some o') :
    Un X.fs [] X.H₀ H' X.s₀.heap h' ∧ HOk X.prog X.w H' h' ∧ ∀ b o, X.s₀.heap.get? b = some o → b ∉ X.fs → ∃ o', B.get? b = some o' := by
  have nex : ∀ b : Addr, b ∉ X.ex := fun b z => by rw [hex] at z; cases z
  have c0 : ∀ b o, X.s₀.heap.get? b = some o → b ∉ X.fs → ∃ o', B.get? b = some o' := fun b o e hb => by
    obtain ⟨o1, e1⟩ := I.base.there b o e (nex b)
    refine c1 b o1 e1 fun z => ?_
    rcases List.mem_cons.mp (I.stkSub b z) with q | q
    · exact absurd (Nat.lt_of_lt_of_le (Heap.lt_size e) I.ok.above) (by rw [q]; exact Nat.lt_irrefl _)
    · exact hb q
  have J := (I.call (g' := s1.gens) (t' := s1.toks) (d' := s1.drawn) (ch := []) u hok I.bare (fun b z => nomatch z)).base
  rw [hex] at J
  have same : ∀ b o, h1.get? b = some o → (∃ o', B.get? b = some o') → h'.get? b = some o := fun b o e ⟨o', q⟩ => by
    have := b1 b o' q
    rw [e] at this
    cases this
    exact b2 b _ q
  have frm : ∀ b ∈ X.fs, ∀ o, h1.get? b = some o → ∃ sl, h'.get? b = some { o with slots := sl } := fun b hb o e => by
    obtain ⟨_, o0, e0, hd⟩ := I.ok.funs.mem hb
    obtain ⟨sl, e1⟩ := J.slot b o0 e0 (I.ok.frf b hb) hb (by simp)
    have e1 : h1.get? b = some _ := e1
    rw [e] at e1
    cases e1
    exact sm b _ e hd
  refine ⟨⟨fun b o e n hb _ => ?_, fun b o e n hb _ => ?_, J.free, fun b o e _ => ?_, J.tups, J.frzs, J.tbls⟩, fun b u' e => ?_, c0⟩
  · exact same b o (J.keep b o e n hb (by simp)) (c0 b o e hb)
  · obtain ⟨sl, e1⟩ := J.slot b o e n hb (by simp)
    obtain ⟨sl', e2⟩ := frm b hb _ e1
    exact ⟨sl', e2⟩
  · obtain ⟨o1, e1⟩ := J.there b o e (by simp)
    by_cases hb : b ∈ X.fs
    · obtain ⟨sl, e2⟩ := frm b hb _ e1
      exact ⟨_, e2⟩
    · exact ⟨o1, same b o1 e1 (c0 b o e hb)⟩
  · refine (hok b u' e).stay (fun c v hc r => same c v r ?_) (fun _ q => q) fun _ _ q => q
    rcases hc with rfl | hc
    · exact c2 _ _ e
    · exact c2 _ _ hc
end
section
variable {P : Program} {w : World} {K : PySem.W.Frag} {mg : Str → Option Value} {base : Heap} {N : List Str} {qual : Str} {scope : Scope} {f : Addr} {cd : Value} {A : Around} {outer : List Env} {s : Shared} {H : Hp} {E : XK}
def PassesX (X : Cx) (Ex : Value → St → Hp → Prop) : Prop := ∀ (pins : List (Addr × Obj)) (σ : St) (H : Hp) (s : Shared) (e : Value) (s' : Shared), Inv X pins σ H s → CXE X.prog X.w X.stack H s (fun c _ H' => Ex c σ H') e s' → X.xe e s'
theorem passE : PassesX (cxOf (CXE P w) P w K mg base N qual scope f cd A outer s H E) (fun c _ H' => E c none H') := by
  rintro pins σ H1 s1 e s' I ⟨a, C, a0, B, H', rfl, ho, hb, un, hok, fl, c1, c2, q⟩
  refine wpAny_leaves_onW (I.ok.frames) rfl fl fun h' fl' sm => ?_
  obtain ⟨u2, hok2, c0⟩ := leave_un I rfl un hok fl.1 fl'.1 sm c1 c2
  exact ⟨a, C, a0, B, H', rfl, ho.trans I.os, hb, u2, hok2, fl', c0, c2, q⟩
def tRaise (E : XK) (C : Addr) : TS := fun _ _ H => E (.ref C) none H
theorem own_of {K : PySem.W.Frag} {h : Heap} {C : Addr} {bmB : List Value} {newId : String} (X : K.In h) (q : PySem.W.excIn K C bmB newId = true) :
    ∃ bm N nm q bs hdct sn sub ab col dd k0 k1 k2 k3 k5 mN, h.get? C = some (excClassObj nm q C N bs bm hdct sn sub ab col dd k0 k1 k2 k3 k5 newId) ∧ h.Ns N mN ∧ mN "__init__" = none ∧ OwnTail h bmB bm := by
  unfold PySem.W.excIn at q
  split at q
  · rename_i dd cd sl ho
    split at q
    · rename_i C' bm k0 k1 k2 k3 n k5 hm hs
      simp only [Bool.and_eq_true, beq_iff_eq, Bool.not_eq_true'] at q
      obtain ⟨⟨⟨⟨⟨rfl, rfl⟩, hdel⟩, ht⟩, hok⟩, hni⟩ := q
      obtain ⟨nm, bs, mro, ns, qn, hd, sn, sub, ab, col, del⟩ := cd
      dsimp only at hm hdel hok hni
      subst hm hdel
      have hsl : sl = #[k0, k1, k2, k3, some (.builtin n), k5] := by
        obtain ⟨l⟩ := sl
        simp only at hs
        rw [hs]
      subst hsl
      exact ⟨bm, ns, nm, qn, bs, hd, sn, sub, ab, col, dd, k0, k1, k2, k3, k5, _, X _ _ ho, .of_isNs (PySem.W.isNs_of_in X hok), PySem.W.nsMap_none_of_in X hok hni, PySem.W.tail_of_in X ht⟩
    · cases q
  · cases q
abbrev bmV : List Value := [.type "ValueError", .type "Exception", .type "BaseException", .type "object"]
theorem funs_hide {base h : Heap} {as : List Addr} {l : List Env} (hl : h.FunFrames base l) (hin : ∀ b ∈ frs l, b ∈ as) : h.FunFrames (PySem.W.hideAll h as) l := by
  refine PySem.W.funFrames_hide hl fun env he a hf => hin a ?_
  exact List.mem_filterMap.mpr ⟨env, he, hf⟩
theorem ps_raise {C : Addr} {x : Str} {np cpos pos : PySem.Pos} {e₀ : Expr} {v : V} (hc : PySem.W.excIn K C bmV "ValueError.__new__" = true) (hd : A.handled = none) (hm : mg x = some (.ref C)) (he₀ : PE (cxOf (CXE P w) P w K mg base N qual scope f cd A outer s H E) e₀ (tC v))
    (hg : Gl (cxOf (CXE P w) P w K mg base N qual scope f cd A outer s H E) x)
    (he : starEach [e₀] (cxOf (CXE P w) P w K mg base N qual scope f cd A outer s H E).env = (false, eval e₀ (cxOf (CXE P w) P w K mg base N qual scope f cd A outer s H E).env) :: starEach [] (cxOf (CXE P w) P w K mg base N qual scope f cd A outer s H E).env := by rfl) (hdb : (x == ("__debug__" : Str)) = false := by decide) :
    PS (cxOf (CXE P w) P w K mg base N qual scope f cd A outer s H E) (.Raise (some (.Call (.Name x np) [e₀] [] cpos)) none pos) (tRaise E C) := by
  intro pins s1 σ H1 D I h
  obtain ⟨tl, NN, nm, q, bs, hdct, sn, sub, ab, col, dd, k0, k1, k2, k3, k5, mN, hC, hN, hni, T⟩ := own_of I.ok.mod.kin hc
  refine wpAny_Raise_call_subU (C := C) (nm := nm) (q := q) (N := NN) (bs := bs) (bm := tl) (hdct := hdct) (sn := sn) (sub := sub) (ab := ab) (col := col) (dd := dd) (k0 := k0) (k1 := k1) (k2 := k2) (k3 := k3) (k5 := k5)
    PySem.F.excBase_ValueError (by decide) PySem.F.excBase_ValueError (mN := mN) (T.hasType PySem.F.excBase_ValueError.hasBase) hd (by rw [he]; rfl) hni (ld_glob I hg hm ⟨rfl, ?_⟩ hdb)
  have hp : PA (cxOf (CXE P w) P w K mg base N qual scope f cd A outer s H E) [e₀] (tCons (tC v) tNil) := pa_cons he₀ pa_nil he
  have hs := hp cpos pins s1 σ H1 (fun vs H' => vs.length = 1 ∧ E (.ref C) none H') I ⟨rfl, h⟩
  rw [he] at hs ⊢
  refine Calls.evalArgs_plain (wpAny_mono hs (fun us s2 h2 => ?_) fun _ _ y => y)
  obtain ⟨vs, H2, I2, rv, l1, q2⟩ := h2
  have lu : us.length = 1 := by rw [← rv.length]; exact l1
  refine ⟨rfl, by rw [lu]; decide, I2.bk _ _ hC, hN.keeps I2.bk, T.keeps I2.bk, fun h3 e mk => ?_⟩
  have hin : ∀ b ∈ frs (cxOf (CXE P w) P w K mg base N qual scope f cd A outer s H E).stack, b ∈ frs (cxOf (CXE P w) P w K mg base N qual scope f cd A outer s H E).stack := fun b z => z
  refine wpAny_leaves_madeW (h := s2.heap) (base := PySem.W.hideAll s2.heap (frs (cxOf (CXE P w) P w K mg base N qual scope f cd A outer s H E).stack)) I2.ok.frames rfl (fun b o z => PySem.W.of_hideAll _ z) (funs_hide I2.stack hin) mk fun h' t fl _ _ sm => ?_
  have c1 : ∀ b o, s2.heap.get? b = some o → b ∉ frs (cxOf (CXE P w) P w K mg base N qual scope f cd A outer s H E).stack → ∃ o', (PySem.W.hideAll s2.heap (frs (cxOf (CXE P w) P w K mg base N qual scope f cd A outer s H E).stack)).get? b = some o' := fun b o z n => ⟨o, PySem.W.hideAll_get _ z n⟩
  have c2 : ∀ b o, H2 b = some o → ∃ o', (PySem.W.hideAll s2.heap (frs (cxOf (CXE P w) P w K mg base N qual scope f cd A outer s H E).stack)).get? b = some o' := fun b o z => by
    obtain ⟨o', e'⟩ := ObjOk.there (I2.hok b o z)
    exact c1 b o' e' fun n => by rw [I2.stkFree b n] at z; cases z
  obtain ⟨u2, hok2, c0⟩ := leave_un I2 rfl (Un.kept mk.keeps) (I2.hok.kept mk.keeps) (fun b o z => mk.keeps b o (PySem.W.of_hideAll _ z)) fl.1 sm c1 c2
  exact ⟨e, C, _, _, H2, rfl, I2.os, I2.bare, u2, hok2, fl, c0, c2, q2⟩
end
end L2
set_option Elab.async false
set_option linter.all false
set_option maxRecDepth 100000
set_option maxHeartbeats 1000000
namespace L2
open PySem PySem.Spec PyProof.Rows
structure KnX (P : Program) (w : World) (K : PySem.W.Frag) (mg : Str → Option Value) (base : Heap) (x : Str) (k : Nat) (ps : List Str) (sp : Sp) : Prop where
  ex : ∃ (f : Addr) (fd : FuncData), FnOk P w K mg base (CXE P w) k f fd ps sp ∧ mg x = some (.ref f) ∧ PySem.W.keepIn K (.ref f) = true ∧ Binds K fd ps []
def tCallX (sp : Sp) (Ex : Value → St → Hp → Prop) (t : TA) : TE := fun σ H Q => t σ H fun vs H1 => sp vs H1 Q (fun c _ H' => Ex c σ H')
theorem pe_callX {X : Cx} {x : Str} {k j : Nat} {ps : List Str} {sp : Sp} {e : Expr} {es : List Expr} {t : TA} {p pos : PySem.Pos} {Ex : Value → St → Hp → Prop} (G : KnX X.prog X.w X.K X.mg X.base x k ps sp) (px : PassesX X Ex) (hr : Room j X.A) (hg : Gl X x) (ha : PA X (e :: es) t) (hle : k ≤ j := by decide)
    (hdb : (x == ("__debug__" : Str)) = false := by decide)
    (he : starEach (e :: es) X.env = (false, eval e X.env) :: starEach es X.env := by rfl) (hpl : (backTo pos (starEach es X.env)).any (·.1) = false := by rfl) : PE X (.Call (.Name x p) (e :: es) [] pos) (tCallX sp Ex t) := by
  obtain ⟨f, fd, F, hm, hk, hb⟩ := G.ex
  intro pins s σ H Q I h
  refine wpAny_Call_Name_kw (ld_glob I hg hm ?_ hdb)
  refine PySem.W.callWith_K (h₀ := X.base) I.ok.mod.kin hk (thn (ha pos pins s σ H _ I h) fun us s1 ⟨vs, H1, I1, r, q⟩ => ⟨I1.kIn, ?_⟩) he hpl
  have hl : us.length = ps.length := by rw [← r.length]; exact F.len _ _ _ _ q
  have hb1 := hb s1 us I1.kIn (by rw [List.append_nil]; exact hl)
  rw [List.append_nil] at hb1
  refine wpAny_call (codeAny_mono (F.run X.A X.stack s1 H1 ⟨us, []⟩ us vs Q (fun c _ H' => Ex c σ H') (hr.mono hle) I1.env0 hb1 r q) fun r s' hq => ?_)
  cases r with
  | error e => exact px pins σ H1 s1 e s' I1 hq
  | ok fl =>
    cases fl with
    | ret u => exact I1.after hq
    | next => exact False.elim hq
    | brk => exact False.elim hq
    | cont => exact False.elim hq
theorem Fun.okX {P : Program} {w : World} {K : PySem.W.Frag} {mg : Str → Option Value} {base : Heap} {x qual : Str} {st : Stmt} {f : Addr} {fd : FuncData} {N ps : List Str} {k : Nat} {sp : Sp} (F : Fun K x qual st f fd) (S : FnScope N ps (defScope st)) (len : ∀ vs H Q E, sp vs H Q E → vs.length = ps.length)
    (hbody : ∀ (cdv : Value) (A : Around) (outer : List Env) (s : Shared) (H : Hp) (vs : List V) (Q : VK) (E : XK), A.handled = none → Room k (A.deeper (envOfC qual (defScope st) s.heap.objs.size f cdv)) → sp vs H Q E →
      ∃ t, PSs (cxOf (CXE P w) P w K mg base N qual (defScope st) f cdv A outer s H E) (defBody st) t ∧ t { nx := fun _ H' => Q .non H', rt := Q } (start N vs) H) : FnOk P w K mg base (CXE P w) (k + 1) f fd ps sp := by
  obtain ⟨oc, od, kV, doc, pm, an, cdv, ct, osl, rfl, lk, hcd⟩ := F.ex
  exact fn_of lk hcd S len fun A outer s H vs Q E hr hsp => hbody cdv A outer s H vs Q E hr.hd hr hsp
theorem PS.nox {X : Cx} {st : Stmt} {t : TS} (h : PS X.nox st t) : PS X st t := fun pins s σ H D I hw =>
  wpAny_mono (h pins s σ H D (I.wish _) hw) (fun _ _ q => q.unwish) fun _ _ z => False.elim z
theorem flown {P : Program} {w : World} {fs : List Addr} {H1 H' : Hp} {h1 hs h' B : Heap} (un : Un fs [] H1 H' h1 hs) (hok : HOk P w H' hs) (b1 : B.StaysIn hs) (b2 : B.StaysIn h') (sm : hs.UpToSlots h')
    (c1 : ∀ b o, h1.get? b = some o → b ∉ fs → ∃ o', B.get? b = some o') (c2 : ∀ b o, H' b = some o → ∃ o', B.get? b = some o') (ff : ∀ b ∈ fs, H1 b = none ∧ ∃ o, h1.get? b = some o ∧ ∀ vs, o.data ≠ .fields vs) : Un fs [] H1 H' h1 h' ∧ HOk P w H' h' := by
  have same : ∀ b o, hs.get? b = some o → (∃ o', B.get? b = some o') → h'.get? b = some o := fun b o e ⟨o', q⟩ => by
    have := b1 b o' q
    rw [e] at this
    cases this
    exact b2 b _ q
  have frm : ∀ b ∈ fs, ∀ o, hs.get? b = some o → ∃ sl, h'.get? b = some { o with slots := sl } := fun b hb o e => by
    obtain ⟨hn, o0, e0, hd⟩ := ff b hb
    obtain ⟨sl, e1⟩ := un.slot b o0 e0 hn hb (by simp)
    rw [e] at e1
    cases e1
    exact sm b _ e hd
  refine ⟨⟨fun b o e n hb _ => ?_, fun b o e n hb _ => ?_, un.free, fun b o e _ => ?_, un.tups, un.frzs, un.tbls⟩, fun b u' e => ?_⟩
  · exact same b o (un.keep b o e n hb (by simp)) (c1 b o e hb)
  · obtain ⟨sl, e1⟩ := un.slot b o e n hb (by simp)
    obtain ⟨sl', e2⟩ := frm b hb _ e1
    exact ⟨sl', e2⟩
  · obtain ⟨o1, e1⟩ := un.there b o e (by simp)
    by_cases hb : b ∈ fs
    · obtain ⟨sl, e2⟩ := frm b hb _ e1
      exact ⟨_, e2⟩
    · exact ⟨o1, same b o1 e1 (c1 b o e hb)⟩
  · refine (hok b u' e).stay (fun c v hc r => same c v r ?_) (fun _ q => q) fun _ _ q => q
    rcases hc with rfl | hc
    · exact c2 _ _ e
    · exact c2 _ _ hc
abbrev Cx.tried (X : Cx) (pins : List (Addr × Obj)) (xe : Value → Shared → Prop) : Cx := { X with pn := X.pn ++ pins, xe := xe }
abbrev Cx.suite (X : Cx) (a : Addr) (oe : Obj) : Cx := { X with A := X.A.mark (some (.ref a)), calm := false, pn := X.pn ++ [(a, oe)], xe := fun _ _ => False }
section
variable {X : Cx} {pins : List (Addr × Obj)} {σ : St} {H : Hp} {s : Shared} {xe : Value → Shared → Prop}
theorem Cx.Ok.tried (ok : X.Ok) : (X.tried pins xe).Ok := ⟨ok.mod, ok.kind, ok.glob, ok.blt, ok.above, ok.inj, ok.has, ok.cab, ok.hd, ok.frames, ok.stk, ok.exf, ok.bs, ok.bsz, ok.noex, ok.exfs, ok.funs, ok.frf⟩
theorem Cx.Ok.untried (ok : (X.tried pins xe).Ok) : X.Ok := ⟨ok.mod, ok.kind, ok.glob, ok.blt, ok.above, ok.inj, ok.has, ok.cab, ok.hd, ok.frames, ok.stk, ok.exf, ok.bs, ok.bsz, ok.noex, ok.exfs, ok.funs, ok.frf⟩
theorem Inv.tried (I : Inv X pins σ H s) : Inv (X.tried pins xe) [] σ H s := ⟨I.ok.tried, I.os, I.bare, I.base, I.loc, I.cell, I.free, I.freeC, fun p hp => I.pin p (by simpa using hp), I.hok, I.len⟩
theorem Inv.untried {pins' : List (Addr × Obj)} (I : Inv (X.tried pins xe) pins' σ H s) : Inv X pins σ H s := ⟨I.ok.untried, I.os, I.bare, I.base, I.loc, I.cell, I.free, I.freeC, fun p hp => I.pin p (List.mem_append_left _ hp), I.hok, I.len⟩
theorem SP.untried {D : Ends} {f : Flow} {s' : Shared} {pins' : List (Addr × Obj)} (h : SP (X.tried pins xe) pins' D f s') : SP X pins D f s' := by
  cases f with
  | next => obtain ⟨σ', H', I, q⟩ := h; exact ⟨σ', H', I.untried, q⟩
  | brk => obtain ⟨σ', H', I, q⟩ := h; exact ⟨σ', H', I.untried, q⟩
  | cont => obtain ⟨σ', H', I, q⟩ := h; exact ⟨σ', H', I.untried, q⟩
  | ret u => obtain ⟨v, σ', H', I, r, q⟩ := h; exact ⟨v, σ', H', I.untried, r, q⟩
theorem Cx.Ok.suite {a : Addr} {oe : Obj} (ok : X.Ok) : (X.suite a oe).Ok := ⟨ok.mod, ok.kind, ok.glob, ok.blt, ok.above, ok.inj, ok.has, ok.cab, fun z => (nomatch z), ok.frames, ok.stk, ok.exf, ok.bs, ok.bsz, ok.noex, ok.exfs, ok.funs, ok.frf⟩
theorem Inv.suite {a : Addr} {oe : Obj} (I : Inv X pins σ H s) (ha : s.heap.get? a = some oe) (hn : H a = none) (hl : a ≠ X.env.locals) (hf : a ∉ X.fs) (hc : ∀ v, oe.data ≠ .cell v) : Inv (X.suite a oe) pins σ H s :=
  ⟨I.ok.suite, I.os, I.bare, I.base, I.loc, I.cell, I.free, I.freeC, fun p hp => by
    have hp : p ∈ X.pn ++ [(a, oe)] ++ pins := hp
    rcases List.mem_append.mp hp with hp | hp
    · rcases List.mem_append.mp hp with hp | hp
      · exact I.pin p (List.mem_append_left _ hp)
      · rcases List.mem_singleton.mp hp with rfl
        exact ⟨ha, hn, hl, hf, hc⟩
    · exact I.pin p (List.mem_append_right _ hp), I.hok, I.len⟩
theorem Inv.unsuite {a : Addr} {oe : Obj} (ok : X.Ok) (I : Inv (X.suite a oe) pins σ H s) : Inv X pins σ H s :=
  ⟨ok, I.os, I.bare, I.base, I.loc, I.cell, I.free, I.freeC, fun p hp => I.pin p (by
    rcases List.mem_append.mp hp with hp | hp
    · exact List.mem_append_left _ (List.mem_append_left _ hp)
    · exact List.mem_append_right _ hp), I.hok, I.len⟩
theorem Inv.gone {h' : Heap} {m' : Str → Option Value} {t' : Nat} (I : Inv X pins σ H s) (hn : h'.Ns X.env.locals m') (hs : Heap.SameBut X.env.locals s.heap h') : Inv X pins (List.replicate X.N.length none) H { s with heap := h', toks := t' } := by
  obtain ⟨m, hm, _⟩ := id I.loc
  obtain ⟨oL, _, _, hoL, _⟩ := id hm
  have cne := I.cne
  refine ⟨I.ok, I.os, I.bare, ⟨fun b o e n hb hx => ?_, fun b o e n hb hx => ?_, I.base.free, fun b o e hx => ?_, I.base.tups, I.base.frzs, I.base.tbls⟩, ⟨m', hn, fun j y v' e1 e2 e3 => ?_⟩, fun y c e => ?_, I.free, I.freeC, fun p hp => ?_, fun b ob e => ?_, by simp⟩
  · exact (hs.2 b (Nat.ne_of_lt (Nat.lt_of_lt_of_le (Heap.lt_size e) I.ok.above))).trans (I.base.keep b o e n hb hx)
  · obtain ⟨sl, e1⟩ := I.base.slot b o e n hb hx
    exact ⟨sl, (hs.2 b (Nat.ne_of_lt (Nat.lt_of_lt_of_le (Heap.lt_size e) I.ok.above))).trans e1⟩
  · obtain ⟨o', e1⟩ := I.base.there b o e hx
    exact ⟨o', (hs.2 b (Nat.ne_of_lt (Nat.lt_of_lt_of_le (Heap.lt_size e) I.ok.above))).trans e1⟩
  · rw [List.getElem?_replicate] at e2
    split at e2 <;> cases e2
  · obtain ⟨w', z⟩ := I.cell y c e
    exact ⟨w', z.sameBut hs (cne y c e)⟩
  · obtain ⟨e, n, ne, nf, d⟩ := I.pin p hp
    exact ⟨(hs.2 p.1 ne).trans e, n, ne, nf, d⟩
  · refine (I.hok b ob e).stay (fun c w' hc q => (hs.2 c ?_).trans q) (fun _ q => q) fun _ _ q => q
    rintro rfl
    rcases hc with rfl | hc
    · rw [I.free] at e; cases e
    · rw [I.free] at hc; cases hc
end
end L2
set_option Elab.async false
set_option linter.all false
set_option maxRecDepth 100000
set_option maxHeartbeats 1000000
namespace L2
open PySem PySem.Spec PyProof.Rows
theorem x_matches {M : Model} {A : Around} {E : Value → Shared → Prop} {K : PySem.W.Frag} {h : Heap} {g : Array GenState} {d : Drawn} {t : Nat} {os : OsState} {a C C' : Addr} {oe : Obj} {Q : Bool → Shared → Prop} (X : K.In h) (c : XCls K C') (he : h.get? a = some oe) (hcls : oe.cls = .ref C)
    (hsub : PySem.W.subIn K (.ref C) (.ref C') = some true) (hq : Q true ⟨h, g, d, t, os⟩) : wpAny M A (excMatches (.ref a) (.ref C')) Q E ⟨h, g, d, t, os⟩ := by
  have l1 : PySem.W.Looks M h (typeOf (.ref C')) (.type "type") := PySem.W.looks_typeIn X c.ty
  have l2 : PySem.W.Looks M h (isSubtype (.ref C') (.type "BaseException")) true := PySem.W.looks_subIn X c.be
  have l3 : PySem.W.Looks M h (typeOf (.ref a)) (.ref C) := hcls ▸ (PySem.W.Looks.ld he).andThen .now
  have l4 : PySem.W.Looks M h (isSubtype (.ref C) (.ref C')) true := PySem.W.looks_subIn X hsub
  have f := tc_notTuple
  have z := c.co
  unfold PySem.W.clsIn at z
  split at z
  · rename_i c' d' cd' sl' ho
    have hC := X _ _ ho
    unfold excMatches isInstance isExcClass
    repeat (first | with_reducible refine l1.at ?_ | with_reducible refine l2.at ?_ | with_reducible refine l3.at ?_ | with_reducible refine l4.at ?_ | with_reducible refine wpAny_loadPart_at hC ?_ | wp_step)
    exact hq
  · cases z
def endsAs (n : Nat) (D : Ends) : Ends := { nx := fun _ H => D.nx (List.replicate n none) H, rt := D.rt, bk := fun _ H => D.bk (List.replicate n none) H, ct := fun _ H => D.ct (List.replicate n none) H }
def tTry (K : PySem.W.Frag) (n i : Nat) (C' : Addr) (tb : (Value → St → Hp → Prop) → TS) (ts : Addr → Addr → TS) : TS := fun D σ H =>
  tb (fun c σ' H' => ∃ C, c = .ref C ∧ PySem.W.subIn K (.ref C) (.ref C') = some true ∧ ∀ a, H' a = none → ts C a (endsAs n D) (σ'.set i (some (.ref a))) H') D σ H
theorem frs_mem {X : Cx} {pins : List (Addr × Obj)} {σ : St} {H : Hp} {s : Shared} (I : Inv X pins σ H s) : ∀ b ∈ frs X.stack, H b = none ∧ ∃ o, s.heap.get? b = some o ∧ ∀ vs, o.data ≠ .fields vs := fun b hb => ⟨I.stkFree b hb, (I.stack.mem hb).2⟩
theorem ps_try {X : Cx} {x n : Str} {i : Nat} {C' : Addr} {np hp pos : PySem.Pos} {body : List Stmt} {b₀ : Stmt} {suite : List Stmt} {tb : (Value → St → Hp → Prop) → TS} {ts : Addr → Addr → TS} (hN : X.N.Nodup) (hi : X.N[i]? = some n) (hloc : X.env.scope.names.lookup n = some .local)
    (hst : X.stack = X.env :: X.outer) (hfr : X.env.frame = some X.env.locals) (hm : X.mg x = some (.ref C')) (hg : Gl X x) (hcl : XCls X.K C')
    (hb : ∀ pins xe Ex, PassesX (X.tried pins xe) Ex → PSs (X.tried pins xe) body (tb Ex))
    (hs : ∀ (C a : Addr) (oe : Obj), oe.cls = .ref C → PSs (X.suite a oe) (b₀ :: suite) (ts C a)) (hdb : (x == ("__debug__" : Str)) = false := by decide) :
    PS X (.Try body [.ExceptHandler (some (.Name x np)) (some n) (b₀ :: suite) hp] [] [] pos) (tTry X.K X.N.length i C' tb ts) := by
  intro pins s σ H D I h
  refine wpAny_Try_except ?_
  refine wpAny_mono (hb pins _ _ ?_ [] s σ H D I.tried h) (fun f s1 q => ?_) fun e s1 q => q
  · rintro pins' σ1 H1 s1 e s' I1 ⟨a, C, a0, B, H', rfl, ho, hbare, un, hok, fl, c1, c2, C0, ec, hsub, q⟩
    cases ec
    have ff := frs_mem I1
    refine wpAny_looks_onW (by rw [← hst]; exact I1.ok.frames) hfr (by rw [← hst]; exact fl) fun h4 held4 sm4 => ?_
    refine wpAny_landsW held4 fun h5 fl5 sm5 => ?_
    obtain ⟨u5, hok5⟩ := flown un hok fl.1 fl5.1 (sm4.trans sm5) c1 c2 ff
    have J5 : Inv X pins σ1 H' { s' with heap := h5 } := (I1.call' (s' := { s' with heap := h5 }) ho u5 hok5 hbare (fun b z => nomatch z)).untried
    obtain ⟨oe5, he5, hc5⟩ := fl5.there
    refine wpAny_handleBy_cons (codeAny_handlers_test ?_) (by intro q; cases q)
    refine Calls.Name_function_global J5.ok.kind hg (Calls.loadGlobal_global (by rw [J5.ok.glob]; exact J5.mod.glob.keeps J5.bk) hm ?_) hdb
    refine x_matches J5.kIn hcl he5 hc5 hsub (codeAny_handlers_suite_as ?_)
    refine lands_againW fl5 fun h6 fl6 sm6 => ?_
    obtain ⟨u6, hok6⟩ := flown un hok fl.1 fl6.1 ((sm4.trans sm5).trans sm6) c1 c2 ff
    have J6 : Inv X pins σ1 H' { s' with heap := h6 } := (I1.call' (s' := { s' with heap := h6 }) ho u6 hok6 hbare (fun b z => nomatch z)).untried
    obtain ⟨oe, vs, T, oT, tss, he, ⟨hc, h0⟩, hd, _⟩ := fl6.2.2.2
    have hna : H' a = none := by
      cases z : H' a with
      | none => rfl
      | some o =>
        obtain ⟨o', e'⟩ := c2 a o z
        rw [fl.2.1] at e'
        cases e'
    have nfr : a ∉ frs X.stack := fun z => by
      obtain ⟨_, o, e, nd⟩ := frs_mem J6 a z
      rw [he] at e
      cases e
      exact nd _ hd
    have nl : a ≠ X.env.locals := fun z => nfr (by rw [hst]; unfold frs; rw [List.filterMap_cons, hfr, z]; exact List.mem_cons_self)
    have nfs : a ∉ X.fs := fun z => nfr (by
      rw [hst]; unfold frs; rw [List.filterMap_cons, hfr]; exact List.mem_cons_of_mem _ z)
    have J7 : Inv (X.suite a oe) pins σ1 H' { s' with heap := h6 } := J6.suite he hna nl nfs (fun v z => by rw [hd] at z; cases z)
    refine store_ok (X := X.suite a oe) (i := i) (v := .ref a) J7 hN hi (.inl hloc) rfl (fun s7 J8 => ?_) (.inr hloc)
    refine wpAny_mono (hs C a oe hc pins s7 (σ1.set i (some (.ref a))) H' (endsAs X.N.length D) J8 (q a hna)) (fun f s8 r8 => ?_) fun e s8 z => False.elim z
    have fin : ∀ {σ8 : St} {H8 : Hp}, Inv (X.suite a oe) pins σ8 H8 s8 → (∀ s9, Inv X pins (List.replicate X.N.length none) H8 s9 → SP X pins D f s9) → wpAny (model X.prog X.w) X.A (do bindName X.env n .none; unbindBehindTheSuite X.env n hp) (fun _ s9 => SP X pins D f s9) X.xe s8 := fun {σ8 H8} J k => by
      obtain ⟨m, hn, _⟩ := J.loc
      refine wpAny_nameGoes hloc hn (by rw [show X.env.scope.kind = .function from J.ok.kind]; rfl) fun h' m' hn' hs' => k _ ?_
      exact (J.unsuite J6.ok).gone hn' hs'
    cases f with
    | next => obtain ⟨σ8, H8, J, r⟩ := r8; exact fin J fun s9 J9 => ⟨_, _, J9, r⟩
    | brk => obtain ⟨σ8, H8, J, r⟩ := r8; exact fin J fun s9 J9 => ⟨_, _, J9, r⟩
    | cont => obtain ⟨σ8, H8, J, r⟩ := r8; exact fin J fun s9 J9 => ⟨_, _, J9, r⟩
    | ret u => obtain ⟨v, σ8, H8, J, rv, r⟩ := r8; exact fin J fun s9 J9 => ⟨v, _, _, J9, rv, r⟩
  · cases f with
    | next => exact wpAny_execs_nil (SP.untried q)
    | brk => exact SP.untried q
    | cont => exact SP.untried q
    | ret u => exact SP.untried q
end L2
set_option Elab.async false
set_option linter.all false
set_option maxRecDepth 100000
set_option maxHeartbeats 1000000
namespace L2
open PySem PySem.Spec PyProof.Rows
def rIsi (K : PySem.W.Frag) (C a : Addr) : List V → Hp → VK → Prop := fun xs H Q => XCls K C ∧ ∃ b, ((∃ C2, xs = [.ref a, .ref C2] ∧ XCls K C2 ∧ PySem.W.subIn K (.ref C) (.ref C2) = some b) ∨ (∃ T, xs = [.ref a, .ty T] ∧ PySem.W.kitMeta T = true ∧ PySem.W.subIn K (.ref C) (.type T) = some b) ∨
  (∃ (tp : Addr) (Cs : List Addr), xs = [.ref a, .ref tp] ∧ H tp = some (.tup (Cs.map V.ref)) ∧ (∀ c ∈ Cs, XCls K c) ∧ (∀ c ∈ Cs, PySem.W.subIn K (.ref C) (.ref c) = some false) ∧ b = false)) ∧ Q (.bl b) H
theorem kitOne_own {K : PySem.W.Frag} {C C2 : Addr} {b : Bool} (c : XCls K C) (c2 : XCls K C2) (h : PySem.W.subIn K (.ref C) (.ref C2) = some b) : PySem.W.kitOne K (.ref C) (.ref C2) = some b := by
  unfold PySem.W.kitOne
  by_cases q : C = C2
  · subst q
    rw [c.rf] at h
    cases h
    rw [if_pos (by simp)]
  · rw [if_neg (by simpa using q)]
    unfold PySem.W.kitCls
    dsimp only
    rw [if_pos (by rw [c2.co, c2.ty]; rfl)]
    exact h
theorem kitAny_own {K : PySem.W.Frag} {C : Addr} (c : XCls K C) : ∀ {Cs : List Addr}, (∀ x ∈ Cs, XCls K x) → (∀ x ∈ Cs, PySem.W.subIn K (.ref C) (.ref x) = some false) → PySem.W.kitAny K (.ref C) (Cs.map Value.ref) = some false
  | [], _, _ => rfl
  | x :: r, h1, h2 => by
    show PySem.W.kitAny K (.ref C) (Value.ref x :: r.map Value.ref) = some false
    unfold PySem.W.kitAny
    rw [kitOne_own c (h1 x List.mem_cons_self) (h2 x List.mem_cons_self)]
    exact kitAny_own c (fun y hy => h1 y (List.mem_cons_of_mem _ hy)) fun y hy => h2 y (List.mem_cons_of_mem _ hy)
theorem vals_cls : ∀ {Cs : List Addr} {us : List Value}, Vals (Cs.map V.ref) us → us = Cs.map Value.ref
  | [], us, h => by cases h; rfl
  | c :: r, us, h => by
    cases h with
    | cons r1 r2 =>
      cases (show _ = Value.ref c from r1)
      rw [vals_cls r2]
      rfl
theorem call_isiX {X : Cx} {a C : Addr} {oe : Obj} {K : PySem.W.Frag} (hoe : oe.cls = .ref C) (hK : X.K = K := by rfl) : CallR (X.suite a oe) (.builtin "isinstance") (rIsi K C a) := by
  subst hK
  intro pins s σ H xs us Q I r h
  obtain ⟨c, b, h, q⟩ := h
  have he : s.heap.get? a = some oe := (I.pin (a, oe) (List.mem_append_left _ (List.mem_append_right _ (List.mem_singleton.mpr rfl)))).1
  have hx : Value.ref a ≠ .builtin "__main__.__loader__#opaque" := fun z => nomatch z
  have fin : ∀ tk, EP (X.suite a oe) pins σ Q (.bool b) { s with toks := tk } := fun tk => ⟨.bl b, H, I.tok _, rfl, q⟩
  rcases h with ⟨C2, rfl, c2, e⟩ | ⟨T, rfl, hm, e⟩ | ⟨tp, Cs, rfl, ht, h1, h2, rfl⟩
  · obtain ⟨u, v, rfl, r1, r2⟩ := vals2 r
    cases (show u = Value.ref a from r1)
    cases (show v = Value.ref C2 from r2)
    exact PySem.W.kia_one (kitx_exc c) I.kIn ⟨oe, he, hoe⟩ (kitOne_own c c2 e) hx fin
  · obtain ⟨u, v, rfl, r1, r2⟩ := vals2 r
    cases (show u = Value.ref a from r1)
    cases (show v = Value.type T from r2)
    refine PySem.W.kia_one (kitx_exc c) I.kIn ⟨oe, he, hoe⟩ ?_ hx fin
    unfold PySem.W.kitOne PySem.W.kitCls
    rw [if_neg (by simp)]
    dsimp only
    rw [if_pos hm]
    exact e
  · obtain ⟨u, v, rfl, r1, r2⟩ := vals2 r
    cases (show u = Value.ref a from r1)
    cases (show v = Value.ref tp from r2)
    obtain ⟨_, its, rv, ob, h3, h4, n, h5⟩ := (show ObjOk X.prog X.w H s.heap tp (.tup (Cs.map V.ref)) from I.hok tp _ ht)
    obtain rfl := vals_cls rv
    obtain ⟨oc, od, odt, osl⟩ := ob
    cases h4
    cases h5
    exact PySem.W.kia_tup (kitx_exc c) I.kIn ⟨oe, he, hoe⟩ h3 (kitAny_own c h1 h2) hx fin
end L2
set_option Elab.async false
set_option linter.all false
set_option maxRecDepth 100000
set_option maxHeartbeats 1000000
namespace L2
open PySem PySem.Spec PyProof.Rows
section
variable {M : Model} {A : Around} {E : Value → Shared → Prop} {s : Shared}
theorem pass_on {base : Heap} {l : List Env} {e : Addr} {cls a0 : Value} {cenv : Env} {what : String} {Q : Value → Shared → Prop} {v0 : Value} (f1 : base.StaysIn s.heap) (f3 : s.heap.FunFrames base l) (f4 : s.heap.TracedAtW base e cls a0 v0)
    (h : ∀ h' v, base.StaysIn h' → h'.FunFrames base l → h'.TracedAtW base e cls a0 v → s.heap.UpToSlots h' → E (.ref e) { s with heap := h' }) : wpAny M A (PySem.passOn what (.ref e) cenv : Sem Value) Q E s := by
  obtain ⟨oe, vs, T, oT, ts, he, hcls, hd, h1, hnT, hTe, hT, hdT, h3⟩ := f4
  unfold PySem.passOn
  refine wpAny_bind (wpAny_field he hd h1 ?_)
  rw [if_neg (show ¬ ((Value.ref T == Value.none) = true) from by simp)]
  unfold setFlight
  refine wpAny_bind (wpAny_bind (wpAny_field he hd h1 ?_))
  rw [if_pos (show (Value.ref T != Value.none) = true from by simp)]
  refine wpAny_setField hT hdT (Array.getElem?_eq_some_iff.mp h3).1 (wpAny_throw ?_)
  generalize (cenv.frame.elim Value.none fun f => rawInt f) = v
  have other : ∀ b, b ≠ T → (s.heap.update T (Obj.mapFields (·.setIfInBounds 3 v))).get? b = s.heap.get? b := fun b hb => Heap.get?_update_other _ _ (Ne.symm hb)
  have noRecord : ∀ b o, s.heap.get? b = some o → (∀ vs, o.data ≠ .fields vs) → b ≠ T := fun b o hb hnf q => by
    rw [q, hT] at hb; injection hb with hb; subst hb; exact hnf ts hdT
  have ns : ∀ b o, base.get? b = some o → b ≠ T := fun b o hb q => by rw [q, hnT] at hb; cases hb
  refine h _ v (fun b o hbo => (other b (ns b o hbo)).trans (f1 b o hbo)) (f3.of_keeps fun b o hb hnf => ⟨o, (other b (noRecord b o hb hnf)).trans hb, rfl⟩) ?_ fun b o hb hnf => ⟨o.slots, (other b (noRecord b o hb hnf)).trans hb⟩
  refine ⟨oe, vs, T, _, _, (other e (Ne.symm hTe)).trans he, hcls, hd, h1, hnT, hTe, Heap.get?_update_self _ hT (Obj.isFreed_of_fields (Obj.data_mapFields hdT _)), Obj.data_mapFields hdT _, ?_⟩
  rw [Array.getElem?_setIfInBounds_self_of_lt (Array.getElem?_eq_some_iff.mp h3).1]
theorem leave_any {base : Heap} {env : Env} {outer : List Env} {L e : Addr} {cls a0 fl : Value} {Q : Unit → Shared → Prop} (hfr : A.frames = some (env :: outer)) (hf : env.frame = some L) (f1 : base.StaysIn s.heap) (f2 : base.get? e = none) (f3 : s.heap.FunFrames base (env :: outer)) (f4 : s.heap.TracedAtW base e cls a0 fl)
    (hQ : ∀ h', Heap.FlyingW base outer e cls a0 h' → s.heap.UpToSlots h' → Q () { s with heap := h' }) : wpAny M A (leaving env (.ref e)) Q E s := by
  obtain ⟨oe, vs, T, oT, ts, he, ⟨hcls, h0⟩, hd, h1, hnT, hTe, hT, hdT, h3⟩ := f4
  subst hcls
  have other : ∀ b, b ≠ T → (s.heap.update T (Obj.mapFields (·.setIfInBounds 3 Value.none))).get? b = s.heap.get? b := fun b hb => Heap.get?_update_other _ _ (Ne.symm hb)
  have noRecord : ∀ b o, s.heap.get? b = some o → (∀ vs, o.data ≠ .fields vs) → b ≠ T := fun b o hb hnf q => by
    rw [q, hT] at hb; injection hb with hb; subst hb; exact hnf ts hdT
  have ns : ∀ b o, base.get? b = some o → b ≠ T := fun b o hb q => by rw [q, hnT] at hb; cases hb
  unfold leaving noteFrame
  simp only [hf]
  refine wpAny_bind (wpAny_bind (wpAny_field he hd h1 ?_))
  rw [if_pos (show (Value.ref T != Value.none) = true from by simp)]
  refine wpAny_bind (wpAny_field hT hdT h3 ?_)
  by_cases hv : (fl == rawInt L) = true
  · rw [if_pos hv]
    refine wpAny_pure ?_
    unfold setFlight
    refine wpAny_bind (wpAny_field he hd h1 ?_)
    rw [if_pos (show (Value.ref T != Value.none) = true from by simp)]
    refine wpAny_setField hT hdT (Array.getElem?_eq_some_iff.mp h3).1 (hQ _ ⟨fun b o hbo => (other b (ns b o hbo)).trans (f1 b o hbo), f2, ?_, ?_⟩ fun b o hb hnf => ⟨o.slots, (other b (noRecord b o hb hnf)).trans hb⟩)
    · obtain ⟨_, _, k⟩ := f3.of_keeps (h' := s.heap.update T (Obj.mapFields (·.setIfInBounds 3 Value.none))) fun b o hb hnf => ⟨o, (other b (noRecord b o hb hnf)).trans hb, rfl⟩
      exact k
    · refine ⟨oe, vs, T, _, _, (other e (Ne.symm hTe)).trans he, ⟨rfl, h0⟩, hd, h1, hnT, hTe, Heap.get?_update_self _ hT (Obj.isFreed_of_fields (Obj.data_mapFields hdT _)), Obj.data_mapFields hdT _, ?_⟩
      rw [Array.getElem?_setIfInBounds_self_of_lt (Array.getElem?_eq_some_iff.mp h3).1]
      rfl
  · rw [if_neg hv]
    refine wpAny_bind (wpAny_setField hT hdT (Array.getElem?_eq_some_iff.mp h3).1 ?_)
    refine wpAny_newEntryW hfr (f3.of_keeps fun b o hb hnf => ⟨o, (other b (noRecord b o hb hnf)).trans hb, rfl⟩) hf ((other e (Ne.symm hTe)).trans he)
      (fun b o hbo => (other b (ns b o hbo)).trans (f1 b o hbo)) f2 hd (Array.getElem?_eq_some_iff.mp h1).1 h0
      fun h' ⟨x1, x2, x3, x4⟩ => hQ h' ⟨x1, f2, x2.2.2, x3⟩ fun b o hb hnf => x4 b o ((other b (noRecord b o hb hnf)).trans hb) hnf
end
end L2
set_option Elab.async false
set_option linter.all false
set_option maxRecDepth 100000
set_option maxHeartbeats 1000000
namespace L2
open PySem PySem.Spec PyProof.Rows
def compErr (X : Cx) (C : Addr) : Value → Shared → Prop := fun e s' => ∃ m, s'.heap.Ns C m ∧ ∀ h', Heap.SameBut C s'.heap h' → ∀ cenv : Env, cenv.locals = C → wpAny (model X.prog X.w) X.A (PySem.passOn "comprehension.variables-let-go" e cenv : Sem Value) (fun _ _ => False) X.xe { s' with heap := h' }
def cxCX (X : Cx) (xs Nb : List Str) (scope : Scope) (cl : List (Str × Addr)) (C : Addr) (s₂ : Shared) (H₂ : Hp) (fp : List Addr) : Cx := { cxC X xs Nb scope cl C s₂ H₂ fp with xe := notedBy (model X.prog X.w) X.A (compEnvC scope cl C X.env) (compErr X C) }
section
variable {X : Cx}
def InBX (X : Cx) (xs Nb : List Str) (scope : Scope) (φ : Cx → Prop) : Prop := ∀ (cl : List (Str × Addr)) (C : Addr) (s₂ : Shared) (H₂ : Hp) (fp : List Addr), (∃ (pins : List (Addr × Obj)) (σ : St), Inv X pins σ H₂ s₂ ∧ s₂.heap.objs.size ≤ C ∧ (∀ b ∈ fp, FpOk X pins H₂ b)) → φ (cxCX X xs Nb scope cl C s₂ H₂ fp)
theorem comp_coreX {elt iter tg : Expr} {xs Nb : List Str} {ifs : List Expr} {scope : Scope} {pos : PySem.Pos} {wi : TI} {g : TG} {tt : TT} {te : TE}
    (hc : X.calm = true) (hi : PI X tg iter wi) (hlen : Nb.length = X.N.length) (hNb : ∀ p ∈ Nb.zip X.N, p.1 = p.2 ∨ scope.names.lookup p.1 = none) (hxN : ∀ y ∈ Nb, scope.names.lookup y ≠ some .local)
    (hg : InBX X xs Nb scope fun Y => PG Y tg g) (ht : InBX X xs Nb scope fun Y => PIf Y ifs tt) (he : InBX X xs Nb scope fun Y => PE Y elt te)
    (hcell : ∀ y ∈ scope.names, y.2 ≠ .cell) (hkind : scope.kind = .function) (hnames : ∀ y ∈ scope.names, y.2 = .local → scope.names.lookup y.1 = some .local)
    (hfree : ∀ y ∈ scope.names, y.2 = .free → X.env.kindOf y.1 = some .cell)
    (hs : ∀ x, foldedSetIterable iter X.env x = pure x) {pos2 : PySem.Pos} {use : Option (Value → Sem Unit)} {QQ : Value → Shared → Prop} {pins : List (Addr × Obj)} {s : Shared} {σ : St} {H : Hp} {Q : VK} (I : Inv X pins σ H s) (h : tCompG xs.length wi g tt te σ H Q)
    (post : ∀ (s2 s4 : Shared) (H2 H4 : Hp) (C D : Addr) (m4 : Str → Option Value), Inv X pins σ H2 s2 → s2.heap.objs.size ≤ C → s4.heap.Ns C m4 → H4 C = none → (∀ h', Heap.SameBut C s4.heap h' → Inv X pins σ H4 { s4 with heap := h' }) → Q (.ref D) H4 → compPost (model X.prog X.w) X.A X.xe use QQ (.ref D) C (.ok .next) s4) :
    wpAny (model X.prog X.w) X.A (comprehension (.ListComp elt [⟨tg, iter, ifs, 0⟩] scope pos) scope X.env pos2 (newList []) false (eval iter X.env) use) QQ X.xe s := by
  obtain ⟨cl, hcl, cl1, cl2⟩ := clos_ok (scope := scope) (env := X.env) (fun y hy hf => I.ok.has y.1 (.inl (hfree y hy hf)))
  refine wpAny_comprehension_free rfl hs hcl hkind hnames (thn (hi pins s σ H _ I h) fun v s1 h1 => thn h1 fun itv s2 h2 => ?_)
  obtain ⟨it, fp, tn, J, H2, e, I2, T, st2, f2, W, ⟨m0, w0⟩, turn⟩ := h2
  subst e
  refine wpAny_newObj_type (wpAny_newFunctionEnv hcell (by intro y hy; simp at hy) (fun h₁ hns₁ hsb₁ => ?_) hkind)
  dsimp only at hns₁ hsb₁ ⊢
  generalize hHp : s2.heap.push { cls := .type "list", dict := none, data := .seq ([] : List Value).toArray } = Hp2 at hns₁ hsb₁ ⊢
  have hC : Hp2.objs.size = s2.heap.objs.size + 1 := by rw [← hHp, Heap.size_push]
  have hDC : s2.heap.objs.size ≠ Hp2.objs.size := by rw [hC]; exact Nat.ne_of_lt (Nat.lt_succ_self _)
  have below : ∀ b, b < s2.heap.objs.size → b ≠ Hp2.objs.size ∧ b ≠ s2.heap.objs.size := fun b hb => ⟨by rw [hC]; exact Nat.ne_of_lt (Nat.lt_succ_of_lt hb), Nat.ne_of_lt hb⟩
  have old : ∀ b o, s2.heap.get? b = some o → h₁.get? b = some o := fun b o e => hsb₁.extBut b o (below b (Heap.lt_size e)).1 (Heap.get?_push_of_some _ (hHp ▸ Heap.get?_push_of_some _ e))
  have hacc : h₁.PlainList s2.heap.objs.size #[] := ⟨_, hsb₁.extBut _ _ hDC (Heap.get?_push_of_some _ (hHp ▸ Heap.get?_push_size _ rfl))⟩
  generalize hY : cxCX X xs Nb scope cl Hp2.objs.size s2 H2 fp = Y
  have Yprog : Y.prog = X.prog := by rw [← hY]; rfl
  have fpLt : ∀ b ∈ fp, b < s2.heap.objs.size := fun b hb => by
    obtain ⟨o, e, _⟩ := T.obj _ _ st2 b hb
    exact Heap.lt_size e
  have cellLt : ∀ y c, cl.lookup y = some c → c < s2.heap.objs.size := fun y c hc => by
    obtain ⟨v, q⟩ := I2.cell y c (cl1 y c hc)
    exact q.lt
  have frSub : ∀ b ∈ frs X.stack, b < s2.heap.objs.size := fun b hb => by
    rcases List.mem_cons.mp (I2.stkSub b hb) with z | z
    · rw [z]; exact I2.lt
    · by_cases hlt : b < s2.heap.objs.size
      · exact hlt
      · exact absurd z (I2.nofs (Nat.le_of_not_lt hlt))
  have ok : (cxCX X xs Nb scope cl Hp2.objs.size s2 H2 fp).Ok := by
    refine ⟨I2.ok.mod, hkind, I2.ok.glob, I2.ok.blt, (by show s2.heap.objs.size ≤ Hp2.objs.size; omega), fun y z c h1 h2 => I2.ok.inj y z c (cl1 y c h1) (cl1 z c h2), fun y hy => ?_, fun y c hf _ => absurd hf (by intro z; cases z), I2.ok.hd, I2.ok.frames, .inl rfl, fun b hb => ⟨?_, fun y c h1 h2 => ?_⟩, I2.bs, Nat.le_trans I2.ok.bsz I2.sz, fun b o e hb => ?_, fun b hb hm => ?_, I2.stack, I2.stkFree⟩
    · have hy : (scope.names.map fun (n, k) => if (k == NameKind.free && X.env.scope.kind == .function && X.env.kindOf n == some .cell) then (n, NameKind.cell) else (n, k)).lookup y = some .cell ∨ (scope.names.map fun (n, k) => if (k == NameKind.free && X.env.scope.kind == .function && X.env.kindOf n == some .cell) then (n, NameKind.cell) else (n, k)).lookup y = some .free := hy
      have q : scope.names.lookup y = some .free := by
        rcases hy with z | z
        · exact (relabel_kind hcell z (.inl rfl)).1
        · exact (relabel_kind hcell z (.inr rfl)).1
      exact Option.isSome_iff_exists.mp (cl2 y (PySem.mem_of_lookup q))
    · exact (below b (fpLt b hb)).1
    · exact (f2 b hb).2.2.2.2.1 y c (cl1 y c h1) h2
    · rcases (f2 b hb).2.2.2.1 with z | z
      · exact I2.ok.noex b o e z
      · exact absurd (Nat.lt_of_lt_of_le (Heap.lt_size e) (Nat.le_trans I2.ok.bsz z)) (Nat.lt_irrefl _)
    · rcases List.mem_cons.mp (I2.stkSub b hm) with z | z
      · exact (f2 b hb).2.1 z
      · exact (f2 b hb).2.2.1 z
  have fpY : ∀ {H' : Hp} {pl : List (Addr × Obj)}, (∀ b ∈ fp, H' b = none) → (∀ p ∈ pl, p.1 = s2.heap.objs.size) → ∀ b ∈ fp, FpOk Y pl H' b := fun {H' pl} hn hp b hb => by
    rw [← hY]
    refine ⟨hn b hb, (below b (fpLt b hb)).1, fun hm => ?_, .inl hb, fun y c h1 h2 => (f2 b hb).2.2.2.2.1 y c (cl1 y c h1) h2, fun p hm z => ?_⟩
    · rcases List.mem_cons.mp (I2.stkSub b hm) with z | z
      · exact (f2 b hb).2.1 z
      · exact (f2 b hb).2.2.1 z
    · have hm : p ∈ pl := hm
      rw [hp p hm] at z
      exact (below b (fpLt b hb)).2 z.symm
  have HD : H2 s2.heap.objs.size = none := I2.hok.fresh (Nat.le_refl _)
  have HC : H2 Hp2.objs.size = none := I2.hok.fresh (by omega)
  obtain ⟨m2, hns2, hloc2⟩ := I2.loc
  have IY : ∀ tk, Inv (cxCX X xs Nb scope cl Hp2.objs.size s2 H2 fp) [] (List.replicate xs.length none ++ σ) H2 { s2 with heap := h₁, toks := tk } := fun tk => by
    refine ⟨ok, rfl, I2.bare, Un.kept old, ⟨_, hns₁, fun i y v h1 h2 h3 => ?_⟩, fun y c h1 => ?_, HC, fun y c h1 => I2.freeC y c (cl1 y c h1), fun p hp => absurd (show p ∈ ([] : List (Addr × Obj)) from hp) (by simp), I2.hok.kept old, (by show (List.replicate xs.length (none : Option V) ++ σ).length = (xs ++ Nb).length; rw [List.length_append, List.length_append, List.length_replicate, hlen, I2.len])⟩
    · have h1 : (xs ++ Nb)[i]? = some y := h1
      by_cases hik : i < xs.length
      · rw [List.getElem?_append_left (by rw [List.length_replicate]; exact hik), List.getElem?_replicate, if_pos hik] at h2
        cases h2
      · rw [List.getElem?_append_right (by omega)] at h1
        rw [List.getElem?_append_right (by rw [List.length_replicate]; omega), List.length_replicate] at h2
        generalize i - xs.length = i at h1 h2
        have h3 : Vis (relabel scope X.env) y := h3
        have key : ∀ k, (k = NameKind.cell ∨ k = NameKind.free) → (relabel scope X.env).names.lookup y = some k → ∃ u, RelV v u ∧ Look (compEnvC scope cl Hp2.objs.size X.env) h₁ (fun x => ([] : List (Str × Value)).reverse.lookup x) y u := fun k hk hl => by
          obtain ⟨q1, _⟩ := relabel_kind hcell hl hk
          have q2 := hfree (y, .free) (PySem.mem_of_lookup q1) rfl
          have h1' : X.N[i]? = some y := by
            have hi' : i < X.N.length := by rw [← hlen]; exact (List.getElem?_eq_some_iff.mp h1).1
            have hz : (Nb.zip X.N)[i]? = some (y, X.N[i]) := by rw [List.getElem?_zip_eq_some]; exact ⟨h1, List.getElem?_eq_getElem hi'⟩
            rcases hNb _ (List.mem_of_getElem? hz) with z | z
            · have z : y = X.N[i] := z
              rw [z]; exact List.getElem?_eq_getElem hi'
            · have z : scope.names.lookup y = none := z
              rw [q1] at z; cases z
          obtain ⟨u, r, l⟩ := hloc2 i y v h1' h2 (.inr (.inl q2))
          refine ⟨u, r, .inr ⟨?_, ?_⟩⟩
          · rcases hk with rfl | rfl
            · exact .inl hl
            · exact .inr hl
          · rcases l with ⟨k1, _⟩ | ⟨_, c, e1, z⟩
            · rw [q2] at k1; cases k1
            · obtain ⟨c', e2⟩ := Option.isSome_iff_exists.mp (cl2 y (PySem.mem_of_lookup q1))
              have e3 := cl1 y c' e2
              rw [e1] at e3
              cases e3
              obtain ⟨o, ho, hd⟩ := z
              exact ⟨c, e2, o, old c o ho, hd⟩
        rcases h3 with h3 | h3 | h3
        ·
          exfalso
          exact hxN y (List.mem_of_getElem? h1) (relabel_local h3)
        · exact key _ (.inl rfl) h3
        · exact key _ (.inr rfl) h3
    · obtain ⟨v, o, ho, hd⟩ := I2.cell y c (cl1 y c h1)
      exact ⟨v, o, old c o ho, hd⟩
  have noErr : ∀ {α : Type} {m : Sem α} {G : α → Shared → Prop} {E' : Value → Shared → Prop} {s' : Shared}, wpAny (model X.prog X.w) X.A m G (fun _ _ => False) s' → wpAny (model X.prog X.w) X.A m G E' s' := fun h => wpAny_mono h (fun _ _ q => q) fun _ _ q => q.elim
  have loop : ∀ (tk : Nat) (R : Result → Shared → Prop), R = compPost (model X.prog X.w) X.A X.xe use QQ (.ref s2.heap.objs.size) Hp2.objs.size →
      codeAny (model X.prog X.w) X.A (.compLoop (.ListComp elt [⟨tg, iter, ifs, 0⟩] scope pos) 0 (.ref it) (.ref s2.heap.objs.size) (compEnvC scope cl Hp2.objs.size X.env)) R { s2 with heap := h₁, toks := tk } := by
    rintro tk R rfl
    refine loop_turns rfl (fun n s' => ∃ i σv H' ys its, σv.length = xs.length ∧ Inv Y [] (σv ++ σ) H' s' ∧ tn i s'.heap ∧ (∀ b ∈ fp, H' b = none) ∧ Vals ys its ∧ ys.length ≤ sizeLine ∧ s'.heap.PlainList s2.heap.objs.size its.toArray ∧ H' s2.heap.objs.size = none ∧ W i n ys H') ?_ m0
      ⟨0, List.replicate xs.length none, H2, [], [], List.length_replicate, hY ▸ IY tk, T.keep _ _ _ st2 fun b _ o e => old b o e, fun b hb => (f2 b hb).1, .nil, Nat.zero_le _, hacc, HD, w0⟩
    rintro n s3 ⟨i, σv, H3, ys, its, lv, I3, st3, fr3, rv, hz, ⟨nn, pl3⟩, HD3, w3⟩
    have I3p : Inv Y [(s2.heap.objs.size, { cls := .type "list", data := .seq its.toArray nn })] (σv ++ σ) H3 s3 := I3.pins_of fun p hp => by
      rw [List.mem_singleton] at hp
      subst hp
      refine ⟨pl3, HD3, ?_, fun hm => ?_, fun v z => by cases z⟩
      · rw [← hY]; exact hDC
      · rw [← hY] at hm
        exact absurd (frSub _ hm) (Nat.lt_irrefl _)
    have pinD : ∀ p ∈ [((s2.heap.objs.size : Addr), ({ cls := .type "list", data := .seq its.toArray nn } : Obj))], p.1 = s2.heap.objs.size := fun p hp => by
      rw [List.mem_singleton] at hp
      rw [hp]
    subst hY
    rcases turn i n ys H3 w3 with ⟨stop, qn⟩ | ⟨go, hlt, NN, hNN, step⟩
    · refine noErr (thn (T.done (cxCX X xs Nb scope cl Hp2.objs.size s2 H2 fp) rfl rfl rfl hc i _ s3 _ H3 (fun _ _ => False) I3p (fpY fr3 pinD) st3 stop) fun r s4 ⟨hr, I4⟩ => ?_)
      subst hr
      obtain ⟨m4, hns4, _⟩ := I4.loc
      refine post s2 s4 H2 (upd H3 s2.heap.objs.size (.lst ys)) Hp2.objs.size s2.heap.objs.size m4 I2 (by omega) hns4 (by rw [upd_ne (Ne.symm hDC)]; exact I4.free) (fun h' sb => ?_) (qn _ HD3)
      have pl4 := (I4.pin _ (List.mem_append_right _ List.mem_cons_self)).1
      have up : ∀ b o, b ≠ Hp2.objs.size → s4.heap.get? b = some o → h'.get? b = some o := fun b o hb e => sb.extBut b o hb e
      have base := I4.base
      have HC4 : H3 Hp2.objs.size = none := I4.free
      have neC : ∀ b o, s2.heap.get? b = some o → b ≠ Hp2.objs.size := fun b o e => (below b (Heap.lt_size e)).1
      have neD : ∀ b o, s2.heap.get? b = some o → b ≠ s2.heap.objs.size := fun b o e => (below b (Heap.lt_size e)).2
      have hokN : HOk X.prog X.w (upd H3 s2.heap.objs.size (.lst ys)) h' := fun b u e => by
        by_cases hb : b = s2.heap.objs.size
        · subst hb
          rw [upd_same] at e
          cases e
          exact ⟨hz, its, nn, rv, up _ _ hDC pl4⟩
        · rw [upd_ne hb] at e
          refine (I4.hok b u e).stay (fun c v hc q => up c v ?_ q) (fun c q => by rw [upd_ne (ne_of_none q HD3)]; exact q) fun c xs q => by rw [upd_ne (ne_of_none q HD3)]; exact q
          rcases hc with z | z
          · rw [z]; exact ne_of_none e HC4
          · exact ne_of_none z HC4
      refine I2.call' (s' := { s4 with heap := h' }) (ch := fp) I4.os ⟨fun b o e n hb hx' => up b o (neC b o e) (base.keep b o e n hb hx'), fun b o e n hb hx' => ?_, fun b o e n hx' => ?_, fun b o e hx' => ?_, fun b xs e => ?_, fun b o u e => ?_, fun b ps e => ?_⟩ hokN I4.bare (fun b hb => ?_)
      · obtain ⟨sl, q⟩ := base.slot b o e n hb hx'
        exact ⟨sl, up b _ (neC b o e) q⟩
      · rw [upd_ne (neD b o e)]
        exact base.free b o e n hx'
      · obtain ⟨o', q⟩ := base.there b o e hx'
        exact ⟨o', up b o' (neC b o e) q⟩
      · have q := base.tups b xs e
        rw [upd_ne (ne_of_none q HD3)]; exact q
      · have q := base.frzs b o u e
        rw [upd_ne (ne_of_none q HD3)]; exact q
      · obtain ⟨more, q⟩ := base.tbls b ps e
        exact ⟨more, by rw [upd_ne (ne_of_none q HD3)]; exact q⟩
      · obtain ⟨_, g1, _, g3, g4, g5⟩ := f2 b hb
        exact ⟨g3, g1, g4, g5⟩
    · refine noErr (thn (T.item (cxCX X xs Nb scope cl Hp2.objs.size s2 H2 fp) rfl rfl rfl hc i _ s3 _ H3 (fun _ _ => False) I3p (fpY fr3 pinD) st3 go) fun r s4 ⟨u, hr, h4⟩ => ?_)
      subst hr
      refine noErr (thn h4 fun _ s5 ⟨v, H5, I5, r5, y5, st5, fr5⟩ => ?_)
      have I5' := I5.pinned (fpY fr5 pinD) (T.obj _ _ st5)
      have stp := step v H5 σv lv y5
      refine (thn (hg cl Hp2.objs.size s2 H2 fp ⟨_, _, I2, by omega, f2⟩ _ s5 _ H5 v u _ I5' r5 stp) fun _ s6 ⟨σ6, H6, I6, ⟨pre', e6, l6⟩, stp⟩ => ?_)
      subst e6
      have again : ∀ {s7 s8 : Shared} {H7 : Hp} {zs : List V} {ws : List Value} {m' : Nat}, Inv (cxCX X xs Nb scope cl Hp2.objs.size s2 H2 fp) ([((s2.heap.objs.size : Addr), ({ cls := .type "list", data := .seq its.toArray nn } : Obj))] ++ pinsAt fp s5.heap) (pre' ++ σ) H7 s7 →
          (∃ h', s8 = { s7 with heap := h' } ∧ (∀ b o, b ≠ s2.heap.objs.size → s7.heap.get? b = some o → h'.get? b = some o) ∧ h'.PlainList s2.heap.objs.size ws.toArray) → Vals zs ws → zs.length ≤ sizeLine → m' < n → W (i + 1) m' zs H7 →
          ∃ m, m < n ∧ ∃ i σv H' ys its, σv.length = xs.length ∧ Inv (cxCX X xs Nb scope cl Hp2.objs.size s2 H2 fp) [] (σv ++ σ) H' s8 ∧ tn i s8.heap ∧ (∀ b ∈ fp, H' b = none) ∧ Vals ys its ∧ ys.length ≤ sizeLine ∧ s8.heap.PlainList s2.heap.objs.size its.toArray ∧ H' s2.heap.objs.size = none ∧ W i m ys H' := by
        rintro s7 s8 H7 zs ws m' I7 ⟨h', rfl, up, plw⟩ rz hzz hm w7
        have HD7 : H7 s2.heap.objs.size = none := (I7.pin _ (List.mem_append_right _ (List.mem_append_left _ List.mem_cons_self))).2.1
        have fr7 : ∀ b ∈ fp, H7 b = none := fun b hb => by
          obtain ⟨o, e, d⟩ := T.obj _ _ st5 b hb
          exact (I7.pin (b, o) (List.mem_append_right _ (List.mem_append_right _ (mem_pinsAt hb e)))).2.1
        have I7' : Inv (cxCX X xs Nb scope cl Hp2.objs.size s2 H2 fp) [] (pre' ++ σ) H7 s7 := I7.pins_of fun p hp => absurd hp (by simp)
        refine ⟨m', hm, i + 1, pre', H7, zs, ws, l6, ?_, ?_, fr7, rz, hzz, plw, HD7, w7⟩
        · have := I7'.turned (it := s2.heap.objs.size) (h' := h') (t' := s7.toks) up HD7 hDC (.inr (Nat.le_refl _)) (fun y c h1 h2 => absurd (cellLt y c h1) (by rw [h2]; exact Nat.lt_irrefl _)) (fun p hp => absurd (show p ∈ ([] : List (Addr × Obj)) from hp) (by simp))
          exact this
        · refine T.keep _ _ _ st5 fun b hb o e => up b o (below b (fpLt b hb)).2 ?_
          exact (I7.pin (b, o) (List.mem_append_right _ (List.mem_append_right _ (mem_pinsAt hb e)))).1
      refine (thn (ht cl Hp2.objs.size s2 H2 fp ⟨_, _, I2, by omega, f2⟩ _ s6 _ H6 _ I6 stp) fun okb s7 ⟨H7, I7, q7⟩ => ?_)
      have pl7 := (I7.pin _ (List.mem_append_right _ (List.mem_append_left _ List.mem_cons_self))).1
      cases okb with
      | false =>
        rw [if_neg Bool.false_ne_true] at q7 ⊢
        obtain ⟨m', hm, w7⟩ := hNN _ _ q7
        exact again I7 ⟨s7.heap, rfl, fun _ _ _ e => e, nn, pl7⟩ rv hz hm w7
      | true =>
        rw [if_pos rfl] at q7 ⊢
        refine (thn (he cl Hp2.objs.size s2 H2 fp ⟨_, _, I2, by omega, f2⟩ _ s7 _ H7 _ I7 q7) fun w' s8 ⟨y, H8, I8, r8, q8⟩ => ?_)
        obtain ⟨m', hm, w8⟩ := hNN _ _ q8
        have pl8 := (I8.pin _ (List.mem_append_right _ (List.mem_append_left _ List.mem_cons_self))).1
        refine wpAny_list_append_plain (hsz := by have := rv.length; simp only [List.size_toArray]; omega) ⟨nn, pl8⟩ fun h9 pl9 sb9 => ?_
        refine again I8 ⟨h9, rfl, fun b o hb e => sb9.extBut b o hb e, ?_⟩ (rv.append (.cons r8 .nil)) (by rw [List.length_append, List.length_singleton]; omega) hm w8
        have e9 : its.toArray.push w' = (its ++ [w']).toArray := by simp
        rw [← e9]
        exact pl9
  refine codeAny_compStart_list (loop _ _ rfl) (noErr (T.self _ 0 _ _ _ (T.keep _ _ _ st2 fun b _ o e => old b o e) (loop _ _ rfl)))
theorem pe_compGX {elt iter tg : Expr} {xs Nb : List Str} {ifs : List Expr} {scope : Scope} {pos : PySem.Pos} {wi : TI} {g : TG} {tt : TT} {te : TE}
    (hc : X.calm = true) (hi : PI X tg iter wi) (hlen : Nb.length = X.N.length) (hNb : ∀ p ∈ Nb.zip X.N, p.1 = p.2 ∨ scope.names.lookup p.1 = none) (hxN : ∀ y ∈ Nb, scope.names.lookup y ≠ some .local)
    (hg : InBX X xs Nb scope fun Y => PG Y tg g) (ht : InBX X xs Nb scope fun Y => PIf Y ifs tt) (he : InBX X xs Nb scope fun Y => PE Y elt te)
    (hcell : ∀ y ∈ scope.names, y.2 ≠ .cell) (hkind : scope.kind = .function) (hnames : ∀ y ∈ scope.names, y.2 = .local → scope.names.lookup y.1 = some .local)
    (hfree : ∀ y ∈ scope.names, y.2 = .free → X.env.kindOf y.1 = some .cell)
    (hs : ∀ x, foldedSetIterable iter X.env x = pure x := by intro _; rfl) :
    PE X (.ListComp elt [⟨tg, iter, ifs, 0⟩] scope pos) (tCompG xs.length wi g tt te) := by
  intro pins s σ H Q I h
  rw [eval_ListComp]
  exact comp_coreX (use := none) (QQ := EP X pins σ Q) hc hi hlen hNb hxN hg ht he hcell hkind hnames hfree hs I h fun s2 s4 H2 H4 C D m4 _ _ hn _ IX q => ⟨m4, hn, fun h' sb => ⟨.ref D, H4, IX h' sb, rfl, q⟩⟩
end
end L2
set_option Elab.async false
set_option linter.all false
set_option maxRecDepth 100000
set_option maxHeartbeats 1000000
namespace L2
open PySem PySem.Spec PyProof.Rows
section
variable {X : Cx} {pins : List (Addr × Obj)} {σ : St} {H2 H' : Hp} {s2 : Shared} {fp : List Addr} {C : Addr} {h1 h' B : Heap}
theorem leave_unC (I : Inv X pins σ H2 s2) (hex : X.ex = []) (hC : s2.heap.objs.size ≤ C) (hch : ∀ b ∈ fp, FpOk X pins H2 b) (u : Un (frs X.stack) fp H2 H' s2.heap h1) (hok : HOk X.prog X.w H' h1) (b1 : B.StaysIn h1) (b2 : B.StaysIn h')
    (sm : ∀ b o, b ≠ C → h1.get? b = some o → (∀ vs, o.data ≠ .fields vs) → ∃ sl, h'.get? b = some { o with slots := sl })
    (c1 : ∀ b o, s2.heap.get? b = some o → b ∉ fp → b ∉ frs X.stack → ∃ o', B.get? b = some o') (c2 : ∀ b o, H' b = some o → ∃ o', B.get? b = some o') :
    Un X.fs [] X.H₀ H' X.s₀.heap h' ∧ HOk X.prog X.w H' h' ∧ ∀ b o, X.s₀.heap.get? b = some o → b ∉ X.fs → ∃ o', B.get? b = some o' := by
  have nex : ∀ b : Addr, b ∉ X.ex := fun b z => by rw [hex] at z; cases z
  have nfp : ∀ b o, X.s₀.heap.get? b = some o → b ∉ fp := fun b o e z => by
    rcases (hch b z).2.2.2.1 with q | q
    · exact nex b q
    · exact absurd (Heap.lt_size e) (Nat.not_lt.mpr q)
  have c0 : ∀ b o, X.s₀.heap.get? b = some o → b ∉ X.fs → ∃ o', B.get? b = some o' := fun b o e hb => by
    obtain ⟨o1, e1⟩ := I.base.there b o e (nex b)
    refine c1 b o1 e1 (nfp b o e) fun z => ?_
    rcases List.mem_cons.mp (I.stkSub b z) with q | q
    · exact absurd (Nat.lt_of_lt_of_le (Heap.lt_size e) I.ok.above) (by rw [q]; exact Nat.lt_irrefl _)
    · exact hb q
  have J := (I.call (g' := s2.gens) (t' := s2.toks) (d' := s2.drawn) (ch := fp) u hok I.bare (fun b z => by obtain ⟨_, g1, _, g3, g4, g5⟩ := hch b z; exact ⟨g3, g1, g4, g5⟩)).base
  rw [hex] at J
  have same : ∀ b o, h1.get? b = some o → (∃ o', B.get? b = some o') → h'.get? b = some o := fun b o e ⟨o', q⟩ => by
    have := b1 b o' q
    rw [e] at this
    cases this
    exact b2 b _ q
  have frm : ∀ b ∈ X.fs, ∀ o, h1.get? b = some o → ∃ sl, h'.get? b = some { o with slots := sl } := fun b hb o e => by
    obtain ⟨_, o0, e0, hd⟩ := I.ok.funs.mem hb
    obtain ⟨sl, e1⟩ := J.slot b o0 e0 (I.ok.frf b hb) hb (by simp)
    have e1 : h1.get? b = some _ := e1
    rw [e] at e1
    cases e1
    exact sm b _ (fun z => I.nofs hC (z ▸ hb)) e hd
  refine ⟨⟨fun b o e n hb _ => ?_, fun b o e n hb _ => ?_, J.free, fun b o e _ => ?_, J.tups, J.frzs, J.tbls⟩, fun b u' e => ?_, c0⟩
  · exact same b o (J.keep b o e n hb (by simp)) (c0 b o e hb)
  · obtain ⟨sl, e1⟩ := J.slot b o e n hb (by simp)
    obtain ⟨sl', e2⟩ := frm b hb _ e1
    exact ⟨sl', e2⟩
  · obtain ⟨o1, e1⟩ := J.there b o e (by simp)
    by_cases hb : b ∈ X.fs
    · obtain ⟨sl, e2⟩ := frm b hb _ e1
      exact ⟨_, e2⟩
    · exact ⟨o1, same b o1 e1 (c0 b o e hb)⟩
  · refine (hok b u' e).stay (fun c v hc r => same c v r ?_) (fun _ q => q) fun _ _ q => q
    rcases hc with rfl | hc
    · exact c2 _ _ e
    · exact c2 _ _ hc
end
section
variable {P : Program} {w : World} {K : PySem.W.Frag} {mg : Str → Option Value} {base : Heap} {N : List Str} {qual : Str} {scope : Scope} {f : Addr} {cd : Value} {A : Around} {outer : List Env} {s : Shared} {H : Hp} {E : XK}
set_option maxHeartbeats 4000000 in
theorem passEC {xs Nb : List Str} {sc : Scope} {cl : List (Str × Addr)} {C : Addr} {s₂ : Shared} {H₂ : Hp} {fp : List Addr}
    (hin : ∃ (pins : List (Addr × Obj)) (σ : St), Inv (cxOf (CXE P w) P w K mg base N qual scope f cd A outer s H E) pins σ H₂ s₂ ∧ s₂.heap.objs.size ≤ C ∧ (∀ b ∈ fp, FpOk (cxOf (CXE P w) P w K mg base N qual scope f cd A outer s H E) pins H₂ b)) :
    PassesX (cxCX (cxOf (CXE P w) P w K mg base N qual scope f cd A outer s H E) xs Nb sc cl C s₂ H₂ fp) (fun c _ H' => E c none H') := by
  obtain ⟨pins2, σ2, I2, hC, hfp⟩ := hin
  rintro pins σ H1 s1 e s' I ⟨a, Cc, a0, B, H', rfl, ho, hb, un, hok, fl, c1, c2, q⟩
  generalize hX : cxOf (CXE P w) P w K mg base N qual scope f cd A outer s H E = X at *
  have hstk : X.stack = X.env :: outer := by rw [← hX]; rfl
  have hfr : X.A.frames = some (X.env :: outer) := by rw [← hstk]; exact I2.ok.frames
  have hfrm : ∃ L, X.env.frame = some L := by rw [← hX]; exact ⟨_, rfl⟩
  obtain ⟨L, hL⟩ := hfrm
  have fl : Heap.FlyingW B (X.env :: outer) a (.ref Cc) a0 s'.heap := hstk ▸ fl
  obtain ⟨m1, hns1, _⟩ := I.loc
  have HC1 : H1 C = none := I.free
  obtain ⟨oC, es, ep, hoC, hdC, hn'⟩ := id hns1
  have Cfs : C ∉ frs X.stack := fun z => by
    rcases List.mem_cons.mp (I2.stkSub C z) with q' | q'
    · exact absurd (Nat.lt_of_lt_of_le I2.lt hC) (by rw [q']; exact Nat.lt_irrefl _)
    · exact I2.nofs hC q'
  have un' : Un (frs X.stack) [] H1 H' s1.heap s'.heap := un
  have hC' : s'.heap.get? C = some oC := un'.keep C oC hoC HC1 Cfs (by simp)
  have HC' : H' C = none := un'.free C oC hoC HC1 (by simp)
  have hnC : s'.heap.Ns C m1 := ⟨oC, es, ep, hC', hdC, hn'⟩
  have bse : Un (frs X.stack) fp H₂ H1 s₂.heap s1.heap := I.base
  have uAll : Un (frs X.stack) fp H₂ H' s₂.heap s'.heap := bse.trans (un'.mono (fun _ z => z) fun _ z => by cases z)
  show wpAny (model X.prog X.w) X.A (noteFrame (.ref a) X.env) _ _ s'
  refine wpAny_looks_onW hfr hL fl fun hA held upA => ?_
  obtain ⟨k1, k2, k3, k4⟩ := held
  refine ⟨m1, upA.ns hnC, fun hB sb cenv _ => ?_⟩
  have stB : (PySem.W.hideAll B [C]).StaysIn hB := fun b o e => by
    have hne : b ≠ C := fun z => by rw [z, PySem.W.hideAll_none [C] (by simp)] at e; cases e
    exact sb.extBut b o hne (k1 b o (PySem.W.of_hideAll _ e))
  have ae : (PySem.W.hideAll B [C]).get? a = none := by
    cases z : (PySem.W.hideAll B [C]).get? a with
    | none => rfl
    | some o => have := PySem.W.of_hideAll _ z; rw [k2] at this; cases this
  have aC : a ≠ C := fun z => by
    obtain ⟨_, _, _, oe, vs, _, _, _, he, _, hd, _⟩ := fl
    rw [z, hC'] at he
    cases he
    rw [hdC] at hd
    cases hd
  have ffB : ∀ {l : List Env} {h0 : Heap}, h0.FunFrames B l → (∀ b ∈ frs l, b ≠ C) → (∀ b o, b ≠ C → h0.get? b = some o → hB.get? b = some o) → hB.FunFrames (PySem.W.hideAll B [C]) l := fun {l} => by
    induction l with
    | nil => intro _ _ _ _; trivial
    | cons env rest ih =>
      rintro h0 ⟨q1, ⟨Lx, ox, q2, q3, q4, q5⟩, q6⟩ hn hk
      refine ⟨q1, ⟨Lx, ox, q2, ?_, hk Lx ox (hn Lx (by unfold frs; rw [List.filterMap_cons, q2]; exact List.mem_cons_self)) q4, q5⟩, ih q6 (fun b hb => hn b (by unfold frs at hb ⊢; rw [List.filterMap_cons, q2]; exact List.mem_cons_of_mem _ hb)) hk⟩
      cases z : (PySem.W.hideAll B [C]).get? Lx with
      | none => rfl
      | some o => have := PySem.W.of_hideAll _ z; rw [q3] at this; cases this
  have kB : ∀ b o, b ≠ C → hA.get? b = some o → hB.get? b = some o := fun b o n e => sb.extBut b o n e
  have frB := ffB k3 (fun b hb z => Cfs (by rw [hstk, ← z]; exact hb)) kB
  have trB : hB.TracedAtW (PySem.W.hideAll B [C]) a (.ref Cc) a0 (rawInt L) := by
    obtain ⟨oe, vs, T, oT, ts, he, hcls, hd, h1, hnT, hTe, hT, hdT, h3⟩ := k4
    have tC : T ≠ C := fun z => by
      obtain ⟨sl, z2⟩ := upA C oC hC' (fun vs q => by rw [hdC] at q; cases q)
      rw [z, z2] at hT
      cases hT
      have hdT : oC.data = .fields ts := hdT
      rw [hdC] at hdT
      cases hdT
    refine ⟨oe, vs, T, oT, ts, kB a oe aC he, hcls, hd, h1, ?_, hTe, kB T oT tC hT, hdT, h3⟩
    cases z : (PySem.W.hideAll B [C]).get? T with
    | none => rfl
    | some o => have := PySem.W.of_hideAll _ z; rw [hnT] at this; cases this
  refine pass_on (s := { s' with heap := hB }) stB frB trB fun hD v d1 d2 d3 upD => ?_
  subst hX
  refine leave_any (s := { s' with heap := hD }) hfr hL d1 ae d2 d3 fun hE flE upE => ?_
  have st' : (PySem.W.hideAll B [C]).StaysIn s'.heap := fun b o e => fl.1 b o (PySem.W.of_hideAll _ e)
  have sm : ∀ b o, b ≠ C → s'.heap.get? b = some o → (∀ vs, o.data ≠ .fields vs) → ∃ sl, hE.get? b = some { o with slots := sl } := fun b o n e hd => by
    obtain ⟨sl1, e1⟩ := upA b o e hd
    obtain ⟨sl2, e2⟩ := upD b _ (kB b _ n e1) hd
    obtain ⟨sl3, e3⟩ := upE b _ e2 hd
    exact ⟨sl3, e3⟩
  obtain ⟨u2, hok2, c0⟩ := leave_unC I2 rfl hC hfp uAll hok st' flE.1 sm (fun b o e n1 n2 => by
      obtain ⟨o1, e1⟩ := bse.there b o e n1
      obtain ⟨o2, e2⟩ := c1 b o1 e1 n2
      exact ⟨o2, PySem.W.hideAll_get _ e2 (by simp; exact Nat.ne_of_lt (Nat.lt_of_lt_of_le (Heap.lt_size e) hC))⟩) (fun b o e => by
      obtain ⟨o2, e2⟩ := c2 b o e
      exact ⟨o2, PySem.W.hideAll_get _ e2 (by simp; exact fun z => by rw [z, HC'] at e; cases e)⟩)
  exact ⟨a, Cc, a0, PySem.W.hideAll B [C], H', rfl, ho.trans I.os |>.trans I2.os, hb, u2, hok2, flE, c0, fun b o e => by
      obtain ⟨o2, e2⟩ := c2 b o e
      exact ⟨o2, PySem.W.hideAll_get _ e2 (by simp; exact fun z => by rw [z, HC'] at e; cases e)⟩, q⟩
end
end L2
set_option Elab.async false
set_option linter.all false
set_option maxRecDepth 100000
set_option maxHeartbeats 1000000
set_option Elab.async false
set_option linter.all false
set_option maxRecDepth 100000
set_option maxHeartbeats 1000000
set_option Elab.async false
set_option linter.all false
set_option maxRecDepth 100000
set_option maxHeartbeats 1000000
set_option Elab.async false
set_option linter.all false
set_option maxRecDepth 100000
set_option maxHeartbeats 1000000
set_option Elab.async false
set_option linter.all false
set_option maxRecDepth 100000
set_option maxHeartbeats 1000000
set_option Elab.async false
set_option linter.all false
set_option maxRecDepth 100000
set_option maxHeartbeats 1000000
set_option Elab.async false
set_option linter.all false
set_option maxRecDepth 100000
set_option maxHeartbeats 1000000
set_option Elab.async false
set_option linter.all false
set_option maxRecDepth 100000
set_option maxHeartbeats 1000000
set_option Elab.async false
set_option linter.all false
set_option maxRecDepth 100000
set_option maxHeartbeats 1000000
set_option Elab.async false
set_option linter.all false
set_option maxRecDepth 100000
set_option maxHeartbeats 1000000
set_option Elab.async false
set_option linter.all false
set_option maxRecDepth 100000
set_option maxHeartbeats 1000000
set_option Elab.async false
set_option linter.all false
set_option maxRecDepth 100000
set_option maxHeartbeats 1000000
set_option Elab.async false
set_option linter.all false
set_option maxRecDepth 100000
set_option maxHeartbeats 1000000
set_option Elab.async false
set_option linter.all false
set_option maxRecDepth 100000
set_option maxHeartbeats 1000000
namespace L2
open PySem PySem.Spec PyProof.Rows
section
variable {X : Cx}
theorem op_inK {K : PySem.W.Frag} (hK : X.K = K := by rfl) : OpR X (compareOp .In) (rIn K false) := by subst hK; exact op_in_seq
end
end L2
set_option Elab.async false
set_option linter.all false
set_option maxRecDepth 100000
set_option maxHeartbeats 1000000
namespace L2
open PySem PySem.Spec PyProof.Rows
def Lx (a b : List Int × Int) : Prop := ∃ i p j r : Nat, a.1 = [(i : Int), (p : Int)] ∧ b.1 = [(j : Int), (r : Int)] ∧ (i < j ∨ (i = j ∧ p < r))
end L2
set_option Elab.async false
set_option linter.all false
set_option maxRecDepth 100000
set_option maxHeartbeats 1000000
set_option Elab.async false
set_option linter.all false
set_option maxRecDepth 100000
set_option maxHeartbeats 1000000
set_option Elab.async false
set_option linter.all false
set_option maxRecDepth 100000
set_option maxHeartbeats 1000000
namespace L2
open PySem PySem.Spec PyProof.Rows
theorem meta_ve : PySem.W.kitMeta "ValueError" = true := by decide +kernel
end L2
set_option Elab.async false
set_option linter.all false
set_option maxRecDepth 100000
set_option maxHeartbeats 1000000
namespace L2
open PySem PySem.Spec PyProof.Rows
def wordsS (p : Str) : List Str := Txt.split p " "
def rowOk (p : Str) : Bool := (wordsS p).all isNum
def rowI (p : Str) : List Int := (wordsS p).map numI
def partsS (t : Str) : List Str := Txt.split t " / "
def txtOk (t : Str) : Bool := (partsS t).all rowOk
def triI (t : Str) : List (List Int) := (partsS t).map rowI
theorem kit_str {K : PySem.W.Frag} : PySem.W.kitOne K (.type "str") (.type "str") = some true := by with_unfolding_all rfl
def spPartsX (cT : Addr) : Sp := fun vs H Q E => ∃ t y : Str, vs = [.str t, .str y] ∧ (y.length == 0) = false ∧ t.length ≤ 900 ∧ ∀ (l : Addr) (H' : Hp), Same H H' → H l = none → H' l = some (.lst ((Txt.split t y).map V.str)) → Q (.ref l) H'
section
variable {K : PySem.W.Frag} {H : Hp} {Q : VK} {Z : L2.St → Hp → Prop} {E : XK} {cT cS cE : Addr}
def tPartsX (K : PySem.W.Frag) (E : XK) (cT : Addr) : TS := tSeq (tIfS (tNot (tB (tCB (fun xs H Q => ∃ x t b, xs = [x, V.ty "str"] ∧ TyOf K H x t ∧ W.kitOne K t (Value.type "str") = some b ∧ Q (V.bl b) H) (tCons (tVar 0) (tCons (tC (V.ty "str")) tNil))))) (tRaise E cT) tNext) (tRet (tBM K "str" (fun x vs H Q => ∃ z y, x = V.str z ∧ vs = [V.str y] ∧ (y.length == 0) = false ∧ z.length ≤ 100000 ∧ ∀ (l : Addr), H l = none → Q (V.ref l) (upd H l (HO.lst (List.map V.str (Txt.split z y))))) (tVar 0) (tCons (tVar 1) tNil)))
theorem parts_reads {t y : Str} (hy : (y.length == 0) = false) (tl : t.length ≤ 900) (k : ∀ (l : Addr) (H' : Hp), Same H H' → H l = none → H' l = some (.lst ((Txt.split t y).map V.str)) → Q (.ref l) H') : tPartsX K E cT { nx := Z, rt := Q } [some (.str t), some (.str y)] H := by
  refine ⟨_, rfl, .str t, _, _, rfl, .str _, kit_str, _, rfl, iteF ?_⟩
  exact ⟨_, rfl, rfl, _, rfl, t, y, rfl, rfl, hy, by omega, fun l hl => k l _ (Same.nw (Same.refl H) hl) hl upd_same⟩
theorem blank_ne : ((" " : Str).length == 0) = false := by decide +kernel
theorem slash_ne : ((" / " : Str).length == 0) = false := by decide +kernel
theorem words_len (p : Str) (h : p.length ≤ 900) : (wordsS p).length ≤ 902 ∧ ∀ w ∈ wordsS p, w.length ≤ 900 := by
  refine ⟨by have := split_len p " "; unfold wordsS; omega, fun w hw => ?_⟩
  have : w.length ≤ p.length := part_short hw
  omega
theorem parts_len (t : Str) (h : t.length ≤ 900) : (partsS t).length ≤ 902 ∧ ∀ w ∈ partsS t, w.length ≤ 900 := by
  refine ⟨by have := split_len t " / "; unfold partsS; omega, fun w hw => ?_⟩
  have : w.length ≤ t.length := part_short hw
  omega
def spNumX (cT : Addr) : Sp := fun vs H Q E => ∃ t : Str, vs = [.str t] ∧ t.length ≤ 900 ∧ (rowOk t = false → ∀ H', Same H H' → E (.ref cT) none H') ∧ (rowOk t = true → ∀ (l : Addr) (H' : Hp), Same H H' → H l = none → H' l = some (.lst ((rowI t).map V.int)) → Q (.ref l) H')
def tNumX (K : PySem.W.Frag) (E : XK) (cT : Addr) : TS := tSeq (tAsg (tCallX (spPartsX cT) (fun c x H' => E c none H') (tCons (tVar 0) (tCons (tC (V.str (" "))) tNil))) (gName 1)) (tSeq (tIfS (tNot (tB (tCB (fun xs H_1 Q => ∃ p bs, xs = [V.ref p] ∧ SqL K H_1 p (List.map V.bl bs) ∧ Q (V.bl (bs.all id)) H_1) (tCons (tCompG 1 (iList K (tVar 1)) (gName 0) tYes (tCall spIsNum [] E0 (tCons (tVar 0) tNil))) tNil)))) (tRaise E cT) tNext) (tRet (tCompG 1 (iList K (tVar 1)) (gName 0) tYes (tCB (fun xs H Q => ∃ z n, xs = [V.str z] ∧ intText? z = some n ∧ z.length ≤ 640 ∧ Q (V.int n) H) (tCons (tVar 0) tNil)))))
set_option maxHeartbeats 4000000 in
theorem numbers_reads {t : Str} (tl : t.length ≤ 900) (k1 : rowOk t = false → ∀ H', Same H H' → E (.ref cT) none H') (k2 : rowOk t = true → ∀ (l : Addr) (H' : Hp), Same H H' → H l = none → H' l = some (.lst ((rowI t).map V.int)) → Q (.ref l) H') : tNumX K E cT { nx := Z, rt := Q } [some (.str t), none] H := by
  obtain ⟨wl, ww⟩ := words_len t tl
  refine ⟨_, rfl, t, " ", rfl, blank_ne, tl, fun p H1 s1 pf hp => ?_⟩
  have hp : H1 p = some (.lst ((wordsS t).map V.str)) := hp
  refine ⟨_, rfl, p, rfl, ⟨_, SqL.of hp⟩, compL (K := K) (a := p) (xs := (wordsS t).map V.str) (fun n ys H' => Same H1 H' ∧ ys = (((wordsS t).take n).map isNum).map V.bl) ⟨Same.refl _, rfl⟩ (by rw [List.length_map]; omega) (fun n ys H' h => by rw [h.2, List.length_map, List.length_map, List.length_take]; exact Nat.min_le_left _ _) (fun n ys H' _ h => SqL.of (h.1 _ _ hp)) ?_ ?_⟩
  · rintro n z ys H2 pre hpl hz ⟨s2, rfl⟩
    rw [List.getElem?_map] at hz
    cases ez : (wordsS t)[n]? with
    | none => rw [ez] at hz; cases hz
    | some w =>
      rw [ez] at hz
      cases hz
      have lw := ww w (List.mem_of_getElem? ez)
      rcases pre with _ | ⟨q0, _ | ⟨q1, pre⟩⟩
      · cases hpl
      · refine ⟨⟨[some _], rfl, rfl⟩, ?_⟩
        unfold tYes
        dsimp only
        rw [if_pos (rfl : true = true)]
        refine ⟨_, rfl, w, rfl, by omega, fun H3 s3 => ⟨s2.trans s3, ?_⟩⟩
        rw [take_succ' ez, List.map_append, List.map_append]
        rfl
      · cases hpl
  · rintro ys H2 ⟨s2, rfl⟩ D hD
    rw [List.length_map, List.take_length]
    have s3 := Same.nw (o := .lst (((wordsS t).map isNum).map V.bl)) (Same.refl H2) hD
    refine ⟨D, _, rfl, SqL.of upd_same, _, rfl, ?_⟩
    have s13 := s1.trans (s2.trans s3)
    have hp3 := s3 _ _ (s2 _ _ hp)
    change if (!((wordsS t).map isNum).all id) = true then _ else _
    rw [show (((wordsS t).map isNum).all id) = rowOk t by unfold rowOk; rw [List.all_map]; rfl]
    generalize upd H2 D (.lst (((wordsS t).map isNum).map V.bl)) = H3 at s13 hp3 ⊢
    cases hk : rowOk t with
    | false => exact iteT (k1 hk H3 s13)
    | true =>
      refine iteF ?_
      refine ⟨_, rfl, p, rfl, ⟨_, SqL.of hp3⟩, compL (K := K) (a := p) (xs := (wordsS t).map V.str) (fun n ys H' => H3 = H' ∧ ys = (((wordsS t).take n).map numI).map V.int) ⟨rfl, rfl⟩ (by rw [List.length_map]; omega) (fun n ys H' h => by rw [h.2, List.length_map, List.length_map, List.length_take]; exact Nat.min_le_left _ _) (fun n ys H' _ h => by rw [← h.1]; exact SqL.of hp3) ?_ ?_⟩
      · rintro n z ys H4 pre hpl hz ⟨rfl, rfl⟩
        rw [List.getElem?_map] at hz
        cases ez : (wordsS t)[n]? with
        | none => rw [ez] at hz; cases hz
        | some w =>
          rw [ez] at hz
          cases hz
          have lw := ww w (List.mem_of_getElem? ez)
          obtain ⟨v1, v2⟩ := num_val (w := w) (List.all_eq_true.mp hk w (List.mem_of_getElem? ez)) (by omega)
          rcases pre with _ | ⟨q0, _ | ⟨q1, pre⟩⟩
          · cases hpl
          · refine ⟨⟨[some _], rfl, rfl⟩, ?_⟩
            unfold tYes
            dsimp only
            rw [if_pos (rfl : true = true)]
            refine ⟨_, rfl, w, numI w, rfl, v1, by omega, rfl, ?_⟩
            rw [take_succ' ez, List.map_append, List.map_append]
            rfl
          · cases hpl
      · rintro ys H4 ⟨rfl, rfl⟩ D2 hD2
        rw [List.length_map, List.take_length]
        exact k2 hk D2 _ (s13.trans (Same.nw (Same.refl H3) hD2)) (s13.free hD2) upd_same
def spTriX (cT : Addr) : Sp := fun vs H Q E => ∃ t : Str, vs = [.str t] ∧ t.length ≤ 900 ∧ (txtOk t = false → ∀ H', Same H H' → E (.ref cT) none H') ∧ (txtOk t = true → ∀ (l : Addr) (ys : List V) (H' : Hp), Same H H' → H l = none → H' l = some (.lst ys) → TuL H' ys (triI t) → Q (.ref l) H')
def tTriX (K : PySem.W.Frag) (E : XK) (cT : Addr) : TS := tRet (tCompG 1 (iList K (tCallX (spPartsX cT) (fun c x H' => E c none H') (tCons (tVar 0) (tCons (tC (V.str (" / "))) tNil)))) (gName 0) tYes (tCB (fun xs H Q => ∃ p ys, xs = [V.ref p] ∧ ((SqL K H p ys ∧ ∀ (l : Addr), H l = none → Q (V.ref l) (upd H l (HO.tup ys))) ∨ SqT K H p ys ∧ Q (V.ref p) H)) (tCons (tCallX (spNumX cT) (fun c x H' => E c none H') (tCons (tVar 0) tNil)) tNil)))
theorem triangles_reads {t : Str} (tl : t.length ≤ 900) (k1 : txtOk t = false → ∀ H', Same H H' → E (.ref cT) none H') (k2 : txtOk t = true → ∀ (l : Addr) (ys : List V) (H' : Hp), Same H H' → H l = none → H' l = some (.lst ys) → TuL H' ys (triI t) → Q (.ref l) H') : tTriX K E cT { nx := Z, rt := Q } [some (.str t)] H := by
  obtain ⟨wl, ww⟩ := parts_len t tl
  refine ⟨_, rfl, t, " / ", rfl, slash_ne, tl, fun p H1 s1 pf hp => ?_⟩
  have hp : H1 p = some (.lst ((partsS t).map V.str)) := hp
  refine ⟨p, rfl, ⟨_, SqL.of hp⟩, compL (K := K) (a := p) (xs := (partsS t).map V.str) (fun n ys H' => Same H1 H' ∧ ((partsS t).take n).all rowOk = true ∧ TuL H' ys (((partsS t).take n).map rowI)) ⟨Same.refl _, rfl, TuL.nil _⟩ (by rw [List.length_map]; omega) (fun n ys H' h => by rw [h.2.2.1, List.length_map, List.length_take]; exact Nat.min_le_left _ _) (fun n ys H' _ h => SqL.of (h.1 _ _ hp)) ?_ ?_⟩
  · rintro n z ys H2 pre hpl hz ⟨s2, ok2, t2⟩
    rw [List.getElem?_map] at hz
    cases ez : (partsS t)[n]? with
    | none => rw [ez] at hz; cases hz
    | some w =>
      rw [ez] at hz
      cases hz
      have lw := ww w (List.mem_of_getElem? ez)
      rcases pre with _ | ⟨q0, _ | ⟨q1, pre⟩⟩
      · cases hpl
      · refine ⟨⟨[some _], rfl, rfl⟩, ?_⟩
        unfold tYes
        dsimp only
        rw [if_pos (rfl : true = true)]
        refine ⟨_, rfl, w, rfl, lw, fun bad H3 s3 => k1 ?_ H3 (s1.trans (s2.trans s3)), fun ok l H3 s3 lf hl => ?_⟩
        · unfold txtOk
          cases za : (partsS t).all rowOk with
          | false => rfl
          | true => rw [List.all_eq_true.mp za w (List.mem_of_getElem? ez)] at bad; cases bad
        · refine ⟨l, _, rfl, .inl ⟨SqL.of hl, fun q hq => ?_⟩⟩
          have s4 := Same.nw (o := .tup ((rowI w).map V.int)) (Same.refl H3) hq
          refine ⟨s2.trans (s3.trans s4), ?_, ?_⟩
          · rw [take_succ' ez, List.all_append, ok2]
            simpa using ok
          · rw [take_succ' ez, List.map_append]
            exact TuL.snoc (t2.up (s3.trans s4).tups) upd_same
      · cases hpl
  · rintro ys H2 ⟨s2, ok2, t2⟩ D hD
    rw [List.length_map, List.take_length] at ok2 t2
    have s3 := Same.nw (o := .lst ys) (Same.refl H2) hD
    exact k2 ok2 D ys _ (s1.trans (s2.trans s3)) ((s1.trans s2).free hD) upd_same (t2.up s3.tups)
def spIsSZ : Sp := fun vs H Q _ => ∃ x d, vs = [x] ∧ Th H x d ∧ ∀ H', Same H H' → Q (.bl (isS d)) H'
theorem th_tri {H : Hp} {l : Addr} {ys : List V} {S : List (List Int)} (hl : H l = some (.lst ys)) (t : TuL H ys S) : Th H (.ref l) (dTs S) := .lst hl t.th.1 t.th.2
def spSheetOf (cS : Addr) : Sp := fun vs H Q E => ∃ (l : Addr) (ys : List V) (U : List (List Int)), vs = [.ref l] ∧ H l = some (.lst ys) ∧ TuL H ys U ∧ (isS (dTs U) = false → ∀ H', Same H H' → E (.ref cS) none H') ∧ (isS (dTs U) = true → ∀ H', Same H H' → Q (.ref l) H')
def tSheetOf (K : PySem.W.Frag) (E : XK) (cS : Addr) : TS := tSeq (tIfS (tNot (tB (tCall spIsSZ [] E0 (tCons (tVar 0) tNil)))) (tRaise E cS) tNext) (tRet (tVar 0))
theorem sheetof_reads {l : Addr} {ys : List V} {U : List (List Int)} (hl : H l = some (.lst ys)) (tU : TuL H ys U) (k1 : isS (dTs U) = false → ∀ H', Same H H' → E (.ref cS) none H') (k2 : isS (dTs U) = true → ∀ H', Same H H' → Q (.ref l) H') : tSheetOf K E cS { nx := Z, rt := Q } [some (.ref l)] H := by
  refine ⟨_, rfl, .ref l, dTs U, rfl, th_tri hl tU, fun H1 s1 => ⟨_, rfl, ?_⟩⟩
  cases hk : isS (dTs U) with
  | false => exact iteT (k1 hk H1 s1)
  | true => exact iteF ⟨_, rfl, k2 hk H1 s1⟩
def spReadX (cT cS : Addr) : Sp := fun vs H Q E => ∃ t : Str, vs = [.str t] ∧ t.length ≤ 900 ∧ (txtOk t = false → ∀ H', Same H H' → E (.ref cT) none H') ∧ (txtOk t = true → isS (dTs (triI t)) = false → ∀ H', Same H H' → E (.ref cS) none H') ∧ (txtOk t = true → isS (dTs (triI t)) = true → ∀ (l : Addr) (ys : List V) (H' : Hp), Same H H' → H l = none → H' l = some (.lst ys) → TuL H' ys (triI t) → Q (.ref l) H')
def tReadX (K : PySem.W.Frag) (E : XK) (cT cS : Addr) : TS := tRet (tCallX (spSheetOf cS) (fun c x H' => E c none H') (tCons (tCallX (spTriX cT) (fun c x H' => E c none H') (tCons (tVar 0) tNil)) tNil))
theorem read_reads {t : Str} (tl : t.length ≤ 900) (k1 : txtOk t = false → ∀ H', Same H H' → E (.ref cT) none H') (k2 : txtOk t = true → isS (dTs (triI t)) = false → ∀ H', Same H H' → E (.ref cS) none H') (k3 : txtOk t = true → isS (dTs (triI t)) = true → ∀ (l : Addr) (ys : List V) (H' : Hp), Same H H' → H l = none → H' l = some (.lst ys) → TuL H' ys (triI t) → Q (.ref l) H') : tReadX K E cT cS { nx := Z, rt := Q } [some (.str t)] H := by
  refine ⟨_, rfl, t, rfl, tl, k1, fun ok l ys H1 s1 lf hl tl => ?_⟩
  exact ⟨l, ys, triI t, rfl, hl, tl, fun h H2 s2 => k2 ok h H2 (s1.trans s2), fun h H2 s2 => k3 ok h l ys H2 (s1.trans s2) lf (s2 _ _ hl) (tl.up s2.tups)⟩
end
end L2
set_option Elab.async false
set_option linter.all false
set_option maxRecDepth 100000
set_option maxHeartbeats 1000000
set_option Elab.async false
set_option linter.all false
set_option maxRecDepth 100000
set_option maxHeartbeats 1000000
namespace L2
open PySem PySem.Spec PyProof.Rows
section
variable {X : Cx}
def rInD (K : PySem.W.Frag) : R2 := fun x y H Q => ∃ (dx : PyData) (ds : List PyData), DI K H y (.list ds) ∧ DI K H x dx ∧ PyData.canLayAll0 ds = true ∧ dx.canLay0 = true ∧ PyData.depthAll ds ≤ 40 ∧ Q (.bl (ds.any fun d => PyData.eqv d dx)) H
theorem op_inDn {K : PySem.W.Frag} {k : Nat} (hr : Room k X.A) (hK : X.K = K := by rfl) : OpR X (compareOp .In) (rInD K) := by
  subst hK
  intro pins s σ H x y v v' Q I rx ry h
  obtain ⟨dx, ds, hy, hx, cy, cx, hd, q⟩ := h
  obtain ⟨as, ra⟩ := hx.reads I rx
  obtain ⟨bs, rb⟩ := hy.reads I ry
  have hu := hr.units
  exact SeqAt.in_list_reads rb ra cy cx (by have := Nat.min_le_left (PyData.depthAll ds) dx.depth; omega) ⟨.bl _, H, I, rfl, q⟩
end
end L2
set_option Elab.async false
set_option linter.all false
set_option maxRecDepth 100000
set_option maxHeartbeats 1000000
namespace L2
open PySem PySem.Spec PyProof.Rows
section
variable {K : PySem.W.Frag} {H : Hp} {Q : VK} {Z : L2.St → Hp → Prop} {E : XK} {cT cS cE : Addr}
def spFigsX : Sp := fun vs H Q _ => ∃ t : Str, vs = [.str t] ∧ t.length ≤ 900 ∧ (rowOk t = false → ∀ H', Same H H' → Q .non H') ∧ (rowOk t = true → ∀ (l : Addr) (H' : Hp), Same H H' → H l = none → H' l = some (.lst ((rowI t).map V.int)) → Q (.ref l) H')
def tFigsX (K : PySem.W.Frag) : TS := tSeq (tAsg (tCompG 1 (iList K (tBM K "str" (fun x vs H Q => ∃ z y, x = V.str z ∧ vs = [V.str y] ∧ (y.length == 0) = false ∧ z.length ≤ 100000 ∧ ∀ (l : Addr), H l = none → Q (V.ref l) (upd H l (HO.lst (List.map V.str (Txt.split z y))))) (tVar 0) (tCons (tC (V.str (" "))) tNil))) (gName 0) tYes (tCall spFig [] E0 (tCons (tVar 0) tNil))) (gName 1)) (tSeq (tIfS (tTest (tOp (rIn K false) (tC V.non) (tVar 1))) (tRet (tC V.non)) tNext) (tRet (tVar 1)))
theorem in_fig : ∀ ws : List Str, inV .non (ws.map figV) = !(ws.all isNum)
  | [] => rfl
  | w :: ws => by
    show (eqV (figV w) .non || inV .non (ws.map figV)) = !(isNum w && ws.all isNum)
    rw [in_fig ws]
    unfold figV
    cases isNum w <;> rfl
theorem flat_fig (ws : List Str) : (ws.map figV).all flatV = true := by
  rw [List.all_eq_true]
  intro x hx
  obtain ⟨w, _, rfl⟩ := List.mem_map.mp hx
  unfold figV
  split <;> rfl
theorem figs_reads {t : Str} (tl : t.length ≤ 900) (k1 : rowOk t = false → ∀ H', Same H H' → Q .non H') (k2 : rowOk t = true → ∀ (l : Addr) (H' : Hp), Same H H' → H l = none → H' l = some (.lst ((rowI t).map V.int)) → Q (.ref l) H') : tFigsX K { nx := Z, rt := Q } [some (.str t), none] H := by
  obtain ⟨wl, ww⟩ := words_len t tl
  refine ⟨_, rfl, rfl, t, " ", rfl, rfl, blank_ne, by omega, fun p hp => ?_⟩
  have s1 := Same.nw (o := .lst ((Txt.split t " ").map V.str)) (Same.refl H) hp
  have f1 : (upd H p (.lst ((Txt.split t " ").map V.str))) p = some (.lst ((wordsS t).map V.str)) := upd_same
  have hpf : H p = none := hp
  generalize upd H p (.lst ((Txt.split t " ").map V.str)) = H1 at s1 f1 ⊢
  refine ⟨p, rfl, ⟨_, SqL.of f1⟩, compL (K := K) (a := p) (xs := (wordsS t).map V.str) (fun n ys H' => Same H1 H' ∧ ys = ((wordsS t).take n).map figV) ⟨Same.refl _, rfl⟩ (by rw [List.length_map]; omega) (fun n ys H' h => by rw [h.2, List.length_map, List.length_take]; exact Nat.min_le_left _ _) (fun n ys H' _ h => SqL.of (h.1 _ _ f1)) ?_ ?_⟩
  · rintro n z ys H2 pre hpl hz ⟨s2, rfl⟩
    rw [List.getElem?_map] at hz
    cases ez : (wordsS t)[n]? with
    | none => rw [ez] at hz; cases hz
    | some w =>
      rw [ez] at hz
      cases hz
      have lw := ww w (List.mem_of_getElem? ez)
      rcases pre with _ | ⟨q0, _ | ⟨q1, pre⟩⟩
      · cases hpl
      · refine ⟨⟨[some _], rfl, rfl⟩, ?_⟩
        unfold tYes
        dsimp only
        rw [if_pos (rfl : true = true)]
        refine ⟨_, rfl, w, rfl, by omega, fun H3 s3 => ⟨s2.trans s3, ?_⟩⟩
        rw [take_succ' ez, List.map_append]
        rfl
      · cases hpl
  · rintro ys H2 ⟨s2, rfl⟩ D hD
    rw [List.length_map, List.take_length]
    have s3 := Same.nw (o := .lst ((wordsS t).map figV)) (Same.refl H2) hD
    have f3 : (upd H2 D (.lst ((wordsS t).map figV))) D = some (.lst ((wordsS t).map figV)) := upd_same
    change gName 1 _ _ (upd H2 D (.lst ((wordsS t).map figV))) _
    have s13 := s1.trans (s2.trans s3)
    have hDf : H D = none := (s1.trans s2).free hD
    generalize upd H2 D (.lst ((wordsS t).map figV)) = H3 at s13 f3 ⊢
    refine ⟨_, rfl, D, _, rfl, .inl (SqL.of f3), rfl, flat_fig _, _, rfl, ?_⟩
    change if (inV .non ((wordsS t).map figV)) = true then _ else _
    rw [in_fig]
    change if (!rowOk t) = true then _ else _
    cases hk : rowOk t with
    | false => exact iteT (k1 hk H3 s13)
    | true =>
      have e : (wordsS t).map figV = (rowI t).map V.int := by
        unfold rowI
        rw [List.map_map]
        refine List.map_congr_left fun w hw => ?_
        unfold figV
        rw [if_pos (List.all_eq_true.mp hk w hw)]
        rfl
      rw [e] at f3
      exact iteF ⟨_, rfl, k2 hk D H3 s13 hDf f3⟩
def spLIsS : Sp := fun vs H Q _ => ∃ (l : Addr) (ys : List V) (U : List (List Int)), vs = [.ref l] ∧ H l = some (.lst ys) ∧ TuL H ys U ∧ U.length ≤ 910 ∧ ∀ H', Same H H' → Q (.bl (isS (dTs U))) H'
def tLIsS (K : PySem.W.Frag) : TS := tSeq (tAsg (tCB (fun xs H Q => ∃ p ys, xs = [V.ref p] ∧ (SqL K H p ys ∨ SqT K H p ys) ∧ Q (V.int ys.length) H) (tCons (tVar 0) tNil)) (gName 1)) (tSeq (tIfS (tOr (tTest (tOp rEq (tOp (rI (fun x j => 0 < j) fun i j => V.int (i % j)) (tVar 1) (tC (V.int 2))) (tC (V.int 1)))) (tOr (tNot (tTest (tChain (rI0 fun i j => V.bl (decide (i ≤ j))) (rI0 fun i j => V.bl (decide (i ≤ j))) (tC (V.int 2)) (tVar 1) (tC (V.int 12))))) (tNot (tB (tCB (fun xs H_1 Q => ∃ p bs, xs = [V.ref p] ∧ SqL K H_1 p (List.map V.bl bs) ∧ Q (V.bl (bs.all id)) H_1) (tCons (tCompG 1 (iList K (tVar 0)) (gName 0) tYes (tOp rEq (tCB (fun xs H Q => ∃ p ys, xs = [V.ref p] ∧ (SqL K H p ys ∨ SqT K H p ys) ∧ Q (V.int ys.length) H) (tCons (tVar 0) tNil)) (tC (V.int 3)))) tNil)))))) (tRet (tC (V.bl false))) tNext) (tSeq (tAsg (tLst tNil) (gName 2)) (tSeq (tFor (iList K (tVar 0)) (gName 3) (tAsg (tOp rCat (tVar 2) (tCompG 1 (iTup K (tVar 3)) (gName 0) tYes (tCB (fun xs H Q => ∃ i, xs = [V.int i] ∧ Q (V.int (if i < 0 then -i else i)) H) (tCons (tVar 0) tNil)))) (gName 2))) (tRet (tOp (rEqD K fun b => b) (tCB (fun xs H_1 Q => ∃ p ns, xs = [V.ref p] ∧ SqL K H_1 p (List.map V.int ns) ∧ ns.length < 64 ∧ ∀ (l : Addr) (ms : List Int), H_1 l = none → ms.Perm ns → List.Pairwise (fun x1 x2 => x1 ≤ x2) ms → Q (V.ref l) (upd H_1 l (HO.lst (List.map V.int ms)))) (tCons (tVar 2) tNil)) (tCB (fun xs H_1 Q => ∃ p ns, xs = [V.ref p] ∧ SqL K H_1 p (List.map V.int ns) ∧ ns.length < 64 ∧ ∀ (l : Addr) (ms : List Int), H_1 l = none → ms.Perm ns → List.Pairwise (fun x1 x2 => x1 ≤ x2) ms → Q (V.ref l) (upd H_1 l (HO.lst (List.map V.int ms)))) (tCons (tOp rRep (tCB (fun xs H Q => ∃ p i j, xs = [V.ref p] ∧ H p = some (HO.rng i j) ∧ -1000 ≤ i ∧ i ≤ j ∧ j ≤ 1000 ∧ ∀ (l : Addr), H l = none → Q (V.ref l) (upd H l (HO.lst (List.map V.int (upto i (j - i).toNat))))) (tCons (tCB (fun xs H Q => ∃ i j, xs = [V.int i, V.int j] ∧ ∀ (p : Addr), H p = none → Q (V.ref p) (upd H p (HO.rng i j))) (tCons (tC (V.int 1)) (tCons (tOp (rI0 fun i j => V.int (i + j)) (tOp (rI CDivL fun i j => V.int (i / j)) (tOp (rI CMul fun i j => V.int (i * j)) (tC (V.int 3)) (tVar 1)) (tC (V.int 2))) (tC (V.int 1))) tNil))) tNil)) (tC (V.int 2))) tNil)))))))
theorem sort_one {a b : List Int} (h : a.Perm b) (h1 : a.Pairwise (· ≤ ·)) (h2 : b.Pairwise (· ≤ ·)) : a = b := by
  refine perm_uniB (lt := fun x y : Int => decide (x < y)) (fun {x y} h1 h2 => ?_) a b h (h1.imp fun {x y} hxy => ?_) (h2.imp fun {x y} hxy => ?_)
  · have h1 := of_decide_eq_false h1
    have h2 := of_decide_eq_false h2
    omega
  · exact decide_eq_false (by omega)
  · exact decide_eq_false (by omega)
theorem tri_all {U : List (List Int)} : (U.map dT).all isTri = U.all fun u => decide (u.length = 3) := by
  rw [List.all_map]
  congr 1
  funext u
  show isTri (dT u) = _
  by_cases h : u.length = 3
  · rw [decide_eq_true h, tri_dT h]
  · rw [decide_eq_false h]
    cases z : isTri (dT u) with
    | false => rfl
    | true =>
      obtain ⟨a, b, c, e⟩ := isTri_ints z
      have : u.map PyData.int = [.int a, .int b, .int c] := by injection e
      have := congrArg List.length this
      rw [List.length_map] at this
      exact absurd this h
set_option maxHeartbeats 4000000 in
theorem liss_reads {l : Addr} {ys : List V} {U : List (List Int)} (hl : H l = some (.lst ys)) (tU : TuL H ys U) (ul : U.length ≤ 910) (k : ∀ H', Same H H' → Q (.bl (isS (dTs U))) H') : tLIsS K { nx := Z, rt := Q } [some (.ref l), none, none, none] H := by
  have lx : ys.length = U.length := tU.1
  have eU : dTs U = .list (U.map dT) := rfl
  have lm : (U.map dT).length = U.length := by rw [List.length_map]
  have bad : ¬ (2 ≤ U.length ∧ U.length ≤ 12 ∧ U.length % 2 = 0) → ∀ H', Same H H' → Q (.bl false) H' := fun h H' s' => by
    have := k H' s'
    rw [eU, isS_len (by rw [lm]; exact h)] at this
    exact this
  refine ⟨_, rfl, l, ys, rfl, .inl (SqL.of hl), ?_⟩
  refine ⟨_, rfl, _, _, rfl, rfl, (by show (0 : Int) < 2; decide), rfl, _, rfl, ?_⟩
  by_cases lo : ((ys.length : Nat) : Int) % 2 = 1
  · have ev : decide ((fun i j => V.int (i % j)) ((ys.length : Nat) : Int) 2 = V.int 1) = true := decide_eq_true (by show V.int (((ys.length : Nat) : Int) % 2) = V.int 1; rw [lo])
    rw [ev]
    exact iteT (iteT (bad (by omega) H (Same.refl H)))
  have ev : decide ((fun i j => V.int (i % j)) ((ys.length : Nat) : Int) 2 = V.int 1) = false := decide_eq_false fun q => lo (V.int.inj q)
  rw [ev]
  refine iteF ⟨_, rfl, _, _, rfl, rfl, _, rfl, ?_⟩
  by_cases l2 : (2 : Int) ≤ ((ys.length : Nat) : Int)
  rotate_left
  · rw [decide_eq_false l2]
    exact iteF ⟨_, rfl, iteT (iteT (bad (by omega) H (Same.refl H)))⟩
  rw [decide_eq_true l2]
  refine iteT ⟨_, _, rfl, rfl, _, rfl, ?_⟩
  by_cases l12 : ((ys.length : Nat) : Int) ≤ 12
  rotate_left
  · rw [decide_eq_false l12]
    exact iteT (iteT (bad (by omega) H (Same.refl H)))
  rw [decide_eq_true l12]
  refine iteF ?_
  have okl : 2 ≤ U.length ∧ U.length ≤ 12 ∧ U.length % 2 = 0 := by omega
  refine ⟨_, rfl, l, rfl, ⟨_, SqL.of hl⟩, compL (K := K) (a := l) (xs := ys) (fun i zs H' => zs = ((U.take i).map fun u => decide (u.length = 3)).map V.bl ∧ H = H') ⟨rfl, rfl⟩ (by omega) (fun n zs H' h => by rw [h.1, List.length_map, List.length_map, List.length_take]; exact Nat.min_le_left _ _) (fun n zs H' _ h => by rw [← h.2]; exact SqL.of hl) ?_ ?_⟩
  · rintro n y zs H1 pre hpl hx ⟨rfl, rfl⟩
    obtain ⟨u, q, eu, rfl, hq⟩ := tU.take hx
    rcases pre with _ | ⟨q0, _ | ⟨q1, pre⟩⟩
    · cases hpl
    · refine ⟨⟨[some _], rfl, rfl⟩, ?_⟩
      unfold tYes
      dsimp only
      rw [if_pos (rfl : true = true)]
      refine ⟨_, rfl, q, _, rfl, .inr (SqT.of hq), rfl, ?_, rfl⟩
      rw [take_succ' eu, List.map_append, List.map_append]
      dsimp only [List.map]
      congr 3
      rw [List.length_map]
      by_cases z : u.length = 3
      · rw [decide_eq_true z, decide_eq_true (by rw [z]; rfl)]
      · rw [decide_eq_false z, decide_eq_false (fun w => z (by injection w with w; omega))]
    · cases hpl
  rintro zs H1 ⟨rfl, rfl⟩ D hD
  rw [List.take_of_length_le (by omega)]
  have s1 := Same.nw (o := .lst ((U.map fun u => decide (u.length = 3)).map V.bl)) (Same.refl H) hD
  refine ⟨D, U.map (fun u => decide (u.length = 3)), rfl, SqL.of upd_same, ?_⟩
  generalize upd H D (.lst ((U.map fun u => decide (u.length = 3)).map V.bl)) = H1 at s1 ⊢
  refine ⟨_, rfl, ?_⟩
  change if (!((U.map fun u => decide (u.length = 3)).all id)) = true then _ else _
  rw [show ((U.map fun u => decide (u.length = 3)).all id) = (U.map dT).all isTri by rw [tri_all, List.all_map]; rfl]
  cases hall : (U.map dT).all isTri with
  | false =>
    have := k H1 s1
    rw [eU, isS_tri hall] at this
    exact iteT this
  | true =>
    refine iteF ?_
    have h3 : ∀ u ∈ U, u.length = 3 := fun u hu => by
      rw [tri_all] at hall
      exact of_decide_eq_true (List.all_eq_true.mp hall u hu)
    refine ⟨(by show 0 ≤ sizeLine; decide), fun sd hsd => ?_⟩
    have s2 := Same.nw (o := .lst []) (Same.refl H1) hsd
    have f2 : (upd H1 sd (.lst [])) sd = some (.lst []) := upd_same
    change tSeq _ _ _ _ (upd H1 sd (.lst []))
    generalize upd H1 sd (.lst []) = H2 at s2 f2 ⊢
    have s12 := s1.trans s2
    have flen : ∀ n, ((U.take n).flatten.map absI).length ≤ 36 := fun n => by
      have key : ∀ W : List (List Int), (∀ u ∈ W, u.length = 3) → W.flatten.length = 3 * W.length := fun W => by
        induction W with
        | nil => intro _; rfl
        | cons w W ih =>
          intro hw
          rw [List.flatten_cons, List.length_append, ih fun u hu => hw u (List.mem_cons_of_mem _ hu), hw w List.mem_cons_self, List.length_cons]
          omega
      rw [List.length_map, key _ fun u hu => h3 u (List.mem_of_mem_take hu), List.length_take]
      omega
    refine ⟨_, rfl, l, rfl, ⟨_, SqL.of (s12 _ _ hl)⟩, for_list (K := K) (a := l) (xs := ys) (fun i σ H' => ∃ (x3 : Option V) (a : Addr), σ = [some (.ref l), some (.int ((ys.length : Nat) : Int)), some (.ref a), x3] ∧ Same H H' ∧ H' a = some (.lst (((U.take i).flatten.map absI).map V.int))) ⟨_, sd, rfl, s12, f2⟩ (fun i σ H' _ h => by obtain ⟨_, _, _, s', _⟩ := h; exact SqL.of (s' _ _ hl)) ?_ ?_⟩
    · rintro i y σ H3 hy ⟨x3, a, rfl, s3, ha⟩
      obtain ⟨u, q, eu, rfl, hq⟩ := (tU.up s3.tups).take hy
      have u3 := h3 u (List.mem_of_getElem? eu)
      refine ⟨_, rfl, _, rfl, q, rfl, ⟨_, SqT.of hq⟩, compT (K := K) (a := q) (xs := u.map V.int) (fun m zs H' => zs = ((u.take m).map absI).map V.int ∧ H3 = H') ⟨rfl, rfl⟩ (by rw [List.length_map]; omega) (fun m zs H' h => by rw [h.1, List.length_map, List.length_map, List.length_take]; exact Nat.min_le_left _ _) (fun m zs H' _ h => by rw [← h.2]; exact SqT.of hq) ?_ ?_⟩
      · rintro n z zs H4 pre hpl hz ⟨rfl, rfl⟩
        rw [List.getElem?_map] at hz
        cases ez : u[n]? with
        | none => rw [ez] at hz; cases hz
        | some sd' =>
          rw [ez] at hz
          cases hz
          rcases pre with _ | ⟨q0, _ | ⟨q1, pre⟩⟩
          · cases hpl
          · refine ⟨⟨[some _], rfl, rfl⟩, ?_⟩
            unfold tYes
            dsimp only
            rw [if_pos (rfl : true = true)]
            refine ⟨_, rfl, sd', rfl, ?_, rfl⟩
            rw [take_succ' ez, List.map_append, List.map_append]
            rfl
          · cases hpl
      rintro zs H4 ⟨rfl, rfl⟩ D4 hD4
      rw [List.length_map, List.take_length]
      have s4 := Same.nw (o := .lst ((u.map absI).map V.int)) (Same.refl H3) hD4
      have f4 : (upd H3 D4 (.lst ((u.map absI).map V.int))) D4 = some (.lst ((u.map absI).map V.int)) := upd_same
      change rCat _ _ (upd H3 D4 (.lst ((u.map absI).map V.int))) _
      generalize upd H3 D4 (.lst ((u.map absI).map V.int)) = H4 at s4 f4 ⊢
      have fl := flen i
      refine ⟨a, D4, _, _, rfl, rfl, s4 _ _ ha, f4, Nat.le_trans (show _ ≤ 1000 by rw [List.length_map, List.length_map, List.length_map, List.length_map]; rw [List.length_map] at fl; omega) (by decide), fun p hp => ?_⟩
      refine ⟨_, p, rfl, s3.trans (s4.trans (Same.nw (Same.refl H4) hp)), ?_⟩
      rw [upd_same, take_succ' eu, List.flatten_append, List.map_append, List.map_append]
      simp
    · rintro σ H3 ⟨x3, a, rfl, s3, ha⟩
      rw [List.take_of_length_le (by omega)] at ha
      have fl := flen U.length
      rw [List.take_length] at fl
      refine ⟨_, rfl, a, _, rfl, SqL.of ha, by omega, fun p1 m1 hp1 pm1 sm1 => ?_⟩
      have s4 := Same.nw (o := .lst (m1.map V.int)) (Same.refl H3) hp1
      have f4 : (upd H3 p1 (.lst (m1.map V.int))) p1 = some (.lst (m1.map V.int)) := upd_same
      change tCB _ _ _ (upd H3 p1 (.lst (m1.map V.int))) _
      generalize upd H3 p1 (.lst (m1.map V.int)) = H4 at s4 f4 ⊢
      refine ⟨_, rfl, 3, ((ys.length : Nat) : Int), rfl, rfl, .inl ⟨by decide, by decide⟩, 3 * ((ys.length : Nat) : Int), 2, rfl, rfl, ⟨by decide, by decide⟩, _, _, rfl, rfl, 1, _, rfl, fun p2 hp2 => ?_⟩
      have s5 := Same.nw (o := .rng 1 (3 * ((ys.length : Nat) : Int) / 2 + 1)) (Same.refl H4) hp2
      have f5 : (upd H4 p2 (.rng 1 (3 * ((ys.length : Nat) : Int) / 2 + 1))) p2 = some (.rng 1 (3 * ((ys.length : Nat) : Int) / 2 + 1)) := upd_same
      change ∃ _, _
      generalize upd H4 p2 (.rng 1 (3 * ((ys.length : Nat) : Int) / 2 + 1)) = H5 at s5 f5 ⊢
      refine ⟨p2, _, _, rfl, f5, by omega, by omega, by omega, fun p3 hp3 => ?_⟩
      have en : (3 * ((ys.length : Nat) : Int) / 2 + 1 - 1).toNat = U.length / 2 * 3 := by omega
      rw [en]
      have s6 := Same.nw (o := .lst ((upto 1 (U.length / 2 * 3)).map V.int)) (Same.refl H5) hp3
      have f6 : (upd H5 p3 (.lst ((upto 1 (U.length / 2 * 3)).map V.int))) p3 = some (.lst ((upto 1 (U.length / 2 * 3)).map V.int)) := upd_same
      generalize upd H5 p3 (.lst ((upto 1 (U.length / 2 * 3)).map V.int)) = H6 at s6 f6 ⊢
      have lu : (upto 1 (U.length / 2 * 3)).length = U.length / 2 * 3 := upto_len _ _
      refine ⟨p3, 2, _, rfl, rfl, f6, by decide, by decide, Nat.le_trans (show _ ≤ 1000 by rw [List.length_map, lu]; show U.length / 2 * 3 * 2 ≤ 1000; omega) (by decide), fun p4 hp4 => ?_⟩
      rw [rep2, ← List.map_append, show upto 1 (U.length / 2 * 3) ++ upto 1 (U.length / 2 * 3) = pool (U.length / 2 * 3) from rfl]
      have s7 := Same.nw (o := .lst ((pool (U.length / 2 * 3)).map V.int)) (Same.refl H6) hp4
      have f7 : (upd H6 p4 (.lst ((pool (U.length / 2 * 3)).map V.int))) p4 = some (.lst ((pool (U.length / 2 * 3)).map V.int)) := upd_same
      change ∃ _ _, _
      generalize upd H6 p4 (.lst ((pool (U.length / 2 * 3)).map V.int)) = H7 at s7 f7 ⊢
      refine ⟨p4, pool (U.length / 2 * 3), rfl, SqL.of f7, by unfold pool; rw [List.length_append, lu]; omega, fun p5 m2 hp5 pm2 sm2 => ?_⟩
      have s8 := Same.nw (o := .lst (m2.map V.int)) (Same.refl H7) hp5
      have f8 : (upd H7 p5 (.lst (m2.map V.int))) p5 = some (.lst (m2.map V.int)) := upd_same
      change rEqD K _ _ _ (upd H7 p5 (.lst (m2.map V.int))) _
      generalize upd H7 p5 (.lst (m2.map V.int)) = H8 at s8 f8 ⊢
      have s48 := s5.trans (s6.trans (s7.trans s8))
      refine ⟨dI m1, dI m2, di_lst (SqL.of (s48 _ _ f4)), di_lst (SqL.of f8), lay_dI _, lay_dI _, dep_dI _, ?_⟩
      have := k H8 (s3.trans (s4.trans s48))
      rw [eqv_dI]
      rw [eU] at this
      have e : isS (.list (U.map dT)) = decide (m1 = m2) := by
        have key := isS_perm (ts := U.map dT) (by rw [lm]; exact okl) hall
        rw [ties_dT, lm] at key
        by_cases em : m1 = m2
        · rw [decide_eq_true em]
          exact key.mpr (pm1.symm.trans (em ▸ pm2))
        · rw [decide_eq_false em]
          cases z : isS (.list (U.map dT)) with
          | false => rfl
          | true => exact absurd (sort_one (pm1.trans ((key.mp z).trans pm2.symm)) sm1 sm2) em
      rw [e] at this
      exact this
end
end L2
set_option Elab.async false
set_option linter.all false
set_option maxRecDepth 100000
set_option maxHeartbeats 1000000
namespace L2
open PySem PySem.Spec PyProof.Rows
section
variable {K : PySem.W.Frag} {H : Hp} {Q : VK} {Z : L2.St → Hp → Prop} {E : XK}
def ansD (t : Str) : PyData := if txtOk t = true then (if isS (dTs (triI t)) = true then dTs (triI t) else .str "NoSheet") else .str "NoText"
theorem ans_bad {t : Str} (h : txtOk t = false) : ansD t = .str "NoText" := by unfold ansD; rw [if_neg (by rw [h]; decide)]
theorem ans_mid {t : Str} (h : txtOk t = true) (h2 : isS (dTs (triI t)) = false) : ansD t = .str "NoSheet" := by unfold ansD; rw [if_pos h, if_neg (by rw [h2]; decide)]
theorem ans_ok {t : Str} (h : txtOk t = true) (h2 : isS (dTs (triI t)) = true) : ansD t = dTs (triI t) := by unfold ansD; rw [if_pos h, if_pos h2]
theorem ans_lay (t : Str) : (ansD t).canLay0 = true := by
  unfold ansD
  split
  · split
    · exact lay_dTs _
    · decide +kernel
  · decide +kernel
theorem ans_dep (t : Str) : (ansD t).depth ≤ 60 := by
  unfold ansD
  split
  · split
    · exact dep_dTs _
    · decide +kernel
  · decide +kernel
theorem ans_eqv (t : Str) : PyData.eqv (ansD t) (ansD t) = true := by
  unfold ansD
  split
  · split
    · rw [eqv_dTs]; exact decide_eq_true rfl
    · decide +kernel
  · decide +kernel
def rwD (p : Str) : PyData := if rowOk p = true then dI (rowI p) else .none
def RwL (H : Hp) (ys : List V) (ps : List Str) : Prop := ys.length = ps.length ∧ ∀ (i : Nat) (y : V) (p : Str), ys[i]? = some y → ps[i]? = some p → (rowOk p = false ∧ y = .non) ∨ (rowOk p = true ∧ ∃ a : Addr, y = .ref a ∧ H a = some (.lst ((rowI p).map V.int)))
theorem RwL.up {H H' : Hp} {ys : List V} {ps : List Str} (h : RwL H ys ps) (s : Same H H') : RwL H' ys ps := ⟨h.1, fun i y p h1 h2 => by
  rcases h.2 i y p h1 h2 with q | ⟨q, a, e, ha⟩
  · exact .inl q
  · exact .inr ⟨q, a, e, s _ _ ha⟩⟩
theorem RwL.snoc {H : Hp} {ys : List V} {ps : List Str} {y : V} {p : Str} (h : RwL H ys ps) (q : (rowOk p = false ∧ y = .non) ∨ (rowOk p = true ∧ ∃ a : Addr, y = .ref a ∧ H a = some (.lst ((rowI p).map V.int)))) : RwL H (ys ++ [y]) (ps ++ [p]) := by
  refine ⟨by rw [List.length_append, List.length_append, h.1]; rfl, fun i y' p' h1 h2 => ?_⟩
  by_cases c : i < ys.length
  · rw [List.getElem?_append_left c] at h1
    rw [List.getElem?_append_left (by rw [← h.1]; exact c)] at h2
    exact h.2 i y' p' h1 h2
  · rw [List.getElem?_append_right (by omega)] at h1
    rw [List.getElem?_append_right (by rw [← h.1]; omega), ← h.1] at h2
    cases z : i - ys.length with
    | zero => rw [z] at h1 h2; cases h1; cases h2; exact q
    | succ n => rw [z] at h1; cases h1
theorem rw_di {H : Hp} {a : Addr} {ys : List V} {ps : List Str} (h : RwL H ys ps) (ha : H a = some (.lst ys)) : DI K H (.ref a) (.list (ps.map rwD)) := by
  refine .lst (SqL.of ha) (by rw [h.1, List.length_map]) fun i x d h1 h2 => ?_
  rw [List.getElem?_map] at h2
  cases z : ps[i]? with
  | none => rw [z] at h2; cases h2
  | some p =>
    rw [z] at h2
    cases h2
    unfold rwD
    rcases h.2 i x p h1 z with ⟨q, rfl⟩ | ⟨q, a', rfl, h'⟩
    · rw [if_neg (by rw [q]; decide)]; exact .non
    · rw [if_pos q]; exact di_lst (SqL.of h')
theorem rw_lay : ∀ ps : List Str, PyData.canLayAll0 (ps.map rwD) = true
  | [] => rfl
  | p :: ps => by
    show ((rwD p).canLay0 && PyData.canLayAll0 (ps.map rwD)) = true
    rw [rw_lay ps, Bool.and_true]
    unfold rwD
    split
    · exact lay_dI _
    · rfl
theorem rw_dep : ∀ ps : List Str, PyData.depthAll (ps.map rwD) ≤ 40
  | [] => Nat.zero_le _
  | p :: ps => by
    show max (rwD p).depth (PyData.depthAll (ps.map rwD)) ≤ 40
    refine Nat.max_le.mpr ⟨?_, rw_dep ps⟩
    unfold rwD
    split
    · show PyData.depthAll _ + 1 ≤ 40; rw [dep_ints]; decide
    · decide
theorem rw_any : ∀ ps : List Str, ((ps.map rwD).any fun d => PyData.eqv d .none) = !(ps.all rowOk)
  | [] => rfl
  | p :: ps => by
    show (PyData.eqv (rwD p) .none || ((ps.map rwD).any fun d => PyData.eqv d .none)) = !(rowOk p && ps.all rowOk)
    rw [rw_any ps]
    unfold rwD
    cases rowOk p <;> rfl
def spDueX : Sp := fun vs H Q _ => ∃ t : Str, vs = [.str t] ∧ t.length ≤ 900 ∧ ∀ (v : V) (H' : Hp), Same H H' → Th H' v (ansD t) → Q v H'
def tDueX (K : PySem.W.Frag) : TS := tSeq (tAsg (tCompG 1 (iList K (tBM K "str" (fun x vs H Q => ∃ z y, x = V.str z ∧ vs = [V.str y] ∧ (y.length == 0) = false ∧ z.length ≤ 100000 ∧ ∀ (l : Addr), H l = none → Q (V.ref l) (upd H l (HO.lst (List.map V.str (Txt.split z y))))) (tVar 0) (tCons (tC (V.str (" / "))) tNil))) (gName 0) tYes (tCall spFigsX [] E0 (tCons (tVar 0) tNil))) (gName 1)) (tSeq (tIfS (tTest (tOp (rInD K) (tC V.non) (tVar 1))) (tRet (tC (V.str ("NoText")))) tNext) (tSeq (tAsg (tCompG 1 (iList K (tVar 1)) (gName 0) tYes (tCB (fun xs H Q => ∃ p ys, xs = [V.ref p] ∧ ((SqL K H p ys ∧ ∀ (l : Addr), H l = none → Q (V.ref l) (upd H l (HO.tup ys))) ∨ SqT K H p ys ∧ Q (V.ref p) H)) (tCons (tVar 0) tNil))) (gName 2)) (tSeq (tIfS (tB (tCall spLIsS [] E0 (tCons (tVar 2) tNil))) (tRet (tVar 2)) tNext) (tRet (tC (V.str ("NoSheet")))))))
set_option maxHeartbeats 4000000 in
theorem duex_reads {t : Str} (tl : t.length ≤ 900) (k : ∀ (v : V) (H' : Hp), Same H H' → Th H' v (ansD t) → Q v H') : tDueX K { nx := Z, rt := Q } [some (.str t), none, none] H := by
  obtain ⟨wl, ww⟩ := parts_len t tl
  refine ⟨_, rfl, rfl, t, " / ", rfl, rfl, slash_ne, by omega, fun p hp => ?_⟩
  have s1 := Same.nw (o := .lst ((Txt.split t " / ").map V.str)) (Same.refl H) hp
  have f1 : (upd H p (.lst ((Txt.split t " / ").map V.str))) p = some (.lst ((partsS t).map V.str)) := upd_same
  generalize upd H p (.lst ((Txt.split t " / ").map V.str)) = H1 at s1 f1 ⊢
  refine ⟨p, rfl, ⟨_, SqL.of f1⟩, compL (K := K) (a := p) (xs := (partsS t).map V.str) (fun n ys H' => Same H1 H' ∧ RwL H' ys ((partsS t).take n)) ⟨Same.refl _, rfl, fun i y p h => by cases h⟩ (by rw [List.length_map]; omega) (fun n ys H' h => by rw [h.2.1, List.length_take]; exact Nat.min_le_left _ _) (fun n ys H' _ h => SqL.of (h.1 _ _ f1)) ?_ ?_⟩
  · rintro n z ys H2 pre hpl hz ⟨s2, r2⟩
    rw [List.getElem?_map] at hz
    cases ez : (partsS t)[n]? with
    | none => rw [ez] at hz; cases hz
    | some w =>
      rw [ez] at hz
      cases hz
      have lw := ww w (List.mem_of_getElem? ez)
      rcases pre with _ | ⟨q0, _ | ⟨q1, pre⟩⟩
      · cases hpl
      · refine ⟨⟨[some _], rfl, rfl⟩, ?_⟩
        unfold tYes
        dsimp only
        rw [if_pos (rfl : true = true)]
        refine ⟨_, rfl, w, rfl, by omega, fun ok H3 s3 => ⟨s2.trans s3, ?_⟩, fun ok l H3 s3 _ hl => ⟨s2.trans s3, ?_⟩⟩
        · rw [take_succ' ez]
          exact (r2.up s3).snoc (.inl ⟨ok, rfl⟩)
        · rw [take_succ' ez]
          exact (r2.up s3).snoc (.inr ⟨ok, l, rfl, hl⟩)
      · cases hpl
  rintro ys H2 ⟨s2, r2⟩ D hD
  rw [List.length_map, List.take_length] at r2
  have s3 := Same.nw (o := .lst ys) (Same.refl H2) hD
  have f3 : (upd H2 D (.lst ys)) D = some (.lst ys) := upd_same
  have r3 := r2.up s3
  have s13 := s1.trans (s2.trans s3)
  dsimp only [gName]
  generalize upd H2 D (.lst ys) = H3 at s13 f3 r3 ⊢
  refine ⟨_, rfl, .none, _, rw_di r3 f3, .non, rw_lay _, rfl, rw_dep _, _, rfl, ?_⟩
  rw [rw_any]
  change if (!txtOk t) = true then _ else _
  cases hk : txtOk t with
  | false => exact iteT (k _ H3 s13 (by rw [ans_bad hk]; exact .str _))
  | true =>
    have al : ∀ q ∈ partsS t, rowOk q = true := List.all_eq_true.mp hk
    refine iteF ⟨_, rfl, D, rfl, ⟨_, SqL.of f3⟩, compL (K := K) (a := D) (xs := ys) (fun n zs H' => Same H3 H' ∧ TuL H' zs (((partsS t).take n).map rowI)) ⟨Same.refl _, TuL.nil _⟩ (by rw [r3.1]; omega) (fun n zs H' h => by rw [h.2.1, List.length_map, List.length_take]; exact Nat.min_le_left _ _) (fun n zs H' _ h => SqL.of (h.1 _ _ f3)) ?_ ?_⟩
    · rintro n y zs H4 pre hpl hy ⟨s4, t4⟩
      have nl : n < (partsS t).length := by rw [← r3.1]; exact (List.getElem?_eq_some_iff.mp hy).1
      have ez : (partsS t)[n]? = some (partsS t)[n] := List.getElem?_eq_getElem nl
      rcases r3.2 n y _ hy ez with ⟨q, _⟩ | ⟨q, a, rfl, ha⟩
      · rw [al _ (List.mem_of_getElem? ez)] at q; cases q
      rcases pre with _ | ⟨q0, _ | ⟨q1, pre⟩⟩
      · cases hpl
      · refine ⟨⟨[some _], rfl, rfl⟩, ?_⟩
        unfold tYes
        dsimp only
        rw [if_pos (rfl : true = true)]
        refine ⟨_, rfl, a, _, rfl, .inl ⟨SqL.of (s4 _ _ ha), fun b hb => ⟨Same.nw s4 hb, ?_⟩⟩⟩
        rw [take_succ' ez, List.map_append]
        exact TuL.snoc (t4.up (Same.nw (Same.refl H4) hb).tups) upd_same
      · cases hpl
    rintro zs H4 ⟨s4, t4⟩ D2 hD2
    rw [r3.1, List.take_length] at t4
    have s5 := Same.nw (o := .lst zs) (Same.refl H4) hD2
    have f5 : (upd H4 D2 (.lst zs)) D2 = some (.lst zs) := upd_same
    have t5 := t4.up s5.tups
    have s15 := s13.trans (s4.trans s5)
    dsimp only [gName]
    generalize upd H4 D2 (.lst zs) = H5 at s15 f5 t5 ⊢
    refine ⟨_, rfl, D2, zs, triI t, rfl, f5, t5, by unfold triI; rw [List.length_map]; omega, fun H6 s6 => ⟨_, rfl, ?_⟩⟩
    cases hi : isS (dTs (triI t)) with
    | true => exact iteT ⟨_, rfl, k _ H6 (s15.trans s6) (by rw [ans_ok hk hi]; exact th_tri (s6 _ _ f5) (t5.up s6.tups))⟩
    | false => exact iteF (k _ H6 (s15.trans s6) (by rw [ans_mid hk hi]; exact .str _))
def spLReadX : Sp := spDueX
def tLReadX (K : PySem.W.Frag) (cE c_NoCord c_NoDeed c_NoName c_NoRow cS cT c_NoTurn c_TooMany : Addr) : TS := tTry K 3 1 cE (fun Ex => tRet (tCallX (spReadX cT cS) Ex (tCons (tVar 0) tNil))) (fun C ea => tSeq (tAsg (tCB (rIsi K C ea) (tCons (tVar 1) (tCons (tTup (tCons (tC (V.ref c_NoCord)) (tCons (tC (V.ref c_NoDeed)) (tCons (tC (V.ref c_NoName)) (tCons (tC (V.ref c_NoRow)) (tCons (tC (V.ref c_NoTurn)) (tCons (tC (V.ref c_TooMany)) tNil))))))) tNil))) (gName 2)) (tSeq (tIfS (tOr (tB (tVar 2)) (tOr (tNot (tB (tCB (rIsi K C ea) (tCons (tVar 1) (tCons (tC (V.ty "ValueError")) tNil))))) (tTest (tOp rEq (tCB (rIsi K C ea) (tCons (tVar 1) (tCons (tC (V.ref cT)) tNil))) (tCB (rIsi K C ea) (tCons (tVar 1) (tCons (tC (V.ref cS)) tNil))))))) (tRet (tC V.non)) tNext) (tRet (tOp (rIxL K) (tLst (tCons (tC (V.str ("NoSheet"))) (tCons (tC (V.str ("NoText"))) tNil))) (tCB (fun xs H Q => (∃ i, xs = [V.int i] ∧ Q (V.int i) H) ∨ ∃ k, xs = [V.bl k] ∧ Q (V.int (if k = true then 1 else 0)) H) (tCons (tCB (rIsi K C ea) (tCons (tVar 1) (tCons (tC (V.ref cT)) tNil))) tNil))))))
set_option maxHeartbeats 4000000 in
theorem lread_reads {t : Str} {cE cC cD cN cR cS cT cU cM : Addr} (xC : XCls K cC) (xD : XCls K cD) (xN : XCls K cN) (xR : XCls K cR) (xS : XCls K cS) (xT : XCls K cT) (xU : XCls K cU) (xM : XCls K cM)
    (eT : PySem.W.subIn K (.ref cT) (.ref cE) = some true) (eS : PySem.W.subIn K (.ref cS) (.ref cE) = some true) (vT : PySem.W.subIn K (.ref cT) (.type "ValueError") = some true) (vS : PySem.W.subIn K (.ref cS) (.type "ValueError") = some true)
    (nT : ∀ c ∈ [cC, cD, cN, cR, cU, cM], PySem.W.subIn K (.ref cT) (.ref c) = some false) (nS : ∀ c ∈ [cC, cD, cN, cR, cU, cM], PySem.W.subIn K (.ref cS) (.ref c) = some false) (ts : PySem.W.subIn K (.ref cT) (.ref cS) = some false) (st : PySem.W.subIn K (.ref cS) (.ref cT) = some false)
    (tl : t.length ≤ 900) (k : ∀ (v : V) (H' : Hp), Same H H' → Th H' v (ansD t) → Q v H') : tLReadX K cE cC cD cN cR cS cT cU cM { nx := Z, rt := Q } [some (.str t), none, none] H := by
  have xs : ∀ c ∈ [cC, cD, cN, cR, cU, cM], XCls K c := fun c hc => by
    simp only [List.mem_cons, List.not_mem_nil, or_false] at hc
    rcases hc with rfl | rfl | rfl | rfl | rfl | rfl <;> assumption
  refine ⟨_, rfl, t, rfl, tl, fun bad H1 s1 => ⟨cT, rfl, eT, fun a ha => ?_⟩, fun ok bad H1 s1 => ⟨cS, rfl, eS, fun a ha => ?_⟩, fun ok good l ys H1 s1 _ hl ht => k _ H1 s1 (by rw [ans_ok ok good]; exact th_tri hl ht)⟩
  · refine ⟨_, rfl, (by show 6 ≤ sizeLine; decide), fun tp htp => ?_⟩
    refine ⟨xT, false, .inr (.inr ⟨tp, [cC, cD, cN, cR, cU, cM], rfl, upd_same, xs, nT, rfl⟩), ?_⟩
    refine ⟨_, rfl, _, rfl, iteF ?_⟩
    refine ⟨_, rfl, xT, true, .inr (.inl ⟨_, rfl, meta_ve, vT⟩), _, rfl, iteF ?_⟩
    refine ⟨_, rfl, xT, true, .inl ⟨cT, rfl, xT, xT.rf⟩, _, rfl, xT, false, .inl ⟨cS, rfl, xS, ts⟩, rfl, _, rfl, iteF ?_⟩
    refine ⟨(by show 2 ≤ sizeLine; decide), fun l hl => ?_⟩
    refine ⟨_, rfl, xT, true, .inl ⟨cT, rfl, xT, xT.rf⟩, .inr ⟨true, rfl, ?_⟩⟩
    refine ⟨l, _, 1, _, rfl, rfl, SqL.of upd_same, rfl, k _ _ ((s1.trans (Same.nw (Same.refl H1) htp)).trans (Same.nw (Same.refl _) hl)) (by rw [ans_bad bad]; exact .str _)⟩
  · refine ⟨_, rfl, (by show 6 ≤ sizeLine; decide), fun tp htp => ?_⟩
    refine ⟨xS, false, .inr (.inr ⟨tp, [cC, cD, cN, cR, cU, cM], rfl, upd_same, xs, nS, rfl⟩), ?_⟩
    refine ⟨_, rfl, _, rfl, iteF ?_⟩
    refine ⟨_, rfl, xS, true, .inr (.inl ⟨_, rfl, meta_ve, vS⟩), _, rfl, iteF ?_⟩
    refine ⟨_, rfl, xS, false, .inl ⟨cT, rfl, xT, st⟩, _, rfl, xS, true, .inl ⟨cS, rfl, xS, xS.rf⟩, rfl, _, rfl, iteF ?_⟩
    refine ⟨(by show 2 ≤ sizeLine; decide), fun l hl => ?_⟩
    refine ⟨_, rfl, xS, false, .inl ⟨cT, rfl, xT, st⟩, .inr ⟨false, rfl, ?_⟩⟩
    refine ⟨l, _, 0, _, rfl, rfl, SqL.of upd_same, rfl, k _ _ ((s1.trans (Same.nw (Same.refl H1) htp)).trans (Same.nw (Same.refl _) hl)) (by rw [ans_mid ok bad]; exact .str _)⟩
end
end L2
set_option Elab.async false
set_option linter.all false
set_option maxRecDepth 100000
set_option maxHeartbeats 1000000
namespace L2
open PySem PySem.Spec PyProof.Rows
theorem sum_len (n : Nat) : ∀ {ss : List Str}, (∀ x ∈ ss, x.length ≤ n) → (ss.map (·.length)).sum ≤ ss.length * n
  | [], _ => Nat.zero_le _
  | x :: r, h => by
    rw [List.map_cons, List.sum_cons, List.length_cons, Nat.succ_mul]
    have h1 := h x (by simp)
    have h2 := sum_len n (ss := r) (fun z hz => h z (by simp [hz]))
    omega
end L2
set_option Elab.async false
set_option linter.all false
set_option maxRecDepth 100000
set_option maxHeartbeats 1000000
namespace L2
open PySem PySem.Spec PyProof.Rows
section
variable {K : PySem.W.Frag} {H : Hp} {Q : VK} {Z : L2.St → Hp → Prop}
def PurseZ (H : Hp) (d : Addr) : Prop := ∃ a b : Int, H d = some (.lst [.int a, .int b]) ∧ 0 ≤ b ∧ b < 2147483648
def ButZ (d : Addr) (H H' : Hp) : Prop := ∀ c o, H c = some o → c ≠ d → H' c = some o
theorem ButZ.trans {d : Addr} {H H1 H2 : Hp} (a : ButZ d H H1) (b : ButZ d H1 H2) : ButZ d H H2 := fun c o e n => b c o (a c o e n) n
theorem ButZ.new {d p : Addr} {H H' : Hp} {o : HO} (a : ButZ d H H') (h : H' p = none) : ButZ d H (L2.upd H' p o) := fun c u e n => by
  have := a c u e n
  rw [upd_ne (ne_of_none this h)]; exact this
theorem ButZ.own {d p : Addr} {H H' : Hp} {o : HO} (B : ButZ d H H') (h : H p = none) : ButZ d H (L2.upd H' p o) := fun c u e n => by
  rw [upd_ne (ne_of_none e h)]; exact B c u e n
theorem ButZ.same {d : Addr} {H H1 H2 : Hp} (B : ButZ d H H1) (s : Same H1 H2) : ButZ d H H2 := fun c o e n => s c o (B c o e n)
theorem PurseZ.new {d p : Addr} {H : Hp} {o : HO} (a : PurseZ H d) (h : H p = none) : PurseZ (L2.upd H p o) d := by
  obtain ⟨x, y, e, r⟩ := a
  exact ⟨x, y, by rw [upd_ne (ne_of_none e h)]; exact e, r⟩
theorem PurseZ.at {d p : Addr} {H : Hp} {o : HO} (a : PurseZ H d) (h : p ≠ d) : PurseZ (L2.upd H p o) d := by
  obtain ⟨x, y, e, r⟩ := a
  exact ⟨x, y, by rw [upd_ne (Ne.symm h)]; exact e, r⟩
theorem PurseZ.up {d : Addr} {H H' : Hp} (a : PurseZ H d) (s : Same H H') : PurseZ H' d := by
  obtain ⟨x, y, e, r⟩ := a
  exact ⟨x, y, s _ _ e, r⟩
theorem PurseZ.ne {d p : Addr} {H : Hp} (a : PurseZ H d) (h : H p = none) : p ≠ d := by
  obtain ⟨x, y, e, _⟩ := a
  rintro rfl
  rw [e] at h; cases h
theorem ButZ.fr {d p : Addr} {H H' : Hp} (b : ButZ d H H') (P : PurseZ H' d) (h : H' p = none) : H p = none := by
  cases z : H p with
  | none => rfl
  | some o => rw [b p o z (P.ne h)] at h; cases h
def spTakeZ : Sp := fun vs H Q _ => ∃ (d : Addr) (m : Int), vs = [.ref d, .int m] ∧ PurseZ H d ∧ 0 < m ∧ m < 10 ^ 100 ∧ ∀ (r : Int) (H' : Hp), 0 ≤ r → r < m → PurseZ H' d → ButZ d H H' → Q (.int r) H'
def strI (i : Int) : Str := (toString i)
theorem str18 {i : Int} (h1 : -18 ≤ i) (h2 : i ≤ 18) : i.natAbs.log2 < 1920 ∧ (strI i).length ≤ 3 := by
  have key : ∀ n : Fin 37, ((n.val : Int) - 18).natAbs.log2 < 1920 ∧ (strI ((n.val : Int) - 18)).length ≤ 3 := by decide +kernel
  have := key ⟨(i + 18).toNat, by omega⟩
  rw [show (((⟨(i + 18).toNat, by omega⟩ : Fin 37).val : Nat) : Int) - 18 = i by show ((i + 18).toNat : Int) - 18 = i; omega] at this
  exact this
def spWritX : Sp := fun vs H Q _ => ∃ (a : Addr) (u : List Int), vs = [.ref a] ∧ H a = some (.tup (u.map V.int)) ∧ u.length = 3 ∧ (∀ x ∈ u, -18 ≤ x ∧ x ≤ 18) ∧ ∀ (s : Str) (H' : Hp), Same H H' → s.length ≤ 12 → Q (.str s) H'
def tWritX (K : PySem.W.Frag) : TS := tRet (tBM K "str" (fun x vs H_1 Q => ∃ sep p ss, x = V.str sep ∧ vs = [V.ref p] ∧ SqL K H_1 p (List.map V.str ss) ∧ sep.length ≤ 16 ∧ (List.map (fun x => x.length) ss).sum + ss.length ≤ 1048576 ∧ Q (V.str (sep.join ss)) H_1) (tC (V.str (" "))) (tCons (tCompG 1 (iTup K (tVar 0)) (gName 0) tYes (tCB (fun xs H Q => ∃ i, xs = [V.int i] ∧ i.natAbs.log2 < 1920 ∧ Q (V.str ((toString i))) H) (tCons (tVar 0) tNil))) tNil))
theorem writ_reads {a : Addr} {u : List Int} (ha : H a = some (.tup (u.map V.int))) (u3 : u.length = 3) (h18 : ∀ x ∈ u, -18 ≤ x ∧ x ≤ 18) (k : ∀ (s : Str) (H' : Hp), Same H H' → s.length ≤ 12 → Q (.str s) H') : tWritX K { nx := Z, rt := Q } [some (.ref a)] H := by
  refine ⟨rfl, _, rfl, a, rfl, ⟨_, SqT.of ha⟩, compT (K := K) (a := a) (xs := u.map V.int) (fun m zs H' => zs = ((u.take m).map strI).map V.str ∧ H = H') ⟨rfl, rfl⟩ (by rw [List.length_map]; omega) (fun m zs H' h => by rw [h.1, List.length_map, List.length_map, List.length_take]; exact Nat.min_le_left _ _) (fun m zs H' _ h => by rw [← h.2]; exact SqT.of ha) ?_ ?_⟩
  · rintro n z zs H4 pre hpl hz ⟨rfl, rfl⟩
    rw [List.getElem?_map] at hz
    cases ez : u[n]? with
    | none => rw [ez] at hz; cases hz
    | some sd' =>
      rw [ez] at hz
      cases hz
      have hs := h18 sd' (List.mem_of_getElem? ez)
      rcases pre with _ | ⟨q0, _ | ⟨q1, pre⟩⟩
      · cases hpl
      · refine ⟨⟨[some _], rfl, rfl⟩, ?_⟩
        unfold tYes
        dsimp only
        rw [if_pos (rfl : true = true)]
        refine ⟨_, rfl, sd', rfl, (str18 hs.1 hs.2).1, ?_, rfl⟩
        rw [take_succ' ez, List.map_append, List.map_append]
        rfl
      · cases hpl
  rintro zs H4 ⟨rfl, rfl⟩ D4 hD4
  rw [List.length_map, List.take_length]
  have al : ∀ x ∈ u.map strI, x.length ≤ 3 := fun x hx => by
    obtain ⟨i, hi, rfl⟩ := List.mem_map.mp hx
    exact (str18 (h18 i hi).1 (h18 i hi).2).2
  have sm := sum_len 3 al
  rw [List.length_map, u3] at sm
  refine ⟨" ", D4, u.map strI, rfl, rfl, SqL.of upd_same, by decide, by rw [List.length_map, u3]; omega, k _ _ (Same.nw (Same.refl H) hD4) ?_⟩
  have := StrLaws.join_length_le " " (u.map strI)
  rw [List.length_map, u3, show (" " : Str).length = 1 from by decide +kernel] at this
  omega
def SmS (U : List (List Int)) : Prop := U.length ≤ 12 ∧ ∀ u ∈ U, u.length = 3 ∧ ∀ x ∈ u, -18 ≤ x ∧ x ≤ 18
def spSWritX : Sp := fun vs H Q _ => ∃ (l : Addr) (ys : List V) (U : List (List Int)), vs = [.ref l] ∧ H l = some (.lst ys) ∧ TuL H ys U ∧ SmS U ∧ ∀ (s : Str) (H' : Hp), Same H H' → s.length ≤ 200 → Q (.str s) H'
def tSWritX (K : PySem.W.Frag) : TS := tRet (tBM K "str" (fun x vs H_1 Q => ∃ sep p ss, x = V.str sep ∧ vs = [V.ref p] ∧ SqL K H_1 p (List.map V.str ss) ∧ sep.length ≤ 16 ∧ (List.map (fun x => x.length) ss).sum + ss.length ≤ 1048576 ∧ Q (V.str (sep.join ss)) H_1) (tC (V.str (" / "))) (tCons (tCompG 1 (iList K (tVar 0)) (gName 0) tYes (tCall spWritX [] E0 (tCons (tVar 0) tNil))) tNil))
theorem swrit_reads {l : Addr} {ys : List V} {U : List (List Int)} (hl : H l = some (.lst ys)) (tU : TuL H ys U) (sU : SmS U) (k : ∀ (s : Str) (H' : Hp), Same H H' → s.length ≤ 200 → Q (.str s) H') : tSWritX K { nx := Z, rt := Q } [some (.ref l)] H := by
  have lx : ys.length = U.length := tU.1
  have l12 := sU.1
  refine ⟨rfl, _, rfl, l, rfl, ⟨_, SqL.of hl⟩, compL (K := K) (a := l) (xs := ys) (fun m zs H' => Same H H' ∧ ∃ ss : List Str, zs = ss.map V.str ∧ ss.length = m ∧ ∀ s ∈ ss, s.length ≤ 12) ⟨Same.refl _, [], rfl, rfl, fun s h => by cases h⟩ (by omega) (fun m zs H' h => by obtain ⟨_, ss, rfl, e, _⟩ := h; rw [List.length_map, e]; exact Nat.le_refl _) (fun m zs H' _ h => SqL.of (h.1 _ _ hl)) ?_ ?_⟩
  · rintro n y zs H1 pre hpl hx ⟨s1, ss, rfl, e1, al⟩
    obtain ⟨u, q, eu, rfl, hq⟩ := tU.take hx
    have hu := sU.2 u (List.mem_of_getElem? eu)
    rcases pre with _ | ⟨q0, _ | ⟨q1, pre⟩⟩
    · cases hpl
    · refine ⟨⟨[some _], rfl, rfl⟩, ?_⟩
      unfold tYes
      dsimp only
      rw [if_pos (rfl : true = true)]
      refine ⟨_, rfl, q, u, rfl, s1 _ _ hq, hu.1, hu.2, fun s H2 s2 ls => ⟨s1.trans s2, ss ++ [s], by rw [List.map_append]; rfl, by rw [List.length_append, e1]; rfl, fun x hx => ?_⟩⟩
      rcases List.mem_append.mp hx with h | h
      · exact al x h
      · rw [List.mem_singleton.mp h]; exact ls
    · cases hpl
  rintro zs H4 ⟨s4, ss, rfl, e4, al⟩ D4 hD4
  have sm := sum_len 12 al
  refine ⟨" / ", D4, ss, rfl, rfl, SqL.of upd_same, by decide, by omega, k _ _ (Same.nw s4 hD4) ?_⟩
  have := StrLaws.join_length_le " / " ss
  rw [show (" / " : Str).length = 3 from by decide +kernel] at this
  omega
def sgA : Str := " !\"#$&'()*+,-./0123456789:;<=>?@ABCDEFGHIJKLMNOPQRSTUVWXYZ[\\]^_`"
def sgB : Str := "abcdefghijklmnopqrstuvwxyz{|}~"
def spSgn : Sp := fun vs H Q _ => vs = [] ∧ Q (.str (sgA ++ sgB)) H
def tSgn (K : PySem.W.Frag) : TS := tSeq (tAsg (tC (V.str (" !\"#$&'()*+,-./0123456789:;<=>?@ABCDEFGHIJKLMNOPQRSTUVWXYZ[\\]^_`"))) (gName 0)) (tRet (tOp (fun x y H Q => ∃ i j, x = V.str i ∧ y = V.str j ∧ i.length + j.length ≤ sizeLine ∧ Q (V.str (i ++ j)) H) (tVar 0) (tC (V.str ("abcdefghijklmnopqrstuvwxyz{|}~")))))
theorem sg_len : (sgA ++ sgB).length = 94 := by decide +kernel
theorem sgn_reads (k : Q (.str (sgA ++ sgB)) H) : tSgn K { nx := Z, rt := Q } [none] H := ⟨_, rfl, _, _, rfl, rfl, (by decide +kernel), k⟩
def spLShX : Sp := fun vs H Q _ => ∃ d : Addr, vs = [.ref d] ∧ PurseZ H d ∧ ∀ (l : Addr) (ys : List V) (U : List (List Int)) (H' : Hp), ButZ d H H' → PurseZ H' d → H' l = some (.lst ys) → TuL H' ys U → SmS U → Q (.ref l) H'
def tLShX (K : PySem.W.Frag) : TS := tSeq (tAsg (tOp (rI0 fun i j => V.int (i + j)) (tC (V.int 1)) (tOp (rIxL K) (tLst (tCons (tCall spTakeZ [] E0 (tCons (tVar 0) (tCons (tC (V.int 4)) tNil))) (tCons (tCall spTakeZ [] E0 (tCons (tVar 0) (tCons (tC (V.int 6)) tNil))) tNil))) (tCB (fun xs H Q => (∃ i, xs = [V.int i] ∧ Q (V.int i) H) ∨ ∃ k, xs = [V.bl k] ∧ Q (V.int (if k = true then 1 else 0)) H) (tCons (tOp rEq (tCall spTakeZ [] E0 (tCons (tVar 0) (tCons (tC (V.int 8)) tNil))) (tC (V.int 3))) tNil)))) (gName 1)) (tSeq (tAsg (tCB (fun xs H Q => ∃ p i j, xs = [V.ref p] ∧ H p = some (HO.rng i j) ∧ -1000 ≤ i ∧ i ≤ j ∧ j ≤ 1000 ∧ ∀ (l : Addr), H l = none → Q (V.ref l) (upd H l (HO.lst (List.map V.int (upto i (j - i).toNat))))) (tCons (tCB (fun xs H Q => ∃ j, xs = [V.int j] ∧ -(2 ^ 62) ≤ j ∧ j < 2 ^ 62 ∧ ∀ (p : Addr), H p = none → Q (V.ref p) (upd H p (HO.rng 0 j))) (tCons (tOp (rI CMul fun i j => V.int (i * j)) (tC (V.int 6)) (tVar 1)) tNil)) tNil)) (gName 2)) (tSeq (tAsg (tCompG 1 (iList K (tVar 2)) (gName 0) tYes (tC (V.int 0))) (gName 3)) (tSeq (tFor (iRng2 (tCons (tC (V.int 1)) (tCons (tOp (rI0 fun i j => V.int (i + j)) (tOp (rI CMul fun i j => V.int (i * j)) (tC (V.int 3)) (tVar 1)) (tC (V.int 1))) tNil))) (gName 4) (tFor (iRng1 (tCons (tC (V.int 2)) tNil)) (gName 5) (tSeq (tAsg (tBM K "list" rPopAt (tVar 2) (tCons (tCall spTakeZ [] E0 (tCons (tVar 0) (tCons (tCB (fun xs H Q => ∃ p ys, xs = [V.ref p] ∧ (SqL K H p ys ∨ SqT K H p ys) ∧ Q (V.int ys.length) H) (tCons (tVar 2) tNil)) tNil))) tNil)) (gName 6)) (tAsg (tOp (rI CMul fun i j => V.int (i * j)) (tVar 4) (tOp (rI0 fun i j => V.int (i - j)) (tC (V.int 1)) (tOp (rI CMul fun i j => V.int (i * j)) (tC (V.int 2)) (tCall spTakeZ [] E0 (tCons (tVar 0) (tCons (tC (V.int 2)) tNil)))))) (gSub (tVar 3) (tVar 6) rSetL))))) (tRet (tCompG 1 (iRng1 (tCons (tOp (rI CMul fun i j => V.int (i * j)) (tC (V.int 2)) (tVar 1)) tNil)) (gName 0) tYes (tCB (fun xs H Q => ∃ p ys, xs = [V.ref p] ∧ ((SqL K H p ys ∧ ∀ (l : Addr), H l = none → Q (V.ref l) (upd H l (HO.tup ys))) ∨ SqT K H p ys ∧ Q (V.ref p) H)) (tCons (tSl (rSlL K) (tVar 4) (tPart (tOp (rI CMul fun i j => V.int (i * j)) (tC (V.int 3)) (tVar 0))) (tPart (tOp (rI0 fun i j => V.int (i + j)) (tOp (rI CMul fun i j => V.int (i * j)) (tC (V.int 3)) (tVar 0)) (tC (V.int 3))))) tNil)))))))
theorem at_ex {α : Type} (xs : List α) {i : Int} (h0 : 0 ≤ i) (h1 : i < (xs.length : Nat)) : ∃ (n : Nat) (c : α), i = (n : Int) ∧ xs[n]? = some c ∧ atI xs i = some c := by
  have hn : i.toNat < xs.length := by omega
  refine ⟨i.toNat, xs[i.toNat], by omega, List.getElem?_eq_getElem hn, ?_⟩
  have := atI_nat (List.getElem?_eq_getElem hn)
  rw [show ((i.toNat : Nat) : Int) = i by omega] at this
  exact this
structure GenI (d : Addr) (H : Hp) (h m : Nat) (a b : Addr) (H' : Hp) : Prop where
  bu : ButZ d H H'
  pu : PurseZ H' d
  us : ∃ us : List Int, H' a = some (.lst (us.map V.int)) ∧ us.length + m = 6 * h ∧ ∀ u ∈ us, 0 ≤ u ∧ u < 6 * (h : Int)
  vs : ∃ vs : List Int, H' b = some (.lst (vs.map V.int)) ∧ vs.length = 6 * h ∧ ∀ u ∈ vs, -18 ≤ u ∧ u ≤ 18
set_option maxHeartbeats 8000000 in
theorem lsh_reads {d : Addr} (P : PurseZ H d) (k : ∀ (l : Addr) (ys : List V) (U : List (List Int)) (H' : Hp), ButZ d H H' → PurseZ H' d → H' l = some (.lst ys) → TuL H' ys U → SmS U → Q (.ref l) H') : tLShX K { nx := Z, rt := Q } [some (.ref d), none, none, none, none, none, none] H := by
  refine ⟨_, rfl, d, 4, rfl, P, by decide, by decide, fun r1 H1 a1 b1 P1 B1 => ?_⟩
  refine ⟨_, rfl, d, 6, rfl, P1, by decide, by decide, fun r2 H2 a2 b2 P2 B2 => ⟨(by show 2 ≤ sizeLine; decide), fun p hp => ?_⟩⟩
  have P2' := P2.new (o := .lst [.int r1, .int r2]) hp
  have f2 : (upd H2 p (.lst [.int r1, .int r2])) p = some (.lst [.int r1, .int r2]) := upd_same
  have B2' := (B1.trans B2).new (o := .lst [.int r1, .int r2]) hp
  have np := P2.ne hp
  refine ⟨_, rfl, d, 8, rfl, P2', by decide, by decide, fun r3 H3 a3 b3 P3 B3 => ⟨rfl, .inr ⟨_, rfl, ?_⟩⟩⟩
  have B13 := B2'.trans B3
  have f3 := B3 _ _ f2 np
  have hex : ∃ h : Nat, 1 ≤ h ∧ h ≤ 6 ∧ ∃ i : Int, atI [V.int r1, V.int r2] (if decide (V.int r3 = V.int 3) = true then 1 else 0) = some (.int i) ∧ 1 + i = (h : Int) := by
    by_cases e : decide (V.int r3 = V.int 3) = true
    · rw [if_pos e]
      exact ⟨(1 + r2).toNat, by omega, by omega, r2, rfl, by omega⟩
    · rw [if_neg e]
      exact ⟨(1 + r1).toNat, by omega, by omega, r1, rfl, by omega⟩
  obtain ⟨h, h1, h6, i, ei, eh⟩ := hex
  refine ⟨p, _, _, .int i, rfl, rfl, SqL.of f3, ei, 1, i, rfl, rfl, ?_⟩
  dsimp only [gName]
  rw [eh]
  refine ⟨_, rfl, 6, (h : Int), rfl, rfl, .inl ⟨by decide, by decide⟩, _, rfl, by omega, by omega, fun g hg => ?_⟩
  have P4 := P3.new (o := .rng 0 (6 * (h : Int))) hg
  have B4 := B13.new (o := .rng 0 (6 * (h : Int))) hg
  have f4 : (upd H3 g (.rng 0 (6 * (h : Int)))) g = some (.rng 0 (6 * (h : Int))) := upd_same
  generalize upd H3 g (.rng 0 (6 * (h : Int))) = H4 at P4 B4 f4 ⊢
  refine ⟨g, _, _, rfl, f4, by omega, by omega, by omega, fun a ha => ?_⟩
  rw [show (6 * (h : Int) - 0).toNat = 6 * h by omega]
  have P5 := P4.new (o := .lst ((upto 0 (6 * h)).map V.int)) ha
  have B5 := B4.new (o := .lst ((upto 0 (6 * h)).map V.int)) ha
  have f5 : (upd H4 a (.lst ((upto 0 (6 * h)).map V.int))) a = some (.lst ((upto 0 (6 * h)).map V.int)) := upd_same
  have ha0 := B4.fr P4 ha
  have hna := P4.ne ha
  dsimp only [gName]
  generalize upd H4 a (.lst ((upto 0 (6 * h)).map V.int)) = H5 at P5 B5 f5 ⊢
  have lu : (upto 0 (6 * h)).length = 6 * h := upto_len _ _
  refine ⟨_, rfl, a, rfl, ⟨_, SqL.of f5⟩, compL (K := K) (a := a) (xs := (upto 0 (6 * h)).map V.int) (fun m zs H' => zs = (List.replicate m (0 : Int)).map V.int ∧ H5 = H') ⟨rfl, rfl⟩ (by rw [List.length_map, lu]; omega) (fun m zs H' h => by rw [h.1, List.length_map, List.length_replicate]; exact Nat.le_refl _) (fun m zs H' _ h => by rw [← h.2]; exact SqL.of f5) ?_ ?_⟩
  · rintro n z zs H4 pre hpl hz ⟨rfl, rfl⟩
    rcases pre with _ | ⟨q0, _ | ⟨q1, pre⟩⟩
    · cases hpl
    · refine ⟨⟨[some _], rfl, rfl⟩, ?_⟩
      unfold tYes
      dsimp only
      rw [if_pos (rfl : true = true)]
      refine ⟨?_, rfl⟩
      rw [List.replicate_succ', List.map_append]
      rfl
    · cases hpl
  rintro zs H6 ⟨rfl, rfl⟩ b hb
  rw [List.length_map, lu]
  have P6 := P5.new (o := .lst ((List.replicate (6 * h) (0 : Int)).map V.int)) hb
  have B6 := B5.new (o := .lst ((List.replicate (6 * h) (0 : Int)).map V.int)) hb
  have f6 : (upd H5 b (.lst ((List.replicate (6 * h) (0 : Int)).map V.int))) b = some (.lst ((List.replicate (6 * h) (0 : Int)).map V.int)) := upd_same
  have fa6 : (upd H5 b (.lst ((List.replicate (6 * h) (0 : Int)).map V.int))) a = some (.lst ((upto 0 (6 * h)).map V.int)) := by rw [upd_ne (ne_of_none f5 hb)]; exact f5
  have hb0 := B5.fr P5 hb
  have hnb := P5.ne hb
  have nab : a ≠ b := ne_of_none f5 hb
  dsimp only [gName]
  generalize upd H5 b (.lst ((List.replicate (6 * h) (0 : Int)).map V.int)) = H6 at P6 B6 f6 fa6 ⊢
  have g0 : GenI d H h 0 a b H6 := ⟨B6, P6, ⟨_, fa6, by rw [lu]; rfl, fun u hu => by have := mem_upto.mp hu; omega⟩, ⟨_, f6, List.length_replicate, fun u hu => by rw [(List.mem_replicate.mp hu).2]; decide⟩⟩
  refine ⟨_, rfl, 3, (h : Int), rfl, rfl, .inl ⟨by decide, by decide⟩, _, _, rfl, rfl, _, _, rfl, ⟨by decide, by decide, by omega, by omega⟩, ?_⟩
  rw [show (3 * (h : Int) + 1 - 1).toNat = 3 * h by omega]
  refine for_range (fun i σ H' => ∃ x4 x5 x6 : Option V, σ = [some (.ref d), some (.int (h : Int)), some (.ref a), some (.ref b), x4, x5, x6] ∧ GenI d H h (2 * i) a b H') ⟨_, _, _, rfl, g0⟩ ?_ ?_
  · rintro i σ H7 hi ⟨x4, x5, x6, rfl, g7⟩
    dsimp only [gName]
    refine ⟨_, rfl, by decide, by decide, for_range (fun j σ H' => ∃ x5 x6 : Option V, σ = [some (.ref d), some (.int (h : Int)), some (.ref a), some (.ref b), some (.int (1 + (i : Int))), x5, x6] ∧ GenI d H h (2 * i + j) a b H') ⟨_, _, rfl, g7⟩ ?_ fun σ H' h => ?_⟩
    · rintro j σ H8 hj ⟨x5, x6, rfl, B8, P8, ⟨us, fu, lu8, au⟩, ⟨vs, fv, lv8, av⟩⟩
      dsimp only [gName]
      have hj : j < 2 := hj
      refine ⟨_, rfl, .inl ⟨rfl, _, SqL.of fu⟩, _, rfl, _, rfl, a, _, rfl, .inl (SqL.of fu), d, _, rfl, P8, by rw [List.length_map]; omega, Int.lt_of_lt_of_le (show _ < (1000 : Int) by rw [List.length_map]; omega) (by decide), fun r H9 r0 rm P9 B9 => ?_⟩
      rw [List.length_map] at rm
      obtain ⟨n, c, en, ec, _⟩ := at_ex us r0 rm
      have nl : n < us.length := (List.getElem?_eq_some_iff.mp ec).1
      have fu9 := B9 _ _ fu hna
      have fv9 := B9 _ _ fv hnb
      refine ⟨a, _, r, n, .int c, rfl, rfl, fu9, by omega, by omega, by rw [seqIndex_of r0 (by rw [List.length_map]; exact rm)]; congr 1; omega, by rw [List.getElem?_map, ec]; rfl, ?_⟩
      have hc := au c (List.mem_of_getElem? ec)
      have P10 := P9.at (o := .lst ((us.map V.int).eraseIdx n)) hna
      have B10 := (B8.trans B9).own (o := .lst ((us.map V.int).eraseIdx n)) ha0
      have fu10 : (upd H9 a (.lst ((us.map V.int).eraseIdx n))) a = some (.lst ((us.map V.int).eraseIdx n)) := upd_same
      have fv10 : (upd H9 a (.lst ((us.map V.int).eraseIdx n))) b = _ := (upd_ne (Ne.symm nab)).trans fv9
      generalize upd H9 a (.lst ((us.map V.int).eraseIdx n)) = H10 at P10 B10 fu10 fv10 ⊢
      dsimp only [gName]
      refine ⟨_, rfl, _, rfl, d, 2, rfl, P10, by decide, by decide, fun r' H11 r0' rm' P11 B11 => ?_⟩
      have fu11 := B11 _ _ fu10 hna
      have fv11 := B11 _ _ fv10 hnb
      refine ⟨2, r', rfl, rfl, .inl ⟨by decide, by decide⟩, 1, _, rfl, rfl, _, _, rfl, rfl, .inr ⟨by omega, by omega⟩, _, rfl, _, rfl, ?_⟩
      refine ⟨b, _, c, c.toNat, rfl, rfl, fv11, ?_, ?_⟩
      · rw [List.length_map]
        have := ixN_nat (n := vs.length) (j := c.toNat) (by omega)
        rw [show ((c.toNat : Nat) : Int) = c by omega] at this
        exact this
      refine ⟨_, _, rfl, (B10.trans B11).own hb0, P11.at hnb, ⟨us.eraseIdx n, ?_, ?_, fun u hu => au u (List.mem_of_mem_eraseIdx hu)⟩, ⟨vs.set c.toNat ((1 + (i : Int)) * (1 - 2 * r')), ?_, by rw [List.length_set]; exact lv8, fun u hu => ?_⟩⟩
      · rw [upd_ne nab, fu11, map_erase]
      · rw [List.length_eraseIdx, if_pos nl]; omega
      · rw [upd_same, List.map_set]
      · rcases List.mem_or_eq_of_mem_set hu with q | rfl
        · exact av u q
        · have : r' = 0 ∨ r' = 1 := by omega
          rcases this with rfl | rfl <;> omega
    · obtain ⟨x5, x6, rfl, g⟩ := h
      exact ⟨_, _, _, rfl, by rw [show 2 * (i + 1) = 2 * i + (2 : Int).toNat from rfl]; exact g⟩
  · rintro σ H7 ⟨x4, x5, x6, rfl, B7, P7, _, ⟨vs, fv, lv, av⟩⟩
    refine ⟨_, rfl, 2, (h : Int), rfl, rfl, .inl ⟨by decide, by decide⟩, _, rfl, by omega, by omega, ?_⟩
    rw [show (2 * (h : Int)).toNat = 2 * h by omega]
    refine compR (fun n zs H' => Same H7 H' ∧ ∃ U : List (List Int), TuL H' zs U ∧ U.length = n ∧ ∀ u ∈ U, u.length = 3 ∧ ∀ x ∈ u, -18 ≤ x ∧ x ≤ 18) ⟨Same.refl _, [], TuL.nil _, rfl, fun u hu => by cases hu⟩ (by omega) (fun i ys H' h => by obtain ⟨_, U, t, e, _⟩ := h; rw [t.1, e]; exact Nat.le_refl _) ?_ ?_
    · rintro i zs H8 pre hpl hi ⟨s8, U, t8, e8, a8⟩
      rcases pre with _ | ⟨q0, _ | ⟨q1, pre⟩⟩
      · cases hpl
      · refine ⟨⟨[some _], rfl, rfl⟩, ?_⟩
        unfold tYes
        dsimp only
        rw [if_pos (rfl : true = true)]
        refine ⟨_, rfl, _, rfl, 3, (i : Int), rfl, by rw [Int.zero_add], .inl ⟨by decide, by decide⟩, _, rfl, _, rfl, 3, (i : Int), rfl, by rw [Int.zero_add], .inl ⟨by decide, by decide⟩, _, _, rfl, rfl, _, rfl, b, _, rfl, SqL.of (s8 _ _ fv), fun q hq => ?_⟩
        have ecut : cutV (vs.map V.int) (some (3 * (i : Int))) (some (3 * (i : Int) + 3)) = ((vs.drop (3 * i)).take 3).map V.int := by
          have := HT.sIx_nat (vs.map V.int).length 0 (3 * i)
          have e1 : HT.sIx (vs.map V.int).length 0 (some (3 * (i : Int))) = 3 * i := by
            rw [show (3 * (i : Int)) = ((3 * i : Nat) : Int) by omega, HT.sIx_nat, List.length_map]; omega
          have e2 : HT.sIx (vs.map V.int).length (vs.map V.int).length (some (3 * (i : Int) + 3)) = 3 * i + 3 := by
            rw [show (3 * (i : Int) + 3) = ((3 * i + 3 : Nat) : Int) by omega, HT.sIx_nat, List.length_map]; omega
          unfold cutV
          rw [e1, e2, List.map_take, List.map_drop, show 3 * i + 3 - 3 * i = 3 by omega]
        rw [ecut]
        have s9 := Same.nw (o := .lst (((vs.drop (3 * i)).take 3).map V.int)) (Same.refl H8) hq
        have f9 : (upd H8 q (.lst (((vs.drop (3 * i)).take 3).map V.int))) q = some (.lst (((vs.drop (3 * i)).take 3).map V.int)) := upd_same
        dsimp only [tNil]
        generalize upd H8 q (.lst (((vs.drop (3 * i)).take 3).map V.int)) = H9 at s9 f9 ⊢
        refine ⟨q, _, rfl, .inl ⟨SqL.of f9, fun q' hq' => ?_⟩⟩
        have s10 := Same.nw (o := .tup (((vs.drop (3 * i)).take 3).map V.int)) (Same.refl H9) hq'
        refine ⟨s8.trans (s9.trans s10), U ++ [(vs.drop (3 * i)).take 3], TuL.snoc (t8.up (s9.trans s10).tups) upd_same, by rw [List.length_append, e8]; rfl, fun u hu => ?_⟩
        rcases List.mem_append.mp hu with z | z
        · exact a8 u z
        · rw [List.mem_singleton.mp z]
          refine ⟨by rw [List.length_take, List.length_drop]; omega, fun x hx => av x (List.mem_of_mem_drop (List.mem_of_mem_take hx))⟩
      · cases hpl
    · rintro zs H8 ⟨s8, U, t8, e8, a8⟩ D hD
      have s9 := Same.nw (o := .lst zs) (Same.refl H8) hD
      exact k D zs U _ (B7.same (s8.trans s9)) (P7.up (s8.trans s9)) upd_same (t8.up s9.tups) ⟨by omega, a8⟩
end
end L2
set_option Elab.async false
set_option linter.all false
set_option maxRecDepth 100000
set_option maxHeartbeats 1000000
namespace L2
open PySem PySem.Spec PyProof.Rows
section
variable {K : PySem.W.Frag} {H : Hp} {Q : VK} {Z : L2.St → Hp → Prop}
def wtS (ss : List Str) : Nat := (ss.map (·.length)).sum + ss.length
theorem wtS_app (a b : List Str) : wtS (a ++ b) = wtS a + wtS b := by unfold wtS; rw [List.map_append, List.sum_append, List.length_append]; omega
theorem wtS_take (ss : List Str) (n : Nat) : wtS (ss.take n) ≤ wtS ss := by
  have := wtS_app (ss.take n) (ss.drop n)
  rw [List.take_append_drop] at this
  omega
theorem wtS_drop (ss : List Str) (n : Nat) : wtS (ss.drop n) ≤ wtS ss := by
  have := wtS_app (ss.take n) (ss.drop n)
  rw [List.take_append_drop] at this
  omega
theorem wtS_set : ∀ (ss : List Str) (n : Nat) (w : Str), wtS (ss.set n w) ≤ wtS ss + w.length
  | [], n, w => Nat.zero_le _
  | a :: ss, 0, w => by
    have e1 := wtS_app [w] ss
    have e2 := wtS_app [a] ss
    have e3 : wtS [w] = w.length + 1 := rfl
    have e4 : wtS [a] = a.length + 1 := rfl
    show wtS ([w] ++ ss) ≤ wtS ([a] ++ ss) + w.length
    omega
  | a :: ss, n + 1, w => by
    have ih := wtS_set ss n w
    have e1 := wtS_app [a] (ss.set n w)
    have e2 := wtS_app [a] ss
    show wtS ([a] ++ ss.set n w) ≤ wtS ([a] ++ ss) + w.length
    omega
theorem wtS_mem {ss : List Str} {w : Str} (h : w ∈ ss) : w.length + 1 ≤ wtS ss := by
  obtain ⟨a, b, rfl⟩ := List.append_of_mem h
  have e1 := wtS_app a (w :: b)
  have e2 := wtS_app [w] b
  have e4 : wtS [w] = w.length + 1 := rfl
  have : wtS (w :: b) = wtS ([w] ++ b) := rfl
  omega
theorem wtS_split (t : Str) : wtS (wordsS t) ≤ t.length + 1 := by
  have one : wtS [t] = t.length + 1 := rfl
  unfold wordsS Txt.split
  split
  · rw [one]; exact Nat.le_refl _
  · split
    · rw [one]; exact Nat.le_refl _
    · have h := StrLaws.glued_between_self t " " (t.length + 1)
      have h2 := size_glued " " (Builtin.Str.partsBetween t (Builtin.Str.occurrences t " " 0 t.length (t.length + 1)) (" " : Str).length)
      rw [h, show (" " : Str).length = 1 from by decide +kernel] at h2
      unfold wtS
      rw [show (" " : Str).length = 1 from by decide +kernel]
      omega
theorem wtS_join (ss : List Str) : (Str.join " " ss).length ≤ wtS ss := by
  have := StrLaws.join_length_le " " ss
  rw [show (" " : Str).length = 1 from by decide +kernel] at this
  unfold wtS
  omega
theorem cut_strs (ss : List Str) (lo hi : Option Int) : ∃ rs : List Str, cutV (ss.map V.str) lo hi = rs.map V.str ∧ wtS rs ≤ wtS ss := by
  refine ⟨(ss.drop (HT.sIx (ss.map V.str).length 0 lo)).take (HT.sIx (ss.map V.str).length (ss.map V.str).length hi - HT.sIx (ss.map V.str).length 0 lo), ?_, Nat.le_trans (wtS_take _ _) (wtS_drop _ _)⟩
  unfold cutV
  rw [List.map_take, List.map_drop]
theorem iteN {p : Bool} {A B : Prop} (h : p = false) (b : B) : if p = true then A else B := by rw [if_neg (by rw [h]; decide)]; exact b
theorem iteY {p : Bool} {A B : Prop} (h : p = true) (a : A) : if p = true then A else B := by rw [if_pos h]; exact a
theorem sub_le (z : Str) (a b : Nat) : (subS z a b).length ≤ z.length := by
  rw [len_list, len_list]
  unfold subS
  show (((z.cps.toList.drop a).take (b - a)).toArray.toList).length ≤ _
  rw [List.length_take, List.length_drop]
  omega
theorem mul_ok01 (z : Str) (b : Bool) : MulOk z (if b = true then 1 else 0) := by
  cases b
  · exact ⟨by decide, fun h => absurd (by decide) h, fun h => absurd (by decide) h⟩
  · refine ⟨by decide, fun _ h => ?_, fun _ h => ?_⟩ <;> exact absurd h (by simp)
theorem mul_len01 (z : Str) (b : Bool) : (Txt.mul z (if b = true then 1 else 0)).length ≤ z.length := by
  cases b
  · exact Nat.zero_le _
  · exact Nat.le_refl _
theorem mul_61 : MulOk "1" 61 := ⟨by decide, fun _ _ => by decide +kernel, fun _ _ => by decide +kernel⟩
theorem mul_60 : MulOk "1" 60 := ⟨by decide, fun _ _ => by decide +kernel, fun _ _ => by decide +kernel⟩
theorem len_61 : (Txt.mul "1" 61).length = 61 := by decide +kernel
theorem len_60 : (Txt.mul "1" 60).length = 60 := by decide +kernel
def spSplt : Sp := fun vs H Q _ => ∃ (d : Addr) (t : Str), vs = [.ref d, .str t] ∧ PurseZ H d ∧ t.length ≤ 200 ∧ ∀ (s : Str) (H' : Hp), ButZ d H H' → PurseZ H' d → s.length ≤ 900 → Q (.str s) H'
def tWords (K : PySem.W.Frag) : TS := (tSeq (tAsg (tBM K "str" (fun x vs H Q => ∃ z y, x = V.str z ∧ vs = [V.str y] ∧ (y.length == 0) = false ∧ z.length ≤ 100000 ∧ ∀ (l : Addr), H l = none → Q (V.ref l) (upd H l (HO.lst (List.map V.str (Txt.split z y))))) (tVar 1) (tCons (tC (V.str (" "))) tNil)) (gName 5)) (tSeq (tAsg (tCall spTakeZ [] E0 (tCons (tVar 0) (tCons (tCB (fun xs H Q => ∃ p ys, xs = [V.ref p] ∧ (SqL K H p ys ∨ SqT K H p ys) ∧ Q (V.int ys.length) H) (tCons (tVar 5) tNil)) tNil))) (gName 2)) (tSeq (tIfS (tTest (tOp rEq (tVar 4) (tC (V.int 4)))) (tAsg (tCB (fun xs H Q => ∃ i, xs = [V.int i] ∧ i.natAbs.log2 < 1920 ∧ Q (V.str ((toString i))) H) (tCons (tOp (rI0 fun i j => V.int (i - j)) (tCall spTakeZ [] E0 (tCons (tVar 0) (tCons (tC (V.int 20)) tNil))) (tC (V.int 9))) tNil)) (gSub (tVar 5) (tVar 2) rSetL)) tNext) (tSeq (tIfS (tTest (tOp rEq (tVar 4) (tC (V.int 5)))) (tSeq (tAsg (tLst (tCons (tC (V.str ("-0"))) (tCons (tC (V.str ("00"))) (tCons (tOp (fun x y H Q => ∃ i j, x = V.str i ∧ y = V.str j ∧ i.length + j.length ≤ sizeLine ∧ Q (V.str (i ++ j)) H) (tC (V.str ("0"))) (tOp (rIxL K) (tVar 5) (tVar 2))) (tCons (tOp (fun x y H Q => ∃ i j, x = V.str i ∧ y = V.str j ∧ i.length + j.length ≤ sizeLine ∧ Q (V.str (i ++ j)) H) (tC (V.str ("+"))) (tOp (rIxL K) (tVar 5) (tVar 2))) (tCons (tOp (fun x y H Q => ∃ z i, x = V.str z ∧ y = V.int i ∧ MulOk z i ∧ Q (V.str (Txt.mul z i)) H) (tC (V.str ("1"))) (tC (V.int 61))) (tCons (tOp (fun x y H Q => ∃ z i, x = V.str z ∧ y = V.int i ∧ MulOk z i ∧ Q (V.str (Txt.mul z i)) H) (tC (V.str ("1"))) (tC (V.int 60))) (tCons (tC (V.str (""))) (tCons (tC (V.str ("-"))) tNil))))))))) (gName 6)) (tAsg (tOp (rIxL K) (tVar 6) (tCall spTakeZ [] E0 (tCons (tVar 0) (tCons (tC (V.int 8)) tNil)))) (gSub (tVar 5) (tVar 2) rSetL))) tNext) (tSeq (tIfS (tTest (tOp rEq (tVar 4) (tC (V.int 6)))) (tAsg (tOp rCat (tSl (rSlL K) (tVar 5) tNoPart (tPart (tVar 2))) (tSl (rSlL K) (tVar 5) (tPart (tOp (rI0 fun i j => V.int (i + j)) (tVar 2) (tC (V.int 1)))) tNoPart)) (gName 5)) tNext) (tSeq (tIfS (tTest (tOp rEq (tVar 4) (tC (V.int 7)))) (tAsg (tOp rCat (tOp rCat (tSl (rSlL K) (tVar 5) tNoPart (tPart (tVar 2))) (tSl (rSlL K) (tVar 5) (tPart (tVar 2)) (tPart (tOp (rI0 fun i j => V.int (i + j)) (tVar 2) (tC (V.int 4)))))) (tSl (rSlL K) (tVar 5) (tPart (tVar 2)) tNoPart)) (gName 5)) tNext) (tSeq (tIfS (tTest (tOp rEq (tVar 4) (tC (V.int 8)))) (tRet (tOp (rIxL K) (tLst (tCons (tC (V.str (""))) (tCons (tC (V.str (" "))) (tCons (tC (V.str ("/"))) (tCons (tC (V.str (" / "))) (tCons (tC (V.str ("none"))) (tCons (tC (V.str ("1"))) (tCons (tC (V.str ("1 2 3"))) (tCons (tC (V.str ("1 / 2"))) tNil))))))))) (tCall spTakeZ [] E0 (tCons (tVar 0) (tCons (tC (V.int 8)) tNil))))) tNext) (tRet (tBM K "str" (fun x vs H_1 Q => ∃ sep p ss, x = V.str sep ∧ vs = [V.ref p] ∧ SqL K H_1 p (List.map V.str ss) ∧ sep.length ≤ 16 ∧ (List.map (fun x => x.length) ss).sum + ss.length ≤ 1048576 ∧ Q (V.str (sep.join ss)) H_1) (tC (V.str (" "))) (tCons (tVar 5) tNil))))))))))
def tSplt (K : PySem.W.Frag) : TS := tSeq (tAsg (tCall spTakeZ [] E0 (tCons (tVar 0) (tCons (tOp (rI0 fun i j => V.int (i + j)) (tCB (fun xs H Q => ∃ z, xs = [V.str z] ∧ z.length ≤ sizeLine ∧ Q (V.int (z.length : Int)) H) (tCons (tVar 1) tNil)) (tC (V.int 1))) tNil))) (gName 2)) (tSeq (tAsg (tOp (rIxL K) (tLst (tCons (tOp rIxS (tC (V.str (" /-0123456789aX,+._x"))) (tCall spTakeZ [] E0 (tCons (tVar 0) (tCons (tC (V.int 20)) tNil)))) (tCons (tOp rIxS (tCall spSgn [] E0 tNil) (tCall spTakeZ [] E0 (tCons (tVar 0) (tCons (tC (V.int 94)) tNil)))) tNil))) (tCall spTakeZ [] E0 (tCons (tVar 0) (tCons (tC (V.int 2)) tNil)))) (gName 3)) (tSeq (tAsg (tCall spTakeZ [] E0 (tCons (tVar 0) (tCons (tC (V.int 9)) tNil))) (gName 4)) (tSeq (tIfS (tTest (tOp (rI0 fun i j => V.bl (decide (i < j))) (tVar 4) (tC (V.int 3)))) (tRet (tOp (fun x y H Q => ∃ i j, x = V.str i ∧ y = V.str j ∧ i.length + j.length ≤ sizeLine ∧ Q (V.str (i ++ j)) H) (tOp (fun x y H Q => ∃ i j, x = V.str i ∧ y = V.str j ∧ i.length + j.length ≤ sizeLine ∧ Q (V.str (i ++ j)) H) (tSl rSlS (tVar 1) tNoPart (tPart (tVar 2))) (tOp (fun x y H Q => ∃ z i, x = V.str z ∧ y = V.int i ∧ MulOk z i ∧ Q (V.str (Txt.mul z i)) H) (tVar 3) (tCB (fun xs H Q => (∃ i, xs = [V.int i] ∧ Q (V.int i) H) ∨ ∃ k, xs = [V.bl k] ∧ Q (V.int (if k = true then 1 else 0)) H) (tCons (tOp (rI0 fun i j => V.bl (decide (i < j))) (tVar 4) (tC (V.int 2))) tNil)))) (tSl rSlS (tVar 1) (tPart (tOp (rI0 fun i j => V.int (i + j)) (tVar 2) (tC (V.int 1)))) tNoPart))) tNext) (tSeq (tIfS (tTest (tOp rEq (tVar 4) (tC (V.int 3)))) (tRet (tOp (fun x y H Q => ∃ i j, x = V.str i ∧ y = V.str j ∧ i.length + j.length ≤ sizeLine ∧ Q (V.str (i ++ j)) H) (tOp (fun x y H Q => ∃ i j, x = V.str i ∧ y = V.str j ∧ i.length + j.length ≤ sizeLine ∧ Q (V.str (i ++ j)) H) (tSl rSlS (tVar 1) tNoPart (tPart (tVar 2))) (tVar 3)) (tSl rSlS (tVar 1) (tPart (tVar 2)) tNoPart))) tNext) (tWords K)))))
set_option maxHeartbeats 8000000 in
theorem words_reads {d : Addr} {t sg : Str} {H0 : Hp} {x2 x5 x6 : Option V} {way : Int} (P : PurseZ H d) (B : ButZ d H0 H) (tl : t.length ≤ 200) (w4 : 4 ≤ way) (w9 : way < 9) (k : ∀ (s : Str) (H' : Hp), ButZ d H0 H' → PurseZ H' d → s.length ≤ 900 → Q (.str s) H') : tWords K { nx := Z, rt := Q } [some (.ref d), some (.str t), x2, some (.str sg), some (.int way), x5, x6] H := by
  have fin : ∀ (ss : List Str) (H' : Hp), wtS ss ≤ 800 → ButZ d H0 H' → PurseZ H' d → Q (.str (Str.join " " ss)) H' := fun ss H' h1 h2 h3 => k _ _ h2 h3 (by have := wtS_join ss; omega)
  refine ⟨_, rfl, rfl, t, " ", rfl, rfl, blank_ne, by omega, fun l hl => ?_⟩
  have P1 := P.new (o := .lst ((Txt.split t " ").map V.str)) hl
  have B1 := B.new (o := .lst ((Txt.split t " ").map V.str)) hl
  have l0 := B.fr P hl
  have nl := P.ne hl
  have f1 : (upd H l (.lst ((Txt.split t " ").map V.str))) l = some (.lst ((wordsS t).map V.str)) := upd_same
  dsimp only [gName]
  generalize upd H l (.lst ((Txt.split t " ").map V.str)) = H1 at P1 B1 f1 ⊢
  have wt := wtS_split t
  have ne : 0 < (wordsS t).length := List.length_pos_iff.mpr (split_ne t " ")
  have wl : (wordsS t).length ≤ 201 := by unfold wtS at wt; omega
  generalize wordsS t = ws at wt ne wl f1
  refine ⟨_, rfl, _, rfl, l, _, rfl, .inl (SqL.of f1), d, _, rfl, P1, by rw [List.length_map]; omega, Int.lt_of_lt_of_le (show _ < (1000 : Int) by rw [List.length_map]; omega) (by decide), fun r H2 r0 rm P2 B2 => ?_⟩
  rw [List.length_map] at rm
  have f2 := B2 _ _ f1 nl
  have B02 := B1.trans B2
  obtain ⟨n, c, rfl, ec, eat⟩ := at_ex ws r0 rm
  have nw : n < ws.length := (List.getElem?_eq_some_iff.mp ec).1
  have ix : ixN (ws.map V.str).length (n : Int) = some n := ixN_nat (by rw [List.length_map]; exact nw)
  have atv : atI (ws.map V.str) (n : Int) = some (.str c) := atI_nat (by rw [List.getElem?_map, ec]; rfl)
  have cl := wtS_mem (List.mem_of_getElem? ec)
  dsimp only [gName]
  rcases (by omega : way = 4 ∨ way = 5 ∨ way = 6 ∨ way = 7 ∨ way = 8) with rfl | rfl | rfl | rfl | rfl
  · refine ⟨_, rfl, rfl, _, rfl, iteY (by decide) ?_⟩
    refine ⟨_, rfl, d, 20, rfl, P2, by decide, by decide, fun q H3 q0 qm P3 B3 => ?_⟩
    have hs := str18 (i := q - 9) (by omega) (by omega)
    refine ⟨q, 9, rfl, rfl, _, rfl, hs.1, _, rfl, _, rfl, ?_⟩
    refine ⟨l, _, _, n, rfl, rfl, B3 _ _ f2 nl, ix, ?_⟩
    have P4 := P3.at (o := .lst ((ws.map V.str).set n (.str (strI (q - 9))))) nl
    have B4 := (B02.trans B3).own (o := .lst ((ws.map V.str).set n (.str (strI (q - 9))))) l0
    have f4 : (upd H3 l (.lst ((ws.map V.str).set n (.str (strI (q - 9)))))) l = some (.lst ((ws.set n (strI (q - 9))).map V.str)) := by rw [upd_same, List.map_set]
    have w4 := wtS_set ws n (strI (q - 9))
    change tSeq _ _ _ _ (upd H3 l (.lst ((ws.map V.str).set n (.str (strI (q - 9))))))
    generalize upd H3 l (.lst ((ws.map V.str).set n (.str (strI (q - 9))))) = H4 at P4 B4 f4 ⊢
    have wl4 : wtS (ws.set n (strI (q - 9))) ≤ 800 := by have := hs.2; omega
    refine ⟨_, rfl, rfl, _, rfl, iteN (by decide) ⟨_, rfl, rfl, _, rfl, iteN (by decide) ⟨_, rfl, rfl, _, rfl, iteN (by decide) ⟨_, rfl, rfl, _, rfl, iteN (by decide) ?_⟩⟩⟩⟩
    refine ⟨rfl, _, rfl, " ", l, _, rfl, rfl, SqL.of f4, by decide, ?_, fin _ _ wl4 B4 P4⟩
    unfold wtS at wl4
    omega
  · refine ⟨_, rfl, rfl, _, rfl, iteN (by decide) ⟨_, rfl, rfl, _, rfl, iteY (by decide) ?_⟩⟩
    refine ⟨_, rfl, _, rfl, l, _, _, _, rfl, rfl, SqL.of f2, atv, _, _, rfl, rfl, ?_, ?_⟩
    · exact Nat.le_trans (show _ ≤ 1000 by rw [show ("0" : Str).length = 1 from by decide +kernel]; omega) (by decide)
    refine ⟨_, rfl, _, rfl, l, _, _, _, rfl, rfl, SqL.of f2, atv, _, _, rfl, rfl, ?_, ?_⟩
    · exact Nat.le_trans (show _ ≤ 1000 by rw [show ("+" : Str).length = 1 from by decide +kernel]; omega) (by decide)
    refine ⟨_, _, rfl, rfl, mul_61, _, _, rfl, rfl, mul_60, (by show 8 ≤ sizeLine; decide), fun p hp => ?_⟩
    have hod : ∃ od : List Str, od = [("-0" : Str), ("00" : Str), ("0" : Str) ++ c, ("+" : Str) ++ c, Txt.mul "1" 61, Txt.mul "1" 60, ("" : Str), ("-" : Str)] := ⟨_, rfl⟩
    obtain ⟨od, eod⟩ := hod
    have lod : od.length = 8 := by rw [eod]; rfl
    have aod : ∀ w ∈ od, w.length ≤ 202 := fun w hw => by
      rw [eod] at hw
      simp only [List.mem_cons, List.not_mem_nil, or_false] at hw
      rcases hw with rfl | rfl | rfl | rfl | rfl | rfl | rfl | rfl
      · decide +kernel
      · decide +kernel
      · rw [Str.length_append, show ("0" : Str).length = 1 from by decide +kernel]; omega
      · rw [Str.length_append, show ("+" : Str).length = 1 from by decide +kernel]; omega
      · rw [len_61]; decide
      · rw [len_60]; decide
      · decide +kernel
      · decide +kernel
    have eh : (HO.lst [V.str "-0", V.str "00", V.str (("0" : Str) ++ c), V.str (("+" : Str) ++ c), V.str (Txt.mul "1" 61), V.str (Txt.mul "1" 60), V.str "", V.str "-"]) = .lst (od.map V.str) := by rw [eod]; rfl
    have P3 := P2.new (o := .lst (od.map V.str)) hp
    have B3 := B02.new (o := .lst (od.map V.str)) hp
    have f3 : (upd H2 p (.lst (od.map V.str))) l = some (.lst (ws.map V.str)) := (upd_ne (ne_of_none f2 hp)).trans f2
    have fo : (upd H2 p (.lst (od.map V.str))) p = some (.lst (od.map V.str)) := upd_same
    have np := P2.ne hp
    dsimp only [gName]
    rw [eh]
    generalize upd H2 p (.lst (od.map V.str)) = H3 at P3 B3 f3 fo ⊢
    refine ⟨_, rfl, _, rfl, d, 8, rfl, P3, by decide, by decide, fun q H4 q0 qm P4 B4 => ?_⟩
    obtain ⟨m, w, rfl, ew, _⟩ := at_ex od q0 (by rw [lod]; exact qm)
    have lw := aod w (List.mem_of_getElem? ew)
    refine ⟨p, _, _, .str w, rfl, rfl, SqL.of (B4 _ _ fo np), atI_nat (by rw [List.getElem?_map, ew]; rfl), _, rfl, _, rfl, ?_⟩
    refine ⟨l, _, _, n, rfl, rfl, B4 _ _ f3 nl, ix, ?_⟩
    have P5 := P4.at (o := .lst ((ws.map V.str).set n (.str w))) nl
    have B5 := (B3.trans B4).own (o := .lst ((ws.map V.str).set n (.str w))) l0
    have f5 : (upd H4 l (.lst ((ws.map V.str).set n (.str w)))) l = some (.lst ((ws.set n w).map V.str)) := by rw [upd_same, List.map_set]
    have w5 := wtS_set ws n w
    change tSeq _ _ _ _ (upd H4 l (.lst ((ws.map V.str).set n (.str w))))
    generalize upd H4 l (.lst ((ws.map V.str).set n (.str w))) = H5 at P5 B5 f5 ⊢
    have wl5 : wtS (ws.set n w) ≤ 800 := by omega
    refine ⟨_, rfl, rfl, _, rfl, iteN (by decide) ⟨_, rfl, rfl, _, rfl, iteN (by decide) ⟨_, rfl, rfl, _, rfl, iteN (by decide) ?_⟩⟩⟩
    refine ⟨rfl, _, rfl, " ", l, _, rfl, rfl, SqL.of f5, by decide, ?_, fin _ _ wl5 B5 P5⟩
    unfold wtS at wl5
    omega
  · refine ⟨_, rfl, rfl, _, rfl, iteN (by decide) ⟨_, rfl, rfl, _, rfl, iteN (by decide) ⟨_, rfl, rfl, _, rfl, iteY (by decide) ?_⟩⟩⟩
    obtain ⟨ra, ea, wa⟩ := cut_strs ws none (some (n : Int))
    obtain ⟨rb, eb, wb⟩ := cut_strs ws (some ((n : Int) + 1)) none
    refine ⟨_, rfl, _, rfl, _, rfl, l, _, rfl, SqL.of f2, fun p hp => ?_⟩
    rw [ea]
    have P3 := P2.new (o := .lst (ra.map V.str)) hp
    have B3 := B02.new (o := .lst (ra.map V.str)) hp
    have f3 : (upd H2 p (.lst (ra.map V.str))) l = some (.lst (ws.map V.str)) := (upd_ne (ne_of_none f2 hp)).trans f2
    have fp : (upd H2 p (.lst (ra.map V.str))) p = some (.lst (ra.map V.str)) := upd_same
    generalize upd H2 p (.lst (ra.map V.str)) = H3 at P3 B3 f3 fp ⊢
    refine ⟨_, rfl, _, rfl, _, _, rfl, rfl, _, rfl, l, _, rfl, SqL.of f3, fun q hq => ?_⟩
    rw [eb]
    have P4 := P3.new (o := .lst (rb.map V.str)) hq
    have B4 := B3.new (o := .lst (rb.map V.str)) hq
    have f4 : (upd H3 q (.lst (rb.map V.str))) p = some (.lst (ra.map V.str)) := (upd_ne (ne_of_none fp hq)).trans fp
    have fq : (upd H3 q (.lst (rb.map V.str))) q = some (.lst (rb.map V.str)) := upd_same
    generalize upd H3 q (.lst (rb.map V.str)) = H4 at P4 B4 f4 fq ⊢
    have la : ra.length ≤ wtS ra := by unfold wtS; omega
    have lb : rb.length ≤ wtS rb := by unfold wtS; omega
    refine ⟨p, q, _, _, rfl, rfl, f4, fq, Nat.le_trans (show _ ≤ 1000 by rw [List.length_map, List.length_map]; omega) (by decide), fun m hm => ?_⟩
    have f5 : (upd H4 m (.lst (ra.map V.str ++ rb.map V.str))) m = some (.lst ((ra ++ rb).map V.str)) := by rw [upd_same, List.map_append]
    have P5 := P4.new (o := .lst (ra.map V.str ++ rb.map V.str)) hm
    have B5 := B4.new (o := .lst (ra.map V.str ++ rb.map V.str)) hm
    dsimp only [gName]
    generalize upd H4 m (.lst (ra.map V.str ++ rb.map V.str)) = H5 at P5 B5 f5 ⊢
    have wl5 : wtS (ra ++ rb) ≤ 800 := by rw [wtS_app]; omega
    refine ⟨_, rfl, rfl, _, rfl, iteN (by decide) ⟨_, rfl, rfl, _, rfl, iteN (by decide) ?_⟩⟩
    refine ⟨rfl, _, rfl, " ", m, _, rfl, rfl, SqL.of f5, by decide, ?_, fin _ _ wl5 B5 P5⟩
    unfold wtS at wl5
    omega
  · refine ⟨_, rfl, rfl, _, rfl, iteN (by decide) ⟨_, rfl, rfl, _, rfl, iteN (by decide) ⟨_, rfl, rfl, _, rfl, iteN (by decide) ⟨_, rfl, rfl, _, rfl, iteY (by decide) ?_⟩⟩⟩⟩
    obtain ⟨ra, ea, wa⟩ := cut_strs ws none (some (n : Int))
    obtain ⟨rb, eb, wb⟩ := cut_strs ws (some (n : Int)) (some ((n : Int) + 4))
    obtain ⟨rc, ec', wc⟩ := cut_strs ws (some (n : Int)) none
    refine ⟨_, rfl, _, rfl, _, rfl, l, _, rfl, SqL.of f2, fun p hp => ?_⟩
    rw [ea]
    have P3 := P2.new (o := .lst (ra.map V.str)) hp
    have B3 := B02.new (o := .lst (ra.map V.str)) hp
    have f3 : (upd H2 p (.lst (ra.map V.str))) l = some (.lst (ws.map V.str)) := (upd_ne (ne_of_none f2 hp)).trans f2
    have fp : (upd H2 p (.lst (ra.map V.str))) p = some (.lst (ra.map V.str)) := upd_same
    generalize upd H2 p (.lst (ra.map V.str)) = H3 at P3 B3 f3 fp ⊢
    refine ⟨_, rfl, _, rfl, _, rfl, _, rfl, _, _, rfl, rfl, _, rfl, l, _, rfl, SqL.of f3, fun q hq => ?_⟩
    rw [eb]
    have P4 := P3.new (o := .lst (rb.map V.str)) hq
    have B4 := B3.new (o := .lst (rb.map V.str)) hq
    have f4 : (upd H3 q (.lst (rb.map V.str))) p = some (.lst (ra.map V.str)) := (upd_ne (ne_of_none fp hq)).trans fp
    have f4l : (upd H3 q (.lst (rb.map V.str))) l = some (.lst (ws.map V.str)) := (upd_ne (ne_of_none f3 hq)).trans f3
    have fq : (upd H3 q (.lst (rb.map V.str))) q = some (.lst (rb.map V.str)) := upd_same
    generalize upd H3 q (.lst (rb.map V.str)) = H4 at P4 B4 f4 f4l fq ⊢
    have la : ra.length ≤ wtS ra := by unfold wtS; omega
    have lb : rb.length ≤ wtS rb := by unfold wtS; omega
    have lc : rc.length ≤ wtS rc := by unfold wtS; omega
    refine ⟨p, q, _, _, rfl, rfl, f4, fq, Nat.le_trans (show _ ≤ 1000 by rw [List.length_map, List.length_map]; omega) (by decide), fun m hm => ?_⟩
    have f5 : (upd H4 m (.lst (ra.map V.str ++ rb.map V.str))) m = some (.lst ((ra ++ rb).map V.str)) := by rw [upd_same, List.map_append]
    have f5l : (upd H4 m (.lst (ra.map V.str ++ rb.map V.str))) l = some (.lst (ws.map V.str)) := (upd_ne (ne_of_none f4l hm)).trans f4l
    have P5 := P4.new (o := .lst (ra.map V.str ++ rb.map V.str)) hm
    have B5 := B4.new (o := .lst (ra.map V.str ++ rb.map V.str)) hm
    generalize upd H4 m (.lst (ra.map V.str ++ rb.map V.str)) = H5 at P5 B5 f5 f5l ⊢
    refine ⟨_, rfl, _, rfl, _, rfl, l, _, rfl, SqL.of f5l, fun q2 hq2 => ?_⟩
    rw [ec']
    have P6 := P5.new (o := .lst (rc.map V.str)) hq2
    have B6 := B5.new (o := .lst (rc.map V.str)) hq2
    have f6 : (upd H5 q2 (.lst (rc.map V.str))) m = some (.lst ((ra ++ rb).map V.str)) := (upd_ne (ne_of_none f5 hq2)).trans f5
    have fc : (upd H5 q2 (.lst (rc.map V.str))) q2 = some (.lst (rc.map V.str)) := upd_same
    generalize upd H5 q2 (.lst (rc.map V.str)) = H6 at P6 B6 f6 fc ⊢
    refine ⟨m, q2, _, _, rfl, rfl, f6, fc, Nat.le_trans (show _ ≤ 1000 by rw [List.length_map, List.length_map, List.length_append]; omega) (by decide), fun m2 hm2 => ?_⟩
    have f7 : (upd H6 m2 (.lst ((ra ++ rb).map V.str ++ rc.map V.str))) m2 = some (.lst ((ra ++ rb ++ rc).map V.str)) := by rw [upd_same, ← List.map_append]
    have P7 := P6.new (o := .lst ((ra ++ rb).map V.str ++ rc.map V.str)) hm2
    have B7 := B6.new (o := .lst ((ra ++ rb).map V.str ++ rc.map V.str)) hm2
    dsimp only [gName]
    generalize upd H6 m2 (.lst ((ra ++ rb).map V.str ++ rc.map V.str)) = H7 at P7 B7 f7 ⊢
    have wl5 : wtS (ra ++ rb ++ rc) ≤ 800 := by rw [wtS_app, wtS_app]; omega
    refine ⟨_, rfl, rfl, _, rfl, iteN (by decide) ?_⟩
    refine ⟨rfl, _, rfl, " ", m2, _, rfl, rfl, SqL.of f7, by decide, ?_, fin _ _ wl5 B7 P7⟩
    unfold wtS at wl5
    omega
  · refine ⟨_, rfl, rfl, _, rfl, iteN (by decide) ⟨_, rfl, rfl, _, rfl, iteN (by decide) ⟨_, rfl, rfl, _, rfl, iteN (by decide) ⟨_, rfl, rfl, _, rfl, iteN (by decide) ⟨_, rfl, rfl, _, rfl, iteY (by decide) ?_⟩⟩⟩⟩⟩
    refine ⟨(by show 8 ≤ sizeLine; decide), fun p hp => ?_⟩
    have hod : ∃ od : List Str, od = [("" : Str), (" " : Str), ("/" : Str), (" / " : Str), ("none" : Str), ("1" : Str), ("1 2 3" : Str), ("1 / 2" : Str)] := ⟨_, rfl⟩
    obtain ⟨od, eod⟩ := hod
    have lod : od.length = 8 := by rw [eod]; rfl
    have aod : ∀ w ∈ od, w.length ≤ 202 := by rw [eod]; decide +kernel
    have eh : (HO.lst [V.str "", V.str " ", V.str "/", V.str " / ", V.str "none", V.str "1", V.str "1 2 3", V.str "1 / 2"]) = .lst (od.map V.str) := by rw [eod]; rfl
    have P3 := P2.new (o := .lst (od.map V.str)) hp
    have B3 := B02.new (o := .lst (od.map V.str)) hp
    have fo : (upd H2 p (.lst (od.map V.str))) p = some (.lst (od.map V.str)) := upd_same
    have np := P2.ne hp
    rw [eh]
    generalize upd H2 p (.lst (od.map V.str)) = H3 at P3 B3 fo ⊢
    refine ⟨_, rfl, d, 8, rfl, P3, by decide, by decide, fun q H4 q0 qm P4 B4 => ?_⟩
    obtain ⟨m, w, rfl, ew, _⟩ := at_ex od q0 (by rw [lod]; exact qm)
    have lw := aod w (List.mem_of_getElem? ew)
    refine ⟨p, _, _, .str w, rfl, rfl, SqL.of (B4 _ _ fo np), atI_nat (by rw [List.getElem?_map, ew]; rfl), k w _ (B3.trans B4) P4 (by omega)⟩
set_option maxHeartbeats 8000000 in
theorem splt_reads {d : Addr} {t : Str} (P : PurseZ H d) (tl : t.length ≤ 200) (k : ∀ (s : Str) (H' : Hp), ButZ d H H' → PurseZ H' d → s.length ≤ 900 → Q (.str s) H') : tSplt K { nx := Z, rt := Q } [some (.ref d), some (.str t), none, none, none, none, none] H := by
  refine ⟨_, rfl, _, rfl, t, rfl, Nat.le_trans (show _ ≤ 1000 by omega) (by decide), _, _, rfl, rfl, d, _, rfl, P, by omega, Int.lt_of_lt_of_le (show _ < (1000 : Int) by omega) (by decide), fun r1 H1 r0 rm P1 B1 => ?_⟩
  refine ⟨_, rfl, d, 20, rfl, P1, by decide, by decide, fun r2 H2 a2 b2 P2 B2 => ?_⟩
  obtain ⟨_, c1, _, _, e1⟩ := at_ex (" /-0123456789aX,+._x" : Str).cps.toList a2 (by rw [show (" /-0123456789aX,+._x" : Str).cps.toList.length = 20 from by decide +kernel]; exact b2)
  refine ⟨_, r2, c1, rfl, rfl, by decide +kernel, e1, ?_⟩
  refine ⟨rfl, ?_⟩
  refine ⟨_, rfl, d, 94, rfl, P2, by decide, by decide, fun r3 H3 a3 b3 P3 B3 => ?_⟩
  obtain ⟨_, c2, _, _, e2⟩ := at_ex (sgA ++ sgB).cps.toList a3 (by rw [← len_list, sg_len]; exact b3)
  refine ⟨_, r3, c2, rfl, rfl, by rw [sg_len]; decide, e2, ?_⟩
  refine ⟨(by show 2 ≤ sizeLine; decide), fun p hp => ?_⟩
  have P4 := P3.new (o := .lst [.str ⟨#[c1]⟩, .str ⟨#[c2]⟩]) hp
  have B4 := ((B1.trans B2).trans B3).new (o := .lst [.str ⟨#[c1]⟩, .str ⟨#[c2]⟩]) hp
  have f4 : (upd H3 p (.lst [.str ⟨#[c1]⟩, .str ⟨#[c2]⟩])) p = some (.lst [.str ⟨#[c1]⟩, .str ⟨#[c2]⟩]) := upd_same
  have np := P3.ne hp
  generalize upd H3 p (.lst [.str ⟨#[c1]⟩, .str ⟨#[c2]⟩]) = H4 at P4 B4 f4 ⊢
  refine ⟨_, rfl, d, 2, rfl, P4, by decide, by decide, fun r4 H5 a5 b5 P5 B5 => ?_⟩
  have f5 := B5 _ _ f4 np
  have hz : ∃ z : Str, atI [V.str ⟨#[c1]⟩, V.str ⟨#[c2]⟩] r4 = some (.str z) ∧ z.length = 1 := by
    rcases (by omega : r4 = 0 ∨ r4 = 1) with rfl | rfl
    · exact ⟨_, rfl, rfl⟩
    · exact ⟨_, rfl, rfl⟩
  obtain ⟨sg, esg, lsg⟩ := hz
  refine ⟨p, _, r4, .str sg, rfl, rfl, SqL.of f5, esg, ?_⟩
  dsimp only [gName]
  refine ⟨_, rfl, d, 9, rfl, P5, by decide, by decide, fun way H6 w0 w9 P6 B6 => ?_⟩
  have B06 := (B4.trans B5).trans B6
  dsimp only [gName]
  refine ⟨_, rfl, _, _, rfl, rfl, _, rfl, ?_⟩
  have sb := fun a b => sub_le t a b
  by_cases w3 : way < 3
  · refine iteY (decide_eq_true w3) ?_
    refine ⟨_, rfl, _, rfl, _, rfl, t, 0, min r1.toNat t.length, rfl, .inl ⟨rfl, rfl⟩, .inr ⟨r1.toNat, by congr 1; omega, rfl⟩, Nat.zero_le _, Nat.le_trans (show _ ≤ 1000 by omega) (by decide), ?_⟩
    refine ⟨_, rfl, _, rfl, _, _, rfl, rfl, .inr ⟨_, rfl, sg, _, rfl, rfl, mul_ok01 _ _, ?_⟩⟩
    have ml := mul_len01 sg (decide (way < 2))
    refine ⟨_, _, rfl, rfl, Nat.le_trans (show _ ≤ 1000 by have := sb 0 (min r1.toNat t.length); omega) (by decide), ?_⟩
    refine ⟨_, rfl, _, rfl, _, _, rfl, rfl, _, rfl, t, min (r1.toNat + 1) t.length, t.length, rfl, .inr ⟨r1.toNat + 1, by congr 1; omega, rfl⟩, .inl ⟨rfl, rfl⟩, by omega, Nat.le_trans (show _ ≤ 1000 by omega) (by decide), ?_⟩
    refine ⟨_, _, rfl, rfl, Nat.le_trans (show _ ≤ 1000 by rw [Str.length_append]; have := sb 0 (min r1.toNat t.length); have := sb (min (r1.toNat + 1) t.length) t.length; omega) (by decide), ?_⟩
    refine k _ _ B06 P6 ?_
    rw [Str.length_append, Str.length_append]
    have := sb 0 (min r1.toNat t.length)
    have := sb (min (r1.toNat + 1) t.length) t.length
    omega
  refine iteN (decide_eq_false w3) ?_
  refine ⟨_, rfl, rfl, _, rfl, ?_⟩
  by_cases w4 : way = 3
  · subst w4
    refine iteY (by decide) ?_
    refine ⟨_, rfl, _, rfl, _, rfl, t, 0, min r1.toNat t.length, rfl, .inl ⟨rfl, rfl⟩, .inr ⟨r1.toNat, by congr 1; omega, rfl⟩, Nat.zero_le _, Nat.le_trans (show _ ≤ 1000 by omega) (by decide), ?_⟩
    refine ⟨_, rfl, _, _, rfl, rfl, Nat.le_trans (show _ ≤ 1000 by have := sb 0 (min r1.toNat t.length); omega) (by decide), ?_⟩
    refine ⟨_, rfl, _, rfl, _, rfl, t, min r1.toNat t.length, t.length, rfl, .inr ⟨r1.toNat, by congr 1; omega, rfl⟩, .inl ⟨rfl, rfl⟩, by omega, Nat.le_trans (show _ ≤ 1000 by omega) (by decide), ?_⟩
    refine ⟨_, _, rfl, rfl, Nat.le_trans (show _ ≤ 1000 by rw [Str.length_append]; have := sb 0 (min r1.toNat t.length); have := sb (min r1.toNat t.length) t.length; omega) (by decide), ?_⟩
    refine k _ _ B06 P6 ?_
    rw [Str.length_append, Str.length_append]
    have := sb 0 (min r1.toNat t.length)
    have := sb (min r1.toNat t.length) t.length
    omega
  refine iteN (decide_eq_false fun q => w4 (V.int.inj q)) ?_
  exact words_reads P6 B06 tl (by omega) w9 k
end
end L2
set_option Elab.async false
set_option linter.all false
set_option maxRecDepth 100000
set_option maxHeartbeats 1000000
namespace L2
open PySem PySem.Spec PyProof.Rows
section
variable {K : PySem.W.Frag} {H : Hp} {Q : VK} {Z : L2.St → Hp → Prop}
def spPurseZ (K : PySem.W.Frag) : Sp := fun vs H Q _ => ∃ (a : Addr) (ns : List Int) (k : Int), vs = [.ref a, .int k] ∧ SqL K H a (ns.map V.int) ∧ 0 ≤ k ∧ k ≤ 1000 ∧ ∀ (d : Addr) (H' : Hp), H d = none → PurseZ H' d → Same H H' → Q (.ref d) H'
def tLaw82 (K : PySem.W.Frag) : TS := tSeq (tFor (iRng1 (tCons (tOp (rI0 fun i j => V.int (i + j)) (tC (V.int 1)) (tCB (fun xs H Q => ∃ i j, xs = [V.int i, V.int j] ∧ Q (V.int (if j < i then j else i)) H) (tCons (tC (V.int 6)) (tCons (tCB (fun xs H Q => ∃ p ys, xs = [V.ref p] ∧ (SqL K H p ys ∨ SqT K H p ys) ∧ Q (V.int ys.length) H) (tCons (tVar 0) tNil)) tNil)))) tNil)) (gName 1) (tSeq (tAsg (tCall (spPurseZ K) [] E0 (tCons (tVar 0) (tCons (tVar 1) tNil))) (gName 2)) (tSeq (tAsg (tCall spSWritX [] E0 (tCons (tCall spLShX [] E0 (tCons (tVar 2) tNil)) tNil)) (gName 3)) (tSeq (tIfS (tTest (tOp (rEqD K fun b => (!b)) (tCall spLReadX [] E0 (tCons (tVar 3) tNil)) (tCall spDueX [] E0 (tCons (tVar 3) tNil)))) (tRet (tC (V.bl false))) tNext) (tFor (iRng1 (tCons (tC (V.int 8)) tNil)) (gName 4) (tSeq (tAsg (tCall spSplt [] E0 (tCons (tVar 2) (tCons (tVar 3) tNil))) (gName 5)) (tIfS (tTest (tOp (rEqD K fun b => (!b)) (tCall spLReadX [] E0 (tCons (tVar 5) tNil)) (tCall spDueX [] E0 (tCons (tVar 5) tNil)))) (tRet (tC (V.bl false))) tNext))))))) (tRet (tC (V.bl true)))
set_option maxHeartbeats 8000000 in
theorem law82_reads {a : Addr} {ns : List Int} (hS : SqL K H a (ns.map V.int)) (k : ∀ H', Q (.bl true) H') : tLaw82 K { nx := Z, rt := Q } [some (.ref a), none, none, none, none, none] H := by
  refine ⟨_, rfl, a, _, rfl, .inl hS, 6, _, rfl, 1, _, rfl, rfl, _, rfl, ?_, ?_, ?_⟩
  · split <;> omega
  · split <;> omega
  have hn : (1 + (if (((ns.map V.int).length : Nat) : Int) < 6 then (((ns.map V.int).length : Nat) : Int) else 6)).toNat ≤ 7 := by split <;> omega
  generalize (1 + (if (((ns.map V.int).length : Nat) : Int) < 6 then (((ns.map V.int).length : Nat) : Int) else 6)).toNat = n at hn ⊢
  refine for_range (fun i σ H' => ∃ x1 x2 x3 x4 x5 : Option V, σ = [some (.ref a), x1, x2, x3, x4, x5] ∧ Same H H') ⟨_, _, _, _, _, rfl, Same.refl _⟩ ?_ ?_
  · rintro i σ H1 hi ⟨x1, x2, x3, x4, x5, rfl, s1⟩
    dsimp only [gName]
    refine ⟨_, rfl, _, rfl, a, ns, _, rfl, Same.seq s1 hS, by omega, by omega, fun d H2 fd P2 s2 => ?_⟩
    have fd0 : H d = none := s1.free fd
    dsimp only [gName]
    refine ⟨_, rfl, d, rfl, P2, fun l ys U H3 B3 P3 hl tU sU => ⟨l, ys, U, rfl, hl, tU, sU, fun s H4 s4 ls => ?_⟩⟩
    have P4 := P3.up s4
    have B4 := B3.same s4
    dsimp only [gName]
    refine ⟨_, rfl, s, rfl, by omega, fun v1 H5 s5 th5 => ⟨_, rfl, s, rfl, by omega, fun v2 H6 s6 th6 => ⟨ansD s, ansD s, (th5.up s6).di, th6.di, ans_lay _, ans_lay _, ans_dep _, _, rfl, iteN (by rw [ans_eqv]; rfl) ?_⟩⟩⟩
    have P6 := P4.up (s5.trans s6)
    have B6 := B4.same (s5.trans s6)
    refine ⟨8, rfl, by decide, by decide, for_range (n := 8) (fun j σ H' => ∃ y4 y5 : Option V, σ = [some (.ref a), some (.int (0 + (i : Int))), some (.ref d), some (.str s), y4, y5] ∧ ButZ d H2 H' ∧ PurseZ H' d) ⟨_, _, rfl, B6, P6⟩ ?_ ?_⟩
    · rintro j σ H7 hj ⟨y4, y5, rfl, B7, P7⟩
      dsimp only [gName]
      refine ⟨_, rfl, _, rfl, d, s, rfl, P7, ls, fun b H8 B8 P8 lb => ?_⟩
      dsimp only [gName]
      refine ⟨_, rfl, b, rfl, lb, fun v1 H9 s9 th9 => ⟨_, rfl, b, rfl, lb, fun v2 Ha sa tha => ⟨ansD b, ansD b, (th9.up sa).di, tha.di, ans_lay _, ans_lay _, ans_dep _, _, rfl, iteN (by rw [ans_eqv]; rfl) ?_⟩⟩⟩
      exact ⟨_, _, rfl, (B7.trans B8).same (s9.trans sa), P8.up (s9.trans sa)⟩
    · rintro σ H7 ⟨y4, y5, rfl, B7, P7⟩
      refine ⟨_, _, _, _, _, rfl, fun c o q => B7 c o (s2 _ _ (s1 _ _ q)) fun z => ?_⟩
      rw [z, fd0] at q
      cases q
  · rintro σ H1 ⟨x1, x2, x3, x4, x5, rfl, s1⟩
    exact k H1
end
end L2
set_option Elab.async false
set_option linter.all false
set_option maxRecDepth 100000
set_option maxHeartbeats 1000000
namespace Toy
open PySem L2 PyProof.Rows
def top (i : Nat) : Stmt := PySem.Challenge.pw_farcords_k82_sheets_read.main.body.getD i (.Pass ⟨0, 0, 0, 0⟩)
structure Kn (P : Program) (w : World) (K : PySem.W.Frag) (mg : Str → Option Value) (base : Heap) (x : Str) (k : Nat) (ps : List Str) (sp : Sp) : Prop where
  ex : ∃ (f : Addr) (fd : FuncData), FnOk P w K mg base CX0 k f fd ps sp ∧ mg x = some (.ref f) ∧ PySem.W.keepIn K (.ref f) = true ∧ Binds K fd ps []
theorem pe_callD {X : Cx} {x : Str} {k j : Nat} {ps : List Str} {sp : Sp} {e : Expr} {es : List Expr} {t : TA} {p pos : PySem.Pos} (G : Kn X.prog X.w X.K X.mg X.base x k ps sp) (hr : Room j X.A) (hg : Gl X x) (ha : PA X (e :: es) t) (hle : k ≤ j := by decide)
    (hdb : (x == ("__debug__" : Str)) = false := by decide)
    (he : starEach (e :: es) X.env = (false, eval e X.env) :: starEach es X.env := by rfl) (hpl : (backTo pos (starEach es X.env)).any (·.1) = false := by rfl) : PE X (.Call (.Name x p) (e :: es) [] pos) (tCall sp [] E0 t) := by
  obtain ⟨f, fd, F, hm, hk, hb⟩ := G.ex
  exact pe_call F (hr.mono hle) hg hm hk hb .nil pass0 ha hdb he hpl
structure Txt (mg : Str → Option Value) : Prop where
  len : mg "len" = none
  range : mg "range" = none
  min : mg "min" = none
  max : mg "max" = none
  isinstance : mg "isinstance" = none
  bool : mg "bool" = none
  int : mg "int" = none
  tuple : mg "tuple" = none
  list : mg "list" = none
  str : mg "str" = none
  all : mg "all" = none
  sum : mg "sum" = none
  sorted : mg "sorted" = none
def Purse (H : Hp) (d : Addr) : Prop := ∃ a b : Int, H d = some (.lst [.int a, .int b]) ∧ 0 ≤ b ∧ b < 2147483648
def But (d : Addr) (H H' : Hp) : Prop := ∀ c o, H c = some o → c ≠ d → H' c = some o
theorem But.refl (d : Addr) (H : Hp) : But d H H := fun _ _ e _ => e
theorem But.upd {d : Addr} {H H' : Hp} {o : HO} (a : But d H H') : But d H (upd H' d o) := fun c u e n => by rw [upd_ne n]; exact a c u e n
theorem Same.new {p : Addr} {H H' : Hp} {o : HO} (a : Same H H') (h : H' p = none) : Same H (L2.upd H' p o) := fun c u e => by
  have := a c u e
  rw [upd_ne (ne_of_none this h)]; exact this
theorem log_ok {m : Int} (h0 : 0 < m) (h : m < 10 ^ 100) : m.natAbs.log2 < 9000 := by
  have h2 : m.natAbs < 2 ^ 400 := by
    have : (10 : Int) ^ 100 ≤ 2 ^ 400 := by decide +kernel
    omega
  have := (Nat.log2_lt (n := m.natAbs) (k := 400) (by omega)).mpr h2
  omega
theorem bits_ok {m : Int} (h0 : 0 < m) (h : m < 10 ^ 100) : ((Builtin.Int.intBits m : Nat) : Int) ≤ 400 := by
  have h2 : m.natAbs < 2 ^ 400 := by
    have : (10 : Int) ^ 100 ≤ 2 ^ 400 := by decide +kernel
    omega
  have := (Nat.log2_lt (n := m.natAbs) (k := 400) (by omega)).mpr h2
  have hne : (m == 0) = false := by simp; omega
  unfold Builtin.Int.intBits
  simp only [hne]
  simp
  omega
section
variable {P : Program} {w : World} {K : PySem.W.Frag} {mg : Str → Option Value} {base : Heap}
abbrev s__law_cell_at : Stmt := top 28
theorem sc__law_cell_at : FnScope ["_law_script", "_law_k"] ["_law_script", "_law_k"] (defScope s__law_cell_at) := ⟨rfl, rfl, rfl, by decide +kernel, rfl, by decide +kernel, by decide +kernel⟩
def spCell (K : PySem.W.Frag) : Sp := fun vs H Q _ => ∃ (a : Addr) (ns : List Int) (k : Int), vs = [.ref a, .int k] ∧ SqL K H a (ns.map V.int) ∧ 0 ≤ k ∧ ∀ n : Int, Q (.int n) H
theorem ok_cell {f : Addr} {fd : FuncData} (F : Fun K "_law_cell_at" "_law_cell_at" s__law_cell_at f fd) (M : Txt mg) : FnOk P w K mg base CX0 1 f fd ["_law_script", "_law_k"] (spCell K) := by
  have sc := sc__law_cell_at
  refine F.ok sc (fun vs H Q E h => ?_) (fun cdv A outer s H vs Q E hr h => ?_)
  · obtain ⟨a, ns, k, rfl, _⟩ := h
    rfl
  · obtain ⟨a, ns, i, rfl, hS, h0, k⟩ := h
    refine ⟨_, (pss_cons (ps_if (pt_cmpR op_lt (pv 1) (pe_callB (call_lenK (K := K)) (by rfl) M.len PySem.boot_len (pa_Name (pv 0) pa_nil)) (nomark _)) (pss_one (ps_ret (pe_ix (ix_listK (K := K)) (pv 0) (pv 1) (fun _ _ => rfl)))) pss_nil)
      (pss_one (ps_ret pe_int))), ?_⟩
    refine ⟨_, rfl, _, rfl, a, _, rfl, .inl hS, _, _, rfl, rfl, _, rfl, ?_⟩
    refine ite2 (fun e => ?_) (fun e => ?_)
    · have e := of_decide_eq_true e
      rw [List.length_map] at e
      have hlt : i.toNat < ns.length := by omega
      refine ⟨_, rfl, _, rfl, a, _, _, V.int (ns[i.toNat]), rfl, rfl, hS, ?_, k _⟩
      have := atI_nat (xs := ns.map V.int) (j := i.toNat) (v := V.int (ns[i.toNat])) (by rw [List.getElem?_map, List.getElem?_eq_getElem hlt]; rfl)
      rw [Int.toNat_of_nonneg h0] at this
      exact this
    · exact k 0
abbrev s__law_purse : Stmt := top 29
theorem sc__law_purse : FnScope ["_law_script", "_law_at", "_law_cell", "_law_seed", "_law_k"] ["_law_script", "_law_at"] (defScope s__law_purse) := ⟨rfl, rfl, rfl, by decide +kernel, rfl, by decide +kernel, by decide +kernel⟩
def spPurse (K : PySem.W.Frag) : Sp := fun vs H Q _ => ∃ (a : Addr) (ns : List Int) (k : Int), vs = [.ref a, .int k] ∧ SqL K H a (ns.map V.int) ∧ 0 ≤ k ∧ k ≤ 1000 ∧ ∀ (d : Addr) (H' : Hp), H d = none → Purse H' d → Same H H' → Q (.ref d) H'
theorem ok_purse {f : Addr} {fd : FuncData} (F : Fun K "_law_purse" "_law_purse" s__law_purse f fd) (M : Txt mg) (G_law_cell_at : Kn P w K mg base "_law_cell_at" 1 ["_law_script", "_law_k"] (spCell K)) : FnOk P w K mg base CX0 2 f fd ["_law_script", "_law_at"] (spPurse K) := by
  have sc := sc__law_purse
  refine F.ok sc (fun vs H Q E h => ?_) (fun cdv A outer s H vs Q E hr h => ?_)
  · obtain ⟨a, ns, k, rfl, _⟩ := h
    rfl
  · obtain ⟨a, ns, i, rfl, hS, h0, h1, k⟩ := h
    refine ⟨_, (pss_cons (ps_set (i := 2) sc.nd rfl (Or.inl rfl) (pe_callD G_law_cell_at hr rfl (pa_Name (pv 0) (pa_Name (pv 1) pa_nil))))
      (pss_cons (ps_if (pt_cmpR op_ge (pv 2) (pe_op op_pow pe_int pe_int) (nomark _)) (pss_one (ps_ret (pe_lst (pa_o2 (pv 2) pe_int pa_nil)))) pss_nil)
      (pss_cons (ps_set (i := 3) sc.nd rfl (Or.inl rfl) (pe_op op_add (pe_op op_mul pe_int (pv 1)) pe_int))
      (pss_cons (ps_for PassesOwn.never rfl (pi_range1 rfl M.range (pa_Constant pe_int pa_nil)) (pg_name (i := 4) sc.nd rfl (Or.inl rfl))
      (pss_cons (ps_set (i := 3) sc.nd rfl (Or.inl rfl) (pe_op op_add (pe_op op_add (pe_op op_mul (pv 3) pe_int) (pe_op op_mod (pe_callD G_law_cell_at hr rfl (pa_Name (pv 0) (pa_BinOp (pe_op op_add (pv 1) (pv 4)) pa_nil))) pe_int)) (pe_op op_mul pe_int (pv 4))))
      (pss_one (ps_set (i := 3) sc.nd rfl (Or.inl rfl) (pe_op op_mod (pv 3) pe_int)))))
      (pss_one (ps_ret (pe_lst (pa_o2 pe_int (pe_op op_add (pv 3) pe_int) pa_nil)))))))), ?_⟩
    refine ⟨_, rfl, _, rfl, a, ns, i, rfl, hS, h0, fun cell => ?_⟩
    refine ⟨_, rfl, _, _, rfl, rfl, ⟨by decide, by decide, by decide⟩, _, _, rfl, rfl, _, rfl, ?_⟩
    refine ite2 (fun e => ?_) (fun e => ?_)
    · refine ⟨_, rfl, (by show 2 ≤ sizeLine; decide), fun d hd => ?_⟩
      exact k d _ hd ⟨_, _, upd_same, by decide, by decide⟩ (Same.new (Same.refl _) hd)
    · refine ⟨_, rfl, _, _, rfl, rfl, .inl ⟨by decide, by decide⟩, _, _, rfl, rfl, ?_⟩
      refine ⟨9, rfl, by decide, by decide, for_range (n := 9) (fun j σ H' => ∃ (c kk : Option V) (seed : Int), σ = [some (.ref a), some (.int i), c, some (.int seed), kk] ∧ 0 ≤ seed ∧ seed < 2147483629 ∧ H' = H) ⟨_, _, _, rfl, by omega, by omega, rfl⟩ ?_ ?_⟩
      · rintro j σ H' hj ⟨c, kk, seed, rfl, hs0, hs1, rfl⟩
        refine ⟨_, rfl, _, _, rfl, rfl, .inl ⟨by omega, by omega⟩, ?_⟩
        refine ⟨_, rfl, _, rfl, _, rfl, _, _, rfl, rfl, a, ns, _, rfl, hS, by omega, fun cell' => ?_⟩
        refine ⟨_, _, rfl, rfl, (by show (0 : Int) < 2147483647; decide), _, _, rfl, rfl, _, rfl, _, _, rfl, rfl, .inl ⟨by decide, by decide⟩, _, _, rfl, rfl, ?_⟩
        refine ⟨_, rfl, _, _, rfl, rfl, (by show (0 : Int) < 2147483629; decide), ?_⟩
        exact ⟨_, _, _, rfl, Int.emod_nonneg _ (by decide), Int.emod_lt_of_pos _ (by decide), rfl⟩
      · rintro σ H' ⟨c, kk, seed, rfl, hs0, hs1, rfl⟩
        refine ⟨_, rfl, _, _, rfl, rfl, (by show 2 ≤ sizeLine; decide), fun d hd => ?_⟩
        exact k d _ hd ⟨_, _, upd_same, by omega, by omega⟩ (Same.new (Same.refl _) hd)
abbrev s__law_take : Stmt := top 30
theorem sc__law_take : FnScope ["_law_draw", "_law_many", "_law_digit", "_law_found", "_law_k"] ["_law_draw", "_law_many"] (defScope s__law_take) := ⟨rfl, rfl, rfl, by decide +kernel, rfl, by decide +kernel, by decide +kernel⟩
def spTake : Sp := fun vs H Q _ => ∃ (d : Addr) (m : Int), vs = [.ref d, .int m] ∧ Purse H d ∧ 0 < m ∧ m < 10 ^ 100 ∧ ∀ (r : Int) (H' : Hp), 0 ≤ r → r < m → Purse H' d → But d H H' → Q (.int r) H'
theorem ok_take {f : Addr} {fd : FuncData} (F : Fun K "_law_take" "_law_take" s__law_take f fd) (M : Txt mg) : FnOk P w K mg base CX0 1 f fd ["_law_draw", "_law_many"] spTake := by
  have sc := sc__law_take
  refine F.ok sc (fun vs H Q E h => ?_) (fun cdv A outer s H vs Q E hr h => ?_)
  · obtain ⟨a, k, rfl, _⟩ := h
    rfl
  · obtain ⟨d, m, rfl, ⟨a, b, hd, hb0, hb1⟩, hm0, hm1, k⟩ := h
    have hlog := log_ok hm0 hm1
    have hbits := bits_ok hm0 hm1
    refine ⟨_, (pss_cons (ps_if (pt_cmpR op_eq (pe_ix (ix_listK (K := K)) (pv 0) pe_int (fun _ _ => rfl)) pe_int (nomark _)) (pss_cons (ps_set (i := 2) sc.nd rfl (Or.inl rfl) (pe_op op_mod (pe_ix (ix_listK (K := K)) (pv 0) pe_int (fun _ _ => rfl)) (pv 1)))
      (pss_cons (ps_asg (pe_op op_fdivL (pe_ix (ix_listK (K := K)) (pv 0) pe_int (fun _ _ => rfl)) (pv 1)) (pg_sub (pv 0) pe_int set_list))
      (pss_one (ps_ret (pv 2))))) pss_nil)
      (pss_cons (ps_set (i := 3) sc.nd rfl (Or.inl rfl) pe_int)
      (pss_cons (ps_for PassesOwn.never rfl (pi_range1 rfl M.range (pa_BinOp (pe_op op_add pe_int (pe_op op_fdivL (pe_bm0 PySem.F.plainAttrs_int PySem.F.slot_int_bit_length PySem.F.type_int_bit_length mt_bits (pv 1)) pe_int)) pa_nil)) (pg_name (i := 4) sc.nd rfl (Or.inl rfl))
      (pss_cons (ps_asg (pe_op op_mod (pe_op op_mul (pe_ix (ix_listK (K := K)) (pv 0) pe_int (fun _ _ => rfl)) pe_int) pe_int) (pg_sub (pv 0) pe_int set_list))
      (pss_one (ps_set (i := 3) sc.nd rfl (Or.inl rfl) (pe_op op_add (pe_op op_mul (pv 3) pe_int) (pe_op op_mod (pe_op op_mul (pe_ix (ix_listK (K := K)) (pv 0) pe_int (fun _ _ => rfl)) (pe_ix (ix_listK (K := K)) (pv 0) pe_int (fun _ _ => rfl))) pe_int))))))
      (pss_one (ps_ret (pe_op op_mod (pe_op op_fdivL (pv 3) pe_int) (pv 1))))))), ?_⟩
    refine ⟨_, rfl, d, _, _, _, rfl, rfl, SqL.of hd, rfl, rfl, _, rfl, ?_⟩
    refine ite2 (fun e => ?_) (fun e => ?_)
    · refine ⟨_, rfl, d, _, _, _, rfl, rfl, SqL.of hd, rfl, _, rfl, _, _, rfl, rfl, hm0, ?_⟩
      refine ⟨_, rfl, d, _, _, _, rfl, rfl, SqL.of hd, rfl, _, rfl, _, _, rfl, rfl, ⟨hm0, hlog⟩, _, rfl, d, _, _, _, rfl, rfl, hd, rfl, ?_⟩
      refine ⟨_, rfl, ?_⟩
      exact k _ _ (Int.emod_nonneg _ (by omega)) (Int.emod_lt_of_pos _ hm0) ⟨_, _, upd_same, hb0, hb1⟩ (But.upd (But.refl _ _))
    · refine ⟨_, rfl, rfl, _, rfl, rfl, _, _, rfl, rfl, ⟨by decide, by decide⟩, _, _, rfl, rfl, ?_⟩
      refine ⟨_, rfl, by omega, by omega, for_range (fun j σ H' => ∃ (c kk : Option V) (found b' : Int), σ = [some (.ref d), some (.int m), c, some (.int found), kk] ∧ H' d = some (.lst [.int a, .int b']) ∧ 0 ≤ b' ∧ b' < 2147483648 ∧ But d H H') ⟨_, _, _, b, rfl, hd, hb0, hb1, But.refl _ _⟩ ?_ ?_⟩
      · rintro j σ H' hj ⟨c, kk, found, b', rfl, hd', hb0', hb1', bt⟩
        refine ⟨_, rfl, d, _, _, _, rfl, rfl, SqL.of hd', rfl, _, _, rfl, rfl, .inl ⟨by omega, by omega⟩, _, _, rfl, rfl, (by show (0 : Int) < 2147483647; decide), _, rfl, d, _, _, _, rfl, rfl, hd', rfl, ?_⟩
        have z0 : 0 ≤ b' * 48271 % 2147483647 := Int.emod_nonneg _ (by decide)
        have z1 : b' * 48271 % 2147483647 < 2147483647 := Int.emod_lt_of_pos _ (by decide)
        refine ⟨_, rfl, _, _, rfl, rfl, .inr ⟨by decide, by decide⟩, ?_⟩
        refine ⟨_, rfl, d, _, _, _, rfl, rfl, SqL.of upd_same, rfl, _, rfl, d, _, _, _, rfl, rfl, SqL.of upd_same, rfl, _, _, rfl, rfl, .inl ⟨by omega, by omega⟩, _, _, rfl, rfl, (by show (0 : Int) < 2147483629; decide), _, _, rfl, rfl, ?_⟩
        exact ⟨_, _, _, _, rfl, upd_same, z0, by omega, But.upd bt⟩
      · rintro σ H' ⟨c, kk, found, b', rfl, hd', hb0', hb1', bt⟩
        refine ⟨_, rfl, _, _, rfl, rfl, ⟨by decide, by decide⟩, _, rfl, _, _, rfl, rfl, hm0, ?_⟩
        exact k _ _ (Int.emod_nonneg _ (by omega)) (Int.emod_lt_of_pos _ hm0) ⟨_, _, hd', hb0', hb1'⟩ bt
end
end Toy
set_option Elab.async false
set_option linter.all false
set_option maxRecDepth 100000
set_option maxHeartbeats 1000000
set_option Elab.async false
set_option linter.all false
set_option maxRecDepth 100000
set_option maxHeartbeats 1000000
set_option Elab.async false
set_option linter.all false
set_option maxRecDepth 100000
set_option maxHeartbeats 1000000
namespace Toy
open PySem L2 PyProof.Rows
structure Gb (mg : Str → Option Value) : Prop where
  ab : mg "abs" = none
  ve : mg "ValueError" = none
  mt : ∃ t, mg "MOST_TRIANGLES" = some (.int 12 t)
  fi : ∃ t, mg "FIGURES" = some (.str "0123456789" t)
  mo : ∃ t, mg "MOST_FIGURES" = some (.int 60 t)
  bt : ∃ t, mg "BETWEEN_TRIANGLES" = some (.str " / " t)
structure Exs (K : PySem.W.Frag) (mg : Str → Option Value) (c_CordError c_NoCord c_NoDeed c_NoName c_NoRow c_NoSheet c_NoText c_NoTurn c_TooMany : Addr) : Prop where
  m_CordError : mg "CordError" = some (.ref c_CordError)
  m_NoCord : mg "NoCord" = some (.ref c_NoCord)
  m_NoDeed : mg "NoDeed" = some (.ref c_NoDeed)
  m_NoName : mg "NoName" = some (.ref c_NoName)
  m_NoRow : mg "NoRow" = some (.ref c_NoRow)
  m_NoSheet : mg "NoSheet" = some (.ref c_NoSheet)
  m_NoText : mg "NoText" = some (.ref c_NoText)
  m_NoTurn : mg "NoTurn" = some (.ref c_NoTurn)
  m_TooMany : mg "TooMany" = some (.ref c_TooMany)
  x_CordError : XCls K c_CordError
  x_NoCord : XCls K c_NoCord
  x_NoDeed : XCls K c_NoDeed
  x_NoName : XCls K c_NoName
  x_NoRow : XCls K c_NoRow
  x_NoSheet : XCls K c_NoSheet
  x_NoText : XCls K c_NoText
  x_NoTurn : XCls K c_NoTurn
  x_TooMany : XCls K c_TooMany
  e_NoText : PySem.W.excIn K c_NoText bmV "ValueError.__new__" = true
  e_NoSheet : PySem.W.excIn K c_NoSheet bmV "ValueError.__new__" = true
  v_NoText : PySem.W.subIn K (.ref c_NoText) (.type "ValueError") = some true
  v_NoSheet : PySem.W.subIn K (.ref c_NoSheet) (.type "ValueError") = some true
  s_NoText_CordError : PySem.W.subIn K (.ref c_NoText) (.ref c_CordError) = some true
  s_NoText_NoCord : PySem.W.subIn K (.ref c_NoText) (.ref c_NoCord) = some false
  s_NoText_NoDeed : PySem.W.subIn K (.ref c_NoText) (.ref c_NoDeed) = some false
  s_NoText_NoName : PySem.W.subIn K (.ref c_NoText) (.ref c_NoName) = some false
  s_NoText_NoRow : PySem.W.subIn K (.ref c_NoText) (.ref c_NoRow) = some false
  s_NoText_NoSheet : PySem.W.subIn K (.ref c_NoText) (.ref c_NoSheet) = some false
  s_NoText_NoText : PySem.W.subIn K (.ref c_NoText) (.ref c_NoText) = some true
  s_NoText_NoTurn : PySem.W.subIn K (.ref c_NoText) (.ref c_NoTurn) = some false
  s_NoText_TooMany : PySem.W.subIn K (.ref c_NoText) (.ref c_TooMany) = some false
  s_NoSheet_CordError : PySem.W.subIn K (.ref c_NoSheet) (.ref c_CordError) = some true
  s_NoSheet_NoCord : PySem.W.subIn K (.ref c_NoSheet) (.ref c_NoCord) = some false
  s_NoSheet_NoDeed : PySem.W.subIn K (.ref c_NoSheet) (.ref c_NoDeed) = some false
  s_NoSheet_NoName : PySem.W.subIn K (.ref c_NoSheet) (.ref c_NoName) = some false
  s_NoSheet_NoRow : PySem.W.subIn K (.ref c_NoSheet) (.ref c_NoRow) = some false
  s_NoSheet_NoSheet : PySem.W.subIn K (.ref c_NoSheet) (.ref c_NoSheet) = some true
  s_NoSheet_NoText : PySem.W.subIn K (.ref c_NoSheet) (.ref c_NoText) = some false
  s_NoSheet_NoTurn : PySem.W.subIn K (.ref c_NoSheet) (.ref c_NoTurn) = some false
  s_NoSheet_TooMany : PySem.W.subIn K (.ref c_NoSheet) (.ref c_TooMany) = some false
theorem pe_callD0 {X : Cx} {x : Str} {k j : Nat} {ps : List Str} {sp : Sp} {p pos : PySem.Pos} (G : Kn X.prog X.w X.K X.mg X.base x k ps sp) (hr : Room j X.A) (hg : Gl X x) (hle : k ≤ j := by decide) (hdb : (x == ("__debug__" : Str)) = false := by decide) : PE X (.Call (.Name x p) [] [] pos) (tCall sp [] E0 tNil) := by
  obtain ⟨f, fd, F, hm, hk, hb⟩ := G.ex
  exact pe_call0 F (hr.mono hle) hg hm hk hb .nil pass0 hdb
end Toy
namespace Toy
open PySem L2 PyProof.Rows
theorem sort_uni : ∀ {a b : List Int}, a.Perm b → a.Pairwise (· ≤ ·) → b.Pairwise (· ≤ ·) → a = b
  | [], b, p, _, _ => p.nil_eq
  | x :: a, [], p, _, _ => absurd p.length_eq (by simp)
  | x :: a, y :: b, p, h1, h2 => by
    obtain ⟨u1, u2⟩ := List.pairwise_cons.mp h1
    obtain ⟨v1, v2⟩ := List.pairwise_cons.mp h2
    have e : x = y := by
      have m1 : x ∈ y :: b := p.subset List.mem_cons_self
      have m2 : y ∈ x :: a := p.symm.subset List.mem_cons_self
      rcases List.mem_cons.mp m1 with q | q
      · exact q
      rcases List.mem_cons.mp m2 with r | r
      · exact r.symm
      have := u1 y r
      have := v1 x q
      omega
    subst e
    rw [sort_uni p.cons_inv u2 v2]
end Toy
namespace Toy
open PySem L2 PyProof.Rows
section
variable {P : Program} {w : World} {K : PySem.W.Frag} {mg : Str → Option Value} {base : Heap}
abbrev s_is_whole : Stmt := top 11
theorem sc_is_whole : FnScope ["thing"] ["thing"] (defScope s_is_whole) := ⟨rfl, rfl, rfl, by decide +kernel, rfl, by decide +kernel, by decide +kernel⟩
def spWhole : Sp := fun vs H Q _ => ∃ x d, vs = [x] ∧ Th H x d ∧ Q (.bl (wholeD d)) H
theorem ok_whole {f : Addr} {fd : FuncData} (F : Fun K "is_whole" "is_whole" s_is_whole f fd) (M : Txt mg) : FnOk P w K mg base CX0 1 f fd ["thing"] spWhole := by
  have sc := sc_is_whole
  refine F.ok sc (fun vs H Q E h => ?_) (fun cdv A outer s H vs Q E hr h => ?_)
  · obtain ⟨x, d, rfl, _⟩ := h
    rfl
  · obtain ⟨x, d, rfl, t, k⟩ := h
    refine ⟨_, (pss_one (ps_ret (pe_and (pe_callB (call_isinstK (T := "int") (K := K)) (by rfl) M.isinstance boot_isinstance (pa_Name (pv 0) (pa_Name (pe_bltn (v := .ty "int") rfl M.int boot_int rfl) pa_nil))) (pe_one (pe_not (pe_callB (call_isinstK (T := "bool") (K := K)) (by rfl) M.isinstance boot_isinstance (pa_Name (pv 0) (pa_Name (pe_bltn (v := .ty "bool") rfl M.bool boot_bool rfl) pa_nil)))))))), ?_⟩
    rw [whole_ib] at k
    refine ⟨_, rfl, x, _, _, rfl, t.ty, kit_int d, _, rfl, ?_⟩
    cases hi : isInt d with
    | false => rw [hi] at k; exact iteF k
    | true => rw [hi] at k; exact iteT ⟨_, rfl, x, _, _, rfl, t.ty, kit_bool d, _, rfl, k⟩
abbrev s_is_triangle : Stmt := top 14
theorem sc_is_triangle : FnScope ["thing"] ["thing"] (defScope s_is_triangle) := ⟨rfl, rfl, rfl, by decide +kernel, rfl, by decide +kernel, by decide +kernel⟩
def spTri : Sp := fun vs H Q _ => ∃ x d, vs = [x] ∧ Th H x d ∧ ∀ H', Same H H' → Q (.bl (isTri d)) H'
theorem ok_tri {f : Addr} {fd : FuncData} (F : Fun K "is_triangle" "is_triangle" s_is_triangle f fd) (M : Txt mg) (Gis_whole : Kn P w K mg base "is_whole" 1 ["thing"] spWhole) : FnOk P w K mg base CX0 2 f fd ["thing"] spTri := by
  have sc := sc_is_triangle
  refine F.ok sc (fun vs H Q E h => ?_) (fun cdv A outer s H vs Q E hr h => ?_)
  · obtain ⟨x, d, rfl, _⟩ := h
    rfl
  · obtain ⟨x, d, rfl, t, k⟩ := h
    refine ⟨_, (pss_one (ps_ret (pe_and (pe_callB (call_isinstK (T := "tuple") (K := K)) (by rfl) M.isinstance boot_isinstance (pa_Name (pv 0) (pa_Name (pe_bltn (v := .ty "tuple") rfl M.tuple boot_tuple rfl) pa_nil))) (pe_and (pe_cmpR op_eq (pe_callB (call_lenK (K := K)) (by rfl) M.len PySem.boot_len (pa_Name (pv 0) pa_nil)) pe_int (nomark _)) (pe_one (pe_callB (call_all rfl) (by rfl) M.all boot_all (pa_cons (pe_compG (xs := ["side"]) (Nb := ["thing"]) rfl (pi_tup (pv 0)) rfl (by show ∀ p ∈ (List.zip ["thing"] ["thing"] : List (Str × Str)), _; decide +kernel) (by decide +kernel) (fun cl C s₂ H₂ fp => (pg_name (i := 0) (by show List.Nodup (["side", "thing"] : List Str); decide +kernel) rfl (Or.inl (lookup_relabel_local rfl)) (Or.inr (lookup_relabel_local rfl)))) (fun cl C s₂ H₂ fp => pif_nil) (fun cl C s₂ H₂ fp => (pe_callD Gis_whole hr rfl (pa_Name (pv 0) pa_nil))) (by decide +kernel) rfl (by decide +kernel) (by show ∀ y ∈ (_ : List (Str × NameKind)), y.2 = NameKind.free → (defScope s_is_triangle).names.lookup y.1 = some .cell; decide +kernel)) pa_nil))))))), ?_⟩
    refine ⟨_, rfl, x, _, _, rfl, t.ty, kit_tup d, _, rfl, ?_⟩
    cases ht : isTup d with
    | false =>
      rw [isTri_not ht] at k
      exact iteF (k H (Same.refl H))
    | true =>
      refine iteT ?_
      obtain ⟨p, ds, xs, rfl, rfl, hp, tl⟩ := tup_parts t ht
      refine ⟨_, rfl, p, _, rfl, .inr (SqT.of hp), rfl, _, rfl, ?_⟩
      have eb : isTri (.tuple ds) = (decide (ds.length = 3) && ds.all wholeD) := rfl
      rw [eb] at k
      by_cases h3 : ds.length = 3
      · have ev : decide (V.int ((xs.length : Nat) : Int) = V.int 3) = true := by rw [tl.1, h3]; rfl
        rw [ev]
        refine iteT ?_
        rw [decide_eq_true h3, Bool.true_and] at k
        have xl : xs.length = 3 := by rw [tl.1]; exact h3
        refine ⟨_, rfl, p, rfl, ⟨_, SqT.of hp⟩, compT (K := K) (a := p) (xs := xs) (fun i ys H' => ys = ((ds.take i).map wholeD).map V.bl ∧ H = H') ⟨rfl, rfl⟩ (by omega) (fun n ys H' h => by rw [h.1, List.length_map, List.length_map, List.length_take]; exact Nat.min_le_left _ _) (fun n ys H' _ h => by rw [← h.2]; exact SqT.of hp) ?_ ?_⟩
        · rintro n y ys' H' pre hpl hx ⟨rfl, rfl⟩
          obtain ⟨dn, hdn, tn⟩ := thl_at tl hx
          rcases pre with _ | ⟨q0, _ | ⟨q1, pre⟩⟩
          · cases hpl
          · refine ⟨⟨[some _], rfl, rfl⟩, ?_⟩
            unfold tYes
            dsimp only
            rw [if_pos (rfl : true = true)]
            refine ⟨_, rfl, y, dn, rfl, tn, ?_, rfl⟩
            rw [take_succ' hdn, List.map_append, List.map_append]
            rfl
          · cases hpl
        · rintro ys' H' ⟨rfl, rfl⟩ D hD
          refine ⟨D, (ds.take xs.length).map wholeD, rfl, SqL.of upd_same, ?_⟩
          rw [List.take_of_length_le (by rw [tl.1]; exact Nat.le_refl _), List.all_map]
          exact k _ (Same.new (Same.refl H) hD)
      · have ev : decide (V.int ((xs.length : Nat) : Int) = V.int 3) = false := decide_eq_false fun q => h3 (by have := V.int.inj q; rw [← tl.1]; omega)
        rw [ev]
        refine iteF ?_
        rw [decide_eq_false h3, Bool.false_and] at k
        exact k H (Same.refl H)
abbrev s_many_ties : Stmt := top 15
theorem sc_many_ties : FnScope ["sheet"] ["sheet"] (defScope s_many_ties) := ⟨rfl, rfl, rfl, by decide +kernel, rfl, by decide +kernel, by decide +kernel⟩
theorem ok_ties {f : Addr} {fd : FuncData} (F : Fun K "many_ties" "many_ties" s_many_ties f fd) (M : Txt mg) : FnOk P w K mg base CX0 1 f fd ["sheet"] (spTiesZ K) := by
  have sc := sc_many_ties
  refine F.ok sc (fun vs H Q E h => ?_) (fun cdv A outer s H vs Q E hr h => ?_)
  · obtain ⟨a, xs, rfl, _⟩ := h
    rfl
  · obtain ⟨a, xs, rfl, ha, k⟩ := h
    refine ⟨_, (pss_one (ps_ret (pe_op op_mul (pe_op op_fdivL (pe_callB (call_lenK (K := K)) (by rfl) M.len PySem.boot_len (pa_Name (pv 0) pa_nil)) pe_int) pe_int))), ?_⟩
    refine ⟨_, rfl, a, _, rfl, .inl ha, _, _, rfl, rfl, ⟨by decide, by decide⟩, ((xs.length : Nat) : Int) / 2, 3, rfl, rfl, .inr ⟨by decide, by decide⟩, ?_⟩
    have e : ((xs.length : Nat) : Int) / 2 * 3 = ((xs.length / 2 * 3 : Nat) : Int) := by omega
    show Q (V.int (((xs.length : Nat) : Int) / 2 * 3)) H
    rw [e]
    exact k
abbrev s_is_sheet : Stmt := top 16
theorem sc_is_sheet : FnScope ["thing", "ties"] ["thing"] (defScope s_is_sheet) := ⟨rfl, rfl, rfl, by decide +kernel, rfl, by decide +kernel, by decide +kernel⟩
def spIsS : Sp := fun vs H Q _ => ∃ x d, vs = [x] ∧ Th H x d ∧ ∀ H', Same H H' → Q (.bl (isS d)) H'
theorem ok_issheet {f : Addr} {fd : FuncData} (F : Fun K "is_sheet" "is_sheet" s_is_sheet f fd) (M : Txt mg) (Gis_triangle : Kn P w K mg base "is_triangle" 2 ["thing"] spTri) (Gmany_ties : Kn P w K mg base "many_ties" 1 ["sheet"] (spTiesZ K)) (B : Gb mg) : FnOk P w K mg base CX0 3 f fd ["thing"] spIsS := by
  have sc := sc_is_sheet
  refine F.ok sc (fun vs H Q E h => ?_) (fun cdv A outer s H vs Q E hr h => ?_)
  · obtain ⟨x, d, rfl, _⟩ := h
    rfl
  · obtain ⟨x, d, rfl, t, k⟩ := h
    obtain ⟨_, hmt⟩ := B.mt
    refine ⟨_, (pss_cons (ps_if (PW.pt (pw_or (pt_not (pt_val (pe_callB (call_isinstK (T := "list") (K := K)) (by rfl) M.isinstance boot_isinstance (pa_Name (pv 0) (pa_Name (pe_bltn (v := .ty "list") rfl M.list boot_list rfl) pa_nil))))) (pw_or (pt_not (pt_chain op_le op_le pe_int (pe_callB (call_lenK (K := K)) (by rfl) M.len PySem.boot_len (pa_Name (pv 0) pa_nil)) (pe_glob (v := .int 12) rfl hmt ⟨_, rfl⟩))) (pw_or1 (pt_cmpR op_eq (pe_op op_mod (pe_callB (call_lenK (K := K)) (by rfl) M.len PySem.boot_len (pa_Name (pv 0) pa_nil)) pe_int) pe_int (nomark _)))))) (pss_one (ps_ret pe_bl)) pss_nil)
      (pss_cons (ps_if (pt_not (pt_val (pe_callB (call_all rfl) (by rfl) M.all boot_all (pa_cons (pe_compG (xs := ["triangle"]) (Nb := ["thing", "ties"]) rfl (pi_list (pv 0)) rfl (by show ∀ p ∈ (List.zip ["thing", "ties"] ["thing", "ties"] : List (Str × Str)), _; decide +kernel) (by decide +kernel) (fun cl C s₂ H₂ fp => (pg_name (i := 0) (by show List.Nodup (["triangle", "thing", "ties"] : List Str); decide +kernel) rfl (Or.inl (lookup_relabel_local rfl)) (Or.inr (lookup_relabel_local rfl)))) (fun cl C s₂ H₂ fp => pif_nil) (fun cl C s₂ H₂ fp => (pe_callD Gis_triangle hr rfl (pa_Name (pv 0) pa_nil))) (by decide +kernel) rfl (by decide +kernel) (by show ∀ y ∈ (_ : List (Str × NameKind)), y.2 = NameKind.free → (defScope s_is_sheet).names.lookup y.1 = some .cell; decide +kernel)) pa_nil)))) (pss_one (ps_ret pe_bl)) pss_nil)
      (pss_cons (ps_set (i := 1) sc.nd rfl (Or.inl rfl) (pe_callB call_sorted (by rfl) M.sorted boot_sorted (pa_cons (pe_comp2 (xs := ["triangle", "side"]) (Nb := ["thing", "ties"]) rfl (pi_list (pv 0)) rfl (by show ∀ p ∈ (List.zip ["thing", "ties"] ["thing", "ties"] : List (Str × Str)), _; decide +kernel) (by decide +kernel) (fun cl C s₂ H₂ fp => (pg_name (i := 0) (by show List.Nodup (["triangle", "side", "thing", "ties"] : List Str); decide +kernel) rfl (Or.inl (lookup_relabel_local rfl)) (Or.inr (lookup_relabel_local rfl)))) (fun cl C s₂ H₂ fp => pif_nil) (fun cl C s₂ H₂ fp => (pi_tupK (K := K) (pv 0))) (fun cl C s₂ H₂ fp => (pg_name (i := 1) (by show List.Nodup (["triangle", "side", "thing", "ties"] : List Str); decide +kernel) rfl (Or.inl (lookup_relabel_local rfl)) (Or.inr (lookup_relabel_local rfl)))) (fun cl C s₂ H₂ fp => pif_nil) (fun cl C s₂ H₂ fp => (pe_callB call_abs (by rfl) B.ab boot_abs (pa_Name (pv 1) pa_nil))) (by decide +kernel) rfl (by decide +kernel) (by show ∀ y ∈ (_ : List (Str × NameKind)), y.2 = NameKind.free → (defScope s_is_sheet).names.lookup y.1 = some .cell; decide +kernel)) pa_nil)))
      (pss_one (ps_ret (pe_cmpR (op_eqD hr) (pv 1) (pe_callB call_sorted (by rfl) M.sorted boot_sorted (pa_BinOp (pe_op op_rep (pe_callTy (call_list_rng2 rfl) (by rfl) M.list boot_list (pa_Call (pe_callTy call_range2 (by rfl) M.range boot_range (pa_Constant pe_int (pa_BinOp (pe_op op_add (pe_callD Gmany_ties hr rfl (pa_Name (pv 0) pa_nil)) pe_int) pa_nil))) pa_nil)) pe_int) pa_nil)) (nomark _))))))), ?_⟩
    refine ⟨_, rfl, x, _, _, rfl, t.ty, kit_lst d, _, rfl, ?_⟩
    cases ht : isLst d with
    | false =>
      rw [isS_not ht] at k
      exact iteT (iteT (k H (Same.refl H)))
    | true =>
      refine iteF ?_
      obtain ⟨p, ds, xs, rfl, rfl, hp, tl⟩ := lst_parts t ht
      have lx := tl.1
      have kf : ¬ (2 ≤ ds.length ∧ ds.length ≤ 12 ∧ ds.length % 2 = 0) → ∀ H', Same H H' → Q (.bl false) H' := fun z H' s' => by
        have := k H' s'
        rw [isS_len z] at this
        exact this
      refine ⟨_, rfl, p, _, rfl, .inl (SqL.of hp), _, _, rfl, rfl, _, rfl, ?_⟩
      by_cases l2 : (2 : Int) ≤ ((xs.length : Nat) : Int)
      rotate_left
      · rw [decide_eq_false l2]
        exact iteF ⟨_, rfl, iteT (iteT (kf (by omega) H (Same.refl H)))⟩
      rw [decide_eq_true l2]
      refine iteT ⟨_, _, rfl, rfl, _, rfl, ?_⟩
      by_cases l12 : ((xs.length : Nat) : Int) ≤ 12
      rotate_left
      · rw [decide_eq_false l12]
        exact iteT (iteT (kf (by omega) H (Same.refl H)))
      rw [decide_eq_true l12]
      refine iteF ?_
      refine ⟨_, rfl, p, _, rfl, .inl (SqL.of hp), _, _, rfl, rfl, (by show (0 : Int) < 2; decide), rfl, _, rfl, ?_⟩
      by_cases lo : ((xs.length : Nat) : Int) % 2 = 1
      · have ev : decide ((fun i j => V.int (i % j)) ((xs.length : Nat) : Int) 2 = V.int 1) = true := decide_eq_true (by show V.int (((xs.length : Nat) : Int) % 2) = V.int 1; rw [lo])
        rw [ev]
        exact iteT (kf (by omega) H (Same.refl H))
      have ev : decide ((fun i j => V.int (i % j)) ((xs.length : Nat) : Int) 2 = V.int 1) = false := decide_eq_false fun q => lo (V.int.inj q)
      rw [ev]
      refine iteF ?_
      have okl : 2 ≤ ds.length ∧ ds.length ≤ 12 ∧ ds.length % 2 = 0 := by omega
      refine ⟨_, rfl, p, rfl, ⟨_, SqL.of hp⟩, compL (K := K) (a := p) (xs := xs) (fun i ys H' => ys = ((ds.take i).map isTri).map V.bl ∧ Same H H') ⟨rfl, Same.refl H⟩ (by omega) (fun n ys H' h => by rw [h.1, List.length_map, List.length_map, List.length_take]; exact Nat.min_le_left _ _) (fun n ys H' _ h => SqL.of (h.2 _ _ hp)) ?_ ?_⟩
      · rintro n y ys' H1 pre hpl hx ⟨rfl, s1⟩
        obtain ⟨dn, hdn, tn⟩ := thl_at tl hx
        rcases pre with _ | ⟨q0, _ | ⟨q1, pre⟩⟩
        · cases hpl
        · refine ⟨⟨[some _], rfl, rfl⟩, ?_⟩
          unfold tYes
          dsimp only
          rw [if_pos (rfl : true = true)]
          refine ⟨_, rfl, y, dn, rfl, tn.up s1, fun H2 s2 => ⟨?_, s1.trans s2⟩⟩
          rw [take_succ' hdn, List.map_append, List.map_append]
          rfl
        · cases hpl
      rintro ys' H1 ⟨rfl, s1⟩ D hD
      rw [List.take_of_length_le (by rw [lx]; exact Nat.le_refl _)]
      refine ⟨D, ds.map isTri, rfl, SqL.of upd_same, ?_⟩
      have s2 := Same.new (o := .lst ((ds.map isTri).map V.bl)) s1 hD
      generalize upd H1 D (.lst ((ds.map isTri).map V.bl)) = H2 at s2 ⊢
      rw [List.all_map]
      refine ⟨_, rfl, ?_⟩
      cases hall : ds.all isTri with
      | false =>
        have e : ds.all (id ∘ isTri) = false := hall
        rw [e]
        have := k H2 s2
        rw [isS_tri hall] at this
        exact iteT this
      | true =>
        have e : ds.all (id ∘ isTri) = true := hall
        rw [e]
        refine iteF ?_
        have hp2 := s2 _ _ hp
        refine ⟨_, rfl, p, rfl, ⟨_, SqL.of hp2⟩, comp2LT (K := K) (a := p) (xs := xs) (fun i ys H' => ys = (tiesD (ds.take i)).map V.int ∧ H2 = H') ⟨rfl, rfl⟩ (fun n ys H' _ h => by rw [← h.2]; exact SqL.of hp2) ?_ ?_⟩
        · rintro n y ys' H' pre hpl hx ⟨rfl, rfl⟩
          obtain ⟨dn, hdn, tn⟩ := thl_at tl hx
          obtain ⟨a, b, c, rfl⟩ := isTri_ints (List.all_eq_true.mp hall dn (List.mem_of_getElem? hdn))
          obtain ⟨q, es, zs, rfl, ee, hq, tq⟩ := tup_parts (tn.up s2) rfl
          cases ee
          obtain ⟨y1, y2, y3, rfl⟩ := three3 tq.1
          have e1 : y1 = .int a := by have := tq.2 0 y1 _ rfl rfl; cases this; rfl
          have e2 : y2 = .int b := by have := tq.2 1 y2 _ rfl rfl; cases this; rfl
          have e3 : y3 = .int c := by have := tq.2 2 y3 _ rfl rfl; cases this; rfl
          subst e1 e2 e3
          have nl := (List.getElem?_eq_some_iff.mp hdn).1
          have tl3 : (tiesD (ds.take n)).length = 3 * n := by
            rw [ties_len (List.all_eq_true.mpr fun z hz => List.all_eq_true.mp hall z (List.mem_of_mem_take hz)), List.length_take]
            omega
          rcases pre with _ | ⟨q0, _ | ⟨q1, _ | ⟨q2, pre⟩⟩⟩
          · cases hpl
          · cases hpl
          · refine ⟨⟨[some _, _], rfl, rfl⟩, ?_⟩
            unfold tYes
            dsimp only
            rw [if_pos (rfl : true = true)]
            refine ⟨_, rfl, q, rfl, ⟨_, SqT.of hq⟩, compIT (K := K) (a := q) (xs := [.int a, .int b, .int c]) (fun j zs σ' H' => zs = (tiesD (ds.take n) ++ ([a, b, c].map absI).take j).map V.int ∧ (∃ q1, σ' = [some (.ref q), q1, some (.ref p), none]) ∧ H2 = H') ⟨by rw [List.take_zero, List.append_nil], ⟨_, rfl⟩, rfl⟩ (fun j zs σ' H' h => ?_) (fun j zs σ' H' _ h => by rw [← h.2.2]; exact SqT.of hq) ?_ ?_⟩
            · rw [h.1, List.length_map, List.length_append, List.length_take, tl3]
              simp only [List.length_map, List.length_cons, List.length_nil]
              omega
            · rintro j z zs σ' H' hz ⟨rfl, ⟨q1, rfl⟩, rfl⟩
              refine ⟨⟨[some _, some _], rfl, rfl⟩, ?_⟩
              dsimp only
              rw [if_pos (rfl : true = true)]
              rcases j with _ | _ | _ | j
              · cases hz
                refine ⟨_, rfl, a, rfl, ?_, ⟨_, rfl⟩, rfl⟩
                show (tiesD (ds.take n) ++ []).map V.int ++ [V.int (absI a)] = (tiesD (ds.take n) ++ [absI a]).map V.int
                rw [List.map_append, List.map_append]
                simp
              · cases hz
                refine ⟨_, rfl, b, rfl, ?_, ⟨_, rfl⟩, rfl⟩
                show (tiesD (ds.take n) ++ [absI a]).map V.int ++ [V.int (absI b)] = (tiesD (ds.take n) ++ [absI a, absI b]).map V.int
                rw [List.map_append, List.map_append]
                simp
              · cases hz
                refine ⟨_, rfl, c, rfl, ?_, ⟨_, rfl⟩, rfl⟩
                show (tiesD (ds.take n) ++ [absI a, absI b]).map V.int ++ [V.int (absI c)] = (tiesD (ds.take n) ++ [absI a, absI b, absI c]).map V.int
                rw [List.map_append, List.map_append]
                simp
              · cases hz
            · rintro zs σ' H' ⟨rfl, _, rfl⟩
              refine ⟨?_, rfl⟩
              rw [take_succ' hdn, tiesD_snoc]
              rfl
          · cases hpl
        · rintro ys' H' ⟨rfl, rfl⟩ D2 hD2
          rw [List.take_of_length_le (by rw [lx]; exact Nat.le_refl _)]
          have tlen := ties_len hall
          refine ⟨D2, tiesD ds, rfl, SqL.of upd_same, by omega, fun l3 ms hl3 pm pw => ?_⟩
          have s3 := Same.new (o := .lst ((tiesD ds).map V.int)) s2 hD2
          have s4 := Same.new (o := .lst (ms.map V.int)) s3 hl3
          have hl4 : (upd (upd H2 D2 (.lst ((tiesD ds).map V.int))) l3 (.lst (ms.map V.int))) l3 = some (.lst (ms.map V.int)) := upd_same
          generalize upd (upd H2 D2 (.lst ((tiesD ds).map V.int))) l3 (.lst (ms.map V.int)) = H4 at s4 hl4 ⊢
          have e6 : (((xs.length / 2 * 3 : Nat) : Int) + 1 - 1).toNat = ds.length / 2 * 3 := by rw [lx]; omega
          refine ⟨_, rfl, _, rfl, p, xs, rfl, SqL.of (s4 _ _ hp), _, _, rfl, rfl, 1, ((xs.length / 2 * 3 : Nat) : Int) + 1, rfl, fun p1 hp1 => ⟨p1, 1, ((xs.length / 2 * 3 : Nat) : Int) + 1, rfl, upd_same, by decide, by omega, by omega, fun l1 hl1 => ⟨l1, 2, _, rfl, rfl, upd_same, by decide, by decide, ?_, fun pl hpl => ?_⟩⟩⟩
          · rw [List.length_map, upto_len, e6]
            exact Nat.le_trans (show ds.length / 2 * 3 * 2 ≤ 1000 by omega) (by decide)
          · have s5 := Same.new (o := .rng 1 (((xs.length / 2 * 3 : Nat) : Int) + 1)) (Same.refl H4) hp1
            have s6 := Same.new (o := .lst ((upto 1 (((xs.length / 2 * 3 : Nat) : Int) + 1 - 1).toNat).map V.int)) s5 hl1
            have s7 := Same.new (o := .lst ((List.replicate (2 : Int).toNat ((upto 1 (((xs.length / 2 * 3 : Nat) : Int) + 1 - 1).toNat).map V.int)).flatten)) s6 hpl
            have hpl7 : (upd (upd (upd H4 p1 (.rng 1 (((xs.length / 2 * 3 : Nat) : Int) + 1))) l1 (.lst ((upto 1 (((xs.length / 2 * 3 : Nat) : Int) + 1 - 1).toNat).map V.int))) pl (.lst ((List.replicate (2 : Int).toNat ((upto 1 (((xs.length / 2 * 3 : Nat) : Int) + 1 - 1).toNat).map V.int)).flatten))) pl = some (.lst ((pool (ds.length / 2 * 3)).map V.int)) := by
              rw [upd_same, rep2, e6, ← List.map_append]
              rfl
            generalize upd (upd (upd H4 p1 (.rng 1 (((xs.length / 2 * 3 : Nat) : Int) + 1))) l1 (.lst ((upto 1 (((xs.length / 2 * 3 : Nat) : Int) + 1 - 1).toNat).map V.int))) pl (.lst ((List.replicate (2 : Int).toNat ((upto 1 (((xs.length / 2 * 3 : Nat) : Int) + 1 - 1).toNat).map V.int)).flatten)) = H7 at s7 hpl7 ⊢
            refine ⟨pl, pool (ds.length / 2 * 3), rfl, SqL.of hpl7, by rw [pool_len]; omega, fun l5 ms2 hl5 pm2 pw2 => ?_⟩
            have s8 := Same.new (o := .lst (ms2.map V.int)) s7 hl5
            refine ⟨_, _, di_lst (SqL.of (s8 _ _ hl4)), di_lst (SqL.of upd_same), lay_dI _, lay_dI _, dep_dI _, ?_⟩
            rw [eqv_dI]
            have key : decide (ms = ms2) = isS (.list ds) := by
              have hiff : ms = ms2 ↔ isS (.list ds) = true := by
                rw [isS_perm okl hall]
                constructor
                · intro z
                  rw [← z] at pm2
                  exact pm.symm.trans pm2
                · intro z
                  exact sort_uni ((pm.trans z).trans pm2.symm) pw pw2
              by_cases z : ms = ms2
              · rw [decide_eq_true z, hiff.mp z]
              · rw [decide_eq_false z]
                exact (Bool.eq_false_iff.mpr fun q => z (hiff.mpr q)).symm
            rw [key]
            exact k _ (s4.trans s8)
end
end Toy
set_option Elab.async false
set_option linter.all false
set_option maxRecDepth 100000
set_option maxHeartbeats 1000000
namespace Toy
open PySem L2 PyProof.Rows
section
variable {P : Program} {w : World} {K : PySem.W.Frag} {mg : Str → Option Value} {base : Heap} {c_CordError c_NoCord c_NoDeed c_NoName c_NoRow c_NoSheet c_NoText c_NoTurn c_TooMany : Addr}
abbrev s_is_number : Stmt := top 21
theorem sc_is_number : FnScope ["text", "figures"] ["text"] (defScope s_is_number) := ⟨rfl, rfl, rfl, by decide +kernel, rfl, by decide +kernel, by decide +kernel⟩
set_option maxHeartbeats 4000000 in
theorem ok_isnum {f : Addr} {fd : FuncData} (F : Fun K "is_number" "is_number" s_is_number f fd) (M : Txt mg) (B : Gb mg) : FnOk P w K mg base CX0 1 f fd ["text"] spIsNum := by
  have sc := sc_is_number
  refine F.ok sc (fun vs H Q E h => ?_) (fun cdv A outer s H vs Q E hr h => ?_)
  · obtain ⟨w0, rfl, _⟩ := h
    rfl
  · obtain ⟨w0, rfl, wl, k⟩ := h
    obtain ⟨tfi, hfi⟩ := B.fi
    obtain ⟨tmo, hmo⟩ := B.mo
    obtain ⟨tbt, hbt⟩ := B.bt
    obtain ⟨tmt, hmt⟩ := B.mt
    refine ⟨_, (pss_cons (ps_set (i := 1) sc.nd rfl (Or.inl rfl) (pe_ifExp (pt_val (pe_bm PySem.F.plainAttrs_str PySem.F.slot_str_startswith PySem.F.type_str_startswith mt_starts (pv 0) (pa_Constant pe_str pa_nil))) (pe_slice sl_str (pv 0) (po_some pe_int) po_none) (pv 0)))
      (pss_cons (ps_if (PW.pt (pw_or (pt_not (pt_chain op_le op_le pe_int (pe_callB call_len_str (by rfl) M.len PySem.boot_len (pa_Name (pv 1) pa_nil)) (pe_glob (v := .int 60) rfl hmo ⟨_, rfl⟩))) (pw_or1 (pt_not (pt_val (pe_callB (call_all rfl) (by rfl) M.all boot_all (pa_cons (pe_compG (xs := ["sign"]) (Nb := ["text", "figures"]) rfl (pi_str (pv 1)) rfl (by show ∀ p ∈ (List.zip ["text", "figures"] ["text", "figures"] : List (Str × Str)), _; decide +kernel) (by decide +kernel) (fun cl C s₂ H₂ fp => (pg_name (i := 0) (by show List.Nodup (["sign", "text", "figures"] : List Str); decide +kernel) rfl (Or.inl (lookup_relabel_local rfl)) (Or.inr (lookup_relabel_local rfl)))) (fun cl C s₂ H₂ fp => pif_nil) (fun cl C s₂ H₂ fp => (pe_cmpR op_in_str (pv 0) (pe_glob (v := .str "0123456789") rfl hfi ⟨_, rfl⟩) rfl)) (by decide +kernel) rfl (by decide +kernel) (by show ∀ y ∈ (_ : List (Str × NameKind)), y.2 = NameKind.free → (defScope s_is_number).names.lookup y.1 = some .cell; decide +kernel)) pa_nil))))))) (pss_one (ps_ret pe_bl)) pss_nil)
      (pss_one (ps_ret (pe_or (pe_cmpR op_ne (pe_ix ix_str (pv 1) pe_int (fun _ _ => rfl)) pe_str (nomark _)) (pe_one (pe_cmpR op_eq (pv 0) pe_str (nomark _)))))))), ?_⟩
    exact isnum_reads (K := K) wl k
abbrev s_parts_of : Stmt := top 22
theorem sc_parts_of : FnScope ["text", "between"] ["text", "between"] (defScope s_parts_of) := ⟨rfl, rfl, rfl, by decide +kernel, rfl, by decide +kernel, by decide +kernel⟩
set_option maxHeartbeats 4000000 in
theorem ok_parts {f : Addr} {fd : FuncData} (F : Fun K "parts_of" "parts_of" s_parts_of f fd) (M : Txt mg) (Z : Exs K mg c_CordError c_NoCord c_NoDeed c_NoName c_NoRow c_NoSheet c_NoText c_NoTurn c_TooMany) : FnOk P w K mg base (CXE P w) 1 f fd ["text", "between"] (spPartsX c_NoText) := by
  have sc := sc_parts_of
  refine F.okX sc (fun vs H Q E h => ?_) (fun cdv A outer s H vs Q E hd0 hr h => ?_)
  · obtain ⟨t, y, rfl, _⟩ := h
    rfl
  · obtain ⟨t, y, rfl, hy, tl, k⟩ := h
    refine ⟨_, (pss_cons (ps_if (PT.nox (pt_not (pt_val (pe_callB (call_isinstK (T := "str") (K := K)) (by rfl) M.isinstance boot_isinstance (pa_Name (pv 0) (pa_Name (pe_bltn (v := .ty "str") rfl M.str boot_str rfl) pa_nil)))))) (pss_one (ps_raise Z.e_NoText hd0 Z.m_NoText pe_str rfl)) pss_nil)
      (pss_one (PS.nox (ps_ret (pe_bm PySem.F.plainAttrs_str PySem.F.slot_str_split PySem.F.type_str_split mt_split (pv 0) (pa_Name (pv 1) pa_nil)))))), ?_⟩
    exact parts_reads (K := K) hy tl k
abbrev s_numbers_of : Stmt := top 23
theorem sc_numbers_of : FnScope ["text", "words"] ["text"] (defScope s_numbers_of) := ⟨rfl, rfl, rfl, by decide +kernel, rfl, by decide +kernel, by decide +kernel⟩
set_option maxHeartbeats 4000000 in
theorem ok_numbers {f : Addr} {fd : FuncData} (F : Fun K "numbers_of" "numbers_of" s_numbers_of f fd) (M : Txt mg) (Gparts_of : KnX P w K mg base "parts_of" 1 ["text", "between"] (spPartsX c_NoText)) (Gis_number : Kn P w K mg base "is_number" 1 ["text"] spIsNum) (Z : Exs K mg c_CordError c_NoCord c_NoDeed c_NoName c_NoRow c_NoSheet c_NoText c_NoTurn c_TooMany) : FnOk P w K mg base (CXE P w) 2 f fd ["text"] (spNumX c_NoText) := by
  have sc := sc_numbers_of
  refine F.okX sc (fun vs H Q E h => ?_) (fun cdv A outer s H vs Q E hd0 hr h => ?_)
  · obtain ⟨t, rfl, _⟩ := h
    rfl
  · obtain ⟨t, rfl, tl, k1, k2⟩ := h
    refine ⟨_, (pss_cons (ps_set (i := 1) sc.nd rfl (Or.inl rfl) (pe_callX Gparts_of passE hr rfl (pa_Name (PE.nox (pv 0)) (pa_Constant (PE.nox pe_str) pa_nil))))
      (pss_cons (ps_if (PT.nox (pt_not (pt_val (pe_callB (call_all rfl) (by rfl) M.all boot_all (pa_cons (pe_compG (xs := ["word"]) (Nb := ["text", "words"]) rfl (pi_list (pv 1)) rfl (by show ∀ p ∈ (List.zip ["text", "words"] ["text", "words"] : List (Str × Str)), _; decide +kernel) (by decide +kernel) (fun cl C s₂ H₂ fp => (pg_name (i := 0) (by show List.Nodup (["word", "text", "words"] : List Str); decide +kernel) rfl (Or.inl (lookup_relabel_local rfl)) (Or.inr (lookup_relabel_local rfl)))) (fun cl C s₂ H₂ fp => pif_nil) (fun cl C s₂ H₂ fp => (pe_callD Gis_number hr rfl (pa_Name (pv 0) pa_nil))) (by decide +kernel) rfl (by decide +kernel) (by show ∀ y ∈ (_ : List (Str × NameKind)), y.2 = NameKind.free → (defScope s_numbers_of).names.lookup y.1 = some .cell; decide +kernel)) pa_nil))))) (pss_one (ps_raise Z.e_NoText hd0 Z.m_NoText pe_str rfl)) pss_nil)
      (pss_one (PS.nox (ps_ret (pe_compG (xs := ["word"]) (Nb := ["text", "words"]) rfl (pi_list (pv 1)) rfl (by show ∀ p ∈ (List.zip ["text", "words"] ["text", "words"] : List (Str × Str)), _; decide +kernel) (by decide +kernel) (fun cl C s₂ H₂ fp => (pg_name (i := 0) (by show List.Nodup (["word", "text", "words"] : List Str); decide +kernel) rfl (Or.inl (lookup_relabel_local rfl)) (Or.inr (lookup_relabel_local rfl)))) (fun cl C s₂ H₂ fp => pif_nil) (fun cl C s₂ H₂ fp => (pe_callTy call_int_text (by rfl) M.int boot_int (pa_Name (pv 0) pa_nil))) (by decide +kernel) rfl (by decide +kernel) (by show ∀ y ∈ (_ : List (Str × NameKind)), y.2 = NameKind.free → (defScope s_numbers_of).names.lookup y.1 = some .cell; decide +kernel))))))), ?_⟩
    exact numbers_reads (K := K) tl k1 k2
abbrev s_triangles_of : Stmt := top 24
theorem sc_triangles_of : FnScope ["text"] ["text"] (defScope s_triangles_of) := ⟨rfl, rfl, rfl, by decide +kernel, rfl, by decide +kernel, by decide +kernel⟩
set_option maxHeartbeats 8000000 in
theorem ok_triangles {f : Addr} {fd : FuncData} (F : Fun K "triangles_of" "triangles_of" s_triangles_of f fd) (M : Txt mg) (Gparts_of : KnX P w K mg base "parts_of" 1 ["text", "between"] (spPartsX c_NoText)) (Gnumbers_of : KnX P w K mg base "numbers_of" 2 ["text"] (spNumX c_NoText)) (B : Gb mg) : FnOk P w K mg base (CXE P w) 3 f fd ["text"] (spTriX c_NoText) := by
  have sc := sc_triangles_of
  refine F.okX sc (fun vs H Q E h => ?_) (fun cdv A outer s H vs Q E hd0 hr h => ?_)
  · obtain ⟨t, rfl, _⟩ := h
    rfl
  · obtain ⟨t, rfl, tl, k1, k2⟩ := h
    obtain ⟨tfi, hfi⟩ := B.fi
    obtain ⟨tmo, hmo⟩ := B.mo
    obtain ⟨tbt, hbt⟩ := B.bt
    obtain ⟨tmt, hmt⟩ := B.mt
    refine ⟨_, (pss_one (ps_ret (pe_compGX (xs := ["part"]) (Nb := ["text"]) rfl (pi_list (pe_callX Gparts_of passE hr rfl (pa_Name (PE.nox (pv 0)) (pa_Name (PE.nox (pe_glob (v := .str " / ") rfl hbt ⟨_, rfl⟩)) pa_nil)))) rfl (by show ∀ p ∈ (List.zip ["text"] ["text"] : List (Str × Str)), _; decide +kernel) (by decide +kernel) (fun cl C s₂ H₂ fp hin => (pg_name (i := 0) (by show List.Nodup (["part", "text"] : List Str); decide +kernel) rfl (Or.inl (lookup_relabel_local rfl)) (Or.inr (lookup_relabel_local rfl)))) (fun cl C s₂ H₂ fp hin => pif_nil) (fun cl C s₂ H₂ fp hin => (pe_callTy (call_tuple_ofKK (K := K)) (by rfl) M.tuple boot_tuple (pa_Call (pe_callX Gnumbers_of (passEC hin) hr rfl (pa_Name (PE.nox (pv 0)) pa_nil)) pa_nil))) (by decide +kernel) rfl (by decide +kernel) (by show ∀ y ∈ (_ : List (Str × NameKind)), y.2 = NameKind.free → (defScope s_triangles_of).names.lookup y.1 = some .cell; decide +kernel)))), ?_⟩
    exact triangles_reads (K := K) tl k1 k2
abbrev s_sheet_of : Stmt := top 25
theorem sc_sheet_of : FnScope ["triangles"] ["triangles"] (defScope s_sheet_of) := ⟨rfl, rfl, rfl, by decide +kernel, rfl, by decide +kernel, by decide +kernel⟩
set_option maxHeartbeats 4000000 in
theorem ok_sheetof {f : Addr} {fd : FuncData} (F : Fun K "sheet_of" "sheet_of" s_sheet_of f fd) (M : Txt mg) (Gis_sheet : Kn P w K mg base "is_sheet" 3 ["thing"] spIsS) (Z : Exs K mg c_CordError c_NoCord c_NoDeed c_NoName c_NoRow c_NoSheet c_NoText c_NoTurn c_TooMany) : FnOk P w K mg base (CXE P w) 4 f fd ["triangles"] (spSheetOf c_NoSheet) := by
  have sc := sc_sheet_of
  refine F.okX sc (fun vs H Q E h => ?_) (fun cdv A outer s H vs Q E hd0 hr h => ?_)
  · obtain ⟨l, ys, U, rfl, _⟩ := h
    rfl
  · obtain ⟨l, ys, U, rfl, hl, tU, k1, k2⟩ := h
    refine ⟨_, (pss_cons (ps_if (PT.nox (pt_not (pt_val (pe_callD Gis_sheet hr rfl (pa_Name (pv 0) pa_nil))))) (pss_one (ps_raise Z.e_NoSheet hd0 Z.m_NoSheet pe_str rfl)) pss_nil)
      (pss_one (PS.nox (ps_ret (pv 0))))), ?_⟩
    exact sheetof_reads (K := K) hl tU k1 k2
abbrev s_read_sheet : Stmt := top 26
theorem sc_read_sheet : FnScope ["text"] ["text"] (defScope s_read_sheet) := ⟨rfl, rfl, rfl, by decide +kernel, rfl, by decide +kernel, by decide +kernel⟩
set_option maxHeartbeats 4000000 in
theorem ok_readsheet {f : Addr} {fd : FuncData} (F : Fun K "read_sheet" "read_sheet" s_read_sheet f fd) (M : Txt mg) (Gsheet_of : KnX P w K mg base "sheet_of" 4 ["triangles"] (spSheetOf c_NoSheet)) (Gtriangles_of : KnX P w K mg base "triangles_of" 3 ["text"] (spTriX c_NoText)) : FnOk P w K mg base (CXE P w) 5 f fd ["text"] (spReadX c_NoText c_NoSheet) := by
  have sc := sc_read_sheet
  refine F.okX sc (fun vs H Q E h => ?_) (fun cdv A outer s H vs Q E hd0 hr h => ?_)
  · obtain ⟨t, rfl, _⟩ := h
    rfl
  · obtain ⟨t, rfl, tl, k1, k2, k3⟩ := h
    refine ⟨_, (pss_one (ps_ret (pe_callX Gsheet_of passE hr rfl (pa_Call (pe_callX Gtriangles_of passE hr rfl (pa_Name (PE.nox (pv 0)) pa_nil)) pa_nil)))), ?_⟩
    exact read_reads (K := K) tl k1 k2 k3
end
end Toy
set_option Elab.async false
set_option linter.all false
set_option maxRecDepth 100000
set_option maxHeartbeats 1000000
namespace Toy
open PySem L2 PyProof.Rows
section
theorem mem6 {α : Type} {p : α → Prop} {a b c d e f : α} (h1 : p a) (h2 : p b) (h3 : p c) (h4 : p d) (h5 : p e) (h6 : p f) : ∀ x ∈ [a, b, c, d, e, f], p x := fun x hx => by
  simp only [List.mem_cons, List.not_mem_nil, or_false] at hx
  rcases hx with rfl | rfl | rfl | rfl | rfl | rfl <;> assumption
variable {P : Program} {w : World} {K : PySem.W.Frag} {mg : Str → Option Value} {base : Heap} {c_CordError c_NoCord c_NoDeed c_NoName c_NoRow c_NoSheet c_NoText c_NoTurn c_TooMany : Addr}
abbrev s__law_due : Stmt := top 39
theorem sc__law_due : FnScope ["_law_text", "_law_rows", "_law_found"] ["_law_text"] (defScope s__law_due) := ⟨rfl, rfl, rfl, by decide +kernel, rfl, by decide +kernel, by decide +kernel⟩
set_option maxHeartbeats 4000000 in
theorem ok_due {f : Addr} {fd : FuncData} (F : Fun K "_law_due" "_law_due" s__law_due f fd) (M : Txt mg) (G_law_figures : Kn P w K mg base "_law_figures" 2 ["_law_text"] spFigsX) (G_law_is_sheet : Kn P w K mg base "_law_is_sheet" 1 ["_law_thing"] spLIsS) : FnOk P w K mg base CX0 3 f fd ["_law_text"] spDueX := by
  have sc := sc__law_due
  refine F.ok sc (fun vs H Q E h => ?_) (fun cdv A outer s H vs Q E hr h => ?_)
  · obtain ⟨t, rfl, _⟩ := h
    rfl
  · obtain ⟨t, rfl, tl, k⟩ := h
    refine ⟨_, (pss_cons (ps_compG (xs := ["_law_one"]) (Nb := ["_law_text", "_law_rows", "_law_found"]) (pg_name (i := 1) sc.nd rfl (Or.inl rfl)) rfl rfl (pi_list (pe_bm PySem.F.plainAttrs_str PySem.F.slot_str_split PySem.F.type_str_split mt_split (pv 0) (pa_Constant pe_str pa_nil))) rfl (by show ∀ p ∈ (List.zip ["_law_text", "_law_rows", "_law_found"] ["_law_text", "_law_rows", "_law_found"] : List (Str × Str)), _; decide +kernel) (by decide +kernel) (fun cl C s₂ H₂ fp => (pg_name (i := 0) (by show List.Nodup (["_law_one", "_law_text", "_law_rows", "_law_found"] : List Str); decide +kernel) rfl (Or.inl (lookup_relabel_local rfl)) (Or.inr (lookup_relabel_local rfl)))) (fun cl C s₂ H₂ fp => pif_nil) (fun cl C s₂ H₂ fp => (pe_callD G_law_figures hr rfl (pa_Name (pv 0) pa_nil))) (by decide +kernel) rfl (by decide +kernel) (by show ∀ y ∈ (_ : List (Str × NameKind)), y.2 = NameKind.free → (defScope s__law_due).names.lookup y.1 = some .cell; decide +kernel))
      (pss_cons (ps_if (pt_cmpR (op_inDn (K := K) hr) pe_non (pv 1) rfl) (pss_one (ps_ret pe_str)) pss_nil)
      (pss_cons (ps_compG (xs := ["_law_row"]) (Nb := ["_law_text", "_law_rows", "_law_found"]) (pg_name (i := 2) sc.nd rfl (Or.inl rfl)) rfl rfl (pi_list (pv 1)) rfl (by show ∀ p ∈ (List.zip ["_law_text", "_law_rows", "_law_found"] ["_law_text", "_law_rows", "_law_found"] : List (Str × Str)), _; decide +kernel) (by decide +kernel) (fun cl C s₂ H₂ fp => (pg_name (i := 0) (by show List.Nodup (["_law_row", "_law_text", "_law_rows", "_law_found"] : List Str); decide +kernel) rfl (Or.inl (lookup_relabel_local rfl)) (Or.inr (lookup_relabel_local rfl)))) (fun cl C s₂ H₂ fp => pif_nil) (fun cl C s₂ H₂ fp => (pe_callTy (call_tuple_ofKK (K := K)) (by rfl) M.tuple boot_tuple (pa_Name (pv 0) pa_nil))) (by decide +kernel) rfl (by decide +kernel) (by show ∀ y ∈ (_ : List (Str × NameKind)), y.2 = NameKind.free → (defScope s__law_due).names.lookup y.1 = some .cell; decide +kernel))
      (pss_cons (ps_if (pt_val (pe_callD G_law_is_sheet hr rfl (pa_Name (pv 2) pa_nil))) (pss_one (ps_ret (pv 2))) pss_nil)
      (pss_one (ps_ret pe_str)))))), ?_⟩
    exact duex_reads (K := K) tl k
abbrev s__law_read : Stmt := top 40
theorem sc__law_read : FnScope ["_law_text", "e", "_law_others"] ["_law_text"] (defScope s__law_read) := ⟨rfl, rfl, rfl, by decide +kernel, rfl, by decide +kernel, by decide +kernel⟩
set_option maxHeartbeats 8000000 in
theorem ok_read {f : Addr} {fd : FuncData} (F : Fun K "_law_read" "_law_read" s__law_read f fd) (M : Txt mg) (Gread_sheet : KnX P w K mg base "read_sheet" 5 ["text"] (spReadX c_NoText c_NoSheet)) (Z : Exs K mg c_CordError c_NoCord c_NoDeed c_NoName c_NoRow c_NoSheet c_NoText c_NoTurn c_TooMany) (B : Gb mg) : FnOk P w K mg base CX0 6 f fd ["_law_text"] spLReadX := by
  have sc := sc__law_read
  refine F.ok sc (fun vs H Q E h => ?_) (fun cdv A outer s H vs Q E hr h => ?_)
  · obtain ⟨t, rfl, _⟩ := h
    rfl
  · obtain ⟨t, rfl, tl, k⟩ := h
    obtain ⟨tfi, hfi⟩ := B.fi
    obtain ⟨tmo, hmo⟩ := B.mo
    obtain ⟨tbt, hbt⟩ := B.bt
    obtain ⟨tmt, hmt⟩ := B.mt
    refine ⟨_, (pss_one (ps_try (i := 1) sc.nd rfl rfl rfl rfl Z.m_CordError rfl Z.x_CordError (fun pins xe Ex px => (pss_one (ps_ret (pe_callX Gread_sheet px hr rfl (pa_Name (PE.nox (pv 0)) pa_nil))))) (fun C ea oe ho => (pss_cons (ps_set (i := 2) sc.nd rfl (Or.inl rfl) (pe_callB (call_isiX (K := K) ho) (by rfl) M.isinstance boot_isinstance (pa_Name (pv 1) (pa_Tuple (pe_tup (pa_o4 (pe_glob (v := .ref _) rfl Z.m_NoCord rfl) (pe_glob (v := .ref _) rfl Z.m_NoDeed rfl) (pe_glob (v := .ref _) rfl Z.m_NoName rfl) (pe_glob (v := .ref _) rfl Z.m_NoRow rfl) (pa_o2 (pe_glob (v := .ref _) rfl Z.m_NoTurn rfl) (pe_glob (v := .ref _) rfl Z.m_TooMany rfl) pa_nil))) pa_nil))))
      (pss_cons (ps_if (PW.pt (pw_or (pt_val (pv 2)) (pw_or (pt_not (pt_val (pe_callB (call_isiX (K := K) ho) (by rfl) M.isinstance boot_isinstance (pa_Name (pv 1) (pa_Name (pe_bltn (v := .ty "ValueError") rfl B.ve PyProof.Rows.Boot.«ValueError» rfl) pa_nil))))) (pw_or1 (pt_cmpR op_eq (pe_callB (call_isiX (K := K) ho) (by rfl) M.isinstance boot_isinstance (pa_Name (pv 1) (pa_Name (pe_glob (v := .ref _) rfl Z.m_NoText rfl) pa_nil))) (pe_callB (call_isiX (K := K) ho) (by rfl) M.isinstance boot_isinstance (pa_Name (pv 1) (pa_Name (pe_glob (v := .ref _) rfl Z.m_NoSheet rfl) pa_nil))) (nomark _)))))) (pss_one (ps_ret pe_non)) pss_nil)
      (pss_one (ps_ret (pe_ix (ix_listK (K := K)) (pe_lst (pa_o2 pe_str pe_str pa_nil)) (pe_callTy call_int1 (by rfl) M.int boot_int (pa_Call (pe_callB (call_isiX (K := K) ho) (by rfl) M.isinstance boot_isinstance (pa_Name (pv 1) (pa_Name (pe_glob (v := .ref _) rfl Z.m_NoText rfl) pa_nil))) pa_nil)) (fun _ _ => rfl))))))))), ?_⟩
    exact lread_reads (K := K) Z.x_NoCord Z.x_NoDeed Z.x_NoName Z.x_NoRow Z.x_NoSheet Z.x_NoText Z.x_NoTurn Z.x_TooMany Z.s_NoText_CordError Z.s_NoSheet_CordError Z.v_NoText Z.v_NoSheet (mem6 Z.s_NoText_NoCord Z.s_NoText_NoDeed Z.s_NoText_NoName Z.s_NoText_NoRow Z.s_NoText_NoTurn Z.s_NoText_TooMany) (mem6 Z.s_NoSheet_NoCord Z.s_NoSheet_NoDeed Z.s_NoSheet_NoName Z.s_NoSheet_NoRow Z.s_NoSheet_NoTurn Z.s_NoSheet_TooMany) Z.s_NoText_NoSheet Z.s_NoSheet_NoText tl k
end
end Toy
set_option Elab.async false
set_option linter.all false
set_option maxRecDepth 100000
set_option maxHeartbeats 1000000
namespace Toy
open PySem L2 PyProof.Rows
section
variable {P : Program} {w : World} {K : PySem.W.Frag} {mg : Str → Option Value} {base : Heap} {c_CordError c_NoCord c_NoDeed c_NoName c_NoRow c_NoSheet c_NoText c_NoTurn c_TooMany : Addr}
abbrev s__law_sheet : Stmt := top 31
theorem sc__law_sheet : FnScope ["_law_draw", "_law_half", "_law_slots", "_law_sides", "_law_tie", "_law_turn", "_law_spot"] ["_law_draw"] (defScope s__law_sheet) := ⟨rfl, rfl, rfl, by decide +kernel, rfl, by decide +kernel, by decide +kernel⟩
set_option maxHeartbeats 8000000 in
theorem ok_lsheet {f : Addr} {fd : FuncData} (F : Fun K "_law_sheet" "_law_sheet" s__law_sheet f fd) (M : Txt mg) (G_law_take : Kn P w K mg base "_law_take" 1 ["_law_draw", "_law_many"] spTake) : FnOk P w K mg base CX0 2 f fd ["_law_draw"] spLShX := by
  have sc := sc__law_sheet
  refine F.ok sc (fun vs H Q E h => ?_) (fun cdv A outer s H vs Q E hr h => ?_)
  · obtain ⟨d, rfl, _⟩ := h
    rfl
  · obtain ⟨d, rfl, hP, k⟩ := h
    refine ⟨_, (pss_cons (ps_set (i := 1) sc.nd rfl (Or.inl rfl) (pe_op op_add pe_int (pe_ix (ix_listK (K := K)) (pe_lst (pa_o2 (pe_callD G_law_take hr rfl (pa_Name (pv 0) (pa_Constant pe_int pa_nil))) (pe_callD G_law_take hr rfl (pa_Name (pv 0) (pa_Constant pe_int pa_nil))) pa_nil)) (pe_callTy call_int1 (by rfl) M.int boot_int (pa_cons (pe_cmpR op_eq (pe_callD G_law_take hr rfl (pa_Name (pv 0) (pa_Constant pe_int pa_nil))) pe_int (nomark _)) pa_nil)) (fun _ _ => rfl))))
      (pss_cons (ps_set (i := 2) sc.nd rfl (Or.inl rfl) (pe_callTy (call_list_rng2 rfl) (by rfl) M.list boot_list (pa_Call (pe_callTy call_range1 (by rfl) M.range boot_range (pa_BinOp (pe_op op_mul pe_int (pv 1)) pa_nil)) pa_nil)))
      (pss_cons (ps_set (i := 3) sc.nd rfl (Or.inr rfl) (pe_compG (xs := ["_law_slot"]) (Nb := ["_law_draw", "_law_half", "_law_slots", "_law_sides", "_law_tie", "_law_turn", "_law_spot"]) rfl (pi_list (pv 2)) rfl (by show ∀ p ∈ (List.zip ["_law_draw", "_law_half", "_law_slots", "_law_sides", "_law_tie", "_law_turn", "_law_spot"] ["_law_draw", "_law_half", "_law_slots", "_law_sides", "_law_tie", "_law_turn", "_law_spot"] : List (Str × Str)), _; decide +kernel) (by decide +kernel) (fun cl C s₂ H₂ fp => (pg_name (i := 0) (by show List.Nodup (["_law_slot", "_law_draw", "_law_half", "_law_slots", "_law_sides", "_law_tie", "_law_turn", "_law_spot"] : List Str); decide +kernel) rfl (Or.inl (lookup_relabel_local rfl)) (Or.inr (lookup_relabel_local rfl)))) (fun cl C s₂ H₂ fp => pif_nil) (fun cl C s₂ H₂ fp => pe_int) (by decide +kernel) rfl (by decide +kernel) (by show ∀ y ∈ (_ : List (Str × NameKind)), y.2 = NameKind.free → (defScope s__law_sheet).names.lookup y.1 = some .cell; decide +kernel)))
      (pss_cons (ps_for PassesOwn.never rfl (pi_range2 rfl M.range (pa_Constant pe_int (pa_BinOp (pe_op op_add (pe_op op_mul pe_int (pv 1)) pe_int) pa_nil))) (pg_name (i := 4) sc.nd rfl (Or.inl rfl))
      (pss_one (ps_for PassesOwn.never rfl (pi_range1 rfl M.range (pa_Constant pe_int pa_nil)) (pg_name (i := 5) sc.nd rfl (Or.inl rfl))
      (pss_cons (ps_set (i := 6) sc.nd rfl (Or.inl rfl) (pe_bm PySem.F.plainAttrs_list PySem.F.slot_list_pop PySem.F.type_list_pop mt_popAt (pv 2) (pa_Call (pe_callD G_law_take hr rfl (pa_Name (pv 0) (pa_Call (pe_callB (call_lenK (K := K)) (by rfl) M.len PySem.boot_len (pa_Name (pv 2) pa_nil)) pa_nil))) pa_nil)))
      (pss_one (ps_asg (pe_op op_mul (pv 4) (pe_op op_sub pe_int (pe_op op_mul pe_int (pe_callD G_law_take hr rfl (pa_Name (pv 0) (pa_Constant pe_int pa_nil)))))) (pg_sub (pv 3) (pv 6) set_list)))))))
      (pss_one (ps_ret (pe_compG (xs := ["_law_k"]) (Nb := ["_law_draw", "_law_half", "_law_slots", "_law_sides", "_law_tie", "_law_turn", "_law_spot"]) rfl (pi_range1 rfl M.range (pa_BinOp (pe_op op_mul pe_int (pv 1)) pa_nil)) rfl (by show ∀ p ∈ (List.zip ["_law_draw", "_law_half", "_law_slots", "_law_sides", "_law_tie", "_law_turn", "_law_spot"] ["_law_draw", "_law_half", "_law_slots", "_law_sides", "_law_tie", "_law_turn", "_law_spot"] : List (Str × Str)), _; decide +kernel) (by decide +kernel) (fun cl C s₂ H₂ fp => (pg_name (i := 0) (by show List.Nodup (["_law_k", "_law_draw", "_law_half", "_law_slots", "_law_sides", "_law_tie", "_law_turn", "_law_spot"] : List Str); decide +kernel) rfl (Or.inl (lookup_relabel_local rfl)) (Or.inr (lookup_relabel_local rfl)))) (fun cl C s₂ H₂ fp => pif_nil) (fun cl C s₂ H₂ fp => (pe_callTy (call_tuple_ofKK (K := K)) (by rfl) M.tuple boot_tuple (pa_Subscript (pe_slice (sl_listK (K := K)) (pv 4) (po_some (pe_op op_mul pe_int (pv 0))) (po_some (pe_op op_add (pe_op op_mul pe_int (pv 0)) pe_int))) pa_nil))) (by decide +kernel) rfl (by decide +kernel) (by show ∀ y ∈ (_ : List (Str × NameKind)), y.2 = NameKind.free → (defScope s__law_sheet).names.lookup y.1 = some .cell; decide +kernel)))))))), ?_⟩
    exact lsh_reads (K := K) hP k
abbrev s__law_written : Stmt := top 32
theorem sc__law_written : FnScope ["_law_figures_here"] ["_law_figures_here"] (defScope s__law_written) := ⟨rfl, rfl, rfl, by decide +kernel, rfl, by decide +kernel, by decide +kernel⟩
set_option maxHeartbeats 4000000 in
theorem ok_written {f : Addr} {fd : FuncData} (F : Fun K "_law_written" "_law_written" s__law_written f fd) (M : Txt mg) : FnOk P w K mg base CX0 1 f fd ["_law_figures_here"] spWritX := by
  have sc := sc__law_written
  refine F.ok sc (fun vs H Q E h => ?_) (fun cdv A outer s H vs Q E hr h => ?_)
  · obtain ⟨a, u, rfl, _⟩ := h
    rfl
  · obtain ⟨a, u, rfl, ha, u3, h18, k⟩ := h
    refine ⟨_, (pss_one (ps_ret (pe_bm PySem.F.plainAttrs_str PySem.F.slot_str_join PySem.F.type_str_join mt_join pe_str (pa_cons (pe_compG (xs := ["_law_one"]) (Nb := ["_law_figures_here"]) rfl (pi_tup (pv 0)) rfl (by show ∀ p ∈ (List.zip ["_law_figures_here"] ["_law_figures_here"] : List (Str × Str)), _; decide +kernel) (by decide +kernel) (fun cl C s₂ H₂ fp => (pg_name (i := 0) (by show List.Nodup (["_law_one", "_law_figures_here"] : List Str); decide +kernel) rfl (Or.inl (lookup_relabel_local rfl)) (Or.inr (lookup_relabel_local rfl)))) (fun cl C s₂ H₂ fp => pif_nil) (fun cl C s₂ H₂ fp => (pe_callTy call_str_int (by rfl) M.str boot_str (pa_Name (pv 0) pa_nil))) (by decide +kernel) rfl (by decide +kernel) (by show ∀ y ∈ (_ : List (Str × NameKind)), y.2 = NameKind.free → (defScope s__law_written).names.lookup y.1 = some .cell; decide +kernel)) pa_nil)))), ?_⟩
    exact writ_reads (K := K) ha u3 h18 k
abbrev s__law_sheet_written : Stmt := top 33
theorem sc__law_sheet_written : FnScope ["_law_sheet_here"] ["_law_sheet_here"] (defScope s__law_sheet_written) := ⟨rfl, rfl, rfl, by decide +kernel, rfl, by decide +kernel, by decide +kernel⟩
set_option maxHeartbeats 4000000 in
theorem ok_swritten {f : Addr} {fd : FuncData} (F : Fun K "_law_sheet_written" "_law_sheet_written" s__law_sheet_written f fd) (M : Txt mg) (G_law_written : Kn P w K mg base "_law_written" 1 ["_law_figures_here"] spWritX) : FnOk P w K mg base CX0 2 f fd ["_law_sheet_here"] spSWritX := by
  have sc := sc__law_sheet_written
  refine F.ok sc (fun vs H Q E h => ?_) (fun cdv A outer s H vs Q E hr h => ?_)
  · obtain ⟨l, ys, U, rfl, _⟩ := h
    rfl
  · obtain ⟨l, ys, U, rfl, hl, tU, sU, k⟩ := h
    refine ⟨_, (pss_one (ps_ret (pe_bm PySem.F.plainAttrs_str PySem.F.slot_str_join PySem.F.type_str_join mt_join pe_str (pa_cons (pe_compG (xs := ["_law_triangle"]) (Nb := ["_law_sheet_here"]) rfl (pi_list (pv 0)) rfl (by show ∀ p ∈ (List.zip ["_law_sheet_here"] ["_law_sheet_here"] : List (Str × Str)), _; decide +kernel) (by decide +kernel) (fun cl C s₂ H₂ fp => (pg_name (i := 0) (by show List.Nodup (["_law_triangle", "_law_sheet_here"] : List Str); decide +kernel) rfl (Or.inl (lookup_relabel_local rfl)) (Or.inr (lookup_relabel_local rfl)))) (fun cl C s₂ H₂ fp => pif_nil) (fun cl C s₂ H₂ fp => (pe_callD G_law_written hr rfl (pa_Name (pv 0) pa_nil))) (by decide +kernel) rfl (by decide +kernel) (by show ∀ y ∈ (_ : List (Str × NameKind)), y.2 = NameKind.free → (defScope s__law_sheet_written).names.lookup y.1 = some .cell; decide +kernel)) pa_nil)))), ?_⟩
    exact swrit_reads (K := K) hl tU sU k
abbrev s__law_is_sheet : Stmt := top 34
theorem sc__law_is_sheet : FnScope ["_law_thing", "_law_many", "_law_sides", "_law_triangle"] ["_law_thing"] (defScope s__law_is_sheet) := ⟨rfl, rfl, rfl, by decide +kernel, rfl, by decide +kernel, by decide +kernel⟩
set_option maxHeartbeats 8000000 in
theorem ok_lissheet {f : Addr} {fd : FuncData} (F : Fun K "_law_is_sheet" "_law_is_sheet" s__law_is_sheet f fd) (M : Txt mg) (B : Gb mg) : FnOk P w K mg base CX0 1 f fd ["_law_thing"] spLIsS := by
  have sc := sc__law_is_sheet
  refine F.ok sc (fun vs H Q E h => ?_) (fun cdv A outer s H vs Q E hr h => ?_)
  · obtain ⟨l, ys, U, rfl, _⟩ := h
    rfl
  · obtain ⟨l, ys, U, rfl, hl, tU, ul, k⟩ := h
    obtain ⟨tfi, hfi⟩ := B.fi
    obtain ⟨tmo, hmo⟩ := B.mo
    obtain ⟨tbt, hbt⟩ := B.bt
    obtain ⟨tmt, hmt⟩ := B.mt
    refine ⟨_, (pss_cons (ps_set (i := 1) sc.nd rfl (Or.inl rfl) (pe_callB (call_lenK (K := K)) (by rfl) M.len PySem.boot_len (pa_Name (pv 0) pa_nil)))
      (pss_cons (ps_if (PW.pt (pw_or (pt_cmpR op_eq (pe_op op_mod (pv 1) pe_int) pe_int (nomark _)) (pw_or (pt_not (pt_chain op_le op_le pe_int (pv 1) pe_int)) (pw_or1 (pt_not (pt_val (pe_callB (call_all rfl) (by rfl) M.all boot_all (pa_cons (pe_compG (xs := ["_law_triangle"]) (Nb := ["_law_thing", "_law_many", "_law_sides", ""]) rfl (pi_list (pv 0)) rfl (by show ∀ p ∈ (List.zip ["_law_thing", "_law_many", "_law_sides", ""] ["_law_thing", "_law_many", "_law_sides", "_law_triangle"] : List (Str × Str)), _; decide +kernel) (by decide +kernel) (fun cl C s₂ H₂ fp => (pg_name (i := 0) (by show List.Nodup (["_law_triangle", "_law_thing", "_law_many", "_law_sides", ""] : List Str); decide +kernel) rfl (Or.inl (lookup_relabel_local rfl)) (Or.inr (lookup_relabel_local rfl)))) (fun cl C s₂ H₂ fp => pif_nil) (fun cl C s₂ H₂ fp => (pe_cmpR op_eq (pe_callB (call_lenK (K := K)) (by rfl) M.len PySem.boot_len (pa_Name (pv 0) pa_nil)) pe_int (nomark _))) (by decide +kernel) rfl (by decide +kernel) (by show ∀ y ∈ (_ : List (Str × NameKind)), y.2 = NameKind.free → (defScope s__law_is_sheet).names.lookup y.1 = some .cell; decide +kernel)) pa_nil)))))))) (pss_one (ps_ret pe_bl)) pss_nil)
      (pss_cons (ps_set (i := 2) sc.nd rfl (Or.inl rfl) (pe_lst pa_nil))
      (pss_cons (ps_for PassesOwn.never rfl (pi_list (pv 0)) (pg_name (i := 3) sc.nd rfl (Or.inl rfl))
      (pss_one (ps_set (i := 2) sc.nd rfl (Or.inl rfl) (pe_op op_cat (pv 2) (pe_compG (xs := ["_law_side"]) (Nb := ["_law_thing", "_law_many", "_law_sides", "_law_triangle"]) rfl (pi_tup (pv 3)) rfl (by show ∀ p ∈ (List.zip ["_law_thing", "_law_many", "_law_sides", "_law_triangle"] ["_law_thing", "_law_many", "_law_sides", "_law_triangle"] : List (Str × Str)), _; decide +kernel) (by decide +kernel) (fun cl C s₂ H₂ fp => (pg_name (i := 0) (by show List.Nodup (["_law_side", "_law_thing", "_law_many", "_law_sides", "_law_triangle"] : List Str); decide +kernel) rfl (Or.inl (lookup_relabel_local rfl)) (Or.inr (lookup_relabel_local rfl)))) (fun cl C s₂ H₂ fp => pif_nil) (fun cl C s₂ H₂ fp => (pe_callB call_abs (by rfl) B.ab boot_abs (pa_Name (pv 0) pa_nil))) (by decide +kernel) rfl (by decide +kernel) (by show ∀ y ∈ (_ : List (Str × NameKind)), y.2 = NameKind.free → (defScope s__law_is_sheet).names.lookup y.1 = some .cell; decide +kernel))))))
      (pss_one (ps_ret (pe_cmpR (op_eqD hr) (pe_callB call_sorted (by rfl) M.sorted boot_sorted (pa_Name (pv 2) pa_nil)) (pe_callB call_sorted (by rfl) M.sorted boot_sorted (pa_BinOp (pe_op op_rep (pe_callTy (call_list_rng2 rfl) (by rfl) M.list boot_list (pa_Call (pe_callTy call_range2 (by rfl) M.range boot_range (pa_Constant pe_int (pa_BinOp (pe_op op_add (pe_op op_fdivL (pe_op op_mul pe_int (pv 1)) pe_int) pe_int) pa_nil))) pa_nil)) pe_int) pa_nil)) (nomark _)))))))), ?_⟩
    exact liss_reads (K := K) hl tU ul k
abbrev s__law_figure : Stmt := top 35
theorem sc__law_figure : FnScope ["_law_word", "_law_bare"] ["_law_word"] (defScope s__law_figure) := ⟨rfl, rfl, rfl, by decide +kernel, rfl, by decide +kernel, by decide +kernel⟩
set_option maxHeartbeats 4000000 in
theorem ok_figure {f : Addr} {fd : FuncData} (F : Fun K "_law_figure" "_law_figure" s__law_figure f fd) (M : Txt mg) : FnOk P w K mg base CX0 1 f fd ["_law_word"] spFig := by
  have sc := sc__law_figure
  refine F.ok sc (fun vs H Q E h => ?_) (fun cdv A outer s H vs Q E hr h => ?_)
  · obtain ⟨w0, rfl, _⟩ := h
    rfl
  · obtain ⟨w0, rfl, wl, k⟩ := h
    refine ⟨_, (pss_cons (ps_set (i := 1) sc.nd rfl (Or.inl rfl) (pe_slice sl_str (pv 0) (po_some (pe_callTy call_int1 (by rfl) M.int boot_int (pa_cons (pe_cmpR op_eq (pe_slice sl_str (pv 0) po_none (po_some pe_int)) pe_str (nomark _)) pa_nil))) po_none) sw_sub)
      (pss_cons (ps_if (PW.pt (pw_or (pt_not (pt_chain op_le op_le pe_int (pe_callB call_len_str (by rfl) M.len PySem.boot_len (pa_Name (pv 1) pa_nil)) pe_int)) (pw_or1 (pt_not (pt_val (pe_callB (call_all rfl) (by rfl) M.all boot_all (pa_cons (pe_compG (xs := ["_law_sign"]) (Nb := ["_law_word", "_law_bare"]) rfl (pi_str (pv 1)) rfl (by show ∀ p ∈ (List.zip ["_law_word", "_law_bare"] ["_law_word", "_law_bare"] : List (Str × Str)), _; decide +kernel) (by decide +kernel) (fun cl C s₂ H₂ fp => (pg_name (i := 0) (by show List.Nodup (["_law_sign", "_law_word", "_law_bare"] : List Str); decide +kernel) rfl (Or.inl (lookup_relabel_local rfl)) (Or.inr (lookup_relabel_local rfl)))) (fun cl C s₂ H₂ fp => pif_nil) (fun cl C s₂ H₂ fp => (pe_cmpR op_in_str (pv 0) pe_str rfl)) (by decide +kernel) rfl (by decide +kernel) (by show ∀ y ∈ (_ : List (Str × NameKind)), y.2 = NameKind.free → (defScope s__law_figure).names.lookup y.1 = some .cell; decide +kernel)) pa_nil))))))) (pss_one (ps_ret pe_non)) pss_nil)
      (pss_cons (ps_if (PW.pt (pw_and (pt_cmpR op_eq (pe_ix ix_str (pv 1) pe_int (fun _ _ => rfl)) pe_str (nomark _)) (pw_and1 (pt_cmpR op_ne (pv 0) pe_str (nomark _))))) (pss_one (ps_ret pe_non)) pss_nil)
      (pss_one (ps_ret (pe_callTy call_int_text (by rfl) M.int boot_int (pa_Name (pv 0) pa_nil))))))), ?_⟩
    exact fig_reads (K := K) wl k
abbrev s__law_figures : Stmt := top 36
theorem sc__law_figures : FnScope ["_law_text", "_law_found"] ["_law_text"] (defScope s__law_figures) := ⟨rfl, rfl, rfl, by decide +kernel, rfl, by decide +kernel, by decide +kernel⟩
set_option maxHeartbeats 4000000 in
theorem ok_figures {f : Addr} {fd : FuncData} (F : Fun K "_law_figures" "_law_figures" s__law_figures f fd) (M : Txt mg) (G_law_figure : Kn P w K mg base "_law_figure" 1 ["_law_word"] spFig) : FnOk P w K mg base CX0 2 f fd ["_law_text"] spFigsX := by
  have sc := sc__law_figures
  refine F.ok sc (fun vs H Q E h => ?_) (fun cdv A outer s H vs Q E hr h => ?_)
  · obtain ⟨t, rfl, _⟩ := h
    rfl
  · obtain ⟨t, rfl, tl, k1, k2⟩ := h
    refine ⟨_, (pss_cons (ps_compG (xs := ["_law_word"]) (Nb := ["_law_text", "_law_found"]) (pg_name (i := 1) sc.nd rfl (Or.inl rfl)) rfl rfl (pi_list (pe_bm PySem.F.plainAttrs_str PySem.F.slot_str_split PySem.F.type_str_split mt_split (pv 0) (pa_Constant pe_str pa_nil))) rfl (by show ∀ p ∈ (List.zip ["_law_text", "_law_found"] ["_law_text", "_law_found"] : List (Str × Str)), _; decide +kernel) (by decide +kernel) (fun cl C s₂ H₂ fp => (pg_name (i := 0) (by show List.Nodup (["_law_word", "_law_text", "_law_found"] : List Str); decide +kernel) rfl (Or.inl (lookup_relabel_local rfl)) (Or.inr (lookup_relabel_local rfl)))) (fun cl C s₂ H₂ fp => pif_nil) (fun cl C s₂ H₂ fp => (pe_callD G_law_figure hr rfl (pa_Name (pv 0) pa_nil))) (by decide +kernel) rfl (by decide +kernel) (by show ∀ y ∈ (_ : List (Str × NameKind)), y.2 = NameKind.free → (defScope s__law_figures).names.lookup y.1 = some .cell; decide +kernel))
      (pss_cons (ps_if (pt_cmpR (op_inK (K := K)) pe_non (pv 1) rfl) (pss_one (ps_ret pe_non)) pss_nil)
      (pss_one (ps_ret (pv 1))))), ?_⟩
    exact figs_reads (K := K) tl k1 k2
abbrev s__law_signs : Stmt := top 37
theorem sc__law_signs : FnScope ["_law_some"] [] (defScope s__law_signs) := ⟨rfl, rfl, rfl, by decide +kernel, rfl, by decide +kernel, by decide +kernel⟩
set_option maxHeartbeats 4000000 in
theorem ok_signs {f : Addr} {fd : FuncData} (F : Fun K "_law_signs" "_law_signs" s__law_signs f fd) (M : Txt mg) : FnOk P w K mg base CX0 1 f fd [] spSgn := by
  have sc := sc__law_signs
  refine F.ok sc (fun vs H Q E h => ?_) (fun cdv A outer s H vs Q E hr h => ?_)
  · obtain ⟨rfl, _⟩ := h
    rfl
  · obtain ⟨rfl, k⟩ := h
    refine ⟨_, (pss_cons (ps_set (i := 0) sc.nd rfl (Or.inl rfl) pe_str)
      (pss_one (ps_ret (pe_op op_add_str (pv 0) pe_str)))), ?_⟩
    exact sgn_reads (K := K) k
end
end Toy
set_option Elab.async false
set_option linter.all false
set_option maxRecDepth 100000
set_option maxHeartbeats 1000000
namespace Toy
open PySem L2 PyProof.Rows
section
variable {P : Program} {w : World} {K : PySem.W.Frag} {mg : Str → Option Value} {base : Heap} {c_CordError c_NoCord c_NoDeed c_NoName c_NoRow c_NoSheet c_NoText c_NoTurn c_TooMany : Addr}
abbrev s__law_spoilt : Stmt := top 38
theorem sc__law_spoilt : FnScope ["_law_draw", "_law_text", "_law_spot", "_law_sign", "_law_way", "_law_words", "_law_odd"] ["_law_draw", "_law_text"] (defScope s__law_spoilt) := ⟨rfl, rfl, rfl, by decide +kernel, rfl, by decide +kernel, by decide +kernel⟩
set_option maxHeartbeats 16000000 in
theorem ok_spoilt {f : Addr} {fd : FuncData} (F : Fun K "_law_spoilt" "_law_spoilt" s__law_spoilt f fd) (M : Txt mg) (G_law_take : Kn P w K mg base "_law_take" 1 ["_law_draw", "_law_many"] spTake) (G_law_signs : Kn P w K mg base "_law_signs" 1 [] spSgn) : FnOk P w K mg base CX0 2 f fd ["_law_draw", "_law_text"] spSplt := by
  have sc := sc__law_spoilt
  refine F.ok sc (fun vs H Q E h => ?_) (fun cdv A outer s H vs Q E hr h => ?_)
  · obtain ⟨d, t, rfl, _⟩ := h
    rfl
  · obtain ⟨d, t, rfl, hP, tl, k⟩ := h
    refine ⟨_, (pss_cons (ps_set (i := 2) sc.nd rfl (Or.inl rfl) (pe_callD G_law_take hr rfl (pa_Name (pv 0) (pa_BinOp (pe_op op_add (pe_callB call_len_str (by rfl) M.len PySem.boot_len (pa_Name (pv 1) pa_nil)) pe_int) pa_nil))))
      (pss_cons (ps_set (i := 3) sc.nd rfl (Or.inl rfl) (pe_ix (ix_listK (K := K)) (pe_lst (pa_o2 (pe_ix ix_str pe_str (pe_callD G_law_take hr rfl (pa_Name (pv 0) (pa_Constant pe_int pa_nil))) (fun _ _ => rfl)) (pe_ix ix_str (pe_callD0 G_law_signs hr rfl) (pe_callD G_law_take hr rfl (pa_Name (pv 0) (pa_Constant pe_int pa_nil))) (fun _ _ => rfl)) pa_nil)) (pe_callD G_law_take hr rfl (pa_Name (pv 0) (pa_Constant pe_int pa_nil))) (fun _ _ => rfl)) sw_sub)
      (pss_cons (ps_set (i := 4) sc.nd rfl (Or.inl rfl) (pe_callD G_law_take hr rfl (pa_Name (pv 0) (pa_Constant pe_int pa_nil))))
      (pss_cons (ps_if (pt_cmpR op_lt (pv 4) pe_int (nomark _)) (pss_one (ps_ret (pe_op op_add_str (pe_op op_add_str (pe_slice sl_str (pv 1) po_none (po_some (pv 2))) (pe_op op_mul_str (pv 3) (pe_callTy call_int1 (by rfl) M.int boot_int (pa_cons (pe_cmpR op_lt (pv 4) pe_int (nomark _)) pa_nil)))) (pe_slice sl_str (pv 1) (po_some (pe_op op_add (pv 2) pe_int)) po_none)))) pss_nil)
      (pss_cons (ps_if (pt_cmpR op_eq (pv 4) pe_int (nomark _)) (pss_one (ps_ret (pe_op op_add_str (pe_op op_add_str (pe_slice sl_str (pv 1) po_none (po_some (pv 2))) (pv 3)) (pe_slice sl_str (pv 1) (po_some (pv 2)) po_none)))) pss_nil)
      (pss_cons (ps_set (i := 5) sc.nd rfl (Or.inl rfl) (pe_bm PySem.F.plainAttrs_str PySem.F.slot_str_split PySem.F.type_str_split mt_split (pv 1) (pa_Constant pe_str pa_nil)))
      (pss_cons (ps_set (i := 2) sc.nd rfl (Or.inl rfl) (pe_callD G_law_take hr rfl (pa_Name (pv 0) (pa_Call (pe_callB (call_lenK (K := K)) (by rfl) M.len PySem.boot_len (pa_Name (pv 5) pa_nil)) pa_nil))))
      (pss_cons (ps_if (pt_cmpR op_eq (pv 4) pe_int (nomark _)) (pss_one (ps_asg (pe_callTy call_str_int (by rfl) M.str boot_str (pa_BinOp (pe_op op_sub (pe_callD G_law_take hr rfl (pa_Name (pv 0) (pa_Constant pe_int pa_nil))) pe_int) pa_nil)) (pg_sub (pv 5) (pv 2) set_list))) pss_nil)
      (pss_cons (ps_if (pt_cmpR op_eq (pv 4) pe_int (nomark _)) (pss_cons (ps_set (i := 6) sc.nd rfl (Or.inl rfl) (pe_lst (pa_o4 pe_str pe_str (pe_op op_add_str pe_str (pe_ix (ix_listK (K := K)) (pv 5) (pv 2) (fun _ _ => rfl))) (pe_op op_add_str pe_str (pe_ix (ix_listK (K := K)) (pv 5) (pv 2) (fun _ _ => rfl))) (pa_o4 (pe_op op_mul_str pe_str pe_int) (pe_op op_mul_str pe_str pe_int) pe_str pe_str pa_nil))))
      (pss_one (ps_asg (pe_ix (ix_listK (K := K)) (pv 6) (pe_callD G_law_take hr rfl (pa_Name (pv 0) (pa_Constant pe_int pa_nil))) (fun _ _ => rfl)) (pg_sub (pv 5) (pv 2) set_list)))) pss_nil)
      (pss_cons (ps_if (pt_cmpR op_eq (pv 4) pe_int (nomark _)) (pss_one (ps_set (i := 5) sc.nd rfl (Or.inl rfl) (pe_op op_cat (pe_slice sl_list (pv 5) po_none (po_some (pv 2))) (pe_slice sl_list (pv 5) (po_some (pe_op op_add (pv 2) pe_int)) po_none)))) pss_nil)
      (pss_cons (ps_if (pt_cmpR op_eq (pv 4) pe_int (nomark _)) (pss_one (ps_set (i := 5) sc.nd rfl (Or.inl rfl) (pe_op op_cat (pe_op op_cat (pe_slice sl_list (pv 5) po_none (po_some (pv 2))) (pe_slice sl_list (pv 5) (po_some (pv 2)) (po_some (pe_op op_add (pv 2) pe_int)))) (pe_slice sl_list (pv 5) (po_some (pv 2)) po_none)))) pss_nil)
      (pss_cons (ps_if (pt_cmpR op_eq (pv 4) pe_int (nomark _)) (pss_one (ps_ret (pe_ix (ix_listK (K := K)) (pe_lst (pa_o4 pe_str pe_str pe_str pe_str (pa_o4 pe_str pe_str pe_str pe_str pa_nil))) (pe_callD G_law_take hr rfl (pa_Name (pv 0) (pa_Constant pe_int pa_nil))) (fun _ _ => rfl)))) pss_nil)
      (pss_one (ps_ret (pe_bm PySem.F.plainAttrs_str PySem.F.slot_str_join PySem.F.type_str_join mt_join pe_str (pa_Name (pv 5) pa_nil)))))))))))))))), ?_⟩
    exact splt_reads (K := K) hP tl k
end
end Toy
set_option Elab.async false
set_option linter.all false
set_option maxRecDepth 100000
set_option maxHeartbeats 1000000
namespace Toy
open PySem L2 PyProof.Rows
section
variable {P : Program} {w : World} {K : PySem.W.Frag} {mg : Str → Option Value} {base : Heap}
def spLaw (K : PySem.W.Frag) : Sp := fun vs H Q _ => ∃ (a : Addr) (ns : List Int), vs = [.ref a] ∧ SqL K H a (ns.map V.int) ∧ ns.length ≤ 63 ∧ ∀ H', Q (.bl true) H'
abbrev s_law : Stmt := top 41
theorem sc_law : FnScope ["_law_script", "_law_k", "_law_draw", "_law_text", "_law_turn", "_law_bent"] ["_law_script"] (defScope s_law) := ⟨rfl, rfl, rfl, by decide +kernel, rfl, by decide +kernel, by decide +kernel⟩
set_option maxHeartbeats 8000000 in
theorem ok_law {f : Addr} {fd : FuncData} (F : Fun K "law" "law" s_law f fd) (M : Txt mg) (G_law_purse : Kn P w K mg base "_law_purse" 2 ["_law_script", "_law_at"] (spPurse K)) (G_law_sheet : Kn P w K mg base "_law_sheet" 2 ["_law_draw"] spLShX) (G_law_sheet_written : Kn P w K mg base "_law_sheet_written" 2 ["_law_sheet_here"] spSWritX) (G_law_read : Kn P w K mg base "_law_read" 6 ["_law_text"] spLReadX) (G_law_due : Kn P w K mg base "_law_due" 3 ["_law_text"] spDueX) (G_law_spoilt : Kn P w K mg base "_law_spoilt" 2 ["_law_draw", "_law_text"] spSplt) : FnOk P w K mg base CX0 7 f fd ["_law_script"] (spLaw K) := by
  have sc := sc_law
  refine F.ok sc (fun vs H Q E h => ?_) (fun cdv A outer s H vs Q E hr h => ?_)
  · obtain ⟨a, ns, rfl, _⟩ := h
    rfl
  · obtain ⟨a, ns, rfl, hS, hl, k⟩ := h
    refine ⟨_, (pss_cons (ps_for PassesOwn.never rfl (pi_range1 rfl M.range (pa_BinOp (pe_op op_add pe_int (pe_callB (call_min2 rfl) (by rfl) M.min boot_min (pa_Constant pe_int (pa_Call (pe_callB (call_lenK (K := K)) (by rfl) M.len PySem.boot_len (pa_Name (pv 0) pa_nil)) pa_nil)))) pa_nil)) (pg_name (i := 1) sc.nd rfl (Or.inl rfl))
      (pss_cons (ps_set (i := 2) sc.nd rfl (Or.inl rfl) (pe_callD G_law_purse hr rfl (pa_Name (pv 0) (pa_Name (pv 1) pa_nil))))
      (pss_cons (ps_set (i := 3) sc.nd rfl (Or.inl rfl) (pe_callD G_law_sheet_written hr rfl (pa_Call (pe_callD G_law_sheet hr rfl (pa_Name (pv 2) pa_nil)) pa_nil)))
      (pss_cons (ps_if (pt_cmpR (op_neD hr) (pe_callD G_law_read hr rfl (pa_Name (pv 3) pa_nil)) (pe_callD G_law_due hr rfl (pa_Name (pv 3) pa_nil)) (nomark _)) (pss_one (ps_ret pe_bl)) pss_nil)
      (pss_one (ps_for PassesOwn.never rfl (pi_range1 rfl M.range (pa_Constant pe_int pa_nil)) (pg_name (i := 4) sc.nd rfl (Or.inl rfl))
      (pss_cons (ps_set (i := 5) sc.nd rfl (Or.inl rfl) (pe_callD G_law_spoilt hr rfl (pa_Name (pv 2) (pa_Name (pv 3) pa_nil))))
      (pss_one (ps_if (pt_cmpR (op_neD hr) (pe_callD G_law_read hr rfl (pa_Name (pv 5) pa_nil)) (pe_callD G_law_due hr rfl (pa_Name (pv 5) pa_nil)) (nomark _)) (pss_one (ps_ret pe_bl)) pss_nil)))))))))
      (pss_one (ps_ret pe_bl))), ?_⟩
    exact law82_reads (K := K) hS k
end
theorem all_mk {l : PySem.W.OpenLaw} {w : World} {K : PySem.W.Frag} {h : Heap} {mg : Str → Option Value} {fa f0 f1 f2 f3 f4 f5 f6 f7 f8 f9 f10 f11 f12 f13 f14 f15 f16 f17 f18 f19 f20 f21 f22 f23 : Addr} {c_CordError c_NoCord c_NoDeed c_NoName c_NoRow c_NoSheet c_NoText c_NoTurn c_TooMany : Addr} {tg_MOST_TRIANGLES tg_FIGURES tg_MOST_FIGURES tg_BETWEEN_TRIANGLES : Tok} (X : K.In h) (G : h.Ns mainGlobals mg) (hfa : mg "law" = some (.ref fa))
    {od0 an0 od1 an1 od2 an2 od3 an3 od4 an4 od5 an5 od6 an6 od7 an7 od8 an8 od9 an9 od10 an10 od11 an11 od12 an12 od13 an13 od14 an14 od15 an15 od16 an16 od17 an17 od18 an18 od19 an19 od20 an20 od21 an21 od22 an22 od23 an23 : Option Addr} {sl0 sl1 sl2 sl3 sl4 sl5 sl6 sl7 sl8 sl9 sl10 sl11 sl12 sl13 sl14 sl15 sl16 sl17 sl18 sl19 sl20 sl21 sl22 sl23 : Array (Option Value)} {oc0 kV0 dc0 pm0 cd0 ct0 oc1 kV1 dc1 pm1 cd1 ct1 oc2 kV2 dc2 pm2 cd2 ct2 oc3 kV3 dc3 pm3 cd3 ct3 oc4 kV4 dc4 pm4 cd4 ct4 oc5 kV5 dc5 pm5 cd5 ct5 oc6 kV6 dc6 pm6 cd6 ct6 oc7 kV7 dc7 pm7 cd7 ct7 oc8 kV8 dc8 pm8 cd8 ct8 oc9 kV9 dc9 pm9 cd9 ct9 oc10 kV10 dc10 pm10 cd10 ct10 oc11 kV11 dc11 pm11 cd11 ct11 oc12 kV12 dc12 pm12 cd12 ct12 oc13 kV13 dc13 pm13 cd13 ct13 oc14 kV14 dc14 pm14 cd14 ct14 oc15 kV15 dc15 pm15 cd15 ct15 oc16 kV16 dc16 pm16 cd16 ct16 oc17 kV17 dc17 pm17 cd17 ct17 oc18 kV18 dc18 pm18 cd18 ct18 oc19 kV19 dc19 pm19 cd19 ct19 oc20 kV20 dc20 pm20 cd20 ct20 oc21 kV21 dc21 pm21 cd21 ct21 oc22 kV22 dc22 pm22 cd22 ct22 oc23 kV23 dc23 pm23 cd23 ct23 : Value}
    (a0 : PySem.W.nsIn K mainGlobals "is_whole" = some (some (.ref f0))) (l0 : K.lookup f0 = some ⟨oc0, od0, .func (PySem.W.fnOf "is_whole" "is_whole" (defArgs s_is_whole) (defBody s_is_whole) (defScope s_is_whole) .none kV0 dc0 pm0 an0 cd0 ct0), sl0⟩) (c0 : PySem.W.codeIn K cd0 "is_whole" = true) (k0 : PySem.W.keepIn K (.ref f0) = true)
    (a1 : PySem.W.nsIn K mainGlobals "is_triangle" = some (some (.ref f1))) (l1 : K.lookup f1 = some ⟨oc1, od1, .func (PySem.W.fnOf "is_triangle" "is_triangle" (defArgs s_is_triangle) (defBody s_is_triangle) (defScope s_is_triangle) .none kV1 dc1 pm1 an1 cd1 ct1), sl1⟩) (c1 : PySem.W.codeIn K cd1 "is_triangle" = true) (k1 : PySem.W.keepIn K (.ref f1) = true)
    (a2 : PySem.W.nsIn K mainGlobals "many_ties" = some (some (.ref f2))) (l2 : K.lookup f2 = some ⟨oc2, od2, .func (PySem.W.fnOf "many_ties" "many_ties" (defArgs s_many_ties) (defBody s_many_ties) (defScope s_many_ties) .none kV2 dc2 pm2 an2 cd2 ct2), sl2⟩) (c2 : PySem.W.codeIn K cd2 "many_ties" = true) (k2 : PySem.W.keepIn K (.ref f2) = true)
    (a3 : PySem.W.nsIn K mainGlobals "is_sheet" = some (some (.ref f3))) (l3 : K.lookup f3 = some ⟨oc3, od3, .func (PySem.W.fnOf "is_sheet" "is_sheet" (defArgs s_is_sheet) (defBody s_is_sheet) (defScope s_is_sheet) .none kV3 dc3 pm3 an3 cd3 ct3), sl3⟩) (c3 : PySem.W.codeIn K cd3 "is_sheet" = true) (k3 : PySem.W.keepIn K (.ref f3) = true)
    (a4 : PySem.W.nsIn K mainGlobals "is_number" = some (some (.ref f4))) (l4 : K.lookup f4 = some ⟨oc4, od4, .func (PySem.W.fnOf "is_number" "is_number" (defArgs s_is_number) (defBody s_is_number) (defScope s_is_number) .none kV4 dc4 pm4 an4 cd4 ct4), sl4⟩) (c4 : PySem.W.codeIn K cd4 "is_number" = true) (k4 : PySem.W.keepIn K (.ref f4) = true)
    (a5 : PySem.W.nsIn K mainGlobals "parts_of" = some (some (.ref f5))) (l5 : K.lookup f5 = some ⟨oc5, od5, .func (PySem.W.fnOf "parts_of" "parts_of" (defArgs s_parts_of) (defBody s_parts_of) (defScope s_parts_of) .none kV5 dc5 pm5 an5 cd5 ct5), sl5⟩) (c5 : PySem.W.codeIn K cd5 "parts_of" = true) (k5 : PySem.W.keepIn K (.ref f5) = true)
    (a6 : PySem.W.nsIn K mainGlobals "numbers_of" = some (some (.ref f6))) (l6 : K.lookup f6 = some ⟨oc6, od6, .func (PySem.W.fnOf "numbers_of" "numbers_of" (defArgs s_numbers_of) (defBody s_numbers_of) (defScope s_numbers_of) .none kV6 dc6 pm6 an6 cd6 ct6), sl6⟩) (c6 : PySem.W.codeIn K cd6 "numbers_of" = true) (k6 : PySem.W.keepIn K (.ref f6) = true)
    (a7 : PySem.W.nsIn K mainGlobals "triangles_of" = some (some (.ref f7))) (l7 : K.lookup f7 = some ⟨oc7, od7, .func (PySem.W.fnOf "triangles_of" "triangles_of" (defArgs s_triangles_of) (defBody s_triangles_of) (defScope s_triangles_of) .none kV7 dc7 pm7 an7 cd7 ct7), sl7⟩) (c7 : PySem.W.codeIn K cd7 "triangles_of" = true) (k7 : PySem.W.keepIn K (.ref f7) = true)
    (a8 : PySem.W.nsIn K mainGlobals "sheet_of" = some (some (.ref f8))) (l8 : K.lookup f8 = some ⟨oc8, od8, .func (PySem.W.fnOf "sheet_of" "sheet_of" (defArgs s_sheet_of) (defBody s_sheet_of) (defScope s_sheet_of) .none kV8 dc8 pm8 an8 cd8 ct8), sl8⟩) (c8 : PySem.W.codeIn K cd8 "sheet_of" = true) (k8 : PySem.W.keepIn K (.ref f8) = true)
    (a9 : PySem.W.nsIn K mainGlobals "read_sheet" = some (some (.ref f9))) (l9 : K.lookup f9 = some ⟨oc9, od9, .func (PySem.W.fnOf "read_sheet" "read_sheet" (defArgs s_read_sheet) (defBody s_read_sheet) (defScope s_read_sheet) .none kV9 dc9 pm9 an9 cd9 ct9), sl9⟩) (c9 : PySem.W.codeIn K cd9 "read_sheet" = true) (k9 : PySem.W.keepIn K (.ref f9) = true)
    (a10 : PySem.W.nsIn K mainGlobals "_law_cell_at" = some (some (.ref f10))) (l10 : K.lookup f10 = some ⟨oc10, od10, .func (PySem.W.fnOf "_law_cell_at" "_law_cell_at" (defArgs s__law_cell_at) (defBody s__law_cell_at) (defScope s__law_cell_at) .none kV10 dc10 pm10 an10 cd10 ct10), sl10⟩) (c10 : PySem.W.codeIn K cd10 "_law_cell_at" = true) (k10 : PySem.W.keepIn K (.ref f10) = true)
    (a11 : PySem.W.nsIn K mainGlobals "_law_purse" = some (some (.ref f11))) (l11 : K.lookup f11 = some ⟨oc11, od11, .func (PySem.W.fnOf "_law_purse" "_law_purse" (defArgs s__law_purse) (defBody s__law_purse) (defScope s__law_purse) .none kV11 dc11 pm11 an11 cd11 ct11), sl11⟩) (c11 : PySem.W.codeIn K cd11 "_law_purse" = true) (k11 : PySem.W.keepIn K (.ref f11) = true)
    (a12 : PySem.W.nsIn K mainGlobals "_law_take" = some (some (.ref f12))) (l12 : K.lookup f12 = some ⟨oc12, od12, .func (PySem.W.fnOf "_law_take" "_law_take" (defArgs s__law_take) (defBody s__law_take) (defScope s__law_take) .none kV12 dc12 pm12 an12 cd12 ct12), sl12⟩) (c12 : PySem.W.codeIn K cd12 "_law_take" = true) (k12 : PySem.W.keepIn K (.ref f12) = true)
    (a13 : PySem.W.nsIn K mainGlobals "_law_sheet" = some (some (.ref f13))) (l13 : K.lookup f13 = some ⟨oc13, od13, .func (PySem.W.fnOf "_law_sheet" "_law_sheet" (defArgs s__law_sheet) (defBody s__law_sheet) (defScope s__law_sheet) .none kV13 dc13 pm13 an13 cd13 ct13), sl13⟩) (c13 : PySem.W.codeIn K cd13 "_law_sheet" = true) (k13 : PySem.W.keepIn K (.ref f13) = true)
    (a14 : PySem.W.nsIn K mainGlobals "_law_written" = some (some (.ref f14))) (l14 : K.lookup f14 = some ⟨oc14, od14, .func (PySem.W.fnOf "_law_written" "_law_written" (defArgs s__law_written) (defBody s__law_written) (defScope s__law_written) .none kV14 dc14 pm14 an14 cd14 ct14), sl14⟩) (c14 : PySem.W.codeIn K cd14 "_law_written" = true) (k14 : PySem.W.keepIn K (.ref f14) = true)
    (a15 : PySem.W.nsIn K mainGlobals "_law_sheet_written" = some (some (.ref f15))) (l15 : K.lookup f15 = some ⟨oc15, od15, .func (PySem.W.fnOf "_law_sheet_written" "_law_sheet_written" (defArgs s__law_sheet_written) (defBody s__law_sheet_written) (defScope s__law_sheet_written) .none kV15 dc15 pm15 an15 cd15 ct15), sl15⟩) (c15 : PySem.W.codeIn K cd15 "_law_sheet_written" = true) (k15 : PySem.W.keepIn K (.ref f15) = true)
    (a16 : PySem.W.nsIn K mainGlobals "_law_is_sheet" = some (some (.ref f16))) (l16 : K.lookup f16 = some ⟨oc16, od16, .func (PySem.W.fnOf "_law_is_sheet" "_law_is_sheet" (defArgs s__law_is_sheet) (defBody s__law_is_sheet) (defScope s__law_is_sheet) .none kV16 dc16 pm16 an16 cd16 ct16), sl16⟩) (c16 : PySem.W.codeIn K cd16 "_law_is_sheet" = true) (k16 : PySem.W.keepIn K (.ref f16) = true)
    (a17 : PySem.W.nsIn K mainGlobals "_law_figure" = some (some (.ref f17))) (l17 : K.lookup f17 = some ⟨oc17, od17, .func (PySem.W.fnOf "_law_figure" "_law_figure" (defArgs s__law_figure) (defBody s__law_figure) (defScope s__law_figure) .none kV17 dc17 pm17 an17 cd17 ct17), sl17⟩) (c17 : PySem.W.codeIn K cd17 "_law_figure" = true) (k17 : PySem.W.keepIn K (.ref f17) = true)
    (a18 : PySem.W.nsIn K mainGlobals "_law_figures" = some (some (.ref f18))) (l18 : K.lookup f18 = some ⟨oc18, od18, .func (PySem.W.fnOf "_law_figures" "_law_figures" (defArgs s__law_figures) (defBody s__law_figures) (defScope s__law_figures) .none kV18 dc18 pm18 an18 cd18 ct18), sl18⟩) (c18 : PySem.W.codeIn K cd18 "_law_figures" = true) (k18 : PySem.W.keepIn K (.ref f18) = true)
    (a19 : PySem.W.nsIn K mainGlobals "_law_signs" = some (some (.ref f19))) (l19 : K.lookup f19 = some ⟨oc19, od19, .func (PySem.W.fnOf "_law_signs" "_law_signs" (defArgs s__law_signs) (defBody s__law_signs) (defScope s__law_signs) .none kV19 dc19 pm19 an19 cd19 ct19), sl19⟩) (c19 : PySem.W.codeIn K cd19 "_law_signs" = true) (k19 : PySem.W.keepIn K (.ref f19) = true)
    (a20 : PySem.W.nsIn K mainGlobals "_law_spoilt" = some (some (.ref f20))) (l20 : K.lookup f20 = some ⟨oc20, od20, .func (PySem.W.fnOf "_law_spoilt" "_law_spoilt" (defArgs s__law_spoilt) (defBody s__law_spoilt) (defScope s__law_spoilt) .none kV20 dc20 pm20 an20 cd20 ct20), sl20⟩) (c20 : PySem.W.codeIn K cd20 "_law_spoilt" = true) (k20 : PySem.W.keepIn K (.ref f20) = true)
    (a21 : PySem.W.nsIn K mainGlobals "_law_due" = some (some (.ref f21))) (l21 : K.lookup f21 = some ⟨oc21, od21, .func (PySem.W.fnOf "_law_due" "_law_due" (defArgs s__law_due) (defBody s__law_due) (defScope s__law_due) .none kV21 dc21 pm21 an21 cd21 ct21), sl21⟩) (c21 : PySem.W.codeIn K cd21 "_law_due" = true) (k21 : PySem.W.keepIn K (.ref f21) = true)
    (a22 : PySem.W.nsIn K mainGlobals "_law_read" = some (some (.ref f22))) (l22 : K.lookup f22 = some ⟨oc22, od22, .func (PySem.W.fnOf "_law_read" "_law_read" (defArgs s__law_read) (defBody s__law_read) (defScope s__law_read) .none kV22 dc22 pm22 an22 cd22 ct22), sl22⟩) (c22 : PySem.W.codeIn K cd22 "_law_read" = true) (k22 : PySem.W.keepIn K (.ref f22) = true)
    (a23 : PySem.W.nsIn K mainGlobals "law" = some (some (.ref f23))) (l23 : K.lookup f23 = some ⟨oc23, od23, .func (PySem.W.fnOf "law" "law" (defArgs s_law) (defBody s_law) (defScope s_law) .none kV23 dc23 pm23 an23 cd23 ct23), sl23⟩) (c23 : PySem.W.codeIn K cd23 "law" = true) (k23 : PySem.W.keepIn K (.ref f23) = true)
    (n_CordError : PySem.W.nsIn K mainGlobals "CordError" = some (some (.ref c_CordError)))
    (xa_CordError : PySem.W.findIn K (.ref c_CordError) "__getattribute__" = some (some (.builtin "BaseException.__getattribute__"))) (xb_CordError : PySem.W.findIn K (.ref c_CordError) "__getattr__" = some none) (xc_CordError : PySem.W.findIn K (.ref c_CordError) "__class__" = some (some (.builtin "object.__class__"))) (xd_CordError : PySem.W.subIn K (.ref c_CordError) (.type "BaseException") = some true) (xe_CordError : PySem.W.subIn K (.ref c_CordError) (.type "object") = some true) (xf_CordError : PySem.W.typeIn K (.ref c_CordError) = some (.type "type")) (xg_CordError : PySem.W.isClsIn K c_CordError = true) (xh_CordError : PySem.W.subIn K (.ref c_CordError) (.ref c_CordError) = some true)
    (n_NoCord : PySem.W.nsIn K mainGlobals "NoCord" = some (some (.ref c_NoCord)))
    (xa_NoCord : PySem.W.findIn K (.ref c_NoCord) "__getattribute__" = some (some (.builtin "BaseException.__getattribute__"))) (xb_NoCord : PySem.W.findIn K (.ref c_NoCord) "__getattr__" = some none) (xc_NoCord : PySem.W.findIn K (.ref c_NoCord) "__class__" = some (some (.builtin "object.__class__"))) (xd_NoCord : PySem.W.subIn K (.ref c_NoCord) (.type "BaseException") = some true) (xe_NoCord : PySem.W.subIn K (.ref c_NoCord) (.type "object") = some true) (xf_NoCord : PySem.W.typeIn K (.ref c_NoCord) = some (.type "type")) (xg_NoCord : PySem.W.isClsIn K c_NoCord = true) (xh_NoCord : PySem.W.subIn K (.ref c_NoCord) (.ref c_NoCord) = some true)
    (n_NoDeed : PySem.W.nsIn K mainGlobals "NoDeed" = some (some (.ref c_NoDeed)))
    (xa_NoDeed : PySem.W.findIn K (.ref c_NoDeed) "__getattribute__" = some (some (.builtin "BaseException.__getattribute__"))) (xb_NoDeed : PySem.W.findIn K (.ref c_NoDeed) "__getattr__" = some none) (xc_NoDeed : PySem.W.findIn K (.ref c_NoDeed) "__class__" = some (some (.builtin "object.__class__"))) (xd_NoDeed : PySem.W.subIn K (.ref c_NoDeed) (.type "BaseException") = some true) (xe_NoDeed : PySem.W.subIn K (.ref c_NoDeed) (.type "object") = some true) (xf_NoDeed : PySem.W.typeIn K (.ref c_NoDeed) = some (.type "type")) (xg_NoDeed : PySem.W.isClsIn K c_NoDeed = true) (xh_NoDeed : PySem.W.subIn K (.ref c_NoDeed) (.ref c_NoDeed) = some true)
    (n_NoName : PySem.W.nsIn K mainGlobals "NoName" = some (some (.ref c_NoName)))
    (xa_NoName : PySem.W.findIn K (.ref c_NoName) "__getattribute__" = some (some (.builtin "BaseException.__getattribute__"))) (xb_NoName : PySem.W.findIn K (.ref c_NoName) "__getattr__" = some none) (xc_NoName : PySem.W.findIn K (.ref c_NoName) "__class__" = some (some (.builtin "object.__class__"))) (xd_NoName : PySem.W.subIn K (.ref c_NoName) (.type "BaseException") = some true) (xe_NoName : PySem.W.subIn K (.ref c_NoName) (.type "object") = some true) (xf_NoName : PySem.W.typeIn K (.ref c_NoName) = some (.type "type")) (xg_NoName : PySem.W.isClsIn K c_NoName = true) (xh_NoName : PySem.W.subIn K (.ref c_NoName) (.ref c_NoName) = some true)
    (n_NoRow : PySem.W.nsIn K mainGlobals "NoRow" = some (some (.ref c_NoRow)))
    (xa_NoRow : PySem.W.findIn K (.ref c_NoRow) "__getattribute__" = some (some (.builtin "BaseException.__getattribute__"))) (xb_NoRow : PySem.W.findIn K (.ref c_NoRow) "__getattr__" = some none) (xc_NoRow : PySem.W.findIn K (.ref c_NoRow) "__class__" = some (some (.builtin "object.__class__"))) (xd_NoRow : PySem.W.subIn K (.ref c_NoRow) (.type "BaseException") = some true) (xe_NoRow : PySem.W.subIn K (.ref c_NoRow) (.type "object") = some true) (xf_NoRow : PySem.W.typeIn K (.ref c_NoRow) = some (.type "type")) (xg_NoRow : PySem.W.isClsIn K c_NoRow = true) (xh_NoRow : PySem.W.subIn K (.ref c_NoRow) (.ref c_NoRow) = some true)
    (n_NoSheet : PySem.W.nsIn K mainGlobals "NoSheet" = some (some (.ref c_NoSheet)))
    (xa_NoSheet : PySem.W.findIn K (.ref c_NoSheet) "__getattribute__" = some (some (.builtin "BaseException.__getattribute__"))) (xb_NoSheet : PySem.W.findIn K (.ref c_NoSheet) "__getattr__" = some none) (xc_NoSheet : PySem.W.findIn K (.ref c_NoSheet) "__class__" = some (some (.builtin "object.__class__"))) (xd_NoSheet : PySem.W.subIn K (.ref c_NoSheet) (.type "BaseException") = some true) (xe_NoSheet : PySem.W.subIn K (.ref c_NoSheet) (.type "object") = some true) (xf_NoSheet : PySem.W.typeIn K (.ref c_NoSheet) = some (.type "type")) (xg_NoSheet : PySem.W.isClsIn K c_NoSheet = true) (xh_NoSheet : PySem.W.subIn K (.ref c_NoSheet) (.ref c_NoSheet) = some true)
    (n_NoText : PySem.W.nsIn K mainGlobals "NoText" = some (some (.ref c_NoText)))
    (xa_NoText : PySem.W.findIn K (.ref c_NoText) "__getattribute__" = some (some (.builtin "BaseException.__getattribute__"))) (xb_NoText : PySem.W.findIn K (.ref c_NoText) "__getattr__" = some none) (xc_NoText : PySem.W.findIn K (.ref c_NoText) "__class__" = some (some (.builtin "object.__class__"))) (xd_NoText : PySem.W.subIn K (.ref c_NoText) (.type "BaseException") = some true) (xe_NoText : PySem.W.subIn K (.ref c_NoText) (.type "object") = some true) (xf_NoText : PySem.W.typeIn K (.ref c_NoText) = some (.type "type")) (xg_NoText : PySem.W.isClsIn K c_NoText = true) (xh_NoText : PySem.W.subIn K (.ref c_NoText) (.ref c_NoText) = some true)
    (n_NoTurn : PySem.W.nsIn K mainGlobals "NoTurn" = some (some (.ref c_NoTurn)))
    (xa_NoTurn : PySem.W.findIn K (.ref c_NoTurn) "__getattribute__" = some (some (.builtin "BaseException.__getattribute__"))) (xb_NoTurn : PySem.W.findIn K (.ref c_NoTurn) "__getattr__" = some none) (xc_NoTurn : PySem.W.findIn K (.ref c_NoTurn) "__class__" = some (some (.builtin "object.__class__"))) (xd_NoTurn : PySem.W.subIn K (.ref c_NoTurn) (.type "BaseException") = some true) (xe_NoTurn : PySem.W.subIn K (.ref c_NoTurn) (.type "object") = some true) (xf_NoTurn : PySem.W.typeIn K (.ref c_NoTurn) = some (.type "type")) (xg_NoTurn : PySem.W.isClsIn K c_NoTurn = true) (xh_NoTurn : PySem.W.subIn K (.ref c_NoTurn) (.ref c_NoTurn) = some true)
    (n_TooMany : PySem.W.nsIn K mainGlobals "TooMany" = some (some (.ref c_TooMany)))
    (xa_TooMany : PySem.W.findIn K (.ref c_TooMany) "__getattribute__" = some (some (.builtin "BaseException.__getattribute__"))) (xb_TooMany : PySem.W.findIn K (.ref c_TooMany) "__getattr__" = some none) (xc_TooMany : PySem.W.findIn K (.ref c_TooMany) "__class__" = some (some (.builtin "object.__class__"))) (xd_TooMany : PySem.W.subIn K (.ref c_TooMany) (.type "BaseException") = some true) (xe_TooMany : PySem.W.subIn K (.ref c_TooMany) (.type "object") = some true) (xf_TooMany : PySem.W.typeIn K (.ref c_TooMany) = some (.type "type")) (xg_TooMany : PySem.W.isClsIn K c_TooMany = true) (xh_TooMany : PySem.W.subIn K (.ref c_TooMany) (.ref c_TooMany) = some true)
    (e_NoText : PySem.W.excIn K c_NoText bmV "ValueError.__new__" = true) (v_NoText : PySem.W.subIn K (.ref c_NoText) (.type "ValueError") = some true)
    (s_NoText_CordError : PySem.W.subIn K (.ref c_NoText) (.ref c_CordError) = some true)
    (s_NoText_NoCord : PySem.W.subIn K (.ref c_NoText) (.ref c_NoCord) = some false)
    (s_NoText_NoDeed : PySem.W.subIn K (.ref c_NoText) (.ref c_NoDeed) = some false)
    (s_NoText_NoName : PySem.W.subIn K (.ref c_NoText) (.ref c_NoName) = some false)
    (s_NoText_NoRow : PySem.W.subIn K (.ref c_NoText) (.ref c_NoRow) = some false)
    (s_NoText_NoSheet : PySem.W.subIn K (.ref c_NoText) (.ref c_NoSheet) = some false)
    (s_NoText_NoText : PySem.W.subIn K (.ref c_NoText) (.ref c_NoText) = some true)
    (s_NoText_NoTurn : PySem.W.subIn K (.ref c_NoText) (.ref c_NoTurn) = some false)
    (s_NoText_TooMany : PySem.W.subIn K (.ref c_NoText) (.ref c_TooMany) = some false)
    (e_NoSheet : PySem.W.excIn K c_NoSheet bmV "ValueError.__new__" = true) (v_NoSheet : PySem.W.subIn K (.ref c_NoSheet) (.type "ValueError") = some true)
    (s_NoSheet_CordError : PySem.W.subIn K (.ref c_NoSheet) (.ref c_CordError) = some true)
    (s_NoSheet_NoCord : PySem.W.subIn K (.ref c_NoSheet) (.ref c_NoCord) = some false)
    (s_NoSheet_NoDeed : PySem.W.subIn K (.ref c_NoSheet) (.ref c_NoDeed) = some false)
    (s_NoSheet_NoName : PySem.W.subIn K (.ref c_NoSheet) (.ref c_NoName) = some false)
    (s_NoSheet_NoRow : PySem.W.subIn K (.ref c_NoSheet) (.ref c_NoRow) = some false)
    (s_NoSheet_NoSheet : PySem.W.subIn K (.ref c_NoSheet) (.ref c_NoSheet) = some true)
    (s_NoSheet_NoText : PySem.W.subIn K (.ref c_NoSheet) (.ref c_NoText) = some false)
    (s_NoSheet_NoTurn : PySem.W.subIn K (.ref c_NoSheet) (.ref c_NoTurn) = some false)
    (s_NoSheet_TooMany : PySem.W.subIn K (.ref c_NoSheet) (.ref c_TooMany) = some false)
    (g_abs : PySem.W.nsIn K mainGlobals "abs" = some none)
    (g_ValueError : PySem.W.nsIn K mainGlobals "ValueError" = some none)
    (g_MOST_TRIANGLES : PySem.W.nsIn K mainGlobals "MOST_TRIANGLES" = some (some (.int 12 tg_MOST_TRIANGLES)))
    (g_FIGURES : PySem.W.nsIn K mainGlobals "FIGURES" = some (some (.str "0123456789" tg_FIGURES)))
    (g_MOST_FIGURES : PySem.W.nsIn K mainGlobals "MOST_FIGURES" = some (some (.int 60 tg_MOST_FIGURES)))
    (g_BETWEEN_TRIANGLES : PySem.W.nsIn K mainGlobals "BETWEEN_TRIANGLES" = some (some (.str " / " tg_BETWEEN_TRIANGLES)))
    (z_len : PySem.W.nsIn K mainGlobals "len" = some none) (z_range : PySem.W.nsIn K mainGlobals "range" = some none) (z_min : PySem.W.nsIn K mainGlobals "min" = some none) (z_max : PySem.W.nsIn K mainGlobals "max" = some none) (z_isinstance : PySem.W.nsIn K mainGlobals "isinstance" = some none) (z_bool : PySem.W.nsIn K mainGlobals "bool" = some none) (z_int : PySem.W.nsIn K mainGlobals "int" = some none) (z_tuple : PySem.W.nsIn K mainGlobals "tuple" = some none) (z_list : PySem.W.nsIn K mainGlobals "list" = some none) (z_str : PySem.W.nsIn K mainGlobals "str" = some none) (z_all : PySem.W.nsIn K mainGlobals "all" = some none) (z_sum : PySem.W.nsIn K mainGlobals "sum" = some none) (z_sorted : PySem.W.nsIn K mainGlobals "sorted" = some none) :
    ∃ fd : FuncData, (∀ (s : Shared) (v : Value), BindsTo s fd ⟨[v], []⟩ [("_law_script", v)]) ∧ ∀ base : Heap, K.In base → base.Ns mainGlobals mg → FnOk l.prog w K mg base CX0 7 fa fd ["_law_script"] (spLaw K) := by
  have e := hfa.symm.trans (PySem.W.mg_of X G a23)
  cases e
  have M : Txt mg := ⟨PySem.W.mg_none_of X G z_len, PySem.W.mg_none_of X G z_range, PySem.W.mg_none_of X G z_min, PySem.W.mg_none_of X G z_max, PySem.W.mg_none_of X G z_isinstance, PySem.W.mg_none_of X G z_bool, PySem.W.mg_none_of X G z_int, PySem.W.mg_none_of X G z_tuple, PySem.W.mg_none_of X G z_list, PySem.W.mg_none_of X G z_str, PySem.W.mg_none_of X G z_all, PySem.W.mg_none_of X G z_sum, PySem.W.mg_none_of X G z_sorted⟩
  have GB : Gb mg := ⟨PySem.W.mg_none_of X G g_abs, PySem.W.mg_none_of X G g_ValueError, ⟨_, PySem.W.mg_of X G g_MOST_TRIANGLES⟩, ⟨_, PySem.W.mg_of X G g_FIGURES⟩, ⟨_, PySem.W.mg_of X G g_MOST_FIGURES⟩, ⟨_, PySem.W.mg_of X G g_BETWEEN_TRIANGLES⟩⟩
  have Z : Exs K mg c_CordError c_NoCord c_NoDeed c_NoName c_NoRow c_NoSheet c_NoText c_NoTurn c_TooMany := ⟨PySem.W.mg_of X G n_CordError, PySem.W.mg_of X G n_NoCord, PySem.W.mg_of X G n_NoDeed, PySem.W.mg_of X G n_NoName, PySem.W.mg_of X G n_NoRow, PySem.W.mg_of X G n_NoSheet, PySem.W.mg_of X G n_NoText, PySem.W.mg_of X G n_NoTurn, PySem.W.mg_of X G n_TooMany, ⟨xa_CordError, xb_CordError, xc_CordError, xd_CordError, xe_CordError, xf_CordError, xg_CordError, xh_CordError⟩, ⟨xa_NoCord, xb_NoCord, xc_NoCord, xd_NoCord, xe_NoCord, xf_NoCord, xg_NoCord, xh_NoCord⟩, ⟨xa_NoDeed, xb_NoDeed, xc_NoDeed, xd_NoDeed, xe_NoDeed, xf_NoDeed, xg_NoDeed, xh_NoDeed⟩, ⟨xa_NoName, xb_NoName, xc_NoName, xd_NoName, xe_NoName, xf_NoName, xg_NoName, xh_NoName⟩, ⟨xa_NoRow, xb_NoRow, xc_NoRow, xd_NoRow, xe_NoRow, xf_NoRow, xg_NoRow, xh_NoRow⟩, ⟨xa_NoSheet, xb_NoSheet, xc_NoSheet, xd_NoSheet, xe_NoSheet, xf_NoSheet, xg_NoSheet, xh_NoSheet⟩, ⟨xa_NoText, xb_NoText, xc_NoText, xd_NoText, xe_NoText, xf_NoText, xg_NoText, xh_NoText⟩, ⟨xa_NoTurn, xb_NoTurn, xc_NoTurn, xd_NoTurn, xe_NoTurn, xf_NoTurn, xg_NoTurn, xh_NoTurn⟩, ⟨xa_TooMany, xb_TooMany, xc_TooMany, xd_TooMany, xe_TooMany, xf_TooMany, xg_TooMany, xh_TooMany⟩, e_NoText, e_NoSheet, v_NoText, v_NoSheet, s_NoText_CordError, s_NoText_NoCord, s_NoText_NoDeed, s_NoText_NoName, s_NoText_NoRow, s_NoText_NoSheet, s_NoText_NoText, s_NoText_NoTurn, s_NoText_TooMany, s_NoSheet_CordError, s_NoSheet_NoCord, s_NoSheet_NoDeed, s_NoSheet_NoName, s_NoSheet_NoRow, s_NoSheet_NoSheet, s_NoSheet_NoText, s_NoSheet_NoTurn, s_NoSheet_TooMany⟩
  have F0 := fun_mk (st := s_is_whole) l0 c0 k0
  have b0 := F0.binds (ps := ["thing"]) fun _ _ _ _ _ _ us hl => match us, hl with | [_], _ => rfl
  have F1 := fun_mk (st := s_is_triangle) l1 c1 k1
  have b1 := F1.binds (ps := ["thing"]) fun _ _ _ _ _ _ us hl => match us, hl with | [_], _ => rfl
  have F2 := fun_mk (st := s_many_ties) l2 c2 k2
  have b2 := F2.binds (ps := ["sheet"]) fun _ _ _ _ _ _ us hl => match us, hl with | [_], _ => rfl
  have F3 := fun_mk (st := s_is_sheet) l3 c3 k3
  have b3 := F3.binds (ps := ["thing"]) fun _ _ _ _ _ _ us hl => match us, hl with | [_], _ => rfl
  have F4 := fun_mk (st := s_is_number) l4 c4 k4
  have b4 := F4.binds (ps := ["text"]) fun _ _ _ _ _ _ us hl => match us, hl with | [_], _ => rfl
  have F5 := fun_mk (st := s_parts_of) l5 c5 k5
  have b5 := F5.binds (ps := ["text", "between"]) fun _ _ _ _ _ _ us hl => match us, hl with | [_, _], _ => rfl
  have F6 := fun_mk (st := s_numbers_of) l6 c6 k6
  have b6 := F6.binds (ps := ["text"]) fun _ _ _ _ _ _ us hl => match us, hl with | [_], _ => rfl
  have F7 := fun_mk (st := s_triangles_of) l7 c7 k7
  have b7 := F7.binds (ps := ["text"]) fun _ _ _ _ _ _ us hl => match us, hl with | [_], _ => rfl
  have F8 := fun_mk (st := s_sheet_of) l8 c8 k8
  have b8 := F8.binds (ps := ["triangles"]) fun _ _ _ _ _ _ us hl => match us, hl with | [_], _ => rfl
  have F9 := fun_mk (st := s_read_sheet) l9 c9 k9
  have b9 := F9.binds (ps := ["text"]) fun _ _ _ _ _ _ us hl => match us, hl with | [_], _ => rfl
  have F10 := fun_mk (st := s__law_cell_at) l10 c10 k10
  have b10 := F10.binds (ps := ["_law_script", "_law_k"]) fun _ _ _ _ _ _ us hl => match us, hl with | [_, _], _ => rfl
  have F11 := fun_mk (st := s__law_purse) l11 c11 k11
  have b11 := F11.binds (ps := ["_law_script", "_law_at"]) fun _ _ _ _ _ _ us hl => match us, hl with | [_, _], _ => rfl
  have F12 := fun_mk (st := s__law_take) l12 c12 k12
  have b12 := F12.binds (ps := ["_law_draw", "_law_many"]) fun _ _ _ _ _ _ us hl => match us, hl with | [_, _], _ => rfl
  have F13 := fun_mk (st := s__law_sheet) l13 c13 k13
  have b13 := F13.binds (ps := ["_law_draw"]) fun _ _ _ _ _ _ us hl => match us, hl with | [_], _ => rfl
  have F14 := fun_mk (st := s__law_written) l14 c14 k14
  have b14 := F14.binds (ps := ["_law_figures_here"]) fun _ _ _ _ _ _ us hl => match us, hl with | [_], _ => rfl
  have F15 := fun_mk (st := s__law_sheet_written) l15 c15 k15
  have b15 := F15.binds (ps := ["_law_sheet_here"]) fun _ _ _ _ _ _ us hl => match us, hl with | [_], _ => rfl
  have F16 := fun_mk (st := s__law_is_sheet) l16 c16 k16
  have b16 := F16.binds (ps := ["_law_thing"]) fun _ _ _ _ _ _ us hl => match us, hl with | [_], _ => rfl
  have F17 := fun_mk (st := s__law_figure) l17 c17 k17
  have b17 := F17.binds (ps := ["_law_word"]) fun _ _ _ _ _ _ us hl => match us, hl with | [_], _ => rfl
  have F18 := fun_mk (st := s__law_figures) l18 c18 k18
  have b18 := F18.binds (ps := ["_law_text"]) fun _ _ _ _ _ _ us hl => match us, hl with | [_], _ => rfl
  have F19 := fun_mk (st := s__law_signs) l19 c19 k19
  have b19 := F19.binds (ps := []) fun _ _ _ _ _ _ us hl => match us, hl with | [], _ => rfl
  have F20 := fun_mk (st := s__law_spoilt) l20 c20 k20
  have b20 := F20.binds (ps := ["_law_draw", "_law_text"]) fun _ _ _ _ _ _ us hl => match us, hl with | [_, _], _ => rfl
  have F21 := fun_mk (st := s__law_due) l21 c21 k21
  have b21 := F21.binds (ps := ["_law_text"]) fun _ _ _ _ _ _ us hl => match us, hl with | [_], _ => rfl
  have F22 := fun_mk (st := s__law_read) l22 c22 k22
  have b22 := F22.binds (ps := ["_law_text"]) fun _ _ _ _ _ _ us hl => match us, hl with | [_], _ => rfl
  have F23 := fun_mk (st := s_law) l23 c23 k23
  refine ⟨PySem.W.fnOf "law" "law" (defArgs s_law) (defBody s_law) (defScope s_law) .none kV23 dc23 pm23 an23 cd23 ct23, fun s v => .of_eq rfl, fun base _ _ => ?_⟩
  have G_law_cell_at : Kn l.prog w K mg base "_law_cell_at" _ ["_law_script", "_law_k"] _ := ⟨⟨f10, _, ok_cell F10 M , PySem.W.mg_of X G a10, k10, b10⟩⟩
  have G_law_purse : Kn l.prog w K mg base "_law_purse" _ ["_law_script", "_law_at"] _ := ⟨⟨f11, _, ok_purse F11 M G_law_cell_at, PySem.W.mg_of X G a11, k11, b11⟩⟩
  have G_law_take : Kn l.prog w K mg base "_law_take" _ ["_law_draw", "_law_many"] _ := ⟨⟨f12, _, ok_take F12 M , PySem.W.mg_of X G a12, k12, b12⟩⟩
  have Gis_whole : Kn l.prog w K mg base "is_whole" _ ["thing"] _ := ⟨⟨f0, _, ok_whole F0 M , PySem.W.mg_of X G a0, k0, b0⟩⟩
  have Gis_triangle : Kn l.prog w K mg base "is_triangle" _ ["thing"] _ := ⟨⟨f1, _, ok_tri F1 M Gis_whole, PySem.W.mg_of X G a1, k1, b1⟩⟩
  have Gmany_ties : Kn l.prog w K mg base "many_ties" _ ["sheet"] _ := ⟨⟨f2, _, ok_ties F2 M , PySem.W.mg_of X G a2, k2, b2⟩⟩
  have Gis_sheet : Kn l.prog w K mg base "is_sheet" _ ["thing"] _ := ⟨⟨f3, _, ok_issheet F3 M Gis_triangle Gmany_ties GB, PySem.W.mg_of X G a3, k3, b3⟩⟩
  have Gis_number : Kn l.prog w K mg base "is_number" _ ["text"] _ := ⟨⟨f4, _, ok_isnum F4 M GB, PySem.W.mg_of X G a4, k4, b4⟩⟩
  have Gparts_of : KnX l.prog w K mg base "parts_of" _ ["text", "between"] _ := ⟨⟨f5, _, ok_parts F5 M Z, PySem.W.mg_of X G a5, k5, b5⟩⟩
  have Gnumbers_of : KnX l.prog w K mg base "numbers_of" _ ["text"] _ := ⟨⟨f6, _, ok_numbers F6 M Gparts_of Gis_number Z, PySem.W.mg_of X G a6, k6, b6⟩⟩
  have Gtriangles_of : KnX l.prog w K mg base "triangles_of" _ ["text"] _ := ⟨⟨f7, _, ok_triangles F7 M Gparts_of Gnumbers_of GB, PySem.W.mg_of X G a7, k7, b7⟩⟩
  have Gsheet_of : KnX l.prog w K mg base "sheet_of" _ ["triangles"] _ := ⟨⟨f8, _, ok_sheetof F8 M Gis_sheet Z, PySem.W.mg_of X G a8, k8, b8⟩⟩
  have Gread_sheet : KnX l.prog w K mg base "read_sheet" _ ["text"] _ := ⟨⟨f9, _, ok_readsheet F9 M Gsheet_of Gtriangles_of, PySem.W.mg_of X G a9, k9, b9⟩⟩
  have G_law_sheet : Kn l.prog w K mg base "_law_sheet" _ ["_law_draw"] _ := ⟨⟨f13, _, ok_lsheet F13 M G_law_take, PySem.W.mg_of X G a13, k13, b13⟩⟩
  have G_law_written : Kn l.prog w K mg base "_law_written" _ ["_law_figures_here"] _ := ⟨⟨f14, _, ok_written F14 M , PySem.W.mg_of X G a14, k14, b14⟩⟩
  have G_law_sheet_written : Kn l.prog w K mg base "_law_sheet_written" _ ["_law_sheet_here"] _ := ⟨⟨f15, _, ok_swritten F15 M G_law_written, PySem.W.mg_of X G a15, k15, b15⟩⟩
  have G_law_is_sheet : Kn l.prog w K mg base "_law_is_sheet" _ ["_law_thing"] _ := ⟨⟨f16, _, ok_lissheet F16 M GB, PySem.W.mg_of X G a16, k16, b16⟩⟩
  have G_law_figure : Kn l.prog w K mg base "_law_figure" _ ["_law_word"] _ := ⟨⟨f17, _, ok_figure F17 M , PySem.W.mg_of X G a17, k17, b17⟩⟩
  have G_law_figures : Kn l.prog w K mg base "_law_figures" _ ["_law_text"] _ := ⟨⟨f18, _, ok_figures F18 M G_law_figure, PySem.W.mg_of X G a18, k18, b18⟩⟩
  have G_law_signs : Kn l.prog w K mg base "_law_signs" _ [] _ := ⟨⟨f19, _, ok_signs F19 M , PySem.W.mg_of X G a19, k19, b19⟩⟩
  have G_law_spoilt : Kn l.prog w K mg base "_law_spoilt" _ ["_law_draw", "_law_text"] _ := ⟨⟨f20, _, ok_spoilt F20 M G_law_take G_law_signs, PySem.W.mg_of X G a20, k20, b20⟩⟩
  have G_law_due : Kn l.prog w K mg base "_law_due" _ ["_law_text"] _ := ⟨⟨f21, _, ok_due F21 M G_law_figures G_law_is_sheet, PySem.W.mg_of X G a21, k21, b21⟩⟩
  have G_law_read : Kn l.prog w K mg base "_law_read" _ ["_law_text"] _ := ⟨⟨f22, _, ok_read F22 M Gread_sheet Z GB, PySem.W.mg_of X G a22, k22, b22⟩⟩
  exact ok_law F23 M G_law_purse G_law_sheet G_law_sheet_written G_law_read G_law_due G_law_spoilt
theorem walk {l : PySem.W.OpenLaw} {q : Program} {loose : List Str} {XP : (Str → Option Value) → Heap → Prop} {YP : World → Heap → Prop} {d : DefRec} {K : Params → PySem.W.Frag} (hn : l.most = some 63) (hdf : d.params.defaults = [])
    (hY : ∀ (w : World) (h : Heap), YP w h → (K w.params).In h)
    (F : ∀ (w : World) (mg : Str → Option Value) (fa : Addr) (h : Heap), (K w.params).In h → h.Ns mainGlobals mg → mg d.name = some (.ref fa) →
      ∃ fd : FuncData, (∀ (s : Shared) (u : Value), BindsTo s fd ⟨[u], []⟩ [("_law_script", u)]) ∧ ∀ base : Heap, (K w.params).In base → base.Ns mainGlobals mg → FnOk l.prog w (K w.params) mg base CX0 7 fa fd ["_law_script"] (spLaw (K w.params))) :
    PySem.W.WalkO q loose XP YP l.row.toRowW d [] (fun f vs => PySem.call f vs) :=
  L2.walk_of (n := 63) (k := 7) (x := "_law_script") (CX := fun _ => CX0) (sp := fun w => spLaw (K w.params)) hn (by decide) hdf ⟨rfl, by decide, by decide, rfl⟩ hY F (fun _ _ a ns hl _ hS => ⟨a, ns, rfl, hS, hl, fun _ => rfl⟩) fun _ _ _ _ _ z => z
end Toy
open PySem PySem.W PyProof.Rows
set_option maxRecDepth 100000 in
set_option maxHeartbeats 0 in
theorem PySem.Challenge.cw_farcords_k82_sheets_read_holds : PySem.Challenge.rw_farcords_k82_sheets_read.Holds := by
  w_on; o_law; k_head; (case hw => w_witness2)
  k_fill
  refine Toy.walk (l := PySem.Challenge.rw_farcords_k82_sheets_read) rfl rfl (fun w h Y => PySem.W.kIn_of Y) ?F
  case F =>
    intro w mg fa h KX G hmg
    refine' Toy.all_mk KX G hmg ?a0 ?l0 ?c0 ?k0 ?a1 ?l1 ?c1 ?k1 ?a2 ?l2 ?c2 ?k2 ?a3 ?l3 ?c3 ?k3 ?a4 ?l4 ?c4 ?k4 ?a5 ?l5 ?c5 ?k5 ?a6 ?l6 ?c6 ?k6 ?a7 ?l7 ?c7 ?k7 ?a8 ?l8 ?c8 ?k8 ?a9 ?l9 ?c9 ?k9 ?a10 ?l10 ?c10 ?k10 ?a11 ?l11 ?c11 ?k11 ?a12 ?l12 ?c12 ?k12 ?a13 ?l13 ?c13 ?k13 ?a14 ?l14 ?c14 ?k14 ?a15 ?l15 ?c15 ?k15 ?a16 ?l16 ?c16 ?k16 ?a17 ?l17 ?c17 ?k17 ?a18 ?l18 ?c18 ?k18 ?a19 ?l19 ?c19 ?k19 ?a20 ?l20 ?c20 ?k20 ?a21 ?l21 ?c21 ?k21 ?a22 ?l22 ?c22 ?k22 ?a23 ?l23 ?c23 ?k23 ?n_CordError ?xa_CordError ?xb_CordError ?xc_CordError ?xd_CordError ?xe_CordError ?xf_CordError ?xg_CordError ?xh_CordError ?n_NoCord ?xa_NoCord ?xb_NoCord ?xc_NoCord ?xd_NoCord ?xe_NoCord ?xf_NoCord ?xg_NoCord ?xh_NoCord ?n_NoDeed ?xa_NoDeed ?xb_NoDeed ?xc_NoDeed ?xd_NoDeed ?xe_NoDeed ?xf_NoDeed ?xg_NoDeed ?xh_NoDeed ?n_NoName ?xa_NoName ?xb_NoName ?xc_NoName ?xd_NoName ?xe_NoName ?xf_NoName ?xg_NoName ?xh_NoName ?n_NoRow ?xa_NoRow ?xb_NoRow ?xc_NoRow ?xd_NoRow ?xe_NoRow ?xf_NoRow ?xg_NoRow ?xh_NoRow ?n_NoSheet ?xa_NoSheet ?xb_NoSheet ?xc_NoSheet ?xd_NoSheet ?xe_NoSheet ?xf_NoSheet ?xg_NoSheet ?xh_NoSheet ?n_NoText ?xa_NoText ?xb_NoText ?xc_NoText ?xd_NoText ?xe_NoText ?xf_NoText ?xg_NoText ?xh_NoText ?n_NoTurn ?xa_NoTurn ?xb_NoTurn ?xc_NoTurn ?xd_NoTurn ?xe_NoTurn ?xf_NoTurn ?xg_NoTurn ?xh_NoTurn ?n_TooMany ?xa_TooMany ?xb_TooMany ?xc_TooMany ?xd_TooMany ?xe_TooMany ?xf_TooMany ?xg_TooMany ?xh_TooMany ?e_NoText ?v_NoText ?s_NoText_CordError ?s_NoText_NoCord ?s_NoText_NoDeed ?s_NoText_NoName ?s_NoText_NoRow ?s_NoText_NoSheet ?s_NoText_NoText ?s_NoText_NoTurn ?s_NoText_TooMany ?e_NoSheet ?v_NoSheet ?s_NoSheet_CordError ?s_NoSheet_NoCord ?s_NoSheet_NoDeed ?s_NoSheet_NoName ?s_NoSheet_NoRow ?s_NoSheet_NoSheet ?s_NoSheet_NoText ?s_NoSheet_NoTurn ?s_NoSheet_TooMany ?g_abs ?g_ValueError ?g_MOST_TRIANGLES ?g_FIGURES ?g_MOST_FIGURES ?g_BETWEEN_TRIANGLES ?z_len ?z_range ?z_min ?z_max ?z_isinstance ?z_bool ?z_int ?z_tuple ?z_list ?z_str ?z_all ?z_sum ?z_sorted
    (case a0 => k_is)
    (case l0 => k_is)
    (case c0 => k_is)
    (case k0 => k_is)
    (case a1 => k_is)
    (case l1 => k_is)
    (case c1 => k_is)
    (case k1 => k_is)
    (case a2 => k_is)
    (case l2 => k_is)
    (case c2 => k_is)
    (case k2 => k_is)
    (case a3 => k_is)
    (case l3 => k_is)
    (case c3 => k_is)
    (case k3 => k_is)
    (case a4 => k_is)
    (case l4 => k_is)
    (case c4 => k_is)
    (case k4 => k_is)
    (case a5 => k_is)
    (case l5 => k_is)
    (case c5 => k_is)
    (case k5 => k_is)
    (case a6 => k_is)
    (case l6 => k_is)
    (case c6 => k_is)
    (case k6 => k_is)
    (case a7 => k_is)
    (case l7 => k_is)
    (case c7 => k_is)
    (case k7 => k_is)
    (case a8 => k_is)
    (case l8 => k_is)
    (case c8 => k_is)
    (case k8 => k_is)
    (case a9 => k_is)
    (case l9 => k_is)
    (case c9 => k_is)
    (case k9 => k_is)
    (case a10 => k_is)
    (case l10 => k_is)
    (case c10 => k_is)
    (case k10 => k_is)
    (case a11 => k_is)
    (case l11 => k_is)
    (case c11 => k_is)
    (case k11 => k_is)
    (case a12 => k_is)
    (case l12 => k_is)
    (case c12 => k_is)
    (case k12 => k_is)
    (case a13 => k_is)
    (case l13 => k_is)
    (case c13 => k_is)
    (case k13 => k_is)
    (case a14 => k_is)
    (case l14 => k_is)
    (case c14 => k_is)
    (case k14 => k_is)
    (case a15 => k_is)
    (case l15 => k_is)
    (case c15 => k_is)
    (case k15 => k_is)
    (case a16 => k_is)
    (case l16 => k_is)
    (case c16 => k_is)
    (case k16 => k_is)
    (case a17 => k_is)
    (case l17 => k_is)
    (case c17 => k_is)
    (case k17 => k_is)
    (case a18 => k_is)
    (case l18 => k_is)
    (case c18 => k_is)
    (case k18 => k_is)
    (case a19 => k_is)
    (case l19 => k_is)
    (case c19 => k_is)
    (case k19 => k_is)
    (case a20 => k_is)
    (case l20 => k_is)
    (case c20 => k_is)
    (case k20 => k_is)
    (case a21 => k_is)
    (case l21 => k_is)
    (case c21 => k_is)
    (case k21 => k_is)
    (case a22 => k_is)
    (case l22 => k_is)
    (case c22 => k_is)
    (case k22 => k_is)
    (case a23 => k_is)
    (case l23 => k_is)
    (case c23 => k_is)
    (case k23 => k_is)
    (case n_CordError => k_is)
    (case xa_CordError => k_is)
    (case xb_CordError => k_is)
    (case xc_CordError => k_is)
    (case xd_CordError => k_is)
    (case xe_CordError => k_is)
    (case xf_CordError => k_is)
    (case xg_CordError => k_is)
    (case xh_CordError => k_is)
    (case n_NoCord => k_is)
    (case xa_NoCord => k_is)
    (case xb_NoCord => k_is)
    (case xc_NoCord => k_is)
    (case xd_NoCord => k_is)
    (case xe_NoCord => k_is)
    (case xf_NoCord => k_is)
    (case xg_NoCord => k_is)
    (case xh_NoCord => k_is)
    (case n_NoDeed => k_is)
    (case xa_NoDeed => k_is)
    (case xb_NoDeed => k_is)
    (case xc_NoDeed => k_is)
    (case xd_NoDeed => k_is)
    (case xe_NoDeed => k_is)
    (case xf_NoDeed => k_is)
    (case xg_NoDeed => k_is)
    (case xh_NoDeed => k_is)
    (case n_NoName => k_is)
    (case xa_NoName => k_is)
    (case xb_NoName => k_is)
    (case xc_NoName => k_is)
    (case xd_NoName => k_is)
    (case xe_NoName => k_is)
    (case xf_NoName => k_is)
    (case xg_NoName => k_is)
    (case xh_NoName => k_is)
    (case n_NoRow => k_is)
    (case xa_NoRow => k_is)
    (case xb_NoRow => k_is)
    (case xc_NoRow => k_is)
    (case xd_NoRow => k_is)
    (case xe_NoRow => k_is)
    (case xf_NoRow => k_is)
    (case xg_NoRow => k_is)
    (case xh_NoRow => k_is)
    (case n_NoSheet => k_is)
    (case xa_NoSheet => k_is)
    (case xb_NoSheet => k_is)
    (case xc_NoSheet => k_is)
    (case xd_NoSheet => k_is)
    (case xe_NoSheet => k_is)
    (case xf_NoSheet => k_is)
    (case xg_NoSheet => k_is)
    (case xh_NoSheet => k_is)
    (case n_NoText => k_is)
    (case xa_NoText => k_is)
    (case xb_NoText => k_is)
    (case xc_NoText => k_is)
    (case xd_NoText => k_is)
    (case xe_NoText => k_is)
    (case xf_NoText => k_is)
    (case xg_NoText => k_is)
    (case xh_NoText => k_is)
    (case n_NoTurn => k_is)
    (case xa_NoTurn => k_is)
    (case xb_NoTurn => k_is)
    (case xc_NoTurn => k_is)
    (case xd_NoTurn => k_is)
    (case xe_NoTurn => k_is)
    (case xf_NoTurn => k_is)
    (case xg_NoTurn => k_is)
    (case xh_NoTurn => k_is)
    (case n_TooMany => k_is)
    (case xa_TooMany => k_is)
    (case xb_TooMany => k_is)
    (case xc_TooMany => k_is)
    (case xd_TooMany => k_is)
    (case xe_TooMany => k_is)
    (case xf_TooMany => k_is)
    (case xg_TooMany => k_is)
    (case xh_TooMany => k_is)
    (case e_NoText => k_exc)
    (case v_NoText => k_is)
    (case s_NoText_CordError => k_is)
    (case s_NoText_NoCord => k_is)
    (case s_NoText_NoDeed => k_is)
    (case s_NoText_NoName => k_is)
    (case s_NoText_NoRow => k_is)
    (case s_NoText_NoSheet => k_is)
    (case s_NoText_NoText => k_is)
    (case s_NoText_NoTurn => k_is)
    (case s_NoText_TooMany => k_is)
    (case e_NoSheet => k_exc)
    (case v_NoSheet => k_is)
    (case s_NoSheet_CordError => k_is)
    (case s_NoSheet_NoCord => k_is)
    (case s_NoSheet_NoDeed => k_is)
    (case s_NoSheet_NoName => k_is)
    (case s_NoSheet_NoRow => k_is)
    (case s_NoSheet_NoSheet => k_is)
    (case s_NoSheet_NoText => k_is)
    (case s_NoSheet_NoTurn => k_is)
    (case s_NoSheet_TooMany => k_is)
    (case g_abs => k_is)
    (case g_ValueError => k_is)
    (case g_MOST_TRIANGLES => k_is)
    (case g_FIGURES => k_is)
    (case g_MOST_FIGURES => k_is)
    (case g_BETWEEN_TRIANGLES => k_is)
    (case z_len => k_is)
    (case z_range => k_is)
    (case z_min => k_is)
    (case z_max => k_is)
    (case z_isinstance => k_is)
    (case z_bool => k_is)
    (case z_int => k_is)
    (case z_tuple => k_is)
    (case z_list => k_is)
    (case z_str => k_is)
    (case z_all => k_is)
    (case z_sum => k_is)
    (case z_sorted => k_is)
#print axioms PySem.Challenge.cw_farcords_k82_sheets_read_holds
